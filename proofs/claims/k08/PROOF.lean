import PyProof.Rows.All
import Wide.All
import OpenK.AllK
import Wide.FinOn
import Lean
import PyProof.EqAt
import PyProof.EqKinds
import PyProof.TupleCall
import PyProof.NeKinds
import KE.KSortTup
import PySem.Challenge.RW_surecall_k08_calls_done
set_option genSizeOf false
set_option bootstrap.genMatcherCode false
set_option compiler.extract_closed false
set_option compiler.reuse false
theorem U{b:Sort _}{a:b}:a=a:=rfl
local macro_rules(kind:=«term{_}»)|`({$xs,*})=>`(⟨$xs,*⟩)
local macro_rules|`($a\$b)=>`($a=some $b)
local macro_rules|`(∅)=>`(by lia)
local macro_rules|`($x⁻¹)=>`(($x).heap.objs.size)
local macro_rules|`(↑$x)=>`(($x).length)
local macro_rules|`(tactic|exists $es,*)=>`(tactic|refine{$es,*, ?_})
set_option maxHeartbeats 8000000
local macro_rules|`(tactic|rfl')=>`(tactic|decide +kernel)
abbrev Fq:=PySem.W.Frag
abbrev Vp:=PySem.Value->PySem.Shared->Prop
set_option Elab.async false
set_option linter.all false
set_option cleanup.letToHave false
set_option hygiene false in
local macro_rules(kind:=Lean.Parser.Tactic.obtain)|s=>if s[1][0][0][0][1].getNumArgs>1&&s[2].getNumArgs==0 then`(tactic|(refine no_implicit_lambda%(let Γ:Prop:=_;(?_:Γ));rcases $(⟨s[3][1][0]⟩):term with $(⟨.node .none `Lean.Parser.Tactic.rcasesPatLo #[s[1][0],.node .none `null #[]]⟩);all_goals unfold Γ;clear Γ))else Lean.Macro.throwUnsupported
set_option hygiene false in
local macro_rules(kind:=Lean.Parser.Tactic.rintro)|s=>do
 let a:=s[1].getArgs
 let p:=a.back![0]
 if p[1].getNumArgs>1 then
  let r<-`(tactic|(intro h;refine no_implicit_lambda%(let Γ:Prop:=_;(?_:Γ));rcases h with $(⟨.node .none `Lean.Parser.Tactic.rcasesPatLo #[.node .none `Lean.Parser.Tactic.rcasesPatMed #[.node .none `null #[p]],.node .none `null #[]]⟩);all_goals unfold Γ;clear Γ))
  if a.size<2 then pure r else`(tactic|($(⟨s.setArg 1 (.node .none `null a.pop)⟩);$r))
 else Lean.Macro.throwUnsupported
set_option maxRecDepth 100000
open List renaming getElem?_eq_getElem->bJ,not_mem_nil->bB,getElem?_eq_some_iff->ww4,length_append->bN,getElem?_map->bR,mem_cons->wx0,mem_singleton->wx1,map_append->bT,mem_of_getElem?->dC,mem_map->wx6,getD_eq_getElem?_getD->fG,length_cons->cN,size_toArray->cW,mem_append->wz2,length_singleton->eJ,take_of_length_le->fI,take_add_one->eY,map_cons->dD,length_take->eS,mem_append_right->gS,nodup_cons->vc1,append_nil->fP,getElem?_append_right->jU,append_assoc->gF,mem_iff_getElem?->vc7,all_eq_true->vc8,mem_cons_of_mem->iO,length_reverse->iR,getElem?_append_left->lI,getElem_mem->iG,length_nil->iY,mem_of_find?_eq_some->pJ,drop_eq_getElem_cons->rL,getElem_of_mem->oE,mem_append_left->qQ,getElem?_zip_eq_some->xW,mem_or_eq_of_mem_set->xY,sum_cons->kC,length_filter_le->tZ,nodup_nil->lC,find?_cons->mL,forall_mem_cons->rZ,length_drop->nZ,map_map->jW,mem_cons_self->sS,any_eq_true->vk5,foldl_cons->pO,length_zip->rB,mem_reverse->vm6,find?_eq_none->vn1,take_succ_eq_append_getElem->JQ,mem_of_mem_take->EM,reverse_cons->yM,find?_some->rT,nodup_append->vp1,replicate_succ->zO,map_congr_left->ER,getElem_inj->yY,map_reverse->zI,drop_length->yX,drop_zero->wY,of_mem_zip->yE,nil_append->zJ,forIn_cons->yQ,foldl_append->AC,getLast?_eq_getElem?->JZ,lookup_cons->EB,take_length->AH,filterMap_cons->GU,findSome?_cons->HV,mem_filter->vs7,any_cons->zK,map_take->yG,getElem?_cons_zero->JI,length_eq_zero_iff->vt5,pairwise_singleton->NX,flatten_cons->HX,flatMap_cons->GT,map_drop->AU,replicate->Lf,length->Lj,lookup->Mn,range->Mx,getElem_map->Nj,cons_append->Nk,getElem?_set_self->No,length_map->Nu,filter_nil->Nv,getElem?_reverse->Oc,getElem?_eq_none->Od,mem_range->Oj,mem_of_mem_drop->Ol,forIn_nil->Om,flatMap_append->Ov,filter_append->Oy,take_sublist->Pj,map_nil->Pk,getElem_take->Pl,eraseIdx_eq_take_drop_succ->Pq,eraseIdxIfInBounds_toArray->Ps,take_zero->Qo,drop_drop->Qp,getElem?_take_of_lt->Rb,all_cons->Rc,filter_cons_of_pos->Rj,filter_cons_of_neg->Rk,not_of_lt_findIdx->Rm,find?_cons_of_neg->Ro,take_append_drop->Ru,length_replicate->Rv,findSome?_append->Sj,getElem_reverse->Sr,getElem?_set_ne->Ss,findIdx_getElem->Su,map_inj_right->Tt,forIn_toArray->Tu,foldl->Tv,filterMap_map->Tw,length_range->Ue,getElem?_inj->Uf,find?_append->Ug,zipIdx_cons->Um,suffix_refl->Uo,range'_succ->Uq,zipIdx_nil->Va,range_succ->Vb,length_set->Vc,findIdx_eq->Vd,range'->Wm,set->Xs,map->Xt
open PySem renaming wpAny_bind->aN,wpAny_pure->bL,wpAny_field->fO,wpAny_callSpecial?_slot->nR,boot_len->iW,wpAny_mono->gC,wpAny_newObj_type->lX,wpAny_setField_rec->mS,builtinLookup_eq_fast->rK,wpAny_call_entry->lB,wpAny_holding->jM,wpAny_seqItems->kK,mem_of_lookup->vR,tupleKind_room_in1->rP,wpAny_truthy_bool->sD,wpAny_Call_method->wN,wpAny_specialOf->oS,typeLookup_type->pY,wpAny_Call_Name_kw->yA,call_meetsIn->mQ,wpAny_passesOwn->uP,wpAny_comprehension_free->HU,wpAny_standAt->pC,wpAny_attempt->vM,isSubtype_type->xX,wpAny_pyIter_list->HW,wpAny_rule->sN,call_meets->vC,Addr->eH,Value->iH,Str->zZ,Shared->Jx,Builtin->Jy,Program->Jz,Heap->Ka,World->Kb,Expr->Kc,Stmt->Kd,FuncData->Ke,NameKind->Kf,Around->Kg,Obj->Kh,wpAny->Kx,model->Ky,mainGlobals->Le,sysModules->Lm,IsPair->Lz,compareOp->Me,bootBuiltins->Mi,pyNext->Ml,behindInMarks->Mm,sliceBounds->Mo,binaryOp->Mp,attributeBase->Mq,codeAny->Mv,foldedSetIterable->My,swapsWith->Nb,Pos->Nc,letOwnedTupleGo->Nd,field->Nf,typeLookup->Nh,seqIndex?->Oe,ZipApart->Of,IsZip->Oh,DictEntry->Oi,getItem->On,closureFor->Oo,assignEach->Op,Keyword->Os,wpAny_execs_nil->Ot,codeAny_builtin->Ou,sizeLine_eq->Oz,firstArgMember->Pa,Within->Pd,plainId_quiet->Pv,wpAny_pyIter_tuple->Px,rawInt->Py,wpAny_assign_Name->Qd,callerA->Qe,atKey->Qf,Spec->Qg,IsPart->Qu,typeIs_none->Qw,subscripted->Qx,IsRangeIter->Re,Env->Rg,wpAny_ite_split->Ri,BindsTo->Rq,isSubtype_stop->Rr,evalArgs_none->Sk,wpAny_getItem_list_slice->Ta,evalPart_none->Tc,assignInOrder->Td,call->Te,updateSeq->Tj,slicePick->Tk,bindL->Tl,bindC->Tn,wpAny_pyNext_range_end->Tx,wpAny_pyIter_rangeiter->Tz,relabel->Ub,meets_dict_get_default->Uc,wpAny_isTrue_Compare1->Ui,exec_Assign_Name_used->Uj,seqIndex_of->Ut,entryFor->Uu,compPost->Uv,bindName->Uw,bindArgs->Ux,backToKw->Uy,KeyKind->Ve,wpAny_pyIter_range->Vh,wpAny_getItem_heap->Vi,wpAny_Name->Vj,typeIs_str->Vk,typeIs_int->Vl,pyIter->Vm,getattributeRaised->Vn,builtinsNs->Vo,Result->Vq,wpAny_pyIter_enum->Vt,storedH->Vu,wpAny_getItem_of->Wb,wpAny_execs_cons->Wc,wpAny_Dict_empty->We,noFill_tuple_add->Wg,entryFor_of_tree->Wh,cellsFrom->Wj,theTreesLotGoes->Wv,Sem->Ww,wpAny_Compare1->Wy,table->Xa,newTuple->Xb,newFunctionEnv->Xc,newExc->Xd,meets_dict_get->Xe,fitsIndex_both->Xf,callType_codes->Xh,argsOk->Xi,Params->Xk,Operator->Xl,swapsWithSole->Xm,swappedStores->Xn,signature?_of->Xo,seq_tuple_add->Xp,call_list_seq->Xq,standAt->Xv,spliced->Xw,setItem->Xx,operate->Xy,getAttr->Ya,concat_meets->Yb,codeAny_loop->Yc,callType_new->Yd,Tok->Ye
open PySem.Heap renaming get?_push_of_some->bY,lt_size->cB,get?_push_size->dQ,get?_update_self->CG,size_push->qN,get?_update_other->HP,SameBut->Lq,IsListIter->Qc,IsTuple->Vx,update->Wr,ExtBut->Wt
open Nat renaming le_refl->aZ,le_of_lt->cX,zero_le->bW,ne_of_lt->cP,lt_of_lt_of_le->iA,le_trans->hX,lt_irrefl->jQ,ne_of_gt->jP,lt_of_succ_lt->oT,lt_succ_self->qX,le_succ->kI,sub_self->qV,le_add_right->DM,zero_add->sX,add_sub_cancel->IH,lt_trans->yL,not_le->vv8,recAux->Ln,lt_or_ge->Nt,min_eq_left->Ob,lt_of_le_of_lt->Pf,lt_succ_of_le->Ul,le_of_not_lt->Uz,strongRecOn->Vf,not_lt_zero->Vg,succ_mul->Wk,le_of_eq->Wl
open Option renaming map_eq_some_iff->wx3,isSome_map->CO,isSome_iff_exists->vs4,some->Kp,none->Kr,getD_none->Ng,map_some->Nn,getD_some->Tq
open PySem.F renaming plainAttrs_list->eQ,slot_list_append->fU,type_list_append->fS,slot_dict_get->mG,plainAttrs_dict->yS,entry_dict_get->yH,slot_zip_next->oX,slot_NoneType_hash->vm4,slot_tuple_iterator_next->IQ,type_dict_get->GB,slot_tuple_getitem->vr0,slot_dict_getitem->vr3,plain_extend_loop->GK,slot_list_getattribute->vs5,args_dict_get_2->LC,args_dict_get_3->QB,args_zip_next_1->HC,type_list_pop->Nl,slot_list_pop->Nm,entry_zip_next->Ny,slot_dict_setdefault->Pp,slot_tuple_index->Qh,slot_dict_values->Qi,args_tuple_add_2->Qj,slot_list_index->Qm,entry_tuple_add->Qn,slot_tuple_add->Qt,args_tuple_iterator_next_1->Qv,entry_tuple_iterator_next->Rf,entry_extend_loop->Ur,entry_list_pop->Vr,slot_list_pop->Vy,slot_int_rmul->Vz
open Bool renaming false_ne_true->fE,and_eq_true->pX,eq_iff_iff->tR,false_eq_true->GH,true->Ks,false->Kt,or_false->Vs
open PySem.PassesOwn renaming never->dU
open Ne renaming symm->bS
open Option.some renaming inj->gX,injEq->Og
open PyProof.Rows renaming callWith_type1->oY,slot_tuple_getitem->vn7,Keyed->Mu,SortSt->Pb,SortKind->Pc,pendingOf->Ph,AllBare->Pm,subscriptTail->Pu,IsTup->Pw,envOfC->Qk,Subscript_->Rt,Constant_none->Ti,subscriptTail_builtinR->Ua,IntsAre->Uh,assignInOrder_nil->Vv,Call_->Wa,tail_any->Wz,failedOf->Xg,zipApart_new->Xu,isTrue_plain->Xz
open PySem.Calls renaming callWith_builtin->oA,spliced_cons->lS,evalArgs_plain->uZ,spliced_nil->oQ,Name_function_global->Ql
open True renaming intro->gP
open PySem.W renaming kia_one->kY,mg_of->lN,emptyDict->Ll,nsIn->Lu,findIn->Lv,instObj->Mc,fnOf->Mf,keepIn->Mh,codeIn->Nr,callWith_K->Oq,methodObj->Ow,hasDictIn->Ox,plainGet->Pe,takerIn->Pn,OpenLaw->Po,lookIn->Qa,cellsFrom_some->Qs,plainOver->Sl,kitx_list->Sn,kitx_dict->Sq,handedIn->Th,makesIn->To,kitOne->Ud,WalkO->Uk,WData->Xj
open Sum.inr renaming inj->iS
open Array renaming size_append->pD,getElem?_eq_none->DW,length_toList->GQ,getElem?_toList->Nz,toList->Rl,size_push->Us
open Int renaming emod_lt_of_pos->yN,emod_nonneg->zA,toNat_natCast->EH,add_zero->xV,ediv_one->Pt,le_refl->Qb,zero_add->Wp,le_of_eq->Wq
open PySem.Around renaming under_plainId->HQ,under->Rh
open List.cons renaming inj->zD
open Or renaming inl->iL,inr->Oa
open _root_ renaming List->Ki,Option->Kj,Nat->Kk,Int->Kl,Bool->Km,False->Kn,Array->Ko
open Sum renaming inr->Ku,inl->Kv
open ForInStep renaming yield->Kw
open PySem.Value renaming ref->Kz,none->Mb,int->Pi,type->Qy,bool->Xr
open PySem.Builtin.SmallTypes renaming ownedTupleIsFree->Lb,nextOf->Lc,ownedTupleHandOut->Wx
open PySem.SeqAt renaming EqAt->Lg
open PySem.NameKind renaming free->Lh
open PySem.Txt renaming slice->Lk
open False renaming elim->Mg
open PySem.PyData renaming keyHash->Mj
open PySem.Builtin.Range renaming rangeSize->Mw
open PySem.Str renaming ofString->Mz,empty->Qr
open PySem.Obj renaming mapSeq->Na
open PySem.Builtin.Slice renaming slicePlaces->Ni,sliceAdjust->Rp
open PySem.Builtin.Tuple renaming tupleExact->Np
open PySem.Builtin.List renaming listTooLong->Nq,listExtendWith->Qq
open Std.Legacy renaming Range->Qz
open Prod.mk renaming inj->Tp
open Nat.succ renaming inj->Vw
open PySem.Data renaming cell->Wu
def cT:=@of_decide_eq_true
def dP:=@decide_eq_true
def bC:=@if_neg
def bF:=@if_pos
def cH:=@congrArg
def gE:=@decide_eq_false
def dO:=@or_false
def vh3:=@beq_eq_false_iff_ne
def fZ:=@not_or
def kG:=@if_false
def aK{a b:Type _}{f:a->b}{l:List a}:↑(l.map f)=↑l:=by simp
section
set_option autoImplicit true
set_option relaxedAutoImplicit true
namespace L2
open PySem PySem.Spec PyProof.Rows
variable{prog:Jz}{w:Kb}{A:Kg}{E:Vp}{s:Jx}
variable{X:Cx}
abbrev aG:=Sum Kl zZ
def kH:aG->iH->Km
 | .inl k,v=>iH.isInt k v
 | .inr x,v=>iH.isStrOf x v
def DS(w:Kb):aG->Kl
 | .inl k=>hashInt k
 | .inr x=>hashStr w x
def jT:∀{k:aG}{v:iH},kH k v=Ks->(∃i t,k=Kv i/\v=Pi i t)\/(∃x t,k=Ku x/\v=iH.str x t)
 | .inl i,v,h=>by
  obtain⟨t,e⟩:=iH.isInt_shape (k:=i) (v:=v) h;exact .inl ⟨i,t,rfl,e⟩
 | .inr x,v,h=>by
  obtain⟨t,e⟩:=iH.isStrOf_shape (x:=x) (v:=v) h;exact .inr ⟨x,t,rfl,e⟩
def Co(i:Kl)(t:Ye):kH (.inl i) (.int i t)=true:=by simp[kH,iH.isInt]
def MQ(x:zZ)(t:Ye):kH (.inr x) (.str x t)=true:=by simp[kH,iH.isStrOf]
def xO(a b:Kl):decide ((Kv a:aG)=Kv b)=(a == b):=by
 by_cases e:a=b
 .subst e;simp
 .have h:¬(Kv a:aG)=Kv b:=λq=>e<|Kv.inj q;rw[gE h];exact(vh3.mpr e).symm
def wE(a b:zZ):decide ((Ku a:aG)=Ku b)=decide (a=b):=by
 by_cases e:a=b
 .subst e;simp
 .have h:¬(Ku a:aG)=Ku b:=λq=>e<|iS q;rw[gE h,gE e]
def tG(a:Kl)(b:zZ):decide ((Kv a:aG)=Ku b)=false:=gE λq=>nomatch q
def xD(a:zZ)(b:Kl):decide ((Ku a:aG)=Kv b)=false:=gE λq=>nomatch q
def cO(prog:Jz)(w:Kb):Ve prog w aG where
 is:=kH
 hash:=DS w
 inj:=λv a b m f=>by
  obtain⟨i,t,rfl,rfl⟩|⟨x,t,rfl,rfl⟩:=jT m
  .obtain⟨j,u,rfl,e⟩|⟨y,u,rfl,e⟩:=jT f
   .injection e with e1 _;rw[e1]
   .exact nomatch e
  .obtain⟨j,u,rfl,e⟩|⟨y,u,rfl,e⟩:=jT f
   .exact nomatch e
   .injection e with e1 _;rw[e1]
 byValue:=λk v h=>by
  obtain⟨i,t,rfl,rfl⟩|⟨x,t,rfl,rfl⟩:=jT h <;> rfl
 pyHash:=λd h=>by
  obtain⟨i,t,rfl,rfl⟩|⟨x,t,rfl,rfl⟩:=jT d
  .exact wpAny_pyHash_int h
  .exact wpAny_pyHash_str h
 eqBool:=λl d h=>by
  obtain⟨i,t,rfl,rfl⟩|⟨x,t,rfl,rfl⟩:=jT l
  .obtain⟨j,u,rfl,rfl⟩|⟨y,u,rfl,rfl⟩:=jT d
   .rw[xO]at h;exact wpAny_eqBool_int h
   .rw[tG]at h;exact Lg.int_str i t y u _ _ _ _ h
  .obtain⟨j,u,rfl,rfl⟩|⟨y,u,rfl,rfl⟩:=jT d
   .rw[xD]at h;exact Lg.str_int x t j u _ _ _ _ h
   .rw[wE]at h;exact wpAny_eqBool_str h
 «strs»:=λk x t v h=>by
  obtain⟨i,u,rfl,e⟩|⟨y,u,rfl,e⟩:=jT h
  .exact nomatch e
  .injection e with e1 _;subst e1;cases v <;> rfl
def Dr(prog:Jz)(w:Kb)(i:Kl)(t:Ye):(cO prog w).is (.inl i) (.int i t)=true:=Co i t
def Db(prog:Jz)(w:Kb)(x:zZ)(t:Ye):(cO prog w).is (.inr x) (.str x t)=true:=MQ x t
inductive V where
 | non | bl (b:Km) | int (i:Kl) | str (x:zZ) | byt (b:Ko UInt8) | flt (b:UInt64) | ref (a:eH) | ty (n:String)
 deriving DecidableEq
open V renaming str->Yf,ref->Yg,int->Yh,non->Yi
def RelV:V->iH->Prop
 | .non,u=>u=Mb
 | .bl b,u=>u=Xr b
 | .int i,u=>∃t,u=Pi i t
 | .str x,u=>∃t,u=iH.str x t
 | .byt b,u=>∃t,u=iH.bytes b t
 | .flt b,u=>∃t,u=iH.float b t
 | .ref a,u=>u=Kz a
 | .ty n,u=>u=Qy n
abbrev Vals:Ki V->Ki iH->Prop:=Paired RelV
theorem Vals.length(r:Vals xs us):↑xs=↑us:=Paired.length r
theorem Vals.get:∀{xs:Ki V}{us:Ki iH}{i:Kk}{x:V},Vals xs us->xs[i]?\x->∃u,us[i]?\u/\RelV x u
 | _,_,_,_,.nil,e=>by simp at e
 | _,_,0,_,.cons r _,e=>by simp at e;subst e;exact{_,U,r}
 | _,_,i+1,x,.cons _ t,e=>by
  obtain⟨u,b,a⟩:=Vals.get (i:=i) (x:=x) t (by simpa using e);exact{u,by simpa using b,a}
theorem Vals.set(r:RelV x u):∀{xs:Ki V}{us:Ki iH}(i:Kk),Vals xs us->Vals (xs.set i x) (us.set i u)
 | _,_,_,.nil=>.nil
 | _,_,0,.cons _ t=>.cons r t
 | _,_,i+1,.cons q t=>.cons q<|Vals.set r i t
def Vals.append:∀{xs ys:Ki V}{us ws:Ki iH},Vals xs us->Vals ys ws->Vals (xs++ys) (us++ws):=by
 intro xs ys us ws a
 induction a with
 | nil=>
  exact λs=>s
 | cons r t b=>
  exact λs=>.cons r<|b s
theorem Vals.take:∀{xs:Ki V}{us:Ki iH}(n:Kk),Vals xs us->Vals (xs.take n) (us.take n)
 | _,_,0,_=>.nil
 | _,_,_+1,.nil=>.nil
 | _,_,n+1,.cons r t=>.cons r<|Vals.take n t
theorem Vals.drop:∀{xs:Ki V}{us:Ki iH}(n:Kk),Vals xs us->Vals (xs.drop n) (us.drop n)
 | _,_,0,r=>r
 | _,_,_+1,.nil=>.nil
 | _,_,n+1,.cons _ t=>Vals.drop n t
def RelO:Kj V->Kj iH->Prop
 | some v,Kp u=>RelV v u
 | none,Kr=>True
 | _,_=>Kn
def KV{κ:Type}:Ki (κ×V)->Ki (κ×iH)->Prop:=Paired λ(p:κ×V) (q:κ×iH)=>p.1=q.1/\RelV p.2 q.2
def kV:aG->V
 | .inl i=>.int i
 | .inr x=>.str x
inductive HO where
 /-- a list -/
 | lst (xs:Ki V)
 /-- a tuple (never changes) -/
 | tup (xs:Ki V)
 /-- a dict whose keys are ints and texts;one whose keys are tuples of ints and texts (the empty one is both) -/
 | dK (kvs:Ki (aG×V)) | dT (kvs:Ki (Ki aG×V))
 /-- a set of ints: its members,its size -/
 | set (S:Kl->Km) (n:Kk)
 /-- an instance of the class at C,its dict at dx,its attributes -/
 | ins (C dx:eH) (fs:Ki (zZ×V))
 /-- the dict of the instance at x -/
 | own (x:eH)
 /-- the dict of an exception -/
 | xd (fs:Ki (zZ×V))
 /-- a bound method,f of x -/
 | met (f x:eH)
 /-- a range object lo,lo+1,.. below hi -/
 | rng (lo hi:Kl)
 /-- a thing that is known to the object (the script;a dict while a loop walks it): read,never written while it is so -/
 | frz (o:Kh) (u:HO)
 /-- a eX object's Xa -/
 | tbl (ps:Ko iH)
 /-- any other thing,by what is Ks of its one object (a def of one's own: SetO a S n:=HO.ext λh=>..) -/
 | ext (φ:Ka->Prop)
abbrev Hp:=eH->Kj HO
def upd(H:Hp)(a:eH)(o:HO):Hp:=λb=>if b=a then Kp o else H b
def zb1:upd H a o a\o:=by unfold upd;rw[bF rfl]
def aC(h:b≠a):upd H a o b=H b:=by unfold upd;rw[bC h]
def gR:upd (upd H a o) a u=upd H a u:=by
 funext b;unfold upd;split <;> rfl
def oU{H:Hp}{a b:eH}{o u:HO}(h:H a\o)(h':H b\u)(d:o≠u):a≠b:=by
 intro e;subst e;rw[h]at h';exact d<|gX h'
def aQ{H:Hp}{a b:eH}{o:HO}(h:H a\o)(h':H b=Kr):a≠b:=by
 intro e;subst e;rw[h]at h';cases h'
def DN(h:Ka)(a:eH):Prop:=∃o,h.get? a\o/\o.dict=Kr
section
variable(P:Jz)(w:Kb)
def ObjOk(H:Hp)(h:Ka)(a:eH):HO->Prop
 | .lst e=>↑e<=sizeLine/\∃(b:Ki iH)(n:Kk),Vals e b/\h.get? a=Kp {cls:=.type "list",data:=.seq b.toArray n}
 | .tup e=>(↑e<=sizeLine/\DN h a)/\∃b:Ki iH,Vals e b/\Pw h a b.toArray
 | .dK d=>↑d<=sizeLine/\(a == Lm)=Kt/\∃vs,KV d vs/\h.DictOf (cO P w) a vs
 | .dT d=>↑d<=sizeLine/\(a == Lm)=Kt/\∃e:Ki (Ki aG×eH×iH),
   Paired (λ(p:Ki aG×V) (q:Ki aG×eH×iH)=>p.1=q.1/\H q.2.1\(.tup<|p.1.map kV)/\RelV p.2 q.2.2) d e/\
   ∃o s z,h.get? a\o/\o.ExactDict/\o.data=.dict s z/\s.toList=e.map (entryOfKey<|tupleKind<|cO P w)/\(e.map (·.1)).Nodup
 | .set S n=>h.SetOf (intKind P w) a S n
 | .ins C j fs=>H j\.own a/\↑fs<=1000/\j≠a/\h.get? a\Mc C j/\
   ∃i,h.Ns1 j i/\(∀f,RelO (fs.lookup f)<|i f)/\Pd i (fs.map (·.1))
 | .own _=>∃o,h.get? a\o
 | .xd fs=>∃i,h.Ns1 a i/\∀f,RelO (fs.lookup f)<|i f
 | .rng lo A=>∃t u v,h.get? a=Kp {cls:=.type "range",data:=.fields #[.int lo t,.int A u,.int 1 v]}
 | .frz o u=>h.get? a\o/\ObjOk H h a u
 | .tbl B=>h.get? a=Kp {cls:=.none,data:=.fields B}
 | .met f x=>h.get? a\(Ow (.ref f)<|.ref x)
 | .ext l=>l h/\(∃o,h.get? a\o)/\∀m r:Ka,l m->(∀o,m.get? a\o->r.get? a\o)->l r
def HOk(H:Hp)(h:Ka):Prop:=∀a o,H a\o->ObjOk P w H h a o
end
section
variable{P:Jz}{w:Kb}{H H':Hp}{h h':Ka}{a:eH}{o:HO}
theorem ObjOk.lt(x:ObjOk P w H h a o):a<h.objs.size:=by
 cases o with
 | lst d=>obtain⟨_,_,_,_,e⟩:=x;exact cB e
 | tup d=>obtain⟨_,_,_,p⟩:=x;exact p.lt
 | dK b=>obtain⟨_,_,_,_,o,_,_,e,_⟩:=x;exact cB e
 | dT b=>obtain⟨_,_,_,_,o,_,_,e,_⟩:=x;exact cB e
 | set S n=>obtain⟨o,_,_,_,e,_⟩:=x;exact cB e
 | ins C i fs=>obtain⟨_,_,_,e,_⟩:=x;exact cB e
 | own y=>obtain⟨_,e⟩:=x;exact cB e
 | xd fs=>obtain⟨_,⟨_,_,_,e,_⟩,_⟩:=x;exact cB e
 | rng lo j=>obtain⟨_,_,_,e⟩:=x;exact cB e
 | frz l u=>obtain⟨e,_⟩:=x;exact cB e
 | tbl m=>exact cB (show h.get? a=Kp _ from x)
 | met f y=>exact cB (show h.get? a=Kp _ from x)
 | ext q=>obtain⟨_,⟨_,e⟩,_⟩:=x;exact cB e
def Paired.mapP{h e:Type}{F G:h->e->Prop}:∀{l₁:Ki h}{l₂:Ki e},Paired F l₁ l₂->(∀a b,F a b->G a b)->Paired G l₁ l₂:=by
 intro l₁ l₂ d
 induction d with
 | nil=>
  exact λ_=>.nil
 | cons r t i=>
  exact λf=>.cons (f _ _ r)<|i f
def ObjOk.stay(x:ObjOk P w H h a o)(k:∀b u,(b=a\/H b\.own a)->h.get? b\u->h'.get? b\u)
  (A:∀b,H b\.own a->H' b\.own a) (l:∀b J,H b\.tup J->H' b\.tup J):ObjOk P w H' h' a o:=by
 induction o with
 | lst J=>obtain⟨z,G,n,r,e⟩:=x;exact{z,G,n,r,k _ _ (.inl rfl) e}
 | tup J=>obtain⟨⟨z,L,j,m⟩,y⟩:=x;obtain⟨G,r,i,e,c⟩:=y;exact{{z,L,k _ _ (.inl rfl) j,m},G,r,i,k _ _ (.inl rfl) e,c}
 | dK M=>obtain⟨z,y,vs,r,i,B,E,e,c⟩:=x;exact{z,y,vs,r,i,B,E,k _ _ (.inl rfl) e,c}
 | dT M=>
  obtain⟨z,y,J,r,i,B,E,e,c⟩:=x;exact{z,y,J,Paired.mapP r λp q z=>{z.1,l _ _ z.2.1,z.2.2},i,B,E,k _ _ (.inl rfl) e,c}
 | set S n=>obtain⟨i,B,E,t,e,c⟩:=x;exact{i,B,E,t,k _ _ (.inl rfl) e,c}
 | ins C Z fs=>
  obtain⟨d,z,ne,e,N,⟨L,B,E,s,c⟩,r⟩:=x;exact{A _ d,z,ne,k _ _ (.inl rfl) e,N,{L,B,E,k _ _ (.inr d) s,c},r}
 | own y=>obtain⟨i,e⟩:=x;exact{i,k _ _ (.inl rfl) e}
 | xd fs=>obtain⟨N,⟨L,B,E,e,c⟩,r⟩:=x;exact{N,{L,B,E,k _ _ (.inl rfl) e,c},r}
 | rng lo Y=>obtain⟨t,u,v,e⟩:=x;exact{t,u,v,k _ _ (.inl rfl) e}
 | frz i u T=>obtain⟨e,q⟩:=x;exact{k _ _ (.inl rfl) e,T q}
 | tbl O=>
  have e:h.get? a=Kp {cls:=.none,data:=.fields O}:=x;show h'.get? a=Kp {cls:=.none,data:=.fields O};exact k a _ (.inl rfl) e
 | met f y=>
  have e:h.get? a\(Ow (.ref f)<|.ref y):=x;show h'.get? a=Kp (Ow (.ref f)<|.ref y);exact k a _ (.inl rfl) e
 | ext X=>obtain⟨p,⟨o,e⟩,st⟩:=x;exact{st _ _ p λo q=>k _ _ (.inl rfl) q,{o,k _ _ (.inl rfl) e},st}
theorem HOk.lt(x:HOk P w H h)(e:H a\o):a<h.objs.size:=(x a o e).lt
def HOk.fresh(x:HOk P w H h)(e:h.objs.size<=a):H a=none:=by
 cases q:H a with
 | none=>rfl
 | some u=>exact absurd (iA (x.lt q) e)<|jQ _
def HOk.kept(x:HOk P w H h)(k:∀b u,h.get? b\u->h'.get? b\u):HOk P w H h':=λa o e=>
 (x a o e).stay (λb u _ q=>k b u q) (λ_ q=>q) λ_ _ q=>q
def HOk.laid(x:HOk P w H h)(k:∀b u,h.get? b\u->h'.get? b\u)(hp:h.objs.size<=a)(new:ObjOk P w (upd H a o) h' a o):HOk P w (upd H a o) h':=λb u e=>by
 have d:=x.fresh hp
 by_cases f:b=a
 .subst f;rw[zb1]at e;cases e;exact new
 .rw[aC f]at e;exact(x b u e).stay (λc v _ q=>k c v q) (λc q=>by rw[aC<|aQ q d];exact q) λc i q=>by rw[aC<|aQ q d];exact q
end
def Rd(H:Hp)(a:eH)(u:HO):Prop:=H a=Kp u\/∃o,H a\.frz o u
def Rd.ok(r:Rd H a u)(x:HOk P w H h):ObjOk P w H h a u:=by
 obtain r|⟨o,r⟩:=r
 .exact x a u r
 .obtain⟨_,q⟩:=x a _ r;exact q
def zX:Kj HO->Prop
 | some (.lst _)=>True
 | some (.dK _)=>True
 | some (.dT _)=>True
 | some (.set _ _)=>True
 | some (.ins _ _ _)=>True
 | some (.ext _)=>True
 | _=>Kn
section
variable{P:Jz}{w:Kb}{H:Hp}{h h':Ka}{x e:eH}{o':HO}
def HOk.write(ok:HOk P w H h)(f:zX (H x))(he:e=x\/H e\.own x)(k:∀b u,b≠e->h.get? b\u->h'.get? b\u)(n:∃u,h'.get? e\u)
  (new:ObjOk P w (upd H x o') h' x o'):HOk P w (upd H x o') h':=λb u q=>by
 have l:∀c y,H c\.own y->c≠x:=λc y r z=>by subst z;rw[r]at f;exact f
 have m:∀c s,H c\.tup s->c≠x:=λc s r z=>by subst z;rw[r]at f;exact f
 by_cases d:b=x
 .subst d;rw[zb1]at q;cases q;exact new
 .rw[aC d]at q
  by_cases i:b=e
  .have j:H b\.own x:=by
    obtain z|z:=he
    .exact absurd (i.trans z) d
    .rw[i];exact z
   rw[q]at j;cases j;obtain⟨v,o⟩:=n;exact{v,by rw[i];exact o}
  .refine(ok b u q).stay (λc v a r=>k c v ?_ r) (λc r=>by rw[aC<|l c b r];exact r) λc s r=>by rw[aC<|m c s r];exact r
   obtain rfl|a:=a
   .exact i
   .rintro rfl;obtain z|z:=he
    .exact l c b a z
    .rw[a]at z;cases z;exact d rfl
end
structure Un(fs ex:Ki eH)(H H':Hp)(h h':Ka):Prop where
 keep:∀b o,h.get? b\o->H b=Kr->b∉fs->b∉ex->h'.get? b\o
 slot:∀b o,h.get? b\o->H b=Kr->b∈fs->b∉ex->∃sl,h'.get? b=Kp {o with slots:=sl}
 free:∀b o,h.get? b\o->H b=Kr->b∉ex->H' b=Kr
 there:∀b o,h.get? b\o->b∉ex->∃o',h'.get? b\o'
 tups:∀b xs,H b\.tup xs->H' b\.tup xs
 frzs:∀b o u,H b\.frz o u->H' b\.frz o u
 tbls:∀b ps,H b\.tbl ps->∃more,H' b\(.tbl<|ps++more)
section
variable{fs fs' ex ex':Ki eH}{H H1 H2:Hp}{h h1 h2 h':Ka}{a x e:eH}{o:HO}
def Un.any(u:Un fs ex H H1 h h1)(q:h.get? b\ob)(n:H b=Kr)(d:b∉ex):∃e,h1.get? b=Kp {ob with slots:=e}:=by
 by_cases a:b∈fs
 .exact u.slot b ob q n a d
 .exact⟨ob.slots,u.keep b ob q n a d⟩
def Un.kept(k:∀b u,h.get? b\u->h'.get? b\u):Un fs ex H H h h':=
 ⟨λb a q _ _ _=>k b a q,λb a q _ _ _=>⟨a.slots,k b a q⟩,λ_ _ _ n _=>n,λb a q _=>⟨a,k b a q⟩,λ_ _ q=>q,λ_ _ _ q=>q,λ_ d q=>⟨#[],by rw[q];simp⟩⟩
def Un.refl:Un fs ex H H h h:=Un.kept λ_ _ q=>q
def Un.laid(k:∀b u,h.get? b\u->h'.get? b\u)(hp:h.objs.size<=a)(d:H a=Kr):Un fs ex H (upd H a o) h h' where
 keep:=λb u q _ _ _=>k b u q
 slot:=λb u q _ _ _=>⟨u.slots,k b u q⟩
 free:=λb u q n _=>by rw[aC<|cP<|iA (cB q) hp];exact n
 there:=λb u q _=>⟨u,k b u q⟩
 tups:=λb e q=>by rw[aC<|aQ q d];exact q
 frzs:=λb u e q=>by rw[aC<|aQ q d];exact q
 tbls:=λb f q=>⟨#[],by rw[aC<|aQ q d,q];simp⟩
def Un.write(a:zX (H x))(he:e=x\/H e\.own x)(k:∀b u,b≠e->h.get? b\u->h'.get? b\u)(l:∃u,h'.get? e\u):Un fs ex H (upd H x o) h h':=by
 have f:∀b,H b=Kr->b≠x:=λb n z=>by subst z;rw[n]at a;exact a
 have i:∀b,H b=Kr->b≠e:=λb n z=>by
  subst z;obtain r|r:=he
  .exact f b n r
  .rw[n]at r;cases r
 have d:∀b u,H b\u->¬zX (Kp u)->b≠x:=λb u q m z=>by subst z;rw[q]at a;exact m a
 refine{λb u q n _ _=>k b u (i b n) q,λb u q n _ _=>{u.slots,k b u (i b n) q},λb u q n _=>by rw[aC<|f b n];exact n,λb u q _=>?_,
  λb s q=>by rw[aC<|d b _ q λz=>z];exact q,λb u s q=>by rw[aC<|d b _ q λz=>z];exact q,λb w q=>{#[],by rw[aC<|d b _ q λz=>z,q];simp}}
 by_cases j:b=e
 .subst j;exact l
 .exact⟨u,k b u j q⟩
end
def IG(h:Ka)(H:Hp):Ki eH:=(Mx h.objs.size).filter λa=>(H a).isSome
def hV(h:Ka)(H:Hp):Ka:=PySem.W.hideAll h<|IG h H
def Ea(h:Ka)(H:Hp):(hV h H).objs.size=h.objs.size:=PySem.W.hideAll_size _ _
def Gv(e:h.get? b\o)(n:H b=Kr):(hV h H).get? b\o:=
 PySem.W.hideAll_get _ e λa=>by
  have q:(H b).isSome=true:=(vs7.mp a).2;rw[n]at q;simp at q
def Bs(e:(hV h H).get? b\o):h.get? b\o/\H b=none:=by
 have a:h.get? b\o:=PySem.W.of_hideAll (IG h H) e;exists a;cases q:H b with
 | none=>rfl
 | some x=>
  have d:b∈IG h H:=vs7.mpr ⟨Oj.mpr<|cB a,by simp[q]⟩;have z:(hV h H).get? b=none:=PySem.W.hideAll_none (IG h H) d;rw[z]at e;cases e
def Dv(g h:Ka)(L:eH):Ki (eH×Kh):=(Mx h.objs.size).filterMap λa=>if a=L\/(g.get? a).isSome=Ks then Kr else(h.get? a).map λo=>(a,o)
def rest(g h:Ka)(L d:eH):Ki (eH×Kh):=(Dv g h L).filter λp=>decide<|p.1≠d
structure Mod(K:Fq)(mg:zZ->Kj iH)(base:Ka):Prop where
 kin:K.In base
 glob:base.Ns Le mg
 blt:∃mb,base.Ns Vo mb/\∀x:zZ,x≠"__name__"->mb x=Mi x
 nolimit:base.NoLimit
structure Cx where
 prog:Jz
 w:Kb
 K:Fq
 mg:zZ->Kj iH
 base:Ka
 A:Kg
 N:Ki zZ
 s₀:Jx
 H₀:Hp
 env:Rg
 outer:Ki Rg
 stack:Ki Rg
 ex:Ki eH
 fn:zZ->Km
 calm:Km
 pn:Ki (eH×Kh)
 xe:iH->Jx->Prop
def frs(l:Ki Rg):Ki eH:=l.filterMap (·.frame)
abbrev Cx.fs(X:Cx):Ki eH:=frs X.outer
def IJ(a:Scope)(x:zZ):Prop:=a.names.lookup x=Kp .local\/a.names.lookup x\.cell\/a.names.lookup x\.free
def yF(a:Scope)(x:zZ):Prop:=a.names.lookup x=Kp .local\/a.names.lookup x\.cell
def LJ(env:Rg)(h:Ka)(m:zZ->Kj iH)(x:zZ)(u:iH):Prop:=
 (env.kindOf x\.local/\m x\u)\/((env.kindOf x\.cell\/env.kindOf x\.free)/\∃c,env.cells.lookup x\c/\h.IsCell c (Kp u))
structure Cx.Ok(X:Cx):Prop where
 mod:Mod X.K X.mg X.base
 kind:X.env.scope.kind=.function
 glob:X.env.globals=Le
 blt:X.env.builtins=Vo
 above:X.s₀⁻¹<=X.env.locals
 inj:∀x y c,X.env.cells.lookup x\c->X.env.cells.lookup y\c->x=y
 has:∀x,(X.env.kindOf x\.cell\/X.env.kindOf x\.free)->∃c,X.env.cells.lookup x\c
 cab:∀x c,X.fn x=Ks->X.env.cells.lookup x\c->X.s₀⁻¹<=c
 hd:X.calm=Ks->X.A.handled=Kr
 frames:X.A.frames\X.stack
 stk:X.stack=X.outer\/(X.stack=X.env::X.outer/\X.env.frame\X.env.locals)
 exf:∀b∈X.ex,b≠X.env.locals/\∀x c,X.env.cells.lookup x\c->c≠b
 bs:∀b o,X.base.get? b\o->X.s₀.heap.get? b\o/\X.H₀ b=Kr
 bsz:X.base.objs.size<=X.s₀⁻¹
 noex:∀b o,X.base.get? b\o->b∉X.ex
 exfs:∀b∈X.ex,b∉X.fs
 funs:X.s₀.heap.FunFrames X.base X.outer
 frf:∀b∈X.fs,X.H₀ b=Kr
structure Inv(X:Cx)(pins:Ki (eH×Kh))(σ:Ki (Kj V))(H:Hp)(s:Jx):Prop where
 ok:X.Ok
 os:s.os=X.s₀.os
 bare:Pm s.gens
 base:Un X.fs X.ex X.H₀ H X.s₀.heap s.heap
 loc:∃m,s.heap.Ns X.env.locals m/\∀(i:Kk)(x:zZ)(v:V),X.N[i]?\x->σ[i]?\Kp v->IJ X.env.scope x->∃u,RelV v u/\LJ X.env s.heap m x u
 cell:∀x c,X.env.cells.lookup x\c->∃v,s.heap.IsCell c v
 free:H X.env.locals=Kr
 freeC:∀x c,X.env.cells.lookup x\c->H c=Kr
 pin:∀p∈X.pn++pins,s.heap.get? p.1\p.2/\H p.1=Kr/\p.1≠X.env.locals/\p.1∉X.fs/\∀v,p.2.data≠.cell v
 hok:HOk X.prog X.w H s.heap
 len:↑σ=X.N.length
section
variable{pins:Ki (eH×Kh)}{σ:Ki (Kj V)}{H H':Hp}{s:Jx}{h':Ka}
def Cx.Ok.nofr(ok:X.Ok)(e:X.base.get? b\o):b∉X.fs:=λa=>by
 have:=(ok.funs.mem a).1;rw[e]at this;cases this
theorem Inv.bs(I:Inv X pins σ H s):∀b o,X.base.get? b\o->s.heap.get? b\o/\H b=none:=λb o e=>
 ⟨I.base.keep b o (I.ok.bs b o e).1 (I.ok.bs b o e).2 (I.ok.nofr e)<|I.ok.noex b o e,I.base.free b o (I.ok.bs b o e).1 (I.ok.bs b o e).2<|I.ok.noex b o e⟩
def Inv.bk(I:Inv X pins σ H s):∀b o,X.base.get? b\o->s.heap.get? b\o:=λb o e=>(I.bs b o e).1
theorem Inv.mod(I:Inv X pins σ H s):Mod X.K X.mg X.base:=I.ok.mod
def Inv.kIn(I:Inv X pins σ H s):X.K.In s.heap:=I.ok.mod.kin.keeps I.bk
theorem Inv.lt(I:Inv X pins σ H s):X.env.locals<s⁻¹:=let ⟨_,hn,_⟩:=I.loc;hn.lt
def Inv.sz(I:Inv X pins σ H s):X.s₀⁻¹<=s⁻¹:=hX I.ok.above<|cX I.lt
def Inv.nofs(I:Inv X pins σ H s)(h:s⁻¹<=a):a∉X.fs:=λd=>by
 obtain⟨_,o,b,_⟩:=I.ok.funs.mem d;exact absurd (iA (cB b)<|hX I.sz h)<|jQ _
def Inv.cne(I:Inv X pins σ H s):∀x c,X.env.cells.lookup x\c->c≠X.env.locals:=λx c e z=>by
 obtain⟨v,o,a,hd⟩:=I.cell x c e;obtain⟨m,⟨h,i,f,d,b,_⟩,_⟩:=I.loc;rw[z,d]at a;cases a;rw[b]at hd;cases hd
theorem Inv.funs(I:Inv X pins σ H s):s.heap.FunFrames X.base X.outer:=by
 have all:∀(l:Ki Rg),(∀b∈frs l,b∈X.fs)->X.s₀.heap.FunFrames X.base l->s.heap.FunFrames X.base l:=by
  intro l
  induction l with
  | nil=>intro _ _;trivial
  | cons u r q=>
   intro n hl;obtain⟨h,⟨L,o,a,j,i,hd⟩,w⟩:=hl;have f:L∈X.fs:=n L (by unfold frs;rw[GU,a];exact sS);obtain⟨m,e⟩:=I.base.slot L o i (I.ok.frf L f) f λz=>I.ok.exfs L z f;exact{h,{L,_,a,j,e,hd},q (λb d=>n b<|by unfold frs;rw[GU,a];exact iO _ d) w}
 exact all X.outer (λ_ d=>d) I.ok.funs
theorem Inv.stack(I:Inv X pins σ H s):s.heap.FunFrames X.base X.stack:=by
 obtain e|⟨e,b⟩:=I.ok.stk
 .rw[e];exact I.funs
 .rw[e];obtain⟨m,a,_⟩:=I.loc;refine .cons (by rw[I.ok.kind];decide) b a ?_ I.funs;exact Ka.get?_none_of_le<|hX I.ok.bsz I.ok.above
def Inv.stkSub(I:Inv X pins σ H s):∀b∈frs X.stack,b∈X.env.locals::X.fs:=λb a=>by
 obtain e|⟨e,d⟩:=I.ok.stk
 .rw[e]at a;exact iO _ a
 .rw[e]at a;unfold frs at a;rw[GU,d]at a;exact a
def Inv.stkFree(I:Inv X pins σ H s):∀b∈frs X.stack,H b=none:=λb a=>by
 obtain e|a:=wx0.mp (I.stkSub b a)
 .rw[e];exact I.free
 .obtain⟨_,o,d,_⟩:=I.ok.funs.mem a;exact I.base.free b o d (I.ok.frf b a) λz=>I.ok.exfs b z a
def Inv.step{g':Ko GenState}{t':Kk}{d':Drawn}{ch:Ki eH}(I:Inv X pins σ H s)
  (C:∀b∈ch,(b∈X.ex\/X.s₀⁻¹<=b)/\b≠X.env.locals/\(∀x c,X.env.cells.lookup x\c->c≠b)/\∀p∈X.pn++pins,p.1≠b)
  (keep:∀b o,b≠X.env.locals->b∉X.fs->b∉ch->s.heap.get? b\o->H b=Kr->h'.get? b\o)
  (slot:∀b o,b≠X.env.locals->b∈X.fs->b∉ch->s.heap.get? b\o->H b=Kr->∃G,h'.get? b=Kp {o with slots:=G}) (free:∀b o,b∉ch->s.heap.get? b\o->H b=Kr->H' b=Kr)
  (there:∀b o,b∉ch->s.heap.get? b\o->∃o',h'.get? b\o')
  (tups:∀b xs,H b\.tup xs->H' b\.tup xs) (frzs:∀b o u,H b\.frz o u->H' b\.frz o u) (tbls:∀b ps,H b\.tbl ps->∃more,H' b\(.tbl<|ps++more))
  (T:∀m,s.heap.Ns X.env.locals m->h'.Ns X.env.locals m) (J:HOk X.prog X.w H' h') (P:Pm g'):
  Inv X pins σ H' {s with heap:=h',gens:=g',drawn:=d',toks:=t'}:=by
 have O:∀b o,X.s₀.heap.get? b\o->b≠X.env.locals:=λb o e=>cP<|iA (cB e) I.ok.above;have E:∀b o,X.s₀.heap.get? b\o->b∉X.ex->b∉ch:=λb o e a h=>by
  obtain z|z:=(C b h).1
  .exact a z
  .exact absurd (iA (cB e) z)<|jQ _
 have N:∀x c,X.env.cells.lookup x\c->∀v,s.heap.IsCell c v->h'.IsCell c v:=by
  rintro x c e v ⟨o,j,hd⟩;have A:c∉ch:=λz=>(C c z).2.2.1 x c e rfl
  by_cases L:c∈X.fs
  .obtain⟨G,q⟩:=slot c o (I.cne x c e) L A j<|I.freeC x c e;exact{_,q,hd}
  .exact⟨o,keep c o (I.cne x c e) L A j<|I.freeC x c e,hd⟩
 refine{I.ok,I.os,P,{λb o e n h a=>?_,λb o e n h a=>?_,λb o e n a=>?_,λb o e a=>?_,λb xs e=>tups b xs<|I.base.tups b xs e,λb o xs e=>frzs b o xs<|I.base.frzs b o xs e,λb ps e=>?_},?_,λx c e=>?_,?_,λx c e=>?_,λp hp=>?_,J,I.len}
 .exact keep b o (O b o e) h (E b o e a) (I.base.keep b o e n h a)<|I.base.free b o e n a
 .obtain⟨G,f⟩:=I.base.slot b o e n h a;obtain⟨Z,B⟩:=slot b _ (O b o e) h (E b o e a) f<|I.base.free b o e n a;exact⟨Z,B⟩
 .obtain⟨o',f⟩:=I.base.there b o e a;exact free b o' (E b o e a) f<|I.base.free b o e n a
 .obtain⟨o',f⟩:=I.base.there b o e a;exact there b o' (E b o e a) f
 .obtain⟨W,f⟩:=I.base.tbls b ps e;obtain⟨Y,B⟩:=tbls b _ f;exact{W++Y,by rw[B,Ko.append_assoc]}
 .obtain⟨m,hn,hl⟩:=I.loc;refine{m,T m hn,λi x v f B e3=>?_};obtain⟨u,r,l⟩:=hl i x v f B e3;exists u,r;obtain l|⟨k,c,e,z⟩:=l
  .exact .inl l
  .exact .inr ⟨k,c,e,N x c e _ z⟩
 .obtain⟨v,z⟩:=I.cell x c e;exact{v,N x c e v z}
 .obtain⟨m,⟨o,_,_,j,_⟩,_⟩:=I.loc;exact free _ o (λz=>(C _ z).2.1 rfl) j I.free
 .obtain⟨v,o,j,hd⟩:=I.cell x c e;exact free c o (λz=>(C c z).2.2.1 x c e rfl) j<|I.freeC x c e
 .obtain⟨e,n,ne,M,d⟩:=I.pin p hp;have A:p.1∉ch:=λz=>(C p.1 z).2.2.2 p hp rfl;exact{keep p.1 p.2 ne M A e n,free p.1 p.2 A e n,ne,M,d}
def Inv.un{t':Kk}(I:Inv X pins σ H s)(u:Un X.fs [] H H' s.heap h')(a:HOk X.prog X.w H' h'):Inv X pins σ H' {s with heap:=h',toks:=t'}:=by
 obtain⟨m,⟨o,E,B,f,r⟩,_⟩:=id I.loc;obtain⟨x,j⟩:=u.any f I.free (by simp);exact I.step (g':=s.gens) (d':=s.drawn) (ch:=[]) (λ_ z=>nomatch z) (λb o _ d _ e n=>u.keep b o e n d<|by simp) (λb o _ d _ e n=>u.slot b o e n d<|by simp) (λb o _ e n=>u.free b o e n<|by simp) (λb o _ e=>u.there b o e<|by simp) u.tups u.frzs u.tbls (λm' l=>by
  obtain⟨C,i,q,h,A⟩:=l;rw[f]at h;cases h;exact{_,i,q,j,A}) a I.bare
def Inv.call{g':Ko GenState}{t':Kk}{d':Drawn}{ch:Ki eH}(I:Inv X pins σ H s)(u:Un (frs X.stack) ch H H' s.heap h')(d:HOk X.prog X.w H' h')(B:Pm g')
  (j:∀b∈ch,(b∈X.ex\/X.s₀⁻¹<=b)/\b≠X.env.locals/\(∀x c,X.env.cells.lookup x\c->c≠b)/\∀p∈X.pn++pins,p.1≠b):
  Inv X pins σ H' {s with heap:=h',gens:=g',drawn:=d',toks:=t'}:=by
 obtain⟨m,⟨o,J,L,h,r⟩,_⟩:=id I.loc;obtain⟨E,f⟩:=u.any h I.free λz=>(j _ z).2.1 rfl;exact I.step (ch:=ch) j (λb o f q a e n=>u.keep b o e n (λz=>(wx0.mp<|I.stkSub b z).elim f q) a) (λb o _ _ a e n=>u.any e n a) (λb o a e n=>u.free b o e n a) (λb o a e=>u.there b o e a) u.tups u.frzs u.tbls (λm' C=>by
  obtain⟨M,A,l,i,G⟩:=C;rw[h]at i;cases i;exact{_,A,l,f,G}) d B
def Inv.turned{t':Kk}{A:eH}(I:Inv X pins σ H s)(k:∀b o,b≠A->s.heap.get? b\o->h'.get? b\o)(w:H A=Kr)(d:A≠X.env.locals)
  (B:A∈X.ex\/X.s₀⁻¹<=A) (C:∀x c,X.env.cells.lookup x\c->c≠A) (i:∀p∈X.pn++pins,p.1≠A):Inv X pins σ H {s with heap:=h',toks:=t'}:=by
 have f:∀b u,H b\u->b≠A:=λb u e z=>by rw[z,w]at e;cases e
 refine I.step (g':=s.gens) (d':=s.drawn) (ch:=[A]) (λb h=>?_) (λb o _ _ a e _=>k b o (λz=>a<|by simp[z]) e) (λb o _ _ a e _=>{o.slots,k b o (λz=>a<|by simp[z]) e}) (λ_ _ _ _ n=>n)
  (λb o a e=>⟨o,k b o (λz=>a<|by simp[z]) e⟩) (λ_ _ e=>e) (λ_ _ _ e=>e) (λb E e=>⟨#[],by rw[e];simp⟩) (λm l=>?_) (λb u e=>?_) I.bare
 .have e:b=A:=by simpa using h
  subst e;exact⟨B,d,C,i⟩
 .obtain⟨o,es,ep,j,r⟩:=l;exact{o,es,ep,k _ o (bS d) j,r}
 .refine(I.hok b u e).stay (λc v a q=>k c v ?_ q) (λ_ q=>q) λ_ _ q=>q;obtain z|z:=a
  .rw[z];exact f b u e
  .exact f c _ z
def Inv.tok(I:Inv X pins σ H s)(t:Kk):Inv X pins σ H {s with toks:=t}:=I.un (h':=s.heap) (t':=t) Un.refl I.hok
theorem Inv.kept(I:Inv X pins σ H s)(k:∀b u,s.heap.get? b\u->h'.get? b\u):Inv X pins σ H {s with heap:=h',toks:=t'}:=I.un (Un.kept k)<|I.hok.kept k
theorem Inv.laid(I:Inv X pins σ H s)(k:∀b u,s.heap.get? b\u->h'.get? b\u)(hp:s⁻¹<=a)(new:ObjOk X.prog X.w (upd H a o) h' a o):
  Inv X pins σ (upd H a o) {s with heap:=h',toks:=t'}:=I.un (Un.laid k hp<|I.hok.fresh hp)<|I.hok.laid k hp new
theorem Inv.write(I:Inv X pins σ H s)(d:zX (H x))(he:e=x\/H e\.own x)(k:∀b u,b≠e->s.heap.get? b\u->h'.get? b\u)(a:∃u,h'.get? e\u)
  (new:ObjOk X.prog X.w (upd H x o) h' x o):Inv X pins σ (upd H x o) {s with heap:=h',toks:=t'}:=I.un (Un.write d he k a)<|I.hok.write d he k a new
def Inv.pins_of(I:Inv X pins σ H s)(h:∀p∈pins',s.heap.get? p.1\p.2/\H p.1=Kr/\p.1≠X.env.locals/\p.1∉X.fs/\∀v,p.2.data≠.cell v):Inv X pins' σ H s:=
 ⟨I.ok,I.os,I.bare,I.base,I.loc,I.cell,I.free,I.freeC,λp a=>(wz2.mp a).elim (λz=>I.pin p<|qQ _ z)<|h p,I.hok,I.len⟩
def SD{N:Ki zZ}(e:N.Nodup){i j:Kk}{x:zZ}(a:N[i]?\x)(b:N[j]?\x):i=j:=by
 obtain⟨l,f⟩:=ww4.mp a;obtain⟨h,d⟩:=ww4.mp b;exact(yY e).mp<|f.trans d.symm
def OR{M:Model}{A:Kg}{E:Vp}{i:Kk}{x:zZ}{v:V}{u:iH}{Q:Unit->Jx->Prop}(I:Inv X pins σ H s)(hN:X.N.Nodup)(hi:X.N[i]?\x)(B:yF X.env.scope x)(r:RelV v u)
  (h:∀s',Inv X pins (σ.set i<|some v) H s'->(∃a,Lq a s.heap s'.heap/\(a=X.env.locals\/X.env.cells.lookup x\a))->Q () s') (hf:X.fn x=Ks\/X.env.scope.names.lookup x\.local:=by first | exact .inl rfl | exact .inr rfl | assumption):Kx M A (storeName X.env x u) Q E s:=by
 obtain⟨m,W,hl⟩:=id I.loc;have a4:(X.env.scope.kind == .class || (X.env.scope.kind == .module && X.env.locals != X.env.globals))=false:=by rw[I.ok.kind];rfl
 have a7:i<↑σ:=by rw[I.len];exact(ww4.mp hi).1
 have cne:=I.cne;have a0:∀{a:eH}{h':Ka},(∃o,s.heap.get? a\o/\H a=Kr)->Lq a s.heap h'->HOk X.prog X.w H h':=λ{a h'} ha hs b ob e=>by
  obtain⟨_,_,a1⟩:=ha;refine(I.hok b ob e).stay (λc L l q=>(hs.2 c ?_).trans q) (λ_ q=>q) λ_ _ q=>q;rintro rfl;obtain rfl|l:=l
  .rw[a1]at e;cases e
  .rw[a1]at l;cases l
 obtain hk|hk:=B
 .refine wpAny_storeName_local hk W (λh' aa hs=>?_) a4;obtain⟨oL,_,_,a9,_⟩:=id W;refine h _ {I.ok,I.os,I.bare,{λb o e n G B=>?_,λb o e n G B=>?_,I.base.free,λb o e B=>?_,I.base.tups,I.base.frzs,I.base.tbls},{_,aa,λj y v' f C Y=>?_},λy c e=>?_,I.free,I.freeC,λp hp=>?_,a0 {oL,a9,I.free} hs,by simpa using I.len} {_,hs,.inl rfl}
  .exact(hs.2 b<|cP<|iA (cB e) I.ok.above).trans (I.base.keep b o e n G B)
  .obtain⟨O,f⟩:=I.base.slot b o e n G B;exact{O,(hs.2 b<|cP<|iA (cB e) I.ok.above).trans f}
  .obtain⟨o',f⟩:=I.base.there b o e B;exact{o',(hs.2 b<|cP<|iA (cB e) I.ok.above).trans f}
  .by_cases J:j=i
   .subst J;rw[hi]at f;cases f;rw[No a7]at C;cases C;exact{u,r,.inl {hk,by simp}}
   .rw[Ss<|bS J]at C;obtain⟨Z,r',q⟩:=hl j y v' f C Y;exists Z,r';obtain⟨k,e⟩|⟨k,c,e,z⟩:=q
    .refine .inl ⟨k,?_⟩;have:y≠x:=λe=>J<|SD hN f<|e▸hi;simp[this,e]
    .exact .inr ⟨k,c,e,z.sameBut hs<|cne y c e⟩
  .obtain⟨L,z⟩:=I.cell y c e;exact{L,z.sameBut hs<|cne y c e}
  .obtain⟨e,n,ne,P,d⟩:=I.pin p hp;exact{(hs.2 p.1 ne).trans e,n,ne,P,d}
 .have T:X.fn x=true:=by
   obtain z|z:=hf
   .exact z
   .rw[z]at hk;cases hk
  obtain⟨c,l⟩:=I.ok.has x<|.inl hk;obtain⟨L,z⟩:=I.cell x c l;refine wpAny_storeName_cell I.ok.kind hk l z λh' a8 hs=>?_;obtain⟨oc,a6,a2⟩:=id z;refine h {s with heap:=h'} {I.ok,I.os,I.bare,{λb o e n G B=>?_,λb o e n G B=>?_,I.base.free,λb o e B=>?_,I.base.tups,I.base.frzs,I.base.tbls},{m,W.sameBut hs<|bS<|cne x c l,λj y v' f C Y=>?_},λy c' e=>?_,I.free,I.freeC,λp hp=>?_,a0 {oc,a6,I.freeC x c l} hs,by simpa using I.len} {c,hs,.inr l}
  .exact(hs.2 b<|cP<|iA (cB e)<|I.ok.cab x c T l).trans (I.base.keep b o e n G B)
  .obtain⟨O,f⟩:=I.base.slot b o e n G B;exact{O,(hs.2 b<|cP<|iA (cB e)<|I.ok.cab x c T l).trans f}
  .obtain⟨o',f⟩:=I.base.there b o e B;exact{o',(hs.2 b<|cP<|iA (cB e)<|I.ok.cab x c T l).trans f}
  .by_cases J:j=i
   .subst J;rw[hi]at f;cases f;rw[No a7]at C;cases C;exact{u,r,.inr {.inl hk,c,l,a8}}
   .rw[Ss<|bS J]at C;obtain⟨Z,r',q⟩:=hl j y v' f C Y;exists Z,r';obtain q|⟨k,c',e,z'⟩:=q
    .exact .inl q
    .refine .inr ⟨k,c',e,z'.sameBut hs ?_⟩;rintro rfl;exact J<|SD hN f<|I.ok.inj _ _ _ e l▸hi
  .by_cases a5:c'=c
   .subst a5;exact{_,a8}
   .obtain⟨w2,z2⟩:=I.cell y c' e;exact{w2,z2.sameBut hs a5}
  .obtain⟨e,n,ne,P,d⟩:=I.pin p hp;refine{(hs.2 p.1 ?_).trans e,n,ne,P,d};intro q;rw[q,a6]at e;have q':oc=p.2:=gX e;exact d L (by rw[<-q'];exact a2)
def IA(I:Inv X pins σ H s)(d:X.N.Nodup)(hi:X.N[i]?\x)(e:yF X.env.scope x)(r:RelV v u)
  (h:∀f,Inv X pins (σ.set i<|some v) H f->Q () f) (a:X.fn x=Ks\/X.env.scope.names.lookup x\.local:=by first | exact .inl rfl | exact .inr rfl | assumption):Kx M A (storeName X.env x u) Q E s:=
 OR I d hi e r (λf b _=>h f b) a
end
abbrev XK:=iH->Kj eH->Hp->Prop
abbrev St:=Ki<|Option V
abbrev VK:=V->Hp->Prop
abbrev TE:=St->Hp->VK->Prop
abbrev TT:=St->Hp->(Km->Hp->Prop)->Prop
abbrev TA:=St->Hp->(Ki V->Hp->Prop)->Prop
structure dY where
 nx:St->Hp->Prop
 rt:VK
 bk:St->Hp->Prop:=λ_ _=>Kn
 ct:St->Hp->Prop:=λ_ _=>Kn
abbrev TS:=dY->St->Hp->Prop
def EP(X:Cx)(a:Ki (eH×Kh))(e:St)(Q:VK)(u:iH)(d:Jx):Prop:=∃v b,Inv X a e b d/\RelV v u/\Q v b
def TP(X:Cx)(a:Ki (eH×Kh))(f:St)(Q:Km->Hp->Prop)(b:Km)(e:Jx):Prop:=∃d,Inv X a f d e/\Q b d
def AP(X:Cx)(a:Ki (eH×Kh))(e:St)(Q:Ki V->Hp->Prop)(us:Ki iH)(d:Jx):Prop:=∃vs b,Inv X a e b d/\Vals vs us/\Q vs b
def SP(X:Cx)(b:Ki (eH×Kh))(D:dY)(f:Flow)(e:Jx):Prop:=
 match f with
 | .next=>∃a d,Inv X b a d e/\D.nx a d
 | .brk=>∃a d,Inv X b a d e/\D.bk a d
 | .cont=>∃a d,Inv X b a d e/\D.ct a d
 | .ret u=>∃v a d,Inv X b a d e/\RelV v u/\D.rt v d
def PE(X:Cx)(e:Kc)(t:TE):Prop:=
 ∀(a:Ki (eH×Kh))(s:Jx)(b:St)(H:Hp)(Q:VK),Inv X a b H s->t b H Q->Kx (Ky X.prog X.w) X.A (eval e X.env) (EP X a b Q) X.xe s
def PT(X:Cx)(e:Kc)(t:TT):Prop:=
 ∀(a:Ki (eH×Kh))(s:Jx)(b:St)(H:Hp)(Q:Km->Hp->Prop),Inv X a b H s->t b H Q->Kx (Ky X.prog X.w) X.A (isTrue e X.env<|eval e X.env) (TP X a b Q) X.xe s
def PW(X:Cx)(e:Kc)(t:TT):Prop:=
 ∀(b:Ww iH)(a:Ki (eH×Kh))(s:Jx)(d:St)(H:Hp)(Q:Km->Hp->Prop),Inv X a d H s->t d H Q->Kx (Ky X.prog X.w) X.A (isTrue e X.env b) (TP X a d Q) X.xe s
def PW.pt(h:PW X e t):PT X e t:=h _
def PA(X:Cx)(e:Ki Kc)(t:TA):Prop:=
 ∀(b:Nc)(a:Ki (eH×Kh))(s:Jx)(d:St)(H:Hp)(Q:Ki V->Hp->Prop),Inv X a d H s->t d H Q->Kx (Ky X.prog X.w) X.A (Xw<|backTo b<|starEach e X.env) (AP X a d Q) X.xe s
def PS(X:Cx)(st:Kd)(t:TS):Prop:=
 ∀(a:Ki (eH×Kh))(s:Jx)(b:St)(H:Hp)(D:dY),Inv X a b H s->t D b H->Kx (Ky X.prog X.w) X.A (exec st X.env) (SP X a D) X.xe s
def PSs(X:Cx)(st:Ki Kd)(t:TS):Prop:=
 ∀(a:Ki (eH×Kh))(s:Jx)(b:St)(H:Hp)(D:dY),Inv X a b H s->t D b H->Kx (Ky X.prog X.w) X.A (execs st X.env) (SP X a D) X.xe s
def bA{e:Type}{t:Ww e}{Q b:e->Jx->Prop}{M:Model}{A:Kg}{E:Vp}{s:Jx}(h:Kx M A t Q E s)(d:∀a s,Q a s->b a s):Kx M A t b E s:=gC h d λ_ _ x=>x
section
inductive nV(i:Kk)(σ:Ki (Kj V))(H:Hp)(Q:VK):Prop
 | mk(v:V)(h:σ[i]?\Kp v)(q:Q v H):nV i σ H Q
def aI(i:Kk):TE:=λa H Q=>nV i a H Q
def tC(v:V):TE:=λ_ H Q=>Q v H
def rX(b:X.N[i]?\x)(f:IJ X.env.scope x)(hd:(x == ("__debug__":zZ))=false:=by decide)(d:(x == ("__classdict__":zZ))=false:=by decide):PE X (.Name x pos) (aI i):=by
 intro n s z H Q I h;obtain⟨v,e,h⟩:=h;obtain⟨m,j,hl⟩:=I.loc;obtain⟨u,r,l⟩:=hl i x v b e f;have a:EP X n z Q u s:=⟨v,H,I,r,h⟩;obtain⟨hk,w⟩|⟨hk,c,q,o⟩:=l
 .exact Vj (wpAny_loadName_local I.ok.kind hk j w a) hd
 .obtain hk|hk:=hk
  .exact Vj (wpAny_loadName_cell I.ok.kind hk q o a) hd
  .exact Vj (wpAny_loadName_free I.ok.kind hk q o a d) hd
def aO{i j pos}:PE X (.Constant (.int i) j pos) (tC<|.int i):=λ_ _ _ H _ I h=>wpAny_Constant_int ⟨.int i,H,I.tok _,⟨_,rfl⟩,h⟩
def yW{b j pos}:PE X (.Constant (.bool b) j pos) (tC<|.bl b):=λ_ _ _ H _ I h=>Constant_bool ⟨.bl b,H,I,rfl,h⟩
def gI{j pos}:PE X (.Constant .none j pos) (tC .non):=λ_ _ _ H _ I h=>Ti ⟨.non,H,I,rfl,h⟩
def aX{x j pos}:PE X (.Constant (.str x) j pos) (tC<|.str x):=λ_ _ _ H _ I h=>Calls.Constant_str ⟨.str x,H,I.tok _,⟨_,rfl⟩,h⟩
def Gl(X:Cx)(x:zZ):Prop:=X.env.kindOf x=Kp .globalImplicit
def LQ(I:Inv X pins σ H s)(a:Gl X x)(b:X.mg x\u)(h:Q u s)
  (hd:(x == ("__debug__":zZ))=false:=by decide):Kx (Ky X.prog X.w) X.A (eval (.Name x pos) X.env) Q E s:=
 Ql I.ok.kind a (Calls.loadGlobal_global (by rw[I.ok.glob];exact I.mod.glob.keeps I.bk) b h) hd
def mV{E:Vp}{f:Ki (eH×Kh)}{s:Jx}{l:St}{H:Hp}{x:zZ}{u:iH}{pos:Nc}{Q:Vp}(I:Inv X f l H s)(e:Gl X x)(a:X.mg x=Kr)(d:Mi x\u)(h:Q u s)
  (b:x≠"__name__":=by decide) (hd:(x == ("__debug__":zZ))=false:=by decide):Kx (Ky X.prog X.w) X.A (eval (.Name x pos) X.env) Q E s:=by
 obtain⟨i,j,m⟩:=I.mod.blt;exact Ql I.ok.kind e (Calls.loadGlobal_builtin (by rw[I.ok.glob];exact I.mod.glob.keeps I.bk) a (by rw[I.ok.blt];exact j.keeps I.bk) ((m x b).trans d) h) hd
def mI(a:Gl X x)(b:X.mg x\u)(r:RelV v u)(hd:(x == ("__debug__":zZ))=false:=by decide):PE X (.Name x pos) (tC v):=
 λ_ _ _ H _ I h=>LQ I a b ⟨v,H,I,r,h⟩ hd
def wL(e:Gl X x)(a:X.mg x=Kr)(d:Mi x\u)(r:RelV v u)(b:x≠"__name__":=by decide)(hd:(x == ("__debug__":zZ))=false:=by decide):PE X (.Name x pos) (tC v):=
 λ_ _ _ H _ I h=>mV I e a d ⟨v,H,I,r,h⟩ b hd
variable{a b:Kc}{ta tb:TE}{pos:Nc}
def PC(X:Cx)(i:CmpOp)(a b:Kc)(t:TE):Prop:=
 ∀(d:Ki (eH×Kh))(s:Jx)(h:St)(H:Hp)(Q:VK),Inv X d h H s->t h H Q->
  Kx (Ky X.prog X.w) X.A (eval a X.env) (λv f=>Kx (Ky X.prog X.w) X.A (eval b X.env) (λu e=>Kx (Ky X.prog X.w) X.A (Me i v u) (EP X d h Q) X.xe e) X.xe f) X.xe s
def VI(b:Kc){a:CmpOp}(h:a≠.In)(f:a≠.NotIn):Mm a b=false:=by
 have e:(a == CmpOp.In)=false:=by cases a <;> first | rfl | exact absurd rfl h
 have d:(a == CmpOp.NotIn)=false:=by cases a <;> first | rfl | exact absurd rfl f
 cases b <;> simp[Mm,e,d]
def AT(b:TE):TE:=λd H Q=>b d H λx a=>Q (.bl<|decide<|x=.non) a
def CN(b:TE):TE:=λd H Q=>b d H λx a=>Q (.bl<|!decide (x=.non)) a
def RelV.none_iff(r:RelV x v):(v == Mb)=decide (x=.non):=by
 cases x with
 | non=>cases r;rfl
 | bl _=>cases r;rfl
 | int _=>obtain⟨t,rfl⟩:=r;rfl
 | str _=>obtain⟨t,rfl⟩:=r;rfl
 | byt _=>obtain⟨t,rfl⟩:=r;rfl
 | flt _=>obtain⟨t,rfl⟩:=r;rfl
 | ref _=>cases r;rfl
 | ty _=>cases r;rfl
def kL{j pos'}(d:PE X a ta):PC X .Is a (.Constant .none j pos') (AT ta):=by
 intro i s n H Q I h;refine bA (d i s n H _ I h) ?_;rintro v l ⟨x,m,f,e,b⟩;exact Ti<|is_none_gen {.bl _,m,f,by rw[e.none_iff];rfl,b}
def rH{j pos'}(d:PE X a ta):PC X .IsNot a (.Constant .none j pos') (CN ta):=by
 intro i s n H Q I h;refine bA (d i s n H _ I h) ?_;rintro v l ⟨x,m,f,e,b⟩;exact Ti<|isnot_none_gen {.bl _,m,f,by rw[e.none_iff];rfl,b}
inductive uX(x:V)(H:Hp)(Q:Km->Hp->Prop):Prop
 | mk(c:Km)(h:x=.bl c)(q:Q c H):uX x H Q
def tB(t:TE):TT:=λb H Q=>t b H λx a=>uX x a Q
def NF(h:PC X op a b t)(f:Mm op b=false:=by first | exact VI _ (by decide) (by decide) | rfl):PE X (.Compare a [op] [b] pos) t:=λd s i H Q I e=>Wy (h d s i H Q I e) f
def gO{e:CmpOp}{t:TE}(h:PC X e a b t)(o:Mm e b=false:=by first | exact VI _ (by decide) (by decide) | rfl):PT X (.Compare a [e] [b] pos) (tB t):=by
 intro m s w H Q I i;refine Ui (bA (h m s w H _ I i) λv n o=>bA o λu A z=>bA z λc B ⟨x,r,l,f,j⟩=>?_) o;obtain⟨d,rfl,q⟩:=j;cases f;exact sD ⟨r,l,q⟩
def zC{e:Kc}{t:TE}(h:PE X e t)(he:∀m,isTrue e X.env m=(do let v <-m;Xv e.pos;holding [v]<|truthy v):=by intro _;rfl):PT X e (tB t):=by
 intro j s o H Q I b;refine Xz (bA (h j s o H _ I b) λv l ⟨x,n,i,a,f⟩=>?_)<|he _;obtain⟨d,rfl,q⟩:=f;cases a;exact sD ⟨n,i,q⟩
variable{tA tB':TT}{rest:Ki Kc}
def kE(t u:TT):TT:=λb H Q=>t b H λc a=>if c=Ks then u b a Q else Q Kt a
def OE(t u:TT):TT:=λb H Q=>t b H λc a=>if c=Ks then Q Ks a else u b a Q
def ML(t:TT):TT:=λb H Q=>t b H λc a=>Q (!c) a
def nX(b:PT X a tA):PW X (.BoolOp .And [a] pos) tA:=by
 intro f d s j H Q I h;refine isTrue_and<|bA (b d s j H Q I h) λc i e=>?_;cases c with
 | true=>exact isTrue_and_nil e
 | false=>exact e
def JN(b:PT X a tA):PW X (.BoolOp .Or [a] pos) tA:=by
 intro f d s j H Q I h;refine isTrue_or<|bA (b d s j H Q I h) λc i e=>?_;cases c with
 | false=>exact isTrue_or_nil e
 | true=>exact e
def lO(i:PT X a tA)(m:PW X (.BoolOp .And (b::rest) pos) tB'):PW X (.BoolOp .And (a::b::rest) pos) (kE tA tB'):=by
 intro j f s o H Q I h;refine isTrue_and<|bA (i f s o H _ I h) ?_;rintro c l ⟨n,e,d⟩;cases c with
 | true=>exact m j f l o n Q e d
 | false=>exact⟨n,e,d⟩
def NE(i:PT X a tA)(m:PW X (.BoolOp .Or (b::rest) pos) tB'):PW X (.BoolOp .Or (a::b::rest) pos) (OE tA tB'):=by
 intro j f s o H Q I h;refine isTrue_or<|bA (i f s o H _ I h) ?_;rintro c l ⟨n,e,d⟩;cases c with
 | true=>exact⟨n,e,d⟩
 | false=>exact m j f l o n Q e d
def RW(b:PT X a tA):PT X (.UnaryOp .Not a pos) (ML tA):=by
 intro d s f H Q I h;exact isTrue_not<|b d s f H (λc e=>Q (!c) e) I h
def AI(d e:TE):TE:=λb H Q=>d b H λx a=>∃c,x=.bl c/\if c=Ks then e b a Q else Q (.bl Kt) a
def CL(b:TE):TE:=λd H Q=>b d H λx a=>∃c,x=.bl c/\Q (.bl<|!c) a
def MP{op}(h:PE X a t):PE X (.BoolOp op [a] pos) t:=λb s e H Q I d=>BoolOp_one<|h b s e H Q I d
def FS(i:PE X a ta)(l:PE X (.BoolOp .And (b::rest) pos) tb):PE X (.BoolOp .And (a::b::rest) pos) (AI ta tb):=by
 intro f s o H Q I h;refine BoolOp_and<|bA (i f s o H _ I h) ?_;rintro v m ⟨x,n,e,j,d⟩;obtain⟨c,rfl,d⟩:=d;cases j;refine sD ?_;cases c with
 | true=>exact l f m o n Q e d
 | false=>exact{.bl Kt,n,e,U,d}
def wD(d:PE X a ta):PE X (.UnaryOp .Not a pos) (CL ta):=by
 intro i s m H Q I h;refine UnaryOp_<|bA (d i s m H _ I h) ?_;rintro v j ⟨x,l,f,e,b⟩;obtain⟨c,rfl,b⟩:=b;cases e;exact not_of<|sD {.bl<|!c,l,f,U,b}
def UL(t:TT)(d e:TE):TE:=λa H Q=>t a H λc b=>if c=Ks then d a b Q else e a b Q
def BG{c:Kc}(m:PT X c tA)(l:PE X a ta)(n:PE X b tb):PE X (.IfExp c a b pos) (UL tA ta tb):=by
 intro e s o H Q I h;refine wpAny_IfExp<|bA (m e s o H _ I h) ?_;rintro d j ⟨q,i,f⟩;cases d with
 | true=>exact l e j o q Q i f
 | false=>exact n e j o q Q i f
end
def SqL(K:Fq)(H:Hp)(a:eH)(xs:Ki V):Prop:=
 Rd H a (.lst xs)\/
  ∃(o:Kh)(b:Ko iH)(n:Kk),K.lookup a\o/\o.cls=.type "list"/\o.dict=Kr/\o.data=.seq b n/\b.size<=sizeLine/\Vals xs b.toList
def SqT(K:Fq)(H:Hp)(a:eH)(xs:Ki V):Prop:=
 Rd H a (.tup xs)\/
  ∃(o:Kh)(b:Ko iH)(n:Kk),K.lookup a\o/\o.cls=.type "tuple"/\o.data=.seq b n/\b.size<=sizeLine/\Vals xs b.toList
def KJ:iH->Kj V
 | .none=>Kp .non
 | .bool b=>Kp<|.bl b
 | .int i _=>Kp<|.int i
 | .str x _=>Kp<|.str x
 | .bytes b _=>Kp<|.byt b
 | .float b _=>Kp<|.flt b
 | .ref a=>Kp<|.ref a
 | .type n=>Kp<|.ty n
 | _=>Kr
def RelV.abs(r:RelV x u):KJ u\x:=by
 cases x with
 | non=>cases r;rfl
 | bl _=>cases r;rfl
 | int _=>obtain⟨t,rfl⟩:=r;rfl
 | str _=>obtain⟨t,rfl⟩:=r;rfl
 | byt _=>obtain⟨t,rfl⟩:=r;rfl
 | flt _=>obtain⟨t,rfl⟩:=r;rfl
 | ref _=>cases r;rfl
 | ty _=>cases r;rfl
def RelV.inj(r:RelV x u)(q:RelV y u):x=y:=gX<|r.abs.symm.trans q.abs
theorem Vals.inj:∀{xs ys:Ki V}{us:Ki iH},Vals xs us->Vals ys us->xs=ys
 | _,_,_,.nil,.nil=>rfl
 | _,_,_,.cons r t,.cons a b=>by rw[r.inj a,Vals.inj t b]
section
variable{pins:Ki (eH×Kh)}{σ:St}{H:Hp}{s:Jx}{a:eH}{xs ys:Ki V}
def SqL.of{K:Fq}(h:H a\.lst xs):SqL K H a xs:=.inl<|.inl h
def SqT.of{K:Fq}(h:H a\.tup xs):SqT K H a xs:=.inl<|.inl h
def Inv.list(I:Inv X pins σ H s)(h:SqL X.K H a xs):∃b:Ki iH,Vals xs b/\PlainL s.heap a b.toArray/\↑xs<=sizeLine:=by
 obtain h|⟨o,b,n,d,f,hd,i,j,r⟩:=h
 .obtain⟨z,b,n,r,e⟩:=h.ok I.hok;exact{b,r,{_,n,e,U,U,U},z}
 .exists b.toList,r,⟨o,n,I.kIn a o d,f,hd,by simpa using i⟩;have e:=↑r;simp only[GQ]at e;lia
def Inv.tuple(I:Inv X pins σ H s)(h:SqT X.K H a xs):∃b:Ki iH,Vals xs b/\Pw s.heap a b.toArray/\↑xs<=sizeLine:=by
 obtain h|⟨o,b,n,d,f,i,j,r⟩:=h
 .obtain⟨z,b,r,p⟩:=h.ok I.hok;exact{b,r,p,z.1}
 .exists b.toList,r,⟨o,I.kIn a o d,f,n,by simpa using i⟩;have e:=↑r;simp only[GQ]at e;lia
def Inv.list_inj(I:Inv X pins σ H s)(h:SqL X.K H a xs)(h':SqL X.K H a ys):xs=ys:=by
 obtain⟨i,r,⟨o,n,e,_,_,d⟩,_⟩:=I.list h;obtain⟨its',l,⟨m,f,b,_,_,j⟩,_⟩:=I.list h';rw[e]at b;cases b;rw[d]at j;injection j with d1 _;have:i=its':=by simpa using cH Rl d1
 subst this;exact r.inj l
def Inv.tuple_inj(I:Inv X pins σ H s)(h:SqT X.K H a xs)(h':SqT X.K H a ys):xs=ys:=by
 obtain⟨i,r,⟨o,e,_,n,d⟩,_⟩:=I.tuple h;obtain⟨its',l,⟨m,b,_,f,j⟩,_⟩:=I.tuple h';rw[e]at b;cases b;rw[d]at j;injection j with d1 _;have:i=its':=by simpa using cH Rl d1
 subst this;exact r.inj l
end
open SqL renaming of->Yl
open SqT renaming of->Ym
abbrev Cx.wish(X:Cx)(E:Vp):Cx:={X with xe:=E}
abbrev Cx.nox(X:Cx):Cx:=X.wish λ_ _=>Kn
theorem Cx.Ok.wish{X:Cx}(ok:X.Ok)(E:Vp):(X.wish E).Ok:=
 ⟨ok.mod,ok.kind,ok.glob,ok.blt,ok.above,ok.inj,ok.has,ok.cab,ok.hd,ok.frames,ok.stk,ok.exf,ok.bs,ok.bsz,ok.noex,ok.exfs,ok.funs,ok.frf⟩
def Cx.Ok.unwish{X:Cx}{E:Vp}(ok:(X.wish E).Ok):X.Ok:=
 ⟨ok.mod,ok.kind,ok.glob,ok.blt,ok.above,ok.inj,ok.has,ok.cab,ok.hd,ok.frames,ok.stk,ok.exf,ok.bs,ok.bsz,ok.noex,ok.exfs,ok.funs,ok.frf⟩
section
variable{pins:Ki (eH×Kh)}{σ:St}{H:Hp}{s:Jx}{E:Vp}
theorem Inv.wish(I:Inv X pins σ H s)(E:Vp):Inv (X.wish E) pins σ H s:=⟨I.ok.wish E,I.os,I.bare,I.base,I.loc,I.cell,I.free,I.freeC,I.pin,I.hok,I.len⟩
theorem Inv.unwish(I:Inv (X.wish E) pins σ H s):Inv X pins σ H s:=⟨I.ok.unwish,I.os,I.bare,I.base,I.loc,I.cell,I.free,I.freeC,I.pin,I.hok,I.len⟩
theorem SP.unwish{f:Flow}(h:SP (X.wish E) pins D f s'):SP X pins D f s':=by
 cases f with
 | next=>obtain⟨a,b,I,q⟩:=h;exact{a,b,I.unwish,q}
 | brk=>obtain⟨a,b,I,q⟩:=h;exact{a,b,I.unwish,q}
 | cont=>obtain⟨a,b,I,q⟩:=h;exact{a,b,I.unwish,q}
 | ret u=>obtain⟨v,a,b,I,r,q⟩:=h;exact{v,a,b,I.unwish,r,q}
theorem PSs.nox{st:Ki Kd}{t:TS}(h:PSs X.nox st t):PSs X st t:=λa s σ H D I b=>
 gC (h a s σ H D (I.wish _) b) (λ_ _ q=>q.unwish) λ_ _ z=>Mg z
end
section
variable{st:Kd}{rest:Ki Kd}{t u:TS}{e:Kc}{te:TE}{pos:Nc}
def xH:TS:=λD a H=>D.nx a H
def gA(t u:TS):TS:=λD a H=>t {D with nx:=u D} a H
def cS:PSs X [] xH:=λ_ _ a H _ I h=>Ot ⟨a,H,I,h⟩
def aJ(i:PS X st t)(m:PSs X rest u):PSs X (st::rest) (gA t u):=by
 intro a s j H D I h;refine Wc<|bA (i a s j H {D with nx:=u D} I h) λf d q=>?_;cases f with
 | next=>
  obtain⟨e,l,b,q⟩:=q;exact m a d e l D b q
 | ret v=>exact q
 | brk=>exact q
 | cont=>exact q
def aR(d:PS X st t):PSs X [st] t:=by
 intro a s e H D I h;refine Wc<|bA (d a s e H D I h) λf b q=>?_;cases f with
 | next=>exact Ot q
 | ret v=>exact q
 | brk=>exact q
 | cont=>exact q
def Inv.quiet(I:Inv X pins σ H s):interactive X.env=false:=by simp[interactive,I.ok.kind]
def AO(te:TE):TS:=λD a H=>te a H λ_ b=>D.nx a b
def dH(he:PE X e te)(hs:Nb e Kr pos.line X.env=pure false:=by rfl):PS X (.Expr e pos) (AO te):=by
 intro d s j H D I h;exact wpAny_Expr_any (bA (he d s j H _ I h) <| by rintro v i ⟨x,l,b,f,a⟩;exact⟨j,l,b,a⟩) I.quiet hs
def iK(te:TE):TS:=λD a H=>te a H D.rt
def bQ(he:PE X e te):PS X (.Return (Kp e) pos) (iK te):=by
 intro f s j H D I h;exact wpAny_Return_some (bA (he f s j H _ I h) <| by rintro v i ⟨x,l,d,b,a⟩;exact⟨x,j,l,d,b,a⟩)
def BU:TS:=λD _ H=>D.rt .non H
def QM:PS X (.Return Kr pos) BU:=λ_ _ a H _ I h=>wpAny_Return_none ⟨.non,a,H,I,rfl,h⟩
def jJ(c:TT)(t u:TS):TS:=λD a H=>c a H λb d=>if b=Ks then t D a d else u D a d
def cG{c:Kc}{a b:Ki Kd}{q:TT}(m:PT X c q)(l:PSs X a t)(n:PSs X b u):PS X (.If c a b pos) (jJ q t u):=by
 intro e s o H D I h;refine wpAny_If<|bA (m e s o H _ I h) ?_;rintro d j ⟨r,i,f⟩;cases d with
 | true=>exact l e j o r D i f
 | false=>exact n e j o r D i f
def VZ:TS:=λ_ _ _=>Kn
def yC:PS X st VZ:=λ_ _ _ _ _ _ h=>h.elim
def ZJ:PSs X sts VZ:=λ_ _ _ _ _ _ h=>h.elim
end
abbrev TG:=V->St->Hp->(St->Hp->Prop)->Prop
abbrev pT:=Ki V->St->Hp->(St->Hp->Prop)->Prop
def PG(X:Cx)(a:Kc)(t:TG):Prop:=
 ∀(b:Ki (eH×Kh))(s:Jx)(e:St)(H:Hp)(v:V)(u:iH)(Q:St->Hp->Prop),Inv X b e H s->RelV v u->t v e H Q->
  Kx (Ky X.prog X.w) X.A (assign a X.env u) (λ_ h=>∃d f,Inv X b d f h/\Q d f) X.xe s
def HE(X:Cx)(ts:Ki Kc)(t:pT):Prop:=
 ∀(a:Ki (eH×Kh))(s:Jx)(d:St)(H:Hp)(vs:Ki V)(f:Ki iH)(Q:St->Hp->Prop),Inv X a d H s->Vals vs f->t vs d H Q->
  Kx (Ky X.prog X.w) X.A (Td ((Op ts X.env).map (·.2)) f) (λ_ h=>∃b e,Inv X a b e h/\Q b e) X.xe s
abbrev sI:=V->V->V->Hp->(Hp->Prop)->Prop
def AY(X:Cx)(t:sI):Prop:=
 ∀(a:Ki (eH×Kh))(s:Jx)(d:St)(H:Hp)(o i v:V)(e b u:iH)(Q:Hp->Prop),Inv X a d H s->RelV o e->RelV i b->RelV v u->t o i v H Q->
  Kx (Ky X.prog X.w) X.A (Xx e b u) (λ_ h=>∃f,Inv X a d f h/\Q f) X.xe s
section
variable{pos:Nc}
def cJ(i:Kk):TG:=λv a H Q=>Q (a.set i<|some v) H
def yR(d:X.N.Nodup)(hi:X.N[i]?\x)(e:yF X.env.scope x)(a:X.fn x=Ks\/X.env.scope.names.lookup x\.local:=by first | exact .inl rfl | exact .inr rfl | assumption):PG X (.Name x pos) (cJ i):=by
 intro f s l H v u Q I r h;exact Qd<|IA I d hi e r (λj b=>{_,H,b,h}) a
inductive SS(vs:Ki V)(σ:Ki (Kj V))(H:Hp)(Q:Ki (Kj V)->Hp->Prop):Prop
 | mk(h:vs=[])(q:Q σ H):SS vs σ H Q
def eV:pT:=λvs a H Q=>SS vs a H Q
inductive WB(t:TG)(u:pT)(vs:Ki V)(σ:Ki (Kj V))(H:Hp)(Q:Ki (Kj V)->Hp->Prop):Prop
 | mk(v:V)(r:Ki V)(h:vs=v::r)(q:t v σ H λσ2 H2=>u r σ2 H2 Q):WB t u vs σ H Q
def eR(t:TG)(u:pT):pT:=λvs a H Q=>WB t u vs a H Q
def dX:HE X [] eV:=by
 intro a s b H vs d Q I r h;obtain⟨e,h⟩:=h;subst e;cases r;exact Vv ⟨b,H,I,h⟩
def bK{e:Kc}{l:Ki Kc}{t:TG}{u:pT}(x:PG X e t)(w:HE X l u)
  (hs:(Op (e::l) X.env).map (·.2)=assign e X.env::(Op l X.env).map (·.2):=by rfl):HE X (e::l) (eR t u):=by
 intro a s q H vs z Q I r h;obtain⟨v,j,f,h⟩:=h;subst f;cases r with
 | cons r o=>
  rw[hs];refine assignInOrder_cons<|bA (x a s q H _ _ _ I r h) ?_;rintro _ i ⟨m,n,d,b⟩;exact w a i m n _ _ Q d o b
inductive VM(K:Fq)(n:Kk)(t:pT)(v:V)(σ:Ki (Kj V))(H:Hp)(Q:Ki (Kj V)->Hp->Prop):Prop
 | mk(a:eH)(xs:Ki V)(h1:v=.ref a)(h2:SqT K H a xs)(h3:↑xs=n)(q:t xs σ H Q):VM K n t v σ H Q
def fC(K:Fq)(n:Kk)(t:pT):TG:=λv a H Q=>VM K n t v a H Q
def dS(j:X.calm=Ks)(h:HE X es t)
  (q:↑(Op es X.env)=n:=by rfl) (x:(Op es X.env).findIdx? (·.1)=none:=by rfl):PG X (.Tuple es k pos) (fC X.K n t):=by
 intro f s B H v u Q I r d;obtain⟨a,G,A,z,hl,d⟩:=d;subst A;cases r;obtain⟨C,i,m,J⟩:=I.tuple z;refine assign_Tuple_tuple (I.ok.hd j) m (by simp[q,<-hl,i.length]) x λE l=>?_
 have w:Inv X f B H {s with heap:=E}:=I.kept (t':=s.toks) λb o e=>l b o (cP<|cB e) e;exact h f _ B H G _ Q w (by simpa using i) d
def PH(to e:TE)(t:sI):TG:=λv a H Q=>to a H λo f=>e a f λi b=>t o i v b λd=>Q a d
def wT{o i:Kc}{to e:TE}{t:sI}(z:PE X o to)(hi:PE X i e)(hs:AY X t)
  (f:∀v,assign (.Subscript o i pos) X.env v=(do
   let a <-holding [v] (eval o X.env)
   let b <-holding [v,a] (eval i X.env)
   Xv pos
   holding [v,a,b] (Xx a b v)
   release [v,a,b] []):=by intro _;rfl):PG X (.Subscript o i pos) (PH to e t):=by
 intro d s E H v u Q I r h;rw[f];refine aN<|jM<|bA (z d s E H _ I h) ?_;rintro a C ⟨x,L,A,j,w⟩;refine aN<|jM<|bA (hi d C E L _ A w) ?_;rintro b M ⟨y,G,l,B,q⟩;refine aN<|pC<|aN<|jM<|bA (hs d M E G x y v a b u _ l j B r q) ?_;rintro _ N ⟨J,m,n⟩;exact wpAny_release ⟨E,J,m,n⟩
def gG(te:TE)(g:TG):TS:=λD a H=>te a H λx b=>g x a b D.nx
def hY{m e:Kc}{te:TE}{g:TG}(he:PE X e te)(d:PG X m g)(hs:Xm [m] e pos.line X.env=pure false:=by rfl)(f:Xn [m] e X.env=pure none:=by rfl)
  (r:(Op [m] X.env).map (·.2)=[assign m X.env]:=by rfl):PS X (.Assign [m] e pos) (gG te g):=by
 intro a s n H D I h;refine wpAny_Assign_stores (bA (he a s n H _ I h) λv l ⟨x,o,j,b,i⟩=>?_) hs f;rw[r];exact bA (d a l n o x v _ j b i) λ_ u q=>q
def iU{i:Kk}{x:zZ}{e:Kc}{te:TE}{a:Nc}(d:X.N.Nodup)(hi:X.N[i]?\x)(l:yF X.env.scope x)(he:PE X e te)(hs:Nb e (Kp<|.Name x a) pos.line X.env=pure false:=by rfl)(b:X.fn x=Ks\/X.env.scope.names.lookup x\.local:=by first | exact .inl rfl | exact .inr rfl | assumption):
  PS X (.Assign [.Name x a] e pos) (gG te<|cJ i):=by
 intro o s u H D I h;refine wpAny_Assign_Name (bA (he o s u H _ I h) λv q ⟨y,r,n,f,m⟩=>?_) hs;exact IA n d hi l f (λw j=>{_,r,j,m}) b
def QQ(i j:Kk)(b:TA):TS:=λD a H=>b a H λvs d=>∃v w,vs=[v,w]/\D.nx ((a.set i<|some v).set j<|some w) d
def vX{i j:Kk}{x y:zZ}{a b:Kc}{ta:TA}{r m pt:Nc}{kt k2 pt2}(J:X.calm=Ks)(B:X.N.Nodup)(hi:X.N[i]?\x)(P:X.N[j]?\y)(a3:i≠j)
  (u:X.env.scope.names.lookup x\.local) (E:X.env.scope.names.lookup y\.local) (Z:PA X [a,b] ta)
  (T:Xn [.Tuple [.Name x r,.Name y m] kt pt] (.Tuple [a,b] k2 pt2) X.env=pure (Kp [x,y]))
  (hs:Xm [.Tuple [.Name x r,.Name y m] kt pt] (.Tuple [a,b] k2 pt2) pos.line X.env=pure false:=by rfl):
  PS X (.Assign [.Tuple [.Name x r,.Name y m] kt pt] (.Tuple [a,b] k2 pt2) pos) (QQ i j ta):=by
 intro z s σ H D I h;rw[exec_Assign_arm];refine aN<|pC ?_;rw[hs];refine aN<|bL ?_;rw[bC<|by decide];refine aN<|Tuple_<|bA (Z _ z s σ H _ I h) ?_;rintro us f ⟨vs,H1,W,G,n⟩;obtain⟨v,w,e1,n⟩:=n;subst e1;obtain⟨d,l,rfl,Y,L⟩:∃d l,us=[d,l]/\RelV v d/\RelV w l:=by
  cases G with
  | cons p q=>
   cases q with
   | cons p' q'=>
    cases q';exact{_,_,U,p,p'}
 refine lX ?_ (by show 2<=sizeLine;decide);have M:Inv X z σ H1 {f with heap:=f.heap.push {cls:=.type "tuple",data:=.seq [d,l].toArray}}:=W.kept (t':=f.toks) λb o e=>bY _ e;rw[T];refine aN<|bL ?_;show Kx (Ky X.prog X.w) X.A (do rule "assign.swapped-stores";let items <-unpackItems (.ref f⁻¹) 2 Kr;Td [λv=>Uw X.env y v,λv=>Uw X.env x v] items.reverse;pure Flow.next) _ _ _;refine aN<|sN<|aN<|unpackItems_tuple (items:=#[d,l]) (I.ok.hd J) (Pw.new f.heap _) λh' a1=>?_;have O:=M.kept (h':=h') (t':=f.toks) λb o e=>a1 b o (cP<|cB e) e;show Kx _ _ (Td [λv=>Uw X.env y v,λv=>Uw X.env x v] [l,d] >>= λ_=>pure Flow.next) _ _ _;refine aN<|assignInOrder_cons<|wpAny_bindName<|IA O B P (.inl E) L (λs2 I4=>?_)<|.inr E;refine assignInOrder_cons<|wpAny_bindName<|IA I4 B hi (.inl u) Y (λs3 C=>Vv<|bL ?_)<|.inr u;rw[Ki.set_comm _ _<|bS a3]at C;exact{_,H1,C,n}
end
section
variable{pos:Nc}
def US(c:TT)(h:TS):TS:=λD a H=>∃W:Kk->St->Hp->Prop,(∃m,W m a H)/\∀m a H,W m a H->
 c a H λb f=>if b=Ks then ∃N:St->Hp->Prop,(∀d e,N d e->∃m',m'<m/\W m' d e)/\h {D with nx:=N,ct:=N,bk:=D.nx} a f else D.nx a f
def IB{c:Kc}{body:Ki Kd}{Z:TT}{T:TS}(hp:PassesOwn (Ky X.prog X.w) X.A X.env X.xe)(r:PT X c Z)(x:PSs X body T):PS X (.While c body [] pos) (US Z T):=by
 intro j s σ H D I h;obtain⟨W,⟨u,z⟩,G⟩:=h;refine wpAny_While<|codeAny_whileLoop (λn s'=>∃O Y,Inv X j O Y s'/\W n O Y) ?_ u ⟨σ,H,I,z⟩;rintro n C ⟨L,H1,B,E⟩;refine uP hp<|bA (r j C L H1 _ B<|G n L H1 E) ?_;rintro b s2 ⟨P,o,d⟩;cases b with
 | true=>
  obtain⟨N,q,d⟩:=d;rw[bF rfl];refine uP hp<|bA (x j s2 L P _ o d) λf s3 a=>?_;cases f with
  | next=>
   obtain⟨J,M,e,m⟩:=a;obtain⟨m',i,l⟩:=q J M m;exact⟨m',i,J,M,e,l⟩
  | cont=>
   obtain⟨J,M,e,m⟩:=a;obtain⟨m',i,l⟩:=q J M m;exact⟨m',i,J,M,e,l⟩
  | brk=>exact a
  | ret v=>exact a
 | false=>
  rw[bC fE];exact Ot ⟨L,P,o,d⟩
end
structure It where
 go:Kk->Hp->Prop
 yld:Kk->Hp->V->Hp->Prop
 stop:Kk->Hp->Prop
def dR(X:Cx)(a:Ki (eH×Kh))(H:Hp)(b:eH):Prop:=
 H b=Kr/\b≠X.env.locals/\b∉X.fs/\(b∈X.ex\/X.s₀⁻¹<=b)/\(∀x c,X.env.cells.lookup x\c->c≠b)/\∀p∈X.pn++a,p.1≠b
def Inv.fpOk(I:Inv X pins σ H s)(a:s⁻¹<=b)(d:H' b=Kr):dR X pins H' b:=by
 refine{d,jP<|iA I.lt a,I.nofs a,.inr<|hX I.sz a,λx c e z=>?_,λp f z=>?_}
 .obtain⟨v,q⟩:=I.cell x c e;exact absurd (iA q.lt<|by rw[z];exact a)<|jQ _
 .exact absurd (iA (cB (I.pin p f).1)<|by rw[z];exact a)<|jQ _
structure fQ(P:Jz)(w:Kb)(K:Fq)(tg:Kc)(J:It)(fp:Ki eH)(it:eH)(tn:Kk->Ka->Prop):Prop where
 mem:it∈fp
 obj:∀i h,tn i h->∀b∈fp,∃o,h.get? b\o/\∀v,o.data≠.cell v
 keep:∀i h h',tn i h->(∀b∈fp,∀o,h.get? b\o->h'.get? b\o)->tn i h'
 item:∀(X:Cx),X.prog=P->X.w=w->X.K=K->X.calm=Ks->∀(i:Kk)(pins:Ki (eH×Kh))(s:Jx)(σ:St)(H:Hp)(E:Vp),Inv X pins σ H s->(∀b∈fp,dR X pins H b)->tn i s.heap->J.go i H->
  Kx (Ky P w) X.A (Ml<|.ref it) (λr s1=>∃u,r\u/\ Kx (Ky P w) X.A (Nd tg (.ref it) u) (λ_ s2=>∃x H',Inv X pins σ H' s2/\RelV x u/\J.yld i H x H'/\tn (i+1) s2.heap/\∀b∈fp,H' b=Kr) E s1) E s
 done:∀(X:Cx),X.prog=P->X.w=w->X.K=K->X.calm=Ks->∀(i:Kk)(pins:Ki (eH×Kh))(s:Jx)(σ:St)(H:Hp)(E:Vp),Inv X pins σ H s->(∀b∈fp,dR X pins H b)->tn i s.heap->J.stop i H->
  Kx (Ky P w) X.A (Ml<|.ref it) (λr s1=>r=Kr/\Inv X pins σ H s1) E s
 self:∀(A:Kg)(i:Kk)(s:Jx)(Q:Vp)(E:Vp),tn i s.heap->Q (.ref it) s->Kx (Ky P w) A (Vm<|.ref it) Q E s
abbrev TI:=St->Hp->(It->Hp->Prop)->Prop
def MX(X:Cx)(a:Ki (eH×Kh))(m:St)(l:Kc)(R:It->Hp->Prop)(e:iH)(h:Jx):Prop:=
 ∃(i:eH)(j:Ki eH)(f:Kk->Ka->Prop)(J:It)(d:Hp),e=.ref i/\Inv X a m d h/\fQ X.prog X.w X.K l J j i f/\f 0 h.heap/\(∀b∈j,dR X a d b)/\R J d
def PI(X:Cx)(d iter:Kc)(e:TI):Prop:=
 ∀(a:Ki (eH×Kh))(s:Jx)(b:St)(H:Hp)(R:It->Hp->Prop),Inv X a b H s->e b H R->
  Kx (Ky X.prog X.w) X.A (eval iter X.env) (λv f=>Kx (Ky X.prog X.w) X.A (Vm v) (MX X a b d R) X.xe f) X.xe s
def tX(b:s.heap.get? it\o)(d:o.cls=.type n)(hd:o.data=.fields vs)
  (e:["enumerate","zip","dict_itemiterator","dict_reverseitemiterator","odict_iterator","itertools.zip_longest","itertools.pairwise"].contains n=Kt) (a:Q () s):Kx M A (Nd tg (.ref it) u) Q E s:=by
 unfold Nd;cases tg <;> first
  | exact bL a
  | (cases u <;> first
    | exact bL a
    | (refine aN<|wpAny_load b ?_;rw[d,hd];show Kx M A (if (["enumerate","zip","dict_itemiterator","dict_reverseitemiterator","odict_iterator","itertools.zip_longest","itertools.pairwise"].contains n && vs[0]? == Kp (Py _))=Ks then _ else _) Q E s;rw[bC<|by intro h;rw[e,Km.false_and]at h;cases h];exact bL a))
def tF(K:Fq)(a:eH):It:=
 ⟨λi H=>∃b x,SqL K H a b/\b[i]?\x,λi H x d=>d=H/\∀b,SqL K H a b->b[i]?\x,λi H=>∃b,SqL K H a b/\↑b<=i⟩
def mF(K:Fq)(a:eH):It:=
 ⟨λi H=>∃b x,SqT K H a b/\b[i]?\x,λi H x d=>d=H/\∀b,SqT K H a b->b[i]?\x,λi H=>∃b,SqT K H a b/\↑b<=i⟩
def xP(lo:Kl)(n:Kk):It:=⟨λi _=>i<n,λi H x a=>a=H/\x=.int (lo+i),λi _=>n<=i⟩
def Ij{P:Jz}{w:Kb}{K:Fq}{tg:Kc}(a it:eH):fQ P w K tg (tF K a) [it] it (λi h=>h.IsListIter it a i) where
 mem:=by simp
 obj:=λi h st b f=>by
  have e:b=it:=by simpa using f
  subst e;obtain⟨o,e,c,d⟩:=st;exact{o,e,λv z=>by rw[d]at z;cases z}
 keep:=λi h h' st k=>st.at λo e=>k it (by simp) o e
 item:=by
  intro X J B A N i O s σ H E I j st q;subst J B A;obtain⟨xs,x,l,n⟩:=q;obtain⟨its,G,p,hz⟩:=I.list l;obtain⟨u,hu,ru⟩:=G.get n;obtain⟨C,r,Y,M,L,m⟩:=j it (by simp);refine wpAny_pyNext_list_item st p.isList (x:=u) (by simpa using hu) λh' T Z=>?_
  have W:Inv X O σ H {s with heap:=h'}:=I.turned (t':=s.toks) (λb o f e=>(Z.2 b f).trans e) C r M L m;obtain⟨o,e,c,d⟩:=id T;exact{u,U,tX (s:={s with heap:=h'}) e c d (by decide) {x,H,W,ru,{U,λys hy=>by rw[I.list_inj hy l];exact n},T,λb f=>(j b f).1}}
 done:=by
  intro X J B A N i O s σ H E I j st q;subst J B A;obtain⟨xs,l,n⟩:=q;obtain⟨its,G,p,hz⟩:=I.list l;obtain⟨C,r,Y,M,L,m⟩:=j it (by simp);have hl:=G.length;exact wpAny_pyNext_list_end (I.ok.hd N) st p.isList (by simp;lia) λh' eb=>{U,I.turned (t':=s.toks) (λb o f e=>eb b o f e) C r M L m}
 self:=λ_ _ _ _ _ st h=>wpAny_pyIter_listiter st h
def Cj{P:Jz}{w:Kb}{K:Fq}{tg:Kc}(a it:eH):fQ P w K tg (mF K a) [it] it (λi h=>h.IsTupleIter it a i) where
 mem:=by simp
 obj:=λi h st b f=>by
  have e:b=it:=by simpa using f
  subst e;obtain⟨o,e,c,d⟩:=st;exact{o,e,λv z=>by rw[d]at z;cases z}
 keep:=λi h h' st k=>st.at λo e=>k it (by simp) o e
 item:=by
  intro X J B A N i O s σ H E I j st q;subst J B A;obtain⟨xs,x,l,n⟩:=q;obtain⟨its,G,p,hz⟩:=I.tuple l;obtain⟨u,hu,ru⟩:=G.get n;obtain⟨C,r,Y,M,L,m⟩:=j it (by simp);refine wpAny_pyNext_tuple_item st (show s.heap.IsTuple a its.toArray from p) (x:=u) (by simpa using hu) λh' T Z=>?_
  have W:Inv X O σ H {s with heap:=h'}:=I.turned (t':=s.toks) (λb o f e=>(Z.2 b f).trans e) C r M L m;obtain⟨o,e,c,d⟩:=id T;exact{u,U,tX (s:={s with heap:=h'}) e c d (by decide) {x,H,W,ru,{U,λys hy=>by rw[I.tuple_inj hy l];exact n},T,λb f=>(j b f).1}}
 done:=by
  intro X J B A N i O s σ H E I j st q;subst J B A;obtain⟨xs,l,n⟩:=q;obtain⟨its,G,p,hz⟩:=I.tuple l;obtain⟨C,r,Y,M,L,m⟩:=j it (by simp);have hl:=G.length;exact wpAny_pyNext_tuple_end (I.ok.hd N) st (show s.heap.IsTuple a its.toArray from p) (by simp;lia) λh' eb=>⟨rfl,I.turned (t':=s.toks) (λb o f e=>eb b o f e) C r M L m⟩
 self:=λ_ _ _ _ _ st h=>wpAny_pyIter_tupleiter st h
def Cb{P:Jz}{w:Kb}{K:Fq}{tg:Kc}(Y:eH)(lo:Kl)(n:Kk):fQ P w K tg (xP lo n) [Y] Y (λi h=>Re h Y (lo+(i:Kk)*1) ((n:Kl)-(i:Kk)) 1) where
 mem:=by simp
 obj:=λi h st b a=>by
  have e:b=Y:=by simpa using a
  subst e;exact{_,st,λv z=>by
   have O:Data.fields _=Wu v:=z;cases O}
 keep:=λi h Z st k=>k Y (by simp) _ st
 item:=by
  intro X x r q f i C s σ H E I d st l;subst x r q;obtain⟨u,m,N,B,A,j⟩:=d Y (by simp);have W:=Walks.range (prog:=X.prog) (w:=X.w) (I.ok.hd f) Y lo 1 n;refine W.item i s _ _ l st λv Z tk L G J=>?_;obtain⟨t,rfl⟩:=L;have M:Inv X C σ H {s with heap:=Z,toks:=tk}:=I.turned (λb o a e=>J b o (by simpa using a) e) u m B A j;refine{_,U,tX (s:={s with heap:=Z,toks:=tk}) (n:="range_iterator") G rfl rfl (by decide) {.int<|lo+i,H,M,{t,?_},⟨rfl,rfl⟩,G,λb a=>(d b a).1}};rw[Kl.mul_one]
 done:=by
  intro X x r q f i C s σ H E I d st l;subst x r q;obtain⟨u,m,N,B,A,j⟩:=d Y (by simp);exact Tx (I.ok.hd f) st (by have:n<=i:=l;lia) λZ T=>{U,I.turned (t':=s.toks) (λb o a e=>T b o a e) u m B A j}
 self:=λ_ _ _ _ _ st h=>Tz st h
section
variable{tg:Kc}
inductive WQ(K:Fq)(x:V)(H:Hp)(R:It->Hp->Prop):Prop
 | mk(a:eH)(h:x=.ref a)(h2:∃xs,SqL K H a xs)(q:R (tF K a) H):WQ K x H R
def pN(K:Fq)(d:TE):TI:=λb H R=>d b H λx a=>WQ K x a R
inductive WZ(K:Fq)(x:V)(H:Hp)(R:It->Hp->Prop):Prop
 | mk(a:eH)(h:x=.ref a)(h2:∃xs,SqT K H a xs)(q:R (mF K a) H):WZ K x H R
def JS(K:Fq)(d:TE):TI:=λb H R=>d b H λx a=>WZ K x a R
def iJ{l:Kc}{w:TE}(hl:PE X l w):PI X tg l (pN X.K w):=by
 intro n s B H R I h;refine bA (hl n s B H _ I h) ?_;rintro v f ⟨x,A,d,i,m⟩;obtain⟨a,e,⟨E,r⟩,q⟩:=m;subst e;cases i;obtain⟨z,u,p,C⟩:=d.list r;refine HW p.isList ?_;refine{f⁻¹,[f⁻¹],_,_,A,U,d.kept (t':=f.toks) λb o e=>bY _ e,Ij a _,{_,dQ _ rfl,U,U},λb j=>?_,q};have e:b=f⁻¹:=by simpa using j
 subst e;exact d.fpOk (aZ _)<|d.hok.fresh<|aZ _
def iC{l:Kc}{z:TE}(hl:PE X l z):PI X tg l (JS X.K z):=by
 intro n s B H R I h;refine bA (hl n s B H _ I h) ?_;rintro v d ⟨x,A,f,i,m⟩;obtain⟨a,e,⟨E,r⟩,q⟩:=m;subst e;cases i;obtain⟨w,u,p,C⟩:=f.tuple r;refine Px (show d.heap.IsTuple a w.toArray from p) ?_;refine{d⁻¹,[d⁻¹],_,_,A,U,f.kept (t':=d.toks) λb o e=>bY _ e,Cj a _,{_,dQ _ rfl,U,U},λb j=>?_,q};have e:b=d⁻¹:=by simpa using j
 subst e;exact f.fpOk (aZ _)<|f.hok.fresh<|aZ _
def Ex{d:Ki (eH×Kh)}{n:St}{H:Hp}{s:Jx}{R:It->Hp->Prop}{E:Vp}{lo hi:Kl}{t u v:Ye}{m:Kk}(I:Inv X d n H s)(r:-(2 ^ 62)<=lo)(x:lo<2 ^ 62)(h:-(2 ^ 62)<=hi)(l:hi<2 ^ 62)
  (q:R (xP lo (hi-lo).toNat) H):Kx (Ky X.prog X.w) X.A (Vm<|.ref s⁻¹) (MX X d n tg R) E {s with heap:=s.heap.push {cls:=.type "range",data:=.fields #[.int lo t,.int hi u,.int 1 v]},toks:=m}:=by
 refine Vh (IsRange.new ..) (small_one r x h l) ?_;have a:Inv X d n H {s with heap:=s.heap.push {cls:=.type "range",data:=.fields #[.int lo t,.int hi u,.int 1 v]},toks:=m}:=I.kept λb o e=>bY _ e;refine{(s.heap.push {cls:=.type "range",data:=.fields #[.int lo t,.int hi u,.int 1 v]}).objs.size,[(s.heap.push {cls:=.type "range",data:=.fields #[.int lo t,.int hi u,.int 1 v]}).objs.size],_,_,H,U, a.kept (t':=m) λb o e=>bY _ e,Cb _ lo (hi-lo).toNat,?_,λb f=>?_,q}
 .have j:lo+((0:Kk):Kl)*1=lo:=by simp
  have i:(((hi-lo).toNat:Kk):Kl)-((0:Kk):Kl)=Mw lo hi 1:=by rw[rangeSize_one];split <;> lia
  show Re _ _ (lo+((0:Kk):Kl)*1) ((((hi-lo).toNat:Kk):Kl)-((0:Kk):Kl)) 1;rw[j,i];exact dQ _ rfl
 .have e:b=(s.heap.push {cls:=.type "range",data:=.fields #[.int lo t,.int hi u,.int 1 v]}).objs.size:=by simpa using f
  subst e;exact a.fpOk (aZ _)<|a.hok.fresh<|aZ _
def qL(b:TA):TI:=λd H R=>b d H λvs a=>∃j:Kl,vs=[.int j]/\-(2 ^ 62)<=j/\j<2 ^ 62/\R (xP 0 j.toNat) a
def mX{a:Kc}{w:TA}{p pos:Nc}(i:Gl X "range")(m:X.mg "range"=Kr)(d:PA X [a] w)(hs:starEach [a] X.env=[(Kt,eval a X.env)]:=by rfl):PI X tg (.Call (.Name "range" p) [a] [] pos) (qL w):=by
 intro o s x H R I h;refine Wa<|mV I i m boot_range<|oY (bA (d pos o s x H _ I h) λB u ⟨vs,A,n,f,b⟩=>?_) hs rfl;obtain⟨j,e,b,l,q⟩:=b;subst e;cases f with
 | cons r z=>
  cases z;obtain⟨t,rfl⟩:=r;exact call_range_1 (Ex n ∅ ∅ b l<|by simpa using q)
def KU(l:TI)(g:TG)(j:TS):TS:=λD a H=>l a H λJ h=>∃W:Kk->Kk->St->Hp->Prop,(∃m,W 0 m a h)/\∀i m a H,W i m a H->
 (J.stop i H/\D.nx a H)\/(J.go i H/\∃N:St->Hp->Prop,(∀b d,N b d->∃m',m'<m/\W (i+1) m' b d)/\∀x d,J.yld i H x d->g x a d λe f=>j {D with nx:=N,ct:=N,bk:=D.nx} e f)
def xT(fp:Ki eH)(h:Ka):Ki (eH×Kh):=fp.filterMap λb=>(h.get? b).map λo=>(b,o)
def xZ(a:b∈fp)(e:h.get? b\o):(b,o)∈xT fp h:=Ki.mem_filterMap.mpr ⟨b,a,by rw[e];rfl⟩
def Bq(hp:p∈xT fp h):p.1∈fp/\h.get? p.1\p.2:=by
 obtain⟨b,d,e⟩:=Ki.mem_filterMap.mp hp;cases q:h.get? b with
 | none=>rw[q]at e;cases e
 | some o=>
  rw[q]at e;have a:(b,o)=p:=gX e;subst a;exact⟨d,q⟩
def Inv.pinned(I:Inv X pins σ H s)(h:∀b∈fp,dR X pins H b)(i:∀b∈fp,∃o,s.heap.get? b\o/\∀v,o.data≠.cell v):Inv X (pins++xT fp s.heap) σ H s:=
 I.pins_of λp n=>(wz2.mp n).elim (λz=>I.pin p<|gS _ z) λz=>by
  obtain⟨f,e⟩:=Bq z;obtain⟨m,l,j,_⟩:=h p.1 f;obtain⟨o,a,d⟩:=i p.1 f;rw[e]at a;cases a;exact⟨e,m,l,j,d⟩
def Inv.unpinned(I:Inv X (pins++pl) σ H s):Inv X pins σ H s:=I.pins_of λp a=>I.pin p<|gS _<|qQ _ a
def eU{iter:Kc}{body:Ki Kd}{P:TI}{g:TG}{tb:TS}{pos:Nc}(hp:PassesOwn (Ky X.prog X.w) X.A X.env X.xe)(Y:X.calm=Ks)(hi:PI X tg iter P)(hg:PG X tg g)(a:PSs X body tb)
  (hs:∀x,My iter X.env x=pure x:=by intro _;rfl):PS X (.For tg iter body [] pos) (KU P g tb):=by
 intro z s σ H D I h;refine wpAny_For (bA (hi z s σ H _ I h) λv s1 h1=>bA h1 λa9 s2 h2=>?_) hs;obtain⟨it,fp,L,J,H2,e,I2,T,a7,O,W,⟨m0,w0⟩,a3⟩:=h2;subst e;have G:∀{H':Hp},(∀b∈fp,H' b=Kr)->∀b∈fp,dR X z H' b:=λhn b a=>⟨hn b a,(O b a).2⟩;refine codeAny_forLoop_any (λn s'=>∃i σ' H',Inv X z σ' H' s'/\L i s'.heap/\(∀b∈fp,H' b=Kr)/\W i n σ' H') ?_ m0 {0,σ,H2,I2,a7,λb a=>(O b a).1,w0};rintro n s3 ⟨i,σ3,H3,Z,M,a5,w3⟩;obtain⟨stop,qn⟩|⟨go,N,hN,step⟩:=a3 i n σ3 H3 w3
 .refine uP hp<|bA (T.done X rfl rfl rfl Y i z s3 σ3 H3 X.xe Z (G a5) M stop) ?_;rintro r s4 ⟨hr,I4⟩;subst hr;exact Ot ⟨σ3,H3,I4,qn⟩
 .refine uP hp<|bA (T.item X rfl rfl rfl Y i z s3 σ3 H3 X.xe Z (G a5) M go) ?_;rintro r s4 ⟨u,hr,h4⟩;subst hr;refine uP hp<|bA h4 ?_;rintro _ s5 ⟨x,H5,I5,r5,y5,E,a8⟩;have a6:=I5.pinned (G a8)<|T.obj _ _ E;refine uP hp<|bA (hg _ s5 σ3 H5 x u _ a6 r5<|step x H5 y5) ?_;rintro _ s6 ⟨σ6,H6,I6,q6⟩;refine uP hp<|bA (a _ s6 σ6 H6 _ I6 q6) λf C q=>?_;have again:∀{σ7:St}{l:Hp},Inv X (z++xT fp s5.heap) σ7 l C->N σ7 l->∃m,m<n/\∃i σ' H',Inv X z σ' H' C/\L i C.heap/\(∀b∈fp,H' b=Kr)/\W i m σ' H':=λ{σ7 l} j B=>by
   obtain⟨m',hm,w7⟩:=hN σ7 l B;refine{m',hm,i+1,σ7,l,j.unpinned,T.keep _ _ _ E λb a o e=>(j.pin (b,o)<|gS _<|gS _<|xZ a e).1,λb a=>?_,w7};obtain⟨o,e,d⟩:=T.obj _ _ E b a;exact(j.pin (b,o)<|gS _<|gS _<|xZ a e).2.1
  cases f with
  | next=>obtain⟨σ7,l,j,B⟩:=q;exact again j B
  | cont=>obtain⟨σ7,l,j,B⟩:=q;exact again j B
  | brk=>obtain⟨σ7,l,j,q⟩:=q;exact{σ7,l,j.unpinned,q}
  | ret v=>obtain⟨x7,σ7,l,j,r7,q⟩:=q;exact{x7,σ7,l,j.unpinned,r7,q}
end
def pW{K:Fq}{a:eH}{xs:Ki V}{g:TG}{r:TS}{D:dY}{h:St}{H:Hp}(b:Kk->St->Hp->Prop)(h0:b 0 h H)(hl:∀i h H,i<=↑xs->b i h H->SqL K H a xs)
  (hs:∀i x h H,xs[i]?\x->b i h H->g x h H λn o=>r {D with nx:=b<|i+1,ct:=b<|i+1,bk:=D.nx} n o) (hd:∀h H,b ↑xs h H->D.nx h H):
  ∃W:Kk->Kk->St->Hp->Prop,(∃m,W 0 m h H)/\∀i m h H,W i m h H->
   ((tF K a).stop i H/\D.nx h H)\/((tF K a).go i H/\∃N:St->Hp->Prop,(∀j l,N j l->∃m',m'<m/\W (i+1) m' j l)/\∀x l,(tF K a).yld i H x l->g x h l λn o=>r {D with nx:=N,ct:=N,bk:=D.nx} n o):=by
 exists λi m h H=>m=↑xs-i/\i<=↑xs/\b i h H,{↑xs,by simp,bW _,h0};rintro i m h H ⟨rfl,s,p⟩;have q:=hl i h H s p
 by_cases d:i<↑xs
 .refine .inr ⟨⟨xs,xs[i],q,by simp[d]⟩,b<|i+1,λj l f=>⟨↑xs-(i+1),∅,rfl,d,f⟩,λx l y=>?_⟩;obtain⟨e,y⟩:=y;subst e;exact hs i x h _ (y xs q) p
 .have e:i=↑xs:=by lia
  subst e;exact .inl {{xs,q,aZ _},hd h H p}
def lU{K:Fq}{a:eH}{xs:Ki V}{g:TG}{r:TS}{D:dY}{h:St}{H:Hp}(b:Kk->St->Hp->Prop)(h0:b 0 h H)(hl:∀i h H,i<=↑xs->b i h H->SqT K H a xs)
  (hs:∀i x h H,xs[i]?\x->b i h H->g x h H λn o=>r {D with nx:=b<|i+1,ct:=b<|i+1,bk:=D.nx} n o) (hd:∀h H,b ↑xs h H->D.nx h H):
  ∃W:Kk->Kk->St->Hp->Prop,(∃m,W 0 m h H)/\∀i m h H,W i m h H->
   ((mF K a).stop i H/\D.nx h H)\/((mF K a).go i H/\∃N:St->Hp->Prop,(∀j l,N j l->∃m',m'<m/\W (i+1) m' j l)/\∀x l,(mF K a).yld i H x l->g x h l λn o=>r {D with nx:=N,ct:=N,bk:=D.nx} n o):=by
 exists λi m h H=>m=↑xs-i/\i<=↑xs/\b i h H,{↑xs,by simp,bW _,h0};rintro i m h H ⟨rfl,s,p⟩;have q:=hl i h H s p
 by_cases d:i<↑xs
 .refine .inr ⟨⟨xs,xs[i],q,by simp[d]⟩,b<|i+1,λj l f=>⟨↑xs-(i+1),∅,rfl,d,f⟩,λx l y=>?_⟩;obtain⟨e,y⟩:=y;subst e;exact hs i x h _ (y xs q) p
 .have e:i=↑xs:=by lia
  subst e;exact .inl {{xs,q,aZ _},hd h H p}
def uB{lo:Kl}{n:Kk}{g:TG}{q:TS}{D:dY}{f:St}{H:Hp}(a:Kk->St->Hp->Prop)(h0:a 0 f H)
  (hs:∀i f H,i<n->a i f H->g (.int<|lo+i) f H λl o=>q {D with nx:=a<|i+1,ct:=a<|i+1,bk:=D.nx} l o) (hd:∀f H,a n f H->D.nx f H):
  ∃W:Kk->Kk->St->Hp->Prop,(∃m,W 0 m f H)/\∀i m f H,W i m f H->
   ((xP lo n).stop i H/\D.nx f H)\/((xP lo n).go i H/\∃N:St->Hp->Prop,(∀h j,N h j->∃m',m'<m/\W (i+1) m' h j)/\∀x j,(xP lo n).yld i H x j->g x f j λl o=>q {D with nx:=N,ct:=N,bk:=D.nx} l o):=by
 exists λi m f H=>m=n-i/\i<=n/\a i f H,{n,by simp,bW _,h0};rintro i m f H ⟨rfl,r,p⟩
 by_cases b:i<n
 .refine .inr ⟨b,a<|i+1,λh j d=>⟨n-(i+1),∅,rfl,b,d⟩,λx j y=>?_⟩;obtain⟨e,y⟩:=y;subst e y;exact hs i f _ b p
 .have e:i=n:=by lia
  subst e;exact .inl {aZ _,hd f H p}
def KF(a:St->Hp->Prop)(j:St->Hp->Kk)(h0:a e H)
  (hs:∀e H,a e H->c e H λb h=>if b=Ks then tb {D with nx:=λf i=>a f i/\j f i<j e H,ct:=λf i=>a f i/\j f i<j e H,bk:=D.nx} e h else D.nx e h)
  (mono:∀e H Q n,(∀b h,Q b h->n b h)->c e H Q->c e H n):US c tb D e H:=by
 exists λm e H=>m=j e H/\a e H,{_,U,h0};rintro m e H ⟨rfl,p⟩;refine mono e H _ _ (λb h q=>?_)<|hs e H p;cases b with
 | true=>exact{_,by rintro f i ⟨d,l⟩;exact{_,l,U,d},q}
 | false=>exact q
abbrev R2:=V->V->Hp->VK->Prop
def OpR(X:Cx)(f:iH->iH->Ww iH)(r:R2):Prop:=
 ∀(a:Ki (eH×Kh))(s:Jx)(b:St)(H:Hp)(x y:V)(v u:iH)(Q:VK),Inv X a b H s->RelV x v->RelV y u->r x y H Q->
  Kx (Ky X.prog X.w) X.A (f v u) (EP X a b Q) X.xe s
def JF(X:Cx)(f:iH->Ww iH)(r:V->Hp->VK->Prop):Prop:=
 ∀(a:Ki (eH×Kh))(s:Jx)(b:St)(H:Hp)(x:V)(v:iH)(Q:VK),Inv X a b H s->RelV x v->r x H Q->
  Kx (Ky X.prog X.w) X.A (f v) (EP X a b Q) X.xe s
def CallR(X:Cx)(f:iH)(r:Ki V->Hp->VK->Prop):Prop:=
 ∀(a:Ki (eH×Kh))(s:Jx)(b:St)(H:Hp)(e:Ki V)(d:Ki iH)(Q:VK),Inv X a b H s->Vals e d->r e H Q->
  Kx (Ky X.prog X.w) X.A (call f d) (EP X a b Q) X.xe s
def KM(X:Cx)(r:V->Hp->(Km->Hp->Prop)->Prop):Prop:=
 ∀(a:Ki (eH×Kh))(s:Jx)(b:St)(H:Hp)(x:V)(v:iH)(Q:Km->Hp->Prop),Inv X a b H s->RelV x v->r x H Q->
  Kx (Ky X.prog X.w) X.A (truthy v) (TP X a b Q) X.xe s
def dJ(r:R2)(d f:TE):TE:=λa H Q=>d a H λx e=>f a e λy b=>r x y b Q
def JT(r:V->Hp->VK->Prop)(b:TE):TE:=λd H Q=>b d H λx a=>r x a Q
def rI(C:Kl->Kl->Prop)(g:Kl->Kl->V):R2:=λx y H Q=>∃i j,x=.int i/\y=.int j/\C i j/\Q (g i j) H
inductive SM(g:Kl->Kl->V)(x y:V)(H:Hp)(Q:VK):Prop
 | mk(i j:Kl)(h1:x=.int i)(h2:y=.int j)(q:Q (g i j) H):SM g x y H Q
def iM(g:Kl->Kl->V):R2:=λx y H Q=>SM g x y H Q
def rU(g:Kl->V):V->Hp->VK->Prop:=λx H Q=>∃i,x=.int i/\Q (g i) H
section
variable{a b c:Kc}{ta tb tc:TE}{pos:Nc}
def wK(i:PE X a ta)(m:PE X b tb){d:Ki (eH×Kh)}{s:Jx}{G:St}{H:Hp}{R:V->V->Hp->Prop}(I:Inv X d G H s)
  (h:ta G H λx L=>tb G L λy E=>R x y E) {Q:Vp} {f:iH->iH->Ww iH}
  (e:∀v u J x y E,Inv X d G E J->RelV x v->RelV y u->R x y E->Kx (Ky X.prog X.w) X.A (f v u) Q X.xe J):
  Kx (Ky X.prog X.w) X.A (eval a X.env) (λv B=>Kx (Ky X.prog X.w) X.A (eval b X.env) (λu o=>Kx (Ky X.prog X.w) X.A (f v u) Q X.xe o) X.xe B) X.xe s:=by
 refine bA (i d s G H _ I h) ?_;rintro v C ⟨x,L,z,j,q⟩;refine bA (m d C G L _ z q) ?_;rintro u J ⟨y,E,l,r,n⟩;exact e v u J x y E l j r n
def cE{d:Xl}{r:R2}(m:OpR X (Mp d) r)(e:PE X a ta)(l:PE X b tb):PE X (.BinOp a d b pos) (dJ r ta tb):=by
 intro n s w H Q I h;exact wpAny_BinOp<|wK e l I h λv u z x y o i f j q=>m n z w o x y v u Q i f j q
def nH{d:UnaryOp}{r:V->Hp->VK->Prop}(f:JF X (unaryOp d) r)(j:PE X a ta):PE X (.UnaryOp d a pos) (JT r ta):=by
 intro b s n H Q I h;exact UnaryOp_ (bA (j b s n H _ I h) <| by rintro v m ⟨x,o,l,i,e⟩;exact f b m n o x v Q l i e)
def II{f:iH->iH->Ww iH}{C:Kl->Kl->Prop}{g:Kl->Kl->Kl}
  (rule:∀(i j:Kl)(t u:Ye)(s:Jx)(Q:Vp)(E:Vp),C i j->Q (.int (g i j) s.toks) {s with toks:=s.toks+1}->Kx (Ky X.prog X.w) X.A (f (.int i t)<|.int j u) Q E s):
  OpR X f (rI C λi j=>.int<|g i j):=by
 intro e s m H x y v u Q I b d h;obtain⟨i,j,rfl,rfl,a,q⟩:=h;obtain⟨t,rfl⟩:=b;obtain⟨l,rfl⟩:=d;exact rule i j t l s _ _ a {.int<|g i j,H,I.tok _,{_,U},q}
def FL{f:iH->iH->Ww iH}{g:Kl->Kl->Kl}
  (rule:∀(i j:Kl)(t u:Ye)(s:Jx)(Q:Vp)(E:Vp),Q (.int (g i j) s.toks) {s with toks:=s.toks+1}->Kx (Ky X.prog X.w) X.A (f (.int i t)<|.int j u) Q E s):
  OpR X f (iM λi j=>.int<|g i j):=by
 intro d s l H x y v u Q I a b h;obtain⟨i,j,rfl,rfl,q⟩:=h;obtain⟨t,rfl⟩:=a;obtain⟨e,rfl⟩:=b;exact rule i j t e s _ _ {.int<|g i j,H,I.tok _,{_,U},q}
def nP{f:iH->iH->Ww iH}{g:Kl->Kl->Km}
  (rule:∀(i j:Kl)(t u:Ye)(s:Jx)(Q:Vp)(E:Vp),Q (.bool<|g i j) s->Kx (Ky X.prog X.w) X.A (f (.int i t)<|.int j u) Q E s):
  OpR X f (iM λi j=>.bl<|g i j):=by
 intro d s l H x y v u Q I a b h;obtain⟨i,j,rfl,rfl,q⟩:=h;obtain⟨t,rfl⟩:=a;obtain⟨e,rfl⟩:=b;exact rule i j t e s _ _ {.bl<|g i j,H,I,U,q}
def KL(i j:Kl):Prop:=0<j/\j<1073741824
def OI(i j:Kl):Prop:=0<=j/\j<=1000000/\i.natAbs<2 ^ 64
def CMul(i j:Kl):Prop:=(-(2 ^ 64)<i/\i<2 ^ 64)\/(-(2 ^ 64)<j/\j<2 ^ 64)
def CMul.ok(h:CMul i j):IntMulOk i j:=by
 obtain⟨b,a⟩|⟨b,a⟩:=h
 .exact .of_left<|intBits_le_64 b a
 .exact .of_right<|intBits_le_64 b a
def jB:OpR X (Mp .Add) (iM λi j=>.int<|i+j):=FL λ_ _ _ _ _ _ _ q=>add_int q
def kP:OpR X (Mp .Sub) (iM λi j=>.int<|i-j):=FL λ_ _ _ _ _ _ _ q=>sub_int q
def sK:OpR X (Mp .Mult) (rI CMul λi j=>.int<|i*j):=II λ_ _ _ _ _ _ _ a q=>mul_int q a.ok
def BY:OpR X (Mp .FloorDiv) (rI KL λi j=>.int<|i / j):=II λi j _ _ _ _ _ a q=>by
 have d:(0:Kl)<j:=a.1;have b:j<1073741824:=a.2;exact floordiv_int ∅ (by rw[Kl.fdiv_eq_ediv_of_nonneg i ∅];exact q) (.inl<|PyProof.noPylong_small ∅)
def uA:OpR X (Mp .Mod) (rI (λ_ j=>0<j) λi j=>.int<|i % j):=II λi j _ _ _ _ _ a q=>by
 have b:(0:Kl)<j:=a;exact mod_int' ∅ (by rw[Kl.fmod_eq_emod_of_nonneg i ∅];exact q)
def sZ:OpR X (Mp .Pow) (rI OI λi j=>.int<|i ^ j.toNat):=II λ_ _ _ _ _ _ _ a q=>pow_int_small a.1 a.2.1 a.2.2 q
def Cu{f:iH->Ww iH}{g:Kl->Kl}
  (rule:∀(i:Kl)(t:Ye)(s:Jx)(Q:Vp)(E:Vp),Q (.int (g i) s.toks) {s with toks:=s.toks+1}->Kx (Ky X.prog X.w) X.A (f<|.int i t) Q E s):
  JF X f (rU λi=>.int<|g i):=by
 intro b s d H x v Q I a h;obtain⟨i,rfl,q⟩:=h;obtain⟨t,rfl⟩:=a;exact rule i t s _ _ {.int<|g i,H,I.tok _,{_,U},q}
def nW:JF X (unaryOp .USub) (rU λi=>.int<|-i):=Cu λ_ _ _ _ _ q=>neg_int q
end
def FK:V->V->Km
 | .non,.non=>Ks | .non,.int _=>Ks | .int _,.non=>Ks | .non,.bl _=>Ks | .bl _,.non=>Ks | .non,.str _=>Ks | .str _,.non=>Ks
 | .int _,.int _=>Ks | .bl _,.bl _=>Ks | .str _,.str _=>Ks | .byt _,.byt _=>Ks
 | .int _,.str _=>Ks | .str _,.int _=>Ks | .bl _,.str _=>Ks | .str _,.bl _=>Ks
 | _,_=>Kt
inductive FP(x y:V)(H:Hp)(Q:VK):Prop
 | mk(h:FK x y=Ks)(q:Q (.bl<|decide<|x=y) H):FP x y H Q
def yT:R2:=λx y H Q=>FP x y H Q
inductive FG(x y:V)(H:Hp)(Q:VK):Prop
 | mk(h:FK x y=Ks)(q:Q (.bl<|!decide (x=y)) H):FG x y H Q
def YH:R2:=λx y H Q=>FG x y H Q
def WJ:decide (Yh i=Yh j)=(i == j):=by
 rw[tR];simp
def VX:decide (V.bl i=V.bl j)=(i == j):=by
 rw[tR];simp
def TK:decide (Yf i=Yf j)=(i == j):=by
 rw[tR];simp
def RL:decide (V.byt i=V.byt j)=(i.toList == j.toList):=by
 rw[tR];cases i;cases j;simp
section
variable{a b c:Kc}{ta tb tc:TE}{pos:Nc}
def eP(I:Inv X pins σ H s)(q:Q (.bl k) H)(e:k=k'):EP X pins σ Q (.bool k') s:=by
 subst e;exact{.bl k,H,I,U,q}
def eA:OpR X (Me .Eq) yT:=by
 intro d s l H x y v u Q I b a h;obtain⟨f,q⟩:=h;cases x with
 | non=>
  cases b;cases y with
  | non=>cases a;exact PySem.EqNone.eq_none_none (eP I q<|by simp)
  | bl j=>cases a;exact PySem.EqNone.eq_none_bool (eP I q<|by simp)
  | int j=>obtain⟨e,rfl⟩:=a;exact PySem.EqNone.eq_none_int (eP I q<|by simp)
  | str j=>obtain⟨e,rfl⟩:=a;exact PySem.EqNone.eq_none_str (eP I q<|by simp)
  | _=>exact absurd (show Kt=Ks from f) fE
 | bl i=>
  cases b;cases y with
  | non=>cases a;exact PySem.EqNone.eq_bool_none (eP I q<|by simp)
  | bl j=>cases a;exact eq_bool<|eP I q VX
  | str j=>obtain⟨e,rfl⟩:=a;exact PySem.EqMixed.eq_bool_str (eP I q<|by simp)
  | _=>exact absurd (show Kt=Ks from f) fE
 | int i=>
  obtain⟨t,rfl⟩:=b;cases y with
  | non=>cases a;exact PySem.EqNone.eq_int_none (eP I q<|by simp)
  | int j=>obtain⟨e,rfl⟩:=a;exact eq_int<|eP I q WJ
  | str j=>obtain⟨e,rfl⟩:=a;exact PySem.EqMixed.eq_int_str (eP I q<|by simp)
  | _=>exact absurd (show Kt=Ks from f) fE
 | str i=>
  obtain⟨t,rfl⟩:=b;cases y with
  | non=>cases a;exact PySem.EqNone.eq_str_none (eP I q<|by simp)
  | bl j=>cases a;exact PySem.EqMixed.eq_str_bool (eP I q<|by simp)
  | int j=>obtain⟨e,rfl⟩:=a;exact PySem.EqMixed.eq_str_int (eP I q<|by simp)
  | str j=>obtain⟨e,rfl⟩:=a;exact eq_str<|eP I q TK
  | _=>exact absurd (show Kt=Ks from f) fE
 | byt i=>
  obtain⟨t,rfl⟩:=b;cases y with
  | byt j=>obtain⟨e,rfl⟩:=a;exact PySem.W.eq_bytes<|eP I q RL
  | _=>exact absurd (show Kt=Ks from f) fE
 | _=>cases y <;> exact absurd (show Kt=Ks from f) fE
def BF:OpR X (Me .NotEq) YH:=by
 intro d s l H x y v u Q I b a h;obtain⟨f,q⟩:=h;cases x with
 | non=>
  cases b;cases y with
  | non=>cases a;exact PySem.EqNone.ne_none_none (eP I q<|by simp)
  | bl j=>cases a;exact PySem.EqNone.ne_none_bool (eP I q<|by simp)
  | int j=>obtain⟨e,rfl⟩:=a;exact PySem.EqNone.ne_none_int (eP I q<|by simp)
  | str j=>obtain⟨e,rfl⟩:=a;exact PySem.EqNone.ne_none_str (eP I q<|by simp)
  | _=>exact absurd (show Kt=Ks from f) fE
 | bl i=>
  cases b;cases y with
  | non=>cases a;exact PySem.EqNone.ne_bool_none (eP I q<|by simp)
  | bl j=>cases a;exact ne_bool<|eP I q<|cH not VX
  | str j=>obtain⟨e,rfl⟩:=a;exact PySem.EqMixed.ne_bool_str (eP I q<|by simp)
  | _=>exact absurd (show Kt=Ks from f) fE
 | int i=>
  obtain⟨t,rfl⟩:=b;cases y with
  | non=>cases a;exact PySem.EqNone.ne_int_none (eP I q<|by simp)
  | int j=>obtain⟨e,rfl⟩:=a;exact ne_int<|eP I q<|cH not WJ
  | str j=>obtain⟨e,rfl⟩:=a;exact PySem.EqMixed.ne_int_str (eP I q<|by simp)
  | _=>exact absurd (show Kt=Ks from f) fE
 | str i=>
  obtain⟨t,rfl⟩:=b;cases y with
  | non=>cases a;exact PySem.EqNone.ne_str_none (eP I q<|by simp)
  | bl j=>cases a;exact PySem.EqMixed.ne_str_bool (eP I q<|by simp)
  | int j=>obtain⟨e,rfl⟩:=a;exact PySem.EqMixed.ne_str_int (eP I q<|by simp)
  | str j=>obtain⟨e,rfl⟩:=a;exact ne_str<|eP I q<|cH not TK
  | _=>exact absurd (show Kt=Ks from f) fE
 | byt i=>
  obtain⟨t,rfl⟩:=b;cases y with
  | byt j=>obtain⟨e,rfl⟩:=a;exact PySem.W.ne_bytes<|eP I q<|cH not RL
  | _=>exact absurd (show Kt=Ks from f) fE
 | _=>cases y <;> exact absurd (show Kt=Ks from f) fE
def yU:OpR X (Me .Lt) (iM λi j=>.bl<|decide<|i<j):=nP λ_ _ _ _ _ _ _ q=>lt_int q
def EY:OpR X (Me .LtE) (iM λi j=>.bl<|decide<|i<=j):=nP λ_ _ _ _ _ _ _ q=>le_int q
def oI:OpR X (Me .Gt) (iM λi j=>.bl<|decide<|j<i):=nP λ_ _ _ _ _ _ _ q=>gt_int q
def PQ:OpR X (Me .GtE) (iM λi j=>.bl<|decide<|j<=i):=nP λ_ _ _ _ _ _ _ q=>ge_int q
def OpR.or{f:iH->iH->Ww iH}(h:OpR X f r)(h':OpR X f r'):OpR X f (λx y H Q=>r x y H Q\/r' x y H Q):=by
 intro d s e H x y v u Q I a b q;obtain q|q:=q
 .exact h d s e H x y v u Q I a b q
 .exact h' d s e H x y v u Q I a b q
def cI(b:Kc)(h:op≠.In:=by decide)(e:op≠.NotIn:=by decide):Mm op b=false:=by
 have d:(op == CmpOp.In)=false:=by cases op <;> first | rfl | exact absurd rfl h
 have a:(op == CmpOp.NotIn)=false:=by cases op <;> first | rfl | exact absurd rfl e
 cases b <;> simp[Mm,d,a]
def mY(l:OpR X (Me op) r)(d:PE X a ta)(j:PE X b tb)(m:Mm op b=Kt):PE X (.Compare a [op] [b] pos) (dJ r ta tb):=by
 intro n s w H Q I h;exact Wy (wK d j I h λv u z x y o f e i q=>l n z w o x y v u Q f e i q) m
def iP(t:TE):TT:=λb H Q=>t b H λx a=>uX x a Q
def cC{d:CmpOp}{r:R2}(A:OpR X (Me d) r)(i:PE X a ta)(m:PE X b tb)(B:Mm d b=Kt):PT X (.Compare a [d] [b] pos) (iP<|dJ r ta tb):=by
 intro f s L H Q I h;refine Ui (bA (i f s L H _ I h) λv J ⟨x,O,C,j,w⟩=>bA (m f J L O _ C w) λu P ⟨y,M,l,G,q⟩=>
  bA (A f P L M x y v u _ l j G q) λc T ⟨z,N,n,E,k,e,o⟩=>?_) B
 subst e;cases E;exact sD ⟨N,n,o⟩
def CZ(K:Fq)(x:V)(H:Hp)(k:Km):Prop:=
 match x with
 | .non=>k=Kt
 | .bl b=>k=b
 | .int i=>k=(i != 0)
 | .str y=>↑y<=sizeLine/\k=((↑y:Kl) != 0)
 | .byt y=>y.size<=sizeLine/\k=((y.size:Kl) != 0)
 | .ref p=>(∃d,SqL K H p d/\k=!d.isEmpty)\/(∃d,SqT K H p d/\k=!d.isEmpty)\/∃a,H p\.dK a/\k=!a.isEmpty
 | _=>Kn
def ZO{κ:Type}{kvs:Ki (κ×V)}{vs:Ki (κ×iH)}(r:KV kvs vs):(!vs.isEmpty)=!kvs.isEmpty:=by
 cases r <;> rfl
def QV(r:Vals xs its):(!its.toArray.isEmpty)=!xs.isEmpty:=by
 cases r <;> simp
def nE:(sizeLine:Kk)<2 ^ 63:=by rw[Oz];decide
def xK:KM X (λx H Q=>∃k,CZ X.K x H k/\Q k H):=by
 intro o s G H x v Q I d h;obtain⟨k,e,q⟩:=h;have hl:=nE;have E:sizeLine=16777216:=Oz;cases x with
 | non=>
  cases d;have a:k=false:=e;subst a;exact truthy_none ⟨H,I,q⟩
 | bl b=>
  cases d;have a:k=b:=e;subst a;exact sD ⟨H,I,q⟩
 | int i=>
  obtain⟨t,rfl⟩:=d;have a:k=(i != 0):=e;subst a;exact PySem.P.truthy_int ⟨H,I,q⟩
 | str y=>
  obtain⟨t,rfl⟩:=d;obtain⟨n,a⟩:↑y<=sizeLine/\k=((↑y:Kl) != 0):=e;subst a;exact PySem.P.truthy_str ∅ {H,I.tok _,q}
 | byt y=>
  obtain⟨t,rfl⟩:=d;obtain⟨n,a⟩:y.size<=sizeLine/\k=((y.size:Kl) != 0):=e;subst a;exact PySem.W.truthy_bytes ∅ {H,I.tok _,q}
 | ref p=>
  cases d;have a:(∃z,SqL X.K H p z/\k=!z.isEmpty)\/(∃z,SqT X.K H p z/\k=!z.isEmpty)\/∃u,H p\.dK u/\k=!u.isEmpty:=e;obtain⟨z,A,a⟩|⟨z,A,a⟩|⟨u,A,a⟩:=a
  .subst a;obtain⟨B,r,f,C⟩:=I.list A;have j:=↑r;exact wpAny_truthy_list f.isList (by simp only[cW];lia) {H,I.tok _,by rw[QV r];exact q}
  .subst a;obtain⟨B,r,f,C⟩:=I.tuple A;have j:=↑r;exact truthy_tuple f (by simp only[cW];lia) {H,I.tok _,by rw[QV r];exact q}
  .subst a;obtain⟨C,l,vs,r,m⟩:↑u<=sizeLine/\(p == Lm)=Kt/\∃vs,KV u vs/\s.heap.DictOf (cO X.prog X.w) p vs:=I.hok p _ A;have j:↑u=↑vs:=Paired.length r;exact wpAny_truthy_dict l m ∅ {H,I.tok _,by rw[ZO r];exact q}
 | _=>exact(show Kn from e).elim
def Hs(e:PE X a ta)(he:∀l,isTrue a X.env l=(do let v <-l;Xv a.pos;holding [v]<|truthy v)):
  PT X a (λm H Q=>ta m H λx n=>∃k,CZ X.K x n k/\Q k n):=by
 intro b s m H Q I h;exact Xz (bA (e b s m H _ I h) <| by rintro v j ⟨x,o,i,f,d⟩;exact xK b j m o x v Q i f d)<|he _
def IU:OpR X (Mp .Add) (λx y H Q=>∃i j,x=.str i/\y=.str j/\↑i+↑j<=sizeLine/\Q (.str<|i++j) H):=by
 intro d s m H x y v u Q I a b h;obtain⟨i,j,rfl,rfl,e,q⟩:=h;obtain⟨t,rfl⟩:=a;obtain⟨f,rfl⟩:=b;exact add_str (λf l=>{.str<|i++j,H,I.tok _,{_,U},q}) e
def kR(r:Vals [x] us):∃u,us=[u]/\RelV x u:=by
 cases r with
 | cons a b=>cases b;exact{_,U,a}
def oZ(r:Vals [x,y] us):∃u a,us=[u,a]/\RelV x u/\RelV y a:=by
 cases r with
 | cons d f=>
  cases f with
  | cons e b=>cases b;exact{_,_,U,d,e}
def Bu:CallR X (.builtin "abs") (λb H Q=>∃i,b=[.int i]/\Q (.int<|if i<0 then -i else i) H):=by
 intro a s e H b f Q I r h;obtain⟨i,rfl,q⟩:=h;obtain⟨u,rfl,t,rfl⟩:=kR r;exact call_abs_int λu d=>{.int (if i<0 then -i else i),H,I.tok _,⟨_,rfl⟩,q}
def Iy(b:X.calm=Ks):CallR X (.builtin "max") (λf H Q=>∃i j,f=[.int i,.int j]/\Q (.int<|if j > i then j else i) H):=by
 intro e s m H f o Q I r h;obtain⟨i,j,rfl,q⟩:=h;obtain⟨u,d,rfl,⟨t,rfl⟩,⟨n,rfl⟩⟩:=oZ r;refine max_two_ints (I.ok.hd b) λw l k=>{_,H,I.kept k,?_,q}
 by_cases a:j > i
 .rw[bF a,bF a];exact{_,U}
 .rw[bC a,bC a];exact{_,U}
def NY(b:X.calm=Ks):CallR X (.builtin "min") (λf H Q=>∃i j,f=[.int i,.int j]/\Q (.int<|if j<i then j else i) H):=by
 intro e s m H f o Q I r h;obtain⟨i,j,rfl,q⟩:=h;obtain⟨u,d,rfl,⟨t,rfl⟩,⟨n,rfl⟩⟩:=oZ r;refine min_two_ints (I.ok.hd b) λw l k=>{_,H,I.kept k,?_,q}
 by_cases a:j<i
 .rw[bF a,bF a];exact{_,U}
 .rw[bC a,bC a];exact{_,U}
def FE:CallR X (.type "int") (λd H Q=>(∃i,d=[.int i]/\Q (.int i) H)\/∃k,d=[.bl k]/\Q (.int<|if k then 1 else 0) H):=by
 intro b s e H d f Q I r h;obtain⟨i,rfl,q⟩|⟨k,rfl,q⟩:=h
 .obtain⟨u,rfl,t,rfl⟩:=kR r;exact call_int_int {.int i,H,I,{_,U},q}
 .obtain⟨u,rfl,a⟩:=kR r;cases a;exact call_int_bool {.int (if k then 1 else 0),H,I.tok _,⟨_,rfl⟩,q}
end
structure ObjM(h:Ka)(x dx C:eH)(mA:zZ->Kj iH):Prop where
 obj:h.get? x\Mc C dx
 ns:h.Ns1 dx mA
 ne:dx≠x
def Hg{h:Ka}{r:eH}{u:zZ->Kj iH}(n:h.Ns1 r u):∃m,h.get? r\m/\∀name,Qa name m\u name:=by
 obtain⟨o,s,w,f,hd,d,_,i⟩:=n;refine{o,f,λname=>?_};have e:=i name;unfold nsFind findBy at e;rw[<-Ko.find?_toList]at e;unfold Qa;rw[hd];dsimp only
 split
 .rename_i y q
  rw[q]at e;exact cH Kp e
 .rename_i q
  rw[q]at e;have a:s.toList.any (·.refKey)=false:=by
   rw[Ki.any_eq_false];intro y l;obtain⟨z,t,j⟩:=d y<|Array.mem_toList_iff.mp l;simp[Oi.refKey,j]
  have b:¬s.toList.any (·.refKey)=true:=by rw[a];exact fE
  rw[bC b];exact cH Kp e
def ObjM.look(I:ObjM h x dx C mA):∃a,PySem.W.InstAt h x (Mc C dx) C (Kp a)/\∀name,Qa name a\mA name:=
 let ⟨a,ho,hl⟩:=Hg I.ns
 ⟨a,⟨I.obj,rfl,rfl,ho⟩,hl⟩
section
variable{K:Fq}{x dx C f:eH}{mA:zZ->Kj iH}{name:zZ}{v:iH}
def ZR(X:K.In s.heap)(I:ObjM s.heap x dx C mA)(d:Pe K C name=Ks)(f:Ox K C=Ks)
  (a:Lv K (.ref C) name\Kr) (b:mA name\v) (e:Th v=Ks) (h:Q v {s with toks:=s.toks+1}):
  Kx (Ky prog w) A (Ya (.ref x) name expr) Q E s:=by
 obtain⟨i,J,hl⟩:=I.look;exact PySem.W.get_value X J (PySem.W.plainGet_of d).1 (PySem.W.findObj_own f a rfl<|by rw[hl,b]) e h
def YS(X:K.In s.heap)(I:ObjM s.heap x dx C mA)
  (hs:Lv K (.ref C) "__setattr__"\(Kp<|.builtin "object.__setattr__")) (hp:Sl K C=Ks) (o:Pn K C name\Kr) (u:Ox K C=Ks)
  (q:Pd mA ns) (hsz:↑ns<=sizeLine)
  (h:∀L,ObjM L x dx C (λy=>if y=name then Kp v else mA y)->Lq dx s.heap L->Q () {s with heap:=L,toks:=s.toks+2}):
  Kx (Ky prog w) A (setAttr (.ref x) name v) Q E s:=by
 obtain⟨M,J,hl⟩:=I.look;refine PySem.W.set_plain X J hs<|PySem.W.osa_open (s:={s with toks:=s.toks+1}) (r:=Kr) X J hp o λb=>?_;obtain⟨H,i,f⟩:=PySem.W.any_some u;have l:s.heap.get? x=Kp ⟨.ref C,Kp dx,.plain,#[]⟩:=I.obj;refine aN<|bL<|aN<|aN<|wpAny_loadPart l<|aN<|PySem.W.Looks.here (s:={s with toks:=s.toks+1}) (PySem.W.looks_clsIn X i) ?_;rw[f];refine bL (a:=Kp dx)<|aN<|bL<|aN ?_;refine wpAny_nsSet1 (s:={s with toks:=s.toks+1}) I.ns λL e d=>?_;obtain⟨B,G,z,m,n,j⟩:=e.count<|Pd.cons name v q;refine aN<|wpAny_lookBehind m (by rw[n];exact pastItsLine_dict<|hX j<|by rw[cN];lia) ?_;exact bL<|h _ {(d.2 _<|bS I.ne).trans I.obj,e,I.ne} d
def Ay(X:K.In s.heap)(b:To K C=Ks)
  (hi:Lv K (.ref C) "__init__"\(Kp<|.ref f)) (a:PySem.W.typeIn K (.ref f)\.type "function")
  (h:Mv (Ky prog w) (A.under<|.builtin "type.__call__" ⟨.ref C::vs,kw⟩) (.call (.ref f) ⟨.ref (s⁻¹+1)::vs,kw⟩) (PySem.W.InitBack (s⁻¹+1) R)
   {s with heap:=(s.heap.push Ll).push<|Mc C s⁻¹}):
  Mv (Ky prog w) A (.call (.ref C) ⟨vs,kw⟩) R s:=by
 obtain⟨e,g,d,t,os⟩:=s;exact PySem.W.make_core (PySem.W.makes_of X b) (PySem.W.looks_findIn X hi) (λi=>PySem.W.bind_fn X i a) (.inl rfl) h
end
def cQ(f:zZ)(v:V):Ki (zZ×V)->Ki (zZ×V)
 | []=>[(f,v)]
 | (g,x)::r=>if g=f then(g,v)::r else(g,x)::cQ f v r
def YU(f g:zZ)(v:V):∀fs:Ki (zZ×V),(cQ f v fs).lookup g=if g=f then Kp v else fs.lookup g:=by
 intro fs
 induction fs with
 | nil=>
  exact by
   show Mn g [(f,v)]=_
   by_cases h:g=f
   .have a:(g == f)=true:=beq_iff_eq.mpr h;simp only[Mn,a,bF h]
   .have a:(g == f)=false:=vh3.mpr h;simp only[Mn,a,bC h]
 | cons i r j=>
  obtain⟨k,x⟩:=i;have d:=j;rw[show cQ f v ((k,x)::r)=(if k=f then(k,v)::r else(k,x)::cQ f v r) from rfl]
  by_cases b:k=f
  .rw[bF b]
   by_cases h:g=k
   .have a:(g == k)=true:=beq_iff_eq.mpr h;simp only[Mn,a,bF<|h.trans b]
   .have a:(g == k)=false:=vh3.mpr h;simp only[Mn,a,bC (λe:g=f=>h<|e.trans b.symm)]
  .rw[bC b]
   by_cases h:g=k
   .have a:(g == k)=true:=beq_iff_eq.mpr h;simp only[Mn,a,bC (λe:g=f=>b<|h.symm.trans e)]
   .have a:(g == k)=false:=vh3.mpr h;simp only[Mn,a];exact d
def RN(f:zZ)(v:V):∀fs:Ki (zZ×V),f∈(cQ f v fs).map (·.1)/\∀g,g∈fs.map (·.1)->g∈(cQ f v fs).map (·.1):=by
 intro fs
 induction fs with
 | nil=>
  exact{by simp[cQ],λg h=>by simp at h}
 | cons i r j=>
  obtain⟨k,x⟩:=i;obtain⟨b,d⟩:=j;rw[show cQ f v ((k,x)::r)=(if k=f then(k,v)::r else(k,x)::cQ f v r) from rfl]
  by_cases a:k=f
  .rw[bF a];subst a;exact{by simp,λg h=>by simpa using h}
  .rw[bC a];refine{?_,λg h=>?_}
   .rw[dD];exact iO _ b
   .rw[dD]at h ⊢;obtain e|e:=wx0.mp h
    .exact wx0.mpr<|.inl e
    .exact iO _<|d g e
def Gw(f:zZ)(v:V):∀fs:Ki (zZ×V),↑(cQ f v fs)<=↑fs+1:=by
 intro fs
 induction fs with
 | nil=>simp[cQ]
 | cons d r e=>
  obtain⟨k,x⟩:=d;have b:=e;rw[show cQ f v ((k,x)::r)=(if k=f then(k,v)::r else(k,x)::cQ f v r) from rfl]
  by_cases a:k=f
  .rw[bF a,cN,cN];lia
  .rw[bC a,cN,cN];lia
def RelO.some_of(r:RelO (Kp v) o):∃u,o\u/\RelV v u:=by
 cases o with
 | none=>exact(show Kn from r).elim
 | some u=>exact⟨u,rfl,r⟩
def Fz(r:RelV v u):Th u=true:=by
 cases v with
 | non=>cases (show u=Mb from r);rfl
 | bl b=>cases (show u=Xr b from r);rfl
 | int i=>obtain⟨t,e⟩:=(show ∃t,u=Pi i t from r);cases e;rfl
 | str x=>obtain⟨t,e⟩:=(show ∃t,u=iH.str x t from r);cases e;rfl
 | byt b=>obtain⟨t,e⟩:=(show ∃t,u=iH.bytes b t from r);cases e;rfl
 | flt b=>obtain⟨t,e⟩:=(show ∃t,u=iH.float b t from r);cases e;rfl
 | ref a=>cases (show u=Kz a from r);rfl
 | ty n=>cases (show u=Qy n from r);rfl
section
variable{P:Jz}{w:Kb}{H H':Hp}{h h':Ka}{a C dx:eH}{fs fs':Ki (zZ×V)}
def KO(b:HOk P w H h)(e:H a\.ins C dx fs):∃j,ObjM h a dx C j/\(∀f,RelO (fs.lookup f)<|j f)/\Pd j (fs.map (·.1))/\↑fs<=1000/\H dx\.own a:=by
 obtain⟨d,z,ne,i,j,n,r,q⟩:=(show ObjOk P w H h a (.ins C dx fs) from b a _ e);exact{j,⟨i,n,ne⟩,r,q,z,d}
end
structure Cls(K:Fq)(C:eH):Prop where
 pg:Pe K C Qr=Ks
 hd:Ox K C=Ks
 po:Sl K C=Ks
 sa:Lv K (.ref C) "__setattr__"\(Kp<|.builtin "object.__setattr__")
def Cls.get{K:Fq}{C:eH}(c:Cls K C)(f:zZ):Pe K C f=true:=c.pg
def NoAttr(K:Fq)(C:eH)(f:zZ):Prop:=Lv K (.ref C) f=Kp Kr
def NoAttr.taker{K:Fq}{C:eH}{f:zZ}(n:NoAttr K C f):Pn K C f\none:=by
 unfold Pn;rw[show Lv K (.ref C) f=Kp Kr from n];rfl
section
variable{pins:Ki (eH×Kh)}{σ:St}{H:Hp}{s:Jx}{a C dx:eH}{fs:Ki (zZ×V)}{f:zZ}{v:V}{A:Kg}{E:Vp}
def SU(I:Inv X pins σ H s)(e:H a\.ins C dx fs)(c:Cls X.K C)(n:NoAttr X.K C f)(l:fs.lookup f\v)
  (h:∀u j,Inv X pins σ H j->RelV v u->Q u j):Kx (Ky X.prog X.w) A (Ya (.ref a) f b) Q E s:=by
 obtain⟨m,O,r,_,_,_⟩:=KO I.hok e;obtain⟨u,i,d⟩:=RelO.some_of (v:=v) (o:=m f) (by rw[<-l];exact r f);exact ZR I.kIn O (c.get f) c.hd n i (Fz d)<|h u _ (I.tok _) d
def RP(I:Inv X pins σ H s)(e:H a\.ins C dx fs)(c:Cls X.K C)(n:NoAttr X.K C f)(hl:↑fs<1000)(l:RelV y u)
  (h:∀J,Inv X pins σ (upd H a<|.ins C dx<|cQ f y fs) J->Q () J):Kx (Ky X.prog X.w) A (setAttr (.ref a) f u) Q E s:=by
 obtain⟨L,O,r,i,_,j⟩:=KO I.hok e;have M:↑(fs.map (·.1))<=sizeLine:=by rw[aK,Oz];lia
 refine YS I.kIn O c.sa c.po n.taker c.hd i M λN d G=>h _ ?_;have hd:∃o,N.get? dx\o:=let ⟨o,_,_,e',_⟩:=d.ns;⟨o,e'⟩
 refine I.write (x:=a) (e:=dx) (by rw[e];exact gP) (.inr j) (λb q m z=>(G.2 b m).trans z) hd ?_;refine{by rw[aC O.ne];exact j,?_,O.ne,d.obj,_,d.ns,λg=>?_,λg B=>?_}
 .have:=Gw f y fs;lia
 .show RelO ((cQ f y fs).lookup g) (if g=f then Kp u else L g);rw[YU]
  by_cases q:g=f
  .rw[bF q,bF q];exact l
  .rw[bC q,bC q];exact r g
 .by_cases q:g=f
  .rw[q];exact(RN f y fs).1
  .refine(RN f y fs).2 g (i g λz=>B ?_);show(if g=f then Kp u else L g)=Kr;rw[bC q];exact z
def Inv.made(I:Inv X pins σ H s):Inv X pins σ (upd (upd H s⁻¹<|.own<|s⁻¹+1) (s⁻¹+1)<|.ins C s⁻¹ [])
  {s with heap:=(s.heap.push Ll).push<|Mc C s⁻¹}:=by
 have d:(s.heap.push Ll).get? s⁻¹\Ll:=dQ s.heap rfl;have f:((s.heap.push Ll).push<|Mc C s⁻¹).get? (s⁻¹+1)\Mc C s⁻¹:=by
  have:=dQ (s.heap.push Ll) (o:=Mc C s⁻¹) rfl;rwa [qN]at this
 have i:(s.heap.push Ll).Ns s⁻¹ (λ_=>Kr):=⟨Ll,#[],_,d,rfl,(λe l=>absurd l<|by simp),λ_=>U⟩;have h:=I.laid (a:=s⁻¹) (o:=.own<|s⁻¹+1) (h':=s.heap.push Ll) (t':=s.toks) (λb u q=>bY _ q) (aZ _) ⟨_,d⟩;refine h.laid (a:=s⁻¹+1) (o:=.ins C s⁻¹ []) (t':=s.toks) (λb u q=>bY _ q) (Wl<|qN _ _) ?_;have ne:s⁻¹≠s⁻¹+1:=cP<|qX _;refine{by rw[aC ne,zb1],bW _,ne,f,λ_=>Kr,(Ka.Ns1.of_empty i).at λo q=>bY _ q,λ_=>gP,λy j=>absurd rfl j}
def As{prog:Jz}{w:Kb}{env:Rg}{e:Kc}{f:zZ}{pos:Nc}{s:Jx}{Q:Vp}(a:Mq e f env (eval e env)=eval e env)
  (h:Kx (Ky prog w) A (eval e env) (λo b=>Kx (Ky prog w) A (Ya o f Ks) Q E b) E s):Kx (Ky prog w) A (eval (.Attribute e f pos) env) Q E s:=
 Attribute_any_ h (by rw[arm_eval_Attribute,a])
end
def uQ(X:Cx)(d:Xl)(rd:V->V->Hp->VK->Prop):Prop:=
 ∀(a:Ki (eH×Kh))(s:Jx)(b:St)(H:Hp)(x y:V)(u v:iH)(Q:VK),Inv X a b H s->RelV x u->RelV y v->rd x y H Q->Kx (Ky X.prog X.w) X.A (inplaceOp d u v) (EP X a b Q) X.xe s
section
variable{o e value:Kc}{f:zZ}{pos pos' tpos:Nc}{ta tv:TE}
def OA:V->V->Hp->VK->Prop:=λx y H Q=>∃i j,x=.int i/\y=.int j/\Q (.int<|i+j) H
def KR:V->V->Hp->VK->Prop:=λx y H Q=>∃i j,x=.int i/\y=.int j/\Q (.int<|i-j) H
def HK:uQ X .Add OA:=by
 rintro d s f H x y u v Q I a b ⟨i,j,rfl,rfl,q⟩;obtain⟨t,rfl⟩:=(show ∃t,u=Pi i t from a);obtain⟨e,rfl⟩:=(show ∃e,v=Pi j e from b);exact PyProof.Rows.iadd_int {.int<|i+j,H,I.tok _,{_,U},q}
def tY:uQ X .Sub KR:=by
 rintro d s f H x y u v Q I a b ⟨i,j,rfl,rfl,q⟩;obtain⟨t,rfl⟩:=(show ∃t,u=Pi i t from a);obtain⟨e,rfl⟩:=(show ∃e,v=Pi j e from b);exact PyProof.Rows.isub_int {.int<|i-j,H,I.tok _,{_,U},q}
end
section
variable{pins:Ki (eH×Kh)}{σ:St}{H:Hp}{s:Jx}{A:Kg}{E:Vp}{Q:Vp}{c:iH}{b:Km}
inductive fK(K:Fq)(H:Hp):V->iH->Prop where
 | non:fK K H .non (.type "NoneType")
 | bl (x:Km):fK K H (.bl x) (.type "bool")
 | int (i:Kl):fK K H (.int i) (.type "int")
 | str (x:zZ):fK K H (.str x) (.type "str")
 | flt (x:UInt64):fK K H (.flt x) (.type "float")
 | lst {a:eH} {xs:Ki V} (e:H a\.lst xs):fK K H (.ref a) (.type "list")
 | frz {a:eH} {o:Kh} {xs:Ki V} (e:H a\(.frz o<|.lst xs)):fK K H (.ref a) (.type "list")
 | tup {a:eH} {xs:Ki V} (e:H a\.tup xs):fK K H (.ref a) (.type "tuple")
 | dK {a:eH} {kvs:Ki (aG×V)} (e:H a\.dK kvs):fK K H (.ref a) (.type "dict")
 | dT {a:eH} {kvs:Ki (Ki aG×V)} (e:H a\.dT kvs):fK K H (.ref a) (.type "dict")
 | ins {a C dx:eH} {fs:Ki (zZ×V)} (e:H a\.ins C dx fs) (cl:Cls K C) (ha:Lv K (.ref C) "__class__"\(Kp<|.builtin "object.__class__"))
   (hn:PySem.W.specialIn K (.builtin "object.__class__") "__get__"\(Kp<|.builtin "getset_descriptor.__get__")) (htk:PySem.W.takesIn K (.builtin "object.__class__")\Ks)
   (hm:PySem.W.mroIn K C (.type "object")\Ks):fK K H (.ref a) (.ref C)
def Jn(I:Inv X pins σ H s)(d:RelV x u)(L:fK X.K H x t)(e:Ud X.K t c\b)(h:∀M,Q (.bool b) {s with toks:=M}):
  Kx (Ky X.prog X.w) A (call (.builtin "isinstance") [u,c]) Q E s:=by
 cases L with
 | non=>cases (show u=Mb from d);exact kY PySem.W.kitx_none I.kIn gP e (λz=>nomatch z) h
 | bl y=>cases (show u=Xr y from d);exact kY PySem.W.kitx_bool I.kIn gP e (λz=>nomatch z) h
 | int i=>obtain⟨t,q⟩:=(show ∃t,u=Pi i t from d);cases q;exact kY PySem.W.kitx_int I.kIn gP e (λz=>nomatch z) h
 | str y=>obtain⟨t,q⟩:=(show ∃t,u=iH.str y t from d);cases q;exact kY PySem.W.kitx_str I.kIn gP e (λz=>nomatch z) h
 | flt y=>obtain⟨t,q⟩:=(show ∃t,u=iH.float y t from d);cases q;exact kY PySem.W.kitx_float I.kIn gP e (λz=>nomatch z) h
 | @lst a m f=>
  cases (show u=Kz a from d);obtain⟨_,_,n,_,j⟩:=(show ObjOk X.prog X.w H s.heap a (.lst m) from I.hok a _ f);exact kY Sn I.kIn {_,j,U} e (λz=>nomatch z) h
 | @frz a T m f=>
  cases (show u=Kz a from d);obtain⟨_,_,_,n,_,j⟩:=(show ObjOk X.prog X.w H s.heap a (.frz T<|.lst m) from I.hok a _ f);exact kY Sn I.kIn {_,j,U} e (λz=>nomatch z) h
 | @tup a m f=>
  cases (show u=Kz a from d);obtain⟨_,_,_,p⟩:=(show ObjOk X.prog X.w H s.heap a (.tup m) from I.hok a _ f);obtain⟨o,j,r,_⟩:=p;exact kY PySem.W.kitx_tuple I.kIn ⟨o,j,r⟩ e (λz=>nomatch z) h
 | @dK a l f=>
  cases (show u=Kz a from d);obtain⟨_,_,vs,_,p⟩:=(show ObjOk X.prog X.w H s.heap a (.dK l) from I.hok a _ f);obtain⟨o,Y,ep,j,r,_⟩:=p;exact kY Sq I.kIn {o,j,r.1} e (λz=>nomatch z) h
 | @dT a l f=>
  cases (show u=Kz a from d);obtain⟨_,_,m,_,o,Y,ep,j,r,_⟩:=(show ObjOk X.prog X.w H s.heap a (.dT l) from I.hok a _ f);exact kY Sq I.kIn {o,j,r.1} e (λz=>nomatch z) h
 | @ins a C dx fs f G Z P B N=>
  cases (show u=Kz a from d);obtain⟨mA,O,_⟩:=KO I.hok f;obtain⟨od,J,_⟩:=O.look;exact kY (PySem.W.kitx_own (G.get _) G.hd Z P B N) I.kIn J e (λz=>nomatch z) h
end
structure Room(k:Kk)(A:Kg):Prop where
 hd:A.handled=Kr
 dp:A.depth+k+5<recursionLimit
 un:A.units+16*k+200<cLine
theorem Room.deeper(r:Room (k+1) A)(env:Rg):Room k (A.deeper env):=
 ⟨r.hd,by have:=r.dp;show A.depth+1+k+5<_;lia,by have:=r.un;show A.units+3+16*k+200<_;lia⟩
theorem Room.in1(r:Room (k+1) A):Room k A.in1:=
 ⟨r.hd,by have:=r.dp;show A.depth+k+5<_;lia,by have:=r.un;show A.units+1+16*k+200<_;lia⟩
def Ec{A:Kg}{C:eH}{us:Ki iH}{a:Ki (zZ×iH)}:(A.under<|.builtin "type.__call__" ⟨.ref C::us,a⟩).depth=A.depth+1:=by
 first | rfl | simp[Rh,Code.weight,Code.isCreation,Code.isGuard,Code.isCaller,Code.frames,Code.isFrame,guardIds]
def Cg{A:Kg}{C:eH}{us:Ki iH}{a:Ki (zZ×iH)}:(A.under<|.builtin "type.__call__" ⟨.ref C::us,a⟩).units=A.units+1:=by
 first | rfl | simp[Rh,Code.cUnits,Code.frames,Code.isFrame]
def Room.make(r:Room (k+1) A)(C:eH)(us:Ki iH)(a:Ki (zZ×iH)):Room k (A.under<|.builtin "type.__call__" ⟨.ref C::us,a⟩):=
 ⟨r.hd,by have:=r.dp;rw[Ec];lia,by have:=r.un;rw[Cg];lia⟩
theorem Room.depth(r:Room k A):A.depth<recursionLimit:=by have:=r.dp;lia
theorem Room.units(r:Room k A):A.units+64<cLine:=by have:=r.un;lia
def bE:TA:=λ_ H Q=>Q [] H
def bG(e:TE)(tr:TA):TA:=λa H Q=>e a H λx f=>tr a f λd b=>Q (x::d) b
section
variable{e:Kc}{es:Ki Kc}{te:TE}{t:TA}{pos:Nc}
def aE:PA X [] bE:=λ_ _ _ _ H Q I h=>oQ ⟨[],H,I,.nil,h⟩
def aA(b:PE X e te)(hr:PA X es t)(hs:starEach (e::es) X.env=(Kt,eval e X.env)::starEach es X.env:=by rfl):PA X (e::es) (bG te t):=by
 intro pos a s o H Q I h;rw[hs];show Kx _ _ (Xw<|(Kt,eval e X.env)::backTo pos (starEach es X.env)) _ _ s;refine lS<|bA (b a s o H _ I h) ?_;rintro u n ⟨x,r,l,d,j⟩;exact bA (hr pos a n o r _ l j) <| by rintro A z ⟨w,q,f,m,i⟩;exact⟨x::w,q,f,.cons d m,i⟩
inductive SC(xs:Ki V)(H:Hp)(Q:VK):Prop
 | mk(h:↑xs<=sizeLine)(q:∀p,H p=Kr->Q (.ref p) (upd H p<|.tup xs)):SC xs H Q
def dM(t:TA):TE:=λd H Q=>t d H λb a=>SC b a Q
inductive UA(xs:Ki V)(H:Hp)(Q:VK):Prop
 | mk(h:↑xs<=sizeLine)(q:∀p,H p=Kr->Q (.ref p) (upd H p<|.lst xs)):UA xs H Q
def jG(t:TA):TE:=λd H Q=>t d H λb a=>UA b a Q
def bZ{x1}(h:PA X es t):PE X (.Tuple es x1 pos) (dM t):=by
 intro i s m H Q I j;refine wpAny_Tuple_spliced<|bA (h pos i s m H _ I j) λo a ⟨n,l,d,r,z,q⟩=>{by rw[<-↑r];exact z,?_};have f:l a⁻¹=none:=d.hok.fresh<|aZ _;refine{.ref a⁻¹,upd l a⁻¹<|.tup n,d.laid (t':=a.toks) (λb u e=>bY _ e) (aZ _) ?_,U,q _ f};exact{{z,_,dQ _ rfl,U},o,r,{_,dQ _ rfl,U,_,U}}
def cU(h:PA X es t):PE X (.List es pos) (jG t):=by
 intro i s m H Q I j;refine wpAny_List_spliced<|bA (h pos i s m H _ I j) λo a ⟨n,l,d,r,z,q⟩=>{by rw[<-↑r];exact z,?_};have f:l a⁻¹=none:=d.hok.fresh<|aZ _;refine{.ref a⁻¹,upd l a⁻¹<|.lst n,d.laid (t':=a.toks) (λb u e=>bY _ e) (aZ _) ?_,U,q _ f};exact{z,o,0,r,dQ _ rfl}
end
abbrev Sp:=Ki V->Hp->VK->XK->Prop
abbrev kN:=Ki Rg->Hp->Jx->XK->iH->Jx->Prop
structure Env0(P:Jz)(w:Kb)(K:Fq)(mg:zZ->Kj iH)(base:Ka)(A:Kg)(outer:Ki Rg)(s:Jx)(H:Hp):Prop where
 frames:A.frames\outer
 mod:Mod K mg base
 bs:∀b o,base.get? b\o->s.heap.get? b\o/\H b=Kr
 bsz:base.objs.size<=s⁻¹
 funs:s.heap.FunFrames base outer
 frf:∀b∈frs outer,H b=Kr
 hok:HOk P w H s.heap
 bare:Pm s.gens
def CE(outer:Ki Rg)(P:Jz)(w:Kb)(H:Hp)(s:Jx)(Q:VK)(u:iH)(a:Jx):Prop:=
 ∃v b,a.os=s.os/\Pm a.gens/\Un (frs outer) [] H b s.heap a.heap/\HOk P w b a.heap/\RelV v u/\Q v b
def CR(CX:kN)(outer:Ki Rg)(P:Jz)(w:Kb)(H:Hp)(s:Jx)(Q:VK)(E:XK)(r:Vq)(a:Jx):Prop:=
 match r with
 | .ok (.ret u)=>CE outer P w H s Q u a
 | .ok _=>Kn
 | .error e=>CX outer H s E e a
structure aS(P:Jz)(w:Kb)(K:Fq)(mg:zZ->Kj iH)(base:Ka)(CX:kN)(k:Kk)(f:eH)(fd:Ke)(ps:Ki zZ)(sp:Sp):Prop where
 len:∀vs H Q E,sp vs H Q E->↑vs=↑ps
 run:∀(A:Kg)(outer:Ki Rg)(s:Jx)(H:Hp)(args:Args)(us:Ki iH)(vs:Ki V)(Q:VK)(E:XK),Room k A->Env0 P w K mg base A outer s H->Rq s fd args (ps.zip us)->Vals vs us->sp vs H Q E->
  Mv (Ky P w) A (.call (.ref f) args) (CR CX outer P w H s Q E) s
def Env0.make{P:Jz}{w:Kb}{K:Fq}{mg:zZ->Kj iH}{base:Ka}{A:Kg}{outer:Ki Rg}{s:Jx}{H:Hp}(e:Env0 P w K mg base A outer s H)(C:eH)(us:Ki iH)(a:Ki (zZ×iH)):
  Env0 P w K mg base (A.under<|.builtin "type.__call__" ⟨.ref C::us,a⟩) outer s H:=⟨by first | exact e.frames | (simpa [Rh,Code.envs,Code.isFrame,pushEnvs]using e.frames),e.mod,e.bs,e.bsz,e.funs,e.frf,e.hok,e.bare⟩
theorem Env0.in1{P:Jz}{w:Kb}{K:Fq}{mg:zZ->Kj iH}{base:Ka}{A:Kg}{outer:Ki Rg}{s:Jx}{H:Hp}(e:Env0 P w K mg base A outer s H):
  Env0 P w K mg base A.in1 outer s H:=⟨e.frames,e.mod,e.bs,e.bsz,e.funs,e.frf,e.hok,e.bare⟩
section
variable{pins:Ki (eH×Kh)}{σ:St}{H:Hp}{s s':Jx}
def Inv.env0(I:Inv X pins σ H s):Env0 X.prog X.w X.K X.mg X.base X.A X.stack s H:=
 ⟨I.ok.frames,I.ok.mod,I.bs,hX I.ok.bsz I.sz,I.stack,I.stkFree,I.hok,I.bare⟩
def Inv.after(I:Inv X pins σ H s)(h:CE X.stack X.prog X.w H s Q u s'):EP X pins σ Q u s':=by
 obtain⟨v,j,os,a,un,e,r,q⟩:=h;obtain⟨i,g,d,t,f⟩:=s';obtain rfl:f=s.os:=os;exact{v,j,I.call (h':=i) (g':=g) (d':=d) (t':=t) (ch:=[]) un e a (λb z=>absurd z<|by simp),r,q}
end
def gD(sp:Sp)(dvs:Ki V)(E:XK)(t:TA):TE:=λb H Q=>t b H λvs a=>sp (vs++dvs) a Q E
def Binds(K:Fq)(fd:Ke)(ps:Ki zZ)(ds:Ki iH):Prop:=
 ∀(s:Jx)(a:Ki iH),K.In s.heap->↑(a++ds)=↑ps->Rq s fd ⟨a,[]⟩ (ps.zip<|a++ds)
def Binds.all{K:Fq}{fd:Ke}{ps:Ki zZ}(h:∀a:Ki iH,↑a=↑ps->Ux fd ⟨a,[]⟩=pure (ps.zip a)):Binds K fd ps []:=λs a _ hl=>by
 rw[fP]at hl ⊢;exact .of_eq<|h a hl
def IK(CX:kN)(X:Cx)(E:XK):Prop:=∀(a:Ki (eH×Kh))(d:St)(H:Hp)(s:Jx)(e:iH)(b:Jx),Inv X a d H s->CX X.stack H s E e b->X.xe e b
section
variable{CX:kN}{k:Kk}{f C:eH}{fd:Ke}{ps:Ki zZ}{sp:Sp}{dvs:Ki V}{ds:Ki iH}{E:XK}{x m:zZ}{p pos apos:Nc}{e o:Kc}{es:Ki Kc}{ta:TE}{t:TA}
def XA(F:aS X.prog X.w X.K X.mg X.base CX k f fd ps sp)(hr:Room k X.A)(d:Binds X.K fd ps ds)(hd:Vals dvs ds)(i:IK CX X E)
  (I:Inv X pins σ H s) (r:Vals vs j) (h:sp (vs++dvs) H Q E):Kx (Ky X.prog X.w) X.A (call (.ref f) j) (EP X pins σ Q) X.xe s:=by
 have b:Vals (vs++dvs) (j++ds):=r.append hd;have hl:↑(j++ds)=↑ps:=by rw[<-↑b];exact F.len _ _ _ _ h
 refine wpAny_call<|codeAny_mono (F.run X.A X.stack s H {j,[]} (j++ds) (vs++dvs) Q E hr I.env0 (d s j I.kIn hl) b h) λr l a=>?_;cases r with
 | error e=>exact i pins σ H s e l I a
 | ok fl=>
  cases fl with
  | ret u=>exact I.after a
  | next=>exact Mg a
  | brk=>exact Mg a
  | cont=>exact Mg a
def Gr(F:aS X.prog X.w X.K X.mg X.base CX k f fd ps sp)(hr:Room k X.A)(l:Gl X x)(n:X.mg x\.ref f)(m:Mh X.K (.ref f)=Ks)(i:Binds X.K fd ps ds)(hd:Vals dvs ds)(j:IK CX X E)
  (b:PA X (e::es) t) (o:(x == ("__debug__":zZ))=false:=by decide) (he:starEach (e::es) X.env=(Kt,eval e X.env)::starEach es X.env:=by rfl) (d:(backTo pos<|starEach es X.env).any (·.1)=false:=by rfl):
  PE X (.Call (.Name x p) (e::es) [] pos) (gD sp dvs E t):=by
 intro u s B H Q I h;refine yA<|LQ I l n ?_ o;refine Oq (h₀:=X.base) I.ok.mod.kin m (bA (b pos u s B H _ I h) λG z ⟨vs,C,a,r,q⟩=>{a.kIn,?_}) he d;exact XA F hr i hd j a r q
structure Mk(K:Fq)(C f:eH):Prop where
 makes:To K C=Ks
 init:Lv K (.ref C) "__init__"\(Kp<|.ref f)
 fn:PySem.W.isFn K (.ref f)=Ks
 kp:Mh K (.ref C)=Ks
def Jp(M:Mk X.K C f)(F:aS X.prog X.w X.K X.mg X.base CX k f fd ps sp)(hr:Room (k+1) X.A)(j:Binds X.K fd ps ds)(hd:Vals dvs ds)
  (l:IK CX X E) (I:Inv X pins σ H s) (r:Vals vs q)
  (h:∀x z,H x=Kr->H z=Kr->z≠x->sp (.ref x::(vs++dvs)) (upd (upd H z<|.own x) x<|.ins C z []) (λv B=>v=.non/\Q (.ref x) B) E):
  Kx (Ky X.prog X.w) X.A (call (.ref C) q) (EP X pins σ Q) X.xe s:=by
 have d:=h (s⁻¹+1) s⁻¹ (I.hok.fresh<|kI _) (I.hok.fresh<|aZ _)<|cP<|qX _;have b:=Inv.made (C:=C) I;have i:Vals (Yg (s⁻¹+1)::(vs++dvs)) (Kz (s⁻¹+1)::(q++ds)):=.cons rfl<|r.append hd;have hl:↑(Kz (s⁻¹+1)::q++ds)=↑ps:=by
  have e:=↑i;rw[F.len _ _ _ _ d]at e;exact e.symm
 refine wpAny_call<|Ay (f:=f) I.kIn M.makes M.init (beq_iff_eq.mp M.fn)<|codeAny_mono (F.run _ X.stack _ _ {Kz (s⁻¹+1)::q,[]} (Kz (s⁻¹+1)::(q++ds)) _ _ E (hr.make C q []) (b.env0.make C q []) (j _ (Kz (s⁻¹+1)::q) b.kIn hl) i d) λr J a=>?_
 cases r with
 | error e=>exact l pins σ _ _ e J b a
 | ok fl=>
  cases fl with
  | ret u=>
   obtain⟨v,G,m,o,L,n⟩:=b.after a;subst L;exact{o,{Yg<|s⁻¹+1,G,m,U,n}}
  | next=>exact Mg a
  | brk=>exact Mg a
  | cont=>exact Mg a
end
section
variable{CX:kN}{k:Kk}{f C:eH}{fd:Ke}{ps ks:Ki zZ}{sp:Sp}{E:XK}{x m:zZ}{p pos apos kpos:Nc}{e o:Kc}{es:Ki Kc}{kws:Ki Os}{te ta:TE}{t tk:TA}{nm:Kj zZ}
variable{g:Ki iH->Ki iH->Ki iH}{gV:Ki V->Ki V->Ki V}
end
structure bX(N P:Ki zZ)(sc:Scope):Prop where
 kind:sc.kind=.function
 co:sc.isCoroutine=Kt
 gen:sc.isGenerator=Kt
 nd:N.Nodup
 pre:N.take P.length=P
 par:∀x∈P,sc.names.lookup x\.local\/sc.names.lookup x\.cell
 nofree:∀y∈sc.names,y.2≠.free
def ZM{kindOf:zZ->Kj Kf}{x:zZ}:∀{binds:Ki (zZ×iH)}{m:zZ->Kj iH},(∀v,(x,v)∉binds)->Tl kindOf binds m x=m x:=by
 intro binds
 induction binds with
 | nil=>
  exact λ_=>rfl
 | cons b r d=>
  obtain⟨n,v⟩:=b;intro m h;unfold Tl;rw[d λw a=>h w<|iO _ a]
  split
  .have:x≠n:=by rintro rfl;exact h v sS
   simp[this]
  .rfl
def Ad{kindOf:zZ->Kj Kf}{x:zZ}:∀{binds:Ki (zZ×iH)}{m:zZ->Kj iH},(∀v,(x,v)∉binds)->Tn kindOf binds m x=m x:=by
 intro binds
 induction binds with
 | nil=>
  exact λ_=>rfl
 | cons b r d=>
  obtain⟨n,v⟩:=b;intro m h;unfold Tn;rw[d λw a=>h w<|iO _ a]
  split
  .rfl
  .have:x≠n:=by rintro rfl;exact h v sS
   simp[this]
theorem SJ{kindOf:zZ->Kj Kf}{x:zZ}{v:iH}:∀{P:Ki zZ}{vs:Ki iH}{i:Kk}{m:zZ->Kj iH},P.Nodup->P[i]?\x->vs[i]?\v->kindOf x\.local->
  Tl kindOf (P.zip vs) m x=Kp v
 | [],_,_,_,_,h,_,_=>by simp at h
 | _::_,[],_,_,_,_,h,_=>by simp at h
 | p::P,w::vs,0,m,nd,h1,h2,hk=>by
  simp at h1 h2;subst h1;subst h2;show Tl kindOf ((p,w)::P.zip vs) m p=_;unfold Tl;rw[ZM λv a=>(vc1.mp nd).1 (yE a).1,bF hk];simp
 | p::P,w::vs,i+1,m,nd,h1,h2,hk=>by
  show Tl kindOf ((p,w)::P.zip vs) m x=_;unfold Tl;exact SJ (i:=i) (vc1.mp nd).2 (by simpa using h1) (by simpa using h2) hk
theorem TY{kindOf:zZ->Kj Kf}{x:zZ}{v:iH}:∀{P:Ki zZ}{vs:Ki iH}{i:Kk}{m:zZ->Kj iH},P.Nodup->P[i]?\x->vs[i]?\v->kindOf x≠Kp .local->
  Tn kindOf (P.zip vs) m x=Kp v
 | [],_,_,_,_,h,_,_=>by simp at h
 | _::_,[],_,_,_,_,h,_=>by simp at h
 | p::P,w::vs,0,m,nd,h1,h2,hk=>by
  simp at h1 h2;subst h1;subst h2;show Tn kindOf ((p,w)::P.zip vs) m p=_;unfold Tn;rw[Ad λv a=>(vc1.mp nd).1 (yE a).1,bC hk];simp
 | p::P,w::vs,i+1,m,nd,h1,h2,hk=>by
  show Tn kindOf ((p,w)::P.zip vs) m x=_;unfold Tn;exact TY (i:=i) (vc1.mp nd).2 (by simpa using h1) (by simpa using h2) hk
def oK(N:Ki zZ)(vs:Ki V):St:=vs.map Kp++Lf (N.length-↑vs) Kr
def eZ(CX:kN)(P:Jz)(w:Kb)(K:Fq)(mg:zZ->Kj iH)(base:Ka)(N:Ki zZ)(a:zZ)(scope:Scope)(f:eH)(d:iH)(A:Kg)(outer:Ki Rg)(s:Jx)(H:Hp)(E:XK):Cx where
 prog:=P
 w:=w
 K:=K
 mg:=mg
 base:=base
 A:=A.deeper<|envOfC a scope s⁻¹ f d
 N:=N
 s₀:=s
 H₀:=H
 env:=envOfC a scope s⁻¹ f d
 outer:=outer
 stack:=envOfC a scope s⁻¹ f d::outer
 ex:=[]
 calm:=Ks
 fn:=λ_=>Ks
 pn:=[]
 xe:=λe h=>Kx (Ky P w) (A.deeper<|envOfC a scope s⁻¹ f d) (leaving (envOfC a scope s⁻¹ f d) e) (λ_ b=>CX outer H s E e b) (λi b=>CX outer H s E i b) h
def UV{a:Scope}{n:Kk}{x:zZ}(h:a.names.lookup x\.cell):∃c,(Wj n a.names []).lookup x\c:=by
 have q:=Qs a.names n []<|.inl h;exact vs4.mp q
def Bn{CX:kN}{P:Jz}{w:Kb}{K:Fq}{mg:zZ->Kj iH}{base:Ka}{N ps:Ki zZ}{d:zZ}{scope:Scope}{f:eH}{m:iH}{A:Kg}{outer:Ki Rg}{s B:Jx}{H:Hp}{E:XK}{us:Ki iH}{vs:Ki V}
  (S:bX N ps scope) (hd:A.handled=Kr) (j:Env0 P w K mg base A outer s H) (hl:↑vs=↑ps) (r:Vals vs us)
  (x:InCallC s s⁻¹ (Tl (envOfC d scope s⁻¹ f m).kindOf (ps.zip us) λ_=>Kr) (Wj (s⁻¹+1) scope.names []) (Tn (envOfC d scope s⁻¹ f m).kindOf (ps.zip us) λ_=>Kr) B):
  Inv (eZ CX P w K mg base N d scope f m A outer s H E) [] (oK N vs) H B:=by
 have M:↑ps<=N.length:=by have:=cH Lj S.pre;rw[eS]at this;lia
 obtain⟨Y,Z,rfl,C⟩:=x.done;have o:∀b:eH,b∉(eZ CX P w K mg base N d scope f m A outer s H E).ex:=λb z=>absurd (show b∈([]:Ki eH) from z) (by simp)
 exists {j.mod,S.kind,U,U,aZ _,λy z c Y T=>?_,λy l=>?_,λy c _ h=>?_,λ_=>hd,Kg.frames_deeper j.frames,.inr ⟨rfl,rfl⟩,λb z=>absurd z<|o b,j.bs,j.bsz,λb _ _=>o b,λb z=>absurd z<|o b,j.funs,j.frf},
  rfl,j.bare,Un.kept C,⟨_,x.toInCall.ns,λi y v Y T O=>?_⟩,λy c h=>⟨_,x.cell y c h⟩,j.hok.fresh<|aZ _,λy c h=>?_,λp W=>absurd (show p∈([]:Ki (eH×Kh)) from W) (by simp),j.hok.kept C
 .exact name_of_addr x.apart (vR Y)<|vR T
 .have l:scope.names.lookup y\.cell\/scope.names.lookup y\.free:=l;obtain l|l:=l
  .exact UV l
  .exact absurd rfl<|S.nofree _<|vR l
 .exact cX<|x.above y c<|vR h
 .have X:i<↑vs:=by
   unfold oK at T
   by_cases X:i<↑vs
   .exact X
   .rw[jU<|by simpa using X]at T;rw[Ki.getElem?_replicate]at T
    split at T <;> cases T
  have L:vs[i]?\v:=by
   unfold oK at T;rw[lI (by simpa using X),bR]at T;cases e:vs[i]? with
   | none=>rw[e]at T;cases T
   | some a=>rw[e]at T;cases T;rfl
  obtain⟨u,G,J⟩:=r.get L;have W:ps[i]?\y:=by
   rw[<-S.pre,Rb ∅];exact Y
  have I:ps.Nodup:=by rw[<-S.pre];exact S.nd.sublist<|Pj _ _
  exists u,J;obtain k|k:=S.par y (dC W)
  .exact .inl ⟨k,SJ I W G k⟩
  .obtain⟨c,e⟩:=UV (n:=s⁻¹+1) k;refine .inr {.inl k,c,e,?_};have q:=x.cell y c e;rw[TY I W G (by show scope.names.lookup y≠_;rw[k];decide)]at q;exact q
 .exact j.hok.fresh<|cX<|x.above y c<|vR h
 .unfold oK;show _=N.length;rw[bN,aK,Rv];lia
def FD{CX:kN}{P:Jz}{w:Kb}{K:Fq}{mg:zZ->Kj iH}{base:Ka}{k:Kk}{f:eH}{name a:zZ}{d:Arguments}{body:Ki Kd}{scope:Scope}{G kV C m h ct oc:iH}{M od:Kj eH}
  {X:Ko (Kj iH)} {N ps:Ki zZ} {sp:Sp} (lk:K.lookup f=Kp ⟨oc,od,.func<|Mf name a d body scope G kV C m M h ct,X⟩) (a8:Nr K h a=Ks) (S:bX N ps scope)
  (len:∀vs H Q E,sp vs H Q E->↑vs=↑ps)
  (a1:∀(A:Kg)(outer:Ki Rg)(s:Jx)(H:Hp)(vs:Ki V)(Q:VK)(E:XK),Room k (A.deeper<|envOfC a scope s⁻¹ f h)->sp vs H Q E-> ∃t,PSs (eZ CX P w K mg base N a scope f h A outer s H E) body t/\t {nx:=λ_ H'=>Q .non H',rt:=Q} (oK N vs) H):
  aS P w K mg base CX (k+1) f (Mf name a d body scope G kV C m M h ct) ps sp:=by
 refine{len,λA outer s H args us vs Q E hr i T r L=>?_};have hl:=len _ _ _ _ L;have l:K.In s.heap:=i.mod.kin.keeps λb o e=>(i.bs b o e).1;have Z:s.heap.NoLimit:=i.mod.nolimit.keeps λb o e=>(i.bs b o e).1;have O:∀y∈ps.zip us,scope.names.lookup y.1\.local\/(scope.names.lookup y.1\.cell/\((Wj (s⁻¹+1) scope.names []).lookup y.1).isSome=Ks):=by
  rintro⟨n,v⟩ hy;obtain q|q:=S.par n (yE hy).1
  .exact .inl q
  .exact .inr ⟨q,Qs _ _ _<|.inl q⟩
 refine codeAny_call_function hr.depth (l _ _ lk) rfl S.co S.gen rfl (PySem.W.codeRec_of l a8)<|T _ _ _ _ ?_;refine wpAny_newFunctionEnv_cells S.kind O λenv he z x=>?_;subst he;refine{Z.keeps x.toInCall.keep,codeAny_func ?_};obtain⟨t,Y,hq⟩:=a1 A outer s H vs Q E (hr.deeper _) L;have I:Inv (eZ CX P w K mg base N a scope f h A outer s H E) [] (oK N vs) H z:=Bn S hr.hd i hl r x;refine gC (Y [] z (oK N vs) H _ I hq) (λfl s' hs=>?_) λe s' hs=>hs;have B:∀{σ':St}{H':Hp}{v:V}{u:iH},Inv (eZ CX P w K mg base N a scope f h A outer s H E) [] σ' H' s'->RelV v u->Q v H'->CE outer P w H s Q u s':=
  λ{σ' H' v u} J j q=>⟨v,H',J.os,J.bare,J.base,J.hok,j,q⟩
 cases fl with
 | ret u=>
  obtain⟨v,σ',H',J,j,q⟩:=hs;exact B J j q
 | next=>
  obtain⟨σ',H',J,q⟩:=hs;exact B (v:=Yi) (u:=Mb) J rfl q
 | brk=>
  obtain⟨_,_,_,q⟩:=hs;exact Mg q
 | cont=>
  obtain⟨_,_,_,q⟩:=hs;exact Mg q
section
variable{x:zZ}{p pos:Nc}{e:Kc}{es:Ki Kc}{t:TA}{id T:String}{r:Ki V->Hp->VK->Prop}
def mK(r:Ki V->Hp->VK->Prop)(t:TA):TE:=λb H Q=>t b H λvs a=>r vs a Q
def eM(f:CallR X (.builtin id) r)(l:Gl X x)(n:X.mg x=Kr)(j:Mi x\.builtin id)(b:PA X (e::es) t)(o:x≠"__name__":=by decide)(u:(x == ("__debug__":zZ))=false:=by decide)
  (he:starEach (e::es) X.env=(Kt,eval e X.env)::starEach es X.env:=by rfl) (i:(backTo pos<|starEach es X.env).any (·.1)=false:=by rfl):PE X (.Call (.Name x p) (e::es) [] pos) (mK r t):=by
 intro a s z H Q I h;refine yA<|mV I l n j ?_ o u;exact PyProof.Rows.callWith_builtin1 (bA (b pos a s z H _ I h) <| by rintro B w ⟨vs,A,q,d,m⟩;exact f a w z A vs B Q q d m) he i
def fF(f:CallR X (.type T) r)(l:Gl X x)(n:X.mg x=Kr)(j:Mi x\.type T)(b:PA X (e::es) t)(o:x≠"__name__":=by decide)(u:(x == ("__debug__":zZ))=false:=by decide)
  (he:starEach (e::es) X.env=(Kt,eval e X.env)::starEach es X.env:=by rfl) (i:(backTo pos<|starEach es X.env).any (·.1)=false:=by rfl):PE X (.Call (.Name x p) (e::es) [] pos) (mK r t):=by
 intro a s z H Q I h;refine yA<|mV I l n j ?_ o u;exact oY (bA (b pos a s z H _ I h) <| by rintro B w ⟨vs,A,q,d,m⟩;exact f a w z A vs B Q q d m) he i
end
end L2
namespace HT
open PySem PyProof.Rows
section
open PySem.SeqAt
open PySem.AutoSeq1 (wpAny_loadPart')
open PySem.MeetsSeq PySem.MeetsSeq2 PySem.MeetsSeq3
end
section
variable{prog:Jz}{w:Kb}{A:Kg}{E:Vp}{s:Jx}
def Iu(z:Pw s.heap t vs.toArray)(x:Pw s.heap b ws.toArray)(o:vs≠[])
  (G:ws=[]->Q (.ref t) s) (C:ws≠[]->Q (.ref s⁻¹) {s with heap:=s.heap.push {cls:=.type "tuple",data:=.seq (vs++ws).toArray}})
  (hsz:↑vs+↑ws<=sizeLine):Kx (Ky prog w) A (Mp .Add (.ref t)<|.ref b) Q E s:=by
 obtain⟨⟨cls,r,data,i⟩,d,j,n,hd⟩:=id z;obtain⟨⟨B,m,data2,l⟩,f,h,q,u⟩:=id x;simp only at j hd h u;subst j hd h u;have e:vs.toArray++ws.toArray=(vs++ws).toArray:=by simp
 by_cases a:ws=[]
 .exact Yb ⟨_,d,rfl⟩ ⟨_,f,rfl⟩ Wg Xp Qt Qn (Qj _ _)
   (tuple_addW1 t b vs.toArray ws.toArray n q r m i l (by simpa using o)<|by simp[a]) ⟨d,f,G a⟩
 .refine Yb ⟨_,d,rfl⟩ ⟨_,f,rfl⟩ Wg Xp Qt Qn (Qj _ _)
   (tuple_addW2 t b vs.toArray ws.toArray n q r m i l (by simpa using o) (by simpa using a)<|by rw[cW,cW];exact hsz) ⟨d,f,?_⟩
  rw[e];exact C a
def sIx(n d:Kk):Kj Kl->Kk
 | none=>d
 | some v=>if v<0 then(v+(n:Kl)).toNat else min v.toNat n
def TF(n d:Kk):sIx n d Kr=d:=rfl
def FW(n d k:Kk):sIx n d (Kp (k:Kl))=min k n:=by
 show(if (k:Kl)<0 then((k:Kl)+(n:Kl)).toNat else min (k:Kl).toNat n)=min k n;rw[bC ∅,EH]
def uO(n d:Kk)(hd:d<=n)(o:Kj Kl):sIx n d o<=n:=by
 cases o with
 | none=>exact hd
 | some v=>
  show(if v<0 then(v+(n:Kl)).toNat else min v.toNat n)<=n
  by_cases a:v<0
  .rw[bF a];lia
  .rw[bC a];exact Kk.min_le_right _ _
def RI(v:Kl)(n d:Kk):(if v<0 then max (v+(n:Kl)) 0 else min v (n:Kl))=((sIx n d (Kp v):Kk):Kl):=by
 show(if v<0 then max (v+(n:Kl)) 0 else min v (n:Kl))=(((if v<0 then(v+(n:Kl)).toNat else min v.toNat n):Kk):Kl)
 by_cases a:v<0
 .simp only[bF a];lia
 .simp only[bC a];lia
def By(lo hi:Kj Kl)(n:Kk):Rp lo hi 1 (n:Kl)=(((sIx n 0 lo:Kk):Kl),((sIx n n hi:Kk):Kl)):=by
 have a:¬((1:Kl)<0):=by lia
 unfold Rp;simp only[a,kG];refine Prod.ext ?_ ?_
 .cases lo with
  | none=>rfl
  | some v=>exact RI v n 0
 .cases hi with
  | none=>rfl
  | some v=>exact RI v n n
def YJ(i j:Kk):Ni (i:Kl) (j:Kl) 1=j-i:=by
 unfold Ni;have a:(1:Kl) > 0:=by lia
 simp only[a,if_true,Pt]
 split <;> lia
def RQ(p:Qu v o)(h:Q o s):Kx (Ky prog w) A (Jy.Slice.slicePartIndex v) Q E s:=by
 cases p with
 | none=>exact slicePart_none h
 | int i t=>exact slicePart_int h
def Gd{f:eH}{e a:iH}{lo hi:Kj Kl}{n:Kk}{Q:Kl×Kl×Kk->Jx->Prop}(hs:s.heap.IsSliceOf f e a .none)(i:Qu e lo)(j:Qu a hi)
  (h:Q (((sIx n 0 lo:Kk):Kl),1,sIx n n hi-sIx n 0 lo) s):Kx (Ky prog w) A (Jy.Slice.sliceApplied (.ref f)<|pure (n:Kl)) Q E s:=by
 obtain⟨os,d,l,b⟩:=id hs;unfold Jy.Slice.sliceApplied Jy.Slice.sliceFields;refine aN<|aN<|fO d b (x:=e) rfl<|aN<|fO d b (x:=a) rfl<|aN<|fO d b (x:=.none) rfl<|bL ?_;refine aN<|slicePart_none ?_;show Kx _ _ (if ((1:Kl) == 0)=Ks then _ else _) _ _ s;rw[bC<|by decide];refine aN<|RQ i<|aN<|RQ j<|aN<|bL ?_;show Kx _ _ (match Rp lo hi 1 (n:Kl)with | (lo,hi)=>pure (lo,(1:Kl),Ni lo hi 1)) _ _ s;rw[By lo hi n];show Kx _ _ (pure (((sIx n 0 lo:Kk):Kl),(1:Kl),Ni ((sIx n 0 lo:Kk):Kl) ((sIx n n hi:Kk):Kl) 1)) _ _ s;rw[YJ];exact bL h
def Cn(xs:Ko iH)(i k:Kk):((Mx k).filterMap λ(m:Kk)=>xs[((i:Kl)+(m:Kl)*1).toNat]?).toArray=((xs.toList.drop i).take k).toArray:=by
 have e:(λ(m:Kk)=>xs[((i:Kl)+(m:Kl)*1).toNat]?)=λm=>xs[i+m]?:=by
  funext m
  have:((i:Kl)+(m:Kl)*1).toNat=i+m:=by lia
  rw[this]
 rw[e];have:=pick_run xs i k;rw[Tw]at this;have a:((λx=>xs[x]?)∘λx=>i+x)=λm=>xs[i+m]?:=rfl;rw[a]at this;rw[this]
def Il{t d:eH}{items:Ko iH}{e f:iH}{lo hi:Kj Kl}{Q:Vp}(a:Pw s.heap t items)(hs:s.heap.IsSliceOf d e f .none)(j:Qu e lo)(r:Qu f hi)
  (o:¬(sIx items.size 0 lo=0/\sIx items.size items.size hi=items.size))
  (h:Q (.ref s⁻¹) {s with heap:=s.heap.push {cls:=.type "tuple",data:=.seq ((items.toList.drop<|sIx items.size 0 lo).take<|sIx items.size items.size hi-sIx items.size 0 lo).toArray}})
  (hsz:items.size<=sizeLine):Kx (Ky prog w) A (On (.ref t)<|.ref d) Q E s:=by
 have b:sizeOk (.seq ((items.toList.drop<|sIx items.size 0 lo).take<|sIx items.size items.size hi-sIx items.size 0 lo).toArray):=by
  show((items.toList.drop<|sIx items.size 0 lo).take<|sIx items.size items.size hi-sIx items.size 0 lo).toArray.size<=sizeLine;rw[cW,eS,nZ,GQ];lia
 have z:sIx items.size items.size hi<=items.size:=uO _ _ (aZ _) hi;obtain⟨os,n,u,x⟩:=id hs;have l:s.TypeIs (.ref d) "slice":=⟨os,n,u⟩;unfold On
 try with_reducible refine jM ?_
 first | refine aN (bL ?_) | skip
 refine aN<|wpAny_sequenceKey a.typeIs (by decide) ?_;refine aN<|nR (name:=Mz "__getitem__") a.typeIs vn7<|lB vn7 a.typeIs entry_tuple_getitem ?_<|args_tuple_getitem _ _
 show Kx _ _ (Jy.Tuple.tupleItemsOf (.ref t) >>= _) _ _ s;refine aN<|tupleItemsOf_ a ?_;refine aN<|wpAny_typeOf l ?_;rw[bF<|by decide];refine aN<|Gd hs j r ?_;have i:¬((((sIx items.size 0 lo:Kk):Kl) == 0 && (1:Kl) == 1 && (sIx items.size items.size hi-sIx items.size 0 lo) == items.size)=Ks):=by
  intro q;rw[pX,pX]at q;have C:((sIx items.size 0 lo:Kk):Kl)=0:=eq_of_beq q.1.1;have B:sIx items.size items.size hi-sIx items.size 0 lo=items.size:=eq_of_beq q.2;exact o {∅,∅}
 show Kx _ _ (if (((sIx items.size 0 lo:Kk):Kl) == 0 && (1:Kl) == 1 && (sIx items.size items.size hi-sIx items.size 0 lo) == items.size)=Ks then _ else _) _ _ s;rw[bC i,Cn]
 first
  | exact aN (m:=Np _) (lX (bL {_,U,bL h}) b)
  | exact aN (m:=Np _) (lX (aN<|bL<|bL {_,U,bL h}) b)
  | exact aN (aN (m:=Np _)<|lX (bL<|bL {_,U,bL h}) b)
  | exact aN (aN (m:=Np _)<|lX (bL {_,U,bL h}) b)
end
end HT
namespace L2
open PySem PySem.Spec PyProof.Rows
open V renaming str->Yf,ref->Yg,int->Yh,non->Yi
open SqL renaming of->Yl
open SqT renaming of->Ym
variable{prog:Jz}{w:Kb}{A:Kg}{E:Vp}{s:Jx}
variable{X:Cx}
abbrev TO:=St->Hp->(Kj Kl->Hp->Prop)->Prop
def PO(X:Cx)(e:Kj Kc)(t:TO):Prop:=
 ∀(a:Ki (eH×Kh))(s:Jx)(b:St)(H:Hp)(Q:Kj Kl->Hp->Prop),Inv X a b H s->t b H Q->
  Kx (Ky X.prog X.w) X.A (evalPart e X.env) (λu f=>∃o d,Inv X a b d f/\Qu u o/\Q o d) X.xe s
def PY:TO:=λ_ H Q=>Q Kr H
def zR(t:TE):TO:=λb H Q=>t b H λx a=>∃i,x=.int i/\Q (Kp i) a
section
variable{e:Kc}{te:TE}{lo hi:Kj Kc}{tl th:TO}{pos p2:Nc}
def kT:PO X Kr PY:=by
 intro a s b H Q I h;rw[Tc];exact bL {Kr,H,I,.none,h}
def jS(h:PE X e te):PO X (Kp e) (zR te):=by
 intro f s n H Q I j;rw[evalPart_some];refine bA (h f s n H _ I j) ?_;rintro u l ⟨x,m,d,b,a⟩;obtain⟨i,rfl,q⟩:=a;obtain⟨t,rfl⟩:=b;exact{Kp i,m,d,.int i t,q}
def SlR(X:Cx)(r:V->Kj Kl->Kj Kl->Hp->VK->Prop):Prop:=
 ∀(a:Ki (eH×Kh))(s:Jx)(d:St)(H:Hp)(x:V)(v b e:iH)(lo hi:Kj Kl)(f:eH)(Q:VK),Inv X a d H s->RelV x v->s.heap.IsSliceOf f b e .none->Qu b lo->Qu e hi->r x lo hi H Q->
  ∃T id,Nh (.type T) "__getitem__"=pure (Kp<|.builtin id)/\s.TypeIs v T/\Kx (Ky X.prog X.w) X.A (On v<|.ref f) (EP X a d Q) X.xe s
def SlR.or(h:SlR X r)(h':SlR X r'):SlR X (λx lo hi H Q=>r x lo hi H Q\/r' x lo hi H Q):=by
 intro j s m H x v e i lo hi b Q I d l a f q;obtain q|q:=q
 .exact h j s m H x v e i lo hi b Q I d l a f q
 .exact h' j s m H x v e i lo hi b Q I d l a f q
def GA(r:V->Kj Kl->Kj Kl->Hp->VK->Prop)(te:TE)(f th:TO):TE:=λa H Q=>te a H λx e=>f a e λl b=>th a b λu d=>r x l u d Q
def jY(hr:SlR X r)(he:PE X e te)(hl:PO X lo tl)(N:PO X hi th):PE X (.Subscript e (.Slice lo hi Kr p2) pos) (GA r te tl th):=by
 intro a s Y H Q I h;refine Rt<|bA (he a s Y H _ I h) ?_;rintro v G ⟨x,H1,E,j,C⟩;refine wpAny_Slice<|bA (hl a G Y H1 _ E C) λd s2 ⟨l,H2,m,i,M⟩=>bA (N a s2 Y H2 _ m M) ?_;rintro f W ⟨u,Z,n,B,L⟩;rw[Tc];refine bL ?_;have O:Inv X a Y Z {W with heap:=W.heap.push {cls:=.type "slice",data:=.fields #[d,f,.none]}}:=n.kept (t':=W.toks) λb P q=>bY _ q;obtain⟨T,id,J,z,o⟩:=hr a {W with heap:=W.heap.push {cls:=.type "slice",data:=.fields #[d,f,.none]}} Y Z x v d f l u W⁻¹ Q O j (Ka.IsSliceOf.new ..) i B L;show Kx (Ky X.prog X.w) X.A (Pu e (.Slice lo hi Kr p2) v<|.ref W⁻¹) (EP X a Y Q) X.xe {W with heap:=W.heap.push {cls:=.type "slice",data:=.fields #[d,f,.none]}};exact Wz (ops:=[.ref W⁻¹,v]) z J o (by with_unfolding_all rfl)
def dE(xs:Ki V)(lo hi:Kj Kl):Ki V:=(xs.drop<|HT.sIx ↑xs 0 lo).take<|HT.sIx ↑xs ↑xs hi-HT.sIx ↑xs 0 lo
def UT(xs:Ki V)(lo hi:Kj Kl):↑(dE xs lo hi)<=↑xs:=by
 unfold dE;rw[eS,nZ];lia
def JO(K:Fq):V->Kj Kl->Kj Kl->Hp->VK->Prop:=λx lo hi H Q=>∃a b,x=.ref a/\SqT K H a b/\
 ¬(HT.sIx ↑b 0 lo=0/\HT.sIx ↑b ↑b hi=↑b)/\∀p,H p=Kr->Q (.ref p) (upd H p<|.tup<|dE b lo hi)
def NK:SlR X (JO X.K):=by
 intro A s G H x v u z lo hi n Q I i E f m h;obtain⟨a,xs,rfl,j,l,q⟩:=h;cases i;obtain⟨B,r,e,C⟩:=I.tuple j;have d:B.toArray.size=↑xs:=by rw[cW];exact r.length.symm
 exists "tuple",_,vn7.lookup,e.typeIs;refine HT.Il e E f m (by rw[d];exact l) ?_ (by rw[d];exact C);rw[d];refine{.ref s⁻¹,_,I.laid (t':=s.toks) (o:=.tup<|dE xs lo hi) (λb w q=>bY _ q) (aZ _) ?_,U,q _<|I.hok.fresh<|aZ _};exact{{hX (UT xs lo hi) C,_,dQ _ rfl,U},_,(r.drop<|HT.sIx ↑xs 0 lo).take<|HT.sIx ↑xs ↑xs hi-HT.sIx ↑xs 0 lo,Pw.new _ _}
def pU(K:Fq):R2:=λx y H Q=>∃a b e d,x=.ref a/\y=.ref b/\SqT K H a e/\SqT K H b d/\e≠[]/\↑e+↑d<=sizeLine/\
 (d=[]->Q (.ref a) H)/\(d≠[]->∀p,H p=Kr->Q (.ref p) (upd H p<|.tup<|e++d))
def Vals.nil_iff(r:Vals xs us):us=[]↔xs=[]:=by
 cases r with
 | nil=>simp
 | cons _ _=>simp
def Hr:OpR X (Mp .Add) (pU X.K):=by
 intro C s N H x y v u Q I i j h;obtain⟨a,b,L,M,rfl,rfl,f,l,m,G,A,n⟩:=h;cases i;cases j;obtain⟨J,e,r,_⟩:=I.tuple f;obtain⟨E,d,p2,_⟩:=I.tuple l;refine HT.Iu r p2 (λz=>m<|e.nil_iff.mp z) (λz=>{.ref a,H,I,U,A<|d.nil_iff.mp z}) (λz=>?_) (by rw[<-↑e,<-↑d];exact G);refine{.ref s⁻¹,_,I.laid (t':=s.toks) (o:=.tup<|L++M) (λb B q=>bY _ q) (aZ _) ?_,U,n (λw=>z<|d.nil_iff.mpr w) _<|I.hok.fresh<|aZ _};exact{{by rw[bN];exact G,_,dQ _ rfl,U},_,e.append d,Pw.new _ _}
end
def nQ(n:Kk)(i:Kl):Kj Nat:=if 0<=i then(if i<n then Kp i.toNat else Kr) else if -(n:Kl)<=i then Kp (i+n).toNat else Kr
def eE{a:Type}(xs:Ki a)(i:Kl):Kj a:=(nQ ↑xs i).bind λj=>xs[j]?
def SY(h:nQ n i\j):Oe i n\j/\j<n/\-(n:Kl)<=i/\i<n:=by
 unfold nQ at h
 by_cases b:0<=i
 .rw[bF b]at h
  by_cases a:i<n
  .rw[bF a]at h;have e:i.toNat=j:=gX h;exact{by rw[Ut b a,e],∅,∅,a}
  .rw[bC a]at h;cases h
 .rw[bC b]at h
  by_cases a:-(n:Kl)<=i
  .rw[bF a]at h;have e:(i+n).toNat=j:=gX h;exact{by rw[seqIndex_neg ∅ a,e],∅,a,∅}
  .rw[bC a]at h;cases h
def JY{d:Type}{xs:Ki d}{i:Kl}{v:d}(h:eE xs i\v):∃j,Oe i ↑xs\j/\xs[j]?\v/\j<↑xs/\-(↑xs:Kl)<=i/\i<↑xs:=by
 unfold eE at h;cases e:nQ ↑xs i with
 | none=>rw[e]at h;cases h
 | some j=>
  rw[e]at h;obtain⟨l,f,a,b⟩:=SY e;exact⟨j,l,h,f,a,b⟩
def kW{b:Type}{xs:Ki b}{j:Kk}{v:b}(h:xs[j]?\v):eE xs (j:Kl)\v:=by
 have a:j<↑xs:=(ww4.mp h).1;have e:nQ ↑xs (j:Kl)\j:=by
  unfold nQ;rw[bF ∅,bF ∅];simp
 unfold eE;rw[e];exact h
def MG(b:Kc):Prop:=∀o i,Qx b Kt o i=Xy [o,i] (On o i)
def IxR(X:Cx)(r:R2):Prop:=
 ∀(d a:Kc)(b:Ki (eH×Kh))(s:Jx)(e:St)(H:Hp)(x y:V)(v u:iH)(Q:VK),Inv X b e H s->RelV x v->RelV y u->r x y H Q->
  Qx a Kt v u=Xy [v,u] (On v u)->Kx (Ky X.prog X.w) X.A (Pu d a v u) (EP X b e Q) X.xe s
def MtR(X:Cx)(id:String)(r:V->Ki V->Hp->VK->Prop):Prop:=
 ∀(a:Ki (eH×Kh))(s:Jx)(b:St)(H:Hp)(x:V)(d:Ki V)(v:iH)(e:Ki iH)(Q:VK),Inv X a b H s->RelV x v->Vals d e->r x d H Q->
  Kx (Ky X.prog X.w) X.A (call (.builtin id)<|v::e) (EP X a b Q) X.xe s
section
variable{a b:Kc}{ta tb:TE}{pos:Nc}
def IxR.or(h:IxR X r)(h':IxR X r'):IxR X (λx y H Q=>r x y H Q\/r' x y H Q):=by
 intro f a e s j H x y v u Q I b d q i;obtain q|q:=q
 .exact h f a e s j H x y v u Q I b d q i
 .exact h' f a e s j H x y v u Q I b d q i
def MtR.or{id:String}{r r':V->Ki V->Hp->VK->Prop}(h:MtR X id r)(h':MtR X id r'):MtR X id (λx d H Q=>r x d H Q\/r' x d H Q):=by
 intro b s f H x d v i Q I a e q;obtain q|q:=q
 .exact h b s f H x d v i Q I a e q
 .exact h' b s f H x d v i Q I a e q
def lZ(hr:IxR X r)(d:PE X a ta)(j:PE X b tb)(hs:MG b):PE X (.Subscript a b pos) (dJ r ta tb):=by
 intro l s n H Q I h;exact Rt<|wK d j I h λv u o x y m f e i q=>hr a b l o n m x y v u Q f e i q<|hs _ _
inductive DI(K:Fq)(x y:V)(H:Hp)(Q:VK):Prop
 | mk(p:eH)(xs:Ki V)(i:Kl)(v:V)(h1:x=.ref p)(h2:y=.int i)(h3:SqL K H p xs)(h4:eE xs i\v)(q:Q v H):DI K x y H Q
def oH(K:Fq):R2:=λx y H Q=>DI K x y H Q
inductive CS(K:Fq)(x y:V)(H:Hp)(Q:VK):Prop
 | mk(p:eH)(xs:Ki V)(i:Kl)(v:V)(h1:x=.ref p)(h2:y=.int i)(h3:SqT K H p xs)(h4:eE xs i\v)(q:Q v H):CS K x y H Q
def dI(K:Fq):R2:=λx y H Q=>CS K x y H Q
def MT:R2:=λx y H Q=>∃z i c,x=.str z/\y=.int i/\↑z<=sizeLine/\eE z.cps.toList i\c/\Q (.str ⟨#[c]⟩) H
def Eb:IxR X (oH X.K):=by
 intro M d e s O H x y v u Q I m B h N;obtain⟨p,xs,i,z,rfl,rfl,C,T,q⟩:=h;cases m;obtain⟨t,rfl⟩:=B;obtain⟨L,r,a,Z⟩:=I.list C;obtain⟨j,J,Y,E,A,o⟩:=JY T;obtain⟨w,f,n⟩:=r.get Y;have hl:=↑r;have G:=nE;have l:EP X e O Q w s:=⟨z,H,I,n,q⟩
 by_cases P:0<=i
 .have b:i.toNat=j:=by
   rw[Ut P o]at J;exact gX J
  exact item_listR a.isList P ∅ (by rw[b];simpa using f) l N
 .have b:(i+(L.toArray.size:Kl)).toNat=j:=by
   rw[seqIndex_neg ∅ A]at J;rw[cW,<-hl];exact gX J
  exact Ua (x:=w) a.isList.typeIs slot_list_getitem.lookup
   (wpAny_getItem_list_neg (Q:=λr W=>r=w/\EP X e O Q r W) a.isList ∅ (by rw[cW] <;> lia) ∅ (by rw[b];simpa using f) ⟨rfl,l⟩) N
def oR:IxR X (dI X.K):=by
 intro G a d s J H x y v u Q I f l h N;obtain⟨p,Y,i,z,rfl,rfl,o,O,q⟩:=h;cases f;obtain⟨t,rfl⟩:=l;obtain⟨L,r,b,W⟩:=I.tuple o;obtain⟨j,M,T,A,C,B⟩:=JY O;obtain⟨w,m,n⟩:=r.get T;have hl:=↑r;have E:=nE;have e:EP X d J Q w s:=⟨z,H,I,n,q⟩;exact Ua (x:=w) b.typeIs slot_tuple_getitem.lookup
  (getItem_tuple (j:=j) (Q:=λr P=>r=w/\EP X d J Q r P) b ∅ ∅ (by rw[cW,<-hl];exact M) (by simpa using m) ⟨rfl,e⟩) N
def XT:IxR X MT:=by
 intro w a r s G H x y v u Q I b d h B;obtain⟨z,i,c,rfl,rfl,J,C,q⟩:=h;obtain⟨t,rfl⟩:=b;obtain⟨L,rfl⟩:=d;obtain⟨j,A,E,n,l,f⟩:=JY C;have hl:↑z.cps.toList=↑z:=by simp[zZ.length]
 rw[hl]at A l f;have o:=nE;exact Wz (Vk s z t) slot_str_getitem.lookup (getItem_str (c:=c) (by
  have m:decide (i < -(2 ^ 63:Kl))=false:=gE ∅;have e:decide (i≥2 ^ 63)=false:=gE ∅;rw[m,e,Vs]) (by rw[A];simpa using E) {.str {#[c]},H,I.tok _,{_,U},q}) B
def Fk(its:Ki iH)(n j:Kk)(u:iH):Na (·.setIfInBounds j u) {cls:=.type "list",data:=.seq its.toArray n}={cls:=.type "list",data:=.seq (its.set j u).toArray n}:=by
 simp[Na]
theorem Inv.lst(I:Inv X pins σ H s)(h:H p\.lst xs):
  ∃(its:Ki iH)(n:Kk),Vals xs its/\s.heap.get? p=Kp {cls:=.type "list",data:=.seq its.toArray n}/\↑xs<=sizeLine:=by
 obtain⟨z,its,n,r,e⟩:=I.hok p _ h;exact⟨its,n,r,e,z⟩
def Inv.lstUpd{i:Ki (eH×Kh)}{m:St}{H:Hp}{s:Jx}{p:eH}{xs ys:Ki V}{its its':Ki iH}{n a:Kk}{f:Kh->Kh}(I:Inv X i m H s)(h:H p\.lst xs)
  (l:s.heap.get? p=Kp {cls:=.type "list",data:=.seq its.toArray n}) (d:f {cls:=.type "list",data:=.seq its.toArray n}={cls:=.type "list",data:=.seq its'.toArray a}) (r:Vals ys its') (hz:↑ys<=sizeLine) (t:Kk):
  Inv X i m (upd H p<|.lst ys) {s with heap:=s.heap.update p f,toks:=t}:=by
 have e:(s.heap.update p f).get? p=Kp {cls:=.type "list",data:=.seq its'.toArray a}:=by
  rw[CG f l (by rw[d] <;> rfl),d]
 refine I.write (x:=p) (e:=p) (by rw[h];trivial) (.inl rfl) (λb u j q=>(HP _ _<|bS j).trans q) {_,e} ?_;exact⟨hz,its',a,r,e⟩
def EA:V->V->V->Hp->(Hp->Prop)->Prop:=λo i v H Q=>∃p a k j,o=.ref p/\i=.int k/\H p\.lst a/\nQ ↑a k\j/\Q (upd H p<|.lst<|a.set j v)
def vA:AY X EA:=by
 intro w s M H o i v C A u Q I l z x h;obtain⟨p,O,k,j,rfl,rfl,L,m,q⟩:=h;cases l;obtain⟨t,rfl⟩:=z;obtain⟨E,n,r,a,N⟩:=I.lst L;obtain⟨G,P,e,f⟩:=SY m;have hl:=↑r;have B:=nE;have d:Inv X w M (upd H p<|.lst<|O.set j v) {s with heap:=s.heap.update p<|Na (·.setIfInBounds j u)}:=
  I.lstUpd L a (Fk E n j u) (r.set x j) (by rw[Vc];exact N) s.toks
 by_cases J:0<=k
 .have b:k.toNat=j:=by
   rw[Ut J f]at G;exact gX G
  exact PySem.W.ki_setAt a J ∅ (by rw[cW,<-hl];exact f) (by rw[b];exact{_,d,q})
 .have b:(k+(E.toArray.size:Kl)).toNat=j:=by
   rw[seqIndex_neg ∅ e]at G;rw[cW,<-hl];exact gX G
  exact PySem.W.ki_setBack a ∅ (by rw[cW,<-hl];exact e) ∅ (by rw[b];exact{_,d,q})
def Cd(lo hi:Kj Kl)(n:Kk):(Mo lo hi Kr n).1=((HT.sIx n 0 lo:Kk):Kl)/\(Mo lo hi Kr n).2.1=((HT.sIx n n hi:Kk):Kl)/\(Mo lo hi Kr n).2.2=1:=by
 refine{?_,?_,U}
 .cases lo with
  | none=>simp[Mo,HT.sIx]
  | some i=>
   simp only[Mo,HT.sIx,Ng,show(1:Kl) > 0 by decide,if_true]
   by_cases h:i<0
   .simp only[h,if_true] <;> lia
   .simp only[h,kG] <;> lia
 .cases hi with
  | none=>simp[Mo,HT.sIx]
  | some i=>
   simp only[Mo,HT.sIx,Ng,show(1:Kl) > 0 by decide,if_true]
   by_cases h:i<0
   .simp only[h,if_true] <;> lia
   .simp only[h,kG] <;> lia
def ZH(its:Ki iH)(lo hi:Kj Kl):Tk its.toArray lo hi Kr=((its.drop<|HT.sIx ↑its 0 lo).take<|HT.sIx ↑its ↑its hi-HT.sIx ↑its 0 lo).toArray:=by
 obtain⟨b,d,a⟩:=Cd lo hi its.toArray.size;unfold Tk;rw[b,d,a];simp only[sliceRange_one,pick_run,cW] <;> rfl
def nU(K:Fq):V->Kj Kl->Kj Kl->Hp->VK->Prop:=λx lo d H Q=>∃a b,x=.ref a/\SqL K H a b/\∀p,H p=Kr->Q (.ref p) (upd H p<|.lst<|dE b lo d)
def qS:SlR X (nU X.K):=by
 intro z s J H x v n w lo B m Q I f E e j h;obtain⟨a,A,rfl,i,q⟩:=h;cases f;obtain⟨C,r,d,G⟩:=I.list i;have l:=↑r;exists "list",_,slot_list_getitem.lookup,d.isList.typeIs;refine Ta d.isList E e j .none (by simp) ?_ (by rw[cW] <;> lia);rw[ZH,<-l];refine{.ref s⁻¹,_,I.laid (t':=s.toks) (o:=.lst<|dE A lo B) (λb u q=>bY _ q) (aZ _) ?_,U,q _<|I.hok.fresh<|aZ _};exact{hX (UT A lo B) G,_,0,(r.drop<|HT.sIx ↑A 0 lo).take<|HT.sIx ↑A ↑A B-HT.sIx ↑A 0 lo,dQ _ rfl}
def iI:V->Km
 | .non=>Ks
 | .bl _=>Ks
 | .int _=>Ks
 | .str _=>Ks
 | _=>Kt
def iV:V->V->Km
 | .non,.non=>Ks
 | .bl a,.bl b=>a == b
 | .bl a,.int b=>(if a then 1 else 0) == b
 | .int a,.bl b=>a == (if b then 1 else 0)
 | .int a,.int b=>a == b
 | .str a,.str b=>a == b
 | _,_=>Kt
def wG(f:RelV y u)(d:RelV x v)(h:iI y=Ks)(e:iI x=Ks):Lg A s u v (iV y x):=by
 cases y with
 | non=>
  cases f;cases x with
  | non=>cases d;exact Lg.same _
  | bl b=>cases d;exact Lg.none_bool b
  | int b=>obtain⟨t,rfl⟩:=d;exact Lg.none_int b t
  | str b=>obtain⟨t,rfl⟩:=d;exact Lg.none_str b t
  | _=>exact absurd (show Kt=Ks from e) fE
 | bl a=>
  cases f;cases x with
  | non=>cases d;exact Lg.bool_none a
  | bl b=>cases d;exact Lg.bool_bool a b
  | int b=>obtain⟨t,rfl⟩:=d;exact Lg.bool_int a b t
  | str b=>obtain⟨t,rfl⟩:=d;exact Lg.bool_str a b t
  | _=>exact absurd (show Kt=Ks from e) fE
 | int a=>
  obtain⟨i,rfl⟩:=f;cases x with
  | non=>cases d;exact Lg.int_none a i
  | bl b=>cases d;exact Lg.int_bool a i b
  | int b=>obtain⟨t,rfl⟩:=d;exact Lg.int_int a i b t
  | str b=>obtain⟨t,rfl⟩:=d;exact Lg.int_str a i b t
  | _=>exact absurd (show Kt=Ks from e) fE
 | str a=>
  obtain⟨i,rfl⟩:=f;cases x with
  | non=>cases d;exact Lg.str_none a i
  | bl b=>cases d;exact Lg.str_bool a i b
  | int b=>obtain⟨t,rfl⟩:=d;exact Lg.str_int a i b t
  | str b=>obtain⟨t,rfl⟩:=d;exact Lg.str_str a i b t
  | _=>exact absurd (show Kt=Ks from e) fE
 | _=>exact absurd (show Kt=Ks from h) fE
def gU(x:V)(u:iH):Bool:=match u with
 | .none=>iV .non x
 | .bool b=>iV (.bl b) x
 | .int i _=>iV (.int i) x
 | .str z _=>iV (.str z) x
 | _=>Kt
def JE(r:RelV y u)(f:iI y=Ks):gU x u=iV y x:=by
 cases y with
 | non=>cases r;rfl
 | bl b=>cases r;rfl
 | int i=>obtain⟨t,rfl⟩:=r;rfl
 | str z=>obtain⟨t,rfl⟩:=r;rfl
 | _=>exact absurd (show Kt=Ks from f) fE
def IM:∀{xs:Ki V}{us:Ki iH},Vals xs us->xs.all iI=Ks->us.any (gU x)=xs.any λy=>iV y x:=by
 intro xs us a
 induction a with
 | nil=>
  exact λ_=>rfl
 | cons r t b=>
  intro f;rw[Rc,pX]at f;rw[zK,zK,JE r f.1,b f.2]
def xS(b:RelV x v)(d:iI x=Ks):∀{xs:Ki V}{us:Ki iH},Vals xs us->xs.all iI=Ks->∀u∈us,Lg A s u v (gU x u):=by
 intro xs us h
 induction h with
 | nil=>
  exact λ_=>λu a=>by cases a
 | cons r t i=>
  exact λf=>λe a=>by
   rw[Rc,pX]at f;obtain rfl|a:=wx0.mp a
   .rw[JE r f.1];exact wG r b f.1 d
   .exact i f.2 e a
def gQ(x:V)(xs:Ki V):Bool:=xs.any λy=>iV y x
inductive UQ(K:Fq)(neg:Km)(x y:V)(H:Hp)(Q:VK):Prop
 | mk(p:eH)(xs:Ki V)(h1:y=.ref p)(h2:SqL K H p xs\/SqT K H p xs)(h3:iI x=Ks)(h4:xs.all iI=Ks)(q:Q (.bl<|if neg then !gQ x xs else gQ x xs) H):UQ K neg x y H Q
def jO(K:Fq)(a:Km):R2:=λx y H Q=>UQ K a x y H Q
def sJ:OpR X (Me .In) (jO X.K Kt):=by
 intro j s l H x y v u Q I e i h;obtain⟨p,m,rfl,a,f,fs,q⟩:=h;cases i;obtain a|a:=a
 .obtain⟨its,r,b,hz⟩:=I.list a;refine SeqAt.in_listAt (gU x) b.isList (λw d=>xS e f r fs w<|by simpa using d) {.bl _,H,I,U,?_};rw[show its.toArray.any (gU x)=its.any (gU x) by simp,IM r fs];exact q
 .obtain⟨its,r,b,hz⟩:=I.tuple a;refine SeqAt.in_tupleAt (gU x) b (λw d=>xS e f r fs w<|by simpa using d) {.bl _,H,I,U,?_};rw[show its.toArray.any (gU x)=its.any (gU x) by simp,IM r fs];exact q
def yK:OpR X (Me .NotIn) (jO X.K Ks):=by
 intro j s l H x y v u Q I e i h;obtain⟨p,m,rfl,a,f,fs,q⟩:=h;cases i;obtain a|a:=a
 .obtain⟨its,r,b,hz⟩:=I.list a;refine SeqAt.notIn_listAt (gU x) b.isList (λw d=>xS e f r fs w<|by simpa using d) {.bl _,H,I,U,?_};rw[show its.toArray.any (gU x)=its.any (gU x) by simp,IM r fs];exact q
 .obtain⟨its,r,b,hz⟩:=I.tuple a;refine SeqAt.notIn_tupleAt (gU x) b (λw d=>xS e f r fs w<|by simpa using d) {.bl _,H,I,U,?_};rw[show its.toArray.any (gU x)=its.any (gU x) by simp,IM r fs];exact q
def jE:CallR X (.builtin "len") (λl H Q=>∃p j,l=[.ref p]/\(SqL X.K H p j\/SqT X.K H p j)/\Q (.int ↑j) H):=by
 intro i s m H l n Q I r h;obtain⟨p,j,rfl,a,q⟩:=h;obtain⟨u,rfl,e⟩:=kR r;cases e;have f:=nE;obtain a|a:=a
 .obtain⟨its,r',b,hz⟩:=I.list a;have d:=↑r';exact Calls.call_len_list b.isList (by simp only[cW] <;> lia) {.int ↑j,H,I.tok _,{s.toks+1,by rw[cW,d]},q}
 .obtain⟨its,r',b,hz⟩:=I.tuple a;have d:=↑r';exact len_tuple b (by simp only[cW] <;> lia) {.int ↑j,H,I.tok _,{s.toks+1,by rw[cW,d]},q}
def Dc:CallR X (.builtin "len") (λd H Q=>∃z,d=[.str z]/\↑z<=sizeLine/\Q (.int ↑z) H):=by
 intro b s f H d i Q I r h;obtain⟨z,rfl,e,q⟩:=h;obtain⟨u,rfl,t,rfl⟩:=kR r;have a:=nE;exact len_str ∅ {.int ↑z,H,I.tok _,{_,U},q}
def CallR.or{f:iH}(h:CallR X f r)(h':CallR X f r'):CallR X f (λb H Q=>r b H Q\/r' b H Q):=by
 intro a s e H b i Q I d q;obtain q|q:=q
 .exact h a s e H b i Q I d q
 .exact h' a s e H b i Q I d q
def Ih:CallR X (.type "list") (λM H Q=>∃p G,M=[.ref p]/\(SqL X.K H p G\/SqT X.K H p G)/\∀l,H l=Kr->Q (.ref l) (upd H l<|.lst G)):=by
 intro z s O H M P Q I r h;obtain⟨p,G,rfl,a,q⟩:=h;obtain⟨u,rfl,m⟩:=kR r;cases m;have j:∀(A:Ki iH),Vals G A->↑G<=sizeLine->∀(B:Ka)(C:Kk),(∀b N,s.heap.get? b\N->B.get? b\N)->
   B.get? s⁻¹=Kp {cls:=.type "list",dict:=Kr,data:=.seq A.toArray C,slots:=#[]}->EP X z O Q (.ref s⁻¹) {s with heap:=B}:=λA E L B C J e=>
  ⟨.ref s⁻¹,_,I.laid (t':=s.toks) J (aZ _) (show ObjOk X.prog X.w _ B _ (.lst G) from ⟨L,A,C,E,e⟩),rfl,q _<|I.hok.fresh<|aZ _⟩
 obtain a|a:=a
 .obtain⟨A,E,d,L⟩:=I.list a;have x:=↑E;obtain⟨o,i,f,n,hd⟩:=d.isList;exact Xq p (.inl rfl) i f hd (λB C J e=>j A E L B C J e) (by simp only[cW] <;> lia)
 .obtain⟨A,E,d,L⟩:=I.tuple a;have x:=↑E;obtain⟨o,i,f,n,hd⟩:=d;exact Xq p (.inr rfl) i f hd (λB C J e=>j A E L B C J e) (by simp only[cW] <;> lia)
def jA:CallR X (.type "tuple") (λB H Q=>∃p n,B=[.ref p]/\((SqL X.K H p n/\∀l,H l=Kr->Q (.ref l) (upd H l<|.tup n))\/(SqT X.K H p n/\Q (.ref p) H))):=by
 intro f s A H B E Q I r h;obtain⟨p,n,rfl,h⟩:=h;obtain⟨u,rfl,i⟩:=kR r;cases i;obtain⟨z,q⟩|⟨z,q⟩:=h
 .obtain⟨its,r',a,hz⟩:=I.list z;have m:=↑r';refine call_tuple_list a.isList (λx C=>?_) (by simp only[cW] <;> lia);have d:Inv X f A H {s with heap:=x}:=I.kept (t':=s.toks) C;have j:Inv X f A (upd H x.objs.size<|.tup n) {s with heap:=x.push {cls:=.type "tuple",data:=.seq its.toArray}}:=
   d.laid (t':=s.toks) (λb o e=>bY _ e) (aZ _) (show ObjOk X.prog X.w _ _ _ (.tup n) from ⟨⟨hz,_,dQ _ rfl,rfl⟩,its,r',Pw.new _ _⟩)
  exact{.ref x.objs.size,_,j,U,q _<|d.hok.fresh<|aZ _}
 .obtain⟨its,r',a,hz⟩:=I.tuple z;exact call_tuple_same a {.ref p,H,I,U,q}
def JB(K:Fq)(T:String)(x:V)(H:Hp):Prop:=match x with
 | .str _=>T="str"
 | .int _=>T="int"
 | .ref p=>(T="list"/\∃b,SqL K H p b)\/(T="tuple"/\∃o,K.lookup p\o/\o.cls=.type "tuple"/\o.dict=Kr)\/
   (T="dict"/\((∃a,H p\.dK a)\/∃a,H p\.dT a))\/(T="set"/\∃S n,H p\.set S n)
 | _=>Kn
def WT(I:Inv X pins σ H s)(r:RelV x v)(h:JB X.K T x H):
  s.TypeIs v T/\∀a,v=.ref a->∃l,s.heap.get? a\l/\l.dict=none:=by
 cases x with
 | str z=>
  obtain⟨t,rfl⟩:=r;cases (show T="str" from h);exact{Vk s z t,λ_ e=>nomatch e}
 | int i=>
  obtain⟨t,rfl⟩:=r;cases (show T="int" from h);exact{Vl s i t,λ_ e=>nomatch e}
 | ref p=>
  cases r;obtain⟨rfl,u,m⟩|⟨rfl,o,f,q,hd⟩|⟨rfl,f⟩|⟨rfl,S,n,f⟩:=h
  .obtain⟨its,_,d,_⟩:=I.list m;refine{d.isList.typeIs,λa e=>?_};cases e;obtain⟨o,n,e,c,hd,_⟩:=d;exact⟨o,e,hd⟩
  .refine⟨⟨o,I.kIn p o f,q⟩,λa e=>?_⟩;cases e;exact{o,I.kIn _ o f,hd}
  .have z:∃o,s.heap.get? p\o/\o.ExactDict:=by
    obtain⟨j,f⟩|⟨j,f⟩:=f
    .obtain⟨_,_,_,_,o,_,_,e,ex,_⟩:=I.hok p _ f;exact⟨o,e,ex⟩
    .obtain⟨_,_,_,_,o,_,_,e,ex,_⟩:=I.hok p _ f;exact⟨o,e,ex⟩
   obtain⟨o,e,ex⟩:=z;refine{{o,e,ex.1},λa b=>?_};cases b;exact{o,e,ex.2.1}
  .obtain⟨o,_,_,_,e,ex,_⟩:=I.hok p _ f;refine{{o,e,ex.1},λa b=>?_};cases b;exact{o,e,ex.2.1}
 | _=>exact Mg h
def OO(K:Fq)(T:String)(r:V->Ki V->Hp->VK->Prop)(to:TE):TE:=λb H Q=>to b H λx a=>JB K T x a/\r x [] a Q
inductive JR(K:Fq)(T:String)(r:V->Ki V->Hp->VK->Prop)(t:TA)(x:V)(σ:Ki (Kj V))(H:Hp)(Q:VK):Prop
 | mk(h:JB K T x H)(q:t σ H λxs H2=>r x xs H2 Q):JR K T r t x σ H Q
def wP(K:Fq)(T:String)(r:V->Ki V->Hp->VK->Prop)(to:TE)(t:TA):TE:=λa H Q=>to a H λx b=>JR K T r t x a b Q
variable{o e:Kc}{es:Ki Kc}{to:TE}{t:TA}{name:zZ}{apos cpos:Nc}{T id:String}{r:V->Ki V->Hp->VK->Prop}
def vS(j:PlainAttrs T)(slot:Slot T name id)(f:typeOf (.builtin id)=pure (.type "method_descriptor"))(m:MtR X id r)(l:PE X o to)
  (e:Mq o name X.env (eval o X.env)=eval o X.env:=by rfl) (n:(apos.endLine == cpos.line)=true:=by rfl):PE X (.Call (.Attribute o name apos) [] [] cpos) (OO X.K T r to):=by
 intro d s u H Q I h;refine wpAny_Call_method0_late e n<|bA (l d s u H _ I h) ?_;rintro v q ⟨x,A,b,a,w,i⟩;obtain⟨z,B⟩:=WT b a w;exact{T,id,j,slot,f,z,B,oA rfl<|Sk<|m d q u A x [] v [] Q b a .nil i}
def eW(z:PlainAttrs T)(slot:Slot T name id)(q:typeOf (.builtin id)=pure (.type "method_descriptor"))(B:MtR X id r)(A:PE X o to)(j:PA X (e::es) t)
  (n:Mq o name X.env (eval o X.env)=eval o X.env:=by rfl)
  (i:((backTo cpos<|starEach (e::es) X.env).all (λx=>!x.1) && (Uy cpos<|keywordEach [] X.env).all (λx=>x.1.isSome) && decide (↑(e::es)+↑([]:Ki Os)+(if ([]:Ki Os).isEmpty then 0 else 1)<30))=true:=by rfl)
  (l:(apos.endLine == cpos.line)=true:=by rfl) (hs:starEach (e::es) X.env=(Kt,eval e X.env)::starEach es X.env:=by rfl) (C:(backTo cpos<|starEach es X.env).any (·.1)=false:=by rfl):
  PE X (.Call (.Attribute o name apos) (e::es) [] cpos) (wP X.K T r to t):=by
 intro a s J H Q I h;refine wpAny_Call_method_late n i l rfl<|bA (A a s J H _ I h) ?_;rintro v G ⟨x,N,f,b,L,w⟩;obtain⟨Y,P⟩:=WT f b L;exists T,id,z,slot,q,Y,P;have d:=j cpos a G J N _ f w;rw[hs]at d ⊢;refine oA (by show(Kt || (backTo cpos<|starEach es X.env).any (·.1))=Kt;rw[C] <;> rfl)<|uZ ?_;exact bA d <| by rintro W O ⟨vs,M,m,E,u⟩;exact B a O J M x vs v W Q m b E u
end
def IW(X:Cx)(id:String)(r:V->Ki V->Hp->VK->Prop):Prop:=
 ∀(a:Ki (eH×Kh))(s:Jx)(b:St)(H:Hp)(x:V)(d:Ki V)(v:iH)(e:Ki iH)(Q:VK),Inv X a b H s->RelV x v->Vals d e->r x d H Q->
  Kx (Ky X.prog X.w) X.A (call (.builtin id)<|v::e) (EP X a b Q) X.xe s
def Vals.one:∀{x:V}{us:Ki iH},Vals [x] us->∃u,us=[u]/\RelV x u
 | _,_,.cons r .nil=>⟨_,rfl,r⟩
def Vals.zero:∀{us:Ki iH},Vals [] us->us=[]
 | _,.nil=>rfl
theorem Vals.dropLast(h:Vals xs us):Vals xs.dropLast us.dropLast:=by
 induction h with
 | nil=>exact .nil
 | cons r t a=>
  cases t with
  | nil=>exact .nil
  | cons q b=>exact .cons r a
theorem Vals.eraseIdx:∀{xs:Ki V}{us:Ki iH}(i:Kk),Vals xs us->Vals (xs.eraseIdx i) (us.eraseIdx i)
 | _,_,_,.nil=>.nil
 | _,_,0,.cons _ t=>t
 | _,_,i+1,.cons r t=>.cons r<|Vals.eraseIdx i t
theorem Vals.reverse(h:Vals xs us):Vals xs.reverse us.reverse:=by
 induction h with
 | nil=>exact .nil
 | cons r t a=>rw[yM,yM];exact Vals.append a<|.cons r .nil
def Vals.rep(h:Vals xs us):∀k:Kk,Vals (Lf k xs).flatten (Lf k us).flatten:=λk=>Ln
 (.nil)
 (λk a=>by
  rw[zO,zO,HX,HX];exact Vals.append h<|a) k
def Df{f:Type}(l:Ki f):l.eraseIdx (↑l-1)=l.dropLast:=by
 induction l with
 | nil=>rfl
 | cons a r d=>
  cases r with
  | nil=>rfl
  | cons b r=>
   have e:↑(a::b::r)-1=(↑(b::r)-1)+1:=by
    have i:↑(a::b::r)=↑r+2:=rfl;have h:↑(b::r)=↑r+1:=rfl;lia
   rw[e,Ki.eraseIdx_cons_succ,d]
   all_goals rfl
theorem RD{a:Type}:∀(l:Ki a)(i:Kk),↑(l.eraseIdx i)<=↑l
 | [],_=>aZ _
 | _::_,0=>kI _
 | _::r,i+1=>Kk.succ_le_succ<|RD r i
def Jk(its:Ki iH):∀(k:Kk)(a:Ki iH),
  Tv (λd f=>d++f) a.toArray (Lf k its.toArray)=(a++(Lf k its).flatten).toArray:=λk=>Ln
 (λa=>by simp)
 (λk h a=>by
  have e:a.toArray++its.toArray=(a++its).toArray:=by simp
  have b:(a++its)++(Lf k its).flatten=a++(Lf (k+1) its).flatten:=by
   rw[zO,HX,gF]
  rw[<-b,<-h (a++its),<-e,zO,pO]) k
section
variable{pins:Ki (eH×Kh)}{σ:St}{H:Hp}{s:Jx}{l b:eH}{xs ys zs:Ki V}
def Inv.lset{its its':Ki iH}{n:Kk}{f:Ko iH->Ko iH}{t':Kk}(I:Inv X pins σ H s)(i:H l\.lst xs)
  (e:s.heap.get? l=Kp {cls:=.type "list",data:=.seq its.toArray n}) (a:f its.toArray=its'.toArray) (h:Vals ys its') (hz:↑ys<=sizeLine):
  Inv X pins σ (upd H l<|.lst ys) {s with heap:=s.heap.update l<|Na f,toks:=t'}:=by
 have q:=PySem.IsL.update e f;rw[a]at q;refine I.write (x:=l) (e:=l) (by rw[i];exact trivial) (.inl rfl) (λj u b d=>(HP s.heap (Na f)<|bS b).trans d) {_,q} ?_;exact{hz,its',_,h,q}
def Inv.lnew(I:Inv X pins σ H s)(a:Vals ys its)(hz:↑ys<=sizeLine):
  Inv X pins σ (upd H s⁻¹<|.lst ys) {s with heap:=s.heap.push {cls:=.type "list",data:=.seq its.toArray},toks:=t'}:=
 I.laid (λ_ _ q=>bY _ q) (aZ _) ⟨hz,its,0,a,dQ _ rfl⟩
theorem Inv.fresh(I:Inv X pins σ H s):H s⁻¹=none:=I.hok.fresh<|aZ _
def Inv.lstM(I:Inv X pins σ H s)(a:H l\.lst xs):↑xs<=sizeLine/\∃(its:Ki iH)(n:Kk),Vals xs its/\↑xs=↑its/\s.heap.get? l=Kp {cls:=.type "list",data:=.seq its.toArray n}:=by
 obtain⟨z,its,n,r,e⟩:=I.hok l _ a;exact{z,its,n,r,↑r,e}
def UE(h:n<=sizeLine):Nq n=false:=by
 unfold Nq;exact gE ∅
end
inductive BR(x:V)(vs:Ki V)(H:Hp)(Q:VK):Prop
 | mk(l:eH)(xs:Ki V)(y:V)(h1:x=.ref l)(h2:vs=[y])(h3:H l\.lst xs)(h4:↑xs<sizeLine)(q:Q .non (upd H l<|.lst<|xs++[y])):BR x vs H Q
def zF:V->Ki V->Hp->VK->Prop:=λx vs H Q=>BR x vs H Q
def fL:IW X "list.append" zF:=by
 intro i s m H x vs v w Q I b f h;obtain⟨l,A,y,rfl,rfl,a,o,q⟩:=h;cases b;obtain⟨u,rfl,d⟩:=f.one;obtain⟨z,j,n,r,hl,e⟩:=I.lstM a;refine vC F.slot_list_append {_,e,U} F.entry_list_append (F.args_list_append_2 _ _) (PySem.list_append l j.toArray n u<|by rw[cW];lia) {e,?_};refine{.non,_,I.lset (its':=j++[u]) a e (by simp) (r.append<|.cons d .nil) ?_,U,q};rw[bN,eJ];lia
def ZU:V->Ki V->Hp->VK->Prop:=λx vs H Q=>∃l b d a,x=.ref l/\vs=[.ref b]/\H l\.lst d/\H b\.lst a/\↑d+↑a<=sizeLine/\Q .non (upd H l<|.lst<|d++a)
def Au:IW X "list.extend" ZU:=by
 intro E s M H x vs v T Q I f B h;obtain⟨l,b,O,P,rfl,rfl,d,A,N,q⟩:=h;cases f;obtain⟨u,rfl,o⟩:=B.one;cases o;obtain⟨z,J,n,r,hl,e⟩:=I.lstM d;obtain⟨C,a,i,m,G,j⟩:=I.lstM A;have L:J.toArray.size+a.toArray.size<=sizeLine:=by rw[cW,cW];lia
 have w:¬(!J.toArray.isEmpty && Nq (J.toArray.size+a.toArray.size))=true:=by
  rw[UE L,Km.and_false];exact fE
 refine vC F.slot_list_extend {_,e,U} F.entry_list_extend (F.args_list_extend_2 _ _)
  (AutoSeq1.list_extend_list_list_0 l J.toArray n b a.toArray i w (by rw[cW];lia) ∅) ⟨e,j,?_⟩
 refine{.non,_,I.lset (its':=J++a) d e (by simp) (r.append m) ?_,U,q};rw[bN];lia
def LG:V->Ki V->Hp->VK->Prop:=λx vs H Q=>∃l a y,x=.ref l/\vs=[]/\H l\.lst a/\a[↑a-1]?\y/\Q y (upd H l<|.lst a.dropLast)
def sG:IW X "list.pop" LG:=by
 intro w s B H x vs v C Q I d o h;obtain⟨l,E,y,rfl,rfl,a,m,q⟩:=h;cases d;have b:=o.zero;subst b;obtain⟨z,A,n,r,hl,e⟩:=I.lstM a;obtain⟨u,i,f⟩:=r.get m;have j:A.toArray[A.toArray.size-1]?\u:=by
  show A.toArray[↑A-1]?=Kp u;rw[<-Nz,<-hl];exact i
 refine vC Vy {_,e,U} Vr (F.args_list_pop_1 _) (MeetsSeq.list_pop_last l A.toArray n u j<|by rw[cW];lia) {e,?_};refine{y,_,I.lset (its':=A.dropLast) a e ?_ r.dropLast ?_,f,q}
 .show A.toArray.eraseIdxIfInBounds (A.toArray.size-1)=A.dropLast.toArray;rw[cW,Ps,Df]
 .rw[Ki.length_dropLast];lia
def ON:V->Ki V->Hp->VK->Prop:=λx vs H Q=>∃l a i k y,x=.ref l/\vs=[.int i]/\H l\.lst a/\-(2 ^ 63)<=i/\i<2 ^ 63/\Oe i ↑a\k/\a[k]?\y/\Q y (upd H l<|.lst<|a.eraseIdx k)
def RS:IW X "list.pop" ON:=by
 intro B s L H x vs v M Q I b A h;obtain⟨l,J,i,k,y,rfl,rfl,a,E,G,d,o,q⟩:=h;cases b;obtain⟨u,rfl,j⟩:=A.one;obtain⟨t,rfl⟩:=j;obtain⟨z,C,n,r,hl,e⟩:=I.lstM a;obtain⟨w,f,m⟩:=r.get o;refine vC Vy {_,e,U} Vr (F.args_list_pop_2 _ _)
  (MeetsSeq.list_pop_at l C.toArray n i t k w (Xf E G) (by rw[cW,<-hl];exact d) (by rw[<-Nz];exact f)<|by rw[cW];lia) ⟨e,?_⟩
 refine{y,_,I.lset (its':=C.eraseIdx k) a e ?_ (r.eraseIdx k) ?_,m,q}
 .show C.toArray.eraseIdxIfInBounds k=(C.eraseIdx k).toArray;rw[Ps]
 .have:=RD J k;lia
def DX:R2:=λx y H Q=>∃l b d a,x=.ref l/\y=.ref b/\H l\.lst d/\H b\.lst a/\↑d+↑a<=sizeLine/\∀p,H p=Kr->Q (.ref p) (upd H p<|.lst<|d++a)
def sU:OpR X (Mp .Add) DX:=by
 intro E s L H x y v u Q I d f h;obtain⟨l,b,N,J,rfl,rfl,i,w,M,q⟩:=h;cases d;cases f;obtain⟨z,G,n,r,hl,e⟩:=I.lstM i;obtain⟨A,a,C,m,B,j⟩:=I.lstM w;refine PySem.P.add_list e j ?_ (by rw[cW,cW];lia);have o:G.toArray++a.toArray=(G++a).toArray:=by simp
 rw[o];exact{.ref _,_,I.lnew (t':=s.toks) (r.append m) (by rw[bN];lia),U,q _ I.fresh}
def KG:R2:=λx y H Q=>∃l k a,x=.ref l/\y=.int k/\H l\.lst a/\-(2 ^ 63)<=k/\k<2 ^ 63/\↑a*k.toNat<=sizeLine/\
 ∀p,H p=Kr->Q (.ref p) (upd H p<|.lst (Lf k.toNat a).flatten)
def YP{b:Type}(xs:Ki b)(k:Kk):(Lf k xs).flatten.length=k*↑xs:=by
 induction k with
 | zero=>simp
 | succ k a=>rw[zO,HX,bN,a,Wk,Kk.add_comm]
def wF:OpR X (Mp .Mult) KG:=by
 intro G s P H x y v u Q I i A h;obtain⟨l,k,W,rfl,rfl,C,O,N,L,q⟩:=h;cases i;obtain⟨t,rfl⟩:=A;obtain⟨z,J,n,r,hl,e⟩:=I.lstM C;have E:J.toArray.size*k.toNat<=sizeLine:=by rw[cW,<-hl];exact L
 have w:¬J.toArray.size*k.toNat > (2 ^ 63-1) / 8:=by
  have:(sizeLine:Kk)<=(2 ^ 63-1) / 8:=by decide
  lia
 have f:¬(!Jy.List.listFitsIndex k)=true:=by
  rw[Xf O N];exact fE
 have o:¬Nq (J.toArray.size*k.toNat)=true:=by
  rw[UE E];exact fE
 have B:Tv (λd b=>d++b) #[] (Lf (if J.toArray.isEmpty=Ks then 0 else k.toNat) J.toArray)=(Lf k.toNat J).flatten.toArray:=by
  have j:∀m:Kk,Tv (λd b=>d++b) #[] (Lf m J.toArray)=(Lf m J).flatten.toArray:=λm=>by
   have:=Jk J m [];rw[zJ]at this;exact this
  rw[j];cases J with
  | nil=>simp
  | cons a Y=>rw[bC<|by simp]
 refine wpAny_binaryOp_repeat_ref (T:="list") (U:="int") (by decide) {_,e,U} (λM=>Vl M k t) noFill_list_mul F.fills_int_mul Vz repeat_list F.slot_int_index.lookup
  (vC Vz (Vl s k t) F.entry_int_rmul (F.args_int_rmul_2 _ _) (int___rmul___int_list k t l J.toArray n) ⟨e,rfl,⟨_,e,rfl⟩,vC F.slot_list_mul ⟨_,e,rfl⟩ F.entry_list_mul (F.args_list_mul_2 _ _) (AutoListH.list___mul___list_int_3 l J.toArray n k t f w o) ⟨e,?_⟩⟩)
 rw[B];exact{.ref _,_,I.lnew (t':=s.toks) (r.rep k.toNat) (by rw[YP,Kk.mul_comm];exact L),U,q _ I.fresh}
section
variable{κ:Type}[DecidableEq κ]
def aF(kvs:Ki (κ×V))(k:κ):Kj V:=(kvs.find? λa=>decide<|a.1=k).map (·.2)
def aL(kvs:Ki (κ×V))(k:κ)(v:V):Ki (κ×V):=
 if (kvs.any λa=>decide<|a.1=k)=Ks then kvs.map (λa=>if a.1=k then(a.1,v) else a) else kvs++[(k,v)]
def kU{p:κ×V}{r:Ki (κ×V)}{k:κ}(e:p.1=k):aF (p::r) k\p.2:=by simp[aF,mL,e]
def kX{p:κ×V}{r:Ki (κ×V)}{k:κ}(e:¬p.1=k):aF (p::r) k=aF r k:=by simp[aF,mL,e]
def uJ(k:κ):∀d:Ki (κ×V),(d.any λb=>decide<|b.1=k)=(aF d k).isSome:=λd=>d.recOn
 (rfl)
 λp r a=>by
  rw[zK]
  by_cases e:p.1=k
  .simp only[kU e,dP e,Km.true_or,Kj.isSome_some]
  .rw[kX e,gE e,Km.false_or];exact a
def Er(k j:κ)(y:V):∀f:Ki (κ×V),aF (f.map λa=>if a.1=k then(a.1,y) else a) j=(aF f j).map λx=>if j=k then y else x:=λf=>f.recOn
 (rfl)
 λp r d=>by
  have b:=d;rw[dD]
  by_cases h:p.1=k
  .rw[bF h]
   by_cases e:p.1=j
   .rw[kU (p:=(p.1,y)) e,kU e,Nn,bF<|e.symm.trans h]
   .rw[kX (p:=(p.1,y)) e,kX e,b]
  .rw[bC h]
   by_cases e:p.1=j
   .rw[kU (p:=p) e,kU e,Nn,bC λz=>h<|e.trans z]
   .rw[kX (p:=p) e,kX e,b]
def An(k j:κ)(y:V):∀h:Ki (κ×V),aF h k=Kr->aF (h++[(k,y)]) j=if j=k then Kp y else aF h j:=λh=>h.recOn
 (λ_=>by
  by_cases e:k=j
  .rw[bF e.symm];exact kU (p:=(k,y)) e
  .rw[bC λz=>e z.symm];exact kX (p:=(k,y)) e)
 λp r f a=>by
  rw[Nk];have b:¬p.1=k:=λz=>by rw[kU z]at a;cases a
  rw[kX b]at a;have d:=f a
  by_cases e:p.1=j
  .rw[kU e,kU e,bC λz=>b<|e.trans z]
  .rw[kX e,kX e,d]
def hZ(kvs:Ki (κ×V))(k j:κ)(y:V):aF (aL kvs k y) j=if j=k then Kp y else aF kvs j:=by
 unfold aL
 by_cases a:(kvs.any λd=>decide<|d.1=k)=Ks
 .rw[bF a,Er];rw[uJ]at a
  by_cases e:j=k
  .obtain⟨x,b⟩:=vs4.mp a;rw[bF e,e,b,Nn,bF rfl]
  .rw[bC e];cases aF kvs j with
   | none=>rfl
   | some x=>rw[Nn,bC e]
 .rw[bC a];refine An k j y kvs ?_;rw[uJ]at a;cases q:aF kvs k with
  | none=>rfl
  | some x=>rw[q]at a;exact(a rfl).elim
def jR(kvs:Ki (κ×V))(k:κ)(v:V):↑(aL kvs k v)<=↑kvs+1:=by
 unfold aL
 split
 .rw[aK];lia
 .rw[bN,cN,iY];lia
def GG{kvs:Ki (κ×V)}{k:κ}(v:V)(h:aF kvs k=Kr):aL kvs k v=kvs++[(k,v)]:=by
 unfold aL;rw[uJ,h];exact bC (by decide)
def RelO.isSome_eq(r:RelO o u):o.isSome=u.isSome:=by
 cases o with
 | none=>cases u with
  | none=>rfl
  | some _=>exact(show Kn from r).elim
 | some _=>cases u with
  | none=>exact(show Kn from r).elim
  | some _=>rfl
theorem RelO.getD(r:RelO o u)(rd:RelV d d'):RelV (o.getD d) (u.getD d'):=by
 cases o with
 | none=>cases u with
  | none=>exact rd
  | some _=>exact(show Kn from r).elim
 | some _=>cases u with
  | none=>exact(show Kn from r).elim
  | some _=>exact r
def KV.val(r:KV kvs vs)(k:κ):RelO (aF kvs k) (valueAt vs k):=by
 unfold KV at r
 induction r with
 | nil=>exact gP
 | @cons p q l d h t j=>
  obtain⟨f,i⟩:=h
  by_cases e:p.1=k
  .have a:q.1=k:=f.symm.trans e;have b:valueAt (q::d) k\q.2:=by simp[valueAt,mL,a]
   rw[kU e,b];exact i
  .have a:¬q.1=k:=λz=>e<|f.trans z;have b:valueAt (q::d) k=valueAt d k:=by simp[valueAt,mL,a]
   rw[kX e,b];exact j
theorem KV.any(r:KV kvs vs)(k:κ):(kvs.any λa=>decide<|a.1=k)=vs.any λa=>decide (a.1=k):=by
 unfold KV at r
 induction r with
 | nil=>rfl
 | cons h t b=>rw[zK,zK,b,h.1]
def KV.repl(r:KV kvs vs)(k:κ)(b:RelV y u):
  KV (kvs.map λa=>if a.1=k then(a.1,y) else a) (vs.map λa=>if a.1=k then(a.1,u) else a):=by
 unfold KV at r ⊢
 induction r with
 | nil=>exact .nil
 | @cons p q j l h t i=>
  rw[dD,dD];refine .cons ?_ i;obtain⟨d,f⟩:=h
  by_cases e:p.1=k
  .rw[bF e,bF<|d.symm.trans e];exact⟨d,b⟩
  .rw[bC e,bC λz=>e<|d.trans z];exact⟨d,f⟩
def KV.put(r:KV kvs vs)(k:κ)(a:RelV y u):KV (aL kvs k y) (stored vs k u):=by
 unfold aL stored;rw[r.any k]
 by_cases e:(vs.any λb=>decide<|b.1=k)=Ks
 .rw[bF e,bF e];exact r.repl k a
 .rw[bC e,bC e];exact Paired.snoc r ⟨rfl,a⟩
theorem KV.length(r:KV kvs vs):↑kvs=↑vs:=Paired.length r
end
def kQ(r:RelV (kV k) u):(cO P w).is k u=true:=by
 cases k with
 | inl i=>obtain⟨t,e⟩:=(show ∃t,u=Pi i t from r);subst e;exact Dr P w i t
 | inr x=>obtain⟨t,e⟩:=(show ∃t,u=iH.str x t from r);subst e;exact Db P w x t
def RG:∀{ks:Ki aG}{us:Ki iH},Vals (ks.map kV) us->ItemsAre (cO P w) ks us:=by
 intro ks
 induction ks with
 | nil=>intro _ r;rw[Pk]at r;cases r;exact .nil
 | cons k ks a=>
  intro _ r;rw[dD]at r;cases r with
  | cons h t=>exact .cons (kQ h)<|a t
abbrev KT(H:Hp):Ki (Ki aG×V)->Ki (Ki aG×eH×iH)->Prop:=Paired λp q=>p.1=q.1/\H q.2.1\(.tup<|p.1.map kV)/\RelV p.2 q.2.2
def KT.val(r:KT H kvs xs)(k:Ki aG):RelO (aF kvs k) ((Qf xs k).map (·.2)):=by
 induction r with
 | nil=>exact gP
 | @cons p q l d h t j=>
  obtain⟨f,_,i⟩:=h
  by_cases e:p.1=k
  .have a:q.1=k:=f.symm.trans e;have b:Qf (q::d) k\q.2:=by simp[Qf,mL,a]
   rw[kU e,b];exact i
  .have a:¬q.1=k:=λz=>e<|f.trans z;have b:Qf (q::d) k=Qf d k:=by simp[Qf,mL,a]
   rw[kX e,b];exact j
def KT.repl(r:KT H kvs xs)(k:Ki aG)(b:RelV y u):
  KT H (kvs.map λa=>if a.1=k then(a.1,y) else a) (xs.map<|putAt k u):=by
 induction r with
 | nil=>exact .nil
 | @cons p q l m h t j=>
  rw[dD,dD];refine .cons ?_ j;obtain⟨f,i,d⟩:=h;unfold putAt
  by_cases e:p.1=k
  .rw[bF e,bF<|f.symm.trans e];exact⟨f,i,b⟩
  .rw[bC e,bC λz=>e<|f.trans z];exact⟨f,i,d⟩
def KT.put(r:KT H kvs xs)(k:Ki aG)(d:H b\(.tup<|k.map kV))(a:RelV y u):
  KT H (aL kvs k y) (Vu xs k b u):=by
 have e:(kvs.any λf=>decide<|f.1=k)=(Qf xs k).isSome:=by
  rw[uJ,(r.val k).isSome_eq,CO]
 unfold aL Vu;rw[e]
 by_cases q:(Qf xs k).isSome=Ks
 .rw[bF q,bF q];exact r.repl k a
 .rw[bC q,bC q];exact Paired.snoc r ⟨rfl,d,a⟩
def KT.keeps(r:KT H kvs xs)(a:∀b d,H b\.tup d->H' b\.tup d):KT H' kvs xs:=
 Paired.mapP r λ_ _ z=>⟨z.1,a _ _ z.2.1,z.2.2⟩
section
variable{P:Jz}{w:Kb}{H:Hp}{h:Ka}{a:eH}
def QH(ok:HOk P w H h)(e:Rd H a u):ObjOk P w H h a u:=e.ok ok
def lT(ok:HOk P w H h)(e:Rd H a (.dK kvs)):↑kvs<=sizeLine/\(a == Lm)=Kt/\∃vs,KV kvs vs/\h.DictOf (cO P w) a vs:=
 show ObjOk P w H h a (.dK kvs) from QH ok e
def zN(ok:HOk P w H h)(e:H a\.dK kvs):↑kvs<=sizeLine/\(a == Lm)=Kt/\∃vs,KV kvs vs/\h.DictOf (cO P w) a vs:=lT ok<|.inl e
def pQ(ok:HOk P w H h)(e:H a\(.tup<|ks.map kV)):(tupleKind<|cO P w).is h ks a:=by
 obtain⟨_,d,r,o,i,f,n,b⟩:=(show ObjOk P w H h a (.tup<|ks.map kV) from ok a _ e);exact{o,d.toArray,n,i,f,b,by simpa using RG r}
def rJ(ok:HOk P w H h)(e:Rd H a (.dT kvs)):↑kvs<=sizeLine/\(a == Lm)=Kt/\
  ∃xs,KT H kvs xs/\h.DictOfH (tupleKind<|cO P w) a xs:=by
 obtain⟨z,y,xs,r,o,B,n,A,u,d,i,f⟩:=(show ObjOk P w H h a (.dT kvs) from QH ok e);refine{z,y,xs,r,o,B,n,A,u,d,i,λx b=>?_,f};have all:∀{l:Ki (Ki aG×V)}{m:Ki (Ki aG×eH×iH)},KT H l m->∀x∈m,(tupleKind<|cO P w).is h x.1 x.2.1:=by
  intro l m q
  induction q with
  | nil=>intro x b;exact nomatch b
  | @cons p q E C j t s=>
   intro x b;obtain e|b:=wx0.mp b
   .subst e;exact pQ ok (by rw[<-j.1];exact j.2.1)
   .exact s x b
 exact all r x b
def oP(ok:HOk P w H h)(e:H a\.dT kvs):↑kvs<=sizeLine/\(a == Lm)=Kt/\
  ∃xs,KT H kvs xs/\h.DictOfH (tupleKind<|cO P w) a xs:=rJ ok<|.inl e
end
def DGet(H:Hp)(a:eH)(y:V)(r:Kj V):Prop:=
 (∃d k,Rd H a (.dK d)/\y=kV k/\r=aF d k)\/∃d k b,Rd H a (.dT d)/\y=.ref b/\H b\(.tup<|k.map kV)/\r=aF d k
def DPut(H:Hp)(a:eH)(y v:V)(H':Hp):Prop:=
 (∃d k,H a\.dK d/\y=kV k/\↑d<sizeLine/\H'=upd H a (.dK<|aL d k v))\/
 ∃d k b,H a\.dT d/\y=.ref b/\H b\(.tup<|k.map kV)/\↑d<sizeLine/\H'=upd H a (.dT<|aL d k v)
theorem DGet.k{H:Hp}{a:eH}{kvs:Ki (aG×V)}{k:aG}(e:H a\.dK kvs):DGet H a (kV k) (aF kvs k):=.inl ⟨kvs,k,.inl e,rfl,rfl⟩
def DGet.t{H:Hp}{a b:eH}{kvs:Ki (Ki aG×V)}{k:Ki aG}(e:H a\.dT kvs)(d:H b\(.tup<|k.map kV)):DGet H a (.ref b) (aF kvs k):=.inr ⟨kvs,k,b,.inl e,rfl,d,rfl⟩
theorem DPut.k{H:Hp}{a:eH}{kvs:Ki (aG×V)}{k:aG}{v:V}(e:H a\.dK kvs)(hl:↑kvs<sizeLine):DPut H a (kV k) v (upd H a<|.dK<|aL kvs k v):=.inl ⟨kvs,k,e,rfl,hl,rfl⟩
def DPut.t{H:Hp}{a b:eH}{kvs:Ki (Ki aG×V)}{k:Ki aG}{v:V}(e:H a\.dT kvs)(d:H b\(.tup<|k.map kV))(hl:↑kvs<sizeLine):
  DPut H a (.ref b) v (upd H a<|.dT<|aL kvs k v):=.inr ⟨kvs,k,b,e,rfl,d,hl,rfl⟩
section
variable{pins:Ki (eH×Kh)}{σ:St}{H:Hp}{s:Jx}{a:eH}{y v:V}{u r:iH}{o:Kj V}{A:Kg}{E:Vp}
def Inv.big(I:Inv X pins σ H s):Lm<s⁻¹:=by
 have h:Le<s⁻¹:=(I.mod.glob.keeps I.bk).lt;exact yL (by decide) h
def Bi(r:A.units+1<cLine)(I:Inv X pins σ H s)(g:DGet H a y (Kp v))(n:RelV y u)(h:∀d C,Inv X pins σ H C->RelV v d->Q d C):
  Kx (Ky X.prog X.w) A (On (.ref a) u) Q E s:=by
 obtain⟨x,k,e,B,l⟩|⟨x,k,b,e,B,G,l⟩:=g
 .subst B;obtain⟨z,hd,vs,i,j⟩:=lT I.hok e;obtain⟨d,m,f⟩:=RelO.some_of (v:=v) (o:=valueAt vs k) (by rw[l];exact i.val k);exact Wb (kQ n) j.mapOf m<|h d _ (I.tok _) f
 .subst B;cases (show u=Kz b from n);obtain⟨z,hd,L,i,j⟩:=rJ I.hok e;obtain⟨d,m,f⟩:=RelO.some_of (v:=v) (o:=(Qf L k).map (·.2)) (by rw[l];exact i.val k);obtain⟨p,J,q⟩:=wx3.mp m;refine Vi (rP r) (pQ I.hok G) j J ?_;rw[q];exact h d _ (I.tok _) f
def QG(j:A.units+1<cLine)(I:Inv X pins σ H s)(g:DGet H a y o)(i:RelV y u)(h:∀r,Inv X pins σ H r->Q (.bool o.isSome) r):
  Kx (Ky X.prog X.w) A (Me .In u<|.ref a) Q E s:=by
 obtain⟨m,k,e,n,l⟩|⟨m,k,b,e,n,x,l⟩:=g
 .subst n;obtain⟨z,hd,vs,d,f⟩:=lT I.hok e;refine wpAny_in_of (kQ i) hd f.mapOf ?_;rw[<-(d.val k).isSome_eq,<-l];exact h _<|I.tok _
 .subst n;cases (show u=Kz b from i);obtain⟨z,hd,B,d,f⟩:=rJ I.hok e;refine wpAny_in_heap (rP j) (pQ I.hok x) hd f ?_;have q:=(d.val k).isSome_eq;rw[CO]at q;rw[<-q,<-l];exact h _<|I.tok _
def Ab(j:A.units+1<cLine)(I:Inv X pins σ H s)(g:DGet H a y o)(i:RelV y u)(h:∀r,Inv X pins σ H r->Q (.bool<|!o.isSome) r):
  Kx (Ky X.prog X.w) A (Me .NotIn u<|.ref a) Q E s:=by
 obtain⟨m,k,e,n,l⟩|⟨m,k,b,e,n,x,l⟩:=g
 .subst n;obtain⟨z,hd,vs,d,f⟩:=lT I.hok e;refine wpAny_notIn_of (kQ i) hd f.mapOf ?_;rw[<-(d.val k).isSome_eq,<-l];exact h _<|I.tok _
 .subst n;cases (show u=Kz b from i);obtain⟨z,hd,B,d,f⟩:=rJ I.hok e;refine wpAny_notIn_heap (rP j) (pQ I.hok x) hd f ?_;have q:=(d.val k).isSome_eq;rw[CO]at q;rw[<-q,<-l];exact h _<|I.tok _
def wH(I:Inv X pins σ H s)(d:zX (H a))(hs:Lq a s.heap h')(he:∃q,h'.get? a\q)(new:ObjOk X.prog X.w (upd H a ob) h' a ob):
  Inv X pins σ (upd H a ob) {s with heap:=h',toks:=t'}:=
 I.write (x:=a) (e:=a) d (.inl rfl) (λb q f z=>(hs.2 b f).trans z) he new
def GE(z:↑kvs<=sizeLine)(hd:(a == Lm)=Kt)(b:KV kvs vs)(d:h'.DictOf (cO P w) a vs):
  ObjOk P w H' h' a (.dK kvs):=⟨z,hd,vs,b,d⟩
def Ey(B:A.units+1<cLine)(I:Inv X pins σ H s)(g:DPut H a y v H')(m:RelV y u)(o:RelV v r)(h:∀W,Inv X pins σ H' W->Q () W):
  Kx (Ky X.prog X.w) A (Xx (.ref a) u r) Q E s:=by
 obtain⟨J,k,e,O,l,N⟩|⟨J,k,b,e,O,P,l,N⟩:=g
 .subst O N;obtain⟨z,hd,vs,d,j⟩:=zN I.hok e;have M:↑vs<=sizeLine:=by rw[<-↑d];exact z
  have hl:↑(aL J k v)<=sizeLine:=by have:=jR J k v;lia
  refine wpAny_setItem_pairs (hsz:=M) (kQ m) j λT f L=>h _ ?_;have Y:∃q,T.get? a\q:=let ⟨q,_,_,i,_⟩:=f;⟨q,i⟩
  exact wH I (by rw[e];exact gP) L Y<|GE hl hd (d.put k o) f
 .subst O N;cases (show u=Kz b from m);obtain⟨z,hd,xs,d,j⟩:=oP I.hok e;have M:↑xs<=sizeLine:=by rw[<-Paired.length d];exact z
  have hl:↑(aL J k v)<=sizeLine:=by have:=jR J k v;lia
  refine wpAny_setItem_heap (hsz:=M) (rP B) (pQ I.hok P) j λT f L=>h _ ?_;obtain⟨q,Z,ep,i,h2,x,G,_,C⟩:=f;refine wH I (by rw[e];exact gP) L ⟨q,i⟩ {hl,hd,_,(d.put k P o).keeps λc ys n=>?_,q,Z,ep,i,h2,x,G,C};rw[aC<|oU n e λz=>nomatch z];exact n
end
section
variable{pins:Ki (eH×Kh)}{σ:St}{H:Hp}{s:Jx}{a:eH}{kvs:Ki (aG×V)}{k:aG}{u:iH}{A:Kg}{E:Vp}
end
def oD(i:Kc):Prop:=∀a b,Qx i Kt a b=Xy [a,b] (On a b)
def QJ{prog:Jz}{w:Kb}{A:Kg}{E:Vp}{s:Jx}{env:Rg}{q a:Kc}{pos:Nc}{T id:String}{Q:Vp}
  (hl:Nh (.type T) "__getitem__"=pure (Kp<|.builtin id)) (hs:oD a)
  (h:Kx (Ky prog w) A (eval q env) (λo l=>Kx (Ky prog w) A (eval a env) (λi b=>b.TypeIs o T/\Kx (Ky prog w) A (On o i) Q E b) E l) E s):
  Kx (Ky prog w) A (eval (.Subscript q a pos) env) Q E s:=by
 refine Rt<|gC h (λo l m=>gC m (λi b d=>?_) λ_ _ x=>x) λ_ _ x=>x;obtain⟨f,d⟩:=d;unfold Pu;refine aN ?_;rw[getitemInPython_of_ne f.not_modules];refine aN<|oS f hl ?_;have e:Kx (Ky prog w) A (Qx a Kt o i) (λr j=>Kx (Ky prog w) A (letTemporaryGo q o r >>= λ_=>pure r) Q E j) E b:=by
  rw[hs o i];exact wpAny_operating<|gC d (λr j n=>aN<|wpAny_letTemporaryGo<|bL n) λ_ _ x=>x
 first
  | exact bL (aN e)
  | exact aN (bL<|aN e)
  | exact aN e
def Fc(I:Inv X pins σ H s)(g:DGet H a y o):s.TypeIs (.ref a) "dict":=by
 obtain⟨f,k,e,_,_⟩|⟨f,k,b,e,_,_,_⟩:=g
 .obtain⟨_,_,vs,_,d⟩:=lT I.hok e;exact d.typeIs
 .obtain⟨_,_,xs,_,d⟩:=rJ I.hok e;exact d.typeIs
inductive UJ(x y:V)(H:Hp)(Q:VK):Prop
 | mk(a:eH)(v:V)(h1:x=.ref a)(h2:DGet H a y (Kp v))(q:Q v H):UJ x y H Q
def nK(td b:TE):TE:=λa H Q=>td a H λx e=>b a e λy d=>UJ x y d Q
def AZ(e td:TE):TE:=λd H Q=>e d H λy f=>td d f λx b=>∃a o,x=.ref a/\DGet b a y o/\Q (.bl o.isSome) b
def Js(e td:TE):TE:=λd H Q=>e d H λy f=>td d f λx b=>∃a o,x=.ref a/\DGet b a y o/\Q (.bl<|!o.isSome) b
def oN(td e i:TE):TS:=λD b H=>i b H λv j=>td b j λx f=>e b f λy h=>∃a d,x=.ref a/\DPut h a y v d/\D.nx b d
section
variable{o i e value:Kc}{pos pos' tpos:Nc}{td ty tv:TE}
def bU(r:X.A.units+1<cLine)(n:PE X o td)(hi:PE X i ty)(hs:oD i):PE X (.Subscript o i pos) (nK td ty):=by
 intro d s E H Q I h;refine QJ vr3.lookup hs<|bA (n d s E H _ I h) λu z ⟨x,J,q,e,m⟩=>bA (hi d z E J _ q m) ?_;rintro B L ⟨y,G,b,f,a,v,ex,g,l⟩;subst ex;obtain rfl:u=Kz a:=e;exact{Fc b g,Bi r b g f λC M j w=>⟨v,G,j,w,l⟩}
def WX(r:X.A.units+1<cLine)(hi:PE X i ty)(n:PE X o td):PC X .In i o (AZ ty td):=by
 intro b s C H Q I h;refine bA (hi b s C H _ I h) λB z ⟨y,G,q,d,m⟩=>bA (n b z C G _ q m) ?_;rintro u J ⟨x,E,f,e,a,w,ex,g,l⟩;subst ex;obtain rfl:u=Kz a:=e;exact QG r f g d λL j=>{.bl w.isSome,E,j,U,l}
def Ht(r:X.A.units+1<cLine)(hi:PE X i ty)(n:PE X o td):PC X .NotIn i o (Js ty td):=by
 intro b s C H Q I h;refine bA (hi b s C H _ I h) λB z ⟨y,G,q,d,m⟩=>bA (n b z C G _ q m) ?_;rintro u J ⟨x,E,f,e,a,w,ex,g,l⟩;subst ex;obtain rfl:u=Kz a:=e;exact Ab r f g d λL j=>{.bl<|!w.isSome,E,j,U,l}
def eK(G:X.A.units+1<cLine)(n:PE X o td)(hi:PE X i ty)(f:PE X value tv)(hs:Nb value (Kp<|.Subscript o i pos') pos.line X.env=pure Kt):
  PS X (.Assign [.Subscript o i pos'] value pos) (oN td ty tv):=by
 intro b s M H D I h;refine wpAny_Assign_Subscript (bA (f b s M H _ I h) λr w ⟨v,O,q,z,m⟩=>bA (n b w M O _ q m) λu P ⟨x,N,e,d,E⟩=>bA (hi b P M N _ e E) λL Y ⟨y,T,j,B,a,l,ex,g,C⟩=>?_) hs;subst ex;obtain rfl:u=Kz a:=d;exact Ey G j g B z λW J=>⟨M,l,J,C⟩
end
def PD(h:Ka)(a:Lm<h.objs.size):ObjOk P w H (h.push {cls:=.type "dict",data:=.dict #[]}) h.objs.size (.dK []):=
 ⟨bW _,vh3.mpr<|bS<|cP a,[],.nil,Ka.DictOf.new h⟩
def RH(h:Ka)(a:Lm<h.objs.size):ObjOk P w H (h.push {cls:=.type "dict",data:=.dict #[]}) h.objs.size (.dT []):=
 ⟨bW _,vh3.mpr<|bS<|cP a,[],.nil,_,#[],0,dQ _ rfl,⟨rfl,rfl,rfl⟩,rfl,rfl,lC⟩
def NM:TE:=λ_ H Q=>∀p,H p=Kr->Q (.ref p) (upd H p<|.dK [])
def vB:TE:=λ_ H Q=>∀p,H p=Kr->Q (.ref p) (upd H p<|.dT [])
section
variable{pos:Nc}
def mR:PE X (.Dict [] [] pos) NM:=λb s d H Q I h=>
 We ⟨.ref s⁻¹,_,I.laid (a:=s⁻¹) (o:=.dK []) (t':=s.toks) (λ_ _ q=>bY _ q) (aZ _)<|PD s.heap I.big,rfl,h _<|I.hok.fresh<|aZ _⟩
def YK:PE X (.Dict [] [] pos) vB:=λb s d H Q I h=>
 We ⟨.ref s⁻¹,_,I.laid (a:=s⁻¹) (o:=.dT []) (t':=s.toks) (λ_ _ q=>bY _ q) (aZ _)<|RH s.heap I.big,rfl,h _<|I.hok.fresh<|aZ _⟩
end
def PJ:Ki (TE×TE)->St->Hp->(Ki (V×V)->Hp->Prop)->Prop
 | [],_,H,Q=>Q [] H
 | (e,f)::r,σ,H,Q=>e σ H λx h=>f σ h λy a=>PJ r σ a λd b=>Q ((x,y)::d) b
abbrev VV:Ki (V×V)->Ki (iH×iH)->Prop:=Paired λp q=>RelV p.1 q.1/\RelV p.2 q.2
def FM(X:Cx)(pos:Nc)(d:Ki (Kj Kc))(a:Ki Kc)(e:Ki (TE×TE)):Prop:=
 ∀(b:Ki (eH×Kh))(s:Jx)(f:St)(H:Hp)(Q:Ki (V×V)->Hp->Prop),Inv X b f H s->PJ e f H Q->
  Kx (Ky X.prog X.w) X.A (evalPairs<|pairTrees d a X.env pos) (λvs j=>∃i h,Inv X b f h j/\VV i vs/\Q i h) X.xe s
def FJ:FM X pos [] [] []:=λa s b H Q I h=>pairTrees_nil_walk ⟨[],H,I,.nil,h⟩
def fM(n:PE X k tk)(i:PE X v tv)(hr:FM X pos ks vs trs):
  FM X pos (Kp k::ks) (v::vs) ((tk,tv)::trs):=λa s z H Q I h=>
 pairTrees_cons_walk (bA (n a s z H _ I h) λu r ⟨x,C,o,b,m⟩=>bA (i a r z C _ o m) λw E ⟨y,A,e,d,l⟩=>
  bA (hr a E z A _ e l) <| by rintro J L ⟨G,B,f,q,j⟩;exact{(x,y)::G,B,f,.cons ⟨b,d⟩ q,j})
def cM(kvs more:Ki (aG×V)):Ki (aG×V):=more.foldl (λa b=>aL a b.1 b.2) kvs
def KV.merge:∀{more:Ki (aG×V)}{rs:Ki (aG×iH)}{kvs:Ki (aG×V)}{vs:Ki (aG×iH)},KV more rs->KV kvs vs->KV (cM kvs more) (merged vs rs):=by
 intro more rs kvs vs r;unfold KV at r
 induction r generalizing kvs vs with
 | nil=>intro q;exact q
 | @cons p q d f h t b=>
  intro a;have e:KV (aL kvs p.1 p.2) (stored vs q.1 q.2):=by
   have:=a.put p.1 h.2;rw[<-h.1];exact this
  exact b e
def EE:∀(more kvs:Ki (aG×V)),↑(cM kvs more)<=↑kvs+↑more:=λmore=>more.recOn
 (λkvs=>by show ↑kvs<=↑kvs+0;lia)
 λp r a kvs=>by
  have d:=a<|aL kvs p.1 p.2;have b:=jR kvs p.1 p.2;show(cM (aL kvs p.1 p.2) r).length<=_;rw[cN];lia
def Dh{P:Jz}{w:Kb}:∀{kvs:Ki (aG×V)}{ws:Ki (iH×iH)},VV (kvs.map λd=>(kV d.1,d.2)) ws->∃rs,Carries (cO P w) ws rs/\KV kvs rs:=by
 intro kvs
 induction kvs with
 | nil=>intro _ r;rw[Pk]at r;cases r;exact{[],gP,.nil}
 | cons p kvs i=>
  intro _ r;rw[dD]at r;cases r with
  | @cons a b j bs h t=>
   obtain⟨rs,c,q⟩:=i t;obtain⟨f,e⟩:=b;exact{(p.1,e)::rs,{kQ h.1,U,c},.cons {U,h.2} q}
def ES(b:Ki (TE×TE)):TE:=λh H Q=>∀p,H p=Kr->PJ b h (upd H p<|.dK []) λf d=>d p\.dK []/\∃a:Ki (aG×V),f=a.map (λe=>(kV e.1,e.2))/\↑a<=15/\Q (.ref p) (upd d p<|.dK<|cM [] a)
def GJ(h:FM X pos keys values trs)(i:keys.all (·.isSome)=Ks)(hl:↑keys=↑values)(h0:keys≠[])
  (j:↑keys<=15):PE X (.Dict keys values pos) (ES trs):=by
 intro A s L H Q I q;have u:=I.hok.fresh<|aZ s⁻¹;have f:=I.laid (a:=s⁻¹) (o:=.dK []) (h':=s.heap.push {cls:=.type "dict",data:=.dict #[]}) (t':=s.toks) (λ_ _ q=>bY _ q) (aZ _)<|PD s.heap I.big;refine wpAny_Dict_walk (knd:=cO X.prog X.w) i hl h0 j<|bA (h A _ L _ _ f<|q _ u) ?_;rintro W Y ⟨Z,T,d,l,e,C,N,lk,n⟩;subst N;obtain⟨O,c,x⟩:=Dh (P:=X.prog) (w:=X.w) l;obtain⟨z,hd,B,m,r⟩:=zN d.hok e;cases m;refine{O,c,r,λh' b G=>{.ref s⁻¹,_,?_,U,n}};have M:↑(cM [] C)<=sizeLine:=by
  have E:=EE C [];rw[iY]at E;rw[Oz];lia
 have J:∃q,h'.get? s⁻¹\q:=let ⟨q,_,_,hq,_⟩:=b;⟨q,hq⟩
 exact wH d (by rw[e];exact gP) G J<|GE M hd (x.merge .nil) b
structure M1(X:Cx)(o:Kc)(m:zZ)(apos:Nc)(e:Kc)(cpos:Nc):Prop where
 base:Mq o m X.env (eval o X.env)=eval o X.env
 few:((backTo cpos<|starEach [e] X.env).all (λx=>!x.1) && (Uy cpos<|keywordEach [] X.env).all (λx=>x.1.isSome) && decide (↑([e]:Ki Kc)+↑([]:Ki Os)+(if ([]:Ki Os).isEmpty then 0 else 1)<30))=Ks
 line:(apos.endLine == cpos.line)=Ks
 trees:backTo cpos (starEach [e] X.env)=[(Kt,eval e X.env)]
structure M2(X:Cx)(o:Kc)(m:zZ)(apos:Nc)(e f:Kc)(cpos:Nc):Prop where
 base:Mq o m X.env (eval o X.env)=eval o X.env
 few:((backTo cpos<|starEach [e,f] X.env).all (λx=>!x.1) && (Uy cpos<|keywordEach [] X.env).all (λx=>x.1.isSome) && decide (↑([e,f]:Ki Kc)+↑([]:Ki Os)+(if ([]:Ki Os).isEmpty then 0 else 1)<30))=Ks
 line:(apos.endLine == cpos.line)=Ks
 trees:backTo cpos (starEach [e,f] X.env)=[(Kt,eval e X.env),(Kt,eval f X.env)]
def yO(H:Hp)(a:eH):Prop:=(∃b,Rd H a<|.dK b)\/∃b,Rd H a<|.dT b
def yV(I:Inv X pins σ H s)(d:yO H a):
  s.TypeIs (.ref a) "dict"/\(∀b,Kz a=.ref b->∃f,s.heap.get? b\f/\f.dict=Kr)/\(a == Lm)=false:=by
 obtain⟨j,e⟩|⟨j,e⟩:=d
 .obtain⟨_,hd,vs,_,h⟩:=lT I.hok e;refine{h.typeIs,λb q=>?_,hd};cases q;obtain⟨f,_,_,l,i,_⟩:=h;exact{f,l,i.2.1}
 .obtain⟨_,hd,xs,_,h⟩:=rJ I.hok e;refine{h.typeIs,λb q=>?_,hd};cases q;obtain⟨f,_,_,l,i,_⟩:=h;exact{f,l,i.2.1}
section
variable{pins:Ki (eH×Kh)}{σ:St}{H:Hp}{s:Jx}{a:eH}{y d:V}{u r:iH}{o:Kj V}{A:Kg}{E:Vp}
def TZ(j:A.units+1<cLine)(I:Inv X pins σ H s)(g:DGet H a y o)(i:RelV y u)(h:∀r q,Inv X pins σ H q->RelV (o.getD .non) r->Q r q):
  Kx (Ky X.prog X.w) A (call (.builtin "dict.get") [.ref a,u]) Q E s:=by
 obtain⟨m,k,e,n,l⟩|⟨m,k,b,e,n,x,l⟩:=g
 .subst n;obtain⟨z,hd,vs,f,d⟩:=lT I.hok e;refine mQ mG d.typeIs yH (LC _ _) (Xe (cO X.prog X.w) a (kQ i) hd) {_,d.mapOf,h _ _ (I.tok _) ?_};rw[l];exact(f.val k).getD rfl
 .subst n;cases (show u=Kz b from i);obtain⟨z,hd,B,f,d⟩:=rJ I.hok e;refine mQ mG d.typeIs yH (LC _ _) (meetsH_dict_get (tupleKind<|cO X.prog X.w) a b hd) {rP j,k,B,pQ I.hok x,d,h _ _ (I.tok _) ?_};rw[l];exact(f.val k).getD rfl
def TV(m:A.units+1<cLine)(I:Inv X pins σ H s)(g:DGet H a y o)(j:RelV y u)(rd:RelV d r)(h:∀B x,Inv X pins σ H x->RelV (o.getD d) B->Q B x):
  Kx (Ky X.prog X.w) A (call (.builtin "dict.get") [.ref a,u,r]) Q E s:=by
 obtain⟨n,k,e,q,l⟩|⟨n,k,b,e,q,C,l⟩:=g
 .subst q;obtain⟨z,hd,vs,i,f⟩:=lT I.hok e;refine mQ mG f.typeIs yH (QB _ _ _) (Uc (cO X.prog X.w) a (kQ j) hd r) {_,f.mapOf,h _ _ (I.tok _) ?_};rw[l];exact(i.val k).getD rd
 .subst q;cases (show u=Kz b from j);obtain⟨z,hd,G,i,f⟩:=rJ I.hok e;refine mQ mG f.typeIs yH (QB _ _ _) (meetsH_dict_get_default (tupleKind<|cO X.prog X.w) a b hd r) {rP m,k,G,pQ I.hok C,f,h _ _ (I.tok _) ?_};rw[l];exact(i.val k).getD rd
end
def PZ(td f:TE):TE:=λe H Q=>td e H λx d=>∃a,x=.ref a/\yO d a/\f e d λy b=>∃o,DGet b a y o/\Q (o.getD .non) b
def UW(td f h:TE):TE:=λb H Q=>td b H λx e=>∃a,x=.ref a/\yO e a/\f b e λy i=>h b i λz d=>∃o,DGet d a y o/\Q (o.getD z) d
section
variable{o e f:Kc}{apos cpos:Nc}{td ty tx:TE}
def hI(C:X.A.units+1<cLine)(z:PE X o td)(he:PE X e ty)(m:M1 X o "get" apos e cpos):PE X (.Call (.Attribute o "get" apos) [e] [] cpos) (PZ td ty):=by
 intro f s N H Q I h;refine wN m.base m.few m.line yS mG GB<|bA (z f s N H _ I h) ?_;rintro u G ⟨x,P,b,n,a,ex,d,w⟩;subst ex;obtain rfl:u=Kz a:=n;obtain⟨i,B,_⟩:=yV b d;exists i,B;rw[m.trees];refine oA rfl<|uZ<|lS<|bA (he f G N P _ b w) λJ T ⟨y,O,l,j,M,g,r⟩=>oQ ?_;exact TZ C l g j λL W q E=>{_,O,q,E,r}
def MD(N:X.A.units+1<cLine)(r:PE X o td)(he:PE X e ty)(C:PE X f tx)(m:M2 X o "get" apos e f cpos):PE X (.Call (.Attribute o "get" apos) [e,f] [] cpos) (UW td ty tx):=by
 intro b s σ H Q I h;refine wN m.base m.few m.line yS mG GB<|bA (r b s σ H _ I h) ?_;rintro u B ⟨x,H1,i,j,a,ex,d,q⟩;subst ex;obtain rfl:u=Kz a:=j;obtain⟨E,w,_⟩:=yV i d;exists E,w;rw[m.trees];refine oA rfl (uZ (lS (bA (he b B σ H1 _ i q) λW s2 ⟨y,H2,l,G,L⟩=>
  lS (bA (C b s2 σ H2 _ l L) λT s3 ⟨z,H3,n,M,Z,g,J⟩=>oQ ?_))))
 exact TV N n g G M λY s4 O P=>{_,H3,O,P,J}
end
section
variable{pins:Ki (eH×Kh)}{σ:St}{H:Hp}{s:Jx}{a:eH}{kvs:Ki (aG×V)}{A:Kg}{E:Vp}
end
section
variable{pins:Ki (eH×Kh)}{σ:St}{H:Hp}{s:Jx}{a:eH}{y:V}{u:iH}{A:Kg}{E:Vp}
end
end L2
namespace Att
open PySem PySem.W PySem.Calls PyProof.Rows
def Bc{P:Xk}:∀(d:Ki Kl)(vs:Ki iH),WellAll P h vs (d.map Xj.int)->Uh vs d:=by
 intro d
 induction d with
 | nil=>
  intro vs w;rw[Pk]at w;cases w;exact .nil
 | cons n d e=>
  intro vs w;rw[dD]at w;cases w with
  | cons a b=>
   cases a;exact .cons _ _<|e _ b
def Bv{l:OpenLaw}{n:Kk}(z:l.most\n){P:Xk}{h:Ka}{args:Ki Xj}{j:Ki iH}
  (m:l.row.toRowW.claim.pre args=Ks) (o:WellAll P h j args):
  ∃a vs b,j=[Kz a]/\args=[Xj.list<|b.map Xj.int]/\h.get? a=Kp {cls:=.type "list",data:=.seq vs.toArray}/\Uh vs b/\↑b<=n:=by
 have u:WShape.hasAll [] args [.list .int]=true:=(pre_splitW m).1;have i:l.pre.holds [] {args:=args}=true:=(pre_splitW m).2;obtain⟨d,r,rfl,H,G⟩:=hasAllW_cons u;obtain rfl:=hasAllW_nil G;obtain⟨J,rfl,w⟩:=hasW_list H;obtain⟨b,rfl⟩:=items_int w;have s:↑b<=n:=by
  unfold OpenLaw.pre at i;have f:(WTm.not<|.lt (.lit<|.int (n:Kl))<|.len<|.arg 0).holds [] {args:=[.list<|b.map .int]}=true:=by
   have f:=(holds_andW i).1;rw[z]at f;exact f
  have e:=condW_of f<|w_not<|w_lt w_lit<|w_len_list<|w_arg rfl;rw[aK]at e;refine Uz λq=>?_;have x:(n:Kl)<((↑b:Kk):Kl):=by lia
  first
   | (rw[dP x]at e;exact absurd e<|by decide)
   | (simp at e;lia)
 cases o with
 | cons E C=>
  cases C;cases E with
  | list B A=>exact{_,_,b,U,U,B,Bc b _ A,s}
def Ei(l:OpenLaw)(args:Ki Xj):l.row.toRowW.claim.post args (.bool Ks) args=true:=
 postW_of (r:=l.row.toRowW) (X:=(Ks == Ks))
  (show WShape.has [] (.bool Ks) .bool=Ks by first | rfl | decide | simp[WShape.has,WShape.arms,WShape.armsAll])
  (show(WTm.eq .res<|.lit<|.bool Ks).value [] {args:=args,res:=Kp<|.bool Ks,after:=args}=Kp (.bool<|true == Ks) from w_eq_bool (w_res rfl) w_lit) rfl
def attach_call{l:OpenLaw}{n:Kk}{q:Jz}{z:Ki zZ}{A:(zZ->Kj iH)->Ka->Prop}{u:Kb->Ka->Prop}{d:DefRec}
  (X:l.most\n) (L:d.params.defaults=[])
  (call:∀(w:Kb)(s₀ b:Jx)(mg j:zZ->Kj iH)(e:eH)(o:Kh)(m i s:iH)(a:eH)(vs:Ki iH)(h:Ki Kl), Ground q z [] A w s₀ mg j b.heap->u w b.heap-> b.heap.get? e\o->o.data=.func (docDef d.name d.params d.body d.scope m i s)->b.heap.CodeRec i d.name->mg d.name\.ref e-> b.heap.get? a=Kp {cls:=.type "list",data:=.seq vs.toArray}->Uh vs h->↑h<=n->b.gens=#[]-> Mv (Ky l.prog w) Qe (.call (.ref e) ⟨[.ref a],[]⟩) (λr s'=>r=.ok (.ret<|.bool Ks)/\OldK b.heap s'.heap/\s'.os=b.os/\Pm s'.gens) b):
  WalkO q z A u l.row.toRowW d [] (λf vs=>Te f vs):=by
 intro w s₀ b mg j G Y e o m i s P kV I hd C x W E args a9 as T ab ad M ac;obtain rfl:P=.none:=Dflts.none x L;obtain rfl:kV=.none:=Dflts.noKw x;obtain⟨a,vs,h,rfl,rfl,O,Z,B⟩:=Bv X T M;refine enter_call<|codeAny_mono (call w s₀ b mg j e o m i s a vs h G Y I (fd_plain hd) C W O Z B E) λr s' hq=>?_;obtain⟨rfl,h2,H,N⟩:=hq;exact{.inl {.bool Ks,.bool Ks,[],U,λ_=>U,.bool Ks,Ei l _,λ_=>{Ki.Pairwise.nil,λ_ J=>(nomatch J)}},h2,H,N}
section
variable{prog:Jz}{w:Kb}{A:Kg}{E:Vp}{s:Jx}{K:Frag}
end
end Att
namespace L2
open PySem PySem.Spec PyProof.Rows
open V renaming str->Yf,ref->Yg,int->Yh,non->Yi
open SqL renaming of->Yl
open SqT renaming of->Ym
variable{prog:Jz}{w:Kb}{A:Kg}{E:Vp}{s:Jx}
variable{X:Cx}
def Jo:∀{vs:Ki iH}{a:Ki Kl},Uh vs a->Vals (a.map Yh) vs:=by
 intro vs a b
 induction b with
 | nil=>
  exact .nil
 | cons n t h d=>
  exact .cons ⟨t,rfl⟩<|d
def wB(H:Hp):Prop:=∀b,H b=Kr\/∃o a,H b\(.frz o<|.lst a)
def Fb{P:Jz}{w:Kb}{K:Fq}{mg G:zZ->Kj iH}{CX:kN}{k:Kk}{I a:eH}{fd:Ke}{x:zZ}{sp:Sp}{f:Jx}{vs:Ki iH}{j:Ki Kl}
  (O:K.In f.heap) (L:f.heap.Ns Le mg) (i:f.heap.Ns Vo G) (aa:∀x:zZ,x≠"__name__"->G x=Mi x) (a4:f.heap.NoLimit) (hg:f.gens=#[])
  (C:f.heap.get? a=Kp {cls:=.type "list",data:=.seq vs.toArray}) (hi:Uh vs j) (hl:↑j<=sizeLine) (hr:Room k Qe)
  (F:∀base:Ka,K.In base->base.Ns Le mg->aS P w K mg base CX k I fd [x] sp) (a2:∀(s:Jx)(u:iH),Rq s fd ⟨[u],[]⟩ [(x,u)])
  (ac:∀H:Hp,wB H->SqL K H a (j.map Yh)->sp [.ref a] H (λv _=>v=.bl Ks) λ_ _ _=>Kn)
  (a9:∀H e s',CX [] H f (λ_ _ _=>Kn) e s'->Kn):
  Mv (Ky P w) Qe (.call (.ref I) ⟨[.ref a],[]⟩) (λr s'=>r=.ok (.ret<|.bool Ks)/\OldK f.heap s'.heap/\s'.os=f.os/\Pm s'.gens) f:=by
 have W:=Jo hi;have a6:=↑hi;have Y:∀H:Hp,wB H->SqL K H a (j.map Yh)->HOk P w H f.heap->(∀b,H b≠Kr->b=a)->(H a≠Kr->K.lookup a=Kr)->
   Mv (Ky P w) Qe (.call (.ref I) ⟨[.ref a],[]⟩) (λr s'=>r=.ok (.ret<|.bool Ks)/\OldK f.heap s'.heap/\s'.os=f.os/\Pm s'.gens) f:=by
  intro H M hS l X hK;have N:∀{b:eH}{o:Kh},f.heap.get? b\o->H b=Kr->(hV f.heap H).get? b\o:=λe n=>Gv e n;have ab:∀{b:eH}{o:Kh}{es:Ko Oi}{ep:Kk},f.heap.get? b\o->o.data=.dict es ep->H b=none:=λ{b o es ep} e d=>by
   cases q:H b with
   | none=>rfl
   | some u=>
    have J:b=a:=X b (by rw[q];simp);subst J;rw[C]at e;cases e;have d':Data.seq vs.toArray _=Data.dict es ep:=d;cases d'
  have E:∀{b:eH}{m:zZ->Kj iH},f.heap.Ns b m->(hV f.heap H).Ns b m:=λ{b m} ⟨o,es,ep,e,d,r⟩=>⟨o,es,ep,N e<|ab e d,d,r⟩;have T:K.In (hV f.heap H):=λb o e=>N (O b o e) (by
   cases q:H b with
   | none=>rfl
   | some u=>
    have J:b=a:=X b (by rw[q];simp);subst J;rw[hK<|by rw[q];simp]at e;cases e)
  have hM:Mod K mg (hV f.heap H):=⟨T,E L,⟨G,E i,aa⟩,let ⟨mc,h1,h2⟩:=a4;⟨mc,E h1,h2⟩⟩;have e0:Env0 P w K mg (hV f.heap H) Qe [] f H:=⟨rfl,hM,λb o e=>Bs e,Wl<|Ea _ _,trivial,λb i=>absurd (show b∈([]:Ki eH) from i) (by simp),l,.of_eq hg⟩;refine codeAny_mono ((F _ T<|E L).run Qe [] f H {[.ref a],[]} [.ref a] [.ref a] _ _ hr e0 (a2 f<|.ref a) (.cons rfl .nil)<|ac H M hS) λr s' h=>?_;cases r with
  | error e=>exact(a9 H e s' h).elim
  | ok fl=>
   cases fl with
   | next=>exact Mg h
   | brk=>exact Mg h
   | cont=>exact Mg h
   | ret u=>
    obtain⟨v,H',os,B,un,a5,r',q⟩:=h;have q':v=.bl true:=q;subst q';obtain rfl:u=Xr true:=r';refine{U,OldK.of_keep λb o e=>?_,os,B};cases q:H b with
    | none=>exact un.keep b o e q (by intro z;exact absurd (show b∈([]:Ki eH) from z)<|by simp) (by simp)
    | some u=>
     obtain z|⟨ob,xs,z⟩:=M b
     .rw[q]at z;cases z
     .have z2:=un.frzs b ob _ z;obtain⟨Z,_⟩:=l b _ z;obtain⟨e2,_⟩:=a5 b _ z2;rw[e]at Z;cases Z;exact e2
 cases hk:K.lookup a with
 | some o=>
  have e:=O a o hk;rw[C]at e;cases e;refine Y (λ_=>Kr) (λ_=>.inl rfl) (.inr {_,vs.toArray,_,hk,U,U,U,by rw[cW,a6];exact hl,by simpa using W}) (λb u z=>by have A:(Kr:Kj HO)\u:=z;cases A) (λb z=>absurd rfl z) λz=>absurd rfl z
 | none=>
  refine Y (λb=>if b=a then Kp (.frz {cls:=.type "list",data:=.seq vs.toArray}<|.lst<|j.map Yh) else Kr) (λb=>?_) (.inl<|.inr ⟨{cls:=.type "list",data:=.seq vs.toArray},bF rfl⟩) (λb u z=>?_) (λb z=>?_) λ_=>hk
  .by_cases i:b=a
   .exact .inr ⟨_,_,bF i⟩
   .exact .inl<|bC i
  .by_cases i:b=a
   .have A:=(bF i).symm.trans z;cases A;subst i;exact{C,by rw[aK];exact hl,vs,_,W,C}
   .have A:=(bC i).symm.trans z;cases A
  .by_cases i:b=a
   .exact i
   .exact absurd (bC i) z
def Jr{l:Po}{n k:Kk}{q:Jz}{a1:Ki zZ}{XP:(zZ->Kj iH)->Ka->Prop}{m:Kb->Ka->Prop}{d:DefRec}{K:Xk->Fq}{CX:Kb->kN}{sp:Kb->Sp}{x:zZ}
  (hn:l.most\n) (L:n<=sizeLine) (O:d.params.defaults=[]) (hr:Room k Qe)
  (Z:∀(w:Kb)(h:Ka),m w h->(K w.params).In h)
  (F:∀(w:Kb)(mg:zZ->Kj iH)(j:eH)(h:Ka),(K w.params).In h->h.Ns Le mg->mg d.name\.ref j-> ∃fd:Ke,(∀(s:Jx)(u:iH),Rq s fd ⟨[u],[]⟩ [(x,u)])/\ ∀base:Ka,(K w.params).In base->base.Ns Le mg->aS l.prog w (K w.params) mg base (CX w) k j fd [x] (sp w))
  (N:∀(w:Kb)(H:Hp)(a:eH)(i:Ki Kl),↑i<=n->wB H->SqL (K w.params) H a (i.map Yh)->sp w [.ref a] H (λv _=>v=.bl Ks) λ_ _ _=>Kn)
  (X:∀(w:Kb)(H:Hp)(s:Jx)(e:iH)(s':Jx),CX w [] H s (λ_ _ _=>Kn) e s'->Kn):
  Uk q a1 XP m l.row.toRowW d [] (λf vs=>Te f vs):=by
 refine Att.attach_call hn O λw s₀ M mg mb j o pm cd a9 a vs i G Y ho hd aa C P A r E=>?_;have z:=Z w _ Y;obtain⟨fd,B,hF⟩:=F w mg j _ z G.T.g C;exact Fb z G.T.g G.T.b G.T.builtins G.T.nolimit E P A (hX r L) hr hF B (λH J I=>N w H a i r J I) λH e s'=>X w H M e s'
def qJ(s:Kd):Arguments:=match s with
 | .FunctionDef _ a _ _ _ _ _ _ _ _=>a
 | _=>{posonlyargs:=[],args:=[],vararg:=Kr,kwonlyargs:=[],kw_defaults:=[],kwarg:=Kr,defaults:=[]}
def eG(s:Kd):Ki Kd:=match s with
 | .FunctionDef _ _ b _ _ _ _ _ _ _=>b
 | _=>[]
def bP(s:Kd):Scope:=match s with
 | .FunctionDef _ _ _ _ _ _ a _ _ _=>a
 | _=>{kind:=.function,names:=[],isGenerator:=Kt,isCoroutine:=Kt}
abbrev bO:kN:=λ_ _ _ _ _ _=>Kn
abbrev E0:XK:=λ_ _ _=>Kn
def NH:IK bO X E0:=λ_ _ _ _ _ _ _ h=>h.elim
structure Fun(K:Fq)(x qual:zZ)(st:Kd)(f:eH)(fd:Ke):Prop where
 ex:∃(oc:iH)(od:Kj eH)(kV doc pm:iH)(an:Kj eH)(cdv ct:iH)(osl:Ko (Kj iH)),
  fd=Mf x qual (qJ st) (eG st) (bP st) .none kV doc pm an cdv ct/\K.lookup f=Kp ⟨oc,od,.func fd,osl⟩/\Nr K cdv qual=Ks
 kp:Mh K (.ref f)=Ks
section
variable{P:Jz}{w:Kb}{K:Fq}{mg:zZ->Kj iH}{base:Ka}
def Fun.ok{x a:zZ}{st:Kd}{f:eH}{fd:Ke}{N ps:Ki zZ}{k:Kk}{sp:Sp}(F:Fun K x a st f fd)(S:bX N ps (bP st))(len:∀vs H Q E,sp vs H Q E->↑vs=↑ps)
  (e:∀(b:iH)(A:Kg)(outer:Ki Rg)(s:Jx)(H:Hp)(vs:Ki V)(Q:VK)(E:XK),Room k (A.deeper<|envOfC a (bP st) s⁻¹ f b)->sp vs H Q E-> ∃t,PSs (eZ bO P w K mg base N a (bP st) f b A outer s H E).nox (eG st) t/\t {nx:=λ_ r=>Q .non r,rt:=Q} (oK N vs) H):aS P w K mg base bO (k+1) f fd ps sp:=by
 obtain⟨o,z,kV,m,j,n,b,B,l,rfl,lk,d⟩:=F.ex;refine FD lk d S len λA outer s H vs Q E u i=>?_;obtain⟨t,h,q⟩:=e b A outer s H vs Q E u i;exact{t,h.nox,q}
def Fun.binds{x a:zZ}{st:Kd}{f:eH}{fd:Ke}{ps:Ki zZ}(F:Fun K x a st f fd)
  (h:∀(kV d i:iH)(b:Kj eH)(e ct:iH)(us:Ki iH),↑us=↑ps->Ux (Mf x a (qJ st) (eG st) (bP st) .none kV d i b e ct) ⟨us,[]⟩=pure (ps.zip us)):Binds K fd ps []:=by
 obtain⟨m,n,kV,d,i,b,e,ct,j,rfl,lk,l⟩:=F.ex;exact .all<|h kV d i b e ct
def SG{x a:zZ}{st:Kd}{f:eH}{i:iH}{m d:Kj eH}{j:Ko (Kj iH)}{kV e h b ct:iH}(l:K.lookup f=Kp ⟨i,m,.func<|Mf x a (qJ st) (eG st) (bP st) .none kV e h d b ct,j⟩)
  (c:Nr K b a=Ks) (k:Mh K (.ref f)=Ks):Fun K x a st f (Mf x a (qJ st) (eG st) (bP st) .none kV e h d b ct):=⟨⟨i,m,kV,e,h,d,b,ct,j,rfl,l,c⟩,k⟩
end
def eN(hr:Room k A):A.units+1<cLine:=Pf (Kk.add_le_add_left (by decide:1<=64) _) hr.units
def bM(h:n<=1000):n<sizeLine:=Pf h (by decide)
def eC{n:Kk}(h:Kk.ble n 1000=Ks):n<=sizeLine:=cX<|bM<|Nat.le_of_ble_eq_true h
def pv(i:Kk)(a:X.N[i]?\x:=by rfl)(d:IJ X.env.scope x:=by first | exact iL rfl | exact Oa (iL rfl) | exact Oa (Oa rfl))(hd:(x == ("__debug__":zZ))=false:=by decide)
  (b:(x == ("__classdict__":zZ))=false:=by decide):PE X (.Name x pos) (aI i):=rX a d hd b
def bI{A B:Prop}(h:B):if Kt=Ks then A else B:=by
 rw[bC fE];exact h
def cK{A B:Prop}(h:A):if Ks=Ks then A else B:=by
 rw[bF rfl];exact h
def bH{c A B:Prop}[Decidable c](a:c->A)(b:¬c->B):if c then A else B:=by
 by_cases h:c
 .rw[bF h];exact a h
 .rw[bC h];exact b h
section
variable{κ:Type}[DecidableEq κ]
def FX{kvs:Ki (κ×V)}{k:κ}(h:aF kvs k=Kr):¬k∈kvs.map (·.1):=by
 intro m;obtain⟨p,b,e⟩:=wx6.mp m;have q:(kvs.any λa=>decide<|a.1=k)=true:=vk5.mpr ⟨p,b,dP e⟩;rw[uJ,h]at q;exact absurd q (by simp)
def IS{kvs:Ki (κ×V)}{k:κ}{v:V}(h:aF kvs k\v):k∈kvs.map (·.1):=by
 have q:(kvs.any λa=>decide<|a.1=k)=true:=by
  rw[uJ,h]
  all_goals rfl
 obtain⟨p,b,e⟩:=vk5.mp q;exact wx6.mpr {p,b,cT e}
def SW:∀{l:Ki κ}{k:κ},l.Nodup->¬k∈l->(l++[k]).Nodup:=by
 intro l
 induction l with
 | nil=>intro k _ _;simp
 | cons a r f=>
  intro k h b;obtain⟨e,d⟩:=vc1.mp h;show(a::(r++[k])).Nodup;refine vc1.mpr {λm=>?_,f d λm=>b<|wx0.mpr<|Oa m};obtain q|q:=wz2.mp m
  .exact e q
  .exact b<|wx0.mpr<|iL (wx1.mp q).symm
end
def cL(env:Rg):Ki (zZ×Kf)->Ki (zZ×eH)
 | []=>[]
 | (n,k)::r=>cL env r++(if k=.free then [(n,(env.cells.lookup n).getD 0)] else [])
def YM:∀(l:Ki (zZ×Kf))(a:Ki (zZ×eH)),(∀y∈l,y.2=.free->∃c,env.cells.lookup y.1\c)->
  (forIn l a λ(x:zZ×Kf) (r:Ki (zZ×eH))=>if (x.2 == .free)=Ks then(do let c <-cellOf env x.1;pure (Kw<|(x.1,c)::r):Ww (ForInStep<|List<|zZ×eH)) else pure (Kw r))=pure (cL env l++a):=by
 intro l
 induction l with
 | nil=>intro a _;simp[cL]
 | cons m r j=>
  obtain⟨n,k⟩:=m;intro a h;rw[yQ]
  by_cases d:k=.free
  .subst d;obtain⟨c,f⟩:=h (n,.free) (by simp) rfl;have e:cellOf env n=pure c:=by unfold cellOf;rw[f]
   simp only[beq_self_eq_true,if_true,e,pure_bind];rw[j ((n,c)::a) λy b=>h y<|iO _ b];simp[cL,f]
  .have i:(k == Lh)=false:=by simpa using d
   simp only[i,GH,kG,pure_bind];rw[j a λy b=>h y<|iO _ b];simp[cL,d]
def IT(h:∀y∈scope.names,y.2=.free->∃c,env.cells.lookup y.1\c):Oo scope env=pure (cL env scope.names):=by
 have e:=YM (env:=env) scope.names [] h;rw[fP]at e;unfold Oo;refine Eq.trans ?_<|cH (λz=>z >>= pure) e;rfl
def XJ:∀{l:Ki (zZ×Kf)},(x,c)∈cL env l->(x,Lh)∈l/\c=(env.cells.lookup x).getD 0:=by
 intro l
 induction l with
 | nil=>intro h;simp[cL]at h
 | cons b r d=>
  obtain⟨n,k⟩:=b;intro h;unfold cL at h;obtain h|h:=wz2.mp h
  .obtain⟨h1,h2⟩:=d h;exact{iO _ h1,h2}
  .by_cases a:k=.free
   .rw[bF a]at h;have e:=wx1.mp h;cases e;subst a;exact{by simp,U}
   .rw[bC a]at h;simp at h
def Ix:∀{l:Ki (zZ×Kf)},(x,Lh)∈l->(x,(env.cells.lookup x).getD 0)∈cL env l:=by
 intro l
 induction l with
 | nil=>intro h;simp at h
 | cons a r b=>
  obtain⟨n,k⟩:=a;intro h;unfold cL;obtain h|h:=wx0.mp h
  .cases h;exact gS _ (by simp)
  .exact qQ _<|b h
def Cw:∀{l:Ki (zZ×eH)},(x,v)∈l->(∀w,(x,w)∈l->w=v)->l.lookup x\v:=by
 intro l
 induction l with
 | nil=>intro h _;simp at h
 | cons f r i=>
  obtain⟨n,w⟩:=f;intro h u;rw[EB]
  by_cases e:x=n
  .subst e;simp[u w<|by simp]
  .have a:(x == n)=false:=by simpa using e
   rw[a];obtain h|h:=wx0.mp h
   .cases h;exact absurd rfl e
   .exact i h λd b=>u d<|iO _ b
def YG(h:(x,Lh)∈l):(cL env l).lookup x\(env.cells.lookup x).getD 0:=
 Cw (Ix h) λw a=>(XJ a).2
def dG(X:Cx)(scope:Scope)(N':Ki zZ)(b:Jx)(a:Hp)(C:eH)(fp:Ki eH):Cx:=
 {X with N:=N',s₀:=b,H₀:=a,env:=compEnvC scope (cL X.env scope.names) C X.env,outer:=X.stack,stack:=X.stack,ex:=fp,fn:=λx=>((cL X.env scope.names).lookup x).isNone,pn:=[],xe:=λ_ _=>Kn}
structure BlkN(X:Cx)(scope:Scope)(N':Ki zZ)(src:Ki (Kj Kk)):Prop where
 kind:scope.kind=.function
 nocell:(scope.names.all λy=>decide<|y.2≠.cell)=Ks
 locs:(scope.names.all λy=>decide<|y.2=.local->scope.names.lookup y.1\.local)=Ks
 frees:(scope.names.all λy=>decide<|y.2=.free->X.env.kindOf y.1\.cell\/X.env.kindOf y.1\.free)=Ks
 slen:↑src=N'.length
 cap:((N'.zip src).all λp=>match p.2 with | some j=>decide (X.N[j]?\p.1) && decide ((p.1,Lh)∈scope.names) | none=>Ks)=Ks
def sub(src:Ki (Kj Kk))(a:St):St:=src.map λo=>o.bind λj=>(a[j]?).join
def UI(h:(Ub scope env).names.lookup x\k):(x,k)∈scope.names\/(k=.cell/\(x,Lh)∈scope.names):=by
 have m:=vR h;obtain⟨⟨n,b⟩,a,e⟩:=wx6.mp m;dsimp only at e
 split at e
 .rename_i hc
  cases e;have:b=.free:=by
   simp only[pX,beq_iff_eq]at hc;exact hc.1.1
  subst this;exact .inr ⟨rfl,a⟩
 .cases e;exact .inl a
theorem QY{env:Rg}:∀{names:Ki (zZ×Kf)},(x,Lh)∈names->(∀k,(x,k)∈names->k≠.local/\k≠.globalExplicit/\k≠.globalImplicit/\k≠.cell)->
  let q:=(names.map λ(n,k)=>if (k == Lh && env.scope.kind == .function && env.kindOf n == Kp .cell) then(n,Kf.cell) else(n,k)).lookup x
  q=Kp .cell\/q\.free
 | [],h,_=>by simp at h
 | (n,k)::r,h,u=>by
  intro q;show Mn x ((if (k == Lh && env.scope.kind == .function && env.kindOf n == Kp .cell)=Ks then(n,Kf.cell) else(n,k))::_)=_\/Mn x ((if (k == Lh && env.scope.kind == .function && env.kindOf n == Kp .cell)=Ks then(n,Kf.cell) else(n,k))::_)=_
  by_cases e:x=n
  .subst e;obtain⟨m,l,o,s⟩:=u k (by simp);have f:k=.free:=by cases k <;> simp_all
   subst f
   by_cases a:(Lh == Lh && env.scope.kind == .function && env.kindOf x == Kp .cell)=Ks
   .rw[bF a];left;simp[EB]
   .rw[bC a];right;simp[EB]
  .have b:(x == n)=false:=by simpa using e
   have d:=QY (env:=env) (names:=r) (x:=x) ((wx0.mp h).resolve_left λz=>e<|by cases z;rfl) λj i=>u j<|iO _ i
   split
   .simp only[EB,b];exact d
   .simp only[EB,b];exact d
section
variable{scope:Scope}{N':Ki zZ}{src:Ki (Kj Kk)}{pins:Ki (eH×Kh)}{σ:St}{H3:Hp}{s3 s4:Jx}{C:eH}{fp:Ki eH}
theorem BlkN.cells(B:BlkN X scope N' src)(ok:X.Ok)(h:(x,Lh)∈scope.names):∃c,X.env.cells.lookup x\c/\(cL X.env scope.names).lookup x\c:=by
 have q:=cT<|vc8.mp B.frees (x,.free) h;obtain⟨c,a⟩:=ok.has x<|q rfl;exact{c,a,by rw[YG h,a];rfl}
def BlkN.back(B:BlkN X scope N' src)(ok:X.Ok)(h:(cL X.env scope.names).lookup x\c):X.env.cells.lookup x\c/\(x,Lh)∈scope.names:=by
 obtain⟨d,e⟩:=XJ<|vR h;obtain⟨f,b,a⟩:=B.cells ok d;rw[h]at a;cases a;exact⟨b,d⟩
def BlkN.captured(B:BlkN X scope N' src){i j:Kk}{x:zZ}(e:N'[i]?\x)(d:src[i]?\Kp j):X.N[j]?\x/\(x,Lh)∈scope.names:=by
 have b:(N'.zip src)[i]?\(x,Kp j):=by
  rw[xW];exact⟨e,d⟩
 have q:=vc8.mp B.cap (x,Kp j)<|dC b;have a:(decide (X.N[j]?\x) && decide ((x,Lh)∈scope.names))=true:=q;rw[pX]at a;exact{cT a.1,cT a.2}
def XE(B:BlkN X scope N' src)(I:Inv X pins σ H3 s3)(l:∀b∈fp,dR X pins H3 b)(Y:∀b∈fp,b<s3⁻¹)(P:∀x k,(x,k)∈scope.names->k=.free->∀k',(x,k')∈scope.names->k'=.free)
  (L:C=s3⁻¹) (W:s4.heap.Ns C (λ_=>Kr)) (n:∀b o,s3.heap.get? b\o->s4.heap.get? b\o) (H:s4.os=s3.os) (E:s4.gens=s3.gens):
  Inv (dG X scope N' s3 H3 C fp) [] (sub src σ) H3 s4:=by
 subst L;have ok:=I.ok;exists {ok.mod,B.kind,ok.glob,ok.blt,aZ _,λx y c h1 h2=>?_,λx h=>?_,λx c h1 h2=>?_,ok.hd,ok.frames,.inl U,λb a=>{cP<|Y b a,λx c h=>?_},I.bs,hX ok.bsz I.sz,λb o e a=>?_,λb a hs=>?_,I.stack,I.stkFree},
  H,?_,Un.kept n,⟨_,W,λi x v h1 h2 Z=>?_⟩,λx c h=>?_,I.hok.fresh<|aZ _,λx c h=>I.freeC x c (B.back ok h).1,λp hp=>absurd (show p∈([]:Ki (eH×Kh)) from hp) (by simp),I.hok.kept n
 .exact ok.inj x y c (B.back ok h1).1 (B.back ok h2).1
 .have h:(Ub scope X.env).names.lookup x\.cell\/(Ub scope X.env).names.lookup x\.free:=h;have f:(x,Lh)∈scope.names:=by
   obtain h|h:=h
   .obtain q|⟨_,q⟩:=UI h
    .exact absurd rfl<|cT<|vc8.mp B.nocell _ q
    .exact q
   .obtain q|⟨z,_⟩:=UI h
    .exact q
    .cases z
  obtain⟨c,_,e⟩:=B.cells ok f;exact⟨c,e⟩
 .have h1:((cL X.env scope.names).lookup x).isNone=true:=h1;have h2:(cL X.env scope.names).lookup x\c:=h2;rw[h2]at h1;simp at h1
 .exact(l b a).2.2.2.2.1 x c (B.back ok h).1
 .obtain z|z:=(l b a).2.2.2.1
  .exact ok.noex b o e z
  .exact absurd (iA (cB e)<|hX ok.bsz z)<|jQ _
 .obtain z|z:=wx0.mp (I.stkSub b hs)
  .exact(l b a).2.1 z
  .exact(l b a).2.2.1 z
 .rw[E];exact I.bare
 .have O:∃j,src[i]?\Kp j/\σ[j]?\Kp v:=by
   have h2:(src.map λo=>o.bind λj=>(σ[j]?).join)[i]?\Kp v:=h2;rw[bR]at h2;cases e:src[i]? with
   | none=>rw[e]at h2;cases h2
   | some o=>
    rw[e]at h2;cases o with
    | none=>cases h2
    | some j=>
     exists j,U;have h2:Kp ((σ[j]?).join)\Kp v:=h2;cases e2:σ[j]? with
     | none=>rw[e2]at h2;cases h2
     | some z=>rw[e2]at h2;cases z with
      | none=>cases h2
      | some z=>cases h2;rfl
  obtain⟨j,G,A⟩:=O;obtain⟨N,f⟩:=B.captured h1 G;obtain⟨c,s,w⟩:=B.cells ok f;have r:=cT (vc8.mp B.frees _ f) rfl;obtain⟨m,_,hl⟩:=I.loc;have J:IJ X.env.scope x:=by
   obtain z|z:=r
   .exact .inr<|.inl z
   .exact .inr<|.inr z
  obtain⟨u,T,lk⟩:=hl j x v N A J;refine{u,T,.inr {?_,c,w,?_}}
  .exact QY f λk M=>by
    have:=P x .free f rfl k M;subst this;exact{by decide,by decide,by decide,by decide}
  .obtain⟨z,_⟩|⟨_,c',e',⟨o,eo,ed⟩⟩:=lk
   .obtain y|y:=r <;> (rw[z]at y;cases y)
   .rw[s]at e';cases e';exact{o,n _ _ eo,ed}
 .obtain⟨v,o,e,d⟩:=I.cell x c (B.back ok h).1;exact{v,o,n _ _ e,d}
 .show(sub src σ).length=N'.length;unfold sub;rw[aK];exact B.slen
end
def Et(I:Kk->Jx->Prop) (z:∀n s,I n s->Kx (Ky prog w) A (Ml it) (λr a=>match r with
   | none=>R (.ok .next) a
   | some v=>Kx (Ky prog w) A (Nd target it v) (λ_ a=>Kx (Ky prog w) A (assign target env v) (λ_ i=>
     Kx (Ky prog w) A (forIn ifs Ks λc r=>if r=Ks then do let ok <-isTrue c env (eval c env);pure (Kw ok) else pure (Kw r)) (λok d=>
      if ok=Ks then Kx (Ky prog w) A (eval elt env) (λx e=>
       Kx (Ky prog w) A (call (.builtin "list.append") [acc,x]) (λ_ j=>∃m,m<n/\I m j) (λ_ _=>Kn) e) (λ_ _=>Kn) d
      else ∃m,m<n/\I m d) (λ_ _=>Kn) i) (λ_ _=>Kn) a) (λ_ _=>Kn) a) (λ_ _=>Kn) s) (n:Kk) (h:I n s):
  Mv (Ky prog w) A (.compLoop (.ListComp elt [⟨target,iter,ifs,0⟩] scope pos) 0 it acc env) R s:=by
 refine Yc rfl I (λn s o=>?_) n h;show Kx _ A ((compTurn (.ListComp elt [⟨target,iter,ifs,0⟩] scope pos) 0 it acc env).onRaise (λx=>do noteFrame x env;Wv x)) _ _ s;refine wpAny_noted ?_;rw[compTurn_list];refine aN<|pC<|aN<|gC (z n s o) (λr a b=>?_) λ_ _ B=>B.elim;cases r with
 | none=>exact bL b
 | some v=>
  refine aN<|gC b (λ_ a b=>?_) λ_ _ B=>B.elim;refine aN<|gC b (λ_ i q=>aN<|gC q (λok d f=>?_) λ_ _ B=>B.elim) λ_ _ B=>B.elim;cases ok with
  | false=>exact bL ⟨rfl,f⟩
  | true=>
   exact aN<|aN<|gC f (λx e l=>aN<|gC l (λ_ j u=>bL<|bL ⟨rfl,u⟩) λ_ _ B=>B.elim) λ_ _ B=>B.elim
def pZ(X:Cx)(d:Ki Kc)(t:TT):Prop:=
 ∀(a:Ki (eH×Kh))(s:Jx)(b:St)(H:Hp)(Q:Km->Hp->Prop),Inv X a b H s->t b H Q->
  Kx (Ky X.prog X.w) X.A (forIn d Ks λc r=>if r=Ks then do let ok <-isTrue c X.env (eval c X.env);pure (Kw ok) else pure (Kw r)) (TP X a b Q) X.xe s
def mZ:TT:=λ_ H Q=>Q Ks H
def gW:pZ X [] mZ:=λ_ _ _ H _ I h=>wpAny_tests_nil ⟨H,I,h⟩
def xA(h:PT X c t):pZ X [c] t:=λa s b H Q I q=>wpAny_tests_one<|h a s b H Q I q
def oC(J:It)(g:TG)(tt:TT)(te:TE)(D:eH)(h:St)(H0:Hp)(Q:Hp->Prop):Prop:=
 ∃W:Kk->Kk->St->Hp->Prop,(∃m,W 0 m h H0)/\∀i m n H,W i m n H->
 (J.stop i H/\Q H)\/(J.go i H/\∃N:St->Hp->Prop,(∀d e,N d e->∃m',m'<m/\W (i+1) m' d e)/\∀x e,J.yld i H x e->g x n e λa o=>tt a o λb j=>
  if b=Ks then te a j λv l=>∃f,l D\.lst f/\↑f<sizeLine/\N a (upd l D<|.lst<|f++[v]) else N a j)
section
variable{scope:Scope}{N':Ki zZ}{src:Ki (Kj Kk)}{pins:Ki (eH×Kh)}{σ:St}{H2:Hp}{s2:Jx}
def UU{af tg iter:Kc}{aa:Ki Kc}{pos:Nc}{it:eH}{fp:Ki eH}{M:Kk->Ka->Prop}{J:It}{g:TG}{tt:TT}{te:TE}{Q:eH->Hp->Prop}
  {RR:iH->eH->Vq->Jx->Prop} {E:Vp} (hc:X.calm=Ks)
  (B:BlkN X scope N' src) (b2:∀x k,(x,k)∈scope.names->k=.free->∀k',(x,k')∈scope.names->k'=.free) (T:fQ X.prog X.w X.K tg J fp it M) (I:Inv X pins σ H2 s2) (h0:M 0 s2.heap) (l:∀b∈fp,dR X pins H2 b)
  (hg:∀s3 H3 C,PG (dG X scope N' s3 H3 C fp) tg g) (ht:∀s3 H3 C,pZ (dG X scope N' s3 H3 C fp) aa tt) (he:∀s3 H3 C,PE (dG X scope N' s3 H3 C fp) af te)
  (hw:∀D,H2 D=Kr->oC J g tt te D (sub src σ) (upd H2 D<|.lst []) (Q D))
  (hQ:∀D C H' s',C≠D->(∃m,s'.heap.Ns C m)->(∀ae ,Lq C s'.heap ae->Inv X pins σ H' {s' with heap:=ae})->Inv X pins σ H' s'->H' C=Kr->C≠X.env.locals->(∀x c,X.env.cells.lookup x\c->c≠C)->X.s₀⁻¹<=C->(∀p∈X.pn++pins,p.1≠C)->Q D H'->RR (.ref D) C (.ok .next) s'):
  Kx (Ky X.prog X.w) X.A (newList []) (λam O=>Kx (Ky X.prog X.w) X.A (Xc scope X.env.globals (cL X.env scope.names) [] X.env.qual Kr .none<|some X.env) (λa8 s₄=>
   Mv (Ky X.prog X.w) X.A (.compStart (.ListComp af [⟨tg,iter,aa,0⟩] scope pos) 0 (.ref it) am {a8 with scope:=Ub scope X.env}) (RR am a8.locals) s₄) E O) E s2:=by
 have a6:∀y∈scope.names,y.2≠.cell:=λy hy=>cT<|vc8.mp B.nocell y hy;refine lX<|wpAny_newFunctionEnv a6 (by intro y hy;simp at hy) (λP a2 a5=>?_) B.kind;dsimp only at a2 a5 ⊢;have ay:H2 s2⁻¹=none:=I.hok.fresh<|aZ _;have G:Inv X pins σ (upd H2 s2⁻¹<|.lst []) {s2 with heap:=s2.heap.push {cls:=.type "list",dict:=Kr,data:=.seq ([]:Ki iH).toArray}}:=
  I.laid (t':=s2.toks) (λb o e=>bY _ e) (aZ _) ⟨bW _,[],_,.nil,dQ _ rfl⟩
 generalize hH3:(s2.heap.push {cls:=.type "list",dict:=Kr,data:=.seq ([]:Ki iH).toArray})=f at a2 a5 G ⊢;have a9:f.objs.size=s2⁻¹+1:=by rw[<-hH3,qN]
 have a4:∀b o,s2.heap.get? b\o->f.get? b\o:=λb o e=>by rw[<-hH3];exact bY _ e
 have a1:∀b o,f.get? b\o->P.get? b\o:=λb o e=>a5.extBut b o (cP<|cB e)<|bY _ e;have a3:s2⁻¹<f.objs.size:=by rw[a9];exact qX _
 have ao:∀b∈fp,dR X pins (upd H2 s2⁻¹<|.lst []) b:=λb j=>by
  obtain⟨o,e,_⟩:=T.obj _ _ h0 b j;refine{?_,(l b j).2};rw[aC<|cP<|cB e];exact(l b j).1
 have a7:∀b∈fp,b<f.objs.size:=λb j=>by
  obtain⟨o,e,_⟩:=T.obj _ _ h0 b j;exact yL (cB e) a3
 have b3:=XE (fp:=fp) (C:=f.objs.size) (s4:={s2 with heap:=P,toks:=s2.toks+↑([]:Ki (zZ×iH))}) B G ao a7 b2 rfl a2 a1 rfl rfl;have al:M 0 P:=T.keep _ _ _ h0 λb j o e=>a1 b o<|a4 b o e;obtain⟨W,⟨m0,w0⟩,ac⟩:=hw s2⁻¹ ay;have ab:∀{H':Hp},(∀b∈fp,H' b=Kr)->∀b∈fp,dR (dG X scope N' {s2 with heap:=f} (upd H2 s2⁻¹<|.lst []) f.objs.size fp) [] H' b:=λhn b j=>by
  refine{hn b j,cP<|a7 b j,?_,.inl j,λx c h=>(l b j).2.2.2.2.1 x c (B.back I.ok h).1,λp hp=>absurd (show p∈([]:Ki (eH×Kh)) from hp)<|by simp};intro z;obtain y|y:=wx0.mp (G.stkSub b z)
  .exact(l b j).2.1 y
  .exact(l b j).2.2.1 y
 have av:∀(s':Jx)(a:St)(H':Hp),Inv (dG X scope N' {s2 with heap:=f} (upd H2 s2⁻¹<|.lst []) f.objs.size fp) [] a H' s'->Q s2⁻¹ H'->RR (.ref s2⁻¹) f.objs.size (.ok .next) s':=λs' a H' L q=>by
  obtain⟨hh,gg,dd,ad,aq⟩:=s';have as:aq=s2.os:=L.os;subst as;have IX:Inv X pins σ H' {({s2 with heap:=f}:Jx)with heap:=hh,gens:=gg,drawn:=dd,toks:=ad}:=Inv.call (s:={s2 with heap:=f}) G (h':=hh) (g':=gg) (d':=dd) (t':=ad) (ch:=fp) L.base L.hok L.bare λb j=>⟨(l b j).2.2.2.1,(l b j).2.1,(l b j).2.2.2.2.1,(l b j).2.2.2.2.2⟩;have b7:s2⁻¹<=f.objs.size:=cX a3;have ap:f.objs.size≠X.env.locals:=jP G.lt;have aj:∀x c,X.env.cells.lookup x\c->c≠f.objs.size:=λx c e z=>by
   obtain⟨v,q⟩:=G.cell x c e;exact absurd (show c<f.objs.size from q.lt) (by rw[z];exact jQ _)
  have ak:∀p∈X.pn++pins,p.1≠f.objs.size:=λp hp z=>by
   have:=cB (G.pin p hp).1;exact absurd (show p.1<f.objs.size from this) (by rw[z];exact jQ _)
  have ah:H' f.objs.size=none:=L.free;obtain⟨m,hm,_⟩:=L.loc;refine hQ _ _ H' _ (jP a3) ⟨m,hm⟩ (λae sb=>?_) IX ah ap aj (hX G.sz<|aZ _) ak q;exact IX.turned (t':=ad) (λb o j e=>(sb.2 b j).trans e) ah ap (.inr<|hX G.sz<|aZ _) aj ak
 have H:∀O:Jx,O={s2 with heap:=P,toks:=s2.toks+↑([]:Ki (zZ×iH))}->
   Mv (Ky X.prog X.w) X.A (.compLoop (.ListComp af [⟨tg,iter,aa,0⟩] scope pos) 0 (.ref it) (.ref s2⁻¹)<|compEnvC scope (cL X.env scope.names) f.objs.size X.env)
    (RR (.ref s2⁻¹) f.objs.size) O:=by
  rintro O rfl;refine Et (λn s'=>∃i a H',Inv (dG X scope N' {s2 with heap:=f} (upd H2 s2⁻¹<|.lst []) f.objs.size fp) [] a H' s'/\M i s'.heap/\(∀b∈fp,H' b=Kr)/\W i n a H') ?_ m0 {0,_,_,b3,al,λb j=>(ao b j).1,w0};rintro n s5 ⟨i,σ5,Z,I5,ai,an,w5⟩;obtain⟨stop,qn⟩|⟨go,Nx,hN,step⟩:=ac i n σ5 Z w5
  .refine bA (T.done (dG X scope N' {s2 with heap:=f} (upd H2 s2⁻¹<|.lst []) f.objs.size fp) rfl rfl rfl hc i [] s5 σ5 Z _ I5 (ab an) ai stop) ?_;rintro r s6 ⟨hr,I6⟩;subst hr;exact av s6 σ5 Z I6 qn
  .refine bA (T.item (dG X scope N' {s2 with heap:=f} (upd H2 s2⁻¹<|.lst []) f.objs.size fp) rfl rfl rfl hc i [] s5 σ5 Z _ I5 (ab an) ai go) ?_;rintro r s6 ⟨u,hr,h6⟩;subst hr;refine bA h6 ?_;rintro _ s7 ⟨x,H7,I7,r7,y7,ag,b1⟩;have ar:=I7.pinned (ab b1)<|T.obj _ _ ag;refine bA (hg _ _ _ _ s7 σ5 H7 x u _ ar r7<|step x H7 y7) ?_;rintro _ s8 ⟨σ8,H8,I8,q8⟩;refine bA (ht _ _ _ _ s8 σ8 H8 _ I8 q8) ?_;rintro ok s9 ⟨H9,I9,q9⟩;have again:∀{σa:St}{N:Hp}{Y:Jx},Inv (dG X scope N' {s2 with heap:=f} (upd H2 s2⁻¹<|.lst []) f.objs.size fp) ([]++xT fp s7.heap) σa N Y->Nx σa N->
     ∃m,m<n/\∃i a H',Inv (dG X scope N' {s2 with heap:=f} (upd H2 s2⁻¹<|.lst []) f.objs.size fp) [] a H' Y/\M i Y.heap/\(∀b∈fp,H' b=Kr)/\W i m a H':=λ{σa N Y} Ia na=>by
    obtain⟨m',hm,wa⟩:=hN σa N na;refine{m',hm,i+1,σa,N,Ia.unpinned,T.keep _ _ _ ag λb j o e=>(Ia.pin (b,o)<|gS _<|gS _<|xZ j e).1,λb j=>?_,wa};obtain⟨o,e,d⟩:=T.obj _ _ ag b j;exact(Ia.pin (b,o)<|gS _<|gS _<|xZ j e).2.1
   cases ok with
   | false=>exact again I9 q9
   | true=>
    refine bA (he _ _ _ _ s9 σ8 H9 _ I9 q9) ?_;rintro y aw ⟨v,b4,b0,au,xs,hx,hl,ax⟩;refine bA (fL (X:=dG X scope N' {s2 with heap:=f} (upd H2 s2⁻¹<|.lst []) f.objs.size fp) _ aw σ8 b4 (.ref s2⁻¹) [v] (.ref s2⁻¹) [y] (λ_ H'=>Nx σ8 H') b0 rfl (.cons au .nil) {_,xs,v,U,U,hx,hl,ax}) ?_;rintro _ b6 ⟨_,b8,b5,_,az⟩;exact again b5 az
 exact codeAny_compStart_list (H _ rfl)<|T.self _ 0 _ _ _ al<|H _ rfl
def IC(a:TI)(src:Ki (Kj Kk))(g:TG)(tt:TT)(te:TE):TE:=λσ H Q=>a σ H λJ H2=>∀D,H2 D=Kr->oC J g tt te D (sub src σ) (upd H2 D<|.lst []) λb=>Q (.ref D) b
def iQ(n:X.calm=Ks)(B:BlkN X scope N' src)(hi:PI X tg iter wi)(E:∀s3 H3 C fp,PG (dG X scope N' s3 H3 C fp) tg g)(G:∀s3 H3 C fp,pZ (dG X scope N' s3 H3 C fp) ifs tt)(he:∀s3 H3 C fp,PE (dG X scope N' s3 H3 C fp) elt te)(M:(scope.names.all λy=>decide (y.2=.free->∀z∈scope.names,z.1=y.1->z.2=.free))=true:=by rfl')(hs:∀x,My iter X.env x=pure x:=by intro _;rfl):
  PE X (.ListComp elt [⟨tg,iter,ifs,0⟩] scope pos) (IC wi src g tt te):=by
 intro j s σ H Q I h;have W:∀x k,(x,k)∈scope.names->k=.free->∀e,(x,e)∈scope.names->e=.free:=λx k d Z e O=>cT (vc8.mp M (x,k) d) Z (x,e) O rfl;have o:Oo scope X.env=pure (cL X.env scope.names):=IT λy i f=>I.ok.has y.1<|cT (vc8.mp B.frees y i) f;have N:∀y∈scope.names,y.2=.local->scope.names.lookup y.1\.local:=λy i=>cT<|vc8.mp B.locs y i;rw[eval_ListComp];refine HU (use:=Kr) rfl hs o B.kind N<|bA (hi j s σ H _ I h) λxv s₁ l=>bA l λab s2 h2=>?_;obtain⟨it,fp,tn,J,H2,rfl,r,T,h0,f,L⟩:=h2;refine UU (RR:=λu C=>Uv (Ky X.prog X.w) X.A X.xe Kr (EP X j σ Q) u C) (Q:=λD H'=>Q (.ref D) H') n B W T r h0 f (λa b c=>E a b c fp) (λa b c=>G a b c fp) (λa b c=>he a b c fp) L ?_;intro D C H' s' ac d Y IX a9 af aa ad ae q;obtain⟨m,d⟩:=d;exact{m,d,λP sb=>{.ref D,H',Y P sb,U,q}}
def uI(hc:X.calm=Ks)(hN:X.N.Nodup)(af:X.N[i]?\y)(f:X.env.scope.names.lookup y\.local)(B:BlkN X scope N' src)(hi:PI X tg iter wi)(hg:∀s3 H3 C fp,PG (dG X scope N' s3 H3 C fp) tg g)(W:∀s3 H3 C fp,pZ (dG X scope N' s3 H3 C fp) ifs tt)(he:∀s3 H3 C fp,PE (dG X scope N' s3 H3 C fp) elt te)(ab:Nb (.ListComp elt [⟨tg,iter,ifs,0⟩] scope pos) (Kp<|.Name y py) spos.line X.env=pure true:=by rfl)(ai:(scope.names.all λy=>decide (y.2=.free->∀z∈scope.names,z.1=y.1->z.2=.free))=true:=by rfl')(hs:∀x,My iter X.env x=pure x:=by intro _;rfl):
  PS X (.Assign [.Name y py] (.ListComp elt [⟨tg,iter,ifs,0⟩] scope pos) spos) (gG (IC wi src g tt te)<|cJ i):=by
 intro r s σ H D I h;have a4:∀x k,(x,k)∈scope.names->k=.free->∀l,(x,l)∈scope.names->l=.free:=λx k j hk l Y=>cT (vc8.mp ai (x,k) j) hk (x,l) Y rfl;have a2:Oo scope X.env=pure (cL X.env scope.names):=IT λy f n=>I.ok.has y.1<|cT (vc8.mp B.frees y f) n;have a0:∀y∈scope.names,y.2=.local->scope.names.lookup y.1\.local:=λy f=>cT<|vc8.mp B.locs y f;rw[Uj _ _ _ _ ab];refine aN<|pC<|aN ?_;show Kx _ X.A (do let _ <-comprehension (.ListComp elt [⟨tg,iter,ifs,0⟩] scope pos) scope X.env _ (newList []) Kt (eval iter X.env) (Kp<|assign (.Name y py) X.env)) _ _ s;have h':wi σ H λJ H2=>∀d,H2 d=Kr->oC J g tt te d (sub src σ) (upd H2 d<|.lst []) λH'=>D.nx (σ.set i<|some<|.ref d) H':=h;refine aN<|gC (HU (use:=Kp<|assign (.Name y py) X.env) (Q:=λ_ s'=>SP X r D .next s') rfl hs a2 B.kind a0<|bA (hi r s σ H _ I h') λxv s₁ G=>bA G λak s2 h2=>?_) (λ_ s' hq=>bL<|bL hq) λ_ _ e=>e
 obtain⟨it,fp,tn,J,H2,rfl,M,T,h0,n,hw⟩:=h2;refine UU (RR:=λae C=>Uv (Ky X.prog X.w) X.A X.xe (Kp<|assign (.Name y py) X.env) (λ_ s'=>SP X r D .next s') ae C) (Q:=λd H'=>D.nx (σ.set i<|some<|.ref d) H') hc B a4 T M h0 n (λa b c=>hg a b c fp) (λa b c=>W a b c fp) (λa b c=>he a b c fp) hw ?_;intro d C H' s' aj j am IX a7 u E aa P q;obtain⟨m,j⟩:=j;show Kx _ X.A (assign (.Name y py) X.env<|.ref d) _ _ _;refine Qd ?_;refine OR (v:=.ref d) IX hN af (.inl f) rfl (λa8 ad a3=>?_)<|.inr f;obtain⟨a,Z,ha⟩:=a3;have O:C≠a:=by
  rintro rfl;obtain z|z:=ha
  .exact u z
  .exact E _ _ z rfl
 refine{m,j.sameBut Z O,λal sb=>{_,H',?_,q}};exact ad.turned (t':=a8.toks) (λb o L e=>(sb.2 b L).trans e) a7 u (.inr aa) E P
end
section
variable{pins:Ki (eH×Kh)}{σ:St}{H:Hp}{s:Jx}{a:eH}{o:Kh}{u:HO}
def Ci(ok:HOk P w H h)(e:H a\u)(i:∀l,u≠.tup l)(f:∀y,u≠.own y)(new:ObjOk P w (upd H a v) h a v):HOk P w (upd H a v) h:=λb z q=>by
 by_cases d:b=a
 .subst d;rw[zb1]at q;cases q;exact new
 .rw[aC d]at q;refine(ok b z q).stay (λc j _ r=>r) (λc r=>?_) λc l r=>?_
  .rw[aC];exact r;rintro rfl;rw[e]at r;cases r;exact f _ rfl
  .rw[aC];exact r;rintro rfl;rw[e]at r;cases r;exact i _ rfl
def Inv.swap(I:Inv X pins σ H s)(e:H a\u)(f:∀A,u≠.tup A)(i:∀y,u≠.own y)(o:∀r,u≠.tbl r)(hz:∀d y,X.H₀ a≠Kp (.frz d y))(new:ObjOk X.prog X.w (upd H a v) s.heap a v):Inv X pins σ (upd H a v) s:=by
 have ne:∀b,H b=Kr->b≠a:=λb n z=>by subst z;rw[e]at n;cases n
 refine{I.ok,I.os,I.bare,{I.base.keep,I.base.slot,λb d q n j=>?_,I.base.there,λb A q=>?_,λb d y q=>?_,λb r q=>?_},I.loc,I.cell,?_,λx c h=>?_,λp B=>?_,Ci I.hok e f i new,I.len}
 .have:=I.base.free b d q n j;rw[aC<|ne b this];exact this
 .have:=I.base.tups b A q;rw[aC];exact this;rintro rfl;rw[e]at this;cases this;exact f _ rfl
 .have:=I.base.frzs b d y q;rw[aC];exact this;rintro rfl;exact hz _ _ q
 .obtain⟨m,this⟩:=I.base.tbls b r q;exists m;rw[aC];exact this;rintro rfl;rw[e]at this;cases this;exact o _ rfl
 .rw[aC<|ne _ I.free];exact I.free
 .rw[aC<|ne _<|I.freeC x c h];exact I.freeC x c h
 .obtain⟨h1,h2,l⟩:=I.pin p B;exact{h1,by rw[aC<|ne _ h2];exact h2,l}
def Inv.unfrozen(I:Inv X pins σ H s)(e:H a\.dK kvs):∀b y,X.H₀ a≠Kp (.frz b y):=λb y q=>by
 have:=I.base.frzs a b y q;rw[e]at this;cases this
def Inv.freeze(I:Inv X pins σ H s)(e:H a\.dK kvs)(b:s.heap.get? a\o):Inv X pins σ (upd H a<|.frz o<|.dK kvs) s:=
 I.swap e (λ_ h=>nomatch h) (λ_ h=>nomatch h) (λ_ h=>nomatch h) (I.unfrozen e) ⟨b,I.hok a _ e⟩
def Inv.thaw(I:Inv X pins σ H s)(e:H a\(.frz o<|.dK kvs))(hz:∀b y,X.H₀ a≠Kp (.frz b y)):Inv X pins σ (upd H a<|.dK kvs) s:=
 I.swap e (λ_ h=>nomatch h) (λ_ h=>nomatch h) (λ_ h=>nomatch h) hz (I.hok a _ e).2
end
def rG(ok:Hp->Prop)(xs:Ki V):It:=⟨λi H=>ok H/\i<↑xs,λi H x a=>a=H/\xs[i]?\x,λi H=>ok H/\↑xs<=i⟩
def GL(a:eH)(o:Kh)(kvs:Ki (aG×V))(H:Hp):Prop:=H a=Kp (.frz o<|.dK kvs)
def KV.get(r:KV kvs vs):∀{i:Kk}{k:aG}{x:iH},vs[i]?\(k,x)->∃v,kvs[i]?\(k,v)/\RelV v x:=by
 unfold KV at r
 induction r with
 | nil=>intro i k x h;simp at h
 | @cons p q m l h t e=>
  intro i k x a;cases i with
  | zero=>
   simp at a;subst a;obtain⟨b,f⟩:=p;obtain⟨d,j⟩:=h;have d:b=k:=d;subst d;exact{f,by simp,j}
  | succ i=>simpa using e (by simpa using a)
def JG{P:Jz}{w:Kb}{h:Ka}{a:eH}{o:Kh}{kvs:Ki (aG×V)}(f:h.get? a\o)(d:∃vs,KV kvs vs/\h.DictOf (cO P w) a vs):
  ∃vs ep,KV kvs vs/\∀i:Ka,i.get? a\o->i.DictAt (cO P w) a vs ep:=by
 obtain⟨vs,r,l,j,ep,e,q⟩:=d;rw[f]at e;cases e;exact{vs,ep,r,λi b=>⟨o,j,b,q⟩}
def Aq{P:Jz}{w:Kb}{K:Fq}{tg:Kc}{o:Kh}{kvs:Ki (aG×V)}{vs:Ki (aG×iH)}{ep:Kk}(a it:eH)(a4:a≠it)(r:KV kvs vs)(hd:∀h':Ka,h'.get? a\o->h'.DictAt (cO P w) a vs ep):
  fQ P w K tg (rG (GL a o kvs)<|kvs.map λkv=>kV kv.1) [it] it (λi h=>h.IsKeyIter it a i ↑vs ep) where
 mem:=by simp
 obj:=λi h st b f=>by
  have e:b=it:=by simpa using f
  subst e;obtain⟨o,e,c,d⟩:=st;exact{o,e,λv z=>by rw[d]at z;cases z}
 keep:=λi h h' st k=>st.at λo e=>k it (by simp) o e
 item:=by
  intro X L C B l i O s σ H E I j st q;subst L C B;obtain⟨hz,hi⟩:=q;have G:=(I.hok a _ hz).1;obtain⟨J,u,f2,N,M,m⟩:=j it (by simp);have hl:i<↑vs:=by rw[<-↑r];simpa using hi
  have W:=Walks.dictKeys (prog:=X.prog) (w:=X.w) (knd:=cO X.prog X.w) (A:=X.A) (I.ok.hd l) it a a4 vs ep;refine W.item i s _ _ hl {st,hd _ G} λv h' tk hv T Y=>?_;obtain⟨k,x,hx,hk⟩:=hv;have I1:Inv X O σ H {s with heap:=h',toks:=tk}:=I.turned (λb o f e=>Y b o (by simpa using f) e) J u N M m;obtain⟨o',e',c',d'⟩:=id T.1;obtain⟨v',a3,_⟩:=r.get hx;refine{_,U,tX (s:={s with heap:=h',toks:=tk}) e' c' d' (by decide) {kV k,H,I1,?_,{U,by rw[bR,a3];rfl},T.1,λb f=>(j b f).1}};obtain⟨n,t,rfl,rfl⟩|⟨n,t,rfl,rfl⟩:=jT hk
  .exact⟨t,rfl⟩
  .exact⟨t,rfl⟩
 done:=by
  intro X L C B l i O s σ H E I j st q;subst L C B;obtain⟨hz,hi⟩:=q;have G:=(I.hok a _ hz).1;obtain⟨J,u,f2,N,M,m⟩:=j it (by simp);have hl:↑vs<=i:=by rw[<-↑r];simpa using hi
  exact wpAny_pyNext_dict_end (I.ok.hd l) st (hd _ G) (by simpa using hl) λh' Z=>{U,I.turned (t':=s.toks) (λb o f e=>Z b o f e) J u N M m}
 self:=λ_ _ _ _ _ st h=>wpAny_pyIter_keyiter st h
def Cs{P:Jz}{w:Kb}{K:Fq}{tg:Kc}{o:Kh}{kvs:Ki (aG×V)}{vs:Ki (aG×iH)}{ep:Kk}(a it:eH)(a4:a≠it)(r:KV kvs vs)(hd:∀h':Ka,h'.get? a\o->h'.DictAt (cO P w) a vs ep):
  fQ P w K tg (rG (GL a o kvs)<|kvs.map λkv=>kv.2) [it] it (λi h=>h.IsValIter it a i ↑vs ep) where
 mem:=by simp
 obj:=λi h st b f=>by
  have e:b=it:=by simpa using f
  subst e;obtain⟨o,e,c,d⟩:=st;exact{o,e,λv z=>by rw[d]at z;cases z}
 keep:=λi h h' st k=>st.at λo e=>k it (by simp) o e
 item:=by
  intro X G x u l i M s σ H E I j st n;subst G x u;obtain⟨hz,hi⟩:=n;have B:=(I.hok a _ hz).1;obtain⟨C,q,f2,L,J,m⟩:=j it (by simp);have hl:i<↑vs:=by rw[<-↑r];simpa using hi
  have W:=Walks.dictValues (prog:=X.prog) (w:=X.w) (knd:=cO X.prog X.w) (A:=X.A) (I.ok.hd l) it a a4 vs ep;refine W.item i s _ _ hl {st,hd _ B} λv h' tk Y N O=>?_;obtain⟨k,Z⟩:=Y;have I1:Inv X M σ H {s with heap:=h',toks:=tk}:=I.turned (λb o f e=>O b o (by simpa using f) e) C q L J m;obtain⟨o',e',c',d'⟩:=id N.1;obtain⟨v',a3,rv⟩:=r.get Z;exact{_,U,tX (s:={s with heap:=h',toks:=tk}) e' c' d' (by decide) {v',H,I1,rv,{U,by rw[bR,a3];rfl},N.1,λb f=>(j b f).1}}
 done:=by
  intro X G x u l i M s σ H E I j st n;subst G x u;obtain⟨hz,hi⟩:=n;have B:=(I.hok a _ hz).1;obtain⟨C,q,f2,L,J,m⟩:=j it (by simp);have hl:↑vs<=i:=by rw[<-↑r];simpa using hi
  exact wpAny_pyNext_values_end (I.ok.hd l) st (hd _ B) (by simpa using hl) λh' T=>{U,I.turned (t':=s.toks) (λb o f e=>T b o f e) C q L J m}
 self:=λ_ _ _ _ _ st h=>wpAny_pyIter_valiter st h
section
variable{tg:Kc}
def EN(te:TE):TI:=λf H R=>te f H λx d=>∃a b,x=.ref a/\d a\.dK b/\∀o,R (rG (GL a o b)<|b.map λe=>kV e.1)<|upd d a<|.frz o<|.dK b
def HJ(hl:PE X l te):PI X tg l (EN te):=by
 intro A s C H R I h;refine bA (hl A s C H _ I h) ?_;rintro v d ⟨x,L,m,u,z⟩;obtain⟨a,E,e,n,q⟩:=z;subst e;cases u;obtain⟨G,B,hd⟩:=zN m.hok n;obtain⟨o,f⟩:∃o,d.heap.get? a\o:=by obtain⟨vs,_,o,_,_,e,_⟩:=hd;exact⟨o,e⟩
 obtain⟨vs,J,r,j⟩:=JG f hd;refine wpAny_pyIter_dict B (j _ f) ?_;have i:=m.freeze n f;refine{d⁻¹,[d⁻¹],_,_,_,U,i.kept (t':=d.toks) λb o e=>bY _ e,Aq a _ (cP<|cB f) r j,{_,dQ _ rfl,U,U},λb w=>?_,q o};have e:b=d⁻¹:=by simpa using w
 subst e;exact i.fpOk (aZ _)<|i.hok.fresh<|aZ _
def CY(te:TE):TI:=λf H R=>te f H λx d=>∃a b,x=.ref a/\d a\.dK b/\∀o,R (rG (GL a o b)<|b.map λe=>e.2)<|upd d a<|.frz o<|.dK b
def Cy(hl:PE X l te)(base:Mq l "values" X.env (eval l X.env)=eval l X.env:=by rfl)(few:((backTo cpos<|starEach [] X.env).all (λx=>!x.1) && (Uy cpos<|keywordEach [] X.env).all (λx=>x.1.isSome) && decide (↑([]:Ki Kc)+↑([]:Ki Os)+(if ([]:Ki Os).isEmpty then 0 else 1)<30))=true:=by rfl)(i:(apos.endLine == cpos.line)=true:=by rfl)(f:backTo cpos (starEach [] X.env)=[]:=by rfl):PI X tg (.Call (.Attribute l "values" apos) [] [] cpos) (CY te):=by
 intro C s P H R I h;refine wN base few i yS Qi PySem.F.type_dict_values<|bA (hl C s P H _ I h) ?_;rintro u d ⟨x,T,n,G,a,O,ex,B,q⟩;subst ex;obtain rfl:u=Kz a:=G;obtain⟨E,N,M⟩:=yV n<|.inl ⟨O,.inl B⟩;exists E,N;rw[f];refine oA rfl<|Sk ?_;obtain⟨W,_,hd⟩:=zN n.hok B;obtain⟨o,m⟩:∃o,d.heap.get? a\o:=by obtain⟨vs,_,o,_,_,e,_⟩:=hd;exact⟨o,e⟩
 obtain⟨vs,Y,r,A⟩:=JG m hd;refine mQ Qi E PySem.F.entry_dict_values (PySem.F.args_dict_values_1 _) (meets_dict_values (cO X.prog X.w) a M) {{vs,(A _ m).dictOf},?_};have z:(d.heap.push {cls:=.type "dict_values",data:=.fields #[.ref a]}).get? a\o:=bY _ m;have J:Inv X C P T {d with heap:=d.heap.push {cls:=.type "dict_values",data:=.fields #[.ref a]}}:=n.kept (t':=d.toks) λb o e=>bY _ e;refine wpAny_pyIter_values (s:={d with heap:=d.heap.push {cls:=.type "dict_values",data:=.fields #[.ref a]}}) {_,dQ _ rfl,U,U} (A _ z) ?_;have j:=J.freeze B z;refine{_,[_],_,_,_,U,j.kept (t':=d.toks) λb o e=>bY _ e,Cs a _ (cP<|cB z) r A,{_,dQ _ rfl,U,U},λb L=>?_,q o};rw[wx1.mp L];exact j.fpOk (aZ _)<|j.hok.fresh<|aZ _
def AK(t:TE):TE:=λe H Q=>∃a b,H a\.dK b/\t e H λv d=>∃o,d a\(.frz o<|.dK b)/\Q v (upd d a<|.dK b)
def WL(h:PE X e t):PE X e (AK t):=by
 intro j s r H Q I ⟨a,m,b,q⟩;have w:=I.unfrozen b;refine bA (h j s r H _ I q) <| by rintro u l ⟨x,z,i,d,o,n,f⟩;exact{x,_,i.thaw n w,d,f}
def AM(D:dY)(a:eH)(kvs:Ki (aG×V)):dY where
 nx:=λb H=>∃o,H a\(.frz o<|.dK kvs)/\D.nx b (upd H a<|.dK kvs)
 rt:=λv H=>∃o,H a\(.frz o<|.dK kvs)/\D.rt v (upd H a<|.dK kvs)
 bk:=λb H=>∃o,H a\(.frz o<|.dK kvs)/\D.bk b (upd H a<|.dK kvs)
 ct:=λb H=>∃o,H a\(.frz o<|.dK kvs)/\D.ct b (upd H a<|.dK kvs)
def FR(t:TS):TS:=λD d H=>∃a b,H a\.dK b/\t (AM D a b) d H
def WC{st:Kd}{t:TS}(h:PS X st t):PS X st (FR t):=by
 intro j s A H D I ⟨a,z,i,q⟩;have w:=I.unfrozen i;refine bA (h j s A H _ I q) λf l e=>?_;cases f with
 | next=>obtain⟨m,x,d,o,n,b⟩:=e;exact{m,_,d.thaw n w,b}
 | brk=>obtain⟨m,x,d,o,n,b⟩:=e;exact{m,_,d.thaw n w,b}
 | cont=>obtain⟨m,x,d,o,n,b⟩:=e;exact{m,_,d.thaw n w,b}
 | ret u=>obtain⟨v,m,x,d,r,o,n,b⟩:=e;exact{v,m,_,d.thaw n w,r,b}
end
def AJ(K:Fq)(a:eH):It:=
 ⟨λi H=>∃b x,SqL K H a b/\b[i]?\x,λi H x d=>∃p y,H p=Kr/\x=.ref p/\d=upd H p (.tup [.int i,y])/\∀b,SqL K H a b->b[i]?\y,λi H=>∃b,SqL K H a b/\↑b<=i⟩
def Jd{P:Jz}{w:Kb}{K:Fq}{es:Ki Kc}{k:Kk}{pos:Nc}(a e it:eH)(ac:e≠it):fQ P w K (.Tuple es k pos) (AJ K a) [e,it] e (λi h=>(∃old,IsEnum h e it i old)/\h.IsListIter it a i) where
 mem:=by simp
 obj:=λi h st b f=>by
  obtain⟨⟨old,he⟩,hi⟩:=st;obtain rfl|f:=wx0.mp f
  .exact⟨_,he,λv z=>by
    have z':Data.fields _=Wu v:=z;cases z'⟩
  .have e:b=it:=by simpa using f
   subst e;obtain⟨o,e,c,d⟩:=hi;exact{o,e,λv z=>by rw[d]at z;cases z}
 keep:=λi h h' st kp=>by
  obtain⟨⟨old,he⟩,hi⟩:=st;exact{{old,kp e (by simp) _ he},hi.at λo x=>kp it (by simp) o x}
 item:=by
  intro X hP hw Y j i a1 s σ H E I L st hg;subst hP hw Y;obtain⟨xs,x,O,A⟩:=hg;obtain⟨⟨old,he⟩,M⟩:=st;obtain⟨its,rv,p,hz⟩:=I.list O;obtain⟨u,hu,ru⟩:=rv.get A;obtain⟨f0,f1,f2,f3,f4,f5⟩:=L e (by simp);obtain⟨J,N,g2,g3,g4,g5⟩:=L it (by simp);have a8:e<s⁻¹:=cB he;have a6:it<s⁻¹:=by obtain⟨_,x,_⟩:=M;exact cB x
  refine wpAny_pyNext_enum_item he M p.isList (x:=u) (by simpa using hu) ac λh' Z a7 hT hsz kk=>?_
  refine{_,U,wpAny_letOwnedTupleGo_enum (s:={s with heap:=h',toks:=s.toks+1}) Z λB a9 a2=>?_};have ad:s⁻¹≠e:=jP a8;have ae:s⁻¹≠it:=jP a6;have C:H s⁻¹=none:=I.hok.fresh<|aZ _;have keep:∀b o,b≠e->b≠it->s.heap.get? b\o->B.get? b\o:=λb o h1 h2 e=>(a2.2 b h1).trans<|kk b o h1 h2 e;have T:∀b u,H b\u->b≠e/\b≠it:=λb u W=>⟨λz=>(by rw[z,f0]at W;cases W),λz=>(by rw[z,J]at W;cases W)⟩
  have l:Inv X a1 σ H {s with heap:=B,toks:=s.toks+1}:=by
   refine I.step (g':=s.gens) (d':=s.drawn) (ch:=[e,it]) (λb f=>?_) (λb o _ _ j e _=>keep b o (λz=>j<|by simp[z]) (λz=>j<|by simp[z]) e) (λb o _ _ j e _=>{o.slots,keep b o (λz=>j<|by simp[z]) (λz=>j<|by simp[z]) e})
    (λ_ _ _ _ n=>n) (λb o j e=>⟨o,keep b o (λz=>j<|by simp[z]) (λz=>j<|by simp[z]) e⟩) (λ_ _ e=>e) (λ_ _ _ e=>e) (λb ps e=>⟨#[],by rw[e];simp⟩) (λm hm=>?_) (λb u eq=>?_) I.bare
   .obtain rfl|f:=wx0.mp f
    .exact⟨f3,f1,f4,f5⟩
    .have e:b=it:=by simpa using f
     subst e;exact⟨g3,N,g4,g5⟩
   .obtain⟨o,es,ep,Z,r⟩:=hm;exact{o,es,ep,keep _ o (bS f1) (bS N) Z,r}
   .refine(I.hok b u eq).stay (λc v j q=>keep c v ?_ ?_ q) (λ_ q=>q) λ_ _ q=>q
    .obtain z|z:=j
     .rw[z];exact(T b u eq).1
     .exact(T c _ z).1
    .obtain z|z:=j
     .rw[z];exact(T b u eq).2
     .exact(T c _ z).2
  have ab:B.get? s⁻¹=Kp {cls:=.type "tuple",data:=.seq #[.int i s.toks,u]}:=(a2.2 _ ad).trans hT;have I1:Inv X a1 σ (upd H s⁻¹<|.tup [.int i,x]) {s with heap:=B,toks:=s.toks+1}:=by
   have base:=l.base;have hok:HOk X.prog X.w (upd H s⁻¹<|.tup [.int i,x]) B:=by
    intro b z q
    by_cases f:b=s⁻¹
    .subst f;rw[zb1]at q;cases q;refine{{by show 2<=sizeLine;decide,_,ab,U},[.int i s.toks,u],.cons {_,U}<|.cons ru .nil,_,ab,U,_,U}
    .rw[aC f]at q;refine(l.hok b z q).stay (λc w' _ r=>r) (λc r=>?_) λc xs r=>?_
     .rw[aC<|aQ r C];exact r
     .rw[aC<|aQ r C];exact r
   have old:∀b o',X.s₀.heap.get? b\o'->b≠s⁻¹:=λb o' e=>cP<|iA (cB e) I.sz;refine{l.ok,l.os,l.bare,{base.keep,base.slot,λb G q n A=>?_,base.there,λb ys q=>?_,λb G y q=>?_,λb ps q=>?_},l.loc,l.cell,?_,λy c h=>?_,λp hp=>?_,hok,l.len}
   .rw[aC<|old b G q];exact base.free b G q n A
   .have:=base.tups b ys q;rw[aC<|aQ this C];exact this
   .have:=base.frzs b G y q;rw[aC<|aQ this C];exact this
   .obtain⟨m,this⟩:=base.tbls b ps q;exact{m,by rw[aC<|aQ this C];exact this}
   .rw[aC<|cP I.lt];exact I.free
   .obtain⟨v,q⟩:=I.cell y c h;rw[aC<|cP q.lt];exact I.freeC y c h
   .obtain⟨h1,h2,h3⟩:=l.pin p hp;have:=cB (I.pin p hp).1;exact{h1,by rw[aC<|cP this];exact h2,h3}
  have aa:B.IsListIter it a (i+1):=a7.at λo y=>(a2.2 it ac.symm).trans y;have af:IsEnum B e it ((i+1:Kk):Kl) u:=by simpa using a9
  refine{.ref s⁻¹,_,I1,U,{_,x,C,U,U,λys hy=>by rw[I.list_inj hy O];exact A},{⟨u,af⟩,aa},λb f=>?_};obtain rfl|f:=wx0.mp f
  .rw[aC<|bS ad];exact f0
  .have e:b=it:=by simpa using f
   subst e;rw[aC<|bS ae];exact J
 done:=by
  intro X hP hw Y j i a1 s σ H E I L st hg;subst hP hw Y;obtain⟨xs,O,A⟩:=hg;obtain⟨⟨old,he⟩,M⟩:=st;obtain⟨its,rv,p,hz⟩:=I.list O;obtain⟨J,N,g2,g3,g4,g5⟩:=L it (by simp);have hl:=↑rv;refine wpAny_pyNext_enum_end (I.ok.hd j) he M p.isList (DW<|by simp;lia) λh' A=>{U,I.turned (t':=s.toks) (λb o f e=>A b o f e) J N g3 g4 g5}
 self:=λ_ _ _ _ _ st h=>by
  obtain⟨⟨old,he⟩,_⟩:=st;exact Vt he h
def CV(K:Fq)(e:TA):TI:=λf H R=>e f H λvs b=>∃a d,vs=[.ref a]/\SqL K b a d/\R (AJ K a) b
theorem boot_enumerate:Mi "enumerate"\.type "enumerate":=by first | exact PySem.boot_enumerate | rfl
def Av{X:Cx}{W:Ki Kc}{k:Kk}{C:Nc}{a:Kc}{N:TA}{p pos:Nc}(x:Gl X "enumerate")(A:X.mg "enumerate"=Kr)(B:PA X [a] N)(hs:starEach [a] X.env=[(Kt,eval a X.env)]:=by rfl):PI X (.Tuple W k C) (.Call (.Name "enumerate" p) [a] [] pos) (CV X.K N):=by
 intro j s L H R I h;refine Wa<|mV I x A boot_enumerate<|oY (bA (B pos j s L H _ I h) λus d ⟨vs,O,f,o,z⟩=>?_) hs rfl;obtain⟨l,xs,e,E,q⟩:=z;subst e;cases o with
 | cons r Y=>
  cases Y;cases r;obtain⟨P,G,n,Z⟩:=f.list E;refine call_enumerate_list n.isList λM J u T m=>?_;refine Vt (s:={d with heap:=M}) J ?_;have w:Inv X j L O {d with heap:=M}:=f.kept (t':=d.toks) m;refine{d⁻¹+1,[d⁻¹+1,d⁻¹],_,_,O,U,w,Jd l _ _<|Nat.succ_ne_self _,{{_,J},u},λb i=>?_,q};obtain rfl|i:=wx0.mp i
  .exact f.fpOk (kI _)<|f.hok.fresh<|kI _
  .have e:b=d⁻¹:=by simpa using i
   subst e;exact f.fpOk (aZ _)<|f.hok.fresh<|aZ _
def Gy(h:Q 0xFCA86420 {s with toks:=s.toks+1}):Kx (Ky prog w) A (pyHash .none) Q E s:=by
 unfold pyHash pyHashByItsType;have a:[Mb].any iH.onHeap=false:=rfl;refine aN ?_;rw[cRoomFor,bC<|by rw[a];exact fE];refine bL ?_;refine aN<|oS (Qw s) vm4.lookup ?_;show Kx _ _ (if (Kp (iH.builtin "NoneType.__hash__") == Kp Mb)=Ks then _ else _) Q E s;rw[bC<|by rw[beq_builtin_none];exact fE];refine aN<|oS (Qw s) vm4.lookup ?_;show Kx _ _ (callSpecialIfBoundUnlessNone? .none "__hash__" _ >>= _) Q E s;refine aN (wpAny_callSpecialIfBoundUnlessNone?_slot (Qw s) vm4 (lB vm4 (Qw s) PySem.F.entry_NoneType_hash
   (show Kx _ _ (do ret<|<-mkInt 0xFCA86420) _ _ s from wpAny_ret_mkInt ?_) (PySem.F.args_NoneType_hash_1 _)))
 show Kx _ _ (if (decide (-(2:Kl) ^ 63<=0xFCA86420) && decide ((0xFCA86420:Kl)<2 ^ 63))=Ks then _ else _) Q E _;rw[bF<|by decide];exact bL h
def IP:Kj aG->iH->Km
 | some k,v=>kH k v
 | none,v=>match v with | .none=>Ks | _=>Kt
def nD(h:IP Kr v=Ks):v=.none:=by
 cases v <;> first | rfl | (simp[IP]at h)
def LY:kH k .none=false:=by cases k <;> rfl
def DA(w:Kb):Kj aG->Kl
 | some k=>DS w k
 | none=>0xFCA86420
def NP(prog:Jz)(w:Kb):Ve prog w (Kj aG) where
 is:=IP
 hash:=DA w
 inj:=λv a b f j=>by
  cases a with
  | none=>
   have e:=nD f;subst e;cases b with
   | none=>rfl
   | some b=>have j:kH b .none=true:=j;rw[LY]at j;cases j
  | some a=>
   cases b with
   | none=>
    have e:=nD j;subst e;have f:kH a .none=true:=f;rw[LY]at f;cases f
   | some b=>exact cH Kp<|(cO prog w).inj v a b f j
 byValue:=λk v h=>by
  cases k with
  | none=>rw[nD h];rfl
  | some k=>exact(cO prog w).byValue k v h
 pyHash:=λ{A E s k v Q} d h=>by
  cases k with
  | none=>rw[nD d];exact Gy h
  | some k=>exact(cO prog w).pyHash (k:=k) d h
 eqBool:=λ{A E s a b u v Q} l d h=>by
  cases a with
  | none=>
   have e:=nD l;subst e;cases b with
   | none=>
    have e:=nD d;subst e;have h:Q Ks s:=by simpa using h
    exact Lg.same _ _ _ _ _ h
   | some b=>
    have h:Q Kt s:=by simpa using h
    obtain⟨i,t,rfl,rfl⟩|⟨x,t,rfl,rfl⟩:=jT d
    .exact Lg.none_int _ _ _ _ _ _ h
    .exact Lg.none_str _ _ _ _ _ _ h
  | some a=>
   cases b with
   | none=>
    have e:=nD d;subst e;have h:Q Kt s:=by simpa using h
    obtain⟨i,t,rfl,rfl⟩|⟨x,t,rfl,rfl⟩:=jT l
    .exact Lg.int_none _ _ _ _ _ _ h
    .exact Lg.str_none _ _ _ _ _ _ h
   | some b=>exact(cO prog w).eqBool (a:=a) (b:=b) l d (by simpa using h)
 «strs»:=λk x t v h=>by
  cases k with
  | none=>have:=nD h;cases this
  | some k=>exact(cO prog w).strs k x t v h
def RV{prog:Jz}{w:Kb}{h:Ka}{a:eH}{vs:Ki (aG×iH)}(d:h.DictOf (cO prog w) a vs):h.MapOf (NP prog w) a (λk=>k.bind<|valueAt vs):=by
 obtain⟨o,u,A,e,c,f,i,B,m⟩:=d;refine{o,u,A,e,c,f,λx b=>?_,λk=>?_}
 .obtain⟨k,s,h2⟩:=i x b;exact{Kp k,s,h2}
 .cases k with
  | none=>
   show findBy IP u Kr=Kr;unfold findBy;rw[Ko.find?_eq_none.mpr]
   .rfl
   .intro x b;obtain⟨k,s,_⟩:=i x b;intro z;rw[nD z]at s;have s:kH k .none=true:=s;rw[LY]at s;cases s
  | some k=>
   have q:=(Ka.DictOf.mapOf (knd:=cO prog w) ⟨o,u,A,e,c,f,i,B,m⟩);obtain⟨C,n,r,j,_,l,_,q⟩:=q;rw[e]at j;cases j;rw[f]at l;cases l;exact q k
section
variable{o e f:Kc}{apos cpos:Nc}{td ty tx:TE}
def lK(H:Hp)(a:eH)(y:V)(r:Kj V):Prop:=∃b,Rd H a (.dK b)/\((y=.non/\r=Kr)\/∃k,y=kV k/\r=aF b k)
def uY(td f:TE):TE:=λe H Q=>td e H λx d=>∃a,x=.ref a/\yO d a/\f e d λy b=>∃o,lK b a y o/\Q (o.getD .non) b
def vN(td f h:TE):TE:=λb H Q=>td b H λx e=>∃a,x=.ref a/\yO e a/\f b e λy i=>h b i λz d=>∃o,lK d a y o/\Q (o.getD z) d
def SI(N:X.A.units+1<cLine)(E:PE X o td)(he:PE X e ty)(m:M1 X o "get" apos e cpos):PE X (.Call (.Attribute o "get" apos) [e] [] cpos) (uY td ty):=by
 intro i s σ H Q I h;refine wN m.base m.few m.line yS mG GB<|bA (E i s σ H _ I h) ?_;rintro u J ⟨x,H1,f,r,a,ex,d,C⟩;subst ex;obtain rfl:u=Kz a:=r;obtain⟨M,G,_⟩:=yV f d;exists M,G;rw[m.trees];refine oA rfl<|uZ<|lS<|bA (he i J σ H1 _ f C) λL s2 ⟨y,Z,b,j,W,g,q⟩=>oQ ?_;obtain⟨Y,l,g⟩:=g;obtain⟨rfl,rfl⟩|⟨k,rfl,rfl⟩:=g
 .obtain rfl:L=Mb:=j;obtain⟨z,hd,vs,P,n⟩:=lT b.hok l;exact mQ mG n.typeIs yH (LC _ _) (Xe (NP X.prog X.w) a (k:=Kr) rfl hd) {_,RV n,{.non,Z,b.tok _,U,q}}
 .exact TZ N b (.inl ⟨Y,k,l,rfl,rfl⟩) j λT s3 B O=>⟨_,Z,B,O,q⟩
def Gq(Y:X.A.units+1<cLine)(J:PE X o td)(he:PE X e ty)(O:PE X f tx)(m:M2 X o "get" apos e f cpos):PE X (.Call (.Attribute o "get" apos) [e,f] [] cpos) (vN td ty tx):=by
 intro i s σ H Q I h;refine wN m.base m.few m.line yS mG GB<|bA (J i s σ H _ I h) ?_;rintro u M ⟨x,H1,j,C,a,ex,d,G⟩;subst ex;obtain rfl:u=Kz a:=C;obtain⟨T,L,_⟩:=yV j d;exists T,L;rw[m.trees];refine oA rfl (uZ (lS (bA (he i M σ H1 _ j G) λP s2 ⟨y,H2,E,l,W⟩=>
  lS (bA (O i s2 σ H2 _ E W) λN s3 ⟨z,H3,b,B,ov,g,n⟩=>oQ ?_))))
 obtain⟨kvs,q,g⟩:=g;obtain⟨rfl,rfl⟩|⟨k,rfl,rfl⟩:=g
 .obtain rfl:P=Mb:=l;obtain⟨_,hd,vs,a2,r⟩:=lT b.hok q;exact mQ mG r.typeIs yH (QB _ _ _) (Uc (NP X.prog X.w) a (k:=Kr) rfl hd N) {_,RV r,{z,H3,b.tok _,B,n}}
 .exact TV Y b (.inl ⟨kvs,k,q,rfl,rfl⟩) l B λw' s4 Z a1=>⟨_,H3,Z,a1,n⟩
def zY(td h i:TE):TE:=λe H Q=>td e H λx f=>∃a,x=.ref a/\yO f a/\h e f λy j=>i e j λz d=>∃b k,d a\.dK b/\y=kV k/\↑b<sizeLine/\
 (∀v,aF b k\v->Q v d)/\(aF b k=Kr->Q z (upd d a<|.dK<|aL b k z))
def Bf(M:PE X o td)(he:PE X e ty)(T:PE X f tx)(m:M2 X o "setdefault" apos e f cpos):PE X (.Call (.Attribute o "setdefault" apos) [e,f] [] cpos) (zY td ty tx):=by
 intro l s σ H Q I h;refine wN m.base m.few m.line yS Pp PySem.F.type_dict_setdefault<|bA (M l s σ H _ I h) ?_;rintro u P ⟨x,H1,A,J,a,ex,d,L⟩;subst ex;obtain rfl:u=Kz a:=J;obtain⟨W,N,_⟩:=yV A d;exists W,N;rw[m.trees];refine oA rfl (uZ (lS (bA (he l P σ H1 _ A L) λiv s2 ⟨y,H2,G,Z,q2⟩=>
  lS (bA (T l s2 σ H2 _ G q2) λO s3 ⟨z,H3,i,E,kvs,k,B,ey,hl,Y,g2⟩=>oQ ?_))))
 subst ey;obtain⟨hz,hd,vs,n,C⟩:=zN i.hok B;have b:=n.val k;refine mQ Pp C.typeIs PySem.F.entry_dict_setdefault (PySem.F.args_dict_setdefault_3 _ _ _) (kt_meets_setdefault (cO X.prog X.w) a (kQ Z) hd O) {vs,C,by rw[<-↑n];exact hz,λv j=>?_,λj h' r hs=>?_}
 .rw[j]at b;cases q:aF kvs k with
  | none=>rw[q]at b;exact Mg b
  | some v'=>rw[q]at b;exact{v',H3,i.tok _,b,Y v' q}
 .rw[j]at b;cases q:aF kvs k with
  | some v'=>rw[q]at b;exact Mg b
  | none=>
   have he:∃q,h'.get? a\q:=let ⟨q,_,_,hq,_⟩:=r;⟨q,hq⟩
   have a3:↑(aL kvs k z)<=sizeLine:=by have:=jR kvs k z;lia
   exact{z,_,wH i (by rw[B];exact gP) hs he<|GE a3 hd (n.put k E) r,E,g2 q}
end
def Dx:∀{us:Ki iH},↑a=↑us->(∀(i:Kk) x u,a[i]?\x->us[i]?\u->RelV x u)->Vals a us:=by
 induction a with
 | nil=>intro us hl h;cases us with
  | nil=>exact .nil
  | cons _ _=>simp at hl
 | cons x a d=>intro us hl h;cases us with
  | nil=>simp at hl
  | cons u us=>exact .cons (h 0 x u rfl rfl) (d (by simpa using hl) λi x u e b=>h (i+1) x u (by simpa using e)<|by simpa using b)
def Jw(z:X.calm=Ks):CallR X (.type "list") (λT H Q=>∃p kvs,T=[.ref p]/\Rd H p (.dK kvs)/\∀l,H l=Kr->Q (.ref l) (upd H l<|.lst<|kvs.map λb=>kV b.1)):=by
 intro M s σ H T us Q I r h;obtain⟨p,kvs,rfl,E,q⟩:=h;obtain⟨u,rfl,A⟩:=kR r;cases A;obtain⟨hz,J,hd⟩:=lT I.hok E;obtain⟨o,f⟩:∃o,s.heap.get? p\o:=by obtain⟨vs,_,o,_,_,e,_⟩:=hd;exact⟨o,e⟩
 obtain⟨vs,ep,m,B⟩:=JG f hd;have N:=↑m;refine PySem.W.kdl_call (PySem.W.kdl_dict (knd:=cO X.prog X.w) (kvs:=vs) (ep:=ep) (d:=p) J) (I.ok.hd z) (B _ f) ∅ λh' Z a c' kp e j=>?_
 refine{.ref s⁻¹,_,I.laid (t':=Z) kp (aZ _) (show ObjOk X.prog X.w _ h' _ (.lst<|kvs.map λb=>kV b.1) from ⟨by rw[aK];exact hz,a.toList,c',?_,by simpa using e⟩),U,q _<|I.hok.fresh<|aZ _};refine Dx (by have P:=j.1;have Y:↑a.toList=a.size:=GQ;rw[aK];lia) λi x u P Y=>?_
 obtain⟨k,y,L,G⟩:=j.2 i u (by rw[<-Nz];exact Y);obtain⟨O,C,_⟩:=m.get L;rw[bR,C]at P;cases P;obtain⟨n,t,rfl,rfl⟩|⟨n,t,rfl,rfl⟩:=jT G
 .exact⟨t,rfl⟩
 .exact⟨t,rfl⟩
def WE{prog:Jz}{w:Kb}{A:Kg}{bs:Ki Km}{its:Ki iH}(r:Vals (bs.map V.bl) its):TruthOf prog w A (λi v=>its.toArray[i]?\v) (λi=>bs.getD i Kt):=by
 intro i v s Q E a b;have a:its[i]?\v:=by simpa using a
 have hl:=↑r;rw[aK]at hl;obtain⟨j,_⟩:=ww4.mp a;have d:bs[i]?=Kp bs[i]:=bJ ∅;obtain⟨u,f,h⟩:=r.get (i:=i) (x:=V.bl bs[i]) (by rw[bR,d];rfl);rw[a]at f;cases f;obtain rfl:v=Xr bs[i]:=h;have e:bs.getD i Kt=bs[i]:=by rw[fG,d];rfl
 have b:Q (bs.getD i Kt) s:=b;rw[e]at b;exact sD b
def Bj(bs:Ki Km):(Mx ↑bs).any (λi=>bs.getD i Kt)=bs.any id:=by
 rw[tR];simp only[vk5,Oj]
 constructor
 .rintro⟨i,d,h⟩;exists bs[i],iG d;rw[fG,bJ d]at h;exact h
 .rintro⟨b,a,h⟩;obtain⟨i,d,e⟩:=oE a;exists i,d;rw[fG,bJ d,e];exact h
def ZZ(bs:Ki Km):(Mx ↑bs).all (λi=>bs.getD i Kt)=bs.all id:=by
 rw[tR];simp only[vc8,Oj]
 constructor
 .intro h b a;obtain⟨i,d,e⟩:=oE a;have:=h i d;rw[fG,bJ d,e]at this;exact this
 .intro h i d;rw[fG,bJ d];exact h _<|iG d
def YY(i:X.calm=Ks):CallR X (.builtin "any") (λG H Q=>∃(p:eH)(bs:Ki Km),G=[.ref p]/\SqL X.K H p (bs.map V.bl)/\Q (.bl<|bs.any id) H):=by
 intro w s L H G P Q I r h;obtain⟨p,bs,rfl,C,q⟩:=h;obtain⟨u,rfl,j⟩:=kR r;cases j;obtain⟨E,d,a,N⟩:=I.list C;have hl:=↑d;rw[aK]at hl;obtain⟨o,m,_⟩:=id a.isList;refine call_any_walk<|HW a.isList ?_;have B:p≠s⁻¹:=cP<|cB m;have n:Inv X w L H {s with heap:=s.heap.push {cls:=.type "list_iterator",data:=.fields #[.ref p,.int 0 0]}}:=I.kept (t':=s.toks) λb o e=>bY _ e;refine{_,_,_,_,_,_,_,U,Walks.list (A:=X.A.in1) (I.ok.hd i) _ p B E.toArray,{{_,dQ _ rfl,U,U},a.isList.at λo e=>bY _ e},WE d,λO J f=>?_};rw[cW,<-hl,Bj];refine{.bl _,H,n.turned (t':=J) (λb o l e=>f b o (by simpa using l) e) (I.hok.fresh<|aZ _) (jP I.lt) (.inr I.sz) (λx c e z=>?_) λp M z=>?_,U,q}
 .obtain⟨v,q⟩:=I.cell x c e;exact absurd q.lt (by rw[z];exact jQ _)
 .exact absurd (cB (I.pin p M).1) (by rw[z];exact jQ _)
def Dg(i:X.calm=Ks):CallR X (.builtin "all") (λG H Q=>∃(p:eH)(bs:Ki Km),G=[.ref p]/\SqL X.K H p (bs.map V.bl)/\Q (.bl<|bs.all id) H):=by
 intro w s L H G P Q I r h;obtain⟨p,bs,rfl,C,q⟩:=h;obtain⟨u,rfl,j⟩:=kR r;cases j;obtain⟨E,d,a,N⟩:=I.list C;have hl:=↑d;rw[aK]at hl;obtain⟨o,m,_⟩:=id a.isList;refine call_all_walk<|HW a.isList ?_;have B:p≠s⁻¹:=cP<|cB m;have n:Inv X w L H {s with heap:=s.heap.push {cls:=.type "list_iterator",data:=.fields #[.ref p,.int 0 0]}}:=I.kept (t':=s.toks) λb o e=>bY _ e;refine{_,_,_,_,_,_,_,U,Walks.list (A:=X.A.in1) (I.ok.hd i) _ p B E.toArray,{{_,dQ _ rfl,U,U},a.isList.at λo e=>bY _ e},WE d,λO J f=>?_};rw[cW,<-hl,ZZ];refine{.bl _,H,n.turned (t':=J) (λb o l e=>f b o (by simpa using l) e) (I.hok.fresh<|aZ _) (jP I.lt) (.inr I.sz) (λx c e z=>?_) λp M z=>?_,U,q}
 .obtain⟨v,q⟩:=I.cell x c e;exact absurd q.lt (by rw[z];exact jQ _)
 .exact absurd (cB (I.pin p M).1) (by rw[z];exact jQ _)
def Fv(r:Vals (ss.map Yf) its):StrsAre its ss:=by
 induction ss generalizing its with
 | nil=>cases r;exact .nil
 | cons x ss a=>
  cases r with
  | cons h t=>obtain⟨b,rfl⟩:=h;exact .cons _ _<|a t
def Es(r:StrsAre its ss):Vals (ss.map Yf) its:=by
 induction r with
 | nil=>exact .nil
 | cons _ _ _ a=>exact .cons {_,U} a
def Hh:CallR X (.builtin "sorted") (λE H Q=>∃(p:eH)(ss:Ki zZ),E=[.ref p]/\SqL X.K H p (ss.map Yf)/\↑ss<64/\∀(l:eH)(a:Ki zZ),H l=Kr->a.Perm ss->sortedS a=Ks->Q (.ref l) (upd H l<|.lst<|a.map Yf)):=by
 intro x s L H E M Q I r h;obtain⟨p,ss,rfl,n,z,q⟩:=h;obtain⟨u,rfl,j⟩:=kR r;cases j;obtain⟨A,f,i,B⟩:=I.list n;have hl:=↑f;rw[aK]at hl;refine sorted_strs i.isList (Fv f) ∅ λd a J C m=>?_
 obtain⟨e,G⟩:=sortedAll_at s.heap A d;refine{.ref<|s⁻¹+1,_,I.laid (t':=s.toks) (λb o e=>sortedAll_old e) (kI _) (show ObjOk X.prog X.w _ _ _ (.lst<|a.map Yf) from ⟨?_,d.toList,e,Es J,by simpa [seqObj]using G⟩),U,q _ _ (I.hok.fresh<|kI _) C m};rw[aK,C.length_eq];rw[aK]at B;exact B
def OX(K:Fq):Ki V->Hp->VK->Prop:=λa H Q=>∃x T t b,a=[x,.ty T]/\fK K H x t/\Ud K t (.type T)\b/\Q (.bl b) H
def vE:CallR X (.builtin "isinstance") (OX X.K):=by
 intro d s m H o n Q I r h;obtain⟨x,T,t,b,rfl,f,a,q⟩:=h;cases r with
 | cons i e=>
  cases e with
  | cons j e=>
   cases e;cases (show _=Qy T from j);exact Jn I i f a λl=>{.bl b,H,I.tok _,U,q}
def Cc(I:Kk->Jx->Prop) (G:∀n s,I n s->Kx (Ky prog w) A (Ml it) (λr a=>match r with
   | none=>R (.ok .next) a
   | some v=>Kx (Ky prog w) A (Nd target it v) (λ_ a=>Kx (Ky prog w) A (assign target env v) (λ_ j=>
     Kx (Ky prog w) A (forIn ifs Ks λc r=>if r=Ks then do let ok <-isTrue c env (eval c env);pure (Kw ok) else pure (Kw r)) (λok d=>
      if ok=Ks then Kx (Ky prog w) A (eval kx env) (λf e=>Kx (Ky prog w) A (eval vx env) (λl o=>
       Kx (Ky prog w) A (dictSet DD f l) (λ_ q=>∃m,m<n/\I m q) (λ_ _=>Kn) o) (λ_ _=>Kn) e) (λ_ _=>Kn) d
      else ∃m,m<n/\I m d) (λ_ _=>Kn) j) (λ_ _=>Kn) a) (λ_ _=>Kn) a) (λ_ _=>Kn) s) (n:Kk) (h:I n s):
  Mv (Ky prog w) A (.compLoop (.DictComp kx vx [⟨target,iter,ifs,0⟩] scope pos) 0 it (.ref DD) env) R s:=by
 refine Yc rfl I (λn s B=>?_) n h;show Kx _ A ((compTurn (.DictComp kx vx [⟨target,iter,ifs,0⟩] scope pos) 0 it (.ref DD) env).onRaise (λx=>do noteFrame x env;Wv x)) _ _ s;refine wpAny_noted ?_;rw[compTurn_dict];refine aN<|pC<|aN<|gC (G n s B) (λr a b=>?_) λ_ _ H=>H.elim;cases r with
 | none=>exact bL b
 | some v=>
  refine aN<|gC b (λ_ a b=>?_) λ_ _ H=>H.elim;refine aN<|gC b (λ_ j C=>aN<|gC C (λok d i=>?_) λ_ _ H=>H.elim) λ_ _ H=>H.elim;cases ok with
  | false=>exact bL ⟨rfl,i⟩
  | true=>
   exact aN<|aN<|gC i (λf e u=>aN<|jM<|gC u (λl o E=>aN<|pC<|jM<|gC E (λ_ q z=>bL ⟨rfl,z⟩) λ_ _ H=>H.elim) λ_ _ H=>H.elim) λ_ _ H=>H.elim
def DV(pt:Hp->eH->V->V->(Hp->Prop)->Prop)(J:It)(g:TG)(tt:TT)(n te:TE)(D:eH)(f:St)(H0:Hp)(Q:Hp->Prop):Prop:=
 ∃W:Kk->Kk->St->Hp->Prop,(∃m,W 0 m f H0)/\∀i m j H,W i m j H->
 (J.stop i H/\Q H)\/(J.go i H/\∃N:St->Hp->Prop,(∀d e,N d e->∃m',m'<m/\W (i+1) m' d e)/\∀x e,J.yld i H x e->g x j e λa l=>tt a l λb h=>
  if b=Ks then n a h λr o=>te a o λv s=>pt s D r v λq=>N a q else N a h)
structure zV(X:Cx)(o0:eH->HO)(pt:Hp->eH->V->V->(Hp->Prop)->Prop):Prop where
 new:∀(h:Ka)(H:Hp),Lm<h.objs.size->ObjOk X.prog X.w H (h.push {cls:=.type "dict",data:=.dict #[]}) h.objs.size (o0 h.objs.size)
 put:∀(Y:Cx),Y.prog=X.prog->Y.w=X.w->Y.K=X.K->Y.A=X.A->∀(pins:Ki (eH×Kh))(s:Jx)(σ:St)(H:Hp)(D:eH)(k:V)(u:iH)(v:V)(y:iH)(R:Hp->Prop),Inv Y pins σ H s->RelV k u->RelV v y->pt H D k v R->
  Kx (Ky X.prog X.w) X.A (dictSet D u y) (λ_ s'=>∃H',Inv Y pins σ H' s'/\R H') (λ_ _=>Kn) s
def Jm:Hp->eH->V->V->(Hp->Prop)->Prop:=λH D b v R=>∃a k,b=kV k/\H D\.dK a/\↑a<sizeLine/\R (upd H D<|.dK<|aL a k v)
def ME{X:Cx}:zV X (λ_=>.dK []) Jm where
 new h H z:=PD h z
 put Y e1 e2 e3 e4 pins s σ H D kx u v y R I rk rv h:=by
  obtain⟨j,k,e,a,hl,q⟩:=h;subst e;rw[<-e1,<-e2];obtain⟨z,hd,vs,b,i⟩:=zN I.hok a;have l:↑vs<=sizeLine:=by rw[<-↑b];exact z
  have f:↑(aL j k v)<=sizeLine:=by have:=jR j k v;lia
  refine wpAny_dictSet_pairs (knd:=cO Y.prog Y.w) (hsz:=l) (kQ rk) i λn d m=>?_;exact{_,wH (t':=s.toks+1) I (by rw[a];exact gP) m (let ⟨q,_,_,hq,_⟩:=d;⟨q,hq⟩)<|GE f hd (b.put k rv) d,q}
section
variable{scope:Scope}{N':Ki zZ}{src:Ki (Kj Kk)}{pins:Ki (eH×Kh)}{σ:St}{H2:Hp}{s2:Jx}
def YB{kx vx tg iter:Kc}{aa:Ki Kc}{pos:Nc}{it:eH}{fp:Ki eH}{N:Kk->Ka->Prop}{J:It}{g:TG}{tt:TT}{ah te:TE}{Q:eH->Hp->Prop}
  {RR:iH->eH->Vq->Jx->Prop} {E:Vp} {l:eH->HO} {pt:Hp->eH->V->V->(Hp->Prop)->Prop} (hp:zV X l pt) (hc:X.calm=Ks)
  (B:BlkN X scope N' src) (b2:∀x k,(x,k)∈scope.names->k=.free->∀k',(x,k')∈scope.names->k'=.free) (T:fQ X.prog X.w X.K tg J fp it N) (I:Inv X pins σ H2 s2) (h0:N 0 s2.heap) (G:∀b∈fp,dR X pins H2 b)
  (hg:∀s3 H3 C,PG (dG X scope N' s3 H3 C fp) tg g) (ht:∀s3 H3 C,pZ (dG X scope N' s3 H3 C fp) aa tt) (hk:∀s3 H3 C,PE (dG X scope N' s3 H3 C fp) kx ah) (he:∀s3 H3 C,PE (dG X scope N' s3 H3 C fp) vx te)
  (hw:∀D,H2 D=Kr->DV pt J g tt ah te D (sub src σ) (upd H2 D<|l D) (Q D))
  (hQ:∀D C H' s',C≠D->(∃m,s'.heap.Ns C m)->(∀ae ,Lq C s'.heap ae->Inv X pins σ H' {s' with heap:=ae})->Inv X pins σ H' s'->H' C=Kr->C≠X.env.locals->(∀x c,X.env.cells.lookup x\c->c≠C)->X.s₀⁻¹<=C->(∀p∈X.pn++pins,p.1≠C)->Q D H'->RR (.ref D) C (.ok .next) s'):
  Kx (Ky X.prog X.w) X.A (newDict) (λam P=>Kx (Ky X.prog X.w) X.A (Xc scope X.env.globals (cL X.env scope.names) [] X.env.qual Kr .none<|some X.env) (λa8 s₄=>
   Mv (Ky X.prog X.w) X.A (.compStart (.DictComp kx vx [⟨tg,iter,aa,0⟩] scope pos) 0 (.ref it) am {a8 with scope:=Ub scope X.env}) (RR am a8.locals) s₄) E P) E s2:=by
 have a6:∀y∈scope.names,y.2≠.cell:=λy hy=>cT<|vc8.mp B.nocell y hy;refine lX<|wpAny_newFunctionEnv a6 (by intro y hy;simp at hy) (λY a2 a5=>?_) B.kind;dsimp only at a2 a5 ⊢;have b1:H2 s2⁻¹=none:=I.hok.fresh<|aZ _;have H:Inv X pins σ (upd H2 s2⁻¹<|l s2⁻¹) {s2 with heap:=s2.heap.push {cls:=.type "dict",data:=.dict #[]}}:=
  I.laid (t':=s2.toks) (λb o e=>bY _ e) (aZ _) (hp.new s2.heap _ I.big)
 generalize hH3:(s2.heap.push {cls:=.type "dict",data:=.dict #[]})=f at a2 a5 H ⊢;have a9:f.objs.size=s2⁻¹+1:=by rw[<-hH3,qN]
 have a4:∀b o,s2.heap.get? b\o->f.get? b\o:=λb o e=>by rw[<-hH3];exact bY _ e
 have a1:∀b o,f.get? b\o->Y.get? b\o:=λb o e=>a5.extBut b o (cP<|cB e)<|bY _ e;have a3:s2⁻¹<f.objs.size:=by rw[a9];exact qX _
 have ao:∀b∈fp,dR X pins (upd H2 s2⁻¹<|l s2⁻¹) b:=λb j=>by
  obtain⟨o,e,_⟩:=T.obj _ _ h0 b j;refine{?_,(G b j).2};rw[aC<|cP<|cB e];exact(G b j).1
 have a7:∀b∈fp,b<f.objs.size:=λb j=>by
  obtain⟨o,e,_⟩:=T.obj _ _ h0 b j;exact yL (cB e) a3
 have b7:=XE (fp:=fp) (C:=f.objs.size) (s4:={s2 with heap:=Y,toks:=s2.toks+↑([]:Ki (zZ×iH))}) B H ao a7 b2 rfl a2 a1 rfl rfl;have al:N 0 Y:=T.keep _ _ _ h0 λb j o e=>a1 b o<|a4 b o e;obtain⟨W,⟨m0,w0⟩,ac⟩:=hw s2⁻¹ b1;have ab:∀{H':Hp},(∀b∈fp,H' b=Kr)->∀b∈fp,dR (dG X scope N' {s2 with heap:=f} (upd H2 s2⁻¹<|l s2⁻¹) f.objs.size fp) [] H' b:=λhn b j=>by
  refine{hn b j,cP<|a7 b j,?_,.inl j,λx c h=>(G b j).2.2.2.2.1 x c (B.back I.ok h).1,λp hp=>absurd (show p∈([]:Ki (eH×Kh)) from hp)<|by simp};intro z;obtain y|y:=wx0.mp (H.stkSub b z)
  .exact(G b j).2.1 y
  .exact(G b j).2.2.1 y
 have ax:∀(s':Jx)(a:St)(H':Hp),Inv (dG X scope N' {s2 with heap:=f} (upd H2 s2⁻¹<|l s2⁻¹) f.objs.size fp) [] a H' s'->Q s2⁻¹ H'->RR (.ref s2⁻¹) f.objs.size (.ok .next) s':=λs' a H' M q=>by
  obtain⟨hh,gg,dd,ad,aq⟩:=s';have av:aq=s2.os:=M.os;subst av;have IX:Inv X pins σ H' {({s2 with heap:=f}:Jx)with heap:=hh,gens:=gg,drawn:=dd,toks:=ad}:=Inv.call (s:={s2 with heap:=f}) H (h':=hh) (g':=gg) (d':=dd) (t':=ad) (ch:=fp) M.base M.hok M.bare λb j=>⟨(G b j).2.2.2.1,(G b j).2.1,(G b j).2.2.2.2.1,(G b j).2.2.2.2.2⟩;have bb:s2⁻¹<=f.objs.size:=cX a3;have ap:f.objs.size≠X.env.locals:=jP H.lt;have aj:∀x c,X.env.cells.lookup x\c->c≠f.objs.size:=λx c e z=>by
   obtain⟨v,q⟩:=H.cell x c e;exact absurd (show c<f.objs.size from q.lt) (by rw[z];exact jQ _)
  have ak:∀p∈X.pn++pins,p.1≠f.objs.size:=λp hp z=>by
   have:=cB (H.pin p hp).1;exact absurd (show p.1<f.objs.size from this) (by rw[z];exact jQ _)
  have ag:H' f.objs.size=none:=M.free;obtain⟨m,hm,_⟩:=M.loc;refine hQ _ _ H' _ (jP a3) ⟨m,hm⟩ (λae sb=>?_) IX ag ap aj (hX H.sz<|aZ _) ak q;exact IX.turned (t':=ad) (λb o j e=>(sb.2 b j).trans e) ag ap (.inr<|hX H.sz<|aZ _) aj ak
 have L:∀P:Jx,P={s2 with heap:=Y,toks:=s2.toks+↑([]:Ki (zZ×iH))}->
   Mv (Ky X.prog X.w) X.A (.compLoop (.DictComp kx vx [⟨tg,iter,aa,0⟩] scope pos) 0 (.ref it) (.ref s2⁻¹)<|compEnvC scope (cL X.env scope.names) f.objs.size X.env)
    (RR (.ref s2⁻¹) f.objs.size) P:=by
  rintro P rfl;refine Cc (λn s'=>∃i a H',Inv (dG X scope N' {s2 with heap:=f} (upd H2 s2⁻¹<|l s2⁻¹) f.objs.size fp) [] a H' s'/\N i s'.heap/\(∀b∈fp,H' b=Kr)/\W i n a H') ?_ m0 {0,_,_,b7,al,λb j=>(ao b j).1,w0};rintro n s5 ⟨i,σ5,H5,I5,ai,an,w5⟩;obtain⟨stop,qn⟩|⟨go,Nx,hN,step⟩:=ac i n σ5 H5 w5
  .refine bA (T.done (dG X scope N' {s2 with heap:=f} (upd H2 s2⁻¹<|l s2⁻¹) f.objs.size fp) rfl rfl rfl hc i [] s5 σ5 H5 _ I5 (ab an) ai stop) ?_;rintro r s6 ⟨hr,I6⟩;subst hr;exact ax s6 σ5 H5 I6 qn
  .refine bA (T.item (dG X scope N' {s2 with heap:=f} (upd H2 s2⁻¹<|l s2⁻¹) f.objs.size fp) rfl rfl rfl hc i [] s5 σ5 H5 _ I5 (ab an) ai go) ?_;rintro r s6 ⟨u,hr,h6⟩;subst hr;refine bA h6 ?_;rintro _ s7 ⟨x,H7,I7,r7,y7,af,b5⟩;have au:=I7.pinned (ab b5)<|T.obj _ _ af;refine bA (hg _ _ _ _ s7 σ5 H7 x u _ au r7<|step x H7 y7) ?_;rintro _ s8 ⟨σ8,H8,I8,q8⟩;refine bA (ht _ _ _ _ s8 σ8 H8 _ I8 q8) ?_;rintro ok s9 ⟨H9,I9,q9⟩;have again:∀{σa:St}{O:Hp}{Z:Jx},Inv (dG X scope N' {s2 with heap:=f} (upd H2 s2⁻¹<|l s2⁻¹) f.objs.size fp) ([]++xT fp s7.heap) σa O Z->Nx σa O->
     ∃m,m<n/\∃i a H',Inv (dG X scope N' {s2 with heap:=f} (upd H2 s2⁻¹<|l s2⁻¹) f.objs.size fp) [] a H' Z/\N i Z.heap/\(∀b∈fp,H' b=Kr)/\W i m a H':=λ{σa O Z} Ia na=>by
    obtain⟨m',hm,wa⟩:=hN σa O na;refine{m',hm,i+1,σa,O,Ia.unpinned,T.keep _ _ _ af λb j o e=>(Ia.pin (b,o)<|gS _<|gS _<|xZ j e).1,λb j=>?_,wa};obtain⟨o,e,d⟩:=T.obj _ _ af b j;exact(Ia.pin (b,o)<|gS _<|gS _<|xZ j e).2.1
   cases ok with
   | false=>exact again I9 q9
   | true=>
    refine bA (hk _ _ _ _ s9 σ8 H9 _ I9 q9) ?_;rintro kv az ⟨kk,ar,b6,rk,as⟩;refine bA (he _ _ _ _ az σ8 ar _ b6 as) ?_;rintro y ay ⟨v,b8,b4,aw,b0⟩;refine gC (hp.put (dG X scope N' {s2 with heap:=f} (upd H2 s2⁻¹<|l s2⁻¹) f.objs.size fp) rfl rfl rfl rfl _ ay σ8 b8 _ kk kv v y _ b4 rk aw b0) ?_ λ_ _ h=>h;rintro _ ba ⟨bc,b9,b3⟩;exact again b9 b3
 exact codeAny_compStart_dict (L _ rfl)<|T.self _ 0 _ _ _ al<|L _ rfl
def VR(d:eH->HO)(pt:Hp->eH->V->V->(Hp->Prop)->Prop)(b:TI)(src:Ki (Kj Kk))(g:TG)(tt:TT)(a te:TE):TE:=λσ H Q=>b σ H λJ H2=>∀D,H2 D=Kr->DV pt J g tt a te D (sub src σ) (upd H2 D<|d D) λe=>Q (.ref D) e
def VB{l:eH->HO}{pt:Hp->eH->V->V->(Hp->Prop)->Prop}(hp:zV X l pt)(r:X.calm=Ks)(B:BlkN X scope N' src)(hi:PI X tg iter wi)(L:∀s3 H3 C fp,PG (dG X scope N' s3 H3 C fp) tg g)(M:∀s3 H3 C fp,pZ (dG X scope N' s3 H3 C fp) ifs tt)(i:∀s3 H3 C fp,PE (dG X scope N' s3 H3 C fp) kx tkx)(he:∀s3 H3 C fp,PE (dG X scope N' s3 H3 C fp) vx te)(O:(scope.names.all λy=>decide (y.2=.free->∀z∈scope.names,z.1=y.1->z.2=.free))=true:=by rfl')(hs:∀x,My iter X.env x=pure x:=by intro _;rfl):
  PE X (.DictComp kx vx [⟨tg,iter,ifs,0⟩] scope pos) (VR l pt wi src g tt tkx te):=by
 intro n s σ H Q I h;have Z:∀x k,(x,k)∈scope.names->k=.free->∀e,(x,e)∈scope.names->e=.free:=λx k d i e W=>cT (vc8.mp O (x,k) d) i (x,e) W rfl;have u:Oo scope X.env=pure (cL X.env scope.names):=IT λy j f=>I.ok.has y.1<|cT (vc8.mp B.frees y j) f;have P:∀y∈scope.names,y.2=.local->scope.names.lookup y.1\.local:=λy j=>cT<|vc8.mp B.locs y j;rw[arm_eval_DictComp];refine HU (use:=Kr) rfl hs u B.kind P<|bA (hi n s σ H _ I h) λxv s₁ o=>bA o λab s2 h2=>?_;obtain⟨it,fp,tn,J,H2,rfl,E,T,h0,f,N⟩:=h2;refine YB (RR:=λG C=>Uv (Ky X.prog X.w) X.A X.xe Kr (EP X n σ Q) G C) (Q:=λD H'=>Q (.ref D) H') hp r B Z T E h0 f (λa b c=>L a b c fp) (λa b c=>M a b c fp) (λa b c=>i a b c fp) (λa b c=>he a b c fp) N ?_;intro D C H' s' ac d a5 IX a9 af aa ad ae q;obtain⟨m,d⟩:=d;exact{m,d,λY sb=>{.ref D,H',a5 Y sb,U,q}}
def XS{u:eH->HO}{pt:Hp->eH->V->V->(Hp->Prop)->Prop}(hp:zV X u pt)(hc:X.calm=Ks)(hN:X.N.Nodup)(af:X.N[i]?\y)(f:X.env.scope.names.lookup y\.local)(B:BlkN X scope N' src)(hi:PI X tg iter wi)(hg:∀s3 H3 C fp,PG (dG X scope N' s3 H3 C fp) tg g)(Z:∀s3 H3 C fp,pZ (dG X scope N' s3 H3 C fp) ifs tt)(r:∀s3 H3 C fp,PE (dG X scope N' s3 H3 C fp) kx tkx)(he:∀s3 H3 C fp,PE (dG X scope N' s3 H3 C fp) vx te)(ab:Nb (.DictComp kx vx [⟨tg,iter,ifs,0⟩] scope pos) (Kp<|.Name y py) spos.line X.env=pure true:=by rfl)(ai:(scope.names.all λy=>decide (y.2=.free->∀z∈scope.names,z.1=y.1->z.2=.free))=true:=by rfl')(hs:∀x,My iter X.env x=pure x:=by intro _;rfl):
  PS X (.Assign [.Name y py] (.DictComp kx vx [⟨tg,iter,ifs,0⟩] scope pos) spos) (gG (VR u pt wi src g tt tkx te)<|cJ i):=by
 intro E s σ H D I h;have a4:∀x k,(x,k)∈scope.names->k=.free->∀l,(x,l)∈scope.names->l=.free:=λx k j r l ag=>cT (vc8.mp ai (x,k) j) r (x,l) ag rfl;have a2:Oo scope X.env=pure (cL X.env scope.names):=IT λy f n=>I.ok.has y.1<|cT (vc8.mp B.frees y f) n;have a0:∀y∈scope.names,y.2=.local->scope.names.lookup y.1\.local:=λy f=>cT<|vc8.mp B.locs y f;rw[Uj _ _ _ _ ab];refine aN<|pC<|aN ?_;show Kx _ X.A (do let _ <-comprehension (.DictComp kx vx [⟨tg,iter,ifs,0⟩] scope pos) scope X.env _ (newDict) Kt (eval iter X.env) (Kp<|assign (.Name y py) X.env)) _ _ s;have h':wi σ H λJ H2=>∀d,H2 d=Kr->DV pt J g tt tkx te d (sub src σ) (upd H2 d<|u d) λH'=>D.nx (σ.set i<|some<|.ref d) H':=h;refine aN<|gC (HU (use:=Kp<|assign (.Name y py) X.env) (Q:=λ_ s'=>SP X E D .next s') rfl hs a2 B.kind a0<|bA (hi E s σ H _ I h') λxv s₁ M=>bA M λak s2 h2=>?_) (λ_ s' hq=>bL<|bL hq) λ_ _ e=>e
 obtain⟨it,fp,tn,J,H2,rfl,P,T,h0,n,hw⟩:=h2;refine YB (RR:=λae C=>Uv (Ky X.prog X.w) X.A X.xe (Kp<|assign (.Name y py) X.env) (λ_ s'=>SP X E D .next s') ae C) (Q:=λd H'=>D.nx (σ.set i<|some<|.ref d) H') hp hc B a4 T P h0 n (λa b c=>hg a b c fp) (λa b c=>Z a b c fp) (λa b c=>r a b c fp) (λa b c=>he a b c fp) hw ?_;intro d C H' s' aj j am IX a7 G L aa Y q;obtain⟨m,j⟩:=j;show Kx _ X.A (assign (.Name y py) X.env<|.ref d) _ _ _;refine Qd ?_;refine OR (v:=.ref d) IX hN af (.inl f) rfl (λa8 ad a3=>?_)<|.inr f;obtain⟨a,a9,ha⟩:=a3;have W:C≠a:=by
  rintro rfl;obtain z|z:=ha
  .exact G z
  .exact L _ _ z rfl
 refine{m,j.sameBut a9 W,λal sb=>{_,H',?_,q}};exact ad.turned (t':=a8.toks) (λb o O e=>(sb.2 b O).trans e) a7 G (.inr aa) L Y
end
def EX(hi:Kl)(n:Kk):It:=⟨λi _=>i<n,λi H x a=>a=H/\x=.int (hi-i),λi _=>n<=i⟩
def Ae{P:Jz}{w:Kb}{K:Fq}{tg:Kc}(Y:eH)(hi:Kl)(n:Kk):fQ P w K tg (EX hi n) [Y] Y (λi h=>Re h Y (hi+(i:Kk)*-1) ((n:Kl)-(i:Kk))<|-1) where
 mem:=by simp
 obj:=λi h st b a=>by
  have e:b=Y:=by simpa using a
  subst e;exact{_,st,λv z=>by
   have O:Data.fields _=Wu v:=z;cases O}
 keep:=λi h Z st k=>k Y (by simp) _ st
 item:=by
  intro X x r q f i C s σ H E I d st l;subst x r q;obtain⟨u,m,N,B,A,j⟩:=d Y (by simp);have W:=Walks.range (prog:=X.prog) (w:=X.w) (I.ok.hd f) Y hi (-1) n;refine W.item i s _ _ l st λv Z tk L G J=>?_;obtain⟨t,rfl⟩:=L;have M:Inv X C σ H {s with heap:=Z,toks:=tk}:=I.turned (λb o a e=>J b o (by simpa using a) e) u m B A j;refine{_,U,tX (s:={s with heap:=Z,toks:=tk}) (n:="range_iterator") G rfl rfl (by decide) {.int<|hi-i,H,M,{t,?_},⟨rfl,rfl⟩,G,λb a=>(d b a).1}};have e:hi+(i:Kl)*-1=hi-i:=by lia
  rw[e]
 done:=by
  intro X x r q f i C s σ H E I d st l;subst x r q;obtain⟨u,m,N,B,A,j⟩:=d Y (by simp);exact Tx (I.ok.hd f) st (by have:n<=i:=l;lia) λZ T=>{U,I.turned (t':=s.toks) (λb o a e=>T b o a e) u m B A j}
 self:=λ_ _ _ _ _ st h=>Tz st h
def Di(f:-(2 ^ 30)<=a)(h:a<2 ^ 30)(i:-(2 ^ 30)<=b)(d:b<2 ^ 30):Jy.Range.small a b (-1)=true:=by
 unfold Jy.Range.small;have e:Mw a b (-1)=if a > b then a-b else 0:=by
  unfold Mw;simp only[show ¬((-1:Kl) > 0) by decide,kG,show -(-1:Kl)=1 by decide,Pt]
  split <;> lia
 rw[e];simp only[Jy.Range.rangeFitsLong,pX,Km.or_eq_true,decide_eq_true_eq,beq_iff_eq,show ¬((-1:Kl) > 0) by decide,kG]
 split <;> lia
def AW(b:TA):TI:=λd H R=>b d H λvs a=>∃i j:Kl,vs=[.int i,.int j,.int<|-1]/\(-(2 ^ 30)<=i/\i<2 ^ 30/\-(2 ^ 30)<=j/\j<2 ^ 30)/\R (EX i (i-j).toNat) a
def ZY(A:Gl X "range")(J:X.mg "range"=Kr)(u:PA X [a,b,c] ta)(hs:starEach [a,b,c] X.env=[(Kt,eval a X.env),(Kt,eval b X.env),(Kt,eval c X.env)]:=by rfl)(m:starEach [b,c] X.env=[(Kt,eval b X.env),(Kt,eval c X.env)]:=by rfl):PI X tg (.Call (.Name "range" p) [a,b,c] [] O) (AW ta):=by
 intro n s T H R I h;refine Wa (mV I A J boot_range<|oY (bA (u O n s T H _ I h) λZ d ⟨vs,W,L,w,l⟩=>?_) (by rw[hs,m])<|by rw[m];rfl);obtain⟨i,j,e,⟨l,C,B,G⟩,q⟩:=l;subst e;cases w with
 | cons r N=>
  cases N with
  | cons Y N=>
   cases N with
   | cons P N=>
    cases N;obtain⟨t,rfl⟩:=r;obtain⟨t',rfl⟩:=Y;obtain⟨z,rfl⟩:=P;refine call_range_3 (by decide) ?_ (iL<|PyProof.noPylong_small<|by decide);refine Vh (IsRange.new ..) (Di l C B G) ?_;have f:Inv X n T W {d with heap:=d.heap.push {cls:=.type "range",data:=.fields #[.int i t,.int j t',.int (-1) z]},toks:=d.toks}:=L.kept λb o e=>bY _ e;refine{_,[_],_,_,W,U,f.kept (t':=d.toks) λb o e=>bY _ e,Ae _ i (i-j).toNat,?_,λb x=>?_,q}
    .have M:i+((0:Kk):Kl)*-1=i:=by lia
     have E:(((i-j).toNat:Kk):Kl)-((0:Kk):Kl)=Mw i j (-1):=by
      unfold Mw;simp only[show ¬((-1:Kl) > 0) by decide,kG,show -(-1:Kl)=1 by decide,Pt]
      split <;> lia
     show Re _ _ (i+((0:Kk):Kl)*-1) ((((i-j).toNat:Kk):Kl)-((0:Kk):Kl))<|-1;rw[M,E];exact dQ _ rfl
    .rw[wx1.mp x];exact f.fpOk (aZ _)<|f.hok.fresh<|aZ _
def Cq{hi:Kl}{n:Kk}{g:TG}{q:TS}{D:dY}{f:St}{H:Hp}(a:Kk->St->Hp->Prop)(h0:a 0 f H)
  (hs:∀i f H,i<n->a i f H->g (.int<|hi-i) f H λl o=>q {D with nx:=a<|i+1,ct:=a<|i+1,bk:=D.nx} l o) (hd:∀f H,a n f H->D.nx f H):
  ∃W:Kk->Kk->St->Hp->Prop,(∃m,W 0 m f H)/\∀i m f H,W i m f H->
   ((EX hi n).stop i H/\D.nx f H)\/((EX hi n).go i H/\∃N:St->Hp->Prop,(∀h j,N h j->∃m',m'<m/\W (i+1) m' h j)/\∀x j,(EX hi n).yld i H x j->g x f j λl o=>q {D with nx:=N,ct:=N,bk:=D.nx} l o):=by
 exists λi m f H=>m=n-i/\i<=n/\a i f H,{n,by simp,bW _,h0};rintro i m f H ⟨rfl,hi,p⟩
 by_cases b:i<n
 .refine .inr ⟨b,a<|i+1,λh j d=>⟨n-(i+1),∅,rfl,b,d⟩,λx j y=>?_⟩;obtain⟨e,y⟩:=y;subst e y;exact hs i f _ b p
 .have e:i=n:=by lia
  subst e;exact .inl {aZ _,hd f H p}
def OZ:V->Kj Kl->Kj Kl->Hp->VK->Prop:=λx lo a H Q=>∃z,x=.str z/\↑z<=sizeLine/\Q (.str<|Lk z lo a) H
def RJ:SlR X OZ:=by
 intro r s M H x v B C lo G b Q I o E m d h;obtain⟨z,rfl,N,q⟩:=h;obtain⟨t,rfl⟩:=o;exists "str",_,F.slot_str_getitem.lookup,Vk _ _ _;have a:∀(l u:Kj (Kl×Ye)),s.heap.IsSlice b l u Kr->l.map (·.1)=lo->u.map (·.1)=G->Kx (Ky X.prog X.w) X.A (On (.str z t)<|.ref b) (EP X r M Q) X.xe s:=λl u n e f=>by
  refine wpAny_getItem_str_slice (l:=l) (u:=u) (st:=Kr) n rfl<|post_val_or_str {?_,λO k=>?_}
  .have:=Txt.slice_le z lo G;rw[<-e,<-f]at this;exact hX this N
  .refine⟨.str<|Lk z lo G,H,I.tok _,⟨O,?_⟩,q⟩;rw[<-e,<-f];rfl
 cases m with
 | none=>cases d with
  | none=>exact a Kr Kr E rfl rfl
  | int j J=>exact a Kr (Kp (j,J)) E rfl rfl
 | int i L=>cases d with
  | none=>exact a (Kp (i,L)) Kr E rfl rfl
  | int j J=>exact a (Kp (i,L)) (Kp (j,J)) E rfl rfl
def BQ:R2:=λx y H Q=>∃z n,x=.str z/\y=.int n/\(n=0\/n=1)/\Q (.str<|if n=0 then Qr else z) H
def ZC:OpR X (Mp .Mult) BQ:=by
 intro f s i H x y v u Q I b d h;obtain⟨z,n,rfl,rfl,a,q⟩:=h;obtain⟨t,rfl⟩:=b;obtain⟨j,rfl⟩:=d;refine SB.mul {?_,?_,?_} λe k=>{.str<|Txt.mul z n,H,I.tok _,⟨e,rfl⟩,?_}
 .obtain rfl|rfl:=a <;> decide
 .obtain rfl|rfl:=a
  .intro h;exact absurd (by decide) h
  .intro _ h;simp at h
 .obtain rfl|rfl:=a
  .intro h;exact absurd (by decide) h
  .intro _ h;simp at h
 .obtain rfl|rfl:=a
  .exact q
  .exact q
def sY(K:Fq)(d:Km):R2:=λx y H Q=>∃a b e,x=.ref a/\y=.ref b/\a≠b/\SqL K H a e/\SqL K H b []/\Q (.bl<|e.isEmpty != d) H
def RF(d:X.A.units<cLine):OpR X (Me .Eq) (sY X.K Kt):=by
 intro n s G H x y v u Q I f i h;obtain⟨a,b,L,rfl,rfl,m,B,C,q⟩:=h;cases f;cases i;obtain⟨z,r,p,J⟩:=I.list B;obtain⟨o,l,w,_⟩:=I.list C;cases l;show Kx _ _ (richCompare .Eq (.ref a)<|.ref b) _ _ _;cases r with
 | nil=>exact SeqAt.RcAt.lists (e:=λ_=>Ks) p.isList w.isList rfl d (λj h=>absurd h<|by simp) _ _ _ _ {.bl Ks,H,I,by simp;rfl,q}
 | cons r E=>exact SeqAt.RcAt.lists_lengths p.isList w.isList (by simp) d _ _ _ _ {.bl Kt,H,I,U,q}
def GN(d:X.A.units<cLine):OpR X (Me .NotEq) (sY X.K Ks):=by
 intro n s G H x y v u Q I f i h;obtain⟨a,b,L,rfl,rfl,m,B,C,q⟩:=h;cases f;cases i;obtain⟨z,r,p,J⟩:=I.list B;obtain⟨o,l,w,_⟩:=I.list C;cases l;show Kx _ _ (richCompare .NotEq (.ref a)<|.ref b) _ _ _;cases r with
 | nil=>exact SeqAt.RcNeAt.lists (e:=λ_=>Ks) p.isList w.isList rfl d (λj h=>absurd h<|by simp) _ _ _ _ {.bl Kt,H,I,by simp;rfl,q}
 | cons r E=>exact SeqAt.RcNeAt.lists_lengths p.isList w.isList (by simp) d _ _ _ _ {.bl Ks,H,I,U,q}
def Fa(its:Ki iH):Tk its.toArray Kr Kr (Kp<|-1)=its.reverse.toArray:=by
 unfold Tk;have e:Mo Kr Kr (Kp<|-1) its.toArray.size=((↑its:Kl)-1,-1,-1):=by
  unfold Mo;simp
 rw[e];unfold sliceRange;simp only[show ¬((-1:Kl) > 0) by decide,kG,show -(-1:Kl)=1 by decide,Pt];have h:(if (↑its:Kl)-1 > -1 then(↑its:Kl)-1 - -1 - -1-1 else 0).toNat=↑its:=by split <;> lia
 rw[h]
 congr 1
 rw[Tw];refine Ki.ext_getElem? λi=>?_;have a:∀(n:Kk),n<=↑its->(Mx n).filterMap ((λx=>its.toArray[x]?)∘λ(k:Kk)=>((↑its:Kl)-1+-1*(k:Kl)).toNat)=its.reverse.take n:=by
  intro n
  induction n with
  | zero=>intro _;simp
  | succ n m=>
   intro l;rw[Vb,Ki.filterMap_append,m ∅,eY]
   congr 1
   have f:((↑its:Kl)-1+-1*(n:Kl)).toNat=↑its-1-n:=by lia
   have b:its[↑its-1-n]?=Kp its[↑its-1-n]:=bJ ∅;have j:its.reverse[n]?=Kp its[↑its-1-n]:=by rw[Oc ∅];exact b
   rw[j];have d:((λx=>its.toArray[x]?)∘λ(k:Kk)=>((↑its:Kl)-1+-1*(k:Kl)).toNat) n=Kp its[↑its-1-n]:=by
    show its.toArray[((↑its:Kl)-1+-1*(n:Kl)).toNat]?=_;rw[f];simpa using b
   rw[GU,d];rfl
 rw[a ↑its (aZ _)];rw[fI<|by simp]
def zS(K:Fq)(te:TE)(ts:TE):TE:=λe H Q=>te e H λx f=>ts e f λy b=>y=.int (-1)/\∃a d,x=.ref a/\SqL K b a d/\∀p,b p=Kr->Q (.ref p) (upd b p<|.lst d.reverse)
def LW{e st:Kc}{te ts:TE}{O pos:Nc}(he:PE X e te)(l:PE X st ts):PE X (.Subscript e (.Slice Kr Kr (Kp st) O) pos) (zS X.K te ts):=by
 intro d s M H Q I h;refine Rt<|bA (he d s M H _ I h) ?_;rintro v B ⟨x,Z,z,j,n⟩;refine wpAny_Slice ?_;rw[Tc];refine bL<|bL ?_;refine bA (l d B M Z _ z n) ?_;rintro vs L ⟨y,T,m,C,E,a,Y,ex,G,q⟩;subst E ex;obtain⟨N,rfl⟩:=C;obtain rfl:v=Kz a:=j;have f:Inv X d M T {L with heap:=L.heap.push {cls:=.type "slice",data:=.fields #[.none,.none,.int (-1) N]}}:=m.kept (t':=L.toks) λb u q=>bY _ q;show Kx (Ky X.prog X.w) X.A (Pu e (.Slice Kr Kr (Kp st) O) (.ref a)<|.ref L⁻¹) (EP X d M Q) X.xe {L with heap:=L.heap.push {cls:=.type "slice",data:=.fields #[.none,.none,.int (-1) N]}};obtain⟨P,r,i,W⟩:=f.list G;have J:=↑r;refine Wz (ops:=[.ref a,.ref L⁻¹]) i.isList.typeIs slot_list_getitem.lookup ?_ (by with_unfolding_all rfl);refine Ta i.isList (Ka.IsSliceOf.new ..) .none .none (.int (-1) N) (by simp) ?_ (by rw[cW] <;> lia);rw[Fa];refine{.ref _,_,f.laid (t':=L.toks) (o:=.lst Y.reverse) (λb u q=>bY _ q) (aZ _) ?_,U,q _<|f.hok.fresh<|aZ _};exact{by rw[iR];exact W,_,0,r.reverse,dQ _ rfl}
def Inv.turnedNew{X:Cx}{x:Ki (eH×Kh)}{O:St}{H:Hp}{s:Jx}{h':Ka}{t':Kk}{ch:Ki eH}{xs:Ki V}{its:Ki iH}(I:Inv X x O H s)(i:∀b∈ch,dR X x H b)
  (keep:∀b o,b∉ch->s.heap.get? b\o->h'.get? b\o) (C:h'.get? s⁻¹=Kp {cls:=.type "tuple",data:=.seq its.toArray}) (r:Vals xs its) (hz:↑xs<=sizeLine):
  Inv X x O (upd H s⁻¹<|.tup xs) {s with heap:=h',toks:=t'}:=by
 have B:∀b u,H b\u->b∉ch:=λb u e a=>by
  have:=(i b a).1;rw[this]at e;cases e
 have d:Inv X x O H {s with heap:=h',toks:=t'}:=by
  refine I.step (g':=s.gens) (d':=s.drawn) (ch:=ch) (λb a=>{(i b a).2.2.2.1,(i b a).2.1,(i b a).2.2.2.2.1,(i b a).2.2.2.2.2}) (λb o _ _ f e _=>keep b o f e) (λb o _ _ f e _=>{o.slots,keep b o f e})
   (λ_ _ _ _ n=>n) (λb o f e=>⟨o,keep b o f e⟩) (λ_ _ e=>e) (λ_ _ _ e=>e) (λb T e=>⟨#[],by rw[e];simp⟩) (λm L=>?_) (λb u eq=>?_) I.bare
  .obtain⟨o,es,ep,J,r⟩:=L;exact{o,es,ep,keep _ o (λz=>(i _ z).2.1 rfl) J,r}
  .refine(I.hok b u eq).stay (λc v f q=>keep c v ?_ q) (λ_ q=>q) λ_ _ q=>q;obtain z|z:=f
   .rw[z];exact B b u eq
   .exact B c _ z
 have j:H s⁻¹=none:=I.hok.fresh<|aZ _;have N:=d.base;have A:HOk X.prog X.w (upd H s⁻¹<|.tup xs) h':=by
  intro b z q
  by_cases a:b=s⁻¹
  .subst a;rw[zb1]at q;cases q;exact{{hz,_,C,U},its,r,_,C,U,_,U}
  .rw[aC a]at q;refine(d.hok b z q).stay (λc M _ r=>r) (λc r=>?_) λc xs r=>?_
   .rw[aC<|aQ r j];exact r
   .rw[aC<|aQ r j];exact r
 have old:∀b P,X.s₀.heap.get? b\P->b≠s⁻¹:=λb P e=>cP<|iA (cB e) I.sz;refine{d.ok,d.os,d.bare,{N.keep,N.slot,λb l q n E=>?_,N.there,λb Y q=>?_,λb l y q=>?_,λb T q=>?_},d.loc,d.cell,?_,λy c h=>?_,λp W=>?_,A,d.len}
 .rw[aC<|old b l q];exact N.free b l q n E
 .have:=N.tups b Y q;rw[aC<|aQ this j];exact this
 .have:=N.frzs b l y q;rw[aC<|aQ this j];exact this
 .obtain⟨m,this⟩:=N.tbls b T q;exact{m,by rw[aC<|aQ this j];exact this}
 .rw[aC<|cP I.lt];exact I.free
 .obtain⟨v,q⟩:=I.cell y c h;rw[aC<|cP q.lt];exact I.freeC y c h
 .obtain⟨h1,h2,G⟩:=d.pin p W;have:=cB (I.pin p W).1;exact{h1,by rw[aC<|cP this];exact h2,G}
def Inv.turnedAll{X:Cx}{h:Ki (eH×Kh)}{w:St}{H:Hp}{s:Jx}{h':Ka}{t':Kk}{ch:Ki eH}(I:Inv X h w H s)(d:∀b∈ch,dR X h H b)
  (keep:∀b o,b∉ch->s.heap.get? b\o->h'.get? b\o):Inv X h w H {s with heap:=h',toks:=t'}:=by
 have i:∀b u,H b\u->b∉ch:=λb u e f=>by
  have:=(d b f).1;rw[this]at e;cases e
 refine I.step (g':=s.gens) (d':=s.drawn) (ch:=ch) (λb f=>{(d b f).2.2.2.1,(d b f).2.1,(d b f).2.2.2.2.1,(d b f).2.2.2.2.2}) (λb o _ _ a e _=>keep b o a e) (λb o _ _ a e _=>{o.slots,keep b o a e})
  (λ_ _ _ _ n=>n) (λb o a e=>⟨o,keep b o a e⟩) (λ_ _ e=>e) (λ_ _ _ e=>e) (λb x e=>⟨#[],by rw[e];simp⟩) (λm l=>?_) (λb u eq=>?_) I.bare
 .obtain⟨o,es,ep,j,r⟩:=l;exact{o,es,ep,keep _ o (λz=>(d _ z).2.1 rfl) j,r}
 .refine(I.hok b u eq).stay (λc v a q=>keep c v ?_ q) (λ_ q=>q) λ_ _ q=>q;obtain z|z:=a
  .rw[z];exact i b u eq
  .exact i c _ z
def ItB(tp:Km)(h:Ka)(a l:eH)(k:Kk):Prop:=match tp with | true=>h.IsTupleIter a l k | false=>h.IsListIter a l k
def SeB(tp:Km)(h:Ka)(l:eH)(xs:Ko iH):Prop:=match tp with | true=>h.IsTuple l xs | false=>h.IsList l xs
theorem ItB.at(x:ItB tp h it l k)(e:∀o,h.get? it\o->h'.get? it\o):ItB tp h' it l k:=by
 cases tp with
 | true=>exact Ka.IsTupleIter.at x e
 | false=>exact Qc.at x e
theorem SeB.at(x:SeB tp h l xs)(e:∀o,h.get? l\o->h'.get? l\o):SeB tp h' l xs:=by
 cases tp with
 | true=>obtain⟨o,a,r⟩:=(show h.IsTuple l xs from x);exact{o,e _ a,r}
 | false=>exact Ka.IsList.at x e
def ItB.obj(x:ItB tp h it l k):∃o,h.get? it\o/\∀v,o.data≠.cell v:=by
 cases tp with
 | true=>obtain⟨o,e,c,d⟩:=(show h.IsTupleIter it l k from x);exact{o,e,λv z=>by rw[d]at z;cases z}
 | false=>obtain⟨o,e,c,d⟩:=(show h.IsListIter it l k from x);exact{o,e,λv z=>by rw[d]at z;cases z}
def FF(a:ItB tp s.heap it l k)(hl:SeB tp s.heap l items)(d:items[k]?\x)(e:∀n,ItB tp n it l (k+1)->Lq it s.heap n->Q x {s with heap:=n}):Kx (Ky prog w) A (Lc<|.ref it) Q E s:=by
 cases tp with
 | false=>exact wpAny_nextOf_list_item a hl d e
 | true=>
  have a:s.heap.IsTupleIter it l k:=a;obtain⟨o,b,f,hd⟩:=id a;obtain⟨m,h,_,j,i⟩:=(show s.heap.IsTuple l items from hl);unfold Lc;refine aN<|nR (name:=Mz "__next__") a.typeIs IQ<|lB IQ a.typeIs Rf ?_<|Qv _;show Kx _ _ (Nf (.ref it) 0 >>= _) _ _ s;refine aN<|fO b hd (x:=.ref l) rfl ?_;show Kx _ _ (if (Kz l == Mb)=Ks then _ else _) _ _ s;rw[bC (show ¬((Kz l == Mb)=Ks) from fE)];show Kx _ _ (Nf (.ref it) 1 >>= _) _ _ s;refine aN<|fO b hd (x:=.int k 0) rfl ?_;show Kx _ _ (seqItems? (.ref l) >>= _) _ _ s;refine aN<|kK h i ?_;simp only[EH,d];refine aN<|wpAny_setField b hd (by simp)<|bL {x,U,bL<|e _ (show Ka.IsTupleIter _ it l (k+1) from ?_)<|Lq.update ..};exact{_,CG _ b<|Kh.isFreed_of_fields<|Kh.data_mapFields hd _,(Kh.cls_mapFields ..).trans f,by rw[Kh.data_mapFields hd];simp[Py]}
def MB(f:A.handled=Kr)(b:ItB tp s.heap it l k)(hl:SeB tp s.heap l items)(h:items[k]?=Kr)(i:∀z e,Wt it s.heap z->(∃o,z.get? e\o/\o.cls=.type "StopIteration")->E (.ref e) {s with heap:=z}):Kx (Ky prog w) A (Lc<|.ref it) Q E s:=by
 cases tp with
 | false=>exact wpAny_nextOf_list_end f b hl h i
 | true=>
  have b:s.heap.IsTupleIter it l k:=b;obtain⟨o,d,r,hd⟩:=id b;obtain⟨u,j,_,q,n⟩:=(show s.heap.IsTuple l items from hl);unfold Lc;refine aN<|nR (name:=Mz "__next__") b.typeIs IQ<|lB IQ b.typeIs Rf ?_<|Qv _;show Kx _ _ (Nf (.ref it) 0 >>= _) _ _ s;refine aN<|fO d hd (x:=.ref l) rfl ?_;show Kx _ _ (if (Kz l == Mb)=Ks then _ else _) _ _ s;rw[bC (show ¬((Kz l == Mb)=Ks) from fE)];show Kx _ _ (Nf (.ref it) 1 >>= _) _ _ s;refine aN<|fO d hd (x:=.int k 0) rfl ?_;show Kx _ _ (seqItems? (.ref l) >>= _) _ _ s;refine aN<|kK j n ?_;simp only[EH,h];refine aN<|sN<|aN<|wpAny_setField d hd (by simp) ?_;show Kx _ _ (Xd (.type "StopIteration") [] >>= _) _ _ _;refine aN ?_;simp only[Xd,Xb];refine aN (lX ?_<|by size_fits);refine aN (m:=Pa _ _)<|wpAny_of_eq (a:=Mb) (by first | rfl | (simp only[Pa];rfl)) ?_;refine lX ?_ (by size_fits);simp only[raiseNew];refine aN<|wpAny_handled ?_
  first | rw[show A.in1.handled=Kr from f] | rw[f]
  refine aN<|bL<|wpAny_throw ?_;exact i _ _ (((Lq.update ..).extBut.push _).push _) {_,dQ _ rfl,U}
def UG{p q:Km}{z TI TO f h n B:eH}{k:Kk}{xs ys:Ko iH}{x y a b:iH}{Q:Kj iH->Jx->Prop}(D:Of z TI TO f h n B)
  (hz:Oh s.heap z TI TO .none) (aq:Lz s.heap TI (.ref f) (.ref h)) (ao:Lz s.heap TO a b)
  (h1:ItB p s.heap f n k) (h2:ItB q s.heap h B k) (an:SeB p s.heap n xs) (ak:SeB q s.heap B ys) (hx:xs[k]?\x) (hy:ys[k]?\y)
  (hQ:∀h',Oh h' z TI TO (Py s⁻¹)->Lz h' TO x y->ItB p h' f n (k+1)->ItB q h' h B (k+1)->Lz h' s⁻¹ x y->
   (∀c o,c≠z->c≠TO->c≠f->c≠h->s.heap.get? c\o->h'.get? c\o)->Q (Kp<|.ref s⁻¹) {s with heap:=h'}):
  Kx (Ky prog w) A (Ml<|.ref z) Q E s:=by
 have Y:s.TypeIs (.ref z) "zip":=⟨_,hz,rfl⟩;unfold Ml;refine aN<|vM<|nR (name:=Mz "__next__") Y oX<|lB oX Y Ny ?_<|HC _;show Kx _ _ (Nf (.ref z) 2 >>= _) _ _ _;refine aN<|fO hz rfl (x:=.bool Kt) rfl ?_;show Kx _ _ (Nf (.ref z) 3 >>= _) _ _ _;refine aN<|fO hz rfl (x:=.ref TI) rfl<|aN<|kK aq rfl ?_;show Kx _ _ (Lb (.ref z) >>= _) _ _ _;refine aN ?_;unfold Lb;refine aN<|fO hz rfl (x:=.none) rfl<|bL ?_;simp only[if_true];refine aN<|sN<|aN<|fO hz rfl (x:=.ref TO) rfl<|aN<|mS hz (by simp) λh₁ N i=>?_;replace N:Oh h₁ z TI TO .ellipsis:=N;refine aN ?_;simp only[Um,Va,yQ,Om];refine aN<|aN<|wpAny_onRaise ?_;show Kx _ _ (Lc (.ref f) >>= _) _ _ _;refine aN<|FF (h1.at λo e=>i.extBut _ _ D.i1z e) (an.at λo e=>i.extBut _ _ D.l1z e) hx λh₂ am m=>bL ?_;have Z:Lz h₂ TO a b:=m.extBut _ _ D.TOi1<|i.extBut _ _ D.TOz ao;refine aN<|kK Z rfl<|aN<|wpAny_updateSeq_pair Z λh₃ O l=>?_;replace O:Lz h₃ TO x b:=O;refine aN<|wpAny_letGo<|bL ?_;refine aN<|aN<|wpAny_onRaise ?_;show Kx _ _ (Lc (.ref h) >>= _) _ _ _;refine aN<|FF (h2.at λo e=>l.extBut _ _ D.TOi2.symm<|m.extBut _ _ D.i12.symm<|i.extBut _ _ D.i2z e) (ak.at λo e=>l.extBut _ _ D.l2TO<|m.extBut _ _ D.l2i1<|i.extBut _ _ D.l2z e) hy λh₄ al r=>bL ?_
 have W:Lz h₄ TO x b:=r.extBut _ _ D.TOi2 O;refine aN<|kK W rfl<|aN<|wpAny_updateSeq_pair W λd G u=>?_;replace G:Lz d TO x y:=G;refine aN<|wpAny_letGo<|bL<|bL ?_;refine aN<|kK G rfl<|aN<|wpAny_newTuple ?_;have hsz:d.objs.size=s⁻¹:=by rw[u.1,r.1,l.1,m.1,i.1]
 have ad:Oh d z TI TO .ellipsis:=u.extBut _ _ D.TOz.symm<|r.extBut _ _ D.i2z.symm<|l.extBut _ _ D.TOz.symm<|m.extBut _ _ D.i1z.symm N;have ai:∀c o,c≠z->c≠TO->c≠f->c≠h->s.heap.get? c\o->d.get? c\o:=λc o j C L M e=>
  u.extBut _ _ C (r.extBut _ _ M<|l.extBut _ _ C<|m.extBut _ _ L<|i.extBut _ _ j e)
 have ah:ItB p d f n (k+1):=am.at λo e=>u.extBut _ _ D.TOi1.symm<|r.extBut _ _ D.i12<|l.extBut _ _ D.TOi1.symm e;have ap:ItB q d h B (k+1):=al.at λo e=>u.extBut _ _ D.TOi2.symm e;have P:z<d.objs.size:=cB ad;show Kx _ _ (Wx (.ref z) (.ref d.objs.size) >>= _) _ _ _;refine aN ?_;unfold Wx;have aj:Oh (d.push {cls:=.type "tuple",data:=.seq #[x,y]}) z TI TO .ellipsis:=bY _ ad;refine aN<|mS aj (by simp) λh₇ J ae=>?_;replace J:Oh h₇ z TI TO (Py d.objs.size):=J;refine mS J (by simp) λI H T=>?_
 replace H:Oh I z TI TO (Py d.objs.size):=H;have up:∀c o,c≠z->d.get? c\o->I.get? c\o:=λc o j e=>T.extBut _ _ j<|ae.extBut _ _ j<|bY _ e;have X:Lz I d.objs.size x y:=T.extBut _ _ (jP P)<|ae.extBut _ _ (jP P)<|dQ _ rfl;rw[hsz]at H X;refine bL {_,U,?_};show Kx _ _ (pure<|some<|Kz d.objs.size) _ _ _;refine bL ?_;rw[hsz];exact hQ I H (up _ _ D.TOz G) (ah.at λo e=>up _ o D.i1z e) (ap.at λo e=>up _ o D.i2z e) X λc o j C L M e=>up c o j<|ai c o j C L M e
def WP{p q:Km}{z TI TO m n G M:eH}{k:Kk}{xs ys:Ko iH}{a b:iH}{Q:Kj iH->Jx->Prop}(P:A.handled=Kr)(D:Of z TI TO m n G M)
  (hz:Oh s.heap z TI TO .none) (aj:Lz s.heap TI (.ref m) (.ref n)) (ai:Lz s.heap TO a b)
  (h1:ItB p s.heap m G k) (h2:ItB q s.heap n M k) (ah:SeB p s.heap G xs) (ag:SeB q s.heap M ys) (a7:xs[k]?=Kr\/ys[k]?=Kr)
  (hQ:∀h',(∀c o,c≠z->c≠TO->c≠m->c≠n->s.heap.get? c\o->h'.get? c\o)->Q Kr {s with heap:=h'}):Kx (Ky prog w) A (Ml<|.ref z) Q E s:=by
 have Y:s.TypeIs (.ref z) "zip":=⟨_,hz,rfl⟩;unfold Ml;have d:∀(h':Ka)(e:eH),(∀c o,c≠z->c≠TO->c≠m->c≠n->s.heap.get? c\o->h'.get? c\o)->(∃o,h'.get? e\o/\o.cls=.type "StopIteration")->
   Kx (Ky prog w) A (do if (<-isInstance (.ref e) (.type "StopIteration"))=Ks then pure Kr else throw (.ref e)) Q E {s with heap:=h'}:=λh' e hk he=>by
  obtain⟨o,ho,hc⟩:=he;exact aN<|wpAny_isInstance (T:="StopIteration") (b:=Ks) ⟨o,ho,hc⟩ Rr<|bL<|hQ _ hk
 refine aN<|vM<|nR (name:=Mz "__next__") Y oX<|lB oX Y Ny ?_<|HC _;show Kx _ _ (Nf (.ref z) 2 >>= _) _ _ _;refine aN<|fO hz rfl (x:=.bool Kt) rfl ?_;show Kx _ _ (Nf (.ref z) 3 >>= _) _ _ _;refine aN<|fO hz rfl (x:=.ref TI) rfl<|aN<|kK aj rfl ?_;show Kx _ _ (Lb (.ref z) >>= _) _ _ _;refine aN ?_;unfold Lb;refine aN<|fO hz rfl (x:=.none) rfl<|bL ?_;simp only[if_true];refine aN<|sN<|aN<|fO hz rfl (x:=.ref TO) rfl<|aN<|mS hz (by simp) λC B i=>?_;replace B:Oh C z TI TO .ellipsis:=B;refine aN ?_;simp only[Um,Va,yQ,Om];refine aN<|aN<|wpAny_onRaise ?_;show Kx _ _ (Lc (.ref m) >>= _) _ _ _;have Z:=h1.at (h':=C) λo e=>i.extBut _ _ D.i1z e;have ae:=ah.at (h':=C) λo e=>i.extBut _ _ D.l1z e;cases hx:xs[k]? with
 | none=>
  refine aN<|MB P Z ae hx λH e f he=>?_;obtain⟨I,l,r⟩:=he;have ad:Oh H z TI TO .ellipsis:=f _ _ D.i1z.symm B;have L:e≠z:=λx=>by subst x;rw[ad]at l;cases l;simp at r
  refine mS ad (by simp) λO _ j=>?_
  exact d O e (λc o u _ J _ x=>j.extBut _ _ u<|f _ _ J<|i.extBut _ _ u x) {I,j.extBut _ _ L l,r}
 | some x=>
  have hy:ys[k]?=none:=by obtain h|h:=a7;rw[hx]at h;cases h;exact h
  refine aN<|FF Z ae hx λH ak f=>bL ?_;have X:Lz H TO a b:=f.extBut _ _ D.TOi1<|i.extBut _ _ D.TOz ai;refine aN<|kK X rfl<|aN<|wpAny_updateSeq_pair X λO af j=>?_;refine aN<|wpAny_letGo<|bL ?_;refine aN<|aN<|wpAny_onRaise ?_;show Kx _ _ (Lc (.ref n) >>= _) _ _ _;refine aN<|MB P (h2.at λo e=>j.extBut _ _ D.TOi2.symm<|f.extBut _ _ D.i12.symm<|i.extBut _ _ D.i2z e) (ag.at λo e=>j.extBut _ _ D.l2TO<|f.extBut _ _ D.l2i1<|i.extBut _ _ D.l2z e) hy λh₄ e W he=>?_
  obtain⟨I,l,r⟩:=he;have aa:Oh h₄ z TI TO .ellipsis:=W _ _ D.i2z.symm<|j.extBut _ _ D.TOz.symm<|f.extBut _ _ D.i1z.symm B;have L:e≠z:=λx=>by subst x;rw[aa]at l;cases l;simp at r
  refine mS aa (by simp) λh₅ _ N=>?_
  exact d h₅ e (λc o u c2 J c4 x=>N.extBut _ _ u<|W _ _ c4<|j.extBut _ _ c2<|f.extBut _ _ J<|i.extBut _ _ u x) {I,N.extBut _ _ L l,r}
def jK(K:Fq)(tp:Km)(H:Hp)(a:eH)(xs:Ki V):Prop:=match tp with | true=>SqT K H a xs | false=>SqL K H a xs
def HY(K:Fq)(p q:Km)(a b:eH):It:=
 ⟨λi H=>∃d e x y,jK K p H a d/\jK K q H b e/\d[i]?\x/\e[i]?\y, λi H v f=>∃T x y,H T=Kr/\v=.ref T/\f=upd H T (.tup [x,y])/\(∀d,jK K p H a d->d[i]?\x)/\∀e,jK K q H b e->e[i]?\y, λi H=>∃d e,jK K p H a d/\jK K q H b e/\(↑d<=i\/↑e<=i)⟩
def Inv.seqB(I:Inv X pins σ H s)(h:jK X.K tp H a xs):∃b:Ki iH,Vals xs b/\SeB tp s.heap a b.toArray/\↑xs<=sizeLine:=by
 cases tp with
 | true=>obtain⟨b,r,p,d⟩:=I.tuple h;exact⟨b,r,p,d⟩
 | false=>obtain⟨b,r,p,d⟩:=I.list h;exact{b,r,p.isList,d}
def Inv.seqB_inj(I:Inv X pins σ H s)(h:jK X.K tp H a xs)(h':jK X.K tp H a ys):xs=ys:=by
 cases tp with
 | true=>exact I.tuple_inj h h'
 | false=>exact I.list_inj h h'
def Az{P:Jz}{w:Kb}{K:Fq}{es:Ki Kc}{k:Kk}{pos:Nc}{p q:Km}{z TI TO l m A B:eH}(D:Of z TI TO l m A B):
  fQ P w K (.Tuple es k pos) (HY K p q A B) [z,TI,TO,l,m] z (λi h=>Oh h z TI TO .none/\Lz h TI (.ref l) (.ref m)/\(∃a b,Lz h TO a b)/\ItB p h l A i/\ItB q h m B i) where
 mem:=by simp
 obj:=λi h st b d=>by
  obtain⟨hz,f,⟨a,c,j⟩,h1,h2⟩:=st;simp only[wx0,bB,dO]at d;obtain rfl|rfl|rfl|rfl|rfl:=d
  .exact⟨_,hz,λv e=>by
    have r:Data.fields _=Wu v:=e;cases r⟩
  .exact⟨_,f,λv e=>by
    have r:Data.seq _ _=Wu v:=e;cases r⟩
  .exact⟨_,j,λv e=>by
    have r:Data.seq _ _=Wu v:=e;cases r⟩
  .exact h1.obj
  .exact h2.obj
 keep:=λi h h' st kp=>by
  obtain⟨hz,f,⟨a,c,j⟩,h1,h2⟩:=st;exact{kp z (by simp) _ hz,kp TI (by simp) _ f,{a,c,kp TO (by simp) _ j},h1.at λo e=>kp l (by simp) o e,h2.at λo e=>kp m (by simp) o e}
 item:=by
  intro X T hw N hc i a3 s σ H E I C st Z;subst T hw N;obtain⟨xs,ys,x,y,L,G,u,hy⟩:=Z;obtain⟨hz,f,⟨a,c,j⟩,h1,h2⟩:=st;obtain⟨ab,W,p1,_⟩:=I.seqB L;obtain⟨a8,O,p2,_⟩:=I.seqB G;obtain⟨u1,aj,ak⟩:=W.get u;obtain⟨u2,al,ai⟩:=O.get hy;have lt:∀{c o},s.heap.get? c\o->s⁻¹≠c:=λe=>jP<|cB e;refine UG D hz f j h1 h2 p1 p2 (x:=u1) (y:=u2) (by simpa using aj) (by simpa using al) λh' ag a9 ah am hT J=>?_
  refine{_,U,wpAny_letOwnedTupleGo_zip (s:={s with heap:=h'}) ag λM ad n=>?_};have af:M.get? s⁻¹=Kp {cls:=.type "tuple",data:=.seq [u1,u2].toArray}:=n.extBut _ _ (lt hz) hT;have keep:∀b o,b∉[z,TI,TO,l,m]->s.heap.get? b\o->M.get? b\o:=λb o d e=>
   n.extBut _ _ (λx=>d<|by simp[x]) (J b o (λx=>d<|by simp[x]) (λx=>d<|by simp[x]) (λx=>d<|by simp[x]) (λx=>d<|by simp[x]) e)
  have I1:Inv X a3 σ (upd H s⁻¹<|.tup [x,y]) {s with heap:=M}:=I.turnedNew (t':=s.toks) C keep af (.cons ak<|.cons ai .nil) (by show 2<=sizeLine;decide);refine{.ref s⁻¹,_,I1,U,{_,x,y,I.hok.fresh<|aZ _,U,U,λae Y=>by rw[I.seqB_inj Y L];exact u,λae Y=>by rw[I.seqB_inj Y G];exact hy},
   {ad,n.extBut _ _ D.TIz<|J _ _ D.TIz D.TITO D.TIi1 D.TIi2 f,{_,_,n.extBut _ _ D.TOz a9},ah.at λo e=>n.extBut _ _ D.i1z e,am.at λo e=>n.extBut _ _ D.i2z e},λb d=>?_}
  obtain⟨o,e,_⟩:∃o,s.heap.get? b\o/\True:=by
   simp only[wx0,bB,dO]at d;obtain rfl|rfl|rfl|rfl|rfl:=d
   .exact⟨_,hz,trivial⟩
   .exact⟨_,f,trivial⟩
   .exact⟨_,j,trivial⟩
   .obtain⟨o,e,_⟩:=h1.obj;exact⟨o,e,trivial⟩
   .obtain⟨o,e,_⟩:=h2.obj;exact⟨o,e,trivial⟩
  rw[aC<|bS<|lt e];exact(C b d).1
 done:=by
  intro X T hw N hc i a3 s σ H E I C st Z;subst T hw N;obtain⟨xs,ys,L,G,u⟩:=Z;obtain⟨hz,f,⟨a,c,j⟩,h1,h2⟩:=st;obtain⟨ab,W,p1,_⟩:=I.seqB L;obtain⟨a8,O,p2,_⟩:=I.seqB G;have A:=W.length;have B:=O.length;refine WP (I.ok.hd hc) D hz f j h1 h2 p1 p2 ?_ λh' J=>{U,I.turnedAll (t':=s.toks) C λb o d e=>J b o (λx=>d<|by simp[x]) (λx=>d<|by simp[x]) (λx=>d<|by simp[x]) (λx=>d<|by simp[x]) e}
  obtain h|h:=u
  .exact .inl (DW<|by simp;lia)
  .exact .inr (DW<|by simp;lia)
 self:=λ_ _ _ _ _ st h=>wpAny_pyIter_zip st.1 h
abbrev CM(h:Ka)(l1:eH):Ka:=h.push {cls:=.type "tuple_iterator",data:=.fields #[.ref l1,.int 0 0]}
abbrev IF(h:Ka)(l1 l2:eH):Ka:=(CM h l1).push {cls:=.type "tuple_iterator",data:=.fields #[.ref l2,.int 0 0]}
abbrev ID(h:Ka)(l1 l2:eH):Ka:=(IF h l1 l2).push {cls:=.type "tuple",data:=.seq #[.ref h.objs.size,.ref (CM h l1).objs.size]}
abbrev GP(h:Ka)(l1 l2:eH):Ka:=(ID h l1 l2).push {cls:=.type "tuple",data:=.seq #[.none,.none]}
abbrev xQ(h:Ka)(l1 l2:eH):Ka:=(GP h l1 l2).push {cls:=.type "zip",data:=.fields #[.none,.bool Kt,.bool Kt,.ref (IF h l1 l2).objs.size,.ref (ID h l1 l2).objs.size]}
def Gi(a b:eH)(xs ys:Ko iH):
  Meets (Jy.«zip.__new__» ⟨[.type "zip",.ref a,.ref b],[]⟩) (λ_ R s=>s.heap.IsTuple a xs/\s.heap.IsTuple b ys/\R (.ok<|.ret<|.ref (GP s.heap a b).objs.size) {s with heap:=xQ s.heap a b}):=
 .of_wp λprog w A R s h=>by
  obtain⟨q,g,d,n,os⟩:=s;obtain⟨j,f,h⟩:=h;have m:=sub_zip;have e:Vx (Jx.heap ⟨q,g,d,n,os⟩) a xs:=j;have l:Vx (Jx.heap ⟨q.push {cls:=.type "tuple_iterator",data:=.fields #[.ref a,.int 0 0]},g,d,n,os⟩) b ys:=by
   obtain⟨o,i,r⟩:=f;exact{o,bY _ i,r}
  wp_walk using Px e,Px l
  exact{_,U,h}
def Bp(q:s.heap.IsTuple l1 xs)(r:s.heap.IsTuple l2 ys) (h:∀u,Oh u (s⁻¹+4) (s⁻¹+2) (s⁻¹+3) .none->Lz u (s⁻¹+2) (.ref s⁻¹) (.ref<|s⁻¹+1)-> Lz u (s⁻¹+3) .none .none->u.IsTupleIter s⁻¹ l1 0->u.IsTupleIter (s⁻¹+1) l2 0->
   (∀c o,s.heap.get? c\o->u.get? c\o)->Q (.ref<|s⁻¹+4) {s with heap:=u}):
  Kx (Ky prog w) A (call (.type "zip") [.ref l1,.ref l2]) Q E s:=by
 refine Yd F.called_zip (by decide) (F.typeCall_zip_2 _ _) (F.newCall_zip_2 _ _) (λobj=>F.args_object_init_3 obj _ _) F.entry_zip_new (Gi l1 l2 xs ys) {q,r,?_};have a:(CM s.heap l1).objs.size=s⁻¹+1:=qN ..;have d:(IF s.heap l1 l2).objs.size=s⁻¹+2:=by rw[qN,a]
 have f:(ID s.heap l1 l2).objs.size=s⁻¹+3:=by rw[qN,d]
 have m:(GP s.heap l1 l2).objs.size=s⁻¹+4:=by rw[qN,f]
 have up:∀c o,(CM s.heap l1).get? c\o->(xQ s.heap l1 l2).get? c\o:=λc o e=>bY _<|bY _<|bY _<|bY _ e;have b:(xQ s.heap l1 l2).get? (GP s.heap l1 l2).objs.size\_:=dQ _ rfl;have i:(xQ s.heap l1 l2).get? (ID s.heap l1 l2).objs.size\_:=bY _<|dQ _ rfl;have j:(xQ s.heap l1 l2).get? (IF s.heap l1 l2).objs.size\_:=bY _<|bY _<|dQ _ rfl;have l:(xQ s.heap l1 l2).get? (CM s.heap l1).objs.size\_:=bY _<|bY _<|bY _<|dQ _ rfl;have n:(xQ s.heap l1 l2).get? s⁻¹\_:=up _ _<|dQ _ rfl;show _/\_;rw[d,f,m]at b;rw[a,d]at j;rw[f]at i;rw[a]at l;rw[m];exact{{_,b,U},h _ b j i {_,n,U,U} {_,l,U,U} λc o x=>up c o<|bY _ x}
def LP(K:Fq)(p:Km)(f:TA):TI:=λh H R=>f h H λvs d=>∃a b e i,vs=[.ref a,.ref b]/\jK K p d a e/\jK K p d b i/\R (HY K p p a b) d
theorem boot_zip:Mi "zip"\.type "zip":=by first | exact PySem.boot_zip | rfl'
def PP{X:Cx}{p:Km}{es:Ki Kc}{k:Kk}{u:Nc}{a b:Kc}{ta:TA}{Z pos:Nc}(N:Gl X "zip")(P:X.mg "zip"=Kr)(W:PA X [a,b] ta)
  (hs:starEach [a,b] X.env=[(Kt,eval a X.env),(Kt,eval b X.env)]:=by rfl) (J:starEach [b] X.env=[(Kt,eval b X.env)]:=by rfl):
  PI X (.Tuple es k u) (.Call (.Name "zip" Z) [a,b] [] pos) (LP X.K p ta):=by
 intro L s σ H R I h;refine Wa (mV I N P boot_zip<|oY (bA (W pos L s σ H _ I h) λus d ⟨vs,H1,i,M,O⟩=>?_) (by rw[hs,J])<|by rw[J];rfl);obtain⟨B,C,xs,ys,e,Y,T,q⟩:=O;subst e;cases M with
 | cons r rr=>
  cases rr with
  | cons r' rr=>
   cases rr;cases r;cases r';obtain⟨a9,ac,n,_⟩:=i.seqB Y;obtain⟨ab,ad,p2,_⟩:=i.seqB T;have z:∀{tp:Km}{l:eH}{its:Ko iH},SeB tp d.heap l its->l<d⁻¹:=λ{tp l its} h=>by
    cases tp with
    | true=>obtain⟨o,e,_⟩:=(show d.heap.IsTuple l its from h);exact cB e
    | false=>obtain⟨o,e,_⟩:=(show d.heap.IsList l its from h);exact cB e
   have D:Of (d⁻¹+4) (d⁻¹+2) (d⁻¹+3) d⁻¹ (d⁻¹+1) B C:=Xu (z n)<|z p2;have E:∀h',Oh h' (d⁻¹+4) (d⁻¹+2) (d⁻¹+3) .none->Lz h' (d⁻¹+2) (.ref d⁻¹) (.ref<|d⁻¹+1)->
     Lz h' (d⁻¹+3) .none .none->ItB p h' d⁻¹ B 0->ItB p h' (d⁻¹+1) C 0->(∀c o,d.heap.get? c\o->h'.get? c\o)->
     Kx (Ky X.prog X.w) X.A (Vm<|.ref<|d⁻¹+4) (MX X L σ (.Tuple es k u) R) X.xe {d with heap:=h'}:=λh' hz j m h1 h2 f=>by
    refine wpAny_pyIter_zip (s:={d with heap:=h'}) hz ?_;refine{_,_,_,_,H1,U,i.kept (t':=d.toks) f,Az D,{hz,j,{_,_,m},h1,h2},λb x=>?_,q};have G:d⁻¹<=b:=by
     simp only[wx0,bB,dO]at x;obtain rfl|rfl|rfl|rfl|rfl:=x
     .exact DM _ _
     .exact DM _ _
     .exact DM _ _
     .exact aZ _
     .exact DM _ _
    exact i.fpOk G<|i.hok.fresh G
   cases p with
   | true=>exact Bp n p2 λh' hz j m h1 h2 f=>E h' hz j m h1 h2 f
   | false=>exact call_zip_2 n p2 λh' hz j m h1 h2 _ f=>E h' hz j m h1 h2 f
def ZT:Nh (.type "list") "keys"=pure none:=by rw[pY,rK];kernel_rfl
def Cf(l:s.heap.get? a\o)(m:o.cls=.type "list")(n:o.data=.seq xs k)(hd:o.dict=Kr)(r:A.handled=Kr)(h:∀J L,(∀b M,s.heap.get? b\M->J.get? b\M)->Q Kr {s with heap:=J,toks:=L}):
  Kx (Ky prog w) A (getAttr? (.ref a) "keys") Q E s:=by
 obtain⟨c,u,z,q⟩:=o;simp only at m n hd;subst m n hd;obtain⟨N,g,d,L,os⟩:=s;have i:∀f,(⟨N,g,d,f,os⟩:Jx).TypeIs (.ref a) "list":=λ_=>⟨_,l,rfl⟩;have B:=sub_AttributeError;have G:=vs5.lookup;have C:=vs5.bind<|.ref a;have x:=am_list_getattr_none;unfold getAttr? getAttrBy? getAttrBy
 repeat (any_goals (first | assumption | exact i _ | ((with_reducible show Kx _ _ (call (iH.builtin "list.__getattribute__") _ _) _ _ _);refine vC vs5 (i _) am_entry_list_getattribute (F.args_list_getattribute_2 _ _) (meets_getattribute_miss_list a xs k q "keys" _ ZT (by decide)<|by size_fits) {l,r,λJ f e j=>?_}) | wp_step))
 obtain⟨P,H,O⟩:=j.there;show Kx _ _ (Vn _ _ _ _ _ _ _) _ _ _;unfold Vn
 repeat (any_goals (first | assumption | wp_step))
 exact h J f j.of.keeps
def HB:plainId "dict.update.loop"=true:=by rfl'
def UO:Uu Xa "dict.update.loop"=Kp Jy.«dict.update.loop»:=entryFor_of_fast (by kernel_rfl)
def Af(h:Ka)(its:Ki iH)(kvs:Ki (aG×V)):Prop:=↑its=↑kvs/\∀(j:Kk) p,kvs[j]?\p->∃T b a,its[j]?\.ref T/\h.IsTuple T #[b,a]/\kH p.1 b=Ks/\RelV p.2 a
def SN{kvs:Ki (aG×V)}{j:Kk}{p:aG×V}(h:kvs[j]?\p):cM [] (kvs.take<|j+1)=aL (cM []<|kvs.take j) p.1 p.2:=by
 unfold cM;rw[eY,h,AC];rfl
def Da{prog:Jz}{w:Kb}{A:Kg}{R:Vq->Jx->Prop}{D it l:eH}{its:Ki iH}{kvs:Ki (aG×V)}(hh:A.handled=Kr)(O:l≠D)(ak:l≠it)(B:D≠it)(hz:↑kvs<sizeLine):
  ∀(n j:Kk)(s:Jx)(vs:Ki (aG×iH)),↑kvs-j=n->j<=↑kvs->s.heap.IsListIter it l j->s.heap.IsList l its.toArray->Af s.heap its kvs->(∀T,Kz T∈its->T≠D/\T≠it)->
  s.heap.DictOf (cO prog w) D vs->KV (cM []<|kvs.take j) vs->
  (∀h' tk f,h'.DictOf (cO prog w) D f->KV (cM [] kvs) f->(∀b o,b≠D->b≠it->s.heap.get? b\o->h'.get? b\o)->R (.ok<|.ret .none) {s with heap:=h',toks:=tk})->
  Mv (Ky prog w) A (.builtin "dict.update.loop" ⟨[.ref D,.ref it,Py j,.none],[]⟩) R s:=by
 intro n
 induction n with
 | zero=>
  intro j s vs hn X C hl hp d hd a E;have e:j=↑kvs:=by lia
  subst e;refine Ou UO ?_;rw[HQ HB _];show Kx _ A.in1 (Ml (.ref it) >>= _) _ _ s;refine aN<|wpAny_pyNext_list_end (A:=A.in1) hh C hl (by simp[hp.1]) λh' N=>?_;show Kx _ A.in1 (Jy.Dict.addKeywords D [] >>= _) _ _ _;refine aN<|bL<|bL<|E h' s.toks vs ?_ ?_ λb o h1 h2 e=>N b o h2 e
  .exact hd.at λo e=>N D o B e
  .rw[fI<|aZ _]at a;exact a
 | succ n ih=>
  intro j s vs hn X C hl hp d hd a E;have i:j<↑kvs:=by lia
  obtain⟨T,m,u,hi,P,a7,rv⟩:=hp.2 j kvs[j]<|bJ i;obtain⟨an,ae⟩:=d T<|dC hi;refine Ou UO ?_;rw[HQ HB _];show Kx _ A.in1 (Ml (.ref it) >>= _) _ _ s;refine aN<|wpAny_pyNext_list_item (A:=A.in1) C hl (x:=.ref T) (by simpa using hi) λh' a6 q=>?_;have G:h'.IsTuple T #[m,u]:=by obtain⟨o,e,r⟩:=P;exact{o,q.extBut _ _ ae e,r}
  have ai:h'.DictOf (cO prog w) D vs:=hd.at λo e=>q.extBut _ _ B e;obtain⟨ot,M,ec,nt,ed⟩:=id G;have ad:↑vs<=sizeLine:=by
   have h1:=↑a;have h2:=EE (kvs.take j) [];rw[eS]at h2;simp at h2;lia
  show Kx _ A.in1 (holding [.ref T] _ >>= _) _ _ {s with heap:=h'};refine aN<|jM<|aN<|wpAny_tryCatch ?_;unfold Jy.Dict.pairItems;refine aN<|wpAny_typeOf (T:="tuple") ⟨ot,M,ec⟩ ?_;rw[bF<|by decide];refine aN<|kK M ed<|bL ?_;show Kx _ A.in1 (holding [m,u]<|dictSet D m u) _ _ _;refine jM<|wpAny_dictSet_pairs (knd:=cO prog w) (k:=kvs[j].1) (hsz:=ad) a7 ai λh2 ag I=>?_;refine bL {Pv HB _,?_};have z:∀b o,b≠D->b≠it->s.heap.get? b\o->h2.get? b\o:=λb o h1 h e=>I.extBut _ _ h1<|q.extBut _ _ h e;refine ih (j+1) {s with heap:=h2,toks:=s.toks+1} _ ∅ i (a6.at λo e=>I.extBut _ _ (bS B) e) (hl.at λo e=>z l o O ak e) {hp.1,λY p ab=>?_} d ag ?_ λh tk f af aj kk=>?_
  .obtain⟨H,W,am,L,G,a1,al⟩:=hp.2 Y p ab;obtain⟨Z,q2⟩:=d H<|dC L;obtain⟨o,e,r⟩:=G;exact{H,W,am,L,{o,z _ _ Z q2 e,r},a1,al}
  .rw[SN<|bJ i];exact a.put _ rv
  .exact E h tk f af aj λb o h1 J e=>kk b o h1 J<|z b o h1 J e
def vQ(K:Fq):Ki V->Hp->VK->Prop:=λe H Q=>∃(p:eH)(d:Ki eH)(a:Ki (aG×V)),e=[.ref p]/\SqL K H p (d.map Yg)/\↑d=↑a/\↑a<sizeLine/\
 (∀(j:Kk) t b,d[j]?\t->a[j]?\b->SqT K H t [kV b.1,b.2])/\∀l,H l=Kr->Q (.ref l) (upd H l<|.dK<|cM [] a)
def yJ(O:X.calm=Ks):CallR X (.type "dict") (vQ X.K):=by
 intro ag s σ H xs us Q I r h;obtain⟨p,ts,kvs,rfl,hq,ah,aj,a5,q⟩:=h;obtain⟨u,rfl,rx⟩:=kR r;cases rx;obtain⟨its,Z,z,hz⟩:=I.list hq;obtain⟨E,nl,ad,M,a4,al⟩:=id z;have Y:p<s⁻¹:=cB ad;have as:↑its=↑ts:=by have:=Z.length;rw[aK]at this;exact this.symm
 have G:∀(j:Kk) t,ts[j]?\t->its[j]?\.ref t:=λj t e=>by
  obtain⟨u,hu,ru⟩:=Z.get (i:=j) (x:=Yg t) (by rw[bR,e];rfl);cases ru;exact hu
 refine Xh (Q₁:=λobj J=>obj=.ref s⁻¹/\J={s with heap:=s.heap.push {cls:=.type "dict",data:=.dict #[]}}) F.kt_called_dict (F.kt_typeCall_dict_1 _) F.entry_dict_init (kt_code_dict_new _ ⟨rfl,rfl⟩) ?_;rintro obj J ⟨rfl,rfl⟩;have n:(s.heap.push {cls:=.type "dict",data:=.dict #[]}).DictOf (cO X.prog X.w) s⁻¹ []:=Ka.DictOf.new s.heap;exists n.typeIs,F.args_dict_init_2 _ _;unfold Jy.«dict.__init__»;refine aN ?_;unfold Jy.Dict.selfAndRest;refine aN<|wpAny_notOrdered_dict n.typeIs ?_;show Kx _ _ (pure (s⁻¹,[Kz p])) _ _ _;refine bL ?_;show Kx _ _ (Jy.Dict.updateFrom "dict.__init__" s⁻¹ (.ref p) [] .none) _ _ _;unfold Jy.Dict.updateFrom;have ab:(s.heap.push {cls:=.type "dict",data:=.dict #[]}).get? p\E:=bY _ ad;refine aN<|wpAny_typeOf (T:="list") ⟨E,ab,M⟩ ?_;rw[bF<|by decide];refine aN<|Cf (A:=X.A.in1.in1) ab M al a4 (I.ok.hd O) λh2 ai B=>?_;show Kx _ _ (rule _ >>= _) _ _ _;refine aN<|sN ?_;have a1:∀b o,s.heap.get? b\o->h2.get? b\o:=λb o e=>B b o<|bY _ e;have N:h2.IsList p its.toArray:=z.isList.at λo e=>a1 p o e;have af:h2.DictOf (cO X.prog X.w) s⁻¹ []:=n.at λo e=>B _ o e;have m:s⁻¹<h2.objs.size:=by obtain⟨_,_,_,e,_⟩:=af;exact cB e
 refine aN<|HW (s:={s with heap:=h2,toks:=ai}) N<|bL {Pv HB _,?_};have W:∀b o,s.heap.get? b\o->(h2.push {cls:=.type "list_iterator",data:=.fields #[.ref p,.int 0 0]}).get? b\o:=λb o e=>bY _<|a1 b o e;have C:∀(j:Kk) t,ts[j]?\t->t<s⁻¹/\∃l kvv vv,kvs[j]?\l/\s.heap.IsTuple t #[kvv,vv]/\kH l.1 kvv=Ks/\RelV l.2 vv:=λj t e=>by
  obtain⟨f,_⟩:=ww4.mp e;have L:kvs[j]?=Kp kvs[j]:=bJ ∅;obtain⟨au,rt,pt,_⟩:=I.tuple<|a5 j t _ e L;cases rt with
  | cons r1 rr=>
   cases rr with
   | cons r2 rr=>
    cases rr;obtain⟨o,eo,rest⟩:=id pt;exact{cB eo,_,_,_,L,pt,kQ (P:=X.prog) (w:=X.w) r1,r2}
 refine Da (A:=X.A.in1) (I.ok.hd O) (its:=its) (kvs:=kvs) (cP Y) (cP<|yL Y m) (cP m) aj ↑kvs 0 _ [] (by simp) (bW _) {_,dQ _ rfl,U,U} (N.at λo e=>bY _ e) {∅,λj l f=>?_} (λT hT=>?_)
  (af.at λo e=>bY _ e) .nil λh' tk ak am an kk=>?_
 .obtain⟨aq,_⟩:=ww4.mp f;have d:ts[j]?=Kp ts[j]:=bJ ∅;obtain⟨_,ar,a,b,h1,ap,h3,h4⟩:=C j _ d;rw[f]at h1;cases h1;obtain⟨o,e,r⟩:=ap;exact{_,a,b,G j _ d,{o,W _ _ e,r},h3,h4}
 .obtain⟨j,f,e⟩:=oE hT;have d:ts[j]?=Kp ts[j]:=bJ ∅;have:=G j _ d;rw[bJ f,e]at this;cases this;have:=(C j _ d).1;exact{cP this,cP<|yL this m}
 .refine⟨rfl,⟨.ref s⁻¹,_,?_,rfl,q _<|I.hok.fresh<|aZ _⟩⟩;have ao:↑(cM [] kvs)<=sizeLine:=by
   have:=EE kvs [];simp at this;lia
  have a8:(s⁻¹ == Lm)=false:=by
   have:=I.big;simpa using jP this
  exact I.laid (t':=tk) (o:=.dK<|cM [] kvs) (λb o e=>kk b o (cP<|cB e) (cP<|yL (cB e) m)<|W b o e) (aZ _) ⟨ao,a8,ak,an,am⟩
section
variable{tg:Kc}
end
abbrev wQ(h:Ka)(z TI TO T:eH)(f:Km):Prop:=
 h.get? z=Kp {cls:=.type "zip",dict:=Kr,data:=.fields #[Py T,.bool f,.bool Kt,.ref TI,.ref TO],slots:=#[]}
section
variable{R:Vq->Jx->Prop}
def XF{z TI TO T:eH}{f:Km}{i:Kh}{Q:Km->Jx->Prop}(hz:wQ s.heap z TI TO T f)(b:s.heap.get? T\i)
  (h:∀a,wQ a z TI TO T Ks->Lq z s.heap a->Q Kt {s with heap:=a}):Kx (Ky prog w) A (Lb<|.ref z) Q E s:=by
 unfold Lb;refine aN<|fO hz rfl (x:=Py T) rfl ?_;show Kx _ _ (loadIfAlive ((T:Kl).toNat) >>= _) _ _ _;rw[EH];refine aN<|PySem.W.kdx_alive b ?_;show Kx _ _ (Nf (.ref z) 1 >>= _) _ _ s;refine aN<|fO hz rfl (x:=.bool f) rfl ?_;cases f with
 | true=>exact bL<|h s.heap hz<|Lq.refl _ _
 | false=>exact aN<|mS hz (by simp) λa d e=>bL<|h a d e
def Eu{z TI TO a b i j T:eH}{f:Km}{W:Kh}{k:Kk}{xs ys:Ko iH}{x y:iH}{Q:Kj iH->Jx->Prop}(D:Of z TI TO a b i j)
  (hz:wQ s.heap z TI TO T f) (M:s.heap.get? T\W) (L:Lz s.heap TI (.ref a) (.ref b))
  (h1:s.heap.IsListIter a i k) (h2:s.heap.IsListIter b j k) (J:s.heap.IsList i xs) (G:s.heap.IsList j ys) (B:xs[k]?\x) (P:ys[k]?\y)
  (O:∀Y,wQ Y z TI TO T Ks->Y.IsListIter a i (k+1)->Y.IsListIter b j (k+1)->Lz Y s⁻¹ x y->
   (∀c o,c≠z->c≠a->c≠b->s.heap.get? c\o->Y.get? c\o)->Q (Kp<|.ref s⁻¹) {s with heap:=Y}):
  Kx (Ky prog w) A (Ml<|.ref z) Q E s:=by
 have ty:s.TypeIs (.ref z) "zip":=⟨_,hz,rfl⟩;unfold Ml;refine aN<|vM<|nR (name:=Mz "__next__") ty oX<|lB oX ty Ny ?_<|HC _;show Kx _ _ (Nf (.ref z) 2 >>= _) _ _ s;refine aN<|fO hz rfl (x:=.bool Kt) rfl ?_;show Kx _ _ (Nf (.ref z) 3 >>= _) _ _ s;refine aN<|fO hz rfl (x:=.ref TI) rfl<|aN<|kK L rfl ?_;show Kx _ _ (Lb (.ref z) >>= _) _ _ s;refine aN<|XF hz M λX N h=>?_;simp only[GH,kG];refine aN ?_;simp only[Tu,yQ,Om];refine aN<|aN<|jM ?_;show Kx _ _ (Lc (.ref a) >>= _) _ _ _;refine aN<|FF (tp:=Kt) (h1.at λo e=>h.extBut _ _ D.i1z e) (J.at λo e=>h.extBut _ _ D.l1z e) B λC u l=>bL ?_;refine bL ?_;refine aN<|aN<|jM ?_;show Kx _ _ (Lc (.ref b) >>= _) _ _ _;refine aN<|FF (tp:=Kt) (h2.at λo e=>l.extBut _ _ D.i12.symm<|h.extBut _ _ D.i2z e) (G.at λo e=>l.extBut _ _ D.l2i1<|h.extBut _ _ D.l2z e) P λd H m=>bL ?_;refine bL<|bL ?_;have Z:d.objs.size=s⁻¹:=by rw[m.1,l.1,h.1]
 show Kx _ _ (Xb [x,y] >>= _) _ _ _;refine aN<|wpAny_newTuple ?_;refine bL {_,U,?_};show Kx _ _ (pure<|some<|Kz d.objs.size) _ _ _;refine bL ?_;have up:∀c o,c≠z->c≠a->c≠b->s.heap.get? c\o->(d.push {cls:=.type "tuple",data:=.seq #[x,y]}).get? c\o:=λc o q r I e=>bY _<|m.extBut _ _ I<|l.extBut _ _ r<|h.extBut _ _ q e;have n:Lz (d.push {cls:=.type "tuple",data:=.seq #[x,y]}) d.objs.size x y:=dQ _ rfl;rw[Z]at n ⊢;refine O _ (bY _<|m.extBut _ _ D.i2z.symm<|l.extBut _ _ D.i1z.symm N) ?_ ?_ n up
 .exact(show Qc C a i (k+1) from u).at λo e=>bY _<|m.extBut _ _ D.i12 e
 .exact(show Qc d b j (k+1) from H).at λo e=>bY _ e
def Hl{z TI TO a i d r T:eH}{f:Km}{I:Kh}{k:Kk}{xs:Ko iH}{Q:Kj iH->Jx->Prop}(M:A.handled=Kr)(D:Of z TI TO a i d r)
  (hz:wQ s.heap z TI TO T f) (C:s.heap.get? T\I) (J:Lz s.heap TI (.ref a) (.ref i))
  (Y:s.heap.IsListIter a d k) (B:s.heap.IsList d xs) (n:xs[k]?=Kr)
  (L:∀X,(∀c o,c≠z->c≠a->s.heap.get? c\o->X.get? c\o)->Q Kr {s with heap:=X}):Kx (Ky prog w) A (Ml<|.ref z) Q E s:=by
 have W:s.TypeIs (.ref z) "zip":=⟨_,hz,rfl⟩;unfold Ml;refine aN<|vM<|nR (name:=Mz "__next__") W oX<|lB oX W Ny ?_<|HC _;show Kx _ _ (Nf (.ref z) 2 >>= _) _ _ s;refine aN<|fO hz rfl (x:=.bool Kt) rfl ?_;show Kx _ _ (Nf (.ref z) 3 >>= _) _ _ s;refine aN<|fO hz rfl (x:=.ref TI) rfl<|aN<|kK J rfl ?_;show Kx _ _ (Lb (.ref z) >>= _) _ _ s;refine aN<|XF hz C λN P h=>?_;simp only[GH,kG];refine aN ?_;simp only[Tu,yQ,Om];refine aN<|aN<|jM ?_;show Kx _ _ (Lc (.ref a) >>= _) _ _ _;refine aN<|MB (tp:=Kt) M (Y.at λo e=>h.extBut _ _ D.i1z e) (B.at λo e=>h.extBut _ _ D.l1z e) n λO e H Z=>?_;obtain⟨u,m,G⟩:=Z;exact aN<|wpAny_isInstance (T:="StopIteration") (b:=Ks) ⟨u,m,G⟩ Rr<|bL<|L _ λc o j l q=>H _ _ l<|h.extBut _ _ j q
def Ff:Nh (.type "zip") "__len__"=pure none:=by(rw[pY,rK];kernel_rfl)
def YX:Nh (.type "zip") "__length_hint__"=pure none:=by(rw[pY,rK];kernel_rfl)
def At(a:s.TypeIs (.ref z) "zip")(h:Q Ks s):Kx (Ky prog w) A (Jy.List.listLengthHint<|.ref z) Q E s:=by
 unfold Jy.List.listLengthHint;refine aN<|oS a Ff ?_;refine Ri (λc=>absurd c<|by decide) λ_=>?_;refine Ri (λc=>absurd c<|by decide) λ_=>?_;refine aN<|oS a YX ?_;exact bL h
def SqL.up{K:Fq}{H H':Hp}(h:SqL K H l xs)(u:∀b o,H b\o->H' b\o):SqL K H' l xs:=h.imp (λh=>h.imp (u _ _) λ⟨o,e⟩=>⟨o,u _ _ e⟩) id
def BP(H:Hp)(xs ys:Ki V)(ts:Ki eH):Prop:=∀(j:Kk) t,ts[j]?\t->∃x y,xs[j]?\x/\ys[j]?\y/\H t\.tup [x,y]
structure ZL(X:Cx)(pins:Ki (eH×Kh))(σ:St)(H₁ H:Hp)(s:Jx)(S z TI TO i1 i2 l1 l2:eH)(xs ys:Ki V)(ts:Ki eH):Prop where
 I:Inv X pins σ H s
 hf:∀b∈[z,TO,i1,i2],dR X pins H b
 zs:(ts=[]/\Oh s.heap z TI TO .none)\/∃T f,T∈ts/\wQ s.heap z TI TO T f
 tI:Lz s.heap TI (.ref i1) (.ref i2)
 tO:∃a b,Lz s.heap TO a b
 a1:s.heap.IsListIter i1 l1 ↑ts
 a2:s.heap.IsListIter i2 l2 ↑ts
 hS:H S\(.lst<|ts.map Yg)
 up:∀b o,H₁ b\o->H b\o
 prs:BP H xs ys ts
def Fw{X:Cx}{a3:Ki (eH×Kh)}{σ:St}{Y:Hp}{S z TI TO d i l1 l2:eH}{xs ys:Ki V}(hh:A.handled=Kr)(D:Of z TI TO d i l1 l2)(nT:TI≠S)(a8:SqL X.K Y l1 xs)(a6:SqL X.K Y l2 ys)(hl:↑xs=↑ys)(n1:Y S=Kr)(res:iH)
  (hR:∀H s ts,↑ts=↑xs->Inv X a3 σ H s->H S\(.lst<|ts.map Yg)->(∀b o,Y b\o->H b\o)->BP H xs ys ts->R (.ok<|.ret res) s):
  ∀(m:Kk)(ts:Ki eH)(H:Hp)(s:Jx),↑ts+m=↑xs->ZL X a3 σ Y H s S z TI TO d i l1 l2 xs ys ts->Mv (Ky X.prog X.w) A (.builtin "list.extend.loop" ⟨[.ref S,.ref z,res],[]⟩) R s:=by
 have l:∀{c:eH},c∉[z,TO,d,i]->c≠z/\c≠TO/\c≠d/\c≠i:=λn=>by simpa using n
 intro m
 induction m with
 | zero=>
  intro ts H s hm ⟨I,L,zs,O,⟨a,b,tO⟩,P,a2,C,up,Z⟩;refine Ou F.entry_extend_loop ?_;rw[HQ GK _];show Kx _ A.in1 (Ml (.ref z) >>= _) _ _ _;obtain⟨u1,r1,p1,_⟩:=I.list<|a8.up up;obtain⟨u2,r2,p2,_⟩:=I.list<|a6.up up;have e1:u1.toArray[↑ts]?=none:=DW (by rw[cW,<-↑r1];lia);have a7:∀h',(∀c o,c≠z->c≠TO->c≠d->c≠i->s.heap.get? c\o->h'.get? c\o)->R (.ok<|.ret res) {s with heap:=h'}:=λh' k=>
   hR H _ ts hm (I.turnedAll (t':=s.toks) L λb o n e=>k b o (l n).1 (l n).2.1 (l n).2.2.1 (l n).2.2.2 e) C up Z
  obtain⟨e,hz⟩|⟨T,f,M,hz⟩:=zs
  .exact aN<|WP (A:=A.in1) (p:=Kt) (q:=Kt) hh D hz O tO P a2 p1.isList p2.isList (.inl e1) λh' k=>bL<|a7 h' k
  .obtain⟨j,B⟩:=vc7.mp M;obtain⟨_,_,_,_,eT⟩:=Z j T B;obtain⟨_,its,_,_,gT,_⟩:=I.hok T _ eT;exact aN<|Hl (A:=A.in1) hh D hz gT O P p1.isList e1 λh' k=>bL<|a7 h' λc o c1 _ c3 _ e=>k c o c1 c3 e
 | succ m ih=>
  intro ts H s hm ⟨I,L,zs,O,⟨a,b,tO⟩,P,a2,C,up,Z⟩;refine Ou F.entry_extend_loop ?_;rw[HQ GK _];show Kx _ A.in1 (Ml (.ref z) >>= _) _ _ _;obtain⟨u1,r1,p1,z1⟩:=I.list<|a8.up up;obtain⟨u2,r2,p2,_⟩:=I.list<|a6.up up;have N:xs[↑ts]?\xs[↑ts]'∅:=bJ ∅;have g2:ys[↑ts]?\ys[↑ts]'∅:=bJ ∅;obtain⟨u,eu,ru⟩:=r1.get N;obtain⟨v,ev,rv⟩:=r2.get g2;have nx:∀E,Kx (Ky X.prog X.w) A.in1 (Ml<|.ref z) (λr s'=>∃h',r\.ref s⁻¹/\s'={s with heap:=h'}/\(∃T f,T∈ts++[s⁻¹]/\wQ h' z TI TO T f)/\(∃a b,Lz h' TO a b)/\
    h'.IsListIter d l1 (↑ts+1)/\h'.IsListIter i l2 (↑ts+1)/\Lz h' s⁻¹ u v/\∀c o,c≠z->c≠TO->c≠d->c≠i->s.heap.get? c\o->h'.get? c\o) E s:=λE=>by
   obtain⟨e,hz⟩|⟨T,f,M,hz⟩:=zs
   .exact UG (p:=Kt) (q:=Kt) D hz O tO P a2 p1.isList p2.isList (x:=u) (y:=v) (by simpa using eu) (by simpa using ev) λh' N g2 g3 g4 g5 G=>⟨h',rfl,rfl,⟨_,Kt,gS _<|wx1.mpr rfl,N⟩,⟨_,_,g2⟩,g3,g4,g5,G⟩
   .obtain⟨j,B⟩:=vc7.mp M;obtain⟨_,_,_,_,eT⟩:=Z j T B;obtain⟨_,its,_,_,gT,_⟩:=I.hok T _ eT;exact Eu D hz gT O P a2 p1.isList p2.isList (x:=u) (y:=v) (by simpa using eu) (by simpa using ev) λh' N g3 g4 g5 G=>{h',U,U,{T,Ks,qQ _ M,N},{_,_,G _ _ D.TOz D.TOi1 D.TOi2 tO},g3,g4,g5,λc o c1 _ c3 c4 e=>G c o c1 c3 c4 e}
  refine aN<|bA (nx _) λr s' ⟨h',er,es,⟨T,f,M,hz⟩,⟨a',b',a9⟩,c1,c2,hp,G⟩=>?_;subst er es;have I1:=I.turnedNew (t':=s.toks) L (λb o n e=>G b o (l n).1 (l n).2.1 (l n).2.2.1 (l n).2.2.2 e) hp (.cons ru<|.cons rv .nil) (by show 2<=sizeLine;decide);have nS:∀{b o},H b\o->b≠s⁻¹:=λe=>cP<|I.hok.lt e;have a5:=(aC (o:=.tup [xs[↑ts]'∅,ys[↑ts]'∅])<|nS C).trans C;obtain⟨z2,its,n,rr,le,ge⟩:=I1.lstM a5;rw[aK]at le;have I2:=I1.lset (t':=s.toks) (ys:=(ts++[s⁻¹]).map Yg) a5 ge (f:=(·.push (Kz s⁻¹))) (its':=its++[.ref s⁻¹]) (by simp) (by rw[bT];exact rr.append<|.cons rfl .nil) (by simp;lia);have k2:∀b o,b≠S->h'.get? b\o->(h'.update S<|Na (·.push (Kz s⁻¹))).get? b\o:=λb o n e=>(HP _ _<|bS n).trans e;have W:∀b∈[z,TO,d,i],b≠S:=λb J e=>by
   have:=(L b J).1;rw[e,C]at this;cases this
  have lt:∀b∈[z,TO,d,i],b≠s⁻¹:=by
   obtain⟨_,h1,_⟩:=P;obtain⟨_,h2,_⟩:=a2;have hz:∃o,s.heap.get? z\o:=by
    obtain⟨_,hz⟩|⟨_,_,_,hz⟩:=zs
    .exact⟨_,hz⟩
    .exact⟨_,hz⟩
   obtain⟨_,hz⟩:=hz;simp only[rZ];exact{cP<|cB hz,cP<|cB tO,cP<|cB h1,cP<|cB h2,λ_ h=>nomatch h}
  show Kx _ A.in1 (Tj S (·.push (Kz s⁻¹)) >>= _) _ _ _;refine aN (wpAny_updateSeq ge rfl (bL {Pv GK _,ih (ts++[s⁻¹]) _ _ (by simp;lia) {I2,λb J=>{?_,(L b J).2},.inr {T,f,M,k2 _ _ (W z<|by simp) hz},k2 _ _ nT<|G _ _ D.TIz D.TITO D.TIi1 D.TIi2 O,{a',b',k2 _ _ (W TO<|by simp) a9},
   by rw[bN];exact c1.at λo e=>k2 _ o (W d<|by simp) e,by rw[bN];exact c2.at λo e=>k2 _ o (W i<|by simp) e,zb1,λb o e=>?_,λj t e=>?_}}) ?_ ?_)
  .rw[aC<|W b J,aC<|lt b J];exact(L b J).1
  .rw[aC<|aQ e n1,aC<|nS<|up b o e];exact up b o e
  .obtain B|B:=Nt j ↑ts
   .rw[lI B]at e;obtain⟨x,y,e1,e2,e3⟩:=Z j t e;exists x,y,e1,e2;rw[aC (λq=>by rw[q,C]at e3;cases e3),aC<|nS e3];exact e3
   .rw[jU B]at e;obtain⟨rfl,rfl⟩:j=↑ts/\s⁻¹=t:=by
     cases h0:j-↑ts with
     | zero=>rw[h0]at e;exact{∅,gX e}
     | succ k=>rw[h0]at e;cases e
    exact{_,_,N,g2,by rw[aC (nS C).symm];exact zb1}
  .rw[cW,<-le];lia
  .show(its.toArray.push<|Kz s⁻¹).size<=sizeLine+1;rw[Us,cW,<-le];lia
end
theorem boot_list:Mi "list"\.type "list":=by first | exact PySem.boot_list | rfl'
def YT(K:Fq)(n:TA):TE:=λq H Q=>n q H λvs a=>∃(i m:eH)(e f:Ki V),vs=[.ref i,.ref m]/\SqL K a i e/\SqL K a m f/\↑e=↑f/\
 ∀(l:eH)(h:Ki eH)(d:Hp),(∀b o,a b\o->d b\o)->a l=Kr->d l\(.lst<|h.map Yg)->↑h=↑e->
  (∀(j:Kk) t,h[j]?\t->∃x y,e[j]?\x/\f[j]?\y/\d t\.tup [x,y])->Q (.ref l) d
def YL{X:Cx}{a b:Kc}{ta:TA}{p z pos n:Nc}(hc:X.calm=Ks)(a8:Gl X "list")(ab:X.mg "list"=Kr)(a9:Gl X "zip")(aa:X.mg "zip"=Kr)(ha:PA X [a,b] ta)
  (hs:starEach [a,b] X.env=[(Kt,eval a X.env),(Kt,eval b X.env)]:=by rfl) (N:starEach [b] X.env=[(Kt,eval b X.env)]:=by rfl)
  (he:starEach [.Call (.Name "zip" z) [a,b] [] n] X.env=[(Kt,eval (.Call (.Name "zip" z) [a,b] [] n) X.env)]:=by rfl):
  PE X (.Call (.Name "list" p) [.Call (.Name "zip" z) [a,b] [] n] [] pos) (YT X.K ta):=by
 intro B s σ H Q I h;refine yA<|mV I a8 ab boot_list ?_;refine oY ?_ (by rw[he];rfl) rfl;rw[he];show Kx _ _ (Xw<|(Kt,eval (.Call (.Name "zip" z) [a,b] [] n) X.env)::[]) _ _ s;refine lS<|bA (Q:=λu G=>Kx (Ky X.prog X.w) X.A (call (.type "list") [u]) (EP X B σ Q) X.xe G) ?_ λu G q=>oQ q;refine Wa (mV I a9 aa boot_zip<|oY (bA (ha n B s σ H _ I h) λus d ⟨vs,H1,i,r1,q1⟩=>?_) (by rw[hs,N])<|by rw[N];rfl);obtain⟨l1,l2,xs,ys,e,P,O,hl,q⟩:=q1;subst e;obtain _|⟨r,_|⟨r',_|_⟩⟩:=r1;cases r;cases r';obtain⟨u1,ad,T,zz⟩:=i.list P;obtain⟨u2,ac,p2,_⟩:=i.list O;have lt:∀{l u},d.heap.IsList l u->l<d⁻¹:=λh=>by obtain⟨o,e,_⟩:=h;exact cB e
 have D:Of (d⁻¹+4) (d⁻¹+2) (d⁻¹+3) d⁻¹ (d⁻¹+1) l1 l2:=Xu (lt T.isList)<|lt p2.isList;refine call_zip_2 T.isList p2.isList λh' hz a6 a7 h1 h2 hsz kk=>?_;refine Xh (s:={d with heap:=h'}) (Q₁:=λL M=>L=.ref h'.objs.size/\M={d with heap:=h'.push {cls:=.type "list",data:=.seq #[]}}) F.called_list (F.typeCall_list_1 _) F.entry_list_init (code_list_new _ ⟨rfl,rfl⟩) λL M q'=>?_;obtain⟨rfl,rfl⟩:=q';have x:(h'.push {cls:=.type "list",data:=.seq #[]}).get? h'.objs.size=Kp {cls:=.type "list",data:=.seq #[]}:=dQ _ rfl;exists {_,x,U},F.args_list_init_2 _ _;show Kx _ X.A.in1.in1 (do let old <-Jy.List.listItems (.ref h'.objs.size);Jy.List.listUpdate (.ref h'.objs.size) λ_=>#[];letGo old.toList.reverse;Qq (.ref h'.objs.size) (.ref<|d⁻¹+4) .none) _ _ _;refine aN ?_;unfold Jy.List.listItems;refine aN<|kK x rfl<|bL ?_;show Kx _ _ (Tj h'.objs.size (λ_=>#[]) >>= λ_=>letGo (#[]:Ko iH).toList.reverse >>= λ_=>Qq (.ref h'.objs.size) (.ref<|d⁻¹+4) .none) _ _ _;refine aN<|wpAny_updateSeq x rfl ?_;have W:=CG (Na λ_=>(#[]:Ko iH)) x rfl;refine aN<|wpAny_letGo ?_;have up:∀(b:eH)(o:Kh){f:Kh->Kh}{h:Ka},(h'.get? b\o->h.get? b\o)->h'.get? b\o->(h.update h'.objs.size f).get? b\o:=λb o f h k e=>(HP _ _<|jP<|cB e).trans<|k e;have kp:∀b o,h'.get? b\o->((h'.push {cls:=.type "list",data:=.seq #[]}).update h'.objs.size<|Na λ_=>(#[]:Ko iH)).get? b\o:=λb o=>up b o<|bY _;have ty:Jx.TypeIs {d with heap:=(h'.push {cls:=.type "list",data:=.seq #[]}).update h'.objs.size<|Na λ_=>(#[]:Ko iH)} (.ref<|d⁻¹+4) "zip":=⟨_,kp _ _ hz,rfl⟩;unfold Qq;refine aN<|wpAny_typeOf ty ?_;have e1:Jy.List.listSameRef (.ref h'.objs.size) (.ref<|d⁻¹+4)=false:=by simp[Jy.List.listSameRef,hsz]
 have e2:(Qy "zip" == Qy "list")=false:=by decide
 have e3:(Qy "zip" == Qy "tuple")=false:=by decide
 simp only[e1,e2,e3,Vs,GH,kG];refine aN<|wpAny_pyIter_zip (kp _ _ hz)<|aN<|jM<|At ty ?_;refine Ri (λ_=>?_) λc=>absurd rfl c;refine aN<|sN<|aN ?_;show Kx _ _ (Tj h'.objs.size (·.push .none) >>= λ_=>Tj h'.objs.size (·.pop)) _ _ _;refine aN<|wpAny_updateSeq W rfl ?_;have Y:=CG (Na (·.push Mb)) W rfl;refine wpAny_updateSeq (hz:=by seq_fits) Y rfl ?_;have g4:=CG (Na (·.pop)) Y rfl;have E:Inv X B σ H1 {d with heap:=h'}:=i.kept (t':=d.toks) kk;have m:∀{f g:Kh->Kh} b o,h'.get? b\o->Ka.get? (Wr (Wr _ h'.objs.size f) h'.objs.size g) b\o:=λb o e=>up b o (up b o<|kp b o) e;have C:∀b,h'.objs.size<=b->H1 b=none:=λb Z=>E.hok.fresh Z;have lo:∀b,d⁻¹<=b->b<h'.objs.size->dR X B (upd H1 h'.objs.size<|.lst []) b:=λb h1 h2=>i.fpOk h1 (by rw[aC<|cP h2];exact i.hok.fresh h1)
 refine bL {Pv GK _,Fw (A:=X.A.in1) (i.ok.hd hc) D (by rw[hsz];lia) P O hl (C _<|aZ _) .none (λH s ts hn J hS u pr=>{U,.ref h'.objs.size,H,J,U,q _ ts H u (C _<|aZ _) hS hn pr}) ↑xs [] _ _ (sX _)
  {E.laid (a:=h'.objs.size) (o:=.lst []) (t':=d.toks) m (aZ _) {bW _,[],_,.nil,g4},?_,.inl {U,m _ _ hz},m _ _ a6,{_,_,m _ _ a7},h1.at λo e=>m _ o e,h2.at λo e=>m _ o e,zb1,λb o e=>?_,λj t e=>nomatch e}}
 .simp only[rZ];exact{lo _ ∅ ∅,lo _ ∅ ∅,lo _ ∅ ∅,lo _ ∅ ∅,λ_ h=>nomatch h}
 .rw[aC<|aQ e<|C _<|aZ _];exact e
inductive A2{α β:Type}(R:α->β->Prop):Ki α->Ki β->Prop
 | nil:A2 R [] []
 | cons {a:α} {b:β} {as:Ki α} {bs:Ki β} (h:R a b) (t:A2 R as bs):A2 R (a::as) (b::bs)
def A2.imp{e d:Type}{R S:e->d->Prop}(f:∀a b,R a b->S a b){as:Ki e}{bs:Ki d}(h:A2 R as bs):A2 S as bs:=by
 induction h with
 | nil=>exact .nil
 | cons h _ i=>exact .cons (f _ _ h) i
def A2.app{e d:Type}{R:e->d->Prop}{as b:Ki e}{bs a:Ki d}(h:A2 R as bs)(g:A2 R b a):A2 R (as++b) (bs++a):=by
 induction h with
 | nil=>exact g
 | cons h _ f=>exact .cons h f
def A2.snoc{e d:Type}{R:e->d->Prop}{as:Ki e}{bs:Ki d}{a:e}{b:d}(h:A2 R as bs)(g:R a b):A2 R (as++[a]) (bs++[b]):=h.app<|.cons g .nil
def A2.len{b a:Type}{R:b->a->Prop}{as:Ki b}{bs:Ki a}(h:A2 R as bs):↑as=↑bs:=by
 induction h with
 | nil=>rfl
 | cons _ _ d=>exact cH (·+1) d
def A2.get{d f:Type}{R:d->f->Prop}{as:Ki d}{bs:Ki f}(h:A2 R as bs):∀{i:Kk}{a:d},as[i]?\a->∃b,bs[i]?\b/\R a b:=by
 induction h with
 | nil=>intro i a e;simp at e
 | cons h _ j=>
  intro i a e;cases i with
  | zero=>cases e;exact{_,U,h}
  | succ i=>exact j e
section
variable{pins:Ki (eH×Kh)}{σ:Ki (Kj V)}{H:Hp}{s:Jx}{A:Kg}
end
open Classical in
def iN(x y:V):Prop:=(∃s:zZ,x=.str s/\y=.str s)\/(∃i:Kl,x=.int i/\y=.int i)\/x=.non/\y=.non
def TQ(K:Fq)(H:Hp)(a:eH)(xs:Ki V):Prop:=H a=Kp (.tup xs)\/∀b,SqT K b a xs
inductive RX(K:Fq)(H:Hp)(R:V->V->Prop)(x y:V):Prop
 | mk(a b:eH)(xs ys:Ki V)(h1:x=.ref a)(h2:y=.ref b)(h3:TQ K H a xs)(h4:TQ K H b ys)(h5:A2 R xs ys): RX K H R x y
def Sm(K:Fq)(H:Hp):Kk->V->V->Prop
 | 0=>iN
 | n+1=>λx y=>iN x y\/RX K H (Sm K H n) x y
section
variable{pins:Ki (eH×Kh)}{σ:Ki (Kj V)}{H:Hp}{s:Jx}
end
section
variable{tg:Kc}
end
section
variable{o i e value:Kc}{pos:Nc}{td ty:TE}
end
abbrev KW(w:Kb):Bool:=w.params.followText "set-order"
def AL(w:Kb)(e:Kl×iH):Prop:=∃x a,e=(hashStr w x,.str x a)
inductive NJ(w:Kb)(h:Ka)(a:eH)(ss:Ki zZ):Prop
 | mk(es:Ko (Kl×iH))(ep:Kk)(t:SetTable)(h1:h.get? a=Kp {cls:=.type "set",data:=.set es ep t})(h2:∀e∈es.toList,AL w e)(h3:ss=es.toList.map IV)(h4:ss.Nodup)(h5:t.fits es.size=Ks)(h6:t.led=!KW w)(h7:ss=[]\/t.plain=Kt):NJ w h a ss
section
variable{a I:eH}{es:Ko (Kl×iH)}{ep:Kk}{t:SetTable}
end
theorem Inv.drawn{a:Ki (eH×Kh)}{b:St}{H:Hp}{s:Jx}{d:Drawn}(I:Inv X a b H s):Inv X a b H {s with drawn:=d}:=⟨I.ok,I.os,I.bare,I.base,I.loc,I.cell,I.free,I.freeC,I.pin,I.hok,I.len⟩
structure zG(K:Fq)(C:eH)(fs:Ki zZ):Prop where
 c:Cls K C
 n:∀f∈fs,NoAttr K C f
inductive RT(C:eH)(f:zZ)(x:V)(H:Hp)(Q:VK):Prop
 | mk(a dx:eH)(fs:Ki (zZ×V))(v:V)(h1:x=.ref a)(h2:H a\.ins C dx fs)(h3:fs.lookup f\v)(q:Q v H)
def RE(C:eH)(f:zZ)(b:TE):TE:=λd H Q=>b d H λx a=>RT C f x a Q
inductive Iv(C:eH)(f:zZ)(x y:V)(H:Hp)(Q:Hp->Prop):Prop
 | mk(a dx:eH)(fs:Ki (zZ×V))(h1:x=.ref a)(h2:H a\.ins C dx fs)(h3:↑fs<1000)(q:Q (upd H a<|.ins C dx<|cQ f y fs))
def Gj(C:eH)(f:zZ)(d e:TE):TS:=λD a H=>e a H λy h=>d a h λx b=>Iv C f x y b<|D.nx a
inductive UZ(C:eH)(f:zZ)(g:Kl->Kl->Kl)(tv:TE)(σ:St)(D:dY)(x:V)(H:Hp):Prop
 | mk(a dx:eH)(fs:Ki (zZ×V))(i:Kl)(h1:x=.ref a)(h2:H a\.ins C dx fs)(h3:fs.lookup f\.int i)(q:tv σ H λy H2=>∃j dx' fs',y=.int j/\H2 a\.ins C dx' fs'/\↑fs'<1000/\D.nx σ (upd H2 a<|.ins C dx'<|cQ f (.int<|g i j) fs'))
def Cv(C:eH)(f:zZ)(g:Kl->Kl->Kl)(b d:TE):TS:=λD a H=>b a H λx e=>UZ C f g d a D x e
section
variable{o e value:Kc}{f:zZ}{pos pos' tpos:Nc}{ta tv:TE}{C:eH}{fs:Ki zZ}
def cA(Z:zG X.K C fs)(he:PE X e ta)(b:f∈fs:=by rfl')(j:Mq e f X.env (eval e X.env)=eval e X.env:=by rfl):PE X (.Attribute e f pos) (RE C f ta):=by
 intro w s E H Q I h;refine As j<|bA (he w s E H _ I h) ?_;rintro u A ⟨x,B,r,d,a,G,fs,v,ex,o,l,q⟩;subst ex;obtain rfl:u=Kz a:=d;exact SU r o Z.c (Z.n f b) l λz J i m=>⟨v,B,i,m,q⟩
def gM(Z:zG X.K C fs)(e:PE X o ta)(w:PE X value tv)(d:f∈fs:=by rfl')(hs:Nb value (Kp<|.Attribute o f pos') pos.line X.env=pure false:=by rfl):PS X (.Assign [.Attribute o f pos'] value pos) (Gj C f ta tv):=by
 intro b s J H D I h;refine plainObj_wpAny_Assign_Attribute (bA (w b s J H _ I h) ?_) hs;rintro u G ⟨y,L,B,i,q⟩;refine bA (e b G J L _ B q) ?_;rintro E O ⟨x,M,m,j,a,N,fs,ex,A,l,z⟩;subst ex;obtain rfl:E=Kz a:=j;exact RP m A Z.c (Z.n f d) l i λP r=>{J,_,r,z}
def zT{d:Xl}{g:Kl->Kl->Kl}(Z:zG X.K C fs)(J:PE X o ta)(A:PE X value tv)(B:uQ X d λx y H Q=>∃i j,x=.int i/\y=.int j/\Q (.int<|g i j) H)(e:f∈fs:=by rfl'):PS X (.AugAssign (.Attribute o f tpos) d value pos) (Cv C f g ta tv):=by
 intro b s σ H D I h;refine wpAny_AugAssign_AttributeAny<|bA (J b s σ H _ I h) ?_;rintro ov s1 ⟨x,H1,G,m,a,dx,fs,i,ex,W,l,q⟩;subst ex;obtain rfl:ov=Kz a:=m;refine SU G W Z.c (Z.n f e) l λu s2 r T=>bA (A b s2 σ H1 _ r q) ?_;rintro O s3 ⟨y,H2,w,L,j,a4,a3,P,a1,E,M⟩;refine bA (B b s3 σ H2 (.int i) y u O (λz H3=>z=.int (g i j)/\H3=H2) w T L ⟨i,j,rfl,P,rfl,rfl⟩) ?_;rintro w4 s4 ⟨z,H3,I4,Y,rfl,rfl⟩;exact RP I4 a1 Z.c (Z.n f e) E Y λs5 N=>{σ,_,N,M}
end
section
variable{M:Model}{A:Kg}{E:Vp}{s:Jx}{st:Pb}{n:Kk}{act:Kk->StateT Pb Ww (Kj Km)}
end
structure WK(st st':Pb):Prop where
 kd:kindOf st'=kindOf st
 ar:arrOf st'=arrOf st
 pe:Ph st'=Ph st
 fa:Xg st'=Xg st
section
variable{kd:Pc}{U':Mu->Prop}{LT:Mu->Mu->Km}{st:Pb}
end
section
variable{a b out:Ko Mu}{i j:Kk}{x:Mu}
end
section
variable{kd:Pc}{U':Mu->Prop}{LT:Mu->Mu->Km}{st:Pb}
end
section
variable{a b out:Ko Mu}{i j:Kk}{x:Mu}
def Hd(a b d:Ko Mu)(i j:Kk):Prop:=(a.toList.take i++(b.toList.take j++d.toList.reverse)).Perm<|a.toList++b.toList
end
section
variable{kd:Pc}{U':Mu->Prop}{LT:Mu->Mu->Km}{st:Pb}
end
structure SB(kd:Pc)(a₀:Ko Mu)(pe:Ko (Kk×Kk×Kk))(st:Pb):Prop where
 pm:(arrOf st).Perm a₀
 kd:kindOf st=kd
 fa:Xg st=Kr
 pe:Ph st=pe
section
variable{kd:Pc}{LT:Mu->Mu->Km}{a₀:Ko Mu}{pe:Ko (Kk×Kk×Kk)}{st:Pb}{lo:Kk}
end
section
variable{kd:Pc}{LT:Mu->Mu->Km}{a₀:Ko Mu}{st:Pb}
inductive Rn(n mr lo:Kk)(st:Pb):Prop
 | zero:lo=0->Ph st=#[]->Rn n mr lo st
 | one (p:Kk):1<=lo->lo<=n->(lo=n\/mr<=lo)->Ph st=#[(0,lo,p)]->Rn n mr lo st
 | two (m r p:Kk):lo=n->m+r=n->1<=m->1<=r->Ph st=#[(0,m,p),(m,r,0)]->Rn n mr lo st
end
section
variable{kd:Pc}{LT:Mu->Mu->Km}
end
abbrev Pr:=zZ×zZ
section
variable{it d:eH}{od:Kh}{es:Ko Oi}{i ep:Kk}
def DE(h:Ka)(d:eH)(a:Ko Oi)(ep:Kk):Prop:=∃od,h.get? d\od/\od.cls=.type "dict"/\od.data=.dict a ep
end
section
variable{T:String}{r d:eH}{n:Kk}{P:Kk->iH->Prop}{OK:Ka->Prop}
end
section
variable{scope:Scope}{N':Ki zZ}{src:Ki (Kj Kk)}{pins:Ki (eH×Kh)}{σ:St}{H2:Hp}{s2:Jx}
end
section
variable{KK:Type}[DecidableEq KK]{knd:HeapKind prog w KK}
end
def jZ(p:Pr):Ki aG:=[Ku p.1,Ku p.2]
def XQ(h:jZ p=jZ q):p=q:=by
 unfold jZ at h;injection h with h1 h2;injection h2 with h2 _;exact Prod.ext (iS h1)<|iS h2
abbrev GI(P:Jz)(w:Kb):=tupleKind<|cO P w
section
variable{pins:Ki (eH×Kh)}{σ:St}{H:Hp}{s:Jx}
def QI(I:Inv X pins σ H s)(h:SqT X.K H b [.str n.1,.str n.2]):(GI X.prog X.w).is s.heap (jZ n) b:=by
 obtain⟨d,r,⟨o,f,e,m,a⟩,_⟩:=I.tuple h;exact{o,d.toArray,m,f,e,a,by simpa using RG (ks:=jZ n) r}
end
section
variable{i o:Kc}{ty td:TE}
end
open Classical in
open Classical in
open Classical in
def XI:Manifest.owners.lookup (String.ofList ['d','e','s','r','e','v','e','r'].reverse)\Manifest.sig_reversed:=by kernel_rfl
def Bg:Slot "reversed" "__init__" "object.__init__":=.of (owner:="object") (n:="__init__") (by(rw[pY,rK];kernel_rfl)) (by rfl') (by rfl') (by rfl') (by first | exact .inl (by rfl') | exact .inr (by rfl')) (by(rw[xX];kernel_rfl))
def zv0:Slot "reversed" "__next__" "reversed.__next__":=.of (owner:="reversed") (n:="__next__") (by(rw[pY,rK];kernel_rfl)) (by rfl') (by rfl') (by rfl') (by first | exact .inl (by rfl') | exact .inr (by rfl')) (by(rw[xX];kernel_rfl))
def RZ:Slot "reversed" "__iter__" "reversed.__iter__":=.of (owner:="reversed") (n:="__iter__") (by(rw[pY,rK];kernel_rfl)) (by rfl') (by rfl') (by rfl') (by first | exact .inl (by rfl') | exact .inr (by rfl')) (by(rw[xX];kernel_rfl))
def TM:Uu Xa "reversed.__next__"=Kp Jy.«reversed.__next__»:=Wh (by kernel_rfl)
def Jj:Uu Xa "reversed.__new__"=Kp Jy.«reversed.__new__»:=Wh (by kernel_rfl)
def Iz:Uu Xa "reversed.__iter__"=Kp Jy.«dict_keyiterator.__iter__»:=
 entryFor_alias (id':="dict_keyiterator.__iter__") (by kernel_rfl) (by first | rfl | rfl' | (unfold String.splitOn;(simp +decide [String.splitOnAux]))) (by rfl') (by kernel_rfl)
def XD(a:iH):Xi "reversed.__next__" ⟨[a],[]⟩:=by
 unfold Xi;(rw[Xo (id:="reversed.__next__") (n:=['_','_','t','x','e','n','_','_']) (o:=['d','e','s','r','e','v','e','r']) (by kernel_rfl) XI];kernel_rfl)
def Fp(a:iH):Xi "reversed.__iter__" ⟨[a],[]⟩:=by
 unfold Xi;(rw[Xo (id:="reversed.__iter__") (n:=['_','_','r','e','t','i','_','_']) (o:=['d','e','s','r','e','v','e','r']) (by kernel_rfl) XI];kernel_rfl)
def RC:mroOf (.type "reversed")=pure [.type "reversed",.type "object"]:=by(rw[mroOf_type];kernel_rfl)
def ZS:Nh (.type "reversed") "__new__"=pure (Kp<|.builtin "reversed.__new__"):=by(rw[pY,rK];kernel_rfl)
def Jt:TypeCalled "reversed" "reversed.__new__" "object.__init__":=
 ⟨by rfl',by rfl',⟨_,_,RC⟩,madeBy_type RC ZS (by rfl'),by rfl',by(rw[xX];kernel_rfl),Bg⟩
def EK(a:iH):checkTypeCall "reversed" ⟨[a],[]⟩=pure ():=by kernel_rfl
def CT(a:iH):checkBuiltinCall "reversed.__new__" ⟨[.type "reversed",a],[]⟩=pure ():=by kernel_rfl
def wW:isSubtype (.type "reversed") (.type "reversed")=pure true:=by(rw[xX];kernel_rfl)
def UP:Nh (.type "tuple") "__reversed__"=pure none:=by(rw[pY,rK];kernel_rfl)
abbrev oG(h:Ka)(it a:eH)(j:Kl):Prop:=h.get? it=Kp {cls:=.type "reversed",dict:=Kr,data:=.fields #[.ref a,.int j 0],slots:=#[]}
def Aj(a:eH)(xs:Ko iH)(l:xs.size<=sizeLine):
  Meets (Jy.«reversed.__new__» ⟨[.type "reversed",.ref a],[]⟩) (λ_ R s=>s.heap.IsTuple a xs/\∀q,R (.ok<|.ret<|.ref s⁻¹) {s with heap:=s.heap.push {cls:=.type "reversed",data:=.fields #[.ref a,.int ((xs.size:Kl)-1) 0]},toks:=q}):=
 .of_wp λprog w A R s h=>by
  obtain⟨b,h⟩:=h;have n:=wW;have u:s.TypeIs (.ref a) "tuple":=b.typeIs;obtain⟨r,g,d,q,os⟩:=s;have f:isSubtype (.type "tuple") (.type "dict")=pure false:=by(rw[xX];kernel_rfl)
  have j:=vr0.lookup;have o:=UP;have m:=nE;have hl:Pw (Jx.heap ⟨r,g,d,q,os⟩) a xs:=b;have e:(xs.size:Kl)<2 ^ 63:=by lia
  have i:∀{Q:Vp}{A:Kg}{E:Vp},Q (.int xs.size<|q+1) ⟨r,g,d,q+1+1,os⟩->Kx (Ky prog w) A (call (.builtin "len") [.ref a]) Q E ⟨r,g,d,q,os⟩:=λh=>len_tuple (s:=⟨r,g,d,q,os⟩) hl e h
  wp_walk using oS u UP,wpAny_isInstance u f,oS u vr0.lookup,i
  exact{_,U,h _}
def Ba(d:xs.size<=sizeLine)(b:s.heap.IsTuple a xs)(h:∀e,oG (s.heap.push {cls:=.type "reversed",data:=.fields #[.ref a,.int ((xs.size:Kl)-1) 0]}) s⁻¹ a ((xs.size:Kl)-1)->Q (.ref s⁻¹) {s with heap:=s.heap.push {cls:=.type "reversed",data:=.fields #[.ref a,.int ((xs.size:Kl)-1) 0]},toks:=e}):
  Kx (Ky prog w) A (call (.type "reversed") [.ref a]) Q E s:=by
 refine Yd Jt (by decide) (EK _) (CT _) (λobj=>F.args_object_init_2 obj _) Jj (Aj a xs d) {b,λe=>?_};have g:(s.heap.push {cls:=.type "reversed",data:=.fields #[.ref a,.int ((xs.size:Kl)-1) 0]}).get? s⁻¹\_:=dQ _ rfl;exact{{_,g,U},h e g}
def RY(b:oG s.heap it a j)(h:Q (.ref it) s):Kx (Ky prog w) A (Vm<|.ref it) Q E s:=by
 have d:s.TypeIs (.ref it) "reversed":=⟨_,b,rfl⟩;refine wpAny_pyIter_slot d RZ<|lB RZ d Iz ?_<|Fp _;refine bL {_,U,"reversed",_,d,zv0.lookup,h}
def YV{u a:eH}{j:Kk}{xs:Ko iH}{x:iH}{Q:Kj iH->Jx->Prop}(b:oG s.heap u a (j:Kl))(e:Pw s.heap a xs)(n:a≠u)(o:xs.size<=sizeLine)(d:xs[j]?\x)
  (m:∀z C,oG z u a ((j:Kl)-1)->Lq u s.heap z->Q (Kp x) {s with heap:=z,toks:=C}):Kx (Ky prog w) A (Ml<|.ref u) Q E s:=by
 have B:s.TypeIs (.ref u) "reversed":=⟨_,b,rfl⟩;unfold Ml;refine aN<|vM<|nR (name:=Mz "__next__") B zv0<|lB zv0 B TM ?_<|XD _;show Kx _ _ (Nf (.ref u) 0 >>= _) _ _ s;refine aN<|fO b rfl (x:=.ref a) rfl ?_;show Kx _ _ (Nf (.ref u) 1 >>= _) _ _ s;refine aN<|fO b rfl (x:=.int (j:Kl) 0) rfl ?_;show Kx _ _ (if (j:Kl)<0 then _ else _) _ _ s;rw[bC ∅];refine aN<|oS e.typeIs vr0.lookup ?_;show Kx _ _ (mkInt (j:Kl) >>= _) _ _ s;refine aN<|wpAny_mkInt ?_;have q:j<xs.size:=by
  obtain h|h:=Nt j xs.size
  .exact h
  .rw[DW h]at d;cases d
 have r:=nE;have l:Pw (Jx.heap {s with toks:=s.toks+1}) a xs:=e;refine aN<|vM<|getItem_tuple (s:={s with toks:=s.toks+1}) (j:=j) l ∅ ∅ (by unfold Oe;(simp only[show ¬((j:Kl)<0) by lia,kG];rw[bF<|by simp;lia];simp)) d ?_;show Kx _ _ (Nf (.ref u) 1 >>= _) _ _ _;refine aN<|fO b rfl (x:=.int (j:Kl) 0) rfl ?_;refine aN<|mS b (by simp) λz f i=>?_;refine bL {_,U,?_};exact bL<|m z _ f i
def sT(h:A.handled=Kr)(d:oG s.heap it a j)(q:j<0)(r:∀G H,Wt it s.heap G->Q Kr {s with heap:=G,toks:=H}):Kx (Ky prog w) A (Ml<|.ref it) Q E s:=by
 have C:s.TypeIs (.ref it) "reversed":=⟨_,d,rfl⟩;unfold Ml;refine aN<|vM<|nR (name:=Mz "__next__") C zv0<|lB zv0 C TM ?_<|XD _;show Kx _ _ (Nf (.ref it) 0 >>= _) _ _ s;refine aN<|fO d rfl (x:=.ref a) rfl ?_;show Kx _ _ (Nf (.ref it) 1 >>= _) _ _ s;refine aN<|fO d rfl (x:=.int j 0) rfl ?_;show Kx _ _ (if j<0 then _ else _) _ _ s;rw[bF q];refine aN<|sN ?_;refine aN ?_;show Kx _ _ (setField (.ref it) 1 (Py<|-1) >>= λ_=>setField (.ref it) 0 .none) _ _ s;refine aN<|mS d (by simp) λz i n=>?_;refine mS i (by simp) λB u l=>?_
 refine aN ?_;show Kx _ _ (Xd (.type "StopIteration") [] >>= _) _ _ _;refine aN ?_;simp only[Xd,Xb];refine aN (lX ?_<|by size_fits);refine aN (m:=Pa _ _)<|wpAny_of_eq (a:=Mb) (by first | rfl | (simp only[Pa];rfl)) ?_;refine lX ?_ (by size_fits);simp only[raiseNew];refine aN<|wpAny_handled ?_;first | rw[show A.in1.handled=Kr from h] | rw[h]
 refine aN<|bL<|wpAny_throw ?_;refine aN<|wpAny_isInstance (T:="StopIteration") (b:=Ks) {_,dQ _ rfl,U} Rr<|bL<|r _ _ ?_;exact λb o f e=>bY _<|bY _<|l.extBut _ _ f<|n.extBut _ _ f e
def lA(K:Fq)(a:eH)(n:Kk):It:=
 ⟨λi H=>∃b x,SqT K H a b/\↑b=n/\b.reverse[i]?\x,λi H x d=>d=H/\∀b,SqT K H a b->b.reverse[i]?\x,λi H=>∃b,SqT K H a b/\↑b=n/\n<=i⟩
def Br{P:Jz}{w:Kb}{K:Fq}{tg:Kc}(a it:eH)(a5:a≠it)(n:Kk):fQ P w K tg (lA K a n) [it] it (λi h=>oG h it a<|(n:Kl)-1-(i:Kk)) where
 mem:=by simp
 obj:=λi h st b d=>by
  have e:b=it:=by simpa using d
  subst e;exact{_,st,λv z=>by cases z}
 keep:=λi h h' st k=>k it (by simp) _ st
 item:=by
  intro X C A r M i N s σ H E I j st m;subst C A r;obtain⟨xs,x,L,hn,f⟩:=m;obtain⟨its,O,p,hz⟩:=I.tuple L;have hi:i<↑xs:=by
   have:=(ww4.mp f).1;rwa [iR]at this
  have a3:xs[↑xs-1-i]?\x:=by rw[<-Oc hi];exact f
  obtain⟨u,hu,ru⟩:=O.get a3;obtain⟨B,q,f2,J,G,l⟩:=j it (by simp);have Y:((n:Kl)-1-(i:Kk))=((↑xs-1-i:Kk):Kl):=by lia
  have a4:oG s.heap it a ((↑xs-1-i:Kk):Kl):=by rw[<-Y];exact st
  have hl:=O.length;refine YV a4 p a5 (by rw[cW,<-hl];exact hz) (x:=u) (by simpa using hu) λh' tk W sb=>?_
  have I1:Inv X N σ H {s with heap:=h',toks:=tk}:=I.turned (t':=tk) (λb o d e=>(sb.2 b d).trans e) B q J G l;have T:oG h' it a ((n:Kl)-1-((i+1:Kk):Kl)):=by
   have Z:((n:Kl)-1-((i+1:Kk):Kl))=((↑xs-1-i:Kk):Kl)-1:=by lia
   rw[Z];exact W
  exact{u,U,tX (s:={s with heap:=h',toks:=tk}) T rfl rfl (by decide) {x,H,I1,ru,{U,λys hy=>by rw[I.tuple_inj hy L];exact f},T,λb d=>(j b d).1}}
 done:=by
  intro X C A r M i N s σ H E I j st m;subst C A r;obtain⟨xs,L,hn,f⟩:=m;obtain⟨B,q,f2,J,G,l⟩:=j it (by simp);exact sT (I.ok.hd M) st ∅ λh' tk eb=>{U,I.turned (t':=tk) (λb o d e=>eb b o d e) B q J G l}
 self:=λ_ _ _ _ _ st h=>RY st h
section
variable{tg:Kc}
def MV(K:Fq)(e:TA):TI:=λf H R=>e f H λvs d=>∃a b,vs=[.ref a]/\SqT K d a b/\R (lA K a ↑b) d
def Dy:Mi "reversed"\.type "reversed":=by rfl'
def VH(w:Gl X "reversed")(z:X.mg "reversed"=Kr)(j:PA X [a] ta)(hs:starEach [a] X.env=[(Kt,eval a X.env)]:=by rfl):PI X tg (.Call (.Name "reversed" p) [a] [] J) (MV X.K ta):=by
 intro C s N H R I h;refine Wa<|mV I w z Dy<|oY (bA (j J C s N H _ I h) λW d ⟨vs,P,f,m,x⟩=>?_) (by rw[hs];rfl) rfl;obtain⟨l,xs,e,E,q⟩:=x;subst e;cases m with
 | cons r T=>
  cases T;cases r;obtain⟨G,A,i,O⟩:=f.tuple E;have hl:=A.length;have B:l<d⁻¹:=by obtain⟨o,e,_⟩:=i;exact cB e
  refine Ba (xs:=G.toArray) (by rw[cW,<-hl];exact O) i λL M=>?_
  refine RY (s:={d with heap:=_,toks:=L}) M ?_;refine{d⁻¹,[d⁻¹],_,_,P,U,f.kept (t':=L) λb o e=>bY _ e,Br l _ (cP B) ↑xs,?_,λb n=>?_,q}
  .have u:(((↑xs:Kk):Kl)-1-((0:Kk):Kl))=((G.toArray.size:Kk):Kl)-1:=by rw[cW,hl];lia
   show oG _ _ _ _;rw[u];exact M
  .have e:b=d⁻¹:=by simpa using n
   subst e;exact f.fpOk (aZ _)<|f.hok.fresh<|aZ _
end
def Dd(l:eH)(items:Ko iH)(n:Kk)(B:Kj eH)(q:Ko (Kj iH))(x:iH)(e:iH->Km)(j:Kk)(G:j<items.size)(u:∀i (h:i<items.size),i<j->e items[i]=Kt)(r:e items[j]=Ks):
  Meets (Jy.«tuple.index» ⟨[.ref l,x],[]⟩)
   (λA R s=>s.heap.get? l=Kp {cls:=.type "tuple",dict:=B,data:=.seq items n,slots:=q}/\(∀y,y∈items->Lg A.in1 s y x (e y))/\R (.ok<|.ret<|.int (j:Kk) s.toks) {s with toks:=s.toks+1}):=
 .of_wp λprog w A R s h=>by
  obtain⟨P,g,d,M,os⟩:=s;obtain⟨hl,N,h⟩:=h;have O:∀{J:Type}(b:J)(f:Kk->J->Ww (ForInStep J)),forIn ([0:min items.size items.size]:Qz) b f=forIn (Wm 0 items.size) b f:=by
   intro J b f;rw[Qz.forIn_eq_forIn_range'];simp[Qz.size]
  wp_walk using wpAny_loadPart' hl
  show Kx _ _ (forIn (m:=Ww) ([0:min items.size items.size]:Qz) ((Kr,()):Kj Fin×Unit) (λ(i:Kk) E=>match items[i]? with
      | some y=>do
       let H <-eqBool y x
       if H=Ks then do
         let H <-retInt (i:Kl)
         pure (ForInStep.done (Kp H,()))
        else pure<|Kw (Kr,())
      | x=>pure<|Kw (Kr,()))) _ _ _
  rw[O];refine wpAny_forIn_list _ (λrest b L=>b=(Kr,())/\L=⟨P,g,d,M,os⟩/\∃i,rest=Wm i (items.size-i)/\i<=j) _ ?_ ?_ _ _ {U,U,0,U,bW _}
  .rintro y rest b L ⟨rfl,rfl,i,hi,C⟩;have a:i<items.size:=by lia
   rw[show items.size-i=(items.size-i-1)+1 by lia,Uq]at hi;obtain⟨rfl,rfl⟩:=zD hi;have o:items[y]?=Kp items[y]:=Ko.getElem?_eq_getElem a;show Kx _ _ (match items[y]? with
      | some z=>do
       let H <-eqBool z x
       if H=Ks then do
         let H <-retInt (y:Kl)
         pure (ForInStep.done (Kp H,()))
        else pure<|Kw (Kr,())
      | x=>pure<|Kw (Kr,())) _ _ _
   rw[o];refine aN<|N items[y] (Ko.getElem_mem a) prog w _ _ ?_;obtain hy|hy:=Nt y j
   .rw[u y a hy]
    wp_walk
    exact{U,U,y+1,by rw[show items.size-y-1=items.size-(y+1) by lia],∅}
   .obtain rfl:y=j:=by lia
    rw[r]
    wp_walk
    exact{_,U,h}
  .rintro b L ⟨rfl,rfl,i,hi,C⟩;rw[show items.size-i=(items.size-i-1)+1 by lia,Uq]at hi;cases hi
def ixV(x:V)(xs:Ki V):Nat:=xs.findIdx λy=>iV y x
def PN(td h:TE):TE:=λf H Q=>td f H λv e=>∃a b,v=.ref a/\Rd e a (.tup b)/\h f e λy d=>iI y=Ks/\Rd d a (.tup b)/\b.all iI=Ks/\gQ y b=Ks/\Q (.int<|ixV y b) d
section
variable{o e:Kc}{apos cpos:Nc}{td ty:TE}
theorem MJ{x:V}:∀{xs:Ki V}{us:Ki iH},Vals xs us->xs.all iI=Ks->∀(i:Kk)(u:iH),us[i]?\u->∃y,xs[i]?\y/\gU x u=iV y x
 | _,_,.nil,_=>λi u h=>by cases h
 | y::xs,u::us,.cons r t,f=>λi a h=>by
  rw[Rc,pX]at f;cases i with
  | zero=>cases h;exact{y,U,JE r f.1}
  | succ i=>exact MJ t f.2 i a h
def tV(Z:PE X o td)(he:PE X e ty)(m:M1 X o "index" apos e cpos):PE X (.Call (.Attribute o "index" apos) [e] [] cpos) (PN td ty):=by
 intro C s σ H Q I h;refine wN m.base m.few m.line PySem.F.plainAttrs_tuple Qh PySem.F.type_tuple_index<|bA (Z C s σ H _ I h) λu E ⟨v,H1,B,J,a,xs,ex,hq,P⟩=>?_;subst ex;obtain rfl:u=Kz a:=J;obtain⟨⟨z1,od,N,W⟩,a4,a5,o1,g1,t1,_⟩:=(show ObjOk X.prog X.w H1 E.heap a (.tup xs) from QH B.hok hq);exists {_,g1,t1},λb z=>?_
 .cases z;exact⟨od,N,W⟩
 rw[m.trees];refine oA rfl<|uZ<|lS<|bA (he C E σ H1 _ B P) λiv s2 ⟨y,H2,q,ry,fy,a3,fs,L,q2⟩=>oQ ?_;obtain⟨its,j,⟨f,G,l,n,hd⟩,hz⟩:=q.tuple<|.inl a3;have hl:=↑j;have a6:ixV y xs<↑xs:=Ki.findIdx_lt_length.mpr<|vk5.mp L;have hs:ixV y xs<its.toArray.size:=by rw[cW];lia
 have pP:∀i (h:i<its.toArray.size) b,(∀z,xs[i]?\z->iV z y=b)->gU y its.toArray[i]=b:=λi h b k=>by
  obtain⟨z,d,Y⟩:=MJ (x:=y) j fs i its.toArray[i] (by simp);rw[Y];exact k z d
 have O:s2.heap.get? a=Kp {cls:=.type "tuple",dict:=f.dict,data:=.seq its.toArray n,slots:=f.slots}:=by
  rw[G,<-l,<-hd]
 refine mQ Qh (T:="tuple") {_,G,l} PySem.F.entry_tuple_index (PySem.F.args_tuple_index_2 _ _) (λA R s=>Dd a its.toArray n f.dict f.slots iv (gU y) (ixV y xs) hs ?_ ?_ X.prog X.w A R s) {O,λv M=>xS ry fy j fs v (by simpa using M),{.int (ixV y xs:Kk),H2,q.tok _,{_,U},q2}}
 .intro i h hi;refine pP i h Kt λz d=>?_;have:=Rm hi;obtain⟨r,rfl⟩:=ww4.mp d;simpa using this
 .refine pP _ hs Ks λz d=>?_;obtain⟨r,rfl⟩:=ww4.mp d;exact Su (w:=r)
end
def IZ:V->Ki V->Hp->VK->Prop:=λx b H Q=>∃l a y,x=.ref l/\b=[y]/\H l\.lst a/\iI y=Ks/\a.all iI=Ks/\gQ y a=Ks/\↑a<=1000000/\Q (.int<|ixV y a) H
def wZ{X:Cx}:MtR X "list.index" IZ:=by
 intro L s P H x vs v W Q I f B h;obtain⟨l,ys,y,rfl,rfl,C,o,fs,G,J,q⟩:=h;cases f;obtain⟨u,rfl,E⟩:=B.one;obtain⟨z,N,n,r,hl,e⟩:=I.lstM C;have M:ixV y ys<↑ys:=Ki.findIdx_lt_length.mpr<|vk5.mp G;have O:ixV y ys<N.toArray.size:=by rw[cW];lia
 have pP:∀i (h:i<N.toArray.size) b,(∀z,ys[i]?\z->iV z y=b)->gU y N.toArray[i]=b:=λi h b k=>by
  obtain⟨z,a,m⟩:=MJ (x:=y) r fs i N.toArray[i] (by simp);rw[m];exact k z a
 refine mQ Qm (T:="list") {_,e,U} PySem.F.entry_list_index (PySem.F.args_list_index_2 _ _) (λA R s=>SeqAt.list_indexAt l N.toArray n _ _ u (gU y) (ixV y ys) O ∅ ?_ ?_ X.prog X.w A R s) {e,λv j=>xS E o r fs v (by simpa using j),{.int (ixV y ys:Kk),H,I.tok _,{_,U},q}}
 .refine pP _ O Ks λz a=>?_;obtain⟨d,rfl⟩:=ww4.mp a;exact Su (w:=d)
 .intro i h hi;refine pP i h Kt λz a=>?_;have:=Rm hi;obtain⟨d,rfl⟩:=ww4.mp a;simpa using this
def nO(q:Pr×eH×eH):Ki aG×eH×iH:=(jZ q.1,q.2.1,.ref q.2.2)
def RM(P:Jz)(w:Kb)(a:eH)(qs:Ki (Pr×eH×eH))(h:Ka):Prop:=↑qs<=sizeLine/\(a == Lm)=Kt/\
 ∃o b d,h.get? a\o/\o.ExactDict/\o.data=.dict b d/\b.toList=(qs.map nO).map (entryOfKey<|GI P w)/\((qs.map nO).map (·.1)).Nodup
def iF(P:Jz)(w:Kb)(a:eH)(qs:Ki (Pr×eH×eH)):HO:=.ext<|RM P w a qs
def TC(x:RM P w a qs h):ObjOk P w H h a (iF P w a qs):=by
 refine{x,?_,λd f y k=>?_}
 .obtain⟨_,_,o,_,_,e,_⟩:=x;exact⟨o,e⟩
 .obtain⟨z,hd,b,es,ep,e,c⟩:=y;exact{z,hd,b,es,ep,k _ e,c}
def PvOk(K:Fq)(H:Hp)(qs:Ki (Pr×eH×eH)):Prop:=∀q∈qs,SqT K H q.2.1 [.str q.1.1,.str q.1.2]
def iB(qs:Ki (Pr×eH×eH))(n:Pr)(b l:eH):Ki (Pr×eH×eH):=
 if n∈qs.map (·.1) then qs.map λq=>if q.1=n then(q.1,q.2.1,l) else q else qs++[(n,b,l)]
def pE{qs:Ki (Pr×eH×eH)}{n:Pr}:Qf (qs.map nO) (jZ n)=(qs.find? λq=>decide<|q.1=n).map λq=>(q.2.1,Kz q.2.2):=by
 unfold Qf;rw[Ki.find?_map];have:((λx:Ki aG×eH×iH=>decide<|x.1=jZ n)∘nO)=λq=>decide (q.1=n):=by
  funext q
  exact decide_eq_decide.mpr {λh=>XQ h,λh=>by show jZ q.1=_;rw[h]}
 rw[this,Kj.map_map];rfl
def Fn{qs:Ki (Pr×eH×eH)}{n:Pr}{b l:eH}:Vu (qs.map nO) (jZ n) b (.ref l)=(iB qs n b l).map nO:=by
 unfold Vu iB;rw[pE,CO]
 by_cases h:n∈qs.map (·.1)
 .obtain⟨q,a,e⟩:=wx6.mp h;rw[bF h,bF<|List.find?_isSome.mpr ⟨q,a,dP e⟩,jW,jW];refine ER λz _=>?_;show(if jZ z.1=jZ n then(jZ z.1,z.2.1,Kz l) else nO z)=nO (if z.1=n then(z.1,z.2.1,l) else z)
  by_cases c:z.1=n
  .rw[bF (by rw[c]),bF c];rfl
  .rw[bC λh=>c<|XQ h,bC c]
 .rw[bC h,bC (λz=>let ⟨q,a,e⟩:=Ki.find?_isSome.mp z;h<|wx6.mpr ⟨q,a,cT e⟩),bT];rfl
def PvOk.put{K:Fq}{n:Pr}(h:PvOk K H qs)(d:SqT K H b [.str n.1,.str n.2]):PvOk K H (iB qs n b l):=by
 intro q a;unfold iB at a
 split at a
 .obtain⟨z,hz,rfl⟩:=wx6.mp a
  split
  .exact h z hz
  .exact h z hz
 .obtain a|a:=wz2.mp a
  .exact h q a
  .rw[wx1.mp a];exact d
def VF:↑(iB qs n b l)<=↑qs+1:=by
 unfold iB
 split
 .rw[aK];exact kI _
 .rw[bN];exact aZ _
def Jf(P:Jz)(w:Kb)(K:Fq):Hp->eH->V->V->(Hp->Prop)->Prop:=λH D d v R=>∃a b n l,d=.ref b/\v=.ref l/\H D\iF P w D a/\PvOk K H a/\SqT K H b [.str n.1,.str n.2]/\↑a<sizeLine/\R (upd H D<|iF P w D<|iB a n b l)
section
variable{pins:Ki (eH×Kh)}{σ:St}{H:Hp}{s:Jx}
def XX(I:Inv X pins σ H s)(d:H a\iF X.prog X.w a qs)(ok:PvOk X.K H qs):↑qs<=sizeLine/\(a == Lm)=Kt/\s.heap.DictOfH (GI X.prog X.w) a (qs.map nO):=by
 obtain⟨z,hd,o,n,l,m,j,f,i,e⟩:=(I.hok a _ d).1;refine{z,hd,o,n,l,m,j,f,i,λx b=>?_,e};obtain⟨q,h,rfl⟩:=wx6.mp b;exact QI I<|ok q h
def Dp(x:X.A.units<cLine):zV X (λa=>iF X.prog X.w a []) (Jf X.prog X.w X.K) where
 new h H z:=TC ⟨bW _,vh3.mpr<|bS<|cP z,_,_,_,dQ _ rfl,⟨rfl,rfl,rfl⟩,rfl,rfl,lC⟩
 put Y e1 e2 e3 e4 pins s σ H D kx u v y R I rk rv h:=by
  obtain⟨qs,b,n,l,rfl,rfl,d,ok,f,hl,q⟩:=h;cases rk;cases rv;rw[<-e1,<-e2]at d q ⊢;rw[<-e3]at ok f;obtain⟨z,hd,j⟩:=XX I d ok;refine wpAny_dictSet_heap (knd:=GI Y.prog Y.w) x (QI I f) j (λM i G=>?_) (by rw[aK];exact z);rw[Fn]at i;obtain⟨o,L,J,e,B,C,r,E,m⟩:=i;refine{_,wH I (by rw[d];exact gP) G ⟨o,e⟩<|TC {?_,hd,o,L,J,e,B,C,r,m},q};have:=VF (qs:=qs) (n:=n) (b:=b) (l:=l);lia
inductive Ax(P:Jz)(w:Kb)(K:Fq)(x y:V)(H:Hp)(Q:VK):Prop
 | mk(a b:eH)(qs:Ki (Pr×eH×eH))(n:Pr)(z:Pr×eH×eH)(h1:x=.ref a)(h2:y=.ref b)(h3:H a\iF P w a qs)(h4:PvOk K H qs)(h5:SqT K H b [.str n.1,.str n.2])(h6:qs.find? (λq=>decide<|q.1=n)\z)(q:Q (.ref z.2.2) H)
def ZP(P:Jz)(w:Kb)(K:Fq)(td a:TE):TE:=λσ H Q=>td σ H λx d=>a σ d λy b=>Ax P w K x y b Q
def rD{o i:Kc}{td P:TE}{pos:Nc}(N:X.A.units+1<cLine)(q:PE X o td)(hi:PE X i P)(hs:oD i):PE X (.Subscript o i pos) (ZP X.prog X.w X.K td P):=by
 intro e s σ H Q I h;refine QJ vr3.lookup hs<|bA (q e s σ H _ I h) λu C ⟨x,W,r,j,m⟩=>bA (hi e C σ W _ r m) ?_;rintro E s2 ⟨y,T,d,J,a,b,Y,n,z,ex,M,g,ok,l,B,L⟩;subst ex M;obtain rfl:u=Kz a:=j;obtain rfl:E=Kz b:=J;obtain⟨_,hd,f⟩:=XX d g ok;obtain⟨o,Z,ep,G,O,_⟩:=id f;refine{{o,G,O.1},Vi (rP N) (QI d l) f (p:=(z.2.1,Kz z.2.2)) (by rw[pE,B];rfl) ?_};exact{.ref z.2.2,T,d.tok _,U,L}
end
def OP(e f:TE):TE:=λd H Q=>∀p,H p=Kr->e d (upd H p<|.dT []) λx h=>f d h λy a=>∃b k,x=.ref b/\a p\.dT []/\a b\(.tup<|k.map kV)/\Q (.ref p) (upd a p<|.dT [(k,y)])
def Ep{X:Cx}{k v:Kc}{tk tv:TE}{pos:Nc}(P:X.A.units<cLine)(M:PE X k tk)(m:PE X v tv):PE X (.Dict [Kp k] [v] pos) (OP tk tv):=by
 intro C s σ H Q I q;have O:=I.hok.fresh<|aZ s⁻¹;have u:=I.laid (a:=s⁻¹) (o:=.dT []) (h':=s.heap.push {cls:=.type "dict",data:=.dict #[]}) (t':=s.toks) (λ_ _ q=>bY _ q) (aZ _)<|RH s.heap I.big;have hp:FM X pos [Kp k] [v] [(tk,tv)]:=fM M m FJ;rw[arm_eval_Dict,zip_pairTrees [Kp k] [v] X.env pos rfl rfl,dictDisplay_pairs _ (by intro z;cases z) (by show 1<17;decide)];refine aN<|pC<|aN ?_;unfold subDict;refine aN<|wpAny_alloc<|aN<|jM ?_;rw[bF (by show 1<=15;decide)];refine aN<|bA (hp C _ σ _ (λps H2=>match ps with | [(x,y)]=>∃b k,x=.ref b/\H2 s⁻¹\.dT []/\H2 b\(.tup<|k.map kV)/\Q (.ref s⁻¹) (upd H2 s⁻¹<|.dT [(k,y)]) | _=>Kn) u<|q _ O) ?_;rintro ws s2 ⟨ps,H2,f,T,d⟩;obtain _|⟨⟨x,y⟩,_|⟨_,_⟩⟩:=ps
 .exact d.elim
 rotate_left
 .exact d.elim
 obtain⟨b,n,rfl,e,h,d⟩:=d;cases T with
 | @cons p c ps bs hr ht=>
  cases ht;obtain⟨E,B⟩:=c;obtain⟨j,r2⟩:=hr;have W:E=Kz b:=j;subst W;refine jM<|aN ?_;obtain⟨z,hd,xs,r,J⟩:=oP f.hok e;cases r;show Kx _ _ (forIn [(Kz b,B)] PUnit.unit _) _ _ _;rw[yQ];refine aN<|aN<|wpAny_dictSet_heap (knd:=tupleKind<|cO X.prog X.w) P (pQ f.hok h) J (λh' G l=>bL ?_)<|bW _;refine bL<|bL<|bL<|bL {.ref s⁻¹,_,?_,U,d};obtain⟨o,es,ep,i,Y,Z,N,g5,L⟩:=G;refine wH f (by rw[e];exact gP) l ⟨o,i⟩ {by show 1<=sizeLine;exact cX (bM ∅),hd,_,.cons {U,?_,r2} .nil,o,es,ep,i,Y,Z,N,L};rw[aC<|oU h e λz=>nomatch z];exact h
def cF{N P:Ki zZ}{a:Scope}(j:a.kind=.function:=by rfl)(i:a.isCoroutine=false:=by rfl)(e:a.isGenerator=false:=by rfl)(f:N.Nodup:=by rfl')(d:N.take P.length=P:=by rfl)(h:∀x∈P,a.names.lookup x\.local\/a.names.lookup x\.cell:=by rfl')(b:∀y∈a.names,y.2≠.free:=by rfl'):bX N P a:=⟨j,i,e,f,d,h,b⟩
section
variable{x:zZ}{pos pos':Nc}{e:Kc}{te:TE}{scope:Scope}{N':Ki zZ}{src:Ki (Kj Kk)}
def fJ(h:scope.kind=.function:=by rfl)(f:(scope.names.all λy=>decide<|y.2≠.cell)=true:=by rfl')(a:(scope.names.all λy=>decide<|y.2=.local->scope.names.lookup y.1\.local)=true:=by rfl')(b:(scope.names.all λy=>decide<|y.2=.free->X.env.kindOf y.1\.cell\/X.env.kindOf y.1\.free)=true:=by rfl)(e:↑src=N'.length:=by rfl)
  (d:((N'.zip src).all λp=>match p.2 with | some j=>decide (X.N[j]?\p.1) && decide ((p.1,Lh)∈scope.names) | none=>Ks)=true:=by rfl):BlkN X scope N' src:=⟨h,f,a,b,e,d⟩
def sL(i:Kk)(b:X.N.Nodup)(he:PE X e te)(hi:X.N[i]?\x:=by rfl)(d:yF X.env.scope x:=by exact .inl rfl)(hs:Nb e (Kp<|.Name x pos') pos.line X.env=pure false:=by rfl)(a:X.fn x=Ks\/X.env.scope.names.lookup x\.local:=by first | exact .inl rfl | exact .inr rfl):PS X (.Assign [.Name x pos'] e pos) (gG te<|cJ i):=iU b hi d he hs a
def gL(i:Kk)(b:X.N.Nodup)(hi:X.N[i]?\x:=by rfl)(d:yF X.env.scope x:=by exact .inl rfl)(a:X.fn x=Ks\/X.env.scope.names.lookup x\.local:=by first | exact .inl rfl | exact .inr rfl):PG X (.Name x pos) (cJ i):=yR b hi d a
end
end L2
local macro_rules | `(tactic| trivial)=>`(tactic| first | exact bB | exact .head _ | exact .tail _ (.head _) | exact .tail _ (.tail _ (.head _)) | exact λ_ h=>absurd h bB | simp)
local macro_rules|`(tactic|ac_rfl)=>`(tactic|first|dsimp only[L2.eZ,L2.Cx.nox]|skip)
namespace Gn
open PySem L2
open L2.V renaming str->Yf,ref->Yg,int->Yh,non->Yi
open L2.SqL renaming of->Yl
open L2.SqT renaming of->Ym
variable{P:Jz}{w:Kb}{K:Fq}{mg:zZ->Kj iH}{base:Ka}{f:eH}{fd:Ke}
abbrev qH:zZ:="_law_hand_here"
abbrev qW:zZ:="_law_world_here"
abbrev qA:Ki zZ:=[qH,qW,"_law_env"]
abbrev qB:Ki zZ:=[qH,"_law_many"]
abbrev qC:Ki zZ:=[qH,"_law_some"]
abbrev qD:Ki zZ:=[qH,qW,"_law_env","_law_above","_law_deed_here"]
abbrev qE:Ki zZ:=[qW,"_law_kind","_law_deed_here"]
abbrev qF:Ki zZ:=[qH,qW,"_law_env","_law_level"]
abbrev qG:Ki zZ:=[qW,"_law_kind"]
abbrev qI:Ki zZ:=["program","kind","deed"]
abbrev qK:Ki zZ:=["program"]
def top(i:Kk):Kd:=PySem.Challenge.pw_surecall_k08_calls_done.main.body.getD i<|.Pass ⟨0,0,0,0⟩
abbrev QT:Kd:=top 49
abbrev OJ:Kd:=top 50
abbrev IV:Kd:=top 51
structure rM(d m t:Kl):Prop where
 d0:0<=d
 m0:0<=m
 m1:m<4611686018427387904
 t0:0<=t
def Hand(H:Hp)(a:eH)(d m t r:Kl):Prop:=H a=Kp (.lst [.int d,.int m,.int t,.int r])/\rM d m t
abbrev hl(d m t r:Kl):HO:=.lst [.int d,.int m,.int t,.int r]
inductive WF(vs:Ki V)(H:Hp)(Q:VK):Prop
 | mk(a:eH)(d m t r n:Kl)(h1:vs=[.ref a,.int n])(h2:Hand H a d m t r)(h3:t<1000000)(h4:0<n)(h5:n<1000000)(h6:∀(x d' m' t':Kl),0<=x->x<n->rM d' m' t'->t'<=t+1->Q (.int x) (upd H a<|hl d' m' t' r)):WF  vs H Q
def gY:Sp:=λvs H Q _=>WF  vs H Q
def eI(d:PE X a ta)(e:PE X b tb)(hs:MG b:=by exact λ_ _=>U):PE X (.Subscript a b pos) (dJ (oH X.K) ta tb):=lZ Eb d e hs
def yt2:bX [qH,"_law_many","_law_digit","_law_turn","_law_mixed"] qB (bP OJ):=cF
def IY:eE [a,b,c,d] 0\a:=rfl
def pP:eE [a,b,c,d] 1\b:=rfl
def LU:eE [a,b,c,d] 2\c:=rfl
def BV:eE [a,b,c,d] 3\d:=rfl
def Dj(F:Fun K "_law_take" "_law_take" OJ f fd):aS P w K mg base bO (k+1) f fd qB gY:=by
 refine F.ok yt2 (λvs H Q E h=>?_) λu A x s H vs Q E C h=>?_
 .obtain⟨a,d,m,t,r,n,rfl,_⟩:=h;rfl
 obtain⟨a,d,m,t,r,n,rfl,⟨b,ok⟩,l,e,i,q⟩:=h;exists _,aJ (cG (cC oI (eI (pv 0) aO) aO<|cI _) (aJ (sL 2 yt2.nd<|cE uA (eI (pv 0) aO)<|pv 1)<|aJ (hY (cE BY (eI (pv 0) aO)<|pv 1)<|wT (pv 0) aO vA)<|aR<|bQ<|pv 2) cS)
  (aJ (hY (cE jB (eI (pv 0) aO) aO)<|wT (pv 0) aO vA)<|aJ (sL 3 yt2.nd<|eI (pv 0) aO)<|aJ (sL 4 yt2.nd<|cE uA (cE sK (cE jB (eI (pv 0) aO)<|cE sK aO<|pv 3)<|cE jB aO<|cE sK (pv 3)<|pv 3) aO)<|aJ (hY (cE uA (cE sK (pv 4)<|cE jB (cE uA (pv 4) aO) aO) aO)<|wT (pv 0) aO vA)<|aR<|bQ<|cE uA (cE BY (eI (pv 0) aO) aO)<|pv 1)
 exists _,U,a,_,_,_,U,U,Yl b,IY,_,_,U,U,_,U;refine bH (λc=>?_) λc=>?_
 .have c':d > 0:=cT c;exists _,U,a,_,_,_,U,U,Yl b,IY,_,U,_,_,U,U,e;exists _,U,a,_,_,_,U,U,Yl b,IY,_,U,_,_,U,U,{e,∅};exists _,U,a,_,0,0,U,U,b,U;exists _,U;exact q (d % n) (d / n) m t (zA _ ∅) (yN _ e) {Kl.ediv_nonneg ok.d0 ∅,ok.m0,ok.m1,ok.t0} ∅
 .exists _,rfl,a,_,_,_,rfl,rfl,Yl b,LU,_,_,rfl,rfl;exists _,U,a,_,2,2,U,U,b,U;have z:upd H a (.lst<|[Yh d,.int m,.int t,.int r].set 2<|.int<|t+1) a\.lst [.int d,.int m,.int<|t+1,.int r]:=zb1;exists _,U,a,_,_,_,U,U,Yl z,LU;exists _,U,a,_,_,_,U,U,Yl z,pP,_,U,_,_,U,U,.inl (by constructor <;> decide),_,_,rfl,rfl;exists _,U,_,U,_,_,U,U,.inl {by have:=ok.t0;lia,∅},_,_,rfl,rfl,_,_,rfl,rfl,.inr ?_,_,_,rfl,rfl,?_
  .have h1:0<=(t+1)*(t+1):=Kl.mul_nonneg (by have:=ok.t0;lia) (by have:=ok.t0;lia);have B:(t+1)*(t+1)<=1000000*1000000:=Kl.mul_le_mul ∅ ∅ (by have:=ok.t0;lia) ∅
   constructor <;> lia
  .show(0:Kl)<2305843009213693921
   decide
  have j:0<=(m+39373*(t+1))*(48271+(t+1)*(t+1)) % 2305843009213693921:=zA _ (by decide);have o:(m+39373*(t+1))*(48271+(t+1)*(t+1)) % 2305843009213693921<2305843009213693921:=yN _ (by decide);exists _,U,_,U,_,_,U,U,?_,_,_,U,U,_,_,U,U,.inl {∅,∅},_,_,U,U,?_
  .show(0:Kl)<1000003
   decide
  .show(0:Kl)<2305843009213693907
   decide
  exists _,U,a,_,1,1,U,U,z,U;exists _,U,a,_,_,_,U,U,Yl zb1,U,_,_,U,U,{by decide,by decide},_,U,_,_,U,U,e;rw[gR];exact q _ d _ (t+1) (zA _ ∅) (yN _ e) {ok.d0,zA _ (by decide),Kl.lt_trans (yN _<|by decide) (by decide),by have:=ok.t0;lia} ∅
def FrS(S:Ki eH)(H H':Hp):Prop:=∀b o,b∉S->H b\o->H' b\o
def FrS.refl:FrS S H H:=λ_ _ _ h=>h
def FrS.trans(a:FrS S H H1)(b:FrS S H1 H2):FrS S H H2:=λc o n h=>b c o n<|a c o n h
def FrS.mono(a:FrS S H H1)(h:∀b∈S,b∈T):FrS T H H1:=λc o n q=>a c o (λz=>n<|h c z) q
def FrS.chg(h:a∈S):FrS S H (upd H a o):=λb u n q=>by
 rw[aC λz=>n<|by rw[z];exact h];exact q
open FrS renaming chg->Yk
def FrS.new(h:H a=Kr):FrS S H (upd H a o):=λb u n q=>by
 rw[aC<|aQ q h];exact q
open FrS renaming new->Yj
def FrS.seq(e:FrS S H H')(n:a∉S)(h:SqL K H a xs):SqL K H' a xs:=by
 obtain(h|⟨o,h⟩)|h:=h
 .exact .inl<|.inl<|e _ _ n h
 .exact .inl<|.inr ⟨o,e _ _ n h⟩
 .exact .inr h
def Hand.at(h:rM d m t):Hand (upd H a<|hl d m t r) a d m t r:=⟨zb1,h⟩
def Hand.new(h:Hand H a d m t r)(n:H b=Kr):Hand (upd H b o) a d m t r:=⟨by rw[aC<|aQ h.1 n];exact h.1,h.2⟩
inductive BB(K:Fq)(vs:Ki V)(H:Hp)(Q:VK):Prop
 | mk(a p:eH)(d m t r:Kl)(xs:Ki V)(h1:vs=[.ref a,.ref p])(h2:Hand H a d m t r)(h3:t<1000000)(h4:p≠a)(h5:SqL K H p xs)(h6:xs≠[])(h7:↑xs<1000)(h8:∀(x:V)(d' m' t':Kl),x∈xs->rM d' m' t'->t'<=t+1->Q x (upd H a<|hl d' m' t' r)):BB K vs H Q
def dB(K:Fq):Sp:=λvs H Q _=>BB K vs H Q
section
variable{P:Jz}{w:Kb}{K:Fq}{mg:zZ->Kj iH}{base:Ka}{f g:eH}{fd gd:Ke}
def OF:bX qC qC (bP IV):=cF
structure aV(P:Jz)(w:Kb)(K:Fq)(mg:zZ->Kj iH)(base:Ka)(k:Kk)(x:zZ)(ps:Ki zZ)(sp:Sp):Prop where
 ex:∃g gd,aS P w K mg base bO k g gd ps sp/\Binds K gd ps []/\Mh K (.ref g)=Ks/\mg x\.ref g
def bD(C:aV X.prog X.w X.K X.mg X.base k x ps sp)(hr:Room k X.A)(d:Gl X x)(a:PA X (e::es) t)(f:(x == ("__debug__":zZ))=false:=by decide)(he:starEach (e::es) X.env=(Kt,eval e X.env)::starEach es X.env:=by rfl)(i:(backTo pos<|starEach es X.env).any (·.1)=false:=by rfl):
  PE X (.Call (.Name x p) (e::es) [] pos) (gD sp [] E0 t):=by
 obtain⟨g,gd,G,b,h,m⟩:=C.ex;exact Gr G hr d m h b .nil NH a f he i
def UM(h0:0<=i)(d:i<(↑xs:Kl)):∃v,eE xs i\v/\v∈xs:=by
 have a:i.toNat<↑xs:=by lia
 have b:i=((i.toNat:Kk):Kl):=by lia
 refine{xs[i.toNat],?_,iG a};have:=kW (xs:=xs) (j:=i.toNat)<|bJ a;rw[<-b]at this;exact this
def AA(F:Fun K "_law_of" "_law_of" IV f fd)(T:aV P w K mg base k "_law_take" qB gY)(e:mg "len"=Kr):
  aS P w K mg base bO (k+1) f fd qC (dB K):=by
 refine F.ok OF (λvs H Q E h=>?_) λG A J s H vs Q E W h=>?_
 .obtain⟨a,p,d,m,t,r,xs,rfl,_⟩:=h;rfl
 obtain⟨a,p,d,m,t,r,xs,rfl,B,l,z,b,u,I,q⟩:=h;exists _,aR<|bQ<|eI (pv 1)<|bD T W rfl<|aA (pv 0)<|aA (eM jE rfl e iW<|aA (pv 1) aE) aE;have C:0<↑xs:=Ki.length_pos_iff.mpr u;refine{_,U,_,U,_,U,p,_,U,.inl b,a,d,m,t,r,_,U,B,l,∅,∅,λx L m' M O X i o=>?_};obtain⟨v,j,n⟩:=UM O X;have N:FrS [a] H (upd H a<|hl L m' M r):=Yk (by simp);exact{p,_,_,v,U,U,N.seq (by simpa using z) b,j,q v L m' M n i o}
end
abbrev nG:Kd:=top 52
abbrev lets:zZ:="abcdefghijklmnopqrstuvwxyz"
def gJ(pre suf:zZ)(c:Kk):zZ:=pre++⟨#[c]⟩++suf
def qT(pre suf:zZ)(c:Kk):zZ:=gJ pre suf c++(if gJ pre suf c=("own":zZ) then("q":zZ) else Qr)
def GV(x y:zZ):(x++y).cps=x.cps++y.cps:=rfl
def VO(h:gJ pre suf c=gJ pre suf c'):c=c':=by
 have e:(pre.cps++#[c])++suf.cps=(pre.cps++#[c'])++suf.cps:=cH zZ.cps h;have a:=cH Rl e;simp at a;exact a
def Ib:(gJ pre suf c).cps.size=(gJ pre suf c').cps.size:=by
 unfold gJ;simp[GV]
def Ai(h:qT pre suf c=qT pre suf c'):c=c':=by
 have j:=cH (λz:zZ=>z.cps.size) h;have hl:=Ib (pre:=pre) (suf:=suf) (c:=c) (c':=c');have d:("q":zZ).cps.size=1:=by decide
 have i:Qr.cps.size=0:=by decide
 unfold qT at h j
 by_cases l:gJ pre suf c=("own":zZ)
 .by_cases h2:gJ pre suf c'=("own":zZ)
  .exact VO<|l.trans h2.symm
  .rw[bF l,bC h2]at j;simp only[GV,pD,d,i]at j;lia
 .by_cases h2:gJ pre suf c'=("own":zZ)
  .rw[bC l,bF h2]at j;simp only[GV,pD,d,i]at j;lia
  .rw[bC l,bC h2]at h;have e:=cH (λz:zZ=>z.cps.toList) h;simp only[GV,Ko.toList_append]at e;have f:(gJ pre suf c).cps.toList=(gJ pre suf c').cps.toList:=Ki.append_cancel_right e;refine VO (pre:=pre) (suf:=suf) ?_;cases m:gJ pre suf c with
   | mk a=>cases n:gJ pre suf c' with
    | mk b=>
     rw[m,n]at f;have:a=b:=Ko.toList_inj.mp f;rw[this]
def eX(first a:Kl)(k:Kk):Nat:=(97+(first+a*(k:Kl)) % 26).toNat
def mN(pre suf:zZ)(first a:Kl)(n:Kk):Ki zZ:=(Mx n).map λk=>qT pre suf<|eX first a k
def YF(hs:stride∈([1,3,5,7,9,11]:Ki Kl))(h0:0<=first)(b:j<=12)(d:k<=12)(h:eX first stride j=eX first stride k):j=k:=by
 have a:∀s∈([1,3,5,7,9,11]:Ki Kl),∀j k:Fin 13,(s*(j.val:Kl)-s*(k.val:Kl)) % 26=0->j=k:=by rfl'
 have e:(first+stride*(j:Kl)) % 26=(first+stride*(k:Kl)) % 26:=by unfold eX at h;lia
 refine Fin.mk.inj<|a stride hs {j,Ul b} {k,Ul d} ?_;rw[<-Kl.add_sub_add_left (k:=first)];exact Kl.emod_eq_emod_iff_emod_sub_eq_zero.mp e
def YQ(hs:stride∈([1,3,5,7,9,11]:Ki Kl))(h0:0<=first)(h:n<=12):(mN pre suf first stride n).Nodup:=by
 unfold mN;refine Ki.Pairwise.map _ (R:=λj k=>j≠k/\j<n/\k<n) (λj k ⟨m,o,i⟩ e=>m ?_) ?_
 .exact YF hs h0 ∅ ∅<|Ai e
 .have:(Mx n).Pairwise (λj k=>j<k):=Ki.pairwise_lt_range;refine Ki.Pairwise.imp_of_mem (λ{a b} d f l=>?_) this;rw[Oj]at d f;exact{∅,d,f}
def Ac:mN pre suf first stride (n+1)=mN pre suf first stride n++[qT pre suf<|eX first stride n]:=by
 unfold mN;rw[Vb,bT];rfl
def YC(h0:0<=i)(b:i<26):eE lets.cps.toList i=Kp (97+i).toNat:=by
 have a:∀j:Fin 26,lets.cps.toList[j.val]?\(97+j.val):=by rfl'
 have e:i=((i.toNat:Kk):Kl):=by lia
 have:=kW (xs:=lets.cps.toList) (j:=i.toNat)<|a ⟨i.toNat,by lia⟩;rw[<-e]at this;rw[this]
 congr 1
 simp only;lia
def odd:Ki zZ:=["end","or","main","gives","kind","under","late","deed","call","say","make","take","put"]
def Hm:odd.Nodup:=by rfl'
def ZW:∀x∈odd,x≠("own":zZ)/\x≠("":zZ):=by rfl'
def Ie:∀x∈mN pre suf first stride n,x≠("own":zZ)/\x≠("":zZ):=by
 intro x a;obtain⟨k,_,rfl⟩:=wx6.mp a
 constructor
 .unfold qT
  split
  .next h=>rw[h];rfl'
  .next h=>
   intro z;have e:gJ pre suf (eX first stride k)++Qr=gJ pre suf (eX first stride k):=cH zZ.mk Ko.append_empty;exact h<|e▸z
 .intro z;have h:=cH (λs=>s.cps.size) z;have h:((pre.cps.push (eX first stride k)++suf.cps)++_:Ko Kk).size=0:=h;rw[pD,pD,Us]at h;lia
inductive WS(vs:Ki V)(H:Hp)(Q:VK):Prop
 | mk(a:eH)(d m t r:Kl)(n:Kk)(h1:vs=[.ref a,.int (n:Kl)])(h2:Hand H a d m t r)(h3:t+10<1000000)(h4:n<=12)(h5:∀(p:eH)(ws:Ki zZ)(d' m' t':Kl)(H':Hp),FrS [a] H H'->Hand H' a d' m' t' r->t'<=t+10->H p=Kr->H' p\(.lst<|ws.map Yf)->↑ws=n->ws.Nodup->(∀x∈ws,x≠("own":zZ)/\x≠("":zZ))->Q (.ref p) H'):WS  vs H Q
def HF:Sp:=λvs H Q _=>WS  vs H Q
def XH{c:Const}{j}{pos:Nc}{a:Ki Kc}{env:Rg}:starEach (.Constant c j pos::a) env=(Kt,eval (.Constant c j pos) env)::starEach a env:=by
 first | rfl | (rw[starEach])
def EF{X:Cx}{x:zZ}{j}{pos:Nc}{a:Ki Kc}{t:TA}(h:PA X a t):PA X (.Constant (.str x) j pos::a) (bG (tC<|.str x) t):=aA aX h XH
def dV{X:Cx}{x:Kl}{j}{pos:Nc}{a:Ki Kc}{t:TA}(h:PA X a t):PA X (.Constant (.int x) j pos::a) (bG (tC<|.int x) t):=aA aO h XH
def CU:Ki Kc->Kj (Ki zZ)
 | []=>Kp []
 | .Constant (.str x) _ _::r=>(CU r).map (x::·)
 | _=>Kr
def Ek{X:Cx}:∀(b:Ki Kc)(ss:Ki zZ),CU b\ss->PA X b (λ_ H Q=>Q (ss.map Yf) H):=λb=>b.recOn
 (λss h=>by
  cases h;exact aE)
 λe r a ss h=>by
  cases e with
  | Constant c j i=>
   cases c with
   | str x=>
    have h:(CU r).map (x::·)\ss:=h;cases d:CU r with
    | none=>rw[d]at h;cases h
    | some f=>
     rw[d]at h;cases h;exact EF<|a f d
   | _=>cases h
  | _=>cases h
def XB(e:Kc):Kj (Ki zZ):=match e with
 | .List a _=>CU a
 | _=>Kr
def Ig{X:Cx}{e:Kc}{ss:Ki zZ}(h:XB e\ss):PE X e (λ_ H Q=>↑ss<=sizeLine/\∀p,H p=Kr->Q (.ref p) (upd H p<|.lst<|ss.map Yf)):=by
 cases e with
 | List f pos=>
  have q:=cU (pos:=pos)<|Ek (X:=X) f ss h;intro b s d H Q I a;exact q b s d H Q I {by rw[aK];exact a.1,a.2}
 | _=>cases h
def nL(l:Ki Kd):Kc:=match l with
 | .Assign _ v _::_=>v
 | _=>.Constant .none 0 ⟨0,0,0,0⟩
def OG(l:Ki Kd)(v:Kc):Ki Kd:=match l with
 | .Assign t _ p::r=>.Assign t v p::r
 | l=>l
def body{X:Cx}{l a:Ki Kd}{t:TS}(e:l=a)(h:PSs X a t):PSs X l t:=by subst e;exact h
def QN(xs:Ki V){n:Kk}(h:n<=↑xs):dE xs Kr (Kp (n:Kl))=xs.take n:=by
 unfold dE;rw[HT.TF,HT.FW,Ob h];simp
def RK(xs:Ki V){n:Kk}(h:n<=↑xs):dE xs (Kp (n:Kl)) Kr=xs.drop n:=by
 unfold dE;rw[HT.TF,HT.FW,Ob h];exact fI (by rw[nZ];lia)
def oM{a p:eH}{H H':Hp}{d m t r:Kl}(f:FrS [a] H H')(h:Hand H' a d m t r)(hp:H' p=Kr):H p=none:=by
 cases i:H p with
 | none=>rfl
 | some o=>
  have b:p≠a:=λe=>by rw[e,h.1]at hp;cases hp
  have:=f p o (by simpa using b) i;rw[hp]at this;cases this
inductive pH(H:Hp)(a po:eH)(n:Kk)(t2 r:Kl)(i:Kk)(σ:St)(Hx:Hp):Prop
 | mk(stem:zZ)(kx:Kj V)(dx mx tx:Kl)(h1:σ=[Kp<|.ref a,Kp<|.int n,Kp<|.ref po,Kr,Kp<|.str lets,Kp<|.str stem,kx,Kr,Kr,Kr,Kr])(h2:↑stem<=i)(h3:FrS [a] H Hx)(h4:Hand Hx a dx mx tx r)(h5:tx<=t2+i):pH H a po n t2 r i σ Hx
inductive rA(H:Hp)(a po pw:eH)(n:Kk)(r d m t v u st:Kl)(stem:zZ)(i:Kk)(σ:St)(Hx:Hp):Prop
 | mk(kx wx:Kj V)(h1:σ=[Kp<|.ref a,Kp<|.int n,Kp<|.ref po,Kp<|.int v,Kp<|.str lets,Kp<|.str stem,kx,Kp<|.int u,Kp<|.int st,Kp<|.ref pw,wx])(h2:FrS [a] H Hx)(h3:Hand Hx a d m t r)(h4:Hx pw\(.lst<|(mN (Lk stem Kr<|some u) (Lk stem (Kp u) Kr) v st i).map Yf)):rA H a po pw n r d m t v u st stem i σ Hx
section
variable{P:Jz}{w:Kb}{K:Fq}{mg:zZ->Kj iH}{base:Ka}{f g:eH}{fd gd:Ke}
abbrev rQ:Ki zZ:=["_law_hand_here","_law_many","_law_odd","_law_first","_law_letters","_law_stem","_law_k","_law_at","_law_stride","_law_words_here","_law_word"]
def zm4:bX rQ ["_law_hand_here","_law_many"] (bP nG):=⟨rfl,rfl,rfl,by rfl',rfl,by rfl',by rfl'⟩
def Jg{k:Kk}(F:Fun K "_law_words" "_law_words" nG f fd)(T:aV P w K mg base k "_law_take" ["_law_hand_here","_law_many"] gY)(ml:mg "len"=Kr)(mr:mg "range"=Kr)(mi:mg "int"=Kr):
  aS P w K mg base bO (k+1) f fd ["_law_hand_here","_law_many"] HF:=by
 refine F.ok zm4 (λvs H Q E h=>?_) λbm A outer s H vs Q E hr h=>?_
 .obtain⟨a,d,m,t,r,n,rfl,_⟩:=h;rfl
 obtain⟨a,d,m,t,r,n,rfl,hh,ht,hn,q⟩:=h;have I:∀{n:Kk},n<=1000->n<=sizeLine:=λh=>cX<|bM h;have eB:eG nG=OG (eG nG) (nL<|eG nG):=rfl;have hO:XB (nL<|eG nG)\odd:=by rfl'
 have aw:∀(x:zZ)(p:Nc)(n:Kk)(env:Rg),Nb (nL<|eG nG) (Kp<|.Name x p) n env=pure false:=λ_ _ _ _=>rfl;rw[eB];generalize nL (eG nG)=L at hO aw;exists _,aJ (iU (i:=2) zm4.nd rfl (iL U) (Ig hO)<|aw _ _ _ _)
  (aJ (cG (cC eA (bD T hr rfl<|aA (pv 0)<|aA aO aE) aO<|cI _) (aJ (iU (i:=3) zm4.nd rfl (iL rfl)<|bD T hr rfl<|aA (pv 0)<|aA aO aE)<|aR<|bQ<|jY qS (cE sU (jY qS (pv 2) (jS<|pv 3) kT)<|jY qS (pv 2) kT<|jS<|pv 3) kT<|jS<|pv 1) cS) (aJ (iU (i:=4) zm4.nd rfl (iL rfl) aX) (aJ (iU (i:=5) zm4.nd rfl (iL rfl) aX) (aJ (eU dU rfl (mX rfl mr<|aA (bD T hr rfl<|aA (pv 0)<|aA aO aE) aE) (yR (i:=6) zm4.nd rfl<|iL rfl)<|aR<|iU (i:=5) zm4.nd rfl (iL rfl)<|cE IU (pv 5)<|lZ XT (pv 4) (bD T hr rfl<|aA (pv 0)<|aA aO aE) λ_ _=>U) (aJ (iU (i:=7) zm4.nd rfl (iL rfl)<|bD T hr rfl<|aA (pv 0)<|aA (cE jB (eM Dc rfl ml iW<|aA (pv 5) aE) aO) aE) (aJ (iU (i:=3) zm4.nd rfl (iL rfl)<|bD T hr rfl<|aA (pv 0)<|aA aO aE) (aJ (iU (i:=8) zm4.nd rfl (iL rfl)<|eI (cU<|dV<|dV<|dV<|dV<|dV<|dV aE)<|bD T hr rfl<|aA (pv 0)<|aA aO aE) (aJ (iU (i:=9) zm4.nd rfl (iL rfl)<|cU aE) (aJ (eU dU rfl (mX rfl mr<|aA (pv 1) aE) (yR (i:=6) zm4.nd rfl<|iL rfl)<|aJ (iU (i:=10) zm4.nd rfl (iL rfl)<|cE IU (cE IU (jY RJ (pv 5) kT<|jS<|pv 7)<|lZ XT (pv 4) (cE uA (cE jB (pv 3)<|cE sK (pv 8)<|pv 6) aO) λ_ _=>U)<|jY RJ (pv 5) (jS<|pv 7) kT)<|aR<|dH<|eW eQ fU fS fL (pv 9)<|aA (cE IU (pv 10)<|cE ZC aX<|fF FE rfl mi (by rfl')<|aA (mY eA (pv 10) aX<|cI _) aE) aE)
  (aR<|bQ<|pv 9))))))))))
 refine{I (by show 13<=1000;decide),λB ag=>?_};have b8:Hand (upd H B<|.lst<|odd.map Yf) a d m t r:=hh.new ag;have bb:FrS [a] H (upd H B<|.lst<|odd.map Yf):=Yj ag;have b3:B≠a:=λe=>by rw[e,hh.1]at ag;cases ag
 refine{_,U,a,d,m,t,r,8,U,b8,∅,by decide,by decide,λx X O t1 x0 x1 ba br=>?_};have ak:FrS [a] H _:=bb.trans (Yk (a:=a) (o:=hl X O t1 r)<|by simp);have a9:upd (upd H B<|.lst<|odd.map Yf) a (hl X O t1 r) B\(.lst<|odd.map Yf):=by rw[aC b3,zb1]
 have aj:Hand (upd (upd H B<|.lst<|odd.map Yf) a<|hl X O t1 r) a X O t1 r:=Hand.at ba;generalize upd (upd H B<|.lst<|odd.map Yf) a (hl X O t1 r)=H2 at ak a9 aj ⊢;exists U,_,U;refine bH (λc=>?_) λc=>?_
 .refine⟨_,rfl,a,X,O,t1,r,13,rfl,aj,∅,by decide,by decide,λy M J G y0 y1 aq bl=>?_⟩;have a5:FrS [a] H _:=ak.trans (Yk (a:=a) (o:=hl M J G r)<|by simp);have a2:upd H2 a (hl M J G r) B\(.lst<|odd.map Yf):=by rw[aC b3];exact a9
  have a6:Hand (upd H2 a<|hl M J G r) a M J G r:=Hand.at aq;generalize upd H2 a (hl M J G r)=H3 at a5 a2 a6 ⊢;obtain⟨j,rfl⟩:∃j:Kk,y=(j:Kl):=⟨y.toNat,by lia⟩;have hj:j<=↑(odd.map Yf):=by show j<=13;lia
  refine{_,U,_,U,_,U,B,_,U,Yl a2,λp1 af=>?_};have e1:∀o,upd H3 p1 o B\(.lst<|odd.map Yf):=λo=>by rw[aC<|aQ a2 af];exact a2
  refine{_,U,_,U,_,U,B,_,U,Yl<|e1 _,λp2 a4=>?_};have e2:p1≠p2:=λz=>by rw[<-z,zb1]at a4;cases a4
  rw[RK _ hj,QN _ hj]at *;have b6:↑((odd.map Yf).drop j)+↑((odd.map Yf).take j)<=sizeLine:=by
   rw[nZ,eS];exact I (by show(odd.map Yf).length-j+min j ↑(odd.map Yf)<=1000;have:↑(odd.map Yf)=13:=rfl;lia)
  refine{p1,p2,_,_,U,U,by rw[aC e2];exact zb1,zb1,b6,λp3 ah=>?_};refine{_,U,_,U,p3,_,U,Yl zb1,λp4 ac=>?_};have an:(odd.map Yf).drop j++(odd.map Yf).take j=((odd.drop j++odd.take j)).map Yf:=by rw[bT,AU,yG]
  have au:↑(odd.drop j++odd.take j)=13:=by
   rw[bN,nZ,eS];have:↑odd=13:=rfl;lia
  have bc:(odd.drop j++odd.take j).Nodup:=by
   have hp:(odd.drop j++odd.take j).Perm odd:=Ki.perm_append_comm.trans (by rw[Ru]);exact hp.nodup_iff.mpr Hm
  rw[an]at ac ⊢;rw[QN _<|by rw[aK,au];lia];have f1:FrS [a] H3 (upd H3 p1<|.lst<|(odd.map Yf).drop j):=Yj af;refine q p4 ((odd.drop j++odd.take j).take n) M J G _ (a5.trans<|(f1.trans<|Yj a4).trans<|(Yj ah).trans<|Yj ac) (((((a6.new af).new a4).new ah).new ac)) ∅ ?_ (by rw[zb1,yG]) (by rw[eS,au];lia) (bc.sublist<|Pj _ _) λx hx=>ZW x (by have:=EM hx;obtain h|h:=wz2.mp this;exact Ol h;exact EM h);exact oM (H':=upd (upd (upd H3 p1 _) p2 _) p3 _) (a5.trans<|(f1.trans<|Yj a4).trans<|Yj ah) (((a6.new af).new a4).new ah) ac
 .-- the loop that makes the l
  refine{_,U,a,X,O,t1,r,5,U,aj,∅,by decide,by decide,λy M J G y0 y1 aq bl=>?_};have a5:FrS [a] H _:=ak.trans (Yk (a:=a) (o:=hl M J G r)<|by simp);have a6:Hand (upd H2 a<|hl M J G r) a M J G r:=Hand.at aq;generalize upd H2 a (hl M J G r)=H3 at a5 a6 ⊢;refine{_,U,∅,∅,uB (lo:=0) (n:=y.toNat) (pH H a B n G r) {Qr,Kr,M,J,G,U,aZ _,a5,a6,∅} (λi σ Hx hi ⟨l,kx,dx,mx,tx,N,bk,al,ao,bf⟩=>?_) λσ Hx ⟨l,kx,dx,mx,tx,N,bk,al,ao,bf⟩=>?_}
  .subst N;refine{_,U,_,U,_,U,a,dx,mx,tx,r,26,U,ao,∅,by decide,by decide,λz d3 m3 t3 z0 z1 b7 bu=>?_};exists lets,z,_,U,U,I (by decide),YC z0 z1;exists l,_,U,U,?_
   .show ↑l+1<=sizeLine;exact I ∅
   .refine⟨_,_,d3,m3,t3,rfl,?_,al.trans (Yk<|by simp),Hand.at b7,by lia⟩;show(l.cps++#[_]).size<=i+1;rw[pD];show ↑l+1<=i+1;lia
  .subst N;have bq:(y.toNat:Kl)<=4:=by lia
   refine{_,U,_,U,_,U,I ∅,_,_,U,U,a,dx,mx,tx,r,_,U,ao,∅,∅,∅,λu d4 m4 t4 u0 u1 bg bp=>?_};have ay:FrS [a] H _:=al.trans (Yk (a:=a) (o:=hl d4 m4 t4 r)<|by simp);have az:Hand (upd Hx a<|hl d4 m4 t4 r) a d4 m4 t4 r:=Hand.at bg;generalize upd Hx a (hl d4 m4 t4 r)=H4 at ay az ⊢;refine{_,U,a,d4,m4,t4,r,26,U,az,∅,by decide,by decide,λv d5 m5 t5 v0 v1 be bs=>?_};have b2:FrS [a] H _:=ay.trans (Yk (a:=a) (o:=hl d5 m5 t5 r)<|by simp);have am:Hand (upd H4 a<|hl d5 m5 t5 r) a d5 m5 t5 r:=Hand.at be;generalize upd H4 a (hl d5 m5 t5 r)=H5 at b2 am ⊢;refine{I (by show 6<=1000;decide),λps ae=>?_};have bj:=am.new (o:=.lst [.int 1,.int 3,.int 5,.int 7,.int 9,.int 11]) ae;have ai:ps≠a:=λe=>by rw[e,am.1]at ae;cases ae
   refine{_,U,a,d5,m5,t5,r,6,U,bj,∅,by decide,by decide,λz Z m6 Y z0 z1 b5 bo=>?_};obtain⟨sv,bi,av⟩:=UM (xs:=[Yh 1,.int 3,.int 5,.int 7,.int 9,.int 11]) z0 z1;exists ps,_,_,sv,U,U,Yl (by rw[aC ai,zb1]),bi;have b0:FrS [a] H _:=(b2.trans<|Yj (o:=.lst [.int 1,.int 3,.int 5,.int 7,.int 9,.int 11]) ae).trans (Yk (a:=a) (o:=hl Z m6 Y r)<|by simp);have ar:Hand (upd (upd H5 ps<|.lst [.int 1,.int 3,.int 5,.int 7,.int 9,.int 11]) a<|hl Z m6 Y r) a Z m6 Y r:=Hand.at b5;obtain⟨C,rfl,aa⟩:∃st:Kl,sv=.int st/\st∈([1,3,5,7,9,11]:Ki Kl):=by
    simp only[wx0,bB,dO]at av;obtain rfl|rfl|rfl|rfl|rfl|rfl:=av
    all_goals exact{_,U,by simp}
   have b9:0<=C/\C<=11:=by
    simp only[wx0,bB,dO]at aa;lia
   refine{I (by decide),λW a8=>?_};have a3:=oM b0 ar a8;have ax:FrS [a] H _:=b0.trans<|Yj (o:=.lst []) a8;have b1:=ar.new (o:=.lst []) a8;have ab:upd (upd (upd H5 ps<|.lst [.int 1,.int 3,.int 5,.int 7,.int 9,.int 11]) a<|hl Z m6 Y r) W (.lst []) W\.lst []:=zb1;have ap:W≠a:=λe=>by rw[e,ar.1]at a8;cases a8
   generalize upd (upd (upd H5 ps<|.lst [.int 1,.int 3,.int 5,.int 7,.int 9,.int 11]) a<|hl Z m6 Y r) W (.lst [])=H8 at ax b1 ab ⊢;refine{_,U,n,U,∅,∅,uB (lo:=0) (n:=(n:Kl).toNat) (rA H a B W n r Z m6 Y v u C l) ⟨kx,Kr,rfl,ax,b1,ab⟩ (λi σ Hx hi ⟨kx,wx,N,as,ad,a7⟩=>?_) λσ Hx ⟨kx,wx,N,as,ad,a7⟩=>?_}
   .subst N;have bn:i<n:=by lia
    have b4:↑l<=sizeLine:=I ∅;have pl:=Txt.slice_le l Kr<|some u;have sl:=Txt.slice_le l (Kp u) Kr;have bd:0<=(v+C*(0+(i:Kl))) % 26:=zA _ (by decide);have bh:(v+C*(0+(i:Kl))) % 26<26:=yN _ (by decide);exists _,U,_,U,u,U,l,U,b4,_,U,_,U,_,U,_,U,_,_,U,U,.inl {∅,∅},_,_,U,U,_,_,U,U,by show(0:Kl)<26;decide,lets,_,_,rfl,rfl,I (by decide),YC bd bh,
     _,_,rfl,rfl,?_,_,rfl,_,rfl,u,rfl,l,rfl,b4,_,_,rfl,rfl,?_
    .show(Lk l Kr<|some u).length+1<=sizeLine;exact I ∅
    .have e:↑(Lk l Kr (Kp u)++(⟨#[(97+(v+C*(0+(i:Kl))) % 26).toNat]⟩:zZ))=↑(Lk l Kr<|some u)+1:=by
      show(_++#[_]).size=_;rw[pD];rfl
     show(Lk l Kr (Kp u)++(⟨#[(97+(v+C*(0+(i:Kl))) % 26).toNat]⟩:zZ)).length+↑(Lk l (Kp u) Kr)<=sizeLine;rw[e];exact I ∅
    have ew:Lk l Kr (Kp u)++(⟨#[(97+(v+C*(0+(i:Kl))) % 26).toNat]⟩:zZ)++Lk l (Kp u) Kr=gJ (Lk l Kr<|some u) (Lk l (Kp u) Kr) (eX v C i):=by
     unfold gJ eX;rw[Wp]
    have bt:↑(gJ (Lk l Kr<|some u) (Lk l (Kp u) Kr)<|eX v C i)<=20:=by
     show((_++#[_])++_).size<=20;rw[pD,pD];show(Lk l Kr<|some u).length+1+↑(Lk l (Kp u) Kr)<=20;lia
    rw[ew];generalize hw:gJ (Lk l Kr<|some u) (Lk l (Kp u) Kr) (eX v C i)=wd at *;refine{_,U,.inl {U,_,Yl a7},_,U,_,U,U,.inr {_,U,_,_,U,U,?_,_,_,U,U,?_,W,_,_,U,U,a7,?_,?_}}
    .cases decide (Yf wd=Yf ("own":zZ)) <;> simp
    .have h1:∀c:Prop,[Decidable c]->↑(if c then Qr else("q":zZ))<=1:=λc _=>by
      by_cases h:c
      .rw[bF h];decide
      .rw[bC h];decide
     have h2:=h1<|(if decide (Yf wd=Yf ("own":zZ))=Ks then(1:Kl) else 0)=0;exact I ∅
    .have:↑((mN (Lk l Kr<|some u) (Lk l (Kp u) Kr) v C i).map Yf)=i:=by
      unfold mN;rw[aK,aK,Ue]
     rw[this];exact bM ∅
    .exists _,_,rfl,?_,?_
     .intro b o hb hx;rw[aC λe=>by rw[e,a3]at hx;cases hx];exact as b o hb hx
     .exact⟨by rw[aC<|bS ap];exact ad.1,ad.2⟩
     .rw[zb1,Ac,bT];have e1:qT (Lk l Kr<|some u) (Lk l (Kp u) Kr) (eX v C i)=wd++(if (if decide (Yf wd=Yf ("own":zZ))=Ks then(1:Kl) else 0)=0 then Qr else("q":zZ)):=by
       unfold qT;rw[hw]
       by_cases h:wd=("own":zZ)
       .rw[bF h,bF (dP<|by rw[h]),bC<|by decide]
       .have h':¬(Yf wd=Yf ("own":zZ)):=λz=>h<|Yf.inj z;rw[bC h,gE h'];rfl
      rw[e1];rfl
   .subst N;exists _,U;rw[EH]at a7;refine q W _ Z m6 Y Hx as ad ∅ a3 a7 (by unfold mN;rw[aK,Ue]) (YQ aa v0 hn) Ie
end
inductive SV(K:Fq)(vs:Ki V)(H:Hp)(Q:VK):Prop
 | mk(p:eH)(ns:Ki Kl)(k:Kk)(h1:vs=[.ref p,.int (k:Kl)])(h2:SqL K H p (ns.map Yh))(h3:↑ns<=63)(h4:k<=63)(h5:∀(a:eH)(d m:Kl),H a=Kr->rM d m 0->Q (.ref a) (upd H a<|hl d m 0 0)):SV K vs H Q
def QK(K:Fq):Sp:=λvs H Q _=>SV K vs H Q
def xt6:bX ["_law_script","_law_k","_law_cell"] ["_law_script","_law_k"] (bP QT):=cF
def WN(h0:0<=c)(a:0<=k)(d:k<=63)(b:Km):rM (c*(if b then 1 else 0)) (c % 2305843009213693951+7919*k+11) 0:=by
 have f:0<=c % 2305843009213693951:=zA _ (by decide);have e:c % 2305843009213693951<2305843009213693951:=yN _ (by decide);refine{?_,∅,∅,Qb 0};cases b
 .show 0<=c*0;lia
 .show 0<=c*1;lia
def ZB(F:Fun K "_law_hand" "_law_hand" QT f fd)(l:mg "len"=Kr)(x:mg "abs"=Kr)(u:mg "int"=Kr):aS P w K mg base bO (k+1) f fd ["_law_script","_law_k"] (QK K):=by
 refine F.ok xt6 (λvs H Q E h=>?_) λC A G s H vs Q E J h=>?_
 .obtain⟨p,b,k,rfl,_⟩:=h;rfl
 obtain⟨p,b,j,rfl,e,B,z,q⟩:=h;exists _,aJ (sL 2 xt6.nd aO)
  (aJ (cG (cC yU (pv 1) (eM jE rfl l iW<|aA (pv 0) aE)<|cI _) (aR<|sL 2 xt6.nd<|eM Bu rfl x (by rfl')<|aA (eI (pv 0)<|pv 1) aE) cS)
  (aR (bQ (cU (aA (cE sK (pv 2)<|fF FE rfl u (by rfl')<|aA (mY PQ (pv 2) (cE sZ aO aO)<|cI _) aE)
   (aA (cE jB (cE jB (cE uA (pv 2) aO)<|cE sK aO<|pv 1) aO)<|aA aO<|aA aO aE))))))
 have i:∀{n:Kk},n<=1000->n<=sizeLine:=λh=>cX<|bM h;have hl:↑(b.map Yh)=↑b:=Nu _;exists _,U,_,U,p,_,U,.inl e,_,_,U,U,_,U;refine bH (λc=>?_) λc=>?_
 .have c':(j:Kl)<((↑(b.map Yh):Kk):Kl):=cT c;rw[hl]at c';have o:j<↑b:=by lia
  have m:eE (b.map Yh) (j:Kl)\.int b[j]:=kW (by rw[bR,bJ o];rfl);exists _,U,_,U,p,_,_,_,U,U,e,m,_,U;have r:0<=(if b[j]<0 then -b[j] else b[j]):=by split <;> lia
  refine{_,U,_,U,_,_,U,U,{by decide,by decide,by decide},_,_,U,U,.inr {_,U,_,_,U,U,.inr ?_,_,U,_,_,U,U,by show(0:Kl)<2305843009213693951;decide,_,U,_,_,U,U,.inl (by constructor <;> decide),_,_,U,U,_,_,U,U,i (by show 4<=1000;decide),λa d=>?_}}
  .cases decide ((if b[j]<0 then -b[j] else b[j])≥10 ^ (18:Kl).toNat) <;> (constructor <;> decide)
  .exact q a _ _ d<|WN r ∅ ∅ _
 .refine⟨_,rfl,_,rfl,_,_,rfl,rfl,⟨by decide,by decide,by decide⟩,_,_,rfl,rfl,.inr ⟨_,rfl,_,_,rfl,rfl,.inr ?_,_,rfl,_,_,rfl,rfl,by show(0:Kl)<2305843009213693951;decide,_,rfl,_,_,rfl,rfl,.inl (by constructor <;> decide),_,_,rfl,rfl,_,_,rfl,rfl,i (by show 4<=1000;decide),λa d=>?_⟩⟩
  .cases decide ((0:Kl)≥10 ^ (18:Kl).toNat) <;> (constructor <;> decide)
  .exact q a _ _ d<|WN (Qb 0) ∅ ∅ _
abbrev Tr:=Ki<|zZ×Kj zZ
structure TrOk(tr:Tr):Prop where
 nd:(tr.map (·.1)).Nodup
 up:∀(i:Kk) n e,tr[i]?\(n,Kp e)->∃j,j<i/\∃g,tr[j]?\(e,g)
def TrOk.nil:TrOk []:=⟨lC,λi n e h=>by simp at h⟩
def TrOk.snoc(h:TrOk tr)(m:n∉tr.map (·.1))(he:∀x,e\x->x∈tr.map (·.1)):TrOk (tr++[(n,e)]):=by
 refine{?_,λi f b s=>?_}
 .rw[bT];exact SW h.nd m
 .by_cases o:i<↑tr
  .rw[lI o]at s;obtain⟨j,a,g,d⟩:=h.up i f b s;exact{j,a,g,by rw[lI ∅];exact d}
  .rw[jU ∅]at s;have w:i-↑tr=0:=by
    cases u:i-↑tr with
    | zero=>rfl
    | succ k=>rw[u]at s;simp at s
   rw[w]at s;simp only[JI,Og,Prod.mk.injEq]at s;obtain⟨_,q⟩:=s;obtain⟨p,z,r⟩:=wx6.mp<|he b q;obtain⟨j,a,l⟩:=oE z;exact{j,∅,p.2,by rw[lI a,bJ a,l,<-r]}
def TrOk.one{tr:Tr}(h:TrOk tr){i j:Kk}{n:zZ}{a b:Kj zZ}(hi:tr[i]?\(n,a))(f:tr[j]?\(n,b)):i=j:=by
 have e:(tr.map (·.1))[i]?\n:=by rw[bR,hi];rfl
 have d:(tr.map (·.1))[j]?\n:=by rw[bR,f];rfl
 obtain⟨m,e⟩:=ww4.mp e;obtain⟨l,d⟩:=ww4.mp d;exact(yY h.nd).mp<|e.trans d.symm
inductive Up(tr:Tr):zZ->Ki zZ->Prop
 | root {i:Kk} {n:zZ}:tr[i]?\(n,Kr)->Up tr n [n]
 | step {i:Kk} {n e:zZ} {l:Ki zZ}:tr[i]?\(n,Kp e)->Up tr e l->Up tr n (n::l)
def Up.exists(h:TrOk tr):∀(i:Kk) n g,tr[i]?\(n,g)->∃l,Up tr n l:=by
 intro i
 induction i using Vf with
 | ind i m=>
  intro n g d;cases g with
  | none=>exact{_,.root d}
  | some e=>
   obtain⟨j,b,f,a⟩:=h.up i n e d;obtain⟨l,hl⟩:=m j b e f a;exact{_,.step d hl}
def Up.inj{tr:Tr}(h:TrOk tr){n:zZ}{l d:Ki zZ}(a:Up tr n l)(b:Up tr n d):l=d:=by
 induction a generalizing d with
 | root f=>
  cases b with
  | root _=>rfl
  | step e _=>have:=h.one f e;subst this;rw[f]at e;cases e
 | step f _ i=>
  cases b with
  | root e=>have:=h.one f e;subst this;rw[f]at e;cases e
  | step e j=>
   have:=h.one f e;subst this;rw[f]at e;cases e;rw[i j]
def Up.mem(a:Up tr n l):∀x∈l,x∈tr.map (·.1):=by
 induction a with
 | root d=>
  intro x b;rw[wx1]at b;subst b;exact wx6.mpr {_,dC d,U}
 | step d _ e=>
  intro x b;obtain rfl|b:=wx0.mp b
  .exact wx6.mpr ⟨_,dC d,rfl⟩
  .exact e x b
def Up.len{tr:Tr}(h:TrOk tr):∀(i:Kk) n g l,tr[i]?\(n,g)->Up tr n l->↑l<=i+1:=by
 intro i
 induction i using Vf with
 | ind i o=>
  intro n g l q hl;cases hl with
  | root _=>show 1<=i+1;lia
  | @step s _ e f d m=>
   have:=h.one q d;subst this;obtain⟨j,b,r,a⟩:=h.up i n e d;have:=o j b e r f a m;show ↑f+1<=i+1;lia
def aY:Kj zZ->V
 | none=>.non
 | some e=>.str e
abbrev LZ:Kd:=top 1
def KindsAt(H:Hp)(p:eH)(tr:Tr):Prop:=∃(b:eH)(a:Ki eH)(x y:V),H p\.tup [.ref b,x,y]/\H b\(.tup<|a.map Yg)/\↑a=↑tr/\
 ∀(j:Kk) t z,a[j]?\t->tr[j]?\z->∃v,H t\.tup [.str z.1,aY z.2,v]
def yg2:bX ["program","kind","elder_of","line"] ["program","kind"] (bP LZ):=cF
def eT(d:PE X a ta)(e:PE X b tb)(hs:MG b:=by exact λ_ _=>U):PE X (.Subscript a b pos) (dJ (dI X.K) ta tb):=lZ oR d e hs
def cR(tr:Tr):Ki (aG×V):=tr.map λz=>((Ku z.1:aG),aY z.2)
def ZG(h:n∉tr.map (·.1)):aF (cR tr) (Ku n)=none:=by
 cases e:aF (cR tr) (Ku n)with
 | none=>rfl
 | some v=>
  have:=IS e;unfold cR at this;rw[jW]at this;obtain⟨z,b,a⟩:=wx6.mp this;exact absurd (wx6.mpr {z,b,iS a}) h
def VA(ok:TrOk tr)(h:tr[i]?\(n,e)):cR (tr.take<|i+1)=aL (cR<|tr.take i) (Ku n) (aY e):=by
 have d:n∉(tr.take i).map (·.1):=λb=>by
  obtain⟨z,o,a⟩:=wx6.mp b;obtain⟨j,f,m⟩:=oE o;rw[eS]at f;have l:tr[j]?\(n,z.2):=by
   rw[bJ ∅,<-a,<-m,Pl]
  have:=ok.one h l;lia
 rw[GG _<|ZG d];unfold cR;rw[eY,h,bT];rfl
def tS{tr:Tr}(ok:TrOk tr){i:Kk}{n:zZ}{e:Kj zZ}(h:tr[i]?\(n,e)):aF (cR tr) (Ku n)\aY e:=by
 obtain⟨B,_⟩:=ww4.mp h;have b:∀(tr:Tr)(i:Kk),TrOk tr->tr[i]?\(n,e)->(cR tr).find? (λa=>decide<|a.1=(Ku n:aG))\((Ku n:aG),aY e):=by
  intro tr i ok h;cases q:(cR tr).find? (λa=>decide<|a.1=(Ku n:aG))with
  | none=>
   have:=vn1.mp q ((Ku n:aG),aY e)<|wx6.mpr ⟨(n,e),dC h,rfl⟩;simp at this
  | some r=>
   have w:=rT q;have A:=pJ q;obtain⟨z,x,f⟩:=wx6.mp A;obtain⟨j,o,s⟩:=oE x;have l:r.1=(Ku n:aG):=cT w;rw[<-f]at l;have m:z.1=n:=iS l;have d:tr[j]?\(n,z.2):=by rw[bJ o,s,<-m]
   have:=ok.one h d;subst this;rw[h]at d;have u:z.2=e:=by cases d;rfl
   rw[<-f,m,u]
 unfold aF;rw[b tr i ok h];rfl
def rO(f:FrS [] H H')(hp:H' p=Kr):H p=none:=by
 cases a:H p with
 | none=>rfl
 | some o=>have:=f p o (by simp) a;rw[hp]at this;cases this
def Up.at(h:Up tr n l):∃(i:Kk)(g:Kj zZ),tr[i]?\(n,g):=by
 cases h with
 | root h=>exact{_,_,h}
 | step h _=>exact{_,_,h}
def LV(dn:Ki zZ)(x:zZ):eE ((dn++[x]).map Yf) (-1)\.str x:=by
 rw[bT];unfold eE nQ;have a:↑(dn.map Yf++[x].map Yf)=↑dn+1:=by simp
 rw[a,bC (by decide),bF ∅];have e:(-1+((↑dn+1:Kk):Kl)).toNat=↑dn:=by lia
 show(dn.map Yf++[x].map Yf)[(-1+((↑dn+1:Kk):Kl)).toNat]?=_;rw[e,jU<|by simp];simp
inductive WV(vs:Ki V)(H:Hp)(Q:VK):Prop
 | mk(p:eH)(n:zZ)(tr:Tr)(l:Ki zZ)(h1:vs=[.ref p,.str n])(h2:KindsAt H p tr)(h3:TrOk tr)(h4:↑tr<=12)(h5:Up tr n l)(h6:∀(a:eH)(H':Hp),FrS [] H H'->H a=Kr->H' a\(.tup<|l.reverse.map Yf)->Q (.ref a) H'):WV  vs H Q
def yB:Sp:=λvs H Q _=>WV  vs H Q
def Ak{k:Kk}(F:Fun K "elders" "elders" LZ f fd)(mt:mg "tuple"=Kr):aS P w K mg base bO (k+1) f fd ["program","kind"] yB:=by
 refine F.ok yg2 (λvs H Q E h=>?_) λak A outer s H vs Q E hr h=>?_
 .obtain⟨p,n,tr,l,rfl,_⟩:=h;rfl
 obtain⟨p,n,tr,l,rfl,⟨C,ts,x,y,hp,J,O,ai⟩,ok,ao,G,q⟩:=h;have Z:=eN hr;have af:↑l<=12:=by
  obtain⟨i,g,hi⟩:=G.at;have:=Up.len ok i n g l hi G;obtain⟨h1,_⟩:=ww4.mp hi;lia
 have M:(["name","elder","deeds"]:Ki zZ).Nodup:=by rfl'
 exists _,aJ (XS (hp:=ME) (i:=2) (N':=["name","elder","deeds"]) (src:=[Kr,Kr,Kr]) rfl yg2.nd rfl rfl fJ (iC<|eT (pv 0) aO) (g:=fC K 3<|eR (cJ 0)<|eR (cJ 1)<|eR (cJ 2) eV) (λ_ _ _ _=>dS (n:=3) rfl<|bK (gL 0 M)<|bK (gL 1 M)<|bK (gL 2 M) dX) (λ_ _ _ _=>gW) (λ_ _ _ _=>pv 0) λ_ _ _ _=>pv 1)
  (aJ (sL 3 yg2.nd<|cU<|aA (pv 1) aE)<|aJ (IB dU (gO<|rH<|bU Z (pv 2) (eI (pv 3)<|nH nW aO) λ_ _=>U)<|aR<|dH<|eW eQ fU fS fL (pv 3)<|aA (bU Z (pv 2) (eI (pv 3)<|nH nW aO) λ_ _=>U) aE)<|aR<|bQ<|fF jA rfl mt (by rfl')<|aA (LW (pv 3)<|nH nW aO) aE)
 ac_rfl
 refine{_,U,p,_,_,_,U,U,Ym hp,U,C,U,{_,Ym J},λD u=>?_};have al:p≠D:=aQ hp u;have ah:C≠D:=aQ J u;exists λi m σ j=>m=↑ts-i/\i<=↑ts/\(∃a b c,σ=[a,b,c])/\j=upd H D (.dK<|cR<|tr.take i),{_,U,bW _,{_,_,_,U},U};rintro i m σ j ⟨rfl,hi,⟨a0,b0,c0,rfl⟩,rfl⟩;have L:∀o,upd H D o C\(.tup<|ts.map Yg):=λo=>by rw[aC ah];exact J
 by_cases B:i<↑ts
 .refine .inr ⟨⟨_,_,Ym<|L _,by rw[bR,bJ B];rfl⟩,λσ' H'=>(∃a b c,σ'=[a,b,c])/\H'=upd H D (.dK<|cR<|tr.take<|i+1),by rintro σ' H' ⟨h1,h2⟩;exact{_,∅,U,B,h1,h2},λv H' N=>?_⟩;obtain⟨rfl,N⟩:=N;have hv:=N _<|Ym<|L _;rw[bR,bJ B]at hv;cases hv;have W:tr[i]?=Kp tr[i]:=bJ ∅;obtain⟨T,Y⟩:=ai i _ _ (bJ B) W;have ag:∀o,upd H D o ts[i]\.tup [.str tr[i].1,aY tr[i].2,T]:=λo=>by rw[aC<|aQ Y u];exact Y
  exists ts[i],_,U,Ym<|ag _,U,_,_,U,_,_,U,_,_,U,U;exists _,U,_,U,_,Ku tr[i].1,U,zb1,?_,{_,_,_,U}
  .unfold cR;rw[aK,eS];exact bM ∅
  .rw[gR,VA ok W];rfl
 .refine .inl ⟨⟨_,Ym<|L _,by rw[aK];lia⟩,?_⟩;have e:i=↑tr:=by lia
  rw[e,fI<|aZ _];refine{_,U,by show 1<=sizeLine;decide,λd r=>?_};have X:D≠d:=λz=>by rw[<-z,zb1]at r;cases r
  have am:H d=none:=by rw[aC<|bS X]at r;exact r
  refine KF (λσ j=>∃(dn rs:Ki zZ)(x:zZ),σ=[Kp<|.ref p,Kp<|.str n,Kp<|.ref D,Kp<|.ref d]/\j=upd (upd H D<|.dK<|cR tr) d (.lst<|(dn++[x]).map Yf)/\Up tr x rs/\dn++rs=l/\↑dn<=12)
   (λσ j=>match j d with | some (.lst xs)=>100-↑xs | _=>0) ⟨[],l,n,rfl,rfl,G,rfl,by decide⟩ ?_ ?_
  .rintro σ j ⟨dn,rs,x,rfl,rfl,hx,hl,hd⟩;have I:∀o,upd (upd H D<|.dK<|cR tr) d o D\(.dK<|cR tr):=λo=>by rw[aC X];exact zb1
   have an:∀o,upd (upd H D<|.dK<|cR tr) d o d\o:=λo=>zb1;have O:∀y:zZ,↑((dn++[y]).map Yf)=↑dn+1:=λy=>by simp
   cases hx with
   | @root i _ hi=>
    exists _,U,_,U,_,U,d,_,_,_,U,U,Yl zb1,LV dn x,D,Yi,U,?_,_,U
    .have:=DGet.k (k:=(Ku x:aG))<|I<|.lst<|(dn++[x]).map Yf;rw[tS ok hi]at this;exact this
    .show if (!decide (Yi=Yi))=Ks then _ else _
     rw[bC<|by simp];refine{_,U,_,U,U,d,_,U,Yl zb1,λp2 a8=>?_};have ab:FrS [] H (upd (upd H D<|.dK<|cR tr) d<|.lst<|(dn++[x]).map Yf):=(Yj u).trans<|Yj r;refine{p2,_,U,.inl {Yl zb1,λp3 ad=>?_}};refine q p3 _ ((ab.trans<|Yj a8).trans<|Yj ad) ?_ ?_
     .exact rO (ab.trans<|Yj a8) ad
     .rw[zb1,<-hl,zI]
   | @step i _ e l' hi hb=>
    exists _,U,_,U,_,U,d,_,_,_,U,U,Yl zb1,LV dn x,D,Yf e,U,?_,_,U
    .have:=DGet.k (k:=(Ku x:aG))<|I<|.lst<|(dn++[x]).map Yf;rw[tS ok hi]at this;exact this
    .show if (!decide (Yf e=Yi))=Ks then _ else _
     rw[bF<|by simp];exists _,U,.inl {U,_,Yl zb1},_,U,_,U,_,U,d,_,_,_,U,U,Yl zb1,LV dn x,D,Yf e,U,?_,d,_,_,U,U,zb1,?_,{dn++[x],l',e,U,?_,hb,by rw[<-hl];simp,?_}
     .have:=DGet.k (k:=(Ku x:aG))<|I<|.lst<|(dn++[x]).map Yf;rw[tS ok hi]at this;exact this
     .rw[O];exact bM ∅
     .rw[gR,bT (l₁:=dn++[x])];rfl
     .have:=cH Lj hl;rw[bN,cN]at this;rw[bN,eJ];lia
     .show(match upd _ d _ d with | some (HO.lst xs)=>100-↑xs | _=>0)<(match upd _ d _ d with | some (HO.lst xs)=>100-↑xs | _=>0);rw[zb1,zb1];show 100-↑(((dn++[x]).map Yf)++[Yf e])<100-↑((dn++[x]).map Yf);rw[bN,O,eJ];lia
  .intro σ j R R' hR hc;obtain⟨v1,h1,v2,h2,T,h3,p',xs,i',v',h4,h5,h6,h7,a',v8,h8,h9,c,ae,aj⟩:=hc;exact{v1,h1,v2,h2,T,h3,p',xs,i',v',h4,h5,h6,h7,a',v8,h8,h9,c,ae,hR _ _ aj}
abbrev JP:Kd:=top 2
def lW(n:zZ)(l:Ki zZ):gQ (.str n) (l.map Yf)=decide (n∈l):=by
 unfold gQ
 induction l with
 | nil=>rfl
 | cons x r a=>
  rw[dD,zK,a];have e:iV (.str x) (.str n)=decide (x=n):=by
   first | rfl | simp[iV] | (unfold iV;by_cases h:x=n <;> simp[h])
  rw[e]
  by_cases h:x=n
  .subst h;simp
  .have h':¬n=x:=λz=>h z.symm;simp[h,h']
def jV(l:Ki zZ):(l.map Yf).all iI=true:=by
 rw[Ki.all_map,vc8];intro x _;rfl
inductive QZ(vs:Ki V)(H:Hp)(Q:VK):Prop
 | mk(p:eH)(n o:zZ)(tr:Tr)(l:Ki zZ)(h1:vs=[.ref p,.str n,.str o])(h2:KindsAt H p tr)(h3:TrOk tr)(h4:↑tr<=12)(h5:Up tr n l)(h6:∀(H':Hp),FrS [] H H'->Q (.bl<|decide<|o∈l) H'):QZ  vs H Q
def LS:Sp:=λvs H Q _=>QZ  vs H Q
def Aa:bX ["program","one","other"] ["program","one","other"] (bP JP):=cF
def Ef(F:Fun K "is_below" "is_below" JP f fd)(T:aV P w K mg base k "elders" ["program","kind"] yB):aS P w K mg base bO (k+1) f fd ["program","one","other"] LS:=by
 refine F.ok Aa (λvs H Q E h=>?_) λr A u s H vs Q E G h=>?_
 .obtain⟨p,n,o,x,l,rfl,_⟩:=h;rfl
 obtain⟨p,n,o,x,l,rfl,d,ok,b,i,q⟩:=h;exists _,aR<|bQ<|mY sJ (pv 2) (bD T G rfl<|aA (pv 0)<|aA (pv 1) aE) U;refine{_,U,_,U,_,U,p,n,x,l,U,d,ok,b,i,λa B C m j=>?_};exists a,_,U,.inr<|Ym j,U,jV _;have e:gQ (.str o) (l.reverse.map Yf)=decide (o∈l):=by
  rw[lW]
  by_cases h:o∈l
  .rw[dP h,dP<|vm6.mpr h]
  .rw[gE h,gE λz=>h<|vm6.mp z]
 show Q (.bl<|if Kt=Ks then _ else _) B;rw[bC (by decide),e];exact q B C
def FrS.put(f:FrS S H H')(h:H a=Kr):FrS S H (upd H' a o):=λb u n q=>by
 rw[aC<|aQ q h];exact f b u n q
def FrS.put'(f:FrS S H H')(h:a∈S):FrS S H (upd H' a o):=f.trans<|Yk h
def FrS.old(f:FrS S H H')(hs:∀b∈S,∃o,H' b\o)(hp:H' p=Kr):H p=none:=by
 cases e:H p with
 | none=>rfl
 | some o=>
  by_cases a:p∈S
  .obtain⟨u,d⟩:=hs p a;rw[hp]at d;cases d
  .have:=f p o a e;rw[hp]at this;cases this
def vI(d:Kk->St->Hp->Prop)(h0:d 0 σ0 H0)(hl:∀i l H,i<=↑xs->d i l H->SqL K H a xs)(hs:∀i x l H,xs[i]?\x->d i l H->g x l H λn s=>tt n s λb r=>if b=Ks then te n r λv f=>∃o,f D\.lst o/\↑o<sizeLine/\d (i+1) n (upd f D<|.lst<|o++[v]) else d (i+1) n r)(hd:∀l H,d ↑xs l H->Q H):oC (tF K a) g tt te D σ0 H0 Q:=by
 exists λi m l H=>m=↑xs-i/\i<=↑xs/\d i l H,{↑xs,by simp,bW _,h0};rintro i m l H ⟨rfl,u,p⟩;have q:=hl i l H u p
 by_cases h:i<↑xs
 .refine .inr ⟨⟨xs,xs[i],q,by simp[h]⟩,d<|i+1,λw z j=>⟨↑xs-(i+1),∅,rfl,h,j⟩,λx z y=>?_⟩;obtain⟨e,y⟩:=y;subst e;exact hs i x l _ (y xs q) p
 .have e:i=↑xs:=by lia
  subst e;exact .inl {{xs,q,aZ _},hd l H p}
def GR(a:Kk->St->Hp->Prop)(h0:a 0 σ0 H0)(hl:∀i j H,i<=↑xs->a i j H->ok H)(hs:∀i x j H,xs[i]?\x->a i j H->g x j H λl r=>tt l r λb o=>if b=Ks then te l o λv d=>∃n,d D\.lst n/\↑n<sizeLine/\a (i+1) l (upd d D<|.lst<|n++[v]) else a (i+1) l o)(hd:∀j H,a ↑xs j H->Q H):oC (rG ok xs) g tt te D σ0 H0 Q:=by
 exists λi m j H=>m=↑xs-i/\i<=↑xs/\a i j H,{↑xs,by simp,bW _,h0};rintro i m j H ⟨rfl,s,p⟩;have q:=hl i j H s p
 by_cases f:i<↑xs
 .refine .inr ⟨⟨q,f⟩,a<|i+1,λu w h=>⟨↑xs-(i+1),∅,rfl,f,h⟩,λx w y=>?_⟩;obtain⟨e,y⟩:=y;subst e;exact hs i x j _ y p
 .have e:i=↑xs:=by lia
  subst e;exact .inl {{q,aZ _},hd j H p}
def OQ(a:Kk->St->Hp->Prop)(h0:a 0 σ0 H0)(hs:∀i j H,i<n->a i j H->g (.int<|lo+i) j H λl r=>tt l r λb q=>if b=Ks then te l q λv f=>∃o,f D\.lst o/\↑o<sizeLine/\a (i+1) l (upd f D<|.lst<|o++[v]) else a (i+1) l q)(hd:∀j H,a n j H->Q H):oC (xP lo n) g tt te D σ0 H0 Q:=by
 exists λi m j H=>m=n-i/\i<=n/\a i j H,{n,by simp,bW _,h0};rintro i m j H ⟨rfl,w,p⟩
 by_cases d:i<n
 .refine .inr ⟨d,a<|i+1,λs u h=>⟨n-(i+1),∅,rfl,d,h⟩,λx u y=>?_⟩;obtain⟨e,y⟩:=y;subst e y;exact hs i j _ d p
 .have e:i=n:=by lia
  subst e;exact .inl {aZ _,hd j H p}
def BD{ok:Hp->Prop}{xs:Ki V}{g:TG}{o:TS}{D:dY}{f:St}{H:Hp}(a:Kk->St->Hp->Prop)(h0:a 0 f H)(hl:∀i f H,i<=↑xs->a i f H->ok H)
  (hs:∀i x f H,xs[i]?\x->a i f H->g x f H λl n=>o {D with nx:=a<|i+1,ct:=a<|i+1,bk:=D.nx} l n) (hd:∀f H,a ↑xs f H->D.nx f H):
  ∃W:Kk->Kk->St->Hp->Prop,(∃m,W 0 m f H)/\∀i m f H,W i m f H->
   ((rG ok xs).stop i H/\D.nx f H)\/((rG ok xs).go i H/\∃N:St->Hp->Prop,(∀h j,N h j->∃m',m'<m/\W (i+1) m' h j)/\∀x j,(rG ok xs).yld i H x j->g x f j λl n=>o {D with nx:=N,ct:=N,bk:=D.nx} l n):=by
 exists λi m f H=>m=↑xs-i/\i<=↑xs/\a i f H,{↑xs,by simp,bW _,h0};rintro i m f H ⟨rfl,r,p⟩;have q:=hl i f H r p
 by_cases b:i<↑xs
 .refine .inr ⟨⟨q,b⟩,a<|i+1,λh j d=>⟨↑xs-(i+1),∅,rfl,b,d⟩,λx j y=>?_⟩;obtain⟨e,y⟩:=y;subst e;exact hs i x f _ y p
 .have e:i=↑xs:=by lia
  subst e;exact .inl {{q,aZ _},hd f H p}
def uF{n:Type}[DecidableEq n]:∀(l j:Ki n),l.Nodup->(∀x∈l,x∈j)->↑l<=j.length:=λl=>l.recOn
 (λU _ _=>bW _)
 λx l i j h m=>by
  have b:x∈j:=m x<|sS ..;have a:=vc1.mp h;have f:=i (j.erase x) a.2 λy d=>(Ki.mem_erase_of_ne λe=>a.1<|by rw[<-e];exact d).mpr<|m y<|iO _ d
  rw[Ki.length_erase_of_mem b]at f;have:=Ki.length_pos_of_mem b;show ↑l+1<=j.length;lia
def OB{κ:Type}[DecidableEq κ](kvs:Ki (κ×V))(k:κ)(v:V):((aL kvs k v).map (·.1)=kvs.map (·.1)/\k∈kvs.map (·.1))\/((aL kvs k v).map (·.1)=kvs.map (·.1)++[k]/\k∉kvs.map (·.1)):=by
 cases h:aF kvs k with
 | none=>exact .inr {by rw[GG v h,bT];rfl,FX h}
 | some u=>
  refine .inl {?_,IS h};unfold aL;rw[uJ,h];show(Xt _<|Xt _ kvs)=_;rw[jW];refine ER λx _=>?_;show(if x.1=k then(x.1,v) else x).1=x.1
  split <;> rfl
structure DOk(U' N:Ki zZ)(kvs:Ki (aG×V)):Prop where
 nd:(kvs.map (·.1)).Nodup
 ks:∀k∈kvs.map (·.1),∃x∈U',k=Ku x
 vs:∀k v,aF kvs k\v->v=.non\/∃n∈N,v=.str n
def DOk.nil:DOk U' N []:=⟨lC,(λ_ h=>nomatch h),(λ_ _ h=>nomatch h)⟩
def DOk.put(h:DOk U' N kvs)(d:x∈U')(f:v=.non\/∃n∈N,v=.str n):DOk U' N (aL kvs (Ku x) v):=by
 refine{?_,λk a=>?_,λk u b=>?_}
 .obtain⟨e,_⟩|⟨e,hn⟩:=OB kvs (Ku x) v
  .rw[e];exact h.nd
  .rw[e];exact SW h.nd hn
 .obtain⟨e,_⟩|⟨e,hn⟩:=OB kvs (Ku x) v
  .rw[e]at a;exact h.ks k a
  .rw[e]at a;obtain a|a:=wz2.mp a
   .exact h.ks k a
   .exact⟨x,d,wx1.mp a⟩
 .rw[hZ]at b
  by_cases e:k=Ku x
  .rw[bF e]at b;cases b;exact f
  .rw[bC e]at b;exact h.vs k u b
def DOk.len(h:DOk U' N kvs):↑kvs<=U'.length:=by
 have:=uF (kvs.map (·.1)) (U'.map λx=>(Ku x:aG)) h.nd λk a=>by
  obtain⟨x,b,e⟩:=h.ks k a;exact wx6.mpr {x,b,e.symm}
 rwa [aK,aK]at this
def DOk.get(h:DOk U' N kvs)(k:aG):(aF kvs k).getD .non=.non\/∃n∈N,(aF kvs k).getD .non=.str n:=by
 cases e:aF kvs k with
 | none=>exact .inl rfl
 | some v=>exact h.vs k v e
structure WA where
 (tree late deeds wants owners vars params fields told held roots:eH)
structure WD where
 tr:Tr
 (late deeds vars params fields:Ki zZ)
 wants:Ki (Ki aG×V)
 (owners roots:Ki (aG×V))
 own:zZ->Ki zZ
def WD.names(D:WD):Ki zZ:=D.tr.map (·.1)
def WD.U(D:WD):Ki zZ:="own"::(D.vars++D.params)
def Stt(M:Ki eH)(H:Hp)(a:eH)(o:HO):Prop:=a∉M/\H a\o
def Stt.keep(h:Stt M H a o)(f:FrS M H H'):Stt M H' a o:=⟨h.1,f a o h.1 h.2⟩
def Stt.sub(h:Stt M H a o)(hs:∀b∈M',b∈M):Stt M' H a o:=⟨λz=>h.1<|hs a z,h.2⟩
def TrOk.elder(h:TrOk tr)(a:x∈tr)(e:x.2\y):y∈tr.map (·.1):=by
 obtain⟨n,g⟩:=x;have e:g\y:=e;subst e;obtain⟨i,d⟩:=vc7.mp a;obtain⟨j,_,g,b⟩:=h.up i n y d;exact wx6.mpr {(y,g),dC b,U}
def FN(tr:Tr)(a:Ki zZ):Prop:=∀x∈tr,∀e,x.2\e->e∈a->x.1∈a
structure zP(D:WD):Prop where
 ok:TrOk D.tr
 lnm:∀x∈D.late,x∈D.names
 l1:D.tr≠[]
 l12:D.tr.length<=12
 lateIn:FN D.tr D.late
 lateLen:D.late.length<=12
 soon:∃x∈D.names,x∉D.late
 d1:D.deeds≠[]
 d6:D.deeds.length<=6
 dd:D.deeds.Nodup
 de:∀x∈D.deeds,x≠("":zZ)
 v4:D.vars.length=4
 p4:D.params.length=4
 f3:D.fields.length=3
 po:("own":zZ)∉D.vars++D.params
structure Wld(M:Ki eH)(H:Hp)(wd:eH)(A:WA)(D:WD):Prop where
 k:∃kvs,Stt M H wd (.dK kvs)/\aF kvs (Ku "tree")\.ref A.tree/\aF kvs (Ku "late")\.ref A.late/\aF kvs (Ku "deeds")\.ref A.deeds/\aF kvs (Ku "wants")\.ref A.wants/\
  aF kvs (Ku "owners")=Kp (.ref A.owners)/\aF kvs (Ku "vars")\.ref A.vars/\aF kvs (Ku "params")\.ref A.params/\aF kvs (Ku "fields")\.ref A.fields/\
  aF kvs (Ku "told")=Kp (.ref A.told)/\aF kvs (Ku "held")\.ref A.held/\aF kvs (Ku "roots")\.ref A.roots
 tree:∃ts:Ki eH,Stt M H A.tree (.lst<|ts.map Yg)/\↑ts=D.tr.length/\∀(j:Kk) t x,ts[j]?\t->D.tr[j]?\x->Stt M H t (.tup [.str x.1,aY x.2])
 late:Stt M H A.late (.lst<|D.late.map Yf)
 deeds:Stt M H A.deeds (.lst<|D.deeds.map Yf)
 vars:Stt M H A.vars (.lst<|D.vars.map Yf)
 params:Stt M H A.params (.lst<|D.params.map Yf)
 fields:Stt M H A.fields (.lst<|D.fields.map Yf)
 wants:Stt M H A.wants (.dT D.wants)
 owners:Stt M H A.owners (.dK D.owners)
 roots:Stt M H A.roots (.dK D.roots)
 wl:∀n∈D.names,∀d∈D.deeds,∃(r:zZ)(p:eH)(ws:Ki zZ),aF D.roots (Ku n)\.str r/\aF D.wants [Ku r,Ku d]\.ref p/\Stt M H p (.lst<|ws.map Yf)/\↑ws<=4/\∀x∈ws,x∈D.names
 ol:∀d∈D.deeds,∃p:eH,aF D.owners (Ku d)\.ref p/\Stt M H p (.lst<|(D.own d).map Yf)/\(D.own d).Sublist D.names/\↑(D.own d)<=13
def Wld.map{A:WA}(h:Wld M H wd A D)(f:∀a o,Stt M H a o->Stt M' H' a o):Wld M' H' wd A D:=by
 obtain⟨⟨L,s,G⟩,⟨N,l,u,z⟩,P,O,q,I,C,J,i,m,B,E⟩:=h;refine{{L,f _ _ s,G},{N,f _ _ l,u,λj t x a b=>f _ _<|z j t x a b},f _ _ P,f _ _ O,f _ _ q,f _ _ I,f _ _ C,f _ _ J,f _ _ i,f _ _ m,λn w d hd=>?_,λd hd=>?_}
 .obtain⟨r,p,ws,a,b,c,e⟩:=B n w d hd;exact{r,p,ws,a,b,f _ _ c,e}
 .obtain⟨p,a,b,c⟩:=E d hd;exact{p,a,f _ _ b,c}
theorem Wld.keep{A:WA}(h:Wld M H wd A D)(f:FrS M H H'):Wld M H' wd A D:=h.map λ_ _ x=>x.keep f
theorem Wld.g{A:WA}(h:Wld M H wd A D):DGet H wd (.str "tree") (Kp<|.ref A.tree)/\DGet H wd (.str "late") (Kp<|.ref A.late)/\DGet H wd (.str "deeds") (Kp<|.ref A.deeds)/\DGet H wd (.str "wants") (Kp<|.ref A.wants)/\
  DGet H wd (.str "owners") (Kp<|.ref A.owners)/\DGet H wd (.str "vars") (Kp<|.ref A.vars)/\DGet H wd (.str "params") (Kp<|.ref A.params)/\DGet H wd (.str "fields") (Kp<|.ref A.fields)/\DGet H wd (.str "told") (Kp<|.ref A.told)/\DGet H wd (.str "held") (Kp<|.ref A.held)/\DGet H wd (.str "roots") (Kp<|.ref A.roots):=by
 obtain⟨r,⟨_,e⟩,m,d,b,a,i,s,n,f,o,j,l⟩:=h.k;have g:∀(x:zZ)(v:V),aF r (Ku x)\v->DGet H wd (.str x) (Kp v):=λx v q=>.inl ⟨r,Ku x,.inl e,rfl,q.symm⟩;exact{g _ _ m,g _ _ d,g _ _ b,g _ _ a,g _ _ i,g _ _ s,g _ _ n,g _ _ f,g _ _ o,g _ _ j,g _ _ l}
abbrev OM:Kd:=top 55
abbrev sB:Kd:=top 56
def QX(ok:TrOk tr):cM [] (cR tr)=cR tr:=by
 have a:∀i,i<=↑tr->cM [] ((cR tr).take i)=cR (tr.take i):=by
  intro i
  induction i with
  | zero=>intro _;rfl
  | succ i f=>
   intro h;have b:tr[i]?=Kp tr[i]:=bJ ∅;have d:(cR tr)[i]?\(Ku tr[i].1,aY tr[i].2):=by unfold cR;rw[bR,b];rfl
   rw[SN d,f ∅,VA ok (e:=tr[i].2) (n:=tr[i].1) b]
 have hl:↑(cR tr)=↑tr:=by unfold cR;rw[aK]
 have:=a ↑tr (aZ _);rwa [fI ∅,fI<|aZ _]at this
inductive RU(vs:Ki V)(H:Hp)(Q:VK):Prop
 | mk(wd:eH)(M:Ki eH)(A:WA)(D:WD)(n:zZ)(l:Ki zZ)(h1:vs=[.ref wd,.str n])(h2:Wld M H wd A D)(h3:zP D)(h4:Up D.tr n l)(h5:∀(a:eH)(H':Hp),FrS [] H H'->H a=Kr->H' a\(.lst<|l.map Yf)->Q (.ref a) H'):RU  vs H Q
def BZ:Sp:=λvs H Q _=>RU  vs H Q
def yt1:bX [qW,"_law_kind","_law_up","_law_line_here"] qG (bP OM):=cF
def Eo(F:Fun K "_law_line" "_law_line" OM f fd)(a9:mg "dict"=Kr):aS P w K mg base bO (k+1) f fd qG BZ:=by
 refine F.ok yt1 (λvs H Q E h=>?_) λac A outer s H vs Q E hr h=>?_
 .obtain⟨wd,M,A,D,n,l,rfl,_⟩:=h;rfl
 obtain⟨wd,M,WA,D,n,l,rfl,N,d,I,q⟩:=h;have Y:=eN hr;exists _,aJ (sL 2 yt1.nd<|fF (yJ U) rfl a9 (by rfl')<|aA (bU Y (pv 0) aX λ_ _=>U) aE)
  (aJ (sL 3 yt1.nd<|cU aE)<|aJ (IB dU (gO<|rH<|pv 1)<|aJ (dH<|eW eQ fU fS fL (pv 3)<|aA (pv 1) aE)<|aR<|sL 1 yt1.nd<|bU Y (pv 2) (pv 1) λ_ _=>U)<|aR<|bQ<|pv 3)
 ac_rfl
 obtain⟨ts,t1,t2,t3⟩:=N.tree;have O:↑(cR D.tr)=D.tr.length:=by unfold cR;rw[aK]
 have ad:=d.l12;refine{_,U,wd,_,U,N.g.1,WA.tree,ts,cR D.tr,U,Yl t1.2,by rw[O];exact t2,by rw[O];exact bM ∅,λj t m ht G=>?_,λb ab=>?_}
 .unfold cR at G;rw[bR]at G;obtain⟨x,u,rfl⟩:=wx3.mp G;exact Ym (t3 j t x ht u).2
 rw[QX d.ok];refine{bW _,λa B=>?_};have T:b≠a:=λz=>by rw[<-z,zb1]at B;cases B
 have L:H a=none:=by rw[aC<|bS T]at B;exact B
 refine KF (λσ r=>∃(dn:Ki zZ)(m:V),σ=[Kp<|.ref wd,Kp m,Kp<|.ref b,Kp<|.ref a]/\r=upd (upd H b<|.dK<|cR D.tr) a (.lst<|dn.map Yf)/\↑dn<=12/\((m=.non/\dn=l)\/∃x rs,m=.str x/\Up D.tr x rs/\dn++rs=l))
  (λσ r=>match r a with | some (.lst xs)=>100-↑xs | _=>0) ⟨[],.str n,rfl,rfl,by decide,.inr ⟨n,l,rfl,I,rfl⟩⟩ ?_ ?_
 .rintro σ r ⟨dn,m,rfl,rfl,hd,C⟩;have X:∀o,upd (upd H b<|.dK<|cR D.tr) a o b\(.dK<|cR D.tr):=λo=>by rw[aC T];exact zb1
  obtain⟨rfl,rfl⟩|⟨x,rs,rfl,u,hl⟩:=C
  .exists _,rfl,_,rfl;show if (!decide (Yi=Yi))=Ks then _ else _
   rw[bC<|by trivial];exact{_,U,q a _ (((FrS.refl).put ab).put L) L zb1}
  .exists _,rfl,_,rfl;show if (!decide (Yf x=Yi))=Ks then _ else _
   rw[bF<|by trivial];have W:↑dn+1<=12:=by
    obtain⟨i,g,hi⟩:=I.at;have h1:=Up.len d.ok i n g l hi I;obtain⟨h2,_⟩:=ww4.mp hi;have h3:=cH Lj hl;rw[bN]at h3;have h4:1<=↑rs:=by cases u <;> simp
    lia
   exists _,U,.inl {U,_,Yl zb1},_,U,a,_,_,U,U,zb1,by rw[aK];exact bM ∅,_,rfl,_,rfl;rw[gR];have Z:(match upd (upd H b<|.dK<|cR D.tr) a (.lst<|dn.map Yf++[Yf x]) a with | some (HO.lst xs)=>100-↑xs | _=>0)<(match upd (upd H b<|.dK<|cR D.tr) a (.lst<|dn.map Yf) a with | some (HO.lst xs)=>100-↑xs | _=>0):=by
    rw[zb1,zb1];show 100-↑(dn.map Yf++[Yf x])<100-↑(dn.map Yf);rw[bN,aK,eJ];lia
   have J:dn.map Yf++[Yf x]=(dn++[x]).map Yf:=by rw[bT];rfl
   cases u with
   | @root i _ hi=>
    refine{b,.non,U,?_,{dn++[x],.non,U,by rw[J],by rw[bN,eJ];exact W,.inl ⟨rfl,hl⟩},Z};have:=DGet.k (k:=(Ku x:aG))<|X<|.lst<|dn.map Yf++[Yf x];rw[tS d.ok hi]at this;exact this
   | @step i _ e l' hi hb=>
    refine{b,.str e,U,?_,{dn++[x],.str e,U,by rw[J],by rw[bN,eJ];exact W,.inr {e,l',U,hb,by rw[<-hl];simp}},Z};have:=DGet.k (k:=(Ku x:aG))<|X<|.lst<|dn.map Yf++[Yf x];rw[tS d.ok hi]at this;exact this
 .intro σ r R R' hR C;obtain⟨v1,h1,c,a8,aa⟩:=C;exact{v1,h1,c,a8,hR _ _ aa}
def LX(D:WD)(k d:zZ):Prop:=k∈D.names/\d∈D.deeds/\∃n l,Up D.tr k l/\n∈l/\n∈D.own d
def fN(D:WD)(k:zZ):Kj zZ->Prop
 | some d=>LX D k d
 | none=>k∈D.names
inductive qP(vs:Ki V)(H:Hp)(Q:VK):Prop
 | mk(wd:eH)(M:Ki eH)(A:WA)(D:WD)(n d:zZ)(h1:vs=[.ref wd,.str n,.str d])(h2:Wld M H wd A D)(h3:zP D)(h4:n∈D.names)(h5:d∈D.deeds)(h6:∀(b:Km)(H':Hp),FrS [] H H'->(b=Ks->LX D n d)->Q (.bl b) H'):qP  vs H Q
def NL:Sp:=λvs H Q _=>qP  vs H Q
def DG:bX qE qE (bP sB):=cF
def JW(a:zP D)(f:n∈D.names):∃l,Up D.tr n l/\↑l<=12/\∀x∈l,x∈D.names:=by
 obtain⟨z,h,e⟩:=wx6.mp f;obtain⟨i,j,d⟩:=oE h;have b:D.tr[i]?\(n,z.2):=by rw[bJ j,d,<-e]
 obtain⟨l,hl⟩:=Up.exists a.ok i n z.2 b;have:=Up.len a.ok i n z.2 l b hl;have:=a.l12;exact{l,hl,∅,hl.mem}
def uE(F:Fun K "_law_has" "_law_has" sB f fd)(T:aV P w K mg base k "_law_line" qG BZ)(Z:mg "any"=Kr):aS P w K mg base bO (k+1) f fd qE NL:=by
 refine F.ok DG (λvs H Q E h=>?_) λac A outer s H vs Q E hr h=>?_
 .obtain⟨wd,M,A,D,n,d,rfl,_⟩:=h;rfl
 obtain⟨wd,M,WA,D,n,d,rfl,r,B,L,hd,q⟩:=h;have N:=eN hr;have aa:(["_law_one",qW,"_law_deed_here"]:Ki zZ).Nodup:=by rfl'
 exists _,aR (bQ (eM (YY U) rfl Z (by rfl') (aA (iQ (N':=["_law_one",qW,"_law_deed_here"]) (src:=[Kr,Kp 0,Kp 2]) rfl fJ
   (iJ<|bD T hr rfl<|aA (pv 0)<|aA (pv 1) aE)
   (g:=cJ 0) (λ_ _ _ _=>gL 0 aa) (λ_ _ _ _=>gW)
   (λ_ _ _ _=>mY (show OpR _ _ (jO K Kt) from sJ) (pv 0) (bU N (bU N (pv 1) aX λ_ _=>U) (pv 2) λ_ _=>U) rfl)) aE)))
 ac_rfl
 obtain⟨l,hl,a7,ad⟩:=JW B L;obtain⟨W,o1,X,o3,o4⟩:=r.ol d hd;refine{_,U,_,U,wd,M,WA,D,n,l,U,r,B,hl,λO H1 u ab C=>{O,U,{_,Yl C},λJ G=>?_}};refine vI (xs:=l.map Yf) (λi σ a=>(∃x,σ=[x,Kp<|.ref wd,Kp<|.str d])/\FrS [] H1 a/\∃bs:Ki Km,bs=(l.take i).map (λx=>gQ (.str x)<|(D.own d).map Yf)/\a J\(.lst<|bs.map V.bl)) {{_,U},(FrS.refl).put G,[],U,zb1} ?_ ?_ ?_
 .rintro i σ a hi ⟨_,fr,_⟩;exact Yl<|fr _ _ (by trivial) C
 .rintro i x σ a e ⟨⟨x0,rfl⟩,fr,bs,j,o⟩;obtain⟨hi,_⟩:=ww4.mp e;rw[aK]at hi;rw[bR,bJ hi]at e;cases e;have I:FrS M H a:=(u.trans fr).mono (by trivial);have z:=r.keep I;have Y:=X.keep I;exists _,U,_,U,wd,_,U,z.g.2.2.2.2.1,_,U,WA.owners,_,U,.inl {_,Ku d,.inl z.owners.2,U,o1.symm},W,_,U,.inl<|Yl Y.2,U,jV _,_,o,?_,{_,U},fr.put G,bs++[gQ (.str l[i])<|(D.own d).map Yf],?_
  .rw[aK,j,aK,eS];exact bM ∅
  .rw[j,eY,bJ hi,bT];rfl
  .rw[zb1,bT];rfl
 .rintro σ a ⟨_,fr,bs,j,o⟩;refine{J,bs,U,Yl o,q _ a (u.trans fr) λa3=>{L,hd,?_}};rw[aK,fI<|aZ _]at j;subst j;obtain⟨b,a8,m⟩:=vk5.mp a3;obtain⟨x,e,rfl⟩:=wx6.mp a8;exists x,l,hl,e;have m:gQ (.str x) ((D.own d).map Yf)=true:=m;rw[lW]at m;simpa using m
abbrev Ms(hd en:eH)(A:WA):Ki eH:=[hd,en,A.told,A.held]
structure Sit(H:Hp)(hd en wd:eH)(A:WA)(D:WD)(t r:Kl):Prop where
 hand:∃d m,Hand H hd d m t r
 env:∃kv,H en\.dK kv/\DOk D.U D.names kv
 told:∃kv,H A.told\.dK kv/\DOk D.deeds D.names kv
 held:∃kv,H A.held\.dK kv/\DOk D.fields D.names kv
 w:Wld (Ms hd en A) H wd A D
 nd:(Ms hd en A).Nodup
 ok:zP D
section
variable{H H':Hp}{hd en wd:eH}{A:WA}{D:WD}{t r:Kl}
def Sit.fr0(S:Sit H hd en wd A D t r)(f:FrS [] H H'):Sit H' hd en wd A D t r:=by
 obtain⟨⟨d,m,s,b⟩,⟨o,q,a⟩,⟨h,i,j⟩,⟨e,l,n⟩,w,nd,ok⟩:=S;exact{{d,m,f _ _ (by trivial) s,b},{o,f _ _ (by trivial) q,a},{h,f _ _ (by trivial) i,j},{e,f _ _ (by trivial) l,n},w.keep (f.mono<|by trivial),nd,ok}
def Sit.ne(S:Sit H hd en wd A D t r):hd≠en/\hd≠A.told/\hd≠A.held/\en≠A.told/\en≠A.held/\A.told≠A.held:=by
 have:=S.nd;simp only[Ms,vc1,wx0,bB,dO,fZ]at this;exact{this.1.1,this.1.2.1,this.1.2.2,this.2.1.1,this.2.1.2,this.2.2.1}
def Sit.setHand(S:Sit H hd en wd A D t r)(ok:rM d' m' t'):Sit (upd H hd<|hl d' m' t' r') hd en wd A D t' r':=by
 obtain⟨h,f,l,x,z,B⟩:=S.ne;obtain⟨⟨d,m,C⟩,⟨s,u,a⟩,⟨i,j,n⟩,⟨e,o,q⟩,w,nd,b⟩:=S;exact{{d',m',Hand.at ok},{s,by rw[aC h.symm];exact u,a},{i,by rw[aC f.symm];exact j,n},{e,by rw[aC l.symm];exact o,q},w.keep (Yk<|by trivial),nd,b}
def Sit.setEnv(S:Sit H hd en wd A D t r)(h:DOk D.U D.names kv):Sit (upd H en<|.dK kv) hd en wd A D t r:=by
 obtain⟨i,x,B,f,j,z⟩:=S.ne;obtain⟨⟨d,m,G,b⟩,⟨C,E,u⟩,⟨l,n,o⟩,⟨e,q,s⟩,w,nd,a⟩:=S;exact{{d,m,by rw[aC i];exact G,b},⟨kv,zb1,h⟩,{l,by rw[aC f.symm];exact n,o},{e,by rw[aC j.symm];exact q,s},w.keep (Yk<|by trivial),nd,a}
def Sit.setTold(S:Sit H hd en wd A D t r)(h:DOk D.deeds D.names kv):Sit (upd H A.told<|.dK kv) hd en wd A D t r:=by
 obtain⟨x,f,E,i,z,j⟩:=S.ne;obtain⟨⟨d,m,G,b⟩,⟨q,s,l⟩,⟨B,C,u⟩,⟨e,n,o⟩,w,nd,a⟩:=S;exact{{d,m,by rw[aC f];exact G,b},{q,by rw[aC i];exact s,l},⟨kv,zb1,h⟩,{e,by rw[aC j.symm];exact n,o},w.keep (Yk<|by trivial),nd,a}
def Sit.setHeld(S:Sit H hd en wd A D t r)(h:DOk D.fields D.names kv):Sit (upd H A.held<|.dK kv) hd en wd A D t r:=by
 obtain⟨C,z,l,B,e,j⟩:=S.ne;obtain⟨⟨d,m,G,b⟩,⟨q,s,n⟩,⟨f,i,o⟩,⟨x,E,u⟩,w,nd,a⟩:=S;exact{{d,m,by rw[aC l];exact G,b},{q,by rw[aC e];exact s,n},{f,by rw[aC j];exact i,o},⟨kv,zb1,h⟩,w.keep (Yk<|by trivial),nd,a}
def Sit.have_(S:Sit H hd en wd A D t r):∀b∈Ms hd en A,∃o,H b\o:=by
 obtain⟨⟨d,m,z,i⟩,⟨x,h,j⟩,⟨q,e,s⟩,⟨n,f,u⟩,w,nd,l⟩:=S;intro b a;simp only[Ms,wx0,bB,dO]at a;obtain rfl|rfl|rfl|rfl:=a
 .exact⟨_,z⟩
 .exact⟨_,h⟩
 .exact⟨_,e⟩
 .exact⟨_,f⟩
def Sit.notin(S:Sit H hd en wd A D t r)(hp:H p=Kr):p∉Ms hd en A:=λz=>by
 obtain⟨o,a⟩:=S.have_ p z;rw[hp]at a;cases a
def jC{p a:eH}{ss:Ki zZ}{d m t r:Kl}(h:H p\(.lst<|ss.map Yf))(b:Hand H a d m t r):p≠a:=λe=>by
 subst e;rw[b.1]at h;cases ss with
 | nil=>cases h
 | cons x l=>cases h
def FrS.thaw(d:H a=Kj.some u)(f:FrS [] (upd H a<|.frz o u) Hx):FrS [] H (upd Hx a u):=λb v n q=>by
 by_cases e:b=a
 .subst e;rw[zb1];rw[d]at q;exact q
 .rw[aC e];exact f b v n (by rw[aC e];exact q)
def DOk.strs(h:DOk U' N kvs):∃q:Ki zZ,kvs.map (λd=>kV d.1)=q.map Yf/\↑q=↑kvs/\∀x∈q,x∈U':=by
 have b:∀l:Ki (aG×V),(∀k∈l.map (·.1),∃x∈U',k=Ku x)->∃q:Ki zZ,l.map (λd=>kV d.1)=q.map Yf/\↑q=↑l/\∀x∈q,x∈U':=by
  intro l
  induction l with
  | nil=>intro _;exact{[],U,U,by simp}
  | cons a l r=>
   intro i;obtain⟨q,e,n,j⟩:=r λk o=>i k<|iO _ o;obtain⟨x,m,ex⟩:=i a.1 (by trivial);exists x::q,?_,by simp[n]
   .rw[dD,dD,e,ex];rfl
   .intro y f;obtain rfl|f:=wx0.mp f
    .exact m
    .exact j y f
 exact b kvs h.ks
end
abbrev sW:Kd:=top 57
abbrev wJ:Kd:=top 58
abbrev OT:Kd:=top 59
inductive qU(vs:Ki V)(H:Hp)(Q:VK):Prop
 | mk(hd en wd:eH)(A:WA)(D:WD)(t r:Kl)(h1:vs=[.ref hd,.ref wd,.ref en])(h2:Sit H hd en wd A D t r)(h3:t+2<1000000)(h4:∀(x:zZ)(H':Hp)(t':Kl),Sit H' hd en wd A D t' r->FrS (Ms hd en A) H H'->t'<=t+2->FrS [hd] H H'->Q (.str x) H'):qU  vs H Q
def pM:Sp:=λvs H Q _=>qU  vs H Q
def scVar:bX [qH,qW,"_law_env","_law_some"] qA (bP sW):=cF
def uH{k:Kk}(F:Fun K "_law_variable" "_law_variable" sW f fd)(T:aV P w K mg base k "_law_take" qB gY)(O:aV P w K mg base k "_law_of" qC (dB K))(aj:mg "list"=Kr):
  aS P w K mg base bO (k+1) f fd qA pM:=by
 refine F.ok scVar (λvs H Q E h=>?_) λam A outer s H vs Q E hr h=>?_
 .obtain⟨hd,en,wd,A,D,t,r,rfl,_⟩:=h;rfl
 obtain⟨hd,en,wd,WA,D,t,r,rfl,S,ht,q⟩:=h;have hu:=eN hr;have ai:(["_law_x","_law_env"]:Ki zZ).Nodup:=by rfl'
 exists _,aJ (WC<|uI (i:=3) (N':=["_law_x","_law_env"]) (src:=[Kr,Kp 2]) rfl scVar.nd rfl rfl fJ (HJ<|pv 2) (g:=cJ 0) (λ_ _ _ _=>gL 0 ai) (λ_ _ _ _=>xA<|gO<|rH<|bU hu (pv 1) (pv 0) λ_ _=>U) λ_ _ _ _=>pv 0)
  (aJ (cG (PW.pt<|lO (cC (GN<|oT hu) (pv 3) (cU aE)<|cI _)<|nX<|cC oI (bD T hr rfl<|aA (pv 0)<|aA aO aE) aO<|cI _) (aR<|bQ<|bD O hr rfl<|aA (pv 0)<|aA (pv 3) aE) cS)<|aR<|bQ<|bD O hr rfl<|aA (pv 0)<|aA (cE sU (bU hu (pv 1) aX λ_ _=>U)<|fF (Jw rfl) rfl aj (by rfl')<|aA (pv 2) aE) aE)
 ac_rfl
 obtain⟨b,a9,hk⟩:=S.env;have hU:D.U.length=9:=by unfold WD.U;rw[cN,bN,S.ok.v4,S.ok.p4]
 have an:=hk.len;obtain⟨us,eu,ao,_⟩:=hk.strs;exists en,b,a9;refine{_,U,en,b,U,a9,λo n I=>?_};have af:n≠en:=λz=>by rw[z,zb1]at I;cases I
 have ap:H n=none:=by rw[aC af]at I;exact I
 refine GR (xs:=b.map λp=>kV p.1) (λi σ u=>(∃x,σ=[x,Kp<|.ref en])/\FrS [] (upd H en<|.frz o<|.dK b) u/\∃ss:Ki zZ,↑ss<=i/\u n\(.lst<|ss.map Yf)) {{_,U},(FrS.refl).put I,[],by simp,zb1} ?_ ?_ ?_
 .rintro i σ u hi ⟨_,fr,_⟩;exact fr _ _ (by trivial) zb1
 .rintro i x σ u j ⟨⟨x0,rfl⟩,fr,ss,hs,Z⟩;have ad:=j;rw[eu]at j;obtain⟨hi,_⟩:=ww4.mp j;rw[aK]at hi;rw[bR,bJ hi]at j;cases j;have al:(Ku us[i]:aG)∈b.map (·.1):=by
   rw[bR]at ad;obtain⟨p,hp,e⟩:=wx3.mp ad;have:p.1=Ku us[i]:=by
    obtain⟨y,_,ey⟩:=hk.ks p.1<|wx6.mpr ⟨p,dC hp,rfl⟩;rw[ey]at e ⊢;cases e;rfl
   exact wx6.mpr {p,dC hp,this}
  obtain⟨v,hv⟩:∃v,aF b (Ku us[i])\v:=by
   cases z:aF b (Ku us[i])with
   | some v=>exact⟨v,rfl⟩
   | none=>exact absurd al<|FX z
  exists _,U,_,U,en,v,U,.inl {b,Ku us[i],.inr {o,fr _ _ (by trivial) zb1},U,hv.symm},_,U;refine bH (λc=>?_) λc=>?_
  .exists _,rfl,_,Z,by rw[aK];exact bM ∅,{_,U},fr.put I,ss++[us[i]],?_
   .rw[bN,eJ];lia
   .rw[zb1,bT];rfl
  .exact⟨⟨_,rfl⟩,fr,ss,∅,Z⟩
 .rintro σ u ⟨_,fr,ss,hs,Z⟩;rw[aK]at hs;exists o,fr _ _ (by trivial) zb1;have L:FrS [] H (upd u en<|.dK b):=FrS.thaw a9 fr;have S1:=S.fr0 L;have J:upd u en (.dK b) n\(.lst<|ss.map Yf):=by rw[aC af];exact Z
  generalize upd u en (.dK b)=H1 at L S1 J;have a2:∀(H2:Hp)(X:Kl),Sit H2 hd en wd WA D X r->FrS (Ms hd en WA) H H2->FrS [hd] H H2->X<=t+1->
    iK (gD (dB K) [] E<|bG (aI 0)<|bG (dJ DX (nK (aI 1)<|tC<|.str "vars")<|mK (λxs H Q=>∃p kvs,xs=[.ref p]/\Rd H p (.dK kvs)/\∀l,H l=Kr->Q (.ref l) (upd H l<|.lst<|kvs.map λb=>kV b.1))<|bG (aI 2) bE) bE) ⟨λ_ H=>Q .non H,Q,λ_ _=>Kn,λ_ _=>Kn⟩ [Kp<|.ref hd,Kp<|.ref wd,Kp<|.ref en,Kp<|.ref n] H2:=by
   intro H2 X B W M aq;obtain⟨a8,a7,aa⟩:=B.env;obtain⟨ag,ac,ah,_⟩:=aa.strs;have ak:=aa.len;refine{_,U,_,U,wd,_,U,B.w.g.2.2.2.2.2.1,_,U,en,a8,U,.inl a7,λl hl=>?_};have G:=B.fr0<|Yj (S:=[]) (o:=.lst<|a8.map λb=>kV b.1) hl;refine{WA.vars,l,_,_,U,U,G.w.vars.2,zb1,?_,λp hp=>?_}
   .rw[aK,aK,S.ok.v4];exact cX (bM ∅)
   .have S4:=G.fr0<|Yj (S:=[]) (o:=.lst<|D.vars.map Yf++a8.map λb=>kV b.1) hp;rw[ac,<-bT]at S4 ⊢;rw[ac]at hp;obtain⟨d,m,C⟩:=S4.hand;refine{hd,p,d,m,X,r,_,U,C,∅,jC (ss:=D.vars++ag) zb1 C,Yl zb1,?_,?_,λx d' m' t' j c e=>?_}
    .intro z;have:=cH Lj z;rw[aK,bN,S.ok.v4,iY]at this;lia
    .rw[aK,bN,S.ok.v4];lia
    obtain⟨y,hy,rfl⟩:=wx6.mp j;refine q y _ t' (S4.setHand c) ?_ ∅ ?_
    .exact(W.trans<|(Yj hl).trans<|Yj hp).put' (by trivial)
    .exact(M.trans<|(Yj hl).trans<|Yj hp).put' (by trivial)
  refine{_,U,bW _,λpe a5=>?_};have B:=S1.fr0<|Yj (S:=[]) (o:=.lst []) a5;have N:n≠pe:=aQ J a5;exists n,pe,_,U,U,N,Yl (by rw[aC N];exact J),Yl zb1,_,rfl;have W:FrS (Ms hd en WA) H (upd H1 pe<|.lst []):=(L.trans<|Yj a5).mono (by trivial);have M:FrS [hd] H (upd H1 pe<|.lst []):=(L.trans<|Yj a5).mono (by trivial);cases ss with
  | nil=>exact a2 _ t B W M ∅
  | cons y ys=>
   obtain⟨d,m,C⟩:=B.hand;refine{_,U,hd,d,m,t,r,4,U,C,∅,by decide,by decide,λx d' m' Y x0 x1 c e=>{_,_,U,U,_,U,?_}};have G:=B.setHand (r':=r) c;have f3:=W.put' (a:=hd) (o:=hl d' m' Y r) (by trivial);have ab:=M.put' (a:=hd) (o:=hl d' m' Y r) (by trivial);have ae:n≠hd:=jC (ss:=y::ys) (by rw[aC N];exact J) C;refine bH (λc=>?_) λc=>?_
   .obtain⟨d,m,C⟩:=G.hand;refine{_,U,_,U,hd,n,d,m,Y,r,_,U,C,∅,ae,Yl (by rw[aC ae,aC N];exact J),by simp,by rw[aK];lia,λx d' m' t' j c e=>?_};obtain⟨y,hy,rfl⟩:=wx6.mp j;exact q y _ t' (G.setHand c) (f3.put'<|by trivial) ∅ (ab.put'<|by trivial)
   .exact a2 _ Y G f3 ab e
def Tup(H H':Hp):Prop:=∀b a,H b\.tup a->H' b\.tup a
def Tup.trans{A B C:Hp}(f:Tup A B)(g:Tup B C):Tup A C:=λb a h=>g b a<|f b a h
def Tup.of0(f:FrS [] H H'):Tup H H':=λb _ h=>f b _ bB h
open Tup renaming of0->Yo
def Tup.new(hp:H p=Kr):Tup H (upd H p o):=λb a h=>by
 rw[aC<|aQ h hp];exact h
open Tup renaming new->Yn
theorem Tup.lst(hp:H p\.lst ys):Tup H (upd H p o):=λb a h=>by
 rw[aC λz=>by rw[z,hp]at h;cases h];exact h
theorem FrS.tup(f:FrS M H H')(a:∀b∈M,∀d,H b≠Kp (.tup d)):Tup H H':=λb d h=>f b _ (λz=>a b z d h) h
def Sit.notup{A:WA}(S:Sit H hd en wd A D t r):∀b∈Ms hd en A,∀x,H b≠Kp (.tup x):=by
 obtain⟨⟨d,m,B,i⟩,⟨u,h,j⟩,⟨o,e,q⟩,⟨n,f,s⟩,w,nd,l⟩:=S;intro b a x;simp only[Ms,wx0,bB,dO]at a;obtain rfl|rfl|rfl|rfl:=a
 .rw[B];intro z;cases z
 .rw[h];intro z;cases z
 .rw[e];intro z;cases z
 .rw[f];intro z;cases z
theorem Sit.tup{A:WA}(S:Sit H hd en wd A D t r)(f:FrS (Ms hd en A) H H'):Tup H H':=FrS.tup f S.notup
inductive Rw | make (x k:zZ) | copy (x y:zZ) | put (x f y:zZ) | take (x y f:zZ) | say (w:zZ) | bring (k:zZ)
def Rw.vs:Rw->Ki V
 | .make x k=>[.str "make",.str x,.str k]
 | .copy x y=>[.str "copy",.str x,.str y]
 | .put x f y=>[.str "put",.str x,.str f,.str y]
 | .take x y f=>[.str "take",.str x,.str y,.str f]
 | .say w=>[.str "say",.str w]
 | .bring k=>[.str "bring",.str k]
inductive PlainR(Z:zZ->Kj zZ->Prop)(H:Hp)(a:eH):Prop
 | mk(r:Rw)(h:H a\.tup r.vs)(b:∀k,r=.bring k->Z k Kr):PlainR Z H a
inductive CallR(Z:zZ->Kj zZ->Prop)(H:Hp)(a:eH):Prop
 | mk(x y k d:zZ)(g:eH)(ss:Ki zZ)(h:H a\.tup [.str "call",.str x,.str y,.str k,.str d,.ref g])(hg:H g\(.tup<|ss.map Yf))(hl:↑ss<=1000)(hz:Z k (Kp d)):CallR Z H a
def PlainR.keep(h:PlainR Z H a)(f:Tup H H'):PlainR Z H' a:=by
 obtain⟨r,h,b⟩:=h;exact{r,f _ _ h,b}
def CallR.keep(h:CallR Z H a)(f:Tup H H'):CallR Z H' a:=by
 obtain⟨x,y,k,d,g,e,h,b,hl,i⟩:=h;exact{x,y,k,d,g,e,f _ _ h,f _ _ b,hl,i}
inductive DpG(H:Hp)(pv gv:V):Prop
 | mk(pt:eH)(ps:Ki zZ)(g:Kj zZ)(h1:pv=.ref pt)(h2:H pt\(.tup<|ps.map Yf))(h3:gv=aY g)(h4:↑ps<=1000)(h5:("own":zZ)∉ps):DpG H pv gv
def DpG.keep{u v:V}(h:DpG H u v)(f:Tup H H'):DpG H' u v:=by
 obtain⟨pt,i,g,j,e,b,d,a⟩:=h;exact{pt,i,g,j,f _ _ e,b,d,a}
def FC(Z:zZ->Kj zZ->Prop)(H:Hp)(a:eH):Prop:=PlainR Z H a\/CallR Z H a
inductive Fl(Z:zZ->Kj zZ->Prop)(H:Hp):Kk->Ki eH->Ki eH->Prop
 | nil {n:Kk}:Fl Z H n [] []
 | one {n:Kk} {a:eH} {rs fs:Ki eH} (h:FC Z H a) (t:Fl Z H n rs fs):Fl Z H n (a::rs) (a::fs)
 | again {n:Kk} {a l:eH} {rs1 fs1 rs fs:Ki eH} (h:H a\.tup [.str "again",.ref l]) (hl:H l\(.tup<|rs1.map Yg)) (s:Fl Z H n rs1 fs1) (t:Fl Z H (n+1) rs fs):Fl Z H (n+1) (a::rs) (a::(fs1++fs))
 | either {n:Kk} {a l1 l2:eH} {rs1 fs1 rs2 fs2 rs fs:Ki eH} (h:H a\.tup [.str "either",.ref l1,.ref l2]) (h1:H l1\(.tup<|rs1.map Yg)) (h2:H l2\(.tup<|rs2.map Yg)) (s1:Fl Z H n rs1 fs1) (s2:Fl Z H n rs2 fs2) (t:Fl Z H (n+1) rs fs):Fl Z H (n+1) (a::rs) (a::(fs1++(fs2++fs)))
theorem Fl.keep(h:Fl Z H n rs fs)(f:Tup H H'):Fl Z H' n rs fs:=by
 induction h with
 | nil=>exact .nil
 | one h _ i=>exact .one (h.imp (·.keep f) (·.keep f)) i
 | again h hl _ _ b a=>exact .again (f _ _ h) (f _ _ hl) b a
 | either h e d _ _ _ b a j=>exact .either (f _ _ h) (f _ _ e) (f _ _ d) b a j
def Fl.app(h:Fl Z H n rs fs)(g:Fl Z H n rs' fs'):Fl Z H n (rs++rs') (fs++fs'):=by
 induction h with
 | nil=>exact g
 | one h _ d=>exact .one h<|d g
 | again h hl s _ j a=>
  have:=Fl.again h hl s<|a g;rw[<-gF]at this;exact this
 | either h b i l f _ j a e=>
  have:=Fl.either h b i l f<|e g;simpa [gF]using this
inductive Lots(Z:zZ->Kj zZ->Prop)(H:Hp)(n:Kk):Ki eH->Ki eH->Prop
 | nil:Lots Z H n [] []
 | snoc {ls fs:Ki eH} {l:eH} {rs f1:Ki eH} (h:Lots Z H n ls fs) (hl:H l\(.tup<|rs.map Yg)) (s:Fl Z H n rs f1):Lots Z H n (ls++[l]) (fs++f1)
theorem Lots.keep(h:Lots Z H n ls fs)(f:Tup H H'):Lots Z H' n ls fs:=by
 induction h with
 | nil=>exact .nil
 | snoc _ hl s a=>exact a.snoc (f _ _ hl)<|s.keep f
def Lots.zero(h:Lots Z H n ls fs)(e:↑ls=0):ls=[]/\fs=[]:=by
 cases h with
 | nil=>exact⟨rfl,rfl⟩
 | snoc h hl s=>rw[bN,eJ]at e;lia
def Lots.one(h:Lots Z H n ls fs)(e:↑ls=1):∃l a,ls=[l]/\H l\(.tup<|a.map Yg)/\Fl Z H n a fs:=by
 cases h with
 | nil=>cases e
 | snoc h hl s=>
  rw[bN,eJ]at e;obtain⟨rfl,rfl⟩:=h.zero ∅;exact{_,_,U,hl,s}
def Lots.two(h:Lots Z H n ls fs)(e:↑ls=2):∃f d l m i j,ls=[f,m]/\fs=l++j/\H f\(.tup<|d.map Yg)/\Fl Z H n d l/\H m\(.tup<|i.map Yg)/\Fl Z H n i j:=by
 cases h with
 | nil=>cases e
 | snoc h hl s=>
  rw[bN,eJ]at e;obtain⟨f,d,rfl,a,b⟩:=h.one ∅;exact{f,d,_,_,_,_,U,U,a,b,hl,s}
def Lots.row{w:zZ}(h:Lots Z H n ls fs)(d:H a\(.tup<|.str w::ls.map Yg))(e:↑ls=1/\w="again"\/↑ls=2/\w="either"):Fl Z H (n+1) [a] (a::fs):=by
 obtain⟨e,rfl⟩|⟨e,rfl⟩:=e
 .obtain⟨l,rs,rfl,b,s⟩:=h.one e;have:=Fl.again (rs:=[]) (fs:=[]) d b s .nil;rwa [fP]at this
 .obtain⟨q,x,o,r,u,m,rfl,rfl,i,j,f,s2⟩:=h.two e;have:=Fl.either (rs:=[]) (fs:=[]) d i f j s2 .nil;rwa [fP]at this
inductive qO(vs:Ki V)(H:Hp)(Q:VK):Prop
 | mk(hd en wd:eH)(A:WA)(D:WD)(t r:Kl)(h1:vs=[.ref hd,.ref wd,.ref en])(h2:Sit H hd en wd A D t r)(h3:t+1<1000000)(h4:∀(x:zZ)(H':Hp)(t':Kl),x∈D.U->Sit H' hd en wd A D t' r->FrS (Ms hd en A) H H'->t'<=t+1->FrS [hd] H H'->Q (.str x) H'):qO  vs H Q
def uK:Sp:=λvs H Q _=>qO  vs H Q
def BH:bX qA qA (bP wJ):=cF
def xC(F:Fun K "_law_target" "_law_target" wJ f fd)(O:aV P w K mg base k "_law_of" qC (dB K)):
  aS P w K mg base bO (k+1) f fd qA uK:=by
 refine F.ok BH (λvs H Q E h=>?_) λa9 A outer s H vs Q E hr h=>?_
 .obtain⟨hd,en,wd,A,D,t,r,rfl,_⟩:=h;rfl
 obtain⟨hd,en,wd,WA,D,t,r,rfl,S,ht,q⟩:=h;have Z:=eN hr;have a5:(["_law_x",qW]:Ki zZ).Nodup:=by rfl'
 exists _,aR<|bQ<|bD O hr rfl<|aA (pv 0)<|aA (cE sU (bU Z (pv 1) aX λ_ _=>U)<|WL<|iQ (N':=["_law_x",qW]) (src:=[Kr,Kp 1]) rfl fJ (HJ<|pv 2) (g:=cJ 0) (λ_ _ _ _=>gL 0 a5) (λ_ _ _ _=>xA<|cC (show OpR _ _ (jO K Kt) from sJ) (pv 0) (bU Z (pv 1) aX λ_ _=>U) U) λ_ _ _ _=>pv 0) aE
 ac_rfl
 obtain⟨B,N,X⟩:=S.env;have hU:D.U.length=9:=by unfold WD.U;rw[cN,bN,S.ok.v4,S.ok.p4]
 have aa:=X.len;obtain⟨us,eu,ac,a7⟩:=X.strs;exists _,U,_,U,wd,_,U,S.w.g.2.2.2.2.2.1,en,B,N;refine{_,U,en,B,U,N,λo C l=>?_};have W:C≠en:=λz=>by rw[z,zb1]at l;cases l
 have ad:H C=none:=by rw[aC W]at l;exact l
 have ab:wd≠en:=λz=>by obtain⟨kvs,⟨hn,_⟩,_⟩:=S.w.k;exact hn (by rw[z];simp)
 refine GR (xs:=B.map λp=>kV p.1) (λi σ j=>(∃x,σ=[x,Kp<|.ref wd])/\FrS [] (upd H en<|.frz o<|.dK B) j/\∃ss:Ki zZ,↑ss<=i/\(∀x∈ss,x∈D.U)/\j C\(.lst<|ss.map Yf)) {{_,U},(FrS.refl).put l,[],by simp,by simp,zb1} ?_ ?_ ?_
 .rintro i σ j hi ⟨_,fr,_⟩;exact fr _ _ (by trivial) zb1
 .rintro i x σ j a ⟨⟨x0,rfl⟩,fr,ss,hs,I,J⟩;rw[eu]at a;obtain⟨hi,_⟩:=ww4.mp a;rw[aK]at hi;rw[bR,bJ hi]at a;cases a;have a8:FrS (Ms hd en WA) H j:=λb u n e=>fr b u (by trivial) (by rw[aC λz=>n<|by rw[z];simp];exact e)
  have Y:=S.w.keep a8;exists _,U,_,U,wd,_,U,Y.g.2.2.2.2.2.2.1,WA.params,_,U,.inl<|Yl Y.params.2,U,jV _,_,U;refine bH (λc=>?_) λc=>?_
  .exists _,rfl,_,J,by rw[aK];exact bM ∅,{_,U},fr.put l,ss++[us[i]],?_,?_
   .rw[bN,eJ];lia
   .intro x a;obtain a|a:=wz2.mp a
    .exact I x a
    .rw[wx1.mp a];exact a7 _<|iG hi
   .rw[zb1,bT];rfl
  .exact⟨⟨_,rfl⟩,fr,ss,∅,I,J⟩
 .rintro σ j ⟨_,fr,ss,hs,I,J⟩;rw[aK]at hs;exists o,fr _ _ (by trivial) zb1;have L:FrS [] H (upd j en<|.dK B):=FrS.thaw N fr;have T:=S.fr0 L;have a6:upd j en (.dK B) C\(.lst<|ss.map Yf):=by rw[aC W];exact J
  refine{WA.vars,C,_,_,U,U,T.w.vars.2,a6,?_,λp hp=>?_}
  .rw[aK,aK,S.ok.v4];exact cX (bM ∅)
  .have M:=T.fr0<|Yj (S:=[]) (o:=.lst<|D.vars.map Yf++ss.map Yf) hp;rw[<-bT]at M ⊢;obtain⟨d,m,hh⟩:=M.hand;refine{hd,p,d,m,t,r,_,U,hh,∅,jC (ss:=D.vars++ss) zb1 hh,Yl zb1,?_,?_,λx d' m' t' a c e=>?_}
   .intro z;have:=cH Lj z;rw[aK,bN,S.ok.v4,iY]at this;lia
   .rw[aK,bN,S.ok.v4];lia
   obtain⟨y,G,rfl⟩:=wx6.mp a;refine q y _ t' ?_ (M.setHand c) ?_ ∅ ?_
   .obtain G|G:=wz2.mp G
    .unfold WD.U;simp[G]
    .exact I y G
   .exact((L.trans<|Yj hp).mono<|by trivial).put' (by trivial)
   .exact((L.trans<|Yj hp).mono<|by trivial).put' (by trivial)
def KA{w:Hp}{tp:eH}{ts:Ki eH}{tr:Tr}{b:eH}(n:w tp\(.lst<|ts.map Yg))(hl:↑ts=↑tr)(o:∀(j:Kk) t x,ts[j]?\t->tr[j]?\x->w t\.tup [.str x.1,aY x.2])(l:w b=Kr)(s:↑tr<=1000)
  {Q:Hp->Prop} (q:∀A,FrS [] w A->A b\(.lst<|(tr.map (·.1)).map Yf)->Q A):oC (tF K tp) (fC K 2<|eR (cJ 0)<|eR (cJ 1) eV) mZ (aI 0) b [Kr,Kr] (upd w b<|.lst []) Q:=by
 refine vI (xs:=ts.map Yg) (λi z a=>(∃x y,z=[x,y])/\FrS [] w a/\a b\(.lst<|((tr.take i).map (·.1)).map Yf)) {{_,_,U},(FrS.refl).put l,zb1} ?_ ?_ ?_
 .rintro i z a B ⟨_,fr,_⟩;exact Yl<|fr _ _ (by trivial) n
 .rintro i x z a h ⟨⟨r,u,rfl⟩,fr,d⟩;rw[bR]at h;obtain⟨t,m,rfl⟩:=wx3.mp h;obtain⟨B,_⟩:=ww4.mp m;have f:tr[i]?=Kp tr[i]:=bJ ∅;have e:=o i t _ m f;exists t,_,U,Ym<|fr _ _ (by trivial) e,U,_,_,U,_,_,U,U;exists _,U,_,d,?_,{_,_,U},fr.put l
  .rw[aK,aK,eS];exact bM ∅
  .rw[zb1,eY,f,bT,bT];rfl
 .rintro z a ⟨_,fr,d⟩;rw[fI<|by rw[aK];lia]at d;exact q a fr d
inductive RB(vs:Ki V)(H:Hp)(Q:VK):Prop
 | mk(hd en wd:eH)(A:WA)(D:WD)(t r:Kl)(h1:vs=[.ref hd,.ref wd,.ref en])(h2:Sit H hd en wd A D t r)(h3:t+3<1000000)(h4:∀(x:eH)(H':Hp)(t':Kl),PlainR (fN D) H' x->Sit H' hd en wd A D t' r->FrS (Ms hd en A) H H'->t'<=t+3->Q (.ref x) H'):RB  vs H Q
def GX:Sp:=λvs H Q _=>RB  vs H Q
abbrev CK:Ki zZ:=[qH,qW,"_law_env","_law_names","_law_soon","_law_kind","_law_x"]
def yk1:bX CK qA (bP OT):=cF
def Ed{k:Kk}(F:Fun K "_law_make" "_law_make" OT f fd)(T:aV P w K mg base k "_law_take" qB gY)(O:aV P w K mg base k "_law_of" qC (dB K))(G:aV P w K mg base k "_law_target" qA uK):
  aS P w K mg base bO (k+1) f fd qA GX:=by
 refine F.ok yk1 (λvs H Q E h=>?_) λaz A outer s H vs Q E hr h=>?_
 .obtain⟨hd,en,wd,A,D,t,r,rfl,_⟩:=h;rfl
 obtain⟨hd,en,wd,WA,D,t,r,rfl,S,ht,q⟩:=h;have hu:=eN hr;have af:(["_law_name","_law_elder"]:Ki zZ).Nodup:=by rfl'
 have ao:(["_law_name",qW]:Ki zZ).Nodup:=by rfl'
 exists _,aJ (uI (i:=3) (N':=["_law_name","_law_elder"]) (src:=[Kr,Kr]) rfl yk1.nd rfl rfl fJ (iJ<|bU hu (pv 1) aX λ_ _=>U) (g:=fC K 2<|eR (cJ 0)<|eR (cJ 1) eV) (λ_ _ _ _=>dS (n:=2) rfl<|bK (gL 0 af)<|bK (gL 1 af) dX) (λ_ _ _ _=>gW) λ_ _ _ _=>pv 0)
  (aJ (uI (i:=4) (N':=["_law_name",qW]) (src:=[Kr,Kp 1]) rfl yk1.nd rfl rfl fJ (iJ<|pv 3) (g:=cJ 0) (λ_ _ _ _=>gL 0 ao) (λ_ _ _ _=>xA<|cC (show OpR _ _ (jO K Ks) from yK) (pv 0) (bU hu (pv 1) aX λ_ _=>U) rfl) λ_ _ _ _=>pv 0)<|aJ (sL 5 yk1.nd<|bD O hr rfl<|aA (pv 0)<|aA (eI (cU<|aA (pv 4)<|aA (pv 4)<|aA (pv 3) aE)<|bD T hr rfl<|aA (pv 0)<|aA aO aE) aE)<|aJ (sL 6 yk1.nd<|bD G hr rfl<|aA (pv 0)<|aA (pv 1)<|aA (pv 2) aE)<|aJ (eK hu (pv 2) (pv 6) (pv 5) rfl)<|aR<|bQ<|bZ<|aA aX<|aA (pv 6)<|aA (pv 5) aE)
  
 ac_rfl
 have hU:D.U.length=9:=by unfold WD.U;rw[cN,bN,S.ok.v4,S.ok.p4]
 have b2:=S.ok.l12;obtain⟨ts,t1,t2,t3⟩:=S.w.tree;refine{_,U,wd,_,U,S.w.g.1,WA.tree,U,{_,Yl t1.2},λu ar=>?_};refine KA (tr:=D.tr) t1.2 t2 (λj t x a b=>(t3 j t x a b).2) ar ∅ λH1 f1 N=>?_
 have S1:=S.fr0 f1;refine{_,U,u,U,{_,Yl N},λl ac=>?_};have b0:u≠l:=aQ N ac;refine vI (xs:=(D.tr.map (·.1)).map Yf) (λi σ Z=>(∃x,σ=[x,Kp<|.ref wd])/\FrS [] H1 Z/\Z l\(.lst<|(((D.tr.map (·.1)).take i).filter λx=>decide<|x∉D.late).map Yf)) {{_,U},(FrS.refl).put ac,zb1} ?_ ?_ ?_
 .rintro i σ Z hi ⟨_,fr,_⟩;exact Yl<|fr _ _ (by trivial) N
 .rintro i x σ Z B ⟨⟨x0,rfl⟩,fr,ag⟩;obtain⟨hi,_⟩:=ww4.mp B;rw[aK]at hi;rw[bR,bJ hi]at B;cases B;have X:=S1.fr0 fr;have ap:=hi;rw[aK]at ap;have W:↑(((D.tr.map (·.1)).take i).filter λx=>decide<|x∉D.late)<=12:=by
   have:=tZ (λx=>decide<|x∉D.late)<|(D.tr.map (·.1)).take i;rw[eS,aK]at this;lia
  exists _,U,_,U,wd,_,U,X.w.g.2.1,WA.late,_,U,.inl<|Yl X.w.late.2,U,jV _,_,U;have ef:((D.tr.map (·.1)).take<|i+1).filter (λx=>decide<|x∉D.late)=((D.tr.map (·.1)).take i).filter (λx=>decide<|x∉D.late)++[(D.tr.map (·.1))[i]].filter (λx=>decide<|x∉D.late):=by
   rw[eY,bJ hi,Oy];rfl
  rw[lW];refine bH (λc0=>?_) λc0=>?_
  rotate_left
  .have c:(D.tr.map (·.1))[i]∈D.late:=by simpa using c0
   exists {_,U},fr;rw[ef,Rk (by simpa using c),Nv,fP];exact ag
  .have c:(D.tr.map (·.1))[i]∉D.late:=by simpa using c0
   exists _,U,_,ag,by rw[aK];exact bM ∅,{_,U},fr.put ac;rw[zb1,ef,Rj (by simpa using c),Nv,bT];rfl
 rintro σ H2 ⟨_,f2,J⟩;rw[aK,fI<|aZ _]at J;have X:=S1.fr0 f2;have a7:=f2 _ _ (by trivial) N;obtain⟨x1,ak,a8⟩:=S.ok.soon;have a0:((D.tr.map (·.1)).filter λx=>decide<|x∉D.late)≠[]:=λz=>by
  have:x1∈((D.tr.map (·.1)).filter λx=>decide<|x∉D.late):=vs7.mpr ⟨ak,by simp[a8]⟩;rw[z]at this;cases this
 have ab:D.tr.map (·.1)≠[]:=λz=>by
  have:x1∈D.tr.map (·.1):=ak;rw[z]at this;cases this
 have W:↑((D.tr.map (·.1)).filter λx=>decide<|x∉D.late)<=12:=by
  have:=tZ (λx=>decide<|x∉D.late)<|D.tr.map (·.1);rw[aK]at this;lia
 generalize hss:((D.tr.map (·.1)).filter λx=>decide<|x∉D.late)=ss at J a0 W;have ah:∀x∈ss,x∈D.names:=λx B=>by rw[<-hss]at B;exact(vs7.mp B).1
 have ae:FrS (Ms hd en WA) H H2:=(f1.trans f2).mono (by trivial);refine{_,U,_,U,_,U,_,U,eC rfl,λC Y=>?_};have S3:=X.fr0<|Yj (S:=[]) (o:=.lst [.ref l,.ref l,.ref u]) Y;obtain⟨d,m,I⟩:=S3.hand;refine{_,U,hd,d,m,t,r,3,U,I,∅,by decide,by decide,λx d' m' t4 x0 x1 c e=>?_};have S4:=S3.setHand (r':=r) c;have L:C≠hd:=λz=>by have:=I.1;rw[z]at *;rw[zb1]at this;cases this
 have ai:l≠hd:=λz=>by have M:=I.1;rw[aC<|bS L]at M;exact jC J {M,I.2} z
 have ax:u≠hd:=λz=>by have M:=I.1;rw[aC<|bS L]at M;exact jC a7 {M,I.2} z
 have aj:l≠C:=aQ J Y;have am:u≠C:=aQ a7 Y;have a9:=(ae.trans<|Yj (o:=.lst [.ref l,.ref l,.ref u]) Y).put' (a:=hd) (o:=hl d' m' t4 r) (by trivial);have go:∀(pz:eH)(zs:Ki zZ),pz≠hd->pz≠C->H2 pz\(.lst<|zs.map Yf)->zs≠[]->↑zs<=12->(∀x∈zs,x∈D.names)->
   dB K [.ref hd,.ref pz] (upd (upd H2 C<|.lst [.ref l,.ref l,.ref u]) hd<|hl d' m' t4 r) (λv Hv=>gA (gG (gD uK [] E0<|bG (aI 0)<|bG (aI 1)<|bG (aI 2) bE)<|cJ 6) (gA (oN (aI 2) (aI 6)<|aI 5)<|iK<|dM<|bG (tC<|.str "make")<|bG (aI 6)<|bG (aI 5) bE) ⟨λ_ H=>Q .non H,Q,λ_ _=>Kn,λ_ _=>Kn⟩ [Kp<|.ref hd,Kp<|.ref wd,Kp<|.ref en,Kp<|.ref u,Kp<|.ref l,Kp v,Kr] Hv) E0:=by
  intro pz zs h1 h2 hz ay av aw;obtain⟨d,m,I⟩:=S4.hand;refine{hd,pz,d,m,t4,r,_,U,I,∅,h1,Yl (by rw[aC h1,aC h2];exact hz),by simpa using ay,by rw[aK];lia,λy d5 m5 t5 hy c5 e5=>?_};obtain⟨z,as,rfl⟩:=wx6.mp hy;have S5:=S4.setHand (r':=r) c5;have aa:=a9.put' (a:=hd) (o:=hl d5 m5 t5 r) (by trivial);refine{_,U,_,U,_,U,hd,en,wd,WA,D,t5,r,U,S5,∅,λx6 H6 t6 an S6 f6 b1 _=>?_};obtain⟨kv,aq,hk⟩:=S6.env;exists _,U,_,U,_,U,en,_,U,DPut.k (k:=(Ku x6:aG)) aq<|bM (by have:=hk.len;lia);have S7:=S6.setEnv<|hk.put an<|.inr ⟨z,aw z as,rfl⟩;have ad:=(aa.trans f6).put' (a:=en) (o:=.dK<|aL kv (Ku x6)<|Yf z) (by trivial);refine{_,U,_,U,eC rfl,λpr al=>?_};exact q pr _ t6 {.make _ _,zb1,λ_ e=>nomatch e} (S7.fr0<|Yj al) (ad.trans<|Yj al) ∅
 have au:x=0\/x=1\/x=2:=by lia
 obtain rfl|rfl|rfl:=au
 .exact⟨C,_,_,.ref l,rfl,rfl,Yl (by rw[aC L];exact zb1),rfl,go l ss ai aj J a0 W ah⟩
 .exact⟨C,_,_,.ref l,rfl,rfl,Yl (by rw[aC L];exact zb1),rfl,go l ss ai aj J a0 W ah⟩
 .exact⟨C,_,_,.ref u,rfl,rfl,Yl (by rw[aC L];exact zb1),rfl,go u D.names ax am a7 ab (by unfold WD.names;rw[aK];lia) λx B=>B⟩
abbrev QR:Kd:=top 60
abbrev MI:Kd:=top 62
inductive WG(vs:Ki V)(H:Hp)(Q:VK):Prop
 | mk(hd en wd:eH)(A:WA)(D:WD)(t r:Kl)(ab dd:zZ)(h1:vs=[.ref hd,.ref wd,.ref en,.str ab,.str dd])(h2:Sit H hd en wd A D t r)(h3:t+12<1000000)(h4:ab∈D.names)(h5:dd∈D.deeds)(h6:∀(x:eH)(ss:Ki zZ)(H':Hp)(t':Kl),H' x\(.tup<|ss.map Yf)->↑ss<=1000->Sit H' hd en wd A D t' r->FrS (Ms hd en A) H H'->t'<=t+12->Q (.ref x) H'):WG  vs H Q
def KZ:Sp:=λvs H Q _=>WG  vs H Q
inductive UD(vs:Ki V)(H:Hp)(Q:VK):Prop
 | mk(hd en wd:eH)(A:WA)(D:WD)(t r:Kl)(h1:vs=[.ref hd,.ref wd,.ref en])(h2:Sit H hd en wd A D t r)(h3:t+7<1000000)(h4:∀(x:eH)(H':Hp)(t':Kl),PlainR (fN D) H' x->Sit H' hd en wd A D t' r->FrS (Ms hd en A) H H'->t'<=t+7->Q (.ref x) H'):UD  vs H Q
def PV:Sp:=λvs H Q _=>UD  vs H Q
def Sit.own{A:WA}(S:Sit H hd en wd A D t r)(B:Sit H6 hd en wd A D t6 r6)(f:FrS (Ms hd en A) H H6)(a:H pa=Kr):Sit (upd H6 pa o) hd en wd A D t6 r6/\FrS (Ms hd en A) H (upd H6 pa o):=by
 have C:pa∉Ms hd en A:=S.notin a;have u:∀b∈Ms hd en A,upd H6 pa o b=H6 b:=λb i=>aC (λz=>C<|by rw[<-z];exact i)
 have J:FrS (Ms hd en A) H (upd H6 pa o):=f.put a;obtain⟨⟨d,m,L,n⟩,⟨E,G,e⟩,⟨q,s,j⟩,⟨l,x,h⟩,w,nd,ok⟩:=B;exact{{{d,m,(u _<|by trivial).trans L,n},{E,(u _<|by trivial).trans G,e},{q,(u _<|by trivial).trans s,j},{l,(u _<|by trivial).trans x,h},S.w.keep J,nd,ok},J}
abbrev DP:Ki zZ:=[qH,qW,"_law_env","_law_above","_law_deed_here","_law_args_here","_law_kind","_law_some"]
def yt9:bX DP qD (bP QR):=cF
def Ee(F:Fun K "_law_args" "_law_args" QR f fd)(T:aV P w K mg base k "_law_take" qB gY)(O:aV P w K mg base k "_law_of" qC (dB K))(V':aV P w K mg base k "_law_variable" qA pM)(L:aV P w K mg base k "_law_line" qG BZ)(au:mg "tuple"=Kr):
  aS P w K mg base bO (k+1) f fd qD KZ:=by
 refine F.ok yt9 (λvs H Q E h=>?_) λb4 A outer s H vs Q E hr h=>?_
 .obtain⟨hd,en,wd,A,D,t,r,ab,J,rfl,_⟩:=h;rfl
 obtain⟨hd,en,wd,WA,D,t,r,ab,J,rfl,S,ht,aw,av,q⟩:=h;have Y:=eN hr;have ax:(["_law_x","_law_env","_law_kind",qW]:Ki zZ).Nodup:=by rfl'
 exists _,aJ (sL 5 yt9.nd<|cU aE)
  (aJ (eU dU rfl (iJ<|bU Y (bU Y (pv 1) aX λ_ _=>U) (bZ<|aA (bU Y (bU Y (pv 1) aX λ_ _=>U) (pv 3) λ_ _=>U)<|aA (pv 4) aE) λ_ _=>U) (yR (i:=6) yt9.nd rfl<|Oa rfl)<|aJ (WC<|uI (i:=7) (N':=["_law_x","_law_env","_law_kind",qW]) (src:=[Kr,Kp 2,Kp 6,Kp 1]) rfl yt9.nd rfl rfl fJ (HJ<|pv 2) (g:=cJ 0) (λ_ _ _ _=>gL 0 ax) (λ_ _ _ _=>xA<|PW.pt<|lO (gO<|rH<|bU Y (pv 1) (pv 0) λ_ _=>U)<|nX<|cC (show OpR _ _ (jO K Kt) from sJ) (pv 2) (bD L hr rfl<|aA (pv 3)<|aA (bU Y (pv 1) (pv 0) λ_ _=>U) aE) rfl) λ_ _ _ _=>pv 0)<|aR<|cG (PW.pt<|lO (cC (GN<|oT Y) (pv 7) (cU aE)<|cI _)<|nX<|cC oI (bD T hr rfl<|aA (pv 0)<|aA aO aE) aO<|cI _) (aR<|dH<|eW eQ fU fS fL (pv 5)<|aA (bD O hr rfl<|aA (pv 0)<|aA (pv 7) aE) aE)<|aR<|dH<|eW eQ fU fS fL (pv 5)<|aA (bD V' hr rfl<|aA (pv 0)<|aA (pv 1)<|aA (pv 2) aE) aE)<|aR<|bQ<|fF jA rfl au (by rfl')<|aA (pv 5) aE)
 ac_rfl
 have hU:D.U.length=9:=by unfold WD.U;rw[cN,bN,S.ok.v4,S.ok.p4]
 refine{bW _,λj a3=>?_};have Z:=S.fr0<|Yj (S:=[]) (o:=.lst []) a3;obtain⟨rt,wp,ws,e1,e2,e3,e4,e5⟩:=S.w.wl ab aw J av;refine{_,U,wd,_,U,Z.w.g.2.2.2.1,_,U,wd,_,U,Z.w.g.2.2.2.2.2.2.2.2.2.2,_,U,WA.roots,_,U,.inl {_,Ku ab,.inl Z.w.roots.2,U,e1.symm},_,U,eC rfl,λpk a9=>?_};have S2:=Z.fr0<|Yj (S:=[]) (o:=.tup [Yf rt,Yf J]) a9;have ai:=e3.keep<|(Yj (o:=.lst []) a3).trans<|Yj (o:=.tup [Yf rt,Yf J]) a9;have a8:upd (upd H j<|.lst []) pk (.tup [Yf rt,Yf J]) j\.lst []:=by rw[aC<|aQ (o:=.lst []) zb1 a9];exact zb1
 exists WA.wants,.ref wp,U,.inr {_,[Ku rt,Ku J],pk,.inl S2.w.wants.2,U,zb1,e2.symm},wp,U,{_,Yl ai.2};have ap:FrS (Ms hd en WA) H (upd (upd H j<|.lst []) pk<|.tup [Yf rt,Yf J]):=(Yj a3).trans<|Yj a9;generalize upd (upd H j<|.lst []) pk (.tup [Yf rt,Yf J])=H2 at S2 ai a8 ap;have a7:j∉Ms hd en WA:=S.notin a3;refine pW (xs:=ws.map Yf) (λi σ B=>∃(kx sx:Kj V)(tx:Kl)(xs:Ki zZ),σ=[Kp<|.ref hd,Kp<|.ref wd,Kp<|.ref en,Kp<|.str ab,Kp<|.str J,Kp<|.ref j,kx,sx]/\Sit B hd en wd WA D tx r/\FrS (Ms hd en WA) H B/\tx<=t+3*i/\B j\(.lst<|xs.map Yf)/\↑xs<=i) {_,_,t,[],U,S2,ap,∅,a8,by simp} ?_ ?_ ?_
 .rintro i σ B hi ⟨_,_,_,_,_,_,fr,_⟩;exact Yl (e3.keep fr).2
 .rintro i x σ B G ⟨kx,sx,tx,xs,rfl,Sx,fr,am,ad,aj⟩;obtain⟨hi,_⟩:=ww4.mp G;rw[aK]at hi;rw[bR,bJ hi]at G;cases G;obtain⟨C,ae,hk⟩:=Sx.env;have b5:=hk.len;obtain⟨us,eu,b8,_⟩:=hk.strs;exists en,C,ae;refine{_,U,en,C,U,ae,λo I a2=>?_};have as:I≠en:=λz=>by rw[z,zb1]at a2;cases a2
  have b9:B I=none:=by rw[aC as]at a2;exact a2
  refine GR (xs:=C.map λp=>kV p.1) (λM σ N=>(∃x,σ=[x,Kp<|.ref en,Kp<|.str ws[i],Kp<|.ref wd])/\FrS [] (upd B en<|.frz o<|.dK C) N/\∃ss:Ki zZ,↑ss<=M/\N I\(.lst<|ss.map Yf)) {{_,U},(FrS.refl).put a2,[],by simp,zb1} ?_ ?_ ?_
  .rintro M σ N hi ⟨_,fr,_⟩;exact fr _ _ (by trivial) zb1
  .rintro M x σ N G ⟨⟨x0,rfl⟩,X,ss,hs,a5⟩;have aq:=G;rw[eu]at G;obtain⟨hi,_⟩:=ww4.mp G;rw[aK]at hi;rw[bR,bJ hi]at G;cases G;have b0:(Ku us[M]:aG)∈C.map (·.1):=by
    rw[bR]at aq;obtain⟨p,hp,e⟩:=wx3.mp aq;have:p.1=Ku us[M]:=by
     obtain⟨y,_,ey⟩:=hk.ks p.1<|wx6.mpr ⟨p,dC hp,rfl⟩;rw[ey]at e ⊢;cases e;rfl
    exact wx6.mpr {p,dC hp,this}
   obtain⟨v,hv⟩:∃v,aF C (Ku us[M])\v:=by
    cases z:aF C (Ku us[M])with
    | some v=>exact⟨v,rfl⟩
    | none=>exact absurd b0<|FX z
   have al:∀Hz,FrS [] (upd B en<|.frz o<|.dK C) Hz->DGet Hz en (.str us[M]) (Kp v):=λHz fz=>.inl ⟨C,Ku us[M],.inr ⟨o,fz _ _ (by trivial) zb1⟩,rfl,hv.symm⟩
   exists _,U,_,U,en,v,U,al _ X,_,U;obtain rfl|⟨n,hn,rfl⟩:=hk.vs _ _ hv
   .show if (!decide (Yi=Yi))=Ks then _ else _
    rw[bC<|by trivial];exact{{_,U},X,ss,∅,a5}
   .show if (!decide (Yf n=Yi))=Ks then _ else _
    rw[bF<|by trivial];obtain⟨l,hl,b3,_⟩:=JW S.ok hn;have ay:FrS (Ms hd en WA) B N:=λb u n e=>X b u (by trivial) (by rw[aC λz=>n<|by rw[z];simp];exact e)
    refine{_,U,_,U,_,U,_,U,en,Yf n,U,al _ X,wd,_,WA,D,n,l,U,Sx.w.keep ay,S.ok,hl,λla Hz fz az b2=>?_};have b1:I≠la:=aQ a5 az;have ak:=fz _ _ (by trivial) a5;exists la,_,U,.inl<|Yl b2,U,jV _,_,U;refine bH (λc=>?_) λc=>?_
    .exists _,rfl,_,ak,by rw[aK];exact bM ∅,{_,U},(X.trans fz).put a2,ss++[us[M]],?_
     .rw[bN,eJ];lia
     .rw[zb1,bT];rfl
    .exact⟨⟨_,rfl⟩,X.trans fz,ss,∅,ak⟩
  .rintro σ N ⟨_,X,ss,hs,a5⟩;rw[aK]at hs;exists o,X _ _ (by trivial) zb1;have f1:FrS [] B (upd N en<|.dK C):=FrS.thaw ae X;have Z:=Sx.fr0 f1;have ac:upd N en (.dK C) I\(.lst<|ss.map Yf):=by rw[aC as];exact a5
   generalize upd N en (.dK C)=H3 at f1 Z ac;have a4:=f1 _ _ (by trivial) ad;refine{_,U,bW _,λpe aa=>?_};have S4:=Z.fr0<|Yj (S:=[]) (o:=.lst []) aa;have ao:I≠pe:=aQ ac aa;have a6:upd H3 pe (.lst []) j\(.lst<|xs.map Yf):=by rw[aC<|aQ a4 aa];exact a4
   have f4:FrS (Ms hd en WA) H (upd H3 pe<|.lst []):=fr.trans ((f1.trans<|Yj aa).mono<|by trivial);have ag:upd H3 pe (.lst []) I\(.lst<|ss.map Yf):=by rw[aC ao];exact ac
   exists I,pe,_,U,U,ao,Yl ag,Yl zb1,_,U;have ah:∀(H5:Hp)(W:Kl),Sit H5 hd en wd WA D W r->FrS (Ms hd en WA) H H5->W<=tx+1->H5 j\(.lst<|xs.map Yf)->AO (wP K "list" zF (aI 5)<|bG (gD pM [] E0<|bG (aI 0)<|bG (aI 1)<|bG (aI 2) bE) bE)
     ⟨λσ B=>∃(kx sx:Kj V)(tx:Kl)(xs:Ki zZ),σ=[Kp<|.ref hd,Kp<|.ref wd,Kp<|.ref en,Kp<|.str ab,Kp<|.str J,Kp<|.ref j,kx,sx]/\Sit B hd en wd WA D tx r/\FrS (Ms hd en WA) H B/\tx<=t+3*((i+1:Kk):Kl)/\B j\(.lst<|xs.map Yf)/\↑xs<=i+1,λ_ _=>Kn,λ_ _=>Kn,λ_ _=>Kn⟩ [Kp<|.ref hd,Kp<|.ref wd,Kp<|.ref en,Kp<|.str ab,Kp<|.str J,Kp<|.ref j,Kp<|.str ws[i],Kp<|.ref I] H5:=by
    intro H5 W S5 f5 b7 a0;refine{_,U,.inl {U,_,Yl a0},_,U,_,U,_,U,hd,en,wd,WA,D,W,r,U,S5,∅,λx H6 t6 S6 f6 b6 _=>?_};have af:=f6 _ _ a7 a0;have S7:=Sit.own (o:=.lst<|xs.map Yf++[Yf x]) S S6 (f5.trans f6) a3;exact{j,_,_,U,U,af,bM (by rw[aK];lia),_,_,t6,xs++[x],U,S7.1,S7.2,∅,by rw[zb1,bT];rfl,by rw[bN,eJ];lia}
   cases ss with
   | nil=>exact ah _ tx S4 f4 ∅ a6
   | cons y ys=>
    obtain⟨d,m,hh⟩:=S4.hand;refine{_,U,hd,d,m,tx,r,4,U,hh,∅,by decide,by decide,λx d' m' W x0 x1 c e=>{_,_,U,U,_,U,?_}};have S5:=S4.setHand (r':=r) c;have f5:=f4.put' (a:=hd) (o:=hl d' m' W r) (by trivial);have ar:I≠hd:=jC (ss:=y::ys) ag hh;have an:j≠hd:=λz=>a7 (by rw[z];simp)
    have a0:upd (upd H3 pe<|.lst []) hd (hl d' m' W r) j\(.lst<|xs.map Yf):=by rw[aC an];exact a6
    refine bH (λc=>?_) λc=>?_
    .obtain⟨d,m,hh⟩:=S5.hand;refine{_,U,.inl {U,_,Yl a0},_,U,_,U,hd,I,d,m,W,r,_,U,hh,∅,ar,Yl (by rw[aC ar];exact ag),by simp,by rw[aK];lia,λx d' m' t' G c e=>?_};obtain⟨x,_,rfl⟩:=wx6.mp G;have S7:=Sit.own (o:=.lst<|xs.map Yf++[Yf x]) S (S5.setHand (r':=r) c) (f5.put' (a:=hd) (o:=hl d' m' t' r)<|by trivial) a3;exact{j,_,_,U,U,by rw[aC an];exact a0,bM (by rw[aK];lia),_,_,t',xs++[x],U,S7.1,S7.2,∅,by rw[zb1,bT];rfl,by rw[bN,eJ];lia}
    .exact ah _ W S5 f5 e a0
 .rintro σ B ⟨kx,sx,tx,xs,rfl,Sx,fr,am,ad,aj⟩;rw[aK]at am aj;refine{_,U,j,_,U,.inl {Yl ad,λl hl=>?_}};exact q l xs _ tx zb1 ∅ (Sx.fr0<|Yj hl) (fr.trans<|Yj hl) ∅
abbrev vV:Ki zZ:=[qH,qW,"_law_env","_law_x","_law_y","_law_field_here","_law_z"]
def yg3:bX vV qA (bP MI):=cF
def Jq(F:Fun K "_law_field" "_law_field" MI f fd)(T:aV P w K mg base k "_law_take" qB gY)(O:aV P w K mg base k "_law_of" qC (dB K))(V':aV P w K mg base k "_law_variable" qA pM)(G:aV P w K mg base k "_law_target" qA uK):
  aS P w K mg base bO (k+1) f fd qA PV:=by
 refine F.ok yg3 (λvs H Q E h=>?_) λaa A outer s H vs Q E hr h=>?_
 .obtain⟨hd,en,wd,A,D,t,r,rfl,_⟩:=h;rfl
 obtain⟨hd,en,wd,WA,D,t,r,rfl,S,ht,q⟩:=h;have b:=eN hr;exists _,aJ (vX (i:=3) (j:=4) rfl yg3.nd rfl rfl (by decide) rfl rfl (aA (bD V' hr rfl<|aA (pv 0)<|aA (pv 1)<|aA (pv 2) aE)<|aA (bD V' hr rfl<|aA (pv 0)<|aA (pv 1)<|aA (pv 2) aE) aE) U)
  (aJ (sL 5 yg3.nd<|bD O hr rfl<|aA (pv 0)<|aA (bU b (pv 1) aX λ_ _=>U) aE)<|aJ (cG (cC eA (bD T hr rfl<|aA (pv 0)<|aA aO aE) aO<|cI _) (aJ (eK b (bU b (pv 1) aX λ_ _=>U) (pv 5) (hI b (pv 2) (pv 4) ⟨rfl,rfl,rfl,rfl⟩) rfl)<|aR<|bQ<|bZ<|aA aX<|aA (pv 3)<|aA (pv 5)<|aA (pv 4) aE) cS)<|aJ (sL 6 yg3.nd<|bD G hr rfl<|aA (pv 0)<|aA (pv 1)<|aA (pv 2) aE)<|aJ (eK b (pv 2) (pv 6) (hI b (bU b (pv 1) aX λ_ _=>U) (pv 5) ⟨rfl,rfl,rfl,rfl⟩) rfl)<|aR<|bQ<|bZ<|aA aX<|aA (pv 6)<|aA (pv 4)<|aA (pv 5) aE)
 ac_rfl
 have hU:D.U.length=9:=by unfold WD.U;rw[cN,bN,S.ok.v4,S.ok.p4]
 have ad:=S.ok.f3;refine{_,U,_,U,_,U,hd,en,wd,WA,D,t,r,U,S,∅,λx1 H1 t1 S1 f1 ab _=>?_};refine{_,U,_,U,_,U,hd,en,wd,WA,D,t1,r,U,S1,∅,λY H2 t2 C f2 ae _=>{_,_,U,?_}};obtain⟨d,m,N⟩:=C.hand;refine{_,U,_,U,wd,_,U,C.w.g.2.2.2.2.2.2.2.1,hd,WA.fields,d,m,t2,r,_,U,N,∅,jC C.w.fields.2 N,Yl C.w.fields.2,?_,by rw[aK];lia,λx d3 m3 t3 hx c3 e3=>?_}
 .intro z;have:=cH Lj z;rw[aK,iY]at this;lia
 obtain⟨u,a6,rfl⟩:=wx6.mp hx;have S3:=C.setHand (r':=r) c3;have a9:=(f1.trans f2).put' (a:=hd) (o:=hl d3 m3 t3 r) (by trivial);obtain⟨d,m,N⟩:=S3.hand;refine{_,U,hd,d,m,t3,r,2,U,N,∅,by decide,by decide,λx d4 m4 X x0 x1 c4 e4=>{U,_,U,?_}};have n:=S3.setHand (r':=r) c4;have a4:=a9.put' (a:=hd) (o:=hl d4 m4 X r) (by trivial);obtain⟨W,J,I⟩:=n.env;obtain⟨kh,M,L⟩:=n.held;refine bH (λc=>?_) λc=>?_
 .exists _,rfl,en,rfl,.inl ⟨_,.inl J⟩,_,rfl,_,DGet.k (k:=(Ku Y:aG)) J,_,rfl,wd,_,rfl,n.w.g.2.2.2.2.2.2.2.2.2.1,_,rfl,WA.held,_,rfl,DPut.k (k:=(Ku u:aG)) M<|bM (by have:=L.len;lia);have l:=n.setHeld<|L.put a6<|I.get<|Ku Y;have a8:=a4.put' (a:=WA.held) (o:=.dK<|aL kh (Ku u)<|(aF W<|Ku Y).getD .non) (by trivial);refine{_,U,_,U,_,U,eC rfl,λZ B=>?_};exact q Z _ X {.put _ _ _,zb1,λ_ e=>nomatch e} (l.fr0<|Yj B) (a8.trans<|Yj B) ∅
 .refine⟨_,rfl,_,rfl,_,rfl,hd,en,wd,WA,D,X,r,rfl,n,∅,λx5 H5 t5 a5 l f5 ac _=>?_⟩;obtain⟨W,J,I⟩:=l.env;obtain⟨kh,M,L⟩:=l.held;exists _,U,wd,_,U,l.w.g.2.2.2.2.2.2.2.2.2.1,WA.held,U,.inl {_,.inl M},_,U,_,DGet.k (k:=(Ku u:aG)) M,_,U,_,U,en,_,U,DPut.k (k:=(Ku x5:aG)) J<|bM (by have:=I.len;lia);have S6:=l.setEnv<|I.put a5<|L.get<|Ku u;have a7:=(a4.trans f5).put' (a:=en) (o:=.dK<|aL W (Ku x5)<|(aF kh<|Ku u).getD .non) (by trivial);refine{_,U,_,U,_,U,eC rfl,λZ B=>?_};exact q Z _ t5 {.take _ _ _,zb1,λ_ e=>nomatch e} (S6.fr0<|Yj B) (a7.trans<|Yj B) ∅
abbrev NQ:Kd:=top 61
inductive UY(vs:Ki V)(H:Hp)(Q:VK):Prop
 | mk(hd en wd:eH)(A:WA)(D:WD)(t r lv:Kl)(h1:vs=[.ref hd,.ref wd,.ref en,.int lv])(h2:Sit H hd en wd A D t r)(h3:t+18<1000000)(h4:∀(x:eH)(H':Hp)(t':Kl),FC (fN D) H' x->Sit H' hd en wd A D t' r->FrS (Ms hd en A) H H'->t'<=t+18->Q (.ref x) H'):UY  vs H Q
def FH:Sp:=λvs H Q _=>UY  vs H Q
def Ws(D:WD)(H:Hp)(as:Ki eH):Prop:=∀a∈as,∃o d,H a\.tup [.str o,.str d]/\o∈D.names/\d∈D.deeds/\LX D o d
def Ws.mono(h:Ws D H as)(f:∀b j,H b\.tup j->H' b\.tup j):Ws D H' as:=λa i=>by
 obtain⟨o,d,e,r⟩:=h a i;exact{o,d,f _ _ e,r}
def Ws.app(h:Ws D H as)(h':Ws D H bs):Ws D H (as++bs):=λa b=>(wz2.mp b).elim (h a)<|h' a
def HD(hp:H p\.lst ys):∀b a,H b\.tup a->upd H p o b\.tup a:=λb a h=>by
 rw[aC λz=>by rw[z,hp]at h;cases h];exact h
def QW(ds:Ki zZ)(lo hi:Kj Kl):∃b:Ki zZ,dE (ds.map Yf) lo hi=b.map Yf/\↑b<=↑ds/\∀x∈b,x∈ds:=by
 unfold dE;rw[<-AU,<-yG];refine{_,U,?_,λx a=>Ol<|EM a};rw[eS,nZ];lia
abbrev ET:Ki zZ:=[qH,qW,"_law_env","_law_level","_law_y","_law_kind","_law_some","_law_ways","_law_deed_here","_law_above","_law_args_here","_law_x"]
def zq1:bX ET qF (bP NQ):=cF
def Gc(F:Fun K "_law_call" "_law_call" NQ f fd)(T:aV P w K mg base k "_law_take" qB gY)(O:aV P w K mg base k "_law_of" qC (dB K))(V':aV P w K mg base k "_law_variable" qA pM)(L:aV P w K mg base k "_law_line" qG BZ)(G:aV P w K mg base k "_law_target" qA uK)(HS:aV P w K mg base k "_law_has" qE NL)(MK:aV P w K mg base k "_law_make" qA GX)(AR:aV P w K mg base k "_law_args" qD KZ):
  aS P w K mg base bO (k+1) f fd qF FH:=by
 refine F.ok zq1 (λvs H Q E h=>?_) λbt A outer s H vs Q E hr h=>?_
 .obtain⟨hd,en,wd,A,D,t,r,N,rfl,_⟩:=h;rfl
 obtain⟨hd,en,wd,WA,D,t,r,N,rfl,S,ht,q⟩:=h;have J:=eN hr;have aw:(["_law_name","_law_elder"]:Ki zZ).Nodup:=by rfl'
 have bh:(["_law_one","_law_deed_here",qW]:Ki zZ).Nodup:=by rfl'
 exists _,aJ (sL 4 zq1.nd<|bD V' hr rfl<|aA (pv 0)<|aA (pv 1)<|aA (pv 2) aE)
  (aJ (sL 5 zq1.nd<|hI J (pv 2) (pv 4) ⟨rfl,rfl,rfl,rfl⟩)<|aJ (cG (gO<|kL<|pv 5) (aR<|sL 5 zq1.nd<|bD O hr rfl<|aA (pv 0)<|aA (iQ (N':=["_law_name","_law_elder"]) (src:=[Kr,Kr]) rfl fJ (iJ<|bU J (pv 1) aX λ_ _=>U) (g:=fC K 2<|eR (cJ 0)<|eR (cJ 1) eV) (λ_ _ _ _=>dS (n:=2) rfl<|bK (gL 0 aw)<|bK (gL 1 aw) dX) (λ_ _ _ _=>gW) λ_ _ _ _=>pv 0) aE) cS)<|aJ (sL 6 zq1.nd<|jY qS (bU J (pv 1) aX λ_ _=>U) (jS<|cE jB (pv 3) aO) kT)<|aJ (cG (cC eA (bD T hr rfl<|aA (pv 0)<|aA aO aE) aO<|cI _) (aR<|sL 6 zq1.nd<|bU J (pv 1) aX λ_ _=>U) cS)<|aJ (sL 7 zq1.nd<|cU aE)<|aJ (eU dU rfl (iJ<|pv 6) (yR (i:=8) zq1.nd rfl<|Oa rfl)<|aR<|dH<|eW eQ PySem.F.slot_list_extend PySem.F.type_list_extend Au (pv 7)<|aA (iQ (N':=["_law_one","_law_deed_here",qW]) (src:=[Kr,Kp 8,Kp 1]) rfl fJ (iJ<|bD L hr rfl<|aA (pv 1)<|aA (pv 5) aE) (g:=cJ 0) (λ_ _ _ _=>gL 0 bh) (λ_ _ _ _=>xA<|zC<|bD HS hr rfl<|aA (pv 2)<|aA (pv 0)<|aA (pv 1) aE) λ_ _ _ _=>bZ<|aA (pv 0)<|aA (pv 1) aE) aE)<|aJ (cG (cC (RF<|oT J) (pv 7) (cU aE)<|cI _) (aR<|bQ<|bD MK hr rfl<|aA (pv 0)<|aA (pv 1)<|aA (pv 2) aE) cS)<|aJ (hY (bD O hr rfl<|aA (pv 0)<|aA (pv 7) aE)<|dS (n:=2) rfl<|bK (gL 9 zq1.nd)<|bK (yR (i:=8) zq1.nd rfl<|Oa rfl) dX)<|aJ (sL 10 zq1.nd<|bD AR hr rfl<|aA (pv 0)<|aA (pv 1)<|aA (pv 2)<|aA (pv 9)<|aA (pv 8) aE)<|aJ (sL 11 zq1.nd<|bD G hr rfl<|aA (pv 0)<|aA (pv 1)<|aA (pv 2) aE)<|aJ (eK J (pv 2) (pv 11) (hI J (bU J (pv 1) aX λ_ _=>U) (pv 8) ⟨rfl,rfl,rfl,rfl⟩) rfl)<|aR<|bQ<|bZ<|aA aX<|aA (pv 11)<|aA (pv 4)<|aA (pv 9)<|aA (pv 8)<|aA (pv 10) aE)
 ac_rfl
 have hU:D.U.length=9:=by unfold WD.U;rw[cN,bN,S.ok.v4,S.ok.p4]
 have bz:=S.ok.l12;have h6:=S.ok.d6;refine{_,U,_,U,_,U,hd,en,wd,WA,D,t,r,U,S,∅,λB H1 t1 S1 f1 c1 _=>?_};obtain⟨kv,a7,hk⟩:=S1.env;exists _,U,en,U,.inl {_,.inl a7},_,U,_,DGet.k (k:=(Ku B:aG)) a7;have az:=hk.get<|Ku B;generalize (aF kv<|Ku B).getD .non=vk at az;have b5:∀(nx:St->Hp->Prop),(∀(n:zZ)(H2:Hp)(t2:Kl),n∈D.names->Sit H2 hd en wd WA D t2 r->FrS (Ms hd en WA) H H2->t2<=t+3->nx [Kp<|.ref hd,Kp<|.ref wd,Kp<|.ref en,Kp<|.int N,Kp<|.str B,Kp<|.str n,Kr,Kr,Kr,Kr,Kr,Kr] H2)->
   jJ (tB<|AT<|aI 5) (gG (gD (dB K) [] E0<|bG (aI 0)<|bG (IC (pN K<|nK (aI 1)<|tC<|.str "tree") [Kr,Kr] (fC K 2<|eR (cJ 0)<|eR (cJ 1) eV) mZ<|aI 0) bE)<|cJ 5) xH ⟨nx,Q,λ_ _=>Kn,λ_ _=>Kn⟩ [Kp<|.ref hd,Kp<|.ref wd,Kp<|.ref en,Kp<|.int N,Kp<|.str B,Kp vk,Kr,Kr,Kr,Kr,Kr,Kr] H1:=by
  intro nx a3;exists _,U,_,U;obtain rfl|⟨n,hn,rfl⟩:=az
  .show if (decide<|Yi=Yi)=Ks then _ else _
   rw[bF<|by trivial];obtain⟨ts,ay,bn,bo⟩:=S1.w.tree;refine{_,U,_,U,wd,_,U,S1.w.g.1,WA.tree,U,{_,Yl ay.2},λDn bk=>?_};refine KA (tr:=D.tr) ay.2 bn (λj t x a b=>(bo j t x a b).2) bk ∅ λH2 f2 ak=>?_
   have W:=S1.fr0 f2;obtain⟨d,m,X⟩:=W.hand;refine{hd,Dn,d,m,t1,r,_,U,X,∅,jC ak X,Yl ak,?_,by rw[aK,aK];lia,λx d3 m3 t3 e c3 e3=>?_}
   .intro z;have:=cH Lj z;rw[aK,aK,iY]at this;exact S.ok.l1<|vt5.mp this
   .obtain⟨n,hn,rfl⟩:=wx6.mp e;exact a3 n _ t3 hn (W.setHand c3) ((f1.trans<|f2.mono<|by trivial).put'<|by trivial) ∅
  .show if (decide<|Yf n=Yi)=Ks then _ else _
   rw[bC<|by trivial];exact a3 n H1 t1 hn S1 f1 ∅
 refine b5 _ λn H2 t2 hn W f2 c5=>?_;refine{_,U,wd,_,U,W.w.g.2.2.1,_,U,N,1,U,U,_,U,WA.deeds,_,U,Yl W.w.deeds.2,λps af=>?_};obtain⟨ds,ed,bu,bj⟩:=QW D.deeds (Kp<|N+1) Kr;rw[ed];have S3:=W.fr0<|Yj (S:=[]) (o:=.lst<|ds.map Yf) af;have f3:FrS (Ms hd en WA) H (upd H2 ps<|.lst<|ds.map Yf):=f2.trans<|Yj af;have a4:Stt (Ms hd en WA) (upd H2 ps<|.lst<|ds.map Yf) ps (.lst<|ds.map Yf):=⟨W.notin af,zb1⟩;generalize upd H2 ps (.lst<|ds.map Yf)=H3 at S3 f3 a4;have bb:∀(nx:St->Hp->Prop),(∀(pz:eH)(zs:Ki zZ)(H4:Hp)(u:Kl),Stt (Ms hd en WA) H4 pz (.lst<|zs.map Yf)->↑zs<=6->(∀x∈zs,x∈D.deeds)->Sit H4 hd en wd WA D u r->FrS (Ms hd en WA) H H4->u<=t+4->nx [Kp<|.ref hd,Kp<|.ref wd,Kp<|.ref en,Kp<|.int N,Kp<|.str B,Kp<|.str n,Kp<|.ref pz,Kr,Kr,Kr,Kr,Kr] H4)->
   jJ (iP<|dJ yT (gD gY [] E0<|bG (aI 0)<|bG (tC<|.int 8) bE)<|tC<|.int 0) (gG (nK (aI 1)<|tC<|.str "deeds")<|cJ 6) xH ⟨nx,Q,λ_ _=>Kn,λ_ _=>Kn⟩ [Kp<|.ref hd,Kp<|.ref wd,Kp<|.ref en,Kp<|.int N,Kp<|.str B,Kp<|.str n,Kp<|.ref ps,Kr,Kr,Kr,Kr,Kr] H3:=by
  intro nx a3;obtain⟨d,m,X⟩:=S3.hand;refine{_,U,hd,d,m,t2,r,8,U,X,∅,by decide,by decide,λx d4 m4 u x0 x1 c4 e4=>{U,_,U,?_}};have M:=S3.setHand (r':=r) c4;have f4:=f3.put' (a:=hd) (o:=hl d4 m4 u r) (by trivial);refine bH (λc=>?_) λc=>?_
  .exact⟨_,rfl,wd,_,rfl,M.w.g.2.2.1,a3 WA.deeds D.deeds _ u M.w.deeds h6 (λx e=>e) M f4 ∅⟩
  .exact a3 ps ds _ u (a4.keep<|Yk<|by trivial) ∅ bj M f4 ∅
 refine bb _ λpz zs H4 u hz br b9 M f4 c0=>?_;refine{bW _,λI a1=>?_};have S5:=M.fr0<|Yj (S:=[]) (o:=.lst []) a1;have ad:I∉Ms hd en WA:=M.notin a1;have ae:pz≠I:=aQ hz.2 a1;obtain⟨l,bl,bq,bc⟩:=JW S.ok hn;exists _,U,pz,U,{_,Yl<|by rw[aC ae];exact hz.2};refine pW (xs:=zs.map Yf) (λi σ Hx=>∃(dx:Kj V)(as:Ki eH),σ=[Kp<|.ref hd,Kp<|.ref wd,Kp<|.ref en,Kp<|.int N,Kp<|.str B,Kp<|.str n,Kp<|.ref pz,Kp<|.ref I,dx,Kr,Kr,Kr]/\Sit Hx hd en wd WA D u r/\FrS (Ms hd en WA) H4 Hx/\Hx I\(.lst<|as.map Yg)/\Ws D Hx as/\↑as<=12*i) {_,[],U,S5,Yj a1,zb1,(λa ha=>nomatch ha),by simp} ?_ ?_ ?_
 .rintro i σ Hx hi ⟨_,_,_,_,fr,_⟩;exact Yl (hz.keep fr).2
 .rintro i x σ Hx e ⟨dx,as,rfl,Sx,fr,ap,b3,a5⟩;obtain⟨hi,_⟩:=ww4.mp e;rw[aK]at hi;rw[bR,bJ hi]at e;cases e;have am:zs[i]∈D.deeds:=b9 _<|iG hi;refine{_,U,.inl {U,_,Yl ap},_,U,_,U,wd,_,WA,D,n,l,U,Sx.w,S.ok,bl,λla Hy fy bv ax=>{la,U,{_,Yl ax},λDl an=>?_}};have Sy:=Sx.fr0 fy;have b7:=fy _ _ (by trivial) ap;have ab:Ws D Hy as:=b3.mono λb xs h=>fy _ _ (by trivial) h
  refine vI (xs:=l.map Yf) (λY σ Hz=>(∃x,σ=[x,Kp<|.str zs[i],Kp<|.ref wd])/\FrS [] Hy Hz/\∃bs:Ki eH,↑bs<=Y/\Hz Dl\(.lst<|bs.map Yg)/\Ws D Hz bs) {{_,U},(FrS.refl).put an,[],by simp,zb1,λa ha=>nomatch ha} ?_ ?_ ?_
  .rintro Y σ Hz hi ⟨_,C,_⟩;exact Yl<|C _ _ (by trivial) ax
  .rintro Y x σ Hz e ⟨⟨x0,rfl⟩,C,bs,ao,a8,ah⟩;obtain⟨aa,_⟩:=ww4.mp e;rw[aK]at aa;rw[bR,bJ aa]at e;cases e;have b1:l[Y]∈D.names:=bc _<|iG aa;refine{_,U,_,U,_,U,wd,_,WA,D,l[Y],zs[i],U,(Sy.fr0 C).w,S.ok,b1,am,λb Hv fv bp=>{_,U,?_}};have a9:=fv _ _ (by trivial) a8;have aq:Ws D Hv bs:=ah.mono λb xs h=>fv _ _ (by trivial) h
   refine bH (λc=>?_) λc=>?_
   .refine⟨_,rfl,_,rfl,eC rfl,λtp a2=>?_⟩;have b6:Dl≠tp:=aQ a9 a2;have b0:upd Hv tp (.tup [Yf l[Y],Yf zs[i]]) Dl\(.lst<|bs.map Yg):=by rw[aC b6];exact a9
    exists _,b0,by rw[aK];exact bM ∅,{_,U},((C.trans fv).trans<|Yj a2).put an,bs++[tp],?_,?_
    .rw[bN,eJ];lia
    .rw[zb1,bT];rfl
    .refine Ws.mono (H:=upd Hv tp<|.tup [Yf l[Y],Yf zs[i]]) (Ws.app (aq.mono λb xs h=>?_) λa ha=>?_)<|HD b0
     .rw[aC<|aQ h a2];exact h
     .rw[wx1.mp ha];exact{_,_,zb1,b1,am,bp c}
   .exact⟨⟨_,rfl⟩,C.trans fv,bs,∅,a9,aq⟩
  .rintro σ Hz ⟨_,C,bs,ao,a8,ah⟩;rw[aK]at ao;have ar:=C _ _ (by trivial) b7;have Sz:=Sy.fr0 C;have ac:Ws D Hz as:=ab.mono λb xs h=>C _ _ (by trivial) h
   have Z:=Sit.own (o:=.lst<|as.map Yg++bs.map Yg) M Sz (fr.trans<|(fy.trans C).mono<|by trivial) a1;refine{I,Dl,_,_,U,U,ar,a8,by rw[aK,aK];exact cX (bM ∅),_,as++bs,U,Z.1,Z.2,by rw[zb1,bT],(Ws.app ac ah).mono<|HD ar,by rw[bN];lia}
 rintro σ H6 ⟨dx,as,rfl,S6,f6,au,bg,a5⟩;rw[aK]at a5;have bf:=f4.trans f6;refine{_,U,bW _,λpe a6=>?_};have Z:=S6.fr0<|Yj (S:=[]) (o:=.lst []) a6;have av:I≠pe:=aQ au a6;have ai:FrS (Ms hd en WA) H (upd H6 pe<|.lst []):=bf.trans<|Yj a6;have ag:upd H6 pe (.lst []) I\(.lst<|as.map Yg):=by rw[aC av];exact au
 have b2:Ws D (upd H6 pe<|.lst []) as:=bg.mono λb xs h=>by rw[aC<|aQ h a6];exact h
 exists I,pe,_,U,U,av,Yl ag,Yl zb1,_,U;generalize upd H6 pe (.lst [])=H7 at Z ai ag b2;cases as with
 | nil=>
  refine{_,U,_,U,_,U,hd,en,wd,WA,D,u,r,U,Z,∅,λx H8 t8 p8 S8 f8 bw=>q x H8 t8 (.inl p8) S8 (ai.trans f8) ∅}
 | cons a0 as'=>
  obtain⟨d,m,X⟩:=Z.hand;refine{_,U,_,U,hd,I,d,m,u,r,_,U,X,∅,λz=>ad (by rw[z];simp),Yl ag,by simp,by rw[aK];lia,λx d8 m8 t8 e c8 e8=>?_};obtain⟨tp,a2,rfl⟩:=wx6.mp e;obtain⟨on,dn,e1,e2,e3,e4⟩:=b2 tp a2;have S8:=Z.setHand (r':=r) c8;have f8:=ai.put' (a:=hd) (o:=hl d8 m8 t8 r) (by trivial);have bm:tp≠hd:=λz=>by have:=X.1;rw[<-z,e1]at this;cases this
  exists tp,_,U,Ym (by rw[aC bm];exact e1),rfl,_,_,rfl,_,_,rfl,rfl;refine{_,U,_,U,_,U,_,U,_,U,hd,en,wd,WA,D,t8,r,on,dn,U,S8,∅,e2,e3,λx9 ba H9 t9 b4 bd S9 f9 c2=>?_};refine{_,U,_,U,_,U,hd,en,wd,WA,D,t9,r,U,S9,∅,λxa Ha ta be Sa fa bx _=>?_};obtain⟨kv,a7,hk⟩:=Sa.env;obtain⟨kt,al,bi⟩:=Sa.told;exists _,U,wd,_,U,Sa.w.g.2.2.2.2.2.2.2.2.1,WA.told,U,.inl {_,.inl al},_,U,_,DGet.k (k:=(Ku dn:aG)) al,_,U,_,U,en,_,U,DPut.k (k:=(Ku xa:aG)) a7<|bM (by have:=hk.len;lia);have Sb:=Sa.setEnv<|hk.put be<|bi.get<|Ku dn;have fb:=((f8.trans f9).trans fa).put' (a:=en) (o:=.dK<|aL kv (Ku xa)<|(aF kt<|Ku dn).getD .non) (by trivial);refine{_,U,_,U,_,U,_,U,_,U,eC rfl,λpr aj=>?_};have b8:Tup H9 (upd (upd Ha en<|.dK<|aL kv (Ku xa)<|(aF kt<|Ku dn).getD .non) pr<|.tup [Yf "call",Yf xa,Yf B,Yf on,Yf dn,Yg x9]):=((S9.tup fa).trans<|Sa.tup<|Yk<|.tail _<|.head _).trans<|Yn aj;exact q pr _ ta (.inr {xa,B,on,dn,x9,ba,zb1,b8 _ _ b4,bd,e4}) (Sb.fr0<|Yj aj) (fb.trans<|Yj aj) ∅
abbrev xE:Kd:=top 63
abbrev HM:Kd:=top 64
abbrev lV:Ki zZ:=[qH,qW,"_law_env","_law_level","_law_deep"]
abbrev kZ:Ki zZ:=[qH,qW,"_law_env","_law_level","_law_deep","_law_most"]
inductive pV(n:Kk)(vs:Ki V)(H:Hp)(Q:VK):Prop
 | mk(hd en wd:eH)(A:WA)(D:WD)(t r lv:Kl)(dp:Kk)(h1:vs=[.ref hd,.ref wd,.ref en,.int lv,.int (dp:Kl)])(h2:dp<=n)(h3:Sit H hd en wd A D t r)(h4:0<=r)(h5:t+25*r+24<1000000)(h6:∀(x:eH)(fs:Ki eH)(H':Hp)(t' r':Kl),Fl (fN D) H' n [x] fs->(↑fs:Kl)+r'<=r+1->Sit H' hd en wd A D t' r'->FrS (Ms hd en A) H H'->0<=r'->r'<=r->t'+25*r'<=t+25*r+24->Q (.ref x) H'):pV n vs H Q
def NV(n:Kk):Sp:=λvs H Q _=>pV n vs H Q
inductive VS(n:Kk)(vs:Ki V)(H:Hp)(Q:VK):Prop
 | mk(hd en wd:eH)(A:WA)(D:WD)(t r lv mo:Kl)(dp:Kk)(h1:vs=[.ref hd,.ref wd,.ref en,.int lv,.int (dp:Kl),.int mo])(h2:dp<=n)(h3:0<=mo)(h4:mo<=100)(h5:Sit H hd en wd A D t r)(h6:0<=r)(h7:t+25*r+1<1000000)(h8:∀(x:eH)(rs fs:Ki eH)(H':Hp)(t' r':Kl),H' x\(.tup<|rs.map Yg)->Fl (fN D) H' n rs fs->(↑fs:Kl)+r'<=r->Sit H' hd en wd A D t' r'->FrS (Ms hd en A) H H'->0<=r'->r'<=r->t'+25*r'<=t+25*r+1->Q (.ref x) H'):VS n vs H Q
def wV(n:Kk):Sp:=λvs H Q _=>VS n vs H Q
def CJ:Kk->Sp
 | 0=>λ_ _ _ _=>Kn
 | n+1=>wV n
abbrev KD:Ki zZ:=[qH,qW,"_law_env","_law_level","_law_deep","_law_way","_law_y","_law_x","_law_lots"]
def xj3:bX KD lV (bP xE):=cF
def tP(F:Fun K "_law_row" "_law_row" xE f fd)(T:aV P w K mg base k "_law_take" qB gY)(O:aV P w K mg base k "_law_of" qC (dB K))(V':aV P w K mg base k "_law_variable" qA pM)(G:aV P w K mg base k "_law_target" qA uK)(MK:aV P w K mg base k "_law_make" qA GX)(FI:aV P w K mg base k "_law_field" qA PV)(CA:aV P w K mg base k "_law_call" qF FH)(R:aV P w K mg base k "_law_rows" kZ (CJ n))(mr:mg "range"=Kr)(ml:mg "len"=Kr)(au:mg "tuple"=Kr):
  aS P w K mg base bO (k+1) f fd lV (NV n):=by
 refine F.ok xj3 (λvs H Q E h=>?_) λb5 A outer s H vs Q E hr h=>?_
 .obtain⟨hd,en,wd,A,D,t,r,Z,C,rfl,_⟩:=h;rfl
 obtain⟨hd,en,wd,WA,D,t,r,Z,C,rfl,bc,S,hr0,ht,q⟩:=h;have hu:=eN hr;have as:(["_law_k",qH,qW,"_law_env","_law_level","_law_deep"]:Ki zZ).Nodup:=by rfl'
 exists _,aJ (sL 5 xj3.nd<|bD T hr rfl<|aA (pv 0)<|aA aO aE)
  (aJ (cG (cC yU (pv 5) aO<|cI _) (aR<|bQ<|bD MK hr rfl<|aA (pv 0)<|aA (pv 1)<|aA (pv 2) aE) cS) (aJ (cG (cC eA (pv 5) aO<|cI _) (aJ (sL 6 xj3.nd<|bD V' hr rfl<|aA (pv 0)<|aA (pv 1)<|aA (pv 2) aE)<|aJ (sL 7 xj3.nd<|bD G hr rfl<|aA (pv 0)<|aA (pv 1)<|aA (pv 2) aE)<|aJ (eK hu (pv 2) (pv 7) (hI hu (pv 2) (pv 6) ⟨rfl,rfl,rfl,rfl⟩) rfl)<|aR<|bQ<|bZ<|aA aX<|aA (pv 7)<|aA (pv 6) aE) cS) (aJ (cG (cC yU (pv 5) aO<|cI _) (aR<|bQ<|bD FI hr rfl<|aA (pv 0)<|aA (pv 1)<|aA (pv 2) aE) cS) (aJ (cG (PW.pt<|lO (cC eA (pv 5) aO<|cI _)<|nX<|cC (GN<|oT hu) (bU hu (pv 1) aX λ_ _=>U) (cU aE)<|cI _) (aR<|bQ<|bZ<|aA aX<|aA (bD O hr rfl<|aA (pv 0)<|aA (bU hu (pv 1) aX λ_ _=>U) aE) aE) cS) (aJ (cG (PW.pt<|NE (cC eA (pv 5) aO<|cI _)<|JN<|cC eA (pv 5) aO<|cI _) (aR<|bQ<|bZ<|aA aX<|aA (bD O hr rfl<|aA (pv 0)<|aA (bU hu (pv 1) aX λ_ _=>U) aE) aE) cS) (aJ (cG (PW.pt<|lO (cC yU (pv 5) aO<|cI _)<|lO (cC oI (pv 4) aO<|cI _)<|nX<|cC oI (eI (pv 0) aO) aO<|cI _) (aJ (uI (i:=8) (N':=["_law_k",qH,qW,"_law_env","_law_level","_law_deep"]) (src:=[Kr,Kp 0,Kp 1,Kp 2,Kp 3,Kp 4]) rfl xj3.nd rfl rfl fJ (mX rfl mr<|aA (cE kP aO<|pv 5) aE) (g:=cJ 0) (λ_ _ _ _=>gL 0 as) (λ_ _ _ _=>gW) λ_ _ _ _=>bD R hr rfl<|aA (pv 1)<|aA (pv 2)<|aA (pv 3)<|aA (pv 4)<|aA (cE kP (pv 5) aO)<|aA aO aE)<|aR<|bQ<|cE Hr (bZ<|aA (eI (cU<|aA aX<|aA aX aE)<|cE kP (eM jE rfl ml iW<|aA (pv 8) aE) aO) aE)<|fF jA rfl au (by rfl')<|aA (pv 8) aE) cS)
  (aR<|bQ<|bD CA hr rfl<|aA (pv 0)<|aA (pv 1)<|aA (pv 2)<|aA (pv 3) aE)))))))
 ac_rfl
 have hU:D.U.length=9:=by unfold WD.U;rw[cN,bN,S.ok.v4,S.ok.p4]
 have bf:=S.ok.f3;have aq:=S.ok.lateLen;obtain⟨d,m,Y⟩:=S.hand;refine{_,U,hd,d,m,t,r,14,U,Y,∅,by decide,by decide,λx d1 m1 u x0 x1 c1 e1=>?_};have M:=S.setHand (r':=r) c1;have f1:FrS (Ms hd en WA) H (upd H hd<|hl d1 m1 u r):=Yk (by trivial);have a6:upd H hd (hl d1 m1 u r) hd\hl d1 m1 u r:=zb1;generalize upd H hd (hl d1 m1 u r)=H1 at M f1 a6;exists _,U,_,_,U,U,_,U;refine bH (λc=>?_) λc=>?_
 .exact⟨_,rfl,_,rfl,_,rfl,hd,en,wd,WA,D,u,r,rfl,M,∅,λx H2 t2 p2 b B al=>q x [x] H2 t2 r (.one (.inl p2) .nil) (by show(1:Kl)+_<=_;lia) b (f1.trans B) hr0 ∅ ∅⟩
 have n3:¬x<3:=λz=>c<|dP z;exists _,U,U,_,U;refine bH (λc=>?_) λc=>?_
 .refine⟨_,rfl,_,rfl,_,rfl,hd,en,wd,WA,D,u,r,rfl,M,∅,λy2 H2 t2 b B al _=>?_⟩;refine{_,U,_,U,_,U,hd,en,wd,WA,D,t2,r,U,b,∅,λx3 H3 X ay S3 f3 b4 _=>?_};obtain⟨kv,ae,hk⟩:=S3.env;exists _,U,en,U,.inl {_,.inl ae},_,U,_,DGet.k (k:=(Ku y2:aG)) ae,_,U,_,U,en,_,U,DPut.k (k:=(Ku x3:aG)) ae<|bM (by have:=hk.len;lia);have S4:=S3.setEnv<|hk.put ay<|hk.get<|Ku y2;have f4:=((f1.trans B).trans f3).put' (a:=en) (o:=.dK<|aL kv (Ku x3)<|(aF kv<|Ku y2).getD .non) (by trivial);refine{_,U,_,U,eC rfl,λL N=>?_};exact q L [L] _ X r (.one (.inl {.copy _ _,zb1,λ_ e=>nomatch e}) .nil) (by show(1:Kl)+_<=_;lia) (S4.fr0<|Yj N) (f4.trans<|Yj N) hr0 ∅ ∅
 have n4:x≠3:=λz=>c (dP<|by rw[z])
 exists _,U,_,_,U,U,_,U;refine bH (λc=>?_) λc=>?_
 .exact⟨_,rfl,_,rfl,_,rfl,hd,en,wd,WA,D,u,r,rfl,M,∅,λx H2 t2 p2 b B al=>q x [x] H2 t2 r (.one (.inl p2) .nil) (by show(1:Kl)+_<=_;lia) b (f1.trans B) hr0 ∅ ∅⟩
 have n6:¬x<6:=λz=>c<|dP z;have rest:∀(H2:Hp),Sit H2 hd en wd WA D u r->FrS (Ms hd en WA) H H2->H2 hd\hl d1 m1 u r->
   gA (jJ (OE (iP<|dJ yT (aI 5)<|tC<|.int 6)<|iP<|dJ yT (aI 5)<|tC<|.int 7) (iK<|dM<|bG (tC<|.str "say")<|bG (gD (dB K) [] E0<|bG (aI 0)<|bG (nK (aI 1)<|tC<|.str "fields") bE) bE) xH)
   (gA (jJ (kE (iP<|dJ (iM λi j=>.bl<|decide<|i<j) (aI 5)<|tC<|.int 10)<|kE (iP<|dJ (iM λi j=>.bl<|decide<|j<i) (aI 4)<|tC<|.int 0)<|iP<|dJ (iM λi j=>.bl<|decide<|j<i) (dJ (oH K) (aI 0)<|tC<|.int 3)<|tC<|.int 2) (gA (gG (IC (qL<|bG (dJ (iM λi j=>.int<|i-j) (tC<|.int 10)<|aI 5) bE) [Kr,Kp 0,Kp 1,Kp 2,Kp 3,Kp 4] (cJ 0) mZ<|gD (CJ n) [] E0<|bG (aI 1)<|bG (aI 2)<|bG (aI 3)<|bG (aI 4)<|bG (dJ (iM λi j=>.int<|i-j) (aI 5)<|tC<|.int 1)<|bG (tC<|.int 3) bE)<|cJ 8)<|iK<|dJ (pU K) (dM<|bG (dJ (oH K) (jG<|bG (tC<|.str "again")<|bG (tC<|.str "either") bE)<|dJ (iM λi j=>.int<|i-j) (mK (λxs H Q=>∃p ys,xs=[.ref p]/\(SqL K H p ys\/SqT K H p ys)/\Q (.int ↑ys) H)<|bG (aI 8) bE)<|tC<|.int 1) bE)<|mK (λxs H Q=>∃p ys,xs=[.ref p]/\((SqL K H p ys/\∀l,H l=Kr->Q (.ref l) (upd H l<|.tup ys))\/(SqT K H p ys/\Q (.ref p) H)))<|bG (aI 8) bE) xH)<|iK<|gD FH [] E0<|bG (aI 0)<|bG (aI 1)<|bG (aI 2)<|bG (aI 3) bE)
   ⟨λ_ H=>Q .non H,Q,λ_ _=>Kn,λ_ _=>Kn⟩ [Kp<|.ref hd,Kp<|.ref wd,Kp<|.ref en,Kp<|.int Z,Kp<|.int (C:Kl),Kp<|.int x,Kr,Kr,Kr] H2:=by
  intro H2 b B a4;have say:iK (dM<|bG (tC<|.str "say")<|bG (gD (dB K) [] E0<|bG (aI 0)<|bG (nK (aI 1)<|tC<|.str "fields") bE) bE) ⟨λ_ H=>Q .non H,Q,λ_ _=>Kn,λ_ _=>Kn⟩ [Kp<|.ref hd,Kp<|.ref wd,Kp<|.ref en,Kp<|.int Z,Kp<|.int (C:Kl),Kp<|.int x,Kr,Kr,Kr] H2:=by
   obtain⟨d,m,Y⟩:=b.hand;refine{_,U,_,U,wd,_,U,b.w.g.2.2.2.2.2.2.2.1,hd,WA.fields,d,m,u,r,_,U,Y,∅,jC b.w.fields.2 Y,Yl b.w.fields.2,?_,by rw[aK];lia,λx d3 m3 X hx c3 e3=>?_}
   .intro z;have:=cH Lj z;rw[aK,iY]at this;lia
   obtain⟨x,a7,rfl⟩:=wx6.mp hx;refine{eC rfl,λL N=>?_};exact q L [L] _ X r (.one (.inl {.say _,zb1,λ_ e=>nomatch e}) .nil) (by show(1:Kl)+_<=_;lia) ((b.setHand c3).fr0<|Yj N) ((B.put'<|by trivial).trans<|Yj N) hr0 ∅ ∅
  have ad:iK (gD FH [] E0<|bG (aI 0)<|bG (aI 1)<|bG (aI 2)<|bG (aI 3) bE) ⟨λ_ H=>Q .non H,Q,λ_ _=>Kn,λ_ _=>Kn⟩ [Kp<|.ref hd,Kp<|.ref wd,Kp<|.ref en,Kp<|.int Z,Kp<|.int (C:Kl),Kp<|.int x,Kr,Kr,Kr] H2:=
   ⟨_,rfl,_,rfl,_,rfl,_,rfl,hd,en,wd,WA,D,u,r,Z,rfl,b,∅,λx H3 X p3 S3 f3 b4=>q x [x] H3 X r (.one p3 .nil) (by show(1:Kl)+_<=_;lia) S3 (B.trans f3) hr0 ∅ ∅⟩
  exists _,U,U,_,U;refine bH (λc=>?_) λc=>?_
  .exact say
  have bb:x≠6:=λz=>c (dP<|by rw[z])
  exists _,U,U,_,U;refine bH (λc=>?_) λc=>?_
  .exact say
  have b6:x≠7:=λz=>c (dP<|by rw[z])
  exists _,U,_,_,U,U,_,U;refine bH (λc=>?_) λc=>ad;have be:x<10:=cT c;exists _,U,_,_,U,U,_,U;refine bH (λc=>?_) λc=>ad;have bd:(0:Kl)<(C:Kl):=cT c;exists _,U,hd,_,_,_,U,U,Yl a4,BV,_,_,U,U,_,U;refine bH (λc=>?_) λc=>ad;have nr:(2:Kl)<r:=cT c;obtain⟨n',rfl⟩:∃n',n=n'+1:=⟨n-1,by lia⟩;refine{_,U,_,_,U,U,_,U,∅,∅,λW a3=>?_};have am:W∉Ms hd en WA:=b.notin a3;refine OQ (lo:=0) (n:=(10-x).toNat) (λi σ J=>∃(kx:Kj V)(tx I:Kl)(ls fs:Ki eH),σ=[kx,Kp<|.ref hd,Kp<|.ref wd,Kp<|.ref en,Kp<|.int Z,Kp<|.int (C:Kl)]/\Sit J hd en wd WA D tx I/\FrS (Ms hd en WA) H2 J/\0<=I/\I<=r/\tx+25*I<=u+25*r+i/\J W\(.lst<|ls.map Yg)/\↑ls=i/\Lots (fN D) J n' ls fs/\(↑fs:Kl)+I<=r)
   ⟨_,u,r,[],[],rfl,b.fr0<|Yj a3,Yj a3,hr0,∅,∅,zb1,rfl,.nil,by show(0:Kl)+r<=r;lia⟩ ?_ ?_
  .rintro i σ J hi ⟨kx,tx,I,ls,fs,rfl,Sx,fx,ab,ak,a7,a2,ao,a8,an⟩;refine{_,U,_,U,_,U,_,U,_,U,_,_,U,U,hd,en,wd,WA,D,tx,I,Z,3,C-1,?_,∅,by decide,by decide,Sx,ab,∅,λv b9 b1 Hy ty ry av b2 b7 Sy fy az ba b8=>?_}
   .have:((C-1:Kk):Kl)=(C:Kl)-1:=by lia
    rw[this];rfl
   .have ag:=fy _ _ am a2;have S7:=Sit.own (o:=.lst<|ls.map Yg++[Yg v]) b Sy (fx.trans fy) a3;have aa:Tup Hy (upd Hy W<|.lst<|ls.map Yg++[Yg v]):=Tup.lst ag;exact{_,ag,bM (by rw[aK];lia),_,ty,ry,ls++[v],fs++b1,U,S7.1,S7.2,az,∅,∅,by rw[zb1,bT];rfl,by rw[bN,eJ];lia,(a8.keep<|(Sx.tup fy).trans aa).snoc (aa _ _ av)<|b2.keep aa,by rw[bN];lia}
  .rintro σ J ⟨kx,tx,I,ls,fs,rfl,Sx,fx,ab,ak,a7,a2,ao,a8,an⟩;have hj:↑ls=1\/↑ls=2:=by lia
   refine{eC rfl,λpl ai=>?_};have aj:W≠pl:=aQ a2 ai;have ax:∃v:zZ,eE [Yf "again",Yf "either"] (((↑(ls.map Yg):Kk):Kl)-1)\.str v/\(↑ls=1/\v="again"\/↑ls=2/\v="either"):=by
    rw[aK];obtain h|h:=hj
    .exact⟨"again",by rw[h];rfl,.inl ⟨h,rfl⟩⟩
    .exact⟨"either",by rw[h];rfl,.inr ⟨h,rfl⟩⟩
   obtain⟨v,hv,b3⟩:=ax;refine{_,U,W,_,U,.inl (Yl<|by rw[aC aj];exact a2),_,_,U,U,pl,_,_,_,U,U,Yl zb1,hv,eC rfl,λpt ah=>?_};have a1:upd J pl (.lst [Yf "again",Yf "either"]) W\(.lst<|ls.map Yg):=by rw[aC aj];exact a2
   have ap:W≠pt:=aQ a1 ah;refine{_,U,W,_,U,.inl {Yl (by rw[aC ap];exact a1),λpu a9=>?_}};have aw:pt≠pu:=λz=>by rw[<-z,zb1]at a9;cases a9
   refine{pt,pu,[.str v],ls.map Yg,U,U,Ym (by rw[aC aw];exact zb1),Ym zb1,by simp,by rw[aK];show 1+↑ls<=sizeLine;exact cX (bM ∅),λz=>?_,λ_ pz ar=>?_}
   .have:=cH Lj z;rw[aK,iY]at this;lia
   .have ff:FrS [] J _:=(((Yj (S:=[]) ai).trans<|Yj ah).trans<|Yj a9).trans<|Yj (o:=.tup<|[Yf v]++ls.map Yg) ar;exact q pz (pz::fs) _ tx I ((a8.keep<|Yo ff).row zb1 b3) (by rw[cN];lia) (Sx.fr0 ff) (B.trans<|fx.trans<|ff.mono<|by trivial) ab ak ∅
 exists _,U,U,_,U;refine bH (λc=>?_) λc=>rest H1 M f1 a6;refine{_,U,wd,_,U,M.w.g.2.1,bW _,λpe a5=>?_};have b:=M.fr0<|Yj (S:=[]) (o:=.lst []) a5;have b0:WA.late≠pe:=aQ M.w.late.2 a5;exists WA.late,pe,_,U,U,b0,Yl b.w.late.2,Yl zb1,_,U;have B:FrS (Ms hd en WA) H (upd H1 pe<|.lst []):=f1.trans<|Yj a5;have a4:upd H1 pe (.lst []) hd\hl d1 m1 u r:=by rw[aC<|aQ a6 a5];exact a6
 generalize upd H1 pe (.lst [])=H2 at b B a4;cases hla:D.late with
 | nil=>exact rest H2 b B a4
 | cons y ys=>
  have ac:=b.w.late.2;rw[hla]at ac;have af:=aq;rw[hla]at af;obtain⟨d,m,Y⟩:=b.hand;refine{_,U,_,U,wd,_,U,b.w.g.2.1,hd,WA.late,d,m,u,r,_,U,Y,∅,jC ac Y,Yl ac,by simp,by rw[aK];lia,λx d3 m3 X hx c3 e3=>?_};obtain⟨x,a7,rfl⟩:=wx6.mp hx;refine{eC rfl,λL N=>?_};exact q L [L] _ X r (.one (.inl {.bring _,zb1,λ_ e=>by cases e;exact S.ok.lnm _<|by rw[hla];exact a7}) .nil) (by show(1:Kl)+_<=_;lia) ((b.setHand c3).fr0<|Yj N) ((B.put'<|by trivial).trans<|Yj N) hr0 ∅ ∅
abbrev DZ:Ki zZ:=[qH,qW,"_law_env","_law_level","_law_deep","_law_most","_law_rows_here","_law_k"]
def yv2:bX DZ kZ (bP HM):=cF
def UF(F:Fun K "_law_rows" "_law_rows" HM f fd)(T:aV P w K mg base k "_law_take" qB gY)(R:aV P w K mg base k "_law_row" lV (NV n))(mr:mg "range"=Kr)(ac:mg "tuple"=Kr):
  aS P w K mg base bO (k+1) f fd kZ (wV n):=by
 refine F.ok yv2 (λvs H Q E h=>?_) λah A outer s H vs Q E hr h=>?_
 .obtain⟨hd,en,wd,A,D,t,r,W,mo,dp,rfl,_⟩:=h;rfl
 obtain⟨hd,en,wd,WA,D,t,r,W,mo,dp,rfl,ae,ak,ai,S,hr0,ht,q⟩:=h;have hu:=eN hr;exists _,aJ (sL 6 yv2.nd<|cU aE)
  (aJ (eU dU rfl (mX rfl mr<|aA (bD T hr rfl<|aA (pv 0)<|aA (cE jB (pv 5) aO) aE) aE) (gL 7 yv2.nd)<|aR<|cG (cC oI (eI (pv 0) aO) aO<|cI _) (aJ (hY (cE kP (eI (pv 0) aO) aO)<|wT (pv 0) aO vA)<|aR<|dH<|eW eQ fU fS fL (pv 6)<|aA (bD R hr rfl<|aA (pv 0)<|aA (pv 1)<|aA (pv 2)<|aA (pv 3)<|aA (pv 4) aE) aE) cS)<|aR<|bQ<|fF jA rfl ac (by rfl')<|aA (pv 6) aE)
 ac_rfl
 refine{bW _,λj B=>?_};have S1:=S.fr0<|Yj (S:=[]) (o:=.lst []) B;have a9:j∉Ms hd en WA:=S.notin B;obtain⟨d,m,hh⟩:=S1.hand;refine{_,U,_,U,_,_,U,U,hd,d,m,t,r,_,U,hh,∅,∅,∅,λx d1 m1 t1 x0 x1 c1 e1=>?_};have S2:=S1.setHand (r':=r) c1;have a8:j≠hd:=λz=>a9 (by rw[z];simp)
 refine{_,U,∅,∅,?_};refine uB (lo:=0) (n:=x.toNat) (λi σ e=>∃(O:Kj V)(tx b:Kl)(rs fs:Ki eH),σ=[Kp<|.ref hd,Kp<|.ref wd,Kp<|.ref en,Kp<|.int W,Kp<|.int (dp:Kl),Kp<|.int mo,Kp<|.ref j,O]/\Sit e hd en wd WA D tx b/\FrS (Ms hd en WA) H e/\0<=b/\b<=r/\tx+25*b<=t+25*r+1/\e j\(.lst<|rs.map Yg)/\↑rs<=i/\Fl (fN D) e n rs fs/\(↑fs:Kl)+b<=r)
  ⟨_,t1,r,[],[],rfl,S2,((Yj B).put'<|by trivial),hr0,∅,∅,by rw[aC a8];exact zb1,by simp,.nil,by show(0:Kl)+r<=r;lia⟩ ?_ ?_
 .rintro i σ e hi ⟨O,tx,b,rs,fs,rfl,u,C,X,Y,L,I,ad,G,M⟩;obtain⟨d,m,Z,ok⟩:=u.hand;exists _,U,hd,_,_,_,U,U,Yl Z,BV,_,_,U,U,_,U;refine bH (λc=>?_) λc=>?_
  .have c':0<b:=cT c;exists _,U,hd,_,_,_,U,U,Yl Z,BV,_,_,U,U;exists _,U,hd,_,3,3,U,U,Z,U;have S3:=u.setHand (r':=b-1) ok;have f3:=C.put' (a:=hd) (o:=hl d m tx<|b-1) (by trivial);have ab:upd e hd (hl d m tx<|b-1) j\(.lst<|rs.map Yg):=by rw[aC a8];exact I
   refine{_,U,.inl {U,_,Yl ab},_,U,_,U,_,U,_,U,_,U,hd,en,wd,WA,D,tx,b-1,W,dp,U,ae,S3,∅,∅,λv fv J t4 r4 ag aj S4 N h0 h1 h2=>?_};have a7:=N _ _ a9 ab;have S7:=Sit.own (o:=.lst<|rs.map Yg++[Yg v]) S S4 (f3.trans N) B;have aa:Tup J (upd J j<|.lst<|rs.map Yg++[Yg v]):=Tup.lst a7;have af:Tup e J:=(u.tup<|Yk<|.head _).trans<|S3.tup N;exact{j,_,_,U,U,a7,bM (by rw[aK];lia),_,t4,r4,rs++[v],fs++fv,U,S7.1,S7.2,h0,∅,∅,by rw[zb1,bT];rfl,by rw[bN,eJ];lia,(G.keep<|af.trans aa).app<|ag.keep aa,by rw[bN];lia}
  .exact⟨_,tx,b,rs,fs,rfl,u,C,X,Y,L,I,∅,G,M⟩
 .rintro σ e ⟨O,tx,b,rs,fs,rfl,u,C,X,Y,L,I,ad,G,M⟩;refine{_,U,j,_,U,.inl {Yl I,λl hl=>?_}};exact q l rs fs _ tx b zb1 (G.keep<|Yn hl) M (u.fr0<|Yj hl) (C.trans<|Yj hl) X Y L
abbrev M0(hd:eH)(A:WA):Ki eH:=[hd,A.told,A.held]
structure Sit0(H:Hp)(hd wd:eH)(A:WA)(D:WD)(t r:Kl):Prop where
 hand:∃d m,Hand H hd d m t r
 told:∃kv,H A.told\.dK kv/\DOk D.deeds D.names kv
 held:∃kv,H A.held\.dK kv/\DOk D.fields D.names kv
 w:Wld (M0 hd A) H wd A D
 nd:(M0 hd A).Nodup
 ok:zP D
section
variable{H H':Hp}{hd en wd:eH}{A:WA}{D:WD}{t r t' r':Kl}
def Sit0.have_(S:Sit0 H hd wd A D t r):∀b∈M0 hd A,∃o,H b\o:=by
 obtain⟨⟨d,m,s,i⟩,⟨q,e,l⟩,⟨j,f,n⟩,w,nd,h⟩:=S;intro b a;simp only[M0,wx0,bB,dO]at a;obtain rfl|rfl|rfl:=a
 .exact⟨_,s⟩
 .exact⟨_,e⟩
 .exact⟨_,f⟩
def Sit0.notin(S:Sit0 H hd wd A D t r)(hp:H p=Kr):p∉M0 hd A:=λz=>by
 obtain⟨o,a⟩:=S.have_ p z;rw[hp]at a;cases a
def Sit0.ne(S:Sit0 H hd wd A D t r):hd≠A.told/\hd≠A.held/\A.told≠A.held:=by
 have:=S.nd;simp only[M0,vc1,wx0,bB,dO,fZ]at this;exact{this.1.1,this.1.2,this.2.1}
def Sit0.fr0(S:Sit0 H hd wd A D t r)(f:FrS [] H H'):Sit0 H' hd wd A D t r:=by
 obtain⟨⟨d,m,n,b⟩,⟨l,a,h⟩,⟨e,i,j⟩,w,nd,ok⟩:=S;exact{{d,m,f _ _ (by trivial) n,b},{l,f _ _ (by trivial) a,h},{e,f _ _ (by trivial) i,j},w.keep (f.mono<|by trivial),nd,ok}
def Sit0.setHand(S:Sit0 H hd wd A D t r)(ok:rM d' m' t'):Sit0 (upd H hd<|hl d' m' t' r') hd wd A D t' r':=by
 obtain⟨h,b,o⟩:=S.ne;obtain⟨⟨d,m,q⟩,⟨n,a,i⟩,⟨f,j,l⟩,w,nd,e⟩:=S;exact{{d',m',Hand.at ok},{n,by rw[aC h.symm];exact a,i},{f,by rw[aC b.symm];exact j,l},w.keep (Yk<|by trivial),nd,e}
def Sit0.own(S:Sit0 H hd wd A D t r)(x:Sit0 H6 hd wd A D t6 r6)(f:FrS (M0 hd A) H H6)(a:H pa=Kr):Sit0 (upd H6 pa o) hd wd A D t6 r6/\FrS (M0 hd A) H (upd H6 pa o):=by
 have B:pa∉M0 hd A:=S.notin a;have u:∀b∈M0 hd A,upd H6 pa o b=H6 b:=λb i=>aC (λz=>B<|by rw[<-z];exact i)
 have C:FrS (M0 hd A) H (upd H6 pa o):=f.put a;obtain⟨⟨d,m,E,e⟩,⟨n,q,j⟩,⟨l,s,h⟩,w,nd,ok⟩:=x;exact{{{d,m,(u _<|by trivial).trans E,e},{n,(u _<|by trivial).trans q,j},{l,(u _<|by trivial).trans s,h},S.w.keep C,nd,ok},C}
def Sit0.open(S:Sit0 H hd wd A D t r)(he:H en=Kr)(j:DOk D.U D.names kv):Sit (upd H en<|.dK kv) hd en wd A D t r:=by
 have b:=S.notin he;obtain⟨i,f,e⟩:=S.ne;have l:FrS [] H (upd H en<|.dK kv):=Yj he;have d:=S.fr0 l;refine{d.hand,⟨kv,zb1,j⟩,d.told,d.held,S.w.map λa o h=>{λz=>?_,l _ _ (by trivial) h.2},?_,S.ok}
 .simp only[Ms,wx0,bB,dO]at z;obtain z|z|z|z:=z
  .exact h.1 (by rw[z];simp)
  .exact aQ h.2 he z
  .exact h.1 (by rw[z];simp)
  .exact h.1 (by rw[z];simp)
 .simp only[M0,wx0,bB,dO,fZ]at b;simp only[Ms,vc1,wx0,bB,dO,fZ];exact{{bS b.1,i,f},{b.2.1,b.2.2},e,not_false,lC}
def Sit.close(S:Sit H hd en wd A D t r):Sit0 H hd wd A D t r:=by
 obtain⟨i,e,d,f,j,b⟩:=S.ne;refine{S.hand,S.told,S.held,S.w.map λa o h=>h.sub (by simp +contextual),?_,S.ok};simp only[M0,vc1,wx0,bB,dO,fZ];exact{⟨e,d⟩,b,not_false,lC}
def FrS.close(he:H en=Kr)(f:FrS (Ms hd en A) (upd H en o) H1):FrS (M0 hd A) H H1:=λb u n e=>by
 have a:b≠en:=aQ e he;refine f b u (λz=>?_) (by rw[aC a];exact e);simp only[Ms,wx0,bB,dO]at z;obtain z|z|z|z:=z
 .exact n (by rw[z];simp)
 .exact a z
 .exact n (by rw[z];simp)
 .exact n (by rw[z];simp)
def DOk.merge:∀(more:Ki (aG×V)){kvs:Ki (aG×V)},DOk U' N kvs->(∀b∈more,∃x∈U',b.1=Ku x/\(b.2=.non\/∃n∈N,b.2=.str n))->DOk U' N (cM kvs more):=by
 intro more
 induction more with
 | nil=>
  exact λh _=>h
 | cons a l m=>
  intro kvs h d;obtain⟨x,f,e,i⟩:=d a<|sS ..;show DOk U' N<|cM (aL kvs a.1 a.2) l;refine m ?_ λb j=>d b<|iO _ j;rw[e];exact h.put f i
end
theorem Sit0.tup{A:WA}(S:Sit0 H hd wd A D t r)(f:FrS (M0 hd A) H H'):Tup H H':=by
 obtain⟨⟨d,m,s,j⟩,⟨n,e,o⟩,⟨l,h,q⟩,w,nd,i⟩:=S;refine FrS.tup f λb a u=>?_;simp only[M0,wx0,bB,dO]at a;obtain rfl|rfl|rfl:=a
 .rw[s];intro z;cases z
 .rw[e];intro z;cases z
 .rw[h];intro z;cases z
abbrev JK:Kd:=top 65
inductive TW(vs:Ki V)(H:Hp)(Q:VK):Prop
 | mk(hd wd:eH)(A:WA)(D:WD)(t r:Kl)(kd:zZ)(lv:Kk)(h1:vs=[.ref hd,.ref wd,.str kd,.int (lv:Kl)])(h2:kd∈D.names)(h3:lv<D.deeds.length)(h4:Sit0 H hd wd A D t r)(h5:0<=r)(h6:t+25*r+20<1000000)(h7:∀(x:eH)(dn:zZ)(pv gv:V)(l:eH)(rs fs:Ki eH)(H':Hp)(t' r':Kl),D.deeds[lv]?\dn->H' x\.tup [.str dn,pv,.ref l,gv]->DpG H' pv gv->H' l\(.tup<|rs.map Yg)->Fl (fN D) H' 4 rs fs->(↑fs:Kl)+r'<=r->Sit0 H' hd wd A D t' r'->FrS (M0 hd A) H H'->0<=r'->r'<=r->t'+25*r'<=t+25*r+15->Q (.ref x) H'):TW  vs H Q
def HH:Sp:=λvs H Q _=>TW  vs H Q
abbrev BL:Ki zZ:=[qH,qW,"_law_kind","_law_level","_law_deed_here","_law_pool","_law_wanted","_law_params","_law_env","_law_rows_here","_law_gives"]
abbrev IL:Ki zZ:=[qH,qW,"_law_kind","_law_level"]
def zw2:bX BL IL (bP JK):=cF
def Ct(F:Fun K "_law_deed" "_law_deed" JK f fd)(T:aV P w K mg base k "_law_take" qB gY)(O:aV P w K mg base k "_law_of" qC (dB K))(V':aV P w K mg base k "_law_variable" qA pM)(R:aV P w K mg base k "_law_rows" kZ (wV 4))(ml:mg "len"=Kr)(bz:mg "list"=Kr)(mz:mg "zip"=Kr)(bu:mg "dict"=Kr)(bx:mg "tuple"=Kr):
  aS P w K mg base bO (k+1) f fd IL HH:=by
 refine F.ok zw2 (λvs H Q E h=>?_) λck A outer s H vs Q E hr h=>?_
 .obtain⟨hd,wd,A,D,t,r,kd,N,rfl,_⟩:=h;rfl
 obtain⟨hd,wd,WA,D,t,r,kd,N,rfl,b7,ab,S,hr0,ht,q⟩:=h;have B:=eN hr;have c6:(["_law_want","_law_pool",qH]:Ki zZ).Nodup:=by rfl'
 exists _,aJ (sL 4 zw2.nd<|eI (bU B (pv 1) aX λ_ _=>U)<|pv 3)
  (aJ (iU (i:=5) zw2.nd rfl (Oa rfl)<|cE sU (bU B (pv 1) aX λ_ _=>U)<|jY qS (bU B (pv 1) aX λ_ _=>U) kT<|jS aO) (aJ (sL 6 zw2.nd<|bU B (bU B (pv 1) aX λ_ _=>U) (bZ<|aA (bU B (bU B (pv 1) aX λ_ _=>U) (pv 2) λ_ _=>U)<|aA (pv 4) aE) λ_ _=>U) (aJ (uI (i:=7) (N':=["_law_want","_law_pool",qH]) (src:=[Kr,Kp 5,Kp 0]) rfl zw2.nd rfl rfl fJ (iJ<|pv 6) (g:=cJ 0) (λ_ _ _ _=>gL 0 c6) (λ_ _ _ _=>gW) (te:=wP K "list" ON (aI 1)<|bG (gD gY [] E0<|bG (aI 2)<|bG (mK (λxs H Q=>∃p ys,xs=[.ref p]/\(SqL K H p ys\/SqT K H p ys)/\Q (.int ↑ys) H)<|bG (aI 1) bE) bE) bE) λ_ _ _ _=>eW eQ Nm Nl RS (pv 1)<|aA (bD T hr rfl<|aA (pv 2)<|aA (eM jE rfl ml iW<|aA (pv 1) aE) aE) aE) (aJ (sL 8 zw2.nd<|fF (yJ rfl) rfl bu (by rfl')<|aA (cE sU (cU<|aA (bZ<|aA aX<|aA (pv 2) aE) aE)<|YL rfl rfl bz rfl mz<|aA (pv 7)<|aA (pv 6) aE) aE)
  (aJ (sL 9 zw2.nd<|bD R hr rfl<|aA (pv 0)<|aA (pv 1)<|aA (pv 8)<|aA (pv 3)<|aA (bD T hr rfl<|aA (pv 0)<|aA aO aE)<|aA (bD O hr rfl<|aA (pv 0)<|aA (cU<|aA aO<|aA aO<|aA aO<|aA aO<|aA aO aE) aE) aE)<|aJ (sL 10 zw2.nd<|bD O hr rfl<|aA (pv 0)<|aA (cU<|aA gI<|aA (bD V' hr rfl<|aA (pv 0)<|aA (pv 1)<|aA (pv 8) aE)<|aA (bD V' hr rfl<|aA (pv 0)<|aA (pv 1)<|aA (pv 8) aE) aE) aE)<|aJ (eK B (bU B (pv 1) aX λ_ _=>U) (pv 4) (SI B (pv 8) (pv 10) ⟨rfl,rfl,rfl,rfl⟩) rfl)<|aR<|bQ<|bZ<|aA (pv 4)<|aA (fF jA rfl bx (by rfl')<|aA (pv 7) aE)<|aA (pv 9)<|aA (pv 10) aE)))))
 ac_rfl
 have h6:=S.ok.d6;have hU:D.U.length=9:=by unfold WD.U;rw[cN,bN,S.ok.v4,S.ok.p4]
 have am:D.deeds[N]∈D.deeds:=iG ab;have c1:eE (D.deeds.map Yf) (N:Kl)\.str D.deeds[N]:=kW (by rw[bR,bJ ab];rfl);exists _,U,wd,_,U,S.w.g.2.2.1,_,U,WA.deeds,_,_,_,U,U,Yl S.w.deeds.2,c1;have b2:D.deeds[N]?=Kp D.deeds[N]:=bJ ab;generalize D.deeds[N]=dn at am b2;refine{_,U,wd,_,U,S.w.g.2.2.2.2.2.2.1,_,U,wd,_,U,S.w.g.2.2.2.2.2.1,_,U,WA.vars,_,U,Yl S.w.vars.2,λaw b4=>?_};obtain⟨ds,ed,bk,ce⟩:=QW D.vars Kr<|some 2;rw[ed];rw[S.ok.v4]at bk;have S1:=S.fr0<|Yj (S:=[]) (o:=.lst<|ds.map Yf) b4;have f1:FrS (M0 hd WA) H (upd H aw<|.lst<|ds.map Yf):=Yj b4;refine{WA.params,aw,_,_,U,U,S1.w.params.2,zb1,by rw[aK,aK,S.ok.p4];exact cX (bM ∅),λu af=>?_};generalize upd H aw (.lst<|ds.map Yf)=H1 at S1 f1 af;rw[<-bT];have S2:=S1.fr0<|Yj (S:=[]) (o:=.lst<|(D.params++ds).map Yf) af;have f2:FrS (M0 hd WA) H1 (upd H1 u<|.lst<|(D.params++ds).map Yf):=Yj af;have a4:upd H1 u (.lst<|(D.params++ds).map Yf) u\(.lst<|(D.params++ds).map Yf):=zb1;generalize upd H1 u (.lst<|(D.params++ds).map Yf)=H2 at S2 f2 a4;have al:↑(D.params++ds)=4+↑ds:=by rw[bN,S.ok.p4]
 have ad:∀x∈D.params++ds,x∈D.vars++D.params:=λx W=>by
  obtain h|h:=wz2.mp W
  .simp[h]
  .simp[ce x h]
 generalize D.params++ds=ps at a4 al ad;obtain⟨rt,wp,ws,e1,e2,e3,e4,e5⟩:=S.w.wl kd b7 dn am;refine{_,U,wd,_,U,S2.w.g.2.2.2.1,_,U,wd,_,U,S2.w.g.2.2.2.2.2.2.2.2.2.2,_,U,WA.roots,_,U,.inl {_,Ku kd,.inl S2.w.roots.2,U,e1.symm},_,U,eC rfl,λpk an=>?_};have S3:=S2.fr0<|Yj (S:=[]) (o:=.tup [Yf rt,Yf dn]) an;have f3:FrS (M0 hd WA) H1 (upd H2 pk<|.tup [Yf rt,Yf dn]):=f2.trans<|Yj an;have a5:upd H2 pk (.tup [Yf rt,Yf dn]) u\(.lst<|ps.map Yf):=by rw[aC<|aQ a4 an];exact a4
 exists WA.wants,.ref wp,U,.inr {_,[Ku rt,Ku dn],pk,.inl S3.w.wants.2,U,zb1,e2.symm};generalize upd H2 pk (.tup [Yf rt,Yf dn])=H3 at S3 f3 a5;have w3:=e3.keep<|f1.trans f3;have ak:u∉M0 hd WA:=S1.notin af;refine{_,U,wp,U,{_,Yl w3.2},λC ac=>?_};have aa:C∉M0 hd WA:=S3.notin ac;have bj:H1 C=none:=f3.old S3.have_ ac;have ap:u≠C:=aQ a5 ac;refine vI (xs:=ws.map Yf) (λi σ I=>∃(kx:Kj V)(tx:Kl)(l qs:Ki zZ),σ=[kx,Kp<|.ref u,Kp<|.ref hd]/\Sit0 I hd wd WA D tx r/\FrS (M0 hd WA) H1 I/\tx<=t+i/\I u\(.lst<|l.map Yf)/\↑l+i=↑ps/\(∀x∈l,x∈D.vars++D.params)/\I C\(.lst<|qs.map Yf)/\↑qs=i/\∀x∈qs,x∈D.vars++D.params)
  ⟨_,t,ps,[],rfl,S3.fr0<|Yj ac,f3.trans<|Yj ac,∅,by rw[aC ap];exact a5,∅,ad,zb1,rfl,by simp⟩ ?_ ?_ ?_
 .rintro i σ I hi ⟨_,_,_,_,_,_,fx,_⟩;exact Yl (e3.keep<|f1.trans fx).2
 .rintro i x σ I W ⟨kx,tx,l,qs,rfl,Sx,fx,cn,ao,bp,bf,c2,aj,a8⟩;obtain⟨hi,_⟩:=ww4.mp W;rw[aK]at hi;obtain⟨d,m,hh⟩:=Sx.hand;have ca:u≠hd:=λz=>ak (by rw[z];simp)
  refine{_,U,.inl {U,_,Yl ao},_,U,_,U,u,_,U,.inl<|Yl ao,hd,d,m,tx,r,_,U,hh,∅,by rw[aK];lia,by rw[aK];lia,λy d' m' ty y0 y1 c e=>?_};rw[aK]at y1;have Sy:=Sx.setHand (r':=r) c;have fy:=fx.put' (a:=hd) (o:=hl d' m' ty r) (by trivial);have b6:upd I hd (hl d' m' ty r) u\(.lst<|l.map Yf):=by rw[aC ca];exact ao
  have b3:upd I hd (hl d' m' ty r) C\(.lst<|qs.map Yf):=by rw[aC λz=>aa<|by rw[z];simp];exact c2
  generalize upd I hd (hl d' m' ty r)=Hy at Sy fy b6 b3;have b0:y.toNat<↑l:=by lia
  have bm:Oe y ↑(l.map Yf)\y.toNat:=by
   unfold Oe;rw[aK];have g1:¬y<0:=by lia
   simp only[g1,kG];rw[bF<|by simp;lia]
  refine{u,_,y,y.toNat,.str l[y.toNat],U,U,b6,∅,∅,bm,by rw[bR,bJ b0];rfl,?_};have br:(l.map Yf).eraseIdx y.toNat=(l.eraseIdx y.toNat).map Yf:=by rw[Pq,Pq,bT,yG,AU]
  rw[br];have S7:=Sit0.own (o:=.lst<|(l.eraseIdx y.toNat).map Yf) S1 Sy fy af;have cf:upd Hy u (.lst<|(l.eraseIdx y.toNat).map Yf) C\(.lst<|qs.map Yf):=by rw[aC ap.symm];exact b3
  have S8:=Sit0.own (o:=.lst<|qs.map Yf++[Yf l[y.toNat]]) S1 S7.1 S7.2 bj;refine{_,cf,by rw[aK];exact bM ∅,_,ty,l.eraseIdx y.toNat,qs++[l[y.toNat]],U,S8.1,S8.2,∅,by rw[aC ap];exact zb1,?_,λx W=>bf x<|List.mem_of_mem_eraseIdx W,by rw[zb1,bT];rfl,by rw[bN,aj];rfl,λx W=>?_}
  .rw[Ki.length_eraseIdx_of_lt b0];lia
  .obtain h|h:=wz2.mp W
   .exact a8 x h
   .rw[wx1.mp h];exact bf _<|iG b0
 rintro σ L ⟨kx,t4,l,qs,rfl,S4,f4,c3,cj,_,_,ax,aj,a8⟩;rw[aK]at c3 aj;have bb:FrS (M0 hd WA) H L:=f1.trans f4;have w4:=e3.keep bb;refine{_,U,eC rfl,λpt bs=>{eC rfl,λpo ba=>?_}};have f5:FrS [] L (upd (upd L pt<|.tup [Yf "own",Yf kd]) po<|.lst [Yg pt]):=(Yj bs).trans<|Yj ba;have ae:upd (upd L pt<|.tup [Yf "own",Yf kd]) po (.lst [Yg pt]) po\.lst [Yg pt]:=zb1;have a6:upd (upd L pt<|.tup [Yf "own",Yf kd]) po (.lst [Yg pt]) pt\.tup [Yf "own",Yf kd]:=by rw[aC<|aQ (o:=.tup [Yf "own",Yf kd]) zb1 ba];exact zb1
 generalize upd (upd L pt<|.tup [Yf "own",Yf kd]) po (.lst [Yg pt])=H5 at f5 ae a6;refine{_,U,_,U,C,wp,qs.map Yf,ws.map Yf,U,Yl<|f5 _ _ (by trivial) ax,Yl<|f5 _ _ (by trivial) w4.2,by rw[aK,aK];exact aj,λzl ts H6 fz cm bi bn bl=>?_};have f6:FrS [] L H6:=f5.trans λb o _ e=>fz b o e;rw[aK]at bn;refine{po,zl,_,_,U,U,fz _ _ ae,bi,by rw[aK];show 1+↑ts<=sizeLine;exact cX (bM ∅),λpc au=>?_};have f7:FrS [] L (upd H6 pc<|.lst<|[Yg pt]++ts.map Yg):=f6.trans<|Yj au;have S7:=S4.fr0 f7;refine{pc,pt::ts,(Ku "own",.str kd)::(qs.zip ws).map (λp=>((Ku p.1:aG),Yf p.2)),U,Yl zb1,?_,?_,λj t' Y b5 a7=>?_,λen av=>?_}
 .rw[cN,cN,aK,rB];lia
 .rw[cN,aK,rB];exact bM ∅
 .cases j with
  | zero=>
   have a1:pt=t':=by simpa using b5
   have a2:((Ku "own":aG),Yf kd)=Y:=by simpa using a7
   subst a1 a2;exact Ym (by rw[aC<|aQ (fz _ _ a6) au];exact fz _ _ a6)
  | succ j=>
   have a1:ts[j]?\t':=by simpa using b5
   have a2:((qs.zip ws).map λp=>((Ku p.1:aG),Yf p.2))[j]?\Y:=by simpa using a7
   obtain⟨x,y,g1,g2,g3⟩:=bl j t' a1;rw[bR]at g1 g2 a2;obtain⟨x',cc,rfl⟩:=wx3.mp g1;obtain⟨y',c5,rfl⟩:=wx3.mp g2;obtain⟨p,hp,rfl⟩:=wx3.mp a2;rw[xW]at hp;obtain⟨z1,z2⟩:=hp;rw[cc]at z1;rw[c5]at z2;cases z1;cases z2;exact Ym (by rw[aC<|aQ g3 au];exact g3)
 have bd:C≠en:=aQ (f7 _ _ (by trivial) ax) av;have a7:DOk D.U D.names (cM []<|(Ku "own",.str kd)::(qs.zip ws).map (λp=>((Ku p.1:aG),Yf p.2))):=by
  refine DOk.merge _ DOk.nil λY a7=>?_;obtain rfl|h:=wx0.mp a7
  .exact⟨"own",by unfold WD.U;simp,rfl,.inr ⟨kd,b7,rfl⟩⟩
  .obtain⟨p,hp,rfl⟩:=wx6.mp h;have:=yE hp;exact{p.1,.tail _<|a8 _ this.1,U,.inr {p.2,e5 _ this.2,U}}
 have S8:=S7.open av a7;have be:Stt (Ms hd en WA) (upd (upd H6 pc<|.lst<|[Yg pt]++ts.map Yg) en<|.dK<|cM []<|(Ku "own",.str kd)::(qs.zip ws).map (λp=>((Ku p.1:aG),Yf p.2))) C (.lst<|qs.map Yf):=by
  refine{λz=>?_,by rw[aC bd];exact f7 _ _ (by trivial) ax};simp only[Ms,wx0,bB,dO]at z;simp only[M0,wx0,bB,dO,fZ]at aa;obtain z|z|z|z:=z
  .exact aa.1 z
  .exact bd z
  .exact aa.2.1 z
  .exact aa.2.2 z
 have b8:∀Hf:Hp,FrS (Ms hd en WA) (upd (upd H6 pc<|.lst<|[Yg pt]++ts.map Yg) en<|.dK<|cM []<|(Ku "own",.str kd)::(qs.zip ws).map (λp=>((Ku p.1:aG),Yf p.2))) Hf->FrS (M0 hd WA) H Hf:=λHf ff=>(bb.trans<|f7.mono<|by trivial).trans<|FrS.close av ff
 generalize upd (upd H6 pc<|.lst<|[Yg pt]++ts.map Yg) en (.dK<|cM []<|(Ku "own",.str kd)::(qs.zip ws).map (λp=>((Ku p.1:aG),Yf p.2)))=H8 at S8 be b8;obtain⟨d,m,hh⟩:=S8.hand;refine{_,U,_,U,_,U,_,U,_,U,hd,d,m,t4,r,3,U,hh,∅,by decide,by decide,λx d9 m9 t9 x0 M c9 e9=>?_};obtain⟨dp,rfl⟩:∃dp:Kk,x=(dp:Kl):=⟨x.toNat,by lia⟩;have S9:=S8.setHand (r':=r) c9;have f9:FrS (Ms hd en WA) H8 (upd H8 hd<|hl d9 m9 t9 r):=Yk (by trivial);refine{_,U,eC rfl,λpi ar=>?_};have Sa:=S9.fr0<|Yj (S:=[]) (o:=.lst [Yh 1,Yh 2,Yh 3,Yh 4,Yh 6]) ar;have fa:=f9.trans<|Yj (o:=.lst [Yh 1,Yh 2,Yh 3,Yh 4,Yh 6]) ar;have ay:pi≠hd:=λz=>S9.notin ar (by rw[z];simp)
 obtain⟨d,m,hh⟩:=Sa.hand;refine{hd,pi,d,m,t9,r,_,U,hh,∅,ay,Yl zb1,by simp,by show 5<1000;decide,λy db mb tb hy cb eb=>?_};obtain⟨mo,rfl,cd,bv⟩:∃mo:Kl,y=.int mo/\0<=mo/\mo<=100:=by
  simp only[wx0,bB,dO]at hy;obtain rfl|rfl|rfl|rfl|rfl:=hy
  .exact⟨1,rfl,by decide,by decide⟩
  .exact⟨2,rfl,by decide,by decide⟩
  .exact⟨3,rfl,by decide,by decide⟩
  .exact⟨4,rfl,by decide,by decide⟩
  .exact⟨6,rfl,by decide,by decide⟩
 have Sb:=Sa.setHand (r':=r) cb;have fb:=fa.put' (a:=hd) (o:=hl db mb tb r) (by trivial);refine{hd,en,wd,WA,D,tb,r,(N:Kl),mo,dp,U,∅,cd,bv,Sb,hr0,∅,λrv bt c7 Hc tc G bq ci ab Sc fc bw bg co=>?_};have bo:=fb.trans fc;refine{_,U,_,U,_,U,_,U,hd,en,wd,WA,D,tc,G,U,Sc,∅,λM Hd td Sd b1 cp _=>?_};refine{_,U,_,U,_,U,hd,en,wd,WA,D,td,G,U,Sd,∅,λZ He te Se fe cl _=>?_};have c8:=(bo.trans b1).trans fe;refine{eC rfl,λpg ai=>?_};have Sf:=Se.fr0<|Yj (S:=[]) (o:=.lst [Yi,Yf M,Yf Z]) ai;have ff:=c8.trans<|Yj (o:=.lst [Yi,Yf M,Yf Z]) ai;have aq:pg≠hd:=λz=>Se.notin ai (by rw[z];simp)
 obtain⟨d,m,hh⟩:=Sf.hand;refine{hd,pg,d,m,te,G,_,U,hh,∅,aq,Yl zb1,by simp,by show 3<1000;decide,λgv dg ag tg ah cg eg=>?_};have Sg:=Sf.setHand (r':=G) cg;have fg:=ff.put' (a:=hd) (o:=hl dg ag tg G) (by trivial);obtain⟨Y,a3,hk⟩:=Sg.env;obtain⟨kt,bh,b9⟩:=Sg.told;obtain⟨J,az,c4⟩:∃J:Kj V,lK (upd (upd He pg<|.lst [Yi,Yf M,Yf Z]) hd<|hl dg ag tg G) en gv J/\(J.getD .non=.non\/∃n∈D.names,J.getD .non=.str n):=by
  simp only[wx0,bB,dO]at ah;obtain rfl|rfl|rfl:=ah
  .exact⟨Kr,⟨Y,.inl a3,.inl ⟨rfl,rfl⟩⟩,.inl rfl⟩
  .exact⟨_,⟨Y,.inl a3,.inr ⟨Ku M,rfl,rfl⟩⟩,hk.get _⟩
  .exact⟨_,⟨Y,.inl a3,.inr ⟨Ku Z,rfl,rfl⟩⟩,hk.get _⟩
 exists _,U,en,U,.inl {_,.inl a3},_,U,J,az,_,U,wd,_,U,Sg.w.g.2.2.2.2.2.2.2.2.1,_,U,WA.told,_,U,DPut.k (k:=(Ku dn:aG)) bh<|bM (by have:=b9.len;lia);have Sh:=Sg.setTold<|b9.put am c4;have fh:=fg.put' (a:=WA.told) (o:=.dK<|aL kt (Ku dn)<|J.getD .non) (by trivial);have ch:=be.keep fh;refine{_,U,_,U,C,_,U,.inl {Yl ch.2,λX as=>?_}};refine{_,U,_,U,eC rfl,λpr a9=>?_};have fk:FrS (Ms hd en WA) Hc (upd (upd (upd He pg<|.lst [Yi,Yf M,Yf Z]) hd<|hl dg ag tg G) WA.told<|.dK<|aL kt (Ku dn)<|J.getD .non):=(((b1.trans fe).trans<|Yj ai).put'<|.head _).put'<|.tail _<|.tail _<|.head _;have bc:=(Sc.tup fk).trans<|(Yn as).trans<|Yn (o:=.tup [Yf dn,Yg X,Yg rv,gv]) a9;have c0:DpG (upd (upd (upd (upd (upd He pg<|.lst [Yi,Yf M,Yf Z]) hd<|hl dg ag tg G) WA.told<|.dK<|aL kt (Ku dn)<|J.getD .non) X<|.tup<|qs.map Yf) pr<|.tup [Yf dn,Yg X,Yg rv,gv]) (.ref X) gv:=by
  simp only[wx0,bB,dO]at ah;obtain rfl|rfl|rfl:=ah
  .exact⟨X,_,Kr,rfl,(Yn a9) _ _ zb1,rfl,∅,λz=>S.ok.po<|a8 _ z⟩
  .exact⟨X,_,Kp M,rfl,(Yn a9) _ _ zb1,rfl,∅,λz=>S.ok.po<|a8 _ z⟩
  .exact⟨X,_,Kp Z,rfl,(Yn a9) _ _ zb1,rfl,∅,λz=>S.ok.po<|a8 _ z⟩
 exact q pr dn _ gv rv bt c7 _ tg G b2 zb1 c0 (bc _ _ bq) (ci.keep bc) ab ((Sh.fr0<|Yj as).fr0<|Yj a9).close (b8 _<|(fh.trans<|Yj as).trans<|Yj a9) bw bg ∅
def ZV{K:Fq}{a:eH}{xs:Ki V}{g:TG}{w:TS}{D:dY}{n:St}{H:Hp}(b:Kk->St->Hp->Prop)(h0:b 0 n H)(hl:∀i n H,i<=↑xs->b i n H->SqL K H a xs)
  (hs:∀i x p n H,xs[i]?\x->b i n H->H p=Kr->g (.ref p) n (upd H p<|.tup [.int (i:Kk),x]) λs u=>w {D with nx:=b<|i+1,ct:=b<|i+1,bk:=D.nx} s u) (hd:∀n H,b ↑xs n H->D.nx n H):
  ∃W:Kk->Kk->St->Hp->Prop,(∃m,W 0 m n H)/\∀i m n H,W i m n H->
   ((AJ K a).stop i H/\D.nx n H)\/((AJ K a).go i H/\∃N:St->Hp->Prop,(∀o r,N o r->∃m',m'<m/\W (i+1) m' o r)/\∀x r,(AJ K a).yld i H x r->g x n r λs u=>w {D with nx:=N,ct:=N,bk:=D.nx} s u):=by
 exists λi m n H=>m=↑xs-i/\i<=↑xs/\b i n H,{↑xs,by simp,bW _,h0};rintro i m n H ⟨rfl,z,p⟩;have q:=hl i n H z p
 by_cases d:i<↑xs
 .refine .inr ⟨⟨xs,xs[i],q,by simp[d]⟩,b<|i+1,λo r h=>⟨↑xs-(i+1),∅,rfl,d,h⟩,λx r y=>?_⟩;obtain⟨A,j,l,rfl,rfl,f⟩:=y;exact hs i j A n _ (f xs q) p l
 .have e:i=↑xs:=by lia
  subst e;exact .inl {{xs,q,aZ _},hd n H p}
inductive zM(H:Hp)(hd pn pt pl:eH)(n:Kk)(way t r:Kl)(ws:Ki zZ)(i:Kk)(σ:St)(Hx:Hp):Prop
 | mk(kx nx ex:Kj V)(dx mx tx:Kl)(tr:Tr)(ts:Ki eH)(late:Ki zZ)(h1:σ=[Kp<|.ref hd,Kp<|.int (n:Kl),Kp<|.ref pn,Kp<|.int way,Kp<|.ref pt,Kp<|.ref pl,kx,nx,ex])
   (h2:FrS [hd] H Hx) (h3:Hand Hx hd dx mx tx r) (h4:tx<=t+12+3*(i:Kl)) (h5:Hx pn\(.lst<|ws.map Yf)) (h6:Hx pt\(.lst<|ts.map Yg)) (h7:Hx pl\(.lst<|late.map Yf)) (h8:↑ts=i) (h9:tr.map (·.1)=ws.take i) (h10:TrOk tr)
   (h11:∀(j:Kk) t x,ts[j]?\t->tr[j]?\x->Hx t\.tup [.str x.1,aY x.2]) (h12:↑late<=i) (h13:∀x∈late,∃j,1<=j/\j<i/\ws[j]?\x) (h14:FN tr late):zM H hd pn pt pl n way t r ws i σ Hx
abbrev KN:Kd:=top 53
inductive VN(vs:Ki V)(H:Hp)(Q:VK):Prop
 | mk(hd:eH)(d m t r:Kl)(h1:vs=[.ref hd])(h2:Hand H hd d m t r)(h3:t+100<1000000)(h4:∀(a tp lp:eH)(ts:Ki eH)(tr:Tr)(late:Ki zZ)(d' m' t':Kl)(H':Hp),FrS [hd] H H'->Hand H' hd d' m' t' r->t'<=t+60->H' a\.tup [.ref tp,.ref lp]->H tp=Kr->H lp=Kr->H' tp\(.lst<|ts.map Yg)->↑ts=↑tr->(∀(j:Kk) t x,ts[j]?\t->tr[j]?\x->H' t\.tup [.str x.1,aY x.2])->TrOk tr->tr≠[]->↑tr<=12->H' lp\(.lst<|late.map Yf)->FN tr late->↑late<=12->(∃x∈tr.map (·.1),x∉late)->(∀x∈late,x∈tr.map (·.1))->Q (.ref a) H'):VN  vs H Q
def PX:Sp:=λvs H Q _=>VN  vs H Q
abbrev CD:Ki zZ:=[qH,"_law_many","_law_names","_law_way","_law_tree_here","_law_late","_law_k","_law_name","_law_elder"]
def zq5:bX CD [qH] (bP KN):=cF
def Ft(F:Fun K "_law_tree" "_law_tree" KN f fd)(T:aV P w K mg base k "_law_take" qB gY)(O:aV P w K mg base k "_law_of" qC (dB K))(W:aV P w K mg base k "_law_words" qB HF)(ml:mg "len"=Kr)(me:mg "enumerate"=Kr):aS P w K mg base bO (k+1) f fd [qH] PX:=by
 refine F.ok zq5 (λvs H Q E h=>?_) λcy A outer s H vs Q E hr h=>?_
 .obtain⟨hd,d,m,t,r,rfl,_⟩:=h;rfl
 obtain⟨hd,d,m,t,r,rfl,hh,ht,q⟩:=h;have hu:=eN hr;exists _,aJ (sL 1 zq5.nd<|bD O hr rfl<|aA (pv 0)<|aA (cU<|dV<|dV<|dV<|dV<|dV<|dV<|dV<|dV aE) aE)
  (aJ (sL 2 zq5.nd<|bD W hr rfl<|aA (pv 0)<|aA (pv 1) aE)<|aJ (sL 3 zq5.nd<|bD T hr rfl<|aA (pv 0)<|aA aO aE)<|aJ (sL 4 zq5.nd<|cU aE)<|aJ (sL 5 zq5.nd<|cU aE)<|aJ (eU dU rfl (Av rfl me<|aA (pv 2) aE) (dS (n:=2) rfl<|bK (gL 6 zq5.nd)<|bK (gL 7 zq5.nd) dX)<|aJ (sL 8 zq5.nd gI)<|aJ (cG (PW.pt<|lO (cC oI (pv 6) aO<|cI _)<|nX<|cC oI (bD T hr rfl<|aA (pv 0)<|aA aO aE) aO<|cI _) (aR<|sL 8 zq5.nd<|eI (pv 2)<|eI (cU<|aA (cE kP (pv 6) aO)<|aA aO<|aA (cE BY (cE kP (pv 6) aO) aO)<|aA (bD T hr rfl<|aA (pv 0)<|aA (pv 6) aE) aE)<|pv 3) cS)<|aJ (cG (PW.pt<|lO (cC sJ (pv 8) (pv 5) rfl)<|nX<|cC eA (eM jE rfl ml iW<|aA (pv 5) aE) aO<|cI _) (aR<|sL 8 zq5.nd gI) cS)<|aJ (cG (PW.pt<|NE (cC sJ (pv 8) (pv 5) rfl)<|JN<|PW.pt<|lO (cC yU (eM jE rfl ml iW<|aA (pv 5) aE) aO<|cI _)<|lO (cC oI (pv 6) aO<|cI _)<|nX<|cC eA (bD T hr rfl<|aA (pv 0)<|aA aO aE) aO<|cI _) (aR<|dH<|eW eQ fU fS fL (pv 5)<|aA (pv 7) aE) cS)<|aR<|dH<|eW eQ fU fS fL (pv 4)<|aA (bZ<|aA (pv 7)<|aA (pv 8) aE) aE)<|aR<|bQ<|bZ<|aA (pv 4)<|aA (pv 5) aE)
 ac_rfl
 refine{_,U,eC rfl,λp0 bh=>?_};have cq:p0≠hd:=λz=>by rw[z,hh.1]at bh;cases bh
 have ck:Hand (upd H p0<|.lst [Yh 1,Yh 2,Yh 3,Yh 4,Yh 5,Yh 6,Yh 8,Yh 12]) hd d m t r:=hh.new bh;have f0:FrS [hd] H (upd H p0<|.lst [Yh 1,Yh 2,Yh 3,Yh 4,Yh 5,Yh 6,Yh 8,Yh 12]):=Yj bh;have cb:upd H p0 (.lst [Yh 1,Yh 2,Yh 3,Yh 4,Yh 5,Yh 6,Yh 8,Yh 12]) p0\.lst [Yh 1,Yh 2,Yh 3,Yh 4,Yh 5,Yh 6,Yh 8,Yh 12]:=zb1;generalize upd H p0 (.lst [Yh 1,Yh 2,Yh 3,Yh 4,Yh 5,Yh 6,Yh 8,Yh 12])=H0 at ck f0 cb;refine{hd,p0,d,m,t,r,_,U,ck,∅,cq,Yl cb,by simp,by show 8<1000;decide,λx d1 m1 t1 u c1 e1=>?_};obtain⟨n,rfl,n1,cn⟩:∃n:Kk,x=.int (n:Kl)/\1<=n/\n<=12:=by
  simp only[wx0,bB,dO]at u;obtain rfl|rfl|rfl|rfl|rfl|rfl|rfl|rfl:=u
  .exact⟨1,rfl,by decide,by decide⟩
  .exact⟨2,rfl,by decide,by decide⟩
  .exact⟨3,rfl,by decide,by decide⟩
  .exact⟨4,rfl,by decide,by decide⟩
  .exact⟨5,rfl,by decide,by decide⟩
  .exact⟨6,rfl,by decide,by decide⟩
  .exact⟨8,rfl,by decide,by decide⟩
  .exact⟨12,rfl,by decide,by decide⟩
 have f1:FrS [hd] H (upd H0 hd<|hl d1 m1 t1 r):=f0.put' (by trivial);have ce:Hand (upd H0 hd<|hl d1 m1 t1 r) hd d1 m1 t1 r:=Hand.at c1;generalize upd H0 hd (hl d1 m1 t1 r)=H1 at f1 ce;refine{_,U,_,U,hd,d1,m1,t1,r,n,U,ce,∅,cn,λpn ws d2 m2 t2 H2 f2 cc d5 cz b5 d4 ca _=>?_};have co:=f1.trans f2;refine{_,U,hd,d2,m2,t2,r,4,U,cc,∅,by decide,by decide,λN d3 m3 t3 w0 w1 c3 e3=>?_};have bx:FrS [hd] H (upd H2 hd<|hl d3 m3 t3 r):=co.put' (by trivial);have c0:Hand (upd H2 hd<|hl d3 m3 t3 r) hd d3 m3 t3 r:=Hand.at c3;have ag:upd H2 hd (hl d3 m3 t3 r) pn\(.lst<|ws.map Yf):=by rw[aC<|jC b5 cc];exact b5
 generalize upd H2 hd (hl d3 m3 t3 r)=H3 at bx c0 ag;refine{bW _,λpt b8=>?_};have bu:=c0.new (o:=.lst []) b8;have c5:FrS [hd] H (upd H3 pt<|.lst []):=bx.trans<|Yj b8;have aq:upd H3 pt (.lst []) pn\(.lst<|ws.map Yf):=by rw[aC<|aQ ag b8];exact ag
 have ai:upd H3 pt (.lst []) pt\.lst []:=zb1;have ar:H pt=none:=oM bx c0 b8;have c6:pn≠pt:=aQ ag b8;generalize upd H3 pt (.lst [])=H4 at bu c5 aq ai;refine{bW _,λC b1=>?_};have bq:=bu.new (o:=.lst []) b1;have cf:FrS [hd] H (upd H4 C<|.lst []):=c5.trans<|Yj b1;have aj:upd H4 C (.lst []) pn\(.lst<|ws.map Yf):=by rw[aC<|aQ aq b1];exact aq
 have bc:upd H4 C (.lst []) pt\.lst []:=by rw[aC<|aQ ai b1];exact ai
 have b7:upd H4 C (.lst []) C\.lst []:=zb1;have ap:H C=none:=oM c5 bu b1;have bt:pn≠C:=aQ aq b1;have bb:pt≠C:=aQ ai b1;generalize upd H4 C (.lst [])=H5 at bq cf aj bc b7;have b3:pn≠hd:=jC aj bq;have ah:pt≠hd:=λz=>by rw[z,hh.1]at ar;cases ar
 have ao:C≠hd:=λz=>by rw[z,hh.1]at ap;cases ap
 exists _,U,pn,_,U,Yl aj;refine ZV (xs:=ws.map Yf) (zM H hd pn pt C n N t r ws)
  ⟨_,_,_,d3,m3,t3,[],[],[],rfl,cf,bq,∅,aj,bc,b7,rfl,rfl,TrOk.nil,(λj t x h=>by simp at h),by simp,by simp,λ_ h=>nomatch h⟩ ?_ ?_ ?_
 .rintro i σ Hx hi ⟨_,_,_,_,_,_,_,_,_,_,_,_,_,an,_⟩;exact Yl an
 .rintro i x p σ Hx u ⟨kx,nx,ex,dx,mx,tx,tr,ts,l,rfl,fx,br,ch,an,aw,ax,bn,ae,hok,bj,cd,b4,bf⟩ hp;obtain⟨hi,_⟩:=ww4.mp u;rw[aK]at hi;rw[bR,bJ hi]at u;cases u;have cj:ws[i]?=Kp ws[i]:=bJ hi;exists p,_,U,Ym zb1,U,_,_,U,_,_,U,U;have keep:∀b o,Hx b\o->upd Hx p (.tup [Yh (i:Kk),Yf ws[i]]) b\o:=λb o e=>by rw[aC<|aQ e hp];exact e
  have bi:FrS [hd] H (upd Hx p<|.tup [Yh (i:Kk),Yf ws[i]]):=fx.trans<|Yj hp;have ab:Hand (upd Hx p<|.tup [Yh (i:Kk),Yf ws[i]]) hd dx mx tx r:=br.new hp;have af:∀(j:Kk) t x,ts[j]?\t->tr[j]?\x->upd Hx p (.tup [Yh (i:Kk),Yf ws[i]]) t\.tup [.str x.1,aY x.2]:=λj t x a b=>keep _ _<|bj j t x a b;have al:=keep _ _ an;have as:=keep _ _ aw;have ak:=keep _ _ ax;generalize upd Hx p (.tup [Yh (i:Kk),Yf ws[i]])=Hy at bi ab af al as ak;have b6:ws[i]∉tr.map (·.1):=by
   rw[ae];intro hm;obtain⟨j,hj,ej⟩:=oE hm;rw[eS]at hj;rw[Pl]at ej;have:=(yY ca).mp ej;lia
  have ci:∀(e:Kj zZ)(a6:Ki zZ)(B:Hp)(Y mz M:Kl),(∀x,e\x->x∈ws.take i)->FrS [hd] H B->Hand B hd Y mz M r->M<=t+12+3*((i+1:Kk):Kl)->B pn\(.lst<|ws.map Yf)->B pt\(.lst<|ts.map Yg)->B C\(.lst<|a6.map Yf)->
    (∀(j:Kk) t x,ts[j]?\t->tr[j]?\x->B t\.tup [.str x.1,aY x.2])->↑a6<=i+1->(∀x∈a6,∃j,1<=j/\j<i+1/\ws[j]?\x)->FN (tr++[(ws[i],e)]) a6->
    AO (wP K "list" zF (aI 4)<|bG (dM<|bG (aI 7)<|bG (aI 8) bE) bE)
    ⟨zM H hd pn pt C n N t r ws<|i+1,λ_ _=>Kn,λ_ _=>Kn,λ_ _=>Kn⟩
    [Kp<|.ref hd,Kp<|.int (n:Kl),Kp<|.ref pn,Kp<|.int N,Kp<|.ref pt,Kp<|.ref C,Kp<|.int (i:Kk),Kp<|.str ws[i],Kp<|aY e] B:=by
   intro e a6 B Y mz M he fz ad c9 a7 a5 X a8 cs bm bz;refine{_,U,.inl {U,_,Yl a5},_,U,_,U,eC rfl,λpp av=>?_};have be:upd B pp (.tup [Yf ws[i],aY e]) pt\(.lst<|ts.map Yg):=by rw[aC<|aQ a5 av];exact a5
   have bp:pp≠pt:=λz=>by rw[z,a5]at av;cases av
   refine{pt,_,_,U,U,be,by rw[aK];exact bM ∅,_,_,_,Y,mz,M,tr++[(ws[i],e)],ts++[pp],a6,U,(fz.trans<|Yj av).put ar,?_,c9,?_,?_,?_,?_,?_,?_,?_,cs,bm,bz}
   .exact⟨by rw[aC ah.symm,aC<|aQ ad.1 av];exact ad.1,ad.2⟩
   .rw[aC c6,aC<|aQ a7 av];exact a7
   .rw[zb1,bT];rfl
   .rw[aC bb.symm,aC<|aQ X av];exact X
   .rw[bN,bn];rfl
   .rw[bT,ae,eY,cj];rfl
   .exact hok.snoc b6 λx u=>by rw[ae];exact he x u
   .intro j t' x au u;have bw:↑tr=↑ts:=by
     have:=cH Lj ae;rw[aK,eS]at this;lia
    by_cases hj:j<↑ts
    .rw[lI hj]at au;rw[lI ∅]at u;have L:=a8 j t' x au u;have h4:upd B pp (.tup [Yf ws[i],aY e]) t'\.tup [.str x.1,aY x.2]:=by rw[aC<|aQ L av];exact L
     rw[aC λz=>by rw[z,be]at h4;cases h4];exact h4
    .rw[jU ∅]at au;rw[jU ∅,bw]at u;have h0:j-↑ts=0:=by
      cases hz:j-↑ts with
      | zero=>rfl
      | succ k=>rw[hz]at au;simp at au
     rw[h0]at au u;simp only[JI,Og]at au u;subst au u;rw[aC bp];exact zb1
  have c8:∀(e:Kj zZ)(B:Hp)(Y mz M:Kl),(∀x,e\x->x∈ws.take i)->(i=0->e=Kr)->FrS [hd] H B->Hand B hd Y mz M r->M<=t+14+3*(i:Kl)->B pn\(.lst<|ws.map Yf)->B pt\(.lst<|ts.map Yg)->B C\(.lst<|l.map Yf)->
    (∀(j:Kk) t x,ts[j]?\t->tr[j]?\x->B t\.tup [.str x.1,aY x.2])->
    gA (jJ (OE (iP<|dJ (jO K Kt) (aI 8)<|aI 5)<|kE (iP<|dJ (iM λi j=>.bl<|decide<|i<j) (mK (λxs H Q=>∃p ys,xs=[.ref p]/\(SqL K H p ys\/SqT K H p ys)/\Q (.int ↑ys) H)<|bG (aI 5) bE)<|tC<|.int 6)<|kE (iP<|dJ (iM λi j=>.bl<|decide<|j<i) (aI 6)<|tC<|.int 0)<|iP<|dJ yT (gD gY [] E0<|bG (aI 0)<|bG (tC<|.int 4) bE)<|tC<|.int 0) (AO<|wP K "list" zF (aI 5)<|bG (aI 7) bE) xH)
    (AO<|wP K "list" zF (aI 4)<|bG (dM<|bG (aI 7)<|bG (aI 8) bE) bE)
    ⟨zM H hd pn pt C n N t r ws<|i+1,λ_ _=>Kn,λ_ _=>Kn,λ_ _=>Kn⟩
    [Kp<|.ref hd,Kp<|.int (n:Kl),Kp<|.ref pn,Kp<|.int N,Kp<|.ref pt,Kp<|.ref C,Kp<|.int (i:Kk),Kp<|.str ws[i],Kp<|aY e] B:=by
   intro e B Y mz M he bg fz ad c9 a7 a5 X a8;have fl:iI (aY e)=true:=by cases e <;> rfl
   have app:1<=i->∀(G:Hp)(J I tv:Kl),FrS [hd] H G->Hand G hd J I tv r->tv<=t+15+3*(i:Kl)->G pn\(.lst<|ws.map Yf)->G pt\(.lst<|ts.map Yg)->G C\(.lst<|l.map Yf)->
     (∀(j:Kk) t x,ts[j]?\t->tr[j]?\x->G t\.tup [.str x.1,aY x.2])->_:=λh1 G J I tv fv aa cp a4 a2 Z a3=>
    ci e (l++[ws[i]]) (upd G C<|.lst<|l.map Yf++[Yf ws[i]]) J I tv he (fv.put ap) ⟨by rw[aC ao.symm];exact aa.1,aa.2⟩ ∅ (by rw[aC bt];exact a4) (by rw[aC bb];exact a2) (by rw[zb1,bT];rfl)
     (λj t x a b=>by have L:=a3 j t x a b;rw[aC λz=>by rw[z,Z]at L;cases L];exact L) (by rw[bN,eJ];lia)
     (λx u=>by
      obtain h|h:=wz2.mp u
      .obtain⟨j,j1,j2,j3⟩:=b4 x h;exact{j,j1,∅,j3}
      .rw[wx1.mp h];exact{i,h1,∅,cj})
     (λx u e0 e1 e2=>by
      obtain u|u:=wz2.mp u
      .obtain e2|e2:=wz2.mp e2
       .exact qQ _<|bf x u e0 e1 e2
       .exact absurd (hok.elder u e1) (by rw[wx1.mp e2];exact b6)
      .rw[wx1.mp u];exact gS _<|.head _)
   have bs:(∀e0,e\e0->e0∉l)->∀(G:Hp)(J I tv:Kl),FrS [hd] H G->Hand G hd J I tv r->tv<=t+15+3*(i:Kl)->G pn\(.lst<|ws.map Yf)->G pt\(.lst<|ts.map Yg)->G C\(.lst<|l.map Yf)->
     (∀(j:Kk) t x,ts[j]?\t->tr[j]?\x->G t\.tup [.str x.1,aY x.2])->_:=λba G J I tv fv aa cp a4 a2 Z a3=>
    ci e l G J I tv he fv aa ∅ a4 a2 Z a3 ∅ (λx u=>by
      obtain⟨j,j1,j2,j3⟩:=b4 x u;exact{j,j1,∅,j3}) (λx u e0 e1 e2=>by
      obtain u|u:=wz2.mp u
      .exact bf x u e0 e1 e2
      .rw[wx1.mp u]at e1;exact absurd e2<|ba e0 e1)
   exists _,U,_,U,C,_,U,.inl<|Yl X,fl,jV _,_,U;refine bH (λc=>?_) λc=>?_
   .have h1:1<=i:=by
     obtain h|h:=Kk.eq_zero_or_pos i
     .exfalso;rw[bg h]at c;have:l=[]:=vt5.mp ∅;rw[this]at c;cases c
     .exact h
    exact{_,U,.inl {U,_,Yl X},_,U,C,_,_,U,U,X,by rw[aK];exact bM ∅,app h1 B Y mz M fz ad ∅ a7 a5 X a8}
   .have ba:∀e0,e\e0->e0∉l:=λe0 z hm=>c (by
     rw[z];show gQ (.str e0) (l.map Yf)=Ks;rw[lW];exact dP hm)
    exists _,U,C,_,U,.inl<|Yl X,_,_,U,U,_,U;refine bH (λc2=>?_) λc2=>bs ba B Y mz M fz ad ∅ a7 a5 X a8;exists _,U,_,_,U,U,_,U;refine bH (λc3=>?_) λc3=>bs ba B Y mz M fz ad ∅ a7 a5 X a8;have h1:(0:Kl)<(i:Kl):=cT c3;refine{_,U,hd,Y,mz,M,r,4,U,ad,∅,by decide,by decide,λy J I tv y0 y1 cv ev=>{U,_,U,?_}};have aa:Hand (upd B hd<|hl J I tv r) hd J I tv r:=Hand.at cv;have fv:FrS [hd] H (upd B hd<|hl J I tv r):=fz.put' (by trivial);have a4:upd B hd (hl J I tv r) pn\(.lst<|ws.map Yf):=by rw[aC b3];exact a7
    have a2:upd B hd (hl J I tv r) pt\(.lst<|ts.map Yg):=by rw[aC ah];exact a5
    have Z:upd B hd (hl J I tv r) C\(.lst<|l.map Yf):=by rw[aC ao];exact X
    have a3:∀(j:Kk) t x,ts[j]?\t->tr[j]?\x->upd B hd (hl J I tv r) t\.tup [.str x.1,aY x.2]:=λj t x a b=>by
     have L:=a8 j t x a b;rw[aC λz=>by rw[z,ad.1]at L;cases L];exact L
    refine bH (λc4=>?_) λc4=>bs ba _ J I tv fv aa ∅ a4 a2 Z a3;exact{_,U,.inl {U,_,Yl Z},_,U,C,_,_,U,U,Z,by rw[aK];exact bM ∅,app ∅ _ J I tv fv aa ∅ a4 a2 Z a3}
  have ay:∀(e:Kj zZ)(B:Hp)(Y mz M:Kl),(∀x,e\x->x∈ws.take i)->(i=0->e=Kr)->FrS [hd] H B->Hand B hd Y mz M r->M<=t+14+3*(i:Kl)->B pn\(.lst<|ws.map Yf)->B pt\(.lst<|ts.map Yg)->B C\(.lst<|l.map Yf)->
    (∀(j:Kk) t x,ts[j]?\t->tr[j]?\x->B t\.tup [.str x.1,aY x.2])->∀R:TS,(∀e':Kj zZ,(∀x,e'\x->x∈ws.take i)->(i=0->e'=Kr)->R ⟨zM H hd pn pt C n N t r ws<|i+1,λ_ _=>Kn,λ_ _=>Kn,λ_ _=>Kn⟩ [Kp<|.ref hd,Kp<|.int (n:Kl),Kp<|.ref pn,Kp<|.int N,Kp<|.ref pt,Kp<|.ref C,Kp<|.int (i:Kk),Kp<|.str ws[i],Kp<|aY e'] B)->
    gA (jJ (kE (iP<|dJ (jO K Kt) (aI 8)<|aI 5)<|iP<|dJ yT (mK (λxs H Q=>∃p ys,xs=[.ref p]/\(SqL K H p ys\/SqT K H p ys)/\Q (.int ↑ys) H)<|bG (aI 5) bE)<|tC<|.int 6) (gG (tC .non)<|cJ 8) xH) R
    ⟨zM H hd pn pt C n N t r ws<|i+1,λ_ _=>Kn,λ_ _=>Kn,λ_ _=>Kn⟩
    [Kp<|.ref hd,Kp<|.int (n:Kl),Kp<|.ref pn,Kp<|.int N,Kp<|.ref pt,Kp<|.ref C,Kp<|.int (i:Kk),Kp<|.str ws[i],Kp<|aY e] B:=by
   intro e B Y mz M he bg fz ad c9 a7 a5 X a8 R hR;have fl:iI (aY e)=true:=by cases e <;> rfl
   exists _,U,_,U,C,_,U,.inl<|Yl X,fl,jV _,_,U;refine bH (λc=>?_) λc=>hR e he bg;exists _,U,C,_,U,.inl<|Yl X,U,_,U;refine bH (λc=>?_) λc=>hR e he bg;exact hR Kr (λx u=>nomatch u) λ_=>rfl
  exists _,U,_,_,U,U,_,U;refine bH (λc=>?_) λc=>?_
  rotate_left
  .exact ay Kr Hy dx mx tx (λx u=>nomatch u) (λ_=>U) bi ab ∅ al as ak af _ λe' b9 ac=>c8 e' Hy dx mx tx b9 ac bi ab ∅ al as ak af
  have d0:(0:Kl)<(i:Kl):=cT c;refine{_,U,hd,dx,mx,tx,r,6,U,ab,∅,by decide,by decide,λy J I tv y0 y1 cv ev=>{_,_,U,U,_,U,?_}};have aa:Hand (upd Hy hd<|hl J I tv r) hd J I tv r:=Hand.at cv;have fv:FrS [hd] H (upd Hy hd<|hl J I tv r):=bi.put' (by trivial);have a4:upd Hy hd (hl J I tv r) pn\(.lst<|ws.map Yf):=by rw[aC b3];exact al
  have a2:upd Hy hd (hl J I tv r) pt\(.lst<|ts.map Yg):=by rw[aC ah];exact as
  have Z:upd Hy hd (hl J I tv r) C\(.lst<|l.map Yf):=by rw[aC ao];exact ak
  have a3:∀(j:Kk) t x,ts[j]?\t->tr[j]?\x->upd Hy hd (hl J I tv r) t\.tup [.str x.1,aY x.2]:=λj t x a b=>by
   have L:=af j t x a b;rw[aC λz=>by rw[z,ab.1]at L;cases L];exact L
  generalize upd Hy hd (hl J I tv r)=G at aa fv a4 a2 Z a3;refine bH (λc=>?_) λc=>?_
  rotate_left
  .exact ay Kr G J I tv (λx u=>nomatch u) (λ_=>U) fv aa ∅ a4 a2 Z a3 _ λe' b9 ac=>c8 e' G J I tv b9 ac fv aa ∅ a4 a2 Z a3
  refine{_,U,_,U,_,_,U,U,_,U,_,_,U,U,_,_,U,U,{by decide,by decide},_,U,_,U,hd,J,I,tv,r,_,U,aa,∅,∅,∅,λz du mu tu z0 z1 cu eu=>{eC rfl,λp4 bk=>?_}};have bo:Hand (upd G hd<|hl du mu tu r) hd du mu tu r:=Hand.at cu;have cw:FrS [hd] H (upd G hd<|hl du mu tu r):=fv.put' (by trivial);have kp:∀b o,b≠hd->G b\o->upd (upd G hd<|hl du mu tu r) p4 (.lst [Yh<|(i:Kl)-1,Yh 0,Yh<|((i:Kl)-1) / 2,Yh z]) b\o:=λb o n e=>by
   have h1:upd G hd (hl du mu tu r) b\o:=by rw[aC n];exact e
   rw[aC<|aQ h1 bk];exact h1
  have bv:=bo.new (o:=.lst [Yh<|(i:Kl)-1,Yh 0,Yh<|((i:Kl)-1) / 2,Yh z]) bk;have fu:FrS [hd] H (upd (upd G hd<|hl du mu tu r) p4<|.lst [Yh<|(i:Kl)-1,Yh 0,Yh<|((i:Kl)-1) / 2,Yh z]):=cw.trans<|Yj bk;have cg:upd (upd G hd<|hl du mu tu r) p4 (.lst [Yh<|(i:Kl)-1,Yh 0,Yh<|((i:Kl)-1) / 2,Yh z]) p4\.lst [Yh<|(i:Kl)-1,Yh 0,Yh<|((i:Kl)-1) / 2,Yh z]:=zb1;have am:=kp _ _ b3 a4;have b2:=kp _ _ ah a2;have az:=kp _ _ ao Z;have b0:∀(j:Kk) t x,ts[j]?\t->tr[j]?\x->upd (upd G hd<|hl du mu tu r) p4 (.lst [Yh<|(i:Kl)-1,Yh 0,Yh<|((i:Kl)-1) / 2,Yh z]) t\.tup [.str x.1,aY x.2]:=λj t x a b=>by
   have L:=a3 j t x a b;exact kp _ _ (λw=>by rw[w,aa.1]at L;cases L) L
  generalize upd (upd G hd<|hl du mu tu r) p4 (.lst [Yh<|(i:Kl)-1,Yh 0,Yh<|((i:Kl)-1) / 2,Yh z])=Hu at bv fu cg am b2 az b0;obtain⟨ix,cr,cx,cm⟩:∃ix:Kk,eE [Yh<|(i:Kl)-1,Yh 0,Yh<|((i:Kl)-1) / 2,Yh z] N\.int (ix:Kl)/\0<=ix/\ix<i:=by
   have hc:N=0\/N=1\/N=2\/N=3:=by lia
   obtain rfl|rfl|rfl|rfl:=hc
   .exact⟨i-1,by rw[IY];congr 2;lia,∅,by lia⟩
   .exact⟨0,by rw[pP];rfl,∅,by lia⟩
   .exact⟨(((i:Kl)-1) / 2).toNat,by rw[LU];congr 2;lia,∅,by lia⟩
   .exact⟨z.toNat,by rw[BV];congr 2;lia,∅,by lia⟩
  have cl:eE (ws.map Yf) (ix:Kl)\(.str<|ws[ix]'∅):=kW (by rw[bR,bJ ∅];rfl);exists _,U,p4,_,_,_,U,U,Yl cg,cr,pn,_,_,_,U,U,Yl am,cl;have ct:∀x,Kp (ws[ix]'∅)\x->x∈ws.take i:=λx u=>by
   cases u;have:(ws.take i)[ix]?\ws[ix]'∅:=by rw[Rb cm];exact bJ ∅
   exact dC this
  exact ay (Kp<|ws[ix]'∅) Hu du mu tu ct (λh=>by lia) fu bv ∅ am b2 az b0 _ λe' b9 ac=>c8 e' Hu du mu tu b9 ac fu bv ∅ am b2 az b0
 .rintro σ Hx ⟨kx,nx,ex,dx,mx,tx,tr,ts,l,rfl,fx,br,ch,an,aw,ax,bn,ae,hok,bj,cd,b4,bf⟩;rw[aK]at ch bn ae cd b4;rw[fI<|aZ _]at ae;have bd:↑tr=↑ws:=by rw[<-ae,aK]
  refine{_,U,_,U,eC rfl,λpa c7=>?_};have kp:∀b o,Hx b\o->upd Hx pa (.tup [Yg pt,Yg C]) b\o:=λb o e=>by rw[aC<|aQ e c7];exact e
  refine q pa pt C ts tr l dx mx tx _ (fx.trans<|Yj c7) (br.new c7) ∅ zb1 ar ap (kp _ _ aw) ∅ (λj t x a b=>kp _ _<|bj j t x a b) hok ?_ ∅ (kp _ _ ax) ?_ ∅ ?_ λx u=>by obtain⟨j,_,_,e⟩:=b4 x u;rw[ae];exact dC e
  .intro z;rw[z]at bd;simp at bd;lia
  .exact bf
  .have h0:0<↑ws:=by lia
   refine{ws[0],by rw[ae];exact iG h0,λhm=>?_};obtain⟨j,j1,j2,j3⟩:=b4 _ hm;obtain⟨j4,j5⟩:=ww4.mp j3;have:=(yY ca).mp j5;lia
def nI:Ki Kd->Kc
 | [.Return (Kp v) _]=>v
 | _::r=>nI r
 | []=>.Constant .none 0 ⟨0,0,0,0⟩
def JJ:Ki Kd->Kc->Ki Kd
 | [.Return (Kp _) p],v=>[.Return (Kp v) p]
 | a::r,v=>a::JJ r v
 | [],_=>[]
structure zB(X:Cx)(e:Kc)(t:TE):Prop where
 of:PE X e t
def Fs{κ:Type}[DecidableEq κ]{kvs:Ki (κ×V)}{k:κ}{v:V}(h:aF kvs k\v):(k,v)∈kvs:=by
 unfold aF at h;obtain⟨p,b,e⟩:=wx3.mp h;have f:=pJ b;have a:=rT b;have d:p.1=k:=cT a;rw[<-d,<-e];exact f
theorem SF{κ:Type}[DecidableEq κ]:∀{kvs:Ki (κ×V)}{i:Kk}{k:κ}{v:V},(kvs.map (·.1)).Nodup->kvs[i]?\(k,v)->aF kvs k\v
 | [],i,k,v,_,h=>by simp at h
 | a::l,0,k,v,_,h=>by
  have:a=(k,v):=by simpa using h
  rw[this];exact kU rfl
 | a::l,i+1,k,v,nd,h=>by
  have b:l[i]?\(k,v):=by simpa using h
  rw[dD,vc1]at nd;rw[kX λe=>nd.1<|by rw[e];exact wx6.mpr {_,dC b,U}];exact SF nd.2 b
def VT:∀(more kvs:Ki (aG×V)),((kvs++more).map (·.1)).Nodup->cM kvs more=kvs++more:=λmore=>more.recOn
 (λkvs _=>by rw[fP];rfl)
 λa l d kvs nd=>by
  have b:aF kvs a.1=none:=by
   cases e:aF kvs a.1 with
   | none=>rfl
   | some v=>
    have f:=IS e;rw[bT,dD]at nd;have:=(vp1.mp nd).2.2 a.1 f a.1<|sS ..;exact absurd rfl this
  show cM (aL kvs a.1 a.2) l=_;rw[GG _ b,d (kvs++[(a.1,a.2)]) (by rw[gF];exact nd),gF];rfl
theorem SH:∀(more kvs:Ki (aG×V)),(∀k,k∈(cM kvs more).map (·.1)↔k∈kvs.map (·.1)\/k∈more.map (·.1))
 | [],kvs,k=>by simp[cM]
 | a::l,kvs,k=>by
  show k∈(cM (aL kvs a.1 a.2) l).map (·.1)↔_;rw[SH l (aL kvs a.1 a.2) k,dD,wx0];obtain⟨e,h⟩|⟨e,h⟩:=OB kvs a.1 a.2
  .rw[e]
   constructor
   .rintro(h1 | h1)
    .exact .inl h1
    .exact .inr<|.inr h1
   .rintro(h1 | h1 | h1)
    .exact .inl h1
    .rw[h1];exact .inl h
    .exact .inr h1
  .rw[e,wz2,wx1]
   constructor
   .rintro((h1 | h1) | h1)
    .exact .inl h1
    .exact .inr<|.inl h1
    .exact .inr<|.inr h1
   .rintro(h1 | h1 | h1)
    .exact .inl<|.inl h1
    .exact .inl<|.inr h1
    .exact .inr h1
def Gh(rs:Ki zZ)(v:V):∃qs:Ki zZ,(cM []<|rs.map λr=>((Ku r:aG),v)).map (λf=>kV f.1)=qs.map Yf/\↑qs<=↑rs/\∀r∈rs,r∈qs:=by
 have d:=SH (rs.map λr=>((Ku r:aG),v)) [];have i:∀l:Ki (aG×V),(∀k∈l.map (·.1),∃x,k=Ku x)->∃qs:Ki zZ,l.map (λf=>kV f.1)=qs.map Yf/\↑qs=↑l/\∀x,(Ku x:aG)∈l.map (·.1)->x∈qs:=by
  intro l
  induction l with
  | nil=>intro _;exact{[],U,U,by simp}
  | cons a l m=>
   intro h;obtain⟨qs,e,j,em⟩:=m λk d=>h k<|iO _ d;obtain⟨x,ex⟩:=h a.1 (by simp);refine⟨x::qs,by rw[dD,dD,e,ex];rfl,by simp[j],λy b=>?_⟩;rw[dD,wx0]at b;obtain b|b:=b
   .rw[ex]at b;rw[iS b];exact sS ..
   .exact iO _<|em y b
 obtain⟨qs,e,j,em⟩:=i (cM []<|rs.map λr=>((Ku r:aG),v)) λk h=>by
  obtain h|h:=(d k).mp h
  .simp at h
  .rw[jW]at h;obtain⟨x,_,ex⟩:=wx6.mp h;exact{x,ex.symm}
 refine{qs,e,?_,λr n=>em r<|(d _).mpr<|.inr ?_}
 .have:=EE (rs.map λr=>((Ku r:aG),v)) [];rw[aK,iY]at this;lia
 .rw[jW];exact wx6.mpr ⟨r,n,rfl⟩
def WantsOk(M:Ki eH)(H:Hp)(N:Ki zZ)(b:Ki (Ki aG×V))(dn:zZ->zZ->Prop):Prop:=∀r d,dn r d->∃(p:eH)(a:Ki zZ),aF b [Ku r,Ku d]\.ref p/\Stt M H p (.lst<|a.map Yf)/\↑a<=4/\∀x∈a,x∈N
theorem WantsOk.keep(h:WantsOk M H N wk dn)(f:FrS M H H'):WantsOk M H' N wk dn:=λr d q=>by
 obtain⟨p,e,a,b,c⟩:=h r d q;exact{p,e,a,b.keep f,c}
def WantsOk.put{M:Ki eH}{H:Hp}{N:Ki zZ}{f:Ki (Ki aG×V)}{dn:zZ->zZ->Prop}{r d:zZ}{p:eH}{ws:Ki zZ}(h:WantsOk M H N f dn)(hp:Stt M H p (.lst<|ws.map Yf))(hl:↑ws<=4)(l:∀x∈ws,x∈N):
  WantsOk M H N (aL f [Ku r,Ku d]<|.ref p) (λa b=>dn a b\/(a=r/\b=d)):=λa b q=>by
 by_cases e:([Ku a,Ku b]:Ki aG)=[Ku r,Ku d]
 .exact⟨p,ws,by rw[hZ,bF e],hp,hl,l⟩
 .obtain q|⟨rfl,rfl⟩:=q
  .obtain⟨i,n,m,j,o⟩:=h a b q;exact{i,n,by rw[hZ,bC e];exact m,j,o}
  .exact absurd rfl e
def WantsOk.mono(h:WantsOk M H N wk dn)(f:∀r d,dn' r d->dn r d):WantsOk M H N wk dn':=λr d q=>h r d<|f r d q
def OwnOk(M:Ki eH)(H:Hp)(N:Ki zZ)(ok:Ki (aG×V))(dn:zZ->Prop):Prop:=∀d,dn d->∃(p:eH)(os:Ki zZ),aF ok (Ku d)\.ref p/\Stt M H p (.lst<|os.map Yf)/\os.Sublist N/\↑os<=13
theorem OwnOk.keep(h:OwnOk M H N ok dn)(f:FrS M H H'):OwnOk M H' N ok dn:=λd q=>by
 obtain⟨p,os,a,b,c⟩:=h d q;exact{p,os,a,b.keep f,c}
def OwnOk.put{M:Ki eH}{H:Hp}{N:Ki zZ}{ok:Ki (aG×V)}{dn:zZ->Prop}{d:zZ}{p:eH}{os:Ki zZ}(h:OwnOk M H N ok dn)(hp:Stt M H p (.lst<|os.map Yf))(f:os.Sublist N)(hl:↑os<=13):
  OwnOk M H N (aL ok (Ku d)<|.ref p) (λa=>dn a\/a=d):=λa q=>by
 by_cases e:(Ku a:aG)=Ku d
 .exact⟨p,os,by rw[hZ,bF e],hp,f,hl⟩
 .obtain q|rfl:=q
  .obtain⟨b,j,i,m,l⟩:=h a q;exact{b,j,by rw[hZ,bC e];exact i,m,l}
  .exact absurd rfl e
def OwnOk.mono'(h:OwnOk M H N ok dn)(f:∀d,dn' d->dn d):OwnOk M H N ok dn':=λd q=>h d<|f d q
def RootsOk(tr:Tr)(i:Kk)(a:Ki (aG×V)):Prop:=a.map (·.1)=(tr.take i).map (λz=>(Ku z.1:aG))/\∃b:Ki zZ,a.map (·.2)=b.map Yf
def RootsOk.step(ok:TrOk tr)(h:RootsOk tr i rk)(hi:tr[i]?\(n,e)):RootsOk tr (i+1) (aL rk (Ku n)<|.str r)/\↑(aL rk (Ku n)<|.str r)=i+1\/i > ↑tr:=by
 left
 have d:n∉(tr.take i).map (·.1):=λb=>by
  obtain⟨z,w,a⟩:=wx6.mp b;obtain⟨j,m,s⟩:=oE w;rw[eS]at m;have o:tr[j]?\(n,z.2):=by rw[bJ ∅,<-a,<-s,Pl]
  have:=ok.one hi o;lia
 have f:aF rk (Ku n)=none:=by
  cases q:aF rk (Ku n)with
  | none=>rfl
  | some v=>
   have:=IS q;rw[h.1]at this;obtain⟨z,w,a⟩:=wx6.mp this;exact absurd (wx6.mpr {z,w,iS a}) d
 obtain⟨x,l⟩:=h.2;have u:i<↑tr:=(ww4.mp hi).1;rw[GG _ f];exists {?_,x++[r],?_}
 .rw[bT,h.1,eY,hi,bT];rfl
 .rw[bT,l,bT];rfl
 .have:=cH Lj h.1;rw[aK,aK,eS]at this;rw[bN,eJ];lia
def RootsOk.val{tr:Tr}{i:Kk}{a:Ki (aG×V)}(h:RootsOk tr i a){k:aG}{v:V}(f:aF a k\v):∃r,v=.str r/\Yf r∈a.map (·.2):=by
 have d:=Fs f;obtain⟨l,e⟩:=h.2;have:v∈a.map (·.2):=wx6.mpr ⟨_,d,rfl⟩;have j:=this;rw[e]at this;obtain⟨r,_,b⟩:=wx6.mp this;exact{r,b.symm,by rw[b];exact j}
def Ga(xs:Ki V)(h:b<=↑xs)(d:a<=b):dE xs (Kp (a:Kl)) (Kp (b:Kl))=(xs.drop a).take (b-a):=by
 unfold dE;rw[HT.FW,HT.FW,Ob h,Ob ∅]
inductive FQ(Hb:Hp)(hd tp lp pn pd px pw po pr:eH)(r t6:Kl)(rk:Ki (aG×V))(rs ds:Ki zZ)(tr:Tr)(i:Kk)(σ:St)(Hx:Hp):Prop
 | mk(nx ex dx sx:Kj V)(da ma ta:Kl)(wk:Ki (Ki aG×V))(ok:Ki (aG×V))(h1:σ=[Kp<|.ref hd,Kp<|.ref tp,Kp<|.ref lp,Kp<|.ref pn,Kp<|.ref pd,Kp<|.ref px,Kp<|.ref pw,Kp<|.ref po,Kp<|.ref pr,nx,ex,dx,sx])
   (h2:FrS [hd,pw,po,pr] Hb Hx) (h3:Hand Hx hd da ma ta r) (h4:ta<=t6+80*(i:Kl)) (h5:Hx pr\.dK rk) (h6:Hx pw\.dT wk) (h7:↑wk<=12*i) (h8:WantsOk [hd,pw,po,pr] Hx (tr.map (·.1)) wk (λa b=>a∈rs/\b∈ds.take i)) (h9:Hx po\.dK ok) (h10:↑ok<=i) (h11:OwnOk [hd,pw,po,pr] Hx (tr.map (·.1)) ok (λb=>b∈ds.take i)):FQ Hb hd tp lp pn pd px pw po pr r t6 rk rs ds tr i σ Hx
inductive AS(H9:Hp)(hd tp lp pn pd px pw po pr:eH)(r ta:Kl)(rk ok:Ki (aG×V))(rs qs:Ki zZ)(tr:Tr)(dsi:Ki zZ)(di:zZ)(ex sx:Kj V)(i j:Kk)(σ:St)(Hz:Hp):Prop
 | mk(nx:Kj V)(dz mz tz:Kl)(wz:Ki (Ki aG×V))(h1:σ=[Kp<|.ref hd,Kp<|.ref tp,Kp<|.ref lp,Kp<|.ref pn,Kp<|.ref pd,Kp<|.ref px,Kp<|.ref pw,Kp<|.ref po,Kp<|.ref pr,nx,ex,Kp<|.str di,sx])
   (h2:FrS [hd,pw,po,pr] H9 Hz) (h3:Hand Hz hd dz mz tz r) (h4:tz<=ta+5*(j:Kl)) (h5:Hz pr\.dK rk) (h6:Hz pw\.dT wz) (h7:↑wz<=12*i+j) (h8:WantsOk [hd,pw,po,pr] Hz (tr.map (·.1)) wz (λa b=>(a∈rs/\b∈dsi)\/(a∈qs.take j/\b=di))) (h9:Hz po\.dK ok):AS H9 hd tp lp pn pd px pw po pr r ta rk ok rs qs tr dsi di ex sx i j σ Hz
inductive AF(H10:Hp)(hd tp lp pn pd px pw po pr ps:eH)(r tA:Kl)(tr:Tr)(di:zZ)(j:Kk)(σ:St)(Hz:Hp):Prop
 | mk(nz ez:Kj V)(dz mz tz:Kl)(ss:Ki zZ)(h1:σ=[Kp<|.ref hd,Kp<|.ref tp,Kp<|.ref lp,Kp<|.ref pn,Kp<|.ref pd,Kp<|.ref px,Kp<|.ref pw,Kp<|.ref po,Kp<|.ref pr,nz,ez,Kp<|.str di,Kp<|.ref ps])(h2:FrS [hd] H10 Hz)(h3:Hand Hz hd dz mz tz r)(h4:tz<=tA+(j:Kl))(h5:Hz ps\(.lst<|ss.map Yf))(h6:↑ss<=j)(h7:ss.Sublist ((tr.map (·.1)).take j)):AF H10 hd tp lp pn pd px pw po pr ps r tA tr di j σ Hz
abbrev lQ:Kd:=top 54
def LH:eG lQ=JJ (eG lQ) (nI<|eG lQ):=rfl
inductive XW(vs:Ki V)(H:Hp)(Q:VK):Prop
 | mk(hd:eH)(d m t r:Kl)(h1:vs=[.ref hd])(h2:Hand H hd d m t r)(h3:t+1000<1000000)(h4:∀(wd:eH)(A:WA)(D:WD)(H':Hp)(t':Kl),Sit0 H' hd wd A D t' r->FrS [hd] H H'->H A.told=Kr->H A.held=Kr->t'<=t+900->Q (.ref wd) H'):XW  vs H Q
def JA:Sp:=λvs H Q _=>XW  vs H Q
def kO(h:N σ H):({nx:=N,rt:=r,bk:=b,ct:=c}:dY).nx σ H:=h
def gN(h:Q (σ.set i<|some v) H):cJ i v σ H Q:=h
def fR(h:∀N:St->Hp->Prop,u D=N->t {D with nx:=N} σ H):gA t u D σ H:=h _ rfl
abbrev MC:Ki zZ:=[qH,"_law_tree_here","_law_late","_law_names","_law_deeds","_law_words_here","_law_wants","_law_owners","_law_roots","_law_name","_law_elder","_law_deed_here","_law_some"]
def zh7:bX MC [qH] (bP lQ):=cF
abbrev XN(K:Fq):Ki (TE×TE):=[(tC<|.str "tree",aI 1),(tC<|.str "late",aI 2),(tC<|.str "deeds",aI 4),(tC<|.str "wants",aI 6),(tC<|.str "owners",aI 7),(tC<|.str "vars",GA (nU K) (aI 5) PY<|zR<|tC<|.int 4),(tC<|.str "params",GA (nU K) (aI 5) (zR<|tC<|.int 4)<|zR<|tC<|.int 8),(tC<|.str "fields",GA (nU K) (aI 5) (zR<|tC<|.int 6) PY),(tC<|.str "told",NM),(tC<|.str "held",NM),(tC<|.str "roots",aI 8)]
def Jl{a:iH}{A:Kg}{outer:Ki Rg}{s:Jx}{H:Hp}{E:XK}:zB (eZ bO P w K mg base MC "_law_world" (bP lQ) f a A outer s H E).nox (nI<|eG lQ) (ES<|XN K):=by
 constructor
 refine GJ (fM aX (pv 1) ?_) rfl rfl (by intro z;cases z) (by decide);refine fM aX (pv 2) ?_;refine fM aX (pv 4) ?_;refine fM aX (pv 6) ?_;refine fM aX (pv 7) ?_;refine fM aX (jY qS (pv 5) kT<|jS aO) ?_;refine fM aX (jY qS (pv 5) (jS aO)<|jS aO) ?_;refine fM aX (jY qS (pv 5) (jS aO) kT) ?_;refine fM aX mR ?_;refine fM aX mR ?_;exact fM aX (pv 8) FJ
def Dt(F:Fun K "_law_world" "_law_world" lQ f fd)(T:aV P w K mg base k "_law_take" qB gY)(O:aV P w K mg base k "_law_of" qC (dB K))(W:aV P w K mg base k "_law_words" qB HF)(TR:aV P w K mg base k "_law_tree" [qH] PX)(i7:mg "dict"=Kr)(mr:mg "range"=Kr)(mi:mg "int"=Kr):aS P w K mg base bO (k+1) f fd [qH] JA:=by
 refine F.ok zh7 (λvs H Q E h=>?_) λgm A outer s H vs Q E hr h=>?_
 .obtain⟨hd,d,m,t,r,rfl,_⟩:=h;rfl
 obtain⟨hd,d,m,t,r,rfl,hh,ht,q⟩:=h;have hu:=eN hr;have g9:(["_law_name","_law_elder"]:Ki zZ).Nodup:=by rfl'
 have ia:(["_law_root"]:Ki zZ).Nodup:=by rfl'
 have il:(["_law_k",qH,"_law_names"]:Ki zZ).Nodup:=by rfl'
 have hO:zB (eZ bO P w K mg base MC "_law_world" (bP lQ) f gm A outer s H E).nox (nI<|eG lQ) (ES<|XN K):=Jl;rw[LH];generalize nI (eG lQ)=L at hO;exists _,aJ (hY (bD TR hr rfl<|aA (pv 0) aE)<|dS (n:=2) rfl<|bK (gL 1 zh7.nd)<|bK (gL 2 zh7.nd) dX)
  (aJ (iU (i:=3) zh7.nd rfl (Oa rfl)<|iQ (N':=["_law_name","_law_elder"]) (src:=[Kr,Kr]) rfl fJ (iJ<|pv 1) (g:=fC K 2<|eR (cJ 0)<|eR (cJ 1) eV) (λ_ _ _ _=>dS (n:=2) rfl<|bK (gL 0 g9)<|bK (gL 1 g9) dX) (λ_ _ _ _=>gW) λ_ _ _ _=>pv 0) (aJ (sL 4 zh7.nd<|bD W hr rfl<|aA (pv 0)<|aA (bD O hr rfl<|aA (pv 0)<|aA (cU<|dV<|dV<|dV<|dV<|dV<|dV<|dV<|dV aE) aE) aE) (aJ (sL 5 zh7.nd<|bD W hr rfl<|aA (pv 0)<|aA aO aE) (aJ (sL 6 zh7.nd YK) (aJ (sL 7 zh7.nd mR) (aJ (sL 8 zh7.nd mR) (aJ (eU dU rfl (iJ<|pv 1) (dS (n:=2) rfl<|bK (gL 9 zh7.nd)<|bK (gL 10 zh7.nd) dX)<|aR<|eK hu (pv 8) (pv 9) (Gq hu (pv 8) (pv 10) (pv 9) ⟨rfl,rfl,rfl,rfl⟩) rfl) (aJ (eU dU rfl (iJ<|pv 4) (gL 11 zh7.nd) (aJ (eU dU rfl (HJ (fF (yJ rfl) rfl i7 (by rfl') (aA (WL (iQ (N':=["_law_root"]) (src:=[Kr]) rfl fJ
     (Cy<|pv 8) (g:=cJ 0) (λ_ _ _ _=>gL 0 ia) (λ_ _ _ _=>gW) (λ_ _ _ _=>bZ<|aA (pv 0)<|aA yW aE))) aE))) (gL 9 zh7.nd)
    (aR<|eK hu (pv 6) (bZ<|aA (pv 9)<|aA (pv 11) aE) (iQ (N':=["_law_k",qH,"_law_names"]) (src:=[Kr,Kp 0,Kp 3]) rfl fJ (mX rfl mr<|aA (bD O hr rfl<|aA (pv 0)<|aA (cU<|dV<|dV<|dV<|dV<|dV aE) aE) aE) (g:=cJ 0) (λ_ _ _ _=>gL 0 il) (λ_ _ _ _=>gW) λ_ _ _ _=>bD O hr rfl<|aA (pv 1)<|aA (pv 2) aE) rfl))
   (aJ (sL 12 zh7.nd<|cU aE) (aJ (eU dU rfl (iJ<|pv 1) (dS (n:=2) rfl<|bK (gL 9 zh7.nd)<|bK (gL 10 zh7.nd) dX) (aR (cG (cC eA (bD T hr rfl<|aA (pv 0)<|aA (eI (cU<|dV<|dV aE)<|fF FE rfl mi (by rfl')<|aA (NF<|kL<|pv 10) aE) aE) aO<|cI _)
     (aR<|dH<|eW eQ fU fS fL (pv 12)<|aA (pv 9) aE) cS)))
   (aR<|eK hu (pv 7) (pv 11) (cE sU (pv 12)<|cE wF (cU<|aA (eI (pv 3) aO) aE)<|fF FE rfl mi (by rfl')<|aA (mY (RF<|oT hu) (pv 12) (cU aE)<|cI _) aE) rfl)))))
  (aR<|bQ hO.of)))))))))
 ac_rfl
 refine fR λN X=>?_;refine{_,U,hd,d,m,t,r,U,hh,∅,λa tp lp ts tr late d1 m1 t1 H1 f1 ft iy ha bn bg ay fc ew hok fi g6 df ig i5 h8 hw=>?_};exists a,_,U,Ym ha,U,_,_,U,_,_,U,U;subst X
 first | refine kO ?_ | skip
 refine fR λN X=>?_;refine{_,U,tp,U,{_,Yl ay},λpn gn=>?_};refine KA (tr:=tr) ay fc ew gn ∅ λH2 f2 bh=>?_
 subst X
 first | refine kO ?_ | skip
 refine fR λN X=>?_;have cd:Hand H2 hd d1 m1 t1 r:=⟨f2 _ _ (by trivial) ft.1,ft.2⟩;have i0:FrS [hd] H H2:=f1.trans (f2.mono<|by trivial);have dl:=f2 _ _ (by trivial) ay;have eh:=f2 _ _ (by trivial) df;have bv:∀(j:Kk) t x,ts[j]?\t->tr[j]?\x->H2 t\.tup [.str x.1,aY x.2]:=λj t x a b=>f2 _ _ (by trivial)<|ew j t x a b
 have b5:tp≠hd:=λz=>by rw[z,hh.1]at bn;cases bn
 have an:lp≠hd:=λz=>by rw[z,hh.1]at bg;cases bg
 refine{_,U,_,U,eC rfl,λp0 co=>?_};have gq:p0≠hd:=λz=>by rw[z,cd.1]at co;cases co
 have gd:=cd.new (o:=.lst [Yh 1,Yh 2,Yh 2,Yh 3,Yh 3,Yh 4,Yh 4,Yh 6]) co;have f3:FrS [] H2 (upd H2 p0<|.lst [Yh 1,Yh 2,Yh 2,Yh 3,Yh 3,Yh 4,Yh 4,Yh 6]):=Yj co;have fa:upd H2 p0 (.lst [Yh 1,Yh 2,Yh 2,Yh 3,Yh 3,Yh 4,Yh 4,Yh 6]) p0\.lst [Yh 1,Yh 2,Yh 2,Yh 3,Yh 3,Yh 4,Yh 4,Yh 6]:=zb1;generalize upd H2 p0 (.lst [Yh 1,Yh 2,Yh 2,Yh 3,Yh 3,Yh 4,Yh 4,Yh 6])=H3 at gd f3 fa;refine{hd,p0,d1,m1,t1,r,_,U,gd,∅,gq,Yl fa,by simp,by show 8<1000;decide,λx d4 m4 t4 I c4 e4=>?_};obtain⟨n,rfl,n1,n6⟩:∃n:Kk,x=.int (n:Kl)/\1<=n/\n<=6:=by
  simp only[wx0,bB,dO]at I;obtain rfl|rfl|rfl|rfl|rfl|rfl|rfl|rfl:=I
  .exact⟨1,rfl,by decide,by decide⟩
  .exact⟨2,rfl,by decide,by decide⟩
  .exact⟨2,rfl,by decide,by decide⟩
  .exact⟨3,rfl,by decide,by decide⟩
  .exact⟨3,rfl,by decide,by decide⟩
  .exact⟨4,rfl,by decide,by decide⟩
  .exact⟨4,rfl,by decide,by decide⟩
  .exact⟨6,rfl,by decide,by decide⟩
 have f4:FrS [hd] H2 (upd H3 hd<|hl d4 m4 t4 r):=(f3.mono<|by trivial).put' (by trivial);have fm:Hand (upd H3 hd<|hl d4 m4 t4 r) hd d4 m4 t4 r:=Hand.at c4;generalize upd H3 hd (hl d4 m4 t4 r)=H4 at f4 fm;refine{hd,d4,m4,t4,r,n,U,fm,∅,∅,λpd ds d5 m5 t5 H5 f5 fs j0 iz c7 fr hs gv=>?_};subst X
 first | refine kO ?_ | skip
 refine fR λN X=>?_;refine{_,U,hd,d5,m5,t5,r,9,U,fs,∅,by decide,λpx xs d6 m6 t6 H6 f6 af j5 j4 c5 iq j7 gc=>?_};subst X
 first | refine kO ?_ | skip
 refine fR λN X=>?_;have bo:FrS [hd] H2 H6:=(f4.trans f5).trans f6;have cg:FrS [hd] H H6:=i0.trans bo;have ar:pd≠hd:=jC c7 fs;have cu:px≠hd:=jC c5 af;have aa:pn≠hd:=jC bh cd;have ed:∀(j:Kk) t x,ts[j]?\t->tr[j]?\x->t≠hd:=λj t x a b z=>by have h3:=bv j t x a b;rw[z,cd.1]at h3;cases h3
 have ei:=bo _ _ (by simpa using b5) dl;have dt:=bo _ _ (by simpa using an) eh;have eu:=bo _ _ (by simpa using aa) bh;have ef:=f6 _ _ (by simpa using ar) c7;have d9:∀(j:Kk) t x,ts[j]?\t->tr[j]?\x->H6 t\.tup [.str x.1,aY x.2]:=λj t x a b=>bo _ _ (by simpa using ed j t x a b)<|bv j t x a b
 intro G cl;subst X
 first | refine kO ?_ | skip
 refine fR λN X=>?_;intro C bc;subst X
 first | refine kO ?_ | skip
 refine fR λN X=>?_;intro u b1;subst X
 first | refine kO ?_ | skip
 refine fR λN X=>?_;have au:H6 C=none:=by rw[<-aC (H:=H6) (a:=G) (b:=C) (o:=.dT []) (λz=>by rw[z,zb1]at bc;cases bc)];exact bc
 have aj:C≠G:=λz=>by rw[z,zb1]at bc;cases bc
 have ad:u≠G:=λz=>by rw[z,aC aj.symm,zb1]at b1;cases b1
 have ae:u≠C:=λz=>by rw[z,zb1]at b1;cases b1
 have aq:H6 u=none:=by rw[aC ae,aC ad]at b1;exact b1
 have ff:upd (upd (upd H6 G<|.dT []) C<|.dK []) u (.dK []) G\.dT []:=by rw[aC ad.symm,aC aj.symm];exact zb1
 have gf:upd (upd (upd H6 G<|.dT []) C<|.dK []) u (.dK []) C\.dK []:=by rw[aC ae.symm];exact zb1
 have f0:upd (upd (upd H6 G<|.dT []) C<|.dK []) u (.dK []) u\.dK []:=zb1;have fb:FrS [] H6 (upd (upd (upd H6 G<|.dT []) C<|.dK []) u<|.dK []):=((Yj cl).trans<|Yj bc).trans<|Yj b1;generalize upd (upd (upd H6 G<|.dT []) C<|.dK []) u (.dK [])=Hb at ff gf f0 fb;have fn:Hand Hb hd d6 m6 t6 r:=⟨fb _ _ (by trivial) af.1,af.2⟩;have cr:hd≠G:=aQ af.1 cl;have cf:hd≠C:=aQ af.1 au;have cn:hd≠u:=aQ af.1 aq;have a6:∀b o,b≠hd->H6 b\o->Stt [hd,G,C,u] Hb b o:=λb o n e=>⟨by simp only[wx0,bB,dO,fZ];exact{n,aQ e cl,aQ e au,aQ e aq},fb _ _ (by trivial) e⟩
 have bb:=a6 _ _ b5 ei;have hf:=a6 _ _ an dt;have ij:=a6 _ _ aa eu;have dw:=a6 _ _ ar ef;have go:=a6 _ _ cu c5;have ax:∀(j:Kk) t x,ts[j]?\t->tr[j]?\x->Stt [hd,G,C,u] Hb t (.tup [.str x.1,aY x.2]):=λj t x a b=>a6 _ _ (ed j t x a b)<|d9 j t x a b;have ik:FrS [hd] H Hb:=cg.trans (fb.mono<|by trivial);have ea:H G=none:=oM cg af cl;have ep:H C=none:=oM cg af au;have ec:H u=none:=oM cg af aq;have em:∀B:Hp,FrS [hd,G,C,u] Hb B->FrS [hd] H B:=λB M b o n e=>M b o (by
  simp only[wx0,bB,dO,fZ]at n ⊢;exact{n,aQ e ea,aQ e ep,aQ e ec}) (ik b o n e)
 have cm:∀B:Hp,(∃o,B hd\o)->(∃o,B G\o)->(∃o,B C\o)->(∃o,B u\o)->∀p,B p=Kr->p∉[hd,G,C,u]:=λB a b c e p hp z=>by
  simp only[wx0,bB,dO]at z;obtain z|z|z|z:=z
  .obtain⟨o,ho⟩:=a;rw[<-z,hp]at ho;cases ho
  .obtain⟨o,ho⟩:=b;rw[<-z,hp]at ho;cases ho
  .obtain⟨o,ho⟩:=c;rw[<-z,hp]at ho;cases ho
  .obtain⟨o,ho⟩:=e;rw[<-z,hp]at ho;cases ho
 exists _,U,tp,U,{_,Yl bb.2};refine pW (xs:=ts.map Yg) (λi σ B=>∃(nx ex:Kj V)(J:Ki (aG×V)),σ=[Kp<|.ref hd,Kp<|.ref tp,Kp<|.ref lp,Kp<|.ref pn,Kp<|.ref pd,Kp<|.ref px,Kp<|.ref G,Kp<|.ref C,Kp<|.ref u,nx,ex,Kr,Kr]/\FrS [u] Hb B/\B u\.dK J/\RootsOk tr i J) {_,_,[],U,FrS.refl,f0,U,[],U} ?_ ?_ ?_
 .rintro i σ B hi ⟨_,_,_,_,M,_⟩;exact Yl (bb.keep<|M.mono<|by trivial).2
 .rintro i x σ B I ⟨nx,ex,J,rfl,M,a8,b2⟩;rw[bR]at I;obtain⟨tt,ab,rfl⟩:=wx3.mp I;obtain⟨hi,_⟩:=ww4.mp ab;have ca:tr[i]?=Kp tr[i]:=bJ ∅;have e3:=(ax i tt _ ab ca).keep (M.mono<|by trivial);exists tt,_,U,Ym e3.2,U,_,_,U,_,_,U,U;have j8:J.length<=12:=by
   have:=cH Lj b2.1;rw[aK,aK,eS]at this;lia
  obtain⟨ov,er,r',i4⟩:∃ov:Kj V,lK B u (aY tr[i].2) ov/\∃r',ov.getD (.str tr[i].1)=.str r':=by
   cases he:tr[i].2 with
   | none=>exact{Kr,{J,.inl a8,.inl ⟨rfl,rfl⟩},_,U}
   | some e=>
    exists _,{J,.inl a8,.inr {Ku e,U,U}};cases hv:aF J (Ku e)with
    | none=>exact{_,U}
    | some v=>
     obtain⟨r',rfl,_⟩:=b2.val hv;exact⟨r',rfl⟩
  exists _,U,u,U,.inl {_,.inl a8},_,U,_,U,ov,er,_,U,_,U,u,_,U,DPut.k (k:=(Ku tr[i].1:aG)) a8 (bM ∅),_,_,_,U,M.put' (by trivial),zb1;rw[i4];obtain h|h:=RootsOk.step (r:=r') (n:=tr[i].1) (e:=tr[i].2) hok b2 ca
  .exact h.1
  .lia
 rintro σ H7 ⟨j3,it,J,rfl,f7,ie,b2⟩;subst X
 first | refine kO ?_ | skip
 refine fR λN X=>?_;rw[aK]at b2;have a9:=b2;unfold RootsOk at a9;rw[fI ∅]at a9;obtain⟨rs,cp⟩:=a9.2;have gs:↑rs=↑tr:=by
  have h1:=cH Lj a9.1;have h2:=cH Lj cp;rw[aK,aK]at h1 h2;lia
 have fh:FrS [hd,G,C,u] Hb H7:=f7.mono (by trivial);have io:Hand H7 hd d6 m6 t6 r:=⟨f7 _ _ (by simpa using cn) fn.1,fn.2⟩;have hg:=f7 _ _ (by simpa using ad.symm) ff;have gl:=f7 _ _ (by simpa using ae.symm) gf;exists _,U,pd,U,{_,Yl (dw.keep fh).2};refine pW (xs:=ds.map Yf) (FQ Hb hd tp lp pn pd px G C u r t6 J rs ds tr)
  ⟨_,_,_,_,d6,m6,t6,[],[],rfl,fh,io,∅,ie,hg,by simp,(λr d h=>by simp at h),gl,by simp,(λd h=>by simp at h)⟩ ?_ ?_ ?_
 .rintro i σ B hi ⟨_,_,_,_,_,_,_,_,_,_,M,_⟩;exact Yl (dw.keep M).2
 .rintro i x σ B I ⟨nx,ex,dx,sx,da,ma,ta,wk,ok,rfl,M,b3,g0,a8,cb,hc,bp,ci,i3,a5⟩;obtain⟨hi,_⟩:=ww4.mp I;rw[aK]at hi;rw[bR,bJ hi]at I;cases I;have a0:∀Y:Hp,FrS [hd,G,C,u] Hb Y->Y pn\(.lst<|(tr.map (·.1)).map Yf):=λY fy=>(ij.keep fy).2;have bx:(tr.map (·.1))≠[]:=by simpa using fi
  have h5:↑(tr.map (·.1))<=12:=by rw[aK];exact g6
  refine gN ?_;refine fR λN2 c6=>?_;exists u,J,a8;refine{_,U,u,J,U,a8,λo Dl bd=>?_};have ge:Dl≠u:=λz=>by rw[z,zb1]at bd;cases bd
  have j6:B Dl=none:=by rw[aC ge]at bd;exact bd
  refine GR (xs:=J.map λkv=>kv.2) (λi' σ Y=>(∃x,σ=[x])/\FrS [] (upd B u<|.frz o<|.dK J) Y/\∃as:Ki eH,↑as=i'/\Y Dl\(.lst<|as.map Yg)/\∀(j:Kk) a,as[j]?\a->∃rt,rs[j]?\rt/\Y a\.tup [.str rt,.bl Ks]) {{_,U},(FrS.refl).put bd,[],U,zb1,(λj a h=>by simp at h)} ?_ ?_ ?_
  .rintro i' σ Y hi ⟨_,fy,_⟩;exact fy _ _ (by trivial) zb1
  .rintro i' x σ Y I ⟨⟨x0,rfl⟩,fy,as,d7,cj,has⟩;rw[cp]at I;obtain⟨e5,_⟩:=ww4.mp I;rw[aK]at e5;rw[bR,bJ e5]at I;cases I;refine{_,U,eC rfl,λtq dk=>?_};have gr:Dl≠tq:=aQ cj dk;have et:upd Y tq (.tup [Yf rs[i'],V.bl Ks]) Dl\(.lst<|as.map Yg):=by rw[aC gr];exact cj
   refine{_,et,by rw[aK];exact bM ∅,{_,U},(fy.trans<|Yj dk).put bd,as++[tq],by rw[bN,d7];rfl,by rw[zb1,bT];rfl,λj a' e=>?_}
   by_cases hj:j<↑as
   .rw[lI hj]at e;obtain⟨rt,e1,e2⟩:=has j a' e;have e3:upd Y tq (.tup [Yf rs[i'],V.bl Ks]) a'\.tup [.str rt,.bl Ks]:=by rw[aC<|aQ e2 dk];exact e2
    exact{rt,e1,HD et _ _ e3}
   .rw[jU ∅]at e;have h0:j-↑as=0:=by
     cases hz:j-↑as with
     | zero=>rfl
     | succ k=>rw[hz]at e;simp at e
    rw[h0]at e;simp only[JI,Og]at e;subst e;have:j=i':=by lia
    subst this;exact{_,bJ e5,HD et _ _ zb1}
  rintro σ Y ⟨_,fy,as,d7,cj,has⟩;rw[aK]at d7;have i2:J.length=↑rs:=by
   have h2:=cH Lj cp;rw[aK,aK]at h2;exact h2
  exists o,fy _ _ (by trivial) zb1;have f8:FrS [] B (upd Y u<|.dK J):=FrS.thaw a8 fy;have gh:upd Y u (.dK J) Dl\(.lst<|as.map Yg):=by rw[aC ge];exact cj
  have c0:∀(j:Kk) a,as[j]?\a->∃rt,rs[j]?\rt/\upd Y u (.dK J) a\.tup [.str rt,.bl Ks]:=λj a e=>by
   obtain⟨rt,e1,e2⟩:=has j a e;exact{rt,e1,by rw[aC λz=>by rw[z,fy _ _ (by trivial) zb1]at e2;cases e2];exact e2}
  generalize upd Y u (.dK J)=H8 at f8 gh c0;refine{Dl,as,rs.map λr=>((Ku r:aG),V.bl Ks),U,Yl gh,by rw[aK];lia,by rw[aK];exact bM ∅,λj t' kv i1 fe=>?_,λl gg=>?_}
  .obtain⟨rt,e1,e2⟩:=c0 j t' i1;rw[bR,e1]at fe;cases fe;exact Ym e2
  refine{l,_,U,zb1,λo2=>?_};obtain⟨qs,eq,j2,gk⟩:=Gh rs<|.bl Ks;generalize cM [] (rs.map λr=>((Ku r:aG),V.bl Ks))=b8 at eq;rw[gR];have ai:FrS [] B (upd H8 l<|.frz o2<|.dK b8):=f8.trans<|Yj gg;have fl:upd H8 l (.frz o2<|.dK b8) l\(.frz o2<|.dK b8):=zb1;generalize upd H8 l (.frz o2<|.dK b8)=H9 at ai fl;have gy:B l=none:=f8.old (by trivial) gg;have gz:l∉[hd,G,C,u]:=cm B ⟨_,b3.1⟩ ⟨_,cb⟩ ⟨_,ci⟩ ⟨_,a8⟩ l gy;refine BD (xs:=b8.map λkv=>kV kv.1) (AS H9 hd tp lp pn pd px G C u r ta J ok rs qs tr (ds.take i) ds[i] ex sx i)
   ⟨_,da,ma,ta,wk,rfl,FrS.refl,⟨ai _ _ (by trivial) b3.1,b3.2⟩,∅,ai _ _ (by trivial) a8,ai _ _ (by trivial) cb,∅,(bp.keep<|ai.mono<|by trivial).mono (λa b h=>by obtain h|h:=h;exact h;simp at h),ai _ _ (by trivial) ci⟩ ?_ ?_ ?_
  .rintro j σ Z hj ⟨_,_,_,_,_,_,fz,_⟩;exact fz _ _ gz fl
  .rintro j x σ Z I ⟨j1,dz,mz,tz,wz,rfl,fz,ah,dr,f9,fo,hn,d0,fk⟩;rw[eq]at I;obtain⟨hj,_⟩:=ww4.mp I;rw[aK]at hj;rw[bR,bJ hj]at I;cases I;have ii:FrS [hd,G,C,u] Hb Z:=(M.trans<|ai.mono<|by trivial).trans fz;refine{_,U,eC rfl,λp5 be=>?_};have hq:p5≠hd:=λz=>by rw[z,ah.1]at be;cases be
   refine{hd,p5,dz,mz,tz,r,_,U,ah.new be,∅,hq,Yl zb1,by simp,by show 5<1000;decide,λy dq mq tq hy cq iw=>?_};obtain⟨jn,rfl,iv⟩:∃jn:Kk,y=.int (jn:Kl)/\jn<=4:=by
    simp only[wx0,bB,dO]at hy;obtain rfl|rfl|rfl|rfl|rfl:=hy
    .exact⟨0,rfl,by decide⟩
    .exact⟨1,rfl,by decide⟩
    .exact⟨1,rfl,by decide⟩
    .exact⟨2,rfl,by decide⟩
    .exact⟨4,rfl,by decide⟩
   have fq:FrS [hd] Z (upd (upd Z p5<|.lst [Yh 0,Yh 1,Yh 1,Yh 2,Yh 4]) hd<|hl dq mq tq r):=(Yj be).put' (by trivial);have cc:Hand (upd (upd Z p5<|.lst [Yh 0,Yh 1,Yh 1,Yh 2,Yh 4]) hd<|hl dq mq tq r) hd dq mq tq r:=Hand.at cq;generalize upd (upd Z p5<|.lst [Yh 0,Yh 1,Yh 1,Yh 2,Yh 4]) hd (hl dq mq tq r)=Hq at fq cc;refine{(jn:Kl),U,∅,∅,λDw b9=>?_};have c2:Dw≠hd:=λz=>by rw[z,cc.1]at b9;cases b9
   have e8:Z Dw=none:=oM fq cc b9;have bk:Dw∉[hd,G,C,u]:=cm Z ⟨_,ah.1⟩ ⟨_,fo⟩ ⟨_,fk⟩ ⟨_,f9⟩ Dw e8;refine OQ (lo:=0) (n:=(jn:Kl).toNat) (λel σ Hu=>(∃kx,σ=[kx,Kp<|.ref hd,Kp<|.ref pn])/\FrS [hd] Hq Hu/\∃(du mu tu:Kl)(ws:Ki zZ),Hand Hu hd du mu tu r/\tu<=tq+el/\Hu Dw\(.lst<|ws.map Yf)/\↑ws=el/\∀x∈ws,x∈tr.map (·.1))
    ⟨⟨_,rfl⟩,Yj b9,dq,mq,tq,[],cc.new b9,∅,zb1,rfl,by simp⟩ ?_ ?_
   .rintro el σ Hu h7 ⟨⟨kx,rfl⟩,fu,du,mu,tu,ws,ej,gw,ce,bt,av⟩;have d3:Hu pn\(.lst<|(tr.map (·.1)).map Yf):=fu _ _ (by simpa using aa)<|fq _ _ (by simpa using aa)<|a0 Z ii;refine{_,U,_,U,hd,pn,du,mu,tu,r,_,U,ej,∅,aa,Yl d3,by simpa using bx,by rw[aK];lia,λv dv mv tv hv cv ev=>?_};obtain⟨nm,h6,rfl⟩:=wx6.mp hv;refine{_,by rw[aC c2];exact ce,by rw[aK];exact bM ∅,{_,U},(fu.put'<|by trivial).put b9,dv,mv,tv,ws++[nm],{by rw[aC c2.symm];exact zb1,cv},∅,by rw[zb1,bT];rfl,by rw[bN,bt];rfl,λx I=>?_};obtain h|h:=wz2.mp I
    .exact av x h
    .rw[wx1.mp h];exact h6
   rintro σ Hu ⟨_,fu,du,mu,tu,ws,ej,gw,ce,bt,av⟩;have ib:FrS [hd] Z Hu:=fq.trans fu;refine{_,U,_,U,_,U,eC rfl,λpk e6=>?_};have ba:FrS [hd] Z (upd Hu pk<|.tup [Yf qs[j],Yf ds[i]]):=ib.trans<|Yj e6;have fg:upd Hu pk (.tup [Yf qs[j],Yf ds[i]]) Dw\(.lst<|ws.map Yf):=by rw[aC<|aQ ce e6];exact ce
   have cw:=ej.new (o:=.tup [Yf qs[j],Yf ds[i]]) e6;have b0:upd Hu pk (.tup [Yf qs[j],Yf ds[i]]) pk\.tup [Yf qs[j],Yf ds[i]]:=zb1;generalize upd Hu pk (.tup [Yf qs[j],Yf ds[i]])=Hk at ba fg cw b0;have dg:=ba _ _ (by simpa using cr.symm) fo;have cy:Dw≠G:=λz=>bk (by rw[z];simp)
   refine{G,_,U,DPut.t (k:=[Ku qs[j],Ku ds[i]]) dg b0 (bM ∅),_,du,mu,tu,_,U,fz.trans ((ba.mono<|by trivial).put'<|by trivial),{by rw[aC cr];exact cw.1,cw.2},∅,by rw[aC ad];exact ba _ _ (by simpa using cn.symm) f9,zb1,?_,?_,by rw[aC aj];exact ba _ _ (by simpa using cf.symm) fk}
   .have:=jR wz [Ku qs[j],Ku ds[i]]<|Yg Dw;lia
   .have W1:=d0.keep ((ba.mono (T:=[hd,G,C,u])<|by trivial).put' (a:=G) (o:=.dT<|aL wz [Ku qs[j],Ku ds[i]]<|.ref Dw)<|by trivial);refine(W1.put (r:=qs[j]) (d:=ds[i]) (p:=Dw) (ws:=ws) {bk,by rw[aC cy];exact fg} ∅ av).mono λa b h=>?_
    obtain h|⟨h1,h2⟩:=h
    .exact .inl<|.inl h
    .rw[eY,bJ hj]at h1;obtain h1|h1:=wz2.mp h1
     .exact .inl<|.inr ⟨h1,h2⟩
     .have:a=qs[j]:=by simpa using h1
      exact .inr ⟨this,h2⟩
  rintro σ ak ⟨ir,dA,mA,tA,wA,rfl,fA,gi,ih,fw,fp,cz,aw,ga⟩;subst c6
  first | refine kO ?_ | skip
  refine fR λN2 c6=>?_;have hm:↑(b8.map λkv=>kV kv.1)=↑qs:=by rw[eq,aK]
  rw[hm]at ih cz aw;rw[fI<|aZ _]at aw;have ao:FrS [hd,G,C,u] Hb ak:=(M.trans<|ai.mono<|by trivial).trans fA;have di:OwnOk [hd,G,C,u] ak (tr.map (·.1)) ok (λb=>b∈ds.take i):=a5.keep<|(ai.mono<|by trivial).trans fA;refine{bW _,λps b4=>?_};subst c6
  first | refine kO ?_ | skip
  refine fR λN2 c6=>?_;have eo:ps∉[hd,G,C,u]:=cm ak ⟨_,gi.1⟩ ⟨_,fp⟩ ⟨_,ga⟩ ⟨_,fw⟩ ps b4;have c8:ps≠hd:=λz=>eo (by rw[z];simp)
  have i6:ps≠pn:=λz=>by rw[z,a0 ak ao]at b4;cases b4
  exists _,U,tp,U,{_,Yl<|by rw[aC<|aQ (bb.keep ao).2 b4];exact(bb.keep ao).2};refine pW (xs:=ts.map Yg) (AF ak hd tp lp pn pd px G C u ps r tA tr ds[i])
   ⟨_,_,dA,mA,tA,[],rfl,Yj b4,gi.new b4,∅,zb1,by simp,by simp⟩ ?_ ?_ ?_
  .rintro j σ Z hj ⟨_,_,_,_,_,_,_,fz,_⟩;exact Yl ((bb.keep ao).keep<|fz.mono<|by trivial).2
  .rintro j x σ Z I ⟨nz,ez,dz,mz,tz,ss,rfl,fz,ah,dr,bm,bi,a7⟩;rw[bR]at I;obtain⟨tt,ab,rfl⟩:=wx3.mp I;obtain⟨hj,_⟩:=ww4.mp ab;have ca:tr[j]?=Kp tr[j]:=bJ ∅;have e3:=((ax j tt _ ab ca).keep ao).keep (fz.mono<|by trivial);exists tt,_,U,Ym e3.2,U,_,_,U,_,_,U,U;refine{_,U,eC rfl,λp2 al=>?_};obtain⟨kk,b0,gu,ix⟩:∃kk:Kl,eE [Yh 3,Yh 2] (if decide (aY tr[j].2=Yi)=Ks then 1 else 0)\.int kk/\0<kk/\kk<10:=by
    cases tr[j].2 with
    | none=>exact{2,U,by decide,by decide}
    | some e=>exact{3,U,by decide,by decide}
   refine{_,U,.inr {_,U,p2,_,_,Yh kk,U,U,Yl zb1,b0,hd,dz,mz,tz,r,kk,U,ah.new al,∅,gu,∅,λy dv mv tv y0 y1 cv ev=>{U,_,U,?_}}};have ct:upd (upd Z p2<|.lst [Yh 3,Yh 2]) hd (hl dv mv tv r) ps\(.lst<|ss.map Yf):=by rw[aC c8,aC<|aQ bm al];exact bm
   have fv:FrS [hd] ak (upd (upd Z p2<|.lst [Yh 3,Yh 2]) hd<|hl dv mv tv r):=(fz.trans<|Yj al).put' (by trivial);have cx:Hand (upd (upd Z p2<|.lst [Yh 3,Yh 2]) hd<|hl dv mv tv r) hd dv mv tv r:=Hand.at cv;refine bH (λc=>?_) λc=>?_
   .refine⟨_,rfl,.inl ⟨rfl,_,Yl ct⟩,_,rfl,ps,_,_,rfl,rfl,ct,by rw[aK];exact bM ∅,_,_,dv,mv,tv,ss++[tr[j].1],rfl,fv.put b4,{by rw[aC c8.symm];exact cx.1,cx.2},∅,by rw[zb1,bT];rfl,by rw[bN,eJ];lia,?_⟩;rw[eY,bR,ca];exact a7.append<|.refl [tr[j].1]
   .exact⟨_,_,dv,mv,tv,ss,rfl,fv,cx,∅,ct,∅,by rw[eY];exact a7.trans<|List.sublist_append_left _ _⟩
  rintro σ ac ⟨nz,ez,dz,mz,tz,ss,rfl,fz,ah,dr,bm,bi,a7⟩;subst c6
  first | refine kO ?_ | skip
  rw[aK]at dr bi;replace a7:=a7.trans<|Pj _ _;have gb:FrS [hd,G,C,u] ak ac:=fz.mono (by trivial);have bs:=a0 ac<|ao.trans gb;have h0:0<↑(tr.map (·.1)):=Ki.length_pos_iff.mpr bx;have de:eE ((tr.map (·.1)).map Yf) 0\.str (tr.map (·.1))[0]:=by
   have:=kW (xs:=(tr.map (·.1)).map Yf) (j:=0) (v:=.str (tr.map (·.1))[0]) (by rw[bR,bJ h0];rfl);exact this
  refine{_,U,_,U,pn,_,_,_,U,U,Yl bs,de,eC rfl,λp1 en=>?_};refine{_,U,bW _,λpe bj=>?_};have az:upd ac p1 (.lst [Yf (tr.map (·.1))[0]]) ps\(.lst<|ss.map Yf):=by rw[aC<|aQ bm en];exact bm
  have am:ps≠pe:=aQ az bj;have ee:p1≠pe:=λz=>by rw[<-z,zb1]at bj;cases bj
  refine{ps,pe,_,U,U,am,Yl (by rw[aC am];exact az),Yl zb1,.inr {_,U,?_}};obtain⟨kk,b0,zs,h4,iu,i9⟩:∃kk:Kl,(if ((ss.map Yf).isEmpty != Kt)=Ks then(1:Kl) else 0)=kk/\∃zs:Ki zZ,(Lf kk.toNat [Yf (tr.map (·.1))[0]]).flatten=zs.map Yf/\↑zs<=1/\(ss++zs).Sublist (tr.map (·.1)):=by
   cases ss with
   | nil=>exact{1,U,[(tr.map (·.1))[0]],U,by simp,Ki.singleton_sublist.mpr<|iG h0}
   | cons y ys=>exact{0,U,[],U,by simp,by rw[fP];exact a7}
  have ip:kk=0\/kk=1:=by
   rw[<-b0]
   split
   .exact .inr rfl
   .exact .inl rfl
  rw[b0];refine{p1,kk,_,U,U,by rw[aC ee];exact zb1,∅,∅,?_,λp2 al=>?_}
  .obtain rfl|rfl:=ip
   .show 1*0<=sizeLine;lia
   .show 1*1<=sizeLine;exact cX (bM ∅)
  rw[h4];have bz:upd (upd ac p1<|.lst [Yf (tr.map (·.1))[0]]) pe (.lst []) ps\(.lst<|ss.map Yf):=by rw[aC am];exact az
  refine{ps,p2,_,_,U,U,by rw[aC<|aQ bz al];exact bz,zb1,by rw[aK,aK];exact cX (bM ∅),λp3 gj=>?_};rw[<-bT];have bf:FrS [] ac (upd (upd (upd (upd ac p1<|.lst [Yf (tr.map (·.1))[0]]) pe<|.lst []) p2<|.lst<|zs.map Yf) p3<|.lst<|(ss++zs).map Yf):=by
   refine(((Yj en).trans<|Yj bj).trans<|Yj al).trans (Yj ?_);exact gj
  have c1:upd (upd (upd (upd ac p1<|.lst [Yf (tr.map (·.1))[0]]) pe<|.lst []) p2<|.lst<|zs.map Yf) p3 (.lst<|(ss++zs).map Yf) p3\(.lst<|(ss++zs).map Yf):=zb1;have d8:ac p3=none:=FrS.old (S:=[]) (((Yj en).trans<|Yj bj).trans<|Yj al) (by trivial) gj;generalize upd (upd (upd (upd ac p1<|.lst [Yf (tr.map (·.1))[0]]) pe<|.lst []) p2<|.lst<|zs.map Yf) p3 (.lst<|(ss++zs).map Yf)=gx at bf c1;have bu:=fz _ _ (by simpa using cf.symm) ga;have bq:=fz _ _ (by simpa using cr.symm) fp;have c3:=fz _ _ (by simpa using cn.symm) fw;have c9:p3∉[hd,G,C,u]:=cm ac ⟨_,ah.1⟩ ⟨_,bq⟩ ⟨_,bu⟩ ⟨_,c3⟩ p3 d8;have dy:p3≠C:=λz=>c9 (by rw[z];simp)
  exists _,U,_,U,C,_,U,DPut.k (k:=(Ku ds[i]:aG)) (bf _ _ (by trivial) bu) (bM ∅);have dn:FrS [hd,G,C,u] ak (upd gx C<|.dK<|aL ok (Ku ds[i])<|.ref p3):=(gb.trans<|bf.mono<|by trivial).put' (by trivial);exists _,_,_,_,dz,mz,tz,wA,aL ok (Ku ds[i])<|.ref p3,U,ao.trans dn,{by rw[aC cf];exact bf _ _ (by trivial) ah.1,ah.2},∅,by rw[aC ae];exact bf _ _ (by trivial) c3,by rw[aC aj.symm];exact bf _ _ (by trivial) bq,∅,?_,zb1,?_
  .refine(aw.keep dn).mono λa b h=>?_;rw[eY,bJ hi]at h;obtain h2|h2:=wz2.mp h.2
   .exact .inl ⟨h.1,h2⟩
   .exact .inr ⟨gk a h.1,by simpa using h2⟩
  .have:=jR ok (Ku ds[i])<|Yg p3;lia
  .refine((di.keep dn).put (d:=ds[i]) (p:=p3) (os:=ss++zs) ⟨c9,by rw[aC dy];exact c1⟩ i9<|by rw[bN];lia).mono' λa h=>?_
   .rw[eY,bJ hi]at h;obtain h2|h2:=wz2.mp h
    .exact .inl h2
    .exact .inr (by simpa using h2)
 rintro σ B ⟨nx,ex,dx,sx,da,ma,ta,wk,ok,rfl,M,b3,g0,a8,cb,hc,bp,ci,i3,a5⟩;subst X
 first | refine kO ?_ | skip
 rw[aK]at g0 bp a5;rw[fI<|aZ _]at bp a5;intro p hp;have ag:=(go.keep M).2;refine{_,U,_,U,_,U,_,U,_,U,_,U,_,U,px,_,U,Yl (by rw[aC<|aQ ag hp];exact ag),λq1 es=>?_};have e1:dE (xs.map Yf) Kr (Kp 4)=(xs.take 4).map Yf:=by rw[yG];exact QN (xs.map Yf) (n:=4) (by rw[aK];lia)
 rw[e1];have g1:FrS [] B (upd (upd B p<|.dK []) q1<|.lst<|(xs.take 4).map Yf):=(Yj hp).trans<|Yj es;have p1:upd (upd B p<|.dK []) q1 (.lst<|(xs.take 4).map Yf) p\.dK []:=by rw[aC<|aQ (o:=.dK []) zb1 es];exact zb1
 have v1:upd (upd B p<|.dK []) q1 (.lst<|(xs.take 4).map Yf) q1\(.lst<|(xs.take 4).map Yf):=zb1;have im:B q1=none:=(Yj (S:=[]) (o:=.dK []) hp).old (by trivial) es;generalize upd (upd B p<|.dK []) q1 (.lst<|(xs.take 4).map Yf)=K1 at g1 p1 v1;refine{_,U,_,U,_,U,px,_,U,Yl<|g1 _ _ (by trivial) ag,λq2 cs=>?_};have e2:dE (xs.map Yf) (Kp 4) (Kp 8)=((xs.drop 4).take 4).map Yf:=by rw[yG,AU];exact Ga (xs.map Yf) (a:=4) (b:=8) (by rw[aK];lia) ∅
 rw[e2];have g2:FrS [] K1 (upd K1 q2<|.lst<|((xs.drop 4).take 4).map Yf):=Yj cs;have v2:upd K1 q2 (.lst<|((xs.drop 4).take 4).map Yf) q2\(.lst<|((xs.drop 4).take 4).map Yf):=zb1;have i8:B q2=none:=g1.old (by trivial) cs;have ap:=cs;generalize upd K1 q2 (.lst<|((xs.drop 4).take 4).map Yf)=K2 at g2 v2;refine{_,U,_,U,px,_,U,Yl<|g2 _ _ (by trivial)<|g1 _ _ (by trivial) ag,λq3 ch=>?_};have e3:dE (xs.map Yf) (Kp 6) Kr=(xs.drop 6).map Yf:=by rw[AU];exact RK (xs.map Yf) (n:=6) (by rw[aK];lia)
 rw[e3];have g3:FrS [] K2 (upd K2 q3<|.lst<|(xs.drop 6).map Yf):=Yj ch;have v3:upd K2 q3 (.lst<|(xs.drop 6).map Yf) q3\(.lst<|(xs.drop 6).map Yf):=zb1;generalize upd K2 q3 (.lst<|(xs.drop 6).map Yf)=K3 at g3 v3;intro pt ck;have g4:FrS [] K3 (upd K3 pt<|.dK []):=Yj ck;have v4:upd K3 pt (.dK []) pt\.dK []:=zb1;generalize upd K3 pt (.dK [])=K4 at g4 v4;intro ph br;have g5:FrS [] K4 (upd K4 ph<|.dK []):=Yj br;have v5:upd K4 ph (.dK []) ph\.dK []:=zb1;generalize upd K4 ph (.dK [])=K5 at g5 v5;have dd:FrS [] K1 K5:=((g2.trans g3).trans g4).trans g5;have id:FrS [] B K5:=g1.trans dd;have fj:FrS [] B K3:=(g1.trans g2).trans g3;have h9:FrS [] B K4:=fj.trans g4;have e9:B pt=none:=fj.old (by trivial) ck;have eb:B ph=none:=h9.old (by trivial) br;have be:=dd _ _ (by trivial) p1;have dj:pt≠ph:=aQ v4 br;have g8:p≠pt:=λz=>by rw[<-z,(g2.trans g3) _ _ (by trivial) p1]at ck;cases ck
 have bw:p≠ph:=λz=>by rw[<-z,((g2.trans g3).trans g4) _ _ (by trivial) p1]at br;cases br
 refine{_,U,be,[(Ku "tree",.ref tp),(Ku "late",.ref lp),(Ku "deeds",.ref pd),(Ku "wants",.ref G),(Ku "owners",.ref C),(Ku "vars",.ref q1),(Ku "params",.ref q2),(Ku "fields",.ref q3),(Ku "told",.ref pt),(Ku "held",.ref ph),(Ku "roots",.ref u)],U,by show 11<=15;decide,?_};have dp:(([(Ku "tree",.ref tp),(Ku "late",.ref lp),(Ku "deeds",.ref pd),(Ku "wants",.ref G),(Ku "owners",.ref C),(Ku "vars",.ref q1),(Ku "params",.ref q2),(Ku "fields",.ref q3),(Ku "told",.ref pt),(Ku "held",.ref ph),(Ku "roots",.ref u)]:Ki (aG×V)).map (·.1)).Nodup:=by
  show([Ku "tree",Ku "late",Ku "deeds",Ku "wants",Ku "owners",Ku "vars",Ku "params",Ku "fields",Ku "told",Ku "held",Ku "roots"]:Ki aG).Nodup
  rfl'
 rw[VT _ [] (by rw[zJ];exact dp),zJ];generalize hkvs:([(Ku "tree",.ref tp),(Ku "late",.ref lp),(Ku "deeds",.ref pd),(Ku "wants",.ref G),(Ku "owners",.ref C),(Ku "vars",.ref q1),(Ku "params",.ref q2),(Ku "fields",.ref q3),(Ku "told",.ref pt),(Ku "held",.ref ph),(Ku "roots",.ref u)]:Ki (aG×V))=kvs at dp;have gt:∀(j:Kk)(k:aG)(v:V),kvs[j]?\(k,v)->aF kvs k\v:=λj k v h=>SF dp h;have kp:∀b o,K5 b\o->b≠p->upd K5 p (.dK kvs) b\o:=λb o e n=>by rw[aC n];exact e
 have kx:∀b o,B b\o->upd K5 p (.dK kvs) b\o:=λb o e=>kp b o (id _ _ (by trivial) e)<|aQ e hp
 have b6:=b3.1;have st:∀b o,b≠hd->B b\o->Stt [hd,pt,ph] (upd K5 p<|.dK kvs) b o:=λb o n e=>⟨by simp only[wx0,bB,dO,fZ];exact{n,aQ e e9,aQ e eb},kx b o e⟩
 have dc:q1≠p:=λz=>by rw[z,p1]at v1;cases v1
 have eg:q2≠p:=λz=>by rw[z]at ap;rw[p1]at ap;cases ap
 have ek:q3≠p:=λz=>by rw[z,g2 _ _ (by trivial) p1]at ch;cases ch
 have gp:B q3=none:=(g1.trans g2).old (by trivial) ch;have w1:=dd _ _ (by trivial) v1;have w2:=((g3.trans g4).trans g5) _ _ (by trivial) v2;have w3:=(g4.trans g5) _ _ (by trivial) v3;have w4:=g5 _ _ (by trivial) v4;have sl:∀(b:eH)(zs:Ki zZ),K5 b\(.lst<|zs.map Yf)->b≠p->B b=Kr->Stt [hd,pt,ph] (upd K5 p<|.dK kvs) b (.lst<|zs.map Yf):=λb zs e n e0=>⟨by
  simp only[wx0,bB,dO,fZ];exact{(λz=>by rw[z,b6]at e0;cases e0),(λz=>by rw[z,w4]at e;cases e),(λz=>by rw[z,v5]at e;cases e)},kp b _ e n⟩
 have e7:=cn.symm;have db:=cr.symm;have dm:=cf.symm;obtain⟨own,d2⟩:∃own:zZ->Ki zZ,∀d' (b7:d'∈ds),own d'=(a5 d' b7).choose_spec.choose:=by
  classical
  exact{λd'=>if h:d'∈ds then(a5 d' h).choose_spec.choose else [],λd' h=>dif_pos h}
 refine q p ⟨tp,lp,pd,G,C,q1,q2,q3,pt,ph,u⟩ {tr,late,ds,xs.take 4,(xs.drop 4).take 4,xs.drop 6,wk,ok,J,own} _ ta {{da,ma,kx _ _ b3.1,b3.2},{[],kp _ _ w4 g8.symm,DOk.nil},{[],kp _ _ v5 bw.symm,DOk.nil},{{kvs,{?_,zb1},?_},{ts,st _ _ b5 (bb.keep M).2,fc,λj t' x a b=>st _ _ (ed j t' x a b) ((ax j t' x a b).keep M).2},st _ _ an (hf.keep M).2,st _ _ ar (dw.keep M).2,sl _ _ w1 dc im,sl _ _ w2 eg i8,sl _ _ w3 ek gp,st _ _ db cb,st _ _ dm ci,st _ _ e7 a8,?_,?_},?_,?_} ?_ ?_ ?_ ?_
 .simp only[wx0,bB,dO,fZ];exact{(λz=>by rw[z,b6]at hp;cases hp),g8,bw}
 .rw[<-hkvs]at gt ⊢;exact{gt 0 _ _ rfl,gt 1 _ _ rfl,gt 2 _ _ rfl,gt 3 _ _ rfl,gt 4 _ _ rfl,gt 5 _ _ rfl,gt 6 _ _ rfl,gt 7 _ _ rfl,gt 8 _ _ rfl,gt 9 _ _ rfl,gt 10 _ _ rfl}
 .intro n' hk d' b7;have ic:(Ku n':aG)∈J.map (·.1):=by
   rw[a9.1];obtain⟨z,hz,ez⟩:=wx6.mp hk;exact wx6.mpr {z,hz,by rw[<-ez]}
  obtain⟨v,hv⟩:∃v,aF J (Ku n')\v:=by
   cases hv:aF J (Ku n')with
   | some v=>exact⟨v,rfl⟩
   | none=>exact absurd ic<|FX hv
  obtain⟨rt,rfl,g7⟩:=b2.val hv;have dh:rt∈rs:=by
   rw[cp]at g7;obtain⟨y,hy,ey⟩:=wx6.mp g7;cases ey;exact hy
  obtain⟨pp,ws,a1,a2,a3,a4⟩:=bp rt d' ⟨dh,b7⟩;exact{rt,pp,ws,hv,a1,st _ _ (λz=>a2.1<|by rw[z];simp) a2.2,a3,a4}
 .intro d' b7;have e0:=d2 d' b7;obtain⟨a1,a2,a3,a4⟩:=(a5 d' b7).choose_spec.choose_spec;rw[<-e0]at a2 a3 a4;exact{_,a1,st _ _ (λz=>a2.1<|by rw[z];simp) a2.2,a3,a4}
 .show([hd,pt,ph]:Ki eH).Nodup;simp only[vc1,wx0,bB,dO,fZ];exact{{aQ b6 e9,aQ b6 eb},dj,not_false,lC}
 .exact⟨hok,hw,fi,g6,ig,i5,h8,(by show ds≠[];intro z;rw[z]at fr;simp at fr;lia),by show ↑ds<=6;lia,hs,λx I=>(gv x I).2,by show(xs.take 4).length=4;rw[eS];lia,by show((xs.drop 4).take 4).length=4;rw[eS,nZ];lia,by show(xs.drop 6).length=3;rw[nZ];lia,λz=>by
   obtain z|z:=wz2.mp z
   .exact(gc _<|EM z).1 rfl
   .exact(gc _<|Ol<|EM z).1 rfl⟩
 .exact(em B M).trans λb o n e=>kx b o e
 .show H pt=Kr;exact(em B M).old (λb hb=>by rw[wx1.mp hb];exact{_,b6}) e9
 .show H ph=Kr;exact(em B M).old (λb hb=>by rw[wx1.mp hb];exact{_,b6}) eb
 .lia
abbrev MF:Kd:=top 66
abbrev Dz:=zZ×eH×Ki eH×Ki eH
inductive RowsIs(Z:zZ->Kj zZ->Prop)(H:Hp)(z:Dz):Prop
 | mk(h2:H z.2.1\(.tup<|z.2.2.1.map Yg))(h3:Fl Z H 4 z.2.2.1 z.2.2.2)(h4:↑z.2.2.2<=80):RowsIs Z H z
theorem RowsIs.keep(h:RowsIs Z H z)(f:Tup H H'):RowsIs Z H' z:=by
 obtain⟨d,a,b⟩:=h;exact{f _ _ d,a.keep f,b}
inductive DeedIs(Z:zZ->Kj zZ->Prop)(H:Hp)(f:eH)(z:Dz):Prop
 | mk(pv gv:V)(h1:H f\.tup [.str z.1,pv,.ref z.2.1,gv])(h3:DpG H pv gv)(h2:RowsIs Z H z):DeedIs Z H f z
theorem DeedIs.keep(h:DeedIs Z H a z)(f:Tup H H'):DeedIs Z H' a z:=by
 obtain⟨pv,d,i,b,e⟩:=h;exact{pv,d,f _ _ i,b.keep f,e.keep f}
inductive KindIs(Z:zZ->Kj zZ->Prop)(H:Hp)(u:eH)(y:zZ×Ki Dz):Prop
 | mk(e:V)(dt:eH)(fs:Ki eH)(h1:H u\.tup [.str y.1,e,.ref dt])(h2:H dt\(.tup<|fs.map Yg))(h3:↑fs=↑y.2)(h4:∀(j:Kk) f z,fs[j]?\f->y.2[j]?\z->DeedIs Z H f z)(h5:↑fs<=80)(h6:(y.2.map (·.1)).Nodup):KindIs Z H u y
theorem KindIs.keep(h:KindIs Z H a z)(f:Tup H H'):KindIs Z H' a z:=by
 obtain⟨e,i,fs,o,q,l,m,d,n⟩:=h;exact{e,i,fs,f _ _ o,f _ _ q,l,λj g z a b=>(m j g z a b).keep f,d,n}
inductive ProgIs(Z:zZ->Kj zZ->Prop)(H:Hp)(p:eH)(ks:Ki (zZ×Ki Dz))(m0:Dz):Prop
 | mk(kt:eH)(us:Ki eH)(lt:V)(h1:H p\.tup [.ref kt,lt,.ref m0.2.1])(h2:H kt\(.tup<|us.map Yg))(h3:↑us=↑ks)(h4:∀(j:Kk) u y,us[j]?\u->ks[j]?\y->KindIs Z H u y)(h5:RowsIs Z H m0)(h6:↑ks<=12):ProgIs Z H p ks m0
theorem ProgIs.keep(h:ProgIs Z H p ks m0)(f:Tup H H'):ProgIs Z H' p ks m0:=by
 obtain⟨l,q,lt,n,o,e,i,d,m⟩:=h;exact{l,q,lt,f _ _ n,f _ _ o,e,λj g z a b=>(i j g z a b).keep f,d.keep f,m}
def Tup.dk(hp:H p\.dK kv):Tup H (upd H p o):=λb a h=>by
 rw[aC λz=>by rw[z,hp]at h;cases h];exact h
inductive LateAt(H:Hp)(p:eH)(tr:Tr)(late:Ki zZ):Prop
 | mk(kt lt:eH)(m:V)(h1:H p\.tup [.ref kt,.ref lt,m])(h2:H lt\(.tup<|late.map Yf))(h3:↑late<=64)(h4:FN tr late)(h5:∃x∈tr,x.1∉late):LateAt H p tr late
def LateAt.keep(h:LateAt H p tr late)(f:Tup H H'):LateAt H' p tr late:=by
 obtain⟨e,lt,m,j,i,b,d,a⟩:=h;exact{e,lt,m,f _ _ j,f _ _ i,b,d,a}
def KindsAt.keepT(h:KindsAt H p tr)(f:Tup H H'):KindsAt H' p tr:=by
 obtain⟨l,o,x,y,n,m,e,i⟩:=h;refine{l,o,x,y,f _ _ n,f _ _ m,e,λj t z a b=>?_};obtain⟨v,d⟩:=i j t z a b;exact{v,f _ _ d}
structure VW(Z:zZ->Kj zZ->Prop)(ks:Ki (zZ×Ki Dz))(tr:Tr):Prop where
 nm:ks.map (·.1)=tr.map (·.1)
 nb:∀k,Z k Kr->k∈tr.map (·.1)
 hz:∀k d,Z k (Kp d)->k∈tr.map (·.1)/\∃n l,Up tr k l/\n∈l/\∃y∈ks,y.1=n/\∃z∈y.2,z.1=d
 de:∀k d,Z k (Kp d)->d≠""
 dl:∃ds:Ki zZ,↑ds<=6/\∀k d,Z k (Kp d)->d∈ds
inductive TU(vs:Ki V)(H:Hp)(Q:VK):Prop
 | mk(hd:eH)(mo d m t r:Kl)(h1:vs=[.ref hd,.int mo])(h0:0<=mo/\mo<=80)(h2:Hand H hd d m t r)(h3:t<=1000)
  (h4:∀(p:eH)(ks:Ki (zZ×Ki Dz))(m0:Dz)(tr:Tr)(late:Ki zZ)(Z:zZ->Kj zZ->Prop)(H':Hp)(d' m' t' r':Kl),FrS [hd] H H'->ProgIs Z H' p ks m0->KindsAt H' p tr->TrOk tr->↑tr<=12->LateAt H' p tr late->VW Z ks tr->Hand H' hd d' m' t' r'->t'<=10000->Q (.ref p) H'):TU vs H Q
def NZ:Sp:=λvs H Q _=>TU  vs H Q
def Nmd(Z:zZ->Kj zZ->Prop)(H:Hp)(A:zZ->Prop)(fs:Ki eH):Prop:=∃a:Ki Dz,A2 (DeedIs Z H) fs a/\(a.map (·.1)).Nodup/\∀z∈a,A z.1
theorem Nmd.nil:Nmd Z H A []:=⟨[],.nil,lC,nofun⟩
theorem Nmd.keep(h:Nmd Z H A fs)(g:Tup H H')(m:∀n,A n->B n):Nmd Z H' B fs:=let ⟨zs,a,b,c⟩:=h;⟨zs,a.imp λ_ _ d=>d.keep g,b,λz e=>m _<|c z e⟩
def A2.rev{b a:Type}{R:b->a->Prop}{as:Ki b}{bs:Ki a}(h:A2 R as bs):A2 R as.reverse bs.reverse:=by
 induction h with
 | nil=>exact .nil
 | cons h _ d=>rw[yM,yM];exact d.snoc h
theorem Nmd.rev(h:Nmd Z H A fs):Nmd Z H A fs.reverse:=let ⟨zs,a,b,c⟩:=h;⟨zs.reverse,A2.rev a,by rw[zI];exact(Ki.reverse_perm _).nodup_iff.mpr b,λz d=>c z<|vm6.mp d⟩
inductive WR(Z:zZ->Kj zZ->Prop)(Hb H:Hp)(c:Kk)(A:zZ->Prop)(v:V):Prop
 | mk(p:eH)(fs:Ki eH)(h1:v=.ref p)(h2:H p\(.lst<|fs.map Yg))(h3:↑fs<=c)(h4:Hb p=Kr)(h5:Nmd Z H A fs):WR Z Hb H c A v
def BK(Z:zZ->Kj zZ->Prop)(b H:Hp)(kvs:Ki (aG×V))(c:Kk)(A:aG->zZ->Prop):Prop:=↑kvs<=c/\(∀k v,aF kvs k\v->WR Z b H c (A k) v)/\∀k a v,aF kvs k\v->aF kvs a\v->k=a
theorem BK.keep(h:BK Z Hb H kvs c A)(f:FrS M H H')(i:∀p,Hb p=Kr->p∉M)(tp:Tup H H'):BK Z Hb H' kvs c A:=⟨h.1,λk v e=>by
 obtain⟨p,j,a,b,l,d,g⟩:=h.2.1 k v e;exact{p,j,a,f _ _ (i p d) b,l,d,g.keep tp λ_ h=>h},h.2.2⟩
def BK.put(h:BK Z Hb H kvs c A)(w:aF kvs k=Kr)(hp:H p\.lst [])(q:Hb p=Kr)(m:∀k v,aF kvs k\v->v≠.ref p):BK Z Hb H (aL kvs k<|.ref p) (c+1) A:=by
 refine{by have:=jR kvs k<|Yg p;have:=h.1;lia,λn v e=>?_,λu r v i f=>?_}
 .rw[hZ]at e
  by_cases z:n=k
  .rw[bF z]at e;cases e;exact{p,[],U,hp,bW _,q,.nil}
  .rw[bC z]at e;obtain⟨o,s,a,b,x,d,g⟩:=h.2.1 n v e;exact{o,s,a,b,∅,d,g}
 .rw[hZ]at i f
  by_cases l:u=k <;> by_cases j:r=k
  .rw[l,j]
  .rw[bF l]at i;rw[bC j]at f;cases i;exact absurd rfl<|m _ _ f
  .rw[bC l]at i;rw[bF j]at f;cases f;exact absurd rfl<|m _ _ i
  .rw[bC l]at i;rw[bC j]at f;exact h.2.2 _ _ _ i f
def BK.app(h:BK Z Hb H kvs c A)(j:aF kvs k\.ref p)(hp:H p\.lst xs)(hl:↑gs<=c)(i:Nmd Z H (B k) gs)(m:∀k n,A k n->B k n):BK Z Hb (upd H p<|.lst<|gs.map Yg) kvs c B:=by
 have o:Tup H (upd H p<|.lst<|gs.map Yg):=Tup.lst hp;refine{h.1,λf v e=>?_,h.2.2};obtain⟨a,l,rfl,b,q,d,g⟩:=h.2.1 f v e
 by_cases z:a=p
 .subst z;obtain rfl:=h.2.2 _ _ _ j e;exact{a,gs,U,zb1,hl,d,i.keep o λ_ h=>h}
 .exact⟨a,l,rfl,by rw[aC z];exact b,q,d,g.keep o<|m f⟩
def BK.more(h:BK Z Hb H kvs c A)(j:c<=c')(m:∀k n,A k n->B k n):BK Z Hb H kvs c' B:=⟨by have:=h.1;lia,λk v e=>by
 obtain⟨f,i,a,b,l,d,g⟩:=h.2.1 k v e;exact{f,i,a,b,∅,d,g.keep (λ_ _ e=>e)<|m k},h.2.2⟩
def AlD(D:WD)(i j:Kk)(k:aG)(n:zZ):Prop:=∃l a x,D.deeds[D.deeds.length-1-l]?\n/\(D.own n)[a]?\x/\k=Ku x/\(l<i\/l=i/\a<j)
def AlD.mono(g:i<i'\/i=i'/\j<=j')(k:aG)(n:zZ)(h:AlD D i j k n):AlD D i' j' k n:=by
 obtain⟨l,e,x,a,b,c,d⟩:=h;exact{l,e,x,a,b,c,∅}
def AlD.not(e:D.deeds.Nodup)(m:(D.own n).Nodup)(hi:i<D.deeds.length)(f:D.deeds[D.deeds.length-1-i]?\n)(h:(D.own n)[j]?\x):¬AlD D i j (Ku x) n:=by
 rintro⟨l,o,y,a,b,c,d⟩;obtain rfl:=iS c;have r:=(Uf (i:=D.deeds.length-1-l) ∅ e).mp<|a.trans f.symm;have q:=(Uf (ww4.mp b).1 m).mp<|b.trans h.symm;lia
inductive KAt(Z:zZ->Kj zZ->Prop)(Wn:zZ->zZ->Prop)(H:Hp)(u:eH)(z:zZ×Kj zZ):Prop
 | mk(dt:eH)(fs:Ki eH)(h1:H u\.tup [.str z.1,aY z.2,.ref dt])(h2:H dt\(.tup<|fs.map Yg))(h3:↑fs<=80)(h4:Nmd Z H (λ_=>True) fs)(h5:∀d,Wn z.1 d->∃f∈fs,∃y,DeedIs Z H f y/\y.1=d):KAt Z Wn H u z
theorem KAt.keep(h:KAt Z Wn H u z)(g:Tup H H'):KAt Z Wn H' u z:=by
 obtain⟨i,fs,o,n,j,m,b⟩:=h;exact{i,fs,g _ _ o,g _ _ n,j,m.keep g λ_ h=>h,λd hd=>by
  obtain⟨f,a,y,l,e⟩:=b d hd;exact{f,a,y,l.keep g,e}}
theorem rN:∀(us:Ki eH)(tr:Tr),A2 (KAt Z Wn H) us tr->∃P:Ki (zZ×Ki Dz),↑us=↑P/\(∀(j:Kk) u y,us[j]?\u->P[j]?\y->KindIs Z H u y)/\P.map (·.1)=tr.map (·.1)/\∀y∈P,∀d,Wn y.1 d->∃z∈y.2,z.1=d
 | [],_,.nil=>⟨[],rfl,(λi f d h=>by simp at h),rfl,λ_ h=>nomatch h⟩
 | u::us,_,.cons (b:=z) g gt=>by
  obtain⟨E,fs,N,A,M,C,J⟩:=g;obtain⟨T,o,B,_⟩:=C;have s:=o.len;have r:∀(i:Kk) f z,fs[i]?\f->T[i]?\z->DeedIs Z H f z:=λi f z a b=>by
   obtain⟨O,w,g⟩:=o.get a;rw[b]at w;cases w;exact g
  obtain⟨P,X,h2,x,G⟩:=rN us _ gt;refine{(z.1,T)::P,cH (·+1) X,λi g Y n hd=>?_,cH (z.1::·) x,λy m d hd=>?_}
  .cases i with
   | zero=>cases n;cases hd;exact{_,E,fs,N,A,s,r,M,B}
   | succ i=>exact h2 i g Y n hd
  .obtain rfl|m:=wx0.mp m
   .obtain⟨f,I,y,m,e⟩:=J d hd;obtain⟨i,W⟩:=vc7.mp I;have q:i<↑T:=by rw[<-s];exact(ww4.mp W).1
    obtain⟨_,_,L,_⟩:=r i f T[i] W<|bJ q;obtain⟨_,_,l,_⟩:=m;rw[L]at l;exists T[i],iG q;injection l with l;injection l with l;injection l with l _;exact(Yf.inj l).trans e
   .exact G y m d hd
def Got(Z:zZ->Kj zZ->Prop)(H:Hp)(kvs:Ki (aG×V))(x d:zZ):Prop:=∃(p:eH)(fs:Ki eH),aF kvs (Ku x)\.ref p/\H p\(.lst<|fs.map Yg)/\∃f∈fs,∃y,DeedIs Z H f y/\y.1=d
theorem Got.keep(h:Got Z H kvs x d)(n:BK Z Hb H kvs c A)(f:FrS M H H')(b:∀p,Hb p=Kr->p∉M)(tp:Tup H H'):Got Z H' kvs x d:=by
 obtain⟨p,fs,e,q,g,i,y,j,l⟩:=h;obtain⟨o,_,m,_,_,a,_⟩:=n.2.1 _ _ e;cases m;exact{p,fs,e,f _ _ (b p a) q,g,i,y,j.keep tp,l}
def yI{l a:Ki eH}(h:l.map Yg=a.map Yg):l=a:=(Tt λ_ _=>Yg.inj).1 h
def Got.app(h:Got Z H kvs x d)(hp:H pl\(.lst<|gs.map Yg)):Got Z (upd H pl<|.lst<|(gs++[g0]).map Yg) kvs x d:=by
 obtain⟨p,fs,e,a,g,b,y,f,i⟩:=h;have j:Tup H (upd H pl<|.lst<|(gs++[g0]).map Yg):=Tup.lst hp
 by_cases c:p=pl
 .subst c;rw[hp]at a;injection a with a;injection a with a;have:=yI a;subst this;exact{p,gs++[g0],e,zb1,g,qQ _ b,y,f.keep j,i}
 .exact⟨p,fs,e,by rw[aC c];exact a,g,b,y,f.keep j,i⟩
def Got.put(h:Got Z H kvs x d)(a:aF kvs (Ku x')=Kr):Got Z H (aL kvs (Ku x') v) x d:=by
 obtain⟨p,fs,e,r⟩:=h;refine{p,fs,?_,r};rw[hZ,bC]
 .exact e
 .intro z;rw[z,a]at e;cases e
theorem Got.dk(h:Got Z H kvs x d)(f:H b\.dK kv):Got Z (upd H b<|.dK kv') kvs x d:=by
 obtain⟨p,fs,e,a,g,i,y,j,l⟩:=h;exact{p,fs,e,by rw[aC λz=>by rw[z,f]at a;cases a];exact a,g,i,y,j.keep<|Tup.dk f,l}
def GD(D:WD)(x d:zZ):Prop:=d∈D.deeds/\x∈D.own d
def kD(D:WD)(i:Kk)(H:Hp)(kvs:Ki (aG×V)):Prop:=∀j,j<i->∀a,D.deeds[D.deeds.length-1-j]?\a->∀x∈D.own a,Got (fN D) H kvs x a
def MH(D:WD)(i j:Kk)(H:Hp)(kvs:Ki (aG×V)):Prop:=∀a,D.deeds[D.deeds.length-1-i]?\a->∀b,b<j->∀x,(D.own a)[b]?\x->Got (fN D) H kvs x a
inductive DT(mo:Kl)(H1:Hp)(hd wd bk:eH)(WA:WA)(D:WD)(t1:Kl)(i:Kk)(σ:St)(Hx:Hp):Prop
 | mk(lx kx:Kj V)(tx rx:Kl)(kvs:Ki (aG×V))(h1:σ=[Kp<|.ref hd,Kp<|.int mo,Kp<|.ref wd,Kp<|.ref bk,lx,kx,Kr,Kr])(h2:Sit0 Hx hd wd WA D tx rx)(h3:FrS (M0 hd WA) H1 Hx)(h4:0<=rx)(h5:rx<=54)(h6:tx+25*rx<=t1+1350+195*(i:Kl))(h7:Hx bk\.dK kvs)(h8:BK (fN D) H1 Hx kvs (13*i) (AlD D i 0))(h9:kD D i Hx kvs):DT mo H1 hd wd bk WA D t1 i σ Hx
inductive rW(mo:Kl)(H1:Hp)(hd wd bk:eH)(WA:WA)(D:WD)(t1 lv:Kl)(i j:Kk)(σ:St)(Hy:Hp):Prop
 | mk(ky:Kj V)(ty ry:Kl)(kvs:Ki (aG×V))(h1:σ=[Kp<|.ref hd,Kp<|.int mo,Kp<|.ref wd,Kp<|.ref bk,Kp<|.int lv,ky,Kr,Kr])(h2:Sit0 Hy hd wd WA D ty ry)(h3:FrS (M0 hd WA) H1 Hy)(h4:0<=ry)(h5:ry<=54)(h6:ty+25*ry<=t1+1350+195*(i:Kl)+15*(j:Kl))(h7:Hy bk\.dK kvs)(h8:BK (fN D) H1 Hy kvs (13*i+j) (AlD D i j))(h9:kD D i Hy kvs)(h10:MH D i j Hy kvs):rW mo H1 hd wd bk WA D t1 lv i j σ Hy
abbrev AG:Ki zZ:=[qH,"_law_most",qW,"_law_by_kind","_law_level","_law_kind","_law_main","_law_kinds"]
def yb3:bX AG [qH,"_law_most"] (bP MF):=cF
def Ik(F:Fun K "_law_program" "_law_program" MF f fd)(T:aV P w K mg base k "_law_take" qB gY)(O:aV P w K mg base k "_law_of" qC (dB K))(W:aV P w K mg base k "_law_world" [qH] JA)(DE:aV P w K mg base k "_law_deed" IL HH)(R:aV P w K mg base k "_law_rows" kZ (wV 4))(ml:mg "len"=Kr)(mr:mg "range"=Kr)(bs:mg "tuple"=Kr)(dw:mg "sorted"=Kr):
  aS P w K mg base bO (k+1) f fd [qH,"_law_most"] NZ:=by
 refine F.ok yb3 (λvs H Q E h=>?_) λfi A outer s H vs Q E hr h=>?_
 .obtain⟨hd,mo,d,m,t,r,rfl,_⟩:=h;rfl
 obtain⟨hd,mo,d,m,t,r,rfl,fn,hh,ht,q⟩:=h;have hr0:0<=mo-mo / 3/\mo-mo / 3<=54:=by lia
 have g2:0<=mo / 3/\mo / 3<=26:=by lia
 have hu:=eN hr;have cw:(["_law_name","_law_elder","_law_by_kind"]:Ki zZ).Nodup:=by rfl'
 exists _,aJ (sL 2 yb3.nd<|bD W hr rfl<|aA (pv 0) aE)
  (aJ (iU (i:=3) yb3.nd rfl (Oa rfl) mR) (aJ (hY (cE kP (pv 1)<|cE BY (pv 1) aO)<|wT (pv 0) aO vA) (aJ (eU dU rfl (ZY rfl mr<|aA (cE kP (eM jE rfl ml iW<|aA (bU hu (pv 2) aX λ_ _=>U) aE) aO)<|aA (nH nW aO)<|aA (nH nW aO) aE) (gL 4 yb3.nd)<|aR<|eU dU rfl (iJ<|bU hu (bU hu (pv 2) aX λ_ _=>U) (eI (bU hu (pv 2) aX λ_ _=>U)<|pv 4) λ_ _=>U) (gL 5 yb3.nd)<|aR<|dH<|eW eQ fU fS fL (Bf (pv 3) (pv 5) (cU aE) ⟨rfl,rfl,rfl,rfl⟩)<|aA (bD DE hr rfl<|aA (pv 0)<|aA (pv 2)<|aA (pv 5)<|aA (pv 4) aE) aE) (aJ (hY (cE jB (eI (pv 0) aO)<|cE BY (pv 1) aO)<|wT (pv 0) aO vA) (aJ (sL 6 yb3.nd<|bD R hr rfl<|aA (pv 0)<|aA (pv 2)<|aA mR<|aA (nH nW aO)<|aA (bD T hr rfl<|aA (pv 0)<|aA aO aE)<|aA (bD O hr rfl<|aA (pv 0)<|aA (cU<|dV<|dV<|dV<|dV aE) aE) aE) (aJ (uI (i:=7) (N':=["_law_name","_law_elder","_law_by_kind"]) (src:=[Kr,Kr,Kp 3]) rfl yb3.nd rfl rfl fJ (iJ<|bU hu (pv 2) aX λ_ _=>U) (g:=fC K 2<|eR (cJ 0)<|eR (cJ 1) eV) (λ_ _ _ _=>dS (n:=2) rfl<|bK (gL 0 cw)<|bK (gL 1 cw) dX) (λ_ _ _ _=>gW) (te:=dM<|bG (aI 0)<|bG (aI 1)<|bG (mK (λxs H Q=>∃p ys,xs=[.ref p]/\((SqL K H p ys/\∀l,H l=Kr->Q (.ref l) (upd H l<|.tup ys))\/(SqT K H p ys/\Q (.ref p) H)))<|bG (zS K (UW (aI 2) (aI 0)<|jG bE)<|JT (rU λi=>.int<|-i)<|tC<|.int 1) bE) bE) λ_ _ _ _=>bZ<|aA (pv 0)<|aA (pv 1)<|aA (fF jA rfl bs (by rfl')<|aA (LW (MD hu (pv 2) (pv 0) (cU aE) ⟨rfl,rfl,rfl,rfl⟩)<|nH nW aO) aE) aE)
  (aR<|bQ<|bZ<|aA (fF jA rfl bs (by rfl')<|aA (pv 7) aE)<|aA (fF jA rfl bs (by rfl')<|aA (eM Hh rfl dw (by rfl')<|aA (bU hu (pv 2) aX λ_ _=>U) aE) aE)<|aA (pv 6) aE)))))))
 ac_rfl
 refine{_,U,hd,d,m,t,r,U,hh,∅,λwd WA D H1 t1 N f1 ay aq fm=>?_};have h6:=N.ok.d6;have ep:=N.ok.l12;intro bk bd;have S2:=N.fr0<|Yj (S:=[]) (o:=.dK []) bd;have ah:bk∉M0 hd WA:=N.notin bd;obtain⟨d2,m2,d9,e6⟩:=S2.hand;exists _,U,_,U,_,_,U,U,{∅,by decide},_,_,U,U,_,U,hd,_,3,3,U,U,d9,U;have az:bk≠hd:=λz=>ah (by rw[z];simp)
 have S3:Sit0 (upd (upd H1 bk<|.dK []) hd<|hl d2 m2 t1<|mo-mo / 3) hd wd WA D t1 (mo-mo / 3):=S2.setHand e6;have f3:FrS (M0 hd WA) H1 (upd (upd H1 bk<|.dK []) hd<|hl d2 m2 t1<|mo-mo / 3):=(Yj bd).put' (by trivial);have bn:upd (upd H1 bk<|.dK []) hd (hl d2 m2 t1<|mo-mo / 3) bk\.dK []:=by rw[aC az];exact zb1
 have hM:∀p,H1 p=Kr->p∉M0 hd WA:=λp hp=>N.notin hp;exists _,U,wd,_,U,S3.w.g.2.2.1,WA.deeds,_,U,.inl<|Yl S3.w.deeds.2,_,_,U,U,_,U,_,U,_,_,U,?_
 .rw[aK];exact{∅,∅,by decide,by decide}
 have et:1<=D.deeds.length:=Ki.length_pos_iff.mpr N.ok.d1;have en:((↑(D.deeds.map Yf):Kl)-1-(-1)).toNat=D.deeds.length:=by rw[aK];lia
 rw[en];refine Cq (hi:=((↑(D.deeds.map Yf):Kk):Kl)-1) (n:=D.deeds.length) (DT mo H1 hd wd bk WA D t1)
  ⟨_,_,t1,mo-mo / 3,[],rfl,S3,f3,hr0.1,hr0.2,∅,bn,⟨by simp,(λk v e=>nomatch e),λk k' v e=>nomatch e⟩,λj X=>absurd X<|Vg _⟩ ?_ ?_
 .rintro i σ Hx hi ⟨lx,kx,tx,rx,kvs,rfl,Sx,fx,er,dy,fp,bb,e0,hG⟩;have ba:D.deeds.length-1-i<D.deeds.length:=by lia
  have c2:((↑(D.deeds.map Yf):Kk):Kl)-1-(i:Kl)=((D.deeds.length-1-i:Kk):Kl):=by rw[aK];lia
  have ds:eE (D.deeds.map Yf) (((↑(D.deeds.map Yf):Kk):Kl)-1-(i:Kl))\.str D.deeds[D.deeds.length-1-i]:=by
   rw[c2];exact kW (by rw[bR,bJ ba];rfl)
  have ei:D.deeds[D.deeds.length-1-i]∈D.deeds:=iG ba;obtain⟨op,o1,o2,o5,o4⟩:=N.w.ol _ ei;have on:=o5.nodup N.ok.ok.nd;have o3:=λx h=>o5.subset (a:=x) h;have ak:D.deeds[D.deeds.length-1-i]?=Kp D.deeds[D.deeds.length-1-i]:=bJ ba;generalize hos:D.own D.deeds[D.deeds.length-1-i]=os at o2 o3 o4 on;have eg:=o2.keep fx;exists _,U,wd,_,U,Sx.w.g.2.2.2.2.1,_,U,wd,_,U,Sx.w.g.2.2.1,_,U,WA.deeds,_,_,_,U,U,Yl Sx.w.deeds.2,ds,WA.owners,_,U,.inl {_,Ku _,.inl Sx.w.owners.2,U,o1.symm},op,U,{_,Yl eg.2};refine pW (xs:=os.map Yf) (rW mo H1 hd wd bk WA D t1 (((↑(D.deeds.map Yf):Kk):Kl)-1-(i:Kl)) i)
   ⟨_,tx,rx,kvs,rfl,Sx,fx,er,dy,∅,bb,e0,hG,λ_ _ jj X=>absurd X<|Vg _⟩ ?_ ?_ ?_
  .rintro j σ Hy X ⟨_,_,_,_,_,_,fy,_⟩;exact Yl (o2.keep fy).2
  .rintro j x σ Hy B ⟨ky,ty,ry,kvs,rfl,Sy,fy,bw,cp,c3,au,a7,bg,bc⟩;obtain⟨X,_⟩:=ww4.mp B;rw[aK]at X;rw[bR,bJ X]at B;cases B;have e5:os[j]∈D.names:=o3 _<|iG X;refine{_,U,bk,U,.inl {_,.inl au},_,U,bW _,λpe ab=>?_};have Sz:=Sy.fr0<|Yj (S:=[]) (o:=.lst []) ab;have fz:FrS (M0 hd WA) H1 (upd Hy pe<|.lst []):=fy.trans<|Yj ab;have ad:upd Hy pe (.lst []) bk\.dK kvs:=by rw[aC<|aQ au ab];exact au
   have aa:BK (fN D) H1 (upd Hy pe<|.lst []) kvs (13*i+j) (AlD D i j):=a7.keep (Yj ab) hM<|Yn ab;have bm:kD D i (upd Hy pe<|.lst []) kvs:=λZ L dn hd x B=>(bg Z L dn hd x B).keep a7 (Yj ab) hM<|Yn ab;have bx:MH D i j (upd Hy pe<|.lst []) kvs:=λdn hd jj L x B=>(bc dn hd jj L x B).keep a7 (Yj ab) hM<|Yn ab;have b8:H1 pe=none:=fy.old Sy.have_ ab;have ac:upd Hy pe (.lst []) pe\.lst []:=zb1;generalize upd Hy pe (.lst [])=Hz at Sz fz ad aa ac bm bx;have go:∀(pl:eH)(fs:Ki eH)(al:Ki (aG×V))(Hv:Hp),Sit0 Hv hd wd WA D ty ry->FrS (M0 hd WA) H1 Hv->Hv bk\.dK al->BK (fN D) H1 Hv al (13*i+j+1) (AlD D i j)->Hv pl\(.lst<|fs.map Yg)->↑fs<=13*i+j->H1 pl=Kr->Nmd (fN D) Hv (AlD D i j<|Ku os[j]) fs->kD D i Hv al->MH D i j Hv al->aF al (Ku os[j])\.ref pl->
     JR K "list" zF (bG (gD HH [] E0<|bG (aI 0)<|bG (aI 2)<|bG (aI 5)<|bG (aI 4) bE) bE) (.ref pl) [Kp<|.ref hd,Kp<|.int mo,Kp<|.ref wd,Kp<|.ref bk,Kp<|.int<|((↑(D.deeds.map Yf):Kk):Kl)-1-(i:Kl),Kp<|.str os[j],Kr,Kr] Hv λ_ d8=>
      rW mo H1 hd wd bk WA D t1 (((↑(D.deeds.map Yf):Kk):Kl)-1-(i:Kl)) i (j+1) [Kp<|Yg hd,Kp<|.int mo,Kp<|.ref wd,Kp<|.ref bk,Kp<|.int<|((↑(D.deeds.map Yf):Kk):Kl)-1-(i:Kl),Kp<|.str os[j],Kr,Kr] d8:=by
    intro pl fs al Hv Sv fv cz ai an fh ao d5 em ek c4;refine{.inl {U,_,Yl an},_,U,_,U,_,U,_,U,hd,wd,WA,D,ty,ry,os[j],D.deeds.length-1-i,by rw[c2];rfl,e5,ba,Sv,bw,∅,λxn dn pv gv ln bi b0 Hw tw du c0 cj ap ci cs ft Sw fw fe g5 fj=>?_};have a5:=fw _ _ (hM pl ao) an;have bh:=fw _ _ ah cz;have bf:Tup Hv Hw:=Sv.tup fw;have dm:Nmd (fN D) Hw (AlD D i (j+1)<|Ku os[j]) (fs++[xn]):=by
     have e:D.deeds[D.deeds.length-1-i]=dn:=gX<|ak.symm.trans c0;rw[e]at hos ak;have B:(D.own dn)[j]?=Kp os[j]:=by rw[hos];exact bJ X
     obtain⟨zs,z1,z2,z3⟩:=d5.keep bf λ_ h=>h;refine{zs++[(dn,ln,bi,b0)],z1.snoc {pv,gv,cj,ap,ci,cs,by show ↑b0<=80;lia},?_,λz hz=>?_}
     .rw[bT];refine vp1.mpr {z2,NX _ _,λa ha b hb z=>?_};rw[wx1.mp hb]at z;obtain⟨y,hy,rfl⟩:=wx6.mp ha;have z:y.1=dn:=z;exact AlD.not N.ok.dd (hos▸on) hi ak B<|z▸z3 y hy
     .obtain hz|hz:=wz2.mp hz
      .exact(z3 z hz).mono (.inr ⟨rfl,kI _⟩)
      .rw[wx1.mp hz];exact{i,j,_,ak,B,U,.inr {U,qX _}}
    have So:=Sit0.own (o:=.lst<|(fs++[xn]).map Yg) N Sw (fv.trans fw) ao;have ea:fs.map Yg++[Yg xn]=(fs++[xn]).map Yg:=by rw[bT];rfl
    exists pl,_,_,U,U,a5,bM (by rw[aK];lia);rw[ea];have f6:=ai.keep fw hM bf;refine{_,tw,du,al,U,So.1,So.2,fe,∅,∅,?_,?_,λZ L Y C x B=>((em Z L Y C x B).keep ai fw hM bf).app a5,λY C jj L x B=>?_}
    .rw[aC λz=>by rw[z,a5]at bh;cases bh];exact bh
    .exact f6.app c4 a5 (by rw[bN,eJ];lia) dm<|AlD.mono<|.inr ⟨rfl,kI _⟩
    .obtain av|av:=Nt jj j
     .exact((ek Y C jj av x B).keep ai fw hM bf).app a5
     .have el:jj=j:=by lia
      rw[ak]at C c0;cases C;cases c0;rw[hos,el,bJ X]at B;cases B;exact{pl,fs++[xn],c4,zb1,xn,gS _<|wx1.mpr rfl,(_,ln,bi,b0),{pv,gv,(Tup.lst a5) _ _ cj,ap.keep<|Tup.lst a5,({ci,cs,by show ↑b0<=80;lia}:RowsIs (fN D) Hw (_,ln,bi,b0)).keep<|Tup.lst a5},U}
   refine{kvs,Ku os[j],ad,U,bM (by have:=aa.1;lia),λv hv=>?_,λhv=>?_}
   .obtain⟨pl,xs,rfl,a1,a2,a3,a4⟩:=aa.2.1 _ _ hv;exact go pl xs kvs Hz Sz fz ad (aa.more ∅ λ_ _ h=>h) a1 a2 a3 a4 bm bx hv
   .have So:=Sit0.own (o:=.dK<|aL kvs (Ku os[j])<|.ref pe) N Sz fz bd;have eo:pe≠bk:=λz=>by rw[z,ad]at ac;cases ac
    refine go pe [] (aL kvs (Ku os[j])<|.ref pe) _ So.1 So.2 zb1 ?_ (by rw[aC eo];exact ac) (bW _) b8 .nil (λZ L Y C x B=>((bm Z L Y C x B).put hv).dk ad) (λY C jj L x B=>((bx Y C jj L x B).put hv).dk ad) (by rw[hZ,bF rfl]);have h1:=aa.put hv ac b8 λk v e z=>by
     obtain⟨p',be,b1,b2,_⟩:=a7.2.1 k v e;rw[b1]at z;cases z;rw[ab]at b2;cases b2
    refine{h1.1,λk v e=>?_,h1.2.2};obtain⟨p',be,b1,b2,b3,b4,b5⟩:=h1.2.1 k v e;exact{p',be,b1,by rw[aC λz=>by rw[z,ad]at b2;cases b2];exact b2,b3,b4,b5.keep (Tup.dk ad) λ_ h=>h}
  .rintro σ Hy ⟨ky,ty,ry,kvs,rfl,Sy,fy,bw,cp,c3,au,a7,bg,bc⟩;rw[aK]at c3 a7 bc;refine{_,_,ty,ry,kvs,U,Sy,fy,bw,cp,∅,au,a7.more ∅<|AlD.mono<|.inl<|qX _,λZ L Y C x B=>?_};obtain c|c:=Nt Z i
   .exact bg Z c Y C x B
   .have ej:Z=i:=by lia
    subst ej;rw[ak]at C;cases C;rw[hos]at B;obtain⟨jj,av⟩:=vc7.mp B;exact bc _ ak jj (ww4.mp av).1 x (by rw[hos];exact av)
 rintro σ H4 ⟨lx,kx,t4,I,kvs,rfl,S4,f4,fr,fk,g1,d0,ax,eh⟩;obtain⟨d4,m4,cr,dv⟩:=S4.hand;exists _,U,hd,_,_,_,U,U,Yl cr,BV,_,U,_,_,U,U,{∅,by decide},_,_,U,U,_,U,hd,_,3,3,U,U,cr,U;have S5:Sit0 (upd H4 hd<|hl d4 m4 t4<|I+mo / 3) hd wd WA D t4 (I+mo / 3):=S4.setHand dv;have f5:FrS (M0 hd WA) H1 (upd H4 hd<|hl d4 m4 t4<|I+mo / 3):=f4.put' (by trivial);have c5:upd H4 hd (hl d4 m4 t4<|I+mo / 3) bk\.dK kvs:=by rw[aC az];exact d0
 have ag:BK (fN D) H1 (upd H4 hd<|hl d4 m4 t4<|I+mo / 3) kvs (13*D.deeds.length) (AlD D D.deeds.length 0):=ax.keep (M:=M0 hd WA) (Yk<|.head _) hM<|S4.tup<|Yk<|.head _;have ck:kD D D.deeds.length (upd H4 hd<|hl d4 m4 t4<|I+mo / 3) kvs:=λZ L Y C x B=>(eh Z L Y C x B).keep ax (M:=M0 hd WA) (Yk<|.head _) hM<|S4.tup<|Yk<|.head _;have eq:∀{G:Hp->Prop},G (upd H4 hd<|hl d4 m4 t4<|I+mo / 3)->G (upd H4 hd<|.lst<|[Yh d4,Yh m4,Yh t4,Yh I].set 3<|Yh<|I+mo / 3):=λh=>h;refine eq ?_;generalize upd H4 hd (hl d4 m4 t4<|I+mo / 3)=H5 at S5 f5 c5 ag ck;refine{_,U,_,U,λae bq=>?_};have e4:H1 ae=none:=f5.old S5.have_ bq;have Se:Sit (upd H5 ae<|.dK []) hd ae wd WA D t4 (I+mo / 3):=S5.open bq DOk.nil;have cx:∀Hf:Hp,FrS (Ms hd ae WA) (upd H5 ae<|.dK []) Hf->FrS (M0 hd WA) H5 Hf:=λHf ff=>FrS.close bq ff;generalize upd H5 ae (.dK [])=H6 at Se cx;obtain⟨d,m,e8⟩:=Se.hand;refine{_,U,_,U,hd,d,m,t4,I+mo / 3,5,U,e8,∅,by decide,by decide,λx d7 m7 t7 x0 x1 c7 e7=>?_};obtain⟨dp,rfl⟩:∃dp:Kk,x=(dp:Kl):=⟨x.toNat,by lia⟩;have S7:=Se.setHand (r':=I+mo / 3) c7;have f7:FrS (Ms hd ae WA) H6 (upd H6 hd<|hl d7 m7 t7<|I+mo / 3):=Yk (by trivial);refine{_,U,eC rfl,λpi bl=>?_};have Sa:=S7.fr0<|Yj (S:=[]) (o:=.lst [Yh 4,Yh 8,Yh 12,Yh 20]) bl;have fa:=f7.trans<|Yj (o:=.lst [Yh 4,Yh 8,Yh 12,Yh 20]) bl;have c1:pi≠hd:=λz=>S7.notin bl (by rw[z];simp)
 obtain⟨d,m,ez⟩:=Sa.hand;refine{hd,pi,d,m,t7,I+mo / 3,_,U,ez,∅,c1,Yl zb1,by simp,by show 4<1000;decide,λy db mb tb hy cb eb=>?_};obtain⟨mq,rfl,ex,dj⟩:∃mq:Kl,y=.int mq/\0<=mq/\mq<=100:=by
  simp only[wx0,bB,dO]at hy;obtain rfl|rfl|rfl|rfl:=hy
  .exact⟨4,rfl,by decide,by decide⟩
  .exact⟨8,rfl,by decide,by decide⟩
  .exact⟨12,rfl,by decide,by decide⟩
  .exact⟨20,rfl,by decide,by decide⟩
 have Sb:=Sa.setHand (r':=I+mo / 3) cb;have fb:=fa.put' (a:=hd) (o:=hl db mb tb<|I+mo / 3) (by trivial);refine{hd,ae,wd,WA,D,tb,I+mo / 3,-1,mq,dp,U,∅,ex,dj,Sb,∅,∅,λmv ct bu Hc tc rc ef f2 cd Sc fc g0 fg g3=>?_};have f8:=cx _<|fb.trans fc;have S8:=Sc.close;have co:=f8 _ _ ah c5;have b7:=ag.keep f8 hM<|S5.tup f8;have c8:kD D D.deeds.length Hc kvs:=λZ L Y C x B=>(ck Z L Y C x B).keep ag f8 hM<|S5.tup f8;have cc:RowsIs (fN D) Hc ("",mv,ct,bu):=⟨ef,f2,by show ↑bu<=80;lia⟩;have cv:=f5.trans f8;generalize Hc=H8 at f8 S8 co b7 cv cc c8;obtain⟨ts,ca,fq,e9⟩:=S8.w.tree;refine{_,U,wd,_,U,S8.w.g.1,WA.tree,U,{_,Yl ca.2},λDl cl=>?_};refine vI (xs:=ts.map Yg) (λi σ Hx=>(∃x y,σ=[x,y,Kp<|.ref bk])/\FrS [] H8 Hx/\∃us:Ki eH,↑us=i/\Hx Dl\(.lst<|us.map Yg)/\A2 (KAt (fN D) (GD D) Hx) us (D.tr.take i)) {{_,_,U},(FrS.refl).put cl,[],U,zb1,.nil} ?_ ?_ ?_
 .rintro i σ Hx hi ⟨_,fx,_⟩;exact Yl<|fx _ _ (by trivial) ca.2
 .rintro i x σ Hx B ⟨⟨fo,g4,rfl⟩,fx,us,bz,es,af⟩;rw[bR]at B;obtain⟨tt,b6,rfl⟩:=wx3.mp B;obtain⟨hi,_⟩:=ww4.mp b6;have cy:D.tr[i]?=Kp D.tr[i]:=bJ ∅;have e3:=e9 i tt _ b6 cy;have bb:=fx _ _ (by trivial) co;exists tt,_,U,Ym<|fx _ _ (by trivial) e3.2,U,_,_,U,_,_,U,U;refine{_,U,_,U,_,U,bk,U,.inl {_,.inl bb},_,U,bW _,λpd dz=>?_};have f9:FrS [] Hx (upd Hx pd<|.lst []):=Yj dz;have c6:=f9 _ _ (by trivial) bb;have b9:=f9 _ _ (by trivial) es;have cq:upd Hx pd (.lst []) pd\.lst []:=zb1;generalize upd Hx pd (.lst [])=J at f9 c6 b9 cq;have br:FrS [] H8 J:=fx.trans f9;obtain⟨pz,zs,dl,f0,di,df,dq⟩:∃(pz:eH)(zs:Ki eH),(aF kvs<|Ku D.tr[i].1).getD (.ref pd)=.ref pz/\J pz\(.lst<|zs.map Yg)/\↑zs<=80/\Nmd (fN D) J (λ_=>True) zs/\∀d,GD D D.tr[i].1 d->∃f∈zs,∃y,DeedIs (fN D) J f y/\y.1=d:=by
   have as:∀d,GD D D.tr[i].1 d->Got (fN D) H8 kvs D.tr[i].1 d:=λd hd=>by
    obtain⟨j,X⟩:=vc7.mp hd.1;have fl:=(ww4.mp X).1;refine c8 (D.deeds.length-1-j) ∅ d ?_ _ hd.2;rw[show D.deeds.length-1-(D.deeds.length-1-j)=j by lia];exact X
   cases hv:aF kvs (Ku D.tr[i].1)with
   | none=>
    refine{pd,[],U,cq,bW _,.nil,λd hd=>?_};obtain⟨p',ew,e,_⟩:=as d hd;rw[hv]at e;cases e
   | some v=>
    obtain⟨p',be,b1,b2,b3,_,b5⟩:=b7.2.1 _ _ hv;refine{p',be,b1,br _ _ bB b2,∅,b5.keep (Yo br) λ_ _=>trivial,λd hd=>?_};obtain⟨p2,ew,e,e2,g,hg,y,hy,ey⟩:=as d hd;rw[hv,b1]at e;cases e;rw[b2]at e2;injection e2 with e2;injection e2 with e2;rw[<-yI e2]at hg;exact{g,hg,y,hy.keep<|Yo br,ey}
  refine{_,DGet.k (k:=(Ku D.tr[i].1:aG)) c6,_,U,U,pz,_,dl,Yl f0,λam da=>?_};rw[<-zI];refine{am,_,U,.inl {Yl zb1,λpu ee=>?_}};refine{eC rfl,λpt aw=>?_};have fA:FrS [] J (upd (upd J am<|.lst<|zs.reverse.map Yg) pu<|.tup<|zs.reverse.map Yg):=(Yj da).trans<|Yj ee;have ar:upd (upd J am<|.lst<|zs.reverse.map Yg) pu (.tup<|zs.reverse.map Yg) pu\(.tup<|zs.reverse.map Yg):=zb1;have bo:=fA _ _ (by trivial) b9;have cn:Nmd (fN D) (upd (upd J am<|.lst<|zs.reverse.map Yg) pu<|.tup<|zs.reverse.map Yg) (λ_=>True) zs.reverse:=df.rev.keep (Yo fA) λ_ h=>h;have cm:∀d,GD D D.tr[i].1 d->∃f∈zs.reverse,∃y,DeedIs (fN D) (upd (upd J am<|.lst<|zs.reverse.map Yg) pu<|.tup<|zs.reverse.map Yg) f y/\y.1=d:=λd hd=>by
   obtain⟨f,hf,y,hy,ey⟩:=dq d hd;exact{f,vm6.mpr hf,y,hy.keep<|Yo fA,ey}
  generalize upd (upd J am<|.lst<|zs.reverse.map Yg) pu (.tup<|zs.reverse.map Yg)=HA at fA bo aw ar cn cm;have dg:Dl≠pt:=aQ bo aw;have cg:upd HA pt (.tup [Yf D.tr[i].1,aY D.tr[i].2,Yg pu]) Dl\(.lst<|us.map Yg):=by rw[aC dg];exact bo
  refine{_,cg,by rw[aK];exact bM ∅,{_,_,U},(((fx.trans f9).trans fA).trans<|Yj aw).put cl,us++[pt],by rw[bN,bz];rfl,by rw[zb1,bT];rfl,?_};have tl:Tup (upd HA pt<|.tup [Yf D.tr[i].1,aY D.tr[i].2,Yg pu]) (upd (upd HA pt<|.tup [Yf D.tr[i].1,aY D.tr[i].2,Yg pu]) Dl<|.lst<|us.map Yg++[Yg pt]):=Tup.lst cg;have tn:=(Yn (o:=.tup [Yf D.tr[i].1,aY D.tr[i].2,Yg pu]) aw).trans tl;rw[eY,cy];exact(af.imp λu z h=>h.keep<|((Yo<|f9.trans fA).trans<|Yn aw).trans tl).snoc {pu,zs.reverse,tl _ _ zb1,tn _ _ ar,by rw[iR];exact di,cn.keep tn λ_ h=>h,λd hd=>by
   obtain⟨f,hf,y,hy,ey⟩:=cm d hd;exact{f,hf,y,hy.keep tn,ey}}
 rintro σ J ⟨_,f9,us,bz,b9,af⟩;rw[aK]at bz af;rw[fI ∅]at af;refine{_,U,Dl,_,U,.inl {Yl b9,λkt eu=>?_}};have fA:FrS [] J (upd J kt<|.tup<|us.map Yg):=Yj eu;have aj:upd J kt (.tup<|us.map Yg) kt\(.tup<|us.map Yg):=zb1;generalize upd J kt (.tup<|us.map Yg)=HA at fA aj;have SA:=(S8.fr0 f9).fr0 fA;refine{_,U,wd,_,U,SA.w.g.2.1,WA.late,D.late,U,Yl SA.w.late.2,by have:=SA.ok.lateLen;lia,λls bt ed a8 _=>?_};refine{ls,_,U,.inl {Yl zb1,λlt ev=>?_}};refine{_,U,eC rfl,λpr ch=>?_};have fB:FrS [] HA (upd (upd (upd HA ls<|.lst<|bt.map Yf) lt<|.tup<|bt.map Yf) pr<|.tup [Yg kt,Yg lt,Yg mv]):=((Yj ed).trans<|Yj ev).trans<|Yj ch;have bp:FrS [] H8 _:=(f9.trans fA).trans fB;obtain⟨ks,dx,d3,c9,dr⟩:=rN (H:=J) us _ af;have bj:=Yo<|fA.trans fB;have dc:=(Yo f9).trans bj;have SB:=SA.fr0 fB;obtain⟨dh,mh,ec⟩:=SB.hand;refine q pr ks ("",mv,ct,bu) D.tr bt (fN D) _ dh mh tc rc ?_ {kt,us,Yg lt,zb1,fB _ _ bB aj,dx,λj u z bv hz=>(d3 j u z bv hz).keep bj,cc.keep dc,∅} {kt,us,Yg lt,Yg mv,zb1,fB _ _ bB aj,af.len,λj u z bv hz=>?_} N.ok.ok ep {kt,lt,_,zb1,?_,by rw[a8.length_eq];have:=SA.ok.lateLen;lia,λx B e e1 e2=>a8.mem_iff.mpr<|SA.ok.lateIn x B e e1<|a8.mem_iff.mp e2,by
  obtain⟨x,B,hn⟩:=SA.ok.soon;obtain⟨z,hz,rfl⟩:=wx6.mp B;exact{z,hz,λh=>hn<|a8.mem_iff.mp h}} {c9,λk h=>h,λk d cu=>{cu.1,?_},λk d h=>N.ok.de d h.2.1,D.deeds,N.ok.d6,λk d h=>h.2.1} ec ∅
 .intro b o n e;refine bp _ _ (by trivial)<|cv b o (λz=>?_)<|f1 b o n e;simp only[M0,wx0,bB,dO]at z;obtain z|z|z:=z
  .exact n (by rw[z];simp)
  .exact aQ e ay z
  .exact aQ e aq z
 .obtain⟨z',ce,dt,fs,e1,_⟩:=af.get bv;rw[hz]at ce;cases ce;exact{_,bj _ _ e1}
 .exact(Yn ch) _ _ zb1
 .obtain⟨_,C,n,l,cf,hn,ho⟩:=cu;have cd:n∈ks.map (·.1):=by
   rw[c9];exact cf.mem n hn
  obtain⟨y,hy,ey⟩:=wx6.mp cd;exact{n,l,cf,hn,y,hy,ey,dr y hy d {C,by rw[ey];exact ho}}
abbrev MA:Kd:=top 14
abbrev QO:Kd:=top 15
abbrev nA:Kd:=top 16
def fY(x:V)(xs:Ki V):eE (x::xs) 0\x:=by
 unfold eE nQ;simp
def lU{K:Fq}{a:eH}{xs:Ki V}{g:TG}{r:TS}{D:dY}{h:St}{H:Hp}(b:Kk->St->Hp->Prop)(h0:b 0 h H)(hl:∀i h H,i<=↑xs->b i h H->SqT K H a xs)
  (hs:∀i x h H,xs[i]?\x->b i h H->g x h H λn o=>r {D with nx:=b<|i+1,ct:=b<|i+1,bk:=D.nx} n o) (hd:∀h H,b ↑xs h H->D.nx h H):
  ∃W:Kk->Kk->St->Hp->Prop,(∃m,W 0 m h H)/\∀i m h H,W i m h H->
   ((mF K a).stop i H/\D.nx h H)\/((mF K a).go i H/\∃N:St->Hp->Prop,(∀j l,N j l->∃m',m'<m/\W (i+1) m' j l)/\∀x l,(mF K a).yld i H x l->g x h l λn o=>r {D with nx:=N,ct:=N,bk:=D.nx} n o):=by
 exists λi m h H=>m=↑xs-i/\i<=↑xs/\b i h H,{↑xs,by simp,bW _,h0};rintro i m h H ⟨rfl,s,p⟩;have q:=hl i h H s p
 by_cases d:i<↑xs
 .refine .inr ⟨⟨xs,xs[i],q,bJ d⟩,b<|i+1,λj l f=>⟨↑xs-(i+1),∅,rfl,d,f⟩,λx l y=>?_⟩;obtain⟨e,y⟩:=y;subst e;exact hs i x h _ (y xs q) p
 .have e:i=↑xs:=by lia
  subst e;exact .inl {{xs,q,aZ _},hd h H p}
def ED(d:Kk->St->Hp->Prop)(h0:d 0 σ0 H0)(hl:∀i l H,i<=↑xs->d i l H->SqT K H a xs)(hs:∀i x l H,xs[i]?\x->d i l H->g x l H λn s=>tt n s λb r=>if b=Ks then te n r λv f=>∃o,f D\.lst o/\↑o<sizeLine/\d (i+1) n (upd f D<|.lst<|o++[v]) else d (i+1) n r)(hd:∀l H,d ↑xs l H->Q H):oC (mF K a) g tt te D σ0 H0 Q:=by
 exists λi m l H=>m=↑xs-i/\i<=↑xs/\d i l H,{↑xs,by simp,bW _,h0};rintro i m l H ⟨rfl,u,p⟩;have q:=hl i l H u p
 by_cases h:i<↑xs
 .refine .inr ⟨⟨xs,xs[i],q,by simp[h]⟩,d<|i+1,λw z j=>⟨↑xs-(i+1),∅,rfl,h,j⟩,λx z y=>?_⟩;obtain⟨e,y⟩:=y;subst e;exact hs i x l _ (y xs q) p
 .have e:i=↑xs:=by lia
  subst e;exact .inl {{xs,q,aZ _},hd l H p}
def FZ(h:n<=1000000):n<sizeLine:=Pf h (by decide)
def sH(x:V)(rest:Ki V):dE (x::rest) (Kp 1) Kr=rest:=by
 unfold dE HT.sIx;simp
def iX(w:zZ)(rest:Ki V):Ki V:=if w="either"\/w="again" then rest else []
inductive SZ(vs:Ki V)(H:Hp)(Q:VK):Prop
 | mk(a:eH)(w:zZ)(rest:Ki V)(h1:vs=[.ref a])(h2:H a\(.tup<|.str w::rest))(h3:∀p,H p=Kr->Q (.ref p) (upd H p<|.tup<|iX w rest)):SZ vs H Q
def JL:Sp:=λvs H Q _=>SZ vs H Q
def Bb:bX ["row"] ["row"] (bP QO):=cF
def Ap(F:Fun K "rows_within" "rows_within" QO f fd)(i:mg "HOLDERS"\.ref ah)(e:∀H,SqT K H ah [.str "either",.str "again"]):aS P w K mg base bO (k+1) f fd ["row"] JL:=by
 refine F.ok Bb (λvs H Q E h=>?_) λj A l s H vs Q E n h=>?_
 .obtain⟨a,w,rest,rfl,_⟩:=h;rfl
 obtain⟨a,w,rest,rfl,b,q⟩:=h;exists _,aJ (cG (cC sJ (eT (pv 0) aO) (mI (v:=.ref ah) rfl i U) U) (aR<|bQ<|jY NK (pv 0) (jS aO) kT) cS)
  (aR<|bQ<|bZ aE)
 ac_rfl
 have d:gQ (.str w) [.str "either",.str "again"]=decide (w="either"\/w="again"):=by
  have:=lW w ["either","again"];simpa using this
 exists _,U,a,_,_,.str w,U,U,Ym b,fY _ _,ah,_,U,.inr<|e _,U,U,_,U;show if gQ (.str w) [.str "either",.str "again"]=Ks then _ else _
 rw[d];refine bH (λc=>?_) λc=>?_
 .have c':=cT c;refine{_,U,_,U,a,_,U,Ym b,?_,λp m=>?_}
  .intro z;have:=z.1;unfold HT.sIx at this;simp at this
  .have:=q p m;unfold iX at this;rw[bF c']at this;rw[sH];exact this
 .have c':¬(w="either"\/w="again"):=λz=>c<|dP z;refine{bW _,λp m=>?_};have:=q p m;unfold iX at this;rw[bC c']at this;exact this
abbrev Bz:=(zZ×zZ)×Dz
def iT(y:zZ×Ki Dz):Ki Bz:=y.2.map λz=>((y.1,z.1),z)
def dZ(ks:Ki (zZ×Ki Dz))(a:Dz):Ki Bz:=(("",""),a)::ks.flatMap iT
def BT(K:Fq)(H:Hp)(bd:eH)(n:zZ×zZ):Prop:=H bd=Kp (.tup [.str n.1,.str n.2])\/∀a,SqT K a bd [.str n.1,.str n.2]
def BT.keep(h:BT K H bd n)(f:Tup H H'):BT K H' bd n:=h.imp (f _ _) id
def BT.sq(h:BT K H bd n):SqT K H bd [.str n.1,.str n.2]:=h.elim Ym λg=>g H
inductive BodyIs(K:Fq)(H:Hp)(q:eH)(z:Bz):Prop
 | mk(bd:eH)(h1:H q\.tup [.ref bd,.ref z.2.2.1])(h2:BT K H bd z.1):BodyIs K H q z
theorem BodyIs.keep(h:BodyIs K H q z)(f:Tup H H'):BodyIs K H' q z:=by
 obtain⟨bd,b,a⟩:=h;exact{bd,f _ _ b,a.keep f}
def _root_.L2.A2.bkeep(h:A2 (BodyIs K H) qs L)(f:Tup H H'):A2 (BodyIs K H') qs L:=h.imp λ_ _ g=>g.keep f
inductive VE(K:Fq)(vs:Ki V)(H:Hp)(Q:VK):Prop
 | mk(p:eH)(ks:Ki (zZ×Ki Dz))(m0:Dz)(h1:vs=[.ref p])(h2:ProgIs Z H p ks m0)(h3:∀(b:eH)(qs:Ki eH)(H':Hp),FrS [] H H'->H' b\(.tup<|qs.map Yg)->A2 (BodyIs K H') qs (dZ ks m0)->↑qs<=1000->Q (.ref b) H'):VE K vs H Q
def JC(K:Fq):Sp:=λvs H Q _=>VE K vs H Q
inductive VJ(K:Fq)(H1:Hp)(p fd:eH)(L:Ki Bz)(c:Kk)(σ:St)(Hx:Hp):Prop
 | mk(a b d e g h i:Kj V)(qs:Ki eH)(hσ:σ=[Kp<|.ref p,Kp<|.ref fd,a,b,d,e,g,h,i])(fr:FrS [] H1 Hx)(hf:Hx fd\(.lst<|qs.map Yg))(ha:A2 (BodyIs K Hx) qs L)(hc:↑qs<=c):VJ K H1 p fd L c σ Hx
inductive UK(K:Fq)(H1:Hp)(p fd:eH)(n:zZ)(e:V)(dt:eH)(L:Ki Bz)(c:Kk)(σ:St)(Hx:Hp):Prop
 | mk(a b d f:Kj V)(qs:Ki eH)(hσ:σ=[Kp<|.ref p,Kp<|.ref fd,Kp<|.str n,Kp e,Kp<|.ref dt,a,b,d,f])(fr:FrS [] H1 Hx)(hf:Hx fd\(.lst<|qs.map Yg))(ha:A2 (BodyIs K Hx) qs L)(hc:↑qs<=c):UK K H1 p fd n e dt L c σ Hx
def zn0:bX ["program","found","name","elder","deeds","deed","params","rows","gives"] qK (bP MA):=cF
def Ja(F:Fun K "bodies" "bodies" MA f fd)(mM:mg "MAIN"\.ref am)(hM:∀H,SqT K H am [.str "",.str ""])(a9:mg "tuple"=Kr):aS P w K mg base bO (k+1) f fd qK (JC K):=by
 refine F.ok zn0 (λvs H Q E h=>?_) λab A outer s H vs Q E hr h=>?_
 .obtain⟨p,ks,d,rfl,_⟩:=h;rfl
 obtain⟨p,ks,d,rfl,⟨kt,us,lt,hp,hk,a0,aa,hm,ae⟩,q⟩:=h;exists _,aJ (sL 1 zn0.nd<|cU<|aA (bZ<|aA (mI (v:=.ref am) rfl mM U)<|aA (eT (pv 0) aO) aE) aE)
  (aJ (eU dU rfl (iC<|eT (pv 0) aO) (dS (n:=3) rfl<|bK (gL 2 zn0.nd)<|bK (gL 3 zn0.nd)<|bK (gL 4 zn0.nd) dX)<|aR<|eU dU rfl (iC<|pv 4) (dS (n:=4) rfl<|bK (gL 5 zn0.nd)<|bK (gL 6 zn0.nd)<|bK (gL 7 zn0.nd)<|bK (gL 8 zn0.nd) dX)<|aR<|dH<|eW eQ fU fS fL (pv 1)<|aA (bZ<|aA (bZ<|aA (pv 2)<|aA (pv 5) aE)<|aA (pv 7) aE) aE)<|aR<|bQ<|fF jA rfl a9 (by rfl')<|aA (pv 1) aE)
 ac_rfl
 have s2:2<=sizeLine:=cX (bM<|by decide);have s0:1<=sizeLine:=cX (bM<|by decide);refine{_,U,p,_,_,_,U,U,Ym hp,U,s2,λpt X=>{s0,λfl J=>?_}};have L:FrS [] H (upd (upd H pt<|.tup [.ref am,.ref d.2.1]) fl<|.lst<|[pt].map Yg):=(Yj X).trans<|Yj J;have a4:H fl=none:=rO (Yj X) J;exists _,U,p,_,_,_,U,U,Ym<|L _ _ bB hp,U,kt,U,{_,Ym<|L _ _ bB hk};refine lU (xs:=us.map Yg) (λi=>VJ K H p fl (dZ (ks.take i) d)<|1+80*i) {_,_,_,_,_,_,_,[pt],U,L,zb1,.cons {am,(Yn J) _ _ zb1,.inr hM} .nil,aZ _} ?_ ?_ ?_
 .rintro i σ Hx hi ⟨_,_,_,_,_,_,_,_,_,fr,_⟩;exact Ym<|fr _ _ bB hk
 .rintro i x σ Hx C ⟨_,_,_,_,_,_,_,qs,rfl,fr,M,a,r⟩;rw[bR,wx3]at C;obtain⟨u,hu,rfl⟩:=C;have hi:i<↑ks:=by rw[<-a0];exact(ww4.mp hu).1
  have hy:ks[i]?=Kp ks[i]:=bJ hi;obtain⟨e,Y,ds,d1,d2,W,d4,d5⟩:=aa i u _ hu hy;have eL:dZ (ks.take<|i+1) d=dZ (ks.take i) d++iT ks[i]:=by
   unfold dZ;rw[eY,hy,Ov,Nk];simp
  rw[eL];generalize ks[i]=y at d1 W d4;exists u,_,U,Ym<|fr _ _ bB d1,U,_,_,U,_,_,U,_,_,U,U;exists _,U,Y,U,{_,Ym<|fr _ _ bB d2};refine lU (xs:=ds.map Yg) (λj=>UK K H p fl y.1 e Y (dZ (ks.take i) d++(iT y).take j)<|1+80*i+j) {_,_,_,_,qs,U,fr,M,by rw[Qo,fP];exact a,r} ?_ ?_ ?_
  .rintro j σ G T ⟨_,_,_,_,_,_,B,_⟩;exact Ym<|B _ _ bB d2
  .rintro j x σ G C ⟨_,_,_,_,qs,rfl,B,I,a,r⟩;rw[bR,wx3]at C;obtain⟨g,hg,rfl⟩:=C;have T:j<↑y.2:=by rw[<-W];exact(ww4.mp hg).1
   have hz:y.2[j]?=Kp y.2[j]:=bJ T;obtain⟨ad,ac,g1,_,g2⟩:=d4 j g _ hg hz;have eD:(iT y).take (j+1)=(iT y).take j++[((y.1,y.2[j].1),y.2[j])]:=by
    have:(iT y)[j]?\((y.1,y.2[j].1),y.2[j]):=by unfold iT;rw[bR,hz];rfl
    rw[eY,this];rfl
   rw[eD,<-gF];generalize y.2[j]=z at g1 g2;exists g,_,U,Ym<|B _ _ bB g1,U,_,_,U,_,_,U,_,_,U,_,_,U,U;refine{_,U,.inl {U,_,Yl I},_,U,_,U,s2,λl a8=>{_,U,s2,λm N=>?_}};have tn:=(Yn (o:=.tup [Yf y.1,Yf z.1]) a8).trans<|Yn (o:=.tup [.ref l,.ref z.2.1]) N;have Z:FrS [] G (upd (upd G l<|.tup [Yf y.1,Yf z.1]) m<|.tup [.ref l,.ref z.2.1]):=(Yj a8).trans<|Yj N;have a7:=Z _ _ bB I;have tl:Tup _ (upd (upd (upd G l<|.tup [Yf y.1,Yf z.1]) m<|.tup [.ref l,.ref z.2.1]) fl<|.lst<|(qs++[m]).map Yg):=Tup.lst a7;exists fl,_,_,U,U,a7,bM (by rw[aK];lia);rw[show qs.map Yg++[Yg m]=(qs++[m]).map Yg by rw[bT];rfl];exact{_,_,_,_,qs++[m],U,(B.trans Z).put a4,zb1,(a.bkeep<|tn.trans tl).snoc {l,tl _ _ zb1,.inl<|((Yn N).trans tl) _ _ zb1},by rw[bN,eJ];lia}
  .rintro σ G ⟨_,_,_,_,qs,rfl,B,I,a,r⟩;have el:(iT y).take ↑(ds.map Yg)=iT y:=fI (by unfold iT;rw[aK,aK];lia);rw[el]at a;rw[aK]at r;exact{_,_,_,_,_,_,_,qs,U,B,I,a,∅}
 .rintro σ Hx ⟨_,_,_,_,_,_,_,qs,rfl,fr,M,a,r⟩;rw[aK,a0]at a r;rw[fI<|aZ _]at a;refine{_,U,fl,_,U,.inl {Yl M,λb O=>?_}};exact q b qs _ (fr.trans<|Yj O) zb1 (a.bkeep<|Yn O) ∅
end Gn
end
section
local macro_rules|`(tactic|ac_rfl)=>`(tactic|first|dsimp only[L2.eZ,L2.Cx.nox]|skip)
namespace Gn
open PySem PySem.Spec L2
open L2.V renaming str->Yf,ref->Yg,int->Yh,non->Yi
open FrS renaming new->Yj,chg->Yk
open L2.SqL renaming of->Yl
open L2.SqT renaming of->Ym
open Tup renaming new->Yn,of0->Yo
def uC(P:Jz)(w:Kb)(K:Fq)(mg:zZ->Kj iH)(base:Ka)(k:Kk)(ps:Ki zZ)(g:eH)(sp:Sp):Prop:=∃a,aS P w K mg base bO k g a ps sp/\Binds K a ps []/\Mh K (.ref g)=Ks
inductive Gk(P:Jz)(w:Kb)(K:Fq)(mg:zZ->Kj iH)(base:Ka)(k:Kk)(ps:Ki zZ)(t:TA)(v:V)(σ:St)(H:Hp)(Q:VK):Prop
 | mk(g:eH)(sp:Sp)(h1:v=.ref g)(h2:uC P w K mg base k ps g sp)(q:t σ H λvs H2=>sp vs H2 Q E0)
def Ao(P:Jz)(w:Kb)(K:Fq)(mg:zZ->Kj iH)(base:Ka)(k:Kk)(ps:Ki zZ)(b:TE)(t:TA):TE:=λa H Q=>b a H λv d=>Gk P w K mg base k ps t v a d Q
def zW{X:Cx}{x:zZ}{p pos:Nc}{e:Kc}{B:Ki Kc}{E:TE}{t:TA}{k:Kk}{ps:Ki zZ}(hr:Room k X.A)(f:PE X (.Name x p) E)(m:PA X (e::B) t)(he:starEach (e::B) X.env=(Kt,eval e X.env)::starEach B X.env:=by rfl)(z:(backTo pos<|starEach B X.env).any (·.1)=false:=by rfl):
  PE X (.Call (.Name x p) (e::B) [] pos) (Ao X.prog X.w X.K X.mg X.base k ps E t):=by
 intro d s C H Q I h;refine yA<|bA (f d s C H _ I h) ?_;rintro u j ⟨v,J,i,l,g,M,rfl,⟨O,G,b,o⟩,q⟩;obtain rfl:u=Kz g:=l;refine Oq (h₀:=X.base) I.ok.mod.kin o (bA (m pos d j C J _ i q) ?_) he z;rintro P N ⟨vs,L,a,r,n⟩;exact{a.kIn,XA (dvs:=[]) G hr b .nil NH a r<|by rw[fP];exact n}
def OH(P:Jz)(w:Kb)(K:Fq)(a:eH)(kvs:Ki (aG×iH)):Prop:=∃o,K.lookup a\o/\∀h:Ka,h.get? a\o->h.DictOf (cO P w) a kvs
inductive Aw(P:Jz)(w:Kb)(K:Fq)(x y:V)(H:Hp)(Q:VK):Prop
 | mk(a g:eH)(kvs:Ki (aG×iH))(k:aG)(h1:x=.ref a)(h2:y=kV k)(h3:OH P w K a kvs)(h4:valueAt kvs k\.ref g)(q:Q (.ref g) H)
def Cp(P:Jz)(w:Kb)(K:Fq)(td b:TE):TE:=λa H Q=>td a H λx e=>b a e λy d=>Aw P w K x y d Q
def AX{X:Cx}{o i:Kc}{td G:TE}{pos:Nc}(m:PE X o td)(hi:PE X i G)(hs:oD i:=by exact λ_ _=>U):PE X (.Subscript o i pos) (Cp X.prog X.w X.K td G):=by
 intro d s J H Q I h;refine QJ vr3.lookup hs<|bA (m d s J H _ I h) λu q ⟨x,N,n,f,l⟩=>bA (hi d q J N _ n l) ?_;rintro E O ⟨y,L,b,r,a,g,M,k,ex,B,⟨C,A,hd⟩,j,z⟩;subst ex B;obtain rfl:u=Kz a:=f;have e:=hd O.heap<|b.kIn _ _ A;exact{e.typeIs,Wb (kQ r) e.mapOf j {.ref g,L,b.tok _,U,z}}
inductive LL
 | nil
 | op (n:Kk) (a:eH) (r:Rw) (t:LL)
 | call (n:Kk) (a:eH) (x y k d:zZ) (as:Ki zZ) (t:LL)
 | either (n:Kk) (a:eH) (p q t:LL)
 | again (n:Kk) (a:eH) (p t:LL)
inductive Du
 | op (n:Kk) (a:eH) (r:Rw) (m:Kk)
 | call (n:Kk) (a:eH) (x y k d:zZ) (as:Ki zZ) (m:Kk)
 | either (n:Kk) (a:eH) (p q:LL) (m:Kk)
 | again (n:Kk) (a:eH) (p:LL) (m:Kk)
 | back (x:zZ) (g:Kj zZ) (s m:Kk)
def LL.dues(m:Kk):LL->Ki Du
 | .nil=>[]
 | .op n a r t=>.op n a r m::t.dues m
 | .call n a x y k d b t=>.call n a x y k d b m::t.dues m
 | .either n a p q t=>.either n a p q m::t.dues m
 | .again n a p t=>.again n a p m::t.dues m
structure Pg where
 nm:Ki zZ
 hs:zZ->zZ->Prop
 ln:zZ->Ki zZ
 an:zZ->zZ->zZ
 co:zZ->zZ->Kl
 ps:zZ->zZ->Ki zZ
 gv:zZ->zZ->Kj zZ
 bo:zZ->zZ->LL
 ch:Ki Kl
structure Rs where
 ds:Ki (Ki<|aG×V)
 ts:Ki (zZ×Kk)
 td:Ki Du
 lg:Ki (Ki V)
 lk:Kl
 rd:Kk
 uw:Kl
 hr:Ki zZ
def Rs.get(S:Rs)(m:Kk)(x:zZ):V:=(aF (S.ds.getD m [])<|Ku x).getD .non
def Rs.put(S:Rs)(m:Kk)(x:zZ)(v:V):Rs:={S with ds:=S.ds.set m<|aL (S.ds.getD m []) (Ku x) v}
def Rs.say(S:Rs)(r:Ki V):Rs:={S with lg:=S.lg++[r]}
def Rs.push(S:Rs)(l:LL)(m:Kk):Rs:={S with td:=l.dues m++S.td}
def pushN(l:LL)(m:Kk):Kk->Rs->Rs
 | 0,S=>S
 | n+1,S=>pushN l m n<|S.push l m
def Rs.come(S:Rs)(k:zZ):Rs:=if k∈S.hr then S else {S with hr:=S.hr++[k],lg:=S.lg++[[.str "came",.str k]]}
def Rs.make(S:Rs)(k:zZ):Rs:={S with ts:=S.ts++[(k,S.ds.length)],ds:=S.ds++[[]]}
def Rs.kind(S:Rs)(j:Kl):zZ:=(S.ts.getD j.toNat ("",0)).1
def Rs.dict(S:Rs)(j:Kl):Nat:=(S.ts.getD j.toNat ("",0)).2
def Rs.thing(S:Rs)(v:V)(f:Kl->Rs×Kj zZ):Rs×Kj zZ:=match v with
 | .int j=>f j
 | _=>(S,Kp "nothing")
def kB(P:Pg)(S:Rs)(n m:Kk):Rw->Rs×Kj zZ
 | .make x k=>if k∈S.hr then(((S.make k).put m x<|.int S.ts.length),Kr) else(S,Kp "absent")
 | .copy x y=>(S.put m x<|S.get m y,Kr)
 | .put x f y=>S.thing (S.get m x) λj=>(S.put (S.dict j) f<|S.get m y,Kr)
 | .take x y f=>S.thing (S.get m y) λj=>(S.put m x<|S.get (S.dict j) f,Kr)
 | .say w=>(S.say [.str "say",.int n,.str w],Kr)
 | .bring k=>((P.ln k).reverse.foldl Rs.come S,Kr)
def nM(S:Rs)(m:Kk)(ps as:Ki zZ)(j:Kl):Ki (aG×V):=aL ((ps.zip as).foldl (λd z=>aL d (Ku z.1)<|S.get m z.2) []) (Ku "own")<|.int j
def tD(P:Pg)(S:Rs)(n m:Kk)(x d:zZ)(as:Ki zZ)(j:Kl):Rs:=
 let k:=S.kind j
 let f:=P.an k d
 {S with ds:=S.ds++[nM S m (P.ps f d) as j],lg:=S.lg++[[.str "did",.int n,.str k,.str f]],lk:=S.lk+P.co k d,uw:=S.uw+1,td:=(P.bo f d).dues S.ds.length++.back x (P.gv f d) S.ds.length m::S.td}
def Rs.pick(P:Pg)(S:Rs):Int:=P.ch.getD S.rd 0
def doR(P:Pg)(S:Rs):Du->Rs×Kj zZ
 | .op n _ r m=>kB P S n m r
 | .call n _ x y k d a m=>S.thing (S.get m y) λj=>if k∈P.ln (S.kind j) then if 40<=S.uw then(S,Kp "deep") else(tD P S n m x d a j,Kr) else(S,Kp "unfit")
 | .either _ _ p q m=>({S with rd:=S.rd+1}.push (if S.pick P=0 then p else q) m,Kr)
 | .again _ _ p m=>(pushN p m (min (S.pick P) 9).toNat {S with rd:=S.rd+1},Kr)
 | .back _ _ _ _=>(S,Kr)
def Rs.giv(S:Rs)(s:Kk):Kj zZ->V
 | none=>.non
 | some g=>S.get s g
def zH(S:Rs)(x:zZ)(g:Kj zZ)(s m:Kk):Rs:={S.put m x (S.giv s g)with uw:=S.uw-1}
def Du.num:Du->Kj Kk
 | .op n _ _ _=>Kp n
 | .call n _ _ _ _ _ _ _=>Kp n
 | .either n _ _ _ _=>Kp n
 | .again n _ _ _=>Kp n
 | .back _ _ _ _=>Kr
inductive Rn(P:Pg)(mo:Kk):Kk->Rs->Rs->zZ->V->Prop
 | done {dn:Kk} {S:Rs} (h:S.td=[]):Rn P mo dn S S "done" .non
 | back {dn:Kk} {S S':Rs} {e:zZ} {v:V} {x:zZ} {g:Kj zZ} {s m:Kk} {r:Ki Du} (h:S.td=.back x g s m::r) (t:Rn P mo dn (zH {S with td:=r} x g s m) S' e v):Rn P mo dn S S' e v
 | long {dn n:Kk} {S:Rs} {d:Du} {r:Ki Du} (h:S.td=d::r) (hn:d.num\n) (hm:mo<=dn):Rn P mo dn S {S with td:=r} "long" (.int n)
 | stop {dn n:Kk} {S S':Rs} {d:Du} {r:Ki Du} {e:zZ} (h:S.td=d::r) (hn:d.num\n) (hm:dn<mo) (he:doR P {S with td:=r} d=(S',Kp e)):Rn P mo dn S S' e (.int n)
 | go {dn n:Kk} {S S1 S':Rs} {d:Du} {r:Ki Du} {e:zZ} {v:V} (h:S.td=d::r) (hn:d.num\n) (hm:dn<mo) (he:doR P {S with td:=r} d=(S1,Kr)) (t:Rn P mo (dn+1) S1 S' e v):Rn P mo dn S S' e v
def Ir(l:Ki (Ki V)):Prop:=↑l<=1\/∀r∈l,r.head?\.str "came"
def Ju:∀(n:Kk)(S:Rs),(pushN l m n S).lg=S.lg/\(pushN l m n S).lk=S.lk:=λn=>Ln
 (λ_=>⟨rfl,rfl⟩)
 (λn a S=>by unfold pushN;rw[(a _).1,(a _).2];exact⟨rfl,rfl⟩) n
def Ok1(S:Rs)(R:Rs×Kj zZ):Prop:=∃z,R.1.lg=S.lg++z/\S.lk<=R.1.lk/\Ir z/\∀e,R.2\e->e≠"long"/\e≠"done"
def Ok1.same(b:S'.lg=S.lg)(a:S'.lk=S.lk):Ok1 S (S',Kr):=⟨[],by rw[b];simp,Wq a.symm,.inl<|bW _,λe h=>nomatch h⟩
def jN:Du->Kk
 | .back _ _ _ _=>1
 | _=>0
def bV(l:Ki Du):Nat:=(l.map jN).sum
def vF(m:Kk):∀l:LL,bV (l.dues m)=0:=λl=>l.recOn
 (rfl)
 (λn a r t b=>by have:=b;simp only[LL.dues,bV,dD,kC,jN]at *;lia)
 (λn a x y k d h t b=>by have:=b;simp only[LL.dues,bV,dD,kC,jN]at *;lia)
 (λn a p q t _ _ e=>by have:=e;simp only[LL.dues,bV,dD,kC,jN]at *;lia)
 (λn a p t _ f=>by have:=f;simp only[LL.dues,bV,dD,kC,jN]at *;lia)
def DY(a b:Ki Du):bV (a++b)=bV a+bV b:=by unfold bV;rw[bT,Ki.sum_append]
def YO:∀(n:Kk)(S:Rs),bV (pushN l m n S).td=bV S.td:=λn=>Ln
 (λ_=>U)
 (λn a S=>by
  unfold pushN;rw[a];show bV (l.dues m++S.td)=_;rw[DY,vF,sX]) n
def VD:∀(l:Ki zZ)(S:Rs),(l.foldl Rs.come S).td=S.td:=λl=>l.recOn
 (λ_=>U)
 λk l a S=>by
  rw[pO,a];unfold Rs.come
  split <;> rfl
def QD{S:Rs}{v:V}{f:Kl->Rs×Kj zZ}{c:Kk}(h:∀j,bV (f j).1.td<=c)(h0:bV S.td<=c):bV (S.thing v f).1.td<=c:=by
 cases v with
 | int j=>exact h j
 | _=>exact h0
def TJ(P:Pg)(S:Rs)(d:Du):bV (doR P S d).1.td<=bV S.td+1:=by
 have b:bV S.td<=bV S.td+1:=kI _;cases d with
 | op n a r m=>
  cases r with
  | make x k=>show bV (if k∈S.hr then _ else _:Rs×Kj zZ).1.td<=_;split <;> exact b
  | copy x y=>exact b
  | put x f y=>exact QD (λj=>b) b
  | take x y f=>exact QD (λj=>b) b
  | say w=>exact b
  | bring k=>show bV ((P.ln k).reverse.foldl Rs.come S).td<=_;rw[VD];exact b
 | call n a x y k d e m=>
  refine QD (λj=>?_) b
  split
  .split
   .exact b
   .show bV ((P.bo _ d).dues S.ds.length++.back x _ _ m::S.td)<=_;rw[DY,vF];simp only[bV,dD,kC,jN];lia
  .exact b
 | either n a p q m=>
  show bV ((if S.pick P=0 then p else q).dues m++S.td)<=_;rw[DY,vF,sX];exact b
 | again n a p m=>show bV (pushN p m _ {S with rd:=S.rd+1}).td<=_;rw[YO];exact b
 | back x g s m=>exact b
def Rn.all(P:Pg)(mo:Kk):∀(c dn:Kk)(S:Rs),2*(mo-dn)+bV S.td<=c->∃a e v,Rn P mo dn S a e v:=by
 intro c
 induction c with
 | zero=>
  intro dn S h;cases e:S.td with
  | nil=>exact{_,_,_,.done e}
  | cons d r=>
   cases i:d.num with
   | some n=>exact{_,_,_,.long e i ∅}
   | none=>
    cases d with
    | back x g s m=>rw[e]at h;simp only[bV,dD,kC,jN]at h;lia
    | _=>cases i
 | succ c l=>
  intro dn S h;cases e:S.td with
  | nil=>exact{_,_,_,.done e}
  | cons d r=>
   cases i:d.num with
   | some n=>
    by_cases f:mo<=dn
    .exact⟨_,_,_,.long e i f⟩
    .cases z:doR P {S with td:=r} d with
     | mk q o=>
      cases o with
      | some j=>exact{_,_,_,.stop e i ∅ z}
      | none=>
       have b:=TJ P {S with td:=r} d;rw[z]at b;have b:bV q.td<=bV r+1:=b;have hd:bV S.td=bV r:=by
        rw[e];cases d with
        | back x g s m=>cases i
        | _=>simp only[bV,dD,kC,jN,sX]
       obtain⟨a,j,v,t⟩:=l (dn+1) q ∅;exact{a,j,v,.go e i ∅ z t}
   | none=>
    cases d with
    | back x g s m=>
     have hd:bV S.td=1+bV r:=by rw[e];simp only[bV,dD,kC,jN]
     obtain⟨a,j,v,t⟩:=l dn (zH {S with td:=r} x g s m) (by show 2*(mo-dn)+bV r<=c;lia);exact{a,j,v,.back e t}
    | _=>cases i
def LL.size:LL->Kk
 | .nil=>0
 | .op _ _ _ t=>1+t.size
 | .call _ _ _ _ _ _ _ t=>1+t.size
 | .either _ _ p q t=>1+p.size+q.size+t.size
 | .again _ _ p t=>1+p.size+t.size
def xU(m:Kk):∀l:LL,↑(l.dues m)<=l.size:=λl=>l.recOn
 (aZ _)
 (λ_ _ _ t a=>by have:=a;simp only[LL.dues,LL.size,cN];lia)
 (λ_ _ _ _ _ _ _ t a=>by have:=a;simp only[LL.dues,LL.size,cN];lia)
 (λ_ _ p q t _ _ b=>by have:=b;simp only[LL.dues,LL.size,cN];lia)
 (λ_ _ p t _ d=>by have:=d;simp only[LL.dues,LL.size,cN];lia)
def Rn.inv{P:Pg}{dn:Kk}(b:Rn P mo dn S S2 e2 v2):(S.td=[]->S2=S/\e2="done"/\v2=.non)/\(∀x g s m r,S.td=.back x g s m::r->Rn P mo dn (zH {S with td:=r} x g s m) S2 e2 v2)/\
  ∀d r n,S.td=d::r->d.num\n->(mo<=dn->S2={S with td:=r}/\e2="long"/\v2=.int n)/\
   (dn<mo->∀l o,doR P {S with td:=r} d=(l,o)->o.elim (Rn P mo (dn+1) l S2 e2 v2) λe=>S2=l/\e2=e/\v2=.int n):=by
 have i:∀{S:Rs}{a:Prop}{d:Du}{r:Ki Du},S.td=d::r->S.td=[]->a:=λh w=>nomatch h.symm.trans w;have q:∀{S:Rs}{a:Prop}{d:Du}{r z:Ki Du}{n:Kk}{x g s m},S.td=d::r->d.num\n->S.td=.back x g s m::z->a:=λh f w=>by
  rw[(zD<|h.symm.trans w).1]at f;exact nomatch (show Kr=Kp _ from f)
 induction b with
 | done h=>exact{λ_=>⟨rfl,rfl,rfl⟩,λ_ _ _ _ _ w=>i w h,λ_ _ _ w=>i w h}
 | back h t _=>exact{i h,λ_ _ _ _ _ w=>by obtain⟨e,rfl⟩:=zD<|h.symm.trans w;cases e;exact t,λ_ _ _ w f=>q w f h}
 | long h f m=>exact{i h,λ_ _ _ _ _=>q h f,λd r n w j=>by obtain⟨rfl,rfl⟩:=zD<|h.symm.trans w;cases f.symm.trans j;exact{λ_=>⟨rfl,rfl,rfl⟩,λm'=>absurd m<|vv8.mpr m'}}
 | stop h f m e=>exact{i h,λ_ _ _ _ _=>q h f,λd r n w j=>by obtain⟨rfl,rfl⟩:=zD<|h.symm.trans w;cases f.symm.trans j;exact{λm'=>absurd m'<|vv8.mpr m,λ_ l o u=>by obtain⟨rfl,rfl⟩:=Tp<|e.symm.trans u;exact⟨rfl,rfl,rfl⟩}}
 | go h f m e t _=>exact{i h,λ_ _ _ _ _=>q h f,λd r n w j=>by obtain⟨rfl,rfl⟩:=zD<|h.symm.trans w;cases f.symm.trans j;exact{λm'=>absurd m'<|vv8.mpr m,λ_ l o u=>by obtain⟨rfl,rfl⟩:=Tp<|e.symm.trans u;exact t}}
structure Cz where
 (th du rn:eH)
abbrev XU:Ki zZ:=["program","made","forms","bodies","choices","many_read","many_done","under_way","here","todo","log","looks"]
abbrev XG:Ki zZ:=["number","row","inners","names"]
abbrev VY:Ki zZ:=["kind","fields"]
structure cZ(K:Fq)(C:Cz):Prop where
 t:zG K C.th VY
 d:zG K C.du XG
 r:zG K C.rn XU
 nd:C.du≠C.rn
 nt:C.th≠C.rn
def Fx(C:Cz):HO->Prop
 | .tup _=>True
 | .ins c _ _=>c≠C.rn
 | .ext _=>True
 | .frz _ (.tup _)=>True
 | _=>Kn
def Im(C:Cz)(H H':Hp):Prop:=∀b o,H b\o->Fx C o->H' b\o
def Im.refl:Im C H H:=λ_ _ h _=>h
def Im.trans(f:Im C H H1)(g:Im C H1 H2):Im C H H2:=λb o h x=>g b o (f b o h x) x
def Im.tup(f:Im C H H'):Tup H H':=λb a h=>f b _ h gP
def Im.new(h:H p=Kr):Im C H (upd H p o):=λb u e _=>by rw[aC<|aQ e h];exact e
theorem Im.upd(h:H p\u)(n:¬Fx C u):Im C H (upd H p o):=λb v e x=>by
 rw[aC λz=>by rw[z,h]at e;cases e;exact n x];exact e
def cV(θ:Ki eH):V->V
 | .int j=>.ref<|θ.getD j.toNat 0
 | v=>v
def cD(θ:Ki eH)(d:Ki (aG×V)):Ki (aG×V):=d.map λz=>(z.1,cV θ z.2)
def Ce:aF (cD θ d) k=(aF d k).map (cV θ):=by
 unfold aF cD
 induction d with
 | nil=>rfl
 | cons z d a=>
  rw[dD,mL,mL]
  split <;> simp_all
def qR:(aF (cD θ d) k).getD .non=cV θ ((aF d k).getD .non):=by
 rw[Ce];cases aF d k <;> rfl
def KC:aL (cD θ d) k (cV θ v)=cD θ (aL d k v):=by
 have e:(d.map λz=>(z.1,cV θ z.2)).any (λa=>decide<|a.1=k)=d.any λa=>decide (a.1=k):=by rw[Ki.any_map];rfl
 unfold aL cD;rw[e]
 split
 .rw[jW,jW];refine ER λz _=>?_;simp only[Function.comp]
  split <;> rfl
 .rw[bT];rfl
def VOk(n:Kk)(v:V):Prop:=v=.non\/∃j:Kk,v=.int j/\j<n
def VOk.mono(h:VOk n v)(l:n<=m):VOk m v:=h.imp id λ⟨j,e,z⟩=>⟨j,e,iA z l⟩
def xF(h:VOk θ.length v):cV (θ++l) v=cV θ v:=by
 obtain rfl|⟨j,rfl,h⟩:=h
 .rfl
 .show Yg ((θ++l).getD j 0)=.ref (θ.getD j 0);rw[fG,fG,lI h]
def uT(h:∀z∈d,VOk θ.length z.2):cD (θ++l) d=cD θ d:=by
 unfold cD;exact ER λz a=>by rw[xF<|h z a]
def XC{d:Ki (aG×V)}(h:∀z∈d,VOk n z.2)(k:aG):VOk n ((aF d k).getD .non):=by
 unfold aF;cases e:d.find? (λa=>decide<|a.1=k)with
 | none=>exact .inl rfl
 | some z=>exact h z<|pJ e
def BM{d:Ki (aG×V)}(h:∀z∈d,VOk n z.2)(a:VOk n v):∀z∈aL d k v,VOk n z.2:=by
 intro z hz;unfold aL at hz
 split at hz
 .obtain⟨y,b,rfl⟩:=wx6.mp hz
  split
  .exact a
  .exact h y b
 .obtain hz|hz:=wz2.mp hz
  .exact h z hz
  .rw[wx1.mp hz];exact a
inductive Ens(Z:zZ->Kj zZ->Prop)(H:Hp):LL->Ki eH->Prop
 | nil:Ens Z H .nil []
 | op {n:Kk} {a e p:eH} {r:Rw} {t:LL} {es:Ki eH} (h:H e\.tup [.int n,.ref a,.ref p]) (hp:H p\.tup []) (hr:H a\.tup r.vs) (hb:∀k,r=.bring k->Z k Kr) (s:Ens Z H t es):Ens Z H (.op n a r t) (e::es)
 | call {n:Kk} {a e p g:eH} {x y k d:zZ} {as:Ki zZ} {t:LL} {es:Ki eH} (h:H e\.tup [.int n,.ref a,.ref p]) (hp:H p\.tup []) (hr:H a\.tup [.str "call",.str x,.str y,.str k,.str d,.ref g]) (hg:H g\(.tup<|as.map Yf)) (hl:↑as<=1000) (hz:Z k (Kp d)) (s:Ens Z H t es):Ens Z H (.call n a x y k d as t) (e::es)
 | either {n:Kk} {a e p l1 l2:eH} {v:Ki V} {q1 q2 t:LL} {e1 e2 es:Ki eH} (h:H e\.tup [.int n,.ref a,.ref p]) (hp:H p\.tup [.ref l1,.ref l2]) (hr:H a\(.tup<|.str "either"::v)) (h1:H l1\(.tup<|e1.map Yg)) (h2:H l2\(.tup<|e2.map Yg)) (s1:Ens Z H q1 e1) (s2:Ens Z H q2 e2) (s:Ens Z H t es):Ens Z H (.either n a q1 q2 t) (e::es)
 | again {n:Kk} {a e p l1:eH} {v:Ki V} {q1 t:LL} {e1 es:Ki eH} (h:H e\.tup [.int n,.ref a,.ref p]) (hp:H p\.tup [.ref l1]) (hr:H a\(.tup<|.str "again"::v)) (h1:H l1\(.tup<|e1.map Yg)) (s1:Ens Z H q1 e1) (s:Ens Z H t es):Ens Z H (.again n a q1 t) (e::es)
def Ens.keep(h:Ens Z H l es)(f:Tup H H'):Ens Z H' l es:=by
 induction h with
 | nil=>exact .nil
 | op h d b q _ a=>exact .op (f _ _ h) (f _ _ d) (f _ _ b) q a
 | call h d b n hl m _ a=>exact .call (f _ _ h) (f _ _ d) (f _ _ b) (f _ _ n) hl m a
 | either h d b e o _ _ _ i j a=>exact .either (f _ _ h) (f _ _ d) (f _ _ b) (f _ _ e) (f _ _ o) i j a
 | again h d b e _ _ i a=>exact .again (f _ _ h) (f _ _ d) (f _ _ b) (f _ _ e) i a
abbrev dF(v:V)(a p n:eH):Ki (zZ×V):=[("number",v),("row",.ref a),("inners",.ref p),("names",.ref n)]
inductive DuAt(C:Cz)(Z:zZ->Kj zZ->Prop)(δ:Ki eH)(H:Hp):Du->eH->Prop
 | op {n m:Kk} {a u p dx na:eH} {r:Rw} (h:H u\(.ins C.du dx<|dF (.int n) a p na)) (hm:δ[m]?\na) (hr:H a\.tup r.vs) (hb:∀k,r=.bring k->Z k Kr):DuAt C Z δ H (.op n a r m) u
 | call {n m:Kk} {a u p dx na g:eH} {x y k d:zZ} {as:Ki zZ} (h:H u\(.ins C.du dx<|dF (.int n) a p na)) (hm:δ[m]?\na) (hr:H a\.tup [.str "call",.str x,.str y,.str k,.str d,.ref g]) (hg:H g\(.tup<|as.map Yf)) (hl:↑as<=1000) (hz:Z k (Kp d)):DuAt C Z δ H (.call n a x y k d as m) u
 | either {n m:Kk} {a u p dx na l1 l2:eH} {v:Ki V} {q1 q2:LL} {e1 e2:Ki eH} (h:H u\(.ins C.du dx<|dF (.int n) a p na)) (hm:δ[m]?\na) (hr:H a\(.tup<|.str "either"::v)) (hp:H p\.tup [.ref l1,.ref l2]) (h1:H l1\(.tup<|e1.map Yg)) (h2:H l2\(.tup<|e2.map Yg)) (s1:Ens Z H q1 e1) (s2:Ens Z H q2 e2):DuAt C Z δ H (.either n a q1 q2 m) u
 | again {n m:Kk} {a u p dx na l1:eH} {v:Ki V} {q1:LL} {e1:Ki eH} (h:H u\(.ins C.du dx<|dF (.int n) a p na)) (hm:δ[m]?\na) (hr:H a\(.tup<|.str "again"::v)) (hp:H p\.tup [.ref l1]) (h1:H l1\(.tup<|e1.map Yg)) (s1:Ens Z H q1 e1):DuAt C Z δ H (.again n a q1 m) u
 | back {s m:Kk} {a u p dx na nb:eH} {x:zZ} {g:Kj zZ} (h:H u\(.ins C.du dx<|dF .non a p na)) (hm:δ[m]?\na) (hs:δ[s]?\nb) (hr:H a\.tup [.str "back",.str x,aY g,.ref nb]):DuAt C Z δ H (.back x g s m) u
def kF{a:Type}{l r:Ki a}{i:Kk}{x:a}(h:l[i]?\x):(l++r)[i]?\x:=by
 rw[lI (ww4.mp h).1];exact h
theorem DuAt.keep(h:DuAt C Z δ H d u)(a:C.du≠C.rn)(f:Im C H H'):DuAt C Z (δ++l) H' d u:=by
 have t:=f.tup;cases h with
 | op h b e w=>exact .op (f _ _ h a) (kF b) (t _ _ e) w
 | call h b e r hl o=>exact .call (f _ _ h a) (kF b) (t _ _ e) (t _ _ r) hl o
 | either h b e j i s m q=>exact .either (f _ _ h a) (kF b) (t _ _ e) (t _ _ j) (t _ _ i) (t _ _ s) (m.keep t)<|q.keep t
 | again h b e j i m=>exact .again (f _ _ h a) (kF b) (t _ _ e) (t _ _ j) (t _ _ i)<|m.keep t
 | back h b n e=>exact .back (f _ _ h a) (kF b) (kF n)<|t _ _ e
structure Ra where
 (dx md fo bo ch he to lo:eH)
 (us ls δ θ:Ki eH)
def Ra.say(A:Ra)(t:eH):Ra:={A with ls:=A.ls++[t]}
def Ra.due(A:Ra)(u:eH):Ra:={A with us:=u::A.us}
def Ra.pop(A:Ra)(us:Ki eH):Ra:={A with us:=us}
def Ra.dic(A:Ra)(a:eH):Ra:={A with δ:=A.δ++[a]}
def Ra.thg(A:Ra)(t:eH):Ra:={A with θ:=A.θ++[t]}
def Rs.num(S:Rs)(rd:Kk)(uw lk:Kl):Rs:={S with rd:=rd,uw:=uw,lk:=lk}
def Rs.due(S:Rs)(d:Du):Rs:={S with td:=d::S.td}
def Rs.pop(S:Rs)(r:Ki Du):Rs:={S with td:=r}
def Rs.dic(S:Rs)(d:Ki (aG×V)):Rs:={S with ds:=S.ds++[d]}
def Rs.thg(S:Rs)(z:zZ×Kk):Rs:={S with ts:=S.ts++[z]}
def Rs.her(S:Rs)(k:zZ):Rs:={S with hr:=S.hr++[k]}
abbrev rF(pg:eH)(A:Ra)(rd dn:Kk)(uw lk:Kl):Ki (zZ×V):=[("program",.ref pg),("made",.ref A.md),("forms",.ref A.fo),("bodies",.ref A.bo),("choices",.ref A.ch),("many_read",.int rd),("many_done",.int dn),("under_way",.int uw),("here",.ref A.he),("todo",.ref A.to),("log",.ref A.lo),("looks",.int lk)]
structure Ry where
 C:Cz
 pr:Jz
 w:Kb
 K:Fq
 nd:C.du≠C.rn
 nt:C.th≠C.rn
structure Rx(Y:Ry) where
 Z:zZ->Kj zZ->Prop
 H0:Hp
 pg:eH
 G:Pg
structure BoAt{Y:Ry}(R:Rx Y)(H:Hp)(bo:eH)(qs:Ki (Pr×eH×eH)):Prop where
 d:H bo\iF Y.pr Y.w bo qs
 ok:PvOk Y.K H qs
 k:∀n d,R.G.hs n d->(n,d)∈qs.map (·.1)
 e:∀q∈qs,∃es:Ki eH,H q.2.2\(.tup<|es.map Yg)/\Ens R.Z H (R.G.bo q.1.1 q.1.2) es
theorem BoAt.keep{Y:Ry}{R:Rx Y}(h:BoAt R H bo qs)(f:Im Y.C H H'):BoAt R H' bo qs where
 d:=f _ _ h.d gP
 ok q hq:=by
  obtain(z|⟨o,z⟩)|z:=h.ok q hq
  .exact .inl<|.inl<|f.tup _ _ z
  .exact .inl<|.inr ⟨o,f _ _ z gP⟩
  .exact .inr z
 k:=h.k
 e q hq:=by
  obtain⟨i,b,a⟩:=h.e q hq;exact{i,f.tup _ _ b,a.keep f.tup}
def NB{Y:Ry}(R:Rx Y)(H:Hp)(δ:Ki eH)(z:zZ×Kk)(t:eH):Prop:=∃b a,δ[z.2]?\a/\H t\.ins Y.C.th b [("kind",.str z.1),("fields",.ref a)]
structure RunI{Y:Ry}(R:Rx Y)(H:Hp)(A:Ra)(S:Rs):Prop where
 md:H A.md\.tup []
 ch:H A.ch\(.tup<|R.G.ch.map Yh)
 ud:A2 (DuAt Y.C R.Z A.δ H) S.td A.us
 lg:A2 (λr a=>H a\.tup r) S.lg A.ls
 th:A2 (NB R H A.δ) S.ts A.θ
 bo:∃qs,BoAt R H A.bo qs
theorem RunI.keep{Y:Ry}{R:Rx Y}(h:RunI R H A S)(f:Im Y.C H H'):RunI R H' A S where
 md:=f.tup _ _ h.md
 ch:=f.tup _ _ h.ch
 ud:=h.ud.imp λ_ _ g=>by have:=g.keep (l:=[]) Y.nd f;rwa [fP]at this
 lg:=h.lg.imp λ_ _ g=>f.tup _ _ g
 th:=h.th.imp λ_ _ ⟨b,a,e,g⟩=>⟨b,a,e,f _ _ g Y.nt⟩
 bo:=let ⟨qs,g⟩:=h.bo;⟨qs,g.keep f⟩
structure RunAt{Y:Ry}(R:Rx Y)(H:Hp)(rn:eH)(A:Ra)(S:Rs)(dn:Kk):Prop where
 im:RunI R H A S
 run:H rn\(.ins Y.C.rn A.dx<|rF R.pg A S.rd dn S.uw S.lk)
 fo:H A.fo\.dK []
 he:H A.he\(.lst<|S.hr.map Yf)
 to:H A.to\(.lst<|A.us.reverse.map Yg)
 lo:H A.lo\(.lst<|A.ls.map Yg)
 dc:A2 (λd a=>H a\(.dK<|cD A.θ d)) S.ds A.δ
 dk:∀d∈S.ds,∀z∈d,VOk S.ts.length z.2
 nd:(rn::A.fo::A.he::A.to::A.lo::A.δ).Nodup
 kp:∀b o,R.H0 b\o->H b\o
 fr:∀b∈rn::A.fo::A.he::A.to::A.lo::A.δ,R.H0 b=Kr
def RunAt.keep0{Y:Ry}{R:Rx Y}(h:RunAt R H rn A S dn)(f:FrS [] H H'):RunAt R H' rn A S dn where
 im:=h.im.keep λb o e _=>f b o bB e
 run:=f _ _ bB h.run
 fo:=f _ _ bB h.fo
 he:=f _ _ bB h.he
 to:=f _ _ bB h.to
 lo:=f _ _ bB h.lo
 dc:=h.dc.imp λ_ _ g=>f _ _ bB g
 dk:=h.dk
 nd:=h.nd
 kp b o e:=f _ _ bB<|h.kp b o e
 fr:=h.fr
def oW{H0 H:Hp}(h:∀b o,H0 b\o->H b\o)(d:H0 a=Kr):∀b u,H0 b\u->upd H a o b\u:=λb u e=>by
 rw[aC<|aQ e d];exact h b u e
def tN{θ:Ki eH}(h:A2 (λd a=>H a\(.dK<|cD θ d)) e δ)(n:a∉δ):A2 (λd b=>upd H a o b\(.dK<|cD θ d)) e δ:=by
 induction h with
 | nil=>exact .nil
 | cons g _ f=>
  rw[wx0,fZ]at n;exact .cons (by rw[aC<|bS n.1];exact g)<|f n.2
section
variable{Y:Ry}{R:Rx Y}{H:Hp}{rn:eH}{A:Ra}{S:Rs}{dn:Kk}
theorem RunAt.num(h:RunAt R H rn A S dn)(rd a:Kk)(uw lk:Kl):RunAt R (upd H rn<|.ins Y.C.rn A.dx<|rF R.pg A rd a uw lk) rn A (S.num rd uw lk) a/\Im Y.C H (upd H rn<|.ins Y.C.rn A.dx<|rF R.pg A rd a uw lk):=by
 have f:Im Y.C H (upd H rn<|.ins Y.C.rn A.dx<|rF R.pg A rd a uw lk):=.upd h.run λz=>z rfl;have nd:=h.nd;simp only[vc1,wx0,fZ]at nd;obtain⟨⟨l,d,e,b,j⟩,_⟩:=nd;have i:=h.im.keep f;exact{{im:={i.md,i.ch,i.ud,i.lg,i.th,i.bo},run:=zb1,fo:=(aC<|bS l).trans h.fo,he:=(aC<|bS d).trans h.he,to:=(aC<|bS e).trans h.to,lo:=(aC<|bS b).trans h.lo,dc:=tN h.dc j,dk:=h.dk,nd:=h.nd,kp:=oW h.kp<|h.fr _<|.head _,fr:=h.fr},f}
theorem RunAt.say(h:RunAt R H rn A S dn)(d:H t\.tup r):RunAt R (upd H A.lo<|.lst<|A.ls.map Yg++[.ref t]) rn (A.say t) (S.say r) dn/\Im Y.C H (upd H A.lo<|.lst<|A.ls.map Yg++[.ref t]):=by
 have f:Im Y.C H (upd H A.lo<|.lst<|A.ls.map Yg++[.ref t]):=.upd h.lo λz=>z;have nd:=h.nd;simp only[vc1,wx0,fZ]at nd;obtain⟨⟨x,n,o,a,q⟩,⟨E,w,j,m⟩,⟨B,b,s⟩,⟨e,u⟩,l,_⟩:=nd;have i:=h.im.keep f;exact{{im:={i.md,i.ch,i.ud,i.lg.snoc<|f.tup _ _ d,i.th,i.bo},run:=(aC a).trans h.run,fo:=(aC j).trans h.fo,he:=(aC b).trans h.he,to:=(aC e).trans h.to,lo:=zb1.trans (by show _=Kp (HO.lst<|(A.ls++[t]).map Yg);rw[bT];rfl),dc:=tN h.dc l,dk:=h.dk,nd:=h.nd,kp:=oW h.kp<|h.fr _<|.tail _<|.tail _<|.tail _<|.tail _<|.head _,fr:=h.fr},f}
theorem RunAt.due(h:RunAt R H rn A S dn)(m:DuAt Y.C R.Z A.δ H d u):RunAt R (upd H A.to<|.lst<|A.us.reverse.map Yg++[.ref u]) rn (A.due u) (S.due d) dn/\Im Y.C H (upd H A.to<|.lst<|A.us.reverse.map Yg++[.ref u]):=by
 have f:Im Y.C H (upd H A.to<|.lst<|A.us.reverse.map Yg++[.ref u]):=.upd h.to λz=>z;have nd:=h.nd;simp only[vc1,wx0,fZ]at nd;obtain⟨⟨E,w,b,q,x⟩,⟨J,n,G,r⟩,⟨o,s,B⟩,⟨j,e⟩,I,_⟩:=nd;have i:=h.im.keep f;have a:=m.keep (l:=[]) Y.nd f;rw[fP]at a;exact{{im:={i.md,i.ch,.cons a i.ud,i.lg,i.th,i.bo},run:=(aC b).trans h.run,fo:=(aC n).trans h.fo,he:=(aC o).trans h.he,to:=zb1.trans (by show _=Kp (HO.lst<|(u::A.us).reverse.map Yg);rw[yM,bT];rfl),lo:=(aC<|bS j).trans h.lo,dc:=tN h.dc e,dk:=h.dk,nd:=h.nd,kp:=oW h.kp<|h.fr _<|.tail _<|.tail _<|.tail _<|.head _,fr:=h.fr},f}
theorem RunAt.pop(h:RunAt R H rn A S dn)(b:S.td=d::r)(j:A.us=u::us):RunAt R (upd H A.to<|.lst<|us.reverse.map Yg) rn (A.pop us) (S.pop r) dn/\Im Y.C H (upd H A.to<|.lst<|us.reverse.map Yg)/\DuAt Y.C R.Z A.δ (upd H A.to<|.lst<|us.reverse.map Yg) d u:=by
 have f:Im Y.C H (upd H A.to<|.lst<|us.reverse.map Yg):=.upd h.to λz=>z;have nd:=h.nd;simp only[vc1,wx0,fZ]at nd;obtain⟨⟨B,w,a,o,x⟩,⟨I,m,E,q⟩,⟨n,s,G⟩,⟨l,e⟩,_,_⟩:=nd;have i:=h.im.keep f;have J:=i.ud;rw[b,j]at J;cases J with
 | cons g t=>
  exact{{im:={i.md,i.ch,t,i.lg,i.th,i.bo},run:=(aC a).trans h.run,fo:=(aC m).trans h.fo,he:=(aC n).trans h.he,to:=zb1,lo:=(aC<|bS l).trans h.lo,dc:=tN h.dc e,dk:=h.dk,nd:=h.nd,kp:=oW h.kp<|h.fr _<|.tail _<|.tail _<|.tail _<|.head _,fr:=h.fr},f,g}
end
def _root_.L2.A2.imp'{i e:Type}{R S:i->e->Prop}{as:Ki i}{bs:Ki e}(h:A2 R as bs):(∀a b,b∈bs->R a b->S a b)->A2 S as bs:=by
 induction h with
 | nil=>intro _;exact .nil
 | cons r t j=>intro f;exact .cons (f _ _ (.head _) r)<|j λa b d=>f a b<|.tail _ d
def A2.imp2{i e:Type}{R S:i->e->Prop}{as:Ki i}{bs:Ki e}(h:A2 R as bs):(∀a b,a∈as->R a b->S a b)->A2 S as bs:=by
 induction h with
 | nil=>intro _;exact .nil
 | cons r t j=>intro f;exact .cons (f _ _ (.head _) r)<|j λa b d=>f a b<|.tail _ d
def A2.back{l j:Type}{R:l->j->Prop}{as:Ki l}{bs:Ki j}(h:A2 R as bs){i:Kk}{b:j}(e:bs[i]?\b):∃a,as[i]?\a/\R a b:=by
 obtain⟨m,_⟩:=ww4.mp e;obtain⟨f,d,r⟩:=h.get (bJ<|by rw[h.len];exact m);rw[e]at d;cases d;exact{_,bJ _,r}
def A2.chg{q o:Type}{R f:q->o->Prop}{as:Ki q}{bs:Ki o}(h:A2 R as bs):∀{m:Kk}{b:o}{d:q},bs.Nodup->bs[m]?\b->f d b->(∀a n,n≠b->R a n->f a n)->A2 f (as.set m d) bs:=by
 induction h with
 | nil=>intro m b d _ e;cases e
 | @cons a u as bs r t s=>
  intro m b d nd e j i;rw[vc1]at nd;cases m with
  | zero=>
   cases e;exact .cons j<|t.imp' λx y l z=>i x y (λw=>nd.1<|by rw[<-w];exact l) z
  | succ m=>exact .cons (i _ _ (λw=>nd.1<|by rw[w];exact dC e) r)<|s nd.2 e j i
section
variable{Y:Ry}{R:Rx Y}{H:Hp}{rn:eH}{A:Ra}{S:Rs}{dn:Kk}
def RunAt.dict(h:RunAt R H rn A S dn)(b:A.δ[m]?\a):H a\(.dK<|cD A.θ<|S.ds.getD m [])/\(∀z∈S.ds.getD m [],VOk S.ts.length z.2)/\R.H0 a=none:=by
 obtain⟨d,e,g⟩:=A2.back h.dc b;rw[fG,e];exact{g,h.dk d<|dC e,h.fr a<|.tail _<|.tail _<|.tail _<|.tail _<|.tail _<|dC b}
def RunAt.got(h:RunAt R H rn A S dn)(b:A.δ[m]?\a)(x:zZ):VOk S.ts.length (S.get m x):=XC (h.dict b).2.1 _
theorem RunAt.put(h:RunAt R H rn A S dn)(e:A.δ[m]?\a)(n:VOk S.ts.length v)(x:zZ):RunAt R (upd H a<|.dK<|aL (cD A.θ<|S.ds.getD m []) (Ku x)<|cV A.θ v) rn A (S.put m x v) dn/\Im Y.C H (upd H a<|.dK<|aL (cD A.θ<|S.ds.getD m []) (Ku x)<|cV A.θ v):=by
 obtain⟨j,ok,W⟩:=h.dict e;have f:Im Y.C H (upd H a<|.dK<|aL (cD A.θ<|S.ds.getD m []) (Ku x)<|cV A.θ v):=.upd j λz=>z;have w:=dC e;have nd:=h.nd;simp only[vc1,wx0,fZ]at nd;obtain⟨⟨N,I,J,E,o⟩,⟨T,M,O,l⟩,⟨P,G,q⟩,⟨L,r⟩,B,s⟩:=nd;have i:=h.im.keep f;have ne:∀{b:eH},b∉A.δ->b≠a:=λh z=>h (by rw[z];exact w)
 refine{{im:={i.md,i.ch,i.ud,i.lg,i.th,i.bo},run:=(aC<|ne o).trans h.run,fo:=(aC<|ne l).trans h.fo,he:=(aC<|ne q).trans h.he,to:=(aC<|ne r).trans h.to,lo:=(aC<|ne B).trans h.lo,dc:=?_,dk:=?_,nd:=h.nd,kp:=oW h.kp W,fr:=h.fr},f}
 .exact A2.chg h.dc s e (by rw[zb1,KC]) λd b u g=>by rw[aC u];exact g
 .intro d hd;obtain hd|rfl:=xY hd
  .exact h.dk d hd
  .exact BM ok n
def RunAt.dic2(h:RunAt R H rn A S dn)(j:H a=Kr)(f:FrS [] H H')(e:H' a\(.dK<|cD A.θ d))(hd:∀z∈d,VOk S.ts.length z.2):RunAt R H' rn (A.dic a) (S.dic d) dn:=by
 have g:Im Y.C H H':=λb o e _=>f b o bB e;have k:=h.keep0 f;have w:R.H0 a=none:=by
  cases e:R.H0 a with
  | none=>rfl
  | some o=>rw[h.kp a o e]at j;cases j
 have q:a∉rn::A.fo::A.he::A.to::A.lo::A.δ:=by
  intro z;simp only[wx0]at z;obtain rfl|rfl|rfl|rfl|rfl|z:=z
  .rw[h.run]at j;cases j
  .rw[h.fo]at j;cases j
  .rw[h.he]at j;cases j
  .rw[h.to]at j;cases j
  .rw[h.lo]at j;cases j
  .obtain⟨i,hi⟩:=vc7.mp z;rw[(h.dict hi).1]at j;cases j
 refine {im:={k.im.md,k.im.ch,h.im.ud.imp λ_ _ z=>z.keep Y.nd g,k.im.lg,k.im.th.imp λ_ _ ⟨s,b,e,z⟩=>{s,b,kF e,z},k.im.bo},run:=k.run,fo:=k.fo,he:=k.he,to:=k.to,lo:=k.lo,dc:=k.dc.snoc e,dk:=λu m=>?_,nd:=?_,kp:=k.kp,fr:=λb l=>?_}
 .obtain m|m:=wz2.mp m
  .exact h.dk u m
  .rw[wx1.mp m];exact hd
 .show((rn::A.fo::A.he::A.to::A.lo::A.δ)++[a]).Nodup;exact vp1.mpr {h.nd,vc1.mpr ⟨bB,lC⟩,λx n y r=>by rw[wx1.mp r];exact λz=>q<|by rw[<-z];exact n}
 .obtain l|l:=wz2.mp (show b∈(rn::A.fo::A.he::A.to::A.lo::A.δ)++[a] from l)
  .exact h.fr b l
  .rw[wx1.mp l];exact w
theorem RunAt.dic(h:RunAt R H rn A S dn)(b:H a=Kr)(hd:∀z∈d,VOk S.ts.length z.2):RunAt R (upd H a<|.dK<|cD A.θ d) rn (A.dic a) (S.dic d) dn/\Im Y.C H (upd H a<|.dK<|cD A.θ d):=⟨h.dic2 b (Yj b) zb1 hd,.new b⟩
theorem RunAt.thg(h:RunAt R H rn A S dn)(e:H t\.ins Y.C.th dx [("kind",.str k),("fields",.ref a)])(f:A.δ[m]?\a):RunAt R H rn (A.thg t) (S.thg (k,m)) dn where
 im:=⟨h.im.md,h.im.ch,h.im.ud,h.im.lg,h.im.th.snoc ⟨dx,a,f,e⟩,h.im.bo⟩
 run:=h.run
 fo:=h.fo
 he:=h.he
 to:=h.to
 lo:=h.lo
 dc:=A2.imp2 h.dc λd b hd g=>by show H b=Kp (.dK<|cD (A.θ++[t]) d);rw[uT<|by rw[<-h.im.th.len];exact h.dk d hd];exact g
 dk d hd z hz:=(h.dk d hd z hz).mono (by show _<=↑(S.ts++[_]);rw[bN];exact DM _ _)
 nd:=h.nd
 kp:=h.kp
 fr:=h.fr
theorem RunAt.her(h:RunAt R H rn A S dn)(k:zZ):RunAt R (upd H A.he<|.lst<|S.hr.map Yf++[.str k]) rn A (S.her k) dn/\Im Y.C H (upd H A.he<|.lst<|S.hr.map Yf++[.str k]):=by
 have f:Im Y.C H (upd H A.he<|.lst<|S.hr.map Yf++[.str k]):=.upd h.he λz=>z;have nd:=h.nd;simp only[vc1,wx0,fZ]at nd;obtain⟨⟨u,b,n,l,o⟩,⟨j,s,w,m⟩,⟨e,a,d⟩,⟨r,q⟩,x,_⟩:=nd;have i:=h.im.keep f;exact{{im:={i.md,i.ch,i.ud,i.lg,i.th,i.bo},run:=(aC b).trans h.run,fo:=(aC j).trans h.fo,he:=zb1.trans (by show _=Kp (HO.lst<|(S.hr++[k]).map Yf);rw[bT];rfl),to:=(aC<|bS e).trans h.to,lo:=(aC<|bS a).trans h.lo,dc:=tN h.dc d,dk:=h.dk,nd:=h.nd,kp:=oW h.kp<|h.fr _<|.tail _<|.tail _<|.head _,fr:=h.fr},f}
end
abbrev wR:Kd:=top 35
abbrev OC:Kd:=top 32
structure Bd(G:Pg)(S:Rs):Prop where
 td:S.td.length<=850000
 lg:S.lg.length<=100000
 hr:S.hr.length<=100000
 ds:∀d∈S.ds,↑d<=100000
 hn:∀k∈S.hr,k∈G.nm
 ts:∀z∈S.ts,z.1∈G.nm
abbrev Kq:=Ki<|zZ×Kj zZ×Ki (zZ×eH)
def DeedsQ(H:Hp)(p:eH)(e:Kq):Prop:=∃(b:eH)(a:Ki eH)(x y:V),H p\.tup [.ref b,x,y]/\H b\(.tup<|a.map Yg)/\↑a=↑e/\
 ∀(j:Kk) t z,a[j]?\t->e[j]?\z->∃f,H t\.tup [.str z.1,aY z.2.1,.ref f]/\H f\(.tup<|z.2.2.map λd=>Yg d.2)/\∀d∈z.2.2,∃rest,H d.2\(.tup<|.str d.1::rest)
def DeedsQ.keep(h:DeedsQ H p kq)(f:Tup H H'):DeedsQ H' p kq:=by
 obtain⟨m,A,x,y,w,u,l,s⟩:=h;refine{m,A,x,y,f _ _ w,f _ _ u,l,λj t z a b=>?_};obtain⟨n,i,q,o⟩:=s j t z a b;exact{n,f _ _ i,f _ _ q,λd hd=>let ⟨r,e⟩:=o d hd;⟨r,f _ _ e⟩}
def fV(a:Kq)(n d:zZ):Kj eH:=a.findSome? λz=>if z.1=n then(z.2.2.find? λe=>decide<|e.1=d).map (·.2) else Kr
def fl(a:Kq):Ki ((zZ×zZ)×eH):=a.flatMap λw=>w.2.2.map λd=>((w.1,d.1),d.2)
def dN(a:Kq)(d:zZ)(l:Ki zZ):Kj zZ:=l.find? λx=>(fV a x d).isSome
def jD(a:Kq)(d:zZ)(l:Ki zZ):Int:=match dN a d l with
 | none=>↑l
 | some f=>↑l-(ixV (.str f) (l.reverse.map Yf):Kk)
inductive vO{Y:Ry}(R:Rx Y)(kq:Kq)(k d:zZ):Prop
 | mk(g pt:eH)(v:V)(h1:dN kq d (R.G.ln k)\R.G.an k d)(h2:fV kq (R.G.an k d) d\g)(h3:R.H0 g\.tup [.str d,.ref pt,v,aY<|R.G.gv (R.G.an k d) d])(h4:R.H0 pt\(.tup<|(R.G.ps (R.G.an k d) d).map Yf))(h5:R.G.hs (R.G.an k d) d)(h6:R.G.co k d=jD kq d (R.G.ln k))(h7:(R.G.bo (R.G.an k d) d).size<=80)(h8:↑(R.G.ps (R.G.an k d) d)<=1000)
structure MU{Y:Ry}(R:Rx Y)(tr:Tr)(kq:Kq):Prop where
 kn:KindsAt R.H0 R.pg tr
 dq:DeedsQ R.H0 R.pg kq
 ok:TrOk tr
 l12:↑tr<=12
 nm:tr.map (·.1)=R.G.nm
 ln:∀k∈R.G.nm,Up tr k<|R.G.ln k
 z0:∀k,R.Z k Kr->k∈R.G.nm
 ch:∀c∈R.G.ch,-100<=c
 fn:((fl kq).map (·.1)).Nodup
 ca:∀k d,R.Z k (Kp d)->∀x∈R.G.nm,k∈R.G.ln x->vO R kq x d
def lE{Y:Ry}(R:Rx Y):Prop:=∃a b,MU R a b
inductive OS(Y:Ry)(ok:Du->Prop)(vs:Ki V)(H:Hp)(Q:VK):Prop
 | mk(R:Rx Y)(rn u:eH)(A:Ra)(S:Rs)(dn:Kk)(d:Du)(h1:vs=[.ref rn,.ref u])(h2:RunAt R H rn A S dn)(h3:DuAt Y.C R.Z A.δ H d u)(h4:ok d)(h5:Bd R.G S)(h6:lE R)(h7:∀A' H',RunAt R H' rn A' (doR R.G S d).1 dn->Im Y.C H H'->Q (aY (doR R.G S d).2) H')
def gH(Y:Ry)(ok:Du->Prop):Sp:=λvs H Q _=>OS Y ok vs H Q
abbrev dW:Ki zZ:=["run","due"]
def iD{n:Kk}(h:n<=1000000):n<sizeLine:=by rw[Oz];lia
section
variable{Y:Ry}{mg:zZ->Kj iH}{base:Ka}{f:eH}{fd:Ke}
def DK:bX dW dW (bP wR):=cF
def vJ(F:Fun Y.K "do_say" "do_say" wR f fd)(Z:cZ Y.K Y.C):aS Y.pr Y.w Y.K mg base bO (k+1) f fd dW (gH Y λd=>∃n a w m,d=.op n a (.say w) m):=by
 refine F.ok DK (λvs H Q E h=>?_) λi A j s H vs Q E P h=>?_
 .obtain⟨R,x,u,A,S,L,d,rfl,_⟩:=h;rfl
 obtain⟨R,x,u,A,S,L,d,rfl,h,hd,⟨n,a,w,m,rfl⟩,e,T,q⟩:=h;exists _,aJ (dH<|eW eQ fU fS fL (cA Z.r<|pv 0)<|aA (bZ<|aA aX<|aA (cA Z.d<|pv 1)<|aA (eT (cA Z.d<|pv 1) aO) aE) aE)
  (aR<|bQ gI)
 ac_rfl
 cases hd with
 | @op _ _ _ _ p O N _ z M l J=>
  refine{_,U,x,_,_,_,U,h.run,U,.inl {U,_,Yl h.lo},_,U,u,_,_,_,U,z,U,_,U,u,_,_,_,U,z,U,a,_,_,_,U,U,Ym l,U,cX<|bM (by show 3<=_;decide),λt b=>?_};have G:=h.keep0<|Yj (o:=.tup [.str "say",.int n,.str w]) b;have B:=G.say zb1;exact{_,_,_,U,U,G.lo,iD (by rw[aK,<-h.im.lg.len];have:=e.lg;lia),q _ _ B.1<|(Im.new b).trans B.2}
end
def PB(i:Kk):Kd:=match top i with
 | .ClassDef _ _ _ b _ _ _ _ _ _ _=>b.getD 0<|.Pass ⟨0,0,0,0⟩
 | s=>s
abbrev rY:Kd:=PB 26
abbrev uR:Kd:=PB 27
def WW{H:Hp}{a b:eH}{o u:HO}(h:a≠b):upd (upd H a o) b u=upd (upd H b u) a o:=by
 funext c
 unfold upd
 by_cases e:c=b
 .rw[bF e,bC λz=>h<|z.symm.trans e,bF e]
 .rw[bC e,bC e]
inductive CQ(C:eH)(vs:Ki V)(H:Hp)(Q:VK):Prop
 | mk(x dx:eH)(k:zZ)(h1:vs=[.ref x,.str k])(h2:H x\.ins C dx [])(h3:∀a,H a=Kr->Q .non (upd (upd H a<|.dK []) x<|.ins C dx [("kind",.str k),("fields",.ref a)]))
def GO(C:eH):Sp:=λvs H Q _=>CQ C vs H Q
inductive CW(C:eH)(vs:Ki V)(H:Hp)(Q:VK):Prop
 | mk(x dx a p n:eH)(v:V)(h1:vs=[.ref x,v,.ref a,.ref p,.ref n])(h2:H x\.ins C dx [])(h3:Q .non (upd H x<|.ins C dx<|dF v a p n))
def EZ(C:eH):Sp:=λvs H Q _=>CW C vs H Q
abbrev kA:Ki zZ:=["self","kind"]
abbrev iZ:Ki zZ:=["self","number","row","inners","names"]
section
variable{Y:Ry}{mg:zZ->Kj iH}{base:Ka}{f:eH}{fd:Ke}
def CI:bX kA kA (bP rY):=cF
def vW(F:Fun Y.K "__init__" "Thing.__init__" rY f fd)(Z:cZ Y.K Y.C):aS Y.pr Y.w Y.K mg base bO (k+1) f fd kA (GO Y.C.th):=by
 refine F.ok CI (λvs H Q E h=>?_) λd A e s H vs Q E j h=>?_
 .obtain⟨x,i,k,rfl,_⟩:=h;rfl
 obtain⟨x,i,k,rfl,h,q⟩:=h;exists _,aJ (gM Z.t (pv 0)<|pv 1)<|aR<|gM Z.t (pv 0) mR
 ac_rfl
 refine{_,U,_,U,x,i,_,U,h,by decide,λa b=>{_,U,x,i,[("kind",.str k)],U,?_,by show 1<1000;decide,?_}}
 .rw[aC λz=>by rw[<-z,zb1]at b;cases b];exact zb1
 .have n:x≠a:=λz=>by rw[<-z,zb1]at b;cases b
  have:=q a (by rw[aC<|bS n]at b;exact b);rw[WW n,gR];exact this
def EG:bX iZ iZ (bP uR):=cF
def tJ(F:Fun Y.K "__init__" "Due.__init__" uR f fd)(Z:cZ Y.K Y.C):aS Y.pr Y.w Y.K mg base bO (k+1) f fd iZ (EZ Y.C.du):=by
 refine F.ok EG (λvs H Q E h=>?_) λb A i s H vs Q E j h=>?_
 .obtain⟨x,e,a,p,n,v,rfl,_⟩:=h;rfl
 obtain⟨x,e,a,p,n,v,rfl,h,q⟩:=h;exists _,aJ (gM Z.d (pv 0)<|pv 1)<|aJ (gM Z.d (pv 0)<|pv 2)<|aJ (gM Z.d (pv 0)<|pv 3)<|aR<|gM Z.d (pv 0)<|pv 4
 ac_rfl
 refine{_,U,_,U,x,e,_,U,h,by decide,_,U,_,U,x,e,_,U,zb1,by show 1<1000;decide,_,U,_,U,x,e,_,U,zb1,by show 2<1000;decide,_,U,_,U,x,e,_,U,zb1,by show 3<1000;decide,?_};rw[gR,gR,gR];exact q
structure gZ(Y:Ry)(mg:zZ->Kj iH)(base:Ka)(k:Kk)(x:zZ)(C:eH)(ps:Ki zZ)(sp:Sp):Prop where
 ex:∃g gd,aS Y.pr Y.w Y.K mg base bO k g gd ps sp/\Binds Y.K gd ps []/\Mk Y.K C g/\mg x\.ref C
end
inductive Fj(C:eH)(vs:Ki V)(H:Hp)(Q:VK):Prop
 | mk(k:zZ)(h:vs=[.str k])(q:∀x dx a,H x=Kr->H dx=Kr->H a=Kr->dx≠x->a≠x->a≠dx->Q (.ref x) (upd (upd (upd H dx<|.own x) a<|.dK []) x<|.ins C dx [("kind",.str k),("fields",.ref a)]))
inductive Am(C:eH)(vs:Ki V)(H:Hp)(Q:VK):Prop
 | mk(a p n:eH)(v:V)(h:vs=[v,.ref a,.ref p,.ref n])(q:∀x dx,H x=Kr->H dx=Kr->dx≠x->Q (.ref x) (upd (upd H dx<|.own x) x<|.ins C dx<|dF v a p n))
def LO(B:Ki V->Hp->VK->Prop)(t:TA):TE:=λb H Q=>t b H λvs a=>B vs a Q
section
variable{X:Cx}{Y:Ry}{k:Kk}{p pos:Nc}{e:Kc}{es:Ki Kc}{t:TA}{x:zZ}{C:eH}{ps:Ki zZ}{sp:Sp}{B:Ki V->Hp->VK->Prop}
def GF(M:gZ Y X.mg X.base k x C ps sp)(u:∀vs H Q,B vs H Q->∀x N,H x=Kr->H N=Kr->N≠x->sp (.ref x::vs) (upd (upd H N<|.own x) x<|.ins C N []) (λv O=>v=.non/\Q (.ref x) O) E0)(hr:Room (k+1) X.A)(i:Gl X x)(z:PA X (e::es) t)
  (J:X.prog=Y.pr:=by rfl) (l:X.w=Y.w:=by rfl) (d:X.K=Y.K:=by rfl) (f:(x == ("__debug__":zZ))=false:=by decide) (he:starEach (e::es) X.env=(Kt,eval e X.env)::starEach es X.env:=by rfl) (E:(backTo pos<|starEach es X.env).any (·.1)=false:=by rfl):PE X (.Call (.Name x p) (e::es) [] pos) (LO B t):=by
 obtain⟨g,gd,G,b,m,n⟩:=M.ex;rw[<-J,<-l,<-d]at G;rw[<-d]at b m;intro o s T H Q I h;refine yA<|LQ I i n ?_ f;refine Oq (h₀:=X.base) I.ok.mod.kin m.kp (bA (z pos o s T H _ I h) ?_) he E;rintro us L ⟨vs,Z,a,r,q⟩;exact{a.kIn,Jp m G hr b .nil NH a r λx N P h2 j=>by rw[fP];exact u vs Z Q q x N P h2 j}
end
def Bk(vs:Ki V)(H:Hp)(Q:VK)(h:Fj C vs H Q)(x i:eH)(m:H x=Kr)(l:H i=Kr)(f:i≠x):GO C (.ref x::vs) (upd (upd H i<|.own x) x<|.ins C i []) (λv j=>v=.non/\Q (.ref x) j) E0:=by
 obtain⟨k,rfl,q⟩:=h;refine{x,i,k,U,zb1,λa b=>{U,?_}};have d:a≠x:=λz=>by rw[z,zb1]at b;cases b
 rw[aC d]at b;have e:a≠i:=λz=>by rw[z,zb1]at b;cases b
 rw[aC e]at b;rw[WW<|bS d,gR];exact q x i a m l b f d e
def TL(vs:Ki V)(H:Hp)(Q:VK)(h:Am C vs H Q)(x d:eH)(i:H x=Kr)(f:H d=Kr)(b:d≠x):EZ C (.ref x::vs) (upd (upd H d<|.own x) x<|.ins C d []) (λv e=>v=.non/\Q (.ref x) e) E0:=by
 obtain⟨a,p,n,v,rfl,q⟩:=h;exists x,d,a,p,n,v,U,zb1,U;rw[gR];exact q x d i f b
abbrev LM:Kd:=top 31
abbrev tE:Kd:=top 33
abbrev MS:Kd:=top 34
def RunAt.few{Y:Ry}{R:Rx Y}(h:RunAt R H rn A S dn)(b:Bd G S)(f:A.δ[m]?\a):↑(cD A.θ<|S.ds.getD m [])<sizeLine:=by
 obtain⟨d,e,_⟩:=A2.back h.dc f;rw[fG,e];unfold cD;rw[aK];have:=b.ds d<|dC e;exact iD (by show ↑d<=_;lia)
def RunAt.thing{Y:Ry}{R:Rx Y}(h:RunAt R H rn A S dn){j:Kk}(b:j<S.ts.length):∃t f a,cV A.θ (.int j)=.ref t/\H t\.ins Y.C.th f [("kind",.str<|S.kind j),("fields",.ref a)]/\A.δ[S.dict j]?\a:=by
 obtain⟨t,e,f,a,l,i⟩:=h.im.th.get<|bJ b;have d:S.ts.getD (j:Kl).toNat ("",0)=S.ts[j]:=by show S.ts.getD j _=_;rw[fG,bJ b];rfl
 refine{t,f,a,?_,by unfold Rs.kind;rw[d];exact i,by unfold Rs.dict;rw[d];exact l};show Yg (A.θ.getD j 0)=_;rw[fG,e];rfl
section
variable{Y:Ry}{mg:zZ->Kj iH}{base:Ka}{f:eH}{fd:Ke}
def yz6:bX ["run","due","word","x","y"] dW (bP OC):=cF
def Cr(F:Fun Y.K "do_copy" "do_copy" OC f fd)(Z:cZ Y.K Y.C):aS Y.pr Y.w Y.K mg base bO (k+1) f fd dW (gH Y λd=>∃n a x y m,d=.op n a (.copy x y) m):=by
 refine F.ok yz6 (λvs H Q E h=>?_) λj A r s H vs Q E M h=>?_
 .obtain⟨R,G,u,A,S,L,d,rfl,_⟩:=h;rfl
 obtain⟨R,G,u,A,S,L,d,rfl,h,hd,⟨n,a,x,y,m,rfl⟩,i,O,q⟩:=h;have e:=eN M;exists _,aJ (hY (cA Z.d<|pv 1)<|dS (n:=3) rfl<|bK (gL 2 yz6.nd)<|bK (gL 3 yz6.nd)<|bK (gL 4 yz6.nd) dX)
  (aJ (eK e (cA Z.d<|pv 1) (pv 3) (hI e (cA Z.d<|pv 1) (pv 4) ⟨rfl,rfl,rfl,rfl⟩) rfl)<|aR<|bQ gI)
 ac_rfl
 cases hd with
 | @op _ _ _ _ p N B _ l o z J=>
  obtain⟨b,_,_⟩:=h.dict o;exists _,U,u,_,_,_,U,l,U,a,_,U,Ym z,U,_,_,U,_,_,U,_,_,U,U;exists _,U,u,_,_,_,U,l,U,B,U,.inl {_,.inl b},_,U,_,DGet.k (k:=(Ku y:aG)) b,_,U,u,_,_,_,U,l,U,_,U,B,_,U,DPut.k (k:=(Ku x:aG)) b<|h.few i o;rw[qR];have:=h.put o (h.got o y) x;exact q _ _ this.1 this.2
def xd2:bX ["run","due","word","x","field","y","thing"] dW (bP tE):=cF
def xI(F:Fun Y.K "do_put" "do_put" tE f fd)(Z:cZ Y.K Y.C):aS Y.pr Y.w Y.K mg base bO (k+1) f fd dW (gH Y λd=>∃n a x g y m,d=.op n a (.put x g y) m):=by
 refine F.ok xd2 (λvs H Q E h=>?_) λJ A N s H vs Q E hr h=>?_
 .obtain⟨R,T,u,A,S,X,d,rfl,_⟩:=h;rfl
 obtain⟨R,T,u,A,S,X,d,rfl,h,hd,⟨n,a,x,g,y,m,rfl⟩,z,hp,q⟩:=h;have r:=eN hr;exists _,aJ (hY (cA Z.d<|pv 1)<|dS (n:=4) rfl<|bK (gL 2 xd2.nd)<|bK (gL 3 xd2.nd)<|bK (gL 4 xd2.nd)<|bK (gL 5 xd2.nd) dX)
  (aJ (sL 6 xd2.nd<|hI r (cA Z.d<|pv 1) (pv 3) ⟨rfl,rfl,rfl,rfl⟩)<|aJ (cG (gO<|kL<|pv 6) (aR<|bQ aX) cS)<|aJ (eK r (cA Z.t<|pv 6) (pv 4) (hI r (cA Z.d<|pv 1) (pv 5) ⟨rfl,rfl,rfl,rfl⟩) rfl)<|aR<|bQ gI)
 ac_rfl
 cases hd with
 | @op _ _ _ _ p dx W _ M O P hb'=>
  obtain⟨l,_,_⟩:=h.dict O;exists _,U,u,_,_,_,U,M,U,a,_,U,Ym P,U,_,_,U,_,_,U,_,_,U,_,_,U,U;exists _,U,u,_,_,_,U,M,U,W,U,.inl {_,.inl l},_,U,_,DGet.k (k:=(Ku x:aG)) l;rw[qR];have i:∀A' H',RunAt R H' T A' (S.thing (S.get m x) λj=>(S.put (S.dict j) g<|S.get m y,Kr)).1 X->Im Y.C H H'->Q (aY (S.thing (S.get m x) λj=>(S.put (S.dict j) g<|S.get m y,Kr)).2) H':=q;show gA _ _ _ (Xs _ _<|some<|cV A.θ<|S.get m x) _;obtain e|⟨j,e,hj⟩:=h.got O x
  .rw[e]at i ⊢;exact{_,U,_,U,bH (λ_=>i A H h Im.refl) λc=>absurd rfl c}
  .rw[e]at i ⊢;obtain⟨t,L,b,I,B,o⟩:=h.thing hj;rw[I];obtain⟨G,_,_⟩:=h.dict o;refine{_,U,_,U,bI ?_};exists _,U,u,_,_,_,U,M,U,W,U,.inl {_,.inl l},_,U,_,DGet.k (k:=(Ku y:aG)) l,_,U,t,_,_,_,U,B,U,_,U,b,_,U,DPut.k (k:=(Ku g:aG)) G<|h.few z o;rw[qR];have:=h.put o (h.got O y) g;exact i _ _ this.1 this.2
def scTk:bX ["run","due","word","x","y","field","thing"] dW (bP MS):=cF
def CC(F:Fun Y.K "do_take" "do_take" MS f fd)(Z:cZ Y.K Y.C):aS Y.pr Y.w Y.K mg base bO (k+1) f fd dW (gH Y λd=>∃n a x y g m,d=.op n a (.take x y g) m):=by
 refine F.ok scTk (λvs H Q E h=>?_) λJ A O s H vs Q E hr h=>?_
 .obtain⟨R,T,u,A,S,X,d,rfl,_⟩:=h;rfl
 obtain⟨R,T,u,A,S,X,d,rfl,h,hd,⟨n,a,x,y,g,m,rfl⟩,B,hp,q⟩:=h;have o:=eN hr;exists _,aJ (hY (cA Z.d<|pv 1)<|dS (n:=4) rfl<|bK (gL 2 scTk.nd)<|bK (gL 3 scTk.nd)<|bK (gL 4 scTk.nd)<|bK (gL 5 scTk.nd) dX)
  (aJ (sL 6 scTk.nd<|hI o (cA Z.d<|pv 1) (pv 4) ⟨rfl,rfl,rfl,rfl⟩)<|aJ (cG (gO<|kL<|pv 6) (aR<|bQ aX) cS)<|aJ (eK o (cA Z.d<|pv 1) (pv 3) (hI o (cA Z.t<|pv 6) (pv 5) ⟨rfl,rfl,rfl,rfl⟩) rfl)<|aR<|bQ gI)
 ac_rfl
 cases hd with
 | @op _ _ _ _ p dx W _ M N P hb'=>
  obtain⟨l,_,_⟩:=h.dict N;exists _,U,u,_,_,_,U,M,U,a,_,U,Ym P,U,_,_,U,_,_,U,_,_,U,_,_,U,U;exists _,U,u,_,_,_,U,M,U,W,U,.inl {_,.inl l},_,U,_,DGet.k (k:=(Ku y:aG)) l;rw[qR];have i:∀A' H',RunAt R H' T A' (S.thing (S.get m y) λj=>(S.put m x<|S.get (S.dict j) g,Kr)).1 X->Im Y.C H H'->Q (aY (S.thing (S.get m y) λj=>(S.put m x<|S.get (S.dict j) g,Kr)).2) H':=q;show gA _ _ _ (Xs _ _<|some<|cV A.θ<|S.get m y) _;obtain e|⟨j,e,hj⟩:=h.got N y
  .rw[e]at i ⊢;exact{_,U,_,U,bH (λ_=>i A H h Im.refl) λc=>absurd rfl c}
  .rw[e]at i ⊢;obtain⟨t,L,b,I,G,r⟩:=h.thing hj;rw[I];obtain⟨z,_,_⟩:=h.dict r;refine{_,U,_,U,bI ?_};exists _,U,t,_,_,_,U,G,U,b,U,.inl {_,.inl z},_,U,_,DGet.k (k:=(Ku g:aG)) z,_,U,u,_,_,_,U,M,U,_,U,W,_,U,DPut.k (k:=(Ku x:aG)) l<|h.few B N;rw[qR];have:=h.put N (h.got r g) x;exact i _ _ this.1 this.2
def scMk:bX ["run","due","word","x","kind"] dW (bP LM):=cF
def DU(F:Fun Y.K "do_make" "do_make" LM f fd)(Z:cZ Y.K Y.C)(M:gZ Y mg base k "Thing" Y.C.th kA (GO Y.C.th)):aS Y.pr Y.w Y.K mg base bO (k+2) f fd dW (gH Y λd=>∃n a x y m,d=.op n a (.make x y) m):=by
 refine F.ok scMk (λvs H Q E h=>?_) λa6 A outer s H vs Q E hr h=>?_
 .obtain⟨R,rn,u,A,S,dn,d,rfl,_⟩:=h;rfl
 obtain⟨R,rn,u,A,S,dn,d,rfl,h,hd,⟨n,a,x,y,m,rfl⟩,j,hp,q⟩:=h;have hu:=eN hr;exists _,aJ (hY (cA Z.d<|pv 1)<|dS (n:=3) rfl<|bK (gL 2 scMk.nd)<|bK (gL 3 scMk.nd)<|bK (gL 4 scMk.nd) dX)
  (aJ (cG (cC (show OpR _ _ (jO Y.K Ks) from yK) (pv 4) (cA Z.r<|pv 0) rfl) (aR<|bQ aX) cS)<|aJ (eK hu (cA Z.d<|pv 1) (pv 3) (GF M Bk hr rfl<|aA (pv 4) aE) rfl)<|aR<|bQ gI)
 ac_rfl
 cases hd with
 | @op _ _ _ _ p dx na _ hu' hm hr' hb'=>
  exists _,U,u,_,_,_,U,hu',U,a,_,U,Ym hr',U,_,_,U,_,_,U,_,_,U,U;exists _,U,_,U,rn,_,_,_,U,h.run,U,A.he,_,U,.inl<|Yl h.he,U,jV _,_,U;show if (!gQ (.str y) (S.hr.map Yf))=Ks then _ else _
  rw[lW];have l:∀A' H',RunAt R H' rn A' (if y∈S.hr then(((S.make y).put m x<|.int S.ts.length),Kr) else(S,Kp "absent"):Rs×Kj zZ).1 dn->Im Y.C H H'->Q (aY (if y∈S.hr then(((S.make y).put m x<|.int S.ts.length),Kr) else(S,Kp "absent"):Rs×Kj zZ).2) H':=q
  by_cases c:y∈S.hr
  .rw[bF c]at l;rw[dP c];refine bI {_,U,y,U,λt i b X N a5 n1 n2 n3=>?_};have g1:=h.keep0<|Yj (o:=.own t) N;have a4:upd H i (.own t) b=none:=by rw[aC n3];exact a5
   have T:RunAt R (upd (upd H i<|.own t) b<|.dK []) rn (A.dic b) (S.dic []) dn/\Im Y.C (upd H i<|.own t) (upd (upd H i<|.own t) b<|.dK []):=g1.dic (d:=[]) a4 λz hz=>nomatch hz;have O:upd (upd H i<|.own t) b (.dK []) t=none:=by rw[aC<|bS n2,aC<|bS n1];exact X
   have B:RunAt R (upd (upd (upd H i<|.own t) b<|.dK []) t<|.ins Y.C.th i [("kind",.str y),("fields",.ref b)]) rn ((A.dic b).thg t) (S.make y) dn:=(T.1.keep0<|Yj (o:=.ins Y.C.th i [("kind",.str y),("fields",.ref b)]) O).thg (k:=y) (m:=S.ds.length) zb1 (by
    show(A.δ++[b])[S.ds.length]?=Kp b;rw[h.dc.len,jU<|aZ _,qV];rfl)
   have I:Im Y.C H (upd (upd (upd H i<|.own t) b<|.dK []) t<|.ins Y.C.th i [("kind",.str y),("fields",.ref b)]):=((Im.new N).trans T.2).trans<|Im.new O;have P:=I _ _ hu' Y.nd;have J:((A.dic b).thg t).δ[m]?\na:=kF hm;generalize upd (upd (upd H i<|.own t) b<|.dK []) t (.ins Y.C.th i [("kind",.str y),("fields",.ref b)])=H3 at B I P;have W:VOk (S.make y).ts.length (.int S.ts.length):=.inr ⟨_,rfl,by show _<↑(S.ts++[_]);rw[bN];exact qX _⟩;have e:cV ((A.dic b).thg t).θ (.int S.ts.length)=.ref t:=by
    show Yg ((A.θ++[t]).getD S.ts.length 0)=_;rw[h.im.th.len,fG,jU<|aZ _,qV];rfl
   obtain⟨ha,_,_⟩:=B.dict J;have L:=B.put J W x;rw[e]at L;refine{_,U,u,_,_,_,U,P,U,_,U,na,_,U,DPut.k (k:=(Ku x:aG)) ha ?_,l _ _ L.1<|I.trans L.2};have b3:Bd R.G (S.make y):=⟨j.td,j.lg,j.hr,λd hd=>by
    obtain hd|hd:=wz2.mp hd
    .exact j.ds d hd
    .rw[wx1.mp hd];exact bW _,j.hn,λz hz=>by
    obtain hz|hz:=wz2.mp hz
    .exact j.ts z hz
    .rw[wx1.mp hz];exact j.hn y c⟩
   exact B.few b3 J
  .rw[bC c]at l;rw[gE c];exact bH (λ_=>l A H h Im.refl) λc=>absurd rfl c
end
abbrev vZ:Kd:=top 41
abbrev tH:Kd:=top 30
abbrev wO:Kd:=top 29
inductive BW(Y:Ry)(vs:Ki V)(H:Hp)(Q:VK):Prop
 | mk(R:Rx Y)(rn u:eH)(A:Ra)(S:Rs)(dn:Kk)(x:zZ)(g:Kj zZ)(s m:Kk)(h1:vs=[.ref rn,.ref u])(h2:RunAt R H rn A S dn)(h3:DuAt Y.C R.Z A.δ H (.back x g s m) u)(h5:Bd R.G S)(h7:∀H',RunAt R H' rn A (zH S x g s m) dn->Im Y.C H H'->Q .non H')
def JV(Y:Ry):Sp:=λvs H Q _=>BW Y vs H Q
inductive DH(Y:Ry)(vs:Ki V)(H:Hp)(Q:VK):Prop
 | mk(R:Rx Y)(rn:eH)(A:Ra)(S:Rs)(dn:Kk)(h1:vs=[.ref rn])(h2:RunAt R H rn A S dn)(h3:∀H',RunAt R H' rn A (S.num (S.rd+1) S.uw S.lk) dn->Im Y.C H H'->Q (.int<|S.pick R.G) H')
def FY(Y:Ry):Sp:=λvs H Q _=>DH Y vs H Q
section
variable{Y:Ry}{mg:zZ->Kj iH}{base:Ka}{f:eH}{fd:Ke}
def xp2:bX ["run","due","word","x","gives","names"] dW (bP vZ):=cF
def uD(F:Fun Y.K "end_call" "end_call" vZ f fd)(Z:cZ Y.K Y.C):aS Y.pr Y.w Y.K mg base bO (k+1) f fd dW (JV Y):=by
 refine F.ok xp2 (λvs H Q E h=>?_) λO A outer s H vs Q E hr h=>?_
 .obtain⟨R,P,u,A,S,dn,x,g,s,m,rfl,_⟩:=h;rfl
 obtain⟨R,P,u,A,S,dn,x,g,s,m,rfl,h,hd,G,q⟩:=h;have l:=eN hr;exists _,aJ (hY (cA Z.d<|pv 1)<|dS (n:=4) rfl<|bK (gL 2 xp2.nd)<|bK (gL 3 xp2.nd)<|bK (gL 4 xp2.nd)<|bK (gL 5 xp2.nd) dX)
  (aJ (eK l (cA Z.d<|pv 1) (pv 3) (BG (gO<|kL<|pv 4) gI<|hI l (pv 5) (pv 4) ⟨rfl,rfl,rfl,rfl⟩) rfl)<|aR<|zT (g:=λi j=>i-j) Z.r (pv 0) aO tY)
 ac_rfl
 cases hd with
 | @back _ _ a _ p dx na X _ _ W hm hs hr'=>
  obtain⟨L,_,_⟩:=h.dict hm;obtain⟨e,_,_⟩:=h.dict hs;exists _,U,u,_,_,_,U,W,U,a,_,U,Ym hr',U,_,_,U,_,_,U,_,_,U,_,_,U,U;have o:∀v,VOk S.ts.length v->(∀T,RunAt R T P A ((S.put m x v).num S.rd (S.uw-1) S.lk) dn->Im Y.C H T->Q .non T)->RT Y.C.du "names" (.ref u) H λM H1=>nV 3 [Kp<|.ref P,Kp<|.ref u,Kp<|.str "back",Kp<|.str x,Kp<|aY g,Kp<|.ref X] H1 λN H2=>∃a H3,M=.ref a/\DPut H2 a N (cV A.θ v) H3/\nV 0 [Kp<|.ref P,Kp<|.ref u,Kp<|.str "back",Kp<|.str x,Kp<|aY g,Kp<|.ref X] H3 λz J=>UZ Y.C.rn "under_way" (λi j=>i-j) (tC<|.int 1) [Kp<|.ref P,Kp<|.ref u,Kp<|.str "back",Kp<|.str x,Kp<|aY g,Kp<|.ref X] ⟨λ_ T=>Q .non T,Q,λ_ _=>Kn,λ_ _=>Kn⟩ z J:=λv I q=>by
   have b:=h.put hm I x;have B:=b.1.num S.rd dn (S.uw-1) S.lk;exact{u,_,_,_,U,W,U,_,U,na,_,U,DPut.k (k:=(Ku x:aG)) L<|h.few G hm,_,U,P,_,_,_,U,b.1.run,U,_,_,_,U,b.1.run,by show 12<1000;decide,q _ B.1<|b.2.trans B.2}
  cases g with
  | none=>exact{_,U,_,U,bH (λ_=>{_,U,o .non (.inl rfl) q}) λc=>absurd rfl c}
  | some y=>
   refine{_,U,_,U,bI {_,U,X,U,.inl {_,.inl e},_,U,_,DGet.k (k:=(Ku y:aG)) e,?_}};rw[qR];exact{_,U,o _ (h.got hs y) q}
def scNxt:bX ["run","at"] ["run"] (bP tH):=cF
def vY(F:Fun Y.K "next_choice" "next_choice" tH f fd)(Z:cZ Y.K Y.C)(b:mg "len"=Kr):aS Y.pr Y.w Y.K mg base bO (k+1) f fd ["run"] (FY Y):=by
 refine F.ok scNxt (λvs H Q E h=>?_) λd A l s H vs Q E n h=>?_
 .obtain⟨R,e,A,S,m,rfl,_⟩:=h;rfl
 obtain⟨R,e,A,S,m,rfl,h,q⟩:=h;exists _,aJ (sL 1 scNxt.nd<|cA Z.r<|pv 0)
  (aJ (zT (g:=λi j=>i+j) Z.r (pv 0) aO HK)<|aR<|bQ<|BG (cC yU (pv 1) (eM jE rfl b iW<|aA (cA Z.r<|pv 0) aE)<|cI _) (eT (cA Z.r<|pv 0)<|pv 1) aO)
 ac_rfl
 have g:=h.num (S.rd+1) m S.uw S.lk;refine{_,U,e,_,_,_,U,h.run,U,_,U,e,_,_,_,U,h.run,U,_,_,_,U,h.run,by show 12<1000;decide,?_};exists _,U,_,U,e,_,_,_,U,g.1.run,U,A.ch,_,U,.inr<|Ym g.1.im.ch,_,_,U,U,_,U;have a:=q _ g.1 g.2;unfold Rs.pick at a;rw[aK,fG]at *;refine bH (λc=>?_) λc=>?_
 .have c:S.rd<R.G.ch.length:=by have:=cT c;lia
  rw[bJ c]at a;exact{_,U,e,_,_,_,U,g.1.run,U,_,U,A.ch,_,_,_,U,U,Ym g.1.im.ch,kW (by rw[bR,bJ c];rfl),a}
 .have c:R.G.ch.length<=S.rd:=Uz λz=>c (dP ∅)
  rw[Od c]at a;exact a
end
def WM{K:Fq}{a:eH}{xs:Ki V}{g:TG}{s:TS}{D:dY}{h:St}{H:Hp}(b:Kk->St->Hp->Prop)(h0:b 0 h H)(hl:∀i h H,i<=↑xs->b i h H->SqT K H a xs)
  (hs:∀i x h H,xs.reverse[i]?\x->b i h H->g x h H λn o=>s {D with nx:=b<|i+1,ct:=b<|i+1,bk:=D.nx} n o) (hd:∀h H,b ↑xs h H->D.nx h H):
  ∃W:Kk->Kk->St->Hp->Prop,(∃m,W 0 m h H)/\∀i m h H,W i m h H->
   ((lA K a ↑xs).stop i H/\D.nx h H)\/((lA K a ↑xs).go i H/\∃N:St->Hp->Prop,(∀j l,N j l->∃m',m'<m/\W (i+1) m' j l)/\∀x l,(lA K a ↑xs).yld i H x l->g x h l λn o=>s {D with nx:=N,ct:=N,bk:=D.nx} n o):=by
 exists λi m h H=>m=↑xs-i/\i<=↑xs/\b i h H,{↑xs,by simp,bW _,h0};rintro i m h H ⟨rfl,r,p⟩;have q:=hl i h H r p
 by_cases d:i<↑xs
 .refine .inr ⟨⟨xs,xs.reverse[i]'(by rw[iR];exact d),q,rfl,bJ _⟩,b<|i+1,λj l f=>⟨↑xs-(i+1),by(clear r;lia),rfl,d,f⟩,λx l y=>?_⟩;obtain⟨e,y⟩:=y;subst e;exact hs i x h _ (y xs q) p
 .have e:i=↑xs:=by lia
  subst e;exact .inl {{xs,q,U,aZ _},hd h H p}
def NO(Y:Ry)(R:Rx Y)(δ:Ki eH)(m:Kk)(H:Hp)(d:Du)(e:eH):Prop:=∃(n:Kk)(a p:eH),H e\.tup [.int n,.ref a,.ref p]/\∀(f u h:eH)(b:Hp),δ[m]?\f->Tup H b->b u\(.ins Y.C.du h<|dF (.int n) a p f)->DuAt Y.C R.Z δ b d u
def Ens.at{Y:Ry}{R:Rx Y}(h:Ens R.Z H l es):A2 (NO Y R δ m H) (l.dues m) es:=by
 induction h with
 | nil=>exact .nil
 | op h j i A _ e=>exact .cons {_,_,_,h,λd u o q a f b=>.op b a (f _ _ i) A} e
 | call h j i x hl s _ e=>exact .cons {_,_,_,h,λd u o q a f b=>.call b a (f _ _ i) (f _ _ x) hl s} e
 | either h j i n z r w _ _ _ e=>exact .cons {_,_,_,h,λd u o q a f b=>.either b a (f _ _ i) (f _ _ j) (f _ _ n) (f _ _ z) (r.keep f)<|w.keep f} e
 | again h j i n r _ _ e=>exact .cons {_,_,_,h,λd u o q a f b=>.again b a (f _ _ i) (f _ _ j) (f _ _ n)<|r.keep f} e
inductive BN(Y:Ry)(vs:Ki V)(H:Hp)(Q:VK):Prop
 | mk(R:Rx Y)(rn l na:eH)(A:Ra)(S:Rs)(dn m:Kk)(L:LL)(es:Ki eH)(h1:vs=[.ref rn,.ref l,.ref na])(h2:RunAt R H rn A S dn)(h3:H l\(.tup<|es.map Yg))(h4:Ens R.Z H L es)(h5:A.δ[m]?\na)(h6:S.td.length+L.size<=900000)(h7:∀us H',RunAt R H' rn (A.pop us) (S.push L m) dn->Im Y.C H H'->Q .non H')
def zL(Y:Ry):Sp:=λvs H Q _=>BN Y vs H Q
inductive MO{Y:Ry}(R:Rx Y)(H:Hp)(rn l na:eH)(A:Ra)(S:Rs)(dn:Kk)(ds:Ki Du)(i:Kk)(σ:St)(Hx:Hp):Prop
 | mk(x y z:Kj V)(us:Ki eH)(h1:σ=[Kp<|.ref rn,Kp<|.ref l,Kp<|.ref na,x,y,z])(h2:RunAt R Hx rn (A.pop us) (S.pop<|ds.drop (↑ds-i)++S.td) dn)(h3:Im Y.C H Hx)
abbrev jI:Ki zZ:=["run","rows","names"]
section
variable{Y:Ry}{mg:zZ->Kj iH}{base:Ka}{f:eH}{fd:Ke}
def xx7:bX ["run","rows","names","number","row","inners"] jI (bP wO):=cF
def vG(F:Fun Y.K "add_due" "add_due" wO f fd)(Z:cZ Y.K Y.C)(M:gZ Y mg base k "Due" Y.C.du iZ (EZ Y.C.du))(mr:mg "reversed"=Kr):aS Y.pr Y.w Y.K mg base bO (k+2) f fd jI (zL Y):=by
 refine F.ok xx7 (λvs H Q E h=>?_) λa3 A outer s H vs Q E hr h=>?_
 .obtain⟨R,rn,l,b,A,S,dn,m,L,es,rfl,_⟩:=h;rfl
 obtain⟨R,rn,l,b,A,S,dn,m,L,es,rfl,h,hl,hE,hm,hz,q⟩:=h;exists _,aR<|eU dU rfl (VH rfl mr<|aA (pv 1) aE) (dS (n:=3) rfl<|bK (gL 3 xx7.nd)<|bK (gL 4 xx7.nd)<|bK (gL 5 xx7.nd) dX)<|aR<|dH<|eW eQ fU fS fL (cA Z.r<|pv 0)<|aA (GF M TL hr rfl<|aA (pv 3)<|aA (pv 4)<|aA (pv 5)<|aA (pv 2) aE) aE
 ac_rfl
 have N:=hE.at (Y:=Y) (δ:=A.δ) (m:=m);have a0:=N.len;have a4:=xU m L;exists _,U,l,_,U,Ym hl;refine WM (xs:=es.map Yg) (MO R H rn l b A S dn<|L.dues m) {_,_,_,A.us,U,?_,Im.refl} ?_ ?_ ?_
 .rw[Kk.sub_zero,yX];exact h
 .rintro i σ z hi ⟨_,_,_,_,_,_,f⟩;exact Ym<|f.tup _ _ hl
 .rintro i x σ z B ⟨_,_,_,us,rfl,g,f⟩;rw[<-zI,bR,wx3]at B;obtain⟨e,he,rfl⟩:=B;have hi:i<↑es:=by rw[<-iR];exact(ww4.mp he).1
  rw[Oc hi]at he;obtain⟨d,hd,n,a,p,h1,h2⟩:=A2.back N he;have t:=f.tup;exists e,_,U,Ym<|t _ _ h1,U,_,_,U,_,_,U,_,_,U,U;refine{_,U,rn,_,_,_,U,g.run,U,.inl {U,_,Yl g.to},_,U,_,U,_,U,_,U,a,p,b,_,U,λu j O T P=>?_};have J:=g.keep0 ((Yj (o:=.own u) T).trans<|Yj (o:=.ins Y.C.du j<|dF (.int n) a p b)<|by rw[aC<|bS P];exact O);have G:Im Y.C z (upd (upd z j<|.own u) u<|.ins Y.C.du j<|dF (.int n) a p b):=(Im.new T).trans (Im.new<|by rw[aC<|bS P];exact O);have X:=h2 b u j _ hm (t.trans G.tup)<|zb1 (H:=upd z j<|.own u) (o:=.ins Y.C.du j<|dF (.int n) a p b);have W:=J.due X;have ed:(L.dues m).drop (↑(L.dues m)-(i+1))=d::(L.dues m).drop (↑(L.dues m)-i):=by
   have I:↑(L.dues m)-(i+1)<↑(L.dues m):=by lia
   rw[rL I,show(L.dues m).length-(i+1)+1=↑(L.dues m)-i by lia]
   congr 1
   have:↑es-1-i=↑(L.dues m)-(i+1):=by lia
   rw[this,bJ I]at hd;exact gX hd
  refine{_,_,_,U,U,J.to,iD ?_,_,_,_,u::us,U,?_,(f.trans G).trans W.2}
  .rw[aK,iR,<-g.im.ud.len];show((L.dues m).drop _++S.td).length<=_;rw[bN,nZ];lia
  .rw[ed];exact W.1
 .rintro σ z ⟨_,_,_,us,rfl,g,f⟩;rw[aK,<-a0,qV,wY]at g;exact q us z g f
end
abbrev OV:Kd:=top 36
abbrev JM:Kd:=top 37
def Du.size:Du->Kk
 | .either _ _ p q _=>p.size+q.size
 | .again _ _ p _=>p.size
 | _=>0
inductive Jb{Y:Ry}(R:Rx Y)(H:Hp)(rn u:eH)(tv:V)(A:Ra)(S:Rs)(dn:Kk)(p:LL)(m i:Kk)(σ:St)(Hx:Hp):Prop
 | mk(x:Kj V)(us:Ki eH)(h1:σ=[Kp<|.ref rn,Kp<|.ref u,Kp tv,x])(h2:RunAt R Hx rn (A.pop us) (pushN p m i S) dn)(h3:Im Y.C H Hx)
def Hj:∀(i:Kk)(S:Rs),(pushN p m i S).td.length<=S.td.length+i*p.size:=λi=>Ln
 (λS=>by rw[Kk.zero_mul];exact aZ _)
 (λi a S=>by
  have e:=a<|S.push p m;have d:=xU m p;have b:(S.push p m).td.length=↑(p.dues m)+S.td.length:=bN;show(pushN p m i<|S.push p m).td.length<=_;rw[Wk];lia) i
def Cm:∀(i:Kk)(S:Rs),pushN p m (i+1) S=(pushN p m i S).push p m:=λi=>Ln
 (λS=>U)
 (λi a S=>a<|S.push p m) i
section
variable{Y:Ry}{mg:zZ->Kj iH}{base:Ka}{f:eH}{fd:Ke}
def scEi:bX ["run","due","rows","others"] dW (bP OV):=cF
def BC{k:Kk}(F:Fun Y.K "do_either" "do_either" OV f fd)(Z:cZ Y.K Y.C)(r:aV Y.pr Y.w Y.K mg base k "next_choice" ["run"] (FY Y))(x:aV Y.pr Y.w Y.K mg base k "add_due" jI (zL Y)):aS Y.pr Y.w Y.K mg base bO (k+1) f fd dW (gH Y λd=>∃n a p q m,d=.either n a p q m/\p.size+q.size<=80):=by
 refine F.ok scEi (λvs H Q E h=>?_) λI A M s H vs Q E hr h=>?_
 .obtain⟨R,J,u,A,S,L,d,rfl,_⟩:=h;rfl
 obtain⟨R,J,u,A,S,L,d,rfl,h,hd,⟨n,a,l,X,m,rfl,hz⟩,o,hp,q⟩:=h;exists _,aJ (hY (cA Z.d<|pv 1)<|dS (n:=2) rfl<|bK (gL 2 scEi.nd)<|bK (gL 3 scEi.nd) dX)
  (aJ (dH<|bD x hr rfl<|aA (pv 0)<|aA (BG (cC eA (bD r hr rfl<|aA (pv 0) aE) aO<|cI _) (pv 2)<|pv 3)<|aA (cA Z.d<|pv 1) aE)<|aR<|bQ gI)
 ac_rfl
 cases hd with
 | @either _ _ _ _ pp dx T l1 l2 v _ _ e1 e2 W P hr' N h1 h2 s1 s2=>
  exists _,U,u,_,_,_,U,W,U,pp,_,U,Ym N,U,_,_,U,_,_,U,U;refine{_,U,_,U,R,J,A,S,L,U,h,λH1 g b=>{U,_,U,?_}};have t:=b.tup;have j:=b _ _ W Y.nd;have e:∀A' H',RunAt R H' J A' ((S.num (S.rd+1) S.uw S.lk).push (if S.pick R.G=0 then l else X) m) L->Im Y.C H H'->Q .non H':=q;have B:=o.td;refine bH (λc=>?_) λc=>?_
  .have c:S.pick R.G=0:=Yh.inj<|cT c;rw[bF c]at e;exact{_,U,_,U,u,_,_,_,U,j,U,R,J,l1,T,A,_,L,m,l,e1,U,g,t _ _ h1,s1.keep t,P,by show S.td.length+_<=_;lia,λus H' O i=>e _ H' O<|b.trans i}
  .have c:S.pick R.G≠0:=λz=>c (dP<|by rw[z])
   rw[bC c]at e;exact{_,U,_,U,u,_,_,_,U,j,U,R,J,l2,T,A,_,L,m,X,e2,U,g,t _ _ h2,s2.keep t,P,by show S.td.length+_<=_;lia,λus H' O i=>e _ H' O<|b.trans i}
def scAg:bX ["run","due","times","turn"] dW (bP JM):=cF
def EW{k:Kk}(F:Fun Y.K "do_again" "do_again" JM f fd)(Z:cZ Y.K Y.C)(I:aV Y.pr Y.w Y.K mg base k "next_choice" ["run"] (FY Y))(J:aV Y.pr Y.w Y.K mg base k "add_due" jI (zL Y))(B:mg "min"=Kr)(L:mg "range"=Kr)(mt:∃tk,mg "MOST_TIMES"\.int 9 tk):aS Y.pr Y.w Y.K mg base bO (k+1) f fd dW (gH Y λd=>∃n a p m,d=.again n a p m/\p.size<=80):=by
 refine F.ok scAg (λvs H Q E h=>?_) λP A outer s H vs Q E hr h=>?_
 .obtain⟨R,W,u,A,S,X,d,rfl,_⟩:=h;rfl
 obtain⟨R,W,u,A,S,X,d,rfl,h,hd,⟨n,a,p,m,rfl,hz⟩,r,hp,q⟩:=h;obtain⟨tk,mt⟩:=mt;exists _,aJ (sL 2 scAg.nd<|eM (NY U) rfl B (by rfl')<|aA (bD I hr rfl<|aA (pv 0) aE)<|aA (mI (v:=.int 9) rfl mt {_,U}) aE)
  (aJ (eU dU rfl (mX rfl L<|aA (pv 2) aE) (gL 3 scAg.nd)<|aR<|dH<|bD J hr rfl<|aA (pv 0)<|aA (eT (cA Z.d<|pv 1) aO)<|aA (cA Z.d<|pv 1) aE)<|aR<|bQ gI)
 ac_rfl
 cases hd with
 | @again _ _ _ _ pp dx na l1 v _ e1 hu hm hr' hp' h1 s1=>
  refine{_,U,R,W,A,S,X,U,h,λH1 g x=>?_};have O:-100<=S.pick R.G:=by
   unfold Rs.pick;rw[fG];cases e:R.G.ch[S.rd]? with
   | none=>show(-100:Kl)<=0;decide
   | some c=>exact hp.choose_spec.choose_spec.ch c<|dC e
  exists _,_,U;have b:∀A' H',RunAt R H' W A' (pushN p m (min (S.pick R.G) 9).toNat<|S.num (S.rd+1) S.uw S.lk) X->Im Y.C H H'->Q .non H':=q;have e:(if 9<S.pick R.G then 9 else S.pick R.G)=min (S.pick R.G) 9:=by split <;> lia
  rw[e];have M:min (S.pick R.G) 9<=9/\-100<=min (S.pick R.G) 9:=by lia
  generalize min (S.pick R.G) 9=tv at b M;have N:=r.td;refine{_,U,tv,U,∅,∅,?_};refine uB (lo:=0) (n:=tv.toNat) (Jb R H W u (.int tv) A (S.num (S.rd+1) S.uw S.lk) X p m) {_,A.us,U,g,x} ?_ ?_
  .rintro i σ l hi ⟨_,us,rfl,g,f⟩;have t:=f.tup;have j:=f _ _ hu Y.nd;have hl:=Hj (p:=p) (m:=m) i<|S.num (S.rd+1) S.uw S.lk;have T:i*p.size<=9*80:=Kk.mul_le_mul ∅ hz;refine{_,U,_,U,u,_,_,_,U,j,U,pp,_,_,_,U,U,Ym<|t _ _ hp',U,_,U,u,_,_,_,U,j,U,R,W,l1,na,_,_,X,m,p,e1,U,g,t _ _ h1,s1.keep t,hm,?_,λo H' g' z=>?_}
   .have:(S.num (S.rd+1) S.uw S.lk).td.length=S.td.length:=rfl;lia
   .exact⟨_,o,rfl,by rw[Cm];exact g',f.trans z⟩
  .rintro σ l ⟨_,us,rfl,g,f⟩;exact b _ l g f
end
abbrev vH:Kd:=top 20
abbrev NT:Kd:=top 21
abbrev OW:Kd:=top 38
def VL{K:Fq}{pt:Hp->eH->V->V->(Hp->Prop)->Prop}{a D:eH}{xs:Ki V}{g:TG}{tt:TT}{z te:TE}{u:St}{H0:Hp}{Q:Hp->Prop}(d:Kk->St->Hp->Prop)(h0:d 0 u H0)(hl:∀i r H,i<=↑xs->d i r H->SqT K H a xs)
  (hs:∀i x r H,xs[i]?\x->d i r H->g x r H λs B=>tt s B λb w=>if b=Ks then z s w λl j=>te s j λv o=>pt o D l v λn=>d (i+1) s n else d (i+1) s w) (hd:∀r H,d ↑xs r H->Q H):DV pt (mF K a) g tt z te D u H0 Q:=by
 exists λi m r H=>m=↑xs-i/\i<=↑xs/\d i r H,{↑xs,by simp,bW _,h0};rintro i m r H ⟨rfl,A,p⟩;have q:=hl i r H A p
 by_cases f:i<↑xs
 .refine .inr ⟨⟨xs,xs[i],q,bJ f⟩,d<|i+1,λC E h=>⟨↑xs-(i+1),by(clear A;lia),rfl,f,h⟩,λx E y=>?_⟩;obtain⟨e,y⟩:=y;subst e;exact hs i x r _ (y xs q) p
 .have e:i=↑xs:=by lia
  subst e;exact .inl {{xs,q,aZ _},hd r H p}
inductive DJ(vs:Ki V)(H:Hp)(Q:VK):Prop
 | mk(md:eH)(h1:vs=[.ref md])(h2:H md\.tup [])(h3:∀a,H a=Kr->Q (.ref a) (upd H a<|.dK []))
def IN:Sp:=λvs H Q _=>DJ vs H Q
inductive MY(vs:Ki V)(H:Hp)(Q:VK):Prop
 | mk(md:eH)(v:V)(h1:vs=[.ref md,v])(h2:H md\.tup [])(h3:∀a H',FrS [] H H'->H' a\.tup []->Q (.ref a) H')
def tL:Sp:=λvs H Q _=>MY vs H Q
def BJ:bX ["made"] ["made"] (bP vH):=cF
def rR(F:Fun K "forms_of" "forms_of" vH f fd):aS P w K mg base bO (k+1) f fd ["made"] IN:=by
 refine F.ok BJ (λvs H Q E h=>?_) λl A m s H vs Q E u h=>?_
 .obtain⟨r,rfl,_⟩:=h;rfl
 obtain⟨r,rfl,h,q⟩:=h;have b:(["number","form","names"]:Ki zZ).Nodup:=by rfl'
 exists _,aR<|bQ<|VB (hp:=ME) (N':=["number","form","names"]) (src:=[Kr,Kr,Kr]) rfl fJ (iC<|pv 0) (g:=fC K 3<|eR (cJ 0)<|eR (cJ 1)<|eR (cJ 2) eV) (λ_ _ _ _=>dS (n:=3) rfl<|bK (gL 0 b)<|bK (gL 1 b)<|bK (gL 2 b) dX) (λ_ _ _ _=>gW) (λ_ _ _ _=>pv 0) λ_ _ _ _=>pv 1
 ac_rfl
 refine{_,U,r,U,{_,Ym h},λD d=>?_};exact VL (xs:=[]) (λ_ _ a=>a=upd H D (.dK [])) rfl (λi o a _ e=>by rw[e];exact Ym<|(Yn d) _ _ h) (λi x o a j=>nomatch j) λo a e=>by rw[e];exact q D d
def scTb:bX ["made","came","found","number","form","names"] ["made","came"] (bP NT):=cF
def zQ(F:Fun K "turned_back" "turned_back" NT f fd)(m:mg "tuple"=Kr):aS P w K mg base bO (k+1) f fd ["made","came"] tL:=by
 refine F.ok scTb (λvs H Q E h=>?_) λo A u s H vs Q E B h=>?_
 .obtain⟨z,v,rfl,_⟩:=h;rfl
 obtain⟨z,v,rfl,h,q⟩:=h;exists _,aJ (sL 2 scTb.nd<|cU aE)
  (aJ (eU dU rfl (iC<|pv 0) (dS (n:=3) rfl<|bK (gL 3 scTb.nd)<|bK (gL 4 scTb.nd)<|bK (gL 5 scTb.nd) dX)<|aR yC)<|aR<|bQ<|fF jA rfl m (by rfl')<|aA (pv 2) aE)
 ac_rfl
 refine{bW _,λl hl=>{_,U,z,U,{_,Ym<|(Yn hl) _ _ h},?_}};refine lU (xs:=[]) (λ_ r b=>r=[Kp<|.ref z,Kp v,Kp<|.ref l,Kr,Kr,Kr]/\b=upd H l (.lst [])) ⟨rfl,rfl⟩ (λi r b _ e=>by rw[e.2];exact Ym<|(Yn hl) _ _ h) (λi x r b j=>nomatch j) ?_;rintro r b ⟨rfl,rfl⟩;exact{_,U,l,_,U,.inl {Yl zb1,λa d=>q a _ ((Yj hl).trans<|Yj d) zb1}}
def Ra.mad(A:Ra)(a:eH):Ra:={A with md:=a}
def Ra.frm(A:Ra)(a:eH):Ra:={A with fo:=a}
section
variable{Y:Ry}{R:Rx Y}{H:Hp}{rn:eH}{A:Ra}{S:Rs}{dn:Kk}
theorem RunAt.mad(h:RunAt R H rn A S dn)(d:H a\.tup []):RunAt R (upd H rn<|.ins Y.C.rn A.dx<|rF R.pg (A.mad a) S.rd dn S.uw S.lk) rn (A.mad a) S dn/\Im Y.C H (upd H rn<|.ins Y.C.rn A.dx<|rF R.pg (A.mad a) S.rd dn S.uw S.lk):=by
 have f:Im Y.C H (upd H rn<|.ins Y.C.rn A.dx<|rF R.pg (A.mad a) S.rd dn S.uw S.lk):=.upd h.run λz=>z rfl;have nd:=h.nd;simp only[vc1,wx0,fZ]at nd;obtain⟨⟨m,e,j,b,l⟩,_⟩:=nd;have i:=h.im.keep f;exact{{im:={f.tup _ _ d,i.ch,i.ud,i.lg,i.th,i.bo},run:=zb1,fo:=(aC<|bS m).trans h.fo,he:=(aC<|bS e).trans h.he,to:=(aC<|bS j).trans h.to,lo:=(aC<|bS b).trans h.lo,dc:=tN h.dc l,dk:=h.dk,nd:=h.nd,kp:=oW h.kp<|h.fr _<|.head _,fr:=h.fr},f}
theorem RunAt.frm(h:RunAt R H rn A S dn)(d:H a=Kr):RunAt R (upd (upd H a<|.dK []) rn<|.ins Y.C.rn A.dx<|rF R.pg (A.frm a) S.rd dn S.uw S.lk) rn (A.frm a) S dn/\Im Y.C H (upd (upd H a<|.dK []) rn<|.ins Y.C.rn A.dx<|rF R.pg (A.frm a) S.rd dn S.uw S.lk):=by
 have g:=h.keep0<|Yj (o:=.dK []) d;have f:Im Y.C (upd H a<|.dK []) (upd (upd H a<|.dK []) rn<|.ins Y.C.rn A.dx<|rF R.pg (A.frm a) S.rd dn S.uw S.lk):=.upd g.run λz=>z rfl;have M:R.H0 a=none:=by
  cases e:R.H0 a with
  | none=>rfl
  | some o=>rw[h.kp a o e]at d;cases d
 have r:rn≠a:=aQ h.run d;have s:A.he≠a:=aQ h.he d;have x:A.to≠a:=aQ h.to d;have u:A.lo≠a:=aQ h.lo d;have w:a∉A.δ:=λz=>by
  obtain⟨i,L⟩:=vc7.mp z;rw[(h.dict L).1]at d;cases d
 have nd:=h.nd;simp only[vc1,wx0,fZ]at nd;obtain⟨⟨G,m,n,l,q⟩,⟨J,E,I,B⟩,nd⟩:=nd;have i:=g.im.keep f;refine{{im:={i.md,i.ch,i.ud,i.lg,i.th,i.bo},run:=zb1,fo:=(aC<|bS r).trans zb1,he:=(aC<|bS m).trans g.he,to:=(aC<|bS n).trans g.to,lo:=(aC<|bS l).trans g.lo,dc:=tN g.dc q,dk:=h.dk,nd:=?_,kp:=oW g.kp<|h.fr _<|.head _,fr:=λb j=>?_},(Im.new d).trans f}
 .show(rn::a::A.he::A.to::A.lo::A.δ).Nodup;simp only[vc1,wx0,fZ];exact{⟨r,m,n,l,q⟩,{bS s,bS x,bS u,w},nd}
 .obtain j|j:=wx0.mp j
  .rw[j];exact h.fr _<|.head _
  .obtain j|j:=wx0.mp j
   .rw[j];exact M
   .exact h.fr _<|.tail _<|.tail _ j
end
inductive ZI{Y:Ry}(R:Rx Y)(H:Hp)(rn u la:eH)(S:Rs)(dn:Kk)(l:Ki zZ)(i:Kk)(σ:St)(Hx:Hp):Prop
 | mk(x:Kj V)(A:Ra)(h1:σ=[Kp<|.ref rn,Kp<|.ref u,Kp<|.ref la,x])(h2:RunAt R Hx rn A ((l.take i).foldl Rs.come S) dn)(h3:Im Y.C H Hx)
def UC:∀(l:Ki zZ)(S:Rs),(l.foldl Rs.come S).hr.length<=S.hr.length+↑l/\(l.foldl Rs.come S).lg.length<=S.lg.length+↑l:=λl=>l.recOn
 (λS=>⟨aZ _,aZ _⟩)
 λk l a S=>by
  have h:=a<|S.come k;have b:(S.come k).hr.length<=S.hr.length+1/\(S.come k).lg.length<=S.lg.length+1:=by
   unfold Rs.come
   split
   .exact⟨kI _,kI _⟩
   .exact⟨by show(S.hr++[k]).length<=_;rw[bN];exact aZ _,by show(S.lg++[_]).length<=_;rw[bN];exact aZ _⟩
  rw[pO,cN];lia
section
variable{Y:Ry}{mg:zZ->Kj iH}{base:Ka}{f:eH}{fd:Ke}
def scBr:bX ["run","due","line","name"] dW (bP OW):=cF
def AE{k:Kk}(F:Fun Y.K "do_bring" "do_bring" OW f fd)(Z:cZ Y.K Y.C)(EL:aV Y.pr Y.w Y.K mg base k "elders" ["program","kind"] yB)(TB:aV Y.pr Y.w Y.K mg base k "turned_back" ["made","came"] tL)(FO:aV Y.pr Y.w Y.K mg base k "forms_of" ["made"] IN):aS Y.pr Y.w Y.K mg base bO (k+1) f fd dW (gH Y λd=>∃n a x m,d=.op n a (.bring x) m):=by
 refine F.ok scBr (λvs H Q E h=>?_) λa7 A outer s H vs Q E hr h=>?_
 .obtain⟨R,rn,u,A,S,dn,d,rfl,_⟩:=h;rfl
 obtain⟨R,rn,u,A,S,dn,d,rfl,h,hd,⟨n,a,x,m,rfl⟩,N,hp,q⟩:=h;exists _,aJ (sL 2 scBr.nd<|bD EL hr rfl<|aA (cA Z.r<|pv 0)<|aA (eT (cA Z.d<|pv 1) aO) aE)
  (aJ (eU dU rfl (iC<|pv 2) (gL 3 scBr.nd)<|aR<|cG (cC (show OpR _ _ (jO Y.K Ks) from yK) (pv 3) (cA Z.r<|pv 0) rfl) (aJ (dH<|eW eQ fU fS fL (cA Z.r<|pv 0)<|aA (pv 3) aE)<|aJ (dH<|eW eQ fU fS fL (cA Z.r<|pv 0)<|aA (bZ<|aA aX<|aA (pv 3) aE) aE)<|aR<|gM Z.r (pv 0)<|bD TB hr rfl<|aA (cA Z.r<|pv 0)<|aA (bZ<|aA (pv 3) aE) aE) cS)<|aJ (gM Z.r (pv 0)<|bD FO hr rfl<|aA (cA Z.r<|pv 0) aE)<|aR<|bQ gI)
 ac_rfl
 cases hd with
 | @op _ _ _ _ p dx na _ hu hm hr' hb'=>
  obtain⟨tr,kq,hp⟩:=hp;have z:=hp.ln x<|hp.z0 x<|hb' x rfl;have ok:=hp.ok;have a6:=hp.l12;have k0:FrS [] R.H0 H:=λb o _ e=>h.kp b o e;have a4:↑(R.G.ln x)<=12:=by
   obtain⟨i,g,hi⟩:=z.at;have:=Up.len ok i x g _ hi z;have:=(ww4.mp hi).1;lia
  refine{_,U,rn,_,_,_,U,h.run,U,_,U,u,_,_,_,U,hu,U,a,_,_,_,U,U,Ym hr',U,R.pg,x,tr,_,U,hp.kn.keepT<|Yo k0,ok,a6,z,λM H1 T _ a1=>?_};have B:=h.keep0 T;have i1:Im Y.C H H1:=λb o e _=>T b o bB e;exists _,U,M,U,{_,Ym a1};refine lU (xs:=(R.G.ln x).reverse.map Yf) (ZI R H1 rn u M S dn (R.G.ln x).reverse) {_,A,U,B,Im.refl} ?_ ?_ ?_
  .rintro i σ Hx hi ⟨_,_,_,_,f⟩;exact Ym<|f.tup _ _ a1
  .rintro i v σ Hx hv ⟨_,l,rfl,g,f⟩;rw[bR,wx3]at hv;obtain⟨y,hy,rfl⟩:=hv;have hi:i<↑(R.G.ln x):=by rw[<-iR];exact(ww4.mp hy).1
   have e:((R.G.ln x).reverse.take<|i+1).foldl Rs.come S=(((R.G.ln x).reverse.take i).foldl Rs.come S).come y:=by
    rw[eY,hy,AC];rfl
   have hl:=UC ((R.G.ln x).reverse.take i) S;rw[eS]at hl;have I:=N.hr;have a8:=N.lg;generalize ((R.G.ln x).reverse.take i).foldl Rs.come S=X at g e hl;exists _,U,_,U,rn,_,_,_,U,g.run,U,l.he,_,U,.inl<|Yl g.he,U,jV _,_,U;show if (!gQ (.str y) (X.hr.map Yf))=Ks then _ else _
   rw[lW]
   by_cases c:y∈X.hr
   .rw[dP c];refine bI {_,l,U,?_,f};rw[e];unfold Rs.come;rw[bF c];exact g
   .rw[gE c];refine cK ?_;have j:=g.her y;exists _,U,rn,_,_,_,U,g.run,U,.inl {U,_,Yl g.he},_,U,_,_,_,U,U,g.he,iD (by rw[aK];lia);refine{_,U,rn,_,_,_,U,j.1.run,U,.inl {U,_,Yl j.1.lo},_,U,cX<|bM (by show 2<=_;decide),λt P=>?_};have g3:=j.1.keep0<|Yj (o:=.tup [.str "came",.str y]) P;have J:=g3.say zb1;exists _,_,_,U,U,g3.lo,iD (by rw[aK,<-g.im.lg.len];lia);refine{_,U,rn,_,_,_,U,J.1.run,U,_,U,cX<|bM (by show 1<=_;decide),λt2 a3=>?_};have g5:=J.1.keep0<|Yj (o:=.tup [.str y]) a3;refine{_,_,U,g5.im.md,λa2 H5 L a5=>?_};have W:=g5.keep0 L;have O:=W.mad a5;refine{_,U,rn,_,_,U,W.run,by show 12<1000;decide,_,(l.say t).mad a2,U,?_,((((f.trans j.2).trans<|Im.new P).trans J.2).trans<|Im.new a3).trans<|Im.trans (λb o e _=>L b o bB e) O.2};rw[e];unfold Rs.come;rw[bC c];exact O.1
  .rintro σ Hx ⟨_,l,rfl,g,f⟩;rw[aK,fI<|aZ _]at g;refine{_,U,rn,_,_,_,U,g.run,U,l.md,U,g.im.md,λb I=>?_};have B:=g.keep0<|Yj (o:=.dK []) I;have j:=g.frm I;exact{_,U,rn,_,_,U,B.run,by show 12<1000;decide,q _ _ j.1<|i1.trans<|f.trans j.2}
end
abbrev QS:Kd:=top 3
abbrev MN:Kd:=top 4
abbrev QP:Kd:=top 5
abbrev NI:Kd:=top 9
abbrev LF:Kd:=top 10
def ZE:Kj eH->V
 | none=>.non
 | some g=>.ref g
def GS{b:Type}{l:Ki b}{j:Kk}{x:b}(h:l[j]?\x):l.take j++x::l.drop (j+1)=l:=by
 obtain⟨a,rfl⟩:=ww4.mp h;rw[<-rL a,Ru]
def SO{b:Type}{l:Ki b}{p:b->Km}{j:Kk}{x:b}(h:(l.take j).find? p=Kr)(a:l[j]?\x)(hp:p x=Ks):l.find? p\x:=by
 have e:=GS a;rw[<-e,Ug,h,mL,hp];rfl
def VQ{b:Type}{l:Ki b}{p:b->Km}{j:Kk}{x:b}(h:(l.take j).find? p=Kr)(a:l[j]?\x)(hp:p x=Kt):(l.take<|j+1).find? p=none:=by
 rw[eY,a,Ug,h];show Kr.or (Ki.find? p [x])=Kr;rw[mL,hp];rfl
def VP{a:Kq}{i:Kk}{n d:zZ}{z:zZ×Kj zZ×Ki (zZ×eH)}(h:fV (a.take i) n d=Kr)(hz:a[i]?\z)(b:(if z.1=n then(z.2.2.find? λe=>decide<|e.1=d).map (·.2) else Kr)=Kr):fV (a.take<|i+1) n d=none:=by
 unfold fV at *;rw[eY,hz,Sj,h];show Kr.or (Ki.findSome? _ [z])=Kr;rw[HV,b];rfl
def Gm{a:Kq}{i:Kk}{n d:zZ}{g:eH}{z:zZ×Kj zZ×Ki (zZ×eH)}(h:fV (a.take i) n d=Kr)(hz:a[i]?\z)(b:(if z.1=n then(z.2.2.find? λe=>decide<|e.1=d).map (·.2) else Kr)\g):fV a n d\g:=by
 have e:=GS hz;unfold fV at *;rw[<-e,Sj,h,HV,b];rfl
inductive Bw(vs:Ki V)(H:Hp)(Q:VK):Prop
 | mk(p:eH)(n d:zZ)(kq:Kq)(h1:vs=[.ref p,.str n,.str d])(h2:DeedsQ H p kq)(h3:Q (ZE<|fV kq n d) H)
def HR:Sp:=λvs H Q _=>Bw vs H Q
inductive Hi(H:Hp)(p:eH)(n d:zZ)(kq:Kq)(i:Kk)(σ:St)(Hx:Hp):Prop
 | mk(a b c e:Kj V)(h1:Hx=H)(h2:σ=[Kp<|.ref p,Kp<|.str n,Kp<|.str d,a,b,c,e])(h3:fV (kq.take i) n d=Kr)
inductive YI(H:Hp)(p dt:eH)(n d m:zZ)(v:V)(ds:Ki (zZ×eH))(j:Kk)(σ:St)(Hx:Hp):Prop
 | mk(e:Kj V)(h1:Hx=H)(h2:σ=[Kp<|.ref p,Kp<|.str n,Kp<|.str d,Kp<|.str m,Kp v,Kp<|.ref dt,e])(h3:(ds.take j).find? (λe=>decide<|e.1=d)=Kr)
inductive tK(vs:Ki V)(H:Hp)(Q:VK):Prop
 | mk(p:eH)(n d:zZ)(kq:Kq)(tr:Tr)(l:Ki zZ)(h1:vs=[.ref p,.str n,.str d])(h2:DeedsQ H p kq)(h3:KindsAt H p tr)(h4:TrOk tr)(h5:↑tr<=12)(h6:Up tr n l)(h7:∀(H':Hp),FrS [] H H'->Q (aY<|dN kq d l) H')
def rS:Sp:=λvs H Q _=>tK vs H Q
inductive xB(vs:Ki V)(H:Hp)(Q:VK):Prop
 | mk(p:eH)(n d:zZ)(kq:Kq)(tr:Tr)(l:Ki zZ)(h1:vs=[.ref p,.str n,.str d])(h2:DeedsQ H p kq)(h3:KindsAt H p tr)(h4:TrOk tr)(h5:↑tr<=12)(h6:Up tr n l)(h7:∀(H':Hp),FrS [] H H'->Q (.int<|jD kq d l) H')
def yZ:Sp:=λvs H Q _=>xB vs H Q
def jX(K:Fq)(sp:Sp):Sp:=λvs H Q E=>∃p a k d,vs=[p,.ref a,k,d]/\SqT K H a [.str "plain"]/\sp [p,k,d] H Q E
inductive Ji(H:Hp)(p:eH)(n d:zZ)(kq:Kq)(l:Ki zZ)(i:Kk)(σ:St)(Hx:Hp):Prop
 | mk(e:Kj V)(h1:Hx=H)(h2:σ=[Kp<|.ref p,Kp<|.str n,Kp<|.str d,e])(h3:(l.take i).find? (λx=>(fV kq x d).isSome)=Kr)
def zv2:bX ["program","kind","deed","name","elder","deeds","found"] qI (bP QS):=cF
def Do(F:Fun K "deed_of" "deed_of" QS f fd):aS P w K mg base bO (k+1) f fd qI HR:=by
 refine F.ok zv2 (λvs H Q E h=>?_) λa6 A outer s H vs Q E hr h=>?_
 .obtain⟨p,n,d,kd,rfl,_⟩:=h;rfl
 obtain⟨p,n,d,l,rfl,⟨N,ts,x,y,hp,L,B,X⟩,q⟩:=h;exists _,aJ (eU dU rfl (iC<|eT (pv 0) aO) (dS (n:=3) rfl<|bK (gL 3 zv2.nd)<|bK (gL 4 zv2.nd)<|bK (gL 5 zv2.nd) dX)<|aR<|cG (cC eA (pv 3) (pv 1)<|cI _) (aR<|eU dU rfl (iC<|pv 5) (gL 6 zv2.nd)<|aR<|cG (cC eA (eT (pv 6) aO) (pv 2)<|cI _) (aR<|bQ<|pv 6) cS) cS)
  (aR<|bQ gI)
 ac_rfl
 exists _,U,p,_,_,_,U,U,Ym hp,U,N,U,{_,Ym L};refine lU (xs:=ts.map Yg) (Hi H p n d l) {_,_,_,_,U,U,U} (λi σ u _ h=>by obtain⟨_,_,_,_,rfl,_⟩:=h;exact Ym L) ?_ ?_
 .rintro i x σ u b ⟨T,Y,O,M,rfl,rfl,a⟩;rw[bR,wx3]at b;obtain⟨t,C,rfl⟩:=b;have hi:i<↑l:=by rw[<-B];exact(ww4.mp C).1
  have hz:l[i]?=Kp l[i]:=bJ hi;obtain⟨I,h1,h2,G⟩:=X i t _ C hz;generalize l[i]=z at hz h1 h2 G;exists t,_,U,Ym h1,U,_,_,U,_,_,U,_,_,U,U;exists _,U,_,U,U,_,U;refine bH (λc=>?_) λc=>?_
  .have en:z.1=n:=Yf.inj<|cT c;exists _,U,I,U,{_,Ym h2};refine lU (xs:=z.2.2.map λd=>Yg d.2) (YI u p I n d z.1 (aY z.2.1) z.2.2) {_,U,U,U} (λj σ J _ h=>by obtain⟨_,rfl,_⟩:=h;exact Ym h2) ?_ ?_
   .rintro j x σ J b ⟨Z,rfl,rfl,m⟩;rw[bR,wx3]at b;obtain⟨g,o,rfl⟩:=b;obtain⟨rest,W⟩:=G g<|dC o;exists _,U,g.2,_,_,.str g.1,U,U,Ym W,fY _ _,_,U,U,_,U;refine bH (λc=>?_) λc=>?_
    .have r:g.1=d:=Yf.inj<|cT c;have:z.2.2.find? (λe=>decide<|e.1=d)\g:=SO m o<|dP r;rw[Gm a hz (g:=g.2)<|by rw[bF en,this];rfl]at q;exact{_,U,q}
    .have r:g.1≠d:=λz=>c (dP<|by rw[z])
     exact{_,U,U,VQ m o<|gE r}
   .rintro σ J ⟨Z,rfl,rfl,m⟩;rw[aK,fI<|aZ _]at m;exact{_,_,_,_,U,U,VP a hz<|by rw[bF en,m];rfl}
  .have en:z.1≠n:=λe=>c (dP<|by rw[e])
   exact{_,_,_,_,U,U,VP a hz<|bC en}
 .rintro σ u ⟨T,Y,O,M,rfl,rfl,a⟩;rw[aK,B,fI<|aZ _]at a;rw[a]at q;exact q
def yw2:bX ["program","kind","deed","name"] qI (bP MN):=cF
def Bx{k:Kk}(F:Fun K "answer" "answer" MN f fd)(T:aV P w K mg base k "elders" ["program","kind"] yB)(B:aV P w K mg base k "deed_of" qI HR)(L:mg "reversed"=Kr):aS P w K mg base bO (k+1) f fd qI rS:=by
 refine F.ok yw2 (λvs H Q E h=>?_) λN A W s H vs Q E hr h=>?_
 .obtain⟨p,n,d,j,Y,l,rfl,_⟩:=h;rfl
 obtain⟨p,n,d,j,Y,l,rfl,M,I,ok,J,C,q⟩:=h;exists _,aJ (eU dU rfl (VH rfl L<|aA (bD T hr rfl<|aA (pv 0)<|aA (pv 1) aE) aE) (gL 3 yw2.nd)<|aR<|cG (gO<|rH<|bD B hr rfl<|aA (pv 0)<|aA (pv 3)<|aA (pv 2) aE) (aR<|bQ<|pv 3) cS)
  (aR<|bQ gI)
 ac_rfl
 refine{_,U,_,U,p,n,Y,l,U,I,ok,J,C,λa H' X O r=>?_};exists a,_,U,Ym r;refine WM (xs:=l.reverse.map Yf) (Ji H' p n d j l) {_,U,U,U} (λi Z u _ h=>by obtain⟨_,rfl,_⟩:=h;exact Ym r) ?_ ?_
 .rintro i x Z u o ⟨G,rfl,rfl,m⟩;rw[<-zI,Ki.reverse_reverse,bR,wx3]at o;obtain⟨z,hz,rfl⟩:=o;exists _,U,_,U,_,U,p,z,d,j,U,M.keep<|Yo X;have b:=q _ X;cases e:fV j z d with
  | some g=>
   have:dN j d l\z:=SO m hz (by rw[e];rfl);rw[this]at b;exact{_,U,cK {_,U,b}}
  | none=>
   exact{_,U,bI {_,U,U,VQ m hz<|by rw[e];rfl}}
 .rintro Z u ⟨G,rfl,rfl,m⟩;rw[aK,iR,fI<|aZ _]at m;have b:=q _ X;unfold dN at b;rw[m]at b;exact b
def yq3:bX ["program","kind","deed","line","found"] qI (bP QP):=cF
def Dk(h:dN kq d l\z):z∈l:=pJ h
def ZQ{k:Kk}(F:Fun K "asked" "asked" QP f fd)(T:aV P w K mg base k "elders" ["program","kind"] yB)(TA:aV P w K mg base k "answer" qI rS)(o:mg "len"=Kr):aS P w K mg base bO (k+1) f fd qI yZ:=by
 refine F.ok yq3 (λvs H Q E h=>?_) λJ A L s H vs Q E N h=>?_
 .obtain⟨p,n,d,m,M,l,rfl,_⟩:=h;rfl
 obtain⟨p,n,d,m,M,l,rfl,I,u,ok,r,B,q⟩:=h;exists _,aJ (sL 3 yq3.nd<|bD T N rfl<|aA (pv 0)<|aA (pv 1) aE)
  (aJ (sL 4 yq3.nd<|bD TA N rfl<|aA (pv 0)<|aA (pv 1)<|aA (pv 2) aE)<|aJ (cG (gO<|kL<|pv 4) (aR<|bQ<|eM jE rfl o iW<|aA (pv 3) aE) cS)<|aR<|bQ<|cE kP (eM jE rfl o iW<|aA (pv 3) aE)<|tV (pv 3) (pv 4) ⟨rfl,rfl,rfl,rfl⟩)
 ac_rfl
 refine{_,U,_,U,p,n,M,l,U,u,ok,r,B,λa W j _ C=>?_};refine{_,U,_,U,_,U,p,n,d,m,M,l,U,I.keep<|Yo j,u.keepT<|Yo j,ok,r,B,λO x=>?_};have b:=q _<|j.trans x;have i:=x _ _ bB C;unfold jD at b;cases e:dN m d l with
 | none=>
  rw[e]at b;refine{_,U,_,U,cK {_,U,a,_,U,.inr<|Ym i,?_}};rw[aK,iR];exact b
 | some z=>
  rw[e]at b;have G:gQ (.str z) (l.reverse.map Yf)=true:=by rw[lW,decide_eq_true_iff,vm6];exact Dk e
  refine{_,U,_,U,bI {_,U,a,_,U,.inr<|Ym i,_,U,a,_,U,.inl i,_,U,U,.inl i,jV _,G,_,_,U,U,?_}};rw[aK,iR];exact b
abbrev oF:Ki zZ:=["program","form","kind","deed"]
def YN:bX oF oF (bP NI):=cF
def AB{k:Kk}(F:Fun K "found_by" "found_by" NI f fd)(TA:aV P w K mg base k "answer" qI rS):aS P w K mg base bO (k+1) f fd oF (jX K rS):=by
 refine F.ok YN (λvs H Q E h=>?_) λe A i s H vs Q E j h=>?_
 .obtain⟨p,a,k,d,rfl,_⟩:=h;rfl
 obtain⟨p,a,k,d,rfl,b,h⟩:=h;exists _,aJ (cG (cC eA (eT (pv 1) aO) aX<|cI _) (aR yC) cS)
  (aJ (cG (cC eA (eT (pv 1) aO) aX<|cI _) (aR yC) cS)<|aR<|bQ<|bD TA j rfl<|aA (pv 0)<|aA (pv 2)<|aA (pv 3) aE)
 ac_rfl
 refine{_,U,a,_,_,_,U,U,b,U,U,_,U,bH (λc=>absurd c<|by rfl') λ_=>?_};exact{_,U,a,_,_,_,U,U,b,U,U,_,U,bH (λc=>absurd c<|by rfl') λ_=>{_,U,_,U,_,U,h}}
def Ev:bX ["program","form","kind","deed","order"] oF (bP LF):=cF
def AV{k:Kk}(F:Fun K "cost_by" "cost_by" LF f fd)(TA:aV P w K mg base k "asked" qI yZ):aS P w K mg base bO (k+1) f fd oF (jX K yZ):=by
 refine F.ok Ev (λvs H Q E h=>?_) λe A i s H vs Q E j h=>?_
 .obtain⟨p,a,k,d,rfl,_⟩:=h;rfl
 obtain⟨p,a,k,d,rfl,b,h⟩:=h;exists _,aJ (cG (cC eA (eT (pv 1) aO) aX<|cI _) (aR yC) cS)
  (aJ (cG (cC eA (eT (pv 1) aO) aX<|cI _) (aJ yC<|aR yC) cS)<|aR<|bQ<|bD TA j rfl<|aA (pv 0)<|aA (pv 2)<|aA (pv 3) aE)
 ac_rfl
 refine{_,U,a,_,_,_,U,U,b,U,U,_,U,bH (λc=>absurd c<|by rfl') λ_=>?_};exact{_,U,a,_,_,_,U,U,b,U,U,_,U,bH (λc=>absurd c<|by rfl') λ_=>{_,U,_,U,_,U,h}}
abbrev JX:Kd:=top 40
abbrev QE:Kd:=top 39
def Gx{K:Fq}{pt:Hp->eH->V->V->(Hp->Prop)->Prop}{p:Km}{a b D:eH}{xs ys:Ki V}{g:TG}{tt:TT}{J te:TE}{E:St}{H0:Hp}{Q:Hp->Prop}(d:Kk->St->Hp->Prop)(h0:d 0 E H0)(hl:∀i B H,d i B H->jK K p H a xs/\jK K p H b ys)
  (hs:∀i x y T B H,xs[i]?\x->ys[i]?\y->d i B H->H T=Kr->g (.ref T) B (upd H T<|.tup [x,y]) λC L=>tt C L λb G=>if b=Ks then J C G λw j=>te C j λv z=>pt z D w v λn=>d (i+1) C n else d (i+1) C G) (hd:∀i B H,i=min ↑xs ↑ys->d i B H->Q H):DV pt (HY K p p a b) g tt J te D E H0 Q:=by
 exists λi m B H=>m=min ↑xs ↑ys-i/\i<=min ↑xs ↑ys/\d i B H,{_,U,bW _,h0};rintro i m B H ⟨rfl,M,q⟩;obtain⟨f,h⟩:=hl i B H q
 by_cases o:i<min ↑xs ↑ys
 .have h1:i<↑xs:=by lia
  have P:i<↑ys:=by lia
  refine .inr {{xs,ys,_,_,f,h,bJ h1,bJ P},d<|i+1,λN O s=>{_,by(clear M;lia),U,o,s},?_};rintro x O ⟨T,u,v,r,rfl,rfl,A,l⟩;exact hs i u v T B H (A xs f) (l ys h) q r
 .have e:i=min ↑xs ↑ys:=by lia
  exact .inl {{xs,ys,f,h,∅},hd i B H e q}
def UH{Q:St->Hp->Prop}{a σ':St}{H:Hp}{i:Kk}{v:V}(e:a.set i (Kp v)=σ')(h:Q σ' H):cJ i v a H Q:=by show Q _ _;rw[e];exact h
def zU{Y:Ry}{R:Rx Y}{Q:St->Hp->Prop}{a:St}{H H':Hp}(g:RunAt R H' rn A S dn)(h:Q a H')(e:H=H':=by rfl):Q a H:=by rw[e];exact h
inductive LK(Y:Ry)(vs:Ki V)(H:Hp)(Q:VK):Prop
 | mk(R:Rx Y)(rn u t:eH)(A:Ra)(S:Rs)(dn n m j:Kk)(a:eH)(x y k d:zZ)(as:Ki zZ)(h1:vs=[.ref rn,.ref u,.ref t])(h2:RunAt R H rn A S dn)(h3:DuAt Y.C R.Z A.δ H (.call n a x y k d as m) u)(h5:Bd R.G S)(h6:lE R)(hj:j<S.ts.length)(ht:cV A.θ (.int j)=.ref t)(hk:k∈R.G.ln (S.kind j))(h7:∀A' H',RunAt R H' rn A' (tD R.G S n m x d as j) dn->Im Y.C H H'->Q .non H')
def sA(Y:Ry):Sp:=λvs H Q _=>LK Y vs H Q
def vK(S:Rs)(m:Kk)(l:Ki (zZ×zZ)):Ki (aG×V):=l.foldl (λd z=>aL d (Ku z.1)<|S.get m z.2) []
def SX{S:Rs}{m n:Kk}(h:∀x,VOk n<|S.get m x):∀(l:Ki (zZ×zZ))(d:Ki (aG×V)),(∀z∈d,VOk n z.2)->∀z∈l.foldl (λd z=>aL d (Ku z.1)<|S.get m z.2) d,VOk n z.2:=λl=>l.recOn
 (λd hd=>hd)
 λy l a d hd=>a _<|BM hd<|h y.2
def KB{S:Rs}{m:Kk}:∀(l:Ki (zZ×zZ))(d:Ki (aG×V)),↑(l.foldl (λd z=>aL d (Ku z.1)<|S.get m z.2) d)<=↑d+↑l:=λl=>l.recOn
 (λd=>aZ _)
 λy l a d=>by
  have e:=a<|aL d (Ku y.1)<|S.get m y.2;have b:=jR d (Ku y.1)<|S.get m y.2;rw[pO,cN];lia
def vP{S:Rs}{m:Kk}(θ:Ki eH)(l:Ki (zZ×zZ))(z:zZ×zZ):aL (cD θ<|vK S m l) (Ku z.1) (cV θ<|S.get m z.2)=cD θ (vK S m<|l++[z]):=by
 rw[KC];unfold vK;rw[AC];rfl
inductive JH{Y:Ry}(R:Rx Y)(H:Hp)(D u:eH)(θ:Ki eH)(S:Rs)(m:Kk)(l:Ki (zZ×zZ))(i:Kk)(σ:St)(Hx:Hp):Prop
 | mk(x y:Kj V)(h1:σ=[x,y,Kp<|.ref u])(h2:FrS [] H Hx)(h3:Hx D\(.dK<|cD θ<|vK S m<|l.take i))
abbrev GC:Ki zZ:=["run","due","thing"]
abbrev ZN:Ki zZ:=["run","due","thing","word","x","y","kind","deed","args","form","found","name","params","rows","gives","names"]
section
variable{Y:Ry}{mg:zZ->Kj iH}{base:Ka}{f:eH}{fd:Ke}
def zk0:bX ZN GC (bP JX):=cF
def Io{k:Kk}(F:Fun Y.K "start_call" "start_call" JX f fd)(Z:cZ Y.K Y.C)(FB:aV Y.pr Y.w Y.K mg base (k+1) "found_by" oF (jX Y.K rS))(CB:aV Y.pr Y.w Y.K mg base (k+1) "cost_by" oF (jX Y.K yZ))(DE:aV Y.pr Y.w Y.K mg base (k+1) "deed_of" qI HR)(AD:aV Y.pr Y.w Y.K mg base (k+1) "add_due" jI (zL Y))(M:gZ Y mg base k "Due" Y.C.du iZ (EZ Y.C.du))
  (mz:mg "zip"=Kr) (mP:mg "PLAIN"\.ref ap) (hP:∀H,SqT Y.K H ap [.str "plain"]) (mO:∃tk,mg "OWN"\.str "own" tk) (mB:∃tk,mg "BACK"\.str "back" tk):aS Y.pr Y.w Y.K mg base bO (k+2) f fd GC (sA Y):=by
 refine F.ok zk0 (λvs H Q E h=>?_) λba A outer s H vs Q E hr h=>?_
 .obtain⟨R,rn,u,t,A,S,dn,n,m,j,a,x,y,k,d,as,rfl,_⟩:=h;rfl
 obtain⟨R,rn,u,t,A,S,dn,n,m,j,a,x,y,kd,d,as,rfl,h,hd,hb,⟨tr,kq,hp⟩,hj,aj,b1,q⟩:=h;obtain⟨tO,mO⟩:=mO;obtain⟨tB,mB⟩:=mB;have hu:=eN hr;have ak:(["param","arg","due"]:Ki zZ).Nodup:=by rfl'
 exists _,aJ (hY (cA Z.d<|pv 1)<|dS (n:=6) rfl<|bK (gL 3 zk0.nd)<|bK (gL 4 zk0.nd)<|bK (gL 5 zk0.nd)<|bK (gL 6 zk0.nd)<|bK (gL 7 zk0.nd)<|bK (gL 8 zk0.nd) dX)
  (aJ (sL 9 zk0.nd<|MD hu (cA Z.r<|pv 0) (cA Z.d<|pv 1) (mI (v:=.ref ap) rfl mP rfl) ⟨rfl,rfl,rfl,rfl⟩)<|aJ (sL 10 zk0.nd<|bD FB hr rfl<|aA (cA Z.r<|pv 0)<|aA (pv 9)<|aA (cA Z.t<|pv 2)<|aA (pv 7) aE)<|aJ (hY (bD DE hr rfl<|aA (cA Z.r<|pv 0)<|aA (pv 10)<|aA (pv 7) aE)<|dS (n:=4) rfl<|bK (gL 11 zk0.nd)<|bK (gL 12 zk0.nd)<|bK (gL 13 zk0.nd)<|bK (gL 14 zk0.nd) dX)<|aJ (XS (hp:=ME) (i:=15) (N':=["param","arg","due"]) (src:=[Kr,Kr,Kp 1]) rfl zk0.nd rfl rfl fJ (PP (p:=Ks) rfl mz<|aA (pv 12)<|aA (pv 8) aE) (g:=fC Y.K 2<|eR (cJ 0)<|eR (cJ 1) eV) (λ_ _ _ _=>dS (n:=2) rfl<|bK (gL 0 ak)<|bK (gL 1 ak) dX) (λ_ _ _ _=>gW) (λ_ _ _ _=>pv 0) (te:=PZ (RE Y.C.du "names"<|aI 2)<|aI 1) λ_ _ _ _=>hI hu (cA Z.d<|pv 2) (pv 1) ⟨rfl,rfl,rfl,rfl⟩)<|aJ (eK hu (pv 15) (mI (v:=.str "own") rfl mO ⟨_,rfl⟩) (pv 2) rfl)<|aJ (dH<|eW eQ fU fS fL (cA Z.r<|pv 0)<|aA (bZ<|aA aX<|aA (cA Z.d<|pv 1)<|aA (cA Z.t<|pv 2)<|aA (pv 10) aE) aE)<|aJ (zT (g:=λi j=>i+j) Z.r (pv 0) (bD CB hr rfl<|aA (cA Z.r<|pv 0)<|aA (pv 9)<|aA (cA Z.t<|pv 2)<|aA (pv 7) aE) HK)<|aJ (zT (g:=λi j=>i+j) Z.r (pv 0) aO HK)<|aJ (dH<|eW eQ fU fS fL (cA Z.r<|pv 0)<|aA (GF M TL hr rfl<|aA gI<|aA (bZ<|aA (mI (v:=.str "back") rfl mB ⟨_,rfl⟩)<|aA (pv 4)<|aA (pv 14)<|aA (pv 15) aE)<|aA (bZ aE)<|aA (cA Z.d<|pv 1) aE) aE)<|aR<|dH<|bD AD hr rfl<|aA (pv 0)<|aA (rD hu (cA Z.r<|pv 0) (bZ<|aA (pv 10)<|aA (pv 7) aE) λ_ _=>U)<|aA (pv 15) aE)
 ac_rfl
 cases hd with
 | @call _ _ _ _ p dx na g _ _ _ _ _ hu' hm hr' hg hal hz=>
  obtain⟨t',dt,bt,L,ht,bb⟩:=h.thing hj;rw[aj]at L;cases L;have a8:S.kind j∈R.G.nm:=by
   unfold Rs.kind;have:S.ts.getD (j:Kl).toNat ("",0)=S.ts[j]:=by show S.ts.getD j _=_;rw[fG,bJ hj];rfl
   rw[this];exact hb.ts _<|iG hj
  obtain⟨dg,pt,dv,c1,c2,c3,c4,c5,c6,c7,c8⟩:=hp.ca kd d hz _ a8 b1;have k0:FrS [] R.H0 H:=λb o _ e=>h.kp b o e;exists _,U,u,_,_,_,U,hu',U,a,_,U,Ym hr',U,_,_,U,_,_,U,_,_,U,_,_,U,_,_,U,_,_,U,U;exists _,U,rn,_,_,_,U,h.run,U,A.fo,U,.inl {_,.inl h.fo},_,U,u,_,_,_,U,hu',U,_,DGet.k (k:=(Kv (n:Kl):aG)) h.fo;refine{_,U,rn,_,_,_,U,h.run,U,_,U,_,U,t,_,_,_,U,ht,U,_,U,_,ap,_,_,U,hP _,R.pg,S.kind j,d,kq,tr,_,U,hp.dq.keep<|Yo k0,hp.kn.keepT<|Yo k0,hp.ok,hp.l12,hp.ln _ a8,λH1 P=>?_};rw[c1];have g1:=h.keep0 P;have k1:=k0.trans P;have t1:=Yo P;have i1:Im Y.C H H1:=λb o e _=>P b o bB e;have aw:=i1 _ _ hu' Y.nd;exists _,U,rn,_,_,_,U,g1.run,U,_,U,_,U,R.pg,R.G.an (S.kind j) d,d,kq,U,hp.dq.keep<|Yo k1;rw[c2];exists dg,_,U,Ym<|k1 _ _ bB c3,U,_,_,U,_,_,U,_,_,U,_,_,U,U;generalize hF:R.G.an (S.kind j) d=F at c1 c2 c3 c4 c5 c7 c8;have ay:=(h.dict hm).1;have ag:=k1 _ _ bB c4;have ac:=t1 _ _ hg;refine{_,U,_,U,pt,g,_,_,U,Ym ag,Ym ac,λD hD=>?_};have bd:↑((R.G.ps F d).zip as)<=1000:=by rw[rB];lia
  have az:∀x,VOk S.ts.length (S.get m x):=λx=>h.got hm x;refine Gx (p:=Ks) (xs:=(R.G.ps F d).map Yf) (ys:=as.map Yf) (JH R H1 D u A.θ S m<|(R.G.ps F d).zip as) {_,_,U,Yj hD,zb1} ?_ ?_ ?_
  .rintro i σ Hx ⟨_,_,_,N,_⟩;exact{Ym<|N _ _ bB ag,Ym<|N _ _ bB ac}
  .rintro i v1 v2 T σ Hx L e2 ⟨_,_,rfl,N,a6⟩ hT;rw[bR,wx3]at L e2;obtain⟨x1,L,rfl⟩:=L;obtain⟨W,e2,rfl⟩:=e2;have fT:=N.trans<|Yj (o:=.tup [.str x1,.str W]) hT;have ez:((R.G.ps F d).zip as)[i]?\(x1,W):=by rw[xW];exact⟨L,e2⟩
   have ah:=fT _ _ bB<|P _ _ bB ay;exists T,_,U,Ym zb1,U,_,_,U,_,_,U,U;have hl:=KB (S:=S) (m:=m) (((R.G.ps F d).zip as).take i) [];rw[eS,iY]at hl;exists _,U,_,U,u,_,_,_,U,fT _ _ bB aw,U,na,U,.inl {_,.inl ah},_,U,_,DGet.k (k:=(Ku W:aG)) ah,_,Ku x1,U,(aC<|aQ a6 hT).trans a6,bM (by unfold cD vK;rw[aK];lia),_,_,rfl,fT.put hD;rw[zb1,qR];show Kp (HO.dK<|aL (cD A.θ _) _<|cV A.θ<|S.get m W)=_;rw[eY,ez];exact cH (λz=>Kp<|HO.dK z)<|vP A.θ _ (x1,W)
  .rintro i σ Hx hi ⟨_,_,rfl,N,a6⟩;rw[aK,aK,<-rB]at hi;rw[hi,fI<|aZ _]at a6;have hl:=KB (S:=S) (m:=m) ((R.G.ps F d).zip as) [];rw[iY]at hl;refine UH (σ':=[Kp<|.ref rn,Kp<|.ref u,Kp<|.ref t,Kp<|.str "call",Kp<|.str x,Kp<|.str y,Kp<|.str kd,Kp<|.str d,Kp<|.ref g,Kp<|.ref ap,Kp<|.str F,Kp<|.str d,Kp<|.ref pt,Kp dv,Kp<|aY<|R.G.gv F d,Kp<|.ref D]) rfl ?_;exists _,U,_,U,D,_,U,DPut.k (k:=(Ku "own":aG)) a6 (iD<|by unfold cD vK;rw[aK];lia);have ec:aL (cD A.θ<|vK S m<|(R.G.ps F d).zip as) (Ku "own") (.ref t)=cD A.θ (nM S m (R.G.ps F d) as j):=by
    rw[<-aj,KC];rfl
   rw[ec];have f3:FrS [] H1 (upd Hx D<|.dK<|cD A.θ<|nM S m (R.G.ps F d) as j):=N.put hD;have g3:=g1.dic2 hD f3 zb1<|BM (SX az _ _ λz hz=>nomatch hz)<|.inr ⟨j,rfl,hj⟩;have i3:Im Y.C H (upd Hx D<|.dK<|cD A.θ<|nM S m (R.G.ps F d) as j):=i1.trans λb o e _=>f3 b o bB e;generalize upd Hx D (.dK<|cD A.θ<|nM S m (R.G.ps F d) as j)=H3 at g3 i3 f3;have k3:=k1.trans f3;have ao:=i3 _ _ hu' Y.nd;have b9:=i3 _ _ ht Y.nt;refine{_,U,rn,_,_,_,U,g3.run,U,.inl {U,_,Yl g3.lo},_,U,u,_,_,_,U,ao,U,_,U,t,_,_,_,U,b9,U,_,U,cX<|bM (by show 4<=_;decide),λtl ae=>?_};have g4:=g3.keep0<|Yj (o:=.tup [.str "did",.int n,.str<|S.kind j,.str F]) ae;have O:=g4.say zb1;have bc:=hb.lg;exists _,_,_,U,U,g4.lo,iD (by rw[aK,<-g4.im.lg.len];show S.lg.length<=_;lia);have k5:FrS [] R.H0 _:=λb o _ e=>O.1.kp b o e;have i5:=(i3.trans<|Im.new (o:=.tup [.str "did",.int n,.str<|S.kind j,.str F]) ae).trans O.2;generalize upd (upd H3 tl<|.tup [.str "did",.int n,.str<|S.kind j,.str F]) (A.dic D).lo (.lst<|(A.dic D).ls.map Yg++[.ref tl])=H5 at O k5 i5;have b7:=i5 _ _ ht Y.nt;refine{_,U,rn,_,_,_,U,O.1.run,U,_,U,rn,_,_,_,U,O.1.run,U,_,U,_,U,t,_,_,_,U,b7,U,_,U,_,ap,_,_,U,hP _,R.pg,S.kind j,d,kq,tr,_,U,hp.dq.keep<|Yo k5,hp.kn.keepT<|Yo k5,hp.ok,hp.l12,hp.ln _ a8,λH6 f6=>?_};have g6:=O.1.keep0 f6;rw[<-c6];have g7:=g6.num S.rd dn S.uw<|S.lk+R.G.co (S.kind j) d;refine{_,_,_,U,g6.run,by show 12<1000;decide,?_};have B:=g7.1.num S.rd dn (S.uw+1)<|S.lk+R.G.co (S.kind j) d;refine{_,U,rn,_,_,_,U,g7.1.run,U,_,_,_,U,g7.1.run,by show 12<1000;decide,?_};have i8:=i5.trans<|Im.trans (λb o e _=>f6 b o bB e)<|g7.2.trans B.2;have B:=B.1;refine zU B ?_;generalize upd (upd H6 rn _) rn _=H8 at B i8 ⊢;have b0:((A.dic D).say tl).δ[m]?\na:=kF hm;have al:((A.dic D).say tl).δ[S.ds.length]?\D:=by
    show(A.δ++[D])[S.ds.length]?=Kp D;rw[h.dc.len,jU<|aZ _,qV];rfl
   have b2:=i8 _ _ hu' Y.nd;refine{_,U,rn,_,_,_,U,B.run,U,.inl {U,_,Yl B.to},_,U,_,U,_,U,cX<|bM (by show 4<=_;decide),λtb b3=>{bW _,λte ad=>?_}};have f9:FrS [] H8 (upd (upd H8 tb<|.tup [.str "back",.str x,aY<|R.G.gv F d,.ref D]) te<|.tup []):=(Yj b3).trans<|Yj ad;have a4:upd (upd H8 tb<|.tup [.str "back",.str x,aY<|R.G.gv F d,.ref D]) te (.tup []) tb\.tup [.str "back",.str x,aY<|R.G.gv F d,.ref D]:=(Yn ad) _ _ zb1;generalize upd (upd H8 tb<|.tup [.str "back",.str x,aY<|R.G.gv F d,.ref D]) te (.tup [])=X at f9 a4;have g9:=B.keep0 f9;refine{_,U,u,_,_,_,U,f9 _ _ bB b2,U,tb,te,na,_,U,λl I b8 b6 n2=>?_};have ab:upd X I (.own l) l=none:=by rw[aC<|bS n2];exact b8
   have a7:FrS [] X (upd (upd X I<|.own l) l<|.ins Y.C.du I<|dF .non tb te na):=(Yj b6).trans<|Yj ab;have a3:upd (upd X I<|.own l) l (.ins Y.C.du I<|dF .non tb te na) l\(.ins Y.C.du I<|dF .non tb te na):=zb1;generalize upd (upd X I<|.own l) l (.ins Y.C.du I<|dF .non tb te na)=ax at a7 a3;have aa:=g9.keep0 a7;have J:=aa.due (d:=.back x (R.G.gv F d) S.ds.length m)<|.back a3 b0 al<|a7 _ _ bB a4;have be:=hb.td;exists _,_,_,U,U,aa.to,iD (by rw[aK,iR,<-aa.im.ud.len];show S.td.length<=_;lia);have am:=(i8.trans λb o e _=>a7 b o bB<|f9 b o bB e).trans J.2;have J:=J.1;generalize upd ax _ _=ai at J am ⊢;obtain⟨qs,a9⟩:=J.im.bo;obtain⟨z,b5,av⟩:=wx6.mp<|a9.k F d c5;cases hfd:qs.find? (λq=>decide<|q.1=(F,d))with
   | none=>exact absurd av (by simpa using vn1.mp hfd z b5)
   | some z2=>
    have au:z2.1=(F,d):=by simpa using rT hfd
    obtain⟨es,aq,af⟩:=a9.e z2<|pJ hfd;rw[au]at af;refine{_,U,_,U,rn,_,_,_,U,J.run,U,_,U,_,U,cX<|bM (by show 2<=_;decide),λtk ar=>?_};have a5:FrS [] ai (upd ai tk<|.tup [.str F,.str d]):=Yj ar;have b4:=J.keep0 a5;have a2:=a9.keep λb o e _=>a5 b o bB e;refine{_,tk,qs,(F,d),z2,U,U,a2.d,a2.ok,Ym zb1,hfd,_,U,R,rn,z2.2.2,D,_,_,dn,S.ds.length,R.G.bo F d,es,U,b4,(Yo a5) _ _ aq,af.keep<|Yo a5,al,by show(S.td.length+1)+_<=_;lia,λus H' g' f'=>?_};subst hF;exact q _ H' g'<|am.trans<|Im.trans (λb o e _=>a5 b o bB e) f'
end
section
variable{Y:Ry}{mg:zZ->Kj iH}{base:Ka}{f:eH}{fd:Ke}
def zp0:bX ["run","due","word","x","y","kind","deed","args","thing"] dW (bP QE):=cF
def Ew{k:Kk}(F:Fun Y.K "do_call" "do_call" QE f fd)(Z:cZ Y.K Y.C)(BE:aV Y.pr Y.w Y.K mg base k "is_below" ["program","one","other"] LS)(ST:aV Y.pr Y.w Y.K mg base k "start_call" GC (sA Y))(N:∃tk,mg "MOST_UNDER_WAY"\.int 40 tk):aS Y.pr Y.w Y.K mg base bO (k+1) f fd dW (gH Y λd=>∃n a x y q d' as m,d=.call n a x y q d' as m):=by
 refine F.ok zp0 (λvs H Q E h=>?_) λa5 A outer s H vs Q E hr h=>?_
 .obtain⟨R,rn,u,A,S,dn,d,rfl,_⟩:=h;rfl
 obtain⟨R,rn,u,A,S,dn,d,rfl,h,hd,⟨n,a,x,y,kd,d',as,m,rfl⟩,O,hp,q⟩:=h;obtain⟨tM,N⟩:=N;have hu:=eN hr;exists _,aJ (hY (cA Z.d<|pv 1)<|dS (n:=6) rfl<|bK (gL 2 zp0.nd)<|bK (gL 3 zp0.nd)<|bK (gL 4 zp0.nd)<|bK (gL 5 zp0.nd)<|bK (gL 6 zp0.nd)<|bK (gL 7 zp0.nd) dX)
  (aJ (sL 8 zp0.nd<|hI hu (cA Z.d<|pv 1) (pv 4) ⟨rfl,rfl,rfl,rfl⟩)<|aJ (cG (gO<|kL<|pv 8) (aR<|bQ aX) cS)<|aJ (cG (RW<|zC<|bD BE hr rfl<|aA (cA Z.r<|pv 0)<|aA (cA Z.t<|pv 8)<|aA (pv 5) aE) (aR<|bQ aX) cS)<|aJ (cG (cC PQ (cA Z.r<|pv 0) (mI (v:=.int 40) rfl N ⟨_,rfl⟩)<|cI _) (aR<|bQ aX) cS)<|aJ (dH<|bD ST hr rfl<|aA (pv 0)<|aA (pv 1)<|aA (pv 8) aE)<|aR<|bQ gI)
 ac_rfl
 have a3:=hd;cases hd with
 | @call _ _ _ _ p dx na g _ _ _ _ _ hu' hm hr' hg hal hz=>
  obtain⟨W,_,_⟩:=h.dict hm;exists _,U,u,_,_,_,U,hu',U,a,_,U,Ym hr',U,_,_,U,_,_,U,_,_,U,_,_,U,_,_,U,_,_,U,U;exists _,U,u,_,_,_,U,hu',U,na,U,.inl {_,.inl W},_,U,_,DGet.k (k:=(Ku y:aG)) W;rw[qR];have J:∀I H',RunAt R H' rn I (S.thing (S.get m y) λj=>if kd∈R.G.ln (S.kind j) then if 40<=S.uw then(S,Kp "deep") else(tD R.G S n m x d' as j,Kr) else(S,Kp "unfit")).1 dn->Im Y.C H H'->Q (aY (S.thing (S.get m y) λj=>if kd∈R.G.ln (S.kind j) then if 40<=S.uw then(S,Kp "deep") else(tD R.G S n m x d' as j,Kr) else(S,Kp "unfit")).2) H':=q;refine UH (σ':=[Kp<|.ref rn,Kp<|.ref u,Kp<|.str "call",Kp<|.str x,Kp<|.str y,Kp<|.str kd,Kp<|.str d',Kp<|.ref g,Kp<|cV A.θ<|S.get m y]) rfl ?_;obtain e|⟨j,e,hj⟩:=h.got hm y
  .rw[e]at J ⊢;exact{_,U,_,U,bH (λ_=>J A H h Im.refl) λc=>absurd rfl c}
  .rw[e]at J ⊢;obtain⟨t,dt,b,X,ht,a6⟩:=h.thing hj;have a4:=X;rw[X];refine{_,U,_,U,bI ?_};have a2:=hp;obtain⟨tr,kq,hp⟩:=hp;have a1:S.kind j∈R.G.nm:=by
    unfold Rs.kind;have:S.ts.getD (j:Kl).toNat ("",0)=S.ts[j]:=by show S.ts.getD j _=_;rw[fG,bJ hj];rfl
    rw[this];exact O.ts _<|iG hj
   have k0:FrS [] R.H0 H:=λb o _ e=>h.kp b o e;refine{_,U,rn,_,_,_,U,h.run,U,_,U,t,_,_,_,U,ht,U,_,U,R.pg,S.kind j,kd,tr,_,U,hp.kn.keepT<|Yo k0,hp.ok,hp.l12,hp.ln _ a1,λH1 P=>{_,U,?_}};have M:=h.keep0 P;have L:Im Y.C H H1:=λb o e _=>P b o bB e
   by_cases c:kd∈R.G.ln (S.kind j)
   .rw[dP c];refine bI ?_;have B:∀I H',RunAt R H' rn I (if 40<=S.uw then(S,Kp "deep") else(tD R.G S n m x d' as j,Kr):Rs×Kj zZ).1 dn->Im Y.C H H'->Q (aY (if 40<=S.uw then(S,Kp "deep") else(tD R.G S n m x d' as j,Kr):Rs×Kj zZ).2) H':=by
     have:=J;simp only[Rs.thing,bF c]at this;exact this
    exists _,U,rn,_,_,_,U,M.run,U,_,_,U,U,_,U;refine bH (λi=>?_) λi=>?_
    .have i:40<=S.uw:=cT i;rw[bF i]at B;exact B A H1 M L
    .have i:¬40<=S.uw:=λz=>i<|dP z;rw[bC i]at B;have T:=a3.keep (l:=[]) Y.nd L;rw[fP]at T;exact{_,U,_,U,_,U,R,rn,u,t,A,S,dn,n,m,j,a,x,y,kd,d',as,U,M,T,O,a2,hj,a4,c,λI H' g' f'=>B I H' g'<|L.trans f'}
   .rw[gE c];refine cK ?_;have B:=J A H1;simp only[Rs.thing,bC c]at B;exact B M L
end
abbrev OL:Kd:=top 43
abbrev PF:Kd:=top 44
def Rw.wd:Rw->zZ
 | .make _ _=>"make"
 | .copy _ _=>"copy"
 | .put _ _ _=>"put"
 | .take _ _ _=>"take"
 | .say _=>"say"
 | .bring _=>"bring"
def Du.wd:Du->zZ
 | .op _ _ r _=>r.wd
 | .call _ _ _ _ _ _ _ _=>"call"
 | .either _ _ _ _ _=>"either"
 | .again _ _ _ _=>"again"
 | .back _ _ _ _=>"back"
def Rw.hd(r:Rw):∃rest,r.vs=.str r.wd::rest:=by cases r <;> exact{_,U}
theorem DuAt.hd(h:DuAt C Z δ H d u):∃j a p i v rest,H u\(.ins C.du j<|dF v a p i)/\H a\(.tup<|.str d.wd::rest)/\∀n,d.num\n->v=.int n:=by
 cases h with
 | op h f b q=>
  obtain⟨rest,e⟩:=Rw.hd ‹_›;rw[e]at b;exact{_,_,_,_,_,_,h,b,λn z=>by cases z;rfl}
 | call h f b o hl m=>exact{_,_,_,_,_,_,h,b,λn z=>by cases z;rfl}
 | either h f b=>exact{_,_,_,_,_,_,h,b,λn z=>by cases z;rfl}
 | again h f b=>exact{_,_,_,_,_,_,h,b,λn z=>by cases z;rfl}
 | back h f l b=>exact{_,_,_,_,_,_,h,b,λn z=>nomatch z}
def oO(Y:Ry)(mg:zZ->Kj iH)(base:Ka)(k:Kk):Prop:=∃ad a,mg "DOERS"\.ref ad/\OH Y.pr Y.w Y.K ad a/\∀d:Du,d.num.isSome->d.size<=80->∃g ok,valueAt a (Ku d.wd)\.ref g/\uC Y.pr Y.w Y.K mg base k dW g (gH Y ok)/\ok d
inductive tQ(Y:Ry)(vs:Ki V)(H:Hp)(Q:VK):Prop
 | mk(R:Rx Y)(rn u:eH)(A:Ra)(S:Rs)(dn mo:Kk)(d:Du)(h1:vs=[.ref rn,.ref u,.int mo])(h2:RunAt R H rn A S dn)(h3:DuAt Y.C R.Z A.δ H d u)(h4:d.num.isSome)(h5:d.size<=80)(h6:Bd R.G S)(h7:lE R)(h8:mo<=dn->Q (.str "long") H)(h9:dn<mo->∀A' H',RunAt R H' rn A' (doR R.G S d).1 (dn+1)->Im Y.C H H'->Q (aY (doR R.G S d).2) H')
def QC(Y:Ry):Sp:=λvs H Q _=>tQ Y vs H Q
section
variable{Y:Ry}{mg:zZ->Kj iH}{base:Ka}{f:eH}{fd:Ke}
def xr5:bX ["run","due","most","doer"] ["run","due","most"] (bP OL):=cF
def Ag{k:Kk}(F:Fun Y.K "do_row" "do_row" OL f fd)(Z:cZ Y.K Y.C)(D:oO Y mg base k):aS Y.pr Y.w Y.K mg base bO (k+1) f fd ["run","due","most"] (QC Y):=by
 refine F.ok xr5 (λvs H Q E h=>?_) λX A outer s H vs Q E hr h=>?_
 .obtain⟨R,rn,u,A,S,dn,mo,d,rfl,_⟩:=h;rfl
 obtain⟨R,rn,u,A,S,dn,mo,d,rfl,h,hd,P,hz,q,hp,G,N⟩:=h;obtain⟨ad,kvs,O,W,J⟩:=D;exists _,aJ (cG (cC PQ (cA Z.r<|pv 0) (pv 2)<|cI _) (aR<|bQ aX) cS)
  (aJ (zT (g:=λi j=>i+j) Z.r (pv 0) aO HK)<|aJ (sL 3 xr5.nd<|AX (mI (v:=.ref ad) rfl O rfl)<|eT (cA Z.d<|pv 1) aO)<|aR<|bQ<|zW (ps:=dW) hr (pv 3)<|aA (pv 0)<|aA (pv 1) aE)
 ac_rfl
 exists _,U,rn,_,_,_,U,h.run,U,_,U,_,_,U,U,_,U;refine bH (λc=>?_) λc=>?_
 .have c:(mo:Kl)<=dn:=cT c;exact G ∅
 .have c:¬(mo:Kl)<=dn:=λz=>c<|dP z;have g:=h.num S.rd (dn+1) S.uw S.lk;obtain⟨dx,a,p,na,v,rest,T,L,_⟩:=hd.hd;have o:=g.2 _ _ T Y.nd;have M:=g.2.tup _ _ L;obtain⟨e,ok,x,n,I⟩:=J d P hz;have b:=hd.keep (l:=[]) Y.nd g.2;rw[fP]at b;refine{_,U,rn,_,_,_,U,h.run,U,_,_,_,U,h.run,by show 12<1000;decide,?_};refine zU g.1 ?_;exists _,U,u,_,_,_,U,o,U,a,_,_,_,U,U,Ym M,fY _ _,ad,e,kvs,Ku d.wd,U,U,W,x;exact{_,U,e,_,U,n,_,U,_,U,R,rn,u,A,S,dn+1,d,U,g.1,b,I,q,hp,λm H' g' B=>N ∅ m H' g'<|g.2.trans B}
end
def LL.dep:LL->Kk
 | .nil=>0
 | .op _ _ _ t=>t.dep
 | .call _ _ _ _ _ _ _ t=>t.dep
 | .either _ _ p q t=>max (max p.dep q.dep+1) t.dep
 | .again _ _ p t=>max (p.dep+1) t.dep
structure Pz(G:Pg):Prop where
 bo:∀f d,(G.bo f d).size<=80
 ps:∀f d,↑(G.ps f d)<=1000
 ln:∀k,↑(G.ln k)<=12
 nm:∀k,∀x∈G.ln k,x∈G.nm
 po:∀f d,("own":zZ)∉G.ps f d
 dp:∀f d,(G.bo f d).dep<=4
structure Wf(G:Pg)(S:Rs)(dn:Kk):Prop where
 td:S.td.length<=800*(dn+1)
 sz:∀d∈S.td,d.size<=80
 bk:bV S.td<=dn
 lg:S.lg.length<=12*dn
 hl:S.hr.length<=12+12*dn
 hn:∀k∈S.hr,k∈G.nm
 ts:∀z∈S.ts,z.1∈G.nm
 ds:∀d∈S.ds,↑d+bV S.td<=1001+2*dn
def Wf.bd(h:Wf G S dn)(hd:dn<=1001):Bd G S:=⟨by have:=h.td;lia,by have:=h.lg;lia,by have:=h.hl;lia,λd a=>by have:=h.ds d a;lia,h.hn,h.ts⟩
def KI(m:Kk):∀l:LL,l.size<=80->∀d∈l.dues m,d.size<=80:=λl=>l.recOn
 (λ_=>λd h=>nomatch h)
 (λn a r t b h=>λd hd=>by
  simp only[LL.size]at h;obtain rfl|hd:=wx0.mp hd
  .exact bW _
  .exact b ∅ d hd)
 (λn a x y k j i t b h=>λd hd=>by
  simp only[LL.size]at h;obtain rfl|hd:=wx0.mp hd
  .exact bW _
  .exact b ∅ d hd)
 (λn a p q t _ _ e h=>λd hd=>by
  simp only[LL.size]at h;obtain rfl|hd:=wx0.mp hd
  .show p.size+q.size<=80;lia
  .exact e ∅ d hd)
 (λn a p t _ f h=>λd hd=>by
  simp only[LL.size]at h;obtain rfl|hd:=wx0.mp hd
  .show p.size<=80;lia
  .exact f ∅ d hd)
def Wf.pop(h:Wf G S dn)(e:S.td=d::r)(f:d.num\n):Wf G {S with td:=r} dn:=by
 have b:bV S.td=bV r:=by
  rw[e];cases d with
  | back x g s m=>cases f
  | _=>simp only[bV,dD,kC,jN,sX]
 exact{by have:=h.td;rw[e,cN]at this;show ↑r<=_;lia,λi a=>h.sz i (by rw[e];exact .tail _ a),by show bV r<=_;rw[<-b];exact h.bk,h.lg,h.hl,h.hn,h.ts,λi a=>by show _+bV r<=_;rw[<-b];exact h.ds i a}
def Wf.more(h:Wf G S dn):Wf G S (dn+1):=⟨by have:=h.td;lia,h.sz,by have:=h.bk;lia,by have:=h.lg;lia,by have:=h.hl;lia,h.hn,h.ts,λd hd=>by have:=h.ds d hd;lia⟩
theorem Wf.put(h:Wf G S dn)(m:Kk)(x:zZ)(v:V):Wf G (S.put m x v) (dn+1):=by
 refine{by have:=h.td;show S.td.length<=_;lia,h.sz,by have:=h.bk;show bV S.td<=_;lia,by have:=h.lg;show S.lg.length<=_;lia,by have:=h.hl;show S.hr.length<=_;lia,h.hn,h.ts,λd hd=>?_};show ↑d+bV S.td<=_;obtain hd|rfl:=xY hd
 .have:=h.ds d hd;lia
 .have hl:=jR (S.ds.getD m []) (Ku x) v;rw[fG]at hl ⊢;cases e:S.ds[m]? with
  | none=>
   rw[e]at hl;have:=h.bk;simp only[Ng,iY]at hl ⊢;lia
  | some a=>
   rw[e]at hl;have:=h.ds a<|dC e;simp only[Tq]at hl ⊢;lia
theorem Wf.push(h:Wf G S dn)(hl:l.size<=80)(m:Kk)(hd:S.td.length+80<=800*(dn+1)):Wf G (S.push l m) dn:=by
 have a:bV (l.dues m++S.td)=bV S.td:=by rw[DY,vF,sX]
 refine{?_,λd hd=>?_,by show bV (l.dues m++S.td)<=_;rw[a];exact h.bk,h.lg,h.hl,h.hn,h.ts,λd hd=>by show _+bV (l.dues m++S.td)<=_;rw[a];exact h.ds d hd}
 .show(l.dues m++S.td).length<=_;have:=xU m l;rw[bN];lia
 .obtain hd|hd:=wz2.mp hd
  .exact KI m l hl d hd
  .exact h.sz d hd
theorem Wf.pushN(hl:l.size<=80)(m:Kk):∀(i:Kk)(S:Rs),Wf G S dn->S.td.length+80*i<=800*(dn+1)->Wf G (pushN l m i S) dn:=λi=>Ln
 (λS h _=>h)
 (λi a S h hd=>by
  refine a _ (h.push hl m ∅) ?_;show(l.dues m++S.td).length+_<=_;have:=xU m l;rw[bN];lia) i
def Ho:∀(l:Ki zZ)(S:Rs),(l.foldl Rs.come S).ts=S.ts/\(l.foldl Rs.come S).ds=S.ds/\∀x∈(l.foldl Rs.come S).hr,x∈S.hr\/x∈l:=λl=>l.recOn
 (λS=>⟨rfl,rfl,λx h=>.inl h⟩)
 λy l d S=>by
  obtain⟨i,f,b⟩:=d<|S.come y;have e:(S.come y).ts=S.ts/\(S.come y).ds=S.ds/\∀x∈(S.come y).hr,x∈S.hr\/x=y:=by
   unfold Rs.come
   split
   .exact⟨rfl,rfl,λx h=>.inl h⟩
   .exact⟨rfl,rfl,λx h=>(wz2.mp h).imp id λz=>wx1.mp z⟩
  rw[pO,i,f];refine{e.1,e.2.1,λx a=>?_};obtain h|h:=b x a
  .obtain h|rfl:=e.2.2 x h
   .exact .inl h
   .exact .inr<|.head _
  .exact .inr<|.tail _ h
theorem Wf.thing(h:Wf G S dn)(a:∀j,Wf G (f j).1<|dn+1):Wf G (S.thing v f).1 (dn+1):=by
 cases v with
 | int j=>exact a j
 | _=>exact h.more
theorem Wf.doR(i:Pz G)(h:Wf G S dn)(hz:d.size<=80)(hd:d.num\n)(T:S.td.length<=800*(dn+1)):Wf G (doR G S d).1 (dn+1):=by
 cases d with
 | op n a r m=>
  cases r with
  | make x k=>
   show Wf G (if k∈S.hr then(((S.make k).put m x<|.int S.ts.length),Kr) else(S,Kp "absent"):Rs×Kj zZ).1 _
   by_cases c:k∈S.hr
   .rw[bF c];refine Wf.put (S:=S.make k) {h.td,h.sz,h.bk,h.lg,h.hl,h.hn,λz hz=>?_,λd hd=>?_} m x _
    .obtain hz|hz:=wz2.mp hz
     .exact h.ts z hz
     .rw[wx1.mp hz];exact h.hn k c
    .obtain hd|hd:=wz2.mp hd
     .exact h.ds d hd
     .rw[wx1.mp hd];have:=h.bk;show 0+bV S.td<=_;lia
   .rw[bC c];exact h.more
  | copy x y=>exact h.put m x _
  | put x f y=>exact h.thing λj=>h.put _ f _
  | take x y f=>exact h.thing λj=>h.put m x _
  | say w=>exact{by have:=h.td;show S.td.length<=_;lia,h.sz,by have:=h.bk;show bV S.td<=_;lia,by have:=h.lg;show(S.lg++[_]).length<=_;rw[bN,eJ];lia,by have:=h.hl;show S.hr.length<=_;lia,h.hn,h.ts,λd hd=>by have:=h.ds d hd;show _+bV S.td<=_;lia}
  | bring k=>
   have hl:=UC (G.ln k).reverse S;obtain⟨L,E,H⟩:=Ho (G.ln k).reverse S;have e:=VD (G.ln k).reverse S;have M:=i.ln k;rw[iR]at hl;have I:=h.td;have u:=h.lg;have A:=h.hl;have o:=h.bk;show Wf G ((G.ln k).reverse.foldl Rs.come S) _;refine{by rw[e];lia,by rw[e];exact h.sz,by rw[e];lia,∅,∅,λx C=>?_,by rw[L];exact h.ts,λd hd=>?_}
   .obtain h'|h':=H x C
    .exact h.hn x h'
    .exact i.nm k x<|vm6.mp h'
   .rw[E]at hd;rw[e];have:=h.ds d hd;lia
 | call n a x y k d X m=>
  refine h.thing λj=>?_
  split
  .split
   .exact h.more
   .have B:=i.bo (G.an (S.kind j) d) d;have Y:=i.ps (G.an (S.kind j) d) d;have I:=xU S.ds.length<|G.bo (G.an (S.kind j) d) d;have u:=h.td;have A:=h.lg;have o:=h.hl;have N:=h.bk;have l:bV ((G.bo (G.an (S.kind j) d) d).dues S.ds.length++.back x (G.gv (G.an (S.kind j) d) d) S.ds.length m::S.td)=bV S.td+1:=by
     rw[DY,vF];simp only[bV,dD,kC,jN];lia
    refine{?_,λW b=>?_,?_,?_,?_,h.hn,h.ts,λW b=>?_}
    .show(_++_::S.td).length<=_;rw[bN,cN];lia
    .obtain b|b:=wz2.mp b
     .exact KI _ _ B W b
     .obtain rfl|b:=wx0.mp b
      .exact bW _
      .exact h.sz W b
    .show bV (_++_::S.td)<=_;rw[l];lia
    .show(S.lg++[_]).length<=_;rw[bN,eJ];lia
    .show S.hr.length<=_;lia
    .show _+bV (_++_::S.td)<=_;rw[l];obtain b|b:=wz2.mp b
     .have:=h.ds W b;lia
     .rw[wx1.mp b];unfold nM;have O:=jR (((G.ps (G.an (S.kind j) d) d).zip X).foldl (λ(d:Ki (aG×V)) (z:zZ×zZ)=>aL d (Ku z.1)<|S.get m z.2) []) (Ku ("own":zZ))<|.int j;have J:=KB (S:=S) (m:=m) ((G.ps (G.an (S.kind j) d) d).zip X) [];rw[rB,iY]at J;lia
  .exact h.more
 | either n a p q m=>
  have hz:p.size+q.size<=80:=hz;have h':Wf G {S with rd:=S.rd+1} (dn+1):=Wf.more ⟨h.td,h.sz,h.bk,h.lg,h.hl,h.hn,h.ts,h.ds⟩;show Wf G (Rs.push {S with rd:=S.rd+1} (if S.pick G=0 then p else q) m) _;refine h'.push (by split <;> lia) m ?_;show S.td.length+80<=_;lia
 | again n a p m=>
  have h':Wf G {S with rd:=S.rd+1} (dn+1):=Wf.more ⟨h.td,h.sz,h.bk,h.lg,h.hl,h.hn,h.ts,h.ds⟩;refine Wf.pushN hz m _ _ h' ?_;have P:(min (S.pick G) 9).toNat<=9:=by lia
  show S.td.length+_<=_;lia
 | back x g s m=>cases hd
theorem Wf.back(h:Wf G S dn)(e:S.td=.back x g s m::r):Wf G (zH {S with td:=r} x g s m) dn:=by
 have f:bV S.td=bV r+1:=by rw[e];simp only[bV,dD,kC,jN];lia
 have a:=h.td;have b:=h.bk;rw[e,cN]at a;refine{by show ↑r<=_;lia,λd hd=>h.sz d (by rw[e];exact .tail _ hd),by show bV r<=_;lia,h.lg,h.hl,h.hn,h.ts,λd hd=>?_};show ↑d+bV r<=_;obtain hd|rfl:=xY hd
 .have:=h.ds d hd;lia
 .have hl:=jR (S.ds.getD m []) (Ku x)<|Rs.giv {S with td:=r} s g;show(aL (S.ds.getD m []) (Ku x)<|Rs.giv {S with td:=r} s g).length+_<=_;rw[fG]at hl ⊢;cases i:S.ds[m]? with
  | none=>
   rw[i]at hl;simp only[Ng,iY]at hl ⊢;lia
  | some j=>
   rw[i]at hl;have:=h.ds j<|dC i;simp only[Tq]at hl ⊢;lia
inductive KH(Y:Ry)(vs:Ki V)(H:Hp)(Q:VK):Prop
 | mk(R:Rx Y)(rn:eH)(A:Ra)(S S':Rs)(dn mo:Kk)(e:zZ)(v:V)(h1:vs=[.ref rn,.int mo])(h2:RunAt R H rn A S dn)(h3:Wf R.G S dn)(h4:lE R)(h5:Pz R.G)(h6:dn<=mo)(h7:mo<=1000)(t:Rn R.G mo dn S S' e v)(q:∀A' H' l dn',RunAt R H' rn A' S' dn'->Im Y.C H H'->H' l\.tup [.str e,v]->Q (.ref l) H')
def vU(Y:Ry):Sp:=λvs H Q _=>KH Y vs H Q
inductive VG{Y:Ry}(R:Rx Y)(H:Hp)(rn:eH)(mo:Kk)(S':Rs)(e:zZ)(v:V)(c:Kk)(σ:St)(Hx:Hp):Prop
 | mk(x y:Kj V)(A:Ra)(S:Rs)(dn:Kk)(h1:σ=[Kp<|.ref rn,Kp<|.int mo,x,y])(h2:RunAt R Hx rn A S dn)(h3:Im Y.C H Hx)(h4:Wf R.G S dn)(h5:dn<=mo)(h6:Rn R.G mo dn S S' e v)(h7:2*(mo-dn)+bV S.td=c)
section
variable{Y:Ry}{mg:zZ->Kj iH}{base:Ka}{f:eH}{fd:Ke}
def yr6:bX ["run","most","due","ending"] ["run","most"] (bP PF):=cF
def Fe{k:Kk}(F:Fun Y.K "run_on" "run_on" PF f fd)(Z:cZ Y.K Y.C)(EC:aV Y.pr Y.w Y.K mg base k "end_call" dW (JV Y))(DR:aV Y.pr Y.w Y.K mg base k "do_row" ["run","due","most"] (QC Y))(O:∃tk,mg "BACK"\.str "back" tk):aS Y.pr Y.w Y.K mg base bO (k+1) f fd ["run","most"] (vU Y):=by
 refine F.ok yr6 (λvs H Q E h=>?_) λag A outer s H vs Q E hr h=>?_
 .obtain⟨R,rn,A,S,M,dn,mo,e,v,rfl,_⟩:=h;rfl
 obtain⟨R,rn,A,S,M,dn,mo,e,v,rfl,h,j,hp,hz,N,hm,t,q⟩:=h;obtain⟨tB,O⟩:=O;exists _,aJ (IB dU (Hs (cA Z.r<|pv 0) λ_=>U)<|aJ (sL 2 yr6.nd<|vS eQ Nm Nl sG<|cA Z.r<|pv 0)<|aR<|cG (cC eA (eT (cA Z.d<|pv 2) aO) (mI (v:=.str "back") rfl O {_,U})<|cI _) (aR<|dH<|bD EC hr rfl<|aA (pv 0)<|aA (pv 2) aE)<|aJ (sL 3 yr6.nd<|bD DR hr rfl<|aA (pv 0)<|aA (pv 2)<|aA (pv 1) aE)<|aR<|cG (gO<|rH<|pv 3) (aR<|bQ<|bZ<|aA (pv 3)<|aA (cA Z.d<|pv 2) aE) cS)
  (aR<|bQ<|bZ<|aA aX<|aA gI aE)
 ac_rfl
 have s2:2<=sizeLine:=cX (bM<|by decide);exists VG R H rn mo M e v,{_,_,_,A,S,dn,U,h,Im.refl,j,N,t,U};rintro c σ Hx ⟨_,_,A,S,dn,rfl,h,f,j,N,t,rfl⟩;exists _,U,rn,_,_,_,U,h.run,U,_,.inl {_,Yl h.to,U};have B:=h.im.ud;cases hus:A.us with
 | nil=>
  have b:S.td=[]:=by
   rw[hus]at B;cases hud':S.td with
   | nil=>rfl
   | cons d r=>rw[hud']at B;cases B
  refine bI {s2,λl hl=>?_};obtain⟨rfl,rfl,rfl⟩:=t.inv.1 b;exact q A _ l dn (h.keep0<|Yj hl) (f.trans<|Im.new hl) zb1
 | cons u us=>
  obtain⟨d,r,b⟩:∃d r,S.td=d::r:=by
   rw[hus]at B;cases hud':S.td with
   | nil=>rw[hud']at B;cases B
   | cons d r=>exact⟨d,r,rfl⟩
  have g:=h.pop b hus;have hb:(!((u::us).reverse.map Yg).isEmpty)=true:=by simp
  rw[hb];refine cK {λσ' H'=>∃c',c'<2*(mo-dn)+bV S.td/\VG R H rn mo M e v c' σ' H',λσ' H' z=>z,?_};have ab:Hx A.to\(.lst<|us.reverse.map Yg++[Yg u]):=by
   have:=h.to;rw[hus,yM,bT]at this;exact this
  have a3:(us.reverse.map Yg++[Yg u])[↑(us.reverse.map Yg++[Yg u])-1]?\Yg u:=by
   rw[bN,eJ,IH,jU<|aZ _,qV];rfl
  exists _,U,rn,_,_,_,U,h.run,U,.inl {U,_,Yl ab},A.to,_,.ref u,U,U,ab,a3;rw[Ki.dropLast_concat];obtain⟨g,W,hd⟩:=g;generalize upd Hx A.to (.lst<|us.reverse.map Yg)=H1 at g W hd;have L:=f.trans W;obtain⟨dx,a,p,na,vn,rest,P,ha,a4⟩:=hd.hd;exists _,U,u,_,_,_,U,P,U,a,_,_,_,U,U,Ym ha,fY _ _,U,_,U;have i:=j.bd ∅;have X:Bd R.G (S.pop r):=⟨by have:=i.td;rw[b,cN]at this;show ↑r<=_;lia,i.lg,i.hr,i.ds,i.hn,i.ts⟩;cases hdn:d.num with
  | none=>
   cases d with
   | back x gi s m'=>
    refine bH (λ_=>?_) λc=>absurd (dP rfl) c;refine{_,U,_,U,R,rn,u,A.pop us,S.pop r,dn,x,gi,s,m',U,g,hd,X,λH2 J I=>?_};refine{_,?_,_,_,_,_,dn,U,J,L.trans I,j.back b,N,t.inv.2.1 _ _ _ _ _ b,U};show 2*(mo-dn)+bV r<_;rw[b];simp only[bV,dD,kC,jN];lia
   | _=>cases hdn
  | some n=>
   have ad:d.wd≠"back":=by
    cases d with
    | op n a r m=>cases r <;> (simp only[Du.wd,Rw.wd];rfl')
    | call n a x y k d as m=>simp only[Du.wd];rfl'
    | either n a p q m=>simp only[Du.wd];rfl'
    | again n a p m=>simp only[Du.wd];rfl'
    | back x g s m=>cases hdn
   refine bH (λc=>absurd (Yf.inj<|cT c) ad) λ_=>?_;have hsz:=j.sz d (by rw[b];exact .head _);have a7:=j.pop b hdn;have ac:=a4 n hdn;subst ac;refine{_,U,_,U,_,U,R,rn,u,A.pop us,S.pop r,dn,mo,d,U,g,hd,by rw[hdn];rfl,hsz,X,hp,λaa=>?_,λah A' H2 J I=>?_}
   .refine⟨_,rfl,_,rfl,bH (λ_=>⟨_,rfl,_,rfl,u,_,_,_,rfl,P,rfl,s2,λl hl=>?_⟩) λc=>absurd rfl c⟩;obtain⟨rfl,rfl,rfl⟩:=(t.inv.2.2 _ _ _ b hdn).1 ∅;exact q _ _ l dn (g.keep0<|Yj hl) (L.trans<|Im.new hl) zb1
   .have ae:=I _ _ P Y.nd;cases z:doR R.G (S.pop r) d with
    | mk S1 o=>
     have t':=(t.inv.2.2 _ _ _ b hdn).2 ∅ S1 o z;rw[z]at J;cases o with
     | some e=>
      obtain⟨rfl,rfl,rfl⟩:=t';refine{_,U,_,U,cK {_,U,_,U,u,_,_,_,U,ae,U,s2,λl hl=>?_}};exact q _ _ l (dn+1) (J.keep0<|Yj hl) ((L.trans I).trans<|Im.new hl) zb1
     | none=>
      have a8:Wf R.G (doR R.G (S.pop r) d).1 (dn+1):=a7.doR hz hsz hdn a7.td;have T:bV (doR R.G (S.pop r) d).1.td<=bV r+1:=TJ R.G (S.pop r) d;rw[z]at a8 T;refine{_,U,_,U,bI {2*(mo-(dn+1))+bV S1.td,?_,_,_,A',S1,dn+1,U,J,L.trans I,a8,∅,t',U}};have af:bV S.td=bV r:=by
       rw[b];cases d with
       | back x g s m=>cases hdn
       | _=>simp only[bV,dD,kC,jN,sX]
      have T:bV S1.td<=bV r+1:=T;lia
end
inductive Ly(Z:zZ->Kj zZ->Prop)(H:Hp):Kk->Kk->Ki eH->LL->Kk->Prop
 | nil {n k:Kk}:Ly Z H n k [] .nil k
 | op {n k k':Kk} {a:eH} {r:Rw} {rs:Ki eH} {L:LL} (h:H a\.tup r.vs) (hb:∀x,r=.bring x->Z x Kr) (t:Ly Z H n (k+1) rs L k'):Ly Z H n k (a::rs) (.op k a r L) k'
 | call {n k k':Kk} {a g:eH} {x y q d:zZ} {as:Ki zZ} {rs:Ki eH} {L:LL} (h:H a\.tup [.str "call",.str x,.str y,.str q,.str d,.ref g]) (hg:H g\(.tup<|as.map Yf)) (hl:↑as<=1000) (hz:Z q (Kp d)) (t:Ly Z H n (k+1) rs L k'):Ly Z H n k (a::rs) (.call k a x y q d as L) k'
 | again {n k k1 k':Kk} {a l:eH} {rs1 rs:Ki eH} {L1 L:LL} (h:H a\.tup [.str "again",.ref l]) (hl:H l\(.tup<|rs1.map Yg)) (s:Ly Z H n (k+1) rs1 L1 k1) (t:Ly Z H (n+1) k1 rs L k'):Ly Z H (n+1) k (a::rs) (.again k a L1 L) k'
 | either {n k k1 k2 k':Kk} {a l1 l2:eH} {rs1 rs2 rs:Ki eH} {L1 L2 L:LL} (h:H a\.tup [.str "either",.ref l1,.ref l2]) (h1:H l1\(.tup<|rs1.map Yg)) (h2:H l2\(.tup<|rs2.map Yg)) (s1:Ly Z H n (k+1) rs1 L1 k1) (s2:Ly Z H n k1 rs2 L2 k2) (t:Ly Z H (n+1) k2 rs L k'):Ly Z H (n+1) k (a::rs) (.either k a L1 L2 L) k'
def Ly.keep(h:Ly Z H n k rs L k')(f:Tup H H'):Ly Z H' n k rs L k':=by
 induction h with
 | nil=>exact .nil
 | op h o _ b=>exact .op (f _ _ h) o b
 | call h l hl j _ b=>exact .call (f _ _ h) (f _ _ l) hl j b
 | again h hl _ _ d a=>exact .again (f _ _ h) (f _ _ hl) d a
 | either h e m _ _ _ d a i=>exact .either (f _ _ h) (f _ _ e) (f _ _ m) d a i
def Ly.len(h:Ly Z H n k rs L k'):k'=k+L.size:=by
 induction h with
 | nil=>rfl
 | op h m _ b=>simp only[LL.size];lia
 | call h j hl i _ b=>simp only[LL.size];lia
 | again h hl _ _ d a=>simp only[LL.size];lia
 | either h e l _ _ _ d a f=>simp only[LL.size];lia
theorem Ly.dep(h:Ly Z H n k rs L k'):L.dep<=n:=by
 induction h with
 | nil=>exact bW _
 | op h m _ a=>exact a
 | call h j hl i _ a=>exact a
 | again h hl _ _ d b=>simp only[LL.dep];lia
 | either h e l _ _ _ d b f=>simp only[LL.dep];lia
def Ly.rl(h:Ly Z H n k rs L k'):k+↑rs<=k':=by
 induction h with
 | nil=>exact aZ _
 | op h m _ b=>rw[cN];lia
 | call h j hl i _ b=>rw[cN];lia
 | again h hl _ _ d a=>rw[cN];lia
 | either h e l _ _ _ d a f=>rw[cN];lia
def Fl.ly(h:Fl Z H n o fs):∀k,∃L,Ly Z H n k o L (k+↑fs):=by
 induction h with
 | nil=>exact λk=>{_,.nil}
 | @one n a o fs h _ E=>
  intro k;obtain⟨L,t⟩:=E<|k+1;rw[cN,show k+(↑fs+1)=k+1+↑fs by lia];obtain⟨r,h,M⟩|⟨x,y,q,d,g,P,h,G,hl,B⟩:=h
  .exact⟨_,.op h M t⟩
  .exact⟨_,.call h G hl B t⟩
 | @again n a l u j o fs h hl _ _ w s=>
  intro k;obtain⟨f,b⟩:=w<|k+1;obtain⟨L,t⟩:=s<|k+1+↑j;rw[cN,bN,show k+(↑j+↑fs+1)=k+1+↑j+↑fs by lia];exact{_,.again h hl b t}
 | @either n a O N u j C m o fs h z J _ _ _ w s A=>
  intro k;obtain⟨f,b⟩:=w<|k+1;obtain⟨i,e⟩:=s<|k+1+↑j;obtain⟨L,t⟩:=A<|k+1+↑j+↑m;rw[cN,bN,bN,show k+(↑j+(↑m+↑fs)+1)=k+1+↑j+↑m+↑fs by lia];exact{_,.either h z J b e t}
def LL.app:LL->LL->LL
 | .nil,M=>M
 | .op n a r t,M=>.op n a r<|t.app M
 | .call n a x y k d b t,M=>.call n a x y k d b<|t.app M
 | .either n a p q t,M=>.either n a p q<|t.app M
 | .again n a p t,M=>.again n a p<|t.app M
theorem Ens.app(h:Ens Z H L es)(g:Ens Z H M fs):Ens Z H (L.app M) (es++fs):=by
 induction h with
 | nil=>exact g
 | op h d b n _ a=>exact .op h d b n a
 | call h d b l hl i _ a=>exact .call h d b l hl i a
 | either h d b e m f j _ _ _ a=>exact .either h d b e m f j a
 | again h d b e f _ _ a=>exact .again h d b e f a
def UN(L:LL):L.app .nil=L:=by
 induction L with
 | nil=>rfl
 | op n a r t b=>exact cH (LL.op n a r) b
 | call n a x y k d e t b=>exact cH (LL.call n a x y k d e) b
 | either n a p q t _ _ b=>exact cH (LL.either n a p q) b
 | again n a p t _ b=>exact cH (LL.again n a p) b
def UX(M N:LL)(L:LL):(L.app M).app N=L.app (M.app N):=by
 induction L with
 | nil=>rfl
 | op n a r t b=>exact cH (LL.op n a r) b
 | call n a x y k d e t b=>exact cH (LL.call n a x y k d e) b
 | either n a p q t _ _ b=>exact cH (LL.either n a p q) b
 | again n a p t _ b=>exact cH (LL.again n a p) b
inductive Bh(Z:zZ->Kj zZ->Prop)(H:Hp)(n k:Kk)(a:eH)(rs:Ki eH)(L:LL)(k':Kk):Prop
 | mk(w:zZ)(rest:Ki V)(ls:Ki (eH×Ki eH×LL×Kk×Kk))(k1:Kk)(Lr:LL)(M:LL)(h1:H a\(.tup<|.str w::rest))(h2:iX w rest=ls.map λz=>Yg z.1)
  (h3:∀z∈ls,H z.1\(.tup<|z.2.1.map Yg)/\∃n',n=n'+1/\Ly Z H n' z.2.2.2.1 z.2.1 z.2.2.1 z.2.2.2.2) (h4:∀(i:Kk) z,ls[i]?\z->z.2.2.2.1=(if i=0 then k+1 else((ls[i-1]?).map λy=>y.2.2.2.2).getD 0)) (h5:k1=((ls.getLast?).map λy=>y.2.2.2.2).getD (k+1)) (h6:↑ls<=2)
  (h7:L=M.app Lr) (h8:∀(e p:eH)(ts:Ki eH)(H':Hp),Tup H H'->H' e\.tup [.int k,.ref a,.ref p]->H' p\(.tup<|ts.map Yg)->A2 (λz t=>∃es:Ki eH,H' t\(.tup<|es.map Yg)/\Ens Z H' z.2.2.1 es) ls ts->Ens Z H' M [e]) (h9:Ly Z H n k1 rs Lr k')
theorem Ly.hd(h:Ly Z H n k (a::rs) L k'):Bh Z H n k a rs L k':=by
 have w:¬(("call":zZ)="either"\/("call":zZ)="again"):=by rfl'
 cases h with
 | @op _ _ _ _ r _ L h hb t=>
  obtain⟨rest,e⟩:=r.hd;have u:¬(r.wd="either"\/r.wd="again"):=by cases r <;> (simp only[Rw.wd];rfl')
  refine{r.wd,rest,[],k+1,L,.op k a r .nil,by rw[h,e],by unfold iX;rw[bC u];rfl,(λz hz=>nomatch hz),(λi z hz=>nomatch hz),U,bW _,U,λm p T P f E J b=>?_,t};cases b;exact .op E J (f _ _ h) hb .nil
 | @call _ _ _ _ g x y q d as _ L h hg hl hz t=>
  refine{"call",_,[],k+1,L,.call k a x y q d as .nil,h,by unfold iX;rw[bC w];rfl,(λz hz=>nomatch hz),(λi z hz=>nomatch hz),U,bW _,U,λm p T P f E J b=>?_,t};cases b;exact .call E J (f _ _ h) (f _ _ hg) hl hz .nil
 | @again n _ M _ _ l G _ N L h hl s t=>
  refine{"again",_,[(l,G,N,k+1,M)],M,L,.again k a N .nil,h,by unfold iX;rw[bF<|.inr rfl];rfl,λz hz=>?_,λi z hz=>?_,U,by first | (show 1<=2;decide) | (show 2<=2;decide),U,λm p T P f E J b=>?_,t}
  .rw[wx1.mp hz];exact⟨hl,n,rfl,s⟩
  .cases i with
   | zero=>cases hz;rfl
   | succ i=>cases hz
  .cases b with
   | cons r O=>
    cases O;obtain⟨es,j,o⟩:=r;exact .again E J (f _ _ h) j o .nil
 | @either n _ M X _ _ l1 l2 G W _ N L2 L h Y h2 s1 s2 t=>
  refine{"either",_,[(l1,G,N,k+1,M),(l2,W,L2,M,X)],X,L,.either k a N L2 .nil,h,by unfold iX;rw[bF<|.inl rfl];rfl,λz hz=>?_,λi z hz=>?_,U,by first | (show 1<=2;decide) | (show 2<=2;decide),U,λm p T P f E J b=>?_,t}
  .obtain rfl|hz:=wx0.mp hz
   .exact⟨Y,n,rfl,s1⟩
   .rw[wx1.mp hz];exact⟨h2,n,rfl,s2⟩
  .match i,hz with
   | 0,hz=>cases hz;rfl
   | 1,hz=>cases hz;rfl
  .cases b with
   | cons r O=>
    cases O with
    | cons r2 O=>
     cases O;obtain⟨es,j,o⟩:=r;obtain⟨C,B,A⟩:=r2;exact .either E J (f _ _ h) j B o A .nil
abbrev Lt:=eH×Ki eH×LL×Kk×Kk
inductive OD(n:Kk)(vs:Ki V)(H:Hp)(Q:VK):Prop
 | mk(Z:zZ->Kj zZ->Prop)(bd l fd:eH)(rs es:Ki eH)(L:LL)(k':Kk)(h1:vs=[.ref bd,.ref l,.ref fd])(h2:H l\(.tup<|rs.map Yg))(h3:Ly Z H n ↑es rs L k')(h4:H fd\(.lst<|es.map Yg))(h5:k'<=1000000)
  (h6:∀(x:eH)(xs ns:Ki eH)(H':Hp),FrS [fd] H H'->H' fd\(.lst<|(es++ns).map Yg)->↑(es++ns)=k'->H' x\(.tup<|xs.map Yg)->Ens Z H' L xs->Q (.ref x) H')
def lG(n:Kk):Sp:=λvs H Q _=>OD n vs H Q
def NS:Kk->Sp
 | 0=>λ_ _ _ _=>Kn
 | n+1=>lG n
inductive Ip(Z:zZ->Kj zZ->Prop)(n:Kk)(H:Hp)(bd l fd tl:eH)(rs es:Ki eH)(L:LL)(k' i:Kk)(σ:St)(Hx:Hp):Prop
 | mk(a b:Kj V)(ts ns:Ki eH)(L1 L2:LL)(hσ:σ=[Kp<|.ref bd,Kp<|.ref l,Kp<|.ref fd,Kp<|.ref tl,a,b])(fr:FrS [fd] H Hx)(hf:Hx fd\(.lst<|(es++ns).map Yg))(ht:Hx tl\(.lst<|ts.map Yg))(hn:↑ts<=i)(he:L=L1.app L2)(hl:Ly Z Hx n ↑(es++ns) (rs.drop i) L2 k')(hE:Ens Z Hx L1 ts)
def sR(k:Kk)(ls:Ki Lt)(j:Kk):Nat:=if j=0 then k+1 else((ls[j-1]?).map λy=>y.2.2.2.2).getD 0
inductive Em(Z:zZ->Kj zZ->Prop)(k:Kk)(H1 H2:Hp)(bd fd Dl:eH)(es:Ki eH)(ls:Ki Lt)(j:Kk)(σ:St)(Hx:Hp):Prop
 | mk(a:Kj V)(zs ns:Ki eH)(hσ:σ=[a,Kp<|.ref bd,Kp<|.ref fd])(fr:FrS [fd] H1 Hx)(tp:Tup H2 Hx)(hf:Hx fd\(.lst<|(es++ns).map Yg))(hc:↑(es++ns)=sR k ls j)(hD:Hx Dl\(.lst<|zs.map Yg))(hE:A2 (λ(z:Lt) t=>∃es:Ki eH,Hx t\(.tup<|es.map Yg)/\Ens Z Hx z.2.2.1 es) (ls.take j) zs)
def FrS.tup1(f:FrS [a] H H')(h:H a\.lst ys):Tup H H':=FrS.tup f λb d i e=>by
 have:b=a:=by simpa using d
 subst this;rw[h]at e;cases e
abbrev tU:Ki zZ:=["body","rows","found"]
def scLy:bX ["body","rows","found","told","row","number"] tU (bP nA):=cF
def pF{n k:Kk}(F:Fun K "lay" "lay" nA f fd)(WI:aV P w K mg base k "rows_within" ["row"] JL)(LA:aV P w K mg base k "lay" tU (NS n))(ml:mg "len"=Kr)(b9:mg "tuple"=Kr):aS P w K mg base bO (k+1) f fd tU (lG n):=by
 refine F.ok scLy (λvs H Q E h=>?_) λbv A outer s H vs Q E hr h=>?_
 .obtain⟨Z,bd,l,fl,rs,es,L,Y,rfl,_⟩:=h;rfl
 obtain⟨Z,bd,l,fl,rs,es,L,Y,rfl,hl,hF,ak,hb,q⟩:=h;have bp:(["inner","body","found"]:Ki zZ).Nodup:=by rfl'
 exists _,aJ (sL 3 scLy.nd<|cU aE)
  (aJ (eU dU rfl (iC<|pv 1) (gL 4 scLy.nd) (aJ (sL 5 scLy.nd<|eM jE rfl ml iW<|aA (pv 2) aE) (aJ (dH<|eW eQ fU fS fL (pv 2)<|aA (bZ<|aA (pv 5)<|aA (pv 0)<|aA (pv 4) aE) aE) (aR (dH (eW eQ fU fS fL (pv 3) (aA (bZ (aA (pv 5) (aA (pv 4) (aA (fF jA rfl b9 (by rfl') (aA (iQ (N':=["inner","body","found"]) (src:=[Kr,Kp 0,Kp 2]) rfl fJ (iC<|bD WI hr rfl<|aA (pv 4) aE)
     (g:=cJ 0) (λ_ _ _ _=>gL 0 bp) (λ_ _ _ _=>gW)
     (te:=gD (NS n) [] E0<|bG (aI 1)<|bG (aI 0)<|bG (aI 2) bE)
     (λ_ _ _ _=>bD LA hr rfl<|aA (pv 1)<|aA (pv 0)<|aA (pv 2) aE)) aE)) aE)))) aE)))))))
  (aR<|bQ<|fF jA rfl b9 (by rfl')<|aA (pv 3) aE))
 ac_rfl
 have s3:3<=sizeLine:=cX (bM<|by decide);refine{bW _,λtl ae=>?_};have be:Tup H (upd H tl<|.lst []):=Yn ae;have af:fl≠tl:=aQ ak ae;exists _,U,l,U,{_,Ym<|be _ _ hl};refine lU (xs:=rs.map Yg) (Ip Z n H bd l fl tl rs es L Y) {_,_,[],[],.nil,L,U,Yj ae,by rw[aC af,fP];exact ak,zb1,aZ _,U,by rw[fP];exact hF.keep be,.nil} ?_ ?_ ?_
 .rintro i σ B hi ⟨_,_,_,_,_,_,_,fr,_⟩;exact Ym<|fr.tup1 ak _ _ hl
 .rintro i x σ B r ⟨a0,b0,ts,b,L1,L2,rfl,fr,X,ag,br,rfl,I,hE⟩;rw[bR,wx3]at r;obtain⟨a,ha,rfl⟩:=r;obtain⟨hi,rfl⟩:=ww4.mp ha;rw[rL hi]at I;have av:=I.len;have bz:↑(es++b)+1<=Y:=by
   cases I <;> simp only[LL.size]at av <;> lia
  obtain⟨w,rest,ls,k1,Lr,M,h1,h2,h3,h4,h5,h6,rfl,h8,h9⟩:=I.hd;generalize rs[i]=a at h1 h8;exists _,U,fl,_,U,.inl<|Yl X;refine{_,U,.inl {U,_,Yl X},_,U,_,U,_,U,s3,λd ad=>?_};have ax:=(Yj (S:=[]) (o:=.tup [.int (↑((es++b).map Yg):Kk),.ref bd,.ref a]) ad) _ _ bB X;exists fl,_,_,U,U,ax,FZ (by rw[aK];lia);have au:(↑((es++b).map Yg):Kk)=↑(es++b):=Nu _;rw[au]at ax ⊢;have ar:(es++b).map Yg++[Yg d]=((es++(b++[d])).map Yg):=by rw[<-gF,bT (l₂:=[d])];rfl
  rw[ar];have ab:Tup B (upd (upd B d<|.tup [.int (↑(es++b):Kk),.ref bd,.ref a]) fl<|.lst<|(es++(b++[d])).map Yg):=(Yn ad).trans<|Tup.lst ax;have b6:FrS [fl] H (upd (upd B d<|.tup [.int (↑(es++b):Kk),.ref bd,.ref a]) fl<|.lst<|(es++(b++[d])).map Yg):=(fr.trans<|Yj ad).put'<|.head _;have ai:upd (upd B d<|.tup [.int (↑(es++b):Kk),.ref bd,.ref a]) fl (.lst<|(es++(b++[d])).map Yg) tl\(.lst<|ts.map Yg):=by rw[aC<|bS af,aC<|aQ ag ad];exact ag
  have al:upd (upd B d<|.tup [.int (↑(es++b):Kk),.ref bd,.ref a]) fl (.lst<|(es++(b++[d])).map Yg) fl\(.lst<|(es++(b++[d])).map Yg):=zb1;generalize upd (upd B d<|.tup [.int (↑(es++b):Kk),.ref bd,.ref a]) fl (.lst<|(es++(b++[d])).map Yg)=H1 at b6 ai al ab;have bi:=ab _ _ h1;refine{_,U,.inl {U,_,Yl ai},_,U,_,U,_,U,a,w,rest,U,bi,λN b4=>{N,U,{_,Ym zb1},λm a5=>?_}};rw[h2];have J:FrS [] H1 (upd (upd H1 N<|.tup<|iX w rest) m<|.lst []):=(Yj b4).trans<|Yj a5;have aa:H1 m=none:=rO (Yj b4) a5;rw[h2]at J a5;have ba:fl≠m:=aQ al aa;have b3:upd (upd H1 N<|.tup<|ls.map λz=>Yg z.1) m (.lst []) N\(.tup<|ls.map λz=>Yg z.1):=by rw[aC λz=>by rw[<-z,zb1]at a5;cases a5];exact zb1
  have b5:=J _ _ bB al;have bu:=J _ _ bB ai;have aw:=Yo J;have bc:upd (upd H1 N<|.tup<|ls.map λz=>Yg z.1) m (.lst []) m\.lst []:=zb1;generalize upd (upd H1 N<|.tup<|ls.map λz=>Yg z.1) m (.lst [])=H2 at J b3 b5 bu aw bc;have bg:∀z∈ls,H1 z.1\(.tup<|z.2.1.map Yg)/\∃W,n=W+1/\Ly Z H1 W z.2.2.2.1 z.2.1 z.2.2.1 z.2.2.2.2:=λz hz=>let ⟨x1,W,x2,x3⟩:=h3 z hz;⟨ab _ _ x1,W,x2,x3.keep ab⟩
  have ap:∀z∈ls,z.2.2.2.2<=Y:=λz hz=>by
   obtain⟨j,hj⟩:=vc7.mp hz;have bx:=h9.len;have c0:=(ww4.mp hj).1;have a6:∀(u:Lt),ls[↑ls-1]?\u->u.2.2.2.2<=Y:=λu hu=>by
    rw[JZ,hu]at h5;have:k1=u.2.2.2.2:=h5;lia
   by_cases e:j=↑ls-1
   .exact a6 z (by rw[<-e];exact hj)
   .have bf:j+1=↑ls-1:=by lia
    have hu:ls[j+1]?=Kp ls[j+1]:=bJ ∅;have e4:=h4 (j+1) _ hu;rw[bC ∅,IH,hj]at e4;have e4:ls[j+1].2.2.2.1=z.2.2.2.2:=e4;obtain⟨_,W,_,bn⟩:=h3 _<|iG (by lia:j+1<↑ls);have:=bn.len;have:=a6 _ (by rw[<-bf];exact hu);lia
  refine ED (xs:=ls.map λz=>Yg z.1) (Em Z ↑(es++b) H1 H2 bd fl m (es++(b++[d])) ls) {_,[],[],U,J.mono λ_ h=>absurd h bB,(λ_ _ h=>h),by rw[fP];exact b5,?_,bc,.nil} ?_ ?_ ?_
  .show(es++(b++[d])++[]).length=↑(es++b)+1;rw[fP,<-gF,bN (bs:=[d])];rfl
  .rintro j σ G hj ⟨_,_,_,_,_,ty,_⟩;exact Ym<|ty _ _ b3
  .rintro j x σ G r ⟨x0,zs,T,rfl,fy,ty,aj,ah,ao,O⟩;rw[bR,wx3]at r;obtain⟨z,hz,rfl⟩:=r;have b7:Tup H1 G:=aw.trans ty;have b8:=dC hz;obtain⟨z1,W,rfl,z2⟩:=bg z b8;have bt:=h4 j z hz;have bj:↑(es++(b++[d])++T)=z.2.2.2.1:=ah.trans bt.symm;refine{_,U,_,U,_,U,Z,bd,z.1,fl,z.2.1,es++(b++[d])++T,z.2.2.1,z.2.2.2.2,U,b7 _ _ z1,by rw[bj];exact z2.keep b7,aj,by have:=ap z b8;lia,λx xs nx Hz fz bm an bo bl=>?_};have b1:=fz _ _ (by simpa using bS ba) ao;have am:=fz.tup1 aj;have a8:Tup Hz (upd Hz m<|.lst<|zs.map Yg++[.ref x]):=Tup.lst b1;have bw:↑zs<=2:=by rw[<-O.len,eS];lia
   exists _,b1,bM (by rw[aK];lia),_,zs++[x],T++nx,rfl,(fy.trans fz).put aa,(ty.trans am).trans a8,by rw[aC ba,<-gF];exact bm,?_,by rw[zb1,bT];rfl
   .rw[<-gF,an];show _=sR _ ls (j+1);unfold sR;rw[bC ∅,IH,hz];rfl
   .rw[eY,hz];exact(O.imp λ_ _ ⟨e,a1,a2⟩=>{e,(am.trans a8) _ _ a1,a2.keep<|am.trans a8}).snoc {xs,a8 _ _ bo,bl.keep a8}
  .rintro σ G ⟨x0,zs,T,rfl,fy,ty,aj,ah,ao,O⟩;rw[aK]at ah O;rw[fI<|aZ _]at O;refine{m,_,U,.inl {Yl ao,λpt bh=>{s3,λC b2=>?_}}};have bk:=fy _ _ (by simpa using bS af) ai;have fn:FrS [] G (upd (upd G pt<|.tup<|zs.map Yg) C<|.tup [.int (↑(es++b):Kk),.ref a,.ref pt]):=(Yj bh).trans<|Yj b2;have az:=fn _ _ bB bk;have bb:=fn _ _ bB aj;have a7:upd (upd G pt<|.tup<|zs.map Yg) C (.tup [.int (↑(es++b):Kk),.ref a,.ref pt]) C\.tup [.int (↑(es++b):Kk),.ref a,.ref pt]:=zb1;have ac:upd (upd G pt<|.tup<|zs.map Yg) C (.tup [.int (↑(es++b):Kk),.ref a,.ref pt]) pt\(.tup<|zs.map Yg):=(Yn b2) _ _ zb1;generalize upd (upd G pt<|.tup<|zs.map Yg) C (.tup [.int (↑(es++b):Kk),.ref a,.ref pt])=H3 at fn az bb a7 ac;have ay:Tup H3 (upd H3 tl<|.lst<|ts.map Yg++[.ref C]):=Tup.lst az;have as:=(Yo fn).trans ay;have aq:Tup B (upd H3 tl<|.lst<|ts.map Yg++[.ref C]):=ab.trans<|(aw.trans ty).trans as;exists tl,_,_,U,U,az,FZ (by rw[aK];have:=hF.rl;lia);refine{_,_,ts++[C],b++[d]++T,L1.app M,Lr,U,((b6.trans fy).trans<|fn.mono λ_ h=>absurd h bB).put ae,by rw[aC af,<-gF];exact bb,by rw[zb1,bT];rfl,by rw[bN,eJ];lia,(UX _ _ _).symm,?_,(hE.keep aq).app<|h8 C pt zs _ aq (ay _ _ a7) (ay _ _ ac)<|O.imp λ_ _ ⟨e,a1,a2⟩=>{e,as _ _ a1,a2.keep as}};have:↑(es++(b++[d]++T))=k1:=by
    rw[<-gF,ah,h5];unfold sR;rw[JZ]
    split
    .rw[Od ∅];rfl
    .have bq:↑ls-1<↑ls:=by lia
     rw[bJ bq];rfl
   rw[this];exact h9.keep aq
 .rintro σ B ⟨a0,b0,ts,b,L1,L2,rfl,fr,X,ag,br,rfl,I,hE⟩;rw[aK,yX]at I;cases I;rw[UN]at q;refine{_,U,tl,_,U,.inl {Yl ag,λx r=>?_}};exact q x ts b _ (fr.trans<|Yj r) ((Yj (S:=[]) r) _ _ bB X) rfl zb1<|hE.keep<|Yn r
abbrev MZ:Kd:=top 17
inductive LyB(Z:zZ->Kj zZ->Prop)(H:Hp):Kk->Ki Bz->Ki LL->Kk->Prop
 | nil {k:Kk}:LyB Z H k [] [] k
 | cons {k k1 k':Kk} {z:Bz} {zs:Ki Bz} {L:LL} {Ls:Ki LL} (h:H z.2.2.1\(.tup<|z.2.2.2.1.map Yg)) (s:Ly Z H 4 k z.2.2.2.1 L k1) (hz:L.size<=80) (t:LyB Z H k1 zs Ls k'):LyB Z H k (z::zs) (L::Ls) k'
theorem LyB.keep(h:LyB Z H k zs Ls k')(f:Tup H H'):LyB Z H' k zs Ls k':=by
 induction h with
 | nil=>exact .nil
 | cons h s a _ b=>exact .cons (f _ _ h) (s.keep f) a b
def LyB.mk:∀(l:Ki Bz),(∀z∈l,RowsIs Z H z.2)->∀k,∃b a,LyB Z H k l b a/\a<=k+80*↑l:=λl=>l.recOn
 (λ_ k=>⟨[],k,.nil,aZ _⟩)
 λz l f h k=>by
  obtain⟨m,d,i⟩:=h z<|.head _;obtain⟨L,s⟩:=d.ly k;obtain⟨b,a,t,j⟩:=f (λy e=>h y<|.tail _ e)<|k+↑z.2.2.2.2;have:=s.len;exact⟨L::b,a,.cons m s ∅ t,by rw[cN];lia⟩
def LyB.le(h:LyB Z H k zs Ls k'):k<=k':=by
 induction h with
 | nil=>exact aZ _
 | cons h s a _ b=>have:=s.len;lia
def mE(l:Ki (Pr×LL))(n:Pr):LL:=l.foldl (λa z=>if z.1=n then z.2 else a) .nil
def Gb(l:Ki (Pr×LL))(z:Pr×LL)(n:Pr):mE (l++[z]) n=if z.1=n then z.2 else mE l n:=by
 unfold mE;rw[AC];rfl
def uS{p:LL->Prop}:∀(l:Ki (Pr×LL))(a:LL),p a->(∀z∈l,p z.2)->p (l.foldl (λa z=>if z.1=n then z.2 else a) a):=λl=>l.recOn
 (λ_ b _=>b)
 λz l e a b h=>e _ (by show p (if z.1=n then z.2 else a);split;exact h z<|.head _;exact b) λy d=>h y<|.tail _ d
def xL{K:Fq}{H H':Hp}{a b:eH}{xs ys:Ki V}(f:FrS [a] H H')(d:H a\.lst ys)(h:SqT K H b xs):SqT K H' b xs:=by
 have ne:∀{o:HO},H b\o->(∀z,o≠.lst z)->b∉[a]:=λe n z=>by
  rw[wx1.mp z,d]at e;cases e;exact n _ rfl
 obtain(h|⟨o,h⟩)|h:=h
 .exact .inl<|.inl<|f _ _ (ne h λz e=>nomatch e) h
 .exact .inl<|.inr ⟨o,f _ _ (ne h λz e=>nomatch e) h⟩
 .exact .inr h
inductive uV(P:Jz)(w:Kb)(K:Fq)(vs:Ki V)(H:Hp)(Q:VK):Prop
 | mk(Z:zZ->Kj zZ->Prop)(p:eH)(ks:Ki (zZ×Ki Dz))(m0:Dz)(Ls:Ki LL)(k':Kk)(h1:vs=[.ref p])(h2:ProgIs Z H p ks m0)(h3:LyB Z H 0 (dZ ks m0) Ls k')(h4:k'<=1000000)
  (h5:∀(bo:eH)(qs:Ki (Pr×eH×eH))(H':Hp),FrS [] H H'->H' bo\iF P w bo qs->PvOk K H' qs->(∀z∈dZ ks m0,z.1∈qs.map (·.1))->(∀q∈qs,∃es:Ki eH,H' q.2.2\(.tup<|es.map Yg)/\Ens Z H' (mE (((dZ ks m0).map (·.1)).zip Ls) q.1) es)->Q (.ref bo) H')
def KY(P:Jz)(w:Kb)(K:Fq):Sp:=λvs H Q _=>uV P w K vs H Q
inductive Eg(Z:zZ->Kj zZ->Prop)(P:Jz)(w:Kb)(K:Fq)(H H1:Hp)(fd D:eH)(zs:Ki Bz)(Ls:Ki LL)(k' i:Kk)(σ:St)(Hx:Hp):Prop
 | mk(x y:Kj V)(ns:Ki eH)(qs:Ki (Pr×eH×eH))(h1:σ=[x,y,Kp<|.ref fd])(h2:FrS [] H Hx)(h3:Tup H1 Hx)(h4:Hx fd\(.lst<|ns.map Yg))(h5:Hx D\iF P w D qs)(h6:PvOk K Hx qs)(h7:∀z∈zs.take i,z.1∈qs.map (·.1))(h8:∀q∈qs,∃es:Ki eH,Hx q.2.2\(.tup<|es.map Yg)/\Ens Z Hx (mE ((zs.map (·.1)).zip Ls |>.take i) q.1) es)(h9:LyB Z Hx ↑ns (zs.drop i) (Ls.drop i) k')(h10:↑qs<=i)
def wg9:bX ["program","found"] ["program"] (bP MZ):=cF
def YZ{k:Kk}(F:Fun K "laid" "laid" MZ f fd)(BO:aV P w K mg base k "bodies" qK (JC K))(LA:aV P w K mg base k "lay" tU (lG 4)):aS P w K mg base bO (k+1) f fd ["program"] (KY P w K):=by
 refine F.ok wg9 (λvs H Q E h=>?_) λar A outer s H vs Q E hr h=>?_
 .obtain⟨Z,p,ks,m,j,k',rfl,_⟩:=h;rfl
 obtain⟨Z,p,ks,m,j,k',rfl,hP,hL,hk,q⟩:=h;have hu:=eN hr;have ac:(["body","rows","found"]:Ki zZ).Nodup:=by rfl'
 exists _,aJ (iU (i:=1) wg9.nd rfl (Oa U)<|cU aE)
  (aR<|bQ<|VB (hp:=Dp<|oT hu) (N':=["body","rows","found"]) (src:=[Kr,Kr,Kp 1]) rfl fJ (iC<|bD BO hr rfl<|aA (pv 0) aE) (g:=fC K 2<|eR (cJ 0)<|eR (cJ 1) eV) (λ_ _ _ _=>dS (n:=2) rfl<|bK (gL 0 ac)<|bK (gL 1 ac) dX) (λ_ _ _ _=>gW) (λ_ _ _ _=>pv 0) (te:=gD (lG 4) [] E0<|bG (aI 0)<|bG (aI 1)<|bG (aI 2) bE) λ_ _ _ _=>bD LA hr rfl<|aA (pv 0)<|aA (pv 1)<|aA (pv 2) aE)
 ac_rfl
 refine{bW _,λfl a9=>?_};have f0:FrS [] H (upd H fl<|.lst []):=Yj a9;refine{_,U,p,ks,m,U,hP.keep<|Yo f0,λb qs H1 X hb hA as=>?_};have af:=X _ _ bB<|zb1 (H:=H) (a:=fl) (o:=.lst []);refine{b,U,{_,Ym hb},λD C=>?_};have a4:D≠fl:=λz=>by rw[z,af]at C;cases C
 have t1:Tup H1 (upd H1 D<|iF P w D []):=Yn C;have fD:FrS [] H (upd H1 D<|iF P w D []):=(f0.trans X).trans<|Yj C;have ao:H D=none:=rO (f0.trans X) C;refine VL (xs:=qs.map Yg) (Eg Z P w K H H1 fl D (dZ ks m) j k') {_,_,[],[],U,fD,t1,by rw[aC<|bS a4];exact af,zb1,(λq d=>nomatch d),(λz hz=>nomatch hz),(λq d=>nomatch d),hL.keep<|Yo fD,aZ _} ?_ ?_ ?_
 .rintro i σ Hx hi ⟨_,_,_,_,_,_,tx,_⟩;exact Ym<|tx _ _ hb
 .rintro i x σ Hx hx ⟨x0,y0,Y,ps,rfl,fx,tx,O,a6,ok,J,W,M,aj⟩;rw[bR,wx3]at hx;obtain⟨u,aa,rfl⟩:=hx;obtain⟨z,hz,bd,d,ai⟩:=hA.get aa;have hi:=(ww4.mp hz).1;have ak:=rL hi;have al:=(ww4.mp hz).2;rw[ak,al]at M;generalize hLd:j.drop i=Ld at M;cases M with
  | @cons _ k1 _ _ _ L Lr h1 s1 hs tl=>
   have an:j[i]?\L:=by
    have:=cH (λl=>l[0]?) hLd;simpa using this
   exists u,_,U,Ym<|tx _ _ d,U,_,_,U,_,_,U,U;refine{_,U,_,U,_,U,_,U,Z,bd,z.2.2.1,fl,z.2.2.2.1,Y,L,k1,U,h1,s1,O,hX tl.le hk,λl xs nx H3 T aq a5 ag ah=>?_};have I:=T.tup1 O;have a8:=T _ _ (by simpa using a4) a6;have ad:=(ai.keep<|tx.trans I).sq;have ae:PvOk K H3 ps:=λq d=>xL T O<|ok q d;have B:Tup H3 (upd H3 D<|iF P w D<|iB ps z.1 bd l):=λc xs e=>by rw[aC λy=>by rw[y,a8]at e;cases e];exact e
   have k4:∀{c:eH}{xs:Ki V},SqT K H3 c xs->SqT K (upd H3 D<|iF P w D<|iB ps z.1 bd l) c xs:=λh=>by
    have ne:∀{c:eH}{o:HO},H3 c\o->(∀φ,o≠.ext φ)->c≠D:=λe n y=>by
     rw[y,a8]at e;cases e;exact n _ rfl
    obtain(h|⟨o,h⟩)|h:=h
    .exact .inl (.inl<|by rw[aC<|ne h λ_ e=>nomatch e];exact h)
    .exact .inl<|.inr ⟨o,by rw[aC<|ne h λ_ e=>nomatch e];exact h⟩
    .exact .inr h
   have a7:((((dZ ks m).map (·.1)).zip j).take<|i+1)=(((dZ ks m).map (·.1)).zip j).take i++[(z.1,L)]:=by
    have:(((dZ ks m).map (·.1)).zip j)[i]?\(z.1,L):=by rw[xW];exact{by rw[bR,hz];rfl,an}
    rw[eY,this];rfl
   have ab:i<1000:=by
    have:=(ww4.mp aa).1;lia
   refine{ps,bd,z.1,l,U,U,a8,ae,ad,bM ∅,_,_,Y++nx,iB ps z.1 bd l,U,?_,(tx.trans I).trans B,by rw[aC<|bS a4];exact aq,zb1,λq d=>k4<|(ae.put ad) q d,λy r=>?_,λq d=>?_,?_,by have:=VF (qs:=ps) (n:=z.1) (b:=bd) (l:=l);lia}
   .intro c o _ e;have hc:c≠D:=aQ e ao;rw[aC hc];exact T _ _ (by simpa using (aQ e a9))<|fx _ _ bB e
   .have G:z.1∈(iB ps z.1 bd l).map (·.1)/\∀n∈ps.map (·.1),n∈(iB ps z.1 bd l).map (·.1):=by
     unfold iB
     split
     .have e:(ps.map λq=>if q.1=z.1 then(q.1,q.2.1,l) else q).map (·.1)=ps.map (·.1):=by
       rw[jW];refine ER λq _=>?_;show(if q.1=z.1 then(q.1,q.2.1,l) else q).1=q.1
       split <;> rfl
      rw[e];exact{‹_›,λ_ h=>h}
     .rw[bT];exact{gS _<|.head _,λ_ h=>qQ _ h}
    rw[eY,hz]at r;obtain r|r:=wz2.mp r
    .exact G.2 _<|J y r
    .have:y=z:=by simpa using r
     rw[this];exact G.1
   .rw[a7,Gb];have old:∀q∈ps,q.1≠z.1->∃es:Ki eH,upd H3 D (iF P w D<|iB ps z.1 bd l) q.2.2\(.tup<|es.map Yg)/\Ens Z (upd H3 D<|iF P w D<|iB ps z.1 bd l) (if z.1=q.1 then L else mE ((((dZ ks m).map (·.1)).zip j).take i) q.1) es:=λq d ap=>by
     obtain⟨es,e1,N⟩:=W q d;rw[bC<|bS ap];exact{es,(I.trans B) _ _ e1,N.keep<|I.trans B}
    have new:∃es:Ki eH,upd H3 D (iF P w D<|iB ps z.1 bd l) l\(.tup<|es.map Yg)/\Ens Z (upd H3 D<|iF P w D<|iB ps z.1 bd l) L es:=⟨xs,B _ _ ag,ah.keep B⟩;unfold iB at d
    split at d
    .obtain⟨y,r,rfl⟩:=wx6.mp d
     by_cases c:y.1=z.1
     .rw[bF c];show ∃es:Ki eH,_/\Ens Z _ (if z.1=y.1 then L else _) es;rw[bF c.symm];exact new
     .rw[bC c];exact old y r c
    .obtain d|d:=wz2.mp d
     .exact old q d λc=>absurd (wx6.mpr ⟨q,d,c⟩) ‹_›
     .rw[wx1.mp d];show ∃es:Ki eH,_/\Ens Z _ (if z.1=z.1 then L else _) es;rw[bF rfl];exact new
   .have am:j.drop (i+1)=Lr:=by
     have:=cH (Ki.drop 1) hLd;rw[Qp]at this;exact this
    rw[am,a5];exact tl.keep<|I.trans B
 .rintro σ Hx ⟨x0,y0,Y,ps,rfl,fx,tx,O,a6,ok,J,W,M,aj⟩;have ab:↑(dZ ks m)=↑qs:=hA.len.symm;rw[aK,<-ab]at J W;rw[fI<|aZ _]at J;refine q D ps Hx fx a6 ok J λq d=>?_;obtain⟨es,e1,N⟩:=W q d;rw[fI<|by rw[rB,aK];exact Kk.min_le_left _ _]at N;exact⟨es,e1,N⟩
abbrev MW:Kd:=PB 28
def hr0(tr:Tr)(a:Ki zZ):Ki zZ:=(tr.map (·.1)).filter λx=>decide<|x∉a
inductive uU(Y:Ry)(vs:Ki V)(H:Hp)(Q:VK):Prop
 | mk(Z:zZ->Kj zZ->Prop)(x dx p md ch:eH)(ks:Ki (zZ×Ki Dz))(m0:Dz)(tr:Tr)(late:Ki zZ)(Ls:Ki LL)(k':Kk)(h1:vs=[.ref x,.ref p,.ref md,.ref ch])(h2:H x\.ins Y.C.rn dx [])(h3:H md\.tup [])(h4:ProgIs Z H p ks m0)(h5:KindsAt H p tr)(h6:LateAt H p tr late)(h7:↑tr<=12)(h8:LyB Z H 0 (dZ ks m0) Ls k')(h9:k'<=1000000)
  (q:∀(fo bo he to lo:eH)(qs:Ki (Pr×eH×eH))(H':Hp),FrS [x] H H'->H' x\(.ins Y.C.rn dx<|rF p ⟨dx,md,fo,bo,ch,he,to,lo,[],[],[],[]⟩ 0 0 0 0)->H' fo\.dK []->H' he\(.lst<|(hr0 tr late).map Yf)->H' to\.lst []->H' lo\.lst []->(∀b∈[fo,he,to,lo],H b=Kr)->[fo,he,to,lo].Nodup-> H' bo\iF Y.pr Y.w bo qs->PvOk Y.K H' qs->(∀z∈dZ ks m0,z.1∈qs.map (·.1))->(∀q∈qs,∃es:Ki eH,H' q.2.2\(.tup<|es.map Yg)/\Ens Z H' (mE (((dZ ks m0).map (·.1)).zip Ls) q.1) es)->Q .non H')
def IR(Y:Ry):Sp:=λvs H Q _=>uU Y vs H Q
abbrev yD:Ki zZ:=["self","program","made","choices"]
def BX{Q:St->Hp->Prop}{a:St}{H H':Hp}(h:Q a H')(e:H=H':=by rfl):Q a H:=by rw[e];exact h
def FT{t:TE}{a:St}{Q:VK}{H H':Hp}(h:t a H' Q)(e:H=H':=by rfl):t a H Q:=by rw[e];exact h
inductive Je(H1:Hp)(Dl p:eH)(ns late:Ki zZ)(i:Kk)(σ:St)(Hx:Hp):Prop
 | mk(x y z:Kj V)(hσ:σ=[x,y,z,Kp<|.ref p])(fr:FrS [] H1 Hx)(hD:Hx Dl\(.lst<|((ns.take i).filter λx=>decide<|x∉late).map Yf))
section
variable{Y:Ry}{mg:zZ->Kj iH}{base:Ka}{f:eH}{fd:Ke}
def vD:bX yD yD (bP MW):=cF
def Gs{k:Kk}(F:Fun Y.K "__init__" "Run.__init__" MW f fd)(Z:cZ Y.K Y.C)(FO:aV Y.pr Y.w Y.K mg base k "forms_of" ["made"] IN)(LD:aV Y.pr Y.w Y.K mg base k "laid" ["program"] (KY Y.pr Y.w Y.K)):aS Y.pr Y.w Y.K mg base bO (k+1) f fd yD (IR Y):=by
 refine F.ok vD (λvs H Q E h=>?_) λb5 A outer s H vs Q E hr h=>?_
 .obtain⟨Z,x,dx,p,md,ch,ks,m0,tr,a,Ls,k',rfl,_⟩:=h;rfl
 obtain⟨Z',x,dx,p,md,ch,ks,m0,tr,a,Ls,k',rfl,hx,ay,hP,hK,ax,b0,hL,hk,q⟩:=h;have ah:(["name","elder","deeds","program"]:Ki zZ).Nodup:=by rfl'
 exists _,aJ (gM Z.r (pv 0)<|pv 1)<|aJ (gM Z.r (pv 0)<|pv 2)<|aJ (gM Z.r (pv 0)<|bD FO hr rfl<|aA (pv 2) aE)<|aJ (gM Z.r (pv 0)<|bD LD hr rfl<|aA (pv 1) aE)<|aJ (gM Z.r (pv 0)<|pv 3)<|aJ (gM Z.r (pv 0) aO)<|aJ (gM Z.r (pv 0) aO)<|aJ (gM Z.r (pv 0) aO)<|aJ (gM Z.r (pv 0)<|iQ (N':=["name","elder","deeds","program"]) (src:=[Kr,Kr,Kr,Kp 1]) rfl fJ (iC<|eT (pv 1) aO) (g:=fC Y.K 3<|eR (cJ 0)<|eR (cJ 1)<|eR (cJ 2) eV) (λ_ _ _ _=>dS (n:=3) rfl<|bK (gL 0 ah)<|bK (gL 1 ah)<|bK (gL 2 ah) dX) (tt:=iP<|dJ (jO Y.K Ks) (aI 0)<|dJ (dI Y.K) (aI 3)<|tC<|.int 1) (λ_ _ _ _=>xA<|cC (show OpR _ _ (jO Y.K Ks) from yK) (pv 0) (lZ (show IxR _ (dI Y.K) from oR) (pv 3) aO λ_ _=>U) U) λ_ _ _ _=>pv 0)<|aJ (gM Z.r (pv 0)<|cU aE)<|aJ (gM Z.r (pv 0)<|cU aE)<|aR<|gM Z.r (pv 0) aO
 ac_rfl
 refine{_,U,_,U,x,dx,_,U,hx,by decide,_,U,_,U,x,dx,_,U,zb1,by show 1<1000;decide,?_};rw[gR];have nx:∀{b:eH},H b=Kr->b∉[x]:=λh z=>by rw[wx1.mp z,hx]at h;cases h
 have up:∀{G O:Hp}(o:HO),FrS [] G O->FrS [x] G (upd O x o):=λo f=>(f.mono λ_ h=>absurd h bB).put'<|.head _;have tx:∀{G O:Hp}{fs:Ki (zZ×V)},G x\.ins Y.C.rn dx fs->FrS [x] G O->Tup G O:=λe f b xs h=>f b _ (λz=>by rw[wx1.mp z,e]at h;cases h) h
 have c1:FrS [x] H (upd H x<|.ins Y.C.rn dx<|cQ "made" (.ref md)<|cQ "program" (.ref p) []):=Yk<|.head _;have x1:upd H x (.ins Y.C.rn dx<|cQ "made" (.ref md)<|cQ "program" (.ref p) []) x\.ins Y.C.rn dx [("program",.ref p),("made",.ref md)]:=zb1;generalize upd H x (.ins Y.C.rn dx<|cQ "made" (.ref md)<|cQ "program" (.ref p) [])=G1 at c1 x1;have t1:=tx hx c1;refine{_,U,md,U,t1 _ _ ay,λfo B=>{_,U,x,dx,_,U,(Yj (S:=[]) B) _ _ bB x1,by show 2<1000;decide,?_}};have I:H fo=none:=by
  cases e:H fo with
  | none=>rfl
  | some o=>
   by_cases z:fo=x
   .rw[z,x1]at B;cases B
   .rw[c1 _ _ (by simpa using z) e]at B;cases B
 have c2:=up (.ins Y.C.rn dx [("program",.ref p),("made",.ref md),("forms",.ref fo)])<|Yj (S:=[]) (o:=.dK []) B;have T:upd (upd G1 fo<|.dK []) x (.ins Y.C.rn dx [("program",.ref p),("made",.ref md),("forms",.ref fo)]) x\.ins Y.C.rn dx [("program",.ref p),("made",.ref md),("forms",.ref fo)]:=zb1;have o2:upd (upd G1 fo<|.dK []) x (.ins Y.C.rn dx [("program",.ref p),("made",.ref md),("forms",.ref fo)]) fo\.dK []:=(aC<|by simpa using nx I).trans zb1;refine BX (H':=upd (upd G1 fo<|.dK []) x<|.ins Y.C.rn dx [("program",.ref p),("made",.ref md),("forms",.ref fo)]) ?_;generalize upd (upd G1 fo<|.dK []) x (.ins Y.C.rn dx [("program",.ref p),("made",.ref md),("forms",.ref fo)])=G2 at c2 T o2 ⊢;have t2:=t1.trans<|tx x1 c2;refine{_,U,Z',p,ks,m0,Ls,k',U,hP.keep t2,hL.keep t2,hk,λbo qs m f3 ar hok az b1=>{_,U,x,dx,_,U,f3 _ _ bB T,by show 3<1000;decide,?_}};refine{_,U,_,U,x,dx,_,U,zb1,by show 4<1000;decide,_,U,x,dx,_,U,zb1,by show 5<1000;decide,_,U,x,dx,_,U,zb1,by show 6<1000;decide,_,U,x,dx,_,U,zb1,by show 7<1000;decide,?_};rw[gR,gR,gR,gR];have c3:=up (.ins Y.C.rn dx [("program",.ref p),("made",.ref md),("forms",.ref fo),("bodies",.ref bo),("choices",.ref ch),("many_read",.int 0),("many_done",.int 0),("under_way",.int 0)]) f3;have d3:FrS [x] m (upd m x<|.ins Y.C.rn dx [("program",.ref p),("made",.ref md),("forms",.ref fo),("bodies",.ref bo),("choices",.ref ch),("many_read",.int 0),("many_done",.int 0),("under_way",.int 0)]):=Yk<|.head _;have x3:upd m x (.ins Y.C.rn dx [("program",.ref p),("made",.ref md),("forms",.ref fo),("bodies",.ref bo),("choices",.ref ch),("many_read",.int 0),("many_done",.int 0),("under_way",.int 0)]) x\.ins Y.C.rn dx [("program",.ref p),("made",.ref md),("forms",.ref fo),("bodies",.ref bo),("choices",.ref ch),("many_read",.int 0),("many_done",.int 0),("under_way",.int 0)]:=zb1;refine BX (H':=upd m x<|.ins Y.C.rn dx [("program",.ref p),("made",.ref md),("forms",.ref fo),("bodies",.ref bo),("choices",.ref ch),("many_read",.int 0),("many_done",.int 0),("under_way",.int 0)]) ?_;generalize upd m x (.ins Y.C.rn dx [("program",.ref p),("made",.ref md),("forms",.ref fo),("bodies",.ref bo),("choices",.ref ch),("many_read",.int 0),("many_done",.int 0),("under_way",.int 0)])=G4 at c3 d3 x3 ⊢;have t4:=t2.trans<|tx T c3;have av:=(c1.trans c2).trans c3;obtain⟨kt,ts,v1,v2,hp,ak,ab,b3⟩:=hK.keepT t4;obtain⟨b7,lt,v3,aw,b2,b6,_,_⟩:=ax.keep t4;refine{_,U,p,_,_,_,U,U,Ym hp,U,kt,U,{_,Ym ak},λhe W=>?_};have b8:↑(tr.map (·.1))<=12:=by rw[aK];exact b0
 refine ED (xs:=ts.map Yg) (Je G4 he p (tr.map (·.1)) a) {_,_,_,U,(FrS.refl).put W,zb1} ?_ ?_ ?_
 .rintro j σ Hy hj ⟨_,_,_,_,fr,_⟩;exact Ym<|fr _ _ bB ak
 .rintro j x' σ Hy aq ⟨_,_,_,rfl,fr,am⟩;rw[bR,wx3]at aq;obtain⟨u,hu,rfl⟩:=aq;have hj:j<↑tr:=by rw[<-ab];exact(ww4.mp hu).1
  have hz:tr[j]?=Kp tr[j]:=bJ hj;obtain⟨v,hv⟩:=b3 j u _ hu hz;generalize tr[j]=zj at hz hv;have eF:((tr.map (·.1)).take<|j+1).filter (λx=>decide<|x∉a)=((tr.map (·.1)).take j).filter (λx=>decide<|x∉a)++[zj.1].filter (λx=>decide<|x∉a):=by
   rw[eY,bR,hz,Oy];rfl
  have b4:↑(((tr.map (·.1)).take j).filter λx=>decide<|x∉a)<=12:=by
   have h2:=tZ (λx=>decide<|x∉a)<|(tr.map (·.1)).take j;rw[eS]at h2;lia
  exists u,_,U,Ym<|fr _ _ bB hv,U,_,_,U,_,_,U,_,_,U,U;exists _,U,_,U,p,_,_,_,U,U,Ym<|fr _ _ bB aw,U,lt,_,U,.inr<|Ym<|fr _ _ bB b2,U,jV _,_,U;show if (!gQ (.str zj.1) (a.map Yf))=Ks then _ else _
  rw[lW];refine bH (λc=>?_) λc=>?_
  .have c:zj.1∉a:=by simpa using c
   exists _,U,_,am,bM (by rw[aK];lia),_,_,_,rfl,fr.put W;rw[zb1,eF,Rj (by simpa using c),Nv,bT];rfl
  .have c:zj.1∈a:=by simpa using c
   exists _,_,_,U,fr;rw[eF,Rk (by simpa using c),Nv,fP];exact am
 rintro σ L ⟨_,_,_,rfl,f5,ap⟩;rw[aK,ab,<-Nu (as:=tr) (f:=(·.1)),fI<|aZ _]at ap;have back:∀{G:Hp}{fs:Ki (zZ×V)}{b:eH},FrS [x] H G->G x\.ins Y.C.rn dx fs->G b=Kr->H b=none:=λ{G fs b} c e h=>by
  cases z:H b with
  | none=>rfl
  | some o=>
   have n:b≠x:=λy=>by rw[y,e]at h;cases h
   rw[c _ _ (by simpa using n) z]at h;cases h
 have X:=back av x3 W;have x5:=f5 _ _ bB x3;have aa:G4 fo\.dK []:=c3 _ _ (nx I) o2;have n1:fo≠he:=aQ aa W;refine{_,U,x,dx,_,U,x5,by show 8<1000;decide,bW _,λto l=>?_};have P:=up (.ins Y.C.rn dx [("program",.ref p),("made",.ref md),("forms",.ref fo),("bodies",.ref bo),("choices",.ref ch),("many_read",.int 0),("many_done",.int 0),("under_way",.int 0),("here",.ref he)]) f5;have x6:upd L x (.ins Y.C.rn dx [("program",.ref p),("made",.ref md),("forms",.ref fo),("bodies",.ref bo),("choices",.ref ch),("many_read",.int 0),("many_done",.int 0),("under_way",.int 0),("here",.ref he)]) x\.ins Y.C.rn dx [("program",.ref p),("made",.ref md),("forms",.ref fo),("bodies",.ref bo),("choices",.ref ch),("many_read",.int 0),("many_done",.int 0),("under_way",.int 0),("here",.ref he)]:=zb1;have a6:upd L x (.ins Y.C.rn dx [("program",.ref p),("made",.ref md),("forms",.ref fo),("bodies",.ref bo),("choices",.ref ch),("many_read",.int 0),("many_done",.int 0),("under_way",.int 0),("here",.ref he)]) he\(.lst<|(hr0 tr a).map Yf):=(aC<|by simpa using nx X).trans ap;have l:upd L x (.ins Y.C.rn dx [("program",.ref p),("made",.ref md),("forms",.ref fo),("bodies",.ref bo),("choices",.ref ch),("many_read",.int 0),("many_done",.int 0),("under_way",.int 0),("here",.ref he)]) to=none:=l;refine FT (H':=upd (upd L x<|.ins Y.C.rn dx [("program",.ref p),("made",.ref md),("forms",.ref fo),("bodies",.ref bo),("choices",.ref ch),("many_read",.int 0),("many_done",.int 0),("under_way",.int 0),("here",.ref he)]) to<|.lst []) ?_;generalize upd L x (.ins Y.C.rn dx [("program",.ref p),("made",.ref md),("forms",.ref fo),("bodies",.ref bo),("choices",.ref ch),("many_read",.int 0),("many_done",.int 0),("under_way",.int 0),("here",.ref he)])=J at P x6 a6 l ⊢;have an:=av.trans P;have a4:=back an x6 l;have ad:=P _ _ (nx I) aa;refine{_,U,x,dx,_,U,(Yj (S:=[]) l) _ _ bB x6,by show 9<1000;decide,bW _,λlo i=>?_};have N:=up (.ins Y.C.rn dx [("program",.ref p),("made",.ref md),("forms",.ref fo),("bodies",.ref bo),("choices",.ref ch),("many_read",.int 0),("many_done",.int 0),("under_way",.int 0),("here",.ref he),("todo",.ref to)])<|Yj (S:=[]) (o:=.lst []) l;have x7:upd (upd J to<|.lst []) x (.ins Y.C.rn dx [("program",.ref p),("made",.ref md),("forms",.ref fo),("bodies",.ref bo),("choices",.ref ch),("many_read",.int 0),("many_done",.int 0),("under_way",.int 0),("here",.ref he),("todo",.ref to)]) x\.ins Y.C.rn dx [("program",.ref p),("made",.ref md),("forms",.ref fo),("bodies",.ref bo),("choices",.ref ch),("many_read",.int 0),("many_done",.int 0),("under_way",.int 0),("here",.ref he),("todo",.ref to)]:=zb1;have a5:upd (upd J to<|.lst []) x (.ins Y.C.rn dx [("program",.ref p),("made",.ref md),("forms",.ref fo),("bodies",.ref bo),("choices",.ref ch),("many_read",.int 0),("many_done",.int 0),("under_way",.int 0),("here",.ref he),("todo",.ref to)]) to\.lst []:=(aC<|by simpa using nx a4).trans zb1;have i:upd (upd J to<|.lst []) x (.ins Y.C.rn dx [("program",.ref p),("made",.ref md),("forms",.ref fo),("bodies",.ref bo),("choices",.ref ch),("many_read",.int 0),("many_done",.int 0),("under_way",.int 0),("here",.ref he),("todo",.ref to)]) lo=none:=i;refine FT (H':=upd (upd (upd J to<|.lst []) x<|.ins Y.C.rn dx [("program",.ref p),("made",.ref md),("forms",.ref fo),("bodies",.ref bo),("choices",.ref ch),("many_read",.int 0),("many_done",.int 0),("under_way",.int 0),("here",.ref he),("todo",.ref to)]) lo<|.lst []) ?_;generalize upd (upd J to<|.lst []) x (.ins Y.C.rn dx [("program",.ref p),("made",.ref md),("forms",.ref fo),("bodies",.ref bo),("choices",.ref ch),("many_read",.int 0),("many_done",.int 0),("under_way",.int 0),("here",.ref he),("todo",.ref to)])=G7 at N x7 a5 i ⊢;have al:=an.trans N;have a8:=back al x7 i;have ac:=N _ _ (nx I) ad;have a9:=N _ _ (nx X) a6;have x8:=(Yj (S:=[]) (o:=.lst []) i) _ _ bB x7;have M:=up (.ins Y.C.rn dx<|rF p ⟨dx,md,fo,bo,ch,he,to,lo,[],[],[],[]⟩ 0 0 0 0)<|Yj (S:=[]) (o:=.lst []) i;refine{_,U,x,dx,_,U,x8,by show 10<1000;decide,_,U,x,dx,_,U,zb1,by show 11<1000;decide,?_};rw[gR];have ag:FrS [x] m (upd (upd G7 lo<|.lst []) x<|.ins Y.C.rn dx<|rF p ⟨dx,md,fo,bo,ch,he,to,lo,[],[],[],[]⟩ 0 0 0 0):=((d3.trans P).trans N).trans M;have ao:=f3 _ _ bB T;have af:=tx ao ag;have au:∀{b:eH}{o:HO},m b\o->(∀d fs,o≠.ins Y.C.rn d fs)->b∉[x]:=λe n z=>by
  rw[wx1.mp z,ao]at e;cases e;exact n _ _ rfl
 have ai:upd (upd G7 lo<|.lst []) x (.ins Y.C.rn dx<|rF p ⟨dx,md,fo,bo,ch,he,to,lo,[],[],[],[]⟩ 0 0 0 0) lo\.lst []:=(aC<|by simpa using nx a8).trans zb1;refine q fo bo he to lo qs _ (al.trans M) zb1 (M _ _ (nx I) ac) (M _ _ (nx X) a9) (M _ _ (nx a4) a5) ai ?_ ?_ (ag _ _ (au ar λ_ _ e=>nomatch e) ar) ?_ az ?_
 .intro b hb;simp only[wx0,bB,dO]at hb;obtain rfl|rfl|rfl|rfl:=hb
  .exact I
  .exact X
  .exact a4
  .exact a8
 .simp only[vc1,wx0,bB,dO,fZ,not_false_eq_true,lC,and_true];exact{{n1,aQ ad l,aQ ac i},{aQ a6 l,aQ a9 i},aQ a5 i}
 .intro q' aj;obtain(h|⟨o,h⟩)|h:=hok q' aj
  .exact .inl<|.inl<|af _ _ h
  .exact .inl<|.inr ⟨o,ag _ _ (au h λ_ _ e=>nomatch e) h⟩
  .exact .inr h
 .intro q' aj;obtain⟨es,e1,e2⟩:=b1 q' aj;exact{es,af _ _ e1,e2.keep af}
end
abbrev JD:Kd:=top 45
abbrev KS:Kd:=top 47
structure EI{Y:Ry}(R:Rx Y)(H:Hp)(ks:Ki (zZ×Ki Dz))(m0:Dz)(tr:Tr)(late:Ki zZ)(Ls:Ki LL)(k':Kk):Prop where
 p:ProgIs R.Z H R.pg ks m0
 k:KindsAt H R.pg tr
 l:LateAt H R.pg tr late
 t12:↑tr<=12
 b:LyB R.Z H 0 (dZ ks m0) Ls k'
 k6:k'<=1000000
 hs:∀n d,R.G.hs n d->(n,d)∈(dZ ks m0).map (·.1)
 h0:R.G.hs "" ""
 bo:∀n d,R.G.bo n d=mE (((dZ ks m0).map (·.1)).zip Ls) (n,d)
 pg:lE R
 pz:Pz R.G
 nm:∀x∈hr0 tr late,x∈R.G.nm
inductive Fo(Y:Ry)(vs:Ki V)(H:Hp)(Q:VK):Prop
 | mk(R:Rx Y)(md ch:eH)(ks:Ki (zZ×Ki Dz))(m0:Dz)(tr:Tr)(late:Ki zZ)(Ls:Ki LL)(k':Kk)(h1:vs=[.ref R.pg,.ref md,.ref ch])(h2:H md\.tup [])(h3:EI R H ks m0 tr late Ls k')(h4:H ch\(.tup<|R.G.ch.map Yh))(h5:R.H0=H)
  (q:∀(x:eH)(A:Ra)(H':Hp),RunAt R H' x A ⟨[],[],[],[],0,0,0,hr0 tr late⟩ 0->Q (.ref x) H')
def Gg{Y:Ry}(vs:Ki V)(H:Hp)(Q:VK)(h:Fo Y vs H Q)(x dx:eH)(h1:H x=Kr)(h2:H dx=Kr)(B:dx≠x):IR Y (.ref x::vs) (upd (upd H dx<|.own x) x<|.ins Y.C.rn dx []) (λv H2=>v=.non/\Q (.ref x) H2) E0:=by
 obtain⟨R,md,ch,ks,A,tr,i,I,k',rfl,r,g,X,rfl,q⟩:=h;have f:FrS [] R.H0 (upd (upd R.H0 dx<|.own x) x<|.ins Y.C.rn dx []):=(Yj h2).trans (Yj<|by rw[aC<|bS B];exact h1);have t:=Yo f;refine{R.Z,x,dx,R.pg,md,ch,ks,A,tr,i,I,k',U,zb1,t _ _ r,g.p.keep t,g.k.keepT t,g.l.keep t,g.t12,g.b.keep t,g.k6,λfo bo he to lo qs H' fr u w P L s W M N j O T=>{U,q x {dx,md,fo,bo,ch,he,to,lo,[],[],[],[]} H' ?_}};have m:∀b∈[fo,he,to,lo],R.H0 b=Kr/\b≠x:=λb a=>by
  have:=W b a;refine{?_,λz=>by rw[z,zb1]at this;cases this};cases e:R.H0 b with
  | none=>rfl
  | some o=>rw[f _ _ bB e]at this;cases this
 have kp:∀b o,R.H0 b\o->H' b\o:=λb o e=>fr _ _ (by simpa using (aQ e h1))<|f _ _ bB e
 refine {im:={kp _ _ r,kp _ _ X,.nil,.nil,.nil,qs,{N,j,λn d h=>?_,λE J=>?_}},run:=u,fo:=w,he:=P,to:=L,lo:=s,dc:=.nil,dk:=(λd hd=>nomatch hd),nd:=?_,kp:=kp,fr:=?_}
 .obtain⟨z,hz,e⟩:=wx6.mp<|g.hs n d h;rw[<-e];exact O z hz
 .obtain⟨es,e1,G⟩:=T E J;exact{es,e1,by rw[g.bo];exact G}
 .exact vc1.mpr ⟨λz=>(m x z).2 rfl,M⟩
 .intro b a;obtain rfl|a:=wx0.mp a
  .exact h1
  .exact(m b a).1
def vL(G:Pg)(hr:Ki zZ):Rs:=(Rs.dic ⟨[],[],[],[],0,0,0,hr⟩ []).push (G.bo "" "") 0
inductive LN(Y:Ry)(vs:Ki V)(H:Hp)(Q:VK):Prop
 | mk(R:Rx Y)(md ch:eH)(ks:Ki (zZ×Ki Dz))(m0:Dz)(tr:Tr)(late:Ki zZ)(Ls:Ki LL)(k' mo:Kk)(S':Rs)(e:zZ)(v:V)(h1:vs=[.ref R.pg,.ref md,.ref ch,.int mo])(h2:H md\.tup [])(h3:EI R H ks m0 tr late Ls k')(h4:H ch\(.tup<|R.G.ch.map Yh))(h5:R.H0=H)(h7:mo<=1000)(t:Rn R.G mo 0 (vL R.G<|hr0 tr late) S' e v)
  (q:∀(l tl el:eH)(ls:Ki eH)(H':Hp),FrS [] H H'->H' l\.tup [.ref tl,.int S'.lk,.ref el]->H' tl\(.tup<|ls.map Yg)->A2 (λr a=>H' a\.tup r) S'.lg ls->H' el\.tup [.str e,v]->Q (.ref l) H')
def uN(Y:Ry):Sp:=λvs H Q _=>LN Y vs H Q
def uG(hz:Pz G)(e:↑hr<=12)(b:∀x∈hr,x∈G.nm):Wf G (vL G hr) 0:=by
 have a:=hz.bo "" "";have hl:=xU 0<|G.bo "" "";refine{?_,λd hd=>?_,?_,aZ _,by show ↑hr<=_;lia,b,(λz hz=>nomatch hz),λd hd=>?_}
 .show((G.bo "" "").dues 0++[]).length<=_;rw[fP];lia
 .obtain hd|hd:=wz2.mp hd
  .exact KI 0 _ a d hd
  .cases hd
 .show bV ((G.bo "" "").dues 0++[])<=0;rw[fP,vF];exact aZ _
 .show ↑d+bV ((G.bo "" "").dues 0++[])<=_;rw[fP,vF];have:d=[]:=by simpa [vL,Rs.push,Rs.dic]using hd
  rw[this];exact bW _
abbrev GM:Ki zZ:=["program","made","choices","most"]
section
variable{Y:Ry}{mg:zZ->Kj iH}{base:Ka}{f:eH}{fd:Ke}
def yr4:bX ["program","made","choices","most","run","end"] GM (bP JD):=cF
def Iq{k:Kk}(F:Fun Y.K "whole_run" "whole_run" JD f fd)(Z:cZ Y.K Y.C)(M:gZ Y mg base k "Run" Y.C.rn yD (IR Y))(AD:aV Y.pr Y.w Y.K mg base (k+1) "add_due" jI (zL Y))(RO:aV Y.pr Y.w Y.K mg base (k+1) "run_on" ["run","most"] (vU Y))(mM:mg "MAIN"\.ref am)(hM:∀H,SqT Y.K H am [.str "",.str ""])(a4:mg "tuple"=Kr):aS Y.pr Y.w Y.K mg base bO (k+2) f fd GM (uN Y):=by
 refine F.ok yr4 (λvs H Q E h=>?_) λaf A outer s H vs Q E hr h=>?_
 .obtain⟨R,md,ch,ks,B,tr,a,N,J,mo,m,e,v,rfl,_⟩:=h;rfl
 obtain⟨R,md,ch,ks,B,tr,a,N,J,mo,m,e,v,rfl,a8,g,a5,rfl,hm,t,q⟩:=h;have hu:=eN hr;exists _,aJ (sL 4 yr4.nd<|GF M Gg hr rfl<|aA (pv 0)<|aA (pv 1)<|aA (pv 2) aE)
  (aJ (dH<|bD AD hr rfl<|aA (pv 4)<|aA (rD hu (cA Z.r<|pv 4) (mI (v:=.ref am) rfl mM rfl) λ_ _=>U)<|aA mR aE)<|aJ (sL 5 yr4.nd<|bD RO hr rfl<|aA (pv 4)<|aA (pv 3) aE)<|aR<|bQ<|bZ<|aA (fF jA rfl a4 (by rfl')<|aA (cA Z.r<|pv 4) aE)<|aA (cA Z.r<|pv 4)<|aA (pv 5) aE)
 ac_rfl
 refine{_,U,_,U,_,U,R,md,ch,ks,B,tr,a,N,J,U,a8,g,a5,U,λrn A H1 h1=>?_};obtain⟨qs,j⟩:=h1.im.bo;obtain⟨z,aa,ad⟩:=wx6.mp<|j.k "" "" g.h0;cases hfd:qs.find? (λq=>decide<|q.1=((("":zZ),("":zZ)):Pr))with
 | none=>exact absurd ad (by simpa using vn1.mp hfd z aa)
 | some z2=>
  have X:z2.1=(("":zZ),("":zZ)):=by simpa using rT hfd
  obtain⟨es,a9,P⟩:=j.e z2<|pJ hfd;rw[X]at P;refine{_,U,_,U,rn,_,_,_,U,h1.run,U,A.bo,am,qs,(("":zZ),("":zZ)),z2,U,U,j.d,j.ok,hM _,hfd,λi ae=>?_};have h2:RunAt R (upd H1 i<|.dK []) rn (A.dic i) (Rs.dic ⟨[],[],[],[],0,0,0,hr0 tr a⟩ []) 0/\Im Y.C H1 (upd H1 i<|.dK []):=h1.dic (d:=[]) ae λz hz=>nomatch hz;have ab:=g.pz.bo "" "";have a7:(A.dic i).δ[0]?\i:=by
   have:=h1.dc.len;have e:A.δ=[]:=vt5.mp this.symm;show(A.δ++[i])[0]?=Kp i;rw[e];rfl
  refine{R,rn,z2.2.2,i,A.dic i,_,0,0,R.G.bo "" "",es,U,h2.1,h2.2.tup _ _ a9,P.keep h2.2.tup,a7,by show 0+_<=_;lia,λus H3 W f3=>?_};have a1:↑(hr0 tr a)<=12:=by
   have:=tZ (λx=>decide<|x∉a)<|tr.map (·.1);rw[aK]at this;unfold hr0;have:=g.t12;lia
  refine{_,U,_,U,R,rn,_,_,m,0,mo,e,v,U,W,uG g.pz a1 g.nm,g.pg,g.pz,bW _,hm,t,λn H4 I ag u f4 a6=>?_};refine{_,U,rn,_,_,_,U,u.run,U,n.lo,_,U,.inl {Yl u.lo,λtl L=>?_}};have O:=u.keep0<|Yj (o:=.tup<|n.ls.map Yg) L;refine{_,U,rn,_,_,_,U,O.run,U,_,U,cX<|bM (by show 3<=_;decide),λl hl=>?_};have T:=O.keep0<|Yj (o:=.tup [.ref tl,.int m.lk,.ref I]) hl;exact q l tl I n.ls _ (λb o _ e=>T.kp b o e) zb1 ((Yn hl) _ _ zb1) T.im.lg<|((Yn L).trans<|Yn hl) _ _ a6
def Jc:bX ["program","choices","most"] ["program","choices","most"] (bP KS):=cF
inductive NG(Y:Ry)(vs:Ki V)(H:Hp)(Q:VK):Prop
 | mk(R:Rx Y)(ch:eH)(ks:Ki (zZ×Ki Dz))(m0:Dz)(tr:Tr)(late:Ki zZ)(Ls:Ki LL)(k' mo:Kk)(S':Rs)(e:zZ)(v:V)(h1:vs=[.ref R.pg,.ref ch,.int mo])(h3:∀H',FrS [] H H'->EI ({R with H0:=H'}:Rx Y) H' ks m0 tr late Ls k')(h4:H ch\(.tup<|R.G.ch.map Yh))(h7:mo<=1000)(t:Rn R.G mo 0 (vL R.G<|hr0 tr late) S' e v)
  (q:∀(l tl el:eH)(ls:Ki eH)(H':Hp),FrS [] H H'->H' l\.tup [.ref tl,.int S'.lk,.ref el]->H' tl\(.tup<|ls.map Yg)->A2 (λr a=>H' a\.tup r) S'.lg ls->H' el\.tup [.str e,v]->Q (.ref l) H')
def PM(Y:Ry):Sp:=λvs H Q _=>NG Y vs H Q
def Go{k:Kk}(F:Fun Y.K "plain_run" "plain_run" KS f fd)(z:aV Y.pr Y.w Y.K mg base k "whole_run" GM (uN Y)):aS Y.pr Y.w Y.K mg base bO (k+1) f fd ["program","choices","most"] (PM Y):=by
 refine F.ok Jc (λvs H Q E h=>?_) λB A C s H vs Q E P h=>?_
 .obtain⟨R,ch,M,d,J,a,j,m,L,i,e,v,rfl,_⟩:=h;rfl
 obtain⟨R,ch,M,d,J,a,j,m,L,i,e,v,rfl,g,u,o,t,q⟩:=h;exists _,aR<|bQ<|bD z P rfl<|aA (pv 0)<|aA (bZ aE)<|aA (pv 1)<|aA (pv 2) aE
 ac_rfl
 refine{_,U,bW _,λG x=>?_};have b:FrS [] H (upd H G<|.tup []):=Yj x;exact{_,U,_,U,{R with H0:=upd H G<|.tup []},G,ch,M,d,J,a,j,m,L,i,e,v,U,zb1,g _ b,b _ _ bB u,U,o,t,λl T r N O n=>q l T r N O<|b.trans n}
end
def Up.suf(h:Up tr x l):∀k∈l,∃b,Up tr k b/\b <:+ l:=by
 induction h with
 | root d=>intro k a;rw[wx1.mp a];exact{_,.root d,Uo _}
 | step d e f=>
  intro k a;obtain rfl|a:=wx0.mp a
  .exact⟨_,.step d e,Uo _⟩
  .obtain⟨b,h1,h2⟩:=f k a;exact{b,h1,h2.trans<|List.suffix_cons _ _}
def Up.nd(ok:TrOk tr)(h:Up tr n l):l.Nodup:=by
 induction h with
 | root f=>exact NX _ _
 | step f d m=>
  refine vc1.mpr {λa=>?_,m};obtain⟨b,j,i⟩:=d.suf _ a;have e:=Up.inj ok j<|.step f d;have:=i.length_le;rw[e,cN]at this;lia
inductive KqAt(Z:zZ->Kj zZ->Prop)(H:Hp)(y:zZ×Ki Dz)(z:zZ×Kj zZ)(u:eH)(w:zZ×Kj zZ×Ki (zZ×eH)):Prop
 | mk(dt:eH)(h1:w.1=z.1)(h2:w.2.1=z.2)(h0:y.1=z.1)(h3:H u\.tup [.str w.1,aY w.2.1,.ref dt])(h4:H dt\(.tup<|w.2.2.map λd=>Yg d.2))(h5:A2 (λ(d:zZ×eH) (e:Dz)=>d.1=e.1/\DeedIs Z H d.2 e) w.2.2 y.2)(h6:(y.2.map (·.1)).Nodup)
def KqAt.ex(h:KindIs Z H u y)(g:∃v,H u\.tup [.str z.1,aY z.2,v]):∃w,KqAt Z H y z u w:=by
 obtain⟨e,o,fs,A,C,m,q,s,r⟩:=h;obtain⟨v,g⟩:=g;rw[A]at g;have n:∀(fs:Ki eH)(ds:Ki Dz),↑fs=↑ds->(∀(j:Kk) f z,fs[j]?\f->ds[j]?\z->DeedIs Z H f z)->∃x:Ki (zZ×eH),x.map (λd=>Yg d.2)=fs.map Yg/\A2 (λ(d:zZ×eH) (e:Dz)=>d.1=e.1/\DeedIs Z H d.2 e) x ds:=by
  intro fs
  induction fs with
  | nil=>
   intro ds hl _;cases ds with
   | nil=>exact{[],U,.nil}
   | cons _ _=>cases hl
  | cons f fs B=>
   intro ds hl hd;cases ds with
   | nil=>cases hl
   | cons d ds=>
    obtain⟨x,l,i⟩:=B ds (Vw hl) λj f z a b=>hd (j+1) f z a b;exact{(d.1,f)::x,by rw[dD,l];rfl,.cons {U,hd 0 f d rfl rfl} i}
 obtain⟨x,l,i⟩:=n fs y.2 m q;injection g with g;injection g with g;injection g with g1 g2;injection g2 with g2 g3;injection g3 with g3 _;refine{(z.1,z.2,x),o,U,U,Yf.inj g1,?_,by rw[l];exact C,i,r};rw[A,g1,g2]
inductive KqL(Z:zZ->Kj zZ->Prop)(H:Hp):Ki (zZ×Ki Dz)->Tr->Ki eH->Kq->Prop
 | nil:KqL Z H [] [] [] []
 | cons {y:zZ×Ki Dz} {z:zZ×Kj zZ} {u:eH} {w:zZ×Kj zZ×Ki (zZ×eH)} {ks:Ki (zZ×Ki Dz)} {tr:Tr} {us:Ki eH} {kq:Kq} (h:KqAt Z H y z u w) (t:KqL Z H ks tr us kq):KqL Z H (y::ks) (z::tr) (u::us) (w::kq)
theorem KqL.ex:∀(us:Ki eH)(ks:Ki (zZ×Ki Dz))(tr:Tr),↑us=↑ks->↑us=↑tr->(∀(j:Kk) u y,us[j]?\u->ks[j]?\y->KindIs Z H u y)->(∀(j:Kk) u z,us[j]?\u->tr[j]?\z->∃v,H u\.tup [.str z.1,aY z.2,v])->∃e,KqL Z H ks tr us e:=λus=>us.recOn
 (λks tr m l _ _=>by
  cases ks with
  | nil=>cases tr with
   | nil=>exact{_,.nil}
   | cons _ _=>cases l
  | cons _ _=>cases m)
 λu us i ks tr m l d f=>by
  cases ks with
  | nil=>cases m
  | cons y ks=>cases tr with
   | nil=>cases l
   | cons z tr=>
    obtain⟨e,t⟩:=i ks tr (Vw m) (Vw l) (λj u y a b=>d (j+1) u y a b) λj u z a b=>f (j+1) u z a b;obtain⟨w,h⟩:=KqAt.ex (d 0 u y rfl rfl)<|f 0 u z rfl rfl;exact{_,.cons h t}
def KqL.at(h:KqL Z H ks tr us kq):↑us=↑kq/\∀(j:Kk) u w,us[j]?\u->kq[j]?\w->∃y∈ks,∃z,KqAt Z H y z u w:=by
 induction h with
 | nil=>exact{U,λj u w a=>nomatch a}
 | cons h _ f=>
  refine{cH (·+1) f.1,λj u w a b=>?_};cases j with
  | zero=>cases a;cases b;exact{_,.head _,_,h}
  | succ j=>
   obtain⟨y,d,z,e⟩:=f.2 j u w a b;exact{y,.tail _ d,z,e}
def A2.mapf{e d i:Type}{R:e->d->Prop}{f:e->i}{g:d->i}{as:Ki e}{bs:Ki d}(h:A2 R as bs)(k:∀a b,R a b->f a=g b):as.map f=bs.map g:=by
 induction h with
 | nil=>rfl
 | cons h _ j=>rw[dD,dD,k _ _ h,j]
def KqL.fn(h:KqL Z H L G M E)(nd:(G.map (·.1)).Nodup):((fl E).map (·.1)).Nodup/\∀q∈(fl E).map (·.1),q.1∈G.map (·.1):=by
 induction h with
 | nil=>exact⟨lC,nofun⟩
 | @cons y z u w L G M E h t J=>
  obtain⟨B,N,O,P,A,C,s,x⟩:=h;rw[dD,vc1]at nd;obtain⟨o,l⟩:=J nd.2;have e:(fl<|w::E).map (·.1)=(y.2.map (·.1)).map (λd=>(z.1,d))++(fl E).map (·.1):=by
   rw[<-A2.mapf (f:=λd:zZ×eH=>d.1) (g:=λe:Dz=>e.1) s λa b g=>g.1,<-N];unfold fl;rw[GT,bT,jW,jW];rfl
  rw[e];have j:∀q∈(y.2.map (·.1)).map (λd=>(z.1,d)),q.1=z.1:=λq i=>by
   obtain⟨d,_,rfl⟩:=wx6.mp i;rfl
  refine{vp1.mpr {Ki.pairwise_map.mpr<|x.imp λn z=>n (Tp z).2,o,λa m b r e=>?_},λq i=>?_}
  .exact nd.1<|j a m▸e▸l b r
  .obtain i|i:=wz2.mp i
   .rw[j q i];exact .head _
   .exact .tail _<|l q i
def KqL.has(h:KqL Z H s E J x):∀y∈s,∀e∈y.2,(fV x y.1 e.1).isSome:=by
 induction h with
 | nil=>intro y l;cases l
 | @cons y z u w s E J x h t B=>
  intro b a e r;obtain⟨n,A,L,G,m,o,f,q⟩:=h;unfold fV;rw[HV]
  split
  .rfl
  .rename_i hn
   obtain rfl|a:=wx0.mp a
   .rw[bF<|A.trans G.symm]at hn;obtain⟨i,C⟩:=vc7.mp r;obtain⟨d,hd,j,_⟩:=A2.back f C;have:=Kj.map_eq_none_iff.mp hn;exact absurd (dP j) (by simpa using vn1.mp this d (dC hd))
   .exact B b a e r
def KqL.fd(h:KqL Z H A G M B)(a:fV B n d\g):∃y∈A,y.1=n/\∃e∈y.2,e.1=d/\DeedIs Z H g e:=by
 induction h with
 | nil=>cases a
 | @cons y z u w A G M B h t C=>
  obtain⟨q,N,O,L,o,r,j,s⟩:=h;unfold fV at a;rw[HV]at a
  split at a
  .rename_i v hv
   cases a
   split at hv
   .rename_i hn
    obtain⟨x,b,rfl⟩:=wx3.mp hv;have hd:x.1=d:=by simpa using rT b
    obtain⟨i,E⟩:=vc7.mp<|pJ b;obtain⟨e,J,l,D⟩:=j.get E;exact{y,.head _,(L.trans N.symm).trans hn,e,dC J,l.symm.trans hd,D}
   .cases hv
  .obtain⟨f,m,e⟩:=C a;exact{f,.tail _ m,e}
def KqL.dq(h:KqL Z H ks tr us kq)(hp:H p\.tup [.ref kt,x,y])(m:H kt\(.tup<|us.map Yg)):DeedsQ H p kq:=by
 refine{kt,us,x,y,hp,m,h.at.1,λj u w a b=>?_};obtain⟨A,_,z,o,E,G,J,l,r,n,_⟩:=h.at.2 j u w a b;refine{o,l,r,λd hd=>?_};obtain⟨i,C⟩:=vc7.mp hd;obtain⟨e,_,q,B,s,f,_⟩:=n.get C;exact{_,by rw[q];exact f}
def YR(x:ProgIs Z H p ks m0):(∀z∈dZ ks m0,RowsIs Z H z.2)/\↑(dZ ks m0)<=961:=by
 obtain⟨C,us,lt,N,M,n,w,q,E⟩:=x;have b:∀y∈ks,∃u,KindIs Z H u y:=λy d=>by
  obtain⟨j,a⟩:=vc7.mp d;have hl:j<↑us:=by rw[n];exact(ww4.mp a).1
  exact{_,w j _ y (bJ hl) a}
 constructor
 .intro z hz;obtain rfl|hz:=wx0.mp hz
  .exact q
  .obtain⟨y,d,hz⟩:=Ki.mem_flatMap.mp hz;obtain⟨e,G,rfl⟩:=wx6.mp hz;obtain⟨u,J,s,fs,B,o,m,i,A⟩:=b y d;obtain⟨j,a⟩:=vc7.mp G;have hl:j<↑fs:=by rw[m];exact(ww4.mp a).1
   obtain⟨_,_,_,_,r⟩:=i j _ e (bJ hl) a;exact r
 .have f:∀l:Ki (zZ×Ki Dz),(∀y∈l,↑y.2<=80)->↑(l.flatMap iT)<=80*↑l:=by
   intro l
   induction l with
   | nil=>intro _;exact aZ _
   | cons y l L=>
    intro h;have N:=h y<|.head _;have M:=L λz hz=>h z<|.tail _ hz;rw[GT,bN,cN];have:↑(iT y)=↑y.2:=Nu _;lia
  have:=f ks λy d=>by obtain⟨u,J,s,fs,B,o,m,i,A⟩:=b y d;lia
  unfold dZ;rw[cN];lia
def Bm:0<=jD kq d l:=by
 unfold jD
 split
 .exact Kl.natCast_nonneg _
 .rename_i f _
  have:ixV (.str f) (l.reverse.map Yf)<=↑l:=by
   unfold ixV;have:=Ki.findIdx_le_length (p:=λy=>iV y<|.str f) (xs:=l.reverse.map Yf);rw[aK,iR]at this;exact this
  lia
def PU{Y:Ry}(I:ProgIs Z H p ks m0)(C:KindsAt H p tr)(ok:TrOk tr)(P:↑tr<=12)(ad:LateAt H p tr late)(hN:VW Z ks tr)(N:Ki Kl)(hc:∀c∈N,-100<=c):
  ∃(G:Pg)(o:Ki LL)(J:Kk),G.ch=N/\(∀k d,0<=G.co k d)/\∀H',FrS [] H H'->EI (⟨Z,H',p,G⟩:Rx Y) H' ks m0 tr late o J:=by
 obtain⟨kt,us,lt,h1,h2,h3,h4,h5,h6⟩:=id I;obtain⟨ao,ts,x,y,T,g2,g3,g4⟩:=id C;rw[h1]at T;cases T;rw[h2]at g2;have a7:us=ts:=by
  have e:us.map Yg=ts.map Yg:=HO.tup.inj<|gX g2;exact(Tt λa b h=>Yg.inj h).mp e
 subst a7;obtain⟨j,w⟩:=KqL.ex us ks tr h3 g3 h4 g4;obtain⟨hR,al⟩:=YR I;obtain⟨o,J,hB,an⟩:=LyB.mk (dZ ks m0) hR 0;obtain⟨ln,q⟩:∃ln:zZ->Ki zZ,∀k,(k∈tr.map (·.1)->Up tr k (ln k))/\(k∉tr.map (·.1)->ln k=[]):=by
  have:∀k,∃l,(k∈tr.map (·.1)->Up tr k l)/\(k∉tr.map (·.1)->l=[]):=λk=>by
   by_cases c:k∈tr.map (·.1)
   .obtain⟨z,hz,rfl⟩:=wx6.mp c;obtain⟨i,hi⟩:=vc7.mp hz;obtain⟨l,hl⟩:=Up.exists ok i _ _ hi;exact{l,λ_=>hl,λh=>absurd c h}
   .exact⟨[],λh=>absurd h c,λ_=>U⟩
  exact{λk=>(this k).choose,λk=>(this k).choose_spec}
 obtain⟨F,A⟩:∃F:zZ->zZ->Ki zZ×Kj zZ,∀f d,((F f d).1.length<=1000/\("own":zZ)∉(F f d).1)/\∀g,fV j f d\g->∃pt v,H g\.tup [.str d,.ref pt,v,aY (F f d).2]/\H pt\(.tup<|(F f d).1.map Yf):=by
  have:∀f d,∃r:Ki zZ×Kj zZ,(↑r.1<=1000/\("own":zZ)∉r.1)/\∀g,fV j f d\g->∃pt v,H g\.tup [.str d,.ref pt,v,aY r.2]/\H pt\(.tup<|r.1.map Yf):=λf d=>by
   cases e:fV j f d with
   | none=>exact{([],Kr),{bW _,bB},λg h=>nomatch h}
   | some g=>
    obtain⟨y,_,_,B,_,rfl,ap,am,d1,⟨pt,ps,E,rfl,p2,rfl,p4,p5⟩,_⟩:=w.fd e;exact{(ps,E),⟨p4,p5⟩,λg' h=>by cases h;exact{pt,_,d1,p2}}
  exact{λf d=>(this f d).choose,λf d=>(this f d).choose_spec}
 refine{{tr.map (·.1),λn d=>(n,d)∈(dZ ks m0).map (·.1),ln,λk d=>(dN j d<|ln k).getD "",λk d=>jD j d<|ln k,λf d=>(F f d).1,λf d=>(F f d).2,λn d=>mE (((dZ ks m0).map (·.1)).zip o) (n,d),N},o,J,U,λk d=>Bm,λH' f=>?_};have t:=Yo f;have a8:∀(L:Ki LL)(zs:Ki Bz)(k X:Kk),LyB Z H k zs L X->∀l∈L,l.size<=80/\l.dep<=4:=λL zs k X h=>by
  induction h with
  | nil=>intro l hl;cases hl
  | cons _ s hz _ ih=>
   intro l hl;obtain rfl|hl:=wx0.mp hl
   .exact⟨hz,s.dep⟩
   .exact ih l hl
 have O:∀n d,(mE (((dZ ks m0).map (·.1)).zip o) (n,d)).size<=80/\(mE (((dZ ks m0).map (·.1)).zip o) (n,d)).dep<=4:=λn d=>uS (p:=λl=>l.size<=80/\l.dep<=4) _ _ ⟨bW _,bW _⟩ λz hz=>a8 o _ _ _ hB _ (yE hz).2;refine {p:=I.keep t,k:=C.keepT t,l:=ad.keep t,t12:=P,b:=hB.keep t,k6:=by lia,hs:=λn d h=>h,h0:=by show _∈(dZ ks m0).map (·.1);exact .head _,bo:=λ_ _=>U,pg:={tr,j,?_},pz:=?_,nm:=λx m=>(vs7.mp m).1}
 .refine {kn:=C.keepT t,dq:=(w.dq h1 h2).keep t,ok:=ok,l12:=P,nm:=rfl,ln:=λk hk=>(q k).1 hk,z0:=hN.nb,ch:=hc,fn:=(w.fn ok.nd).1,ca:=λk d hz x m af=>?_};obtain⟨ak,n,l,ai,aj,y,hy,aa,e,he,ab⟩:=hN.hz k d hz;have ah:=(q x).1 m;obtain⟨l',a9,a2⟩:=ah.suf k af;have hn:n∈ln x:=by
   have:=Up.inj ok ai a9;exact a2.subset (by rw[<-this];exact aj)
  have a1:(fV j n d).isSome:=by rw[<-aa,<-ab];exact w.has y hy e he
  cases ea:dN j d (ln x)with
  | none=>exact absurd a1 (by simpa using vn1.mp ea n hn)
  | some fx=>
   have ae:(fV j fx d).isSome:=rT (p:=λx=>(fV j x d).isSome) ea;obtain⟨g,M⟩:=vs4.mp ae;obtain⟨pt,v,e1,e2⟩:=(A fx d).2 g M;obtain⟨y',ac,a4,B,ag,a3,_⟩:=w.fd M;have u:(dN j d<|ln x).getD ""=fx:=by rw[ea];rfl
   refine{g,pt,v,?_,?_,?_,?_,?_,U,(O _ _).1,(A _ _).1.1}
   .show dN j d (ln x)=Kp ((dN j d<|ln x).getD "");rw[u];exact ea
   .show fV j ((dN j d<|ln x).getD "") d=Kp g;rw[u];exact M
   .show H' g=Kp (.tup [.str d,.ref pt,v,aY (F ((dN j d<|ln x).getD "") d).2]);rw[u];exact t _ _ e1
   .show H' pt=Kp (.tup<|(F ((dN j d<|ln x).getD "") d).1.map Yf);rw[u];exact t _ _ e2
   .show((dN j d<|ln x).getD "",d)∈(dZ ks m0).map (·.1);rw[u];refine .tail _<|wx6.mpr {((y'.1,B.1),B),Ki.mem_flatMap.mpr {y',ac,wx6.mpr ⟨B,ag,rfl⟩},?_};rw[a4,a3]
 .refine⟨λf d=>(O f d).1,λf d=>(A f d).1.1,λk=>?_,λk x m=>?_,λf d=>(A f d).1.2,λf d=>(O f d).2⟩
  .by_cases c:k∈tr.map (·.1)
   .have W:=(q k).1 c;obtain⟨i,E,hi⟩:=W.at;have:=Up.len ok i k E _ hi W;have:=(ww4.mp hi).1;show(ln k).length<=12;lia
   .show(ln k).length<=12;rw[(q k).2 c];exact bW _
  .by_cases c:k∈tr.map (·.1)
   .exact((q k).1 c).mem x m
   .have m:x∈ln k:=m;rw[(q k).2 c]at m;cases m
structure Ts where
 dn:Kk
 S:Rs
 e:Kj (zZ×Kk)
def Ts.row(mo n:Kk)(f:Ts->Ts)(T:Ts):Ts:=match T.e with
 | some _=>T
 | none=>if mo<=T.dn then {T with e:=Kp ("long",n)} else f {T with dn:=T.dn+1}
def Ts.ends(T:Ts)(s:zZ)(n:Kk):Ts:={T with e:=Kp (s,n)}
def Ts.plain(P:Pg)(n m:Kk)(r:Rw)(T:Ts):Ts:={T with S:=(kB P T.S n m r).1,e:=(kB P T.S n m r).2.map (·,n)}
def mJ(P:Pg)(S:Rs)(n m:Kk)(d:zZ)(as:Ki zZ)(j:Kl):Rs:=
 {S with ds:=S.ds++[nM S m (P.ps (P.an (S.kind j) d) d) as j],lg:=S.lg++[[.str "did",.int n,.str<|S.kind j,.str<|P.an (S.kind j) d]],lk:=S.lk+P.co (S.kind j) d,uw:=S.uw+1}
def Ts.bk(T:Ts)(x:zZ)(g:Kj zZ)(s m:Kk):Ts:={T with S:=zH T.S x g s m}
def Ts.call(P:Pg)(f:LL->Kk->Ts->Ts)(n m:Kk)(x y k d:zZ)(as:Ki zZ)(T:Ts):Ts:=match T.S.get m y with
 | .int j=>if k∈P.ln (T.S.kind j) then if 40<=T.S.uw then T.ends "deep" n else
   (f (P.bo (P.an (T.S.kind j) d) d) T.S.ds.length {T with S:=mJ P T.S n m d as j}).bk x (P.gv (P.an (T.S.kind j) d) d) T.S.ds.length m
  else T.ends "unfit" n
 | _=>T.ends "nothing" n
def Ts.rd(T:Ts):Ts:={T with S:={T.S with rd:=T.S.rd+1}}
def lY(f:Ts->Ts):Kk->Ts->Ts
 | 0,T=>T
 | n+1,T=>lY f n<|f T
def eO(P:Pg)(mo:Kk)(f:LL->Kk->Ts->Ts)(m:Kk):LL->Ts->Ts
 | .nil,T=>T
 | .op n _ r t,T=>eO P mo f m t<|T.row mo n<|Ts.plain P n m r
 | .call n _ x y k d a t,T=>eO P mo f m t<|T.row mo n<|Ts.call P f n m x y k d a
 | .either n _ p q t,T=>eO P mo f m t (T.row mo n λT=>if T.S.pick P=0 then eO P mo f m p T.rd else eO P mo f m q T.rd)
 | .again n _ p t,T=>eO P mo f m t<|T.row mo n λT=>lY (eO P mo f m p) (min (T.S.pick P) 9).toNat T.rd
def mC(P:Pg)(mo:Kk):Kk->LL->Kk->Ts->Ts
 | 0,_,_,T=>T
 | k+1,l,m,T=>eO P mo (mC P mo k) m l T
def Rs.at(S:Rs)(r:Ki Du):Rs:={S with td:=r}
def EQ{T:Ts}(h:T.e\z):T.row mo n f=T:=by unfold Ts.row;rw[h]
def EJ{P:Pg}{f:LL->Kk->Ts->Ts}:∀(l:LL)(T:Ts),T.e\z->eO P mo f m l T=T:=λl=>l.recOn
 (λT h=>U)
 (λn a r t b T h=>by unfold eO;rw[EQ h];exact b T h)
 (λn a x y k d o t b T h=>by unfold eO;rw[EQ h];exact b T h)
 (λn a p q t _ _ i T h=>by unfold eO;rw[EQ h];exact i T h)
 (λn a p t _ j T h=>by unfold eO;rw[EQ h];exact j T h)
def Ic(r:Ki Du):∀(l:Ki zZ)(S:Rs),l.foldl Rs.come (S.at r)=(l.foldl Rs.come S).at r/\(l.foldl Rs.come S).uw=S.uw:=λl=>l.recOn
 (λS=>⟨rfl,rfl⟩)
 λk l a S=>by
  have e:Rs.come (S.at r) k=(S.come k).at r/\(S.come k).uw=S.uw:=by
   unfold Rs.come
   by_cases c:k∈S.hr
   .rw[bF c,bF (show k∈(S.at r).hr from c)];exact⟨rfl,rfl⟩
   .rw[bC c,bC (show k∉(S.at r).hr from c)];exact⟨rfl,rfl⟩
  rw[pO,pO,e.1,<-e.2];exact a _
def WU{S:Rs}{v:V}{f g:Kl->Rs×Kj zZ}(r:Ki Du)(h:∀j,g j=((f j).1.at r,(f j).2)/\(f j).1.uw=S.uw):(S.at r).thing v g=((S.thing v f).1.at r,(S.thing v f).2)/\(S.thing v f).1.uw=S.uw:=by
 cases v with
 | int j=>exact h j
 | _=>exact⟨rfl,rfl⟩
def IE(P:Pg)(S:Rs)(r:Ki Du)(n m:Kk)(w:Rw):kB P (S.at r) n m w=((kB P S n m w).1.at r,(kB P S n m w).2)/\(kB P S n m w).1.uw=S.uw:=by
 cases w with
 | make x k=>
  unfold kB
  by_cases c:k∈S.hr
  .simp only[bF c,bF (show k∈(S.at r).hr from c)];constructor <;> first | rfl | trivial
  .simp only[bC c,bC (show k∉(S.at r).hr from c)];constructor <;> first | rfl | trivial
 | copy x y=>exact⟨rfl,rfl⟩
 | put x f y=>exact WU r λj=>⟨rfl,rfl⟩
 | take x y f=>exact WU r λj=>⟨rfl,rfl⟩
 | say w=>exact⟨rfl,rfl⟩
 | bring k=>
  have:=Ic r (P.ln k).reverse S;exact{by show(_,Kr)=_;rw[this.1];rfl,this.2}
structure Sim(P:Pg)(mo:Kk)(D:Ki Du)(c:Kl)(T T':Ts):Prop where
 go:T'.e=Kr->T'.S.uw=T.S.uw+c/\∀r F e v,Rn P mo T'.dn (T'.S.at r) F e v->Rn P mo T.dn (T.S.at<|D++r) F e v
 st:∀e n,T'.e\(e,n)->∀r,∃F:Rs,F.lg=T'.S.lg/\F.lk=T'.S.lk/\Rn P mo T.dn (T.S.at<|D++r) F e (.int n)
def Sim.nil{P:Pg}(h:T.e=Kr):Sim P mo [] 0 T T:=⟨λ_=>⟨(xV _).symm,λ_ _ _ _ t=>t⟩,λe n z=>by rw[h]at z;cases z⟩
def Sim.app{P:Pg}(a:Sim P mo D c T T1)(b:T1.e=Kr->Sim P mo D' c' T1 T2)(h':∀z,T1.e\z->T2.e\z/\T2.S.lg=T1.S.lg/\T2.S.lk=T1.S.lk):Sim P mo (D++D') (c+c') T T2:=by
 cases h:T1.e with
 | none=>
  obtain⟨u,g⟩:=a.go h;have b:=b h;refine{λz=>?_,λe n z r=>?_}
  .obtain⟨q,o⟩:=b.go z;exact{∅,λr F e v t=>by rw[gF];exact g _ _ _ _<|o _ _ _ _ t}
  .obtain⟨F,f,d,i⟩:=b.st e n z r;exact{F,f,d,by rw[gF];exact g _ _ _ _ i}
 | some z=>
  obtain⟨j,l,m⟩:=h' z h;refine{(λy=>by rw[j]at y;cases y),λe n y r=>?_};obtain⟨F,f,d,i⟩:=a.st e n (by rw[h,<-j];exact y)<|D'++r;exact{F,f.trans l.symm,d.trans m.symm,by rw[gF];exact i}
theorem Sim.back{P:Pg}(h:T.e=Kr):Sim P mo [.back x g s m] (-1) T (T.bk x g s m):=⟨λ_=>⟨rfl,λ_ _ _ _ t=>.back rfl t⟩,λe n z=>by rw[show(T.bk x g s m).e=Kr from h]at z;cases z⟩
theorem Sim.row{P:Pg}{d:Du}{f:Ts->Ts}(he:T.e=Kr)(b:d.num\n) (h:T.dn<mo->
  (∃e,(f {T with dn:=T.dn+1}).e\(e,n)/\∀r,∃F:Rs,F.lg=(f {T with dn:=T.dn+1}).S.lg/\F.lk=(f {T with dn:=T.dn+1}).S.lk/\doR P (T.S.at r) d=(F,Kp e))\/
  ∃(a:Rs)(D:Ki Du)(c:Kl),(∀r,doR P (T.S.at r) d=(a.at<|D++r,Kr))/\a.uw+c=T.S.uw/\Sim P mo D c ⟨T.dn+1,a,Kr⟩ (f {T with dn:=T.dn+1})):Sim P mo [d] 0 T (T.row mo n f):=by
 unfold Ts.row;rw[he];dsimp only
 by_cases c:mo<=T.dn
 .rw[bF c];refine{(λz=>nomatch z),λe j z r=>?_};cases z;exact{T.S.at r,U,U,.long rfl b c}
 .rw[bC c];obtain⟨e,h1,h2⟩|⟨a,D,c',h1,h2,h3⟩:=h (vv8.mp c)
  .refine⟨λz=>(by rw[<-he]at z;rw[h1,he]at z;cases z),λo j z r=>?_⟩;obtain⟨F,l,i,m⟩:=h2 r;rw[he]at h1;rw[h1]at z;cases z;exact{F,by rw[l,he],by rw[i,he],.stop rfl b (vv8.mp c) m}
  .rw[he]at h3;refine{λz=>?_,λo j z r=>?_}
   .obtain⟨u,g⟩:=h3.go z;exact{by rw[u];show a.uw+c'=_;lia,λr F e v t=>.go rfl b (vv8.mp c) (h1 r)<|g r F e v t}
   .obtain⟨F,l,i,m⟩:=h3.st o j z r;exact{F,l,i,.go rfl b (vv8.mp c) (h1 r) m}
def hC(D:Ki Du):Kk->Ki Du
 | 0=>[]
 | n+1=>D++hC D n
def Gp(D:Ki Du):∀n,hC D n++D=D++hC D n:=λn=>Ln
 (by simp[hC])
 (λn a=>by rw[hC,gF,a]) n
def Ii:∀(c:Kk)(S:Rs)(r:Ki Du),pushN l m c (S.at r)=S.at (hC (l.dues m) c++r):=λc=>Ln
 (λS r=>U)
 (λn a S r=>by
  show pushN l m n (S.at<|l.dues m++r)=_;rw[a S,hC,<-gF,Gp]) c
def ZX{f:Ts->Ts}(h:∀T z,T.e\z->f T=T):∀(c:Kk)(T:Ts),T.e\z->lY f c T=T:=λc=>Ln
 (λT _=>U)
 (λn a T e=>by unfold lY;rw[h T _ e];exact a T e) c
def Sim.iter{P:Pg}{f:Ts->Ts}(b:∀T,T.e=Kr->T.S.uw=u->Sim P mo D 0 T (f T))(hs:∀T z,T.e\z->f T=T):∀(c:Kk)(T:Ts),T.e=Kr->T.S.uw=u->Sim P mo (hC D c) 0 T (lY f c T):=λc=>Ln
 (λT h _=>.nil h)
 (λn d T h a=>Sim.app (c:=0) (c':=0) (b T h a) (λz=>d _ z<|by rw[((b T h a).go z).1,a,xV]) λz y=>by show(lY f n<|f T).e=_/\(lY f n<|f T).S.lg=_/\(lY f n<|f T).S.lk=_;rw[ZX hs n _ y];exact⟨y,rfl,rfl⟩) c
def Sim.rows{P:Pg}{g:LL->Kk->Ts->Ts}{f:Ts->Ts}{d:Du}(a:Sim P mo [d] 0 T (T.row mo n f))(u:T.S.uw=w)(b:∀T,T.e=Kr->T.S.uw=w->Sim P mo (t.dues m) 0 T (eO P mo g m t T)):Sim P mo (d::t.dues m) 0 T (eO P mo g m t<|T.row mo n f):=
 Sim.app (c:=0) (c':=0) a (λz=>b _ z<|by rw[(a.go z).1,u,xV]) λz y=>by rw[EJ t _ y];exact⟨y,rfl,rfl⟩
def CF{P:Pg}{f:LL->Kk->Ts->Ts}(hs:∀l m T z,T.e\z->f l m T=T)(H:∀l m T,T.e=Kr->w<40->T.S.uw=w+1->Sim P mo (l.dues m) 0 T (f l m T))(m:Kk):∀(l:LL)(T:Ts),T.e=Kr->T.S.uw=w->Sim P mo (l.dues m) 0 T (eO P mo f m l T):=λl=>l.recOn
 (λT h u=>.nil h)
 (λn a r t b T h u=>by
  refine Sim.rows (.row h rfl λi=>?_) u<|b;have e:∀J,doR P (T.S.at J) (.op n a r m)=_:=λJ=>(IE P T.S J n m r).1;have G:=(IE P T.S [] n m r).2;cases M:(kB P T.S n m r).2 with
  | none=>
   refine .inr {(kB P T.S n m r).1,[],0,λJ=>by rw[e,M];rfl,by rw[G,xV],?_};have:Ts.plain P n m r {T with dn:=T.dn+1}=⟨T.dn+1,(kB P T.S n m r).1,Kr⟩:=by unfold Ts.plain;rw[M];rfl
   rw[this];exact .nil rfl
  | some z=>exact .inl {z,by show Kj.map _ (kB P T.S n m r).2=_;rw[M];rfl,λJ=>{(kB P T.S n m r).1.at J,U,U,by rw[e,M]}})
 (λn a x y k d L t b T h u=>by
  refine Sim.rows (.row h rfl λi=>?_) u<|b;have I:∀r,doR P (T.S.at r) (.call n a x y k d L m)=Rs.thing (T.S.at r) (T.S.get m y) λj=>if k∈P.ln (T.S.kind j) then if 40<=T.S.uw then(T.S.at r,Kp "deep") else(tD P (T.S.at r) n m x d L j,Kr) else(T.S.at r,Kp "unfit"):=λr=>rfl
  have E:Ts.call P f n m x y k d L {T with dn:=T.dn+1}=match T.S.get m y with
   | .int j=>if k∈P.ln (T.S.kind j) then if 40<=T.S.uw then Ts.ends {T with dn:=T.dn+1} "deep" n else
     (f (P.bo (P.an (T.S.kind j) d) d) T.S.ds.length ⟨T.dn+1,mJ P T.S n m d L j,T.e⟩).bk x (P.gv (P.an (T.S.kind j) d) d) T.S.ds.length m
    else Ts.ends {T with dn:=T.dn+1} "unfit" n
   | _=>Ts.ends {T with dn:=T.dn+1} "nothing" n:=rfl
  simp only[I,E];cases N:T.S.get m y with
  | int j=>
   dsimp only[Rs.thing]
   by_cases A:k∈P.ln (T.S.kind j)
   .by_cases B:40<=T.S.uw
    .simp only[bF A,bF B];exact .inl {"deep",U,λr=>{T.S.at r,U,U,U}}
    .simp only[bF A,bC B,h];refine .inr {mJ P T.S n m d L j,(P.bo (P.an (T.S.kind j) d) d).dues T.S.ds.length++[.back x (P.gv (P.an (T.S.kind j) d) d) T.S.ds.length m],0+-1,λr=>by rw[gF];rfl,by show T.S.uw+1+_=_;lia,?_};exact Sim.app (H _ _ {T.dn+1,mJ P T.S n m d L j,Kr} rfl ∅ (by show T.S.uw+1=_;rw[u])) Sim.back λz y=>⟨y,rfl,rfl⟩
   .simp only[bC A];exact .inl {"unfit",U,λr=>{T.S.at r,U,U,U}}
  | _=>exact .inl {"nothing",U,λr=>{T.S.at r,U,U,U}})
 (λn a p q t s o C T h u=>by
  refine Sim.rows (.row h rfl λi=>.inr {{T.S with rd:=T.S.rd+1},(if T.S.pick P=0 then p else q).dues m,0,λr=>U,xV _,?_}) u<|C;show Sim _ _ _ _ _ (if T.S.pick P=0 then eO P mo f m p _ else eO P mo f m q _)
  by_cases c:T.S.pick P=0
  .rw[bF c,bF c,Ts.rd,<-h];exact s _ h u
  .rw[bC c,bC c,Ts.rd,<-h];exact o _ h u)
 (λn a p t s o T h u=>by
  refine Sim.rows (.row h rfl λi=>.inr {{T.S with rd:=T.S.rd+1},hC (p.dues m) (min (T.S.pick P) 9).toNat,0,λr=>?_,xV _,?_}) u<|o
  .exact cH (·,Kr)<|Ii (l:=p) (m:=m) (min (T.S.pick P) 9).toNat {T.S with rd:=T.S.rd+1} r
  .have:=Sim.iter (mo:=mo) (u:=w) (s) (λT z y=>EJ p T y) (min (T.S.pick P) 9).toNat {T with dn:=T.dn+1,S:={T.S with rd:=T.S.rd+1}} h u;rw[Ts.rd,<-h];exact this)
def WY{P:Pg}:∀(k:Kk)(l:LL)(m:Kk)(T:Ts)(z:zZ×Kk),T.e\z->mC P mo k l m T=T:=λk=>Ln
 (λ_ _ _ _ _=>U)
 (λk _ l m T z h=>EJ l T h) k
def Jh(P:Pg)(mo:Kk):∀(k:Kk)(l:LL)(m:Kk)(T:Ts),T.e=Kr->(k:Kl)+T.S.uw=40->Sim P mo (l.dues m) 0 T (eO P mo (mC P mo k) m l T):=λk=>Ln
 (λl m T h u=>CF (w:=40) (WY 0) (λ_ _ _ _ z=>absurd z<|by decide) m l T h ∅)
 (λk a l m T h u=>CF (w:=39-k) (WY<|k+1) (λl m T h _ u=>a l m T h ∅) m l T h ∅) k
structure MAt(H0:Hp)(M:Ki (eH×HO))(H:Hp):Prop where
 at':∀p∈M,H p.1\p.2
 nd:(M.map (·.1)).Nodup
 fr:∀p∈M,H0 p.1=Kr
 kp:∀b o,H0 b\o->H b\o
theorem MAt.set{a:eH}{o o':HO}(h:MAt H0 M H)(hi:M[i]?\(a,o)):MAt H0 (M.set i (a,o')) (upd H a o'):=by
 have n:=dC hi;have e:(M.set i (a,o')).map (·.1)=M.map (·.1):=by
  rw[Ki.map_set];have G:(M.map (·.1))[i]?\a:=by rw[bR,hi];rfl
  obtain⟨l,e⟩:=ww4.mp G;show(M.map (·.1)).set i a=_;rw[<-e];exact Ki.set_getElem_self l
 refine{λp B=>?_,by rw[e];exact h.nd,λp B=>?_,λb u d=>?_}
 .obtain hp'|rfl:=xY B
  .by_cases c:p.1=a
   .obtain⟨j,f⟩:=vc7.mp B;have r:j=i:=by
     have C:(M.map (·.1))[j]?\a:=by rw[<-e,bR,f,<-c];rfl
     have E:(M.map (·.1))[i]?\a:=by rw[bR,hi];rfl
     obtain⟨x,w⟩:=ww4.mp C;obtain⟨A,m⟩:=ww4.mp E;exact(yY h.nd).mp<|w.trans m.symm
    subst r;rw[No (ww4.mp hi).1]at f;cases f;exact zb1
   .rw[aC c];exact h.at' p hp'
  .exact zb1
 .have:p.1∈M.map (·.1):=by rw[<-e];exact wx6.mpr ⟨p,B,rfl⟩
  obtain⟨q,s,m⟩:=wx6.mp this;rw[<-m];exact h.fr q s
 .rw[aC λz=>by rw[z,h.fr _ n]at d;cases d];exact h.kp b u d
def MAt.no0(h:MAt H0 M H)(hp:H p=Kr):H0 p=none:=by
 cases e:H0 p with
 | none=>rfl
 | some o=>rw[h.kp _ _ e]at hp;cases hp
def MAt.new(h:MAt H0 M H)(hp:H p=Kr):MAt H0 M (upd H p o):=⟨λq a=>by rw[aC<|aQ (h.at' q a) hp];exact h.at' q a,h.nd,h.fr,λb u e=>by rw[aC<|aQ (h.kp b u e) hp];exact h.kp b u e⟩
def MAt.add(h:MAt H0 M H)(hp:H p=Kr):MAt H0 (M++[(p,o)]) (upd H p o):=by
 have n:=h.new (o:=o) hp;refine{λq d=>?_,?_,λq d=>?_,n.kp}
 .obtain d|d:=wz2.mp d
  .exact n.at' q d
  .rw[wx1.mp d];exact zb1
 .rw[bT,Ki.map_singleton];refine vp1.mpr {h.nd,NX _ _,λa e b f=>?_};rw[wx1.mp f];obtain⟨q,d,rfl⟩:=wx6.mp e;exact aQ (h.at' q d) hp
 .obtain d|d:=wz2.mp d
  .exact h.fr q d
  .rw[wx1.mp d];exact h.no0 hp
theorem A2.set{e d:Type}{R:e->d->Prop}{as:Ki e}{bs:Ki d}{a:e}{b:d}(h:A2 R as bs)(g:R a b):∀{i:Kk},A2 R (as.set i a) (bs.set i b):=by
 induction h with
 | nil=>exact .nil
 | cons h _ f=>
  intro i;cases i with
  | zero=>exact .cons g ‹_›
  | succ i=>exact .cons h f
def Tup.chg(h:H a\o)(n:∀d,o≠.tup d):Tup H (upd H a o'):=λb d e=>by
 rw[aC λz=>by rw[z,h]at e;cases e;exact n _ rfl];exact e
structure La where
 (ar ch lo th:eH)
 (ls δ θ:Ki eH)
 ds:Ki (Ki<|aG×V)
structure Lw where
 H0:Hp
 G:Pg
 (tx up:eH)
 Z:zZ->Kj zZ->Prop
 mo:Kk
abbrev lF(W:Lw)(A:La)(T:Ts)(ev:V):Ki (aG×V):=[(Ku "texts",.ref W.tx),(Ku "up",.ref W.up),(Ku "around",.ref A.ar),(Ku "choices",.ref A.ch),(Ku "left",.int<|(W.mo:Kl)-T.dn),(Ku "log",.ref A.lo),(Ku "looks",.int T.S.lk),(Ku "end",ev),(Ku "things",.ref A.th),(Ku "calls",.int T.S.uw)]
def fW(hr:Ki zZ):Ki (aG×V):=hr.map λk=>(Ku k,.bl Ks)
def lD(A:La):Ki (eH×HO):=(A.δ.zip A.ds).map λz=>(z.1,.dK z.2)
abbrev lM(W:Lw)(rn:eH)(A:La)(T:Ts)(ev:V):Ki (eH×HO):=(rn,.dK<|lF W A T ev)::(A.ar,.dK<|fW T.S.hr)::(A.ch,.lst<|(W.G.ch.drop T.S.rd).map Yh)::(A.lo,.lst<|A.ls.map Yg)::(A.th,.lst<|A.θ.map Yg)::lD A
inductive EvAt(H:Hp):Kj (zZ×Kk)->V->Prop
 | no:EvAt H Kr .non
 | end {s:zZ} {n:Kk} {a:eH} (h:H a\.tup [.str s,.int n]):EvAt H (Kp (s,n)) (.ref a)
def EvAt.keep(h:EvAt H e ev)(f:Tup H H'):EvAt H' e ev:=by
 cases h with
 | no=>exact .no
 | «end» h=>exact .end<|f _ _ h
structure LI(H:Hp)(A:La)(T:Ts):Prop where
 lg:A2 (λr a=>H a\.tup r) T.S.lg A.ls
 th:A2 (λ(z:zZ×Kk) t=>∃a,A.δ[z.2]?\a/\H t\.tup [.str z.1,.ref a]) T.S.ts A.θ
 dq:A2 (λd d'=>∀k:aG,aF d' k=aF d k) T.S.ds A.ds
 dl:A.δ.length=A.ds.length
def LI.keep(h:LI H A T)(f:Tup H H'):LI H' A T:={h with lg:=h.lg.imp λ_ _ g=>f _ _ g,th:=h.th.imp λ_ _ ⟨a,e,g⟩=>⟨a,e,f _ _ g⟩}
structure LB(W:Lw)(A:La)(T:Ts)(s:Kk):Prop where
 dk:∀d∈T.S.ds,∀z∈d,VOk T.S.ts.length z.2
 b1:T.S.lg.length+12*s<=12*T.dn
 b2:∀d∈A.ds,(↑d:Kl)+T.S.uw+2*s<=1001+2*T.dn
 b3:T.S.ts.length+s<=T.dn
 b4:T.S.hr.length+12*s<=12+12*T.dn
 hn:∀k∈T.S.hr,k∈W.G.nm
 tn:∀z∈T.S.ts,z.1∈W.G.nm
 u0:0<=T.S.uw
 u1:T.S.uw+s<=T.dn
structure LAt(W:Lw)(H:Hp)(rn:eH)(A:La)(T:Ts)(ev:V):Prop where
 li:LI H A T
 le:EvAt H T.e ev
 lm:MAt W.H0 (lM W rn A T ev) H
section
variable{W:Lw}{H:Hp}{rn:eH}{A:La}{T:Ts}{ev:V}
def LAt.run(h:LAt W H rn A T ev):H rn\(.dK<|lF W A T ev):=h.lm.at' _<|.head _
theorem LAt.ar(h:LAt W H rn A T ev):H A.ar\(.dK<|fW T.S.hr):=h.lm.at' _<|.tail _<|.head _
theorem LAt.ch(h:LAt W H rn A T ev):H A.ch\(.lst<|(W.G.ch.drop T.S.rd).map Yh):=h.lm.at' _<|.tail _<|.tail _<|.head _
theorem LAt.lo(h:LAt W H rn A T ev):H A.lo\(.lst<|A.ls.map Yg):=h.lm.at' _<|.tail _<|.tail _<|.tail _<|.head _
theorem LAt.th(h:LAt W H rn A T ev):H A.th\(.lst<|A.θ.map Yg):=h.lm.at' _<|.tail _<|.tail _<|.tail _<|.tail _<|.head _
theorem LAt.new(h:LAt W H rn A T ev)(hp:H p=Kr):LAt W (upd H p o) rn A T ev:=⟨h.li.keep<|Yn hp,h.le.keep<|Yn hp,h.lm.new hp⟩
def LAt.dict{m:Kk}(h:LAt W H rn A T ev)(f:A.δ[m]?\a):∃d j,T.S.ds[m]?\d/\A.ds[m]?\j/\H a\.dK j/\(∀k,aF j k=aF d k)/\(lD A)[m]?\(a,HO.dK j):=by
 have hl:m<A.ds.length:=by rw[<-h.li.dl];exact(ww4.mp f).1
 have b:=bJ hl;obtain⟨d,i,hd⟩:=A2.back h.li.dq b;have e:(lD A)[m]?\(a,HO.dK A.ds[m]):=by
  unfold lD;rw[bR,xW (z:=(a,A.ds[m])) |>.mpr ⟨f,b⟩];rfl
 exact{d,_,i,b,h.lm.at' _<|.tail _<|.tail _<|.tail _<|.tail _<|.tail _<|dC e,hd,e}
def FV(e:S.ds[m]?\d):Rs.get S m x=(aF d<|Ku x).getD .non:=by unfold Rs.get;rw[fG,e];rfl
def LAt.got{m:Kk}(h:LAt W H rn A T ev)(b:LB W A T s)(f:A.δ[m]?\a)(x:zZ):∃n,H a\.dK n/\(aF n<|Ku x).getD .non=T.S.get m x/\VOk T.S.ts.length (T.S.get m x):=by
 obtain⟨d,n,e,l,j,i,_⟩:=h.dict f;exact{n,j,by rw[FV e,i],by rw[FV e];exact XC (b.dk d<|dC e) _}
def kJ(h:MAt H0 M H)(hi:M[i]?\(a,o))(n:∀b,o≠.tup b):MAt H0 (M.set i (a,o')) (upd H a o')/\Tup H (upd H a o'):=⟨h.set hi,Tup.chg (h.at' _<|dC hi) n⟩
def LAt.num(h:LAt W H rn A T ev)(b:Ts)(f:b.S={T.S with lk:=b.S.lk,uw:=b.S.uw})(he:EvAt H b.e ev'):LAt W (upd H rn<|.dK<|lF W A b ev') rn A b ev'/\Tup H (upd H rn<|.dK<|lF W A b ev'):=by
 obtain⟨j,d,e⟩:=b;dsimp only at f he;rw[f];obtain⟨m,t⟩:=kJ (o':=.dK<|lF W A ⟨j,{T.S with lk:=d.lk,uw:=d.uw},e⟩ ev') h.lm (i:=0) rfl λl z=>nomatch z;exact{{{h.li.lg.imp λ_ _ g=>t _ _ g,h.li.th.imp λ_ _ ⟨a,e,g⟩=>{a,e,t _ _ g},h.li.dq,h.li.dl},he.keep t,m},t}
theorem LAt.say(h:LAt W H rn A T ev)(b:H t\.tup r):LAt W (upd H A.lo<|.lst<|A.ls.map Yg++[.ref t]) rn {A with ls:=A.ls++[t]} {T with S:=T.S.say r} ev/\Tup H (upd H A.lo<|.lst<|A.ls.map Yg++[.ref t]):=by
 obtain⟨m,f⟩:=kJ (o':=.lst<|A.ls.map Yg++[.ref t]) h.lm (i:=3) rfl λd z=>nomatch z;have e:A.ls.map Yg++[Yg t]=(A.ls++[t]).map Yg:=by rw[bT];rfl
 refine{{{(h.li.lg.imp λ_ _ g=>f _ _ g).snoc<|f _ _ b,h.li.th.imp λ_ _ ⟨a,e,g⟩=>{a,e,f _ _ g},h.li.dq,h.li.dl},h.le.keep f,?_},f};rw[e]at m ⊢;exact m
theorem WO{d:Ki (aG×V)}:∀{δ:Ki eH}{ds:Ki (Ki<|aG×V)}{m:Kk},δ[m]?\a->(δ.zip<|ds.set m d).map (λz=>(z.1,HO.dK z.2))=((δ.zip ds).map λz=>(z.1,HO.dK z.2)).set m (a,.dK d)
 | [],_,_,h=>nomatch h
 | _::_,[],_,_=>rfl
 | x::δ,y::ds,0,h=>by cases h;rfl
 | x::δ,y::ds,m+1,h=>cH ((x,HO.dK y)::·)<|WO (δ:=δ) (ds:=ds) h
theorem LAt.put{m:Kk}(h:LAt W H rn A T ev)(b:A.δ[m]?\a)(n:H a\.dK d')(x:zZ)(v:V):LAt W (upd H a<|.dK<|aL d' (Ku x) v) rn {A with ds:=A.ds.set m<|aL d' (Ku x) v} {T with S:=T.S.put m x v} ev/\Tup H (upd H a<|.dK<|aL d' (Ku x) v):=by
 obtain⟨d,u,r,s,j,q,l⟩:=h.dict b;rw[n]at j;cases j;obtain⟨m',f⟩:=kJ (o':=.dK<|aL d' (Ku x) v) h.lm (i:=m+5) l λw z=>nomatch z;have o:T.S.ds.getD m []=d:=by rw[fG,r];rfl
 refine{{{h.li.lg.imp λ_ _ g=>f _ _ g,h.li.th.imp λ_ _ ⟨a,e,g⟩=>{a,e,f _ _ g},?_,by rw[Vc];exact h.li.dl},h.le.keep f,?_},f}
 .show A2 _ (T.S.ds.set m<|aL (T.S.ds.getD m []) (Ku x) v) _;rw[o];exact A2.set h.li.dq λk=>by rw[hZ,hZ,q]
 .have:lD {A with ds:=A.ds.set m<|aL d' (Ku x) v}=(lD A).set m (a,.dK<|aL d' (Ku x) v):=WO b;show MAt W.H0 (_::_::_::_::_::lD {A with ds:=A.ds.set m<|aL d' (Ku x) v}) _;rw[this];exact m'
theorem LAt.dic(h:LAt W H rn A T ev)(hp:H b=Kr)(hd:∀k:aG,aF d' k=aF d k):LAt W (upd H b<|.dK d') rn {A with δ:=A.δ++[b],ds:=A.ds++[d']} {T with S:=T.S.dic d} ev:=by
 have f:Tup H (upd H b<|.dK d'):=Yn hp;have m:=h.lm.add (o:=.dK d') hp;exists {h.li.lg.imp λ_ _ g=>f _ _ g,h.li.th.imp λ_ _ ⟨a,e,g⟩=>{a,kF e,f _ _ g},h.li.dq.snoc hd,by rw[bN,bN,h.li.dl];rfl},h.le.keep f;have:lD {A with δ:=A.δ++[b],ds:=A.ds++[d']}=lD A++[(b,.dK d')]:=by
  unfold lD;rw[Ki.zip_append h.li.dl,bT];rfl
 show MAt W.H0 (_::_::_::_::_::lD {A with δ:=A.δ++[b],ds:=A.ds++[d']}) _;rw[this];exact m
theorem LAt.thg(h:LAt W H rn A T ev)(b:H t\.tup [.str z.1,.ref a])(hz:A.δ[z.2]?\a):LAt W (upd H A.th<|.lst<|A.θ.map Yg++[.ref t]) rn {A with θ:=A.θ++[t]} {T with S:=T.S.thg z} ev/\Tup H (upd H A.th<|.lst<|A.θ.map Yg++[.ref t]):=by
 obtain⟨m,f⟩:=kJ (o':=.lst<|A.θ.map Yg++[.ref t]) h.lm (i:=4) rfl λd z=>nomatch z;have e:A.θ.map Yg++[Yg t]=(A.θ++[t]).map Yg:=by rw[bT];rfl
 refine{{{h.li.lg.imp λ_ _ g=>f _ _ g,(h.li.th.imp λ_ _ ⟨a,e,g⟩=>{a,e,f _ _ g}).snoc {a,hz,f _ _ b},h.li.dq,h.li.dl},h.le.keep f,?_},f};rw[e]at m ⊢;exact m
def wX(h:k∉hr):aL (fW hr) (Ku k) (.bl Ks)=fW (hr++[k]):=by
 unfold aL fW;rw[bC,bT];rfl;intro z;obtain⟨p,b,e⟩:=vk5.mp z;obtain⟨y,a,rfl⟩:=wx6.mp b;exact h<|iS (cT e)▸a
def pS:(aF (fW hr)<|Ku k).isSome=decide (k∈hr):=by
 unfold aF fW;rw[CO,tR,decide_eq_true_iff,Ki.find?_isSome]
 constructor
 .rintro⟨p,hp,e⟩;obtain⟨y,a,rfl⟩:=wx6.mp hp;exact iS (cT e)▸a
 .exact λh=>⟨_,wx6.mpr ⟨k,h,rfl⟩,dP rfl⟩
theorem LAt.her(h:LAt W H rn A T ev)(b:k∉T.S.hr):LAt W (upd H A.ar<|.dK<|aL (fW T.S.hr) (Ku k)<|.bl Ks) rn A {T with S:=T.S.her k} ev/\Tup H (upd H A.ar<|.dK<|aL (fW T.S.hr) (Ku k)<|.bl Ks):=by
 obtain⟨m,f⟩:=kJ (o':=.dK<|aL (fW T.S.hr) (Ku k)<|.bl Ks) h.lm (i:=1) rfl λd z=>nomatch z;refine{{{h.li.lg.imp λ_ _ g=>f _ _ g,h.li.th.imp λ_ _ ⟨a,e,g⟩=>{a,e,f _ _ g},h.li.dq,h.li.dl},h.le.keep f,?_},f};rw[wX b]at m ⊢;exact m
end
section
variable{W:Lw}{H:Hp}{rn:eH}{A:La}{T:Ts}{ev:V}
def LB.less(b:LB W A T (s+1)):LB W A T s:=⟨b.dk,by have:=b.b1;lia,λd hd=>by have:=b.b2 d hd;lia,by have:=b.b3;lia,by have:=b.b4;lia,b.hn,b.tn,b.u0,by have:=b.u1;lia⟩
def LB.row(b:LB W A T 0):LB W A {T with dn:=T.dn+1} 1:=⟨b.dk,by have:=b.b1;show T.S.lg.length+_<=12*(T.dn+1);lia,λd hd=>by have:=b.b2 d hd;show(↑d:Kl)+T.S.uw+_<=1001+2*((T.dn+1:Kk):Kl);lia,by have:=b.b3;show T.S.ts.length+_<=T.dn+1;lia,by have:=b.b4;show T.S.hr.length+_<=12+12*(T.dn+1);lia,b.hn,b.tn,b.u0,by have:=b.u1;show T.S.uw+((1:Kk):Kl)<=((T.dn+1:Kk):Kl);lia⟩
theorem LB.ends(b:LB W A T s)(x:zZ)(n:Kk):LB W A (T.ends x n) s:=⟨b.dk,b.b1,b.b2,b.b3,b.b4,b.hn,b.tn,b.u0,b.u1⟩
theorem LB.say(b:LB W A T 1)(l:Ki eH)(r:Ki V):LB W {A with ls:=l} {T with S:=T.S.say r} 0:=⟨b.dk,by have:=b.b1;show(T.S.lg++[r]).length+_<=12*T.dn;rw[bN,eJ];lia,λd hd=>by have:=b.b2 d hd;show(↑d:Kl)+T.S.uw+_<=1001+2*(T.dn:Kl);lia,by have:=b.b3;show T.S.ts.length+_<=T.dn;lia,by have:=b.b4;show T.S.hr.length+_<=12+12*T.dn;lia,b.hn,b.tn,b.u0,by have:=b.u1;show T.S.uw+((0:Kk):Kl)<=(T.dn:Kl);lia⟩
def PK{d':Ki (aG×V)}(b:∀d∈A.ds,(↑d:Kl)+c<=e)(hd:A.ds[m]?\d'):∀d∈A.ds.set m (aL d' (Ku x) v),(↑d:Kl)+c<=e+1:=λd h=>by
 obtain h|rfl:=xY h
 .have:=b d h;lia
 .have:=jR d' (Ku x) v;have:=b d'<|dC hd;lia
def JU{S:Rs}(b:∀d∈S.ds,∀z∈d,VOk n z.2)(a:VOk n v):∀d∈(S.put m x v).ds,∀z∈d,VOk n z.2:=λd h=>by
 obtain h|rfl:=xY h
 .exact b d h
 .refine BM (λz f=>?_) a;rw[fG]at f;cases e:S.ds[m]? with
  | none=>rw[e]at f;cases f
  | some d=>rw[e]at f;exact b d (dC e) z f
theorem LB.put{d':Ki (aG×V)}{m:Kk}{x:zZ}{v:V}(b:LB W A T 1)(hd:A.ds[m]?\d')(a:VOk T.S.ts.length v):LB W {A with ds:=A.ds.set m<|aL d' (Ku x) v} {T with S:=T.S.put m x v} 0:=
 ⟨JU b.dk a,by have:=b.b1;show T.S.lg.length+_<=12*T.dn;lia,λd h=>by
  have:=PK (c:=T.S.uw) (e:=999+2*(T.dn:Kl)) (λd hd=>by have:=b.b2 d hd;lia) hd d h;show(↑d:Kl)+T.S.uw+_<=1001+2*(T.dn:Kl);lia,by have:=b.b3;show T.S.ts.length+_<=T.dn;lia,by have:=b.b4;show T.S.hr.length+_<=12+12*T.dn;lia,b.hn,b.tn,b.u0,by have:=b.u1;show T.S.uw+((0:Kk):Kl)<=(T.dn:Kl);lia⟩
def Iw{S:Rs}(a:m<S.ds.length):Rs.thg (Rs.dic (S.put m x v) []) (k,S.ds.length)=(S.make k).put m x v:=by
 unfold Rs.thg Rs.dic Rs.put Rs.make;dsimp only;rw[Ki.set_append_left _ _ a,fG,fG,lI a]
theorem LB.make{d':Ki (aG×V)}{m:Kk}{x k:zZ}{δ θ:Ki eH}(b:LB W A T 1)(f:m<T.S.ds.length)(hd:A.ds[m]?\d')(a:k∈T.S.hr):LB W {A with ds:=A.ds.set m (aL d' (Ku x)<|.int T.S.ts.length)++[[]],δ:=δ,θ:=θ} {T with S:=(T.S.make k).put m x<|.int T.S.ts.length} 0:=by
 refine{?_,by have:=b.b1;show T.S.lg.length+_<=12*T.dn;lia,λd h=>?_,?_,by have:=b.b4;show T.S.hr.length+_<=12+12*T.dn;lia,b.hn,λz hz=>?_,b.u0,by have:=b.u1;show T.S.uw+((0:Kk):Kl)<=(T.dn:Kl);lia}
 .have e:↑(T.S.ts++[(k,T.S.ds.length)])=T.S.ts.length+1:=by rw[bN];rfl
  show ∀d∈((T.S.make k).put m x _).ds,∀z∈d,VOk ↑(T.S.ts++[(k,T.S.ds.length)]) z.2;rw[e];refine JU (λd h z hz=>?_)<|.inr {_,U,qX _};obtain h|h:=wz2.mp h
  .exact(b.dk d h z hz).mono (kI _)
  .rw[wx1.mp h]at hz;cases hz
 .have:=b.u0;have i:=b.b2 d'<|dC hd;show(↑d:Kl)+T.S.uw+_<=1001+2*(T.dn:Kl);obtain h|h:=wz2.mp h
  .have:=PK (c:=T.S.uw) (e:=999+2*(T.dn:Kl)) (λd hd=>by have:=b.b2 d hd;lia) hd d h;lia
  .rw[wx1.mp h,iY];lia
 .have:=b.b3;show(T.S.ts++[(k,T.S.ds.length)]).length+0<=T.dn;rw[bN,eJ];lia
 .have hz:z∈T.S.ts++[(k,T.S.ds.length)]:=hz;obtain hz|hz:=wz2.mp hz
  .exact b.tn z hz
  .rw[wx1.mp hz];exact b.hn k a
def qZ:∀(l:Ki zZ)(S:Rs),(l.foldl Rs.come S).lg.length<=S.lg.length+↑l/\(l.foldl Rs.come S).hr.length<=S.hr.length+↑l/\(∀k∈(l.foldl Rs.come S).hr,k∈S.hr\/k∈l)/\(l.foldl Rs.come S).ds=S.ds/\(l.foldl Rs.come S).ts=S.ts/\(l.foldl Rs.come S).uw=S.uw:=λl=>l.recOn
 (λS=>⟨aZ _,aZ _,λk h=>.inl h,rfl,rfl,rfl⟩)
 λx l i S=>by
  obtain⟨m,j,b,d,a,f⟩:=i<|S.come x;rw[pO]
  by_cases c:x∈S.hr
  .rw[show S.come x=S from bF c]at m j b d a f ⊢;rw[cN];exact{∅,∅,λk h=>(b k h).imp id<|.tail _,d,a,f}
  .have e:S.come x={S with hr:=S.hr++[x],lg:=S.lg++[[.str "came",.str x]]}:=bC c;rw[e]at m j b d a f ⊢;rw[bN,eJ]at m j;rw[cN];refine{∅,∅,λk h=>?_,d,a,f};obtain h|h:=b k h
   .obtain h|h:=wz2.mp h
    .exact .inl h
    .exact .inr<|wx1.mp h▸.head _
   .exact .inr<|.tail _ h
theorem LB.come{l:Ki zZ}(b:LB W A T 1)(hl:↑l<=12)(f:∀x∈l,x∈W.G.nm)(ls:Ki eH):LB W {A with ls:=ls} {T with S:=l.foldl Rs.come T.S} 0:=by
 obtain⟨n,m,h,i,a,e⟩:=qZ l T.S;have:=b.b1;have:=b.b4;have:=b.b3;exact{by show ∀d∈(l.foldl Rs.come T.S).ds,_;rw[i];show ∀d∈T.S.ds,∀z∈d,VOk (l.foldl Rs.come T.S).ts.length z.2;rw[a];exact b.dk,by show(l.foldl Rs.come T.S).lg.length+_<=12*T.dn;lia,λd hd=>by have:=b.b2 d hd;show(↑d:Kl)+(l.foldl Rs.come T.S).uw+_<=1001+2*(T.dn:Kl);rw[e];lia,by show(l.foldl Rs.come T.S).ts.length+_<=T.dn;rw[a];lia,by show(l.foldl Rs.come T.S).hr.length+_<=12+12*T.dn;lia,λk j=>(h k j).elim (b.hn k)<|f k,by show ∀z∈(l.foldl Rs.come T.S).ts,_;rw[a];exact b.tn,by show 0<=(l.foldl Rs.come T.S).uw;rw[e];exact b.u0,by have:=b.u1;show(l.foldl Rs.come T.S).uw+((0:Kk):Kl)<=(T.dn:Kl);rw[e];lia}
def LAt.endw(h:LAt W H rn A T ev)(a:H t=Kr)(s:zZ)(n:Kk):LAt W (upd (upd H t<|.tup [.str s,.int n]) rn<|.dK<|aL (lF W A T ev) (Ku "end")<|.ref t) rn A (T.ends s n) (.ref t)/\Tup H (upd (upd H t<|.tup [.str s,.int n]) rn<|.dK<|aL (lF W A T ev) (Ku "end")<|.ref t):=by
 have:=(h.new (o:=.tup [.str s,.int n]) a).num (ev':=.ref t) (T.ends s n) rfl<|.end zb1;exact{this.1,(Yn a).trans this.2}
def LAt.thing(h:LAt W H rn A T ev){j:Kk}(b:j<T.S.ts.length):∃t a,A.θ[j]?\t/\H t\.tup [.str<|T.S.kind j,.ref a]/\A.δ[T.S.dict j]?\a:=by
 obtain⟨t,e,a,i,f⟩:=h.li.th.get<|bJ b;have d:T.S.ts.getD (j:Kl).toNat ("",0)=T.S.ts[j]:=by show T.S.ts.getD j _=_;rw[fG,bJ b];rfl
 exact{t,a,e,by unfold Rs.kind;rw[d];exact f,by unfold Rs.dict;rw[d];exact i}
end
inductive Enm(B:eH->Prop)(Z:zZ->Kj zZ->Prop)(H:Hp):LL->Ki eH->Prop
 | nil:Enm B Z H .nil []
 | op {n:Kk} {a e p:eH} {r:Rw} {t:LL} {es:Ki eH} (h:H e\.tup [.int n,.ref a,.ref p]) (hr:H a\.tup r.vs) (hb:∀k,r=.bring k->Z k Kr) (s:Enm B Z H t es):Enm B Z H (.op n a r t) (e::es)
 | call {n:Kk} {a e p g:eH} {x y k d:zZ} {as:Ki zZ} {t:LL} {es:Ki eH} (h:H e\.tup [.int n,.ref a,.ref p]) (hr:H a\.tup [.str "call",.str x,.str y,.str k,.str d,.ref g]) (hg:H g\(.tup<|as.map Yf)) (hz:Z k (Kp d)) (s:Enm B Z H t es):Enm B Z H (.call n a x y k d as t) (e::es)
 | either {n:Kk} {a e p l1 l2:eH} {v:Ki V} {q1 q2 t:LL} {e1 e2 es:Ki eH} (h:H e\.tup [.int n,.ref a,.ref p]) (hp:H p\.lst [.ref l1,.ref l2]) (hr:H a\(.tup<|.str "either"::v)) (h1:H l1\(.lst<|e1.map Yg)) (h2:H l2\(.lst<|e2.map Yg)) (hB:B p/\B l1/\B l2) (s1:Enm B Z H q1 e1) (s2:Enm B Z H q2 e2) (s:Enm B Z H t es):Enm B Z H (.either n a q1 q2 t) (e::es)
 | again {n:Kk} {a e p l1:eH} {v:Ki V} {q1 t:LL} {e1 es:Ki eH} (h:H e\.tup [.int n,.ref a,.ref p]) (hp:H p\.lst [.ref l1]) (hr:H a\(.tup<|.str "again"::v)) (h1:H l1\(.lst<|e1.map Yg)) (hB:B p/\B l1) (s1:Enm B Z H q1 e1) (s:Enm B Z H t es):Enm B Z H (.again n a q1 t) (e::es)
abbrev yP:=Enm λ_=>True
def Enm.keep{B C:eH->Prop}(h:Enm B Z H l es)(t:Tup H H')(f:FrS M H H')(a:∀b,B b->b∉M/\C b):Enm C Z H' l es:=by
 induction h with
 | nil=>exact .nil
 | op h e s _ d=>exact .op (t _ _ h) (t _ _ e) s d
 | call h e q o _ d=>exact .call (t _ _ h) (t _ _ e) (t _ _ q) o d
 | either h m e i r b _ _ _ j n d=>exact .either (t _ _ h) (f _ _ (a _ b.1).1 m) (t _ _ e) (f _ _ (a _ b.2.1).1 i) (f _ _ (a _ b.2.2).1 r) {(a _ b.1).2,(a _ b.2.1).2,(a _ b.2.2).2} j n d
 | again h m e i b _ _ j d=>exact .again (t _ _ h) (f _ _ (a _ b.1).1 m) (t _ _ e) (f _ _ (a _ b.2).1 i) {(a _ b.1).2,(a _ b.2).2} j d
theorem Enm.app{B:eH->Prop}(h:Enm B Z H L es)(g:Enm B Z H M fs):Enm B Z H (L.app M) (es++fs):=by
 induction h with
 | nil=>exact g
 | op h d o _ a=>exact .op h d o a
 | call h d m j _ a=>exact .call h d m j a
 | either h f d e n b i l _ _ _ a=>exact .either h f d e n b i l a
 | again h f d e b i _ _ a=>exact .again h f d e b i a
inductive XZ(Z:zZ->Kj zZ->Prop)(H:Hp)(n k:Kk)(a:eH)(rs:Ki eH)(L:LL)(k':Kk):Prop
 | mk(w:zZ)(rest:Ki V)(ls:Ki (eH×Ki eH×LL×Kk×Kk))(k1:Kk)(Lr:LL)(M:LL)(h1:H a\(.tup<|.str w::rest))(h2:iX w rest=ls.map λz=>Yg z.1)
  (h3:∀z∈ls,H z.1\(.tup<|z.2.1.map Yg)/\∃n',n=n'+1/\Ly Z H n' z.2.2.2.1 z.2.1 z.2.2.1 z.2.2.2.2) (h4:∀(i:Kk) z,ls[i]?\z->z.2.2.2.1=(if i=0 then k+1 else((ls[i-1]?).map λy=>y.2.2.2.2).getD 0)) (h5:k1=((ls.getLast?).map λy=>y.2.2.2.2).getD (k+1)) (h6:↑ls<=2)
  (h7:L=M.app Lr) (h8:∀(B:eH->Prop)(e p:eH)(ts:Ki eH)(H':Hp),Tup H H'->H' e\.tup [.int k,.ref a,.ref p]->H' p\(.lst<|ts.map Yg)->B p->A2 (λz t=>∃es:Ki eH,H' t\(.lst<|es.map Yg)/\B t/\Enm B Z H' z.2.2.1 es) ls ts->Enm B Z H' M [e]) (h9:Ly Z H n k1 rs Lr k') (h10:∀z∈ls,z.2.2.2.2<=k'):XZ Z H n k a rs L k'
def Ly.mhd(h:Ly Z H n k (a::rs) L k'):XZ Z H n k a rs L k':=by
 cases h with
 | @op _ _ _ _ r _ L h hb t=>
  obtain⟨rest,e⟩:=r.hd;have A:¬(r.wd="either"\/r.wd="again"):=by cases r <;> (simp only[Rw.wd];rfl')
  exact{r.wd,rest,[],k+1,L,.op k a r .nil,by rw[h,e],by unfold iX;rw[bC A];rfl,(λz hz=>nomatch hz),(λi z hz=>nomatch hz),U,bW _,U,λB o p X W f J T _ b=>.op J (f _ _ h) hb .nil,t,λz hz=>nomatch hz}
 | @call _ _ _ _ g x y q d as _ L h hg hl hz t=>
  exact{"call",_,[],k+1,L,.call k a x y q d as .nil,h,by unfold iX;rw[bC<|by rfl'];rfl,(λz hz=>nomatch hz),(λi z hz=>nomatch hz),U,bW _,U,λB o p X W f J T _ b=>.call J (f _ _ h) (f _ _ hg) hz .nil,t,λz hz=>nomatch hz}
 | @again n _ M _ _ l N _ O L h hl s t=>
  refine{"again",_,[(l,N,O,k+1,M)],M,L,.again k a O .nil,h,by unfold iX;rw[bF<|.inr rfl];rfl,λz hz=>?_,λi z hz=>?_,U,by show 1<=2;decide,U,λB o p X W f J T m b=>?_,t,λz hz=>by rw[wx1.mp hz];have:=t.rl;show M<=k';lia}
  .rw[wx1.mp hz];exact⟨hl,n,rfl,s⟩
  .cases i with
   | zero=>cases hz;rfl
   | succ i=>cases hz
  .cases b with
   | cons r P=>
    cases P;obtain⟨es,j,w,u⟩:=r;exact .again J T (f _ _ h) j ⟨m,w⟩ u .nil
 | @either n _ M k2 _ _ l1 l2 N Y _ O L2 L h h1 h2 s1 s2 t=>
  refine{"either",_,[(l1,N,O,k+1,M),(l2,Y,L2,M,k2)],k2,L,.either k a O L2 .nil,h,by unfold iX;rw[bF<|.inl rfl];rfl,λz hz=>?_,λi z hz=>?_,U,by show 2<=2;decide,U,λB o p X W f J T m b=>?_,t,λz hz=>by
   have:=t.rl;have:=s2.rl;obtain rfl|hz:=wx0.mp hz
   .show M<=k';lia
   .rw[wx1.mp hz];show k2<=k';lia}
  .obtain rfl|hz:=wx0.mp hz
   .exact⟨h1,n,rfl,s1⟩
   .rw[wx1.mp hz];exact⟨h2,n,rfl,s2⟩
  .match i,hz with
   | 0,hz=>cases hz;rfl
   | 1,hz=>cases hz;rfl
  .cases b with
   | cons r P=>
    cases P with
    | cons r2 P=>
     cases P;obtain⟨es,j,w,u⟩:=r;obtain⟨I,G,E,C⟩:=r2;exact .either J T (f _ _ h) j G ⟨m,w,E⟩ u C .nil
abbrev sF:Kd:=top 71
abbrev lJ:Ki zZ:=["_law_run","_law_kind"]
inductive rC(vs:Ki V)(H:Hp)(Q:VK):Prop
 | mk(rn up:eH)(kvs:Ki (aG×V))(tr:Tr)(n:zZ)(l:Ki zZ)(h1:vs=[.ref rn,.str n])(h2:H rn\.dK kvs)(h3:aF kvs (Ku "up")\.ref up)(h4:H up\(.dK<|cR tr))(h5:TrOk tr)(h6:↑tr<=12)(h7:Up tr n l)(q:∀a,H a=Kr->Q (.ref a) (upd H a<|.lst<|l.map Yf)):rC vs H Q
def HZ:Sp:=λvs H Q _=>rC vs H Q
inductive SR(H:Hp)(rn pl:eH)(tr:Tr)(l:Ki zZ)(σ:St)(Hx:Hp):Prop
 | mk(dn:Ki zZ)(kv:V)(h1:σ=[Kp<|.ref rn,Kp kv,Kp<|.ref pl])(h2:Hx=upd H pl (.lst<|dn.map Yf))(h3:↑dn<=12)(h4:(kv=.non/\dn=l)\/∃x rs,kv=.str x/\Up tr x rs/\dn++rs=l):SR H rn pl tr l σ Hx
def wp5:bX ["_law_run","_law_kind","_law_found"] lJ (bP sF):=cF
def vT(F:Fun K "_law_ups" "_law_ups" sF f fd):aS P w K mg base bO (k+1) f fd lJ HZ:=by
 refine F.ok wp5 (λvs H Q E h=>?_) λa8 A outer s H vs Q E hr h=>?_
 .obtain⟨rn,up,kvs,tr,n,l,rfl,_⟩:=h;rfl
 obtain⟨rn,up,kvs,tr,n,l,rfl,J,Z,N,ok,a9,d,q⟩:=h;have z:=eN hr;exists _,aJ (sL 2 wp5.nd<|cU aE)
  (aJ (IB dU (gO<|rH<|pv 1)<|aJ (dH<|eW eQ fU fS fL (pv 2)<|aA (pv 1) aE)<|aR<|sL 1 wp5.nd<|bU z (bU z (pv 0) aX λ_ _=>U) (pv 1) λ_ _=>U)<|aR<|bQ<|pv 2)
 ac_rfl
 refine{bW _,λa m=>?_};refine KF (SR H rn a tr l) (λσ j=>match j a with | some (.lst xs)=>100-↑xs | _=>0) ⟨[],.str n,rfl,rfl,by decide,.inr ⟨n,l,rfl,d,rfl⟩⟩ ?_ ?_
 .rintro σ j ⟨dn,kv,rfl,rfl,hd,I⟩;have kp:∀{b:eH}{u o:HO},H b\u->upd H a o b\u:=λe=>by rw[aC<|aQ e m];exact e
  obtain⟨rfl,rfl⟩|⟨x,rs,rfl,hx,hl⟩:=I
  .exact⟨_,rfl,_,rfl,bI ⟨_,rfl,q a m⟩⟩
  .exists _,rfl,_,rfl;show if (!decide (Yf x=Yi))=Ks then _ else _
   rw[bF<|by simp];have Y:↑dn+1<=12:=by
    obtain⟨i,g,hi⟩:=d.at;have h1:=Up.len ok i n g l hi d;obtain⟨h2,_⟩:=ww4.mp hi;have L:=cH Lj hl;rw[bN]at L;have h4:1<=↑rs:=by cases hx <;> simp
    lia
   refine{_,U,.inl {U,_,Yl zb1},_,U,a,_,_,U,U,zb1,by rw[aK];exact bM ∅,?_};rw[gR];have G:dn.map Yf++[Yf x]=(dn++[x]).map Yf:=by rw[bT];rfl
   have B:(match upd H a (.lst<|(dn++[x]).map Yf) a with | some (HO.lst xs)=>100-↑xs | _=>0)<(match upd H a (.lst<|dn.map Yf) a with | some (HO.lst xs)=>100-↑xs | _=>0):=by
    rw[zb1,zb1];show 100-↑((dn++[x]).map Yf)<100-↑(dn.map Yf);rw[aK,aK,bN,eJ];lia
   have r:↑(dn++[x])<=12:=by rw[bN,eJ];exact Y
   rw[G];have W:DGet (upd H a<|.lst<|(dn++[x]).map Yf) rn (.str "up") (Kp<|.ref up):=by rw[<-Z];exact DGet.k (k:=(Ku "up":aG))<|kp J
   have C:∀v,aF (cR tr) (Ku x)\v->DGet (upd H a<|.lst<|(dn++[x]).map Yf) up (.str x) (Kp v):=λv e=>by rw[<-e];exact DGet.k (k:=(Ku x:aG))<|kp N
   exists _,U,rn,_,U,W,_,U;cases hx with
   | @root i _ hi=>exact{up,.non,U,C _<|tS ok hi,{dn++[x],.non,U,U,r,.inl ⟨rfl,hl⟩},B}
   | @step i _ e l' hi hu'=>exact{up,.str e,U,C _<|tS ok hi,{dn++[x],.str e,U,U,r,.inr {e,l',U,hu',by rw[gF];exact hl}},B}
 .rintro σ j Q1 Q2 X ⟨O,h1,c,T,M⟩;exact{O,h1,c,T,X _ _ M}
abbrev xG:Kd:=top 73
abbrev hJ:Ki zZ:=["_law_run","_law_number","_law_row_here","_law_env"]
inductive ZA(W:Lw)(kvs:Ki (Ki aG×V))(x d:zZ):Prop
 | mk(i:Kk)(e pt rl:eH)(es:Ki eH)(h1:(W.G.ln x)[i]?\W.G.an x d)(h2:∀(j:Kk) z,j<i->(W.G.ln x)[j]?\z->aF kvs [Ku z,Ku d]=Kr)(h3:W.G.co x d=i+1)(h4:aF kvs [Ku<|W.G.an x d,Ku d]\.ref e)(h5:W.H0 e\.tup [.ref pt,.ref rl,aY<|W.G.gv (W.G.an x d) d])(h6:W.H0 pt\(.tup<|(W.G.ps (W.G.an x d) d).map Yf))(h7:W.H0 rl\(.lst<|es.map Yg))(h8:yP W.Z W.H0 (W.G.bo (W.G.an x d) d) es)
structure nF(W:Lw)(tr:Tr):Prop where
 up:W.H0 W.up\(.dK<|cR tr)
 ok:TrOk tr
 l12:↑tr<=12
 ln:∀k∈W.G.nm,Up tr k<|W.G.ln k
 nm:∀k,∀x∈W.G.ln k,x∈W.G.nm
 l2:∀k,↑(W.G.ln k)<=12
 ch:∀c∈W.G.ch,-100<=c
 z0:∀k,W.Z k Kr->k∈W.G.nm
 po:∀f d,("own":zZ)∉W.G.ps f d
 ps:∀f d,↑(W.G.ps f d)<=1000
 dp:∀f d,(W.G.bo f d).dep<=4
 tx:∃kvs,W.H0 W.tx\.dT kvs/\∀k d,W.Z k (Kp d)->∀x∈W.G.nm,k∈W.G.ln x->ZA W kvs x d
def Sub(A b:La):Prop:=∀{i:Kk}{a:eH},A.δ[i]?\a->b.δ[i]?\a
inductive pA(vs:Ki V)(H:Hp)(Q:VK):Prop
 | mk(W:Lw)(tr:Tr)(rn ra na:eH)(A:La)(T:Ts)(n m:Kk)(r:Rw)(h1:vs=[.ref rn,.int n,.ref ra,.ref na])(h2:LAt W H rn A T .non)(h3:nF W tr)(h4:H ra\.tup r.vs)(h5:A.δ[m]?\na)(h6:LB W A T 1)(h7:T.dn<=10000)(h8:∀k,r=.bring k->k∈W.G.nm)
  (q:∀A' ev' H',LAt W H' rn A' (T.plain W.G n m r) ev'->LB W A' (T.plain W.G n m r) 0->Tup H H'->Sub A A'->Q .non H'):pA vs H Q
def ND:Sp:=λvs H Q _=>pA vs H Q
inductive BA(W:Lw)(H:Hp)(rn lb:eH)(A:La)(T:Ts)(σ0:St)(l:Ki zZ)(i:Kk)(σ:St)(Hx:Hp):Prop
 | mk(y:Kj V)(ls:Ki eH)(h1:σ=σ0++[y])(h2:LAt W Hx rn {A with ls:=ls} {T with S:=(l.take i).foldl Rs.come T.S} .non)(h3:Tup H Hx)(h4:Hx lb\(.lst<|l.map Yf)):BA W H rn lb A T σ0 l i σ Hx
def wr6:bX ["_law_run","_law_number","_law_row_here","_law_env","_law_word","_law_kind"] hJ (bP xG):=cF
def uL(F:Fun K "_law_do_plain" "_law_do_plain" xG f fd)(U':aV P w K mg base k "_law_ups" lJ HZ)(ml:mg "len"=Kr):aS P w K mg base bO (k+1) f fd hJ ND:=by
 refine F.ok wr6 (λvs H Q E h=>?_) λaf A outer s H vs Q E hr h=>?_
 .obtain⟨W,tr,rn,u,N,A,T,n,m,r,rfl,_⟩:=h;rfl
 obtain⟨W,tr,rn,u,N,A,⟨dn,S,e⟩,n,m,r,rfl,h,hW,L,hm,C,ah,ac,q⟩:=h;obtain rfl:e=none:=by cases h.le;rfl
 have l:=eN hr;exists _,aJ (sL 4 wr6.nd<|eT (pv 2) aO)
  (aR (cG (PW.pt<|lO (cC eA (pv 4) aX<|cI _)<|nX<|gO<|WX l (eT (pv 2) aO)<|bU l (pv 0) aX λ_ _=>U) (aJ (eK l (pv 3) (eT (pv 2) aO) (eM jE rfl ml iW<|aA (bU l (pv 0) aX λ_ _=>U) aE) rfl)<|aR<|dH<|eW eQ fU fS fL (bU l (pv 0) aX λ_ _=>U)<|aA (bZ<|aA (eT (pv 2) aO)<|aA mR aE) aE) (aR (cG (cC eA (pv 4) aX<|cI _) (aR<|eK l (pv 0) aX (bZ<|aA aX<|aA (pv 1) aE) rfl) (aR (cG (cC eA (pv 4) aX<|cI _) (aR<|eK l (pv 3) (eT (pv 2) aO) (hI l (pv 3) (eT (pv 2) aO) ⟨rfl,rfl,rfl,rfl⟩) rfl) (aR (cG (cC eA (pv 4) aX<|cI _) (aR<|dH<|eW eQ fU fS fL (bU l (pv 0) aX λ_ _=>U)<|aA (bZ<|aA aX<|aA (pv 1)<|aA (eT (pv 2) aO) aE) aE) (aR (cG (cC eA (pv 4) aX<|cI _) (aR<|eU dU rfl (iJ<|LW (bD U' hr rfl<|aA (pv 0)<|aA (eT (pv 2) aO) aE)<|nH nW aO) (gL 5 wr6.nd)<|aR<|cG (gO<|Ht l (pv 5)<|bU l (pv 0) aX λ_ _=>U) (aJ (eK l (bU l (pv 0) aX λ_ _=>U) (pv 5) yW rfl)<|aR<|dH<|eW eQ fU fS fL (bU l (pv 0) aX λ_ _=>U)<|aA (bZ<|aA aX<|aA (pv 5) aE) aE) cS) (aR (cG (gO<|kL<|hI l (pv 3) (bU l (GJ (fM aX (eT (pv 2) aO)<|fM aX (eT (pv 2) aO) FJ) rfl rfl (by intro z;cases z)<|by decide) (pv 4) λ_ _=>U) ⟨rfl,rfl,rfl,rfl⟩)
    (aR<|eK l (pv 0) aX (bZ<|aA aX<|aA (pv 1) aE) rfl)
   (aR<|cG (cC eA (pv 4) aX<|cI _) (aR<|eK l (eT (eI (bU l (pv 0) aX λ_ _=>U)<|bU l (pv 3) (eT (pv 2) aO) λ_ _=>U) aO) (eT (pv 2) aO) (hI l (pv 3) (eT (pv 2) aO) ⟨rfl,rfl,rfl,rfl⟩) rfl)<|aR<|eK l (pv 3) (eT (pv 2) aO) (hI l (eT (eI (bU l (pv 0) aX λ_ _=>U)<|bU l (pv 3) (eT (pv 2) aO) λ_ _=>U) aO) (eT (pv 2) aO) ⟨rfl,rfl,rfl,rfl⟩) rfl)))))))))))))
 ac_rfl
 have s2:2<=sizeLine:=cX (bM<|by decide);have s3:3<=sizeLine:=cX (bM<|by decide);have gK:∀{H':Hp}{M:La}{T':Ts}{ev' v:V}(key:aG),LAt W H' rn M T' ev'->aF (lF W M T' ev') key\v->DGet H' rn (kV key) (Kp v):=λkey g e=>by rw[<-e];exact DGet.k g.run
 have few:∀{j:Kk}{d':Ki (aG×V)},A.ds[j]?\d'->↑d'<sizeLine:=λe=>by
  have:=C.b2 _<|dC e;have:=C.u0;exact iD ∅
 have aa:∀{M:La}{T':Ts}{ev':V},↑(lF W M T' ev')<sizeLine:=λ{_ _ _}=>bM (by show 10<=1000;decide)
 cases r with
 | make x k=>
  exists _,U,u,_,_,_,U,U,Ym L,fY _ _;refine{_,U,U,_,U,cK {_,U,u,_,_,_,U,U,Ym L,U,_,U,rn,_,U,gK (Ku "around") h rfl,A.ar,_,U,DGet.k (k:=(Ku k:aG)) h.ar,?_}};exists _,U;rw[pS];have O:∀M ev' H',LAt W H' rn M ⟨dn,(if k∈S.hr then(((S.make k).put m x<|.int S.ts.length),Kr) else(S,Kp "absent"):Rs×Kj zZ).1,(if k∈S.hr then(((S.make k).put m x<|.int S.ts.length),Kr) else(S,Kp "absent"):Rs×Kj zZ).2.map (·,n)⟩ ev'->LB W M ⟨dn,(if k∈S.hr then(((S.make k).put m x<|.int S.ts.length),Kr) else(S,Kp "absent"):Rs×Kj zZ).1,(if k∈S.hr then(((S.make k).put m x<|.int S.ts.length),Kr) else(S,Kp "absent"):Rs×Kj zZ).2.map (·,n)⟩ 0->Tup H H'->Sub A M->Q .non H':=q
  by_cases c:k∈S.hr
  .rw[dP c];simp only[bF c]at O;obtain⟨d,d',e1,e2,B,e4,e5⟩:=h.dict hm;refine cK {_,U,rn,_,U,gK (Ku "things") h rfl,_,_,U,.inl<|Yl h.th,_,U,_,U,u,_,_,_,U,U,Ym L,U,N,_,U,DPut.k (k:=(Ku x:aG)) B<|few e2,?_};have ab:m<S.ds.length:=(ww4.mp e1).1;obtain⟨J,Y⟩:=h.put hm B x<|.int S.ts.length;have a0:=Y _ _ L;have el:↑(A.θ.map Yg)=S.ts.length:=by rw[aK,<-h.li.th.len]
   rw[el];refine{_,U,rn,_,U,gK (Ku "things") J rfl,.inl {U,_,Yl J.th},_,U,u,_,_,_,U,U,Ym a0,U,λb a6=>{s2,λt I=>?_}};have g2:=J.dic (d:=[]) (d':=[]) a6 λ_=>rfl;have g3:=(g2.new (o:=.tup [.str k,.ref b]) I).thg (z:=(k,S.ds.length)) zb1 (by
    show(A.δ++[b])[S.ds.length]?=Kp b;rw[h.li.dq.len,<-h.li.dl,jU<|aZ _,qV];rfl)
   have e6:(⟨dn,Rs.thg (Rs.dic (S.put m x<|.int S.ts.length) []) (k,S.ds.length),Kr⟩:Ts)=⟨dn,(S.make k).put m x<|.int S.ts.length,Kr⟩:=by rw[Iw ab]
   have g4:LAt W _ rn _ ⟨dn,(S.make k).put m x<|.int S.ts.length,Kr⟩ _:=e6▸g3.1;have q1:=O _ _ _ g4;refine{_,_,_,U,U,(g2.new I).th,iD (by rw[el];have:=C.b3;lia),q1 (C.make ab e2 c) (Y.trans<|(Yn a6).trans<|(Yn I).trans g3.2) λe=>kF e}
  .rw[gE c];simp only[bC c]at O;refine bI {_,U,U,_,U,cK {_,U,s2,λt I=>?_}};have g:=h.endw I "absent" n;exact{_,U,rn,_,U,DPut.k (k:=(Ku "end":aG)) (h.new I).run aa,O _ _ _ g.1 (C.less.ends _ _) g.2 λe=>e}
 | copy x y=>
  exists _,U,u,_,_,_,U,U,Ym L,fY _ _;obtain⟨d,d',e1,e2,B,e4,e5⟩:=h.dict hm;obtain⟨_,f1,X,f3⟩:=h.got C hm y;cases f1.symm.trans B;refine{_,U,U,_,U,bI<|bI {_,U,U,_,U,bI {_,U,U,_,U,cK {_,U,N,U,.inl {_,.inl B},_,U,u,_,_,_,U,U,Ym L,U,_,DGet.k (k:=(Ku y:aG)) B,_,U,_,U,u,_,_,_,U,U,Ym L,U,N,_,U,DPut.k (k:=(Ku x:aG)) B<|few e2,?_}}}};rw[X];have g:=h.put hm B x<|S.get m y;have q1:=q _ _ _ g.1;exact q1 (C.put e2 f3) g.2 λe=>e
 | put x g y=>
  exists _,U,u,_,_,_,U,U,Ym L,fY _ _;obtain⟨d,d',e1,e2,B,e4,e5⟩:=h.dict hm;obtain⟨_,f1,X,f3⟩:=h.got C hm x;cases f1.symm.trans B;refine{_,U,U,_,U,bI<|bI {_,U,U,_,U,bI {_,U,U,_,U,bI {_,U,U,_,U,bI {_,U,U,_,U,bI {_,U,N,U,.inl {_,.inl B},λp hp=>{_,U,u,_,_,_,U,U,Ym<|(Yn hp) _ _ L,U,_,U,u,_,_,_,U,U,Ym<|(Yn hp) _ _ L,U,zb1,[(Ku "put",.str x),(Ku "take",.str g)],U,(by show 2<=15;decide),_,U,p,_,U,DGet.k (k:=(Ku "put":aG)) zb1,?_}}}}}}};rw[gR];have h1:=h.new (o:=.dK<|cM [] [(Ku "put",.str x),(Ku "take",.str g)]) hp;have a0:=(Yn (o:=.dK<|cM [] [(Ku "put",.str x),(Ku "take",.str g)]) hp) _ _ L;have a2:upd H p (.dK<|cM [] [(Ku "put",.str x),(Ku "take",.str g)]) N\.dK d':=by rw[aC<|aQ B hp];exact B
  have Y:Tup H (upd H p<|.dK<|cM [] [(Ku "put",.str x),(Ku "take",.str g)]):=Yn hp;generalize upd H p (.dK<|cM [] [(Ku "put",.str x),(Ku "take",.str g)])=H1 at h1 a0 a2 Y;exists _,DGet.k (k:=(Ku x:aG)) a2;rw[X];have O:∀M ev' H',LAt W H' rn M ⟨dn,(S.thing (S.get m x) λj=>(S.put (S.dict j) g<|S.get m y,Kr)).1,(S.thing (S.get m x) λj=>(S.put (S.dict j) g<|S.get m y,Kr)).2.map (·,n)⟩ ev'->LB W M ⟨dn,(S.thing (S.get m x) λj=>(S.put (S.dict j) g<|S.get m y,Kr)).1,(S.thing (S.get m x) λj=>(S.put (S.dict j) g<|S.get m y,Kr)).2.map (·,n)⟩ 0->Tup H H'->Sub A M->Q .non H':=q;obtain e|⟨j,e,hj⟩:=f3
  .rw[e]at O ⊢;refine{_,U,cK {_,U,s2,λt I=>?_}};have J:=h1.endw I "nothing" n;exact{_,U,rn,_,U,DPut.k (k:=(Ku "end":aG)) (h1.new I).run aa,O _ _ _ J.1 (C.less.ends _ _) (Y.trans J.2) λe=>e}
  .have ev:aF d' (Ku x)\.int j:=by
    cases z:aF d' (Ku x)with
    | none=>rw[z]at X;rw[<-X]at e;cases e
    | some v=>rw[z]at X;rw[<-X]at e;exact cH Kp e
   rw[e]at O ⊢;obtain⟨t,a,e6,e7,e8⟩:=h1.thing hj;obtain⟨b,b',c1,c2,c3,c4,c5⟩:=h1.dict e8;have a8:eE (A.θ.map Yg) (j:Kl)\.ref t:=kW (by rw[bR,e6];rfl);have a4:DGet H1 N (.str x) (Kp<|.int j):=by rw[<-ev];exact DGet.k (k:=(Ku x:aG)) a2
   obtain⟨_,y1,y2,y3⟩:=h1.got C hm y;cases y1.symm.trans a2;refine{_,U,bI {_,U,U,_,U,cK {_,U,N,U,.inl {_,.inl a2},_,U,u,_,_,_,U,U,Ym a0,U,_,DGet.k (k:=(Ku y:aG)) a2,_,U,rn,_,U,gK (Ku "things") h1 rfl,_,U,_,U,u,_,_,_,U,U,Ym a0,U,N,_,U,a4,A.th,_,_,_,U,U,Yl h1.th,a8,t,_,_,_,U,U,Ym e7,U,_,U,u,_,_,_,U,U,Ym a0,U,a,_,U,DPut.k (k:=(Ku g:aG)) c3<|few c2,?_}}};rw[y2];have J:=h1.put e8 c3 g<|S.get m y;have q1:=O _ _ _ J.1;exact q1 (C.put c2 y3) (Y.trans J.2) λe=>e
 | take x y g=>
  exists _,U,u,_,_,_,U,U,Ym L,fY _ _;obtain⟨d,d',e1,e2,B,e4,e5⟩:=h.dict hm;obtain⟨_,f1,X,f3⟩:=h.got C hm y;cases f1.symm.trans B;refine{_,U,U,_,U,bI<|bI {_,U,U,_,U,bI {_,U,U,_,U,bI {_,U,U,_,U,bI {_,U,U,_,U,bI {_,U,N,U,.inl {_,.inl B},λp hp=>{_,U,u,_,_,_,U,U,Ym<|(Yn hp) _ _ L,U,_,U,u,_,_,_,U,U,Ym<|(Yn hp) _ _ L,U,zb1,[(Ku "put",.str x),(Ku "take",.str y)],U,(by show 2<=15;decide),_,U,p,_,U,DGet.k (k:=(Ku "take":aG)) zb1,?_}}}}}}};rw[gR];have h1:=h.new (o:=.dK<|cM [] [(Ku "put",.str x),(Ku "take",.str y)]) hp;have a0:=(Yn (o:=.dK<|cM [] [(Ku "put",.str x),(Ku "take",.str y)]) hp) _ _ L;have a2:upd H p (.dK<|cM [] [(Ku "put",.str x),(Ku "take",.str y)]) N\.dK d':=by rw[aC<|aQ B hp];exact B
  have Y:Tup H (upd H p<|.dK<|cM [] [(Ku "put",.str x),(Ku "take",.str y)]):=Yn hp;generalize upd H p (.dK<|cM [] [(Ku "put",.str x),(Ku "take",.str y)])=H1 at h1 a0 a2 Y;exists _,DGet.k (k:=(Ku y:aG)) a2;rw[X];have O:∀M ev' H',LAt W H' rn M ⟨dn,(S.thing (S.get m y) λj=>(S.put m x<|S.get (S.dict j) g,Kr)).1,(S.thing (S.get m y) λj=>(S.put m x<|S.get (S.dict j) g,Kr)).2.map (·,n)⟩ ev'->LB W M ⟨dn,(S.thing (S.get m y) λj=>(S.put m x<|S.get (S.dict j) g,Kr)).1,(S.thing (S.get m y) λj=>(S.put m x<|S.get (S.dict j) g,Kr)).2.map (·,n)⟩ 0->Tup H H'->Sub A M->Q .non H':=q;obtain e|⟨j,e,hj⟩:=f3
  .rw[e]at O ⊢;refine{_,U,cK {_,U,s2,λt I=>?_}};have J:=h1.endw I "nothing" n;exact{_,U,rn,_,U,DPut.k (k:=(Ku "end":aG)) (h1.new I).run aa,O _ _ _ J.1 (C.less.ends _ _) (Y.trans J.2) λe=>e}
  .have ev:aF d' (Ku y)\.int j:=by
    cases z:aF d' (Ku y)with
    | none=>rw[z]at X;rw[<-X]at e;cases e
    | some v=>rw[z]at X;rw[<-X]at e;exact cH Kp e
   rw[e]at O ⊢;obtain⟨t,a,e6,e7,e8⟩:=h1.thing hj;obtain⟨b,b',c1,c2,c3,c4,c5⟩:=h1.dict e8;have a8:eE (A.θ.map Yg) (j:Kl)\.ref t:=kW (by rw[bR,e6];rfl);have a4:DGet H1 N (.str y) (Kp<|.int j):=by rw[<-ev];exact DGet.k (k:=(Ku y:aG)) a2
   obtain⟨_,y1,y2,y3⟩:=h1.got C e8 g;cases y1.symm.trans c3;refine{_,U,bI {_,U,U,_,U,bI {_,U,rn,_,U,gK (Ku "things") h1 rfl,_,U,_,U,u,_,_,_,U,U,Ym a0,U,N,_,U,a4,A.th,_,_,_,U,U,Yl h1.th,a8,t,_,_,_,U,U,Ym e7,U,a,U,.inl {_,.inl c3},_,U,u,_,_,_,U,U,Ym a0,U,_,DGet.k (k:=(Ku g:aG)) c3,_,U,_,U,u,_,_,_,U,U,Ym a0,U,N,_,U,DPut.k (k:=(Ku x:aG)) a2<|few e2,?_}}};rw[y2];have J:=h1.put hm a2 x<|S.get (S.dict j) g;have q1:=O _ _ _ J.1;exact q1 (C.put e2 y3) (Y.trans J.2) λe=>e
 | say v=>
  exists _,U,u,_,_,_,U,U,Ym L,fY _ _;refine{_,U,U,_,U,bI<|bI {_,U,U,_,U,bI {_,U,U,_,U,bI {_,U,U,_,U,cK {_,U,rn,_,U,gK (Ku "log") h rfl,.inl {U,_,Yl h.lo},_,U,_,U,u,_,_,_,U,U,Ym L,U,s3,λt I=>?_}}}}};have h1:=h.new (o:=.tup [.str "say",.int n,.str v]) I;have g:=h1.say zb1;have q1:=q _ _ _ g.1;exact{_,_,_,U,U,h1.lo,iD (by rw[aK,<-h.li.lg.len];have:=C.b1;lia),q1 (C.say _ _) ((Yn I).trans g.2) λe=>e}
 | bring k=>
  exists _,U,u,_,_,_,U,U,Ym L,fY _ _;have hk:=ac k rfl;refine{_,U,U,_,U,bI<|bI {_,U,U,_,U,bI {_,U,U,_,U,bI {_,U,U,_,U,bI {_,U,U,_,U,cK {_,U,_,U,u,_,_,_,U,U,Ym L,U,rn,W.up,_,tr,k,W.G.ln k,U,h.run,U,h.lm.kp _ _ hW.up,hW.ok,hW.l12,hW.ln k hk,λla a7=>{_,U,U,la,_,U,Yl zb1,λlb a9=>?_}}}}}}};rw[<-zI];have nl:A.lo≠lb:=aQ (h.new a7).lo a9;have h1:=(h.new (o:=.lst<|(W.G.ln k).map Yf) a7).new (o:=.lst<|(W.G.ln k).reverse.map Yf) a9;have a5:upd (upd H la<|.lst<|(W.G.ln k).map Yf) lb (.lst<|(W.G.ln k).reverse.map Yf) lb\(.lst<|(W.G.ln k).reverse.map Yf):=zb1;have Y:Tup H (upd (upd H la<|.lst<|(W.G.ln k).map Yf) lb<|.lst<|(W.G.ln k).reverse.map Yf):=(Yn a7).trans<|Yn a9;generalize upd (upd H la<|.lst<|(W.G.ln k).map Yf) lb (.lst<|(W.G.ln k).reverse.map Yf)=H1 at h1 a5 Y;exists lb,U,{_,Yl a5};refine pW (xs:=(W.G.ln k).reverse.map Yf) (BA W H1 rn lb A ⟨dn,S,Kr⟩ [Kp<|.ref rn,Kp<|.int n,Kp<|.ref u,Kp<|.ref N,Kp<|.str "bring"] (W.G.ln k).reverse) {_,A.ls,U,h1,λ_ _ h=>h,a5} ?_ ?_ ?_
  .rintro i σ Hx hi ⟨_,_,_,_,_,hx⟩;exact Yl hx
  .rintro i x σ Hx hx ⟨y,ls,rfl,Z,tx,a3⟩;obtain⟨hi,_⟩:=ww4.mp hx;rw[aK]at hi;rw[bR,bJ hi]at hx;cases hx;have e2:(W.G.ln k).reverse.take (i+1)=(W.G.ln k).reverse.take i++[(W.G.ln k).reverse[i]]:=JQ hi;have ae:↑((W.G.ln k).reverse.take i)<=12:=by
    have:=hW.l2 k;rw[eS,iR];lia
   obtain⟨c1,c2,_,_,_,_⟩:=qZ ((W.G.ln k).reverse.take i) S;have a6:=C.b1;have ag:=C.b4;generalize (W.G.ln k).reverse[i]=x at e2;exists _,U,_,U,rn,_,U,gK (Ku "around") Z U,A.ar,_,U,DGet.k (k:=(Ku x:aG)) Z.ar,_,U;show if (!(aF (fW (((W.G.ln k).reverse.take i).foldl Rs.come S).hr)<|Ku x).isSome)=Ks then _ else _
   rw[pS];have B:((W.G.ln k).reverse.take<|i+1).foldl Rs.come S=(((W.G.ln k).reverse.take i).foldl Rs.come S).come x:=by rw[e2,AC];rfl
   generalize ((W.G.ln k).reverse.take i).foldl Rs.come S=Si at Z B c1 c2
   by_cases c:x∈Si.hr
   .rw[dP c];refine bI {_,ls,U,?_,tx,a3};rw[B,show Si.come x=Si from bF c];exact Z
   .rw[gE c];obtain⟨J,t2⟩:=Z.her c;refine cK {_,U,rn,_,U,gK (Ku "around") Z rfl,_,U,A.ar,_,U,DPut.k (k:=(Ku x:aG)) Z.ar<|iD (by unfold fW;rw[aK];show Si.hr.length<=_;lia),?_};refine{_,U,rn,_,U,gK (Ku "log") J rfl,.inl {U,_,Yl J.lo},_,U,s2,λt I=>?_};have g2:=(J.new (o:=.tup [.str "came",.str x]) I).say zb1;have ad:lb≠A.ar:=λz=>by rw[z,Z.ar]at a3;cases a3
    exists _,_,_,U,U,(J.new I).lo,iD (by show(ls.map Yg).length<=_;rw[aK,<-Z.li.lg.len];show Si.lg.length<=_;lia),_,ls++[t],rfl,?_,tx.trans<|t2.trans<|(Yn I).trans g2.2
    .rw[B,show Si.come x=(Si.her x).say [.str "came",.str x] from bC c];exact g2.1
    .have k1:∀o,upd Hx A.ar o lb\(.lst<|(W.G.ln k).reverse.map Yf):=λo=>by rw[aC ad];exact a3
     rw[aC<|bS nl,aC<|aQ (k1 _) I];exact k1 _
  .rintro σ Hx ⟨y,ls,rfl,Z,tx,a3⟩;rw[aK,AH]at Z;have q1:=q _ _ _ Z;exact q1 (C.come (by rw[iR];exact hW.l2 k) (λx hx=>hW.nm k x<|vm6.mp hx) _) (Y.trans tx) λe=>e
structure LR(W:Lw)(H:Hp)(rn:eH)(A A':La)(T:Ts)(ev:V)(H':Hp):Prop where
 a:LAt W H' rn A' T ev
 b:LB W A' T 0
 d:T.dn<=W.mo
 t:Tup H H'
 s:Sub A A'
abbrev dK(W:Lw)(c:Kk):LL->Kk->Ts->Ts:=mC W.G W.mo c
abbrev dL(W:Lw)(c m:Kk)(l:LL)(T:Ts):Ts:=eO W.G W.mo (dK W c) m l T
def GW{T:Ts}(h:(f {T with dn:=T.dn+1}).S.uw=T.S.uw):(T.row mo n f).S.uw=T.S.uw:=by
 unfold Ts.row
 split
 .rfl
 .split
  .rfl
  .exact h
def Gf{f:Ts->Ts}(h:∀T,(f T).S.uw=T.S.uw):∀(n:Kk)(T:Ts),(lY f n T).S.uw=T.S.uw:=λn=>Ln
 (λT=>U)
 (λn a T=>(a _).trans<|h T) n
def SE{f:LL->Kk->Ts->Ts}(h:∀l m T,(f l m T).S.uw=T.S.uw):(Ts.call P f n m x y k d as T).S.uw=T.S.uw:=by
 unfold Ts.call
 split
 .split
  .split
   .rfl
   .show(f _ _ _).S.uw-1=_;rw[h];show T.S.uw+1-1=_;lia
  .rfl
 .rfl
def oV{P:Pg}{f:LL->Kk->Ts->Ts}(h:∀l m T,(f l m T).S.uw=T.S.uw):∀(l:LL)(T:Ts),(eO P mo f m l T).S.uw=T.S.uw:=λl=>l.recOn
 (λT=>U)
 (λn a r t b T=>(b _).trans<|GW (IE P T.S [] n m r).2)
 (λn a x y k d o t b T=>(b _).trans<|GW<|SE h)
 (λn a p q t e i j T=>(j _).trans (GW (by
   show(if T.S.pick P=0 then eO P mo f m p (Ts.rd {T with dn:=T.dn+1}) else eO P mo f m q (Ts.rd {T with dn:=T.dn+1})).S.uw=_
   split
   .exact e _
   .exact i _)))
 (λn a p t e i T=>(i _).trans<|GW<|Gf (e) _ _)
def FU{P:Pg}:∀(c:Kk)(l:LL)(m:Kk)(T:Ts),(mC P mo c l m T).S.uw=T.S.uw:=λc=>Ln
 (λ_ _ _=>U)
 (λc a l m T=>oV (a) l T) c
inductive QA(N:Kk)(vs:Ki V)(H:Hp)(Q:VK):Prop
 | mk(W:Lw)(tr:Tr)(rn rl na:eH)(A:La)(T:Ts)(c m:Kk)(l:LL)(es:Ki eH)(ev:V)(h1:vs=[.ref rn,.ref rl,.ref na])(h2:LR W H rn A A T ev H)(h3:nF W tr)(h4:W.H0 rl\(.lst<|es.map Yg))(h5:yP W.Z W.H0 l es)(h6:(c:Kl)+T.S.uw=40)(h7:l.dep+6*c<N)(h8:A.δ[m]?\na)(h9:W.mo<=1000)
  (q:∀A' ev' H',LR W H rn A A' (dL W c m l T) ev' H'->Q .non H'):QA N vs H Q
def GY(N:Kk):Sp:=λvs H Q _=>QA N vs H Q
def YA:Kk->Sp
 | 0=>λ_ _ _ _=>Kn
 | N+1=>GY N
inductive pR(M:Kk)(vs:Ki V)(H:Hp)(Q:VK):Prop
 | mk(W:Lw)(tr:Tr)(rn ra na g:eH)(A:La)(T:Ts)(c n m:Kk)(x y k d:zZ)(as:Ki zZ)(h1:vs=[.ref rn,.int n,.ref ra,.ref na])(h2:LAt W H rn A T .non)(h3:nF W tr)(h4:H ra\.tup [.str "call",.str x,.str y,.str k,.str d,.ref g])(h5:H g\(.tup<|as.map Yf))(h6:(c:Kl)+T.S.uw=40)(h7:6*c<=M)(h8:A.δ[m]?\na)(h9:W.mo<=1000)(ha:LB W A T 1)(hb:T.dn<=W.mo)(hc:W.Z k (Kp d))
  (q:∀A' ev' H',LR W H rn A A' (T.call W.G (dK W c) n m x y k d as) ev' H'->Q .non H'):pR M vs H Q
def QU(M:Kk):Sp:=λvs H Q _=>pR M vs H Q
def sV:Kk->Sp
 | 0=>λ_ _ _ _=>Kn
 | N+1=>QU N
abbrev jF:Ki zZ:=["_law_run","_law_rows_here","_law_env"]
def LR.step{W:Lw}{A i f:La}(h:LR W H rn A i T ev H1)(g:LR W H1 rn i f T' ev' H2):LR W H rn A f T' ev' H2:=⟨g.a,g.b,g.d,h.t.trans g.t,λe=>g.s<|h.s e⟩
def LAt.frs{W:Lw}(h:LAt W H rn A T ev)(f:FrS [] H H'):LAt W H' rn A T ev:=⟨h.li.keep<|Yo f,h.le.keep<|Yo f,λp a=>f _ _ bB<|h.lm.at' p a,h.lm.nd,h.lm.fr,λb o e=>f _ _ bB<|h.lm.kp b o e⟩
theorem LB.rd{W:Lw}(b:LB W A T s):LB W A T.rd s:=⟨b.dk,b.b1,b.b2,b.b3,b.b4,b.hn,b.tn,b.u0,b.u1⟩
def LAt.pop{W:Lw}(h:LAt W H rn A T ev):LAt W (upd H A.ch<|.lst<|(W.G.ch.drop<|T.S.rd+1).map Yh) rn A T.rd ev/\Tup H (upd H A.ch<|.lst<|(W.G.ch.drop<|T.S.rd+1).map Yh):=by
 obtain⟨m,f⟩:=kJ (o':=.lst<|(W.G.ch.drop<|T.S.rd+1).map Yh) h.lm (i:=2) rfl λb z=>nomatch z;exact{{{h.li.lg.imp λ_ _ g=>f _ _ g,h.li.th.imp λ_ _ ⟨a,e,g⟩=>{a,e,f _ _ g},h.li.dq,h.li.dl},h.le.keep f,m},f}
def SK{W:Lw}{K:Fq}{u:St}{Q:VK}(h:LAt W H rn A T ev)(h0:u[0]?\(Kp<|.ref rn))(q:∀r,LAt W r rn A T.rd ev->Tup H r->Q (.int<|T.S.pick W.G) r):
  UL (iP<|dJ (sY K Ks) (nK (aI 0)<|tC<|.str "choices")<|jG bE) (wP K "list" ON (nK (aI 0)<|tC<|.str "choices")<|bG (tC<|.int 0) bE) (tC<|.int 0) u H Q:=by
 have i:∀{r:Hp},LAt W r rn A T ev->DGet r rn (.str "choices") (Kp<|.ref A.ch):=λg=>DGet.k (k:=(Ku "choices":aG)) g.run;refine{_,h0,rn,_,U,i h,bW _,λs f=>?_};have n:=h.new (o:=.lst []) f;exists A.ch,s,_,U,U,aQ h.ch f,Yl n.ch,Yl zb1,_,U;have j:Tup H (upd H s<|.lst []):=Yn f;cases e:W.G.ch.drop T.S.rd with
 | nil=>
  refine bI ?_;have a:W.G.ch.drop (T.S.rd+1)=[]:=by rw[<-Qp,e];rfl
  have d:T.S.pick W.G=0:=by unfold Rs.pick;rw[fG,Od<|List.drop_eq_nil_iff.mp e];rfl
  have g:LAt W (upd H s<|.lst []) rn A T.rd ev:=⟨⟨n.li.lg,n.li.th,n.li.dq,n.li.dl⟩,n.le,by
   have m:=n.lm;show MAt W.H0 ((rn,_)::(A.ar,_)::(A.ch,.lst<|(W.G.ch.drop<|T.S.rd+1).map Yh)::_) _;unfold lM at m;rw[e]at m;rw[a];exact m⟩
  have:=q _ g j;rw[d]at this;exact this
 | cons c w=>
  refine cK ?_;have a:W.G.ch.drop (T.S.rd+1)=w:=by rw[<-Qp,e];rfl
  have d:T.S.pick W.G=c:=by
   unfold Rs.pick;have:(W.G.ch.drop T.S.rd)[0]?\c:=by rw[e];rfl
   rw[Ki.getElem?_drop,Kk.add_zero]at this;rw[fG,this];rfl
  have b:=n.ch;obtain⟨g,l⟩:=n.pop;rw[a]at g l;rw[e]at b;have:=q _ g<|j.trans l;rw[d]at this;exact{_,h0,rn,_,U,i n,.inl {U,_,Yl b},A.ch,_,0,0,_,U,U,b,by decide,by decide,by unfold Oe;simp,U,this}
abbrev sP:Kd:=top 74
inductive tT(W:Lw)(n:Kk)(H:Hp)(rn rl na:eH)(A:La)(c m:Kk)(es:Ki eH)(Tf:Ts)(i:Kk)(σ:St)(Hx:Hp):Prop
 | mk(A':La)(T:Ts)(ev:V)(l:LL)(y1 y2 y3 y4 y5:Kj V)(h1:σ=[Kp<|.ref rn,Kp<|.ref rl,Kp<|.ref na,y1,y2,y3,y4,y5])(h2:LR W H rn A A' T ev Hx)(h3:yP W.Z W.H0 l (es.drop i))(h4:l.dep+6*c<n)(h5:dL W c m l T=Tf)(h6:(c:Kl)+T.S.uw=40):tT W n H rn rl na A c m es Tf i σ Hx
inductive CP(W:Lw)(H:Hp)(rn rl na:eH)(A:La)(m:Kk)(vs:Ki (Kj V))(f:Ts->Ts)(u:Kl)(c:Kk)(Tf:Ts)(i:Kk)(σ:St)(Hx:Hp):Prop
 | mk(A':La)(T:Ts)(ev:V)(y:Kj V)(h1:σ=[Kp<|.ref rn,Kp<|.ref rl,Kp<|.ref na]++vs++[y])(h2:LR W H rn A A' T ev Hx)(h3:lY f (c-i) T=Tf)(h4:T.S.uw=u):CP W H rn rl na A m vs f u c Tf i σ Hx
def HG{T:Ts}(h:T.e=Kr)(c:¬mo<=T.dn):T.row mo n f=f {T with dn:=T.dn+1}:=by unfold Ts.row;rw[h];exact bC c
def Gu{T:Ts}(h:T.e=Kr)(c:mo<=T.dn):T.row mo n f=T.ends "long" n:=by unfold Ts.row;rw[h];exact bF c
theorem Enm.hd{g:LL->Kk->Ts->Ts}(h:yP Z H l (e::es))(G:Pg)(mo m:Kk)(b:∀l m T,(g l m T).S.uw=T.S.uw):∃(n:Kk)(a p:eH)(w:zZ)(rest:Ki V)(t:LL)(f:Ts->Ts),H e\.tup [.int n,.ref a,.ref p]/\H a\(.tup<|.str w::rest)/\(∀T,eO G mo g m l T=eO G mo g m t (T.row mo n f))/\∀T:Ts,(T.row mo n f).S.uw=T.S.uw:=by
 cases h with
 | @op n _ _ _ r _ _ h i E s=>exact{_,_,_,_,_,_,_,h,(Rw.hd r).choose_spec▸i,λT=>U,λT=>oV (P:=G) b (.op n 0 r .nil) T}
 | @call n _ _ _ _ x y k d o _ _ h i _ A s=>exact{_,_,_,_,_,_,_,h,i,λT=>U,λT=>oV (P:=G) b (.call n 0 x y k d o .nil) T}
 | @either n _ _ _ _ _ _ p q _ _ _ _ h u i j C _ z B s=>exact{_,_,_,_,_,_,_,h,i,λT=>U,λT=>oV (P:=G) b (.either n 0 p q .nil) T}
 | @again n _ _ _ _ _ p _ _ _ h u i j _ z s=>exact{_,_,_,_,_,_,_,h,i,λT=>U,λT=>oV (P:=G) b (.again n 0 p .nil) T}
def xb9:bX ["_law_run","_law_rows_here","_law_env","_law_number","_law_row_here","_law_lots","_law_chosen","_law_turn"] jF (bP sP):=cF
def VC{n k:Kk}(F:Fun K "_law_do" "_law_do" sP f fd)(PL:aV P w K mg base k "_law_do_plain" hJ ND)(DO:aV P w K mg base k "_law_do" jF (YA n))(DC:aV P w K mg base k "_law_do_call" hJ (sV n))(mi:mg "int"=Kr)(mr:mg "range"=Kr)(mn:mg "min"=Kr):aS P w K mg base bO (k+1) f fd jF (GY n):=by
 refine F.ok xb9 (λvs H Q E h=>?_) λaj A outer s H vs Q E hr h=>?_
 .obtain⟨W,tr,rn,rl,M,A,T,c,m,l,es,ev,rfl,_⟩:=h;rfl
 obtain⟨W,tr,rn,rl,M,A,T,u,m,l,es,ev,rfl,h,hW,ab,ai,ah,ae,hm,a8,q⟩:=h;have hu:=eN hr;exists _,aR (eU dU rfl (iJ<|pv 1) (dS (n:=3) rfl<|bK (gL 3 xb9.nd)<|bK (gL 4 xb9.nd)<|bK (gL 5 xb9.nd) dX) (aJ (cG (gO<|rH<|bU hu (pv 0) aX λ_ _=>U) (aR QM) cS) (aJ (cG (cC EY (bU hu (pv 0) aX λ_ _=>U) aO<|cI _) (aJ (eK hu (pv 0) aX (bZ<|aA aX<|aA (pv 3) aE) U)<|aR QM) cS) (aJ (eK hu (pv 0) aX (cE kP (bU hu (pv 0) aX λ_ _=>U) aO) U) (aR (cG (cC eA (eT (pv 4) aO) aX<|cI _) (aR<|dH<|bD DC hr rfl<|aA (pv 0)<|aA (pv 3)<|aA (pv 4)<|aA (pv 2) aE) (aR (cG (PW.pt<|NE (cC eA (eT (pv 4) aO) aX<|cI _)<|JN<|cC eA (eT (pv 4) aO) aX<|cI _) (aJ (sL 6 xb9.nd<|BG (cC (GN<|oT hu) (bU hu (pv 0) aX λ_ _=>U) (cU aE)<|cI _) (eW eQ Nm Nl RS (bU hu (pv 0) aX λ_ _=>U)<|aA aO aE) aO) (aR (cG (cC eA (eT (pv 4) aO) aX<|cI _) (aR<|dH<|bD DO hr rfl<|aA (pv 0)<|aA (eI (pv 5)<|fF FE rfl mi (by rfl')<|aA (mY BF (pv 6) aO<|cI _) aE)<|aA (pv 2) aE)
     (aR (eU dU rfl (mX rfl mr<|aA (eM (NY rfl) rfl mn (by rfl')<|aA aO<|aA (pv 6) aE) aE) (gL 7 xb9.nd)
      (aR<|dH<|bD DO hr rfl<|aA (pv 0)<|aA (eI (pv 5) aO)<|aA (pv 2) aE))))))
    (aR<|dH<|bD PL hr rfl<|aA (pv 0)<|aA (pv 3)<|aA (pv 4)<|aA (pv 2) aE)))))))))
 ac_rfl
 have s2:2<=sizeLine:=cX (bM<|by decide);have gK:∀{H':Hp}{I:La}{T':Ts}{ev' v:V}(B:aG),LAt W H' rn I T' ev'->aF (lF W I T' ev') B\v->DGet H' rn (kV B) (Kp v):=λB g e=>by rw[<-e];exact DGet.k g.run
 have ac:∀{I:La}{T':Ts}{ev':V},↑(lF W I T' ev')<sizeLine:=λ{_ _ _}=>bM (by show 10<=1000;decide)
 exists _,U,rl,U,{_,Yl<|h.a.lm.kp _ _ ab};refine pW (xs:=es.map Yg) (tT W n H rn rl M A u m es<|dL W u m l T) {A,T,ev,l,_,_,_,_,_,U,h,by rw[wY];exact ai,ae,U,ah} ?_ ?_ ?_
 .rintro i σ Hx hi ⟨_,_,_,_,_,_,_,_,_,_,hx,_⟩;exact Yl<|hx.a.lm.kp _ _ ab
 .rintro i x σ Hx hx ⟨C,o,af,l1,y1,y2,y3,y4,y5,rfl,h1,hE,a2,hf,a1⟩;rw[bR]at hx;obtain⟨e,he,rfl⟩:=wx3.mp hx;obtain⟨hi,he⟩:=ww4.mp he;rw[rL hi,he]at hE;obtain⟨N,a,p,wd,rest,t,fr,g1,J,g3,g4⟩:=Enm.hd hE W.G W.mo m<|FU (P:=W.G) (mo:=W.mo) u;have kp:=h1.a.lm.kp;exists e,_,U,Ym<|kp _ _ g1,U,_,_,U,_,_,U,_,_,U,U;have a4:=hf;rw[show dL W u m l1 o=_ from g3 o]at hf;have a5:=h1.a.le;cases hTe:o.e with
  | some z=>
   rw[EQ hTe,EJ _ _ hTe]at hf;rw[hTe]at a5;cases a5 with
   | «end» _=>
    refine{_,U,rn,_,U,gK (Ku "end") h1.a rfl,_,U,cK ?_};exact q _ _ _<|hf▸h1
  | none=>
   rw[hTe]at a5;cases a5;refine{_,U,rn,_,U,gK (Ku "end") h1.a rfl,_,U,bI ?_};exists _,U,rn,_,U,gK (Ku "left") h1.a U,_,_,U,U,_,U;refine bH (λc=>?_) λc=>?_
   .have c:W.mo<=o.dn:=by have:=cT c;lia
    refine{_,U,s2,λt' ht=>{_,U,rn,_,U,DPut.k (k:=(Ku "end":aG)) (h1.a.new ht).run ac,?_}};obtain⟨O,k2⟩:=h1.a.endw ht "long" N;rw[Gu hTe c,EJ (z:=("long",N)) _ _ rfl]at hf;exact q C _ _ (by rw[<-hf];exact{O,h1.b.ends _ _,h1.d,h1.t.trans k2,h1.s})
   .have c:¬W.mo<=o.dn:=λz=>c (dP ∅)
    exists _,U,rn,_,U,gK (Ku "left") h1.a U,_,_,U,U,_,U,rn,_,U,DPut.k (k:=(Ku "left":aG)) h1.a.run ac;have e1:aL (lF W C o .non) (Ku "left") (.int<|(W.mo:Kl)-(o.dn:Kl)-1)=lF W C {o with dn:=o.dn+1} .non:=by
     rw[show(W.mo:Kl)-(o.dn:Kl)-1=(W.mo:Kl)-((o.dn+1:Kk):Kl) by lia];rfl
    rw[e1];obtain⟨O,k2⟩:=h1.a.num (ev':=.non) {o with dn:=o.dn+1} rfl h1.a.le;have a9:=h1.b.row;generalize upd Hx rn (.dK<|lF W C {o with dn:=o.dn+1} .non)=H2 at O k2;have X:=O.lm.kp;exists _,U,a,_,_,_,U,U,Ym<|X _ _ J,fY _ _,U,_,U;have h2:LR W H rn A C {o with dn:=o.dn+1} .non H2:=⟨O,a9.less,by show o.dn+1<=W.mo;lia,h1.t.trans k2,h1.s⟩;cases hE with
    | @op n' a' _ p' r t' _ hh hr' hb' hs'=>
     cases g1.symm.trans hh;have hr0:=hr';obtain⟨aa,er⟩:=r.hd;rw[er]at hr';cases J.symm.trans hr';have hw:r.wd≠"call"/\r.wd≠"either"/\r.wd≠"again":=by cases r <;> (simp only[Rw.wd];rfl')
     refine bH (λz=>absurd (Yf.inj<|cT z) hw.1) λ_=>?_;refine{_,U,a,_,_,_,U,U,Ym<|X _ _ J,fY _ _,U,_,U,bH (λz=>absurd (Yf.inj<|cT z) hw.2.1) λ_=>{_,U,a,_,_,_,U,U,Ym<|X _ _ J,fY _ _,U,_,U,bH (λz=>absurd (Yf.inj<|cT z) hw.2.2) λ_=>?_}};refine{_,U,_,U,_,U,_,U,W,tr,rn,a,M,C,_,N,m,r,U,O,hW,X _ _ hr0,h1.s hm,a9,by show o.dn+1<=10000;lia,λk e=>hW.z0 k<|hb' k e,λI ev' H' ha ad ht hs=>?_};exists I,_,ev',t',_,_,_,_,_,U,{ha,ad,by show o.dn+1<=W.mo;lia,h2.t.trans ht,λe=>hs<|h1.s e},hs',a2,?_
     .rw[<-a4];exact cH _ (HG hTe c).symm
     .rw[<-a1];exact cH _ (IE W.G o.S [] N m r).2
    | @call n' a' _ p' g x y kd d as t' _ hh hr' hg hz hs'=>
     cases g1.symm.trans hh;cases J.symm.trans hr';refine cK ?_;have a7:t'.dep+6*u<n:=a2;cases n with
     | zero=>lia
     | succ n=>
      refine{_,U,_,U,_,U,_,U,W,tr,rn,a,M,g,C,_,u,N,m,x,y,kd,d,as,U,O,hW,X _ _ hr',X _ _ hg,a1,∅,h1.s hm,a8,a9,h2.d,hz,λI ev' H' g'=>?_};exists I,_,ev',t',_,_,_,_,_,U,h2.step g',hs',a7,?_
      .rw[<-a4];exact cH _ (HG hTe c).symm
      .rw[<-a1];exact cH _<|SE<|FU u
    | @either n' a' _ p' l1' l2' v q1 q2 t' e1' e2' _ hh hp hr' hl1 hl2 _ s1 s2' hs'=>
     cases g1.symm.trans hh;cases J.symm.trans hr';refine bI {_,U,a,_,_,_,U,U,Ym<|X _ _ J,fY _ _,U,_,U,cK<|cK ?_};refine SK O rfl λH3 k3 t3=>?_;have a3:=k3.lm.kp;have h3:LR W H rn A C (Ts.rd {o with dn:=o.dn+1}) .non H3:=⟨k3,h2.b.rd,h2.d,h2.t.trans t3,h1.s⟩;refine{_,U,a,_,_,_,U,U,Ym<|a3 _ _ J,fY _ _,U,_,U,cK ?_};have a7:max (max q1.dep q2.dep+1) t'.dep+6*u<n:=a2;cases n with
     | zero=>lia
     | succ n=>
      have sq:=Yl (K:=K)<|a3 _ _ hp;have B:∀(lx:eH)(L:LL)(ex:Ki eH),W.H0 lx\(.lst<|ex.map Yg)->yP W.Z W.H0 L ex->L.dep+6*u<n->dL W u m L (Ts.rd {o with dn:=o.dn+1})=(if o.S.pick W.G=0 then dL W u m q1 (Ts.rd {o with dn:=o.dn+1}) else dL W u m q2 (Ts.rd {o with dn:=o.dn+1}))->QA n [.ref rn,.ref lx,.ref M] H3 λ_ H'=>tT W (n+1) H rn rl M A u m es (dL W u m l T) (i+1) [Kp<|.ref rn,Kp<|.ref rl,Kp<|.ref M,Kp<|.int N,Kp<|.ref a,Kp<|.ref p,Kp<|.int<|o.S.pick W.G,y5] H':=λlx L ex g4 g5 g6 g7=>by
       refine{W,tr,rn,lx,M,C,_,u,m,L,ex,.non,U,{k3,h3.b,h3.d,λ_ _ e=>e,λe=>e},hW,g4,g5,a1,g6,h1.s hm,a8,λI ev' H' g=>?_};exists I,_,ev',t',_,_,_,_,_,U,h3.step g,hs',∅,?_
       .rw[<-a4,g7];show dL W u m t' _=dL W u m t' (o.row W.mo N _);rw[HG hTe c]
       .rw[<-a1];exact cH _<|oV (P:=W.G) (FU u) L _
      by_cases c0:o.S.pick W.G=0
      .refine⟨_,rfl,_,rfl,_,rfl,rfl,.inr ⟨_,rfl,p,_,_,.ref l1',rfl,rfl,sq,?_,_,rfl,B l1' q1 e1' hl1 s1 ∅<|by rw[bF c0]⟩⟩;show eE _ (if (!decide (Yh (o.S.pick W.G)=Yh 0))=Ks then 1 else 0)=_;rw[c0];rfl
      .refine⟨_,rfl,_,rfl,_,rfl,rfl,.inr ⟨_,rfl,p,_,_,.ref l2',rfl,rfl,sq,?_,_,rfl,B l2' q2 e2' hl2 s2' ∅<|by rw[bC c0]⟩⟩;show eE _ (if (!decide (Yh (o.S.pick W.G)=Yh 0))=Ks then 1 else 0)=_;rw[gE λz=>c0<|Yh.inj z];rfl
    | @again n' a' _ p' l1' v q1 t' e1' _ hh hp hr' hl1 _ s1 hs'=>
     cases g1.symm.trans hh;cases J.symm.trans hr';refine bI {_,U,a,_,_,_,U,U,Ym<|X _ _ J,fY _ _,U,_,U,bI {_,U,a,_,_,_,U,U,Ym<|X _ _ J,fY _ _,U,_,U,cK ?_}};refine SK O rfl λH3 k3 t3=>?_;have a3:=k3.lm.kp;have h3:LR W H rn A C (Ts.rd {o with dn:=o.dn+1}) .non H3:=⟨k3,h2.b.rd,h2.d,h2.t.trans t3,h1.s⟩;refine{_,U,a,_,_,_,U,U,Ym<|a3 _ _ J,fY _ _,U,_,U,bI ?_};have a7:max (q1.dep+1) t'.dep+6*u<n:=a2;cases n with
     | zero=>lia
     | succ n=>
      have ak:-100<=o.S.pick W.G:=by
       unfold Rs.pick;rw[fG];cases z:W.G.ch[o.S.rd]? with
       | none=>decide
       | some c=>exact hW.ch c<|dC z
      have e9:(if o.S.pick W.G<9 then o.S.pick W.G else 9)=min (o.S.pick W.G) 9:=by rw[Kl.min_def];split <;> split <;> lia
      exists _,U,_,_,U,_,U,?_,?_
      .rw[e9];lia
      .rw[e9];lia
      rw[e9];refine uB (lo:=0) (n:=(min (o.S.pick W.G) 9).toNat) (CP W H rn rl M A m [Kp<|.int N,Kp<|.ref a,Kp<|.ref p,Kp<|.int<|o.S.pick W.G] (dL W u m q1) o.S.uw (min (o.S.pick W.G) 9).toNat<|lY (dL W u m q1) (min (o.S.pick W.G) 9).toNat<|Ts.rd {o with dn:=o.dn+1}) {C,_,.non,_,U,h3,U,U} ?_ ?_
      .rintro j σ Hy hj ⟨A4,T4,a6,y,rfl,Y,h5,h6⟩;have ag:=Y.a.lm.kp;refine{_,U,_,U,p,_,_,.ref l1',U,U,Yl<|ag _ _ hp,U,_,U,W,tr,rn,l1',M,A4,T4,u,m,q1,e1',a6,U,{Y.a,Y.b,Y.d,λ_ _ e=>e,λe=>e},hW,hl1,s1,by rw[h6];exact a1,∅,Y.s hm,a8,λI ev' H' g=>?_};refine{I,_,ev',_,U,Y.step g,?_,(oV (P:=W.G) (FU u) q1 _).trans h6};rw[<-h5,show(min (o.S.pick W.G) 9).toNat-j=(min (o.S.pick W.G) 9).toNat-(j+1)+1 by lia];rfl
      .rintro σ Hy ⟨A4,T4,a6,y,rfl,Y,h5,h6⟩;rw[qV]at h5;refine{A4,T4,a6,t',_,_,_,_,_,U,Y,hs',∅,?_,by rw[h6];exact a1};rw[<-a4,show T4=_ from h5];show dL W u m t' _=dL W u m t' (o.row W.mo N _);rw[HG hTe c]
 .rintro σ Hx ⟨C,o,af,l1,y1,y2,y3,y4,y5,rfl,h1,hE,a2,hf,a1⟩;rw[aK,yX]at hE;cases hE;exact q C _ _ (by rw[<-hf];exact h1)
abbrev wM:Kd:=top 69
abbrev jH:Ki zZ:=["_law_rows_here","_law_count"]
def Nw(H:Hp)(b:eH):Prop:=H b=Kr
inductive pI(n:Kk)(vs:Ki V)(H:Hp)(Q:VK):Prop
 | mk(Z:zZ->Kj zZ->Prop)(rl ct:eH)(k k':Kk)(rs:Ki eH)(L:LL)(h1:vs=[.ref rl,.ref ct])(h2:H rl\(.tup<|rs.map Yg))(h3:Ly Z H n k rs L k')(h4:H ct\.lst [.int k])(h7:k'<=1000000)
  (q:∀(l:eH)(es:Ki eH)(H':Hp),FrS [ct] H H'->H' ct\.lst [.int k']->H l=Kr->H' l\(.lst<|es.map Yg)->Enm (Nw H) Z H' L es->↑es=↑rs->Q (.ref l) H'):pI n vs H Q
def sM(n:Kk):Sp:=λvs H Q _=>pI n vs H Q
def XM:Kk->Sp
 | 0=>λ_ _ _ _=>Kn
 | n+1=>sM n
inductive TN(Z:zZ->Kj zZ->Prop)(n:Kk)(H:Hp)(rl ct fo:eH)(rs:Ki eH)(L:LL)(k' i:Kk)(σ:St)(Hx:Hp):Prop
 | mk(y1 y2 y3:Kj V)(k:Kk)(es:Ki eH)(L1 L2:LL)(h1:σ=[Kp<|.ref rl,Kp<|.ref ct,Kp<|.ref fo,y1,y2,y3])(h2:FrS [ct] H Hx)(h3:Hx ct\.lst [.int k])(h4:Hx fo\(.lst<|es.map Yg))(h5:↑es=i)(h6:L=L1.app L2)(h7:Ly Z Hx n k (rs.drop i) L2 k')(h8:Enm (λb=>H b=Kr/\b≠fo) Z Hx L1 es):TN Z n H rl ct fo rs L k' i σ Hx
inductive UR(Z:zZ->Kj zZ->Prop)(k:Kk)(H1 H2:Hp)(ct Dl:eH)(ls:Ki Lt)(j:Kk)(σ:St)(Hx:Hp):Prop
 | mk(y:Kj V)(zs:Ki eH)(kj:Kk)(h1:σ=[y,Kp<|.ref ct])(h2:FrS [ct] H1 Hx)(h3:Tup H2 Hx)(h4:Hx ct\.lst [.int kj])(h5:kj=sR k ls j)(h6:Hx Dl\(.lst<|zs.map Yg))(h7:A2 (λ(z:Lt) t=>∃es:Ki eH,Hx t\(.lst<|es.map Yg)/\(H1 t=Kr/\t≠Dl)/\Enm (λb=>H1 b=Kr/\b≠Dl) Z Hx z.2.2.1 es) (ls.take j) zs):UR Z k H1 H2 ct Dl ls j σ Hx
def FrS.o1(f:FrS [a] H H')(h:H' a\o)(hp:H' p=Kr):H p=none:=f.old (λb d=>by
 have:b=a:=by simpa using d
 subst this;exact{_,h}) hp
def xj4:bX ["_law_rows_here","_law_count","_law_found","_law_row_here","_law_number","_law_lots"] jH (bP wM):=cF
def YD{n k:Kk}(F:Fun K "_law_marked" "_law_marked" wM f fd)(MK:aV P w K mg base k "_law_marked" jH (XM n)):aS P w K mg base bO (k+1) f fd jH (sM n):=by
 refine F.ok xj4 (λvs H Q E h=>?_) λbr A outer s H vs Q E hr h=>?_
 .obtain⟨Z,rl,ct,k,k',rs,L,rfl,_⟩:=h;rfl
 obtain⟨Z,rl,ct,k0,k',rs,L,rfl,ba,hL,ac,bu,q⟩:=h;have hu:=eN hr;have bl:(["_law_lot","_law_count"]:Ki zZ).Nodup:=by rfl'
 exists _,aJ (sL 2 xj4.nd<|cU aE)
  (aJ (eU dU rfl (iC<|pv 0) (gL 3 xj4.nd) (aJ (sL 4 xj4.nd<|eI (pv 1) aO) (aJ (hY (cE jB (eI (pv 1) aO) aO)<|wT (pv 1) aO vA) (aJ (sL 5 xj4.nd<|MD hu (GJ (fM aX (jY NK (pv 3) (jS aO) kT)<|fM aX (jY NK (pv 3) (jS aO) kT) FJ) rfl rfl (by intro z;cases z)<|by decide) (eT (pv 3) aO) (bZ aE) ⟨rfl,rfl,rfl,rfl⟩)
   (aR<|dH<|eW eQ fU fS fL (pv 2)<|aA (bZ<|aA (pv 4)<|aA (pv 3)<|aA (iQ (N':=["_law_lot","_law_count"]) (src:=[Kr,Kp 1]) rfl fJ (iC<|pv 5) (g:=cJ 0) (λ_ _ _ _=>gL 0 bl) (λ_ _ _ _=>gW) (te:=gD (XM n) [] E0<|bG (aI 0)<|bG (aI 1) bE) λ_ _ _ _=>bD MK hr rfl<|aA (pv 0)<|aA (pv 1) aE) aE) aE)))))
  (aR<|bQ<|pv 2))
 ac_rfl
 have s3:3<=sizeLine:=cX (bM<|by decide);refine{bW _,λfo a8=>?_};have ad:ct≠fo:=aQ ac a8;have bc:Tup H (upd H fo<|.lst []):=Yn a8;exists _,U,rl,U,{_,Ym<|bc _ _ ba};refine lU (xs:=rs.map Yg) (TN Z n H rl ct fo rs L k') {_,_,_,k0,[],.nil,L,U,Yj a8,by rw[aC ad];exact ac,zb1,U,U,by rw[wY];exact hL.keep bc,.nil} ?_ ?_ ?_
 .rintro i σ B hi ⟨_,_,_,_,_,_,_,_,fr,_⟩;exact Ym<|fr.tup1 ac _ _ ba
 .rintro i x σ B hx ⟨y1,y2,y3,k,es,L1,L2,rfl,fr,a4,ap,ai,rfl,a3,as⟩;rw[bR,wx3]at hx;obtain⟨a,ha,rfl⟩:=hx;obtain⟨hi,rfl⟩:=ww4.mp ha;rw[rL hi]at a3;obtain⟨w,rest,ls,k1,Lr,M,h1,h2,h3,h4,h5,h6,rfl,h8,h9,be⟩:=a3.mhd;generalize rs[i]=a at h1 h8;exists _,U,ct,_,_,_,U,U,Yl a4,U;exists _,U,ct,_,_,_,U,U,Yl a4,U,_,_,U,U,_,U,ct,_,0,0,U,U,a4,U;have b0:FrS [ct] H (upd B ct<|.lst [.int ((k+1:Kk):Kl)]):=fr.put'<|.head _;have au:upd B ct (.lst [.int ((k+1:Kk):Kl)]) ct\.lst [.int ((k+1:Kk):Kl)]:=zb1;have aq:Tup B (upd B ct<|.lst [.int ((k+1:Kk):Kl)]):=Tup.lst a4;have b8:upd B ct (.lst [.int ((k+1:Kk):Kl)]) fo\(.lst<|es.map Yg):=by rw[aC<|bS ad];exact ap
  have b9:FrS [ct] B (upd B ct<|.lst [.int ((k+1:Kk):Kl)]):=Yk<|.head _;have b5:∀{G:Hp->Prop},G (upd B ct<|.lst [.int ((k+1:Kk):Kl)])->G (upd B ct<|.lst<|[Yh k].set 0<|Yh<|(k:Kl)+1):=λh=>h;refine b5 ?_;clear b5;generalize upd B ct (.lst [.int ((k+1:Kk):Kl)])=T at b0 au aq b8 b9;have b7:=aq _ _ h1;intro p hp;have cond:¬(HT.sIx ↑(Yf w::rest) 0 (Kp 1)=0/\HT.sIx ↑(Yf w::rest) ↑(Yf w::rest) Kr=↑(Yf w::rest)):=by
   intro z;have:=z.1;unfold HT.sIx at this;simp at this
  have b4:=(Yn (o:=.dK []) hp) _ _ b7;refine{_,U,_,U,a,_,U,Ym b4,cond,λI ae=>?_};rw[sH];have ax:=(Yn (o:=.tup rest) ae) _ _ b4;refine{_,U,_,U,a,_,U,Ym ax,cond,λC ah=>?_};rw[sH];have bw:=(Yn (o:=.tup rest) ah) _ _ ax;have aj:upd (upd (upd T p<|.dK []) I<|.tup rest) C (.tup rest) p\.dK []:=by rw[aC<|aQ (by rw[aC<|aQ zb1 ae];exact zb1) ah,aC<|aQ zb1 ae];exact zb1
  refine{aj,[(Ku "either",.ref I),(Ku "again",.ref C)],U,by show 2<=15;decide,?_};have f5:FrS [] T (upd (upd (upd (upd T p<|.dK []) I<|.tup rest) C<|.tup rest) p<|.dK<|cM [] [(Ku "either",.ref I),(Ku "again",.ref C)]):=(((Yj hp).trans<|Yj ae).trans<|Yj ah).put hp;have an:upd (upd (upd (upd T p<|.dK []) I<|.tup rest) C<|.tup rest) p (.dK<|cM [] [(Ku "either",.ref I),(Ku "again",.ref C)]) p\.dK [(Ku "either",.ref I),(Ku "again",.ref C)]:=zb1;have g1:upd (upd (upd (upd T p<|.dK []) I<|.tup rest) C<|.tup rest) p (.dK<|cM [] [(Ku "either",.ref I),(Ku "again",.ref C)]) I\.tup rest:=(Tup.dk aj) _ _<|(Yn ah) _ _ zb1;have g2:upd (upd (upd (upd T p<|.dK []) I<|.tup rest) C<|.tup rest) p (.dK<|cM [] [(Ku "either",.ref I),(Ku "again",.ref C)]) C\.tup rest:=(Tup.dk aj) _ _ zb1;generalize upd (upd (upd (upd T p<|.dK []) I<|.tup rest) C<|.tup rest) p (.dK<|cM [] [(Ku "either",.ref I),(Ku "again",.ref C)])=H5 at f5 an g1 g2;refine{p,U,.inl {_,.inl an},_,U,a,_,_,_,U,U,Ym<|f5 _ _ bB b7,fY _ _,bW _,λe0 aa=>{_,DGet.k (k:=(Ku w:aG))<|(Yj (S:=[]) aa) _ _ bB an,?_}};have f6:FrS [] T (upd H5 e0<|.tup []):=f5.trans<|Yj aa;obtain⟨tl,bf,ab⟩:∃tl,(aF [((Ku "either":aG),Yg I),(Ku "again",.ref C)]<|Ku w).getD (.ref e0)=.ref tl/\upd H5 e0 (.tup []) tl\(.tup<|iX w rest):=by
   unfold iX
   by_cases c1:w="either"
   .subst c1;exact{I,U,by rw[bF<|.inl rfl];exact(Yn aa) _ _ g1}
   .by_cases c2:w="again"
    .subst c2;exact{C,U,by rw[bF<|.inr rfl];exact(Yn aa) _ _ g2}
    .refine⟨e0,?_,by rw[bC λz=>z.elim c1 c2];exact zb1⟩;unfold aF;rw[Ro (by simpa using λz=>c1 z.symm),Ro<|by simpa using λz=>c2 z.symm];rfl
  rw[bf];generalize upd H5 e0 (.tup [])=O at f6 ab;rw[h2]at ab;have ag:=f6 _ _ bB au;have a7:=f6 _ _ bB b8;have bg:=aq.trans<|Yo f6;refine{_,U,.inl {U,_,Yl a7},_,U,_,U,_,U,tl,U,{_,Ym ab},λd X=>?_};have ar:ct≠d:=aQ ag X;have bb:fo≠d:=aQ a7 X;have a6:FrS [ct] H O:=b0.trans<|f6.mono λ_ h=>absurd h bB;have b6:Tup B (upd O d<|.lst []):=bg.trans<|Yn X;have bp:=(Yn (o:=.lst []) X) _ _ ab;refine ED (xs:=ls.map λz=>Yg z.1) (UR Z k O (upd O d<|.lst []) ct d ls) {_,[],k+1,U,Yj X,λ_ _ h=>h,by rw[aC ar];exact ag,U,zb1,.nil} ?_ ?_ ?_
  .rintro j σ N hj ⟨_,_,_,_,_,ty,_⟩;exact Ym<|ty _ _ bp
  .rintro j x σ N hx ⟨y,zs,kj,rfl,fy,ty,W,af,a5,Y⟩;rw[bR,wx3]at hx;obtain⟨z,hz,rfl⟩:=hx;have b3:=dC hz;obtain⟨z1,n',rfl,z2⟩:=h3 z b3;have b2:=b6.trans ty;have bq:kj=z.2.2.2.1:=af.trans (h4 j z hz).symm;have bv:=be z b3;refine{_,U,_,U,Z,z.1,ct,kj,z.2.2.2.2,z.2.1,z.2.2.1,U,b2 _ _ z1,by rw[bq];exact z2.keep b2,W,∅,λl ay Hz fz bh az bj bi _=>?_};have av:=fz _ _ (by simpa using bS ar) a5;have aw:=fz.tup1 W;have ao:Tup Hz (upd Hz d<|.lst<|zs.map Yg++[.ref l]):=Tup.lst av;have bt:↑zs<=2:=by rw[<-Y.len,eS];lia
   have fl:FrS [ct,d] N (upd Hz d<|.lst<|zs.map Yg++[.ref l]):=(fz.mono λb h=>by rw[wx1.mp h];exact .head _).trans<|Yk<|.tail _<|.head _;have J:∀b,N b=Kr->b∉[ct,d]/\O b=Kr/\b≠d:=λb m=>by
    have h1:b≠ct:=bS<|aQ W m;have h2:b≠d:=bS<|aQ a5 m;exact{by simp[h1,h2],fy.o1 W m,h2}
   have oB:∀b,O b=Kr/\b≠d->b∉[ct,d]/\O b=Kr/\b≠d:=λb m=>by
    have h1:b≠ct:=bS<|aQ ag m.1;exact{by simp[h1,m.2],m}
   have bn:upd Hz d (.lst<|zs.map Yg++[.ref l]) l\(.lst<|ay.map Yg):=by rw[aC (J l az).2.2];exact bj
   exists _,av,bM (by rw[aK];lia),_,zs++[l],z.2.2.2.2,rfl,(fy.trans fz).put X,(ty.trans aw).trans ao,by rw[aC ar];exact bh,?_,by rw[zb1,bT];rfl
   .unfold sR;rw[bC ∅,IH,hz];rfl
   .rw[eY,hz];refine A2.snoc (Y.imp λu t h=>?_) {ay,bn,(J l az).2,bi.keep ao (Yk (S:=[d])<|.head _) λb m=>{by simpa using (J b m).2.2,(J b m).2}};obtain⟨e1,x1,x2,x3⟩:=h;exact{e1,fl _ _ (oB _ x2).1 x1,x2,x3.keep (aw.trans ao) fl oB}
  .rintro σ N ⟨y,zs,kj,rfl,fy,ty,W,af,a5,Y⟩;rw[aK]at af Y;rw[AH]at Y;have bo:kj=k1:=by
    rw[af,h5];unfold sR;cases hls:ls with
    | nil=>rfl
    | cons u v=>
     rw[bC (by rw[cN];exact Kk.succ_ne_zero _),JZ];cases z:(u::v)[↑(u::v)-1]? with
     | none=>rw[Ki.getElem?_eq_none_iff,cN]at z;lia
     | some r=>rfl
   refine{s3,λe he=>?_};have bs:upd O d (.lst []) fo\(.lst<|es.map Yg):=by rw[aC bb];exact a7
   have a9:=fy _ _ (by simpa using bS ad) a7;have ak:upd N e (.tup [.int k,.ref a,.ref d]) fo\(.lst<|es.map Yg):=by rw[aC<|aQ a9 he];exact a9
   have bx:i<=↑rs:=cX hi;have bk:=hL.rl;exists fo,_,_,U,U,ak,FZ (by rw[aK];lia);have fH:FrS [ct] H (upd (upd N e<|.tup [.int k,.ref a,.ref d]) fo<|.lst<|es.map Yg++[.ref e]):=((a6.trans fy).trans<|Yj he).put a8;have am:Tup B (upd (upd N e<|.tup [.int k,.ref a,.ref d]) fo<|.lst<|es.map Yg++[.ref e]):=((b6.trans ty).trans<|Yn he).trans<|Tup.lst ak;have bm:FrS [ct,fo] B (upd (upd N e<|.tup [.int k,.ref a,.ref d]) fo<|.lst<|es.map Yg++[.ref e]):=((((b9.trans<|f6.mono λ_ h=>absurd h bB).trans fy).trans<|Yj he).mono λb h=>by rw[wx1.mp h];exact .head _).trans<|Yk<|.tail _<|.head _;have b1:FrS [fo] N (upd (upd N e<|.tup [.int k,.ref a,.ref d]) fo<|.lst<|es.map Yg++[.ref e]):=(Yj he).trans<|Yk<|.head _;have bd:e≠fo:=λz=>by rw[<-z]at a9;rw[he]at a9;cases a9
   have J:∀b,O b=Kr->H b=Kr/\b≠fo:=λb m=>⟨a6.o1 ag m,bS<|aQ a7 m⟩;have al:=J d X;exists _,_,_,k1,es++[e],L1.app M,Lr,U,fH,?_,by rw[zb1,bT];rfl,by rw[bN,ai];rfl,(UX _ _ _).symm,h9.keep am
   .rw[aC ad,aC<|aQ W he,<-bo];exact W
   .refine Enm.app (as.keep am bm λb m=>⟨?_,m⟩)<|h8 _ e d zs _ am ?_ ?_ al<|Y.imp λu t h=>?_
    .have:=aQ ac m.1;simp[bS this,m.2]
    .rw[aC bd];exact zb1
    .rw[aC<|bS bb,aC<|aQ a5 he];exact a5
    .obtain⟨e1,x1,x2,x3⟩:=h;exact{e1,b1 _ _ (by simpa using (J _ x2.1).2) x1,J _ x2.1,x3.keep ((Yn he).trans<|Tup.lst ak) b1 λb m=>{by simpa using (J _ m.1).2,J _ m.1}}
 .rintro σ B ⟨y1,y2,y3,k,es,L1,L2,rfl,fr,a4,ap,ai,rfl,a3,as⟩;rw[aK]at ai a3;rw[yX]at a3;cases a3;rw[UN]at q;exact{_,U,q fo es B fr a4 a8 ap (as.keep (λ_ _ e=>e) (FrS.refl (S:=[])) λb m=>{bB,m.1}) ai}
abbrev cY:Kd:=top 70
abbrev kM:Ki aG:=[Ku "",Ku ""]
abbrev sQ:Pr:=("","")
inductive TxE(B:eH->Prop)(Z:zZ->Kj zZ->Prop)(H:Hp)(kvs:Ki (Ki aG×V))(dn:Ki (Pr×eH))(L:LL)(q:Pr):Prop
 | mk(e rl:eH)(pv gv:V)(es:Ki eH)(h1:aF kvs [Ku q.1,Ku q.2]\.ref e)(h2:H e\.tup [pv,.ref rl,gv])(h3:H rl\(.lst<|es.map Yg))(h4:B rl)(h5:Enm B Z H L es)(h6:∀g,(q,g)∈dn->∃s v,H g\.tup [s,pv,v,gv]):TxE B Z H kvs dn L q
theorem TxE.keep{B C:eH->Prop}(h:TxE B Z H kvs dn L q)(t:Tup H H')(f:FrS M H H')(a:∀b,B b->b∉M/\C b)(m:aF kvs' [Ku q.1,Ku q.2]=aF kvs [Ku q.1,Ku q.2])(hd:∀g,(q,g)∈dn'->(q,g)∈dn):TxE C Z H' kvs' dn' L q:=by
 obtain⟨e,rl,pv,u,w,o,r,l,d,n,i⟩:=h;exact{e,rl,pv,u,w,m.trans o,t _ _ r,f _ _ (a _ d).1 l,(a _ d).2,n.keep t f a,λg j=>let ⟨s,v,e⟩:=i g<|hd g j;⟨s,v,t _ _ e⟩}
inductive TxAt(Z:zZ->Kj zZ->Prop)(H Hx:Hp)(tx ct:eH)(dn:Ki (Pr×eH))(F:Pr->LL)(c:Kk):Prop
 | mk(kvs:Ki (Ki aG×V))(h1:Hx tx\.dT kvs)(h2:∀q,(q=sQ\/q∈dn.map (·.1))->TxE (λb=>H b=Kr/\b≠ct/\b≠tx) Z Hx kvs dn (F q) q)(h3:∀q,q≠sQ->q∉dn.map (·.1)->aF kvs [Ku q.1,Ku q.2]=Kr)(h4:↑kvs<=c):TxAt Z H Hx tx ct dn F c
theorem TxAt.keep(h:TxAt Z H Hx tx ct dn F c)(t:Tup Hx Hy)(f:FrS [ct] Hx Hy)(d:tx≠ct):TxAt Z H Hy tx ct dn F c:=by
 obtain⟨l,n,m,e,j⟩:=h;exact{l,f _ _ (by simpa using d) n,λq i=>(m q i).keep t f (λb a=>{by simpa using a.2.1,a}) rfl λ_ h=>h,e,j}
def TxAt.step{n d:zZ}{pv gv:V}{kvs:Ki (Ki aG×V)}(h:TxAt Z H Hx tx ct dn F c)(I:FrS [] H Hx)(h0:H ct=Kr)(J:H tx=Kr)(w:Hx ct\.lst [.int k])(i:Hx tx\.dT kvs)(r:FrS [ct] Hx H1)(P:H1 ct\.lst [.int k1])(hl:Hx l=Kr)(N:H1 l\(.lst<|es.map Yg))(X:Enm (Nw Hx) Z H1 L es)
  (he:H1 e=Kr) (a:upd H1 e (.tup [pv,.ref l,gv]) b=Kr) (Y:((n,d):Pr)∉dn.map (·.1)) (M:Hx g\.tup [s,pv,v,gv]):
  TxAt Z H (upd (upd (upd H1 e<|.tup [pv,.ref l,gv]) b<|.tup [.str n,.str d]) tx<|.dT<|aL kvs [Ku n,Ku d]<|.ref e) tx ct (dn++[((n,d),g)]) (λq=>if ((n,d):Pr)=q then L else F q) (c+1)/\FrS [] H (upd (upd (upd H1 e<|.tup [pv,.ref l,gv]) b<|.tup [.str n,.str d]) tx<|.dT<|aL kvs [Ku n,Ku d]<|.ref e)/\upd (upd (upd H1 e<|.tup [pv,.ref l,gv]) b<|.tup [.str n,.str d]) tx (.dT<|aL kvs [Ku n,Ku d]<|.ref e) ct\.lst [.int k1]/\Tup Hx (upd (upd (upd H1 e<|.tup [pv,.ref l,gv]) b<|.tup [.str n,.str d]) tx<|.dT<|aL kvs [Ku n,Ku d]<|.ref e):=by
 have E:tx≠ct:=λz=>by rw[z,w]at i;cases i
 have u:=r _ _ (by simpa using E) i;have G:upd (upd H1 e<|.tup [pv,.ref l,gv]) b (.tup [.str n,.str d]) tx\.dT kvs:=by rw[aC<|aQ (by rw[aC<|aQ u he];exact u) a,aC<|aQ u he];exact u
 have x:Tup Hx H1:=r.tup1 w;have m:Tup H1 (upd (upd (upd H1 e<|.tup [pv,.ref l,gv]) b<|.tup [.str n,.str d]) tx<|.dT<|aL kvs [Ku n,Ku d]<|.ref e):=((Yn he).trans<|Yn a).trans<|Tup.chg G λxs z=>nomatch z;have j:FrS [tx] H1 (upd (upd (upd H1 e<|.tup [pv,.ref l,gv]) b<|.tup [.str n,.str d]) tx<|.dT<|aL kvs [Ku n,Ku d]<|.ref e):=((Yj he).trans<|Yj a).trans<|Yk<|.head _;have C:upd (upd (upd H1 e<|.tup [pv,.ref l,gv]) b<|.tup [.str n,.str d]) tx (.dT<|aL kvs [Ku n,Ku d]<|.ref e) e\.tup [pv,.ref l,gv]:=(Tup.chg G λxs z=>nomatch z) _ _<|(Yn a) _ _ zb1;have B:upd (upd (upd H1 e<|.tup [pv,.ref l,gv]) b<|.tup [.str n,.str d]) tx (.dT<|aL kvs [Ku n,Ku d]<|.ref e) tx\(.dT<|aL kvs [Ku n,Ku d]<|.ref e):=zb1;generalize upd (upd (upd H1 e<|.tup [pv,.ref l,gv]) b<|.tup [.str n,.str d]) tx (.dT<|aL kvs [Ku n,Ku d]<|.ref e)=H4 at m j C B;obtain⟨a8,O,W,T,g4⟩:=h;cases O.symm.trans i;have old:∀b,Hx b=Kr->b∉[tx]/\H b=Kr/\b≠ct/\b≠tx:=λb a=>⟨by simpa using bS (aQ i a),rO I a,bS<|aQ w a,bS<|aQ i a⟩
 have ev:∀q:Pr,q≠(n,d)->aF (aL kvs [Ku n,Ku d]<|Yg e) [Ku q.1,Ku q.2]=aF kvs [Ku q.1,Ku q.2]:=λq A=>by
  rw[hZ,bC];intro z;injection z with z1 z2;injection z2 with z2 _;exact A<|Prod.ext (iS z1)<|iS z2
 have mk:∀q:Pr,q∈(dn++[((n,d),g)]).map (·.1)->q≠(n,d)->q∈dn.map (·.1):=λq h A=>by
  rw[bT]at h;exact(wz2.mp h).elim id λh=>absurd (wx1.mp h) A
 refine{{_,B,λq h=>?_,λq h1 h2=>?_,by have:=jR kvs [Ku n,Ku d]<|Yg e;lia},λb o _ e=>j _ _ (by simpa using aQ e J)<|r _ _ (by simpa using aQ e h0)<|I _ _ bB e,j _ _ (by simpa using bS E) P,x.trans m}
 .by_cases c:q=(n,d)
  .subst c;rw[bF rfl];refine{e,l,pv,gv,es,by rw[hZ,bF rfl],C,j _ _ (old l hl).1 N,(old l hl).2,X.keep m j old,λg' f=>?_};obtain f|f:=wz2.mp f
   .exact absurd (wx6.mpr ⟨_,f,rfl⟩) Y
   .cases wx1.mp f;exact{s,v,m _ _<|x _ _ M}
  .rw[bC λz=>c z.symm];refine((W q<|h.imp id λh=>mk q h c).keep x r (λb a=>{by simpa using a.2.1,a}) rfl λ_ h=>h).keep m j (λb a=>{by simpa using a.2.2,a}) (ev q c) λg' f=>?_
   obtain f|f:=wz2.mp f
   .exact f
   .cases wx1.mp f;exact absurd rfl c
 .rw[bT]at h2;have c:q≠(n,d):=λz=>h2<|gS _<|wx1.mpr z;rw[ev q c];exact T q h1 λh=>h2<|qQ _ h
def HI(q:Pr)(b:LL)(d:Ki Bz)(e:Ki LL):LL:=((d.map (·.1)).zip e).foldl (λa z=>if z.1=q then z.2 else a) b
abbrev Fd(n:zZ)(ds:Ki (zZ×eH)):Ki (Pr×eH):=ds.map λd=>((n,d.1),d.2)
def ZK{a:Kq}(b:a[i]?\w):fl (a.take<|i+1)=fl (a.take i)++Fd w.1 w.2.2:=by
 unfold fl;rw[eY,b,Ov];exact cH (_++·)<|fP _
def rV{a:Kq}(nd:((fl a).map (·.1)).Nodup)(l:a[i]?\w)(hd:w.2.2[j]?\d):(w.1,d.1)∉(fl (a.take i)++Fd w.1 (w.2.2.take j)).map (·.1):=by
 have e:fl a=(fl (a.take i)++Fd w.1 (w.2.2.take j))++((w.1,d.1),d.2)::(Fd w.1 (w.2.2.drop<|j+1)++fl (a.drop<|i+1)):=by
  have f:fl a=fl (a.take i)++(Fd w.1 w.2.2++fl (a.drop<|i+1)):=by
   conv=>lhs;rw[<-GS l]
   unfold fl;rw[Ov,GT]
  have b:Fd w.1 w.2.2=Fd w.1 (w.2.2.take j)++((w.1,d.1),d.2)::Fd w.1 (w.2.2.drop<|j+1):=by
   conv=>lhs;rw[<-GS hd]
   rw[Fd,bT,dD]
  rw[f,b];simp only[gF,Nk]
 rw[e,bT]at nd;exact λh=>(vp1.mp nd).2.2 _ h _ (.head _) rfl
inductive pK(vs:Ki V)(H:Hp)(Q:VK):Prop
 | mk(Z:zZ->Kj zZ->Prop)(p ch:eH)(ks:Ki (zZ×Ki Dz))(m0:Dz)(tr:Tr)(late:Ki zZ)(Ls:Ki LL)(k' mo:Kk)(G:Pg)(kq:Kq)(h1:vs=[.ref p,.ref ch,.int mo])(h2:ProgIs Z H p ks m0)(h3:KindsAt H p tr)(h4:LateAt H p tr late)(h5:TrOk tr)(h6:↑tr<=12)(h7:LyB Z H 0 (dZ ks m0) Ls k')(h8:k'<=1000000)(h9:H ch\(.tup<|G.ch.map Yh))(h10:DeedsQ H p kq)(h11:((fl kq).map (·.1)).Nodup)(h12:∀q:Pr,HI q .nil (dZ ks m0) Ls=G.bo q.1 q.2)
  (q:∀(rn:eH)(W:Lw)(A:La)(kvs:Ki (Ki aG×V))(H':Hp),FrS [] H H'->FrS [] H W.H0->W.G=G->W.mo=mo->W.Z=Z->A.δ=[]->A.ds=[]->LAt W H' rn A ⟨0,⟨[],[],[],[],0,0,0,hr0 tr late⟩,Kr⟩ .non->W.H0 W.up\(.dK<|cR tr)->W.H0 W.tx\.dT kvs->(∀q,(q=sQ\/q∈(fl kq).map (·.1))->TxE (λ_=>True) Z W.H0 kvs (fl kq) (G.bo q.1 q.2) q)->(∀q,q≠sQ->q∉(fl kq).map (·.1)->aF kvs [Ku q.1,Ku q.2]=Kr)->Q (.ref rn) H'):pK vs H Q
def NR:Sp:=λvs H Q _=>pK vs H Q
abbrev hH:Ki zZ:=["_law_program_here","_law_choices_here","_law_most"]
abbrev lL:Ki zZ:=["_law_program_here","_law_choices_here","_law_most","_law_count","_law_texts","_law_name","_law_elder","_law_deeds","_law_deed_here","_law_params","_law_rows_here","_law_gives","_law_around","_law_up"]
def zx1:bX lL hH (bP cY):=cF
def lR:Ki Kd->Kc
 | _::.Assign _ v _::_=>v
 | _=>.Constant .none 0 ⟨0,0,0,0⟩
def Bl(x:zZ)(p:Nc)(n:Kk)(env:Rg):Nb (lR<|eG cY) (Kp<|.Name x p) n env=pure false:=rfl
def NC:Ki Kd->Kc->Ki Kd
 | s::.Assign a _ p::r,v=>s::.Assign a v p::r
 | l,_=>l
def QL:eG cY=JJ (NC (eG cY)<|lR<|eG cY) (nI<|eG cY):=rfl
abbrev oJ(K:Fq):Ki (TE×TE):=[(tC<|.str "texts",aI 4),(tC<|.str "up",aI 13),(tC<|.str "around",aI 12),(tC<|.str "choices",mK (λxs H Q=>∃p ys,xs=[.ref p]/\(SqL K H p ys\/SqT K H p ys)/\∀l,H l=Kr->Q (.ref l) (upd H l<|.lst ys))<|bG (aI 1) bE),(tC<|.str "left",aI 2),(tC<|.str "log",jG bE),(tC<|.str "looks",tC<|.int 0),(tC<|.str "end",tC .non),(tC<|.str "things",jG bE),(tC<|.str "calls",tC<|.int 0)]
def Bt{a:iH}{A:Kg}{outer:Ki Rg}{s:Jx}{H:Hp}{E:XK}(b:mg "list"=Kr):zB (eZ bO P w K mg base lL "_law_new_run" (bP cY) f a A outer s H E).nox (nI<|eG cY) (ES<|oJ K):=by
 constructor
 refine GJ (fM aX (pv 4) ?_) rfl rfl (by intro z;cases z) (by decide);refine fM aX (pv 13) ?_;refine fM aX (pv 12) ?_;refine fM aX (fF Ih rfl b (by rfl')<|aA (pv 1) aE) ?_;refine fM aX (pv 2) ?_;refine fM aX (cU aE) ?_;refine fM aX aO ?_;refine fM aX gI ?_;refine fM aX (cU aE) ?_;exact fM aX aO FJ
def wU{k:Kk}{a:iH}{A:Kg}{outer:Ki Rg}{s:Jx}{H:Hp}{E:XK}(d:aV P w K mg base k "_law_marked" jH (sM 4))(hr:Room k (A.deeper<|Qk "_law_new_run" (bP cY) s⁻¹ f a))(b:(A.deeper<|Qk "_law_new_run" (bP cY) s⁻¹ f a).units+1<cLine):zB (eZ bO P w K mg base lL "_law_new_run" (bP cY) f a A outer s H E).nox (lR<|eG cY) (OP (dM<|bG (tC<|.str "")<|bG (tC<|.str "") bE)<|dM<|bG (dM bE)<|bG (gD (sM 4) [] E0<|bG (dJ (dI K) (aI 0)<|tC<|.int 2)<|bG (aI 3) bE)<|bG (tC .non) bE):=by
 constructor
 refine Ep (oT b) ?_ ?_
 .exact bZ<|EF<|EF aE
 .refine bZ<|aA (bZ aE) ?_;refine aA (bD d hr rfl<|aA (eT (pv 0) aO)<|aA (pv 3) aE) ?_;exact aA gI aE
def Enm.shp{B:eH->Prop}(h:Enm B Z H l es)(t:Tup H H')(f:∀b m,H b\.lst m->H' b\.lst m):yP Z H' l es:=by
 induction h with
 | nil=>exact .nil
 | op h d s _ a=>exact .op (t _ _ h) (t _ _ d) s a
 | call h d q o _ a=>exact .call (t _ _ h) (t _ _ d) (t _ _ q) o a
 | either h j d e r b _ _ _ i n a=>exact .either (t _ _ h) (f _ _ j) (t _ _ d) (f _ _ e) (f _ _ r) ⟨trivial,trivial,trivial⟩ i n a
 | again h j d e b _ _ i a=>exact .again (t _ _ h) (f _ _ j) (t _ _ d) (f _ _ e) ⟨trivial,trivial⟩ i a
inductive TH(Z:zZ->Kj zZ->Prop)(H:Hp)(p ch:eH)(mo:Kk)(ct tx:eH)(kq:Kq)(ks:Ki (zZ×Ki Dz))(G:Pg)(k':Kk)(i:Kk)(σ:St)(Hx:Hp):Prop
 | mk(y1 y2 y3 y4 y5 y6 y7:Kj V)(k:Kk)(F:Pr->LL)(Lr:Ki LL)(h1:σ=[Kp<|.ref p,Kp<|.ref ch,Kp<|.int mo,Kp<|.ref ct,Kp<|.ref tx,y1,y2,y3,y4,y5,y6,y7,Kr,Kr])(h2:FrS [] H Hx)(h3:Hx ct\.lst [.int k])(h4:TxAt Z H Hx tx ct (fl<|kq.take i) F (1+80*i))(h5:LyB Z Hx k ((ks.drop i).flatMap iT) Lr k')(h6:∀q:Pr,HI q (F q) ((ks.drop i).flatMap iT) Lr=G.bo q.1 q.2):TH Z H p ch mo ct tx kq ks G k' i σ Hx
inductive VU(Z:zZ->Kj zZ->Prop)(H:Hp)(p ch:eH)(mo:Kk)(ct tx dt:eH)(v:V)(y:zZ×Ki Dz)(G:Pg)(D0:Ki (Pr×eH))(ws:Ki (zZ×eH))(zs:Ki Bz)(k' c:Kk)(j:Kk)(σ:St)(Hx:Hp):Prop
 | mk(y4 y5 y6 y7:Kj V)(k:Kk)(F:Pr->LL)(Lr:Ki LL)(h1:σ=[Kp<|.ref p,Kp<|.ref ch,Kp<|.int mo,Kp<|.ref ct,Kp<|.ref tx,Kp<|.str y.1,Kp v,Kp<|.ref dt,y4,y5,y6,y7,Kr,Kr])(h2:FrS [] H Hx)(h3:Hx ct\.lst [.int k])(h4:TxAt Z H Hx tx ct (D0++Fd y.1 (ws.take j)) F (c+j))(h5:LyB Z Hx k (((y.2.drop j).map λz=>((y.1,z.1),z))++zs) Lr k')(h6:∀q:Pr,HI q (F q) (((y.2.drop j).map λz=>((y.1,z.1),z))++zs) Lr=G.bo q.1 q.2):VU Z H p ch mo ct tx dt v y G D0 ws zs k' c j σ Hx
inductive SL(Hx:Hp)(p Dl:eH)(tr:Tr)(late:Ki zZ)(i:Kk)(σ:St)(Hy:Hp):Prop
 | mk(y:Kj V)(ts:Ki eH)(h1:σ=[y,Kp<|.ref p])(h2:FrS [] Hx Hy)(h3:Hy Dl\(.lst<|ts.map Yg))(h4:A2 (λt k=>Hy t\.tup [.str k,.bl Ks]) ts (hr0 (tr.take i) late)):SL Hx p Dl tr late i σ Hy
inductive UB(Hx:Hp)(Dl:eH)(tr:Tr)(i:Kk)(σ:St)(Hy:Hp):Prop
 | mk(y:Kj V)(ts:Ki eH)(h1:σ=[y])(h2:FrS [] Hx Hy)(h3:Hy Dl\(.lst<|ts.map Yg))(h4:A2 (λt (z:zZ×Kj zZ)=>Hy t\.tup [.str z.1,aY z.2]) ts (tr.take i)):UB Hx Dl tr i σ Hy
def wS{k:Kk}(F:Fun K "_law_new_run" "_law_new_run" cY f fd)(MK:aV P w K mg base k "_law_marked" jH (sM 4))(c0:mg "dict"=Kr)(cf:mg "list"=Kr):aS P w K mg base bO (k+1) f fd hH NR:=by
 refine F.ok zx1 (λvs H Q E h=>?_) λbj A outer s H vs Q E hr h=>?_
 .obtain⟨Z,p,ch,ks,m0,tr,m,Ls,k',mo,G,J,rfl,_⟩:=h;rfl
 obtain⟨Z,p,ch,ks,m0,tr,m,Ls,k',mo,G,J,rfl,hP,hK,ck,ok,d8,hB,cz,cq,hq,cg,cw,q⟩:=h;have hu:=eN hr;have cr:(["_law_row_here","_law_program_here"]:Ki zZ).Nodup:=by rfl'
 have cp:(["_law_row_here"]:Ki zZ).Nodup:=by rfl'
 have hO:zB (eZ bO P w K mg base lL "_law_new_run" (bP cY) f bj A outer s H E).nox (nI<|eG cY) (ES<|oJ K):=Bt cf;have hT:zB (eZ bO P w K mg base lL "_law_new_run" (bP cY) f bj A outer s H E).nox (lR<|eG cY) (OP (dM<|bG (tC<|.str "")<|bG (tC<|.str "") bE)<|dM<|bG (dM bE)<|bG (gD (sM 4) [] E0<|bG (dJ (dI K) (aI 0)<|tC<|.int 2)<|bG (aI 3) bE)<|bG (tC .non) bE):=wU MK hr hu;have bp:=Bl;rw[QL];generalize nI (eG cY)=Lx at hO;generalize lR (eG cY)=Lt at hT bp;exists _,aJ (sL 3 zx1.nd<|cU<|dV aE)
  (aJ (iU (i:=4) zx1.nd rfl (iL rfl) hT.of<|bp _ _ _ _) (aJ (eU dU rfl (iC<|eT (pv 0) aO) (dS (n:=3) rfl<|bK (gL 5 zx1.nd)<|bK (gL 6 zx1.nd)<|bK (gL 7 zx1.nd) dX)<|aR<|eU dU rfl (iC<|pv 7) (dS (n:=4) rfl<|bK (gL 8 zx1.nd)<|bK (gL 9 zx1.nd)<|bK (gL 10 zx1.nd)<|bK (gL 11 zx1.nd) dX)<|aR<|eK hu (pv 4) (bZ<|aA (pv 5)<|aA (pv 8) aE) (bZ<|aA (pv 9)<|aA (bD MK hr rfl<|aA (pv 10)<|aA (pv 3) aE)<|aA (pv 11) aE) rfl) (aJ (sL 12 zx1.nd (fF (yJ rfl) rfl c0 (by rfl') (aA (iQ (N':=["_law_row_here","_law_program_here"]) (src:=[Kr,Kp 0]) rfl fJ (iC<|eT (pv 0) aO) (g:=cJ 0) (λ_ _ _ _=>gL 0 cr)
   (tt:=iP<|dJ (jO K Ks) (dJ (dI K) (aI 0)<|tC<|.int 0)<|dJ (dI K) (aI 1)<|tC<|.int 1) (λ_ _ _ _=>xA<|cC (show OpR _ _ (jO K Ks) from yK) (lZ (show IxR _ (dI K) from oR) (pv 0) aO λ_ _=>U) (lZ (show IxR _ (dI K) from oR) (pv 1) aO λ_ _=>U) rfl)
   (te:=dM<|bG (dJ (dI K) (aI 0)<|tC<|.int 0)<|bG (tC<|.bl Ks) bE) (λ_ _ _ _=>bZ<|aA (lZ (show IxR _ (dI K) from oR) (pv 0) aO λ_ _=>U)<|aA yW aE)) aE)))
  (aJ (sL 13 zx1.nd (fF (yJ rfl) rfl c0 (by rfl') (aA (iQ (N':=["_law_row_here"]) (src:=[Kr]) rfl fJ (iC<|eT (pv 0) aO) (g:=cJ 0) (λ_ _ _ _=>gL 0 cp) (λ_ _ _ _=>gW)
   (te:=dM<|bG (dJ (dI K) (aI 0)<|tC<|.int 0)<|bG (dJ (dI K) (aI 0)<|tC<|.int 1) bE) (λ_ _ _ _=>bZ<|aA (lZ (show IxR _ (dI K) from oR) (pv 0) aO λ_ _=>U)<|aA (lZ (show IxR _ (dI K) from oR) (pv 0) aO λ_ _=>U) aE)) aE)))
  (aR<|bQ hO.of)))))
 ac_rfl
 have s1:1<=sizeLine:=cX (bM<|by decide);have s2:2<=sizeLine:=cX (bM<|by decide);have s3:3<=sizeLine:=cX (bM<|by decide);obtain⟨kt,us,lt,p1,p2,p3,p4,p5,p6⟩:=id hP;obtain⟨da,ca,_,_,bs,c8,bv,cn⟩:=hq;rw[p1]at bs;cases bs;rw[p2]at c8;obtain rfl:us=ca:=yI<|HO.tup.inj<|gX c8;refine{s1,λct aq=>?_};have f0:FrS [] H (upd H ct<|.lst [.int 0]):=Yj aq;have c4:upd H ct (.lst [.int 0]) ct\.lst [.int ((0:Kk):Kl)]:=zb1;generalize upd H ct (.lst [.int 0])=H0 at f0 c4;intro tx bg;have ak:H tx=none:=rO f0 bg;refine{s2,λb W=>{bW _,λI aw=>?_}};have f1:FrS [] H (upd (upd (upd H0 tx<|.dT []) b<|.tup [.str "",.str ""]) I<|.tup []):=((f0.trans<|Yj bg).trans<|Yj W).trans<|Yj aw;have al:upd (upd (upd H0 tx<|.dT []) b<|.tup [.str "",.str ""]) I (.tup []) tx\.dT []:=by rw[aC<|aQ (by rw[aC<|aQ zb1 W];exact zb1) aw,aC<|aQ zb1 W];exact zb1
 have c6:upd (upd (upd H0 tx<|.dT []) b<|.tup [.str "",.str ""]) I (.tup []) b\.tup [.str "",.str ""]:=(Yn aw) _ _ zb1;have ai:upd (upd (upd H0 tx<|.dT []) b<|.tup [.str "",.str ""]) I (.tup []) ct\.lst [.int ((0:Kk):Kl)]:=(((Yj (S:=[]) bg).trans<|Yj W).trans<|Yj aw) _ _ bB c4;have as:Tup H (upd (upd (upd H0 tx<|.dT []) b<|.tup [.str "",.str ""]) I<|.tup []):=Yo f1;generalize upd (upd (upd H0 tx<|.dT []) b<|.tup [.str "",.str ""]) I (.tup [])=H1 at f1 al c6 ai as;have ap:tx≠ct:=λz=>by rw[z,ai]at al;cases al
 cases hB with
 | @cons _ k1 _ _ _ L Lr hm sm zm tm=>
  have d5:=tm.le;refine{_,U,p,_,_,_,U,U,Ym<|as _ _ p1,U,_,U,Z,m0.2.1,ct,0,k1,m0.2.2.1,L,U,as _ _ hm,sm.keep as,ai,∅,λl es H2 f2 cs hl ba hE d0=>{s3,λe he=>?_}};have au:=f2 _ _ (by simpa using ap) al;have t12:=f2.tup1 ai;exists b,kM,U,by rw[aC<|aQ au he];exact au,(Yn he) _ _<|t12 _ _ c6;have br:upd H2 e (.tup [.ref I,.ref l,.non]) tx\.dT []:=by rw[aC<|aQ au he];exact au
  have f3:FrS [] H (upd (upd H2 e<|.tup [.ref I,.ref l,.non]) tx<|.dT [(kM,.ref e)]):=λb o _ z=>by
   rw[aC<|aQ z ak,aC<|aQ (f2 _ _ (by simpa using aQ z aq)<|f1 _ _ bB z) he];exact f2 _ _ (by simpa using aQ z aq)<|f1 _ _ bB z
  have nB:∀b,H1 b=Kr->H b=Kr/\b≠ct/\b≠tx:=λb W=>⟨rO f1 W,bS<|aQ ai W,bS<|aQ al W⟩;have ay:FrS [tx] H2 (upd (upd H2 e<|.tup [.ref I,.ref l,.non]) tx<|.dT [(kM,.ref e)]):=(Yj he).trans<|Yk<|.head _;have bk:Tup H2 (upd (upd H2 e<|.tup [.ref I,.ref l,.non]) tx<|.dT [(kM,.ref e)]):=(Yn he).trans<|Tup.chg br λxs z=>nomatch z;have TX:TxAt Z H (upd (upd H2 e<|.tup [.ref I,.ref l,.non]) tx<|.dT [(kM,.ref e)]) tx ct [] (λq=>if sQ=q then L else .nil) 1:=by
   refine{_,zb1,λq hq=>?_,λq hn _=>?_,aZ _}
   .obtain rfl|hq:=hq
    .exact⟨e,l,_,_,es,rfl,(Tup.chg br λxs z=>nomatch z) _ _ zb1,ay _ _ (by simpa using (nB l hl).2.2) ba,nB l hl,by rw[bF rfl];exact hE.keep bk ay λb W=>{by simpa using (nB b W).2.2,nB b W},nofun⟩
    .cases hq
   .show aF (aL ([]:Ki (Ki aG×V)) kM<|.ref e) _=Kr;rw[hZ,bC λz=>?_]
    .rfl
    .injection z with z1 z2;injection z2 with z2 _;exact hn<|Prod.ext (iS z1)<|iS z2
  have bn:=ay _ _ (by simpa using bS ap) cs;have b0:=Yo f3;generalize upd (upd H2 e<|.tup [.ref I,.ref l,.non]) tx (.dT [(kM,.ref e)])=H3 at f3 ay bk TX bn b0;have b7:∀q:Pr,HI q (if sQ=q then L else .nil) (ks.flatMap iT) Lr=G.bo q.1 q.2:=cw;exists _,U,p,_,_,_,U,U,Ym<|b0 _ _ p1,U,kt,U,{_,Ym<|b0 _ _ p2};refine lU (xs:=us.map Yg) (TH Z H p ch mo ct tx J ks G k') {_,_,_,_,_,_,_,k1,_,Lr,U,f3,bn,by rw[Qo];exact TX,by rw[wY];exact tm.keep b0,by rw[wY];exact b7} ?_ ?_ ?_
  .rintro i σ Hx hi ⟨_,_,_,_,_,_,_,_,_,_,_,fr,_⟩;exact Ym<|(Yo fr) _ _ p2
  .rintro i x σ Hx X ⟨y1,y2,y3,y4,y5,y6,y7,kx,L0,c1,rfl,fr,c3,ao,ah,af⟩;rw[bR,wx3]at X;obtain⟨u,a5,rfl⟩:=X;have hi:i<↑ks:=by rw[<-p3];exact(ww4.mp a5).1
   obtain⟨ev,dt,fs,q1,q2,q3,q4,q5⟩:=p4 i u ks[i] a5<|bJ hi;have an:=Yo fr;rw[rL hi,GT]at ah af;generalize ks[i]=y at q1 q3 q4 ah af;have hw:J[i]?=Kp J[i]:=bJ (by rw[<-bv];exact(ww4.mp a5).1);obtain⟨d6,w1,w2,w3⟩:=cn i u J[i] a5 hw;generalize J[i]=w at hw w1 w2 w3;rw[q1]at w1;injection w1 with w1;injection w1 with w1;injection w1 with a1 w1;injection w1 with _ w1;injection w1 with a3 _;cases a3;rw[q2]at w2;have bz:fs=w.2.2.map (·.2):=yI (by rw[jW];exact HO.tup.inj<|gX w2);have a1:y.1=w.1:=Yf.inj a1;exists u,_,U,Ym<|an _ _ q1,U,_,_,U,_,_,U,_,_,U,U;exists _,U,dt,U,{_,Ym<|an _ _ q2};refine lU (xs:=fs.map Yg) (VU Z H p ch mo ct tx dt ev y G (fl<|J.take i) w.2.2 ((ks.drop<|i+1).flatMap iT) k'<|1+80*i) {_,_,_,_,kx,L0,c1,U,fr,c3,by rw[Qo];exact(fP<|fl<|J.take i).symm▸ao,by rw[wY];exact ah,by rw[wY];exact af} ?_ ?_ ?_
   .rintro j σ Hy M ⟨_,_,_,_,_,_,_,_,B,_⟩;exact Ym<|(Yo B) _ _ q2
   .rintro j x σ Hy X ⟨z4,z5,z6,z7,ky,M0,Mr,rfl,B,b5,ag,ac,ad⟩;rw[bR,wx3]at X;obtain⟨g,hg,rfl⟩:=X;have M:j<↑y.2:=by rw[<-q3];exact(ww4.mp hg).1
    obtain⟨pv,gv,g1,g2,g3⟩:=q4 j g y.2[j] hg<|bJ M;rw[rL M,dD,Nk]at ac ad;generalize y.2[j]=z at g1 g2 g3 ac ad;cases ac with
    | @cons _ k2 _ _ _ L2' Lr2 hm2 sm2 zm2 tm2=>
     have aa:=Yo B;have cy:=tm2.le;obtain⟨Y,x1,x2,x3,x7⟩:=id ag;rw[bz,bR]at hg;obtain⟨dd,b6,c7⟩:=wx3.mp hg;obtain⟨rest,w4⟩:=w3 dd<|dC b6;rw[c7,g1]at w4;injection w4 with w4;injection w4 with w4;injection w4 with az _;have az:z.1=dd.1:=Yf.inj az;have ci:(y.1,z.1)∉(fl (J.take i)++Fd y.1 (w.2.2.take j)).map (·.1):=by rw[a1,az];exact rV cg hw b6
     have cc:fl (J.take i)++Fd y.1 (w.2.2.take<|j+1)=(fl (J.take i)++Fd y.1 (w.2.2.take j))++[((y.1,z.1),g)]:=by
      rw[eY,b6,az,<-c7,gF];exact cH (_++·) bT
     exists g,_,U,Ym<|aa _ _ g1,U,_,_,U,_,_,U,_,_,U,_,_,U,U;refine{_,U,_,U,_,U,Z,z.2.1,ct,ky,k2,z.2.2.1,L2',U,hm2,sm2,b5,∅,λl2 db Hz fz cm ba b8 ce _=>{_,U,s3,λe2 bd=>{_,U,_,U,_,U,s2,λb2 bq=>?_}}};obtain⟨r1,r2,r3,r4⟩:=ag.step (n:=y.1) (d:=z.1) (pv:=pv) (gv:=gv) B aq ak b5 x1 fz cm ba b8 ce bd bq ci<|aa _ _ g1;have be:tx≠ct:=ap;have b4:=fz _ _ (by simpa using be) x1;have bi:upd (upd Hz e2<|.tup [pv,.ref l2,gv]) b2 (.tup [.str y.1,.str z.1]) tx\.dT Y:=by rw[aC<|aQ (by rw[aC<|aQ b4 bd];exact b4) bq,aC<|aQ b4 bd];exact b4
     exists tx,_,U,DPut.t (k:=[Ku y.1,Ku z.1]) bi zb1 (iD ∅);exact{_,_,_,_,k2,_,Lr2,U,r2,r3,by rw[cc];exact r1,tm2.keep r4,ad}
   .rintro σ Hy ⟨z4,z5,z6,z7,ky,M0,Mr,rfl,B,b5,ag,ac,ad⟩;rw[aK]at ag ac ad;rw[q3,yX,Pk,zJ]at ac ad;have ed:fl (J.take i)++Fd y.1 (w.2.2.take ↑fs)=fl (J.take<|i+1):=by
     have e9:w.2.2.take ↑fs=w.2.2:=fI (by rw[bz,aK];exact aZ _);rw[ZK hw,a1,e9]
    rw[ed]at ag;obtain⟨Y,x1,x2,x3,x7⟩:=ag;exact{_,_,_,_,_,_,_,ky,M0,Mr,U,B,b5,{Y,x1,x2,x3,∅},ac,ad}
  .rintro σ Hx ⟨y1,y2,y3,y4,y5,y6,y7,kx,L0,c1,rfl,fr,c3,ao,ah,af⟩;rw[aK,p3,yX]at ah af;rw[aK]at ao;cases ah;obtain rfl:L0=λq:Pr=>G.bo q.1 q.2:=funext af;rw[fI<|by rw[bv];exact aZ _]at ao;obtain⟨d7,ts,vx,vy,d1,d2,d3,d4⟩:=id hK;rw[p1]at d1;cases d1;rw[p2]at d2;have cj:us=ts:=yI<|HO.tup.inj<|gX d2;subst cj;obtain⟨d9,cb,vm,l1,l2,l3,l4,l5⟩:=id ck;rw[p1]at l1;cases l1;have an:=Yo fr;refine{_,U,p,_,_,_,U,U,Ym<|an _ _ p1,U,kt,U,{_,Ym<|an _ _ p2},λDl bw=>?_};refine ED (xs:=us.map Yg) (SL Hx p Dl tr m) {_,[],U,Yj bw,zb1,.nil} ?_ ?_ ?_
   .rintro j σ Hy M ⟨_,_,_,B,_⟩;exact Ym<|(Yo<|fr.trans B) _ _ p2
   .rintro j x σ Hy X ⟨y,tz,rfl,B,am,a6⟩;rw[bR,wx3]at X;obtain⟨u,a5,rfl⟩:=X;have M:j<↑tr:=by rw[<-d3];exact(ww4.mp a5).1
    obtain⟨vz,hz⟩:=d4 j u tr[j] a5<|bJ M;have aa:=Yo<|fr.trans B;have et:hr0 (tr.take<|j+1) m=hr0 (tr.take j) m++(if tr[j].1∈m then [] else [tr[j].1]):=by
     unfold hr0;rw[JQ M,bT,Oy]
     congr 1
     by_cases c:tr[j].1∈m
     .rw[bF c];simp[c]
     .rw[bC c];simp[c]
    exists _,U,u,_,_,_,U,U,Ym<|aa _ _ hz,fY _ _,_,U,p,_,_,_,U,U,Ym<|aa _ _ p1,U,cb,_,U,.inr<|Ym<|aa _ _ l2,U,jV _,_,U;show if (!gQ (.str tr[j].1) (m.map Yf))=Ks then _ else _
    rw[lW]
    by_cases c:tr[j].1∈m
    .rw[dP c];exact bI {_,tz,U,B,am,by rw[et,bF c,fP];exact a6}
    .rw[gE c];refine cK {_,U,u,_,_,_,U,U,Ym<|aa _ _ hz,fY _ _,s2,λt T=>?_};have a9:upd Hy t (.tup [.str tr[j].1,.bl Ks]) Dl\(.lst<|tz.map Yg):=by rw[aC<|aQ am T];exact am
     have b8:↑tz<=12:=by
      rw[a6.len];unfold hr0;have:=tZ (λx=>decide<|x∉m)<|(tr.take j).map (·.1);rw[aK,eS]at this;lia
     refine{_,a9,bM (by rw[aK];lia),_,tz++[t],U,(B.trans<|Yj T).put bw,by rw[zb1,bT];rfl,?_};rw[et,bC c];exact(a6.imp λa b h=>(Tup.lst a9) _ _<|(Yn T) _ _ h).snoc<|(Tup.lst a9) _ _ zb1
   .rintro σ Hy ⟨y,tz,rfl,B,am,a6⟩;rw[aK,d3,AH]at a6;have b8:↑tz<=12:=by
     rw[a6.len];unfold hr0;have:=tZ (λx=>decide<|x∉m)<|tr.map (·.1);rw[aK]at this;lia
    have c5:↑(fW<|hr0 tr m)=↑tz:=by unfold fW;rw[aK,a6.len]
    refine{Dl,tz,fW<|hr0 tr m,U,Yl am,c5.symm,by rw[c5];exact bM ∅,λj t Y T a8=>?_,λar ax=>?_}
    .obtain⟨k0,e1,e2⟩:=a6.get T;unfold fW at a8;rw[bR,e1]at a8;cases a8;exact Ym e2
    have bh:cM [] (fW<|hr0 tr m)=fW (hr0 tr m):=by
     rw[VT _ [] (by
      rw[zJ];unfold fW;rw[jW];exact Ki.pairwise_map.mpr<|(ok.nd.filter _).imp λcd z=>cd<|iS z),zJ]
    rw[bh];have fa:FrS [] H (upd Hy ar<|.dK<|fW<|hr0 tr m):=(fr.trans B).trans<|Yj ax;have bb:upd Hy ar (.dK<|fW<|hr0 tr m) ar\(.dK<|fW<|hr0 tr m):=zb1;have b9:H ar=none:=rO (fr.trans B) ax;have c9:TxAt Z H (upd Hy ar<|.dK<|fW<|hr0 tr m) tx ct (fl J) (λq=>G.bo q.1 q.2) (1+80*↑us):=ao.keep ((Yo B).trans<|Yn ax) ((B.trans<|Yj ax).mono λ_ h=>absurd h bB) ap;generalize upd Hy ar (.dK<|fW<|hr0 tr m)=Ha at fa bb c9;have ta:=Yo fa;refine{_,U,p,_,_,_,U,U,Ym<|ta _ _ p1,U,kt,U,{_,Ym<|ta _ _ p2},λDu bm=>?_};refine ED (xs:=us.map Yg) (UB Ha Du tr) {_,[],U,Yj bm,zb1,.nil} ?_ ?_ ?_
    .rintro j σ Hz M ⟨_,_,_,fz,_⟩;exact Ym<|(Yo<|fa.trans fz) _ _ p2
    .rintro j x σ Hz X ⟨y',tw,rfl,fz,av,ab⟩;rw[bR,wx3]at X;obtain⟨u,a5,rfl⟩:=X;have M:j<↑tr:=by rw[<-d3];exact(ww4.mp a5).1
     obtain⟨vz,hz⟩:=d4 j u tr[j] a5<|bJ M;have bt:=Yo<|fa.trans fz;refine{_,U,u,_,_,_,U,U,Ym<|bt _ _ hz,fY _ _,_,U,u,_,_,_,U,U,Ym<|bt _ _ hz,U,s2,λt T=>?_};have a9:upd Hz t (.tup [.str tr[j].1,aY tr[j].2]) Du\(.lst<|tw.map Yg):=by rw[aC<|aQ av T];exact av
     refine{_,a9,bM (by rw[aK,ab.len,eS];lia),_,tw++[t],U,(fz.trans<|Yj T).put bm,by rw[zb1,bT];rfl,?_};rw[JQ M];exact(ab.imp λa b h=>(Tup.lst a9) _ _<|(Yn T) _ _ h).snoc<|(Tup.lst a9) _ _ zb1
    .rintro σ Hz ⟨y',tw,rfl,fz,av,ab⟩;rw[aK,d3,AH]at ab;have aj:↑(cR tr)=↑tw:=by unfold cR;rw[aK,ab.len]
     refine{Du,tw,cR tr,U,Yl av,aj.symm,by rw[aj,ab.len];exact bM ∅,λj t Y T a8=>?_,λup bu=>?_}
     .obtain⟨k0,e1,e2⟩:=ab.get T;unfold cR at a8;rw[bR,e1]at a8;cases a8;exact Ym e2
     rw[QX ok];have fu:FrS [] Ha (upd Hz up<|.dK<|cR tr):=fz.trans<|Yj bu;have bx:upd Hz up (.dK<|cR tr) up\(.dK<|cR tr):=zb1;generalize upd Hz up (.dK<|cR tr)=r at fu bx;have cx:=c9.keep (Yo fu) (fu.mono λ_ h=>absurd h bB) ap;have a0:=fu _ _ bB bb;have tu:=Yo<|fa.trans fu;intro rn bf;have k1:∀{b:eH}{o:HO},r b\o->upd r rn (.dK []) b\o:=λe=>by rw[aC<|aQ e bf];exact e
     refine{_,U,_,U,_,U,_,U,ch,_,U,.inr<|Ym<|k1<|tu _ _ cq,λC a7=>{_,U,bW _,λlo a4=>{bW _,λth bc=>?_}}};have k2:∀{b:eH}{o:HO},r b\o->upd (upd r rn<|.dK []) C (.lst<|G.ch.map Yh) b\o:=λe=>by rw[aC<|aQ (k1 e) a7];exact k1 e
     have k3:∀{b:eH}{o:HO},r b\o->upd (upd (upd r rn<|.dK []) C<|.lst<|G.ch.map Yh) lo (.lst []) b\o:=λe=>by rw[aC<|aQ (k2 e) a4];exact k2 e
     have r1:upd (upd r rn<|.dK []) C (.lst<|G.ch.map Yh) rn\.dK []:=by rw[aC<|aQ zb1 a7];exact zb1
     have r2:upd (upd (upd r rn<|.dK []) C<|.lst<|G.ch.map Yh) lo (.lst []) rn\.dK []:=by rw[aC<|aQ r1 a4];exact r1
     have c2:upd (upd (upd r rn<|.dK []) C<|.lst<|G.ch.map Yh) lo (.lst []) C\(.lst<|G.ch.map Yh):=by rw[aC<|aQ zb1 a4];exact zb1
     have b3:upd (upd (upd r rn<|.dK []) C<|.lst<|G.ch.map Yh) lo (.lst []) lo\.lst []:=zb1;have cu:lo≠C:=λz=>by rw[z,zb1]at a4;cases a4
     generalize upd (upd (upd r rn<|.dK []) C<|.lst<|G.ch.map Yh) lo (.lst [])=H5 at bc k3 r2 c2 b3;have n1:∀{b:eH}{o:HO},H5 b\o->b≠th:=λe=>aQ e bc;have n2:∀{b:eH}{o:HO},r b\o->b≠rn:=λe=>aQ e bf;refine{by rw[aC<|n1 r2];exact r2,[(Ku "texts",.ref tx),(Ku "up",.ref up),(Ku "around",.ref ar),(Ku "choices",.ref C),(Ku "left",.int mo),(Ku "log",.ref lo),(Ku "looks",.int 0),(Ku "end",.non),(Ku "things",.ref th),(Ku "calls",.int 0)],U,by show 10<=15;decide,?_};obtain⟨Y,x1,x2,x3,x7⟩:=cx;have nz:∀{b:eH}{o:HO},r b\o->b≠ar->(if b=ar then Kr else r b)\o:=λe n=>by rw[bC n];exact e
     have cv:∀{b:eH}{o:HO},r b\o->(∀Y,o≠.dK Y)->b≠ar:=λe n z=>by rw[z,a0]at e;cases e;exact n _ rfl
     have co:up≠ar:=λz=>by have:=fz _ _ bB bb;rw[<-z,bu]at this;cases this
     have F:∀{b:eH}{o o1 o2:HO},r b\o->upd (upd H5 th o1) rn o2 b\o:=λe=>by rw[aC<|n2 e,aC<|n1<|k3 e];exact k3 e
     have nt:∀{b:eH}{o:HO},r b\o->(∀Y,o≠.dK Y)->(if b=ar then Kr else r b)\o:=λe n=>nz e<|cv e n;refine q rn {λb=>if b=ar then Kr else r b,G,tx,up,Z,mo} {ar,C,lo,th,[],[],[],[]} Y _ (λb o _ e=>F<|(fa.trans fu) _ _ bB e) (λb o _ e=>nz ((fa.trans fu) _ _ bB e)<|aQ e b9) rfl rfl rfl rfl rfl {{.nil,.nil,.nil,U},.no,{?_,?_,?_,?_}} (nz bx co) (nt x1 nofun) (λq hq=>by
      obtain⟨e,rl,pv,gv,es,h1,h2,h3,h4,h5,h6⟩:=x2 q hq;exact{e,rl,pv,gv,es,h1,nt h2 nofun,nt h3 nofun,trivial,h5.shp (λb xs e=>nt e nofun) λb xs e=>nt e nofun,λg hg=>let ⟨s,v,e⟩:=h6 g hg;⟨s,v,nt e nofun⟩}) x3
     .intro z hz;obtain rfl|hz:=wx0.mp hz
      .have I:((mo:Kl)-((0:Kk):Kl))=mo:=by simp
       show upd _ rn _ rn=Kp (HO.dK [(Ku "texts",.ref tx),(Ku "up",.ref up),(Ku "around",.ref ar),(Ku "choices",.ref C),(Ku "left",.int<|(mo:Kl)-((0:Kk):Kl)),(Ku "log",.ref lo),(Ku "looks",.int 0),(Ku "end",.non),(Ku "things",.ref th),(Ku "calls",.int 0)]);rw[I];exact zb1
      obtain rfl|hz:=wx0.mp hz
      .exact F a0
      obtain rfl|hz:=wx0.mp hz
      .show upd _ rn _ C=Kp (HO.lst<|G.ch.map Yh);rw[aC (λz=>by rw[z,zb1]at a7;cases a7),aC<|n1 c2];exact c2
      obtain rfl|hz:=wx0.mp hz
      .show upd _ rn _ lo=Kp (HO.lst []);rw[aC (λz=>by rw[z,r1]at a4;cases a4),aC<|n1 b3];exact b3
      obtain rfl|hz:=wx0.mp hz
      .show upd _ rn _ th=Kp (HO.lst []);rw[aC<|bS<|n1 r2];exact zb1
      .cases hz
     .show([rn,ar,C,lo,th]:Ki eH).Nodup;have a1:rn≠ar:=bS<|n2 a0;have a2:rn≠C:=λz=>by rw[<-z,zb1]at a7;cases a7
      have a3:rn≠lo:=λz=>by rw[<-z,r1]at a4;cases a4
      have b1:ar≠C:=aQ (k1 a0) a7;have b2:ar≠lo:=aQ (k2 a0) a4;simp[a1,a2,a3,n1 r2,b1,b2,n1<|k3 a0,bS cu,n1 c2,n1 b3]
     .have N:∀{b:eH},r b=Kr->(if b=ar then Kr else r b)=none:=λe=>by
       split
       .rfl
       .exact e
      have O:∀{G H:Hp}{b:eH},(∀{o:HO},G b\o->H b\o)->H b=Kr->G b=none:=λ{G H b} k e=>by
       cases z:G b with
       | none=>rfl
       | some o=>rw[k z]at e;cases e
      intro z hz;obtain rfl|hz:=wx0.mp hz
      .exact N bf
      obtain rfl|hz:=wx0.mp hz
      .exact bF rfl
      obtain rfl|hz:=wx0.mp hz
      .exact N<|O k1 a7
      obtain rfl|hz:=wx0.mp hz
      .exact N<|O k2 a4
      obtain rfl|hz:=wx0.mp hz
      .exact N<|O k3 bc
      .cases hz
     .intro b o ae;have ae:(if b=ar then Kr else r b)\o:=ae
      by_cases c:b=ar
      .rw[bF c]at ae;cases ae
      .rw[bC c]at ae;exact F ae
abbrev xR:Kd:=top 72
abbrev MM:Ki zZ:=["_law_run","_law_number","_law_row_here","_law_env","_law_thing","_law_line_here","_law_far","_law_params","_law_rows_here","_law_gives","_law_inner"]
def Ez{K:Fq}{p:Km}{a b D:eH}{xs ys:Ki V}{g:TG}{tt:TT}{te:TE}{A:St}{H0:Hp}{Q:Hp->Prop}(d:Kk->St->Hp->Prop)(h0:d 0 A H0)(hl:∀i w H,d i w H->jK K p H a xs/\jK K p H b ys)
  (hs:∀i x y T w H,xs[i]?\x->ys[i]?\y->d i w H->H T=Kr->g (.ref T) w (upd H T<|.tup [x,y]) λz C=>tt z C λb B=>if b=Ks then te z B λv j=>∃ys,j D\.lst ys/\↑ys<sizeLine/\d (i+1) z (upd j D<|.lst<|ys++[v]) else d (i+1) z B) (hd:∀i w H,i=min ↑xs ↑ys->d i w H->Q H):oC (HY K p p a b) g tt te D A H0 Q:=by
 exists λi m w H=>m=min ↑xs ↑ys-i/\i<=min ↑xs ↑ys/\d i w H,{_,U,bW _,h0};rintro i m w H ⟨rfl,E,q⟩;obtain⟨f,h⟩:=hl i w H q
 by_cases n:i<min ↑xs ↑ys
 .have h1:i<↑xs:=by lia
  have L:i<↑ys:=by lia
  refine .inr {{xs,ys,_,_,f,h,bJ h1,bJ L},d<|i+1,λG J r=>{_,by(clear E;lia),U,n,r},?_};rintro x J ⟨T,u,v,o,rfl,rfl,s,l⟩;exact hs i u v T w H (s xs f) (l ys h) q o
 .have e:i=min ↑xs ↑ys:=by lia
  exact .inl {{xs,ys,f,h,∅},hd i w H e q}
def sC{l:Ki zZ}{p:zZ->Km}(d:l[i]?\f)(h:∀(j:Kk) z,j<i->l[j]?\z->p z=Kt)(a:p f=Ks):gQ (.bl Ks) (l.map λz=>V.bl<|p z)=Ks/\ixV (.bl Ks) (l.map λz=>V.bl<|p z)=i:=by
 obtain⟨e,rfl⟩:=ww4.mp d;refine{vk5.mpr {_,wx6.mpr {_,dC d,U},by rw[a];rfl},(Vd<|by rw[aK];exact e).mpr {by rw[Nj,a];rfl,λj b=>?_}};rw[Nj,h j _ b<|bJ ∅];rfl
def YW{P:Pg}{T:Ts}(h:T.S.get m y=.non):Ts.call P f n m x y k d as T=T.ends "nothing" n:=by unfold Ts.call;rw[h]
def Dm{P:Pg}{T:Ts}(h:T.S.get m y=.int j):Ts.call P f n m x y k d as T=if k∈P.ln (T.S.kind j) then if 40<=T.S.uw then T.ends "deep" n else
   (f (P.bo (P.an (T.S.kind j) d) d) T.S.ds.length {T with S:=mJ P T.S n m d as j}).bk x (P.gv (P.an (T.S.kind j) d) d) T.S.ds.length m
  else T.ends "unfit" n:=by unfold Ts.call;rw[h]
def ZF{S:Rs}{ps as:Ki zZ}{j:Kl}(hp:("own":zZ)∉ps)(k:aG):aF (cM []<|(Ku "own",.int j)::(ps.zip as).map λz=>((Ku z.1:aG),S.get m z.2)) k=aF (nM S m ps as j) k:=by
 have f:∀(l:Ki (zZ×zZ))(a b:Ki (aG×V)),(∀z∈l,z.1≠("own":zZ))->(∀k,aF a k=if k=(Ku "own":aG) then Kp (.int j) else aF b k)->∀k,aF (cM a<|l.map λz=>((Ku z.1:aG),S.get m z.2)) k=if k=(Ku "own":aG) then Kp (.int j) else aF (l.foldl (λd z=>aL d (Ku z.1)<|S.get m z.2) b) k:=by
  intro l
  induction l with
  | nil=>exact λa b _ h=>h
  | cons z l o=>
   refine λa b n h=>o (aL a (Ku z.1)<|S.get m z.2) (aL b (Ku z.1)<|S.get m z.2) (λy i=>n y<|.tail _ i) λk=>?_;rw[hZ,hZ,h]
   by_cases c:k=Ku z.1
   .rw[bF c,bF c,bC λe=>n z (.head _)<|iS<|c.symm.trans e]
   .rw[bC c,bC c]
 unfold nM;rw[hZ];exact f _ [((Ku "own":aG),.int j)] [] (λz q e=>hp<|e▸(yE q).1) (λk=>hZ (κ:=aG) [] (Ku ("own":zZ)) k<|.int j) k
def LB.inc{W:Lw}{A:La}{T:Ts}{d':Ki (aG×V)}{ls δ:Ki eH}(b:LB W A T 1)(g:∀x,VOk T.S.ts.length<|T.S.get m x)(a:j<T.S.ts.length)(hl:↑d'<=1001):LB W {A with ls:=ls,δ:=δ,ds:=A.ds++[d']} {T with S:=mJ W.G T.S n m d as j} 0:=by
 have l:=b.b1;have h:=b.b3;have e:=b.b4;have i:=b.u0;have f:=b.u1;refine{λd hd=>?_,by show(T.S.lg++[_]).length+_<=12*T.dn;rw[bN,eJ];lia,λd hd=>?_,by show T.S.ts.length+_<=T.dn;lia,by show T.S.hr.length+_<=12+12*T.dn;lia,b.hn,b.tn,by show 0<=T.S.uw+1;lia,by show T.S.uw+1+((0:Kk):Kl)<=(T.dn:Kl);lia}
 .obtain hd|hd:=wz2.mp hd
  .exact b.dk d hd
  .rw[wx1.mp hd];exact BM (SX g _ _ λz o=>nomatch o)<|.inr ⟨j,rfl,a⟩
 .show(↑d:Kl)+(T.S.uw+1)+_<=1001+2*(T.dn:Kl);obtain hd|hd:=wz2.mp hd
  .have:=b.b2 d hd;lia
  .rw[wx1.mp hd];lia
theorem LB.bk{W:Lw}{A:La}{T:Ts}{d':Ki (aG×V)}(b:LB W A T 0)(hd:A.ds[m]?\d')(a:VOk T.S.ts.length (T.S.giv s g))(i:1<=T.S.uw):LB W {A with ds:=A.ds.set m<|aL d' (Ku x)<|T.S.giv s g} (T.bk x g s m) 0:=by
 have f:=b.u1;exact{JU b.dk a,b.b1,λd h=>by
  have:=PK (c:=T.S.uw) (e:=1001+2*(T.dn:Kl)) (λd hd=>by have:=b.b2 d hd;lia) hd d h;show(↑d:Kl)+(T.S.uw-1)+_<=1001+2*(T.dn:Kl);lia,b.b3,b.b4,b.hn,b.tn,by show 0<=T.S.uw-1;lia,by show T.S.uw-1+((0:Kk):Kl)<=(T.dn:Kl);lia}
inductive EV(H1:Hp)(kvs:Ki (Ki aG×V))(d:zZ)(ra rn Dl:eH)(l:Ki zZ)(i:Kk)(σ:St)(Hx:Hp):Prop
 | mk(y:Kj V)(h1:σ=[y,Kp<|.ref ra,Kp<|.ref rn])(h2:FrS [] H1 Hx)(h3:Hx Dl\(.lst<|(l.take i).map λz=>V.bl (aF kvs [Ku z,Ku d]).isSome)):EV H1 kvs d ra rn Dl l i σ Hx
inductive XV(S:Rs)(m:Kk)(H1:Hp)(na Dl:eH)(l:Ki (zZ×zZ))(i:Kk)(σ:St)(Hx:Hp):Prop
 | mk(x y:Kj V)(ts:Ki eH)(h1:σ=[x,y,Kp<|.ref na])(h2:FrS [] H1 Hx)(h3:Hx Dl\(.lst<|ts.map Yg))(h4:A2 (λt (z:zZ×zZ)=>Hx t\.tup [.str z.1,S.get m z.2]) ts (l.take i)):XV S m H1 na Dl l i σ Hx
def yn6:bX MM hJ (bP xR):=cF
def XR{M k:Kk}(F:Fun K "_law_do_call" "_law_do_call" xR f fd)(U':aV P w K mg base k "_law_ups" lJ HZ)(DO:aV P w K mg base k "_law_do" jF (YA M))(bh:mg "dict"=Kr)(mz:mg "zip"=Kr):aS P w K mg base bO (k+1) f fd hJ (QU M):=by
 refine F.ok yn6 (λvs H Q E h=>?_) λbv A outer s H vs Q E hr h=>?_
 .obtain⟨W,tr,rn,ra,na,g,A,T,c,n,m,x,y,k,d,as,rfl,_⟩:=h;rfl
 obtain⟨W,tr,rn,ra,na,g,A,⟨dn,S,e⟩,c,n,m,x,y,kd,d,as,rfl,h,L,a4,hg,av,c2,hm,bq,X,a2,hz,q⟩:=h;obtain rfl:e=none:=by cases h.le;rfl
 have B:=eN hr;have bm:(["_law_one","_law_row_here","_law_run"]:Ki zZ).Nodup:=by rfl'
 have bb:(["_law_x","_law_one","_law_env"]:Ki zZ).Nodup:=by rfl'
 exists _,aJ (sL 4 yn6.nd<|hI B (pv 3) (eT (pv 2) aO) ⟨rfl,U,U,rfl⟩)
  (aJ (cG (gO<|kL<|pv 4) (aJ (eK B (pv 0) aX (bZ<|aA aX<|aA (pv 1) aE) rfl)<|aR QM) cS) (aJ (sL 5 yn6.nd<|bD U' hr rfl<|aA (pv 0)<|aA (eT (eI (bU B (pv 0) aX λ_ _=>U)<|pv 4) aO) aE) (aR (cG (cC yK (eT (pv 2) aO) (pv 5) rfl) (aR<|eK B (pv 0) aX (bZ<|aA aX<|aA (pv 1) aE) rfl) (aR (cG (cC eA (bU B (pv 0) aX λ_ _=>U) aO<|cI _) (aR<|eK B (pv 0) aX (bZ<|aA aX<|aA (pv 1) aE) rfl) (aJ (eK B (pv 0) aX (cE jB (bU B (pv 0) aX λ_ _=>U) aO) rfl) (aJ (sL 6 yn6.nd<|eW eQ Qm PySem.F.type_list_index wZ (iQ (N':=["_law_one","_law_row_here","_law_run"]) (src:=[Kr,Kp 2,Kp 0]) rfl fJ (iJ<|pv 5) (g:=cJ 0) (λ_ _ _ _=>gL 0 bm) (λ_ _ _ _=>gW) (te:=AZ (dM<|bG (aI 0)<|bG (dJ (dI K) (aI 1)<|tC<|.int 4) bE)<|nK (aI 2)<|tC<|.str "texts") λ_ _ _ _=>NF<|WX B (bZ<|aA (pv 0)<|aA (lZ (show IxR _ (dI K) from oR) (pv 1) aO λ_ _=>U) aE)<|bU B (pv 2) aX λ_ _=>U)<|aA yW aE) (aJ (eK B (pv 0) aX (cE jB (cE jB (bU B (pv 0) aX λ_ _=>U)<|pv 6) aO) rfl) (aJ (dH<|eW eQ fU fS fL (bU B (pv 0) aX λ_ _=>U)<|aA (bZ<|aA aX<|aA (pv 1)<|aA (eI (pv 5) aO)<|aA (eI (pv 5)<|pv 6) aE) aE) (aJ (hY (bU B (bU B (pv 0) aX λ_ _=>U) (bZ<|aA (eI (pv 5)<|pv 6)<|aA (eT (pv 2) aO) aE) λ_ _=>U)<|dS (n:=3) rfl<|bK (gL 7 yn6.nd)<|bK (gL 8 yn6.nd)<|bK (gL 9 yn6.nd) dX) (aJ (sL 10 yn6.nd (fF (yJ rfl) rfl bh (by rfl') (aA (cE sU (cU<|aA (bZ<|aA aX<|aA (pv 4) aE) aE)
     (iQ (N':=["_law_x","_law_one","_law_env"]) (src:=[Kr,Kr,Kp 3]) rfl fJ (PP (p:=Ks) rfl mz<|aA (pv 7)<|aA (eT (pv 2) aO) aE) (g:=fC K 2<|eR (cJ 0)<|eR (cJ 1) eV) (λ_ _ _ _=>dS (n:=2) rfl<|bK (gL 0 bb)<|bK (gL 1 bb) dX) (λ_ _ _ _=>gW) (te:=dM<|bG (aI 0)<|bG (PZ (aI 2)<|aI 1) bE) λ_ _ _ _=>bZ<|aA (pv 0)<|aA (hI B (pv 2) (pv 1) ⟨rfl,rfl,rfl,rfl⟩) aE)) aE)))
    (aJ (dH<|bD DO hr rfl<|aA (pv 0)<|aA (pv 8)<|aA (pv 10) aE)<|aJ (eK B (pv 0) aX (cE kP (bU B (pv 0) aX λ_ _=>U) aO) rfl)<|aR<|eK B (pv 3) (eT (pv 2) aO) (SI B (pv 10) (pv 9) ⟨rfl,rfl,rfl,rfl⟩) rfl)))))))))))))
 ac_rfl
 have s1:1<=sizeLine:=cX (bM<|by decide);have s2:2<=sizeLine:=cX (bM<|by decide);have s4:4<=sizeLine:=cX (bM<|by decide);have gK:∀{H':Hp}{O:La}{T':Ts}{ev' v:V}(key:aG),LAt W H' rn O T' ev'->aF (lF W O T' ev') key\v->DGet H' rn (kV key) (Kp v):=λkey g e=>by rw[<-e];exact DGet.k g.run
 have a6:∀{O:La}{T':Ts}{ev':V},↑(lF W O T' ev')<sizeLine:=λ{_ _ _}=>bM (by show 10<=1000;decide)
 obtain⟨d0,f1,f2,f3⟩:=h.got X hm y;exists _,U,na,U,.inl {_,.inl f1},_,U,ra,_,_,_,U,U,Ym a4,U,_,DGet.k (k:=(Ku y:aG)) f1;rw[f2];obtain e|⟨j,e,hj⟩:=f3
 .rw[YW e]at q;have e:S.get m y=.non:=e;rw[e];refine{_,U,_,U,cK {_,U,s2,λt N=>{_,U,rn,_,U,DPut.k (k:=(Ku "end":aG)) (h.new N).run a6,?_}}};have g:=h.endw N "nothing" n;exact q A _ _ {g.1,X.less.ends _ _,a2,g.2,λe=>e}
 .rw[Dm e]at q;have e:S.get m y=.int j:=e;have hj:j<S.ts.length:=hj;rw[e];obtain⟨t,a,e6,e7,e8⟩:=h.thing hj;have b8:eE (A.θ.map Yg) (j:Kl)\.ref t:=kW (by rw[bR,e6];rfl);have ax:S.kind j∈W.G.nm:=by
   unfold Rs.kind;have:S.ts.getD (j:Kl).toNat ("",0)=S.ts[j]:=by show S.ts.getD j _=_;rw[fG,bJ hj];rfl
   rw[this];exact X.tn _<|iG hj
  refine{_,U,_,U,bI {_,U,_,U,rn,_,U,gK (Ku "things") h rfl,_,U,A.th,_,_,_,U,U,Yl h.th,b8,t,_,_,_,U,U,Ym e7,U,rn,W.up,_,tr,S.kind j,W.G.ln<|S.kind j,U,h.run,U,h.lm.kp _ _ L.up,L.ok,L.l12,L.ln _ ax,λJ a3=>?_}};have h1:=h.new (o:=.lst<|(W.G.ln<|S.kind j).map Yf) a3;have t1:Tup H (upd H J<|.lst<|(W.G.ln<|S.kind j).map Yf):=Yn a3;have ak:upd H J (.lst<|(W.G.ln<|S.kind j).map Yf) J\(.lst<|(W.G.ln<|S.kind j).map Yf):=zb1;have ao:J≠rn/\J≠A.lo:=⟨(λz=>by rw[z,h.run]at a3;cases a3),λz=>by rw[z,h.lo]at a3;cases a3⟩;clear f1 b8 e7;generalize upd H J (.lst<|(W.G.ln<|S.kind j).map Yf)=H1 at h1 t1 ak ⊢;exists _,U,ra,_,_,_,U,U,Ym<|t1 _ _ a4,U,_,U,J,_,U,.inl<|Yl ak,U,jV _,_,U;show if (!gQ (.str kd) ((W.G.ln<|S.kind j).map Yf))=Ks then _ else _
  rw[lW]
  by_cases ck:kd∈W.G.ln (S.kind j)
  .rw[dP ck];rw[bF ck]at q;refine bI {_,U,rn,_,U,gK (Ku "calls") h1 rfl,U,_,U,bH (λc4=>?_) λc4=>?_}
   .have c4:S.uw=40:=Yh.inj<|cT c4;rw[bF<|Wq c4.symm]at q;refine{_,U,s2,λt N=>{_,U,rn,_,U,DPut.k (k:=(Ku "end":aG)) (h1.new N).run a6,?_}};have g:=h1.endw N "deep" n;exact q A _ _ {g.1,X.less.ends _ _,a2,t1.trans g.2,λe=>e}
   .have c4:S.uw≠40:=λz=>c4 (dP<|by rw[z])
    have av:(c:Kl)+S.uw=40:=av;rw[bC (by lia:¬40<=S.uw)]at q;cases c with
    | zero=>exact absurd (by simpa using av) c4
    | succ c=>
     obtain⟨kvs,ay,bg⟩:=L.tx;obtain⟨i,ee,pt,rl,es,x1,x2,x3,x4,x5,x6,x7,x8⟩:=bg kd d hz _ ax ck;have c1:=L.ps (W.G.an (S.kind j) d) d;have br:=L.po (W.G.an (S.kind j) d) d;have c0:=L.dp (W.G.an (S.kind j) d) d;have bu:=L.l2<|S.kind j;exists _,U,rn,_,U,gK (Ku "calls") h1 U,_,_,U,U,_,U,rn,_,U,DPut.k (k:=(Ku "calls":aG)) h1.run a6;obtain⟨h2,t2⟩:=h1.num (ev':=.non) ⟨dn,{S with uw:=S.uw+1},Kr⟩ rfl h1.le;have ag:=(aC (H:=H1) (o:=.dK<|lF W A ⟨dn,{S with uw:=S.uw+1},Kr⟩ .non) ao.1).trans ak;have I:aL (lF W A ⟨dn,S,Kr⟩ .non) (Ku "calls") (.int<|S.uw+1)=lF W A ⟨dn,{S with uw:=S.uw+1},Kr⟩ .non:=rfl;rw[I];clear I;replace t2:=t1.trans t2;clear ak h1 t1;generalize upd H1 rn (.dK<|lF W A ⟨dn,{S with uw:=S.uw+1},Kr⟩ .non)=H2 at h2 t2 ag ⊢;refine{_,U,J,U,{_,Yl ag},λDl b5=>?_};refine vI (xs:=(W.G.ln<|S.kind j).map Yf) (EV H2 kvs d ra rn Dl<|W.G.ln<|S.kind j) {_,U,Yj b5,zb1} ?_ ?_ ?_
     .rintro i σ Hx _ ⟨_,_,Z,_⟩;exact Yl<|Z _ _ bB ag
     .rintro i v σ Hx hx ⟨_,rfl,Z,ad⟩;rw[bR,wx3]at hx;obtain⟨z,az,rfl⟩:=hx;have bw:=h2.frs Z;refine{_,U,_,U,ra,_,_,_,U,U,Ym<|Z _ _ bB<|t2 _ _ a4,U,s2,λtk ab=>?_};have fk:=Z.trans<|Yj (o:=.tup [.str z,.str d]) ab;have hk:=h2.frs fk;exists _,U,rn,_,U,gK (Ku "texts") hk U,W.tx,_,U,DGet.t (k:=[Ku z,Ku d]) (hk.lm.kp _ _ ay) zb1,_,(aC<|aQ ad ab).trans ad,bM (by rw[aK,eS];lia),_,rfl,fk.put b5;rw[zb1,eY,az,bT];rfl
     .rintro σ H3 ⟨_,rfl,f3,al⟩;rw[aK,AH]at al;obtain⟨i1,i2⟩:=sC (p:=λz=>(aF kvs [Ku z,Ku d]).isSome) x1 (λj z a b=>by rw[x2 j z a b];rfl) (by rw[x4];rfl);refine{.inl {U,_,Yl al},Dl,_,_,U,U,al,U,by simp[iI],i1,by rw[aK];lia,?_};rw[i2];have h3:=h2.frs f3;have t3:=t2.trans<|Yo f3;have b3:=f3 _ _ bB ag;clear h2 t2 ag f3 al i1 i2;exists _,U,rn,_,U,gK (Ku "looks") h3 U,_,U,_,_,U,U,_,_,U,U,_,U,rn,_,U,DPut.k (k:=(Ku "looks":aG)) h3.run a6;obtain⟨h4,t4⟩:=h3.num (ev':=.non) ⟨dn,{S with uw:=S.uw+1,lk:=S.lk+W.G.co (S.kind j) d},Kr⟩ rfl h3.le;have I:aL (lF W A ⟨dn,{S with uw:=S.uw+1},Kr⟩ .non) (Ku "looks") (.int<|S.lk+i+1)=lF W A ⟨dn,{S with uw:=S.uw+1,lk:=S.lk+W.G.co (S.kind j) d},Kr⟩ .non:=by
       rw[x3,<-Kl.add_assoc];rfl
      have a7:=(aC (H:=H3) (o:=.dK<|lF W A ⟨dn,{S with uw:=S.uw+1,lk:=S.lk+W.G.co (S.kind j) d},Kr⟩ .non) ao.1).trans b3;rw[show(({S with uw:=S.uw+1}:Rs).lk+(i:Kl)+1)=S.lk+i+1 from rfl,I];replace t4:=t3.trans t4;clear I b3 h3 t3;generalize upd H3 rn (.dK<|lF W A ⟨dn,{S with uw:=S.uw+1,lk:=S.lk+W.G.co (S.kind j) d},Kr⟩ .non)=H4 at h4 t4 a7 ⊢;have ae:eE ((W.G.ln<|S.kind j).map Yf) 0\(.str<|S.kind j):=by
       have u:=L.ln _ ax;generalize W.G.ln (S.kind j)=l at u;cases u <;> exact fY _ _
      have a1:eE ((W.G.ln<|S.kind j).map Yf) (i:Kl)\(.str<|W.G.an (S.kind j) d):=kW (by rw[bR,x1];rfl);refine{_,U,rn,_,U,gK (Ku "log") h4 rfl,.inl {U,_,Yl h4.lo},_,U,_,U,J,_,_,_,U,U,Yl a7,ae,_,U,_,U,J,_,_,_,U,U,Yl a7,a1,s4,λtl a0=>?_};have h5:=(h4.new (o:=.tup [.str "did",.int n,.str<|S.kind j,.str<|W.G.an (S.kind j) d]) a0).say zb1;exists _,_,_,U,U,(h4.new a0).lo,iD (by rw[aK,<-h4.li.lg.len];have:=X.b1;show S.lg.length<=_;have a2:dn<=W.mo:=a2;have:S.lg.length+12*1<=12*dn:=X.b1;lia);have af:∀o,upd (upd H4 tl<|.tup [.str "did",.int n,.str<|S.kind j,.str<|W.G.an (S.kind j) d]) A.lo o J\(.lst<|(W.G.ln<|S.kind j).map Yf):=λo=>by rw[aC ao.2,aC<|aQ a7 a0];exact a7
      replace t4:=t4.trans<|(Yn a0).trans h5.2;have h5:=h5.1;have af:=af<|.lst<|A.ls.map Yg++[.ref tl];generalize upd (upd H4 tl<|.tup [.str "did",.int n,.str<|S.kind j,.str<|W.G.an (S.kind j) d]) A.lo (.lst<|A.ls.map Yg++[.ref tl])=H5 at h5 t4 af ⊢;clear h4 a7 ae;have a8:=t4 _ _ a4;have ar:=h5.lm.kp _ _ ay;refine{_,U,rn,_,U,gK (Ku "texts") h5 rfl,_,U,_,U,J,_,_,_,U,U,Yl af,a1,_,U,ra,_,_,_,U,U,Ym a8,U,s2,λtk ab=>?_};have h6:=h5.new (o:=.tup [.str<|W.G.an (S.kind j) d,.str d]) ab;have t6:=t4.trans<|Yn (o:=.tup [.str<|W.G.an (S.kind j) d,.str d]) ab;have ap:upd H5 tk (.tup [.str<|W.G.an (S.kind j) d,.str d]) tk\(.tup<|[Ku<|W.G.an (S.kind j) d,Ku d].map kV):=zb1;generalize upd H5 tk (.tup [.str<|W.G.an (S.kind j) d,.str d])=H6 at h6 t6 ap ⊢;clear h5 af a8 ar t4 a1;exists W.tx,_,U,by rw[<-x4];exact DGet.t (h6.lm.kp _ _ ay) ap,ee,_,rfl,Ym<|h6.lm.kp _ _ x5,rfl,_,_,rfl,_,_,rfl,_,_,rfl,rfl;refine{_,U,s2,λto bt=>{s1,λp1 bd=>?_}};have f7:FrS [] H6 (upd (upd H6 to<|.tup [.str "own",.int j]) p1<|.lst [.ref to]):=(Yj bt).trans<|Yj bd;have ac:=(Yn (o:=.lst [.ref to]) bd) _ _<|zb1 (H:=H6) (a:=to) (o:=.tup [.str "own",.int j]);have bc:upd (upd H6 to<|.tup [.str "own",.int j]) p1 (.lst [.ref to]) p1\.lst [.ref to]:=zb1;have h7:=h6.frs f7;have t7:=t6.trans<|Yo f7;generalize upd (upd H6 to<|.tup [.str "own",.int j]) p1 (.lst [.ref to])=H7 at h7 t7 ac bc ⊢;clear h6 t6 ap f7;have a9:=h7.lm.kp _ _ x6;have b4:=t7 _ _ hg;refine{_,U,_,U,ra,_,_,_,U,U,Ym<|t7 _ _ a4,U,pt,g,_,_,U,Ym a9,Ym b4,λD hD=>?_};have bx:↑((W.G.ps (W.G.an (S.kind j) d) d).zip as)<=1000:=by rw[rB];lia
      have bz:=hm;refine Ez (p:=Ks) (xs:=(W.G.ps (W.G.an (S.kind j) d) d).map Yf) (ys:=as.map Yf) (XV S m H7 na D<|(W.G.ps (W.G.an (S.kind j) d) d).zip as) {_,_,[],U,Yj hD,zb1,.nil} ?_ ?_ ?_
      .rintro i σ Hx ⟨_,_,_,_,Z,_⟩;exact{Ym<|Z _ _ bB a9,Ym<|Z _ _ bB b4}
      .rintro i v1 v2 T σ Hx I e2 ⟨_,_,ts,rfl,Z,ad,a5⟩ hT;rw[bR,wx3]at I e2;obtain⟨y1,I,rfl⟩:=I;obtain⟨Y,e2,rfl⟩:=e2;have ez:((W.G.ps (W.G.an (S.kind j) d) d).zip as)[i]?\(y1,Y):=by rw[xW];exact⟨I,e2⟩
       have fT:=Z.trans<|Yj (o:=.tup [.str y1,.str Y]) hT;obtain⟨dd,dq,q1,_,g1,q4,_⟩:=(h7.frs fT).dict hm;have g2:(aF dq<|Ku Y).getD .non=S.get m Y:=by rw[FV (S:=S) q1,q4]
       exists T,_,U,Ym zb1,U,_,_,U,_,_,U,U;exists _,U,_,U,na,U,.inl {_,.inl g1},_,U,_,DGet.k (k:=(Ku Y:aG)) g1;rw[g2];have b7:upd Hx T (.tup [.str y1,.str Y]) D=_:=(aC<|aQ ad hT).trans ad;refine{s2,λt8 aq=>?_};have ah:=(aC (o:=.tup [.str y1,S.get m Y])<|aQ b7 aq).trans b7;refine{_,ah,bM (by rw[aK,a5.len,eS];lia),_,_,ts++[t8],U,(fT.trans<|Yj aq).put hD,by rw[zb1,bT];rfl,?_};rw[eY,ez];exact(a5.imp λa b h=>(Tup.lst ah) _ _<|(Yn aq) _ _<|(Yn hT) _ _ h).snoc<|(Tup.lst ah) _ _ zb1
      .rintro i σ H8 hi ⟨_,_,ts,rfl,f8,ah,a5⟩;rw[aK,aK,<-rB]at hi;rw[hi,fI<|aZ _]at a5;have bn:=f8 _ _ bB bc;have au:=f8 _ _ bB ac;have a0:=a5.len;refine{p1,D,_,_,U,U,bn,ah,cX<|iD (by rw[aK,a0];show 1+_<=_;lia),λp2 ai=>?_};refine{p2,to::ts,(Ku "own",.int j)::((W.G.ps (W.G.an (S.kind j) d) d).zip as).map λz=>((Ku z.1:aG),S.get m z.2),U,Yl zb1,by rw[cN,cN,aK,a0],iD (by rw[cN,aK];lia),λi t kv N aa=>?_,λnd bf=>?_}
       .cases i with
        | zero=>cases N;cases aa;exact Ym<|(Yn ai) _ _ au
        | succ i=>
         obtain⟨z,az,e'⟩:=a5.get N;have aa:(((W.G.ps (W.G.an (S.kind j) d) d).zip as).map λz=>((Ku z.1:aG),S.get m z.2))[i]?\kv:=aa;rw[bR,az]at aa;cases aa;exact Ym<|(Yn ai) _ _ e'
       have h9:=((h7.frs f8).new (o:=.lst<|[Yg to]++ts.map Yg) ai).dic bf<|ZF (S:=S) (m:=m) (as:=as) (j:=j) br;have t9:=((t7.trans<|Yo f8).trans<|Yn (o:=.lst<|[Yg to]++ts.map Yg) ai).trans<|Yn (o:=.dK<|cM []<|(Ku "own",.int j)::((W.G.ps (W.G.an (S.kind j) d) d).zip as).map λz=>((Ku z.1:aG),S.get m z.2)) bf;have be:↑(cM []<|(Ku "own",.int j)::((W.G.ps (W.G.an (S.kind j) d) d).zip as).map λz=>((Ku z.1:aG),S.get m z.2))<=1001:=by
        refine hX (EE _ _) ?_;rw[iY,cN,aK];lia
       generalize cM [] ((Ku "own",.int j)::((W.G.ps (W.G.an (S.kind j) d) d).zip as).map λz=>((Ku z.1:aG),S.get m z.2))=D9 at h9 t9 be ⊢;generalize upd (upd H8 p2<|.lst<|[Yg to]++ts.map Yg) nd (.dK D9)=H9 at h9 t9 ⊢;have b9:=LB.inc (n:=n) (d:=d) (as:=as) (ls:=A.ls++[tl]) (δ:=A.δ++[nd]) X (λx=>(h.got X hm x).choose_spec.2.2) hj be;have am:(A.δ++[nd])[S.ds.length]?\nd:=by
        have e2:S.ds.length=A.ds.length:=h.li.dq.len;rw[e2,<-h.li.dl,jU<|aZ _,qV];rfl
       cases M with
       | zero=>lia
       | succ M=>
        refine{_,U,_,U,_,U,W,tr,rn,rl,nd,{A with ls:=A.ls++[tl],δ:=A.δ++[nd],ds:=A.ds++[D9]},{dn,mJ W.G S n m d as j,Kr},c,S.ds.length,W.G.bo (W.G.an (S.kind j) d) d,es,.non,U,{h9,b9,a2,λ_ _ e=>e,λe=>e},L,x7,x8,by show(c:Kl)+(S.uw+1)=40;lia,∅,am,bq,λO ev' H' g=>?_};have q:∀O ev' H',LR W H rn A O ((dL W c S.ds.length (W.G.bo (W.G.an (S.kind j) d) d) ⟨dn,mJ W.G S n m d as j,Kr⟩).bk x (W.G.gv (W.G.an (S.kind j) d) d) S.ds.length m) ev' H'->Q .non H':=q;have b6:(dL W c S.ds.length (W.G.bo (W.G.an (S.kind j) d) d) ⟨dn,mJ W.G S n m d as j,Kr⟩).S.uw=S.uw+1:=oV (FU c) _ _;generalize dL W c S.ds.length (W.G.bo (W.G.an (S.kind j) d) d) ⟨dn,mJ W.G S n m d as j,Kr⟩=C at g q b6;exists _,U,rn,_,U,gK (Ku "calls") g.a U,_,_,U,U,_,U,rn,_,U,DPut.k (k:=(Ku "calls":aG)) g.a.run a6;obtain⟨aj,b0⟩:=g.a.num (ev':=ev') ⟨C.dn,{C.S with uw:=C.S.uw-1},C.e⟩ rfl g.a.le;have I:aL (lF W O C ev') (Ku "calls") (.int<|C.S.uw-1)=lF W O ⟨C.dn,{C.S with uw:=C.S.uw-1},C.e⟩ ev':=rfl;rw[I];clear I;generalize upd H' rn (.dK<|lF W O ⟨C.dn,{C.S with uw:=C.S.uw-1},C.e⟩ ev')=bl at aj b0 ⊢;obtain⟨di,bi,r1,_,r3,r4,_⟩:=aj.dict<|g.s am;have ba:=g.s<|kF (r:=[nd]) hm;obtain⟨dm,bs,_,Y,y3,_,_⟩:=aj.dict ba;obtain⟨o,o1,o2,o3⟩:∃o,lK bl nd (aY<|W.G.gv (W.G.an (S.kind j) d) d) o/\o.getD .non=C.S.giv S.ds.length (W.G.gv (W.G.an (S.kind j) d) d)/\VOk C.S.ts.length (C.S.giv S.ds.length<|W.G.gv (W.G.an (S.kind j) d) d):=by
         cases W.G.gv (W.G.an (S.kind j) d) d with
         | none=>exact{Kr,{_,.inl r3,.inl ⟨rfl,rfl⟩},U,.inl rfl}
         | some z=>exact{aF bi<|Ku z,{_,.inl r3,.inr {Ku z,U,U}},by rw[r4];exact(FV (S:=C.S) r1).symm,(g.a.got g.b (g.s am) z).choose_spec.2.2}
        have aw:↑bs<sizeLine:=by
         have:=g.b.b2 _<|dC Y;have:=g.b.u0;have:=g.d;exact iD ∅
        exists _,U,nd,U,.inl {_,.inl r3},_,U,o,o1;rw[o2];exists _,U,_,U,ra,_,_,_,U,U,Ym<|b0 _ _<|g.t _ _<|t9 _ _ a4,U,na,_,U,DPut.k (k:=(Ku x:aG)) y3 aw;obtain⟨bj,bp⟩:=aj.put ba y3 x<|C.S.giv S.ds.length<|W.G.gv (W.G.an (S.kind j) d) d;exact q _ ev' _ {bj,LB.bk g.b Y o3 (by rw[b6];have:0<=S.uw:=X.u0;lia),g.d,((t9.trans g.t).trans b0).trans bp,λe=>g.s<|kF e}
  .rw[gE ck];rw[bC ck]at q;refine cK {_,U,s2,λt N=>{_,U,rn,_,U,DPut.k (k:=(Ku "end":aG)) (h1.new N).run a6,?_}};have g:=h1.endw N "unfit" n;exact q A _ _ {g.1,X.less.ends _ _,a2,t1.trans g.2,λe=>e}
def ResAt(H:Hp)(r:Rs×zZ×V)(l:eH):Prop:=∃(e d:eH)(b:Ki eH),H l\.tup [.ref e,.int r.1.lk,.ref d]/\H e\(.tup<|b.map Yg)/\A2 (λx a=>H a\.tup x) r.1.lg b/\H d\.tup [.str r.2.1,r.2.2]
def ResAt.keep(h:ResAt H r l)(f:Tup H H'):ResAt H' r l:=by
 obtain⟨n,a,i,m,j,b,d⟩:=h;exact{n,a,i,f _ _ m,f _ _ j,b.imp λ_ _ e=>f _ _ e,f _ _ d}
def Fl1(l:Ki (Ki V)):Prop:=∀r∈l,↑r<=4/\∀x∈r,iN x x
def Fl1.app(h:Fl1 l)(g:↑r<=4/\∀x∈r,iN x x):Fl1 (l++[r]):=λb a=>(wz2.mp a).elim (h b) λa=>by rw[wx1.mp a];exact g
def pG{s:zZ}:iN (.str s) (.str s):=.inl ⟨s,rfl,rfl⟩
def DL{i:Kl}:iN (.int i) (.int i):=.inr<|.inl ⟨i,rfl,rfl⟩
def nJ(h:iN x x)(g:∀y∈l,iN y y):∀y∈x::l,iN y y:=λy a=>(wx0.mp a).elim (λe=>by rw[e];exact h)<|g y
def NU:∀y∈([]:Ki V),iN y y:=λy a=>nomatch a
def Dq:∀(l:Ki zZ)(S:Rs),Fl1 S.lg->Fl1 (l.foldl Rs.come S).lg:=λl=>l.recOn
 (λS h=>h)
 λk l a S h=>by
  refine a (S.come k) ?_;unfold Rs.come
  split
  .exact h
  .exact h.app ⟨show 2<=4 by decide,nJ pG<|nJ pG NU⟩
def QF{S:Rs}{v:V}{f:Kl->Rs×Kj zZ}(h:Fl1 S.lg)(g:∀j,Fl1 (f j).1.lg):Fl1 (S.thing v f).1.lg:=by
 cases v with
 | int j=>exact g j
 | _=>exact h
def SQ{P:Pg}(S:Rs)(d:Du)(h:Fl1 S.lg):Fl1 (doR P S d).1.lg:=by
 have ite:∀{c:Prop} [Decidable c] {a b:Rs×Kj zZ},Fl1 a.1.lg->Fl1 b.1.lg->Fl1 (if c then a else b).1.lg:=λl i=>by split <;> assumption
 cases d with
 | op m' a r m=>
  cases r with
  | make x k=>exact ite h h
  | copy x y=>exact h
  | put x f y=>exact QF h λj=>h
  | take x y f=>exact QF h λj=>h
  | say w=>exact h.app {show 3<=4 by decide,nJ pG<|nJ DL<|nJ pG NU}
  | bring k=>exact Dq _ S h
 | call m' a x y k d e m=>exact QF h λj=>ite (ite h<|h.app {show 4<=4 by decide,nJ pG<|nJ DL<|nJ pG<|nJ pG NU}) h
 | either m' a p q m=>exact h
 | again m' a p m=>
  show Fl1 (pushN _ _ _ _).lg;rw[(Ju _ _).1];exact h
 | back x g s m=>exact h
def Rn.fl{P:Pg}(t:Rn P mo i S a e v)(h:Fl1 S.lg):Fl1 a.lg/\iN v v:=by
 induction t with
 | done _=>exact{h,.inr<|.inr ⟨rfl,rfl⟩}
 | back _ _ b=>exact b h
 | long _ _ _=>exact⟨h,DL⟩
 | @stop i m S a d r e _ _ j f=>
  have:=SQ (P:=P) {S with td:=r} d h;rw[f]at this;exact⟨this,DL⟩
 | @go i m S l a d r e v _ _ j f _ b=>
  have:=SQ (P:=P) {S with td:=r} d h;rw[f]at this;exact b this
def Al(H:Hp):Kk->V->V->Prop
 | 0=>iN
 | n+1=>λx y=>iN x y\/∃a b d e,x=.ref a/\y=.ref b/\H a\.tup d/\H b\.tup e/\↑d<=100000/\A2 (Al H n) d e
def Al.keep(f:Tup H H'):∀{n:Kk}{x y:V},Al H n x y->Al H' n x y:=by
 intro n
 induction n with
 | zero=>
  exact λh=>h
 | succ n e=>
  intro x y h;obtain h|⟨a,b,r,i,q,l,o,j,m,d⟩:=h
  .exact .inl h
  .exact .inr ⟨a,b,r,i,q,l,f _ _ o,f _ _ j,m,d.imp λ_ _ g=>e g⟩
def Al.row{H:Hp}:∀r:Ki V,(∀x∈r,iN x x)->A2 (Al H 0) r r:=λr=>r.recOn
 (λ_=>.nil)
 λx r b h=>.cons (h x<|.head _)<|b λy a=>h y<|.tail _ a
def Ge(hl:Fl1 l)(h:A2 (λx a=>H a\.tup x) l b)(g:A2 (λx a=>H a\.tup x) l ls'):A2 (Al H 1) (b.map Yg) (ls'.map Yg):=by
 induction h generalizing ls' with
 | nil=>cases g;exact .nil
 | @cons r a l b e t d=>
  cases g with
  | cons f i=>exact .cons (.inr {a,_,r,r,U,U,e,f,by have:=(hl r<|.head _).1;lia,Al.row r (hl r<|.head _).2})<|d (λr j=>hl r<|.tail _ j) i
def xN{r:Rs×zZ×V}(j:↑r.1.lg<=100000)(hl:Fl1 r.1.lg)(f:iN r.2.2 r.2.2)(h:ResAt H r a)(g:ResAt H r b):Al H 3 (.ref a) (.ref b):=by
 obtain⟨w,l,A,z,x,d,s⟩:=h;obtain⟨m,n,u,e,o,q,i⟩:=g;exact .inr {a,b,_,_,U,U,z,e,show 3<=100000 by decide,.cons (.inr ⟨w,m,_,_,rfl,rfl,x,o,by rw[aK,<-d.len];exact j,Ge hl d q⟩)<|.cons (.inl DL)<|.cons (.inr ⟨l,n,_,_,rfl,rfl,s,i,show 2<=100000 by decide,.cons (.inl pG)<|.cons (.inl f) .nil⟩) .nil}
def Rn.uniq{P:Pg}(a:Rn P mo dn S j l i)(b:Rn P mo dn S d e f):j=d/\l=e/\i=f:=by
 have n:∀{j d:Rs}{l e:zZ}{i f:V},(d=j/\e=l/\f=i)->j=d/\l=e/\i=f:=λh=>⟨h.1.symm,h.2.1.symm,h.2.2.symm⟩
 induction a with
 | done h=>exact n<|b.inv.1 h
 | back h _ q=>exact q<|b.inv.2.1 _ _ _ _ _ h
 | long h o m=>exact n<|(b.inv.2.2 _ _ _ h o).1 m
 | stop h o m r=>exact n<|(b.inv.2.2 _ _ _ h o).2 m _ _ r
 | go h o m r _ q=>exact q<|(b.inv.2.2 _ _ _ h o).2 m _ _ r
abbrev NN:Kd:=top 68
abbrev sO:Ki zZ:=["_law_found","_law_due"]
inductive DB(n:Kk)(vs:Ki V)(H:Hp)(Q:VK):Prop
 | mk(x y:V)(h1:vs=[x,y])(h2:Al H n x y)(h3:∀H',FrS [] H H'->Q (.bl Ks) H'):DB n vs H Q
def nN(n:Kk):Sp:=λvs H Q _=>DB n vs H Q
def qY:Kk->Sp
 | 0=>λ_ _ _ _=>Kn
 | n+1=>nN n
inductive KP(H:Hp)(D:eH)(i:Kk)(σ:St)(Hx:Hp):Prop
 | mk(x y:Kj V)(hσ:σ=[x,y])(fr:FrS [] H Hx)(hD:Hx D\(.lst<|(Lf i Ks).map V.bl)):KP H D i σ Hx
def sE:bX sO sO (bP NN):=cF
def XY{k n:Kk}(F:Fun K "_law_same" "_law_same" NN f fd)(T:aV P w K mg base k "_law_same" sO (qY n))(d:mg "isinstance"=Kr)(mt:mg "tuple"=Kr)(L:mg "bool"=Kr)(ms:mg "str"=Kr)(mn:mg "int"=Kr)(G:mg "len"=Kr)(a4:mg "all"=Kr)(mz:mg "zip"=Kr):aS P w K mg base bO (k+1) f fd sO (nN n):=by
 refine F.ok sE (λvs H Q E h=>?_) λab A outer s H vs Q E hr h=>?_
 .obtain⟨x,y,rfl,_⟩:=h;rfl
 obtain⟨x,y,rfl,h,q⟩:=h;have X:(["_law_one","_law_other"]:Ki zZ).Nodup:=by rfl'
 exists _,aJ (cG (zC<|eM vE rfl d (by rfl')<|aA (pv 1)<|aA (wL (v:=.ty "tuple") rfl mt (by rfl') U) aE)
   (aR (bQ (FS (eM vE rfl d (by rfl')<|aA (pv 0)<|aA (wL (v:=.ty "tuple") rfl mt (by rfl') rfl) aE)
    (FS (mY eA (eM jE rfl G iW<|aA (pv 0) aE) (eM jE rfl G iW<|aA (pv 1) aE)<|cI _) (MP (eM (Dg rfl) rfl a4 (by rfl') (aA (iQ (N':=["_law_one","_law_other"]) (src:=[Kr,Kr]) rfl fJ (PP (p:=Ks) rfl mz<|aA (pv 0)<|aA (pv 1) aE)
     (g:=fC K 2<|eR (cJ 0)<|eR (cJ 1) eV) (λ_ _ _ _=>dS (n:=2) rfl<|bK (gL 0 X)<|bK (gL 1 X) dX)
     (λ_ _ _ _=>gW) (te:=gD (qY n) [] E0<|bG (aI 0)<|bG (aI 1) bE) (λ_ _ _ _=>bD T hr rfl<|aA (pv 0)<|aA (pv 1) aE)) aE))))))) cS)
  (aJ (cG (gO<|kL<|pv 1) (aR<|bQ<|NF<|kL<|pv 0) cS) (aJ (cG (zC<|eM vE rfl d (by rfl')<|aA (pv 1)<|aA (wL (v:=.ty "bool") rfl L (by rfl') rfl) aE) ZJ cS)
  (aJ (cG (zC<|eM vE rfl d (by rfl')<|aA (pv 1)<|aA (wL (v:=.ty "str") rfl ms (by rfl') rfl) aE)
   (aR<|bQ<|FS (eM vE rfl d (by rfl')<|aA (pv 0)<|aA (wL (v:=.ty "str") rfl ms (by rfl') rfl) aE)<|MP<|mY eA (pv 0) (pv 1)<|cI _) cS)
  (aR (bQ (FS (eM vE rfl d (by rfl')<|aA (pv 0)<|aA (wL (v:=.ty "int") rfl mn (by rfl') rfl) aE)
   (FS (wD<|eM vE rfl d (by rfl')<|aA (pv 0)<|aA (wL (v:=.ty "bool") rfl L (by rfl') rfl) aE)<|MP<|mY eA (pv 0) (pv 1)<|cI _)))))))
 ac_rfl
 have C:=q H FrS.refl;have e:iN x y\/∃m,n=m+1/\∃a b xs ys,x=.ref a/\y=.ref b/\H a\.tup xs/\H b\.tup ys/\↑xs<=100000/\A2 (Al H m) xs ys:=by
  cases n with
  | zero=>exact .inl h
  | succ n=>exact h.imp id λh=>⟨n,rfl,h⟩
 obtain(⟨z,rfl,rfl⟩|⟨z,rfl,rfl⟩|⟨rfl,rfl⟩)|⟨m,rfl,a,b,xs,ys,rfl,rfl,ha,hb,hxl,hA⟩:=e
 .exists _,rfl,_,_,_,Kt,rfl,.str z,by first | rfl | rfl',_,rfl;exists _,U,_,U;exists _,U,_,_,_,Kt,U,.str z,by first | rfl | rfl',_,U;exists _,U,_,_,_,Ks,U,.str z,U,_,U;exists _,U,_,_,_,Ks,U,.str z,U,_,U;exists _,U,_,U,U;show Q (.bl<|decide<|Yf z=Yf z) H;rw[dP rfl];exact C
 .exists _,rfl,_,_,_,Kt,rfl,.int z,by first | rfl | rfl',_,rfl;exists _,U,_,U;exists _,U,_,_,_,Kt,U,.int z,by first | rfl | rfl',_,U;exists _,U,_,_,_,Kt,U,.int z,by first | rfl | rfl',_,U;exists _,U,_,_,_,Ks,U,.int z,U,_,U;exists _,U,_,_,_,Kt,U,.int z,by first | rfl | rfl',_,U,_,U;exists _,U,_,U,U;show Q (.bl<|decide<|Yh z=Yh z) H;rw[dP rfl];exact C
 .exists _,rfl,_,_,_,Kt,rfl,.non,by first | rfl | rfl',_,rfl;refine{_,U,_,U,cK {_,U,?_}};exact C
 .have a1:=hA.len;exists _,U,_,_,_,Ks,U,.tup hb,by first | rfl | rfl',_,U;exists _,U,_,_,_,Ks,U,.tup ha,by first | rfl | rfl',_,U;exists _,U,a,_,U,.inr<|Ym ha,_,U,b,_,U,.inr<|Ym hb,U,_,U;show if (decide<|Yh (↑xs:Kk)=Yh (↑ys:Kk))=Ks then _ else _
  rw[bF<|by rw[a1];simp];refine{_,U,_,U,a,b,_,_,U,Ym ha,Ym hb,λD O=>?_};exists λi m' σ j=>m'=↑xs-i/\i<=↑xs/\KP H D i σ j,{_,U,bW _,_,_,U,(FrS.refl).put O,zb1};rintro i m' σ j ⟨rfl,hi,⟨x0,y0,rfl,fr,o⟩⟩;have u:SqT K j a xs:=Ym<|Yo fr _ _ ha;have B:SqT K j b ys:=Ym<|Yo fr _ _ hb
  by_cases I:i<↑xs
  .have r:xs[i]?=Kp xs[i]:=bJ I;obtain⟨M,W,N⟩:=hA.get r;refine .inr {{_,_,_,_,u,B,r,W},KP H D<|i+1,λσ' H' h=>{_,∅,U,I,h},λv H' yl=>?_};obtain⟨J,x,y,e,rfl,rfl,y1,y2⟩:=yl;have Z:=y1 _ u;rw[r]at Z;have l:=y2 _ B;rw[W]at l;have aa:xs[i]=x:=gX Z;have a9:M=y:=gX l;subst a9;rw[aa]at N;have a8:D≠J:=aQ o e;exists J,_,U,Ym zb1,U,_,_,U,_,_,U,U;refine{_,U,_,U,x,M,U,N.keep<|(Yo fr).trans<|Yn e,λHz Y=>{_,Y _ _ bB (by rw[aC a8];exact o),?_,{_,_,U,((fr.trans<|Yj e).trans Y).put O,?_}}}
   .rw[aK,Rv];exact FZ ∅
   .rw[zb1,Ki.replicate_succ',bT];rfl
  .refine .inl ⟨⟨_,_,u,B,.inl ∅⟩,D,Lf i Ks,rfl,Yl o,?_⟩;have l:(Lf i Ks).all id=true:=by rw[vc8];intro x hx;exact(Ki.mem_replicate.mp hx).2
   rw[l];exact q j fr
abbrev uM:Kd:=top 75
abbrev kS(hr:Ki zZ):Rs:=Rs.dic ⟨[],[],[],[],0,0,0,hr⟩ []
def Eh(P:Pg)(mo:Kk)(hr:Ki zZ):∃F e v,Rn P mo 0 (vL P hr) F e v/\F.lg=(eO P mo (mC P mo 40) 0 (P.bo "" "") ⟨0,kS hr,Kr⟩).S.lg/\F.lk=(eO P mo (mC P mo 40) 0 (P.bo "" "") ⟨0,kS hr,Kr⟩).S.lk/\(((eO P mo (mC P mo 40) 0 (P.bo "" "") ⟨0,kS hr,Kr⟩).e=Kr/\e="done"/\v=.non)\/∃n:Kk,(eO P mo (mC P mo 40) 0 (P.bo "" "") ⟨0,kS hr,Kr⟩).e\(e,n)/\v=.int n):=by
 have s:=Jh P mo 40 (P.bo "" "") 0 ⟨0,kS hr,Kr⟩ rfl rfl;generalize eO P mo (mC P mo 40) 0 (P.bo "" "") ⟨0,kS hr,Kr⟩=a at s ⊢;cases h:a.e with
 | none=>
  obtain⟨_,g⟩:=s.go h;exact{a.S.at [],"done",.non,g [] _ _ _<|.done rfl,U,U,.inl ⟨rfl,rfl,rfl⟩}
 | some z=>
  obtain⟨e,n⟩:=z;obtain⟨F,f,d,b⟩:=s.st e n h [];exact{F,e,.int n,b,f,d,.inr ⟨n,rfl,rfl⟩}
inductive qM(Y:Ry)(vs:Ki V)(H:Hp)(Q:VK):Prop
 | mk(R:Rx Y)(ch:eH)(ks:Ki (zZ×Ki Dz))(m0:Dz)(tr:Tr)(late:Ki zZ)(Ls:Ki LL)(k' mo:Kk)(h1:vs=[.ref R.pg,.ref ch,.int mo])(h2:EI R H ks m0 tr late Ls k')(h3:H ch\(.tup<|R.G.ch.map Yh))(h4:FrS [] R.H0 H)(h5:∀k d,R.Z k (Kp d)->d≠"")(h6:mo<=1000)
  (q:∀(pr l:eH)(d:V)(S':Rs)(e:zZ)(v:V)(H':Hp),FrS [] H H'->H' pr\.tup [.ref l,d]->Rn R.G mo 0 (vL R.G<|hr0 tr late) S' e v->ResAt H' (S',e,v) l->S'.lg.length<=24000->Q (.ref pr) H'):qM Y vs H Q
def OU(Y:Ry):Sp:=λvs H Q _=>qM Y vs H Q
def KindsAt.uq(a:KindsAt H p tr)(b:KindsAt H p tr'):tr=tr':=by
 obtain⟨C,us,x,y,s,q,f,m⟩:=a;obtain⟨G,A,B,E,l,j,u,n⟩:=b;rw[s]at l;cases l;rw[q]at j;have:=yI<|HO.tup.inj<|gX j;subst this;refine Ki.ext_getElem (f.symm.trans u) λi J M=>?_;have h:i<↑us:=by rw[f];exact J
 obtain⟨v,e⟩:=m i _ _ (bJ h)<|bJ J;obtain⟨I,d⟩:=n i _ _ (bJ h)<|bJ M;rw[e]at d;injection d with d;injection d with d;injection d with e1 e2;injection e2 with e2 _;generalize tr[i]=z at e1 e2;generalize tr'[i]=r at e1 e2;obtain⟨k,o⟩:=z;obtain⟨w,L⟩:=r;obtain rfl:k=w:=Yf.inj e1;cases o <;> cases L <;> first | rfl | cases e2;rfl | cases e2
def FA{a:Kq}(h:fV a n d\g):((n,d),g)∈fl a:=by
 obtain⟨z,f,e⟩:=Ki.exists_of_findSome?_eq_some h
 split at e
 .rename_i c
  obtain⟨w,b,rfl⟩:=wx3.mp e;have hd:w.1=d:=by simpa using rT b
  exact Ki.mem_flatMap.mpr {z,f,wx6.mpr {w,pJ b,by rw[c,hd]}}
 .cases e
def EU{a:Kq}(h:(fV a n d).isSome=Kt):(n,d)∉(fl a).map (·.1):=by
 intro f;obtain⟨p,l,e⟩:=wx6.mp f;obtain⟨z,m,l⟩:=Ki.mem_flatMap.mp l;obtain⟨w,j,rfl⟩:=wx6.mp l;obtain⟨i,b⟩:=Tp e;have:=Ki.findSome?_eq_none_iff.mp (Kj.isSome_eq_false_iff.mp h |> Kj.isNone_iff_eq_none.mp) z m;rw[bF i,Kj.map_eq_none_iff]at this;exact absurd (dP b) (by simpa using vn1.mp this w j)
def xM{l:Ki zZ}{i:Kk}{f:zZ}(nd:l.Nodup)(h:l[i]?\f):(↑l:Kl)-(ixV (.str f) (l.reverse.map Yf):Kk)=i+1:=by
 obtain⟨b,rfl⟩:=ww4.mp h;have e:ixV (.str l[i]) (l.reverse.map Yf)=↑l-1-i:=by
  refine(Vd<|by rw[aK,iR];lia).mpr {?_,λj a=>?_}
  .rw[Nj,Sr];simp only[show l.length-1-(↑l-1-i)=i by lia];exact beq_self_eq_true l[i]
  .rw[Nj,Sr];refine vh3.mpr λz=>?_;have:=(yY nd).mp z;lia
 rw[e];lia
def wm7:bX ["_law_program_here","_law_choices_here","_law_most","_law_run","_law_end"] hH (bP uM):=cF
def xJ{Y:Ry}{k:Kk}(F:Fun K "_law_ran" "_law_ran" uM f fd)(NW:aV P w K mg base k "_law_new_run" hH NR)(DO:aV P w K mg base k "_law_do" jF (GY 245))(al:mg "tuple"=Kr):aS P w K mg base bO (k+1) f fd hH (OU Y):=by
 refine F.ok wm7 (λvs H Q E h=>?_) λb2 A outer s H vs Q E hr h=>?_
 .obtain⟨R,ch,ks,m0,tr,m,Ls,k',mo,rfl,_⟩:=h;rfl
 obtain⟨⟨Z,au,p,G⟩,ch,ks,m0,tr,m,Ls,k',mo,rfl,B,am,hF,ap,av,q⟩:=h;obtain⟨ao,kq,hp⟩:=B.pg;have t0:=Yo hF;obtain rfl:tr=ao:=B.k.uq<|hp.kn.keepT t0;have as:=B.nm;have b5:=hp.l12;have hu:=eN hr;exists _,aJ (sL 3 wm7.nd<|bD NW hr rfl<|aA (pv 0)<|aA (pv 1)<|aA (pv 2) aE)
  (aJ (dH<|bD DO hr rfl<|aA (pv 3)<|aA (eT (bU hu (bU hu (pv 3) aX λ_ _=>U) (bZ<|EF<|EF aE) λ_ _=>U) aO)<|aA mR aE)<|aJ (sL 4 wm7.nd<|BG (gO<|kL<|bU hu (pv 3) aX λ_ _=>U) (bZ<|aA aX<|aA gI aE)<|bU hu (pv 3) aX λ_ _=>U)<|aR<|bQ<|bZ<|aA (bZ<|aA (fF jA rfl al (by rfl')<|aA (bU hu (pv 3) aX λ_ _=>U) aE)<|aA (bU hu (pv 3) aX λ_ _=>U)<|aA (pv 4) aE)<|aA (cE kP (pv 2)<|bU hu (pv 3) aX λ_ _=>U) aE)
 ac_rfl
 have s2:2<=sizeLine:=cX (bM<|by decide);have s3:3<=sizeLine:=cX (bM<|by decide);refine{_,U,_,U,_,U,Z,p,ch,ks,m0,tr,m,Ls,k',mo,G,kq,U,B.p,B.k,B.l,hp.ok,hp.l12,B.b,B.k6,am,hp.dq.keep t0,hp.fn,λq=>(B.bo q.1 q.2).symm,λrn W N kvs H1 f1 ag ar aj az hδ aq hL ax aa hT hN=>?_};subst ar aj az;obtain⟨e,rl,b4,b3,es,ai,he,ay,_,b0,_⟩:=hT sQ<|.inl rfl;have hW:nF W tr:=by
  refine{ax,hp.ok,hp.l12,hp.ln,B.pz.nm,B.pz.ln,hp.ch,hp.z0,B.pz.po,B.pz.ps,B.pz.dp,kvs,aa,λk d hz x hx hk=>?_};obtain⟨g,pt,v,c1,c2,c3,c4,c5,c6,c7,c8⟩:=hp.ca k d hz x hx hk;have hg:=FA c2;obtain⟨ee,rl,pv,gv,es,h1,h2,h3,_,h5,h6⟩:=hT (W.G.an x d,d)<|.inr<|wx6.mpr ⟨_,hg,rfl⟩;obtain⟨s',v',O⟩:=h6 g hg;have k0:∀{b:eH}{o:HO},au b\o->W.H0 b\o:=λe=>ag _ _ bB<|hF _ _ bB e;have u:=(k0 c3).symm.trans O;injection u with u;injection u with u;injection u with _ u;injection u with a1 u;injection u with _ u;injection u with a2 _;obtain⟨_,i,hi,e,mn⟩:=Ki.find?_eq_some_iff_getElem.mp c1;have ae:(W.G.ln x)[i]?\W.G.an x d:=by rw[bJ hi];exact cH Kp e
  refine{i,ee,pt,rl,es,ae,λj z hj aw=>hN (z,d) (λe=>ap k d hz (Tp e).2)<|EU ?_,?_,h1,by rw[h2,<-a1,<-a2],k0 c4,h3,h5}
  .have:=mn j hj;obtain⟨b6,rfl⟩:=ww4.mp aw;simpa using this
  .rw[c6];unfold jD;have c1:dN kq d (W.G.ln x)\W.G.an x d:=c1;rw[show dN kq d (W.G.ln x)=Kp (W.G.an x d) from c1];exact xM (Up.nd hp.ok<|hp.ln x hx) ae
 have ah:↑(hr0 tr m)<=12:=by
  unfold hr0;have:=tZ (λx=>decide<|x∉m)<|tr.map (·.1);rw[aK]at this;lia
 have J:∀{H':Hp}{r:La}{I:Ts}{ev' v:V}(X:aG),LAt W H' rn r I ev'->aF (lF W r I ev') X\v->DGet H' rn (kV X) (Kp v):=λX g e=>by rw[<-e];exact DGet.k g.run
 have kp:=hL.lm.kp;refine{_,U,_,U,rn,_,U,J (Ku "texts") hL rfl,s2,λkt ad=>?_};have a8:=hL.new (o:=.tup [.str "",.str ""]) ad;have k1:upd H1 kt (.tup [.str "",.str ""]) kt\.tup [.str "",.str ""]:=zb1;have f2:FrS [] H (upd H1 kt<|.tup [.str "",.str ""]):=f1.trans<|Yj ad;generalize upd H1 kt (.tup [.str "",.str ""])=H2 at a8 k1 f2;have ac:=a8.lm.kp;refine{W.tx,_,U,by rw[<-ai];exact DGet.t (k:=kM) (ac _ _ aa) k1,e,_,_,_,U,U,Ym<|ac _ _ he,U,λna ak=>?_};have af:=a8.dic (b:=na) (d:=[]) (d':=[]) ak λ_=>rfl;generalize upd H2 na (.dK [])=H3 at af;have hb:LB W {N with δ:=N.δ++[na],ds:=N.ds++[[]]} ⟨0,kS<|hr0 tr m,Kr⟩ 0:=by
  have d0:∀d∈N.ds++[([]:Ki (aG×V))],d=[]:=λd hd=>by
   rw[aq]at hd;exact wx1.mp hd
  refine{λd hd=>?_,aZ _,λd hd=>by rw[d0 d hd];show(0:Kl)+0+2*0<=1001+2*0;decide,aZ _,by show(hr0 tr m).length+12*0<=12+12*0;lia,as,(λz hz=>nomatch hz),Qb _,Qb _};have:d=[]:=wx1.mp hd;rw[this];exact λz hz=>nomatch hz
 refine{W,tr,rn,rl,na,{N with δ:=N.δ++[na],ds:=N.ds++[[]]},{0,kS<|hr0 tr m,Kr},40,0,W.G.bo "" "",es,.non,U,{af,hb,bW _,λ_ _ e=>e,λe=>e},hW,ay,b0,U,by have:=hW.dp "" "";lia,by show(N.δ++[na])[0]?=_;rw[hδ];rfl,av,λr ev' H4 g=>?_};obtain⟨F',e',v',t,g1,g2,g3⟩:=Eh W.G W.mo<|hr0 tr m;have f4:FrS [] H H4:=λb o n e=>g.a.lm.kp b o<|ag b o n e;obtain⟨gL,gB,gd,_,_⟩:=g;have ab:F'.lg.length<=24000:=by
  have:=gB.b1;rw[g1];show(dL W 40 0 (W.G.bo "" "") ⟨0,kS<|hr0 tr m,Kr⟩).S.lg.length<=_;lia
 have a6:=gL.le;rw[<-show dL W 40 0 (W.G.bo "" "") ⟨0,kS<|hr0 tr m,Kr⟩=eO W.G W.mo (mC W.G W.mo 40) 0 (W.G.bo "" "") ⟨0,kS<|hr0 tr m,Kr⟩ from rfl]at g1 g2 g3;generalize dL W 40 0 (W.G.bo "" "") ⟨0,kS<|hr0 tr m,Kr⟩=I at gL gB gd a6 g1 g2 g3;exists _,U,rn,_,U,J (Ku "end") gL U,_,U;obtain⟨z1,z2,z3⟩|⟨n,z1,z2⟩:=g3
 .rw[z1]at a6;cases a6;refine cK {s2,λC a9=>?_};have L:=gL.new (o:=.tup [.str "done",.non]) a9;have f5:=f4.trans<|Yj (o:=.tup [.str "done",.non]) a9;have e5:upd H4 C (.tup [.str "done",.non]) C\.tup [.str "done",.non]:=zb1;generalize upd H4 C (.tup [.str "done",.non])=H5 at L f5 e5;subst z2 z3;refine{_,U,rn,_,U,J (Ku "log") L rfl,r.lo,_,U,.inl {Yl L.lo,λtl T=>?_}};have M:=L.new (o:=.tup<|r.ls.map Yg) T;have f6:=f5.trans<|Yj (o:=.tup<|r.ls.map Yg) T;have O:upd H5 tl (.tup<|r.ls.map Yg) tl\(.tup<|r.ls.map Yg):=zb1;have u:=(Yn (o:=.tup<|r.ls.map Yg) T) _ _ e5;generalize upd H5 tl (.tup<|r.ls.map Yg)=H6 at M f6 O u;refine{_,U,rn,_,U,J (Ku "looks") M rfl,_,U,s3,λl hl=>?_};have a7:=M.new (o:=.tup [.ref tl,.int I.S.lk,.ref C]) hl;refine{_,U,_,U,rn,_,U,J (Ku "left") a7 rfl,_,_,U,U,s2,λpr a5=>?_};have tt:=(Yn (o:=.tup [.ref tl,.int I.S.lk,.ref C]) hl).trans<|Yn (o:=.tup [.ref l,.int<|(W.mo:Kl)-((W.mo:Kl)-I.dn)]) a5;refine q pr l _ F' _ _ _ ((f6.trans<|Yj hl).trans<|Yj a5) zb1 t {tl,C,r.ls,?_,tt _ _ O,?_,tt _ _ u} ab
  .rw[g2];exact(Yn a5) _ _ zb1
  .rw[g1];exact(M.li.lg.imp λ_ _ h=>tt _ _ h)
 .rw[z1]at a6;cases a6 with
  | @«end» _ _ C e5=>
  have L:=gL;have f5:=f4;refine bI {_,U,rn,_,U,J (Ku "end") gL rfl,?_};subst z2;generalize H4=H5 at L f5 e5;refine{_,U,rn,_,U,J (Ku "log") L rfl,r.lo,_,U,.inl {Yl L.lo,λtl T=>?_}};have M:=L.new (o:=.tup<|r.ls.map Yg) T;have f6:=f5.trans<|Yj (o:=.tup<|r.ls.map Yg) T;have O:upd H5 tl (.tup<|r.ls.map Yg) tl\(.tup<|r.ls.map Yg):=zb1;have u:=(Yn (o:=.tup<|r.ls.map Yg) T) _ _ e5;generalize upd H5 tl (.tup<|r.ls.map Yg)=H6 at M f6 O u;refine{_,U,rn,_,U,J (Ku "looks") M rfl,_,U,s3,λl hl=>?_};have a7:=M.new (o:=.tup [.ref tl,.int I.S.lk,.ref C]) hl;refine{_,U,_,U,rn,_,U,J (Ku "left") a7 rfl,_,_,U,U,s2,λpr a5=>?_};have tt:=(Yn (o:=.tup [.ref tl,.int I.S.lk,.ref C]) hl).trans<|Yn (o:=.tup [.ref l,.int<|(W.mo:Kl)-((W.mo:Kl)-I.dn)]) a5;refine q pr l _ F' _ _ _ ((f6.trans<|Yj hl).trans<|Yj a5) zb1 t {tl,C,r.ls,?_,tt _ _ O,?_,tt _ _ u} ab
  .rw[g2];exact(Yn a5) _ _ zb1
  .rw[g1];exact(M.li.lg.imp λ_ _ h=>tt _ _ h)
abbrev uW:Kd:=top 67
def FrS.old1(f:FrS [a] H H')(h:H' a\o)(hp:H' p=Kr):H p=none:=f.old (λb d=>by
 have:b=a:=by simpa using d
 subst this;exact{_,h}) hp
inductive pB(vs:Ki V)(H:Hp)(Q:VK):Prop
 | mk(hd:eH)(d m t r:Kl)(h1:vs=[.ref hd])(h2:Hand H hd d m t r)(h3:t<=20000)(h4:∀(ch:eH)(cs:Ki Kl)(H':Hp)(d' m' t':Kl),FrS [hd] H H'->H' ch\(.tup<|cs.map Yh)->(∀c∈cs,-100<=c)->Hand H' hd d' m' t' r->t'<=t+12->Q (.ref ch) H'):pB vs H Q
def NA:Sp:=λvs H Q _=>pB vs H Q
inductive XO(H:Hp)(hd Dl:eH)(t r:Kl)(i:Kk)(σ:St)(Hx:Hp):Prop
 | mk(x:Kj V)(cs:Ki Kl)(dx mx tx:Kl)(h1:σ=[x,Kp<|.ref hd])(h2:FrS [hd] H Hx)(h3:Hand Hx hd dx mx tx r)(h4:tx<=t+1+i)(h5:Hx Dl\(.lst<|cs.map Yh))(h6:↑cs=i)(h7:∀c∈cs,-100<=c)
def AN:bX [qH] [qH] (bP uW):=cF
def tW{k:Kk}(F:Fun K "_law_choices" "_law_choices" uW f fd)(T:aV P w K mg base k "_law_take" qB gY)(O:aV P w K mg base k "_law_of" qC (dB K))(mr:mg "range"=Kr)(ac:mg "tuple"=Kr):aS P w K mg base bO (k+1) f fd [qH] NA:=by
 refine F.ok AN (λvs H Q E h=>?_) λah A outer s H vs Q E hr h=>?_
 .obtain⟨hd,d,m,t,r,rfl,_⟩:=h;rfl
 obtain⟨hd,d,m,t,r,rfl,hh,ht,q⟩:=h;have ad:(["_law_k",qH]:Ki zZ).Nodup:=by rfl'
 exists _,aR (bQ (fF jA rfl ac (by rfl') (aA (iQ (N':=["_law_k",qH]) (src:=[Kr,Kp 0]) rfl fJ (mX rfl mr<|aA (bD T hr rfl<|aA (pv 0)<|aA aO aE) aE) (g:=cJ 0) (λ_ _ _ _=>gL 0 ad) (λ_ _ _ _=>gW)
  (te:=gD (dB K) [] E0<|bG (aI 1)<|bG (jG<|bG (tC<|.int 0)<|bG (tC<|.int 1)<|bG (tC<|.int 1)<|bG (tC<|.int 2)<|bG (tC<|.int 3)<|bG (tC<|.int 12)<|bG (JT (rU λi=>.int<|-i)<|tC<|.int 1)<|bG (tC<|.int 0) bE) bE)
  (λ_ _ _ _=>bD O hr rfl<|aA (pv 1)<|aA (cU<|aA aO<|aA aO<|aA aO<|aA aO<|aA aO<|aA aO<|aA (nH nW aO)<|aA aO aE) aE)) aE)))
 ac_rfl
 refine{_,U,hd,d,m,t,r,9,U,hh,∅,by decide,by decide,λx I l G x0 x1 c1 e1=>?_};have f1:FrS [hd] H (upd H hd<|hl I l G r):=Yk<|.head _;have L:Hand (upd H hd<|hl I l G r) hd I l G r:=Hand.at c1;generalize upd H hd (hl I l G r)=H1 at f1 L;refine{x,U,∅,∅,λa N=>?_};have aa:a≠hd:=λz=>by rw[z,L.1]at N;cases N
 have ab:H a=none:=FrS.old1 f1 L.1 N;refine OQ (lo:=0) (n:=x.toNat) (XO H hd a t r) {_,[],I,l,G,U,f1.put ab,L.new N,∅,zb1,U,λc hc=>nomatch hc} ?_ ?_
 .rintro i σ Z hi ⟨_,u,dx,mx,tx,rfl,fx,X,ae,Y,a9,a7⟩;refine{_,U,_,U,cX<|bM (by show 8<=_;decide),λC B=>?_};have ag:C≠hd:=λz=>by rw[z,X.1]at B;cases B
  have af:=X.new (o:=.lst [.int 0,.int 1,.int 1,.int 2,.int 3,.int 12,.int<|-1,.int 0]) B;refine{hd,C,dx,mx,tx,r,_,U,af,∅,ag,Yl zb1,by simp,by show 8<1000;decide,λy j e b hy c2 e2=>?_};obtain⟨c,rfl,hc⟩:∃c:Kl,y=.int c/\-100<=c:=by
   simp only[wx0,bB,dO]at hy;obtain rfl|rfl|rfl|rfl|rfl|rfl|rfl|rfl:=hy <;> exact{_,U,by decide}
  have M:FrS [hd] H (upd (upd Z C<|.lst [.int 0,.int 1,.int 1,.int 2,.int 3,.int 12,.int<|-1,.int 0]) hd<|hl j e b r):=(fx.trans<|Yj B).put'<|.head _;have W:Hand (upd (upd Z C<|.lst [.int 0,.int 1,.int 1,.int 2,.int 3,.int 12,.int<|-1,.int 0]) hd<|hl j e b r) hd j e b r:=Hand.at c2;have J:upd (upd Z C<|.lst [.int 0,.int 1,.int 1,.int 2,.int 3,.int 12,.int<|-1,.int 0]) hd (hl j e b r) a\(.lst<|u.map Yh):=by rw[aC aa,aC<|aQ Y B];exact Y
  refine(λ(key:∀H2:Hp,FrS [hd] H H2->Hand H2 hd j e b r->H2 a\(.lst<|u.map Yh)->∃ys,H2 a\.lst ys/\↑ys<sizeLine/\XO H hd a t r (i+1) [Kp<|Yh<|0+i,Kp<|.ref hd] (upd H2 a<|.lst<|ys++[Yh c]))=>key _ M W J) ?_;clear M W J;intro H2 M W J;refine{_,J,bM (by rw[aK];lia),_,u++[c],j,e,b,U,M.put ab,{(aC<|bS aa).trans W.1,c2},∅,by rw[zb1,bT];rfl,by rw[bN,a9];rfl,λz hz=>?_};obtain hz|hz:=wz2.mp hz
  .exact a7 z hz
  .rw[wx1.mp hz];exact hc
 .rintro σ Z ⟨_,u,dx,mx,tx,rfl,fx,X,ae,Y,a9,a7⟩;refine{a,_,U,.inl {Yl Y,λch a8=>?_}};exact q ch u _ dx mx tx (fx.trans<|Yj a8) zb1 a7 (X.new a8) ∅
abbrev jL:Kd:=top 76
inductive rE(K:Fq)(vs:Ki V)(H:Hp)(Q:VK):Prop
 | mk(a:eH)(ns:Ki Kl)(h1:vs=[.ref a])(h2:SqL K H a (ns.map Yh))(h3:↑ns<=63)(h4:∀H',Q (.bl Ks) H'):rE K vs H Q
def HL(K:Fq):Sp:=λvs H Q _=>rE K vs H Q
inductive DF(K:Fq)(a:eH)(ns:Ki Kl)(i:Kk)(σ:St)(Hx:Hp):Prop
 | mk(x1 x2 x3 x4 x5:Kj V)(h1:σ=[Kp<|.ref a,x1,x2,x3,x4,x5])(h2:SqL K Hx a (ns.map Yh)):DF K a ns i σ Hx
inductive TD(H1:Hp)(hd:eH)(xs:Ki (Kj V))(i:Kk)(σ:St)(Hx:Hp):Prop
 | mk(x y:Kj V)(d m t r:Kl)(hσ:σ=xs++[x,y])(fr:FrS [hd] H1 Hx)(hh:Hand Hx hd d m t r)(ht:t<=10000+12*i):TD H1 hd xs i σ Hx
def Ah(h:SqL K H a xs)(f:∀b o,H b\o->H' b\o):SqL K H' a xs:=by
 obtain(h|⟨o,h⟩)|h:=h
 .exact .inl<|.inl<|f _ _ h
 .exact .inl<|.inr ⟨o,f _ _ h⟩
 .exact .inr h
section
variable{Y:Ry}{mg:zZ->Kj iH}{base:Ka}{f:eH}{fd:Ke}
def xb3:bX ["_law_script","_law_k",qH,"_law_program_here","_law_turn","_law_choices_here"] ["_law_script"] (bP jL):=cF
def wI{k:Kk}(F:Fun Y.K "law" "law" jL f fd)(HN:aV Y.pr Y.w Y.K mg base k "_law_hand" ["_law_script","_law_k"] (QK Y.K))(PR:aV Y.pr Y.w Y.K mg base k "_law_program" [qH,"_law_most"] NZ)(CH:aV Y.pr Y.w Y.K mg base k "_law_choices" [qH] NA)(SA:aV Y.pr Y.w Y.K mg base k "_law_same" sO (nN 3))(PL:aV Y.pr Y.w Y.K mg base k "plain_run" ["program","choices","most"] (PM Y))(RA:aV Y.pr Y.w Y.K mg base k "_law_ran" hH (OU Y))
  (ml:mg "len"=Kr) (mr:mg "range"=Kr) (mx:mg "max"=Kr) (mn:mg "min"=Kr):aS Y.pr Y.w Y.K mg base bO (k+1) f fd ["_law_script"] (HL Y.K):=by
 refine F.ok xb3 (λvs H Q E h=>?_) λar A outer s H vs Q E hr h=>?_
 .obtain⟨a,x,rfl,_⟩:=h;rfl
 obtain⟨a,x,rfl,hS,ag,q⟩:=h;exists _,aJ (eU dU rfl (mX rfl mr<|aA (eM (Iy U) rfl mx (by rfl')<|aA aO<|aA (eM (NY U) rfl mn (by rfl')<|aA (eM jE rfl ml iW<|aA (pv 0) aE)<|aA aO aE) aE) aE) (gL 1 xb3.nd)
   (aJ (sL 2 xb3.nd<|bD HN hr rfl<|aA (pv 0)<|aA (pv 1) aE)<|aJ (sL 3 xb3.nd<|bD PR hr rfl<|aA (pv 2)<|aA aO aE)<|aR<|eU dU rfl (mX rfl mr<|aA aO aE) (gL 4 xb3.nd)<|aJ (sL 5 xb3.nd<|bD CH hr rfl<|aA (pv 2) aE)<|aR<|cG (RW<|zC<|bD SA hr rfl<|aA (bD PL hr rfl<|aA (pv 3)<|aA (pv 5)<|aA aO aE)<|aA (eT (bD RA hr rfl<|aA (pv 3)<|aA (pv 5)<|aA aO aE) aO) aE) (aR<|bQ yW) cS))
  (aR<|bQ yW)
 ac_rfl
 exists _,U,a,_,U,.inl hS,_,_,U,_,_,U;obtain⟨z,ak,au⟩:∃z:Kl,(if (if (9:Kl)<((↑(x.map Yh):Kk):Kl) then(9:Kl) else((↑(x.map Yh):Kk):Kl)) > 1 then(if (9:Kl)<((↑(x.map Yh):Kk):Kl) then(9:Kl) else((↑(x.map Yh):Kk):Kl)) else 1)=z/\z<=9/\1<=z:=by
  exists _,U,?_
  .split <;> (try split) <;> lia
  .split <;> (try split) <;> lia
 rw[ak];refine{z,U,∅,∅,?_};refine uB (lo:=0) (n:=z.toNat) (DF Y.K a x) {_,_,_,_,_,U,hS} ?_ λσ B _=>q B;rintro i σ B hi ⟨x1,x2,x3,x4,x5,rfl,ab⟩;refine{_,U,_,U,a,x,i,by rw[Wp];rfl,ab,ag,∅,λhd d m C I=>?_};generalize Yh (0+(i:Kk))=ai;have am:Hand (upd B hd<|hl d m 0 0) hd d m 0 0:=Hand.at I;refine{_,U,hd,80,d,m,0,0,U,by decide,am,by decide,λp ks P tr u Z H1 d1 m1 t1 r1 f1 hP hK al ap aj hN hh ht=>?_};have k3:∀b o,B b\o->H1 b\o:=λb o e=>f1 b o (by simpa using aQ e C) (by rw[aC<|aQ e C];exact e)
 refine{4,U,by decide,by decide,?_};refine uB (lo:=0) (n:=4) (TD H1 hd [Kp<|.ref a,Kp ai,Kp<|.ref hd,Kp<|.ref p]) {_,_,d1,m1,t1,r1,U,FrS.refl,hh,∅} ?_ ?_
 .rintro j σ Hy hj ⟨y1,y2,dx,aa,tx,L,rfl,M,ad,aq⟩;refine{_,U,hd,dx,aa,tx,L,U,ad,∅,λch cs W d4 m4 t4 f4 ae ao a9 as=>?_};have O:=M.trans f4;have J:=O.tup1 hh.1;obtain⟨G,Ls,k',hG,av,a8⟩:=PU (Y:=Y) (hP.keep J) (hK.keepT J) al ap (aj.keep J) hN cs ao;obtain⟨S',e,v,t⟩:=Rn.all G 1000 _ 0 (vL G<|hr0 tr u)<|aZ _;obtain⟨af,hv⟩:=t.fl λr hr=>nomatch hr;have a0:W ch\(.tup<|G.ch.map Yh):=by rw[hG];exact ae
  refine{_,U,_,U,⟨Z,W,p,G⟩,ch,ks,P,tr,u,Ls,k',1000,S',e,v,U,a8,a0,aZ _,t,λl tl el ls X N a1 a2 a3 a4=>?_};refine{_,U,_,U,⟨Z,X,p,G⟩,ch,ks,P,tr,u,Ls,k',1000,U,a8 X N,(Yo N) _ _ a0,FrS.refl,hN.de,aZ _,λpr l2 d2 S2 e2 v2 H8 f8 an t2 a5 ah=>?_};obtain⟨rfl,rfl,rfl⟩:=t.uniq t2;have t8:=Yo f8;refine{pr,_,_,_,U,U,Ym an,U,_,_,U,xN (hX ah<|by decide) af hv (ResAt.keep (r:=(S',e,v)) ⟨tl,el,ls,a1,a2,a3,a4⟩ t8) a5,λH9 f9=>?_};have T:=(N.trans f8).trans f9;exact{_,U,bI {_,_,d4,m4,t4,L,U,λb o n e=>T b o bB<|O b o n e,{T _ _ bB a9.1,a9.2},∅}}
 .rintro σ Hy ⟨y1,y2,dx,aa,tx,L,rfl,M,ad,aq⟩;exact{_,_,_,_,_,U,Ah ab λb o e=>M b o (by simpa using aQ e C)<|k3 b o e}
end
section
variable{k:Kk}{nm qn:zZ}{st:Kd}{ps:Ki zZ}{sp:Sp}
inductive Fh(K:Fq)(nm qn:zZ)(st:Kd)(f:eH):Prop
 | mk {od an:Kj eH} {sl:Ko (Kj iH)} {oc kV dc pm cd ct:iH} (l:K.lookup f=Kp ⟨oc,od,.func<|Mf nm qn (qJ st) (eG st) (bP st) .none kV dc pm an cd ct,sl⟩) (c:Nr K cd qn=Ks) (k:Mh K (.ref f)=Ks):Fh K nm qn st f
inductive Fg(K:Fq)(nm:zZ)(st:Kd):Prop
 | mk {f:eH} (a:Lu K Le nm\(Kp<|.ref f)) (h:Fh K nm nm st f):Fg K nm st
structure Fy(K:Fq)(mg:zZ->Kj iH)(nm qn:zZ)(st:Kd)(ps:Ki zZ)(f:eH)(fd:Ke):Prop where
 F:Fun K nm qn st f fd
 b:Binds K fd ps []
 k:Mh K (.ref f)=Ks
def Fh.y(p:Fh K nm qn st f)(a:∀(kV d b:iH)(e:Kj eH)(h ct:iH)(us:Ki iH),↑us=↑ps->Ux (Mf nm qn (qJ st) (eG st) (bP st) .none kV d b e h ct) ⟨us,[]⟩=pure (ps.zip us)):∃fd,Fy K mg nm qn st ps f fd:=by
 obtain⟨l,c,k⟩:=p;have F:=SG (st:=st) l c k;exact{_,F,F.binds a,k}
theorem Fg.y{h:Ka}(p:Fg K nm st)(X:K.In h)(G:h.Ns Le mg)(b:∀(kV i d:iH)(e:Kj eH)(j ct:iH)(us:Ki iH),↑us=↑ps->Ux (Mf nm nm (qJ st) (eG st) (bP st) .none kV i d e j ct) ⟨us,[]⟩=pure (ps.zip us)):∃f fd,Fy K mg nm nm st ps f fd/\mg nm\.ref f:=by
 obtain⟨a,p⟩:=p;obtain⟨fd,y⟩:=p.y b;exact{_,fd,y,lN X G a}
def Fy.c(y:Fy K mg nm nm st ps f fd/\mg nm\.ref f)(h:aS P w K mg base bO k f fd ps sp):aV P w K mg base k nm ps sp:=⟨f,fd,h,y.1.b,y.1.k,y.2⟩
def Fy.v(y:Fy K mg nm qn st ps f fd)(h:aS P w K mg base bO k f fd ps sp):uC P w K mg base k ps f sp:=⟨fd,h,y.b,y.k⟩
structure Ck(K:Fq)(x qn:zZ)(st:Kd)(fs:Ki zZ)(C g:eH):Prop where
 a:Lu K Le x\(Kp<|.ref C)
 c:Cls K C
 n:∀f∈fs,Lv K (.ref C) f\Kr
 m:Mk K C g
 h:Fh K "__init__" qn st g
def zE{n:Kk}{P:Ki iH->Prop}(h:∀a r,↑r=n->P (a::r)):∀b:Ki iH,↑b=n+1->P b
 | a::r,e=>h a r<|Vw e
def YE{P:Ki iH->Prop}(h:P [])(us:Ki iH)(e:↑us=0):P us:=Ki.eq_nil_of_length_eq_zero e▸h
def nY{P:Ki iH->Prop}(h:∀a,P [a]):∀us:Ki iH,↑us=1->P us:=zE λa=>YE<|h a
def fX{P:Ki iH->Prop}(h:∀a b,P [a,b]):∀us:Ki iH,↑us=2->P us:=zE λa=>nY<|h a
def iE{P:Ki iH->Prop}(h:∀a b c,P [a,b,c]):∀us:Ki iH,↑us=3->P us:=zE λa=>fX<|h a
def nC{P:Ki iH->Prop}(h:∀a b c d,P [a,b,c,d]):∀us:Ki iH,↑us=4->P us:=zE λa=>iE<|h a
def GZ{P:Ki iH->Prop}(h:∀a b c d e,P [a,b,c,d,e]):∀us:Ki iH,↑us=5->P us:=zE λa=>nC<|h a
def Fu{P:Ki iH->Prop}(h:∀a b c d e f,P [a,b,c,d,e,f]):∀us:Ki iH,↑us=6->P us:=zE λa=>GZ<|h a
def Jv(F:Fun K "_law_rows" "_law_rows" HM f fd):aS P w K mg base bO (k+1) f fd kZ (CJ 0):=F.ok yv2 (λ_ _ _ _ h=>h.elim) λ_ _ _ _ _ _ _ _ _ h=>h.elim
def BS{CX:kN}:aS P w K mg base CX k f fd ps (λ_ _ _ _=>Kn):=⟨λ_ _ _ _ h=>h.elim,λ_ _ _ _ _ _ _ _ _ _ _ _ _ h=>h.elim⟩
def ZD(F:Fun K "lay" "lay" nA f fd):aS P w K mg base bO (k+1) f fd tU (NS 0):=F.ok scLy (λ_ _ _ _ h=>h.elim) λ_ _ _ _ _ _ _ _ _ h=>h.elim
inductive DEn(w:Kb):Ki Oi->Ki (aG×iH)->Prop
 | nil:DEn w [] []
 | cons {x:zZ} {t:Ye} {v:iH} {es:Ki Oi} {kvs:Ki (aG×iH)} (h:DEn w es kvs):DEn w (⟨Mj w.params x,.str x t,v⟩::es) ((Ku x,v)::kvs)
def DEn.p(h:DEn w b a):Pairs (cO P w) b a/\∀e∈b,∃k,(cO P w).is k e.key=Ks/\e.hash=(cO P w).hash k:=by
 induction h with
 | nil=>exact{.nil,λe h=>nomatch h}
 | @cons x t v b a _ d=>
  refine{.cons (MQ x t) rfl d.1,λe he=>?_};obtain rfl|he:=wx0.mp he
  .exact⟨Ku x,MQ x t,rfl⟩
  .exact d.2 e he
def Gz{a:eH}{b:Ki Oi}{n:Kk}{kvs:Ki (aG×iH)}(l:K.lookup a=Kp ⟨.type "dict",Kr,.dict b.toArray n,#[]⟩)(h:DEn w b kvs)(nd:(kvs.map (·.1)).Nodup):OH P w K a kvs:=
 ⟨_,l,λf e=>⟨_,b.toArray,_,e,⟨rfl,rfl,rfl⟩,rfl,λe d=>h.p.2 e (by simpa using d),h.p.1,nd⟩⟩
end
def MR{K:Fq}{a:eH}{f:Kj eH}{x y:zZ}{b d n:Kk}{e:Ko (Kj iH)}(l:K.lookup a=Kp ⟨.type "tuple",f,.seq #[.str x b,.str y d] n,e⟩)(H:Hp):SqT K H a [.str x,.str y]:=
 .inr ⟨_,_,_,l,rfl,rfl,eC rfl,.cons ⟨_,rfl⟩<|.cons ⟨_,rfl⟩ .nil⟩
def Ej{K:Fq}{a:eH}{e:Kj eH}{x:zZ}{b n:Kk}{d:Ko (Kj iH)}(l:K.lookup a=Kp ⟨.type "tuple",e,.seq #[.str x b] n,d⟩)(H:Hp):SqT K H a [.str x]:=
 .inr ⟨_,_,_,l,rfl,rfl,eC rfl,.cons ⟨_,rfl⟩ .nil⟩
def Ck.m'{Y:Ry}{mg:zZ->Kj iH}{base:Ka}{k:Kk}{x e:zZ}{st:Kd}{fs ps:Ki zZ}{C g:eH}{d:Ke}{sp:Sp}{h:Ka}(c:Ck Y.K x e st fs C g)(X:Y.K.In h)(G:h.Ns Le mg)(y:Fy Y.K mg "__init__" e st ps g d)(o:aS Y.pr Y.w Y.K mg base bO k g d ps sp):gZ Y mg base k x C ps sp:=⟨g,d,o,y.b,c.m,lN X G c.a⟩
def wC{l:Po}{w:Kb}{K:Fq}{h:Ka}{mg:zZ->Kj iH}{fa:eH}(X:K.In h)(G:h.Ns Le mg)(cv:mg "law"\.ref fa)
  {am ah ap ad:eH} {bq br cy:Kj eH} {ch cz bw:Ko (Kj iH)} {bp bj nm c4 cm nh tp np nd tw tb tt tu:Kk} {e1 e2 e3 e4 e5 e6 e7 e8 e9:Kk} {g1 g2 g3 g4 g5 g6 g7 g8 g9 c1 c2 c3 i1 i2 i3:eH}
  (p1:Fg K "elders" LZ)
  (p2:Fg K "is_below" JP)
  (p3:Fg K "deed_of" QS)
  (p4:Fg K "answer" MN)
  (p5:Fg K "asked" QP)
  (p6:Fg K "bodies" MA)
  (p7:Fg K "rows_within" QO)
  (p8:Fg K "lay" nA)
  (p9:Fg K "laid" MZ)
  (c6:Fg K "forms_of" vH)
  (bz:Fg K "turned_back" NT)
  (cp:Fg K "found_by" NI)
  (cq:Fg K "cost_by" LF)
  (cc:Fg K "end_call" vZ)
  (c7:Fg K "next_choice" tH)
  (c8:Fg K "add_due" wO)
  (bv:Fg K "start_call" JX)
  (c0:Fg K "do_row" OL)
  (c9:Fg K "run_on" PF)
  (cr:Fg K "whole_run" JD)
  (c5:Fg K "plain_run" KS)
  (cf:Fg K "_law_hand" QT)
  (d4:Fg K "_law_take" OJ)
  (ce:Fg K "_law_of" IV)
  (bs:Fg K "_law_words" nG)
  (d0:Fg K "_law_tree" KN)
  (bo:Fg K "_law_world" lQ)
  (cu:Fg K "_law_line" OM)
  (ck:Fg K "_law_has" sB)
  (cs:Fg K "_law_variable" sW)
  (cw:Fg K "_law_target" wJ)
  (bl:Fg K "_law_make" OT)
  (d2:Fg K "_law_args" QR)
  (ca:Fg K "_law_call" NQ)
  (bx:Fg K "_law_field" MI)
  (cl:Fg K "_law_row" xE)
  (cj:Fg K "_law_rows" HM)
  (co:Fg K "_law_deed" JK)
  (bm:Fg K "_law_program" MF)
  (bn:Fg K "_law_choices" uW)
  (cb:Fg K "_law_same" NN)
  (cn:Fg K "_law_marked" wM)
  (cg:Fg K "_law_new_run" cY)
  (bi:Fg K "_law_ups" sF)
  (bt:Fg K "_law_do_call" xR)
  (bk:Fg K "_law_do_plain" xG)
  (d3:Fg K "_law_do" sP)
  (cx:Fg K "_law_ran" uM)
  (pL:Fg K "law" jL)
  (q1:Fh K "do_make" "do_make" LM g1)
  (q2:Fh K "do_copy" "do_copy" OC g2)
  (q3:Fh K "do_put" "do_put" tE g3)
  (q4:Fh K "do_take" "do_take" MS g4)
  (q5:Fh K "do_say" "do_say" wR g5)
  (q6:Fh K "do_either" "do_either" OV g6)
  (q7:Fh K "do_again" "do_again" JM g7)
  (q8:Fh K "do_bring" "do_bring" OW g8)
  (q9:Fh K "do_call" "do_call" QE g9)
  (k1:Ck K "Thing" "Thing.__init__" rY VY c1 i1)
  (k2:Ck K "Due" "Due.__init__" uR XG c2 i2)
  (T:Ck K "Run" "Run.__init__" MW XU c3 i3)
  (ax:c2≠c3) (az:c1≠c3)
  (aM:Lu K Le "MAIN"\(Kp<|.ref am)) (lM:K.lookup am=Kp ⟨.type "tuple",bq,.seq #[.str "" bp,.str "" bj] nm,ch⟩)
  (aH:Lu K Le "HOLDERS"\(Kp<|.ref ah)) (lH:K.lookup ah=Kp ⟨.type "tuple",br,.seq #[.str "either" c4,.str "again" cm] nh,cz⟩)
  (aP:Lu K Le "PLAIN"\(Kp<|.ref ap)) (lP:K.lookup ap=Kp ⟨.type "tuple",cy,.seq #[.str "plain" tp] np,bw⟩)
  (aW:Lu K Le "OWN"\(Kp<|.str "own" tw)) (aB:Lu K Le "BACK"\(Kp<|.str "back" tb))
  (aT:Lu K Le "MOST_TIMES"\(Kp<|.int 9 tt)) (aU:Lu K Le "MOST_UNDER_WAY"\(Kp<|.int 40 tu))
  (aD:Lu K Le "DOERS"\(Kp<|.ref ad)) (lD:K.lookup ad=Kp ⟨.type "dict",Kr,.dict #[⟨Mj w.params "make",.str "make" e1,.ref g1⟩,⟨Mj w.params "copy",.str "copy" e2,.ref g2⟩,⟨Mj w.params "put",.str "put" e3,.ref g3⟩,⟨Mj w.params "take",.str "take" e4,.ref g4⟩,⟨Mj w.params "say",.str "say" e5,.ref g5⟩,⟨Mj w.params "either",.str "either" e6,.ref g6⟩,⟨Mj w.params "again",.str "again" e7,.ref g7⟩,⟨Mj w.params "bring",.str "bring" e8,.ref g8⟩,⟨Mj w.params "call",.str "call" e9,.ref g9⟩] nd,#[]⟩)
  (z:∀x∈(["len","abs","int","range","tuple","dict","list","any","zip","enumerate","sorted","max","min","reversed","all","isinstance","bool","str"]:Ki zZ),Lu K Le x\Kr):
  ∃fd:Ke,(∀(s:Jx)(v:iH),Rq s fd ⟨[v],[]⟩ [("_law_script",v)])/\∀base:Ka,K.In base->base.Ns Le mg->aS l.prog w K mg base bO 260 fa fd ["_law_script"] (HL K):=by
 have mM:=lN X G aM;have mH:=lN X G aH;have mP:=lN X G aP;have mW:∃tk,mg "OWN"\.str "own" tk:=⟨_,lN X G aW⟩;have mB:∃tk,mg "BACK"\.str "back" tk:=⟨_,lN X G aB⟩;have mT:∃tk,mg "MOST_TIMES"\.int 9 tk:=⟨_,lN X G aT⟩;have mU:∃tk,mg "MOST_UNDER_WAY"\.int 40 tk:=⟨_,lN X G aU⟩;have mD:=lN X G aD;obtain⟨_,_,y1⟩:=p1.y (ps:=["program","kind"]) X G λ_ _ _ _ _ _=>fX λ_ _=>rfl;obtain⟨_,_,y2⟩:=p2.y (ps:=["program","one","other"]) X G λ_ _ _ _ _ _=>iE λ_ _ _=>rfl;obtain⟨_,_,y3⟩:=p3.y (ps:=qI) X G λ_ _ _ _ _ _=>iE λ_ _ _=>rfl;obtain⟨_,_,y4⟩:=p4.y (ps:=qI) X G λ_ _ _ _ _ _=>iE λ_ _ _=>rfl;obtain⟨_,_,y5⟩:=p5.y (ps:=qI) X G λ_ _ _ _ _ _=>iE λ_ _ _=>rfl;obtain⟨_,_,y6⟩:=p6.y (ps:=qK) X G λ_ _ _ _ _ _=>nY λ_=>rfl;obtain⟨_,_,y7⟩:=p7.y (ps:=["row"]) X G λ_ _ _ _ _ _=>nY λ_=>rfl;obtain⟨_,_,A⟩:=p8.y (ps:=tU) X G λ_ _ _ _ _ _=>iE λ_ _ _=>rfl;obtain⟨_,_,y9⟩:=p9.y (ps:=["program"]) X G λ_ _ _ _ _ _=>nY λ_=>rfl;obtain⟨_,_,au⟩:=c6.y (ps:=["made"]) X G λ_ _ _ _ _ _=>nY λ_=>rfl;obtain⟨_,_,al⟩:=bz.y (ps:=["made","came"]) X G λ_ _ _ _ _ _=>fX λ_ _=>rfl;obtain⟨_,_,b7⟩:=cp.y (ps:=oF) X G λ_ _ _ _ _ _=>nC λ_ _ _ _=>rfl;obtain⟨_,_,b0⟩:=cq.y (ps:=oF) X G λ_ _ _ _ _ _=>nC λ_ _ _ _=>rfl;obtain⟨_,_,bf⟩:=cc.y (ps:=dW) X G λ_ _ _ _ _ _=>fX λ_ _=>rfl;obtain⟨_,_,be⟩:=c7.y (ps:=["run"]) X G λ_ _ _ _ _ _=>nY λ_=>rfl;obtain⟨_,_,bc⟩:=c8.y (ps:=jI) X G λ_ _ _ _ _ _=>iE λ_ _ _=>rfl;obtain⟨_,_,av⟩:=bv.y (ps:=GC) X G λ_ _ _ _ _ _=>iE λ_ _ _=>rfl;obtain⟨_,_,aa⟩:=c0.y (ps:=["run","due","most"]) X G λ_ _ _ _ _ _=>iE λ_ _ _=>rfl;obtain⟨_,_,af⟩:=c9.y (ps:=["run","most"]) X G λ_ _ _ _ _ _=>fX λ_ _=>rfl;obtain⟨_,_,a7⟩:=cr.y (ps:=GM) X G λ_ _ _ _ _ _=>nC λ_ _ _ _=>rfl;obtain⟨_,_,a9⟩:=c5.y (ps:=["program","choices","most"]) X G λ_ _ _ _ _ _=>iE λ_ _ _=>rfl;obtain⟨_,_,b9⟩:=cf.y (ps:=["_law_script","_law_k"]) X G λ_ _ _ _ _ _=>fX λ_ _=>rfl;obtain⟨_,_,bg⟩:=d4.y (ps:=qB) X G λ_ _ _ _ _ _=>fX λ_ _=>rfl;obtain⟨_,_,ao⟩:=ce.y (ps:=qC) X G λ_ _ _ _ _ _=>fX λ_ _=>rfl;obtain⟨_,_,ak⟩:=bs.y (ps:=qB) X G λ_ _ _ _ _ _=>fX λ_ _=>rfl;obtain⟨_,_,aj⟩:=d0.y (ps:=[qH]) X G λ_ _ _ _ _ _=>nY λ_=>rfl;obtain⟨_,_,ab⟩:=bo.y (ps:=[qH]) X G λ_ _ _ _ _ _=>nY λ_=>rfl;obtain⟨_,_,ae⟩:=cu.y (ps:=qG) X G λ_ _ _ _ _ _=>fX λ_ _=>rfl;obtain⟨_,_,ai⟩:=ck.y (ps:=qE) X G λ_ _ _ _ _ _=>iE λ_ _ _=>rfl;obtain⟨_,_,bh⟩:=cs.y (ps:=qA) X G λ_ _ _ _ _ _=>iE λ_ _ _=>rfl;obtain⟨_,_,ac⟩:=cw.y (ps:=qA) X G λ_ _ _ _ _ _=>iE λ_ _ _=>rfl;obtain⟨_,_,b3⟩:=bl.y (ps:=qA) X G λ_ _ _ _ _ _=>iE λ_ _ _=>rfl;obtain⟨_,_,aq⟩:=d2.y (ps:=qD) X G λ_ _ _ _ _ _=>GZ λ_ _ _ _ _=>rfl;obtain⟨_,_,b1⟩:=ca.y (ps:=qF) X G λ_ _ _ _ _ _=>nC λ_ _ _ _=>rfl;obtain⟨_,_,b2⟩:=bx.y (ps:=qA) X G λ_ _ _ _ _ _=>iE λ_ _ _=>rfl;obtain⟨_,_,b6⟩:=cl.y (ps:=lV) X G λ_ _ _ _ _ _=>GZ λ_ _ _ _ _=>rfl;obtain⟨_,_,H⟩:=cj.y (ps:=kZ) X G λ_ _ _ _ _ _=>Fu λ_ _ _ _ _ _=>rfl;obtain⟨_,_,aw⟩:=co.y (ps:=IL) X G λ_ _ _ _ _ _=>nC λ_ _ _ _=>rfl;obtain⟨_,_,a8⟩:=bm.y (ps:=[qH,"_law_most"]) X G λ_ _ _ _ _ _=>fX λ_ _=>rfl;obtain⟨_,_,b4⟩:=bn.y (ps:=[qH]) X G λ_ _ _ _ _ _=>nY λ_=>rfl;obtain⟨_,_,N⟩:=cb.y (ps:=sO) X G λ_ _ _ _ _ _=>fX λ_ _=>rfl;obtain⟨_,_,J⟩:=cn.y (ps:=jH) X G λ_ _ _ _ _ _=>fX λ_ _=>rfl;obtain⟨_,_,b5⟩:=cg.y (ps:=hH) X G λ_ _ _ _ _ _=>iE λ_ _ _=>rfl;obtain⟨_,_,ar⟩:=bi.y (ps:=lJ) X G λ_ _ _ _ _ _=>fX λ_ _=>rfl;obtain⟨_,_,O⟩:=bt.y (ps:=hJ) X G λ_ _ _ _ _ _=>nC λ_ _ _ _=>rfl;obtain⟨_,_,ba⟩:=bk.y (ps:=hJ) X G λ_ _ _ _ _ _=>nC λ_ _ _ _=>rfl;obtain⟨_,_,I⟩:=d3.y (ps:=jF) X G λ_ _ _ _ _ _=>iE λ_ _ _=>rfl;obtain⟨_,_,bd⟩:=cx.y (ps:=hH) X G λ_ _ _ _ _ _=>iE λ_ _ _=>rfl;obtain⟨_,w1⟩:=q1.y (mg:=mg) (ps:=dW) λ_ _ _ _ _ _=>fX λ_ _=>rfl;obtain⟨_,w2⟩:=q2.y (mg:=mg) (ps:=dW) λ_ _ _ _ _ _=>fX λ_ _=>rfl;obtain⟨_,w3⟩:=q3.y (mg:=mg) (ps:=dW) λ_ _ _ _ _ _=>fX λ_ _=>rfl;obtain⟨_,w4⟩:=q4.y (mg:=mg) (ps:=dW) λ_ _ _ _ _ _=>fX λ_ _=>rfl;obtain⟨_,w5⟩:=q5.y (mg:=mg) (ps:=dW) λ_ _ _ _ _ _=>fX λ_ _=>rfl;obtain⟨_,w6⟩:=q6.y (mg:=mg) (ps:=dW) λ_ _ _ _ _ _=>fX λ_ _=>rfl;obtain⟨_,w7⟩:=q7.y (mg:=mg) (ps:=dW) λ_ _ _ _ _ _=>fX λ_ _=>rfl;obtain⟨_,w8⟩:=q8.y (mg:=mg) (ps:=dW) λ_ _ _ _ _ _=>fX λ_ _=>rfl;obtain⟨_,w9⟩:=q9.y (mg:=mg) (ps:=dW) λ_ _ _ _ _ _=>fX λ_ _=>rfl;obtain⟨_,v1⟩:=k1.h.y (mg:=mg) (ps:=kA) λ_ _ _ _ _ _=>fX λ_ _=>rfl;obtain⟨_,v2⟩:=k2.h.y (mg:=mg) (ps:=iZ) λ_ _ _ _ _ _=>GZ λ_ _ _ _ _=>rfl;obtain⟨_,v3⟩:=T.h.y (mg:=mg) (ps:=yD) λ_ _ _ _ _ _=>nC λ_ _ _ _=>rfl;have zz:∀x∈(["len","abs","int","range","tuple","dict","list","any","zip","enumerate","sorted","max","min","reversed","all","isinstance","bool","str"]:Ki zZ),mg x=none:=λx hx=>PySem.W.mg_none_of X G<|z x hx;simp only[rZ]at zz;obtain⟨i,z2,u,o,b,E,z7,z8,B,bu,d1,ci,a5,ag,ay,a6,bb,b8,_⟩:=zz;obtain⟨a,@⟨_,an,_,_,kV,dc,pm,cd,ct,ll,c,kk⟩⟩:=pL;cases cv.symm.trans (lN X G a);refine{Mf "law" "law" (qJ jL) (eG jL) (bP jL) .none kV dc pm an cd ct,λs v=>.of_eq rfl,λbase _ _=>?_}
 let Y:Ry:=⟨⟨c1,c2,c3⟩,l.prog,w,K,ax,az⟩
 have Z:cZ Y.K Y.C:=⟨⟨k1.c,k1.n⟩,⟨k2.c,k2.n⟩,⟨T.c,T.n⟩,ax,az⟩;have e:∀k:Kk,aV l.prog w K mg base (k+1) _ _ gY:=λk=>Fy.c bg<|Dj bg.1.F;have j:∀k:Kk,aV l.prog w K mg base (k+2) _ _ (dB K):=λk=>Fy.c ao<|AA ao.1.F (e k) i;have Wd:∀k:Kk,aV l.prog w K mg base (k+2) _ _ HF:=λk=>Fy.c ak<|Jg ak.1.F (e k) i o u;have Tr:∀k:Kk,aV l.prog w K mg base (k+3) _ _ PX:=λk=>Fy.c aj<|Ft aj.1.F (e<|k+1) (j k) (Wd k) i bu;have Wo:∀k:Kk,aV l.prog w K mg base (k+4) _ _ JA:=λk=>Fy.c ab<|Dt ab.1.F (e<|k+2) (j<|k+1) (Wd<|k+1) (Tr k) E o u;have Li:∀k:Kk,aV l.prog w K mg base (k+1) _ _ BZ:=λk=>Fy.c ae<|Eo ae.1.F E;have Ha:∀k:Kk,aV l.prog w K mg base (k+2) _ _ NL:=λk=>Fy.c ai<|uE ai.1.F (Li k) z8;have M:∀k:Kk,aV l.prog w K mg base (k+3) _ _ pM:=λk=>Fy.c bh<|uH bh.1.F (e<|k+1) (j k) z7;have Tg:∀k:Kk,aV l.prog w K mg base (k+3) _ _ uK:=λk=>Fy.c ac<|xC ac.1.F<|j k;have Ma:∀k:Kk,aV l.prog w K mg base (k+4) _ _ GX:=λk=>Fy.c b3<|Ed b3.1.F (e<|k+2) (j<|k+1)<|Tg k;have Ar:∀k:Kk,aV l.prog w K mg base (k+4) _ _ KZ:=λk=>Fy.c aq<|Ee aq.1.F (e<|k+2) (j<|k+1) (M k) (Li<|k+2) b;have Ca:∀k:Kk,aV l.prog w K mg base (k+5) _ _ FH:=λk=>Fy.c b1<|Gc b1.1.F (e<|k+3) (j<|k+2) (M<|k+1) (Li<|k+3) (Tg<|k+1) (Ha<|k+2) (Ma k)<|Ar k;have Fi:∀k:Kk,aV l.prog w K mg base (k+4) _ _ PV:=λk=>Fy.c b2<|Jq b2.1.F (e<|k+2) (j<|k+1) (M k)<|Tg k;have Rz:∀k:Kk,aV l.prog w K mg base (k+1) _ _ (CJ 0):=λk=>Fy.c H<|Jv H.1.F;have Row:∀(n k:Kk),aV l.prog w K mg base (k+5) "_law_rows" kZ (CJ n)->aV l.prog w K mg base (k+6) "_law_row" lV (NV n):=λn k R=>Fy.c b6<|tP b6.1.F (e<|k+4) (j<|k+3) (M<|k+2) (Tg<|k+2) (Ma<|k+1) (Fi<|k+1) (Ca k) R o i b;have L:∀(n k:Kk),aV l.prog w K mg base (k+7+2*n) "_law_rows" kZ (wV n):=by
  intro n
  induction n with
  | zero=>intro k;exact Fy.c H<|UF H.1.F (e<|k+5) (Row 0 k<|Rz<|k+4) o b
  | succ n ih=>
   intro k;have R1:=Row (n+1) (k+2+2*n) (by have:=ih k;rwa [show k+2+2*n+5=k+7+2*n by lia]);have R2:aV l.prog w K mg base (k+2+2*n+6+1) "_law_rows" kZ (wV<|n+1):=Fy.c H<|UF H.1.F (by have:=e<|k+2+2*n+5;exact this) R1 o b;rwa [show k+7+2*(n+1)=k+2+2*n+6+1 by lia]
 have R4:∀k:Kk,aV l.prog w K mg base (k+15) "_law_rows" kZ (wV 4):=λk=>L 4 k;have De:∀k:Kk,aV l.prog w K mg base (k+16) _ _ HH:=λk=>Fy.c aw<|Ct aw.1.F (e<|k+14) (j<|k+13) (M<|k+12) (R4 k) i z7 B E b;have Pr:∀k:Kk,aV l.prog w K mg base (k+17) _ _ NZ:=λk=>Fy.c a8<|Ik a8.1.F (e<|k+15) (j<|k+14) (Wo<|k+12) (De k) (R4<|k+1) i o b d1;have Hn:∀k:Kk,aV l.prog w K mg base (k+1) _ _ (QK K):=λk=>Fy.c b9<|ZB b9.1.F i z2 u;have Bo:∀k:Kk,aV l.prog w K mg base (k+1) _ _ (JC K):=λk=>Fy.c y6<|Ja y6.1.F mM (MR lM) b;have Wi:∀k:Kk,aV l.prog w K mg base (k+1) _ _ JL:=λk=>Fy.c y7<|Ap y7.1.F mH<|MR lH;have Ly:∀(n k:Kk),aV l.prog w K mg base (k+2+n) "lay" tU (lG n):=by
  intro n
  induction n with
  | zero=>intro k;exact Fy.c A<|pF A.1.F (Wi k) (Fy.c A<|ZD A.1.F) i b
  | succ n ih=>intro k;exact Fy.c A<|pF A.1.F (by have:=Wi<|k+1+n;rwa [show k+1+n+1=k+2+n by lia]at this) (ih k) i b
 have Ld:∀k:Kk,aV l.prog w K mg base (k+7) _ _ (KY l.prog w K):=λk=>Fy.c y9<|YZ y9.1.F (Bo<|k+5)<|Ly 4 k;have El:∀k:Kk,aV l.prog w K mg base (k+1) _ _ yB:=λk=>Fy.c y1<|Ak y1.1.F b;have Be:∀k:Kk,aV l.prog w K mg base (k+2) _ _ LS:=λk=>Fy.c y2<|Ef y2.1.F<|El k;have DQ:∀k:Kk,aV l.prog w K mg base (k+1) _ _ HR:=λk=>Fy.c y3<|Do y3.1.F;have AQ:∀k:Kk,aV l.prog w K mg base (k+2) _ _ rS:=λk=>Fy.c y4<|Bx y4.1.F (El k) (DQ k) ag;have KQ:∀k:Kk,aV l.prog w K mg base (k+3) _ _ yZ:=λk=>Fy.c y5<|ZQ y5.1.F (El<|k+1) (AQ k) i;have FB:∀k:Kk,aV l.prog w K mg base (k+3) _ _ (jX K rS):=λk=>Fy.c b7<|AB b7.1.F<|AQ k;have CB:∀k:Kk,aV l.prog w K mg base (k+4) _ _ (jX K yZ):=λk=>Fy.c b0<|AV b0.1.F<|KQ k;have Fm:∀k:Kk,aV l.prog w K mg base (k+1) _ _ IN:=λk=>Fy.c au<|rR au.1.F;have Tb:∀k:Kk,aV l.prog w K mg base (k+1) _ _ tL:=λk=>Fy.c al<|zQ al.1.F b;have Mt:∀k:Kk,gZ Y mg base (k+1) "Thing" Y.C.th kA (GO Y.C.th):=λk=>Ck.m' (Y:=Y) k1 X G v1<|vW (Y:=Y) v1.F Z;have Md:∀k:Kk,gZ Y mg base (k+1) "Due" Y.C.du iZ (EZ Y.C.du):=λk=>Ck.m' (Y:=Y) k2 X G v2<|tJ (Y:=Y) v2.F Z;have En:∀k:Kk,aV l.prog w K mg base (k+1) _ _ (JV Y):=λk=>Fy.c bf<|uD (Y:=Y) bf.1.F Z;have Nx:∀k:Kk,aV l.prog w K mg base (k+1) _ _ (FY Y):=λk=>Fy.c be<|vY (Y:=Y) be.1.F Z i;have P:∀k:Kk,aV l.prog w K mg base (k+3) _ _ (zL Y):=λk=>Fy.c bc<|vG (Y:=Y) bc.1.F Z (Md k) ag;have St:∀k:Kk,aV l.prog w K mg base (k+5) _ _ (sA Y):=λk=>Fy.c av<|Io (Y:=Y) av.1.F Z (FB<|k+1) (CB k) (DQ<|k+3) (P<|k+1) (Md<|k+2) B mP (Ej lP) mW mB;have Ds:∀k:Kk,oO Y mg base (k+6):=λk=>by
  refine{ad,_,mD,Gz (K:=K) lD (.cons<|.cons<|.cons<|.cons<|.cons<|.cons<|.cons<|.cons<|.cons<|.nil) (by show([Ku "make",Ku "copy",Ku "put",Ku "take",Ku "say",Ku "either",Ku "again",Ku "bring",Ku "call"]:Ki aG).Nodup;rfl'),λd hn hz=>?_};cases d with
  | op n a r m=>
   cases r with
   | make x y=>exact{g1,_,U,w1.v<|DU (Y:=Y) w1.F Z<|Mt<|k+3,{_,_,_,_,_,U}}
   | copy x y=>exact{g2,_,U,w2.v<|Cr (Y:=Y) w2.F Z,{_,_,_,_,_,U}}
   | put x f y=>exact{g3,_,U,w3.v<|xI (Y:=Y) w3.F Z,{_,_,_,_,_,_,U}}
   | take x y f=>exact{g4,_,U,w4.v<|CC (Y:=Y) w4.F Z,{_,_,_,_,_,_,U}}
   | say x=>exact{g5,_,U,w5.v<|vJ (Y:=Y) w5.F Z,{_,_,_,_,U}}
   | bring x=>exact{g8,_,U,w8.v<|AE (Y:=Y) w8.F Z (El<|k+4) (Tb<|k+4)<|Fm<|k+4,{_,_,_,_,U}}
  | call n a x y q d as m=>exact{g9,_,U,w9.v<|Ew (Y:=Y) w9.F Z (Be<|k+3) (St k) mU,{_,_,_,_,_,_,_,_,U}}
  | either n a p q m=>exact{g6,_,U,w6.v<|BC (Y:=Y) w6.F Z (Nx<|k+4)<|P<|k+2,{_,_,_,_,_,U,hz}}
  | again n a p m=>exact{g7,_,U,w7.v<|EW (Y:=Y) w7.F Z (Nx<|k+4) (P<|k+2) a5 o mT,{_,_,_,_,U,hz}}
  | back x g s m=>cases hn
 have DR:∀k:Kk,aV l.prog w K mg base (k+7) _ _ (QC Y):=λk=>Fy.c aa<|Ag (Y:=Y) aa.1.F Z<|Ds k;have RO:∀k:Kk,aV l.prog w K mg base (k+8) _ _ (vU Y):=λk=>Fy.c af<|Fe (Y:=Y) af.1.F Z (En<|k+6) (DR k) mB;have Mr:∀k:Kk,gZ Y mg base (k+8) "Run" Y.C.rn yD (IR Y):=λk=>Ck.m' (Y:=Y) T X G v3<|Gs (Y:=Y) v3.F Z (Fm<|k+6)<|Ld k;have WH:∀k:Kk,aV l.prog w K mg base (k+10) _ _ (uN Y):=λk=>Fy.c a7<|Iq (Y:=Y) a7.1.F Z (Mr k) (P<|k+6) (RO<|k+1) mM (MR lM) b;have PL:∀k:Kk,aV l.prog w K mg base (k+11) _ _ (PM Y):=λk=>Fy.c a9<|Go (Y:=Y) a9.1.F<|WH k;have Mk:∀(n k:Kk),aV l.prog w K mg base (k+1+n) "_law_marked" jH (sM n):=by
  intro n
  induction n with
  | zero=>intro k;exact Fy.c J<|YD J.1.F<|Fy.c J BS
  | succ n ih=>intro k;exact Fy.c J<|YD J.1.F<|ih k
 have Sm:∀(n k:Kk),aV l.prog w K mg base (k+1+n) "_law_same" sO (nN n):=by
  intro n
  induction n with
  | zero=>intro k;exact Fy.c N<|XY N.1.F (Fy.c N BS) a6 b bb b8 u i ay B
  | succ n ih=>intro k;exact Fy.c N<|XY N.1.F (ih k) a6 b bb b8 u i ay B
 have Up:∀k:Kk,aV l.prog w K mg base (k+1) _ _ HZ:=λk=>Fy.c ar<|vT ar.1.F;have Lp:∀k:Kk,aV l.prog w K mg base (k+2) _ _ ND:=λk=>Fy.c ba<|uL ba.1.F (Up k) i;have Nw:∀k:Kk,aV l.prog w K mg base (k+6) _ _ NR:=λk=>Fy.c b5<|wS b5.1.F (Mk 4 k) E z7;have Ch:∀k:Kk,aV l.prog w K mg base (k+3) _ _ NA:=λk=>Fy.c b4<|tW b4.1.F (e<|k+1) (j k) o b;have Lo:∀(n k:Kk),aV l.prog w K mg base (k+3+n) "_law_do" jF (GY n)/\aV l.prog w K mg base (k+3+n) "_law_do_call" hJ (QU n):=by
  intro n
  induction n with
  | zero=>exact λk=>{Fy.c I<|VC I.1.F (Lp k) (Fy.c I BS) (Fy.c O BS) u o a5,Fy.c O<|XR O.1.F (Up<|k+1) (Fy.c I BS) E B}
  | succ n ih=>exact λk=>{Fy.c I<|VC I.1.F (by have:=Lp<|k+1+n;rwa [show k+1+n+2=k+3+n by lia]at this) (ih k).1 (ih k).2 u o a5,Fy.c O<|XR O.1.F (by have:=Up<|k+2+n;rwa [show k+2+n+1=k+3+n by lia]at this) (ih k).1 E B}
 have Ra:∀k:Kk,aV l.prog w K mg base (k+249) "_law_ran" hH (OU Y):=λk=>Fy.c bd<|xJ (Y:=Y) bd.1.F (Nw<|k+242) (Lo 245 k).1 b;exact wI (Y:=Y) (SG (st:=jL) ll c kk) (Hn 258) (Pr 242) (Ch 256) (Sm 3 255) (PL 248) (Ra 10) i o ci a5
def OY{l:Po}{q:Jz}{B:Ki zZ}{j:(zZ->Kj iH)->Ka->Prop}{b:Kb->Ka->Prop}{d:DefRec}{K:Xk->Fq}(o:l.most\63)(A:d.params.defaults=[])
  (i:∀(w:Kb)(h:Ka),b w h->(K w.params).In h)
  (F:∀(w:Kb)(mg:zZ->Kj iH)(e:eH)(h:Ka),(K w.params).In h->h.Ns Le mg->mg d.name\.ref e-> ∃fd:Ke,(∀(s:Jx)(u:iH),Rq s fd ⟨[u],[]⟩ [("_law_script",u)])/\∀C:Ka,(K w.params).In C->C.Ns Le mg->aS l.prog w (K w.params) mg C bO 260 e fd ["_law_script"] (HL<|K w.params)):
  Uk q B j b l.row.toRowW d [] (λf vs=>Te f vs):=
 L2.Jr (n:=63) (k:=260) (x:="_law_script") (CX:=λ_=>bO) (sp:=λw=>HL<|K w.params) o (by decide) A ⟨rfl,by decide,by decide⟩ i F (λ_ _ a m hl _ r=>⟨a,m,rfl,r,hl,λ_=>U⟩) λ_ _ _ _ _ z=>z
end Gn
namespace PySem.W.Fast
def tw8957449360463370302:=0
def tw15932574205927068575:=0
def tw57388360836784726:=0
def tw12238918677430813379:=0
def tw15894262221445434726:=0
def tw4905777067145229223:=0
def tw10956930496429376993:=0
def tw11502181499761768978:=0
def tw13060311876744794815:=0
def tw393469732808409972:=0
def tw1663803639894517625:=0
def tw11922800952726437218:=0
def tw5678568443106259985:=0
def tw8980687652522166224:=0
def tw16372695948591137407:=0
def tw7380285238939419647:=0
def tw3729515250272306056:=0
def tw14468551029492999594:=0
def tw11822616870259573215:=0
def tw14844911616071565780:=0
def tw3199000359925478953:=0
def tw6089373647852207408:=0
def tw5249148277455318274:=0
def tw13098228849478940138:=0
def tw14933676257547758189:=0
def tw3375958862738279542:=0
def tw5264796987352049889:=0
def tw17361633825934664590:=0
def tw6972228469112725779:=0
def tw13693448771871597907:=0
def tw13865209928447508402:=0
def tw17266365893252721054:=0
def tw17386692280043729232:=0
def tw13118608833628165541:=0
def tw12677119777838816124:=0
def tw12159282228455149626:=0
def tw14761882871631069255:=0
def tw1656257170850610787:=0
def tw14799313026604985331:=0
def tw4904642510718218032:=0
def tw7457814133278171220:=0
def tw6589412005737562195:=0
def tw16488051381773343367:=0
def tw13591924664090166247:=0
def tw17230367597433097854:=0
def tw5545989330109149661:=0
def tw2600653511590462660:=0
def tw16890079842196345174:=0
def tw6521760504063855819:=0
def tw5991932847867178315:=0
def tw13277105350880670684:=0
def tw13247997330269802310:=0
def tw2200767437117059427:=0
def tw15824519288752549558:=0
def tw4565240002818776216:=0
def tw1790617286631820387:=0
def tw7068436700811709480:=0
def tw17250954969447658757:=0
def tw5654314431365519900:=0
def tw10892876308030516499:=0
def tw6178881648128996005:=0
def tw7170769100468471131:=0
def tw1841839179181919258:=0
def tw1078814889440367819:=0
def tw16745284361505237157:=0
def tw16025888366859755436:=0
def tw7499489325793468843:=0
def tw7765326747296067514:=0
def tw9983762091501864713:=0
def tw1300549691518071885:=0
def tw6948469638941724991:=0
def tw18222080733638404614:=0
def tw2681995048519059377:=0
def tw5114188361383022494:=0
def tw13278091278167461113:=0
def tw3912032839884785048:=0
def tw7549215590668121220:=0
def tw3440030835055360542:=0
def tw2898752880602799900:=0
def tw13641936064082952042:=0
def tw18136883519967227453:=0
def tw10027679746761810306:=0
def tw8177741383260917043:=0
def tw6531262130772924322:=0
def tw16464697335010083399:=0
def tw9037175159630415874:=0
def tw9170115100256046861:=0
def tw9270766440206850880:=0
def tw17898427114150505048:=0
def tw6652773048195183270:=0
def tw17308801654631529111:=0
def tw16920110820915640531:=0
def tw11703008756908460126:=0
def tw12757100356241234673:=0
def tw52529788236805226:=0
def tw8842643213813499699:=0
def tw17564852688746451746:=0
def tw4859368262158388958:=0
def tw8513190073077296112:=0
def tw4090102823570069398:=0
def tw4678448575658840377:=0
def tw9225883492223759562:=0
def tw12473529999655918903:=0
def tw13474567701495241997:=0
def tw16276007551344561132:=0
def tw3800621372924340532:=0
def tw4885548283304300748:=0
def tw10556110559939183690:=0
def tw12159217091047932337:=0
def tw1793138594860484393:=0
def tw6979534013462643492:=0
def tw9865149500152540792:=0
def tw6399940537642667522:=0
def tw10067866552263186895:=0
def tw10411484126977568200:=0
def tw6332979457785854375:=0
def tw8633866756252206848:=0
def tw10294778149266259736:=0
def tw16439872999420241963:=0
def tw12725908469593008472:=0
def tw14197179798728694608:=0
def tw15699020148125052874:=0
def tw14585029606922301759:=0
def tw7351340291944183650:=0
def tw3305993778092509626:=0
def tw11867473672489145985:=0
def tw10901678845603694701:=0
def tw16175789190055419679:=0
def tw16241207323573946826:=0
def tw6291965666456525441:=0
def tw14762450125383409699:=0
def tw3595129626407801268:=0
def tw3239956686110485107:=0
def tw645729702348875827:=0
def tw12988106753770657935:=0
def tw1836988093740712287:=0
def tw11451776262699388114:=0
def tw14980704183562792545:=0
def tw11301667174350708475:=0
def tw12162242036644207389:=0
def tw16587672890705974531:=0
def tw2779381869260022979:=0
def tw13811319398707053365:=0
def tw15619104574262648604:=0
def tw11311652104763052922:=0
def tw13259870347352565417:=0
def tw5500157046121641067:=0
def tw15188313525881462771:=0
def tw5283795918089238549:=0
def tw6431738375423172676:=0
def tw13380195536772742335:=0
def tw17312206328607799104:=0
def tw8146441095104762827:=0
def tw14645246541338697674:=0
def tw4061029954288360206:=0
def tw17741027491786589594:=0
def tw12810517258522381243:=0
def tw14495168091407222937:=0
def tw13993641907571436327:=0
def tw17201762721679831020:=0
def tw11801143947200548707:=0
def tw6892785555861922916:=0
def tw13801413654425366717:=0
def tw8190685444598939063:=0
def tw1380007769427008293:=0
def tw4854318248905304190:=0
def tw4280149906964065999:=0
def tw9648134630702012530:=0
def tw5999634528836653057:=0
def tw10938140618180544539:=0
def tw381354763263617782:=0
def tw6856763232981591938:=0
def tw7907998262487240024:=0
def tw5716217173777224110:=0
def tw12876672434357104786:=0
def tw5982460260059498170:=0
def tw15462130589440788776:=0
def tw12266470890221715784:=0
def tw4370813579798132785:=0
def tw3891843744060158931:=0
def tw16078198673482054651:=0
def tw10797194143718668901:=0
def tw16543969606511778814:=0
def tw13491765141395439417:=0
def tw3624061096715245668:=0
def tw11521623625422951999:=0
def tw3921295660344273659:=0
def tw5426331137225103455:=0
def tw17597479706489557823:=0
def tw3264429901658890112:=0
def tw2980014797699725505:=0
def tw7166893715446332946:=0
def tw9547620744504722719:=0
def tw8451278229824930305:=0
def tw15985632222180052053:=0
def tw10901097594951109220:=0
def tw15033304992184070625:=0
def tw6396314162820108042:=0
def tw9171036731506569043:=0
def tw14660640477775328081:=0
end PySem.W.Fast
open PySem PySem.W PyProof.Rows
set_option maxRecDepth 100000 in
set_option maxHeartbeats 0 in
theorem PySem.Challenge.cw_surecall_k08_calls_done_holds : PySem.Challenge.rw_surecall_k08_calls_done.Holds := by
 w_on;o_law;k_head;(case hw=>w_witness2)
 k_fill
 refine Gn.OY (l:=PySem.Challenge.rw_surecall_k08_calls_done) rfl rfl (fun w h Y=>PySem.W.kIn_of Y) ?F
 case F=>
  intro w mg fa h KX G a0;refine' Gn.wC KX G a0 ⟨?a1,?l1,?c1,?k1⟩ ⟨?a2,?l2,?c2,?k2⟩ ⟨?a3,?l3,?c3,?k3⟩ ⟨?a4,?l4,?c4,?k4⟩ ⟨?a5,?l5,?c5,?k5⟩ ⟨?a6,?l6,?c6,?k6⟩ ⟨?a7,?l7,?c7,?k7⟩ ⟨?a8,?l8,?c8,?k8⟩ ⟨?a9,?l9,?c9,?k9⟩ ⟨?a10,?l10,?c10,?k10⟩ ⟨?a11,?l11,?c11,?k11⟩ ⟨?a12,?l12,?c12,?k12⟩ ⟨?a13,?l13,?c13,?k13⟩ ⟨?a14,?l14,?c14,?k14⟩ ⟨?a15,?l15,?c15,?k15⟩ ⟨?a16,?l16,?c16,?k16⟩ ⟨?a17,?l17,?c17,?k17⟩ ⟨?a18,?l18,?c18,?k18⟩ ⟨?a19,?l19,?c19,?k19⟩ ⟨?a20,?l20,?c20,?k20⟩ ⟨?a21,?l21,?c21,?k21⟩ ⟨?a22,?l22,?c22,?k22⟩ ⟨?a23,?l23,?c23,?k23⟩ ⟨?a24,?l24,?c24,?k24⟩ ⟨?a25,?l25,?c25,?k25⟩ ⟨?a26,?l26,?c26,?k26⟩ ⟨?a27,?l27,?c27,?k27⟩ ⟨?a28,?l28,?c28,?k28⟩ ⟨?a29,?l29,?c29,?k29⟩ ⟨?a30,?l30,?c30,?k30⟩ ⟨?a31,?l31,?c31,?k31⟩ ⟨?a32,?l32,?c32,?k32⟩ ⟨?a33,?l33,?c33,?k33⟩ ⟨?a34,?l34,?c34,?k34⟩ ⟨?a35,?l35,?c35,?k35⟩ ⟨?a36,?l36,?c36,?k36⟩ ⟨?a37,?l37,?c37,?k37⟩ ⟨?a38,?l38,?c38,?k38⟩ ⟨?a39,?l39,?c39,?k39⟩ ⟨?a40,?l40,?c40,?k40⟩ ⟨?a41,?l41,?c41,?k41⟩ ⟨?a42,?l42,?c42,?k42⟩ ⟨?a43,?l43,?c43,?k43⟩ ⟨?a44,?l44,?c44,?k44⟩ ⟨?a45,?l45,?c45,?k45⟩ ⟨?a46,?l46,?c46,?k46⟩ ⟨?a47,?l47,?c47,?k47⟩ ⟨?a48,?l48,?c48,?k48⟩ ⟨?a49,?l49,?c49,?k49⟩ ⟨?lq1,?cq1,?kq1⟩ ⟨?lq2,?cq2,?kq2⟩ ⟨?lq3,?cq3,?kq3⟩ ⟨?lq4,?cq4,?kq4⟩ ⟨?lq5,?cq5,?kq5⟩ ⟨?lq6,?cq6,?kq6⟩ ⟨?lq7,?cq7,?kq7⟩ ⟨?lq8,?cq8,?kq8⟩ ⟨?lq9,?cq9,?kq9⟩ ⟨?ca1,⟨?cb1,?cc1,?cd1,?ce1⟩,?cf1,⟨?cg1,?ch1,?ci1,?cj1⟩,?ck1,?cl1,?cm1⟩ ⟨?ca2,⟨?cb2,?cc2,?cd2,?ce2⟩,?cf2,⟨?cg2,?ch2,?ci2,?cj2⟩,?ck2,?cl2,?cm2⟩ ⟨?ca3,⟨?cb3,?cc3,?cd3,?ce3⟩,?cf3,⟨?cg3,?ch3,?ci3,?cj3⟩,?ck3,?cl3,?cm3⟩ ?nd1 ?nd2 ?aM ?lM ?aH ?lH ?aP ?lP ?aW ?aB ?aT ?aU ?aD ?lD ?z
  (case a1 | l1 | c1 | k1=>k_is)
  (case a2 | l2 | c2 | k2=>k_is)
  (case a3 | l3 | c3 | k3=>k_is)
  (case a4 | l4 | c4 | k4=>k_is)
  (case a5 | l5 | c5 | k5=>k_is)
  (case a6 | l6 | c6 | k6=>k_is)
  (case a7 | l7 | c7 | k7=>k_is)
  (case a8 | l8 | c8 | k8=>k_is)
  (case a9 | l9 | c9 | k9=>k_is)
  (case a10 | l10 | c10 | k10=>k_is)
  (case a11 | l11 | c11 | k11=>k_is)
  (case a12 | l12 | c12 | k12=>k_is)
  (case a13 | l13 | c13 | k13=>k_is)
  (case a14 | l14 | c14 | k14=>k_is)
  (case a15 | l15 | c15 | k15=>k_is)
  (case a16 | l16 | c16 | k16=>k_is)
  (case a17 | l17 | c17 | k17=>k_is)
  (case a18 | l18 | c18 | k18=>k_is)
  (case a19 | l19 | c19 | k19=>k_is)
  (case a20 | l20 | c20 | k20=>k_is)
  (case a21 | l21 | c21 | k21=>k_is)
  (case a22 | l22 | c22 | k22=>k_is)
  (case a23 | l23 | c23 | k23=>k_is)
  (case a24 | l24 | c24 | k24=>k_is)
  (case a25 | l25 | c25 | k25=>k_is)
  (case a26 | l26 | c26 | k26=>k_is)
  (case a27 | l27 | c27 | k27=>k_is)
  (case a28 | l28 | c28 | k28=>k_is)
  (case a29 | l29 | c29 | k29=>k_is)
  (case a30 | l30 | c30 | k30=>k_is)
  (case a31 | l31 | c31 | k31=>k_is)
  (case a32 | l32 | c32 | k32=>k_is)
  (case a33 | l33 | c33 | k33=>k_is)
  (case a34 | l34 | c34 | k34=>k_is)
  (case a35 | l35 | c35 | k35=>k_is)
  (case a36 | l36 | c36 | k36=>k_is)
  (case a37 | l37 | c37 | k37=>k_is)
  (case a38 | l38 | c38 | k38=>k_is)
  (case a39 | l39 | c39 | k39=>k_is)
  (case a40 | l40 | c40 | k40=>k_is)
  (case a41 | l41 | c41 | k41=>k_is)
  (case a42 | l42 | c42 | k42=>k_is)
  (case a43 | l43 | c43 | k43=>k_is)
  (case a44 | l44 | c44 | k44=>k_is)
  (case a45 | l45 | c45 | k45=>k_is)
  (case a46 | l46 | c46 | k46=>k_is)
  (case a47 | l47 | c47 | k47=>k_is)
  (case a48 | l48 | c48 | k48=>k_is)
  (case a49 | l49 | c49 | k49=>k_is)
  (case aD=>k_is);(case lD=>k_is)
  (case lq1=>k_is);(case cq1=>k_is);(case kq1=>k_is)
  (case lq2=>k_is);(case cq2=>k_is);(case kq2=>k_is)
  (case lq3=>k_is);(case cq3=>k_is);(case kq3=>k_is)
  (case lq4=>k_is);(case cq4=>k_is);(case kq4=>k_is)
  (case lq5=>k_is);(case cq5=>k_is);(case kq5=>k_is)
  (case lq6=>k_is);(case cq6=>k_is);(case kq6=>k_is)
  (case lq7=>k_is);(case cq7=>k_is);(case kq7=>k_is)
  (case lq8=>k_is);(case cq8=>k_is);(case kq8=>k_is)
  (case lq9=>k_is);(case cq9=>k_is);(case kq9=>k_is)
  (case ca1=>k_is);(case cb1=>k_is);(case cc1=>k_is);(case cd1=>k_is);(case ce1=>k_is);(case ch1=>k_is);(case cg1=>k_is);(case ci1=>k_is);(case cj1=>k_is);(case ck1=>k_is);(case cl1=>k_is);(case cm1=>k_is)
  (case cf1=>simp only[rZ];refine{?_,?_,fun _ h=>nomatch h} <;> k_is)
  (case ca2=>k_is);(case cb2=>k_is);(case cc2=>k_is);(case cd2=>k_is);(case ce2=>k_is);(case ch2=>k_is);(case cg2=>k_is);(case ci2=>k_is);(case cj2=>k_is);(case ck2=>k_is);(case cl2=>k_is);(case cm2=>k_is)
  (case cf2=>simp only[rZ];refine{?_,?_,?_,?_,fun _ h=>nomatch h} <;> k_is)
  (case ca3=>k_is);(case cb3=>k_is);(case cc3=>k_is);(case cd3=>k_is);(case ce3=>k_is);(case ch3=>k_is);(case cg3=>k_is);(case ci3=>k_is);(case cj3=>k_is);(case ck3=>k_is);(case cl3=>k_is);(case cm3=>k_is)
  (case cf3=>simp only[rZ];refine{?_,?_,?_,?_,?_,?_,?_,?_,?_,?_,?_,?_,fun _ h=>nomatch h} <;> k_is)
  (case aM | lM | aH | lH=>k_is);(case aP=>k_is);(case lP=>k_is);(case aW=>k_is);(case aB=>k_is);(case aT=>k_is);(case aU=>k_is)
  (case nd1=>decide);(case nd2=>decide)
  (case z=>simp only[rZ];refine{?_,?_,?_,?_,?_,?_,?_,?_,?_,?_,?_,?_,?_,?_,?_,?_,?_,?_,fun _ h=>nomatch h} <;> k_is)
#print axioms PySem.Challenge.cw_surecall_k08_calls_done_holds
end
