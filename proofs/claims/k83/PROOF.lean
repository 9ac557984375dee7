import PyProof.Rows.All
import Wide.All
import OpenK.AllK
import Wide.FinOn
import Lean
import PyProof.EqAt
import PyProof.EqKinds
import PyProof.TupleCall
import PySem.Challenge.RW_oneroom_k83_whole_desk
open Option renaming some->E,none->y
open Bool renaming true->sX,false->sJ
open PySem renaming Addr->sK,Value->sV
theorem Y{α:Sort u}{a:α}:a=a:=rfl
set_option compiler.extract_closed false
set_option bootstrap.genMatcherCode false
noncomputable section
theorem dL(h:True:=by first|show .inl rfl|show .inr rfl|assumption):True:=h
def qZ:=dL._auto_1
theorem q8(h:True:=by decide):True:=h
def q9:=q8._auto_1
theorem rQ(h:True:=by first|show xjg _ #[6] #[6]|rfl):True:=h
def rZ:=rQ._auto_1
theorem rX(h:True:=by rfl):True:=h
def rJ:=rX._auto_1
theorem rK(h:True:=by intro _;rfl):True:=h
def rV:=rK._auto_1
theorem rW(h:True:=by first|show aG rfl|show dP (aG Y)|show dP (dP Y)):True:=h
def rY:=rW._auto_1
theorem rA(h:True:=by show xou _):True:=h
def rB:=rA._auto_1
theorem rC(h:True:=by size_fits):True:=h
def rD:=rC._auto_1
theorem rE(h:True:=by walk_at"l"):True:=h
def rF:=rE._auto_1
theorem rG(h:True:=by walk_at"c"):True:=h
def rH:=rG._auto_1
namespace Internal
end Internal
open Internal
set_option Elab.async false
set_option linter.all false
set_option maxRecDepth 100000
set_option maxHeartbeats 4000000
open And renaming intro->bG
open Array renaming length_toList->aU,getElem?_eq_getElem->cO,getElem?_eq_some_iff->c5,toList_extract->d8,getElem?_toList->eX,toList_append->fM,toList_inj->iP,getElem?_setIfInBounds_ne->i6,perm_iff_toList_perm->kY,toList_setIfInBounds->la,toList_push->ll,mem_toList_iff->mS,toArray_toList->nh,getElem_toList->ni,find?_toList->nR,forIn_toList->n8
open Bool renaming false_ne_true->aD,false_eq_true->cA,eq_iff_iff->dX,and_eq_true_iff->d7,and_eq_true->fF
open Classical renaming propDecidable->l6
open False renaming elim->aV
open ForInStep renaming yield->eY,done->oJ
open Function renaming comp_def->oh
open Int renaming toNat_natCast->cf,toNat_of_nonneg->cq,eq_ofNat_of_zero_le->eA,emod_lt_of_pos->eU,emod_nonneg->gb,lt_of_add_lt_add_left->gO,natCast_nonneg->ik,le_refl->iB,le_trans->ke,add_sub_cancel->kR,le_add_of_nonneg_right->lb,ofNat_le->lT,add_comm->lU,ofNat_lt->lW
open Int.le renaming dest->kJ
open List renaming length_map->aa,mem_singleton->ai,mem_of_getElem?->aj,length_append->ao,getElem?_eq_getElem->au,getElem?_map->av,mem_cons_of_mem->aw,mem_cons->aB,getElem?_eq_some_iff->aE,size_toArray->aH,mem_cons_self->aJ,toArray->aL,mem_append_right->aN,map_append->aO,length_cons->aT,mem_map->aY,mem_append->aZ,replicate->a7,length_take->a8,map_cons->ba,take_succ->bh,take_length->bo,getElem?_append_left->bq,append_assoc->bu,mem_append_left->bB,length_drop->bC,range->bD,take_of_length_le->bE,mem_filter->bJ,getElem?_append_right->bP,mem_of_mem_take->bQ,not_mem_nil->bR,length_singleton->bT,mem_iff_getElem?->bU,getElem?_eq_none->bV,getD->bX,all_eq_true->bZ,pairwise_append->b8,length_pos_iff->cb,pairwise_iff_getElem->cc,mem_of_mem_drop->cx,length->cz,mem_range->cC,lookup_cons->cE,getElem_mem->cF,pairwise_map->cI,getD_eq_getElem?_getD->cK,mem_iff_getElem->cM,drop_eq_getElem_cons->cP,map_drop->cQ,nodup_cons->cV,length_nil->cW,take_succ_eq_append_getElem->cZ,map_map->c7,drop_eq_nil_of_le->c8,append_nil->df,extract_eq_take_drop->di,length_filter_le->dm,mem_flatten->dw,map_take->dy,getElem?_set_ne->dz,length_eq_zero_iff->dD,flatten_cons->dG,replicate_succ->dH,drop_zero->dQ,getElem?_drop->dU,of_mem_zip->dZ,length_range->ef,pairwise_singleton->eC,filter_append->eQ,length_set->eW,take_append_drop->eZ,ext_getElem?->fi,getElem?_take_of_lt->fE,any_eq_true->fJ,mem_map_of_mem->fL,filter_cons_of_neg->fN,filter_cons_of_pos->fO,nil_append->fX,find?_cons->fY,getElem?_set_self->gc,lookup->gd,foldl_append->gn,nodup_append->gp,drop_drop->gw,filterMap_cons->gI,mem_or_eq_of_mem_set->gN,mem_take_iff_getElem->gP,mem_filterMap->gS,getElem?_take->il,pairwise_cons->ip,drop_of_length_le->iA,any_cons->iE,sum_cons->iH,filter_cons->iK,nodup_range->iN,mem_flatMap->iS,length_replicate->iW,eq_nil_or_concat->i3,concat_eq_append->i4,range_succ->j8,any_map->j9,length_reverse->ki,getElem?_range->kj,flatMap_append->km,take_zero->kC,map_replicate->kT,reverse_perm->lp,mem_of_find?_eq_some->lr,getElem_inj->lG,map_snd_zip->lR,map_set->lV,getElem?_replicate->lX,mem_singleton_self->l5,foldl_cons->md,forIn_cons->mh,filter_map->mi,perm_append_comm->mP,foldl->mY,replicate_succ'->nj,getElem_of_mem->nK,reverse_append->nM,flatten_append->nN,zip_cons_cons->nZ,map_nil->n5,map_id->oz,map->oB
open List.Perm renaming append_left->dq,trans->gL,of_eq->mx,refl->mQ
open Nat renaming le_refl->ah,lt_of_lt_of_le->az,ne_of_lt->aC,le_trans->aQ,zero_le->aX,lt_irrefl->bN,le_of_lt->cR,le_succ->cU,add_sub_cancel_left->cY,lt_succ_self->du,lt_of_le_of_lt->dv,lt_of_le_of_ne->dS,le_of_eq->dY,min_eq_left->d9,ne_of_gt->eP,le_of_succ_le->fj,sub_add_cancel->fZ,succ_mul->g7,lt_of_succ_lt->iy,le_add_right->iQ,min_eq_right->iR,not_lt_zero->kc,mul_le_mul_right->kd,add_min_add_left->kf,div_mul_le_self->kl,pos_of_ne_zero->kQ,lt_div_mul_add->kW,min_le_right->lI,succ_ne_self->lQ,zero_lt_one->mj,le_add_left->mq,min_le_left->my,lt_of_succ_lt_succ->mD,add_le_add_left->nH,zero_add->n6,log2_lt->oy
open Nat.le renaming dest->kH
open Ne renaming symm->aW
open Option renaming map_eq_some_iff->aI,isSome_iff_exists->gY,isSome_map->ix,map_some->j3,getD_none->oA,map->oH
open Option.some renaming inj->bI,injEq->oa
open Or renaming inl->aG,inr->dP
open Prod.mk renaming injEq->iG
open PyProof renaming noPylong_of_log2->lJ
open PyProof.Rows renaming SortSt->bt,seqObj->bA,callWith_type1->bW,IntsAre->cX,kindOf->de,envOfC->fC,AllBare->gr,SortKind->gz,listUpdate_at->gF,get?_update_seq->gK,failedOf->kA,oneType'->lN,pendingOf->mn,callWith_kw->mB,ksk_end->mO,keyLt'_oneType->mR,boot_range->m6,kws_cons->ng,Constant_none->nv,subscriptTail->nC
open PyProof.Rows.SortSt renaming mk'->lA
open PySem renaming wpAny_bind->ae,Shared->ag,sizeLine_eq->ak,wpAny_pure->ar,FuncData->ay,sizeLine->aK,starEach->aM,wpAny_mono->aR,Program->a9,Around->bx,compareOp->bH,bootBuiltins->bK,wpAny_Call_Name_kw->bL,wpAny_holding->bO,wpAny_loadPart'->bS,backTo->bY,mainGlobals->cg,rawInt->ck,plainId_quiet->cD,wpAny_truthy_bool->cH,codeAny->cS,Arguments->c9,wpAny_updateSeq->dg,codeAny_builtin->dh,call_meets->dA,binaryOp->dE,codeAny_mono->dI,wpAny_letGo->dJ,wpAny_field->dN,behindInMarks->dO,builtinsNs->dW,lookup_relabel_local->d4,FuncBody->d5,wpAny_pyIter_list->ee,wpAny_standAt->eh,NameKind->eE,wpAny_seqItems->eI,wpAny_tryCatch->eJ,sysModules->eM,wpAny_rule->eN,wpAny_passesOwn->eV,wpAny_FormattedValue_plain->ff,foldedSetIterable->fg,wpAny_newObj_type->fh,holding->fA,Builtin->fP,wpAny_execs_nil->fU,wpAny_call->fV,typeIs_str->fW,wpAny_pyIter_enum->gk,wpAny_loadPart_at->gm,codeAny_call_function->gs,wpAny_formatField_int->gv,Joins_cons->gA,attributeBase->gD,wpAny_newFunctionEnv_cells->gE,keywordEach->gG,sliceBounds->gH,codeAmong->gR,Result->gT,wpAny_comprehension_free->g8,updateSeq->g9,typeLookup->iq,wpAny_setField->ir,wpAny_callSpecial?_slot->iu,excClassObj->iC,strIterType->iD,wpAny_newList->iF,callWith->iI,wpAny_isTrue_Compare1->iT,swapsWith->iU,getMethod->iV,seqItems?->iX,plainObj_wpAny_Assign_Attribute->i5,assignEach->i8,pyNext->i9,letOwnedTupleGo->j0,wpAny_newFunctionEnv->j4,wpAny_typeOf->j5,PyData->j6,codeAny_call_builtin->ka,bindArgs->ko,backToKw->ku,intItems->ky,wpAny_of_eq->kF,assign->kK,wpAny_pyIter_tuple->kL,tupleKind_room_in1->kM,wpAny_letOwnedTupleGo_enum->kZ,wpAny_assign_Name->lg,standAt->lC,valueAt->lD,callerA->lE,ItemsOf->lF,wpAny_call_entry->lO,IsEnum->lP,wpAny_pyNext_enum_itemD->lZ,tupleKind->l7,TriplesOk->l8,cellsFrom->l9,wpAny_specialOf->me,subscripted->mz,wpAny_loadPart->mE,BindsTo->mF,wpAny_notIn_of->mG,relabel->mH,newFunctionEnv->mI,callType_codes->mJ,closureFor->mZ,IsLongIter->m5,nums_intItems->nE,wpAny_attempt->nG
open PySem.Around renaming under_plainId->dB,frames_deeper->mU,under->nU
open PySem.AutoSeq1 renaming wpAny_loadPart'->ig
open PySem.Builtin.Builtins renaming bindParams->eR
open PySem.Builtin.Dict renaming updateFrom->l0
open PySem.Builtin.List renaming listExtendWith->bM,listTooLong->fG,listSameRef->fH,listItems->gf,listUpdate->lY
open PySem.Builtin.ObjectAttr renaming storeInDict->kb
open PySem.Builtin.Range renaming rangeSize->br,small->kg
open PySem.Builtin.SmallTypes renaming nextOf->fm,fitsIndex->gu
open PySem.Builtin.Str renaming occurrences->dC,subAt->lh,strKind->nL
open PySem.Calls renaming Constant_str->fT,spliced_cons->gW,spliced_nil->iw,callWith_builtin->iz,Name_function_global->kX,evalArgs_plain->mX
open PySem.Code renaming quiet_builtin->ic,isFrame->nW
open PySem.Data renaming fields->oq
open PySem.EntryCells renaming newEntry->nI
open PySem.F renaming slot_tuple_iterator_next->fc,plain_max_loop->fK,slot_list_getattribute->ij,plain_extend_loop->kh,args_tuple_iterator_next_1->kB,entry_tuple_iterator_next->kO,args_str_split_2->kP,entry_str_split->lj,slot_str_split->lS,entry_enumerate_new->mK,slot_enumerate_next->mL
open PySem.Heap renaming get?_push_of_some->af,lt_size->aq,get?_push_size->aF,get?_update_other->bj,get?_update_self->b9,size_push->cT,get?_none_of_le->gy,SameBut->i7,DictAt->mC,get?_update_ne->nJ,ExtBut->ou
open PySem.Heap.DictOf renaming new->oF
open PySem.Heap.Ns1 renaming of_empty->n9
open PySem.Heap.SameBut renaming update->cu
open PySem.NameKind renaming free->cw,cell->nD
open PySem.Obj renaming mapSeq->bb,mapFields->fQ,data_mapFields->ie,isFreed_of_fields->iY
open PySem.PyData renaming int->d6,canLay0->kz,canLayAll0->lq,weightAll->lL,depth->lM,eqv->m7,str->nq,weight->nF
open PySem.PyData.weight renaming eq_def->m9
open PySem.SeqAt renaming shaped->j7,EqAt->oE
open PySem.SeqAt.EqAt renaming int_str->nO,str_int->nQ,int_int->nY
open PySem.Str renaming ofString->bF,join->b7,empty->cy,length->eO
open PySem.StrLaws renaming subAt_eq->oC
open PySem.Value renaming ref->aS,none->bz,type->cL,bool->eK,int->fR,str->gx,notImplemented->mW,isStrOf->nr,isInt->om,float->oo
open PySem.W renaming Frag->ax,kasC_bind->aA,kasC_pure->cG,emptyDict->fq,kia_one->fw,kasC_modify->fz,findIn->fB,kasC_get->gC,methodCall_KW->gJ,instObj->gQ,keepIn->gU,callWith_K->gX,fnOf->gZ,cellsFrom_some->iJ,ke_shaped_ints->iL,tabObj->iM,kitCls->iO,kasC_lift->iZ,hasDictIn->kE,nsIn->kN,kitOne->lH,envX->lK,plainGet->mT,codeIn->mV,CodeHd->m8,plainGet_of->ny,looks_clsIn->nz,callWith_K0->nB,codeRec_of->nX
open PySem.Walks renaming list->lz,dictKeys->mM
open Sum renaming inl->cJ,inr->lB
open True renaming intro->cm
set_option hygiene false
local macro_rules| `(#[1])=>`(model prog w)
local macro_rules| `(#[2])=>`(by lia)
local macro_rules| `(#[3])=>`(model X.prog X.w)
local macro_rules| `(#[4])=>`(yu (cap:=[]) (ys:=[]) Y Y Y Y Y trivial (by decide+kernel))
local macro_rules| `(#[5])=>`(by rfl)
local macro_rules| `(#[6])=>`(by decide)
local macro_rules| `(#[7])=>`(aM (e::es) X.env=(sJ,eval e X.env)::aM es X.env)
local macro_rules| `(#[8])=>`(by simp)
local macro_rules| `(#[9])=>`(by kernel_rfl)
local macro_rules| `(#[10])=>`(zk X.env.cells scope.names [])
local macro_rules| `(#[11])=>`(xv (cv 0) Y)
local macro_rules| `(#[12])=>`((x==("__debug__":Str))=sJ)
local macro_rules| `(#[13])=>`((∀u u5,xf sI u5->(∀H6,xf H3 H6->(∀p o,(sI p=y\/∀ys,o≠HO.lst ys)->u5 p=E o->H6 p=E o)->Pv (i+1) (acc++[u]) H6)->R u u5))
local macro_rules| `(#[14])=>`(X.si scope G.objs.size (x1::x2::ys) rg H2 fp)
local macro_rules| `(#[15])=>`(xy xG (cv 0) xj λ_ _=>Y)
local macro_rules| `(#[16])=>`(ha pos pins s σ H _ I h)
local macro_rules| `(#[17])=>`((bY pos<|aM es X.env).any (·.1)=sJ)
local macro_rules| `(#[18])=>`(by decide+kernel)
set_option hygiene true
local macro_rules| `(tactic|show$e:term)=>`(tactic|first|refine $e|change $e)
namespace Internal.L2
open PySem PySem.Spec PyProof.Rows
variable {H H':Hp} {X:Cx} {s s':ag} {A:bx} {σ:St} {pins:List (sK×Obj)} {x:Str} {pos p:Pos} {u:sV} {a C dx f:sK} {sQ Q:sV->ag->Prop} {K:ax} {w:World} {h h':Heap} {e tg:Expr} {o:HO} {P:a9} {us:List sV} {t' i:Nat} {M:Model} {v sZ:V} {ta te tb:TE} {es:List Expr} {op:CmpOp} {ps N:List Str} {xs vs:List V} {pl:Sem Bool} {t:TA} {CX:wY} {α:Type} {ch fp:List sK} {D:Ends} {mA mg:Str->Option sV} {kw:List (Str×sV)} {fd:ay} {sp:Sp}
inductive sE{α β:Type}(p:α->β->Prop):Prop
 |intro(a:α) (b:β) (h:p a b):sE p
inductive tK{α β γ:Type}(p:α->β->γ->Prop):Prop
 |intro(a:α) (b:β) (c:γ) (h:p a b c):tK p
inductive tS{α β γ δ:Type}(p:α->β->γ->δ->Prop):Prop
 |intro(a:α) (b:β) (c:γ) (d:δ) (h:p a b c d):tS p
inductive tE{α β γ δ ε:Type}(p:α->β->γ->δ->ε->Prop):Prop
 |intro(a:α) (b:β) (c:γ) (d:δ) (e:ε) (h:p a b c d e):tE p
inductive tW{α β γ δ ε ζ:Type}(p:α->β->γ->δ->ε->ζ->Prop):Prop
 |intro(a:α) (b:β) (c:γ) (d:δ) (e:ε) (f:ζ) (h:p a b c d e f):tW p
inductive BM{α β γ δ ε ζ η:Type}(p:α->β->γ->δ->ε->ζ->η->Prop):Prop
 |intro(a:α) (b:β) (c:γ) (d:δ) (e:ε) (f:ζ) (g:η) (h:p a b c d e f g):BM p
inductive IB{α β γ δ ε ζ η θ:Type}(p:α->β->γ->δ->ε->ζ->η->θ->Prop):Prop
 |intro(a:α) (b:β) (c:γ) (d:δ) (e:ε) (f:ζ) (g:η) (i:θ) (h:p a b c d e f g i):IB p
inductive IA{α β γ δ ε ζ η θ ι:Type}(p:α->β->γ->δ->ε->ζ->η->θ->ι->Prop):Prop
 |intro(a:α) (b:β) (c:γ) (d:δ) (e:ε) (f:ζ) (g:η) (i:θ) (j:ι) (h:p a b c d e f g i j):IA p
inductive E7{α β γ δ ε ζ η θ ι κ:Type}(p:α->β->γ->δ->ε->ζ->η->θ->ι->κ->Prop):Prop
 |intro(a:α) (b:β) (c:γ) (d:δ) (e:ε) (f:ζ) (g:η) (i:θ) (j:ι) (k:κ) (h:p a b c d e f g i j k):E7 p
inductive Jf{α β γ δ ε ζ η θ ι κ ℓ:Type}(p:α->β->γ->δ->ε->ζ->η->θ->ι->κ->ℓ->Prop):Prop
 |intro(a:α) (b:β) (c:γ) (d:δ) (e:ε) (f:ζ) (g:η) (i:θ) (j:ι) (k:κ) (l:ℓ) (h:p a b c d e f g i j k l):Jf p
inductive E6{α β γ δ ε ζ η θ ι κ ℓ μ:Type}(p:α->β->γ->δ->ε->ζ->η->θ->ι->κ->ℓ->μ->Prop):Prop
 |intro(a:α) (b:β) (c:γ) (d:δ) (e:ε) (f:ζ) (g:η) (i:θ) (j:ι) (k:κ) (l:ℓ) (m:μ) (h:p a b c d e f g i j k l m):E6 p
inductive tG(a b c:Prop):Prop
 |intro(a':a) (b':b) (c':c):tG a b c
inductive sU(a b c d:Prop):Prop
 |intro(a':a) (b':b) (c':c) (d':d):sU a b c d
inductive tF(a b c d e:Prop):Prop
 |intro(a':a) (b':b) (c':c) (d':d) (e':e):tF a b c d e
inductive tY(a b c d e f:Prop):Prop
 |intro(a':a) (b':b) (c':c) (d':d) (e':e) (f':f):tY a b c d e f
inductive AH(a b c d e f g:Prop):Prop
 |intro(a':a) (b':b) (c':c) (d':d) (e':e) (f':f) (g':g):AH a b c d e f g
inductive BO(a b c d e f g h:Prop):Prop
 |intro(a':a) (b':b) (c':c) (d':d) (e':e) (f':f) (g':g) (h':h):BO a b c d e f g h
inductive EY(a b c d e f g h i:Prop):Prop
 |intro(a':a) (b':b) (c':c) (d':d) (e':e) (f':f) (g':g) (h':h) (i':i):EY a b c d e f g h i
inductive DA(a b c d e f g h i j:Prop):Prop
 |intro(a':a) (b':b) (c':c) (d':d) (e':e) (f':f) (g':g) (h':h) (i':i) (j':j):DA a b c d e f g h i j
inductive Je(a b c d e f g h i j k:Prop):Prop
 |intro(a':a) (b':b) (c':c) (d':d) (e':e) (f':f) (g':g) (h':h) (i':i) (j':j) (k':k):Je a b c d e f g h i j k
inductive E5(a b c d e f g h i j k l m:Prop):Prop
 |intro(a':a) (b':b) (c':c) (d':d) (e':e) (f':f) (g':g) (h':h) (i':i) (j':j) (k':k) (l':l) (m':m):E5 a b c d e f g h i j k l m
inductive Jd(a b c d e f g h i j k l m n o:Prop):Prop
 |intro(a':a) (b':b) (c':c) (d':d) (e':e) (f':f) (g':g) (h':h) (i':i) (j':j) (k':k) (l':l) (m':m) (n':n) (o':o):Jd a b c d e f g h i j k l m n o
inductive Jc(a b c d e f g h i j k l m n o p:Prop):Prop
 |intro(a':a) (b':b) (c':c) (d':d) (e':e) (f':f) (g':g) (h':h) (i':i) (j':j) (k':k) (l':l) (m':m) (n':n) (o':o) (p':p):Jc a b c d e f g h i j k l m n o p
def oG{R:Prop}(h:∀G:Prop,(R->G)->G):R:=h R id
abbrev Key:=Sum Int Str
noncomputable def vP:Key->sV->Bool
 | .inl k,v=>om k v
 | .inr x,v=>nr x v
noncomputable def Pc(w:World):Key->Int
 | .inl k=>hashInt k
 | .inr x=>hashStr w x
theorem yP:∀{k:Key} {v:sV},vP k v=sX->(∃i t,k=cJ i/\v=fR i t)\/(∃x t,k=lB x/\v=gx x t)
 | .inl i,v,h=>by
  obtain⟨t,e⟩:=Value.isInt_shape (k:=i) (v:=v) h;show .inl ⟨i,t,Y,e⟩
 | .inr x,v,h=>by
  obtain⟨t,e⟩:=Value.isStrOf_shape (x:=x) (v:=v) h;show .inr ⟨x,t,Y,e⟩
def Wf(i:Int)(t:Tok):vP (.inl i) (.int i t)=sX:=by simp[vP,om]
def We(x:Str)(t:Tok):vP (.inr x) (.str x t)=sX:=by simp[vP,nr]
def Sd(a b:Int):decide ((cJ a:Key)=cJ b)=(a==b):=by
 by_cases e:a=b
 ·subst e;simp
 ·have h:¬(cJ a:Key)=cJ b:=λq=>e<|Sum.inl.inj q;rw[decide_eq_false h];show(beq_eq_false_iff_ne.mpr e).symm
def Sb(a b:Str):decide ((lB a:Key)=lB b)=decide (a=b):=by
 by_cases e:a=b
 ·subst e;simp
 ·have h:¬(lB a:Key)=lB b:=λq=>e<|Sum.inr.inj q;rw[decide_eq_false h,decide_eq_false e]
def Sa(a:Int)(b:Str):decide ((cJ a:Key)=lB b)=sJ:=decide_eq_false (λq=>nomatch q)
def R9(a:Str)(b:Int):decide ((lB a:Key)=cJ b)=sJ:=decide_eq_false (λq=>nomatch q)
noncomputable def yr(prog:a9)(w:World):PySem.KeyKind prog w Key where
 is:=vP
 hash:=Pc w
 inj:=λv a b ha hb=>by
  rcases yP ha with⟨i,t,rfl,rfl⟩|⟨x,t,rfl,rfl⟩
  ·rcases yP hb with⟨j,u,rfl,e⟩|⟨sZ,u,rfl,e⟩
   ·injection e with e1 _;rw[e1]
   ·show nomatch e
  ·rcases yP hb with⟨j,u,rfl,e⟩|⟨sZ,u,rfl,e⟩
   ·show nomatch e
   ·injection e with e1 _;rw[e1]
 byValue:=λk v h=>by
  rcases yP h with⟨i,t,rfl,rfl⟩|⟨x,t,rfl,rfl⟩<;> rfl
 pyHash:=λhv h=>by
  rcases yP hv with⟨i,t,rfl,rfl⟩|⟨x,t,rfl,rfl⟩
  ·show wpAny_pyHash_int h
  ·show wpAny_pyHash_str h
 eqBool:=λhu hv h=>by
  rcases yP hu with⟨i,t,rfl,rfl⟩|⟨x,t,rfl,rfl⟩
  ·rcases yP hv with⟨j,u,rfl,rfl⟩|⟨sZ,u,rfl,rfl⟩
   ·rw[Sd]at h;show wpAny_eqBool_int h
   ·rw[Sa]at h;show nO i t sZ u _ _ _ _ h
  ·rcases yP hv with⟨j,u,rfl,rfl⟩|⟨sZ,u,rfl,rfl⟩
   ·rw[R9]at h;show nQ x t j u _ _ _ _ h
   ·rw[Sb]at h;show wpAny_eqBool_str h
 «strs»:=λk x t v h=>by
  rcases yP h with⟨i,u,rfl,e⟩|⟨sZ,u,rfl,e⟩
  ·show nomatch e
  ·injection e with e1 _;subst e1;cases v<;> rfl
def Zg(prog:a9)(w:World)(i:Int)(t:Tok):(yr prog w).is (.inl i) (.int i t)=sX:=Wf i t
def Zf(prog:a9)(w:World)(x:Str)(t:Tok):(yr prog w).is (.inr x) (.str x t)=sX:=We x t
inductive V where
 |rp|bl (b:Bool)|int (i:Int)|str (x:Str)|wX (b:Array UInt8)|A2 (b:UInt64)|ref (a:sK)|ty (n:String)
 deriving DecidableEq
def RelV:V->sV->Prop
 | .rp,u=>u=bz
 | .bl b,u=>u=eK b
 | .int i,u=>∃t,u=fR i t
 | .str x,u=>∃t,u=gx x t
 | .wX b,u=>∃t,u=Value.bytes b t
 | .A2 b,u=>∃t,u=oo b t
 | .ref a,u=>u=aS a
 | .ty n,u=>u=cL n
def RelV.fn{x:V}(a:RelV x u)(b:RelV sZ u):x=sZ:=by
 cases x<;> simp only[RelV]at a<;> (first|subst a|(obtain⟨_,rfl⟩:=a))<;> cases sZ<;> simp only[RelV]at b<;> first|rfl|(cases b;done)|(cases b;rfl)|(obtain⟨_,b⟩:=b;cases b;done)|(obtain⟨_,b⟩:=b;cases b;rfl)
abbrev Vals:List V->List sV->Prop:=Paired RelV
def Vals.length(r:Vals xs us):xs.length=us.length:=Paired.length r
theorem Vals.get:∀{xs:List V} {us:List sV} {i:Nat} {x:V},Vals xs us->xs[i]? =E x->∃u,us[i]? =E u/\RelV x u
 |_,_,_,_,.nil,e=>by simp at e
 |_,_,0,_,.cons r _,e=>by simp at e;subst e;show⟨_,Y,r⟩
 |_,_,i+1,x,.cons _ t,e=>by
  obtain⟨u,h1,h2⟩:=Vals.get (i:=i) (x:=x) t (by simpa using e);show⟨u,by simpa using h1,h2⟩
theorem Vals.set{x:V}{u:sV}(r:RelV x u):∀{xs:List V} {us:List sV} (i:Nat),Vals xs us->Vals (xs.set i x) (us.set i u)
 |_,_,_,.nil=>.nil
 |_,_,0,.cons _ t=>.cons r t
 |_,_,i+1,.cons q t=>.cons q (Vals.set r i t)
theorem Vals.append:∀{xs ys:List V} {us ws:List sV},Vals xs us->Vals ys ws->Vals (xs++ys) (us++ws)
 |_,_,_,_,.nil,s=>s
 |_,_,_,_,.cons r t,s=>.cons r (Vals.append t s)
theorem Vals.take:∀{xs:List V} {us:List sV} (n:Nat),Vals xs us->Vals (xs.take n) (us.take n)
 |_,_,0,_=>.nil
 |_,_,_+1,.nil=>.nil
 |_,_,n+1,.cons r t=>.cons r (Vals.take n t)
theorem Vals.drop:∀{xs:List V} {us:List sV} (n:Nat),Vals xs us->Vals (xs.drop n) (us.drop n)
 |_,_,0,r=>r
 |_,_,_+1,.nil=>.nil
 |_,_,n+1,.cons _ t=>Vals.drop n t
def ja:Option V->Option sV->Prop
 |some v,E u=>RelV v u
 |none,y=>True
 |_,_=>False
def KV{κ:Type}:List (κ×V)->List (κ×sV)->Prop:=Paired λ(p:κ×V) (q:κ×sV)=>p.1=q.1/\RelV p.2 q.2
noncomputable def kV:Key->V
 | .inl i=>.int i
 | .inr x=>.str x
inductive HO where
 |lst (xs:List V)
 |tup (xs:List V)
 |dK (kvs:List (Key×V))|dT (kvs:List (List Key×V))
 |set (S:Int->Bool) (n:Nat)
 |ins (C dx:sK) (fs:List (Str×V))
 |own (x:sK)
 |xd (fs:List (Str×V))
 |met (f x:sK)
 |z0 (lo hi:Int)
 |sC (o:Obj) (u:HO)
 |sk (qs:List (Pos×Str))
 |tm (v:Option V)
 |ext (φ:Heap->Prop)
abbrev Hp:=sK->Option HO
noncomputable def upd(H:Hp)(a:sK)(o:HO):Hp:=λb=>if b=a then E o else H b
def xk:upd H a o a=E o:=by unfold upd;rw[if_pos rfl]
def xl{b:sK}(h:b≠a):upd H a o b=H b:=by unfold upd;rw[if_neg h]
def yO{u:HO}:upd (upd H a o) a u=upd H a u:=by
 funext b;unfold upd;split<;> rfl
def zt{b:sK}{u:HO}(h:H a=E o)(h':H b=E u)(d:o≠u):a≠b:=by
 intro e;subst e;rw[h]at h';show d (bI h')
def xH{b:sK}(h:H a=E o)(h':H b=y):a≠b:=by
 intro e;subst e;rw[h]at h';cases h'
section
variable (P:a9) (w:World)
def xP(H:Hp)(h:Heap)(a:sK):HO->Prop
 | .lst xs=>xs.length<=aK/\∃(rf:List sV) (n:Nat),Vals xs rf/\h.get? a=E {cls:=.type "list",data:=.seq rf.toArray n}
 | .tup xs=>xs.length<=aK/\∃rf:List sV,Vals xs rf/\IsTup h a rf.toArray
 | .dK kvs=>kvs.length<=aK/\(a==eM)=sJ/\∃vs,KV kvs vs/\h.DictOf (yr P w) a vs
 | .dT kvs=>kvs.length<=aK/\(a==eM)=sJ/\∃xs:List (List Key×sK×sV),
   Paired (λ(p:List Key×V) (q:List Key×sK×sV)=>p.1=q.1/\H q.2.1=E (.tup<|p.1.map kV)/\RelV p.2 q.2.2) kvs xs/\
   ∃o es ep,h.get? a=E o/\o.ExactDict/\o.data= .dict es ep/\es.toList=xs.map (entryOfKey (l7<|yr P w))/\(xs.map (·.1)).Nodup
 | .set S n=>h.SetOf (intKind P w) a S n
 | .ins C dx fs=>H dx=E (.own a)/\fs.length<=1000/\dx≠a/\h.get? a=E (gQ C dx)/\
   ∃mA,h.Ns1 dx mA/\(∀f,ja (fs.lookup f)<|mA f)/\PySem.Within mA (fs.map (·.1))
 | .own _=>∃o,h.get? a=E o
 | .xd fs=>∃mA,h.Ns1 a mA/\∀f,ja (fs.lookup f) (mA f)
 | .z0 lo hi=>∃t u v,h.get? a=E {cls:=.type "range",data:=.fields #[.int lo t,.int hi u,.int 1 v]}
 | .sC o u=>h.get? a=E o/\xP H h a u
 | .sk qs=>∃ps:Array sV,h.get? a=E {cls:=.none,data:=.fields ps}/\l8 ps.toList/\∀pos q,(pos,q)∈qs->
   gR pos ps.toList=y\/∃c o u vs t,gR pos ps.toList=E (.ref c)/\H c=E (.sC o u)/\o.data= .fields vs/\vs[1]? =E (.str q t)
 | .tm v=>∃u,h.IsCell a u/\∀x,v=E x->∃sZ,u=E sZ/\RelV x sZ
 | .met f x=>h.get? a=E (W.methodObj (.ref f)<|.ref x)
 | .ext φ=>φ h/\(∃o,h.get? a=E o)/\∀h1 h2:Heap,φ h1->(∀o,h1.get? a=E o->h2.get? a=E o)->φ h2
def sD(H:Hp)(h:Heap):Prop:=∀a o,H a=E o->xP P w H h a o
end
def Jb:HO->Prop
 | .tup _=>True
 | .sC _ _=>True
 |_=>False
def Fix:HO->Prop
 | .tup _=>True
 | .sC _ _=>True
 | .sk _=>True
 | .tm _=>True
 |_=>False
theorem xP.lt(x:xP P w H h a o):a<h.objs.size:=by
 cases o with
 |lst xs=>obtain⟨_,_,_,_,e⟩:=x;show aq e
 |tup xs=>obtain⟨_,_,_,p⟩:=x;show p.lt
 |dK kvs=>obtain⟨_,_,_,_,o,_,_,e,_⟩:=x;show aq e
 |dT kvs=>obtain⟨_,_,_,_,o,_,_,e,_⟩:=x;show aq e
 |set S n=>obtain⟨o,_,_,_,e,_⟩:=x;show aq e
 |ins C dx fs=>obtain⟨_,_,_,e,_⟩:=x;show aq e
 |own sZ=>obtain⟨_,e⟩:=x;show aq e
 |xd fs=>obtain⟨_,⟨_,_,_,e,_⟩,_⟩:=x;show aq e
 |z0 lo hi=>obtain⟨_,_,_,e⟩:=x;show aq e
 |sC ob u=>obtain⟨e,_⟩:=x;show aq e
 |sk qs=>obtain⟨_,e,_⟩:=x;show aq e
 |tm v=>obtain⟨_,⟨_,e,_⟩,_⟩:=x;show aq e
 |met f sZ=>show aq (show h.get? a=E _ from x)
 |ext φ=>obtain⟨_,⟨_,e⟩,_⟩:=x;show aq e
theorem Paired.z7{α β:Type}{F G:α->β->Prop}:∀{l₁:List α} {l₂:List β},Paired F l₁ l₂->(∀a b,F a b->G a b)->Paired G l₁ l₂
 |_,_,.nil,_=>.nil
 |_,_,.cons r t,f=>.cons (f _ _ r) (Paired.z7 t f)
def Paired.imp'{β:Type}{F G:α->β->Prop}(f:∀a b,F a b->G a b){l₁:List α}{l₂:List β}(r:Paired F l₁ l₂):Paired G l₁ l₂:=Paired.z7 r f
theorem xP.tu(x:xP P w H h a o)(k:∀b u,(b=a\/H b=E (.own a))->h.get? b=E u->h'.get? b=E u)
  (ho:∀b,H b=E (.own a)->H' b=E (.own a)) (ht:∀b u,H b=E u->Jb u->H' b=E u):xP P w H' h' a o:=by
 induction o with
 |lst xs=>obtain⟨z,rf,n,r,e⟩:=x;show⟨z,rf,n,r,k _ _ (.inl Y) e⟩
 |tup xs=>obtain⟨z,rf,r,ob,e,c⟩:=x;show⟨z,rf,r,ob,k _ _ (.inl Y) e,c⟩
 |dK kvs=>obtain⟨z,sZ,vs,r,ob,es,ep,e,c⟩:=x;show⟨z,sZ,vs,r,ob,es,ep,k _ _ (.inl Y) e,c⟩
 |dT kvs=>
  show L2.oG λ_ U=>?_;obtain⟨z,sZ,xs,r,ob,es,ep,e,c⟩:=x;apply U;show⟨z,sZ,xs,Paired.z7 r λp q z=>⟨z.1,ht _ _ z.2.1 trivial,z.2.2⟩,ob,es,ep,k _ _ (.inl Y) e,c⟩
 |set S n=>obtain⟨ob,es,ep,t,e,c⟩:=x;show⟨ob,es,ep,t,k _ _ (.inl Y) e,c⟩
 |ins C dx fs=>
  show L2.oG λ_ U=>?_;obtain⟨d,z,ne,e,mA,⟨od,es,ep,e2,c⟩,r⟩:=x;apply U;show⟨ho _ d,z,ne,k _ _ (.inl Y) e,mA,⟨od,es,ep,k _ _ (.inr d) e2,c⟩,r⟩
 |own sZ=>obtain⟨ob,e⟩:=x;show⟨ob,k _ _ (.inl Y) e⟩
 |xd fs=>obtain⟨mA,⟨od,es,ep,e,c⟩,r⟩:=x;show⟨mA,⟨od,es,ep,k _ _ (.inl Y) e,c⟩,r⟩
 |z0 lo hi=>obtain⟨t,u,v,e⟩:=x;show⟨t,u,v,k _ _ (.inl Y) e⟩
 |sC ob u ih=>obtain⟨e,q⟩:=x;show⟨k _ _ (.inl Y) e,ih q⟩
 |sk qs=>
  show L2.oG λ_ U=>?_;obtain⟨ps,e,tr,r⟩:=x;apply U;show⟨ps,k _ _ (.inl Y) e,tr,λpos q m=>?_⟩;rcases r pos q m with z|⟨c,ob,u,vs,t,z1,z2,z3⟩
  ·show .inl z
  ·show .inr ⟨c,ob,u,vs,t,z1,ht _ _ z2 trivial,z3⟩
 |tm v=>obtain⟨u,⟨ob,e,d⟩,r⟩:=x;show⟨u,⟨ob,k _ _ (.inl Y) e,d⟩,r⟩
 |met f sZ=>
  have e:h.get? a=E (W.methodObj (.ref f)<|.ref sZ):=x;change h'.get? a=E (W.methodObj (.ref f)<|.ref sZ);show k a _ (.inl Y) e
 |ext φ=>obtain⟨p,⟨o,e⟩,st⟩:=x;show⟨st _ _ p λo q=>k _ _ (.inl Y) q,⟨o,k _ _ (.inl Y) e⟩,st⟩
def sD.lt(x:sD P w H h)(e:H a=E o):a<h.objs.size:=(x a o e).lt
theorem sD.fresh(x:sD P w H h)(e:h.objs.size<=a):H a=y:=by
 cases q:H a with
 |none=>rfl
 |some u=>show absurd (az (x.lt q) e) (bN _)
def sD.kept(x:sD P w H h)(k:∀b u,h.get? b=E u->h'.get? b=E u):sD P w H h':=λa o e=>
 (x a o e).tu (λb u _ q=>k b u q) (λ_ q=>q) λ_ _ q _=>q
def sD.laid(x:sD P w H h)(k:∀b u,h.get? b=E u->h'.get? b=E u)(hp:h.objs.size<=a)(new:xP P w (upd H a o) h' a o):sD P w (upd H a o) h':=λb u e=>by
 have hn:=x.fresh hp
 by_cases hb:b=a
 ·subst hb;rw[xk]at e;cases e;show new
 ·rw[xl hb]at e;show(x b u e).tu (λc v _ q=>k c v q) (λc q=>by rw[xl<|xH q hn];show q) λc xs q _=>by rw[xl<|xH q hn];show q
def Rd(H:Hp)(a:sK)(u:HO):Prop:=H a=E u\/∃o,H a=E (.sC o u)
def Rd.ok{u:HO}(r:Rd H a u)(x:sD P w H h):xP P w H h a u:=by
 rcases r with r|⟨o,r⟩
 ·show x a u r
 ·obtain⟨_,q⟩:=x a _ r;show q
def Dq:Option HO->Prop
 |some (.lst _)=>True
 |some (.dK _)=>True
 |some (.dT _)=>True
 |some (.set _ _)=>True
 |some (.ins _ _ _)=>True
 |some (.ext _)=>True
 |_=>False
section
variable {x e:sK} {o':HO}
def sD.write(ok:sD P w H h)(mu:Dq (H x))(he:e=x\/H e=E (.own x))(k:∀b u,b≠e->h.get? b=E u->h'.get? b=E u)(oP:∃u,h'.get? e=E u)
  (new:xP P w (upd H x o') h' x o'):sD P w (upd H x o') h':=λb u q=>by
 have oK:∀c sZ,H c=E (.own sZ)->c≠x:=λc sZ r z=>by subst z;rw[r]at mu;show mu
 have oO:∀c u,H c=E u->Jb u->c≠x:=λc u r hf z=>by
  subst z;rw[r]at mu;cases u<;> first|show mu|show hf
 by_cases hb:b=x
 ·subst hb;rw[xk]at q;cases q;show new
 ·rw[xl hb]at q
  by_cases oN:b=e
  ·have q':H b=E (.own x):=by
    rcases he with z|z
    ·show absurd (oN.trans z) hb
    ·rw[oN];show z
   rw[q]at q';cases q';obtain⟨v,hv⟩:=oP;show⟨v,by rw[oN];show hv⟩
  ·show(ok b u q).tu (λc v hc r=>k c v ?_ r) (λc r=>by rw[xl<|oK c b r];show r) λc xs r hf=>by rw[xl<|oO c xs r hf];show r
   rcases hc with rfl|hc
   ·show oN
   ·rintro rfl;rcases he with z|z
    ·show oK c b hc z
    ·rw[hc]at z;cases z;show hb rfl
end
structure Un(fs ex:List sK)(H H':Hp)(h h':Heap):Prop where
 keep:∀b o,h.get? b=E o->H b=y->b∉fs->b∉ex->h'.get? b=E o
 slot:∀b o,h.get? b=E o->H b=y->b∈fs->b∉ex->∃sl,h'.get? b=E {o with slots:=sl}
 free:∀b o,h.get? b=E o->H b=y->b∉ex->H' b=y
 there:∀b o,h.get? b=E o->b∉ex->∃o',h'.get? b=E o'
 fix:∀b u,H b=E u->Fix u->H' b=E u
section
variable {fs fs' ex u0:List sK} {H1 H2:Hp} {h1 h2:Heap} {x e:sK}
def Un.any(u:Un fs ex H H1 h h1){b:sK}{ob:Obj}(q:h.get? b=E ob)(n:H b=y)(hx:b∉ex):∃sl,h1.get? b=E {ob with slots:=sl}:=by
 by_cases hb:b∈fs
 ·show u.slot b ob q n hb hx
 ·show⟨ob.slots,u.keep b ob q n hb hx⟩
def Un.trans(a:Un fs ex H H1 h h1)(b:Un fs ex H1 H2 h1 h2):Un fs ex H H2 h h2 where
 keep:=λc ob q n hc hx=>b.keep c ob (a.keep c ob q n hc hx) (a.free c ob q n hx) hc hx
 slot:=λc ob q n hc hx=>by
  obtain⟨sl,e1⟩:=a.slot c ob q n hc hx;obtain⟨oK,e2⟩:=b.slot c _ e1 (a.free c ob q n hx) hc hx;show⟨oK,e2⟩
 free:=λc ob q n hx=>by
  obtain⟨o',e1⟩:=a.there c ob q hx;show b.free c o' e1 (a.free c ob q n hx) hx
 there:=λc ob q hx=>by
  obtain⟨o',e1⟩:=a.there c ob q hx;show b.there c o' e1 hx
 fix:=λc u q f=>b.fix c u (a.fix c u q f) f
def Un.kept(k:∀b u,h.get? b=E u->h'.get? b=E u):Un fs ex H H h h':=
 ⟨λb ob q _ _ _=>k b ob q,λb ob q _ _ _=>⟨ob.slots,k b ob q⟩,λ_ _ _ n _=>n,λb ob q _=>⟨ob,k b ob q⟩,λ_ _ q _=>q⟩
def Un.refl:Un fs ex H H h h:=Un.kept λ_ _ q=>q
def Un.laid(k:∀b u,h.get? b=E u->h'.get? b=E u)(hp:h.objs.size<=a)(hn:H a=y):Un fs ex H (upd H a o) h h' where
 keep:=λb u q _ _ _=>k b u q
 slot:=λb u q _ _ _=>⟨u.slots,k b u q⟩
 free:=λb u q n _=>by rw[xl (aC<|az (aq q) hp)];show n
 there:=λb u q _=>⟨u,k b u q⟩
 fix:=λb u q _=>by rw[xl<|xH q hn];show q
def Un.write(mu:Dq (H x))(he:e=x\/H e=E (.own x))(k:∀b u,b≠e->h.get? b=E u->h'.get? b=E u)(oN:∃u,h'.get? e=E u):Un fs ex H (upd H x o) h h':=by
 have hx:∀b,H b=y->b≠x:=λb n z=>by subst z;rw[n]at mu;show mu
 have hb:∀b,H b=y->b≠e:=λb n z=>by
  subst z;rcases he with r|r
  ·show hx b n r
  ·rw[n]at r;cases r
 have hm:∀b u,H b=E u->¬Dq (E u)->b≠x:=λb u q nm z=>by subst z;rw[q]at mu;show nm mu
 show⟨λb u q n _ _=>k b u (hb b n) q,λb u q n _ _=>⟨u.slots,k b u (hb b n) q⟩,λb u q n _=>by rw[xl<|hx b n];show n,λb u q _=>?_,
  λb u q hf=>by rw[xl (hm b _ q λz=>by cases u<;> first|show z|show hf)];show q⟩
 by_cases oK:b=e
 ·subst oK;show oN
 ·show⟨u,k b u oK q⟩
end
noncomputable def EL(h:Heap)(H:Hp):List sK:=(bD h.objs.size).filter λa=>(H a).isSome
noncomputable def Av(h:Heap)(H:Hp):Heap:=W.hideAll h (EL h H)
def Wd(h:Heap)(H:Hp):(Av h H).objs.size=h.objs.size:=W.hideAll_size _ _
def UN{b:sK}{o:Obj}(e:h.get? b=E o)(n:H b=y):(Av h H).get? b=E o:=
 W.hideAll_get _ e λhm=>by
  have q:(H b).isSome=sX:=(bJ.mp hm).2;rw[n]at q;simp at q
theorem Ux{b:sK}{o:Obj}(e:(Av h H).get? b=E o):h.get? b=E o/\H b=y:=by
 have e':h.get? b=E o:=W.of_hideAll (EL h H) e;show⟨e',?_⟩;cases q:H b with
 |none=>rfl
 |some x=>
  have hm:b∈EL h H:=bJ.mpr ⟨cC.mpr<|aq e',by simp[q]⟩;have z:(Av h H).get? b=y:=W.hideAll_none (EL h H) hm;rw[z]at e;cases e
structure Mod(K:ax)(mg:Str->Option sV)(base:Heap):Prop where
 w5:K.In base
 glob:base.Ns cg mg
 blt:∃mb,base.Ns dW mb/\∀x:Str,x≠"__name__"->mb x=bK x
 nolimit:base.NoLimit
 bm:∃b o,mg "__builtins__"=E (.ref b)/\b≠dW/\base.get? b=E o/\o.cls= .type "module"/\o.dict=E dW/\o.data= .plain
structure Cx where
 prog:a9
 w:World
 K:ax
 mg:Str->Option sV
 base:Heap
 A:bx
 N:List Str
 s₀:ag
 H₀:Hp
 env:Env
 outer:List Env
 stack:List Env
 ex:List sK
 fn:Str->Bool
 calm:Bool
 pn:List (sK×Obj)
 xe:sV->ag->Prop
 cp:Str->Bool
noncomputable def tw(l:List Env):List sK:=l.filterMap (·.frame)
noncomputable abbrev Cx.fs(X:Cx):List sK:=tw X.outer
def BH(sc:Scope)(x:Str):Prop:=sc.names.lookup x=E .local\/sc.names.lookup x=E .cell\/sc.names.lookup x=E .free
def Loc(sc:Scope)(x:Str):Prop:=sc.names.lookup x=E .local\/sc.names.lookup x=E .cell
def Look(env:Env)(h:Heap)(m:Str->Option sV)(x:Str)(u:sV):Prop:=
 (env.kindOf x=E .local/\m x=E u)\/((env.kindOf x=E .cell\/env.kindOf x=E .free)/\∃c,env.cells.lookup x=E c/\h.IsCell c (E u))
structure Cx.Ok(X:Cx):Prop where
 mod:Mod X.K X.mg X.base
 kind:X.env.scope.kind= .function
 glob:X.env.globals=cg
 blt:X.env.builtins=dW
 above:X.s₀.heap.objs.size<=X.env.locals
 inj:∀x sZ c,X.env.cells.lookup x=E c->X.env.cells.lookup sZ=E c->x=sZ
 has:∀x,(X.env.kindOf x=E .cell\/X.env.kindOf x=E .free)->∃c,X.env.cells.lookup x=E c
 A3:∀x c,X.fn x=sX->X.env.cells.lookup x=E c->X.s₀.heap.objs.size<=c
 hd:X.calm=sX->X.A.handled=y
 frames:X.A.frames=E X.stack
 Bx:X.stack=X.outer\/(X.stack=X.env::X.outer/\X.env.frame=E X.env.locals)
 Dl:∀b∈X.ex,b≠X.env.locals/\∀x c,X.env.cells.lookup x=E c->c≠b
 bs:∀b o,X.base.get? b=E o->X.s₀.heap.get? b=E o/\X.H₀ b=y
 wK:X.base.objs.size<=X.s₀.heap.objs.size
 wa:∀b o,X.base.get? b=E o->b∉X.ex
 wG:∀b∈X.ex,b∉X.fs
 sH:X.s₀.heap.FunFrames X.base X.outer
 wW:∀b∈X.fs,X.H₀ b=y
 wg:∀x c,X.cp x=sX->X.env.cells.lookup x=E c->X.s₀.heap.objs.size<=c
 hz:∀b,X.s₀.heap.objs.size<=b->X.H₀ b=y
structure Inv(X:Cx)(pins:List (sK×Obj))(σ:List (Option V))(H:Hp)(s:ag):Prop where
 ok:X.Ok
 os:s.os=X.s₀.os
 bare:gr s.gens
 base:Un X.fs X.ex X.H₀ H X.s₀.heap s.heap
 loc:∃m,s.heap.Ns X.env.locals m/\∀(i:Nat) (x:Str) (v:V),X.N[i]? =E x->σ[i]? =E (E v)->BH X.env.scope x->∃u,RelV v u/\Look X.env s.heap m x u
 cell:∀x c,X.env.cells.lookup x=E c->∃v,s.heap.IsCell c v
 free:H X.env.locals=y
 rT:∀x c,X.env.cells.lookup x=E c->H c=y\/(X.fn x=sJ/\∃o,H c=E (.tm o)/\(o=y->∀(i:Nat) v,X.N[i]? =E x->(X.env.kindOf x=E .cell\/X.env.kindOf x=E .free)->σ[i]?≠E (E v)))
 pin:∀p∈X.pn++pins,s.heap.get? p.1=E p.2/\H p.1=y/\p.1≠X.env.locals/\p.1∉X.fs/\∀v,p.2.data≠.cell v
 rh:sD X.prog X.w H s.heap
 len:σ.length=X.N.length
section
variable {σ:List (Option V)}
def Cx.Ok.Il(ok:X.Ok){b:sK}{o:Obj}(e:X.base.get? b=E o):b∉X.fs:=λhb=>by
 have:=(ok.sH.mem hb).1;rw[e]at this;cases this
def Inv.bs(I:Inv X pins σ H s):∀b o,X.base.get? b=E o->s.heap.get? b=E o/\H b=y:=λb o e=>
 ⟨I.base.keep b o (I.ok.bs b o e).1 (I.ok.bs b o e).2 (I.ok.Il e)<|I.ok.wa b o e,I.base.free b o (I.ok.bs b o e).1 (I.ok.bs b o e).2<|I.ok.wa b o e⟩
def Inv.bk(I:Inv X pins σ H s):∀b o,X.base.get? b=E o->s.heap.get? b=E o:=λb o e=>(I.bs b o e).1
def Inv.mod(I:Inv X pins σ H s):Mod X.K X.mg X.base:=I.ok.mod
def Inv.su(I:Inv X pins σ H s):X.K.In s.heap:=I.ok.mod.w5.keeps I.bk
def Inv.lt(I:Inv X pins σ H s):X.env.locals<s.heap.objs.size:=let⟨_,hn,_⟩:=I.loc;hn.lt
def Inv.sz(I:Inv X pins σ H s):X.s₀.heap.objs.size<=s.heap.objs.size:=aQ I.ok.above (cR I.lt)
def Inv.De(I:Inv X pins σ H s)(h:s.heap.objs.size<=a):a∉X.fs:=λhb=>by
 obtain⟨_,o,ho,_⟩:=I.ok.sH.mem hb;show absurd (az (aq ho)<|aQ I.sz h) (bN _)
def Inv.Ao(I:Inv X pins σ H s):∀x c,X.env.cells.lookup x=E c->c≠X.env.locals:=λx c e z=>by
 obtain⟨v,o,ho,hd⟩:=I.cell x c e;obtain⟨m,⟨o',es,ep,oK,oN,_⟩,_⟩:=I.loc;rw[z,oK]at ho;cases ho;rw[oN]at hd;cases hd
theorem Inv.sH(I:Inv X pins σ H s):s.heap.FunFrames X.base X.outer:=by
 have all:∀(l:List Env),(∀b∈tw l,b∈X.fs)->X.s₀.heap.FunFrames X.base l->s.heap.FunFrames X.base l:=by
  intro l
  induction l with
  |nil=>intro _ _;trivial
  |cons env r ih=>
   intro hs hl;obtain⟨hk,⟨L,o,hf,hn,ho,hd⟩,hr⟩:=hl;have hL:L∈X.fs:=hs L (by unfold tw;rw[gI,hf];show aJ);obtain⟨sl,e⟩:=I.base.slot L o ho (I.ok.wW L hL) hL λz=>I.ok.wG L z hL;show⟨hk,⟨L,_,hf,hn,e,hd⟩,ih (λb hb=>hs b (by unfold tw;rw[gI,hf];show aw _ hb)) hr⟩
 show all X.outer (λ_ hb=>hb) I.ok.sH
def Inv.stack(I:Inv X pins σ H s):s.heap.FunFrames X.base X.stack:=by
 rcases I.ok.Bx with e|⟨e,hf⟩
 ·rw[e];show I.sH
 ·rw[e];obtain⟨m,hn,_⟩:=I.loc;show .cons (by rw[I.ok.kind];decide) hf hn ?_ I.sH;show gy (aQ I.ok.wK I.ok.above)
def Inv.tj(I:Inv X pins σ H s):∀b∈tw X.stack,b∈X.env.locals::X.fs:=λb hb=>by
 rcases I.ok.Bx with e|⟨e,hf⟩
 ·rw[e]at hb;show aw _ hb
 ·rw[e]at hb;unfold tw at hb;rw[gI,hf]at hb;show hb
def Inv.tO(I:Inv X pins σ H s):∀b∈tw X.stack,H b=y:=λb hb=>by
 rcases aB.mp (I.tj b hb)with e|hb
 ·rw[e];show I.free
 ·obtain⟨_,o,ho,_⟩:=I.ok.sH.mem hb;show I.base.free b o ho (I.ok.wW b hb) λz=>I.ok.wG b z hb
theorem Inv.step(I:Inv X pins σ H s)
  (oO:∀b∈ch,(b∈X.ex\/X.s₀.heap.objs.size<=b)/\b≠X.env.locals/\(∀x c,X.env.cells.lookup x=E c->c≠b)/\∀p∈X.pn++pins,p.1≠b)
  (keep:∀b o,b≠X.env.locals->b∉X.fs->b∉ch->s.heap.get? b=E o->H b=y->h'.get? b=E o)
  (slot:∀b o,b≠X.env.locals->b∈X.fs->b∉ch->s.heap.get? b=E o->H b=y->∃sl,h'.get? b=E {o with slots:=sl}) (free:∀b o,b∉ch->s.heap.get? b=E o->H b=y->H' b=y)
  (there:∀b o,b∉ch->s.heap.get? b=E o->∃o',h'.get? b=E o')
  (fix:∀b u,H b=E u->Fix u->H' b=E u)
  (ns:∀m,s.heap.Ns X.env.locals m->h'.Ns X.env.locals m) (rh:sD X.prog X.w H' h') (hg:gr g'):
  Inv X pins σ H' {s with heap:=h',gens:=g',drawn:=d',toks:=t'}:=by
 have oS:∀b o,X.s₀.heap.get? b=E o->b≠X.env.locals:=λb o e=>aC<|az (aq e) I.ok.above;have oP:∀b o,X.s₀.heap.get? b=E o->b∉X.ex->b∉ch:=λb o e hx hb=>by
  rcases(oO b hb).1 with z|z
  ·show hx z
  ·show absurd (az (aq e) z) (bN _)
 have cellK:∀x c,X.env.cells.lookup x=E c->H c=y->∀v,s.heap.IsCell c v->h'.IsCell c v:=λx c e hn v ⟨o,ho,hd⟩=>by
  have oK:c∉ch:=λz=>(oO c z).2.2.1 x c e rfl
  by_cases hc:c∈X.fs
  ·obtain⟨sl,q⟩:=slot c o (I.Ao x c e) hc oK ho hn;show⟨_,q,hd⟩
  ·show⟨o,keep c o (I.Ao x c e) hc oK ho hn,hd⟩
 show⟨I.ok,I.os,hg,⟨λb o e n hb hx=>?_,λb o e n hb hx=>?_,λb o e n hx=>?_,λb o e hx=>?_,λb u e f=>fix b u (I.base.fix b u e f) f⟩,?_,λx c e=>?_,?_,λx c e=>?_,λp hp=>?_,rh,I.len⟩
 ·show keep b o (oS b o e) hb (oP b o e hx) (I.base.keep b o e n hb hx) (I.base.free b o e n hx)
 ·obtain⟨sl,e1⟩:=I.base.slot b o e n hb hx;obtain⟨oU,e2⟩:=slot b _ (oS b o e) hb (oP b o e hx) e1<|I.base.free b o e n hx;show⟨oU,e2⟩
 ·obtain⟨o',e1⟩:=I.base.there b o e hx;show free b o' (oP b o e hx) e1 (I.base.free b o e n hx)
 ·obtain⟨o',e1⟩:=I.base.there b o e hx;show there b o' (oP b o e hx) e1
 ·obtain⟨m,hn,hl⟩:=I.loc;show⟨m,ns m hn,λi x v e1 e2 e3=>?_⟩;obtain⟨u,r,l⟩:=hl i x v e1 e2 e3;rcases l with l|⟨k,c,e,z⟩
  ·show⟨u,r,.inl l⟩
  ·rcases I.rT x c e with oN|⟨_,o,ho,oR⟩
   ·show⟨u,r,.inr ⟨k,c,e,cellK x c e oN _ z⟩⟩
   ·cases o with
    |none=>show absurd e2 (oR Y i v e1 k)
    |some v'=>
     obtain⟨sZ,hy,hr⟩:=I.rh c _ ho;obtain⟨y',oQ,oV⟩:=rh c _<|fix c _ ho trivial;obtain⟨y2,rfl,r2⟩:=hr v' rfl;obtain⟨y3,rfl,r3⟩:=oV v' rfl;have:v=v':=RelV.fn r (by
      obtain⟨o1,q1,q2⟩:=z;obtain⟨o2,q3,q4⟩:=hy;rw[q1]at q3;cases q3;rw[q2]at q4;cases q4;show r2)
     subst this;show⟨y3,r3,.inr ⟨k,c,e,oQ⟩⟩
 ·rcases I.rT x c e with oN|⟨_,o,ho,_⟩
  ·obtain⟨v,z⟩:=I.cell x c e;show⟨v,cellK x c e oN v z⟩
  ·obtain⟨y',oQ,_⟩:=rh c _<|fix c _ ho trivial;show⟨y',oQ⟩
 ·obtain⟨m,⟨o,_,_,ho,_⟩,_⟩:=I.loc;show free _ o (λz=>(oO _ z).2.1 Y) ho I.free
 ·rcases I.rT x c e with oN|⟨hf,o,ho,oR⟩
  ·obtain⟨v,o,ho,hd⟩:=I.cell x c e;show .inl (free c o (λz=>(oO c z).2.2.1 x c e Y) ho oN)
  ·show .inr ⟨hf,o,fix c _ ho trivial,oR⟩
 ·obtain⟨e,n,ne,nf,d⟩:=I.pin p hp;have oK:p.1∉ch:=λz=>(oO p.1 z).2.2.2 p hp rfl;show⟨keep p.1 p.2 ne nf oK e n,free p.1 p.2 oK e n,ne,nf,d⟩
def Inv.un(I:Inv X pins σ H s)(u:Un X.fs [] H H' s.heap h')(rh:sD X.prog X.w H' h'):Inv X pins σ H' {s with heap:=h',toks:=t'}:=by
 obtain⟨m,⟨o,es,ep,ho,r⟩,_⟩:=id I.loc;obtain⟨sl,hL⟩:=u.any ho I.free #[8];show I.step (g':=s.gens) (d':=s.drawn) (ch:=[]) (λ_ z=>nomatch z) (λb o _ hb _ e n=>u.keep b o e n hb #[8]) (λb o _ hb _ e n=>u.slot b o e n hb #[8]) (λb o _ e n=>u.free b o e n #[8]) (λb o _ e=>u.there b o e #[8]) u.fix (λm' hm=>by
  obtain⟨o',oN,oO,oK,r'⟩:=hm;rw[ho]at oK;cases oK;show⟨_,oN,oO,hL,r'⟩) rh I.bare
def Inv.call(I:Inv X pins σ H s)(u:Un (tw X.stack) ch H H' s.heap h')(rh:sD X.prog X.w H' h')(hg:gr g')
  (oN:∀b∈ch,(b∈X.ex\/X.s₀.heap.objs.size<=b)/\b≠X.env.locals/\(∀x c,X.env.cells.lookup x=E c->c≠b)/\∀p∈X.pn++pins,p.1≠b):
  Inv X pins σ H' {s with heap:=h',gens:=g',drawn:=d',toks:=t'}:=by
 obtain⟨m,⟨o,es,ep,ho,r⟩,_⟩:=id I.loc;obtain⟨sl,hL⟩:=u.any ho I.free λz=>(oN _ z).2.1 rfl;show I.step (ch:=ch) oN (λb o hL hb hc e n=>u.keep b o e n (λz=>(aB.mp<|I.tj b z).elim hL hb) hc) (λb o _ _ hc e n=>u.any e n hc) (λb o hc e n=>u.free b o e n hc) (λb o hc e=>u.there b o e hc) u.fix (λm' hm=>by
  obtain⟨o',oO,oP,oK,r'⟩:=hm;rw[ho]at oK;cases oK;show⟨_,oO,oP,hL,r'⟩) rh hg
def Inv.turned(I:Inv X pins σ H s)(k:∀b o,b≠it->s.heap.get? b=E o->h'.get? b=E o)(hn:H it=y)(hL:it≠X.env.locals)
  (h1:it∈X.ex\/X.s₀.heap.objs.size<=it) (h2:∀x c,X.env.cells.lookup x=E c->c≠it) (h3:∀p∈X.pn++pins,p.1≠it):Inv X pins σ H {s with heap:=h',toks:=t'}:=by
 have oK:∀b u,H b=E u->b≠it:=λb u e z=>by rw[z,hn]at e;cases e
 show I.step (g':=s.gens) (d':=s.drawn) (ch:=[it]) (λb hb=>?_) (λb o _ _ hc e _=>k b o (λz=>hc (by simp[z])) e) (λb o _ _ hc e _=>⟨o.slots,k b o (λz=>hc (by simp[z])) e⟩) (λ_ _ _ _ n=>n)
  (λb o hc e=>⟨o,k b o (λz=>hc (by simp[z])) e⟩) (λ_ _ e _=>e) (λm hm=>?_) (λb u e=>?_) I.bare
 ·have e:b=it:=by simpa using hb
  subst e;show⟨h1,hL,h2,h3⟩
 ·obtain⟨o,es,ep,ho,r⟩:=hm;show⟨o,es,ep,k _ o (aW hL) ho,r⟩
 ·show(I.rh b u e).tu (λc v hc q=>k c v ?_ q) (λ_ q=>q) λ_ _ q _=>q;rcases hc with z|z
  ·rw[z];show oK b u e
  ·show oK c _ z
def Inv.tok(I:Inv X pins σ H s)(t:Nat):Inv X pins σ H {s with toks:=t}:=I.un (h':=s.heap) (t':=t) Un.refl I.rh
def Inv.kept(I:Inv X pins σ H s)(k:∀b u,s.heap.get? b=E u->h'.get? b=E u):Inv X pins σ H {s with heap:=h',toks:=t'}:=I.un (Un.kept k) (I.rh.kept k)
def Inv.laid(I:Inv X pins σ H s)(k:∀b u,s.heap.get? b=E u->h'.get? b=E u)(hp:s.heap.objs.size<=a)(new:xP X.prog X.w (upd H a o) h' a o):
  Inv X pins σ (upd H a o) {s with heap:=h',toks:=t'}:=I.un (Un.laid k hp<|I.rh.fresh hp) (I.rh.laid k hp new)
def Inv.write{x e:sK}(I:Inv X pins σ H s)(mu:Dq (H x))(he:e=x\/H e=E (.own x))(k:∀b u,b≠e->s.heap.get? b=E u->h'.get? b=E u)(oK:∃u,h'.get? e=E u)
  (new:xP X.prog X.w (upd H x o) h' x o):Inv X pins σ (upd H x o) {s with heap:=h',toks:=t'}:=I.un (Un.write mu he k oK) (I.rh.write mu he k oK new)
def Inv.weak(I:Inv X pins σ H s)(hl:rq.length=σ.length)(w:∀(i:Nat) v,rq[i]? =E (E v)->σ[i]? =E (E v)):Inv X pins rq H s:=
 ⟨I.ok,I.os,I.bare,I.base,let⟨m,hn,oN⟩:=I.loc;⟨m,hn,λi x v e1 e2 e3=>oN i x v e1 (w i v e2) e3⟩,I.cell,I.free,λx c e=>(I.rT x c e).imp id λ⟨hf,o,ho,oK⟩=>⟨hf,o,ho,λz i v e1 k e2=>oK z i v e1 k<|w i v e2⟩,I.pin,I.rh,hl.trans I.len⟩
def Inv.v8(I:Inv X pins σ H s)(h:∀p∈oK,s.heap.get? p.1=E p.2/\H p.1=y/\p.1≠X.env.locals/\p.1∉X.fs/\∀v,p.2.data≠.cell v):Inv X oK σ H s:=
 ⟨I.ok,I.os,I.bare,I.base,I.loc,I.cell,I.free,I.rT,λp hp=>(aZ.mp hp).elim (λz=>I.pin p<|bB _ z)<|h p,I.rh,I.len⟩
def Er(hN:N.Nodup){j:Nat}(a:N[i]? =E x)(b:N[j]? =E x):i=j:=by
 obtain⟨h1,e1⟩:=aE.mp a;obtain⟨h2,e2⟩:=aE.mp b;show(lG hN).mp (e1.trans e2.symm)
def MK{Q:Unit->ag->Prop}(I:Inv X pins σ H s)(hN:X.N.Nodup)(hi:X.N[i]? =E x)(hx:Loc X.env.scope x)(r:RelV v u)
  (h:∀s',Inv X pins (σ.set i (E v)) H s'->(∃a,i7 a s.heap s'.heap/\(a=X.env.locals\/X.env.cells.lookup x=E a))->Q () s') (hf:autoParam (X.fn x=sX\/X.env.scope.names.lookup x=E .local) qZ):wpAny M A (storeName X.env x u) Q sQ s:=by
 show L2.oG λ_ U=>?_;obtain⟨m,hn,hl⟩:=id I.loc;apply U;have oU:(X.env.scope.kind== .class||(X.env.scope.kind== .module&&X.env.locals != X.env.globals))=sJ:=by rw[I.ok.kind];rfl
 have oN:i<σ.length:=by rw[I.len];show(aE.mp hi).1
 have Ao:=I.Ao;have tracked:∀{a:sK} {h':Heap},(∃o,s.heap.get? a=E o/\H a=y)->i7 a s.heap h'->sD X.prog X.w H h':=λ{a h'} ha hs b ob e=>by
  show L2.oG λ_ U=>?_;obtain⟨_,_,oK⟩:=ha;apply U;show(I.rh b ob e).tu (λc w' hc q=>(hs.2 c ?_).trans q) (λ_ q=>q) λ_ _ q _=>q;rintro rfl;rcases hc with rfl|hc
  ·rw[oK]at e;cases e
  ·rw[oK]at hc;cases hc
 rcases hx with hk|hk
 ·show wpAny_storeName_local hk hn (λh' oZ hs=>?_) oU;show L2.oG λ_ U=>?_;obtain⟨oL,_,_,oY,_⟩:=id hn;apply U;show h _ ⟨I.ok,I.os,I.bare,⟨λb o e n hb hx=>?_,λb o e n hb hx=>?_,I.base.free,λb o e hx=>?_,I.base.fix⟩,⟨_,oZ,λj sZ v' e1 e2 e3=>?_⟩,λsZ c e=>?_,I.free,λsZ c e=>?_,λp hp=>?_,tracked ⟨oL,oY,I.free⟩ hs,by simpa using I.len⟩ ⟨_,hs,.inl Y⟩
  ·show(hs.2 b (aC<|az (aq e) I.ok.above)).trans (I.base.keep b o e n hb hx)
  ·obtain⟨sl,e1⟩:=I.base.slot b o e n hb hx;show⟨sl,(hs.2 b (aC<|az (aq e) I.ok.above)).trans e1⟩
  ·obtain⟨o',e1⟩:=I.base.there b o e hx;show⟨o',(hs.2 b (aC<|az (aq e) I.ok.above)).trans e1⟩
  ·by_cases hj:j=i
   ·subst hj;rw[hi]at e1;cases e1;rw[gc oN]at e2;cases e2;show⟨u,r,.inl ⟨hk,by simp⟩⟩
   ·rw[dz<|aW hj]at e2;show L2.oG λ_ U=>?_;obtain⟨u',r',q⟩:=hl j sZ v' e1 e2 e3;apply U;show⟨u',r',?_⟩;rcases q with⟨k,e⟩|⟨k,c,e,z⟩
    ·show .inl ⟨k,?_⟩;have:sZ≠x:=λe=>hj (Er hN e1<|e▸hi);simp[this,e]
    ·show .inr ⟨k,c,e,z.sameBut hs<|Ao sZ c e⟩
  ·obtain⟨w',z⟩:=I.cell sZ c e;show⟨w',z.sameBut hs<|Ao sZ c e⟩
  ·show(I.rT sZ c e).imp id λ⟨oP,o',oR,oS⟩=>⟨oP,o',oR,λz j v' e1 k e2=>?_⟩
   by_cases hj:j=i
   ·subst hj;rw[hi]at e1;cases e1;have o7:X.env.kindOf x=E .local:=hk;rw[o7]at k;rcases k with k|k<;> cases k
   ·rw[dz<|aW hj]at e2;show oS z j v' e1 k e2
  ·show L2.oG λ_ U=>?_;obtain⟨e,n,ne,nf,d⟩:=I.pin p hp;apply U;show⟨(hs.2 p.1 ne).trans e,n,ne,nf,d⟩
 ·have oO:X.fn x=sX:=by
   rcases hf with z|z
   ·show z
   ·rw[z]at hk;cases hk
  obtain⟨c,hc⟩:=I.ok.has x<|.inl hk;have o8:H c=y:=by
   rcases I.rT x c hc with z|⟨z,_⟩
   ·show z
   ·rw[oO]at z;cases z
  obtain⟨w',z⟩:=I.cell x c hc;show wpAny_storeName_cell I.ok.kind hk hc z λh' oX hs=>?_;show L2.oG λ_ U=>?_;obtain⟨oc,oV,oQ⟩:=id z;apply U;show h {s with heap:=h'} ⟨I.ok,I.os,I.bare,⟨λb o e n hb hx=>?_,λb o e n hb hx=>?_,I.base.free,λb o e hx=>?_,I.base.fix⟩,⟨m,hn.sameBut hs (aW<|Ao x c hc),λj sZ v' e1 e2 e3=>?_⟩,λsZ c' e=>?_,I.free,λsZ c' e=>?_,λp hp=>?_,tracked ⟨oc,oV,o8⟩ hs,by simpa using I.len⟩ ⟨c,hs,.inr hc⟩
  ·show(hs.2 b<|aC (az (aq e)<|I.ok.A3 x c oO hc)).trans (I.base.keep b o e n hb hx)
  ·obtain⟨sl,e1⟩:=I.base.slot b o e n hb hx;show⟨sl,(hs.2 b<|aC (az (aq e)<|I.ok.A3 x c oO hc)).trans e1⟩
  ·obtain⟨o',e1⟩:=I.base.there b o e hx;show⟨o',(hs.2 b<|aC (az (aq e)<|I.ok.A3 x c oO hc)).trans e1⟩
  ·by_cases hj:j=i
   ·subst hj;rw[hi]at e1;cases e1;rw[gc oN]at e2;cases e2;show⟨u,r,.inr ⟨.inl hk,c,hc,oX⟩⟩
   ·rw[dz<|aW hj]at e2;show L2.oG λ_ U=>?_;obtain⟨u',r',q⟩:=hl j sZ v' e1 e2 e3;apply U;show⟨u',r',?_⟩;rcases q with q|⟨k,c',e,z'⟩
    ·show .inl q
    ·show .inr ⟨k,c',e,z'.sameBut hs ?_⟩;rintro rfl;show hj (Er hN e1<|I.ok.inj _ _ _ e hc▸hi)
  ·by_cases oW:c'=c
   ·subst oW;show⟨_,oX⟩
   ·obtain⟨w2,z2⟩:=I.cell sZ c' e;show⟨w2,z2.sameBut hs oW⟩
  ·show(I.rT sZ c' e).imp id λ⟨oP,o',oR,oS⟩=>⟨oP,o',oR,λz j v' e1 k e2=>?_⟩
   by_cases hj:j=i
   ·subst hj;rw[hi]at e1;cases e1;rw[oO]at oP;cases oP
   ·rw[dz<|aW hj]at e2;show oS z j v' e1 k e2
  ·show L2.oG λ_ U=>?_;obtain⟨e,n,ne,nf,d⟩:=I.pin p hp;apply U;show⟨(hs.2 p.1 ?_).trans e,n,ne,nf,d⟩;intro q;rw[q,oV]at e;have q':oc=p.2:=bI e;show d w' (by rw[<-q'];show oQ)
def Ge{Q:Unit->ag->Prop}(I:Inv X pins σ H s)(hN:X.N.Nodup)(hi:X.N[i]? =E x)(hx:Loc X.env.scope x)(r:RelV v u)
  (h:∀s',Inv X pins (σ.set i (E v)) H s'->Q () s') (hf:autoParam (X.fn x=sX\/X.env.scope.names.lookup x=E .local) qZ):wpAny M A (storeName X.env x u) Q sQ s:=
 MK I hN hi hx r (λs' I' _=>h s' I') hf
def Inv.tR(I:Inv X pins σ H s)(ho:s'.os=s.os)(u:Un (tw X.stack) ch H H' s.heap s'.heap)(rh:sD X.prog X.w H' s'.heap)(hg:gr s'.gens)
  (oK:∀b∈ch,(b∈X.ex\/X.s₀.heap.objs.size<=b)/\b≠X.env.locals/\(∀x c,X.env.cells.lookup x=E c->c≠b)/\∀p∈X.pn++pins,p.1≠b):Inv X pins σ H' s':=by
 obtain⟨h',g',d',t',o'⟩:=s';have e:o'=s.os:=ho;subst e;show I.call (g':=g') (t':=t') (d':=d') u rh hg oK
end
abbrev XK:=sV->Option sK->Hp->Prop
abbrev St:=List (Option V)
abbrev VK:=V->Hp->Prop
abbrev TE:=St->Hp->VK->Prop
abbrev TT:=St->Hp->(Bool->Hp->Prop)->Prop
abbrev TA:=St->Hp->(List V->Hp->Prop)->Prop
structure Ends where
 nx:St->Hp->Prop
 rt:VK
 bk:St->Hp->Prop:=λ_ _=>False
 ct:St->Hp->Prop:=λ_ _=>False
abbrev TS:=Ends->St->Hp->Prop
inductive EP(X:Cx)(pins:List (sK×Obj))(σ:St)(Q:VK)(u:sV)(s':ag):Prop
 |intro(v:V) (H':Hp) (i:Inv X pins σ H' s') (r:RelV v u) (q:Q v H'):EP X pins σ Q u s'
inductive TP(X:Cx)(pins:List (sK×Obj))(σ:St)(Q:Bool->Hp->Prop)(b:Bool)(s':ag):Prop
 |intro(H':Hp) (i:Inv X pins σ H' s') (q:Q b H'):TP X pins σ Q b s'
inductive AP(X:Cx)(pins:List (sK×Obj))(σ:St)(Q:List V->Hp->Prop)(us:List sV)(s':ag):Prop
 |intro(vs:List V) (H':Hp) (i:Inv X pins σ H' s') (r:Vals vs us) (q:Q vs H'):AP X pins σ Q us s'
inductive BK(X:Cx)(pins:List (sK×Obj))(Q:St->Hp->Prop)(s':ag):Prop
 |intro(rq:St) (H':Hp) (i:Inv X pins rq H' s') (q:Q rq H'):BK X pins Q s'
inductive OK(X:Cx)(pins:List (sK×Obj))(Q:VK)(u:sV)(s':ag):Prop
 |intro(v:V) (rq:St) (H':Hp) (i:Inv X pins rq H' s') (r:RelV v u) (q:Q v H'):OK X pins Q u s'
def SP(X:Cx)(pins:List (sK×Obj))(D:Ends)(f:Flow)(s':ag):Prop:=
 match f with
 | .next=>BK X pins D.nx s'
 | .brk=>BK X pins D.bk s'
 | .cont=>BK X pins D.ct s'
 | .ret u=>OK X pins D.rt u s'
def PE(X:Cx)(e:Expr)(t:TE):Prop:=
 ∀(pins:List (sK×Obj)) (s:ag) (σ:St) (H:Hp) (Q:VK),Inv X pins σ H s->t σ H Q->wpAny #[3] X.A (eval e X.env) (EP X pins σ Q) X.xe s
def PT(X:Cx)(e:Expr)(t:TT):Prop:=
 ∀(pins:List (sK×Obj)) (s:ag) (σ:St) (H:Hp) (Q:Bool->Hp->Prop),Inv X pins σ H s->t σ H Q->wpAny #[3] X.A (isTrue e X.env<|eval e X.env) (TP X pins σ Q) X.xe s
def PW(X:Cx)(e:Expr)(t:TT):Prop:=
 ∀(whole:Sem sV) (pins:List (sK×Obj)) (s:ag) (σ:St) (H:Hp) (Q:Bool->Hp->Prop),Inv X pins σ H s->t σ H Q->wpAny #[3] X.A (isTrue e X.env whole) (TP X pins σ Q) X.xe s
def PW.pt{t:TT}(h:PW X e t):PT X e t:=h _
def PA(X:Cx)(es:List Expr)(t:TA):Prop:=
 ∀(pos:Pos) (pins:List (sK×Obj)) (s:ag) (σ:St) (H:Hp) (Q:List V->Hp->Prop),Inv X pins σ H s->t σ H Q->wpAny #[3] X.A (spliced (bY pos<|aM es X.env)) (AP X pins σ Q) X.xe s
def PS(X:Cx)(st:Stmt)(t:TS):Prop:=
 ∀(pins:List (sK×Obj)) (s:ag) (σ:St) (H:Hp) (D:Ends),Inv X pins σ H s->t D σ H->wpAny #[3] X.A (exec st X.env) (SP X pins D) X.xe s
def sY(X:Cx)(st:List Stmt)(t:TS):Prop:=
 ∀(pins:List (sK×Obj)) (s:ag) (σ:St) (H:Hp) (D:Ends),Inv X pins σ H s->t D σ H->wpAny #[3] X.A (execs st X.env) (SP X pins D) X.xe s
def sj{t:Sem α}{Q Q':α->ag->Prop}(h:wpAny M A t Q sQ s)(hQ:∀a s,Q a s->Q' a s):wpAny M A t Q' sQ s:=aR h hQ λ_ _ x=>x
def xQ{Q:VK}{t:Sem sV}{Q':sV->ag->Prop}(h:wpAny M A t (EP X pins σ Q) sQ s)(hQ:∀a s v H',Inv X pins σ H' s->RelV v a->Q v H'->Q' a s):wpAny M A t Q' sQ s:=sj h λa s z=>z.rec (hQ a s)
def zS{Q:List V->Hp->Prop}{t:Sem (List sV)}{Q':List sV->ag->Prop}(h:wpAny M A t (AP X pins σ Q) sQ s)(hQ:∀a s v H',Inv X pins σ H' s->Vals v a->Q v H'->Q' a s):wpAny M A t Q' sQ s:=sj h λa s z=>z.rec (hQ a s)
def Cp{Q:Bool->Hp->Prop}{t:Sem Bool}{Q':Bool->ag->Prop}(h:wpAny M A t (TP X pins σ Q) sQ s)(hQ:∀a s H',Inv X pins σ H' s->Q a H'->Q' a s):wpAny M A t Q' sQ s:=sj h λa s z=>z.rec (hQ a s)
section
def Ja(i:Nat):TE:=λσ H Q=>∃v,σ[i]? =E (E v)/\Q v H
def tC(v:V):TE:=λ_ H Q=>Q v H
def FF(hN:X.N[i]? =E x)(hv:BH X.env.scope x)(hd:autoParam #[12] q9)(oN:autoParam ((x==("__classdict__":Str))=sJ) q9):PE X (.Name x pos) (Ja i):=by
 intro pins s σ H Q I h;obtain⟨v,e,h⟩:=h;obtain⟨m,hn,hl⟩:=I.loc;obtain⟨u,r,l⟩:=hl i x v hN e hv;have fin:EP X pins σ Q u s:=⟨v,H,I,r,h⟩;rcases l with⟨hk,hm⟩|⟨hk,c,hc,oK⟩
 ·show wpAny_Name (wpAny_loadName_local I.ok.kind hk hn hm fin) hd
 ·rcases hk with hk|hk
  ·show wpAny_Name (wpAny_loadName_cell I.ok.kind hk hc oK fin) hd
  ·show wpAny_Name (wpAny_loadName_free I.ok.kind hk hc oK fin oN) hd
def xj{i pos}:PE X (.Constant (.int i) j pos) (tC<|.int i):=λ_ _ _ H _ I h=>wpAny_Constant_int ⟨.int i,H,I.tok _,⟨_,Y⟩,h⟩
def yG{b pos}:PE X (.Constant (.bool b) j pos) (tC<|.bl b):=λ_ _ _ H _ I h=>Constant_bool ⟨.bl b,H,I,Y,h⟩
def zT{pos}:PE X (.Constant .none j pos) (tC .rp):=λ_ _ _ H _ I h=>nv ⟨.rp,H,I,Y,h⟩
def xF{x pos}:PE X (.Constant (.str x) j pos) (tC<|.str x):=λ_ _ _ H _ I h=>fT ⟨.str x,H,I.tok _,⟨_,Y⟩,h⟩
def Gl(X:Cx)(x:Str):Prop:=X.env.kindOf x=E .globalImplicit
def vQ(I:Inv X pins σ H s)(hg:Gl X x)(hm:X.mg x=E u)(h:Q u s)
  (hd:autoParam #[12] q9):wpAny #[3] X.A (eval (.Name x pos) X.env) Q sQ s:=
 kX I.ok.kind hg (Calls.loadGlobal_global (by rw[I.ok.glob];show I.mod.glob.keeps I.bk) hm h) hd
def zJ(I:Inv X pins σ H s)(hg:Gl X x)(hm:X.mg x=y)(hv:bK x=E u)(h:Q u s)
  (hn:autoParam (x≠"__name__") q9) (hd:autoParam #[12] q9):wpAny #[3] X.A (eval (.Name x pos) X.env) Q sQ s:=by
 obtain⟨mb,h1,h2⟩:=I.mod.blt;show kX I.ok.kind hg (Calls.loadGlobal_builtin (by rw[I.ok.glob];show I.mod.glob.keeps I.bk) hm (by rw[I.ok.blt];show h1.keeps I.bk) ((h2 x hn).trans hv) h) hd
def zf(hg:Gl X x)(hm:X.mg x=E u)(r:RelV v u)(hd:autoParam #[12] q9):PE X (.Name x pos) (tC v):=
 λ_ _ _ H _ I h=>vQ I hg hm ⟨v,H,I,r,h⟩ hd
def B8(hg:Gl X x)(hm:X.mg x=y)(hv:bK x=E u)(r:RelV v u)(hn:autoParam (x≠"__name__") q9)(hd:autoParam #[12] q9):PE X (.Name x pos) (tC v):=
 λ_ _ _ H _ I h=>zJ I hg hm hv ⟨v,H,I,r,h⟩ hn hd
variable {a b:Expr}
def PC(X:Cx)(op:CmpOp)(a b:Expr)(t:TE):Prop:=
 ∀(pins:List (sK×Obj)) (s:ag) (σ:St) (H:Hp) (Q:VK),Inv X pins σ H s->t σ H Q->
  wpAny #[3] X.A (eval a X.env) (λv rj=>wpAny #[3] X.A (eval b X.env) (λu rg=>wpAny #[3] X.A (bH op v u) (EP X pins σ Q) X.xe rg) X.xe rj) X.xe s
def xjg(b:Expr)(h:op≠.In)(h2:op≠.NotIn):dO op b=sJ:=by
 have e1:(op==CmpOp.In)=sJ:=by cases op<;> first|rfl|show absurd rfl h
 have e2:(op==CmpOp.NotIn)=sJ:=by cases op<;> first|rfl|show absurd rfl h2
 cases b<;> simp[dO,e1,e2]
def Pb(ta:TE):TE:=λσ H Q=>ta σ H λx H1=>Q (.bl<|decide (x= .rp)) H1
def P1(ta:TE):TE:=λσ H Q=>ta σ H λx H1=>Q (.bl<|!decide (x= .rp)) H1
theorem RelV.wq{x:V}{v:sV}(r:RelV x v):(v==bz)=decide (x= .rp):=by
 cases x with
 |rp=>cases r;rfl
 |bl _=>cases r;rfl
 |int _=>obtain⟨t,rfl⟩:=r;rfl
 |str _=>obtain⟨t,rfl⟩:=r;rfl
 |wX _=>obtain⟨t,rfl⟩:=r;rfl
 |A2 _=>obtain⟨t,rfl⟩:=r;rfl
 |ref _=>cases r;rfl
 |ty _=>cases r;rfl
def R8(ha:PE X a ta):PC X .Is a (.Constant .none j pos') (Pb ta):=by
 intro pins s σ H Q I h;show xQ (ha pins s σ H _ I h) λv s1 x H1 I1 r1 q1=>?_;show nv (is_none_gen ⟨.bl _,H1,I1,by rw[r1.wq];rfl,q1⟩)
def Uw(ha:PE X a ta):PC X .IsNot a (.Constant .none j pos') (P1 ta):=by
 intro pins s σ H Q I h;show xQ (ha pins s σ H _ I h) λv s1 x H1 I1 r1 q1=>?_;show nv (isnot_none_gen ⟨.bl _,H1,I1,by rw[r1.wq];rfl,q1⟩)
def tB(t:TE):TT:=λσ H Q=>t σ H λx H1=>∃c,x= .bl c/\Q c H1
def R7{t:TE}(h:PC X op a b t)(h1:autoParam (dO op b=sJ) rZ):PE X (.Compare a [op] [b] pos) t:=λpins s σ H Q I hw=>wpAny_Compare1 (h pins s σ H Q I hw) h1
def J6{t:TE}(h:PC X op a b t)(h1:autoParam (dO op b=sJ) rZ):PT X (.Compare a [op] [b] pos) (tB t):=by
 intro pins s σ H Q I hw;show iT (sj (h pins s σ H _ I hw) λv s1 h1=>sj h1 λu s2 h2=>sj h2 λc s3 ⟨x,H1,I1,r1,q1⟩=>?_) h1;obtain⟨d,rfl,q⟩:=q1;cases r1;show cH ⟨H1,I1,q⟩
variable {tA C7:TT} {rest:List Expr}
def Pa(t:TT):TT:=λσ H Q=>t σ H λc H1=>Q (!c) H1
theorem uE(ha:PT X a tA):PW X (.BoolOp .And [a] pos) tA:=by
 intro wh pins s σ H Q I h;show isTrue_and<|sj (ha pins s σ H Q I h) λc s1 e=>?_;cases c with
 |true=>show isTrue_and_nil e
 |false=>show e
theorem jf(ha:PT X a tA):PW X (.BoolOp .Or [a] pos) tA:=by
 intro wh pins s σ H Q I h;show isTrue_or<|sj (ha pins s σ H Q I h) λc s1 e=>?_;cases c with
 |false=>show isTrue_or_nil e
 |true=>show e
def zK(ha:PT X a tA):PT X (.UnaryOp .Not a pos) (Pa tA):=by
 intro pins s σ H Q I h;show isTrue_not (sj (ha pins s σ H (λc H1=>Q (!c) H1) I h) λ_ _ ⟨H1,i,q⟩=>⟨H1,i,q⟩)
def um{op}{t:TE}(h:PE X a t):PE X (.BoolOp op [a] pos) t:=λpins s σ H Q I hw=>BoolOp_one (h pins s σ H Q I hw)
end
def kq(K:ax)(H:Hp)(a:sK)(xs:List V):Prop:=
 Rd H a (.lst xs)\/
  ∃(o:Obj) (rf:Array sV) (n:Nat),K.lookup a=E o/\o.cls= .type "list"/\o.dict=y/\o.data= .seq rf n/\rf.size<=aK/\Vals xs rf.toList
def rM(K:ax)(H:Hp)(a:sK)(xs:List V):Prop:=
 Rd H a (.tup xs)\/
  ∃(o:Obj) (rf:Array sV) (n:Nat),K.lookup a=E o/\o.cls= .type "tuple"/\o.data= .seq rf n/\rf.size<=aK/\Vals xs rf.toList
noncomputable def O9:sV->Option V
 | .none=>E .rp
 | .bool b=>E (.bl b)
 | .int i _=>E (.int i)
 | .str x _=>E (.str x)
 | .bytes b _=>E (.wX b)
 | .float b _=>E (.A2 b)
 | .ref a=>E (.ref a)
 | .type n=>E (.ty n)
 |_=>y
theorem RelV.abs{x:V}(r:RelV x u):O9 u=E x:=by
 cases x with
 |rp=>cases r;rfl
 |bl _=>cases r;rfl
 |int _=>obtain⟨t,rfl⟩:=r;rfl
 |str _=>obtain⟨t,rfl⟩:=r;rfl
 |wX _=>obtain⟨t,rfl⟩:=r;rfl
 |A2 _=>obtain⟨t,rfl⟩:=r;rfl
 |ref _=>cases r;rfl
 |ty _=>cases r;rfl
def RelV.inj{x:V}(r:RelV x u)(q:RelV sZ u):x=sZ:=bI (r.abs.symm.trans q.abs)
theorem Vals.inj:∀{xs ys:List V} {us:List sV},Vals xs us->Vals ys us->xs=ys
 |_,_,_,.nil,.nil=>rfl
 |_,_,_,.cons r t,.cons r' t'=>by rw[r.inj r',Vals.inj t t']
section
variable {ys:List V}
def kq.of(h:H a=E (.lst xs)):kq K H a xs:=.inl (.inl h)
def rM.of(h:H a=E (.tup xs)):rM K H a xs:=.inl (.inl h)
def Inv.list(I:Inv X pins σ H s)(h:kq X.K H a xs):∃rf:List sV,Vals xs rf/\PlainL s.heap a rf.toArray/\xs.length<=aK:=by
 rcases h with h|⟨o,rf,n,hk,hc,hd,hs,hz,r⟩
 ·obtain⟨z,rf,n,r,e⟩:=h.ok I.rh;show⟨rf,r,⟨_,n,e,Y,Y,Y⟩,z⟩
 ·show⟨rf.toList,r,⟨o,n,I.su a o hk,hc,hd,by simpa using hs⟩,?_⟩;have e:=r.length;simp only[aU]at e;lia
def Inv.tuple(I:Inv X pins σ H s)(h:rM X.K H a xs):∃rf:List sV,Vals xs rf/\IsTup s.heap a rf.toArray/\xs.length<=aK:=by
 rcases h with h|⟨o,rf,n,hk,hc,hs,hz,r⟩
 ·obtain⟨z,rf,r,p⟩:=h.ok I.rh;show⟨rf,r,p,z⟩
 ·show⟨rf.toList,r,⟨o,I.su a o hk,hc,n,by simpa using hs⟩,?_⟩;have e:=r.length;simp only[aU]at e;lia
def Inv.wt(I:Inv X pins σ H s)(h:kq X.K H a xs)(h':kq X.K H a ys):xs=ys:=by
 obtain⟨rf,r,⟨o,n,e,_,_,d⟩,_⟩:=I.list h;obtain⟨its',r',⟨o',n',e',_,_,d'⟩,_⟩:=I.list h';rw[e]at e';cases e';rw[d]at d';injection d' with d1 _;have:rf=its':=by simpa using congrArg Array.toList d1
 subst this;show r.inj r'
def Inv.t8(I:Inv X pins σ H s)(h:rM X.K H a xs)(h':rM X.K H a ys):xs=ys:=by
 obtain⟨rf,r,⟨o,e,_,n,d⟩,_⟩:=I.tuple h;obtain⟨its',r',⟨o',e',_,n',d'⟩,_⟩:=I.tuple h';rw[e]at e';cases e';rw[d]at d';injection d' with d1 _;have:rf=its':=by simpa using congrArg Array.toList d1
 subst this;show r.inj r'
end
noncomputable abbrev Cx.r0(X:Cx)(sQ:sV->ag->Prop):Cx:={X with xe:=sQ}
noncomputable abbrev Cx.w4(X:Cx):Cx:=X.r0 λ_ _=>False
def Cx.Ok.r0(ok:X.Ok)(sQ:sV->ag->Prop):(X.r0 sQ).Ok:=
 ⟨ok.mod,ok.kind,ok.glob,ok.blt,ok.above,ok.inj,ok.has,ok.A3,ok.hd,ok.frames,ok.Bx,ok.Dl,ok.bs,ok.wK,ok.wa,ok.wG,ok.sH,ok.wW,ok.wg,ok.hz⟩
def Cx.Ok.rS(ok:(X.r0 sQ).Ok):X.Ok:=
 ⟨ok.mod,ok.kind,ok.glob,ok.blt,ok.above,ok.inj,ok.has,ok.A3,ok.hd,ok.frames,ok.Bx,ok.Dl,ok.bs,ok.wK,ok.wa,ok.wG,ok.sH,ok.wW,ok.wg,ok.hz⟩
def Inv.r0(I:Inv X pins σ H s)(sQ:sV->ag->Prop):Inv (X.r0 sQ) pins σ H s:=⟨I.ok.r0 sQ,I.os,I.bare,I.base,I.loc,I.cell,I.free,I.rT,I.pin,I.rh,I.len⟩
def Inv.rS(I:Inv (X.r0 sQ) pins σ H s):Inv X pins σ H s:=⟨I.ok.rS,I.os,I.bare,I.base,I.loc,I.cell,I.free,I.rT,I.pin,I.rh,I.len⟩
theorem SP.rS{f:Flow}(h:SP (X.r0 sQ) pins D f s'):SP X pins D f s':=by
 cases f with
 |next=>obtain⟨rq,H',I,q⟩:=h;show⟨rq,H',I.rS,q⟩
 |brk=>obtain⟨rq,H',I,q⟩:=h;show⟨rq,H',I.rS,q⟩
 |cont=>obtain⟨rq,H',I,q⟩:=h;show⟨rq,H',I.rS,q⟩
 |ret u=>obtain⟨v,rq,H',I,r,q⟩:=h;show⟨v,rq,H',I.rS,r,q⟩
def sY.w4{st:List Stmt}{t:TS}(h:sY X.w4 st t):sY X st t:=λpins s σ H D I hw=>
 aR (h pins s σ H D (I.r0 _) hw) (λ_ _ q=>q.rS) λ_ _ z=>aV z
section
variable {st:Stmt} {rest:List Stmt} {t u:TS}
def PZ:TS:=λD σ H=>D.nx σ H
def O8(t u:TS):TS:=λD σ H=>t {D with nx:=u D} σ H
def xw:sY X [] PZ:=λ_ _ σ H _ I h=>fU ⟨σ,H,I,h⟩
theorem xc(h1:PS X st t)(h2:sY X rest u):sY X (st::rest) (O8 t u):=by
 intro pins s σ H D I h;show wpAny_execs_cons<|sj (h1 pins s σ H {D with nx:=u D} I h) λf s1 q=>?_;cases f with
 |next=>
  obtain⟨rq,H',I',q⟩:=q;show h2 pins s1 rq H' D I' q
 |ret v=>show q
 |brk=>show q
 |cont=>show q
theorem xg(h1:PS X st t):sY X [st] t:=by
 intro pins s σ H D I h;show wpAny_execs_cons<|sj (h1 pins s σ H D I h) λf s1 q=>?_;cases f with
 |next=>show fU q
 |ret v=>show q
 |brk=>show q
 |cont=>show q
def Inv.quiet(I:Inv X pins σ H s):interactive X.env=sJ:=by simp[interactive,I.ok.kind]
def PY(te:TE):TS:=λD σ H=>te σ H λ_ H1=>D.nx σ H1
def xO(he:PE X e te)(hs:autoParam (iU e y pos.line X.env=pure sJ) rJ):PS X (.Expr e pos) (PY te):=by
 intro pins s σ H D I h;show wpAny_Expr_any (xQ (he pins s σ H _ I h) λv s1 x H1 I1 r1 q1=>⟨σ,H1,I1,q1⟩) I.quiet hs
def O7(te:TE):TS:=λD σ H=>te σ H D.rt
def xm(he:PE X e te):PS X (.Return (E e) pos) (O7 te):=by
 intro pins s σ H D I h;show wpAny_Return_some (xQ (he pins s σ H _ I h) λv s1 x H1 I1 r1 q1=>⟨x,σ,H1,I1,r1,q1⟩)
def PX:TS:=λD _ H=>D.rt .rp H
def Uv:PS X (.Return y pos) PX:=λ_ _ σ H _ I h=>wpAny_Return_none ⟨.rp,σ,H,I,Y,h⟩
end
abbrev TG:=V->St->Hp->(St->Hp->Prop)->Prop
abbrev BJ:=List V->St->Hp->(St->Hp->Prop)->Prop
def PG(X:Cx)(target:Expr)(t:TG):Prop:=
 ∀(pins:List (sK×Obj)) (s:ag) (σ:St) (H:Hp) (v:V) (u:sV) (Q:St->Hp->Prop),Inv X pins σ H s->RelV v u->t v σ H Q->
  wpAny #[3] X.A (kK target X.env u) (λ_ s'=>BK X pins Q s') X.xe s
def EV(X:Cx)(ts:List Expr)(t:BJ):Prop:=
 ∀(pins:List (sK×Obj)) (s:ag) (σ:St) (H:Hp) (vs:List V) (us:List sV) (Q:St->Hp->Prop),Inv X pins σ H s->Vals vs us->t vs σ H Q->
  wpAny #[3] X.A (assignInOrder ((i8 ts X.env).map (·.2)) us) (λ_ s'=>BK X pins Q s') X.xe s
abbrev E4:=V->V->V->Hp->(Hp->Prop)->Prop
def I9(X:Cx)(t:E4):Prop:=
 ∀(pins:List (sK×Obj)) (s:ag) (σ:St) (H:Hp) (o i v:V) (ov iv u:sV) (Q:Hp->Prop),Inv X pins σ H s->RelV o ov->RelV i iv->RelV v u->t o i v H Q->
  wpAny #[3] X.A (setItem ov iv u) (λ_ s'=>∃H',Inv X pins σ H' s'/\Q H') X.xe s
def BW(i:Nat):TG:=λv σ H Q=>Q (σ.set i (E v)) H
def yc(hN:X.N.Nodup)(hi:X.N[i]? =E x)(hx:Loc X.env.scope x)(hf:autoParam (X.fn x=sX\/X.env.scope.names.lookup x=E .local) qZ):PG X (.Name x pos) (BW i):=by
 intro pins s σ H v u Q I r h;show lg (Ge I hN hi hx r (λs' I'=>⟨_,H,I',h⟩) hf)
def IZ:BJ:=λvs σ H Q=>vs=[]/\Q σ H
def Fq(t:TG)(u:BJ):BJ:=λvs σ H Q=>sE λv r=>vs=v::r/\t v σ H λrq H'=>u r rq H' Q
def B7:EV X [] IZ:=by
 intro pins s σ H vs us Q I r h;obtain⟨e,h⟩:=h;subst e;cases r;show assignInOrder_nil ⟨σ,H,I,h⟩
theorem zD{t:TG}{u:BJ}(h1:PG X e t)(h2:EV X es u)
  (hs:autoParam ((i8 (e::es) X.env).map (·.2)=kK e X.env::(i8 es X.env).map (·.2)) rJ):EV X (e::es) (Fq t u):=by
 intro pins s σ H vs us Q I r h;obtain⟨v,vr,e1,h⟩:=h;subst e1;cases r with
 |cons r rr=>
  rw[hs];show assignInOrder_cons<|sj (h1 pins s σ H _ _ _ I r h) λ_ s1 ⟨AI,H1,I1,q1⟩=>?_;show h2 pins s1 AI H1 _ _ Q I1 rr q1
def IY(K:ax)(n:Nat)(t:BJ):TG:=λv σ H Q=>sE λa xs=>v= .ref a/\rM K H a xs/\xs.length=n/\t xs σ H Q
def B2{k:Nat}{t:BJ}(hc:X.calm=sX)(h:EV X es t)
  (hn:autoParam ((i8 es X.env).length=n) rJ) (oK:autoParam ((i8 es X.env).findIdx? (·.1)=y) rJ):PG X (.Tuple es k pos) (IY X.K n t):=by
 intro pins s σ H v u Q I r hw;obtain⟨a,xs,e1,hq,hl,hw⟩:=hw;subst e1;cases r;obtain⟨rf,rv,ht,hz⟩:=I.tuple hq;show assign_Tuple_tuple (I.ok.hd hc) ht (by simp[hn,<-hl,rv.length]) oK λh' hx=>?_;have I1:Inv X pins σ H {s with heap:=h'}:=I.kept (t':=s.toks) λb o e=>hx b o (aC<|aq e) e;show h pins _ σ H xs _ Q I1 (by simpa using rv) hw
def O6(to ti:TE)(t:E4):TG:=λv σ H Q=>to σ H λo H1=>ti σ H1 λi H2=>t o i v H2 λH3=>Q σ H3
def J5{o i:Expr}{to:TE}{t:E4}(ho:PE X o to)(hi:PE X i ti)(hs:I9 X t)
  (ha:autoParam (∀v,kK (.Subscript o i pos) X.env v=(do
   let ov <-fA [v] (eval o X.env)
   let iv <-fA [v,ov] (eval i X.env)
   lC pos
   fA [v,ov,iv] (setItem ov iv v)
   release [v,ov,iv] [])) rV):PG X (.Subscript o i pos) (O6 to ti t):=by
 intro pins s σ H v u Q I r h;rw[ha];show ae (bO<|xQ (ho pins s σ H _ I h) λov s1 x H1 I1 r1 q1=>?_);show ae (bO<|xQ (hi pins s1 σ H1 _ I1 q1) λiv s2 sZ H2 I2 r2 q2=>?_);show ae (eh<|ae (bO<|sj (hs pins s2 σ H2 x sZ v ov iv u _ I2 r1 r2 r q2) λ_ s3 ⟨H3,I3,q3⟩=>?_));show wpAny_release ⟨σ,H3,I3,q3⟩
def E3(te:TE)(g:TG):TS:=λD σ H=>te σ H λx H1=>g x σ H1 D.nx
def J0{g:TG}(he:PE X e te)(hg:PG X tg g)(hs:autoParam (swapsWithSole [tg] e pos.line X.env=pure sJ) rJ)(hw:autoParam (swappedStores [tg] e X.env=pure y) rJ)
  (h1:autoParam ((i8 [tg] X.env).map (·.2)=[kK tg X.env]) rJ):PS X (.Assign [tg] e pos) (E3 te g):=by
 intro pins s σ H D I h;show wpAny_Assign_stores (xQ (he pins s σ H _ I h) λv s1 x H1 I1 r1 q1=>?_) hs hw;rw[h1];show sj (hg pins s1 σ H1 x v _ I1 r1 q1) λ_ s2 q=>q
def xp(hN:X.N.Nodup)(hi:X.N[i]? =E x)(hx:Loc X.env.scope x)(he:PE X e te)(hs:autoParam (iU e (E<|.Name x pos') pos.line X.env=pure sJ) rJ)(hf:autoParam (X.fn x=sX\/X.env.scope.names.lookup x=E .local) qZ):
  PS X (.Assign [.Name x pos'] e pos) (E3 te<|BW i):=by
 intro pins s σ H D I h;show wpAny_Assign_Name (xQ (he pins s σ H _ I h) λv s1 sZ H1 I1 r1 q1=>?_) hs;show Ge I1 hN hi hx r1 (λs2 I2=>⟨_,H1,I2,q1⟩) hf
structure It where
 go:Nat->Hp->Prop
 A9:Nat->Hp->V->Hp->Prop
 stop:Nat->Hp->Prop
def wU(X:Cx)(pins:List (sK×Obj))(H:Hp)(b:sK):Prop:=
 H b=y/\b≠X.env.locals/\b∉X.fs/\(b∈X.ex\/X.s₀.heap.objs.size<=b)/\(∀x c,X.env.cells.lookup x=E c->c≠b)/\∀p∈X.pn++pins,p.1≠b
def Inv.tQ{b:sK}(I:Inv X pins σ H s)(hb:s.heap.objs.size<=b)(hn:H' b=y):wU X pins H' b:=by
 show⟨hn,eP<|az I.lt hb,I.De hb,.inr<|aQ I.sz hb,λx c e z=>?_,λp hp z=>?_⟩
 ·obtain⟨v,q⟩:=I.cell x c e;show absurd (az q.lt (by rw[z];show hb)) (bN _)
 ·show absurd (az (aq (I.pin p hp).1) (by rw[z];show hb)) (bN _)
structure Turn(P:a9)(w:World)(K:ax)(tg:Expr)(J:It)(fp:List sK)(it:sK)(tn:Nat->Heap->Prop):Prop where
 mem:it∈fp
 obj:∀i h,tn i h->∀b∈fp,∃o,h.get? b=E o/\∀v,o.data≠.cell v
 keep:∀i h h',tn i h->(∀b∈fp,∀o,h.get? b=E o->h'.get? b=E o)->tn i h'
 item:∀(X:Cx),X.prog=P->X.w=w->X.K=K->X.calm=sX->∀(i:Nat) (pins:List (sK×Obj)) (s:ag) (σ:St) (H:Hp) (sQ:sV->ag->Prop),Inv X pins σ H s->(∀b∈fp,wU X pins H b)->tn i s.heap->J.go i H->
  wpAny (model P w) X.A (i9<|.ref it) (λr s1=>∃u,r=E u/\
   wpAny (model P w) X.A (j0 tg (.ref it) u) (λ_ s2=>∃x H',Inv X pins σ H' s2/\RelV x u/\J.A9 i H x H'/\tn (i+1) s2.heap/\∀b∈fp,H' b=y) sQ s1) sQ s
 done:∀(X:Cx),X.prog=P->X.w=w->X.K=K->X.calm=sX->∀(i:Nat) (pins:List (sK×Obj)) (s:ag) (σ:St) (H:Hp) (sQ:sV->ag->Prop),Inv X pins σ H s->(∀b∈fp,wU X pins H b)->tn i s.heap->J.stop i H->
  wpAny (model P w) X.A (i9<|.ref it) (λr s1=>r=y/\Inv X pins σ H s1) sQ s
 self:∀(A:bx) (i:Nat) (s:ag) (Q:sV->ag->Prop) (sQ:sV->ag->Prop),tn i s.heap->Q (.ref it) s->wpAny (model P w) A (pyIter<|.ref it) Q sQ s
abbrev TI:=St->Hp->(It->Hp->Prop)->Prop
def EU(X:Cx)(pins:List (sK×Obj))(σ:St)(tg:Expr)(R:It->Hp->Prop)(oK:sV)(s2:ag):Prop:=
 ∃(it:sK) (fp:List sK) (tn:Nat->Heap->Prop) (J:It) (H':Hp),oK= .ref it/\Inv X pins σ H' s2/\Turn X.prog X.w X.K tg J fp it tn/\tn 0 s2.heap/\(∀b∈fp,wU X pins H' b)/\R J H'
def PI(X:Cx)(tg iter:Expr)(wi:TI):Prop:=
 ∀(pins:List (sK×Obj)) (s:ag) (σ:St) (H:Hp) (R:It->Hp->Prop),Inv X pins σ H s->wi σ H R->
  wpAny #[3] X.A (eval iter X.env) (λv s1=>wpAny #[3] X.A (pyIter v) (EU X pins σ tg R) X.xe s1) X.xe s
theorem BV{o:Obj}{vs:Array sV}{Q:Unit->ag->Prop}(ho:s.heap.get? it=E o)(hc:o.cls= .type n)(hd:o.data= .fields vs)
  (hn:["enumerate","zip","dict_itemiterator","dict_reverseitemiterator","odict_iterator","itertools.zip_longest","itertools.pairwise"].contains n=sJ) (hQ:Q () s):wpAny M A (j0 tg (.ref it) u) Q sQ s:=by
 unfold j0;cases tg<;> first
  |show ar hQ
  |(cases u<;> first
    |show ar hQ
    |(show ae (wpAny_load ho ?_)
      rw[hc,hd];change wpAny M A (if (["enumerate","zip","dict_itemiterator","dict_reverseitemiterator","odict_iterator","itertools.zip_longest","itertools.pairwise"].contains n&&vs[0]? ==E (ck _))=sX then _ else _) Q sQ s;rw[if_neg (by intro h;rw[hn,Bool.false_and]at h;cases h)];show ar hQ))
def Aq(K:ax)(a:sK):It:=
 ⟨λi H=>sE λxs x=>kq K H a xs/\xs[i]? =E x,λi H x H'=>H'=H/\∀xs,kq K H a xs->xs[i]? =E x,λi H=>∃xs,kq K H a xs/\xs.length<=i⟩
def BL(K:ax)(a:sK):It:=
 ⟨λi H=>sE λxs x=>rM K H a xs/\xs[i]? =E x,λi H x H'=>H'=H/\∀xs,rM K H a xs->xs[i]? =E x,λi H=>∃xs,rM K H a xs/\xs.length<=i⟩
def Wc(a it:sK):Turn P w K tg (Aq K a) [it] it (λi h=>h.IsListIter it a i) where
 mem:=by simp
 obj:=λi h st b hb=>by
  have e:b=it:=by simpa using hb
  subst e;show L2.oG λ_ U=>?_;obtain⟨o,e,c,d⟩:=st;apply U;show⟨o,e,λv z=>by rw[d]at z;cases z⟩
 keep:=λi h h' st k=>st.at λo e=>k it #[8] o e
 item:=by
  intro X hP hw hK hc i pins s σ H sQ I hf st hg;subst hP hw hK;show L2.oG λ_ U=>?_;obtain⟨xs,x,hq,hx⟩:=hg;obtain⟨rf,rv,p,hz⟩:=I.list hq;obtain⟨u,hu,ru⟩:=rv.get hx;obtain⟨f0,f1,f2,f3,f4,f5⟩:=hf it #[8];apply U;show wpAny_pyNext_list_item st p.isList (x:=u) (by simpa using hu) λh' rn sb=>?_;have I1:Inv X pins σ H {s with heap:=h'}:=I.turned (t':=s.toks) (λb o hb e=>(sb.2 b hb).trans e) f0 f1 f3 f4 f5;show L2.oG λ_ U=>?_;obtain⟨o,e,c,d⟩:=id rn;apply U;show⟨u,Y,BV (s:={s with heap:=h'}) e c d #[6] ⟨x,H,I1,ru,⟨Y,λys hy=>by rw[I.wt hy hq];show hx⟩,rn,λb hb=>(hf b hb).1⟩⟩
 done:=by
  intro X hP hw hK hc i pins s σ H sQ I hf st hg;subst hP hw hK;show L2.oG λ_ U=>?_;obtain⟨xs,hq,hx⟩:=hg;obtain⟨rf,rv,p,hz⟩:=I.list hq;obtain⟨f0,f1,f2,f3,f4,f5⟩:=hf it #[8];apply U;have hl:=rv.length;show wpAny_pyNext_list_end (I.ok.hd hc) st p.isList (by simp;lia) λh' eb=>⟨Y,I.turned (t':=s.toks) (λb o hb e=>eb b o hb e) f0 f1 f3 f4 f5⟩
 self:=λ_ _ _ _ _ st h=>wpAny_pyIter_listiter st h
def XM(a it:sK):Turn P w K tg (BL K a) [it] it (λi h=>h.IsTupleIter it a i) where
 mem:=by simp
 obj:=λi h st b hb=>by
  have e:b=it:=by simpa using hb
  subst e;show L2.oG λ_ U=>?_;obtain⟨o,e,c,d⟩:=st;apply U;show⟨o,e,λv z=>by rw[d]at z;cases z⟩
 keep:=λi h h' st k=>st.at λo e=>k it #[8] o e
 item:=by
  intro X hP hw hK hc i pins s σ H sQ I hf st hg;subst hP hw hK;show L2.oG λ_ U=>?_;obtain⟨xs,x,hq,hx⟩:=hg;obtain⟨rf,rv,p,hz⟩:=I.tuple hq;obtain⟨u,hu,ru⟩:=rv.get hx;obtain⟨f0,f1,f2,f3,f4,f5⟩:=hf it #[8];apply U;show wpAny_pyNext_tuple_item st (show s.heap.IsTuple a rf.toArray from p) (x:=u) (by simpa using hu) λh' rn sb=>?_;have I1:Inv X pins σ H {s with heap:=h'}:=I.turned (t':=s.toks) (λb o hb e=>(sb.2 b hb).trans e) f0 f1 f3 f4 f5;show L2.oG λ_ U=>?_;obtain⟨o,e,c,d⟩:=id rn;apply U;show⟨u,Y,BV (s:={s with heap:=h'}) e c d #[6] ⟨x,H,I1,ru,⟨Y,λys hy=>by rw[I.t8 hy hq];show hx⟩,rn,λb hb=>(hf b hb).1⟩⟩
 done:=by
  intro X hP hw hK hc i pins s σ H sQ I hf st hg;subst hP hw hK;show L2.oG λ_ U=>?_;obtain⟨xs,hq,hx⟩:=hg;obtain⟨rf,rv,p,hz⟩:=I.tuple hq;obtain⟨f0,f1,f2,f3,f4,f5⟩:=hf it #[8];apply U;have hl:=rv.length;show wpAny_pyNext_tuple_end (I.ok.hd hc) st (show s.heap.IsTuple a rf.toArray from p) (by simp;lia) λh' eb=>⟨Y,I.turned (t':=s.toks) (λb o hb e=>eb b o hb e) f0 f1 f3 f4 f5⟩
 self:=λ_ _ _ _ _ st h=>wpAny_pyIter_tupleiter st h
def JA(K:ax)(tl:TE):TI:=λσ H R=>tl σ H λx H1=>∃a,x= .ref a/\(∃xs,kq K H1 a xs)/\R (Aq K a) H1
def O5(K:ax)(tl:TE):TI:=λσ H R=>tl σ H λx H1=>∃a,x= .ref a/\(∃xs,rM K H1 a xs)/\R (BL K a) H1
def xS(hl:PE X l tl):PI X tg l (JA X.K tl):=by
 intro pins s σ H R I h;show xQ (hl pins s σ H _ I h) λv s1 x H1 I1 r1 q1=>?_;obtain⟨a,e,⟨xs,hq⟩,q⟩:=q1;subst e;cases r1;obtain⟨rf,rv,p,hz⟩:=I1.list hq;show ee p.isList ?_;show⟨s1.heap.objs.size,[s1.heap.objs.size],_,_,H1,Y,I1.kept (t':=s1.toks) λb o e=>af _ e,Wc a _,⟨_,aF _ Y,Y,Y⟩,λb hb=>?_,q⟩;have e:b=s1.heap.objs.size:=by simpa using hb
 subst e;show I1.tQ (ah _) (I1.rh.fresh<|ah _)
def D0(hl:PE X l tl):PI X tg l (O5 X.K tl):=by
 intro pins s σ H R I h;show xQ (hl pins s σ H _ I h) λv s1 x H1 I1 r1 q1=>?_;obtain⟨a,e,⟨xs,hq⟩,q⟩:=q1;subst e;cases r1;obtain⟨rf,rv,p,hz⟩:=I1.tuple hq;show kL (show s1.heap.IsTuple a rf.toArray from p) ?_;show⟨s1.heap.objs.size,[s1.heap.objs.size],_,_,H1,Y,I1.kept (t':=s1.toks) λb o e=>af _ e,XM a _,⟨_,aF _ Y,Y,Y⟩,λb hb=>?_,q⟩;have e:b=s1.heap.objs.size:=by simpa using hb
 subst e;show I1.tQ (ah _) (I1.rh.fresh<|ah _)
def Dz(wi:TI)(g:TG)(tb:TS):TS:=λD σ H=>wi σ H λJ H1=>∃W:Nat->Nat->St->Hp->Prop,(∃m,W 0 m σ H1)/\∀i m σ H,W i m σ H->
 (J.stop i H/\D.nx σ H)\/(J.go i H/\∃N:St->Hp->Prop,(∀rq H',N rq H'->∃m',m'<m/\W (i+1) m' rq H')/\∀x H',J.A9 i H x H'->g x σ H' λtN H2=>tb {D with nx:=N,ct:=N,bk:=D.nx} tN H2)
noncomputable def jg(fp:List sK)(h:Heap):List (sK×Obj):=fp.filterMap λb=>(h.get? b).map λo=>(b,o)
def vR{b:sK}{o:Obj}(hb:b∈fp)(e:h.get? b=E o):(b,o)∈jg fp h:=gS.mpr ⟨b,hb,by rw[e];rfl⟩
theorem Wb{p:sK×Obj}(hp:p∈jg fp h):p.1∈fp/\h.get? p.1=E p.2:=by
 obtain⟨b,hb,e⟩:=gS.mp hp;cases q:h.get? b with
 |none=>rw[q]at e;cases e
 |some o=>
  rw[q]at e;have e':(b,o)=p:=bI e;subst e';show⟨hb,q⟩
def Inv.pinned(I:Inv X pins σ H s)(hf:∀b∈fp,wU X pins H b)(ho:∀b∈fp,∃o,s.heap.get? b=E o/\∀v,o.data≠.cell v):Inv X (pins++jg fp s.heap) σ H s:=
 I.v8 λp hp=>(aZ.mp hp).elim (λz=>I.pin p<|aN _ z) λz=>by
  obtain⟨hb,e⟩:=Wb z;obtain⟨f0,f1,f2,_⟩:=hf p.1 hb;obtain⟨o,e',d⟩:=ho p.1 hb;rw[e]at e';cases e';show⟨e,f0,f1,f2,d⟩
def Inv.sP{pl:List (sK×Obj)}(I:Inv X (pins++pl) σ H s):Inv X pins σ H s:=I.v8 λp hp=>I.pin p (aN _<|bB _ hp)
theorem JZ{g:TG}{tb:TS}(hp:PassesOwn #[3] X.A X.env X.xe)(hc:X.calm=sX)(hi:PI X tg iter wi)(hg:PG X tg g)(hb:sY X body tb)
  (hs:autoParam (∀x,fg iter X.env x=pure x) rV):PS X (.For tg iter body [] pos) (Dz wi g tb):=by
 intro pins s σ H D I h;show wpAny_For (sj (hi pins s σ H _ I h) λv s1 h1=>sj h1 λoW s2 h2=>?_) hs;show L2.oG λ_ U=>?_;obtain⟨it,fp,tn,J,H2,e,I2,T,oU,f2,W,⟨m0,w0⟩,turn⟩:=h2;apply U;subst e
 -- oR stays sX of oS oN objects through oS loop
 have oK:∀{H':Hp},(∀b∈fp,H' b=y)->∀b∈fp,wU X pins H' b:=λhn b hb=>⟨hn b hb,(f2 b hb).2⟩;show codeAny_forLoop_any (λn s'=>∃i rq H',Inv X pins rq H' s'/\tn i s'.heap/\(∀b∈fp,H' b=y)/\W i n rq H') ?_ m0 ⟨0,σ,H2,I2,oU,λb hb=>(f2 b hb).1,w0⟩;rintro n s3 ⟨i,w8,H3,I3,oP,oQ,w3⟩;rcases turn i n w8 H3 w3 with⟨stop,qn⟩|⟨go,N,hN,step⟩
 ·show eV hp<|sj (T.done X Y Y Y hc i pins s3 w8 H3 X.xe I3 (oK oQ) oP stop) λr s4 ⟨hr,I4⟩=>?_;subst hr;show fU ⟨w8,H3,I4,qn⟩
 ·show eV hp<|sj (T.item X Y Y Y hc i pins s3 w8 H3 X.xe I3 (oK oQ) oP go) λr s4 ⟨u,hr,h4⟩=>?_;subst hr;show eV hp<|sj h4 λ_ s5 ⟨x,H5,I5,r5,y5,oO,oV⟩=>?_;have Ds:=I5.pinned (oK oV)<|T.obj _ _ oO;show eV hp<|sj (hg _ s5 w8 H5 x u _ Ds r5<|step x H5 y5) λ_ s6 ⟨OU,H6,I6,q6⟩=>?_;show eV hp<|sj (hb _ s6 OU H6 _ I6 q6) λf s7 q7=>?_;have again:∀{u9:St} {H7:Hp},Inv X (pins++jg fp s5.heap) u9 H7 s7->N u9 H7->∃m,m<n/\∃i rq H',Inv X pins rq H' s7/\tn i s7.heap/\(∀b∈fp,H' b=y)/\W i m rq H':=λ{u9 H7} I7 n7=>by
   show L2.oG λ_ U=>?_;obtain⟨m',hm,w7⟩:=hN u9 H7 n7;apply U;show⟨m',hm,i+1,u9,H7,I7.sP,T.keep _ _ _ oO λb hb o e=>(I7.pin (b,o)<|aN _ (aN _<|vR hb e)).1,λb hb=>?_,w7⟩;show L2.oG λ_ U=>?_;obtain⟨o,e,d⟩:=T.obj _ _ oO b hb;apply U;show(I7.pin (b,o)<|aN _ (aN _<|vR hb e)).2.1
  cases f with
  |next=>obtain⟨u9,H7,I7,n7⟩:=q7;show again I7 n7
  |cont=>obtain⟨u9,H7,I7,n7⟩:=q7;show again I7 n7
  |brk=>obtain⟨u9,H7,I7,q7⟩:=q7;show⟨u9,H7,I7.sP,q7⟩
  |ret v=>obtain⟨x7,u9,H7,I7,r7,q7⟩:=q7;show⟨x7,u9,H7,I7.sP,r7,q7⟩
def UM{g:TG}{tb:TS}(Pv:Nat->St->Hp->Prop)(h0:Pv 0 σ H)(hl:∀i σ H,i<=xs.length->Pv i σ H->kq K H a xs)
  (hs:∀i x σ H,xs[i]? =E x->Pv i σ H->g x σ H λtN H2=>tb {D with nx:=Pv<|i+1,ct:=Pv<|i+1,bk:=D.nx} tN H2) (hd:∀σ H,Pv xs.length σ H->D.nx σ H):
  ∃W:Nat->Nat->St->Hp->Prop,(∃m,W 0 m σ H)/\∀i m σ H,W i m σ H->
   ((Aq K a).stop i H/\D.nx σ H)\/((Aq K a).go i H/\∃N:St->Hp->Prop,(∀rq H',N rq H'->∃m',m'<m/\W (i+1) m' rq H')/\∀x H',(Aq K a).A9 i H x H'->g x σ H' λtN H2=>tb {D with nx:=N,ct:=N,bk:=D.nx} tN H2):=by
 show⟨λi m σ H=>m=xs.length - i/\i<=xs.length/\Pv i σ H,⟨xs.length,by simp,aX _,h0⟩,?_⟩;rintro i m σ H ⟨rfl,hi,p⟩;have q:=hl i σ H hi p
 by_cases oK:i<xs.length
 ·show .inr ⟨⟨xs,xs[i],q,by simp[oK]⟩,Pv<|i+1,λrq H' p'=>⟨xs.length - (i+1),by lia,Y,oK,p'⟩,λx H' sZ=>?_⟩;obtain⟨e,sZ⟩:=sZ;subst e;show hs i x σ _ (sZ xs q) p
 ·have e:i=xs.length:=by lia
  subst e;show .inl ⟨⟨xs,q,ah _⟩,hd σ H p⟩
def Uu{g:TG}{tb:TS}(Pv:Nat->St->Hp->Prop)(h0:Pv 0 σ H)(hl:∀i σ H,i<=xs.length->Pv i σ H->rM K H a xs)
  (hs:∀i x σ H,xs[i]? =E x->Pv i σ H->g x σ H λtN H2=>tb {D with nx:=Pv<|i+1,ct:=Pv<|i+1,bk:=D.nx} tN H2) (hd:∀σ H,Pv xs.length σ H->D.nx σ H):
  ∃W:Nat->Nat->St->Hp->Prop,(∃m,W 0 m σ H)/\∀i m σ H,W i m σ H->
   ((BL K a).stop i H/\D.nx σ H)\/((BL K a).go i H/\∃N:St->Hp->Prop,(∀rq H',N rq H'->∃m',m'<m/\W (i+1) m' rq H')/\∀x H',(BL K a).A9 i H x H'->g x σ H' λtN H2=>tb {D with nx:=N,ct:=N,bk:=D.nx} tN H2):=by
 show⟨λi m σ H=>m=xs.length - i/\i<=xs.length/\Pv i σ H,⟨xs.length,by simp,aX _,h0⟩,?_⟩;rintro i m σ H ⟨rfl,hi,p⟩;have q:=hl i σ H hi p
 by_cases oK:i<xs.length
 ·show .inr ⟨⟨xs,xs[i],q,by simp[oK]⟩,Pv<|i+1,λrq H' p'=>⟨xs.length - (i+1),by lia,Y,oK,p'⟩,λx H' sZ=>?_⟩;obtain⟨e,sZ⟩:=sZ;subst e;show hs i x σ _ (sZ xs q) p
 ·have e:i=xs.length:=by lia
  subst e;show .inl ⟨⟨xs,q,ah _⟩,hd σ H p⟩
abbrev R2:=V->V->Hp->VK->Prop
def sf(X:Cx)(f:sV->sV->Sem sV)(r:R2):Prop:=
 ∀(pins:List (sK×Obj)) (s:ag) (σ:St) (H:Hp) (x sZ:V) (v u:sV) (Q:VK),Inv X pins σ H s->RelV x v->RelV sZ u->r x sZ H Q->
  wpAny #[3] X.A (f v u) (EP X pins σ Q) X.xe s
def BI(X:Cx)(f:sV->Sem sV)(r:V->Hp->VK->Prop):Prop:=
 ∀(pins:List (sK×Obj)) (s:ag) (σ:St) (H:Hp) (x:V) (v:sV) (Q:VK),Inv X pins σ H s->RelV x v->r x H Q->
  wpAny #[3] X.A (f v) (EP X pins σ Q) X.xe s
def yH(X:Cx)(f:sV)(r:List V->Hp->VK->Prop):Prop:=
 ∀(pins:List (sK×Obj)) (s:ag) (σ:St) (H:Hp) (xs:List V) (us:List sV) (Q:VK),Inv X pins σ H s->Vals xs us->r xs H Q->
  wpAny #[3] X.A (call f us) (EP X pins σ Q) X.xe s
def C6(r:R2)(ta tb:TE):TE:=λσ H Q=>ta σ H λx H1=>tb σ H1 λsZ H2=>r x sZ H2 Q
def tUn(r:V->Hp->VK->Prop)(ta:TE):TE:=λσ H Q=>ta σ H λx H1=>r x H1 Q
def rI(C:Int->Int->Prop)(g:Int->Int->V):R2:=λx sZ H Q=>sE λi j=>sU (x= .int i) (sZ= .int j) (C i j) (Q (g i j) H)
def AA(g:Int->Int->V):R2:=λx sZ H Q=>sE λi j=>tG (x= .int i) (sZ= .int j) (Q (g i j) H)
def rU(g:Int->V):V->Hp->VK->Prop:=λx H Q=>∃i,x= .int i/\Q (g i) H
section
variable {a b c:Expr} {tc:TE}
def E2(ha:PE X a ta)(hb:PE X b tb){R:V->V->Hp->Prop}(I:Inv X pins σ H s)
  (h:ta σ H λx H1=>tb σ H1 λsZ H2=>R x sZ H2) {f:sV->sV->Sem sV}
  (hf:∀v u s2 x sZ H2,Inv X pins σ H2 s2->RelV x v->RelV sZ u->R x sZ H2->wpAny #[3] X.A (f v u) Q X.xe s2):
  wpAny #[3] X.A (eval a X.env) (λv rj=>wpAny #[3] X.A (eval b X.env) (λu rg=>wpAny #[3] X.A (f v u) Q X.xe rg) X.xe rj) X.xe s:=by
 show xQ (ha pins s σ H _ I h) λv s1 x H1 I1 r1 q1=>?_;show xQ (hb pins s1 σ H1 _ I1 q1) λu s2 sZ H2 I2 r2 q2=>?_;show hf v u s2 x sZ H2 I2 r1 r2 q2
def xr{op:Operator}(ho:sf X (dE op) r)(ha:PE X a ta)(hb:PE X b tb):PE X (.BinOp a op b pos) (C6 r ta tb):=by
 intro pins s σ H Q I h;show wpAny_BinOp (E2 ha hb I h λv u s2 x sZ H2 I2 rx ry q=>ho pins s2 σ H2 x sZ v u Q I2 rx ry q)
def Fp{op:UnaryOp}{r:V->Hp->VK->Prop}(ho:BI X (unaryOp op) r)(ha:PE X a ta):PE X (.UnaryOp op a pos) (tUn r ta):=by
 intro pins s σ H Q I h;show UnaryOp_ (xQ (ha pins s σ H _ I h) λv s1 x H1 I1 r1 q1=>ho pins s1 σ H1 x v Q I1 r1 q1)
def EM{f:sV->sV->Sem sV}{C:Int->Int->Prop}{g:Int->Int->Int}
  (rule:∀(i j:Int) (t u:Tok) (s:ag) (Q:sV->ag->Prop) (sQ:sV->ag->Prop),C i j->Q (.int (g i j) s.toks) {s with toks:=s.toks+1}->wpAny #[3] X.A (f (.int i t)<|.int j u) Q sQ s):
  sf X f (rI C λi j=>.int<|g i j):=by
 intro pins s σ H x sZ v u Q I rx ry h;obtain⟨i,j,rfl,rfl,hc,q⟩:=h;obtain⟨t,rfl⟩:=rx;obtain⟨t',rfl⟩:=ry;show rule i j t t' s _ _ hc ⟨.int<|g i j,H,I.tok _,⟨_,Y⟩,q⟩
def IX{f:sV->sV->Sem sV}{g:Int->Int->Int}
  (rule:∀(i j:Int) (t u:Tok) (s:ag) (Q:sV->ag->Prop) (sQ:sV->ag->Prop),Q (.int (g i j) s.toks) {s with toks:=s.toks+1}->wpAny #[3] X.A (f (.int i t)<|.int j u) Q sQ s):
  sf X f (AA λi j=>.int<|g i j):=by
 intro pins s σ H x sZ v u Q I rx ry h;obtain⟨i,j,rfl,rfl,q⟩:=h;obtain⟨t,rfl⟩:=rx;obtain⟨t',rfl⟩:=ry;show rule i j t t' s _ _ ⟨.int<|g i j,H,I.tok _,⟨_,Y⟩,q⟩
def Dy{f:sV->sV->Sem sV}{g:Int->Int->Bool}
  (rule:∀(i j:Int) (t u:Tok) (s:ag) (Q:sV->ag->Prop) (sQ:sV->ag->Prop),Q (.bool<|g i j) s->wpAny #[3] X.A (f (.int i t)<|.int j u) Q sQ s):
  sf X f (AA λi j=>.bl<|g i j):=by
 intro pins s σ H x sZ v u Q I rx ry h;obtain⟨i,j,rfl,rfl,q⟩:=h;obtain⟨t,rfl⟩:=rx;obtain⟨t',rfl⟩:=ry;show rule i j t t' s _ _ ⟨.bl<|g i j,H,I,Y,q⟩
def Ji(i j:Int):Prop:=0<=j/\j<=1000000/\i.natAbs<2^64
def Dx(i j:Int):Prop:=(-(2^64)<i/\i<2^64)\/(-(2^64)<j/\j<2^64)
def Dx.ok{i:Int}(h:Dx i j):IntMulOk i j:=by
 rcases h with⟨h1,h2⟩|⟨h1,h2⟩
 ·show .of_left (intBits_le_64 h1 h2)
 ·show .of_right (intBits_le_64 h1 h2)
def Sx:sf X (dE .Add) (AA λi j=>.int<|i+j):=IX λ_ _ _ _ _ _ _ q=>add_int q
def Sw:sf X (dE .Sub) (AA λi j=>.int<|i - j):=IX λ_ _ _ _ _ _ _ q=>sub_int q
def Sv:sf X (dE .Mult) (rI Dx λi j=>.int<|i*j):=EM λ_ _ _ _ _ _ _ hc q=>mul_int q hc.ok
def Su:sf X (dE .Mod) (rI (λ_ j=>0<j) λi j=>.int<|i%j):=EM λi j _ _ _ _ _ hc q=>by
 have h1:(0:Int)<j:=hc;show mod_int' #[2] (by rw[Int.fmod_eq_emod_of_nonneg i #[2]];show q)
def Ss:sf X (dE .Pow) (rI Ji λi j=>.int<|i^j.toNat):=EM λ_ _ _ _ _ _ _ hc q=>pow_int_small hc.1 hc.2.1 hc.2.2 q
def unI{f:sV->Sem sV}{g:Int->Int}
  (rule:∀(i:Int) (t:Tok) (s:ag) (Q:sV->ag->Prop) (sQ:sV->ag->Prop),Q (.int (g i) s.toks) {s with toks:=s.toks+1}->wpAny #[3] X.A (f<|.int i t) Q sQ s):
  BI X f (rU λi=>.int<|g i):=by
 intro pins s σ H x v Q I rx h;obtain⟨i,rfl,q⟩:=h;obtain⟨t,rfl⟩:=rx;show rule i t s _ _ ⟨.int<|g i,H,I.tok _,⟨_,Y⟩,q⟩
def Sq:BI X (unaryOp .USub) (rU λi=>.int (-i)):=unI λ_ _ _ _ _ q=>neg_int q
end
noncomputable def Jh:V->V->Bool
 | .rp,.rp=>sX| .rp,.int _=>sX| .int _,.rp=>sX| .rp,.bl _=>sX| .bl _,.rp=>sX| .rp,.str _=>sX| .str _,.rp=>sX
 | .int _,.int _=>sX| .bl _,.bl _=>sX| .str _,.str _=>sX| .wX _,.wX _=>sX
 | .int _,.str _=>sX| .str _,.int _=>sX| .bl _,.str _=>sX| .str _,.bl _=>sX
 |_,_=>sJ
def rEq:R2:=λx sZ H Q=>Jh x sZ=sX/\Q (.bl<|decide (x=sZ)) H
def rNe:R2:=λx sZ H Q=>Jh x sZ=sX/\Q (.bl<|!decide (x=sZ)) H
def Lb{i:Int}:decide (V.int i=V.int j)=(i==j):=by
 rw[dX];simp
def JY{i:Bool}:decide (V.bl i=V.bl j)=(i==j):=by
 rw[dX];simp
def La{i:Str}:decide (V.str i=V.str j)=(i==j):=by
 rw[dX];simp
def K9{i:Array UInt8}:decide (V.wX i=V.wX j)=(i.toList==j.toList):=by
 rw[dX];cases i;cases j;simp
section
variable {a b c:Expr} {tc:TE}
def ye{Q:VK}{k:Bool}(I:Inv X pins σ H s)(q:Q (.bl k) H)(e:k=k'):EP X pins σ Q (.bool k') s:=by
 subst e;show⟨.bl k,H,I,Y,q⟩
theorem Jz:sf X (bH .Eq) rEq:=by
 intro pins s σ H x sZ v u Q I rx ry h;obtain⟨hs,q⟩:=h;cases x with
 |rp=>
  cases rx;cases sZ with
  |rp=>cases ry;show PySem.EqNone.eq_none_none (ye I q (by simp))
  |bl j=>cases ry;show PySem.EqNone.eq_none_bool (ye I q (by simp))
  |int j=>obtain⟨t',rfl⟩:=ry;show PySem.EqNone.eq_none_int (ye I q (by simp))
  |str j=>obtain⟨t',rfl⟩:=ry;show PySem.EqNone.eq_none_str (ye I q (by simp))
  |_=>show absurd (show sJ=sX from hs) aD
 |bl i=>
  cases rx;cases sZ with
  |rp=>cases ry;show PySem.EqNone.eq_bool_none (ye I q (by simp))
  |bl j=>cases ry;show eq_bool (ye I q JY)
  |str j=>obtain⟨t',rfl⟩:=ry;show PySem.EqMixed.eq_bool_str (ye I q (by simp))
  |_=>show absurd (show sJ=sX from hs) aD
 |int i=>
  obtain⟨t,rfl⟩:=rx;cases sZ with
  |rp=>cases ry;show PySem.EqNone.eq_int_none (ye I q (by simp))
  |int j=>obtain⟨t',rfl⟩:=ry;show eq_int (ye I q Lb)
  |str j=>obtain⟨t',rfl⟩:=ry;show PySem.EqMixed.eq_int_str (ye I q (by simp))
  |_=>show absurd (show sJ=sX from hs) aD
 |str i=>
  obtain⟨t,rfl⟩:=rx;cases sZ with
  |rp=>cases ry;show PySem.EqNone.eq_str_none (ye I q (by simp))
  |bl j=>cases ry;show PySem.EqMixed.eq_str_bool (ye I q (by simp))
  |int j=>obtain⟨t',rfl⟩:=ry;show PySem.EqMixed.eq_str_int (ye I q (by simp))
  |str j=>obtain⟨t',rfl⟩:=ry;show eq_str (ye I q La)
  |_=>show absurd (show sJ=sX from hs) aD
 |wX i=>
  obtain⟨t,rfl⟩:=rx;cases sZ with
  |wX j=>obtain⟨t',rfl⟩:=ry;show W.eq_bytes (ye I q K9)
  |_=>show absurd (show sJ=sX from hs) aD
 |_=>cases sZ<;> show absurd (show sJ=sX from hs) aD
theorem Jy:sf X (bH .NotEq) rNe:=by
 intro pins s σ H x sZ v u Q I rx ry h;obtain⟨hs,q⟩:=h;cases x with
 |rp=>
  cases rx;cases sZ with
  |rp=>cases ry;show PySem.EqNone.ne_none_none (ye I q (by simp))
  |bl j=>cases ry;show PySem.EqNone.ne_none_bool (ye I q (by simp))
  |int j=>obtain⟨t',rfl⟩:=ry;show PySem.EqNone.ne_none_int (ye I q (by simp))
  |str j=>obtain⟨t',rfl⟩:=ry;show PySem.EqNone.ne_none_str (ye I q (by simp))
  |_=>show absurd (show sJ=sX from hs) aD
 |bl i=>
  cases rx;cases sZ with
  |rp=>cases ry;show PySem.EqNone.ne_bool_none (ye I q (by simp))
  |bl j=>cases ry;show ne_bool (ye I q<|congrArg not JY)
  |str j=>obtain⟨t',rfl⟩:=ry;show PySem.EqMixed.ne_bool_str (ye I q (by simp))
  |_=>show absurd (show sJ=sX from hs) aD
 |int i=>
  obtain⟨t,rfl⟩:=rx;cases sZ with
  |rp=>cases ry;show PySem.EqNone.ne_int_none (ye I q (by simp))
  |int j=>obtain⟨t',rfl⟩:=ry;show ne_int (ye I q<|congrArg not Lb)
  |str j=>obtain⟨t',rfl⟩:=ry;show PySem.EqMixed.ne_int_str (ye I q (by simp))
  |_=>show absurd (show sJ=sX from hs) aD
 |str i=>
  obtain⟨t,rfl⟩:=rx;cases sZ with
  |rp=>cases ry;show PySem.EqNone.ne_str_none (ye I q (by simp))
  |bl j=>cases ry;show PySem.EqMixed.ne_str_bool (ye I q (by simp))
  |int j=>obtain⟨t',rfl⟩:=ry;show PySem.EqMixed.ne_str_int (ye I q (by simp))
  |str j=>obtain⟨t',rfl⟩:=ry;show ne_str (ye I q<|congrArg not La)
  |_=>show absurd (show sJ=sX from hs) aD
 |wX i=>
  obtain⟨t,rfl⟩:=rx;cases sZ with
  |wX j=>obtain⟨t',rfl⟩:=ry;show W.ne_bytes (ye I q<|congrArg not K9)
  |_=>show absurd (show sJ=sX from hs) aD
 |_=>cases sZ<;> show absurd (show sJ=sX from hs) aD
def PV:sf X (bH .Lt) (AA λi j=>.bl<|decide (i<j)):=Dy λ_ _ _ _ _ _ _ q=>lt_int q
def PU:sf X (bH .LtE) (AA λi j=>.bl<|decide (i<=j)):=Dy λ_ _ _ _ _ _ _ q=>le_int q
def PR:sf X (bH .Gt) (AA λi j=>.bl<|decide (j<i)):=Dy λ_ _ _ _ _ _ _ q=>gt_int q
def PQ:sf X (bH .GtE) (AA λi j=>.bl<|decide (j<=i)):=Dy λ_ _ _ _ _ _ _ q=>ge_int q
def Wa:sf X (bH .In) (λx sZ H Q=>∃i j,x= .str i/\sZ= .str j/\Q (.bl<|!(dC j i 0 j.length 1).isEmpty) H):=by
 intro pins s σ H x sZ v u Q I rx ry h;obtain⟨i,j,rfl,rfl,q⟩:=h;obtain⟨t,rfl⟩:=rx;obtain⟨t',rfl⟩:=ry;show in_str (ye I q Y)
def xou(b:Expr)(h:autoParam (op≠.In) q9)(h2:autoParam (op≠.NotIn) q9):dO op b=sJ:=by
 have e1:(op==CmpOp.In)=sJ:=by cases op<;> first|rfl|show absurd rfl h
 have e2:(op==CmpOp.NotIn)=sJ:=by cases op<;> first|rfl|show absurd rfl h2
 cases b<;> simp[dO,e1,e2]
def Ut(ho:sf X (bH op) r)(ha:PE X a ta)(hb:PE X b tb)(hm:dO op b=sJ):PE X (.Compare a [op] [b] pos) (C6 r ta tb):=by
 intro pins s σ H Q I h;show wpAny_Compare1 (E2 ha hb I h λv u s2 x sZ H2 I2 rx ry q=>ho pins s2 σ H2 x sZ v u Q I2 rx ry q) hm
def CH:(aK:Nat)<2^63:=by rw[ak];decide
def Hi:sf X (dE .Add) (λx sZ H Q=>∃i j,x= .str i/\sZ= .str j/\i.length+j.length<=aK/\Q (.str<|i++j) H):=by
 intro pins s σ H x sZ v u Q I rx ry h;obtain⟨i,j,rfl,rfl,hz,q⟩:=h;obtain⟨t,rfl⟩:=rx;obtain⟨t',rfl⟩:=ry;show add_str (λt' tk=>⟨.str<|i++j,H,I.tok _,⟨_,Y⟩,q⟩) hz
theorem vals1{x:V}(r:Vals [x] us):∃u,us=[u]/\RelV x u:=by
 cases r with
 |cons r1 r2=>cases r2;show⟨_,Y,r1⟩
theorem vals2{x:V}(r:Vals [x,sZ] us):∃u w',us=[u,w']/\RelV x u/\RelV sZ w':=by
 cases r with
 |cons r1 r2=>
  cases r2 with
  |cons r3 r4=>cases r4;show⟨_,_,Y,r1,r3⟩
def UL:yH X (.builtin "abs") (λxs H Q=>∃i,xs=[.int i]/\Q (.int<|if i<0 then -i else i) H):=by
 intro pins s σ H xs us Q I r h;obtain⟨i,rfl,q⟩:=h;obtain⟨u,rfl,t,rfl⟩:=vals1 r;show call_abs_int λu tk=>⟨.int<|if i<0 then -i else i,H,I.tok _,⟨_,Y⟩,q⟩
def V9(hc:X.calm=sX):yH X (.builtin "max") (λxs H Q=>∃i j,xs=[.int i,.int j]/\Q (.int<|if j > i then j else i) H):=by
 intro pins s σ H xs us Q I r h;obtain⟨i,j,rfl,q⟩:=h;obtain⟨u,w',rfl,⟨t,rfl⟩,⟨t',rfl⟩⟩:=vals2 r;show max_two_ints (I.ok.hd hc) λh' tk k=>⟨_,H,I.kept k,?_,q⟩
 by_cases hj:j > i
 ·rw[if_pos hj,if_pos hj];show⟨_,Y⟩
 ·rw[if_neg hj,if_neg hj];show⟨_,Y⟩
def V8(hc:X.calm=sX):yH X (.builtin "min") (λxs H Q=>∃i j,xs=[.int i,.int j]/\Q (.int<|if j<i then j else i) H):=by
 intro pins s σ H xs us Q I r h;obtain⟨i,j,rfl,q⟩:=h;obtain⟨u,w',rfl,⟨t,rfl⟩,⟨t',rfl⟩⟩:=vals2 r;show min_two_ints (I.ok.hd hc) λh' tk k=>⟨_,H,I.kept k,?_,q⟩
 by_cases hj:j<i
 ·rw[if_pos hj,if_pos hj];show⟨_,Y⟩
 ·rw[if_neg hj,if_neg hj];show⟨_,Y⟩
def MI:yH X (.type "int") (λxs H Q=>(∃i,xs=[.int i]/\Q (.int i) H)\/∃k,xs=[.bl k]/\Q (.int<|if k then 1 else 0) H):=by
 intro pins s σ H xs us Q I r h;rcases h with⟨i,rfl,q⟩|⟨k,rfl,q⟩
 ·obtain⟨u,rfl,t,rfl⟩:=vals1 r;show call_int_int ⟨.int i,H,I,⟨_,Y⟩,q⟩
 ·obtain⟨u,rfl,r1⟩:=vals1 r;cases r1;show call_int_bool ⟨.int<|if k then 1 else 0,H,I.tok _,⟨_,Y⟩,q⟩
end
structure Bc(h:Heap)(x dx C:sK)(mA:Str->Option sV):Prop where
 obj:h.get? x=E (gQ C dx)
 ns:h.Ns1 dx mA
 ne:dx≠x
def V7(n:h.Ns1 dx mA):∃od,h.get? dx=E od/\∀name,W.lookIn name od=E (mA name):=by
 obtain⟨o,es,ep,ho,hd,hk,_,hm⟩:=n;show⟨o,ho,λname=>?_⟩;have e:=hm name;unfold nsFind findBy at e;rw[<-nR]at e;unfold W.lookIn;rw[hd];dsimp only
 split
 ·rename_i sZ q;rw[q]at e;show congrArg E e
 ·rename_i q;rw[q]at e;have a:es.toList.any (·.refKey)=sJ:=by
   rw[List.any_eq_false];intro sZ hy;obtain⟨z,t,oK⟩:=hk sZ<|mS.mp hy;simp[DictEntry.refKey,oK]
  have a':¬es.toList.any (·.refKey)=sX:=by rw[a];show aD
  rw[if_neg a'];show congrArg E e
def Bc.look{x:sK}(I:Bc h x dx C mA):∃od,W.InstAt h x (gQ C dx) C (E od)/\∀name,W.lookIn name od=E (mA name):=
 let⟨od,ho,hl⟩:=V7 I.ns
 ⟨od,⟨I.obj,Y,Y,ho⟩,hl⟩
section
variable {prog:a9} {x:sK} {name:Str} {v:sV}
def get_map(X:K.In s.heap)(I:Bc s.heap x dx C mA)(hg:mT K C name=sX)(hh:kE K C=sX)
  (ha:fB K (.ref C) name=E y) (hv:mA name=E v) (oK:W.handedIn v=sX) (h:Q v {s with toks:=s.toks+1}):
  wpAny #[1] A (getAttr (.ref x) name expr) Q sQ s:=by
 obtain⟨od,J,hl⟩:=I.look;show W.get_value X J (ny hg).1 (W.findObj_own hh ha Y (by rw[hl,hv])) oK h
def UK{Q:sV×List sV->ag->Prop}(X:K.In s.heap)(I:Bc s.heap x dx C mA)(hg:mT K C name=sX)
  (hf:fB K (.ref C) name=E (E<|.ref f)) (ht:W.isFn K (.ref f)=sX) (hv:mA name=y) (h:Q (.ref f,[.ref x]) s):
  wpAny #[1] A (iV (.ref x) name pl) Q sQ s:=by
 obtain⟨od,J,hl⟩:=I.look;show W.method_fn X J (ny hg).1 (ny hg).2 hf (beq_iff_eq.mp ht) (by change(W.lookIn name od).map (·.isSome)=E sJ;rw[hl,hv];rfl) h
def Us{Q:Unit->ag->Prop}(X:K.In s.heap)(I:Bc s.heap x dx C mA)
  (hs:fB K (.ref C) "__setattr__"=E (E<|.builtin "object.__setattr__")) (hp:W.plainOver K C=sX) (ht:W.takerIn K C name=E y) (hh:kE K C=sX)
  (hw:PySem.Within mA ns) (hsz:ns.length<=aK)
  (h:∀h',Bc h' x dx C (λsZ=>if sZ=name then E v else mA sZ)->i7 dx s.heap h'->Q () {s with heap:=h',toks:=s.toks+2}):
  wpAny #[1] A (setAttr (.ref x) name v) Q sQ s:=by
 obtain⟨od,J,hl⟩:=I.look;show W.set_plain X J hs<|W.osa_open (s:={s with toks:=s.toks+1}) (r:=y) X J hp ht λb=>?_;obtain⟨cd,hc,oQ⟩:=W.any_some hh;have hx:s.heap.get? x=E ⟨.ref C,E dx,.plain,#[]⟩:=I.obj;show ae (ar<|ae (ae<|mE hx (ae<|W.Looks.here (s:={s with toks:=s.toks+1}) (nz X hc) ?_)));rw[oQ];show ar (a:=E dx)<|ae (ar<|ae ?_);show wpAny_nsSet1 (s:={s with toks:=s.toks+1}) I.ns λh' oN oK=>?_;obtain⟨oD,oS,oU,oO,oP,oR⟩:=oN.count<|PySem.Within.cons name v hw;show ae<|wpAny_lookBehind oO (by rw[oP];show pastItsLine_dict<|aQ oR (by rw[aT];lia)) ?_;show ar (h _ ⟨(oK.2 _<|aW I.ne).trans I.obj,oN,I.ne⟩ oK)
def UJ{R:gT->ag->Prop}{vs:List sV}(X:K.In s.heap)(hm:W.makesIn K C=sX)
  (hi:fB K (.ref C) "__init__"=E (E<|.ref f)) (hf:W.typeIn K (.ref f)=E (.type "function"))
  (h:cS #[1] (A.under<|.builtin "type.__call__" ⟨.ref C::vs,kw⟩) (.call (.ref f) ⟨.ref (s.heap.objs.size+1)::vs,kw⟩) (W.InitBack (s.heap.objs.size+1) R)
   {s with heap:=(s.heap.push fq).push (gQ C s.heap.objs.size)}):
  cS #[1] A (.call (.ref C) ⟨vs,kw⟩) R s:=by
 obtain⟨hh,g,d,t,os⟩:=s;show W.make_core (W.makes_of X hm) (W.looks_findIn X hi) (λself=>W.bind_fn X self hf) (.inl Y) h
end
noncomputable def vw(f:Str)(v:V):List (Str×V)->List (Str×V)
 |[]=>[(f,v)]
 |(g,x)::r=>if g=f then(g,v)::r else(g,x)::vw f v r
theorem NF(f g:Str)(v:V):∀fs:List (Str×V),(vw f v fs).lookup g=if g=f then E v else fs.lookup g
 |[]=>by
  change gd g [(f,v)]=_
  by_cases h:g=f
  ·have hb:(g==f)=sX:=beq_iff_eq.mpr h;simp only[gd,hb,if_pos h]
  ·have hb:(g==f)=sJ:=beq_eq_false_iff_ne.mpr h;simp only[gd,hb,if_neg h]
 |(k,x)::r=>by
  have ih:=NF f g v r;rw[show vw f v ((k,x)::r)=(if k=f then(k,v)::r else(k,x)::vw f v r)from rfl]
  by_cases hk:k=f
  ·rw[if_pos hk]
   by_cases h:g=k
   ·have hb:(g==k)=sX:=beq_iff_eq.mpr h;simp only[gd,hb,if_pos<|h.trans hk]
   ·have hb:(g==k)=sJ:=beq_eq_false_iff_ne.mpr h;simp only[gd,hb,if_neg (λe:g=f=>h<|e.trans hk.symm)]
  ·rw[if_neg hk]
   by_cases h:g=k
   ·have hb:(g==k)=sX:=beq_iff_eq.mpr h;simp only[gd,hb,if_neg (λe:g=f=>hk<|h.symm.trans e)]
   ·have hb:(g==k)=sJ:=beq_eq_false_iff_ne.mpr h;simp only[gd,hb];show ih
theorem GN(f:Str)(v:V):∀fs:List (Str×V),f∈(vw f v fs).map (·.1)/\∀g,g∈fs.map (·.1)->g∈(vw f v fs).map (·.1)
 |[]=>⟨by simp[vw],λg h=>by simp at h⟩
 |(k,x)::r=>by
  obtain⟨i1,i2⟩:=GN f v r;rw[show vw f v ((k,x)::r)=(if k=f then(k,v)::r else(k,x)::vw f v r)from rfl]
  by_cases hk:k=f
  ·rw[if_pos hk];subst hk;show⟨by simp,λg h=>by simpa using h⟩
  ·rw[if_neg hk];show⟨?_,λg h=>?_⟩
   ·rw[ba];show aw _ i1
   ·rw[ba]at h⊢;rcases aB.mp h with e|e
    ·show aB.mpr (.inl e)
    ·show aw _ (i2 g e)
theorem Hh(f:Str)(v:V):∀fs:List (Str×V),(vw f v fs).length<=fs.length+1
 |[]=>by simp[vw]
 |(k,x)::r=>by
  have ih:=Hh f v r;rw[show vw f v ((k,x)::r)=(if k=f then(k,v)::r else(k,x)::vw f v r)from rfl]
  by_cases hk:k=f
  ·rw[if_pos hk,aT,aT];lia
  ·rw[if_neg hk,aT,aT];lia
theorem ja.some_of{o:Option sV}(r:ja (E v) o):∃u,o=E u/\RelV v u:=by
 cases o with
 |none=>show(show False from r).elim
 |some u=>show⟨u,Y,r⟩
theorem ja.none_of{o:Option sV}(r:ja y o):o=y:=by
 cases o with
 |none=>rfl
 |some u=>show(show False from r).elim
theorem V6(r:RelV v u):W.handedIn u=sX:=by
 cases v with
 |rp=>cases (show u=bz from r);rfl
 |bl b=>cases (show u=eK b from r);rfl
 |int i=>obtain⟨t,e⟩:=(show∃t,u=fR i t from r);cases e;rfl
 |str x=>obtain⟨t,e⟩:=(show∃t,u=gx x t from r);cases e;rfl
 |wX b=>obtain⟨t,e⟩:=(show∃t,u=Value.bytes b t from r);cases e;rfl
 |A2 b=>obtain⟨t,e⟩:=(show∃t,u=oo b t from r);cases e;rfl
 |ref a=>cases (show u=aS a from r);rfl
 |ty n=>cases (show u=cL n from r);rfl
section
variable {fs fs':List (Str×V)}
def Eb(rh:sD P w H h)(e:H a=E (.ins C dx fs)):∃mA,Bc h a dx C mA/\(∀f,ja (fs.lookup f)<|mA f)/\PySem.Within mA (fs.map (·.1))/\fs.length<=1000/\H dx=E (.own a):=by
 obtain⟨d,z,ne,ob,mA,n,r,q⟩:=(show xP P w H h a (.ins C dx fs)from rh a _ e);show⟨mA,⟨ob,n,ne⟩,r,q,z,d⟩
end
structure tX(K:ax)(C:sK):Prop where
 pg:mT K C cy=sX
 hd:kE K C=sX
 po:W.plainOver K C=sX
 sa:fB K (.ref C) "__setattr__"=E (E<|.builtin "object.__setattr__")
def tX.get(c:tX K C)(f:Str):mT K C f=sX:=c.pg
def xY(K:ax)(C:sK)(f:Str):Prop:=fB K (.ref C) f=E y
def xY.C5{f:Str}(n:xY K C f):W.takerIn K C f=E y:=by
 unfold W.takerIn;rw[show fB K (.ref C) f=E y from n];rfl
structure Meth(K:ax)(C:sK)(m:Str)(f:sK):Prop where
 at_:fB K (.ref C) m=E (E<|.ref f)
 fn:W.isFn K (.ref f)=sX
 kp:gU K (.ref f)=sX
section
variable {fs:List (Str×V)} {f:Str}
def XJ{b:Bool}(I:Inv X pins σ H s)(e:H a=E (.ins C dx fs))(c:tX X.K C)(n:xY X.K C f)(l:fs.lookup f=E v)
  (h:∀u s',Inv X pins σ H s'->RelV v u->Q u s'):wpAny #[3] A (getAttr (.ref a) f b) Q sQ s:=by
 obtain⟨mA,O,r,_,_,_⟩:=Eb I.rh e;obtain⟨u,hu,ru⟩:=ja.some_of (v:=v) (o:=mA f) (by rw[<-l];show r f);show get_map I.su O (c.get f) c.hd n hu (V6 ru) (h u _ (I.tok _) ru)
def EK{m:Str}{g:sK}{Q:sV×List sV->ag->Prop}(I:Inv X pins σ H s)(e:H a=E (.ins C dx fs))(c:tX X.K C)(k:Meth X.K C m g)(l:fs.lookup m=y)
  (h:Q (.ref g,[.ref a]) s):wpAny #[3] A (iV (.ref a) m pl) Q sQ s:=by
 obtain⟨mA,O,r,_,_,_⟩:=Eb I.rh e;have hn:mA m=y:=ja.none_of (by rw[<-l];show r m);show UK I.su O (c.get m) k.at_ k.fn hn h
def XI{Q:Unit->ag->Prop}(I:Inv X pins σ H s)(e:H a=E (.ins C dx fs))(c:tX X.K C)(n:xY X.K C f)(hl:fs.length<1000)(ry:RelV sZ u)
  (h:∀s',Inv X pins σ (upd H a (.ins C dx<|vw f sZ fs)) s'->Q () s'):wpAny #[3] A (setAttr (.ref a) f u) Q sQ s:=by
 obtain⟨mA,O,r,wi,_,ho⟩:=Eb I.rh e;have hz:(fs.map (·.1)).length<=aK:=by rw[aa,ak];lia
 show Us I.su O c.sa c.po n.C5 c.hd wi hz λh' O' sb=>h _ ?_;have hd:∃o,h'.get? dx=E o:=let⟨o,_,_,e',_⟩:=O'.ns;⟨o,e'⟩
 show I.write (x:=a) (e:=dx) (by rw[e];show cm) (.inr ho) (λb q hb z=>(sb.2 b hb).trans z) hd ?_;show⟨by rw[xl O.ne];show ho,?_,O.ne,O'.obj,_,O'.ns,λg=>?_,λg hg=>?_⟩
 ·have:=Hh f sZ fs;lia
 ·change ja ((vw f sZ fs).lookup g) (if g=f then E u else mA g);rw[NF]
  by_cases q:g=f
  ·rw[if_pos q,if_pos q];show ry
  ·rw[if_neg q,if_neg q];show r g
 ·by_cases q:g=f
  ·rw[q];show(GN f sZ fs).1
  ·show(GN f sZ fs).2 g (wi g λz=>hg ?_);change(if g=f then E u else mA g)=y;rw[if_neg q];show z
def Inv.made(I:Inv X pins σ H s):Inv X pins σ (upd (upd H s.heap.objs.size (.own<|s.heap.objs.size+1)) (s.heap.objs.size+1)<|.ins C s.heap.objs.size [])
  {s with heap:=(s.heap.push fq).push (gQ C s.heap.objs.size)}:=by
 have e1:(s.heap.push fq).get? s.heap.objs.size=E fq:=aF s.heap rfl;have e2:((s.heap.push fq).push<|gQ C s.heap.objs.size).get? (s.heap.objs.size+1)=E (gQ C s.heap.objs.size):=by
  have:=aF (s.heap.push fq) (o:=gQ C s.heap.objs.size) rfl
  rwa [cT]at this
 have e3:(s.heap.push fq).Ns s.heap.objs.size (λ_=>y):=⟨fq,#[],_,e1,Y,(λe he=>absurd he #[8]),λ_=>Y⟩;have I1:=I.laid (a:=s.heap.objs.size) (o:=.own<|s.heap.objs.size+1) (h':=s.heap.push fq) (t':=s.toks) (λb u q=>af _ q) (ah _) ⟨_,e1⟩;show I1.laid (a:=s.heap.objs.size+1) (o:=.ins C s.heap.objs.size []) (t':=s.toks) (λb u q=>af _ q) (dY<|cT _ _) ?_;have ne:s.heap.objs.size≠s.heap.objs.size+1:=aC<|du _;show⟨by rw[xl ne,xk],aX _,ne,e2,λ_=>y,(n9 e3).at λo q=>af _ q,λ_=>cm,λsZ hy=>absurd Y hy⟩
def Ur{f:Str}(hb:gD e f env (eval e env)=eval e env)
  (h:wpAny #[1] A (eval e env) (λo rj=>wpAny #[1] A (getAttr o f sX) Q sQ rj) sQ s):wpAny #[1] A (eval (.Attribute e f pos) env) Q sQ s:=
 Attribute_any_ h (by rw[arm_eval_Attribute,hb])
end
def Jg(K:ax)(ta:TE)(f:Str):TE:=λσ H Q=>ta σ H λx H1=>tE λa C dx fs v=>tY (x= .ref a) (H1 a=E (.ins C dx fs)) (tX K C) (xY K C f) (fs.lookup f=E v) (Q v H1)
def O4(K:ax)(ta tv:TE)(f:Str):TS:=λD σ H=>tv σ H λsZ H1=>ta σ H1 λx H2=>tS λa C dx fs=>x= .ref a/\H2 a=E (.ins C dx fs)/\tX K C/\xY K C f/\fs.length<1000/\
 D.nx σ (upd H2 a (.ins C dx<|vw f sZ fs))
section
variable {o value:Expr} {f:Str} {pos' Ic:Pos} {tv:TE}
def xv(he:PE X e ta)(hb:gD e f X.env (eval e X.env)=eval e X.env):PE X (.Attribute e f pos) (Jg X.K ta f):=by
 intro pins s σ H Q I h;show Ur hb<|xQ (he pins s σ H _ I h) λu s1 x H1 I1 rx ⟨a,C,dx,fs,v,ex,ea,c,n,l,q⟩=>?_;subst ex;obtain rfl:u=aS a:=rx;show XJ I1 ea c n l λu' s2 I2 ru=>⟨v,H1,I2,ru,q⟩
def yt(ha:PE X o ta)(hv:PE X value tv)(hs:iU value (E<|.Attribute o f pos') pos.line X.env=pure sJ):PS X (.Assign [.Attribute o f pos'] value pos) (O4 X.K ta tv f):=by
 intro pins s σ H D I h;show i5 (xQ (hv pins s σ H _ I h) λu s1 sZ H1 I1 ry q=>xQ (ha pins s1 σ H1 _ I1 q) λov s2 x H2 I2 rx ⟨a,C,dx,fs,ex,ea,c,n,l,q2⟩=>?_) hs;subst ex;obtain rfl:ov=aS a:=rx;show XI I2 ea c n l ry λs3 I3=>⟨σ,_,I3,q2⟩
end
section
variable {c:sV} {b:Bool}
inductive uf(K:ax)(H:Hp):V->sV->Prop where
 |rp:uf K H .rp (.type "NoneType")
 |bl (x:Bool):uf K H (.bl x) (.type "bool")
 |int (i:Int):uf K H (.int i) (.type "int")
 |str (x:Str):uf K H (.str x) (.type "str")
 |A2 (x:UInt64):uf K H (.A2 x) (.type "float")
 |lst {a:sK} {xs:List V} (e:H a=E (.lst xs)):uf K H (.ref a) (.type "list")
 |sC {a:sK} {o:Obj} {xs:List V} (e:H a=E (.sC o<|.lst xs)):uf K H (.ref a) (.type "list")
 |tup {a:sK} {xs:List V} (e:H a=E (.tup xs)):uf K H (.ref a) (.type "tuple")
 |dK {a:sK} {kvs:List (Key×V)} (e:H a=E (.dK kvs)):uf K H (.ref a) (.type "dict")
 |dT {a:sK} {kvs:List (List Key×V)} (e:H a=E (.dT kvs)):uf K H (.ref a) (.type "dict")
 |ins {a C dx:sK} {fs:List (Str×V)} (e:H a=E (.ins C dx fs)) (cl:tX K C) (ha:fB K (.ref C) "__class__"=E (E<|.builtin "object.__class__"))
   (hn:W.specialIn K (.builtin "object.__class__") "__get__"=E (E<|.builtin "getset_descriptor.__get__")) (htk:W.takesIn K (.builtin "object.__class__")=E sX)
   (hm:W.mroIn K C (.type "object")=E sX):uf K H (.ref a) (.ref C)
theorem V5{x:V}{t:sV}(I:Inv X pins σ H s)(rx:RelV x u)(ty:uf X.K H x t)(e:lH X.K t c=E b)(h:∀tk,Q (.bool b) {s with toks:=tk}):
  wpAny #[3] A (call (.builtin "isinstance") [u,c]) Q sQ s:=by
 cases ty with
 |rp=>cases (show u=bz from rx);show fw W.kitx_none I.su cm e (λz=>nomatch z) h
 |bl sZ=>cases (show u=eK sZ from rx);show fw W.kitx_bool I.su cm e (λz=>nomatch z) h
 |int i=>obtain⟨t,q⟩:=(show∃t,u=fR i t from rx);cases q;show fw W.kitx_int I.su cm e (λz=>nomatch z) h
 |str sZ=>obtain⟨t,q⟩:=(show∃t,u=gx sZ t from rx);cases q;show fw W.kitx_str I.su cm e (λz=>nomatch z) h
 |A2 sZ=>obtain⟨t,q⟩:=(show∃t,u=oo sZ t from rx);cases q;show fw W.kitx_float I.su cm e (λz=>nomatch z) h
 | @lst a xs ea=>
  cases (show u=aS a from rx);obtain⟨_,_,n,_,h1⟩:=(show xP X.prog X.w H s.heap a (.lst xs)from I.rh a _ ea);show fw W.kitx_list I.su ⟨_,h1,Y⟩ e (λz=>nomatch z) h
 | @sC a ob xs ea=>
  cases (show u=aS a from rx);obtain⟨_,_,_,n,_,h1⟩:=(show xP X.prog X.w H s.heap a (.sC ob<|.lst xs)from I.rh a _ ea);show fw W.kitx_list I.su ⟨_,h1,Y⟩ e (λz=>nomatch z) h
 | @tup a xs ea=>
  cases (show u=aS a from rx);obtain⟨_,_,_,p⟩:=(show xP X.prog X.w H s.heap a (.tup xs)from I.rh a _ ea);obtain⟨o,h1,h2,_⟩:=p;show fw W.kitx_tuple I.su ⟨o,h1,h2⟩ e (λz=>nomatch z) h
 | @dK a kvs ea=>
  cases (show u=aS a from rx);obtain⟨_,_,vs,_,p⟩:=(show xP X.prog X.w H s.heap a (.dK kvs)from I.rh a _ ea);obtain⟨o,es,ep,h1,h2,_⟩:=p;show fw W.kitx_dict I.su ⟨o,h1,h2.1⟩ e (λz=>nomatch z) h
 | @dT a kvs ea=>
  cases (show u=aS a from rx);obtain⟨_,_,xs,_,o,es,ep,h1,h2,_⟩:=(show xP X.prog X.w H s.heap a (.dT kvs)from I.rh a _ ea);show fw W.kitx_dict I.su ⟨o,h1,h2.1⟩ e (λz=>nomatch z) h
 | @ins a C dx fs ea cl ha hn oK hm=>
  cases (show u=aS a from rx);obtain⟨mA,O,_⟩:=Eb I.rh ea;obtain⟨od,J,_⟩:=O.look;show fw (W.kitx_own (cl.get _) cl.hd ha hn oK hm) I.su J e (λz=>nomatch z) h
end
structure xR(k:Nat)(A:bx):Prop where
 hd:A.handled=y
 dp:A.depth+3*k+5<recursionLimit
 un:A.units+16*k+200<cLine
def xR.mono{k:Nat}(r:xR k A)(h:j<=k):xR j A:=⟨r.hd,by have:=r.dp;lia,by have:=r.un;lia⟩
def xR.deeper{k:Nat}(r:xR (k+1) A)(env:Env):xR k (A.deeper env):=
 ⟨r.hd,by have:=r.dp;change A.depth+1+3*k+5<_;lia,by have:=r.un;change A.units+3+16*k+200<_;lia⟩
def xR.in1{k:Nat}(r:xR (k+1) A):xR k A.in1:=
 ⟨r.hd,by have:=r.dp;change A.depth+3*k+5<_;lia,by have:=r.un;change A.units+1+16*k+200<_;lia⟩
def XH:(A.under<|.builtin "type.__call__" ⟨.ref C::us,kw⟩).depth=A.depth+1:=by
 first|rfl|simp[nU,Code.weight,Code.isCreation,Code.isGuard,Code.isCaller,Code.frames,nW,guardIds]
def XG:(A.under<|.builtin "type.__call__" ⟨.ref C::us,kw⟩).units=A.units+1:=by
 first|rfl|simp[nU,Code.cUnits,Code.frames,nW]
def xR.make{k:Nat}(r:xR (k+1) A)(C:sK)(us:List sV)(kw:List (Str×sV)):xR k (A.under<|.builtin "type.__call__" ⟨.ref C::us,kw⟩):=
 ⟨r.hd,by have:=r.dp;rw[XH];lia,by have:=r.un;rw[XG];lia⟩
def xR.depth{k:Nat}(r:xR k A):A.depth<recursionLimit:=by have:=r.dp;lia
def xR.units{k:Nat}(r:xR k A):A.units+64<cLine:=by have:=r.un;lia
def xR.wA{k:Nat}(r:xR k A):A.units<cLine:=by have:=r.un;lia
def vx:TA:=λ_ H Q=>Q [] H
def Cz(ta:TE)(tr:TA):TA:=λσ H Q=>ta σ H λx H1=>tr σ H1 λxs H2=>Q (x::xs) H2
def xb:PA X [] vx:=λ_ _ _ _ H Q I h=>iw ⟨[],H,I,.nil,h⟩
def xa(ha:PE X e te)(hr:PA X es t)(hs:autoParam #[7] rJ):PA X (e::es) (Cz te t):=by
 intro pos pins s σ H Q I h;rw[hs];change wpAny _ _ (spliced<|(sJ,eval e X.env)::bY pos (aM es X.env)) _ _ s;show gW<|xQ (ha pins s σ H _ I h) λu s1 x H1 I1 r1 q1=>?_;show zS (hr pos pins s1 σ H1 _ I1 q1) λus s2 xs H2 I2 r2 q2=>⟨x::xs,H2,I2,.cons r1 r2,q2⟩
def O3(t:TA):TE:=λσ H Q=>t σ H λxs H1=>xs.length<=aK/\∀p,H1 p=y->Q (.ref p) (upd H1 p<|.tup xs)
def O2(t:TA):TE:=λσ H Q=>t σ H λxs H1=>xs.length<=aK/\∀p,H1 p=y->Q (.ref p) (upd H1 p<|.lst xs)
def zp(h:PA X es t):PE X (.Tuple es x1 pos) (O3 t):=by
 intro pins s σ H Q I hq;show wpAny_Tuple_spliced<|zS (h pos pins s σ H _ I hq) λus s1 xs H1 I1 r ⟨z,q⟩=>⟨by rw[<-r.length];show z,?_⟩;have hf:H1 s1.heap.objs.size=y:=I1.rh.fresh<|ah _;show⟨.ref s1.heap.objs.size,upd H1 s1.heap.objs.size<|.tup xs,I1.laid (t':=s1.toks) (λb u e=>af _ e) (ah _) ?_,Y,q _ hf⟩;show⟨z,us,r,⟨_,aF _ Y,Y,_,Y⟩⟩
def yf(h:PA X es t):PE X (.List es pos) (O2 t):=by
 intro pins s σ H Q I hq;show wpAny_List_spliced<|zS (h pos pins s σ H _ I hq) λus s1 xs H1 I1 r ⟨z,q⟩=>⟨by rw[<-r.length];show z,?_⟩;have hf:H1 s1.heap.objs.size=y:=I1.rh.fresh<|ah _;show⟨.ref s1.heap.objs.size,upd H1 s1.heap.objs.size<|.lst xs,I1.laid (t':=s1.toks) (λb u e=>af _ e) (ah _) ?_,Y,q _ hf⟩;show⟨z,us,0,r,aF _ Y⟩
abbrev Sp:=List V->Hp->VK->XK->Prop
abbrev wY:=List Env->Hp->ag->XK->sV->ag->Prop
structure x9(P:a9)(w:World)(K:ax)(mg:Str->Option sV)(base:Heap)(A:bx)(outer:List Env)(s:ag)(H:Hp):Prop where
 frames:A.frames=E outer
 mod:Mod K mg base
 bs:∀b o,base.get? b=E o->s.heap.get? b=E o/\H b=y
 wK:base.objs.size<=s.heap.objs.size
 sH:s.heap.FunFrames base outer
 wW:∀b∈tw outer,H b=y
 rh:sD P w H s.heap
 bare:gr s.gens
inductive CE(outer:List Env)(P:a9)(w:World)(H:Hp)(s:ag)(Q:VK)(u:sV)(s':ag):Prop
 |intro(v:V) (H':Hp) (o:s'.os=s.os) (b:gr s'.gens) (un:Un (tw outer) [] H H' s.heap s'.heap) (h:sD P w H' s'.heap) (r:RelV v u) (q:Q v H'):CE outer P w H s Q u s'
def CR(CX:wY)(outer:List Env)(P:a9)(w:World)(H:Hp)(s:ag)(Q:VK)(sQ:XK)(r:gT)(s':ag):Prop:=
 match r with
 | .ok (.ret u)=>CE outer P w H s Q u s'
 | .ok _=>False
 | .error e=>CX outer H s sQ e s'
structure yA(P:a9)(w:World)(K:ax)(mg:Str->Option sV)(base:Heap)(CX:wY)(k:Nat)(f:sK)(fd:ay)(ps:List Str)(sp:Sp):Prop where
 len:∀vs H Q sQ,sp vs H Q sQ->vs.length=ps.length
 run:∀(A:bx) (outer:List Env) (s:ag) (H:Hp) (args:Args) (us:List sV) (vs:List V) (Q:VK) (sQ:XK),xR k A->x9 P w K mg base A outer s H->mF s fd args (ps.zip us)->Vals vs us->sp vs H Q sQ->
  cS (model P w) A (.call (.ref f) args) (CR CX outer P w H s Q sQ) s
def x9.make{base:Heap}(e:x9 P w K mg base A outer s H)(C:sK)(us:List sV)(kw:List (Str×sV)):
  x9 P w K mg base (A.under<|.builtin "type.__call__" ⟨.ref C::us,kw⟩) outer s H:=⟨by first|show e.frames|(simpa [nU,Code.envs,nW,pushEnvs]using e.frames),e.mod,e.bs,e.wK,e.sH,e.wW,e.rh,e.bare⟩
def Inv.wI(I:Inv X pins σ H s):x9 X.prog X.w X.K X.mg X.base X.A X.stack s H:=
 ⟨I.ok.frames,I.ok.mod,I.bs,aQ I.ok.wK I.sz,I.stack,I.tO,I.rh,I.bare⟩
def Inv.after{Q:VK}(I:Inv X pins σ H s)(h:CE X.stack X.prog X.w H s Q u s'):EP X pins σ Q u s':=by
 obtain⟨v,H',os,bare,un,rh,r,q⟩:=h;obtain⟨hh,g,d,t,oK⟩:=s';obtain rfl:oK=s.os:=os;show⟨v,H',I.call (h':=hh) (g':=g) (d':=d) (t':=t) (ch:=[]) un rh bare λb z=>absurd z #[8],r,q⟩
def Bj(sp:Sp)(dvs:List V)(sQ:XK)(t:TA):TE:=λσ H Q=>t σ H λvs H1=>sp (vs++dvs) H1 Q sQ
def zl(C:sK)(m:Str)(sp:Sp)(dvs:List V)(sQ:XK)(ta:TE)(t:TA):TE:=λσ H Q=>ta σ H λx H1=>tK λa dx fs=>sU (x= .ref a) (H1 a=E (.ins C dx fs)) (fs.lookup m=y) (t σ H1 λvs H2=>sp (x::(vs++dvs)) H2 Q sQ)
def Jx(C:sK)(sp:Sp)(dvs:List V)(sQ:XK)(t:TA):TE:=λσ H Q=>t σ H λvs H1=>∀x dx,H1 x=y->H1 dx=y->dx≠x->
 sp (.ref x::(vs++dvs)) (upd (upd H1 dx<|.own x) x<|.ins C dx []) (λv H2=>v= .rp/\Q (.ref x) H2) sQ
def Binds(K:ax)(fd:ay)(ps:List Str)(ds:List sV):Prop:=
 ∀(s:ag) (us:List sV),K.In s.heap->(us++ds).length=ps.length->mF s fd ⟨us,[]⟩ (ps.zip<|us++ds)
def Binds.all(h:∀us:List sV,us.length=ps.length->ko fd ⟨us,[]⟩=pure (ps.zip us)):Binds K fd ps []:=λs us _ hl=>by
 rw[df]at hl⊢;show .of_eq (h us hl)
def Passes(CX:wY)(X:Cx)(sQ:XK):Prop:=∀(pins:List (sK×Obj)) (σ:St) (H:Hp) (s:ag) (e:sV) (s':ag),Inv X pins σ H s->CX X.stack H s sQ e s'->X.xe e s'
section
variable {k:Nat} {dvs:List V} {ds:List sV} {sQ:XK} {m:Str} {apos:Pos} {o:Expr}
theorem DZ{Q:VK}(F:yA X.prog X.w X.K X.mg X.base CX k f fd ps sp)(hr:xR k X.A)(hb:Binds X.K fd ps ds)(hd:Vals dvs ds)(hx:Passes CX X sQ)
  (I:Inv X pins σ H s) (r:Vals vs us) (h:sp (vs++dvs) H Q sQ):wpAny #[3] X.A (call (.ref f) us) (EP X pins σ Q) X.xe s:=by
 have r2:Vals (vs++dvs) (us++ds):=r.append hd;have hl:(us++ds).length=ps.length:=by rw[<-r2.length];show F.len _ _ _ _ h
 show fV<|dI (F.run X.A X.stack s H ⟨us,[]⟩ (us++ds) (vs++dvs) Q sQ hr I.wI (hb s us I.su hl) r2 h) λr s' hq=>?_;cases r with
 |error e=>show hx pins σ H s e s' I hq
 |ok fl=>
  cases fl with
  |ret u=>show I.after hq
  |next=>show aV hq
  |brk=>show aV hq
  |cont=>show aV hq
def K8(F:yA X.prog X.w X.K X.mg X.base CX k f fd ps sp)(hr:xR k X.A)(hg:Gl X x)(hm:X.mg x=E (.ref f))(hk:gU X.K (.ref f)=sX)(hb:Binds X.K fd ps ds)(hd:Vals dvs ds)(hx:Passes CX X sQ)
  (ha:PA X (e::es) t) (oN:autoParam #[12] q9) (he:autoParam #[7] rJ) (oK:autoParam #[17] rJ):
  PE X (.Call (.Name x p) (e::es) [] pos) (Bj sp dvs sQ t):=by
 intro pins s σ H Q I h;show bL<|vQ I hg hm ?_ oN;show gX (h₀:=X.base) I.ok.mod.w5 hk (zS #[16] λus s1 vs H1 I1 r q=>⟨I1.su,?_⟩) he oK;show DZ F hr hb hd hx I1 r q
def ym(he:PE X o ta)(c:tX X.K C)(hm:Meth X.K C m f)(F:yA X.prog X.w X.K X.mg X.base CX k f fd ps sp)(hr:xR k X.A)(hb:Binds X.K fd ps ds)(hd:Vals dvs ds)(hx:Passes CX X sQ)(ha:PA X (e::es) t)
  (oK:autoParam #[7] rJ) (oN:autoParam #[17] rJ)
  (ht:autoParam (eval (.Call (.Attribute o m apos) (e::es) [] pos) X.env=(do
   let ov <-eval o X.env
   lC apos.atName
   let(f,first) <-fA [ov] (iV ov m pl)
   iI pos f first (bY pos (aM (e::es) X.env)) (ku pos (gG [] X.env)))) rJ):
  PE X (.Call (.Attribute o m apos) (e::es) [] pos) (zl C m sp dvs sQ ta t):=by
 intro pins s σ H Q I h;show gJ (pl:=pl) (xQ (he pins s σ H _ I h) λu s1 x H1 I1 rx ⟨a,dx,fs,ex,ea,l,q⟩=>?_) ht;subst ex;obtain rfl:u=aS a:=rx;show EK I1 ea c hm l ?_;show gX (first:=[.ref a]) (h₀:=X.base) I.ok.mod.w5 hm.kp (zS (ha pos pins s1 σ H1 _ I1 q) λus s2 vs H2 I2 r q2=>⟨I2.su,?_⟩) oK oN;show DZ (us:=.ref a::us) (vs:=.ref a::vs) F hr hb hd hx I2 (.cons Y r) q2
def xJ(he:PE X o ta)(c:tX X.K C)(hm:Meth X.K C m f)(F:yA X.prog X.w X.K X.mg X.base CX k f fd ps sp)(hr:xR k X.A)(hb:Binds X.K fd ps ds)(hd:Vals dvs ds)(hx:Passes CX X sQ)
  (ht:autoParam (eval (.Call (.Attribute o m apos) [] [] pos) X.env=(do
   let ov <-eval o X.env
   lC apos.atName
   let(f,first) <-fA [ov] (iV ov m pl)
   iI pos f first (bY pos (aM [] X.env)) (ku pos (gG [] X.env)))) rJ):
  PE X (.Call (.Attribute o m apos) [] [] pos) (zl C m sp dvs sQ ta vx):=by
 intro pins s σ H Q I h;show gJ (pl:=pl) (xQ (he pins s σ H _ I h) λu s1 x H1 I1 rx ⟨a,dx,fs,ex,ea,l,q⟩=>?_) ht;subst ex;obtain rfl:u=aS a:=rx;show EK I1 ea c hm l ?_;show nB (first:=[.ref a]) I1.su hm.kp (DZ (us:=[.ref a]) (vs:=[.ref a]) F hr hb hd hx I1 (.cons Y .nil) q)
structure Mk(K:ax)(C f:sK):Prop where
 makes:W.makesIn K C=sX
 init:fB K (.ref C) "__init__"=E (E<|.ref f)
 fn:W.isFn K (.ref f)=sX
 kp:gU K (.ref C)=sX
theorem LY{Q:VK}(M:Mk X.K C f)(F:yA X.prog X.w X.K X.mg X.base CX k f fd ps sp)(hr:xR (k+1) X.A)(hb:Binds X.K fd ps ds)(hd:Vals dvs ds)
  (hx:Passes CX X sQ) (I:Inv X pins σ H s) (r:Vals vs us)
  (h:∀x dx,H x=y->H dx=y->dx≠x->sp (.ref x::(vs++dvs)) (upd (upd H dx<|.own x) x<|.ins C dx []) (λv H2=>v= .rp/\Q (.ref x) H2) sQ):
  wpAny #[3] X.A (call (.ref C) us) (EP X pins σ Q) X.xe s:=by
 have hq:=h (s.heap.objs.size+1) s.heap.objs.size (I.rh.fresh<|cU _) (I.rh.fresh<|ah _) (aC<|du _);have I2:=Inv.made (C:=C) I;have r2:Vals (V.ref (s.heap.objs.size+1)::(vs++dvs)) (aS (s.heap.objs.size+1)::(us++ds)):=.cons rfl<|r.append hd;have hl:(aS (s.heap.objs.size+1)::us++ds).length=ps.length:=by
  have e:=r2.length;rw[F.len _ _ _ _ hq]at e;show e.symm
 show fV (UJ (f:=f) I.su M.makes M.init (beq_iff_eq.mp M.fn) (dI (F.run _ X.stack _ _ ⟨aS (s.heap.objs.size+1)::us,[]⟩ (aS (s.heap.objs.size+1)::(us++ds)) _ _ sQ (hr.make C us [])
  (I2.wI.make C us []) (hb _ (aS (s.heap.objs.size+1)::us) I2.su hl) r2 hq) λr s' oK=>?_))
 cases r with
 |error e=>show hx pins σ _ _ e s' I2 oK
 |ok fl=>
  cases fl with
  |ret u=>
   obtain⟨v,H',I3,rv,ev,q3⟩:=I2.after oK;subst ev;show⟨rv,⟨V.ref<|s.heap.objs.size+1,H',I3,Y,q3⟩⟩
  |next=>show aV oK
  |brk=>show aV oK
  |cont=>show aV oK
def jD(M:Mk X.K C f)(F:yA X.prog X.w X.K X.mg X.base CX k f fd ps sp)(hr:xR (k+1) X.A)(hg:Gl X x)(hm:X.mg x=E (.ref C))(hb:Binds X.K fd ps ds)(hd:Vals dvs ds)(hx:Passes CX X sQ)
  (ha:PA X (e::es) t) (oN:autoParam #[12] q9) (he:autoParam #[7] rJ) (oK:autoParam #[17] rJ):
  PE X (.Call (.Name x p) (e::es) [] pos) (Jx C sp dvs sQ t):=by
 intro pins s σ H Q I h;show bL<|vQ I hg hm ?_ oN;show gX (h₀:=X.base) I.ok.mod.w5 M.kp (zS #[16] λus s1 vs H1 I1 r q=>⟨I1.su,?_⟩) he oK;show LY M F hr hb hd hx I1 r q
def UI(M:Mk X.K C f)(F:yA X.prog X.w X.K X.mg X.base CX k f fd ps sp)(hr:xR (k+1) X.A)(hg:Gl X x)(hm:X.mg x=E (.ref C))(hb:Binds X.K fd ps ds)(hd:Vals dvs ds)(hx:Passes CX X sQ)
  (oK:autoParam #[12] q9):PE X (.Call (.Name x p) [] [] pos) (Jx C sp dvs sQ vx):=by
 intro pins s σ H Q I h;show bL<|vQ I hg hm ?_ oK;show nB I.su M.kp (LY (us:=[]) M F hr hb hd hx I .nil h)
end
section
variable {k:Nat} {ks:List Str} {sQ:XK} {m:Str} {apos kpos:Pos} {o:Expr} {EO:List Keyword} {tk:TA} {nm:Option Str}
variable {g:List sV->List sV->List sV} {gV:List V->List V->List V}
end
structure yd(N P:List Str)(sc:Scope):Prop where
 kind:sc.kind= .function
 co:sc.isCoroutine=sJ
 gen:sc.isGenerator=sJ
 nd:N.Nodup
 pre:N.take P.length=P
 par:∀x∈P,sc.names.lookup x=E .local\/sc.names.lookup x=E .cell
 BC:∀sZ∈sc.names,sZ.2≠.free
theorem MH{kindOf:Str->Option eE}{x:Str}:∀{binds:List (Str×sV)} {m:Str->Option sV},(∀v,(x,v)∉binds)->bindL kindOf binds m x=m x
 |[],_,_=>rfl
 |(n,v)::r,m,h=>by
  unfold bindL;rw[MH λw hw=>h w<|aw _ hw]
  split
  ·have:x≠n:=by rintro rfl;show h v aJ
   simp[this]
  ·rfl
theorem MG{kindOf:Str->Option eE}{x:Str}:∀{binds:List (Str×sV)} {m:Str->Option sV},(∀v,(x,v)∉binds)->bindC kindOf binds m x=m x
 |[],_,_=>rfl
 |(n,v)::r,m,h=>by
  unfold bindC;rw[MG λw hw=>h w<|aw _ hw]
  split
  ·rfl
  ·have:x≠n:=by rintro rfl;show h v aJ
   simp[this]
theorem MF{kindOf:Str->Option eE}{x:Str}{v:sV}:∀{P:List Str} {vs:List sV} {i:Nat} {m:Str->Option sV},P.Nodup->P[i]? =E x->vs[i]? =E v->kindOf x=E .local->
  bindL kindOf (P.zip vs) m x=E v
 |[],_,_,_,_,h,_,_=>by simp at h
 |_::_,[],_,_,_,_,h,_=>by simp at h
 |p::P,w::vs,0,m,nd,h1,h2,hk=>by
  simp at h1 h2;subst h1;subst h2;change bindL kindOf ((p,w)::P.zip vs) m p=_;unfold bindL;rw[MH λv hv=>(cV.mp nd).1 (dZ hv).1,if_pos hk];simp
 |p::P,w::vs,i+1,m,nd,h1,h2,hk=>by
  change bindL kindOf ((p,w)::P.zip vs) m x=_;unfold bindL;show MF (i:=i) (cV.mp nd).2 (by simpa using h1) (by simpa using h2) hk
theorem ME{kindOf:Str->Option eE}{x:Str}{v:sV}:∀{P:List Str} {vs:List sV} {i:Nat} {m:Str->Option sV},P.Nodup->P[i]? =E x->vs[i]? =E v->kindOf x≠E .local->
  bindC kindOf (P.zip vs) m x=E v
 |[],_,_,_,_,h,_,_=>by simp at h
 |_::_,[],_,_,_,_,h,_=>by simp at h
 |p::P,w::vs,0,m,nd,h1,h2,hk=>by
  simp at h1 h2;subst h1;subst h2;change bindC kindOf ((p,w)::P.zip vs) m p=_;unfold bindC;rw[MG λv hv=>(cV.mp nd).1 (dZ hv).1,if_neg hk];simp
 |p::P,w::vs,i+1,m,nd,h1,h2,hk=>by
  change bindC kindOf ((p,w)::P.zip vs) m x=_;unfold bindC;show ME (i:=i) (cV.mp nd).2 (by simpa using h1) (by simpa using h2) hk
noncomputable def start(N:List Str)(vs:List V):St:=vs.map E++a7 (N.length - vs.length) y
noncomputable def jw(CX:wY)(P:a9)(w:World)(K:ax)(mg:Str->Option sV)(base:Heap)(N:List Str)(qual:Str)(scope:Scope)(f:sK)(cd:sV)(A:bx)(outer:List Env)(s:ag)(H:Hp)(sQ:XK):Cx where
 prog:=P
 w:=w
 K:=K
 mg:=mg
 base:=base
 A:=A.deeper (fC qual scope s.heap.objs.size f cd)
 N:=N
 s₀:=s
 H₀:=H
 env:=fC qual scope s.heap.objs.size f cd
 outer:=outer
 stack:=fC qual scope s.heap.objs.size f cd::outer
 ex:=[]
 calm:=sX
 cp:=λ_=>sX
 fn:=λ_=>sX
 pn:=[]
 xe:=λe s'=>wpAny (model P w) (A.deeper<|fC qual scope s.heap.objs.size f cd) (leaving (fC qual scope s.heap.objs.size f cd) e) (λ_ oK=>CX outer H s sQ e oK) (λe' oK=>CX outer H s sQ e' oK) s'
def LX{sc:Scope}(h:sc.names.lookup x=E .cell):∃c,(l9 n sc.names []).lookup x=E c:=by
 have q:=iJ sc.names n []<|.inl h;show gY.mp q
theorem GL{base:Heap}{sQ:XK}
  (S:yd N ps scope) (hd:A.handled=y) (e0:x9 P w K mg base A outer s H) (hl:vs.length=ps.length) (r:Vals vs us)
  (x:InCallC s s.heap.objs.size (bindL (fC qual scope s.heap.objs.size f cd).kindOf (ps.zip us) λ_=>y) (l9 (s.heap.objs.size+1) scope.names []) (bindC (fC qual scope s.heap.objs.size f cd).kindOf (ps.zip us) λ_=>y) s1):
  Inv (jw CX P w K mg base N qual scope f cd A outer s H sQ) [] (start N vs) H s1:=by
 have oO:ps.length<=N.length:=by have:=congrArg cz S.pre;rw[a8]at this;lia
 obtain⟨h1,tk,rfl,hk⟩:=x.done;have oK:∀b:sK,b∉(jw CX P w K mg base N qual scope f cd A outer s H sQ).ex:=λb z=>absurd (show b∈([]:List sK)from z) #[8];show⟨⟨e0.mod,S.kind,Y,Y,ah _,λsZ z c h1 h2=>?_,λsZ hy=>?_,λsZ c _ h=>?_,λ_=>hd,mU e0.frames,.inr ⟨Y,Y⟩,λb z=>absurd z<|oK b,e0.bs,e0.wK,λb _ _=>oK b,λb z=>absurd z<|oK b,e0.sH,e0.wW,λsZ c _ h=>cR (x.above sZ c<|PySem.mem_of_lookup h),λb hb=>e0.rh.fresh hb⟩,
  rfl,e0.bare,Un.kept hk,⟨_,x.toInCall.ns,λi sZ v h1 h2 h3=>?_⟩,λsZ c h=>⟨_,x.cell sZ c h⟩,e0.rh.fresh (ah _),λsZ c h=>.inl ?_,λp hp=>absurd (show p∈([]:List (sK×Obj))from hp) #[8],e0.rh.kept hk,?_⟩
 ·show name_of_addr x.apart (PySem.mem_of_lookup h1) (PySem.mem_of_lookup h2)
 ·have hy:scope.names.lookup sZ=E .cell\/scope.names.lookup sZ=E .free:=hy;rcases hy with hy|hy
  ·show LX hy
  ·show absurd rfl (S.BC _<|PySem.mem_of_lookup hy)
 ·show cR (x.above sZ c<|PySem.mem_of_lookup h)
 ·have hi:i<vs.length:=by
   unfold start at h2
   by_cases hi:i<vs.length
   ·show hi
   ·rw[bP (by simpa using hi)]at h2;rw[lX]at h2
    split at h2<;> cases h2
  have ha:vs[i]? =E v:=by
   unfold start at h2;rw[bq (by simpa using hi),av]at h2;cases e:vs[i]? with
   |none=>rw[e]at h2;cases h2
   |some a=>rw[e]at h2;cases h2;rfl
  obtain⟨u,hu,rv⟩:=r.get ha;have hp:ps[i]? =E sZ:=by
   rw[<-S.pre,fE #[2]];show h1
  have oN:ps.Nodup:=by rw[<-S.pre];show S.nd.sublist (List.take_sublist _ _)
  show⟨u,rv,?_⟩;rcases S.par sZ (aj hp)with k|k
  ·show .inl ⟨k,MF oN hp hu k⟩
  ·obtain⟨c,e⟩:=LX (n:=s.heap.objs.size+1) k;show .inr ⟨.inl k,c,e,?_⟩;have q:=x.cell sZ c e;rw[ME oN hp hu (by change scope.names.lookup sZ≠_;rw[k];decide)]at q;show q
 ·show e0.rh.fresh (cR (x.above sZ c<|PySem.mem_of_lookup h))
 ·unfold start;change _=N.length;rw[ao,aa,iW];lia
theorem DJ{base:Heap}{k:Nat}{kV:sV}
  {v9:Array (Option sV)} (lk:K.lookup f=E ⟨oc,od,.func<|gZ name qual params body scope dV kV doc pm an cdv ct,v9⟩) (oP:mV K cdv qual=sX) (S:yd N ps scope)
  (len:∀vs H Q sQ,sp vs H Q sQ->vs.length=ps.length)
  (oN:∀(A:bx) (outer:List Env) (s:ag) (H:Hp) (vs:List V) (Q:VK) (sQ:XK),xR k (A.deeper<|fC qual scope s.heap.objs.size f cdv)->sp vs H Q sQ->
   ∃t,sY (jw CX P w K mg base N qual scope f cdv A outer s H sQ) body t/\t {nx:=λ_ H'=>Q .rp H',rt:=Q} (start N vs) H):
  yA P w K mg base CX (k+1) f (gZ name qual params body scope dV kV doc pm an cdv ct) ps sp:=by
 show⟨len,λA outer s H args us vs Q sQ hr e0 hb r oO=>?_⟩;have hl:=len _ _ _ _ oO;have KX:K.In s.heap:=e0.mod.w5.keeps λb o e=>(e0.bs b o e).1;have lim:s.heap.NoLimit:=e0.mod.nolimit.keeps λb o e=>(e0.bs b o e).1;have oK:∀sZ∈ps.zip us,scope.names.lookup sZ.1=E .local\/(scope.names.lookup sZ.1=E .cell/\((l9 (s.heap.objs.size+1) scope.names []).lookup sZ.1).isSome=sX):=λ⟨n,v⟩ hy=>by
  rcases S.par n (dZ hy).1 with q|q
  ·show .inl q
  ·show .inr ⟨q,iJ _ _ _<|.inl q⟩
 show gs hr.depth (KX _ _ lk) rfl S.co S.gen rfl (nX KX oP)<|hb _ _ _ _ ?_;show gE S.kind oK λenv he s1 x=>?_;subst he;show⟨lim.keeps x.toInCall.keep,codeAny_func ?_⟩;obtain⟨t,ht,hq⟩:=oN A outer s H vs Q sQ (hr.deeper _) oO;have I:Inv (jw CX P w K mg base N qual scope f cdv A outer s H sQ) [] (start N vs) H s1:=GL S hr.hd e0 hl r x;show aR (ht [] s1 (start N vs) H _ I hq) (λfl s' hs=>?_) λe s' hs=>hs;have fin:∀{rq:St} {H':Hp} {v:V} {u:sV},Inv (jw CX P w K mg base N qual scope f cdv A outer s H sQ) [] rq H' s'->RelV v u->Q v H'->CE outer P w H s Q u s':=
  λ{rq H' v u} J rv q=>⟨v,H',J.os,J.bare,J.base,J.rh,rv,q⟩
 cases fl with
 |ret u=>
  obtain⟨v,rq,H',J,rv,q⟩:=hs;show fin J rv q
 |next=>
  obtain⟨rq,H',J,q⟩:=hs;show fin (v:=V.rp) (u:=bz) J rfl q
 |brk=>
  obtain⟨_,_,_,q⟩:=hs;show aV q
 |cont=>
  obtain⟨_,_,_,q⟩:=hs;show aV q
section
variable {id T:String} {r:List V->Hp->VK->Prop}
def Ox(r:List V->Hp->VK->Prop)(t:TA):TE:=λσ H Q=>t σ H λvs H1=>r vs H1 Q
def xq(hc:yH X (.builtin id) r)(hg:Gl X x)(hm:X.mg x=y)(hv:bK x=E (.builtin id))(ha:PA X (e::es) t)(hn:autoParam (x≠"__name__") q9)(oN:autoParam #[12] q9)
  (he:autoParam #[7] rJ) (oK:autoParam #[17] rJ):PE X (.Call (.Name x p) (e::es) [] pos) (Ox r t):=by
 intro pins s σ H Q I h;show bL<|zJ I hg hm hv ?_ hn oN;show PyProof.Rows.callWith_builtin1 (zS #[16] λus s1 vs H1 I1 r1 q1=>hc pins s1 σ H1 vs us Q I1 r1 q1) he oK
def xT(hc:yH X (.type T) r)(hg:Gl X x)(hm:X.mg x=y)(hv:bK x=E (.type T))(ha:PA X (e::es) t)(hn:autoParam (x≠"__name__") q9)(oN:autoParam #[12] q9)
  (he:autoParam #[7] rJ) (oK:autoParam #[17] rJ):PE X (.Call (.Name x p) (e::es) [] pos) (Ox r t):=by
 intro pins s σ H Q I h;show bL<|zJ I hg hm hv ?_ hn oN;show bW (zS #[16] λus s1 vs H1 I1 r1 q1=>hc pins s1 σ H1 vs us Q I1 r1 q1) he oK
end
end Internal.L2
namespace HT
open PySem PyProof.Rows
def lexLt:List Int->List Int->Bool
 |[],[]=>sJ
 |[],_::_=>sX
 |_::_,[]=>sJ
 |x::xs,sZ::ys=>if x=sZ then lexLt xs ys else decide (x<sZ)
def Nr(x sZ:Int)(xs ys:List Int):lexLt (x::xs) (sZ::ys)=if x=sZ then lexLt xs ys else decide (x<sZ):=rfl
def ZC:lexLt [] []=sJ:=rfl
def xg2(sZ:Int)(ys:List Int):lexLt [] (sZ::ys)=sX:=rfl
def xg3(x:Int)(xs:List Int):lexLt (x::xs) []=sJ:=rfl
def LW(A:bx)(s:ag)(a:Int)(t:Tok)(c:Int)(u:Tok):∃e,oE A s (.int a t) (.int c u) e/\(e=sX↔a=c):=
 ⟨(a==c),nY a t c u,by simp⟩
def LV(A:bx)(s:ag)(a:Int)(t:Tok)(c:Int)(u:Tok)(prog:a9)(w:World)(sQ:sV->ag->Prop)(Q:sV->ag->Prop)(h:Q (.bool<|decide (a<c)) s):
  wpAny #[1] A (richCompare .Lt (.int a t)<|.int c u) Q sQ s:=
 (PyProof.Rows.lt_int h:wpAny #[1] A (bH .Lt (.int a t)<|.int c u) Q sQ s)
section
open PySem.SeqAt
open PySem.AutoSeq1 (wpAny_loadPart')
open PySem.MeetsSeq PySem.MeetsSeq2 PySem.MeetsSeq3
theorem ZA(l b:sK)(items oK:Array sV)(n n2:Nat)(dd oZ:Option sK)(sl oW:Array (Option sV))(ns ms:List Int)(hi:cX items.toList ns)(hj:cX oK.toList ms):
  Meets (fP.«tuple.__lt__» ⟨[.ref l,.ref b],[]⟩)
   (λ_ R s=>s.heap.get? l=E {cls:=.type "tuple",dict:=dd,data:=.seq items n,slots:=sl}/\s.heap.get? b=E {cls:=.type "tuple",dict:=oZ,data:=.seq oK n2,slots:=oW}/\
    R (.ok (.ret (.bool (lexLt ns ms)))) s):=
 .of_wp λprog w A R s h=>by
  obtain⟨hp,g,d,tk,os⟩:=s;obtain⟨hl,hb,h⟩:=h;have f2:=AutoSeq1.sub_tuple_tuple;have z1:items.size=ns.length:=by rw[<-hi.length];simp
  have z2:oK.size=ms.length:=by rw[<-hj.length];simp
  wp_walk using bS hl,bS hb,wpAny_forIn_list _ (λrest b s'=>b.1=y/\s'=⟨hp,g,d,tk,os⟩/\∃(vs ws:List sV) (oN oO:List Int),rest=vs.zip ws/\
   cX vs oN/\cX ws oO/\oN.length+oK.size=oO.length+items.size/\R (.ok (.ret (.bool (lexLt oN oO)))) ⟨hp,g,d,tk,os⟩) _
  case turn=>
   rintro⟨sZ,x⟩ rest b s' ⟨oV,rfl,vs,ws,oN,oO,hz,oU,oQ,hlen,hR⟩;cases oU with
   |nil=>rw[List.zip_nil_left]at hz;cases hz
   |cons a t oS=>
    cases oQ with
    |nil=>rw[List.zip_nil_right]at hz;cases hz
    |cons c u oR=>
     rw[nZ]at hz;injection hz with oX hrest;injection oX with hy hx;subst hy hx;rw[Nr]at hR;simp only[aT]at hlen;show L2.oG λ_ U=>?_;obtain⟨e,he,oP⟩:=LW A.in1 ⟨hp,g,d,tk,os⟩ a t c u;apply U;show ae<|he prog w _ _ ?_;cases e with
     |true=>
      rw[if_pos<|oP.mp rfl]at hR
      wp_walk
      show⟨Y,Y,_,_,_,_,hrest,oS,oR,by lia,hR⟩
     |false=>
      rw[if_neg λq=>absurd (oP.mpr q) aD]at hR;have oY:=LV A.in1 ⟨hp,g,d,tk,os⟩ a t c u prog w
      wp_walk using oY
      show⟨_,Y,by simpa using hR⟩
  case fin=>
   rintro⟨b1,b2⟩ s' ⟨oV,rfl,vs,ws,oN,oO,hz,oU,oQ,hlen,hR⟩;simp only at oV;subst oV;have hv:lexLt oN oO=decide (items.size<oK.size):=by
    cases oU with
    |nil=>
     cases oQ with
     |nil=>
      simp only[cW]at hlen;rw[ZC];show(decide_eq_false #[2]).symm
     |cons c u hw=>
      simp only[cW,aT]at hlen;rw[xg2];show(decide_eq_true #[2]).symm
    |cons a t hv=>
     cases oQ with
     |nil=>
      simp only[cW,aT]at hlen;rw[xg3];show(decide_eq_false #[2]).symm
     |cons c u hw=>
      rw[nZ]at hz;cases hz
   rw[hv]at hR
   wp_walk
   show⟨_,Y,by simpa [Builtin.Tuple.tupleCompareSizes]using hR⟩
  case h=>
   show⟨Y,Y,items.toList,oK.toList,ns,ms,Y,hi,hj,by lia,h⟩
end
section
variable {prog:a9} {w:World} {A:bx} {sQ:sV->ag->Prop} {s:ag}
def XF{b:sK}{Q:sV->ag->Prop}(hl:IsTup s.heap l items)(hb:IsTup s.heap b oK)(hi:cX items.toList ns)(hj:cX oK.toList ms)
  (hu:A.units<cLine) (h:Q (.bool<|lexLt ns ms) s):wpAny #[1] A (bH .Lt (.ref l)<|.ref b) Q sQ s:=by
 obtain⟨⟨cls,dd,data,sl⟩,ho,hc,n,hd⟩:=id hl;obtain⟨⟨oR,oQ,data2,oP⟩,oN,oO,n2,hd2⟩:=id hb;simp only at hc hd oO hd2;subst hc hd oO hd2;show richCompare_meets_room (op:=.Lt) ⟨_,ho,Y⟩ ⟨_,oN,Y⟩ PySem.F.slot_tuple_lt PySem.F.entry_tuple_lt (PySem.F.args_tuple_lt_2 _ _) (ZA l b items oK n n2 dd oQ sl oP ns ms hi hj)
  ⟨ho,oN,show eK (lexLt ns ms)≠mW/\Q (.bool<|lexLt ns ms) s from⟨(λx=>nomatch x),h⟩⟩ hu
def S3{b:sK}{Q:sV->ag->Prop}(ht:IsTup s.heap t vs.toArray)(hb:IsTup s.heap b ws.toArray)(hv:vs≠[])
  (h1:ws=[]->Q (.ref t) s) (h2:ws≠[]->Q (.ref s.heap.objs.size) {s with heap:=s.heap.push {cls:=.type "tuple",data:=.seq (vs++ws).toArray}})
  (hsz:vs.length+ws.length<=aK):wpAny #[1] A (dE .Add (.ref t)<|.ref b) Q sQ s:=by
 obtain⟨⟨cls,dd,data,sl⟩,ho,hc,n,hd⟩:=id ht;obtain⟨⟨oQ,oP,data2,oN⟩,oK,oO,n2,hd2⟩:=id hb;simp only at hc hd oO hd2;subst hc hd oO hd2;have e:vs.toArray++ws.toArray=(vs++ws).toArray:=by simp
 by_cases hw:ws=[]
 ·show concat_meets ⟨_,ho,Y⟩ ⟨_,oK,Y⟩ noFill_tuple_add seq_tuple_add PySem.F.slot_tuple_add PySem.F.entry_tuple_add (PySem.F.args_tuple_add_2 _ _)
   (tuple_addW1 t b vs.toArray ws.toArray n n2 dd oP sl oN (by simpa using hv) (by simp[hw])) ⟨ho,oK,h1 hw⟩
 ·show concat_meets ⟨_,ho,Y⟩ ⟨_,oK,Y⟩ noFill_tuple_add seq_tuple_add PySem.F.slot_tuple_add PySem.F.entry_tuple_add (PySem.F.args_tuple_add_2 _ _)
   (tuple_addW2 t b vs.toArray ws.toArray n n2 dd oP sl oN (by simpa using hv) (by simpa using hw) (by rw[aH,aH];show hsz)) ⟨ho,oK,?_⟩
  rw[e];show h2 hw
def sN(n d:Nat):Option Int->Nat
 |none=>d
 |some v=>if v<0 then(v+(n:Int)).toNat else min v.toNat n
def LU(n d:Nat):sN n d y=d:=rfl
theorem So(n d:Nat)(hd:d<=n)(o:Option Int):sN n d o<=n:=by
 cases o with
 |none=>show hd
 |some v=>
  change(if v<0 then(v+(n:Int)).toNat else min v.toNat n)<=n
  by_cases hv:v<0
  ·rw[if_pos hv];lia
  ·rw[if_neg hv];show lI _ _
end
end HT
namespace Internal.L2
open PySem PySem.Spec PyProof.Rows
variable {H H':Hp} {X:Cx} {s:ag} {u v:sV} {pins:List (sK×Obj)} {σ:St} {sZ x:V} {A:bx} {a:sK} {xs:List V} {w:World} {sQ Q:sV->ag->Prop} {kvs:List (Key×V)} {us rf:List sV} {pos:Pos} {α:Type} {P:a9} {e o:Expr} {n t':Nat} {T:String}
abbrev TO:=St->Hp->(Option Int->Hp->Prop)->Prop
def PO(X:Cx)(e:Option Expr)(t:TO):Prop:=
 ∀(pins:List (sK×Obj)) (s:ag) (σ:St) (H:Hp) (Q:Option Int->Hp->Prop),Inv X pins σ H s->t σ H Q->
  wpAny #[3] X.A (evalPart e X.env) (λu s'=>∃o H',Inv X pins σ H' s'/\IsPart u o/\Q o H') X.xe s
def S2:TO:=λ_ H Q=>Q y H
def PN(t:TE):TO:=λσ H Q=>t σ H λx H1=>∃i,x= .int i/\Q (E i) H1
theorem intsAre_of:∀{us:List sV},Vals (ns.map V.int) us->cX us ns:=by
 induction ns with
 |nil=>intro us r;rw[n5]at r;cases r;show .nil
 |cons n ns ih=>
  intro us r;rw[ba]at r;cases r with
  |cons r1 r2=>
   obtain⟨t,e⟩:=r1;subst e;show .cons n t (ih r2)
section
variable {te:TE} {lo hi:Option Expr} {tl th:TO} {p2:Pos}
def zg:PO X y S2:=by
 intro pins s σ H Q I h;rw[evalPart_none];show ar ⟨y,H,I,.none,h⟩
def ya(h:PE X e te):PO X (E e) (PN te):=by
 intro pins s σ H Q I hw;rw[evalPart_some];show xQ (h pins s σ H _ I hw) λu s1 x H1 I1 r1 q1=>?_;obtain⟨i,rfl,q⟩:=q1;obtain⟨t,rfl⟩:=r1;show⟨E i,H1,I1,.int i t,q⟩
def ET(X:Cx)(r:V->Option Int->Option Int->Hp->VK->Prop):Prop:=
 ∀(pins:List (sK×Obj)) (s:ag) (σ:St) (H:Hp) (x:V) (v vl vu:sV) (lo hi:Option Int) (sl:sK) (Q:VK),Inv X pins σ H s->RelV x v->s.heap.IsSliceOf sl vl vu .none->IsPart vl lo->IsPart vu hi->r x lo hi H Q->
  ∃T id,iq (.type T) "__getitem__"=pure (E<|.builtin id)/\s.TypeIs v T/\wpAny #[3] X.A (getItem v<|.ref sl) (EP X pins σ Q) X.xe s
def tSl(r:V->Option Int->Option Int->Hp->VK->Prop)(te:TE)(tl th:TO):TE:=λσ H Q=>te σ H λx H1=>tl σ H1 λl H2=>th σ H2 λu H3=>r x l u H3 Q
def yj{r:V->Option Int->Option Int->Hp->VK->Prop}(hr:ET X r)(he:PE X e te)(hl:PO X lo tl)(hu:PO X hi th):PE X (.Subscript e (.Slice lo hi y p2) pos) (tSl r te tl th):=by
 intro pins s σ H Q I h;show Subscript_<|xQ (he pins s σ H _ I h) λv s1 x H1 I1 r1 q1=>?_;show wpAny_Slice<|sj (hl pins s1 σ H1 _ I1 q1) λvl s2 ⟨l,H2,I2,pl,q2⟩=>sj (hu pins s2 σ H2 _ I2 q2) λvu s3 ⟨u,H3,I3,pu,q3⟩=>?_;rw[evalPart_none];show ar ?_;have I4:Inv X pins σ H3 {s3 with heap:=s3.heap.push {cls:=.type "slice",data:=.fields #[vl,vu,.none]}}:=I3.kept (t':=s3.toks) λb ob q=>af _ q;obtain⟨T,id,hT,ht,hg⟩:=hr pins {s3 with heap:=s3.heap.push {cls:=.type "slice",data:=.fields #[vl,vu,.none]}} σ H3 x v vl vu l u s3.heap.objs.size Q I4 r1 (Heap.IsSliceOf.new ..) pl pu q3;change wpAny #[3] X.A (nC e (.Slice lo hi y p2) v<|.ref s3.heap.objs.size) (EP X pins σ Q) X.xe {s3 with heap:=s3.heap.push {cls:=.type "slice",data:=.fields #[vl,vu,.none]}};show tail_any (ops:=[.ref s3.heap.objs.size,v]) ht hT hg (by with_unfolding_all rfl)
noncomputable def wR(xs:List V)(lo hi:Option Int):List V:=(xs.drop<|HT.sN xs.length 0 lo).take (HT.sN xs.length xs.length hi - HT.sN xs.length 0 lo)
def Ze(xs:List V)(lo hi:Option Int):(wR xs lo hi).length<=xs.length:=by
 unfold wR;rw[a8,bC];lia
def PL(K:ax):R2:=λx sZ H Q=>tS λa b xs ys=>BO (x= .ref a) (sZ= .ref b) (rM K H a xs) (rM K H b ys) (xs≠[]) (xs.length+ys.length<=aK) ((ys=[]->Q (.ref a) H)) ((ys≠[]->∀p,H p=y->Q (.ref p) (upd H p (.tup<|xs++ys))))
theorem Vals.wc(r:Vals xs us):us=[]↔xs=[]:=by
 cases r with
 |nil=>simp
 |cons _ _=>simp
def S1:sf X (dE .Add) (PL X.K):=by
 intro pins s σ H x sZ v u Q I rx ry h;obtain⟨a,b,xs,ys,rfl,rfl,ha,hb,hx,hz,q1,q2⟩:=h;cases rx;cases ry;obtain⟨rf,r1,p1,_⟩:=I.tuple ha;obtain⟨oK,r2,p2,_⟩:=I.tuple hb;show HT.S3 p1 p2 (λz=>hx<|r1.wc.mp z) (λz=>⟨.ref a,H,I,Y,q1<|r2.wc.mp z⟩) (λz=>?_) (by rw[<-r1.length,<-r2.length];show hz);show⟨.ref s.heap.objs.size,_,I.laid (t':=s.toks) (o:=.tup<|xs++ys) (λb ob q=>af _ q) (ah _) ?_,Y,q2 (λw=>z<|r2.wc.mpr w) _ (I.rh.fresh<|ah _)⟩;show⟨by rw[ao];show hz,_,r1.append r2,IsTup.new _ _⟩
end
noncomputable def z9(n:Nat)(i:Int):Option Nat:=if 0<=i then(if i<n then E i.toNat else y)else if -(n:Int)<=i then E (i+n).toNat else y
noncomputable def wN(xs:List α)(i:Int):Option α:=(z9 xs.length i).bind λj=>xs[j]?
def Ll(h:z9 n i=E j):seqIndex? i n=E j/\j<n/\-(n:Int)<=i/\i<n:=by
 unfold z9 at h
 by_cases h0:0<=i
 ·rw[if_pos h0]at h
  by_cases h1:i<n
  ·rw[if_pos h1]at h;have e:i.toNat=j:=bI h;show⟨by rw[seqIndex_of h0 h1,e],by lia,by lia,h1⟩
  ·rw[if_neg h1]at h;cases h
 ·rw[if_neg h0]at h
  by_cases h1: -(n:Int)<=i
  ·rw[if_pos h1]at h;have e:(i+n).toNat=j:=bI h;show⟨by rw[seqIndex_neg #[2] h1,e],by lia,h1,by lia⟩
  ·rw[if_neg h1]at h;cases h
theorem Lk{xs:List α}{v:α}(h:wN xs i=E v):∃j,seqIndex? i xs.length=E j/\xs[j]? =E v/\j<xs.length/\-(xs.length:Int)<=i/\i<xs.length:=by
 unfold wN at h;cases e:z9 xs.length i with
 |none=>rw[e]at h;cases h
 |some j=>
  rw[e]at h;obtain⟨h1,h2,h3,h4⟩:=Ll e;show⟨j,h1,h,h2,h3,h4⟩
def yn{xs:List α}{j:Nat}{v:α}(h:xs[j]? =E v):wN xs (j:Int)=E v:=by
 have hj:j<xs.length:=(aE.mp h).1;have e:z9 xs.length (j:Int)=E j:=by
  unfold z9;rw[if_pos #[2],if_pos #[2]];simp
 unfold wN;rw[e];show h
def S0(b:Expr):Prop:=∀o i,mz b sJ o i=operate [o,i] (getItem o i)
def Dr(X:Cx)(r:R2):Prop:=
 ∀(value slice:Expr) (pins:List (sK×Obj)) (s:ag) (σ:St) (H:Hp) (x sZ:V) (v u:sV) (Q:VK),Inv X pins σ H s->RelV x v->RelV sZ u->r x sZ H Q->
  mz slice sJ v u=operate [v,u] (getItem v u)->wpAny #[3] X.A (nC value slice v u) (EP X pins σ Q) X.xe s
def Iy(X:Cx)(id:String)(r:V->List V->Hp->VK->Prop):Prop:=
 ∀(pins:List (sK×Obj)) (s:ag) (σ:St) (H:Hp) (x:V) (xs:List V) (v:sV) (us:List sV) (Q:VK),Inv X pins σ H s->RelV x v->Vals xs us->r x xs H Q->
  wpAny #[3] X.A (call (.builtin id)<|v::us) (EP X pins σ Q) X.xe s
section
variable {a b:Expr} {ta tb:TE}
def xy(hr:Dr X r)(ha:PE X a ta)(hb:PE X b tb)(hs:S0 b):PE X (.Subscript a b pos) (C6 r ta tb):=by
 intro pins s σ H Q I h;show Subscript_ (E2 ha hb I h λv u s2 x sZ H2 I2 rx ry q=>hr a b pins s2 σ H2 x sZ v u Q I2 rx ry q<|hs _ _)
def IS(K:ax):R2:=λx sZ H Q=>tS λp xs i v=>tF (x= .ref p) (sZ= .int i) (kq K H p xs) (wN xs i=E v) (Q v H)
def IQ(K:ax):R2:=λx sZ H Q=>tS λp xs i v=>tF (x= .ref p) (sZ= .int i) (rM K H p xs) (wN xs i=E v) (Q v H)
def xU:Dr X (IS X.K):=by
 intro value slice pins s σ H x sZ v u Q I rx ry h hs;obtain⟨p,xs,i,z,rfl,rfl,hq,he,q⟩:=h;cases rx;obtain⟨t,rfl⟩:=ry;obtain⟨rf,r,pl,hz⟩:=I.list hq;obtain⟨j,h1,h2,h3,h4,h5⟩:=Lk he;obtain⟨w,ew,oK⟩:=r.get h2;have hl:=r.length;have hn:=CH;have fin:EP X pins σ Q w s:=⟨z,H,I,oK,q⟩
 by_cases h0:0<=i
 ·have hj:i.toNat=j:=by
   rw[seqIndex_of h0 h5]at h1;show bI h1
  show item_listR pl.isList h0 #[2] (by rw[hj];simpa using ew) fin hs
 ·have hj:(i+(rf.toArray.size:Int)).toNat=j:=by
   rw[seqIndex_neg #[2] h4]at h1;rw[aH,<-hl];show bI h1
  show subscriptTail_builtinR (x:=w) pl.isList.typeIs slot_list_getitem.lookup
   (wpAny_getItem_list_neg (Q:=λr s'=>r=w/\EP X pins σ Q r s') pl.isList #[2] (by rw[aH]<;> lia) #[2] (by rw[hj];simpa using ew) ⟨Y,fin⟩) hs
def xG:Dr X (IQ X.K):=by
 intro value slice pins s σ H x sZ v u Q I rx ry h hs;obtain⟨p,xs,i,z,rfl,rfl,hq,he,q⟩:=h;cases rx;obtain⟨t,rfl⟩:=ry;obtain⟨rf,r,pl,hz⟩:=I.tuple hq;obtain⟨j,h1,h2,h3,h4,h5⟩:=Lk he;obtain⟨w,ew,oK⟩:=r.get h2;have hl:=r.length;have hn:=CH;have fin:EP X pins σ Q w s:=⟨z,H,I,oK,q⟩;show subscriptTail_builtinR (x:=w) pl.typeIs slot_tuple_getitem.lookup
  (getItem_tuple (j:=j) (Q:=λr s'=>r=w/\EP X pins σ Q r s') pl #[2] #[2] (by rw[aH,<-hl];show h1) (by simpa using ew) ⟨Y,fin⟩) hs
def XD(rf:List sV)(n j:Nat)(u:sV):bb (·.setIfInBounds j u) {cls:=.type "list",data:=.seq rf.toArray n}={cls:=.type "list",data:=.seq (rf.set j u).toArray n}:=by
 simp[bb]
def Inv.lst(I:Inv X pins σ H s)(h:H p=E (.lst xs)):
  ∃(rf:List sV) (n:Nat),Vals xs rf/\s.heap.get? p=E {cls:=.type "list",data:=.seq rf.toArray n}/\xs.length<=aK:=by
 obtain⟨z,rf,n,r,e⟩:=I.rh p _ h;show⟨rf,n,r,e,z⟩
def Inv.BF{f:Obj->Obj}(I:Inv X pins σ H s)(h:H p=E (.lst xs))
  (ho:s.heap.get? p=E {cls:=.type "list",data:=.seq rf.toArray n}) (hf:f {cls:=.type "list",data:=.seq rf.toArray n}={cls:=.type "list",data:=.seq its'.toArray n'}) (r:Vals ys its') (hz:ys.length<=aK) (t:Nat):
  Inv X pins σ (upd H p<|.lst ys) {s with heap:=s.heap.update p f,toks:=t}:=by
 have e:(s.heap.update p f).get? p=E {cls:=.type "list",data:=.seq its'.toArray n'}:=by
  rw[b9 f ho (by rw[hf]<;> rfl),hf]
 show I.write (x:=p) (e:=p) (by rw[h];trivial) (.inl Y) (λb u hb q=>(bj _ _<|aW hb).trans q) ⟨_,e⟩ ?_;show⟨hz,its',n',r,e⟩
def QF:V->V->V->Hp->(Hp->Prop)->Prop:=λo i v H Q=>tS λp xs k j=>tF (o= .ref p) (i= .int k) (H p=E (.lst xs)) (z9 xs.length k=E j) (Q<|upd H p (.lst<|xs.set j v))
def set_list:I9 X QF:=by
 intro pins s σ H o i v ov iv u Q I ro ri rv h;obtain⟨p,xs,k,j,rfl,rfl,hp,hj,q⟩:=h;cases ro;obtain⟨t,rfl⟩:=ri;obtain⟨rf,n,r,ho,hz⟩:=I.lst hp;obtain⟨h1,h2,h3,h4⟩:=Ll hj;have hl:=r.length;have hn:=CH;have I':Inv X pins σ (upd H p (.lst<|xs.set j v)) {s with heap:=s.heap.update p (bb (·.setIfInBounds j u))}:=
  I.BF hp ho (XD rf n j u) (r.set rv j) (by rw[eW];show hz) s.toks
 by_cases h0:0<=k
 ·have hk:k.toNat=j:=by
   rw[seqIndex_of h0 h4]at h1;show bI h1
  show W.ki_setAt ho h0 #[2] (by rw[aH,<-hl];show h4) (by rw[hk];show⟨_,I',q⟩)
 ·have hk:(k+(rf.toArray.size:Int)).toNat=j:=by
   rw[seqIndex_neg #[2] h3]at h1;rw[aH,<-hl];show bI h1
  show W.ki_setBack ho #[2] (by rw[aH,<-hl];show h3) #[2] (by rw[hk];show⟨_,I',q⟩)
theorem NY(lo hi:Option Int)(n:Nat):(gH lo hi y n).1=((HT.sN n 0 lo:Nat):Int)/\(gH lo hi y n).2.1=((HT.sN n n hi:Nat):Int)/\(gH lo hi y n).2.2=1:=by
 show⟨?_,?_,Y⟩
 ·cases lo with
  |none=>simp[gH,HT.sN]
  |some i=>
   simp only[gH,HT.sN,oA,show(1:Int) > 0 by decide,if_true]
   by_cases h:i<0
   ·simp only[h,if_true]<;> lia
   ·simp only[h,if_false]<;> lia
 ·cases hi with
  |none=>simp[gH,HT.sN]
  |some i=>
   simp only[gH,HT.sN,oA,show(1:Int) > 0 by decide,if_true]
   by_cases h:i<0
   ·simp only[h,if_true]<;> lia
   ·simp only[h,if_false]<;> lia
def Zz(rf:List sV)(lo hi:Option Int):slicePick rf.toArray lo hi y=((rf.drop<|HT.sN rf.length 0 lo).take<|HT.sN rf.length rf.length hi - HT.sN rf.length 0 lo).toArray:=by
 obtain⟨h1,h2,h3⟩:=NY lo hi rf.toArray.size;unfold slicePick;rw[h1,h2,h3];simp only[sliceRange_one,pick_run,aH]<;> rfl
def IP(K:ax):V->Option Int->Option Int->Hp->VK->Prop:=λx lo hi H Q=>sE λa xs=>tG (x= .ref a) (kq K H a xs) (∀p,H p=y->Q (.ref p) (upd H p (.lst<|wR xs lo hi)))
def yC:ET X (IP X.K):=by
 intro pins s σ H x v vl vu lo hi sl Q I rx hs pl pu h;obtain⟨a,xs,rfl,hx,q⟩:=h;cases rx;obtain⟨rf,r,ht,hz⟩:=I.list hx;have hlen:=r.length;show⟨"list",_,slot_list_getitem.lookup,ht.isList.typeIs,?_⟩;show wpAny_getItem_list_slice ht.isList hs pl pu .none #[8] ?_ (by rw[aH]<;> lia);rw[Zz,<-hlen];show⟨.ref s.heap.objs.size,_,I.laid (t':=s.toks) (o:=.lst<|wR xs lo hi) (λb ob q=>af _ q) (ah _) ?_,Y,q _ (I.rh.fresh<|ah _)⟩;show⟨aQ (Ze xs lo hi) hz,_,0,(r.drop<|HT.sN xs.length 0 lo).take<|HT.sN xs.length xs.length hi - HT.sN xs.length 0 lo,aF _ Y⟩
noncomputable def Al:V->Bool
 | .rp=>sX
 | .bl _=>sX
 | .int _=>sX
 | .str _=>sX
 |_=>sJ
noncomputable def AE:V->V->Bool
 | .rp,.rp=>sX
 | .bl a,.bl b=>a==b
 | .bl a,.int b=>(if a then 1 else 0)==b
 | .int a,.bl b=>a==(if b then 1 else 0)
 | .int a,.int b=>a==b
 | .str a,.str b=>a==b
 |_,_=>sJ
theorem Q5(ry:RelV sZ u)(rx:RelV x v)(fy:Al sZ=sX)(fx:Al x=sX):oE A s u v (AE sZ x):=by
 cases sZ with
 |rp=>
  cases ry;cases x with
  |rp=>cases rx;show SeqAt.EqAt.same _
  |bl b=>cases rx;show SeqAt.EqAt.none_bool b
  |int b=>obtain⟨t,rfl⟩:=rx;show SeqAt.EqAt.none_int b t
  |str b=>obtain⟨t,rfl⟩:=rx;show SeqAt.EqAt.none_str b t
  |_=>show absurd (show sJ=sX from fx) aD
 |bl a=>
  cases ry;cases x with
  |rp=>cases rx;show SeqAt.EqAt.bool_none a
  |bl b=>cases rx;show SeqAt.EqAt.bool_bool a b
  |int b=>obtain⟨t,rfl⟩:=rx;show SeqAt.EqAt.bool_int a b t
  |str b=>obtain⟨t,rfl⟩:=rx;show SeqAt.EqAt.bool_str a b t
  |_=>show absurd (show sJ=sX from fx) aD
 |int a=>
  obtain⟨t',rfl⟩:=ry;cases x with
  |rp=>cases rx;show SeqAt.EqAt.int_none a t'
  |bl b=>cases rx;show SeqAt.EqAt.int_bool a t' b
  |int b=>obtain⟨t,rfl⟩:=rx;show nY a t' b t
  |str b=>obtain⟨t,rfl⟩:=rx;show nO a t' b t
  |_=>show absurd (show sJ=sX from fx) aD
 |str a=>
  obtain⟨t',rfl⟩:=ry;cases x with
  |rp=>cases rx;show SeqAt.EqAt.str_none a t'
  |bl b=>cases rx;show SeqAt.EqAt.str_bool a t' b
  |int b=>obtain⟨t,rfl⟩:=rx;show nQ a t' b t
  |str b=>obtain⟨t,rfl⟩:=rx;show SeqAt.EqAt.str_str a t' b t
  |_=>show absurd (show sJ=sX from fx) aD
 |_=>show absurd (show sJ=sX from fy) aD
noncomputable def wH(x:V)(u:sV):Bool:=match u with
 | .none=>AE .rp x
 | .bool b=>AE (.bl b) x
 | .int i _=>AE (.int i) x
 | .str z _=>AE (.str z) x
 |_=>sJ
theorem Kh(r:RelV sZ u)(f:Al sZ=sX):wH x u=AE sZ x:=by
 cases sZ with
 |rp=>cases r;rfl
 |bl b=>cases r;rfl
 |int i=>obtain⟨t,rfl⟩:=r;rfl
 |str z=>obtain⟨t,rfl⟩:=r;rfl
 |_=>show absurd (show sJ=sX from f) aD
theorem CP{x:V}:∀{xs:List V} {us:List sV},Vals xs us->xs.all Al=sX->us.any (wH x)=xs.any λsZ=>AE sZ x
 |_,_,.nil,_=>rfl
 |sZ::xs,u::us,.cons r t,f=>by
  rw[List.all_cons,fF]at f;rw[iE,iE,Kh r f.1,CP t f.2]
theorem CT{A:bx}{s:ag}{x:V}{v:sV}(rx:RelV x v)(fx:Al x=sX):∀{xs:List V} {us:List sV},Vals xs us->xs.all Al=sX->∀u∈us,oE A s u v (wH x u)
 |_,_,.nil,_=>λu hu=>by cases hu
 |sZ::xs,u::us,.cons r t,f=>λu' hu=>by
  rw[List.all_cons,fF]at f;rcases aB.mp hu with rfl|hu
  ·rw[Kh r f.1];show Q5 r rx f.1 fx
  ·show CT rx fx t f.2 u' hu
def wV(x:V)(xs:List V):Bool:=xs.any λsZ=>AE sZ x
def Oz(K:ax)(neg:Bool):R2:=λx sZ H Q=>sE λp xs=>tF (sZ= .ref p) (kq K H p xs\/rM K H p xs) (Al x=sX) (xs.all Al=sX) (Q (.bl<|if neg then !wV x xs else wV x xs) H)
def ED:sf X (bH .In) (Oz X.K sJ):=by
 intro pins s σ H x sZ v u Q I rx ry h;obtain⟨p,xs,rfl,hq,fx,fs,q⟩:=h;cases ry;rcases hq with hq|hq
 ·obtain⟨rf,r,pl,hz⟩:=I.list hq;show SeqAt.in_listAt (wH x) pl.isList (λw hw=>CT rx fx r fs w (by simpa using hw)) ⟨.bl _,H,I,Y,?_⟩;rw[show rf.toArray.any (wH x)=rf.any (wH x)by simp,CP r fs];show q
 ·obtain⟨rf,r,pl,hz⟩:=I.tuple hq;show SeqAt.in_tupleAt (wH x) pl (λw hw=>CT rx fx r fs w (by simpa using hw)) ⟨.bl _,H,I,Y,?_⟩;rw[show rf.toArray.any (wH x)=rf.any (wH x)by simp,CP r fs];show q
def Zi:sf X (bH .NotIn) (Oz X.K sX):=by
 intro pins s σ H x sZ v u Q I rx ry h;obtain⟨p,xs,rfl,hq,fx,fs,q⟩:=h;cases ry;rcases hq with hq|hq
 ·obtain⟨rf,r,pl,hz⟩:=I.list hq;show SeqAt.notIn_listAt (wH x) pl.isList (λw hw=>CT rx fx r fs w (by simpa using hw)) ⟨.bl _,H,I,Y,?_⟩;rw[show rf.toArray.any (wH x)=rf.any (wH x)by simp,CP r fs];show q
 ·obtain⟨rf,r,pl,hz⟩:=I.tuple hq;show SeqAt.notIn_tupleAt (wH x) pl (λw hw=>CT rx fx r fs w (by simpa using hw)) ⟨.bl _,H,I,Y,?_⟩;rw[show rf.toArray.any (wH x)=rf.any (wH x)by simp,CP r fs];show q
def xu:yH X (.builtin "len") (λxs H Q=>∃p ys,xs=[.ref p]/\(kq X.K H p ys\/rM X.K H p ys)/\Q (.int ys.length) H):=by
 intro pins s σ H xs us Q I r h;obtain⟨p,ys,rfl,hq,q⟩:=h;obtain⟨u,rfl,rx⟩:=vals1 r;cases rx;have hn:=CH;rcases hq with hq|hq
 ·obtain⟨rf,r',pl,hz⟩:=I.list hq;have hlen:=r'.length;show Calls.call_len_list pl.isList (by simp only[aH]<;> lia) ⟨.int ys.length,H,I.tok _,⟨s.toks+1,by rw[aH,hlen]⟩,q⟩
 ·obtain⟨rf,r',pl,hz⟩:=I.tuple hq;have hlen:=r'.length;show len_tuple pl (by simp only[aH]<;> lia) ⟨.int ys.length,H,I.tok _,⟨s.toks+1,by rw[aH,hlen]⟩,q⟩
def NX:yH X (.builtin "len") (λxs H Q=>∃z,xs=[.str z]/\z.length<=aK/\Q (.int z.length) H):=by
 intro pins s σ H xs us Q I r h;obtain⟨z,rfl,hz,q⟩:=h;obtain⟨u,rfl,t,rfl⟩:=vals1 r;have hn:=CH;show len_str #[2] ⟨.int z.length,H,I.tok _,⟨_,Y⟩,q⟩
def Hw:yH X (.type "list") (λxs H Q=>∃p ys,xs=[.ref p]/\(kq X.K H p ys\/rM X.K H p ys)/\∀l,H l=y->Q (.ref l) (upd H l<|.lst ys)):=by
 intro pins s σ H xs us Q I r h;obtain⟨p,ys,rfl,hq,q⟩:=h;obtain⟨u,rfl,rx⟩:=vals1 r;cases rx;have fin:∀(rf:List sV),Vals ys rf->ys.length<=aK->∀(h':Heap) (c':Nat),(∀b o',s.heap.get? b=E o'->h'.get? b=E o')->
   h'.get? s.heap.objs.size=E {cls:=.type "list",dict:=y,data:=.seq rf.toArray c',slots:=#[]}->EP X pins σ Q (.ref s.heap.objs.size) {s with heap:=h'}:=λrf r' hz h' c' kp e=>
  ⟨.ref s.heap.objs.size,_,I.laid (t':=s.toks) kp (ah _) (show xP X.prog X.w _ h' _ (.lst ys)from⟨hz,rf,c',r',e⟩),Y,q _ (I.rh.fresh<|ah _)⟩
 rcases hq with hq|hq
 ·obtain⟨rf,r',pl,hz⟩:=I.list hq;have hlen:=r'.length;obtain⟨o,ho,hc,n,hd⟩:=pl.isList;show call_list_seq p (.inl Y) ho hc hd (λh' c' kp e=>fin rf r' hz h' c' kp e) (by simp only[aH]<;> lia)
 ·obtain⟨rf,r',pl,hz⟩:=I.tuple hq;have hlen:=r'.length;obtain⟨o,ho,hc,n,hd⟩:=pl;show call_list_seq p (.inr Y) ho hc hd (λh' c' kp e=>fin rf r' hz h' c' kp e) (by simp only[aH]<;> lia)
def vi:yH X (.type "tuple") (λxs H Q=>∃p ys,xs=[.ref p]/\((kq X.K H p ys/\∀l,H l=y->Q (.ref l) (upd H l<|.tup ys))\/(rM X.K H p ys/\Q (.ref p) H))):=by
 intro pins s σ H xs us Q I r h;obtain⟨p,ys,rfl,h⟩:=h;obtain⟨u,rfl,rx⟩:=vals1 r;cases rx;rcases h with⟨hq,q⟩|⟨hq,q⟩
 ·obtain⟨rf,r',pl,hz⟩:=I.list hq;have hlen:=r'.length;show call_tuple_list pl.isList (λh' kp=>?_) (by simp only[aH]<;> lia);have I1:Inv X pins σ H {s with heap:=h'}:=I.kept (t':=s.toks) kp;have I2:Inv X pins σ (upd H h'.objs.size<|.tup ys) {s with heap:=h'.push {cls:=.type "tuple",data:=.seq rf.toArray}}:=
   I1.laid (t':=s.toks) (λb o e=>af _ e) (ah _) (show xP X.prog X.w _ _ _ (.tup ys)from⟨hz,rf,r',IsTup.new _ _⟩)
  show⟨.ref h'.objs.size,_,I2,Y,q _ (I1.rh.fresh<|ah _)⟩
 ·obtain⟨rf,r',pl,hz⟩:=I.tuple hq;show call_tuple_same pl ⟨.ref p,H,I,Y,q⟩
def Ib(K:ax)(T:String)(x:V)(H:Hp):Prop:=match x with
 | .str _=>T="str"
 | .int _=>T="int"
 | .ref p=>(T="list"/\∃xs,kq K H p xs)\/(T="tuple"/\∃o,K.lookup p=E o/\o.cls= .type "tuple"/\o.dict=y)\/
   (T="dict"/\((∃kvs,H p=E (.dK kvs))\/∃kvs,H p=E (.dT kvs)))\/(T="set"/\∃S n,H p=E (.set S n))
 |_=>False
theorem Kg(I:Inv X pins σ H s)(r:RelV x v)(ty:Ib X.K T x H):
  s.TypeIs v T/\∀a,v= .ref a->∃ob,s.heap.get? a=E ob/\ob.dict=y:=by
 cases x with
 |str z=>
  obtain⟨t,rfl⟩:=r;cases (show T="str" from ty);show⟨fW s z t,λ_ e=>nomatch e⟩
 |int i=>
  obtain⟨t,rfl⟩:=r;cases (show T="int" from ty);show⟨typeIs_int s i t,λ_ e=>nomatch e⟩
 |ref p=>
  cases r;rcases ty with⟨rfl,xs,hq⟩|⟨rfl,o,hk,hc,hd⟩|⟨rfl,hk⟩|⟨rfl,S,n,hk⟩
  ·obtain⟨rf,_,pl,_⟩:=I.list hq;show⟨pl.isList.typeIs,λa e=>?_⟩;cases e;obtain⟨o,n,e,c,hd,_⟩:=pl;show⟨o,e,hd⟩
  ·show⟨⟨o,I.su p o hk,hc⟩,λa e=>?_⟩;cases e;show⟨o,I.su _ o hk,hd⟩
  ·have z:∃o,s.heap.get? p=E o/\o.ExactDict:=by
    rcases hk with⟨kvs,hk⟩|⟨kvs,hk⟩
    ·obtain⟨_,_,_,_,o,_,_,e,ex,_⟩:=I.rh p _ hk;show⟨o,e,ex⟩
    ·obtain⟨_,_,_,_,o,_,_,e,ex,_⟩:=I.rh p _ hk;show⟨o,e,ex⟩
   obtain⟨o,e,ex⟩:=z;show⟨⟨o,e,ex.1⟩,λa e2=>?_⟩;cases e2;show⟨o,e,ex.2.1⟩
  ·obtain⟨o,_,_,_,e,ex,_⟩:=I.rh p _ hk;show⟨⟨o,e,ex.1⟩,λa e2=>?_⟩;cases e2;show⟨o,e,ex.2.1⟩
 |_=>show aV ty
def O1(K:ax)(T:String)(r:V->List V->Hp->VK->Prop)(to:TE):TE:=λσ H Q=>to σ H λx H1=>Ib K T x H1/\r x [] H1 Q
def tBM(K:ax)(T:String)(r:V->List V->Hp->VK->Prop)(to:TE)(t:TA):TE:=λσ H Q=>to σ H λx H1=>Ib K T x H1/\t σ H1 λxs H2=>r x xs H2 Q
variable {es:List Expr} {to:TE} {t:TA} {name:Str} {apos r9:Pos} {id:String} {r:V->List V->Hp->VK->Prop}
def Kf(pa:PlainAttrs T)(slot:Slot T name id)(oO:typeOf (.builtin id)=pure (.type "method_descriptor"))(hm:Iy X id r)(ho:PE X o to)
  (oN:autoParam (gD o name X.env (eval o X.env)=eval o X.env) rJ) (oK:autoParam ((apos.endLine==r9.line)=sX) rJ):PE X (.Call (.Attribute o name apos) [] [] r9) (O1 X.K T r to):=by
 intro pins s σ H Q I h;show wpAny_Call_method0_late oN oK<|xQ (ho pins s σ H _ I h) λv s1 x H1 I1 r1 ⟨ty,q1⟩=>?_;obtain⟨h1,h2⟩:=Kg I1 r1 ty;show⟨T,id,pa,slot,oO,h1,h2,iz Y (PySem.evalArgs_none<|hm pins s1 σ H1 x [] v [] Q I1 r1 .nil q1)⟩
def yN(pa:PlainAttrs T)(slot:Slot T name id)(oQ:typeOf (.builtin id)=pure (.type "method_descriptor"))(hm:Iy X id r)(ho:PE X o to)(ha:PA X (e::es) t)
  (oO:autoParam (gD o name X.env (eval o X.env)=eval o X.env) rJ)
  (oP:autoParam (((bY r9<|aM (e::es) X.env).all (λx=> !x.1)&&(ku r9<|gG [] X.env).all (λx=>x.1.isSome)
   &&decide ((e::es).length+([]:List Keyword).length+(if ([]:List Keyword).isEmpty then 0 else 1)<30))=sX) rJ)
  (oN:autoParam ((apos.endLine==r9.line)=sX) rJ) (hs:autoParam #[7] rJ) (oK:autoParam ((bY r9<|aM es X.env).any (·.1)=sJ) rJ):
  PE X (.Call (.Attribute o name apos) (e::es) [] r9) (tBM X.K T r to t):=by
 intro pins s σ H Q I h;show wpAny_Call_method_late oO oP oN rfl<|xQ (ho pins s σ H _ I h) λv s1 x H1 I1 r1 ⟨ty,q1⟩=>?_;obtain⟨h1,h2⟩:=Kg I1 r1 ty;show⟨T,id,pa,slot,oQ,h1,h2,?_⟩;have hA:=ha r9 pins s1 σ H1 _ I1 q1;rw[hs]at hA⊢;show iz (by change(sJ||(bY r9<|aM es X.env).any (·.1))=sJ;rw[oK]<;> rfl)<|mX ?_;show sj hA λus s2 ⟨vs,H2,I2,r2,q2⟩=>hm pins s2 σ H2 x vs v us Q I2 r1 r2 q2
end
def A4(X:Cx)(id:String)(r:V->List V->Hp->VK->Prop):Prop:=
 ∀(pins:List (sK×Obj)) (s:ag) (σ:St) (H:Hp) (x:V) (xs:List V) (v:sV) (us:List sV) (Q:VK),Inv X pins σ H s->RelV x v->Vals xs us->r x xs H Q->
  wpAny #[3] X.A (call (.builtin id)<|v::us) (EP X pins σ Q) X.xe s
theorem Vals.one(h:Vals [x] us):∃u,us=[u]/\RelV x u:=by
 cases h with
 |cons r t=>cases t;show⟨_,Y,r⟩
theorem Vals.two(h:Vals [x,sZ] us):∃u v,us=[u,v]/\RelV x u/\RelV sZ v:=by
 cases h with
 |cons r t=>obtain⟨v,rfl,q⟩:=Vals.one t;show⟨_,_,Y,r,q⟩
theorem Vals.zero:∀{us:List sV},Vals [] us->us=[]
 |_,.nil=>rfl
theorem Vals.dropLast(h:Vals xs us):Vals xs.dropLast us.dropLast:=by
 induction h with
 |nil=>show .nil
 |cons r t ih=>
  cases t with
  |nil=>show .nil
  |cons q t'=>show .cons r ih
theorem Vals.reverse(h:Vals xs us):Vals xs.reverse us.reverse:=by
 induction h with
 |nil=>show .nil
 |cons r t ih=>rw[List.reverse_cons,List.reverse_cons];show Vals.append ih (.cons r .nil)
theorem Vals.rep{xs:List V}{us:List sV}(h:Vals xs us):∀k:Nat,Vals (a7 k xs).flatten (a7 k us).flatten
 |0=>.nil
 |k+1=>by
  rw[dH,dH,dG,dG];show Vals.append h (Vals.rep h k)
theorem XS(l:List α):l.eraseIdx (l.length - 1)=l.dropLast:=by
 induction l with
 |nil=>rfl
 |cons a r ih=>
  cases r with
  |nil=>rfl
  |cons b r=>
   have e:(a::b::r).length - 1=((b::r).length - 1)+1:=by
    have h1:(a::b::r).length=r.length+2:=rfl;have h2:(b::r).length=r.length+1:=rfl;lia
   rw[e,List.eraseIdx_cons_succ,ih]
   all_goals rfl
theorem foldl_rep(rf:List sV):∀(k:Nat) (acc:List sV),
  mY (λx1 x2=>x1++x2) acc.toArray (a7 k rf.toArray)=(acc++(a7 k rf).flatten).toArray
 |0,acc=>by simp
 |k+1,acc=>by
  have e:acc.toArray++rf.toArray=(acc++rf).toArray:=by simp
  have e2:(acc++rf)++(a7 k rf).flatten=acc++(a7 (k+1) rf).flatten:=by
   rw[dH,dG,bu]
  rw[<-e2,<-foldl_rep rf k (acc++rf),<-e,dH,md]
section
variable {l b:sK} {ys zs:List V}
def Inv.BG{f:Array sV->Array sV}(I:Inv X pins σ H s)(hH:H l=E (.lst xs))
  (e:s.heap.get? l=E {cls:=.type "list",data:=.seq rf.toArray n}) (hf:f rf.toArray=its'.toArray) (hv:Vals ys its') (hz:ys.length<=aK):
  Inv X pins σ (upd H l<|.lst ys) {s with heap:=s.heap.update l<|bb f,toks:=t'}:=by
 have q:=PySem.IsL.update e f;rw[hf]at q;show I.write (x:=l) (e:=l) (by rw[hH];show trivial) (.inl Y) (λb' u hb hu=>(bj s.heap (bb f)<|aW hb).trans hu) ⟨_,q⟩ ?_;show⟨hz,its',_,hv,q⟩
def Inv.z8(I:Inv X pins σ H s)(hv:Vals ys rf)(hz:ys.length<=aK):
  Inv X pins σ (upd H s.heap.objs.size<|.lst ys) {s with heap:=s.heap.push {cls:=.type "list",data:=.seq rf.toArray},toks:=t'}:=
 I.laid (λ_ _ q=>af _ q) (ah _) ⟨hz,rf,0,hv,aF _ Y⟩
def Inv.fresh(I:Inv X pins σ H s):H s.heap.objs.size=y:=I.rh.fresh (ah _)
def Inv.wC(I:Inv X pins σ H s)(hH:H l=E (.lst xs)):xs.length<=aK/\∃(rf:List sV) (n:Nat),Vals xs rf/\xs.length=rf.length/\s.heap.get? l=E {cls:=.type "list",data:=.seq rf.toArray n}:=by
 obtain⟨z,rf,n,r,e⟩:=I.rh l _ hH;show⟨z,rf,n,r,r.length,e⟩
def LS(h:n<=aK):fG n=sJ:=by
 unfold fG;show decide_eq_false #[2]
end
def SY:V->List V->Hp->VK->Prop:=λx vs H Q=>tK λl xs sZ=>tF (x= .ref l) (vs=[sZ]) (H l=E (.lst xs)) (xs.length<aK) (Q .rp<|upd H l (.lst<|xs++[sZ]))
def yX:A4 X "list.append" SY:=by
 intro pins s σ H x vs v us Q I rx rv h;obtain⟨l,xs,sZ,rfl,rfl,hH,hz,q⟩:=h;cases rx;obtain⟨u,rfl,ru⟩:=rv.one;obtain⟨z,rf,n,r,hl,e⟩:=I.wC hH;show dA F.slot_list_append ⟨_,e,Y⟩ F.entry_list_append (F.args_list_append_2 _ _) (PySem.list_append l rf.toArray n u (by rw[aH];lia)) ⟨e,?_⟩;show⟨.rp,_,I.BG (its':=rf++[u]) hH e #[8] (r.append<|.cons ru .nil) ?_,Y,q⟩;rw[ao,bT];lia
def SX:V->List V->Hp->VK->Prop:=λx vs H Q=>tS λl b xs zs=>tY (x= .ref l) (vs=[.ref b]) (H l=E (.lst xs)) (H b=E (.lst zs)) (xs.length+zs.length<=aK) (Q .rp<|upd H l (.lst<|xs++zs))
def GK:A4 X "list.extend" SX:=by
 intro pins s σ H x vs v us Q I rx rv h;obtain⟨l,b,xs,zs,rfl,rfl,hH,hB,hz,q⟩:=h;cases rx;obtain⟨u,rfl,ru⟩:=rv.one;cases ru;obtain⟨z,rf,n,r,hl,e⟩:=I.wC hH;obtain⟨z2,oK,n2,r2,oO,e2⟩:=I.wC hB;have hsz:rf.toArray.size+oK.toArray.size<=aK:=by rw[aH,aH];lia
 have oN:¬(!rf.toArray.isEmpty&&fG (rf.toArray.size+oK.toArray.size))=sX:=by
  rw[LS hsz,Bool.and_false];show aD
 show dA F.slot_list_extend ⟨_,e,Y⟩ F.entry_list_extend (F.args_list_extend_2 _ _)
  (AutoSeq1.list_extend_list_list_0 l rf.toArray n b oK.toArray n2 oN (by rw[aH];lia) #[2]) ⟨e,e2,?_⟩
 show⟨.rp,_,I.BG (its':=rf++oK) hH e #[8] (r.append r2) ?_,Y,q⟩;rw[ao];lia
def O0:V->List V->Hp->VK->Prop:=λx vs H Q=>tK λl xs sZ=>tF (x= .ref l) (vs=[]) (H l=E (.lst xs)) (xs[xs.length - 1]? =E sZ) (Q sZ (upd H l<|.lst xs.dropLast))
def Q4:A4 X "list.pop" O0:=by
 intro pins s σ H x vs v us Q I rx rv h;obtain⟨l,xs,sZ,rfl,rfl,hH,hy,q⟩:=h;cases rx;have oN:=rv.zero;subst oN;obtain⟨z,rf,n,r,hl,e⟩:=I.wC hH;obtain⟨u,hu,ru⟩:=r.get hy;have oK:rf.toArray[rf.toArray.size - 1]? =E u:=by
  change rf.toArray[rf.length - 1]? =E u;rw[<-eX,<-hl];show hu
 show dA F.slot_list_pop ⟨_,e,Y⟩ F.entry_list_pop (F.args_list_pop_1 _) (MeetsSeq.list_pop_last l rf.toArray n u oK (by rw[aH];lia)) ⟨e,?_⟩;show⟨sZ,_,I.BG (its':=rf.dropLast) hH e ?_ r.dropLast ?_,ru,q⟩
 ·change rf.toArray.eraseIdxIfInBounds (rf.toArray.size - 1)=rf.dropLast.toArray;rw[aH,List.eraseIdxIfInBounds_toArray,XS]
 ·rw[List.length_dropLast];lia
def OZ:R2:=λx sZ H Q=>tS λl b xs zs=>tY (x= .ref l) (sZ= .ref b) (H l=E (.lst xs)) (H b=E (.lst zs)) (xs.length+zs.length<=aK) (∀p,H p=y->Q (.ref p) (upd H p (.lst<|xs++zs)))
def AY:sf X (dE .Add) OZ:=by
 intro pins s σ H x sZ v u Q I rx ry h;obtain⟨l,b,xs,zs,rfl,rfl,hH,hB,hz,q⟩:=h;cases rx;cases ry;obtain⟨z,rf,n,r,hl,e⟩:=I.wC hH;obtain⟨z2,oK,n2,r2,oN,e2⟩:=I.wC hB;show PySem.P.add_list e e2 ?_ (by rw[aH,aH];lia);have ea:rf.toArray++oK.toArray=(rf++oK).toArray:=by simp
 rw[ea];show⟨.ref _,_,I.z8 (t':=s.toks) (r.append r2) (by rw[ao];lia),Y,q _ I.fresh⟩
def OY:R2:=λx sZ H Q=>tK λl k xs=>AH (x= .ref l) (sZ= .int k) (H l=E (.lst xs)) (-(2^63)<=k) (k<2^63) (xs.length*k.toNat<=aK) (∀p,H p=y->Q (.ref p) (upd H p<|.lst (a7 k.toNat xs).flatten))
theorem len_rep(xs:List α)(k:Nat):(a7 k xs).flatten.length=k*xs.length:=by
 induction k with
 |zero=>simp
 |succ k ih=>rw[dH,dG,ao,ih,g7,Nat.add_comm]
theorem Q3:sf X (dE .Mult) OY:=by
 intro pins s σ H x sZ v u Q I rx ry h;obtain⟨l,k,xs,rfl,rfl,hH,h1,h2,hz,q⟩:=h;cases rx;obtain⟨t,rfl⟩:=ry;obtain⟨z,rf,n,r,hl,e⟩:=I.wC hH;have hlen:rf.toArray.size*k.toNat<=aK:=by rw[aH,<-hl];show hz
 have oP:¬rf.toArray.size*k.toNat > (2^63 - 1) / 8:=by
  have:(aK:Nat)<=(2^63 - 1) / 8:=by decide
  lia
 have oO:¬(!Builtin.List.listFitsIndex k)=sX:=by
  rw[fitsIndex_both h1 h2];show aD
 have oK:¬fG (rf.toArray.size*k.toNat)=sX:=by
  rw[LS hlen];show aD
 have oN:mY (λx1 x2=>x1++x2) #[] (a7 (if rf.toArray.isEmpty=sX then 0 else k.toNat) rf.toArray)=(a7 k.toNat rf).flatten.toArray:=by
  have f0:∀m:Nat,mY (λx1 x2=>x1++x2) #[] (a7 m rf.toArray)=(a7 m rf).flatten.toArray:=λm=>by
   have:=foldl_rep rf m [];rw[fX]at this;show this
  rw[f0];cases rf with
  |nil=>simp
  |cons a r'=>rw[if_neg (by simp)]
 show wpAny_binaryOp_repeat_ref (T:="list") (U:="int") #[6] ⟨_,e,Y⟩ (λs'=>typeIs_int s' k t) noFill_list_mul F.fills_int_mul F.slot_int_rmul repeat_list F.slot_int_index.lookup
  (dA F.slot_int_rmul (typeIs_int s k t) F.entry_int_rmul (F.args_int_rmul_2 _ _) (int___rmul___int_list k t l rf.toArray n)
   ⟨e,Y,⟨_,e,Y⟩,dA F.slot_list_mul ⟨_,e,Y⟩ F.entry_list_mul (F.args_list_mul_2 _ _) (AutoListH.list___mul___list_int_3 l rf.toArray n k t oO oP oK) ⟨e,?_⟩⟩)
 rw[oN];show⟨.ref _,_,I.z8 (t':=s.toks) (r.rep k.toNat) (by rw[len_rep,Nat.mul_comm];show hz),Y,q _ I.fresh⟩
section
variable {prog:a9}
set_option maxRecDepth 100000 in
end
section
variable {κ:Type} [DecidableEq κ]
noncomputable def yZ(kvs:List (κ×V))(k:κ):Option V:=(kvs.find? λkv=>decide (kv.1=k)).map (·.2)
noncomputable def putK(kvs:List (κ×V))(k:κ)(v:V):List (κ×V):=
 if (kvs.any λkv=>decide (kv.1=k))=sX then kvs.map (λkv=>if kv.1=k then(kv.1,v)else kv)else kvs++[(k,v)]
noncomputable def AV(kvs:List (κ×V))(k:κ):List (κ×V):=kvs.filter λkv=>decide (kv.1≠k)
def Gd{k:κ}:yZ ([]:List (κ×V)) k=y:=rfl
def zU{k:κ}(e:p.1=k):yZ (p::r) k=E p.2:=by simp[yZ,fY,e]
def zV{k:κ}(e:¬p.1=k):yZ (p::r) k=yZ r k:=by simp[yZ,fY,e]
theorem Ep(k:κ):∀kvs:List (κ×V),(kvs.any λkv=>decide (kv.1=k))=(yZ kvs k).isSome
 |[]=>rfl
 |p::r=>by
  rw[iE]
  by_cases e:p.1=k
  ·simp only[zU e,decide_eq_true e,Bool.true_or,Option.isSome_some]
  ·rw[zV e,decide_eq_false e,Bool.false_or];show Ep k r
theorem LR(k j:κ)(sZ:V):∀kvs:List (κ×V),yZ (kvs.map λkv=>if kv.1=k then(kv.1,sZ)else kv) j=(yZ kvs j).map λx=>if j=k then sZ else x
 |[]=>rfl
 |p::r=>by
  have ih:=LR k j sZ r;rw[ba]
  by_cases h:p.1=k
  ·rw[if_pos h]
   by_cases e:p.1=j
   ·rw[zU (p:=(p.1,sZ)) e,zU e,j3,if_pos<|e.symm.trans h]
   ·rw[zV (p:=(p.1,sZ)) e,zV e,ih]
  ·rw[if_neg h]
   by_cases e:p.1=j
   ·rw[zU (p:=p) e,zU e,j3,if_neg (λz=>h<|e.trans z)]
   ·rw[zV (p:=p) e,zV e,ih]
theorem MV(k j:κ)(sZ:V):∀kvs:List (κ×V),yZ kvs k=y->yZ (kvs++[(k,sZ)]) j=if j=k then E sZ else yZ kvs j
 |[],_=>by
  by_cases e:k=j
  ·rw[if_pos e.symm];show zU (p:=(k,sZ)) e
  ·rw[if_neg λz=>e z.symm];show zV (p:=(k,sZ)) e
 |p::r,hn=>by
  rw[List.cons_append];have hk:¬p.1=k:=λz=>by rw[zU z]at hn;cases hn
  rw[zV hk]at hn;have ih:=MV k j sZ r hn
  by_cases e:p.1=j
  ·rw[zU e,zU e,if_neg (λz=>hk<|e.trans z)]
  ·rw[zV e,zV e,ih]
theorem UH(kvs:List (κ×V))(k j:κ)(sZ:V):yZ (putK kvs k sZ) j=if j=k then E sZ else yZ kvs j:=by
 unfold putK
 by_cases a:(kvs.any λkv=>decide (kv.1=k))=sX
 ·rw[if_pos a,LR];rw[Ep]at a
  by_cases e:j=k
  ·obtain⟨x,hx⟩:=gY.mp a;rw[if_pos e,e,hx,j3,if_pos rfl]
  ·rw[if_neg e];cases yZ kvs j with
   |none=>rfl
   |some x=>rw[j3,if_neg e]
 ·rw[if_neg a];show MV k j sZ kvs ?_;rw[Ep]at a;cases q:yZ kvs k with
  |none=>rfl
  |some x=>rw[q]at a;show(a Y).elim
def ND(kvs:List (κ×V))(k:κ)(v:V):(putK kvs k v).length<=kvs.length+1:=by
 unfold putK
 split
 ·rw[aa];lia
 ·rw[ao,aT,cW];lia
theorem ja.sy{o:Option V}{u:Option sV}(r:ja o u):o.isSome=u.isSome:=by
 cases o with
 |none=>cases u with
  |none=>rfl
  |some _=>show(show False from r).elim
 |some _=>cases u with
  |none=>show(show False from r).elim
  |some _=>rfl
theorem KV.val{kvs:List (κ×V)}(r:KV kvs vs)(k:κ):ja (yZ kvs k) (lD vs k):=by
 unfold KV at r
 induction r with
 |nil=>show cm
 | @cons p q ps qs h t ih=>
  obtain⟨h1,h2⟩:=h
  by_cases e:p.1=k
  ·have e':q.1=k:=h1.symm.trans e;have b:lD (q::qs) k=E q.2:=by simp[lD,fY,e']
   rw[zU e,b];show h2
  ·have e':¬q.1=k:=λz=>e<|h1.trans z;have b:lD (q::qs) k=lD qs k:=by simp[lD,fY,e']
   rw[zV e,b];show ih
theorem KV.any{kvs:List (κ×V)}(r:KV kvs vs)(k:κ):(kvs.any λkv=>decide (kv.1=k))=vs.any λkv=>decide (kv.1=k):=by
 unfold KV at r
 induction r with
 |nil=>rfl
 |cons h t ih=>rw[iE,iE,ih,h.1]
theorem KV.Bz{kvs:List (κ×V)}(r:KV kvs vs)(k:κ)(ry:RelV sZ u):
  KV (kvs.map λkv=>if kv.1=k then(kv.1,sZ)else kv) (vs.map λkv=>if kv.1=k then(kv.1,u)else kv):=by
 unfold KV at r⊢
 induction r with
 |nil=>show .nil
 | @cons p q ps qs h t ih=>
  rw[ba,ba];show .cons ?_ ih;obtain⟨h1,h2⟩:=h
  by_cases e:p.1=k
  ·rw[if_pos e,if_pos<|h1.symm.trans e];show⟨h1,ry⟩
  ·rw[if_neg e,if_neg (λz=>e<|h1.trans z)];show⟨h1,h2⟩
def KV.put{kvs:List (κ×V)}(r:KV kvs vs)(k:κ)(ry:RelV sZ u):KV (putK kvs k sZ) (stored vs k u):=by
 unfold putK stored;rw[r.any k]
 by_cases e:(vs.any λkv=>decide (kv.1=k))=sX
 ·rw[if_pos e,if_pos e];show r.Bz k ry
 ·rw[if_neg e,if_neg e];show Paired.snoc r ⟨Y,ry⟩
theorem KV.drop{kvs:List (κ×V)}(r:KV kvs vs)(k:κ):KV (AV kvs k) (without vs k):=by
 unfold KV at r⊢;unfold AV without
 induction r with
 |nil=>show .nil
 | @cons p q ps qs h t ih=>
  obtain⟨h1,h2⟩:=h;rw[iK,iK]
  by_cases e:p.1=k
  ·have a:¬decide (p.1≠k)=sX:=by simp[e]
   have b:¬decide (q.1≠k)=sX:=by simp[h1.symm.trans e]
   rw[if_neg a,if_neg b];show ih
  ·have e':¬q.1=k:=λz=>e<|h1.trans z;have a:decide (p.1≠k)=sX:=by simp[e]
   have b:decide (q.1≠k)=sX:=by simp[e']
   rw[if_pos a,if_pos b];show .cons ⟨h1,h2⟩ ih
def KV.length{kvs:List (κ×V)}(r:KV kvs vs):kvs.length=vs.length:=Paired.length r
def UG(kvs:List (κ×V))(k:κ):(AV kvs k).length<=kvs.length:=dm _ _
end
theorem Cy{k:Key}(r:RelV (kV k) u):(yr P w).is k u=sX:=by
 cases k with
 |inl i=>obtain⟨t,e⟩:=(show∃t,u=fR i t from r);subst e;show Zg P w i t
 |inr x=>obtain⟨t,e⟩:=(show∃t,u=gx x t from r);subst e;show Zf P w x t
theorem MU{P:a9}{w:World}:∀{ks:List Key} {us:List sV},Vals (ks.map kV) us->ItemsAre (yr P w) ks us
 |[],_,r=>by rw[n5]at r;cases r;show .nil
 |k::ks,_,r=>by
  rw[ba]at r;cases r with
  |cons h t=>show .cons (Cy h) (MU t)
abbrev KT(H:Hp):List (List Key×V)->List (List Key×sK×sV)->Prop:=Paired λp q=>p.1=q.1/\H q.2.1=E (.tup<|p.1.map kV)/\RelV p.2 q.2.2
theorem KT.val{kvs:List (List Key×V)}{xs:List (List Key×sK×sV)}(r:KT H kvs xs)(k:List Key):ja (yZ kvs k) ((atKey xs k).map (·.2)):=by
 induction r with
 |nil=>show cm
 | @cons p q ps qs h t ih=>
  obtain⟨h1,_,h2⟩:=h
  by_cases e:p.1=k
  ·have e':q.1=k:=h1.symm.trans e;have b:atKey (q::qs) k=E q.2:=by simp[atKey,fY,e']
   rw[zU e,b];show h2
  ·have e':¬q.1=k:=λz=>e<|h1.trans z;have b:atKey (q::qs) k=atKey qs k:=by simp[atKey,fY,e']
   rw[zV e,b];show ih
theorem KT.Bz{kvs:List (List Key×V)}{xs:List (List Key×sK×sV)}(r:KT H kvs xs)(k:List Key)(ry:RelV sZ u):
  KT H (kvs.map λkv=>if kv.1=k then(kv.1,sZ)else kv) (xs.map<|putAt k u):=by
 induction r with
 |nil=>show .nil
 | @cons p q ps qs h t ih=>
  rw[ba,ba];show .cons ?_ ih;obtain⟨h1,h2,h3⟩:=h;unfold putAt
  by_cases e:p.1=k
  ·rw[if_pos e,if_pos<|h1.symm.trans e];show⟨h1,h2,ry⟩
  ·rw[if_neg e,if_neg (λz=>e<|h1.trans z)];show⟨h1,h2,h3⟩
def KT.put{kvs:List (List Key×V)}{xs:List (List Key×sK×sV)}(r:KT H kvs xs)(k:List Key){b:sK}(hb:H b=E (.tup<|k.map kV))(ry:RelV sZ u):
  KT H (putK kvs k sZ) (storedH xs k b u):=by
 have e:(kvs.any λkv=>decide (kv.1=k))=(atKey xs k).isSome:=by
  rw[Ep,(r.val k).sy,ix]
 unfold putK storedH;rw[e]
 by_cases q:(atKey xs k).isSome=sX
 ·rw[if_pos q,if_pos q];show r.Bz k ry
 ·rw[if_neg q,if_neg q];show Paired.snoc r ⟨Y,hb,ry⟩
def KT.keeps{kvs:List (List Key×V)}{xs:List (List Key×sK×sV)}(r:KT H kvs xs)(ht:∀b ys,H b=E (.tup ys)->H' b=E (.tup ys)):KT H' kvs xs:=
 Paired.z7 r λ_ _ z=>⟨z.1,ht _ _ z.2.1,z.2.2⟩
section
variable {h:Heap}
def Jw{u:HO}(ok:sD P w H h)(e:Rd H a u):xP P w H h a u:=e.ok ok
def Cw(ok:sD P w H h)(e:Rd H a (.dK kvs)):kvs.length<=aK/\(a==eM)=sJ/\∃vs,KV kvs vs/\h.DictOf (yr P w) a vs:=
 show xP P w H h a (.dK kvs)from Jw ok e
def Jv(ok:sD P w H h)(e:H a=E (.dK kvs)):kvs.length<=aK/\(a==eM)=sJ/\∃vs,KV kvs vs/\h.DictOf (yr P w) a vs:=Cw ok (.inl e)
def DY(ok:sD P w H h)(e:H a=E (.tup<|ks.map kV)):(l7<|yr P w).is h ks a:=by
 obtain⟨_,rf,r,o,h1,h2,n,h3⟩:=(show xP P w H h a (.tup<|ks.map kV)from ok a _ e);show⟨o,rf.toArray,n,h1,h2,h3,by simpa using MU r⟩
theorem DI{kvs:List (List Key×V)}(ok:sD P w H h)(e:Rd H a (.dT kvs)):kvs.length<=aK/\(a==eM)=sJ/\
  ∃xs,KT H kvs xs/\h.DictOfH (l7<|yr P w) a xs:=by
 obtain⟨z,sZ,xs,r,o,es,ep,h1,h2,h3,h4,h5⟩:=(show xP P w H h a (.dT kvs)from Jw ok e);show⟨z,sZ,xs,r,o,es,ep,h1,h2,h3,h4,λx hx=>?_,h5⟩;have all:∀{l:List (List Key×V)} {m:List (List Key×sK×sV)},KT H l m->∀x∈m,(l7<|yr P w).is h x.1 x.2.1:=by
  intro l m q
  induction q with
  |nil=>intro x hx;show nomatch hx
  | @cons p q ps qs hq t ih=>
   intro x hx;rcases aB.mp hx with e|hx
   ·subst e;show DY ok (by rw[<-hq.1];show hq.2.1)
   ·show ih x hx
 show all r x hx
def QE{kvs:List (List Key×V)}(ok:sD P w H h)(e:H a=E (.dT kvs)):kvs.length<=aK/\(a==eM)=sJ/\
  ∃xs,KT H kvs xs/\h.DictOfH (l7<|yr P w) a xs:=DI ok (.inl e)
end
def Aw(H:Hp)(a:sK)(sZ:V)(r:Option V):Prop:=
 (∃kvs k,Rd H a (.dK kvs)/\sZ=kV k/\r=yZ kvs k)\/∃kvs k b,Rd H a (.dT kvs)/\sZ= .ref b/\H b=E (.tup<|k.map kV)/\r=yZ kvs k
def Bb(H:Hp)(a:sK)(sZ v:V)(H':Hp):Prop:=
 (∃kvs k,H a=E (.dK kvs)/\sZ=kV k/\kvs.length<aK/\H'=upd H a (.dK<|putK kvs k v))\/
 ∃kvs k b,H a=E (.dT kvs)/\sZ= .ref b/\H b=E (.tup<|k.map kV)/\kvs.length<aK/\H'=upd H a (.dT<|putK kvs k v)
theorem Aw.k{k:Key}(e:H a=E (.dK kvs)):Aw H a (kV k) (yZ kvs k):=.inl ⟨kvs,k,.inl e,Y,Y⟩
theorem Bb.k{k:Key}{v:V}(e:H a=E (.dK kvs))(hl:kvs.length<aK):Bb H a (kV k) v (upd H a (.dK<|putK kvs k v)):=.inl ⟨kvs,k,e,Y,hl,Y⟩
section
variable {v:V} {r:sV} {o:Option V}
def Inv.big(I:Inv X pins σ H s):eM<s.heap.objs.size:=by
 have h:cg<s.heap.objs.size:=(I.mod.glob.keeps I.bk).lt;show Nat.lt_trans #[6] h
def OX(hu:A.units+1<cLine)(I:Inv X pins σ H s)(g:Aw H a sZ o)(ry:RelV sZ u)(h:∀s',Inv X pins σ H s'->Q (.bool o.isSome) s'):
  wpAny #[3] A (bH .In u<|.ref a) Q sQ s:=by
 rcases g with⟨kvs,k,e,ey,l⟩|⟨kvs,k,b,e,ey,eb,l⟩
 ·subst ey;obtain⟨z,hd,vs,rel,dd⟩:=Cw I.rh e;show wpAny_in_of (Cy ry) hd dd.mapOf ?_;rw[<-(rel.val k).sy,<-l];show h _ (I.tok _)
 ·subst ey;cases (show u=aS b from ry);obtain⟨z,hd,xs,rel,dd⟩:=DI I.rh e;show wpAny_in_heap (kM hu) (DY I.rh eb) hd dd ?_;have q:=(rel.val k).sy;rw[ix]at q;rw[<-q,<-l];show h _ (I.tok _)
def SW(hu:A.units+1<cLine)(I:Inv X pins σ H s)(g:Aw H a sZ o)(ry:RelV sZ u)(h:∀s',Inv X pins σ H s'->Q (.bool<|!o.isSome) s'):
  wpAny #[3] A (bH .NotIn u<|.ref a) Q sQ s:=by
 rcases g with⟨kvs,k,e,ey,l⟩|⟨kvs,k,b,e,ey,eb,l⟩
 ·subst ey;obtain⟨z,hd,vs,rel,dd⟩:=Cw I.rh e;show mG (Cy ry) hd dd.mapOf ?_;rw[<-(rel.val k).sy,<-l];show h _ (I.tok _)
 ·subst ey;cases (show u=aS b from ry);obtain⟨z,hd,xs,rel,dd⟩:=DI I.rh e;show wpAny_notIn_heap (kM hu) (DY I.rh eb) hd dd ?_;have q:=(rel.val k).sy;rw[ix]at q;rw[<-q,<-l];show h _ (I.tok _)
def F0(I:Inv X pins σ H s)(mu:Dq (H a))(hs:i7 a s.heap h')(he:∃q,h'.get? a=E q)(new:xP X.prog X.w (upd H a ob) h' a ob):
  Inv X pins σ (upd H a ob) {s with heap:=h',toks:=t'}:=
 I.write (x:=a) (e:=a) mu (.inl Y) (λb q hb z=>(hs.2 b hb).trans z) he new
def FD(z:kvs.length<=aK)(hd:(a==eM)=sJ)(rel:KV kvs vs)(dd:h'.DictOf (yr P w) a vs):
  xP P w H' h' a (.dK kvs):=⟨z,hd,vs,rel,dd⟩
def WB{Q:Unit->ag->Prop}(hu:A.units+1<cLine)(I:Inv X pins σ H s)(g:Bb H a sZ v H')(ry:RelV sZ u)(rv:RelV v r)(h:∀s',Inv X pins σ H' s'->Q () s'):
  wpAny #[3] A (setItem (.ref a) u r) Q sQ s:=by
 rcases g with⟨kvs,k,e,ey,l,eH⟩|⟨kvs,k,b,e,ey,eb,l,eH⟩
 ·subst ey eH;obtain⟨z,hd,vs,rel,dd⟩:=Jv I.rh e;have hz:vs.length<=aK:=by rw[<-rel.length];show z
  have hl:(putK kvs k v).length<=aK:=by have:=ND kvs k v;lia
  show wpAny_setItem_pairs (hsz:=hz) (Cy ry) dd λh' oK hs=>h _ ?_;have he:∃q,h'.get? a=E q:=let⟨q,_,_,hq,_⟩:=oK;⟨q,hq⟩
  show F0 I (by rw[e];show cm) hs he (FD hl hd (rel.put k rv) oK)
 ·subst ey eH;cases (show u=aS b from ry);obtain⟨z,hd,xs,rel,dd⟩:=QE I.rh e;have hz:xs.length<=aK:=by rw[<-Paired.length rel];show z
  have hl:(putK kvs k v).length<=aK:=by have:=ND kvs k v;lia
  show wpAny_setItem_heap (hsz:=hz) (kM hu) (DY I.rh eb) dd λh' oK hs=>h _ ?_;obtain⟨q,es,ep,hq,h2,h3,h4,_,h5⟩:=oK;show F0 I (by rw[e];show cm) hs ⟨q,hq⟩ ⟨hl,hd,_,(rel.put k eb rv).keeps λc ys ec=>?_,q,es,ep,hq,h2,h3,h4,h5⟩;rw[xl<|zt ec e λz=>nomatch z];show ec
end
section
variable {k:Key}
theorem QD{v:V}(I:Inv X pins σ H s)(e:H a=E (.dK kvs))(ry:RelV (kV k) u)(l:yZ kvs k=E v)(hm:more=[]\/∃x,more=[x])
  (h:∀w' s',Inv X pins σ (upd H a (.dK<|AV kvs k)) s'->RelV v w'->Q w' s'):wpAny #[3] A (call (.builtin "dict.pop")<|.ref a::u::more) Q sQ s:=by
 obtain⟨z,hd,vs,rel,dd⟩:=Jv I.rh e;obtain⟨w',hw,oN⟩:=ja.some_of (v:=v) (o:=lD vs k) (by rw[<-l];show rel.val k);have hp:(keyPart u).isSome=sX:=by
  cases k with
  |inl i=>obtain⟨t,q⟩:=(show∃t,u=fR i t from ry);subst q;rfl
  |inr x=>obtain⟨t,q⟩:=(show∃t,u=gx x t from ry);subst q;rfl
 have ha:argsOk "dict.pop" ⟨.ref a::u::more,[]⟩:=by
  rcases hm with q|⟨x,q⟩
  ·subst q;show PySem.F.args_dict_pop_2 _ _
  ·subst q;show PySem.F.args_dict_pop_3 _ _ _
 show call_meetsIn PySem.F.slot_dict_pop dd.typeIs PySem.F.entry_dict_pop ha (meets_dict_pop_there (yr X.prog X.w) a (Cy ry) more hm hp)
  ⟨vs,w',dd,by rw[<-rel.length];show z,hw,λh' oK hs=>h w' _ ?_ oN⟩
 have he:∃q,h'.get? a=E q:=let⟨q,_,_,hq,_⟩:=oK;⟨q,hq⟩
 show F0 I (by rw[e];show cm) hs he (FD (aQ (UG kvs k) z) hd (rel.drop k) oK)
def QC(I:Inv X pins σ H s)(e:Rd H a (.dK kvs))(h:∀t s',Inv X pins σ H s'->Q (.int kvs.length t) s'):wpAny #[3] A (call (.builtin "len") [.ref a]) Q sQ s:=by
 obtain⟨z,hd,vs,rel,dd⟩:=Cw I.rh e;show call_len_dict hd dd (by rw[<-rel.length];rw[ak]at z;lia) ?_;rw[<-rel.length];show h _ _ (I.tok _)
end
def IM(i:Expr):Prop:=∀ov iv,mz i sJ ov iv=operate [ov,iv] (getItem ov iv)
theorem SV{id:String}
  (hl:iq (.type T) "__getitem__"=pure (E<|.builtin id)) (hs:IM slice)
  (h:wpAny #[1] A (eval value env) (λo rj=>wpAny #[1] A (eval slice env) (λi rg=>rg.TypeIs o T/\wpAny #[1] A (getItem o i) Q sQ rg) sQ rj) sQ s):
  wpAny #[1] A (eval (.Subscript value slice pos) env) Q sQ s:=by
 show Subscript_<|aR h (λo rj r6=>aR r6 (λi rg wF=>?_) λ_ _ x=>x) λ_ _ x=>x;obtain⟨hT,wF⟩:=wF;unfold nC;show ae ?_;rw[getitemInPython_of_ne hT.not_modules];show ae<|me hT hl ?_;have fin:wpAny #[1] A (mz slice sJ o i) (λr tI=>wpAny #[1] A (letTemporaryGo value o r >>= λ_=>pure r) Q sQ tI) sQ rg:=by
  rw[hs o i];show wpAny_operating (aR wF (λr tI wD=>ae (wpAny_letTemporaryGo<|ar wD)) λ_ _ x=>x)
 first
  |show ar (ae fin)
  |show ae (ar<|ae fin)
  |show ae fin
def OW(ty td:TE):TE:=λσ H Q=>ty σ H λsZ H1=>td σ H1 λx H2=>sE λa o=>tG (x= .ref a) (Aw H2 a sZ o) (Q (.bl o.isSome) H2)
def SU(ty td:TE):TE:=λσ H Q=>ty σ H λsZ H1=>td σ H1 λx H2=>sE λa o=>tG (x= .ref a) (Aw H2 a sZ o) (Q (.bl<|!o.isSome) H2)
def QB(td ty tv:TE):TS:=λD σ H=>tv σ H λv H1=>td σ H1 λx H2=>ty σ H2 λsZ H3=>sE λa H4=>x= .ref a/\Bb H3 a sZ v H4/\D.nx σ H4
section
variable {i value:Expr} {pos' Ic:Pos} {td ty tv:TE}
def DX(hu:X.A.units+1<cLine)(hi:PE X i ty)(ho:PE X o td):PC X .In i o (OW ty td):=by
 intro pins s σ H Q I h;show xQ (hi pins s σ H _ I h) λiv s1 sZ H1 I1 ry q1=>xQ (ho pins s1 σ H1 _ I1 q1) λu s2 x H2 I2 rx ⟨a,ov,ex,g,q2⟩=>?_;subst ex;obtain rfl:u=aS a:=rx;show OX hu I2 g ry λs3 I3=>⟨.bl ov.isSome,H2,I3,Y,q2⟩
def WA(hu:X.A.units+1<cLine)(hi:PE X i ty)(ho:PE X o td):PC X .NotIn i o (SU ty td):=by
 intro pins s σ H Q I h;show xQ (hi pins s σ H _ I h) λiv s1 sZ H1 I1 ry q1=>xQ (ho pins s1 σ H1 _ I1 q1) λu s2 x H2 I2 rx ⟨a,ov,ex,g,q2⟩=>?_;subst ex;obtain rfl:u=aS a:=rx;show SW hu I2 g ry λs3 I3=>⟨.bl<|!ov.isSome,H2,I3,Y,q2⟩
def FZ(hu:X.A.units+1<cLine)(ho:PE X o td)(hi:PE X i ty)(hv:PE X value tv)(hs:iU value (E<|.Subscript o i pos') pos.line X.env=pure sJ):
  PS X (.Assign [.Subscript o i pos'] value pos) (QB td ty tv):=by
 intro pins s σ H D I h;show wpAny_Assign_Subscript (xQ (hv pins s σ H _ I h) λr s1 v H1 I1 rv q1=>xQ (ho pins s1 σ H1 _ I1 q1) λu s2 x H2 I2 rx q2=>xQ (hi pins s2 σ H2 _ I2 q2) λiv s3 sZ H3 I3 ry ⟨a,H4,ex,g,q3⟩=>?_) hs;subst ex;obtain rfl:u=aS a:=rx;show WB hu I3 g ry rv λs4 I4=>⟨σ,H4,I4,q3⟩
end
def UE(h:Heap)(hb:eM<h.objs.size):xP P w H (h.push {cls:=.type "dict",data:=.dict #[]}) h.objs.size (.dK []):=
 ⟨aX _,beq_eq_false_iff_ne.mpr (aW<|aC hb),[],.nil,oF h⟩
def Q2:TE:=λ_ H Q=>∀p,H p=y->Q (.ref p) (upd H p<|.dK [])
def Gb:PE X (.Dict [] [] pos) Q2:=λpins s σ H Q I h=>
 wpAny_Dict_empty ⟨.ref s.heap.objs.size,_,I.laid (a:=s.heap.objs.size) (o:=.dK []) (t':=s.toks) (λ_ _ q=>af _ q) (ah _)<|UE s.heap I.big,Y,h _ (I.rh.fresh<|ah _)⟩
structure M1(X:Cx)(o:Expr)(m:Str)(apos:Pos)(e:Expr)(r9:Pos):Prop where
 base:gD o m X.env (eval o X.env)=eval o X.env
 few:((bY r9<|aM [e] X.env).all (λx=> !x.1)&&(ku r9<|gG [] X.env).all (λx=>x.1.isSome)
  &&decide (([e]:List Expr).length+([]:List Keyword).length+(if ([]:List Keyword).isEmpty then 0 else 1)<30))=sX
 line:(apos.endLine==r9.line)=sX
 trees:bY r9 (aM [e] X.env)=[(sJ,eval e X.env)]
def OM(H:Hp)(a:sK):Prop:=(∃kvs,Rd H a<|.dK kvs)\/∃kvs,Rd H a (.dT kvs)
def Q1(I:Inv X pins σ H s)(d:OM H a):
  s.TypeIs (.ref a) "dict"/\(∀b,aS a= .ref b->∃ob,s.heap.get? b=E ob/\ob.dict=y)/\(a==eM)=sJ:=by
 rcases d with⟨kvs,e⟩|⟨kvs,e⟩
 ·obtain⟨_,hd,vs,_,dd⟩:=Cw I.rh e;show⟨dd.typeIs,λb q=>?_,hd⟩;cases q;obtain⟨ob,_,_,h1,h2,_⟩:=dd;show⟨ob,h1,h2.2.1⟩
 ·obtain⟨_,hd,xs,_,dd⟩:=DI I.rh e;show⟨dd.typeIs,λb q=>?_,hd⟩;cases q;obtain⟨ob,_,_,h1,h2,_⟩:=dd;show⟨ob,h1,h2.2.1⟩
section
variable {d:V} {r:sV} {o:Option V}
end
def Q0(td ty:TE):TE:=λσ H Q=>td σ H λx H1=>∃a,x= .ref a/\OM H1 a/\ty σ H1 λsZ H2=>tK λkvs k v=>sU (H2 a=E (.dK kvs)) (sZ=kV k) (yZ kvs k=E v) (Q v<|upd H2 a (.dK<|AV kvs k))
section
variable {f:Expr} {apos r9:Pos} {td ty tx:TE}
def UD(ho:PE X o td)(he:PE X e ty)(m:M1 X o "pop" apos e r9):PE X (.Call (.Attribute o "pop" apos) [e] [] r9) (Q0 td ty):=by
 intro pins s σ H Q I h;show wpAny_Call_method m.base m.few m.line PySem.F.plainAttrs_dict PySem.F.slot_dict_pop PySem.F.type_dict_pop<|xQ (ho pins s σ H _ I h) λu s1 x H1 I1 rx ⟨a,ex,d,q1⟩=>?_;subst ex;obtain rfl:u=aS a:=rx;obtain⟨t1,t2,_⟩:=Q1 I1 d;show⟨t1,t2,?_⟩;rw[m.trees];show iz rfl<|mX (gW<|xQ (he pins s1 σ H1 _ I1 q1) λiv s2 sZ H2 I2 ry ⟨kvs,k,v,ea,ey,l,q2⟩=>iw ?_);subst ey;show QD I2 ea ry l (.inl Y) λw' s3 I3 oK=>⟨v,_,I3,oK,q2⟩
end
end Internal.L2
namespace Att
open PySem PySem.W PySem.Calls PyProof.Rows
theorem xf0:∀(ns:List Int) (vs:List sV),WellAll P h vs (ns.map WData.int)->cX vs ns:=by
 intro ns
 induction ns with
 |nil=>
  intro vs w;rw[n5]at w;cases w;show .nil
 |cons n ns ih=>
  intro vs w;rw[ba]at w;cases w with
  |cons a b=>
   cases a;show .cons _ _ (ih _ b)
theorem Wz{l:OpenLaw}(hn:l.most=E n){P:Params}{h:Heap}{args:List WData}{vals:List sV}
  (oK:l.row.toRowW.claim.pre args=sX) (oO:WellAll P h vals args):
  ∃a vs ns,vals=[aS a]/\args=[WData.list<|ns.map WData.int]/\h.get? a=E {cls:=.type "list",data:=.seq vs.toArray}/\cX vs ns/\ns.length<=n:=by
 have oP:WShape.hasAll [] args [.list .int]=sX:=(pre_splitW oK).1;have hc:l.pre.holds [] {args:=args}=sX:=(pre_splitW oK).2;obtain⟨d,r,rfl,h1,h2⟩:=hasAllW_cons oP;obtain rfl:=hasAllW_nil h2;obtain⟨xs,rfl,h3⟩:=hasW_list h1;obtain⟨ns,rfl⟩:=items_int h3;have hlen:ns.length<=n:=by
  unfold OpenLaw.pre at hc;have h4:(WTm.not (.lt (.lit<|.int (n:Int)) (.len<|.arg 0))).holds [] {args:=[.list<|ns.map .int]}=sX:=by
   have h4:=(holds_andW hc).1;rw[hn]at h4;show h4
  have h5:=condW_of h4 (w_not<|w_lt w_lit (w_len_list<|w_arg Y));rw[aa]at h5;show Nat.le_of_not_lt λq=>?_;have q':(n:Int)<((ns.length:Nat):Int):=by omega
  first
   |(rw[decide_eq_true q']at h5;show absurd h5 (by decide))
   |(simp at h5;omega)
 cases oO with
 |cons w1 w2=>
  cases w2;cases w1 with
  |list ho oN=>show⟨_,_,ns,Y,Y,ho,xf0 ns _ oN,hlen⟩
def Wy(l:OpenLaw)(args:List WData):l.row.toRowW.claim.post args (.bool sX) args=sX:=
 postW_of (r:=l.row.toRowW) (X:=(sX==sX))
  (show WShape.has [] (.bool sX) .bool=sX by first|rfl|decide|simp[WShape.has,WShape.arms,WShape.armsAll])
  (show(WTm.eq .res (.lit<|.bool sX)).value [] {args:=args,res:=E<|.bool sX,after:=args}=E (.bool<|sX==sX)from w_eq_bool (w_res Y) w_lit) rfl
def Zd{l:OpenLaw}{XP:(Str->Option sV)->Heap->Prop}{YP:World->Heap->Prop}{d:DefRec}
  (hn:l.most=E n) (oR:d.params.defaults=[])
  (call:∀(w:World) (s₀ rj:ag) (mg mb:Str->Option sV) (fa:sK) (o:Obj) (pm cd doc:sV) (a:sK) (vs:List sV) (ns:List Int),
   Ground q loose [] XP w s₀ mg mb rj.heap->YP w rj.heap->
   rj.heap.get? fa=E o->o.data= .func (docDef d.name d.params d.body d.scope pm cd doc)->rj.heap.CodeRec cd d.name->mg d.name=E (.ref fa)->
   rj.heap.get? a=E {cls:=.type "list",data:=.seq vs.toArray}->cX vs ns->ns.length<=n->rj.gens=#[]->
   cS (model l.prog w) lE (.call (.ref fa) ⟨[.ref a],[]⟩) (λr s'=>r= .ok (.ret (.bool sX))/\OldK rj.heap s'.heap/\s'.os=rj.os/\gr s'.gens) rj):
  WalkO q loose XP YP l.row.toRowW d [] (λf vs=>PySem.call f vs):=by
 intro w s₀ rj mg mb G rO fa o pm cd doc dV kV ho hd oS hD oP hg args vals as oK oQ oU oO oV;obtain rfl:dV= .none:=Dflts.none hD oR;obtain rfl:kV= .none:=Dflts.noKw hD;obtain⟨a,vs,ns,rfl,rfl,oN,hints,hlen⟩:=Wz hn oK oO;show enter_call<|dI (call w s₀ rj mg mb fa o pm cd doc a vs ns G rO ho (fd_plain hd) oS oP oN hints hlen hg) λr s' hq=>?_;obtain⟨rfl,h2,h3,h4⟩:=hq;show⟨.inl ⟨.bool sX,.bool sX,[],Y,λ_=>Y,.bool sX,Wy l _,λ_=>⟨List.Pairwise.nil,λ_ hm=>(nomatch hm)⟩⟩,h2,h3,h4⟩
section
variable {prog:a9} {w:World} {A:bx} {sQ:sV->ag->Prop} {s:ag} {K:Frag}
end
end Att
namespace Internal.L2
open PySem PySem.Spec PyProof.Rows
theorem GH:∀{vs:List sV} {ns:List Int},cX vs ns->Vals (ns.map V.int) vs
 |_,_,.nil=>.nil
 |_,_,.cons n t h=>.cons ⟨t,Y⟩ (GH h)
end Internal.L2
namespace Internal.L2
open PySem PySem.Spec PyProof.Rows
variable {H H' sd:Hp} {X:Cx} {pos p:Pos} {x qual:Str} {σ:St} {scope:Scope} {Q:VK} {a c tg e iter:Expr} {pins:List (sK×Obj)} {w:World} {K:ax} {st:Stmt} {env:Env} {rg:ag} {ta:TA} {P:a9} {f C:sK} {t:TE} {r:R2} {sZ:V} {cap:List Nat} {ys:List Str} {fp:List sK} {vs:List V} {us:List sV} {i:Int}
noncomputable def inClass(s:Stmt)(j:Nat):Stmt:=match s with
 | .ClassDef _ _ _ body _ _ _ _ _ _ _=>body.getD j (.Pass ⟨0,0,0,0⟩)
 |_=>.Pass ⟨0,0,0,0⟩
noncomputable def uF(s:Stmt):c9:=match s with
 | .FunctionDef _ a _ _ _ _ _ _ _ _=>a
 |_=>{posonlyargs:=[],args:=[],vararg:=y,kwonlyargs:=[],kw_defaults:=[],kwarg:=y,defaults:=[]}
noncomputable def yh(s:Stmt):List Stmt:=match s with
 | .FunctionDef _ _ b _ _ _ _ _ _ _=>b
 |_=>[]
noncomputable def xt(s:Stmt):Scope:=match s with
 | .FunctionDef _ _ _ _ _ _ sc _ _ _=>sc
 |_=>{kind:=.function,names:=[],isGenerator:=sJ,isCoroutine:=sJ}
abbrev sR:wY:=λ_ _ _ _ _ _=>False
abbrev E0:XK:=λ_ _ _=>False
def xn:Passes sR X E0:=λ_ _ _ _ _ _ _ h=>h.elim
structure wx(K:ax)(x qual:Str)(st:Stmt)(f:sK)(fd:ay):Prop where
 ex:∃(oc:sV) (od:Option sK) (kV doc pm:sV) (an:Option sK) (cdv ct:sV) (v9:Array (Option sV)),
  fd=gZ x qual (uF st) (yh st) (xt st) .none kV doc pm an cdv ct/\K.lookup f=E ⟨oc,od,.func fd,v9⟩/\mV K cdv qual=sX
 kp:gU K (.ref f)=sX
section
variable {mg:Str->Option sV} {base:Heap}
def wx.ok{k:Nat}(F:wx K x qual st f fd)(S:yd N ps (xt st))(len:∀vs H Q sQ,sp vs H Q sQ->vs.length=ps.length)
  (oK:∀(cdv:sV) (A:bx) (outer:List Env) (s:ag) (H:Hp) (vs:List V) (Q:VK) (sQ:XK),xR k (A.deeper<|fC qual (xt st) s.heap.objs.size f cdv)->sp vs H Q sQ->
   ∃t,sY (jw sR P w K mg base N qual (xt st) f cdv A outer s H sQ).w4 (yh st) t/\t {nx:=λ_ H'=>Q .rp H',rt:=Q} (start N vs) H):yA P w K mg base sR (k+1) f fd ps sp:=by
 obtain⟨oc,od,kV,doc,pm,an,cdv,ct,v9,rfl,lk,oO⟩:=F.ex;show DJ lk oO S len λA outer s H vs Q sQ hr oN=>?_;obtain⟨t,h,q⟩:=oK cdv A outer s H vs Q sQ hr oN;show⟨t,h.w4,q⟩
def wx.binds(F:wx K x qual st f fd)
  (h:∀(kV doc pm:sV) (an:Option sK) (cdv ct:sV) (us:List sV),us.length=ps.length->ko (gZ x qual (uF st) (yh st) (xt st) .none kV doc pm an cdv ct) ⟨us,[]⟩=pure (ps.zip us)):Binds K fd ps []:=by
 obtain⟨oc,od,kV,doc,pm,an,cdv,ct,v9,rfl,lk,oK⟩:=F.ex;show .all (h kV doc pm an cdv ct)
def xuk{kV:sV}(l:K.lookup f=E ⟨oc,od,.func<|gZ x qual (uF st) (yh st) (xt st) .none kV doc pm an cdv ct,v9⟩)
  (c:mV K cdv qual=sX) (k:gU K (.ref f)=sX):wx K x qual st f (gZ x qual (uF st) (yh st) (xt st) .none kV doc pm an cdv ct):=⟨⟨oc,od,kV,doc,pm,an,cdv,ct,v9,Y,l,c⟩,k⟩
end
def AU{k:Nat}(hr:xR k A):A.units+1<cLine:=dv (nH (by decide:1<=64) _) hr.units
def xf(H H':Hp):Prop:=∀b o,H b=E o->H' b=E o
def xf.refl(H:Hp):xf H H:=λ_ _ h=>h
def xf.trans(a:xf H H1)(b:xf H1 H2):xf H H2:=λc o h=>b c o (a c o h)
theorem xf.free(e:xf H H'){l:sK}(h:H' l=Option.none):H l=Option.none:=by
 cases q:H l with
 |none=>rfl
 |some o=>
  rw[e l o q]at h;cases h
def xf.seq{a:sK}(e:xf H H')(h:kq K H a xs):kq K H' a xs:=by
 rcases h with(h|⟨o,h⟩)|h
 ·show .inl (.inl<|e _ _ h)
 ·show .inl (.inr ⟨o,e _ _ h⟩)
 ·show .inr h
def Wx:yH X (.builtin "len") (λxs H Q=>∃a kvs,xs=[V.ref a]/\H a=E (.dK kvs)/\Q (.int kvs.length) H):=by
 intro pins s σ H xs us Q I r h;obtain⟨a,kvs,rfl,ha,q⟩:=h;obtain⟨u,rfl,ru⟩:=vals1 r;cases ru;show QC I (.inl ha) λt s' I'=>⟨.int kvs.length,H,I',⟨t,Y⟩,q⟩
section
variable {κ:Type} [DecidableEq κ]
theorem Lj:∀{l:List κ} {k:κ},l.Nodup->¬k∈l->(l++[k]).Nodup
 |[],k,_,_=>by simp
 |a::r,k,h,hk=>by
  obtain⟨h1,h2⟩:=cV.mp h;change(a::(r++[k])).Nodup;show cV.mpr ⟨λm=>?_,Lj h2 λm=>hk (aB.mpr<|dP m)⟩;rcases aZ.mp m with q|q
  ·show h1 q
  ·show hk (aB.mpr<|aG (ai.mp q).symm)
end
section
def PE.imp(h:PE X e t)(i:∀σ H Q,t' σ H Q->t σ H Q):PE X e t':=
 λpins s σ H Q I q=>h pins s σ H Q I (i σ H Q q)
def PT.imp{t:TT}(h:PT X e t)(i:∀σ H Q,t' σ H Q->t σ H Q):PT X e t':=
 λpins s σ H Q I q=>h pins s σ H Q I (i σ H Q q)
def sf.imp{f:sV->sV->Sem sV}(h:sf X f r)(i:∀x sZ H Q,r' x sZ H Q->r x sZ H Q):sf X f r':=
 λpins s σ H x sZ v u Q I rx ry q=>h pins s σ H x sZ v u Q I rx ry (i x sZ H Q q)
def BI.imp{f:sV->Sem sV}{r r':V->Hp->VK->Prop}(h:BI X f r)(i:∀x H Q,r' x H Q->r x H Q):BI X f r':=
 λpins s σ H x v Q I rx q=>h pins s σ H x v Q I rx (i x H Q q)
def yH.imp{f:sV}{r r':List V->Hp->VK->Prop}(h:yH X f r)(i:∀xs H Q,r' xs H Q->r xs H Q):yH X f r':=
 λpins s σ H xs us Q I rv q=>h pins s σ H xs us Q I rv (i xs H Q q)
def jM(h:PE X e t)(k:PE X e u):PE X e (λσ H Q=>t σ H Q\/u σ H Q):=
 λpins s σ H Q I q=>q.elim (λz=>h pins s σ H Q I z) (λz=>k pins s σ H Q I z)
def zv(i:Nat):TE:=λσ H Q=>match σ[i]? with
 |some (E v)=>Q v H
 |_=>False
def UC{i:Nat}(q:zv i σ H Q):Ja i σ H Q:=by
 unfold zv at q
 split at q
 ·rename_i v e;show⟨v,e,q⟩
 ·show q.elim
def cv(i:Nat)(hN:autoParam (X.N[i]? =E x) rJ)(hv:autoParam (BH X.env.scope x) rY)(hd:autoParam #[12] q9)
  (oK:autoParam ((x==("__classdict__":Str))=sJ) q9):PE X (.Name x pos) (zv i):=(FF hN hv hd oK).imp λ_ _ _ q=>UC q
def kI(C:Int->Int->Prop)(g:Int->Int->V):R2:=λx sZ H Q=>match x with
 | .int i=>(match sZ with
  | .int j=>C i j/\Q (g i j) H
  |_=>False)
 |_=>False
def AD(g:Int->Int->V):R2:=λx sZ H Q=>match x with
 | .int i=>(match sZ with
  | .int j=>Q (g i j) H
  |_=>False)
 |_=>False
theorem D7{C:Int->Int->Prop}{g:Int->Int->V}{x:V}(q:kI C g x sZ H Q):rI C g x sZ H Q:=by
 cases x with
 |int i=>
  cases sZ with
  |int j=>show⟨i,j,Y,Y,q.1,q.2⟩
  |_=>show aV q
 |_=>show aV q
theorem jE{g:Int->Int->V}{x:V}(q:AD g x sZ H Q):AA g x sZ H Q:=by
 cases x with
 |int i=>
  cases sZ with
  |int j=>show⟨i,j,Y,Y,q⟩
  |_=>show aV q
 |_=>show aV q
def yp:sf X (dE .Add) (AD λi j=>.int<|i+j):=Sx.imp λ_ _ _ _=>jE
def jN:sf X (dE .Sub) (AD λi j=>.int<|i - j):=Sw.imp λ_ _ _ _=>jE
def BU:sf X (dE .Mult) (kI Dx λi j=>.int<|i*j):=Sv.imp λ_ _ _ _=>D7
def Fu(_i j:Int):Prop:=0<j/\j.natAbs.log2<9000
def zW:sf X (dE .FloorDiv) (kI Fu λi j=>.int<|i / j):=
 (EM (C:=Fu) (g:=λi j=>i / j) λi j _ _ _ _ _ hc q=>by
  have h0:0<j:=hc.1;rw[<-Int.fdiv_eq_ediv_of_nonneg i (Int.le_of_lt h0)]at q;show floordiv_int (Int.ne_of_gt h0) q (.inl (lJ hc.2))).imp λ_ _ _ _=>D7
def zm:sf X (dE .Mod) (kI (λ_ j=>0<j) λi j=>.int<|i%j):=Su.imp λ_ _ _ _=>D7
def CD:sf X (dE .Pow) (kI Ji λi j=>.int<|i^j.toNat):=Ss.imp λ_ _ _ _=>D7
def wZ:sf X (bH .Lt) (AD λi j=>.bl<|decide (i<j)):=PV.imp λ_ _ _ _=>jE
def Co:sf X (bH .LtE) (AD λi j=>.bl<|decide (i<=j)):=PU.imp λ_ _ _ _=>jE
def Af:sf X (bH .Gt) (AD λi j=>.bl<|decide (j<i)):=PR.imp λ_ _ _ _=>jE
def Cn:sf X (bH .GtE) (AD λi j=>.bl<|decide (j<=i)):=PQ.imp λ_ _ _ _=>jE
def DH{a b:V}{p:Prop}[Decidable p](h:a=b↔p):decide (a=b)=decide p:=by
 by_cases e:p
 ·rw[decide_eq_true e,decide_eq_true<|h.mpr e]
 ·rw[decide_eq_false e,decide_eq_false (λq=>e<|h.mp q)]
def vS:sf X (bH .Eq) (AD λi j=>.bl<|decide (i=j)):=Jz.imp λx sZ H Q q=>by
 obtain⟨i,j,rfl,rfl,q⟩:=jE q;show⟨Y,by rw[DH (p:=i=j) ⟨λe=>V.int.inj e,λe=>by rw[e]⟩];show q⟩
def CC:sf X (bH .NotEq) (AD λi j=>.bl<|!decide (i=j)):=Jy.imp λx sZ H Q q=>by
 obtain⟨i,j,rfl,rfl,q⟩:=jE q;show⟨Y,by rw[DH (p:=i=j) ⟨λe=>V.int.inj e,λe=>by rw[e]⟩];show q⟩
def Iq(g:Str->Str->V):R2:=λx sZ H Q=>match x with
 | .str i=>(match sZ with
  | .str j=>Q (g i j) H
  |_=>False)
 |_=>False
theorem Li{g:Str->Str->V}{x:V}(q:Iq g x sZ H Q):∃i j,x= .str i/\sZ= .str j/\Q (g i j) H:=by
 cases x with
 |str i=>
  cases sZ with
  |str j=>show⟨i,j,Y,Y,q⟩
  |_=>show aV q
 |_=>show aV q
def jn:sf X (bH .Eq) (Iq λi j=>.bl<|decide (i=j)):=Jz.imp λx sZ H Q q=>by
 obtain⟨i,j,rfl,rfl,q⟩:=Li q;show⟨Y,by rw[DH (p:=i=j) ⟨λe=>V.str.inj e,λe=>by rw[e]⟩];show q⟩
def Ak:sf X (bH .NotEq) (Iq λi j=>.bl<|!decide (i=j)):=Jy.imp λx sZ H Q q=>by
 obtain⟨i,j,rfl,rfl,q⟩:=Li q;show⟨Y,by rw[DH (p:=i=j) ⟨λe=>V.str.inj e,λe=>by rw[e]⟩];show q⟩
def kU(g:Int->V):V->Hp->VK->Prop:=λx H Q=>match x with
 | .int i=>Q (g i) H
 |_=>False
theorem Ft:BI X (unaryOp .USub) (kU λi=>.int (-i)):=Sq.imp λx H Q q=>by
 cases x with
 |int i=>show⟨i,Y,q⟩
 |_=>show aV q
def CB(Q:Bool->Hp->Prop):VK:=λx H1=>match x with
 | .bl k=>Q k H1
 |_=>False
theorem Ce{Q:Bool->Hp->Prop}{x:V}(q:CB Q x H1):∃k,x= .bl k/\Q k H1:=by
 cases x with
 |bl k=>show⟨k,Y,q⟩
 |_=>show aV q
def cB(t:TE):TT:=λσ H Q=>t σ H (CB Q)
variable {b:Expr} {ta tb tc:TE} {tA C7:TT} {rest:List Expr}
def xA(ho:sf X (bH op) r)(ha:PE X a ta)(hb:PE X b tb)(hm:autoParam (dO op b=sJ) rB):PT X (.Compare a [op] [b] pos) (cB<|C6 r ta tb):=by
 intro pins s σ H Q I h;show iT (xQ (ha pins s σ H _ I h) λv s1 x H1 I1 r1 q1=>sj (hb pins s1 σ H1 _ I1 q1) λu s2 ⟨sZ,H2,I2,r2,q2⟩=>
  xQ (ho pins s2 σ H2 x sZ v u _ I2 r1 r2 q2) λc s3 z H3 I3 r3 q3=>?_) hm
 obtain⟨k,rfl,q⟩:=Ce q3;cases r3;show cH ⟨H3,I3,q⟩
def yQ(ho:sf X (bH op) r)(ha:PE X a ta)(hb:PE X b tb)(hm:autoParam (dO op b=sJ) rB):PE X (.Compare a [op] [b] pos) (C6 r ta tb):=Ut ho ha hb hm
def yb(h:PE X e t)(he:autoParam (∀whole,isTrue e X.env whole=(do let v <-whole;lC e.pos;fA [v]<|truthy v)) rV):PT X e (cB t):=by
 intro pins s σ H Q I hw;show isTrue_plain (xQ (h pins s σ H _ I hw) λv s1 x H1 I1 r1 q1=>?_)<|he _;obtain⟨d,rfl,q⟩:=Ce q1;cases r1;show cH ⟨H1,I1,q⟩
def OV(t u:TT):TT:=λσ H Q=>t σ H λc H1=>(c=sX->u σ H1 Q)/\(c=sJ->Q sJ H1)
def cOr(t u:TT):TT:=λσ H Q=>t σ H λc H1=>(c=sX->Q sX H1)/\(c=sJ->u σ H1 Q)
theorem vj(ha:PT X a tA)(hb:PW X (.BoolOp .And (b::rest) pos) C7):PW X (.BoolOp .And (a::b::rest) pos) (OV tA C7):=by
 intro wh pins s σ H Q I h;show isTrue_and<|Cp (ha pins s σ H _ I h) λc s1 H1 I1 q1=>?_;cases c with
 |true=>show hb wh pins s1 σ H1 Q I1 (q1.1 Y)
 |false=>show⟨H1,I1,q1.2 Y⟩
theorem vy(ha:PT X a tA)(hb:PW X (.BoolOp .Or (b::rest) pos) C7):PW X (.BoolOp .Or (a::b::rest) pos) (cOr tA C7):=by
 intro wh pins s σ H Q I h;show isTrue_or<|Cp (ha pins s σ H _ I h) λc s1 H1 I1 q1=>?_;cases c with
 |true=>show⟨H1,I1,q1.1 Y⟩
 |false=>show hb wh pins s1 σ H1 Q I1 (q1.2 Y)
def QA(ta tb:TE):TE:=λσ H Q=>ta σ H (CB λc H1=>(c=sX->tb σ H1 Q)/\(c=sJ->Q (.bl sJ) H1))
def PK(ta tb:TE):TE:=λσ H Q=>ta σ H (CB λc H1=>(c=sX->Q (.bl sX) H1)/\(c=sJ->tb σ H1 Q))
def Qz(ta:TE):TE:=λσ H Q=>ta σ H (CB λc H1=>Q (.bl<|!c) H1)
theorem zX(ha:PE X a ta)(hb:PE X (.BoolOp .And (b::rest) pos) tb):PE X (.BoolOp .And (a::b::rest) pos) (QA ta tb):=by
 intro pins s σ H Q I h;show BoolOp_and<|xQ (ha pins s σ H _ I h) λv s1 x H1 I1 r1 q1=>?_;obtain⟨c,rfl,q1⟩:=Ce q1;cases r1;show cH ?_;cases c with
 |true=>show hb pins s1 σ H1 Q I1 (q1.1 Y)
 |false=>show⟨.bl sJ,H1,I1,Y,q1.2 Y⟩
theorem Ju(ha:PE X a ta)(hb:PE X (.BoolOp .Or (b::rest) pos) tb):PE X (.BoolOp .Or (a::b::rest) pos) (PK ta tb):=by
 intro pins s σ H Q I h;show BoolOp_or<|xQ (ha pins s σ H _ I h) λv s1 x H1 I1 r1 q1=>?_;obtain⟨c,rfl,q1⟩:=Ce q1;cases r1;show cH ?_;cases c with
 |false=>show hb pins s1 σ H1 Q I1 (q1.2 Y)
 |true=>show⟨.bl sX,H1,I1,Y,q1.1 Y⟩
def QZ(ha:PE X a ta):PE X (.UnaryOp .Not a pos) (Qz ta):=by
 intro pins s σ H Q I h;show UnaryOp_<|xQ (ha pins s σ H _ I h) λv s1 x H1 I1 r1 q1=>?_;obtain⟨c,rfl,q1⟩:=Ce q1;cases r1;show not_of (cH ⟨.bl<|!c,H1,I1,Y,q1⟩)
def cIf(t:TT)(ta tb:TE):TE:=λσ H Q=>t σ H λc H1=>(c=sX->ta σ H1 Q)/\(c=sJ->tb σ H1 Q)
theorem Jt(hc:PT X c tA)(ha:PE X a ta)(hb:PE X b tb):PE X (.IfExp c a b pos) (cIf tA ta tb):=by
 intro pins s σ H Q I h;show wpAny_IfExp<|Cp (hc pins s σ H _ I h) λd s1 H1 I1 q1=>?_;cases d with
 |true=>show ha pins s1 σ H1 Q I1 (q1.1 Y)
 |false=>show hb pins s1 σ H1 Q I1 (q1.2 Y)
def PJ(c:TT)(t u:TS):TS:=λD σ H=>c σ H λb H1=>(b=sX->t D σ H1)/\(b=sJ->u D σ H1)
theorem xC{p:List Stmt}{tc:TT}{t:TS}(hc:PT X c tc)(ha:sY X p t)(hb:sY X q u):PS X (.If c p q pos) (PJ tc t u):=by
 intro pins s σ H D I h;show wpAny_If<|Cp (hc pins s σ H _ I h) λd s1 H1 I1 q1=>?_;cases d with
 |true=>show ha pins s1 σ H1 D I1 (q1.1 Y)
 |false=>show hb pins s1 σ H1 D I1 (q1.2 Y)
@[irreducible] def Ea(c:TT)(tb:TS)(D:Ends)(σ:St)(H:Hp):Prop:=∃W:Nat->St->Hp->Prop,(∃m,W m σ H)/\∀m σ H,W m σ H->
 c σ H λb H1=>(b=sX->∃N:St->Hp->Prop,(∀rq H',N rq H'->∃m',m'<m/\W m' rq H')/\tb {D with nx:=N,ct:=N,bk:=D.nx} σ H1)/\(b=sJ->D.nx σ H1)
def Ke(c:TT)(tb:TS):TS:=λD σ H=>Ea c tb D σ H
@[irreducible] def uo(J:It)(g:TG)(tb:TS)(D:Ends)(σ:St)(H1:Hp):Prop:=∃W:Nat->Nat->St->Hp->Prop,(∃m,W 0 m σ H1)/\∀i m σ H,W i m σ H->
 (J.stop i H/\D.nx σ H)\/(J.go i H/\∃N:St->Hp->Prop,(∀rq H',N rq H'->∃m',m'<m/\W (i+1) m' rq H')/\∀x H',J.A9 i H x H'->g x σ H' λtN H2=>tb {D with nx:=N,ct:=N,bk:=D.nx} tN H2)
def DC(wi:TI)(g:TG)(tb:TS):TS:=λD σ H=>wi σ H λJ H1=>uo J g tb D σ H1
def Lh(wi:TI)(g:TG)(tb:TS):DC wi g tb=Dz wi g tb:=by
 funext D σ H
 unfold DC Dz
 congr 1
 funext J H1
 unfold uo;rfl
def zc{g:TG}{tb:TS}(hp:PassesOwn #[3] X.A X.env X.xe)(hc:X.calm=sX)(hi:PI X tg iter wi)(hg:PG X tg g)(hb:sY X body tb)
  (hs:autoParam (∀x,fg iter X.env x=pure x) rV):PS X (.For tg iter body [] pos) (DC wi g tb):=by
 rw[Lh];show JZ hp hc hi hg hb hs
def PH(t:TS):TS:=λD σ H=>∃M:L2.St->Hp->Prop,t {D with nx:=M} σ H/\∀rq H',M rq H'->D.nx rq H'
theorem jO{t:TS}(h:PS X st t):PS X st (PH t):=by
 intro pins s σ H D I q;obtain⟨M,q1,q2⟩:=q;show sj (h pins s σ H _ I q1) λf s' z=>?_;cases f with
 |next=>obtain⟨rq,H',I',m⟩:=z;show⟨rq,H',I',q2 rq H' m⟩
 |brk=>show z
 |cont=>show z
 |ret v=>show z
end
noncomputable def zk(cells:List (Str×sK)):List (Str×eE)->List (Str×sK)->List (Str×sK)
 |[],cs=>cs
 |(n,k)::r,cs=>zk cells r (if k== .free then(n,(cells.lookup n).getD 0)::cs else cs)
theorem EJ(h:∀sZ∈scope.names,sZ.2= .free->∃c,env.cells.lookup sZ.1=E c):mZ scope env=pure (zk env.cells scope.names []):=by
 have all:∀(l:List (Str×eE)) (cs:List (Str×sK)),(∀sZ∈l,sZ.2= .free->∃c,env.cells.lookup sZ.1=E c)->
   (forIn l cs λx r=>match x with
    |(name,kind)=>if (kind==cw)=sX then do let a <-cellOf env name;pure (eY ((name,a)::r))else pure (eY r):Sem (List (Str×sK)))=pure (zk env.cells l cs):=by
  intro l
  induction l with
  |nil=>intro cs _;rfl
  |cons sZ r ih=>
   intro cs hl;obtain⟨n,k⟩:=sZ;rw[mh]
   by_cases hk:k= .free
   ·subst hk;obtain⟨c,hc⟩:=hl (n,.free) aJ rfl;have e:cellOf env n=pure c:=by unfold cellOf;rw[hc]
    simp only[beq_self_eq_true,if_true,e,pure_bind];rw[ih _ λz hz=>hl z<|aw _ hz];simp[zk,hc]
   ·have hb:(k==cw)=sJ:=by simpa using hk
    simp only[hb,cA,if_false,pure_bind];rw[ih _ λz hz=>hl z<|aw _ hz];simp[zk,hb]
 unfold mZ;have:=all scope.names [] h;simp only[bind_pure]at this⊢;show this
theorem Eu:∀{l:List (Str×eE)} {cs:List (Str×sK)} {x:Str} {c:sK},(∀sZ∈l,sZ.2= .free->∃c,cells.lookup sZ.1=E c)->(zk cells l cs).lookup x=E c->
  cs.lookup x=E c\/cells.lookup x=E c
 |[],cs,x,c,_,h=>.inl h
 |(n,k)::r,cs,x,c,hl,h=>by
  unfold zk at h;rcases Eu (λz hz=>hl z<|aw _ hz) h with q|q
  ·split at q
   ·rename_i hk;rw[cE]at q
    split at q
    ·rename_i hx;obtain⟨c',hc⟩:=hl (n,k) aJ (by simpa using hk);have e:x=n:=by simpa using hx
     subst e;rw[hc]at q
     right
     rw[hc];simpa using q
    ·show .inl q
   ·show .inl q
  ·show .inr q
theorem Cd:∀{l:List (Str×eE)} {cs:List (Str×sK)} {x:Str},(x,cw)∈l\/(∃c,cs.lookup x=E c)->∃c,(zk cells l cs).lookup x=E c
 |[],cs,x,h=>by
  rcases h with h|h
  ·simp at h
  ·show h
 |(n,k)::r,cs,x,h=>by
  unfold zk;show Cd ?_;rcases h with h|⟨c,h⟩
  ·rcases aB.mp h with h|h
   ·cases h
    right
    simp
   ·show .inl h
  ·right
   split
   ·rw[cE]
    split
    ·show⟨_,Y⟩
    ·show⟨c,h⟩
   ·show⟨c,h⟩
noncomputable def Cx.si(X:Cx)(scope:Scope)(C:sK)(Nc:List Str)(rg:ag)(sd:Hp)(fp:List sK):Cx:=
 {X with N:=Nc,s₀:=rg,H₀:=sd,env:=compEnvC scope #[10] C X.env,outer:=X.stack,stack:=X.stack,ex:=fp,fn:=λ_=>sJ,pn:=[],xe:=λ_ _=>False,cp:=λ_=>sJ}
def Bk(X:Cx)(scope:Scope):List Nat->List Str->Prop
 |[],[]=>True
 |j::js,sZ::ys=>(X.N[j]? =E sZ/\scope.names.lookup sZ=E .free/\(X.env.kindOf sZ=E .cell\/X.env.kindOf sZ=E .free))/\Bk X scope js ys
 |_,_=>False
noncomputable def uG(σ:St)(cap:List Nat):St:=cap.map λj=>(σ[j]?).getD y
structure vz(X:Cx)(scope:Scope)(x:Str)(cap:List Nat)(ys:List Str):Prop where
 kind:scope.kind= .function
 sh:∀sZ∈scope.names,sZ.2≠.cell
 locs:∀sZ∈scope.names,sZ.2= .local->scope.names.lookup sZ.1=E .local
 lx:scope.names.lookup x=E .local
 fr:∀sZ∈scope.names,sZ.2= .free->X.env.kindOf sZ.1=E .cell\/X.env.kindOf sZ.1=E .free
 cap:Bk X scope cap ys
 nd:(x::ys).Nodup
def yu(kind:scope.kind= .function)(h1:(scope.names.all λsZ=> !(sZ.2== .cell))=sX)(h2:(scope.names.all λsZ=> !(sZ.2== .local)||scope.names.lookup sZ.1==E .local)=sX)
  (hx:scope.names.lookup x=E .local) (h3:(scope.names.all λsZ=> !(sZ.2== .free)||(X.env.kindOf sZ.1==E .cell||X.env.kindOf sZ.1==E .free))=sX) (oK:Bk X scope cap ys) (oN:(x::ys).Nodup):vz X scope x cap ys:=by
 show⟨kind,λsZ hy e=>?_,λsZ hy e=>?_,hx,λsZ hy e=>?_,oK,oN⟩
 ·have:=bZ.mp h1 sZ hy;rw[e]at this;show absurd this #[6]
 ·have:=bZ.mp h2 sZ hy;rw[e]at this;simpa using this
 ·have:=bZ.mp h3 sZ hy;rw[e]at this;simpa using this
theorem C2{X:Cx}{scope:Scope}{σ:St}:∀{cap:List Nat} {ys:List Str} {i:Nat} {sZ:Str} {v:V},Bk X scope cap ys->ys[i]? =E sZ->(uG σ cap)[i]? =E (E v)->
  ∃j:Nat,X.N[j]? =E sZ/\σ[j]? =E (E v)/\scope.names.lookup sZ=E .free/\(X.env.kindOf sZ=E .cell\/X.env.kindOf sZ=E .free)
 |[],[],i,sZ,v,_,h,_=>by simp at h
 |j::js,z::zs,0,sZ,v,⟨⟨h1,h2,h3⟩,_⟩,e1,e2=>by
  simp at e1;subst e1;show⟨j,h1,?_,h2,h3⟩;simp only[uG,ba,List.getElem?_cons_zero,oa]at e2;cases q:σ[j]? with
  |none=>rw[q]at e2;cases e2
  |some w=>rw[q]at e2;simp at e2;rw[e2]
 |j::js,z::zs,i+1,sZ,v,⟨_,h⟩,e1,e2=>C2 (i:=i) h (by simpa using e1) (by simpa [uG]using e2)
 |[],_::_,_,_,_,h,_,_=>h.elim
 |_::_,[],_,_,_,h,_,_=>h.elim
theorem GG{X:Cx}{scope:Scope}:∀{cap:List Nat} {ys:List Str},Bk X scope cap ys->cap.length=ys.length
 |[],[],_=>rfl
 |_::_,_::_,⟨_,h⟩=>by simp[GG h]
 |[],_::_,h=>h.elim
 |_::_,[],h=>h.elim
def Od{l:List (Str×eE)}{sZ:Str}{k:eE}(h:l.lookup sZ=E k):(sZ,k)∈l:=PySem.mem_of_lookup h
theorem Hv{env:Env}:∀{names:List (Str×eE)} {x:Str},names.lookup x=E .free->
  (names.map λ(n,k)=>if (k==cw&&env.scope.kind== .function&&env.kindOf n==E .cell)then(n,nD)else(n,k)).lookup x=E .cell\/
  (names.map λ(n,k)=>if (k==cw&&env.scope.kind== .function&&env.kindOf n==E .cell)then(n,nD)else(n,k)).lookup x=E .free
 |[],_,h=>by simp at h
 |(n,k)::r,x,h=>by
  have ih:= @Hv env r x;rw[ba];rw[cE]at h;cases hx:x==n with
  |true=>
   rw[hx]at h;simp only[oa]at h;subst h;dsimp only
   split
   ·left;rw[cE,hx]
   ·right;rw[cE,hx]
  |false=>
   rw[hx]at h;dsimp only
   split
   ·rw[cE,hx];show ih h
   ·rw[cE,hx];show ih h
theorem vT{env:Env}:∀{names:List (Str×eE)} {x:Str} {k:eE},
  (names.map λ(n,k)=>if (k==cw&&env.scope.kind== .function&&env.kindOf n==E .cell)then(n,nD)else(n,k)).lookup x=E k->(k= .cell\/k= .free)->(∀sZ∈names,sZ.2≠.cell)->(x,cw)∈names
 |[],_,_,h,_,_=>by simp at h
 |(n,k')::r,x,k,h,hk,hc=>by
  rw[ba]at h;have oK:∀sZ∈r,sZ.2≠.cell:=λsZ hy=>hc sZ<|aw _ hy;have nk:k'≠.cell:=hc (n,k') aJ;dsimp only at h
  split at h
  ·rename_i q;rw[cE]at h
   split at h
   ·rename_i hx;have e:x=n:=by simpa using hx
    have e2:k'= .free:=by
     simp only[fF,beq_iff_eq]at q;show q.1.1
    rw[e,e2];show aJ
   ·show aw _ (vT h hk oK)
  ·rw[cE]at h
   split at h
   ·rename_i hx;have e:x=n:=by simpa using hx
    have e3:k'=k:=by simpa using h
    rcases hk with q|q
    ·show absurd (e3.trans q) nk
    ·rw[e,e3,q];show aJ
   ·show aw _ (vT h hk oK)
def vz.rL(B:vz X scope x cap ys)(ok:X.Ok):∀sZ∈scope.names,sZ.2= .free->∃c,X.env.cells.lookup sZ.1=E c:=λsZ hy e=>ok.has sZ.1 (B.fr sZ hy e)
def vz.sub(B:vz X scope x cap ys)(ok:X.Ok){z:Str}{c:sK}(h:#[10].lookup z=E c):X.env.cells.lookup z=E c:=by
 rcases Eu (B.rL ok) h with q|q
 ·simp at q
 ·show q
theorem vz.start{r6:Heap}{tk:Nat}{D:sK}(B:vz X scope x cap ys)(I:Inv X pins σ sd rg)
  (hf:∀b∈fp,wU X pins sd b) (hD:rg.heap.objs.size<=D) (hC:rg.heap.objs.size<=C) (oW:D≠C) (hk:∀b o,rg.heap.get? b=E o->r6.get? b=E o)
  (oR:∃m,r6.Ns C m) (hl:r6.get? D=E {cls:=.type "list",data:=.seq ([]:List sV).toArray}) (oV:∀b∈fp,b<rg.heap.objs.size):
  Inv (X.si scope C (x::ys) rg sd fp) [] (y::uG σ cap) (upd sd D<|.lst []) {rg with heap:=r6,toks:=tk}:=by
 have ok:=I.ok;have oK:sd C=y:=I.rh.fresh hC;have freshD:sd D=y:=I.rh.fresh hD;have lt:∀b o,rg.heap.get? b=E o->b<rg.heap.objs.size:=λb o e=>aq e;show⟨⟨ok.mod,B.kind,ok.glob,ok.blt,hC,λsZ z c h1 h2=>ok.inj sZ z c (B.sub ok h1)<|B.sub ok h2,λsZ hy=>?_,λsZ c h=>(aD h).elim,ok.hd,ok.frames,.inl Y,λb hb=>⟨?_,λsZ c h e=>?_⟩,I.bs,aQ ok.wK I.sz,λb o e hb=>?_,λb hb hs=>?_,I.stack,I.tO,λsZ c h=>(aD h).elim,λb hb=>I.rh.fresh hb⟩,
  rfl,I.bare,Un.laid hk hD freshD,?_,λsZ c h=>?_,?_,λsZ c h=>?_,λp hp=>?_,?_,?_⟩
 ·have oP:(mH scope X.env).names.lookup sZ=E .cell\/(mH scope X.env).names.lookup sZ=E .free:=hy;have m:(sZ,cw)∈scope.names:=by
   rcases oP with q|q
   ·show vT q (.inl Y) B.sh
   ·show vT q (.inr Y) B.sh
  show Cd (.inl m)
 ·show aC (az (oV b hb) hC)
 ·show(hf b hb).2.2.2.2.1 sZ c (B.sub ok h) e
 ·rcases(hf b hb).2.2.2.1 with q|q
  ·show ok.wa b o e q
  ·show absurd (az (aq (ok.bs b o e).1) q) (bN _)
 ·rcases aB.mp (I.tj b hs)with q|q
  ·show(hf b hb).2.1 q
  ·show(hf b hb).2.2.1 q
 ·obtain⟨m,hm⟩:=oR;show⟨m,hm,λi sZ v e1 e2 e3=>?_⟩;cases i with
  |zero=>simp at e2
  |succ i=>
   obtain⟨j,n1,n2,n3,n4⟩:=C2 (i:=i) B.cap (by simpa [Cx.si]using e1) (by simpa using e2);obtain⟨m0,oX,oU⟩:=I.loc;have oO:BH X.env.scope sZ:=by
    rcases n4 with q|q
    ·show .inr (.inl q)
    ·show .inr (.inr q)
   obtain⟨u,ru,l⟩:=oU j sZ v n1 n2 oO;show⟨u,ru,.inr ⟨Hv n3,?_⟩⟩;rcases l with⟨k,_⟩|⟨_,c,ec,z⟩
   ·rw[k]at n4;rcases n4 with q|q<;> cases q
   ·obtain⟨c',oN⟩:=Cd (cells:=X.env.cells) (cs:=[]) (.inl<|Od n3);have:=B.sub ok oN;rw[ec]at this;cases this;obtain⟨o,ho,hd⟩:=z;show⟨c,oN,o,hk c o ho,hd⟩
 ·obtain⟨v,o,ho,hd⟩:=I.cell sZ c<|B.sub ok h;show⟨v,o,hk c o ho,hd⟩
 ·change upd sd D _ C=y;rw[xl<|aW oW];show oK
 ·obtain⟨v,o,ho,hd⟩:=I.cell sZ c<|B.sub ok h;rw[xl (aC<|az (lt c o ho) hD)];show(I.rT sZ c<|B.sub ok h).imp id λ⟨_,o',oQ,oS⟩=>⟨Y,o',oQ,λz i v e1 k e2=>?_⟩;cases i with
  |zero=>simp at e2
  |succ i=>
   obtain⟨j,n1,n2,n3,n4⟩:=C2 (i:=i) B.cap (by simpa [Cx.si]using e1) (by simpa using e2);show oS z j v n1 n4 n2
 ·show absurd (show p∈([]:List (sK×Obj))from hp) #[8]
 ·show I.rh.laid hk hD ⟨aX _,[],0,.nil,hl⟩
 ·simp[Cx.si,uG,GG B.cap]
def vz.back{s':ag}{pl:List (sK×Obj)}{rq:St}(B:vz X scope x cap ys)(I:Inv X pins σ sd rg)
  (hf:∀b∈fp,wU X pins sd b) (J:Inv (X.si scope C (x::ys) rg sd fp) pl rq H' s'):Inv X pins σ H' s':=
 I.tR (ch:=fp) J.os J.base J.rh J.bare λb hb=>by
  obtain⟨f0,f1,f2,f3,f4,f5⟩:=hf b hb;show⟨?_,f1,f4,f5⟩;rcases f3 with q|q
  ·show .inl q
  ·show .inr q
def vz.Ir{s':ag}{pl:List (sK×Obj)}{rq:St}(I:Inv X pins σ sd rg)
  (hC:rg.heap.objs.size<=C) (J:Inv (X.si scope C (x::ys) rg sd fp) pl rq H' s'):
  H' C=y/\C≠X.env.locals/\X.s₀.heap.objs.size<=C/\(∀z c,X.env.cells.lookup z=E c->c≠C)/\∀p∈X.pn++pins,p.1≠C:=by
 show⟨J.free,eP<|az I.lt hC,aQ I.sz hC,λz c e q=>?_,λp hp q=>?_⟩
 ·obtain⟨v,w⟩:=I.cell z c e;show absurd (az w.lt (by rw[q];show hC)) (bN _)
 ·show absurd (az (aq (I.pin p hp).1) (by rw[q];show hC)) (bN _)
theorem Nw{R:gT->ag->Prop}(J:Nat->ag->Prop)
  (go:∀n s,J n s->wpAny #[1] A (i9 it) (λr s1=>match r with
   |none=>R (.ok .next) s1
   |some v=>wpAny (model prog w) A (j0 tg it v) (λ_ s2=>wpAny (model prog w) A (kK tg env v) (λ_ s3=>
     wpAny #[1] A (forIn ifs sX λc r=>if r=sX then do let ok <-isTrue c env (eval c env);pure (eY ok)else pure (eY r)) (λok s4=>
      if ok=sX then wpAny #[1] A (eval elt env) (λsZ s5=>wpAny #[1] A (call (.builtin "list.append") [acc,sZ]) (λ_ s6=>∃m,m<n/\J m s6) (λ_ _=>False) s5) (λ_ _=>False) s4
      else∃m,m<n/\J m s4) (λ_ _=>False) s3) (λ_ _=>False) s2) (λ_ _=>False) s1) (λ_ _=>False) s)
  (n:Nat) (h:J n s):cS #[1] A (.compLoop (.ListComp elt [⟨tg,iter,ifs,0⟩] scope pos) 0 it acc env) R s:=by
 show codeAny_loop rfl J (λn s hJ=>?_) n h;change wpAny _ A ((compTurn (.ListComp elt [⟨tg,iter,ifs,0⟩] scope pos) 0 it acc env).onRaise (λx=>do noteFrame x env;theTreesLotGoes x)) _ _ s;show wpAny_noted ?_;rw[compTurn_list];show ae<|eh (ae<|aR (go n s hJ) (λr s1 h1=>?_) λ_ _ z=>z.elim);cases r with
 |none=>show ar h1
 |some v=>
  show ae<|aR h1 (λ_ s2 h2=>ae<|aR h2 (λ_ s3 h3=>ae<|aR h3 (λok s4 h4=>?_) λ_ _ z=>z.elim) λ_ _ z=>z.elim) λ_ _ z=>z.elim;cases ok with
  |false=>show ar ⟨Y,h4⟩
  |true=>
   show ae (ae<|aR h4 (λsZ s5 h5=>ae<|aR h5 (λ_ s6 h6=>ar<|ar ⟨Y,h6⟩) λ_ _ z=>z.elim) λ_ _ z=>z.elim)
def BN(Xc:Cx)(ifs:List Expr)(t:TT):Prop:=
 ∀(pins:List (sK×Obj)) (s:ag) (σ:St) (H:Hp) (Q:Bool->Hp->Prop),Inv Xc pins σ H s->t σ H Q->
  wpAny (model Xc.prog Xc.w) Xc.A (forIn ifs sX λc r=>if r=sX then do let ok <-isTrue c Xc.env (eval c Xc.env);pure (eY ok)else pure (eY r)) (TP Xc pins σ Q) Xc.xe s
def AM:TT:=λ_ H Q=>Q sX H
def yo:BN Xc [] AM:=λ_ _ _ H _ I q=>wpAny_tests_nil ⟨H,I,q⟩
def B6{t:TT}(h:PT Xc c t):BN Xc [c] t:=λpins s σ H Q I q=>wpAny_tests_one (h pins s σ H Q I q)
abbrev CW:=Nat->Nat->List V->Hp->Prop
@[irreducible] def zw(J:It)(r8:St)(tt:TT)(te:TE)(Q:VK)(H2:Hp):Prop:=∀D,H2 D=y->∃W:CW,(∃m,W 0 m [] (upd H2 D<|.lst []))/\
 ∀i m acc H3,W i m acc H3->H3 D=E (.lst acc)/\((J.stop i H3/\Q (.ref D) H3)\/(J.go i H3/\acc.length<aK/\∀v H4,J.A9 i H3 v H4->tt (E v::r8) H4 λb H5=>
  (b=sX->te (E v::r8) H5 λu H6=>H6 D=E (.lst acc)/\∃m',m'<m/\W (i+1) m' (acc++[u]) (upd H6 D (.lst (acc++[u]))))/\(b=sJ->∃m',m'<m/\W (i+1) m' acc H5)))
def Js(cap:List Nat)(wi:TI)(tt:TT)(te:TE):TE:=λσ H Q=>wi σ H λJ H2=>zw J (uG σ cap) tt te Q H2
section
variable {elt:Expr} {ifs:List Expr} {px:Pos} {wi:TI} {tt:TT} {te:TE}
theorem Nv(B:vz X scope x cap ys)(hc:X.calm=sX)(he:∀C s H fp,PE (X.si scope C (x::ys) s H fp) elt te)(ht:∀C s H fp,BN (X.si scope C (x::ys) s H fp) ifs tt)
  {RR:sV->sK->gT->ag->Prop} {oZ:sV} {sQ:sV->ag->Prop}
  (hp:EU X pins σ (.Name x px) (λJ H2=>zw J (uG σ cap) tt te Q H2) oZ rg)
  (hR:∀(D C:sK) (H':Hp) (s':ag),Inv X pins σ H' s'->(∃m,s'.heap.Ns C m)->H' C=y->C≠X.env.locals->X.s₀.heap.objs.size<=C->(∀z c,X.env.cells.lookup z=E c->c≠C)->(∀p∈X.pn++pins,p.1≠C)->Q (.ref D) H'->RR (.ref D) C (.ok .next) s'):
  wpAny #[3] X.A (newList []) (λacc tI=>wpAny #[3] X.A (mI scope X.env.globals #[10] [] X.env.qual y .none<|E X.env) (λoQ Bw=>
   cS #[3] X.A (.compStart (.ListComp elt [⟨.Name x px,iter,ifs,0⟩] scope pos) 0 oZ acc {oQ with scope:=mH scope X.env}) (RR acc oQ.locals) Bw) sQ tI) sQ rg:=by
 show L2.oG λ_ U=>?_;obtain⟨it,fp,tn,J,H2,e,I2,T,oX,f2,hw⟩:=hp;apply U;subst e;unfold zw at hw;show fh<|j4 B.sh (by intro sZ hy;simp at hy) (λr6 oN oK=>?_) B.kind;dsimp only at oN oK⊢;generalize hG:rg.heap.push {cls:=.type "list",dict:=y,data:=.seq ([]:List sV).toArray}=G at oN oK⊢;have hsz:G.objs.size=rg.heap.objs.size+1:=by rw[<-hG,cT]
 have oO:rg.heap.objs.size<=G.objs.size:=by lia
 have o7:rg.heap.objs.size≠G.objs.size:=by lia
 have old:∀b o,rg.heap.get? b=E o->r6.get? b=E o:=λb o q=>by
  have lt:=aq q;show oK.extBut b o (aC<|az lt oO)<|af _ ?_;rw[<-hG];show af _ q
 have oR:r6.get? rg.heap.objs.size=E {cls:=.type "list",data:=.seq ([]:List sV).toArray}:=by
  show oK.extBut _ _ o7<|af _ ?_;rw[<-hG];show aF _ rfl
 have oV:∀b∈fp,b<rg.heap.objs.size:=λb hb=>by
  show L2.oG λ_ U=>?_;obtain⟨o,ho,_⟩:=T.obj _ _ oX b hb;apply U;show aq ho
 show L2.oG λ_ U=>?_;obtain⟨W,⟨m0,w0⟩,turn⟩:=hw rg.heap.objs.size (I2.rh.fresh<|ah _);apply U;generalize pk:rg.toks+([]:List (Str×sV)).length=tk;have I0:=B.start (tk:=tk) (C:=G.objs.size) I2 f2 (ah _) oO o7 old ⟨_,oN⟩ oR oV;have oY:tn 0 r6:=T.keep _ _ _ oX λb hb o q=>old b o q
 -- o9 stays sX of pj oP objects
 have f3:∀{H':Hp},(∀b∈fp,H' b=y)->∀b∈fp,wU (X.si scope G.objs.size (x::ys) rg H2 fp) [] H' b:=λhn b hb=>by
  show L2.oG λ_ U=>?_;obtain⟨f0,f1,ph,pz,f4,f5⟩:=f2 b hb;apply U;show⟨hn b hb,aC<|az (oV b hb) oO,λhs=>?_,.inl hb,λz c q=>f4 z c<|B.sub I2.ok q,λp hp=>absurd (show p∈([]:List (sK×Obj))from hp) #[8]⟩;rcases aB.mp (I2.tj b hs)with q|q
  ·show f1 q
  ·show ph q
 have n0:∀b∈fp,upd H2 rg.heap.objs.size (.lst []) b=y:=λb hb=>by
  rw[xl (aC<|oV b hb)];show(f2 b hb).1
 have loop:∀sx:ag,sx={rg with heap:=r6,toks:=tk}->
   cS #[3] X.A (.compLoop (.ListComp elt [⟨.Name x px,iter,ifs,0⟩] scope pos) 0 (.ref it) (.ref rg.heap.objs.size)<|compEnvC scope #[10] G.objs.size X.env) (RR (.ref rg.heap.objs.size) G.objs.size) sx:=by
  rintro sx rfl;show Nw (λn s'=>∃i acc H',Inv (X.si scope G.objs.size (x::ys) rg H2 fp) [] (y::uG σ cap) H' s'/\tn i s'.heap/\(∀b∈fp,H' b=y)/\W i n acc H') ?_ m0 ⟨0,[],_,I0,oY,n0,w0⟩;rintro n s3 ⟨i,acc,H3,I3,oW,o8,w3⟩;obtain⟨pq,alt⟩:=turn i n acc H3 w3;rcases alt with⟨stop,q⟩|⟨go,hlen,step⟩
  ·show aR (T.done (X.si scope G.objs.size (x::ys) rg H2 fp) Y Y Y hc i [] s3 _ H3 (λ_ _=>False) I3 (f3 o8) oW stop) (λr s4 ⟨hr,I4⟩=>?_) λ_ _ z=>z.elim;subst hr;show L2.oG λ_ U=>?_;obtain⟨g1,g2,g3,g4,g5⟩:=vz.Ir I2 oO I4;obtain⟨m4,pd,_⟩:=I4.loc;apply U;show hR _ _ H3 s4 (B.back I2 f2 I4) ⟨m4,pd⟩ g1 g2 g3 g4 g5 q
  ·show aR (T.item (X.si scope G.objs.size (x::ys) rg H2 fp) Y Y Y hc i [] s3 _ H3 (λ_ _=>False) I3 (f3 o8) oW go) (λr s4 ⟨u,hr,h4⟩=>?_) λ_ _ z=>z.elim;subst hr;show aR h4 (λ_ s4 ⟨v,H4,I4,rv,y4,oS,pf⟩=>?_) λ_ _ z=>z.elim;have Iz:=I4.pinned (f3 pf)<|T.obj _ _ oS;show lg<|Ge (X:=X.si scope G.objs.size (x::ys) rg H2 fp) (i:=0) Iz B.nd Y (.inl<|d4 B.lx) rv (λs5 I5=>?_) (.inr<|d4 B.lx);have Ds:Inv (X.si scope G.objs.size (x::ys) rg H2 fp) ([]++jg fp s4.heap) (E v::uG σ cap) H4 s5:=I5;show aR (ht _ _ _ _ _ s5 _ H4 _ Ds<|step v H4 y4) (λok s6 ⟨H6,I6,q6⟩=>?_) λ_ _ z=>z.elim;have pinned:∀{u9:St} {H7:Hp} {s7:ag},Inv (X.si scope G.objs.size (x::ys) rg H2 fp) ([]++jg fp s4.heap) u9 H7 s7->tn (i+1) s7.heap/\∀b∈fp,H7 b=y:=λ{u9 H7 s7} I7=>by
    show⟨T.keep _ _ _ oS λb hb o e=>(I7.pin (b,o)<|aN _ (aN _<|vR hb e)).1,λb hb=>?_⟩;show L2.oG λ_ U=>?_;obtain⟨o,e,d⟩:=T.obj _ _ oS b hb;apply U;show(I7.pin (b,o)<|aN _ (aN _<|vR hb e)).2.1
   have weak:∀{H7:Hp} {s7:ag},Inv (X.si scope G.objs.size (x::ys) rg H2 fp) ([]++jg fp s4.heap) (E v::uG σ cap) H7 s7->Inv (X.si scope G.objs.size (x::ys) rg H2 fp) [] (y::uG σ cap) H7 s7:=λI7=>
    (I7.sP (pins:=[])).weak rfl λj z e=>by
     cases j with
     |zero=>simp at e
     |succ j=>simpa using e
   cases ok with
   |false=>
    rw[if_neg aD];show L2.oG λ_ U=>?_;obtain⟨m',oU,w'⟩:=q6.2 rfl;apply U;show⟨m',oU,i+1,acc,H6,weak I6,(pinned I6).1,(pinned I6).2,w'⟩
   |true=>
    rw[if_pos rfl];show aR (he _ _ _ _ _ s6 _ H6 _ I6<|q6.1 Y) (λsZ s7 ⟨z,H7,I7,rz,pe,m',oU,w'⟩=>?_) λ_ _ z=>z.elim;show aR (yX (X:=X.si scope G.objs.size (x::ys) rg H2 fp) _ s7 _ H7 (.ref rg.heap.objs.size) [z] (.ref rg.heap.objs.size) [sZ] (λ_ H8=>H8=upd H7 rg.heap.objs.size (.lst<|acc++[z])) I7 Y (.cons rz .nil) ⟨_,acc,z,Y,Y,pe,hlen,Y⟩) (λ_ s8 ⟨_,H8,I8,_,e8⟩=>?_) λ_ _ z=>z.elim;subst e8;show⟨m',oU,i+1,_,_,weak I8,(pinned I8).1,(pinned I8).2,w'⟩
 show codeAny_compStart_list (loop _ Y) (T.self _ 0 _ _ _ oY<|loop _ Y)
def yv(B:vz X scope x cap ys)(hc:X.calm=sX)(hi:PI X (.Name x px) iter wi)(he:∀C s H fp,PE (X.si scope C (x::ys) s H fp) elt te)(ht:∀C s H fp,BN (X.si scope C (x::ys) s H fp) ifs tt)
  (hs:autoParam (∀x,fg iter X.env x=pure x) rV):PE X (.ListComp elt [⟨.Name x px,iter,ifs,0⟩] scope pos) (Js cap wi tt te):=by
 intro pins s σ H Q I h;rw[eval_ListComp];show g8 (use:=y) rfl hs (EJ<|B.rL I.ok) B.kind B.locs ?_;show sj (hi pins s σ H _ I h) λv s1 h1=>sj h1 λoK s2 h2=>?_;show Nv (Q:=Q) (RR:=λacc C=>compPost #[3] X.A X.xe y (EP X pins σ Q) acc C) B hc he ht h2 ?_;rintro D C H' s' J ⟨m,hm⟩ g1 g2 g3 g4 g5 q;show⟨m,hm,λh' sb=>⟨.ref D,H',J.turned (t':=s'.toks) (λb o hb e=>(sb.2 b hb).trans e) g1 g2 (.inr g3) g4 g5,Y,q⟩⟩
def EI{i:Nat}{sZ:Str}(B:vz X scope x cap ys)(hc:X.calm=sX)(hN:X.N.Nodup)(hi:X.N[i]? =E sZ)(hy:X.env.scope.names.lookup sZ=E .local)(hit:PI X (.Name x px) iter wi)
  (he:∀C s H fp,PE (X.si scope C (x::ys) s H fp) elt te) (ht:∀C s H fp,BN (X.si scope C (x::ys) s H fp) ifs tt)
  (oO:autoParam (iU (.ListComp elt [⟨.Name x px,iter,ifs,0⟩] scope pos) (E<|.Name sZ pos') oK.line X.env=pure sX) rJ)
  (hs:autoParam (∀x,fg iter X.env x=pure x) rV):
  PS X (.Assign [.Name sZ pos'] (.ListComp elt [⟨.Name x px,iter,ifs,0⟩] scope pos) oK) (E3 (Js cap wi tt te)<|BW i):=by
 intro pins s σ H D I h;rw[exec_Assign_Name_used _ _ _ _ oO];show ae (eh<|ae ?_);change wpAny _ X.A (do let _ <-comprehension (.ListComp elt [⟨.Name x px,iter,ifs,0⟩] scope pos) scope X.env _ (newList []) sJ (eval iter X.env) (E<|kK (.Name sZ pos') X.env)) _ _ s;show ae (aR (g8 (use:=E<|kK (.Name sZ pos') X.env) (Q:=λ_ s'=>SP X pins D .next s') Y hs (EJ<|B.rL I.ok) B.kind B.locs
  (sj (hit pins s σ H _ I h) λv s1 h1=>sj h1 λoQ s2 h2=>?_)) (λ_ s' hq=>ar (ar hq)) λ_ _ e=>e)
 show Nv (Q:=λv H1=>BW i v σ H1 D.nx) (RR:=λacc C=>compPost #[3] X.A X.xe (E<|kK (.Name sZ pos') X.env) (λ_ s'=>SP X pins D .next s') acc C) B hc he ht h2 ?_;rintro Da C H' s' J ⟨m,hm⟩ g1 g2 g3 g4 g5 q;change wpAny _ X.A (kK (.Name sZ pos') X.env<|.ref Da) _ _ s';show(lg (MK (v:=.ref Da) J hN hi (.inl hy) Y (λs4 J4 ⟨a,sb,ha⟩=>?_)<|.inr hy));have oP:C≠a:=by
  rcases ha with z|z
  ·rw[z];show g2
  ·show λw=>g4 sZ a z w.symm
 show⟨m,hm.sameBut sb oP,λh' oN=>?_⟩;show⟨_,H',J4.turned (t':=s4.toks) (λb o hb e=>(oN.2 b hb).trans e) g1 g2 (.inr g3) g4 g5,q⟩
end
def A6(lo st:Int)(n:Nat):It:=⟨λi _=>i<n,λi H x H'=>H'=H/\x= .int (lo+i*st),λi _=>n<=i⟩
def XR(it:sK)(lo st:Int)(n:Nat):Turn P w K tg (A6 lo st n) [it] it (λi h=>IsRangeIter h it (lo+(i:Nat)*st) ((n:Int) - (i:Nat)) st) where
 mem:=by simp
 obj:=λi h q b hb=>by
  have e:b=it:=by simpa using hb
  subst e;show⟨_,q,λv z=>by
   have z':oq _=Data.cell v:=z;cases z'⟩
 keep:=λi h h' q k=>k it #[8] _ q
 item:=by
  intro X hP hw hK hc i pins s σ H sQ I hf q hg;subst hP hw hK;obtain⟨f0,f1,f2,f3,f4,f5⟩:=hf it #[8];show(Walks.range (prog:=X.prog) (w:=X.w) (I.ok.hd hc) it lo st n).item i s _ _ hg q λv h' tk hv q' kk=>?_;obtain⟨t,rfl⟩:=hv;have I1:Inv X pins σ H {s with heap:=h',toks:=tk}:=I.turned (λb o hb e=>kk b o (by simpa using hb) e) f0 f1 f3 f4 f5;show⟨_,Y,BV (s:={s with heap:=h',toks:=tk}) (n:="range_iterator") q' rfl rfl #[6] ⟨.int<|lo+i*st,H,I1,⟨t,Y⟩,⟨Y,Y⟩,q',λb hb=>(hf b hb).1⟩⟩
 done:=by
  intro X hP hw hK hc i pins s σ H sQ I hf q hg;subst hP hw hK;obtain⟨f0,f1,f2,f3,f4,f5⟩:=hf it #[8];show wpAny_pyNext_range_end (I.ok.hd hc) q (by have:n<=i:=hg;lia) λh' eb=>⟨Y,I.turned (t':=s.toks) (λb o hb e=>eb b o hb e) f0 f1 f3 f4 f5⟩
 self:=λ_ _ _ _ _ q h=>wpAny_pyIter_rangeiter q h
def Ww(it:sK)(lo st:Int)(n:Nat):Turn P w K tg (A6 lo st n) [it] it (λi h=>m5 h it (lo+(i:Nat)*st) ((n:Int) - (i:Nat)) st) where
 mem:=by simp
 obj:=λi h q b hb=>by
  have e:b=it:=by simpa using hb
  subst e;show⟨_,q,λv z=>by
   have z':oq _=Data.cell v:=z;cases z'⟩
 keep:=λi h h' q k=>k it #[8] _ q
 item:=by
  intro X hP hw hK hc i pins s σ H sQ I hf q hg;subst hP hw hK;obtain⟨f0,f1,f2,f3,f4,f5⟩:=hf it #[8];show(Walks.longrange (prog:=X.prog) (w:=X.w) (I.ok.hd hc) it lo st n).item i s _ _ hg q λv h' tk hv q' kk=>?_;obtain⟨t,rfl⟩:=hv;have I1:Inv X pins σ H {s with heap:=h',toks:=tk}:=I.turned (λb o hb e=>kk b o (by simpa using hb) e) f0 f1 f3 f4 f5;show⟨_,Y,BV (s:={s with heap:=h',toks:=tk}) (n:="longrange_iterator") q' rfl rfl #[6] ⟨.int<|lo+i*st,H,I1,⟨t,Y⟩,⟨Y,Y⟩,q',λb hb=>(hf b hb).1⟩⟩
 done:=by
  intro X hP hw hK hc i pins s σ H sQ I hf q hg;subst hP hw hK;obtain⟨f0,f1,f2,f3,f4,f5⟩:=hf it #[8];show wpAny_pyNext_long_end (I.ok.hd hc) q (by have:n<=i:=hg;lia) λh' eb=>⟨Y,I.turned (t':=s.toks) (λb o hb e=>eb b o hb e) f0 f1 f3 f4 f5⟩
 self:=λ_ _ _ _ _ q h=>wpAny_pyIter_longiter q h
noncomputable def zM(a b c:Int):Nat:=(br a b c).toNat
def Zh(a b c:Int):0<=br a b c:=by
 unfold br
 split
 ·split
  ·have:=Int.ediv_nonneg (a:=b - a - 1) (b:=c) #[2] #[2];lia
  ·lia
 ·split
  ·have:=Int.ediv_nonneg (a:=a - b - 1) (b:= -c) #[2] #[2];lia
  ·lia
def MT(a b c:Int):((zM a b c:Nat):Int)=br a b c:=cq (Zh a b c)
def uZ(a b:Int):zM a b 1=(b - a).toNat:=by
 unfold zM br;simp only[show(1:Int) > 0 by decide,if_true]
 split<;> simp<;> lia
theorem Kd{R:It->Hp->Prop}{sQ:sV->ag->Prop}{a b c:Int}{t:Tok}{r:sK}(I:Inv X pins σ H s)(hr:IsRange s.heap r a b c t u v)
  (q:R (A6 a c<|zM a b c) H):wpAny #[3] X.A (pyIter<|.ref r) (EU X pins σ tg R) sQ s:=by
 have e2:br a b c=((zM a b c:Nat):Int) - ((0:Nat):Int):=by rw[MT];simp
 have e1:a=a+((0:Nat):Int)*c:=by simp
 have fp:∀b'∈[s.heap.objs.size],wU X pins H b':=λb' hb=>by
  have e:b'=s.heap.objs.size:=by simpa using hb
  subst e;show I.tQ (ah _) (I.rh.fresh<|ah _)
 cases oK:kg a b c with
 |true=>
  show wpAny_pyIter_range hr oK ⟨s.heap.objs.size,[s.heap.objs.size],_,_,H,Y,I.kept (t':=s.toks) λb o e=>af _ e,XR _ a c<|zM a b c,?_,fp,q⟩;change IsRangeIter _ _ (a+((0:Nat):Int)*c) (((zM a b c:Nat):Int) - ((0:Nat):Int)) c;rw[<-e1,<-e2];show aF _ rfl
 |false=>
  show wpAny_pyIter_longrange hr oK ⟨s.heap.objs.size,[s.heap.objs.size],_,_,H,Y,I.kept (t':=s.toks) λb o e=>af _ e,Ww _ a c<|zM a b c,?_,fp,q⟩;change m5 _ _ (a+((0:Nat):Int)*c) (((zM a b c:Nat):Int) - ((0:Nat):Int)) c;rw[<-e1,<-e2];show aF _ rfl
def DB(k:Int->Hp->Prop):List V->Hp->Prop:=λvs H=>match vs with
 |[.int j]=>k j H
 |_=>False
def DG(k:Int->Int->Hp->Prop):List V->Hp->Prop:=λvs H=>match vs with
 |[.int i,.int j]=>k i j H
 |_=>False
def Jr(k:Int->Int->Int->Hp->Prop):List V->Hp->Prop:=λvs H=>match vs with
 |[.int i,.int j,.int l]=>k i j l H
 |_=>False
def FY{k:Int->Hp->Prop}(h:DB k vs H):∃j,vs=[.int j]/\k j H:=by
 rcases vs with _|⟨v,_|⟨u,r⟩⟩
 ·show aV h
 ·cases v<;> first|show aV h|show⟨_,Y,h⟩
 ·cases v<;> show aV h
def Ga{k:Int->Int->Hp->Prop}(h:DG k vs H):∃i j,vs=[.int i,.int j]/\k i j H:=by
 rcases vs with _|⟨v,_|⟨u,_|⟨t,r⟩⟩⟩
 ·show aV h
 ·cases v<;> show aV h
 ·cases v<;> try show aV h
  cases u<;> first|show aV h|show⟨_,_,Y,h⟩
 ·cases v<;> try show aV h
  cases u<;> show aV h
def UB{k:Int->Int->Int->Hp->Prop}(h:Jr k vs H):∃i j l,vs=[.int i,.int j,.int l]/\k i j l H:=by
 rcases vs with _|⟨v,_|⟨u,_|⟨t,_|⟨q,r⟩⟩⟩⟩
 ·show aV h
 ·cases v<;> show aV h
 ·cases v<;> try show aV h
  cases u<;> show aV h
 ·cases v<;> try show aV h
  cases u<;> try show aV h
  cases t<;> first|show aV h|show⟨_,_,_,Y,h⟩
 ·cases v<;> try show aV h
  cases u<;> try show aV h
  cases t<;> show aV h
def Lg(r:Vals [.int i] us):∃t,us=[.int i t]:=by
 obtain⟨u,rfl,t,rfl⟩:=Vals.one r;show⟨t,Y⟩
def Lf(r:Vals [.int i,.int j] us):∃t t',us=[.int i t,.int j t']:=by
 obtain⟨u,v,rfl,⟨t,rfl⟩,⟨t',rfl⟩⟩:=Vals.two r;show⟨t,t',Y⟩
theorem SR(r:Vals [.int i,.int j,.int l] us):∃t t' oK,us=[.int i t,.int j t',.int l oK]:=by
 cases r with
 |cons r rr=>
  obtain⟨t',oK,rfl⟩:=Lf rr;obtain⟨t,rfl⟩:=r;show⟨t,t',oK,Y⟩
def Kc(c:Int):Prop:=c≠0/\c.natAbs.log2<9000
def Qy(ta:TA):TI:=λσ H R=>ta σ H (DB λj H1=>R (A6 0 1<|zM 0 j 1) H1)
def Qx(ta:TA):TI:=λσ H R=>ta σ H (Jr λi j c H1=>Kc c/\R (A6 i c<|zM i j c) H1)
def EC(hg:Gl X "range")(hm:X.mg "range"=y)(ha:PA X [a] ta)(hs:autoParam (aM [a] X.env=[(sJ,eval a X.env)]) rJ):PI X tg (.Call (.Name "range" p) [a] [] pos) (Qy ta):=by
 intro pins s σ H R I h;show Call_ (zJ I hg hm m6<|bW (zS #[16] λus s1 vs H1 I1 r1 q1=>?_) hs Y);obtain⟨j,rfl,q⟩:=FY q1;obtain⟨t,rfl⟩:=Lg r1;show call_range_1 (Kd (I1.kept (t':=_) λb o e=>af _ e) (IsRange.new ..) q)
def MS{b:Expr}(hg:Gl X "range")(hm:X.mg "range"=y)(ha:PA X [a,b,c] ta)(hs:autoParam (aM [a,b,c] X.env=(sJ,eval a X.env)::aM [b,c] X.env) rJ)(oK:autoParam ((bY pos<|aM [b,c] X.env).any (·.1)=sJ) rJ):
  PI X tg (.Call (.Name "range" p) [a,b,c] [] pos) (Qx ta):=by
 intro pins s σ H R I h;show Call_ (zJ I hg hm m6<|bW (zS #[16] λus s1 vs H1 I1 r1 q1=>?_) hs oK);obtain⟨i,j,l,rfl,⟨h0,hl⟩,q⟩:=UB q1;obtain⟨t,t',oN,rfl⟩:=SR r1;show call_range_3 h0 (Kd (I1.kept (t':=_) λb o e=>af _ e) (IsRange.new ..) q) (.inl<|lJ hl)
def Qw(ta:TA):TE:=λσ H Q=>ta σ H (DG λi j H1=>∀p,H1 p=y->Q (.ref p) (upd H1 p<|.z0 i j))
def QY(ta:TA):TE:=λσ H Q=>ta σ H (DB λj H1=>∀p,H1 p=y->Q (.ref p) (upd H1 p<|.z0 0 j))
def EB{b:Expr}(hg:Gl X "range")(hm:X.mg "range"=y)(ha:PA X [a,b] ta)(hs:autoParam (aM [a,b] X.env=[(sJ,eval a X.env),(sJ,eval b X.env)]) rJ)(oK:autoParam (aM [b] X.env=[(sJ,eval b X.env)]) rJ):
  PE X (.Call (.Name "range" p) [a,b] [] pos) (Qw ta):=by
 intro pins s σ H Q I h;show Call_ (zJ I hg hm m6<|bW (zS #[16] λus s1 vs H1 I1 r1 q1=>?_) (by rw[hs,oK]) (by rw[oK];rfl));obtain⟨i,j,rfl,q⟩:=Ga q1;obtain⟨t,t',rfl⟩:=Lf r1;show call_range_2 ⟨.ref s1.heap.objs.size,upd H1 s1.heap.objs.size<|.z0 i j,I1.laid (λb o e=>af _ e) (ah _) ⟨_,_,_,aF _ Y⟩,Y,q _ (I1.rh.fresh<|ah _)⟩
def Wv(hg:Gl X "range")(hm:X.mg "range"=y)(ha:PA X [a] ta)(hs:autoParam (aM [a] X.env=[(sJ,eval a X.env)]) rJ):
  PE X (.Call (.Name "range" p) [a] [] pos) (QY ta):=by
 intro pins s σ H Q I h;show Call_ (zJ I hg hm m6<|bW (zS #[16] λus s1 vs H1 I1 r1 q1=>?_) hs Y);obtain⟨j,rfl,q⟩:=FY q1;obtain⟨t,rfl⟩:=Lg r1;show call_range_1 ⟨.ref s1.heap.objs.size,upd H1 s1.heap.objs.size<|.z0 0 j,I1.laid (λb o e=>af _ e) (ah _) ⟨_,_,_,aF _ Y⟩,Y,q _ (I1.rh.fresh<|ah _)⟩
end Internal.L2
namespace PySem
open Sem (wp)
section
variable {prog:a9} {w:World} {A:bx} {sQ:sV->ag->Prop} {s:ag}
def XQ{R:gT->ag->Prop}{b:Int}{k:Nat}(oQ:A.handled=y)(hr:IsRange s.heap r a b c t u v)(oN:kg a b c=sJ)
  (hk:br a b c=k) (hle:k<=2^24) (D:sK) (z:sV) (we:Nat) (hD:s.heap.get? D=E {cls:=.type "list",data:=.seq #[] we})
  (hR:∀g tk xs m,(∀b o,b≠D->s.heap.get? b=E o->g.get? b=E o)->g.get? D=E {cls:=.type "list",dict:=y,data:=.seq xs m,slots:=#[]}->
   lF (λi v=>∃t,v= .int (a+i*c) t) xs k->R (.ok (.ret z)) {s with heap:=g,toks:=tk}):
  wpAny #[1] A.in1 (bM (.ref D) (.ref r) z)
   (λfin s'=>match fin with| .done f=>R (.ok f) s'| .again d=>d.quiet=sX/\cS #[1] A d R s') (λe s'=>R (.error e) s') s:=by
 have oO:D≠r:=λe=>by rw[e,hr]at hD;simp at hD
 have oK:D≠s.heap.objs.size:=aC<|aq hD;have oP:D∉[s.heap.objs.size]:=λq=>oK<|ai.mp q;have Wk:=(Walks.longrange (prog:=prog) (w:=w) (A:=A.in1) oQ s.heap.objs.size a c k).toS;have fin:∀(g:Heap) (m₁ tk:Nat),m5 g s.heap.objs.size (a+((0:Nat):Int)*c) ((k:Int) - ((0:Nat):Int)) c->(∀b o,b≠D->s.heap.get? b=E o->g.get? b=E o)->
   g.get? D=E {cls:=.type "list",data:=.seq #[] m₁}->cS #[1] A (.builtin "list.extend.loop" ⟨[.ref D,.ref s.heap.objs.size,z],[]⟩) R {s with heap:=g,toks:=tk}:=by
  intro g m₁ tk q1 q2 q3;show codeAny_extend_loopS Wk (by rw[ak];omega) D oP z k 0 _ #[] m₁ rfl (aX _) q1 q3 (ItemsOf.nil _) λs' xs m hm oR hx=>?_;rw[Moved.eq_with hm];show hR s'.heap s'.toks xs m (λb o hb e=>hm.heap b o (λhq=>?_)<|q2 b o hb e) oR hx;rcases aB.mp hq with e'|hq
  ·show hb e'
  ·show absurd (aq e) (by rw[ai.mp hq];show bN _)
 unfold bM;show ae<|j5 (T:="range") ⟨_,hr,Y⟩ ?_;have x1:fH (.ref D) (.ref r)=sJ:=by simp[fH,oO]
 have x2:(cL "range"==cL "list")=sJ:=by decide
 have x3:(cL "range"==cL "tuple")=sJ:=by decide
 simp only[x1,x2,x3,Bool.or_false,cA,if_false];show ae<|wpAny_pyIter_longrange hr oN ?_;show ae (bO<|wpAny_hint_range (n:=k) (af _ hr) hk hle ?_);generalize hG:s.heap.push {cls:=.type "longrange_iterator",data:=.fields #[ck a,ck<|br a b c,ck c]}=G;have i1:m5 G s.heap.objs.size (a+((0:Nat):Int)*c) ((k:Int) - ((0:Nat):Int)) c:=by
  have q:G.get? s.heap.objs.size=E {cls:=.type "longrange_iterator",data:=.fields #[ck a,ck<|br a b c,ck c]}:=by rw[<-hG];show aF _ rfl
  rw[hk]at q;change G.get? _=_;rw[q];simp
 have old:∀b o,s.heap.get? b=E o->G.get? b=E o:=λb o e=>by rw[<-hG];show af _ e
 have d1:=old D _ hD;show wpAny_ite_split (λ_=>?_) λ_=>ar ⟨cD kh _,fin _ we _ i1 (λb o _ e=>old b o e) d1⟩;show ae<|eN ?_;show ae ?_;change wpAny _ _ (g9 D (·.push .none) >>= λ_=>g9 D (·.pop)) _ _ _;show ae<|dg d1 Y ?_;have d2:=b9 (bb (·.push bz)) d1 rfl;show dg (hz:=by seq_fits) d2 rfl ?_;have d3:=b9 (bb (·.pop)) d2 rfl;show ar ⟨cD kh _,fin _ _ _ ?_ (λb o hb e=>?_) d3⟩
 ·show(bj _ _ oK).trans ((bj _ _ oK).trans i1)
 ·show(bj _ _<|aW hb).trans ((bj _ _<|aW hb).trans<|old b o e)
theorem Nt{R:gT->ag->Prop}{b:Int}{k:Nat}(oK:A.handled=y)(hr:IsRange s.heap r a b c t u v)
  (hk:br a b c=k) (hle:k<=2^24) (D:sK) (z:sV) (we:Nat) (hD:s.heap.get? D=E {cls:=.type "list",data:=.seq #[] we})
  (hR:∀g tk xs m,(∀b o,b≠D->s.heap.get? b=E o->g.get? b=E o)->g.get? D=E {cls:=.type "list",dict:=y,data:=.seq xs m,slots:=#[]}->
   lF (λi v=>∃t,v= .int (a+i*c) t) xs k->R (.ok (.ret z)) {s with heap:=g,toks:=tk}):
  wpAny #[1] A.in1 (bM (.ref D) (.ref r) z)
   (λfin s'=>match fin with| .done f=>R (.ok f) s'| .again d=>d.quiet=sX/\cS #[1] A d R s') (λe s'=>R (.error e) s') s:=by
 cases hs:kg a b c with
 |true=>show wpAny_extend_range oK hr hs hk hle D z we hD hR
 |false=>show XQ oK hr hs hk hle D z we hD hR
def xg7{Q:sV->ag->Prop}{b:Int}{k:Nat}(oO:A.handled=y)(hr:IsRange s.heap r a b c t u v)
  (hk:br a b c=k) (hle:k<=2^24)
  (hQ:∀g tk xs m,(∀b o,s.heap.get? b=E o->g.get? b=E o)->
   g.get? s.heap.objs.size=E {cls:=.type "list",dict:=y,data:=.seq xs m,slots:=#[]}->lF (λi v=>∃t,v= .int (a+i*c) t) xs k->Q (.ref s.heap.objs.size) {s with heap:=g,toks:=tk}):
  wpAny #[1] A (call (.type "list") [.ref r]) Q sQ s:=by
 show mJ (Q₁:=λobj rj=>obj= .ref s.heap.objs.size/\rj={s with heap:=s.heap.push {cls:=.type "list",data:=.seq #[]}}) F.called_list (F.typeCall_list_1 _) F.entry_list_init
  (code_list_new _ ⟨Y,Y⟩) λobj rj BA=>?_
 obtain⟨rfl,rfl⟩:=BA;generalize hG:s.heap.push {cls:=.type "list",data:=.seq #[]}=G;have old:∀b o,s.heap.get? b=E o->G.get? b=E o:=λb o e=>by rw[<-hG];show af _ e
 have hD:G.get? s.heap.objs.size=E {cls:=.type "list",data:=.seq #[]}:=by rw[<-hG];show aF _ rfl
 have oN:s.heap.objs.size≠r:=λe=>absurd (aq hr) (by rw[<-e];show bN _);show⟨⟨_,hD,Y⟩,F.args_list_init_2 _ _,?_⟩;change wpAny _ _ (do let old <-gf (.ref s.heap.objs.size);lY (.ref s.heap.objs.size) λ_=>#[];letGo old.toList.reverse;bM (.ref s.heap.objs.size) (.ref r) .none) _ _ _;show ae ?_;unfold gf;show ae (eI hD Y<|ar ?_);change wpAny _ _ (g9 s.heap.objs.size (λ_=>#[]) >>= λ_=>letGo (#[]:Array sV).toList.reverse >>= λ_=>bM (.ref s.heap.objs.size) (.ref r) .none) _ _ _;show ae<|dg hD Y ?_;have d2:=b9 (bb λ_=>(#[]:Array sV)) hD rfl;have oK:∀b o,b≠s.heap.objs.size->G.get? b=E o->(G.update s.heap.objs.size<|bb λ_=>(#[]:Array sV)).get? b=E o:=
  λb o hb e=>(bj _ _<|aW hb).trans e
 show ae<|dJ ?_;show Nt (A:=A.in1) oO (oK r _ (aW oN)<|old r _ hr) hk hle s.heap.objs.size .none _ d2 λg tk xs m q1 q2 q3=>⟨Y,?_⟩;show hQ g tk xs m (λb o e=>q1 b o (aC<|aq e) (oK b o (aC<|aq e)<|old b o e)) q2 q3
end
end PySem
namespace Internal.L2
open PySem PySem.Spec PyProof.Rows
variable {H H' H0:Hp} {p:Array Nat} {K:ax} {X:Cx} {x qual name:Str} {l a f c:sK} {σ:St} {s:ag} {pos:Pos} {n i:Nat} {e:Expr} {o:HO} {params:c9} {scope:Scope} {pins:List (sK×Obj)} {Q:VK} {ps fns:List Str} {CX:wY} {as:List sK} {rR:List (List Int)} {body:d5} {fv:List (Str×V)} {xs:List V} {tb:TS} {P:a9} {w:World} {mg:Str->Option sV} {lo:Int} {fd:ay} {sp:Sp} {sQ:XK} {D:Ends} {te:TE} {α:Type} {us:List sV}
noncomputable def AL(lo:Int)(n:Nat):List V:=(bD n).map λ(i:Nat)=>V.int (lo+(i:Int))
def NP(lo:Int)(n:Nat):(AL lo n).length=n:=by simp[AL]
theorem EH:∀{xs:List V} {us:List sV},xs.length=us.length->(∀(j:Nat) (x:V) (u:sV),xs[j]? =E x->us[j]? =E u->RelV x u)->Vals xs us
 |[],[],_,_=>.nil
 |[],_::_,h,_=>by simp at h
 |_::_,[],h,_=>by simp at h
 |x::xs,u::us,h,k=>.cons (k 0 x u Y Y) (EH (by simpa using h) λj sZ v e1 e2=>k (j+1) sZ v (by simpa using e1) (by simpa using e2))
theorem XO{xs:Array sV}(h:lF (λi v=>∃t,v= .int (lo+(i:Int)*1) t) xs n):Vals (AL lo n) xs.toList:=by
 obtain⟨hl,hv⟩:=h;show EH (by rw[NP];simp[hl]) λj x u e1 e2=>?_;obtain⟨t,rfl⟩:=hv j u (by simpa using e2);unfold AL at e1;rw[av]at e1;cases q:(bD n)[j]? with
 |none=>rw[q]at e1;cases e1
 |some i=>
  rw[q]at e1;have e3:i=j:=by
   obtain⟨h1,h2⟩:=aE.mp q;rw[List.getElem_range]at h2;show h2.symm
  subst e3;cases e1;show⟨t,by rw[Int.mul_one]⟩
def jo(hc:X.calm=sX):yH X (.type "list") (λxs H Q=>∃p lo hi,xs=[.ref p]/\H p=E (.z0 lo hi)/\zM lo hi 1<=2^24/\∀l,H l=y->Q (.ref l) (upd H l<|.lst (AL lo<|zM lo hi 1))):=by
 intro pins s σ H xs us Q I r h;obtain⟨p,lo,hi,rfl,hp,hz,q⟩:=h;obtain⟨u,rfl,ru⟩:=Vals.one r;cases ru;obtain⟨t,u,v,hr⟩:=I.rh p _ hp;show xg7 (I.ok.hd hc) hr (MT lo hi 1).symm hz λg tk xs m k1 k2 k3=>?_;have fr:H s.heap.objs.size=y:=I.rh.fresh<|ah _;show⟨.ref s.heap.objs.size,upd H s.heap.objs.size<|.lst (AL lo<|zM lo hi 1),I.laid (h':=g) (t':=tk) k1 (ah _) ⟨?_,xs.toList,m,XO k3,by simpa using k2⟩,Y,q _ fr⟩;rw[NP,ak];omega
mutual
inductive Rp(K:ax)(H:Hp):V->j6->Prop
 |rp:Rp K H .rp .none
 |bl (b:Bool):Rp K H (.bl b) (.bool b)
 |int (i:Int):Rp K H (.int i) (.int i)
 |str (x:Str):Rp K H (.str x) (.str x)
 |lst {a:sK} {xs:List V} {ds:List j6}:kq K H a xs->wO K H xs ds->Rp K H (.ref a) (.list ds)
 |tup {a:sK} {xs:List V} {ds:List j6}:rM K H a xs->wO K H xs ds->Rp K H (.ref a) (.tuple ds)
inductive wO(K:ax)(H:Hp):List V->List j6->Prop
 |nil:wO K H [] []
 |cons {x:V} {d:j6} {xs:List V} {ds:List j6}:Rp K H x d->wO K H xs ds->wO K H (x::xs) (d::ds)
end
def xf.tP(e:xf H H')(h:rM K H a xs):rM K H' a xs:=by
 rcases h with(h|⟨o,h⟩)|h
 ·show .inl (.inl<|e _ _ h)
 ·show .inl (.inr ⟨o,e _ _ h⟩)
 ·show .inr h
theorem wO.ints:∀ns:List Int,wO K H (ns.map V.int) (ns.map d6)
 |[]=>.nil
 |i::r=>.cons (.int i) (wO.ints r)
def Rp.ints{ns:List Int}(h:kq K H a (ns.map V.int)):Rp K H (.ref a) (.list<|ns.map d6):=.lst h (.ints ns)
mutual
theorem Rp.reads(I:Inv X pins σ H s):∀{v:V} {d:j6} {u:sV},Rp X.K H v d->RelV v u->∃as,Reads s.heap u d as
 |_,_,u,.rp,r=>by cases (show u=bz from r);show⟨_,.none⟩
 |_,_,u,.bl b,r=>by cases (show u=eK b from r);show⟨_,.bool b⟩
 |_,_,u,.int i,r=>by obtain⟨t,e⟩:=(show∃t,u=fR i t from r);subst e;show⟨_,.int i t⟩
 |_,_,u,.str x,r=>by obtain⟨t,e⟩:=(show∃t,u=gx x t from r);subst e;show⟨_,.str x t⟩
 |_,_,u,.lst (a:=a) q rr,r=>by
  cases (show u=aS a from r);obtain⟨rf,rv,p,hz⟩:=I.list q;obtain⟨as,ra⟩:=wO.reads I rr rv;obtain⟨o,ho,hc,n,hd⟩:=p.isList;show⟨_,.list ho hc hd (by simpa using ra)⟩
 |_,_,u,.tup (a:=a) q rr,r=>by
  cases (show u=aS a from r);obtain⟨rf,rv,p,hz⟩:=I.tuple q;obtain⟨as,ra⟩:=wO.reads I rr rv;obtain⟨o,ho,hc,n,hd⟩:=p;show⟨_,.tuple ho hc hd (by simpa using ra)⟩
theorem wO.reads(I:Inv X pins σ H s):∀{v:List V} {d:List j6} {u:List sV},wO X.K H v d->Vals v u->∃as,ReadsAll s.heap u d as
 |_,_,_,.nil,.nil=>⟨_,.nil⟩
 |_,_,_,.cons q rr,.cons r t=>by
  obtain⟨as,h1⟩:=Rp.reads I q r;obtain⟨bs,h2⟩:=wO.reads I rr t;show⟨_,.cons h1 h2⟩
end
def BS(K:ax)(f:Bool->Bool):R2:=λx sZ H Q=>sE λda db=>tF (Rp K H x da) (Rp K H sZ db) (j7 da=sX) (j7 db=sX) (Q (.bl (f<|m7 da db)) H)
def Fs(hu:X.A.units+64<cLine):sf X (bH .Eq) (BS X.K λb=>b):=by
 intro pins s σ H x sZ v u Q I rx ry q;obtain⟨da,db,hx,hy,sa,sb,q⟩:=q;obtain⟨as,ra⟩:=hx.reads I rx;obtain⟨bs,rb⟩:=hy.reads I ry;show eq_dataH ra rb sa sb hu ⟨.bl<|m7 da db,H,I,Y,q⟩
def Jq(hu:X.A.units+64<cLine):sf X (bH .NotEq) (BS X.K λb=> !b):=by
 intro pins s σ H x sZ v u Q I rx ry q;obtain⟨da,db,hx,hy,sa,sb,q⟩:=q;obtain⟨as,ra⟩:=hx.reads I rx;obtain⟨bs,rb⟩:=hy.reads I ry;show ne_dataH ra rb sa sb hu ⟨.bl<|!PyData.eqv da db,H,I,Y,q⟩
def PF(K:ax)(f:Bool->Bool):R2:=λx sZ H Q=>tS λ(a b:sK) (ns ms:List Int)=>tF (x= .ref a) (sZ= .ref b) (kq K H a<|ns.map V.int) (kq K H b<|ms.map V.int) (Q (.bl (f<|decide (ns=ms))) H)
def Le{f:Bool->Bool}{x sZ:V}(q:PF K f x sZ H Q):BS K f x sZ H Q:=by
 obtain⟨a,b,ns,ms,rfl,rfl,ha,hb,q⟩:=q;show⟨_,_,.ints ha,.ints hb,iL ns,iL ms,?_⟩;have e:m7 (.list<|ns.map d6) (.list<|ms.map d6)=decide (ns=ms):=W.ked_eqvAll ns ms;rw[e];show q
noncomputable def IL:V->Option sV
 | .ty n=>E (.type n)
 | .ref a=>E (.ref a)
 |_=>y
theorem UA{c:V}{cv v:sV}(h:IL c=E cv)(r:RelV c v):v=cv:=by
 cases c with
 |ref a=>cases h;show r
 |ty n=>cases h;show r
 |_=>cases h
def IK(K:ax):List V->Hp->VK->Prop:=λxs H Q=>tE λx c t cv b=>tF (xs=[x,c]) (IL c=E cv) (uf K H x t) (lH K t cv=E b) (Q (.bl b) H)
def zY:yH X (.builtin "isinstance") (IK X.K):=by
 intro pins s σ H xs us Q I r h;obtain⟨x,c,t,cv,b,rfl,rc,ty,e,q⟩:=h;obtain⟨u,v,rfl,ru,rv⟩:=Vals.two r;have e2:=UA rc rv;subst e2;show V5 I ru ty e λtk=>⟨.bl b,H,I.tok _,Y,q⟩
structure IJ(K:ax)(C:sK)(m:Str)(f:sK):Prop where
 sp:W.specialIn K (.ref C) "__getattribute__"=E (E<|.builtin "type.__getattribute__")
 rd:W.readsIn K C (.type "type")=sX
 fd:W.findCls K (.ref C) (.type "type") m=E (.val<|.ref f)
 kp:gU K (.ref f)=sX
def FX{m:Str}{C:sK}{dvs:List V}{ds:List sV}{k:Nat}{p apos:Pos}{es:List Expr}{t:TA}{pl:Sem Bool}
  (hg:Gl X x) (hm:X.mg x=E (.ref C)) (M:IJ X.K C m f) (F:yA X.prog X.w X.K X.mg X.base CX k f fd ps sp) (hr:xR k X.A) (hb:Binds X.K fd ps ds) (hd:Vals dvs ds) (hx:Passes CX X sQ) (ha:PA X (e::es) t)
  (oK:autoParam #[7] rJ) (oN:autoParam #[17] rJ) (oO:autoParam #[12] q9)
  (ht:autoParam (eval (.Call (.Attribute (.Name x p) m apos) (e::es) [] pos) X.env=(do
   let ov <-eval (.Name x p) X.env
   lC apos.atName
   let(f,first) <-fA [ov] (iV ov m pl)
   iI pos f first (bY pos (aM (e::es) X.env)) (ku pos (gG [] X.env)))) rJ):
  PE X (.Call (.Attribute (.Name x p) m apos) (e::es) [] pos) (Bj sp dvs sQ t):=by
 intro pins s σ H Q I h;show gJ (pl:=pl) (vQ I hg hm ?_ oO) ht;show W.method_cls I.su M.sp<|W.cls_value I.su M.rd M.fd Y ?_;have I1:=I.tok<|s.toks+1;show gX (first:=[]) (h₀:=X.base) I.ok.mod.w5 M.kp (zS (ha pos pins _ σ H _ I1 h) λus s2 vs H2 I2 r q2=>⟨I2.su,?_⟩) oK oN;show DZ F hr hb hd hx I2 r q2
def xN:bK "len"=E (.builtin "len"):=by decide+kernel
def Bo:bK "max"=E (.builtin "max"):=by decide+kernel
def Bn:bK "min"=E (.builtin "min"):=by decide+kernel
def QX:bK "abs"=E (.builtin "abs"):=by decide+kernel
def yq:bK "isinstance"=E (.builtin "isinstance"):=by decide+kernel
def MR:bK "sorted"=E (.builtin "sorted"):=by decide+kernel
def QW:bK "sum"=E (.builtin "sum"):=by decide+kernel
def Kb:bK "any"=E (.builtin "any"):=by decide+kernel
def Ka:bK "all"=E (.builtin "all"):=by decide+kernel
def jF:bK "list"=E (.type "list"):=by decide+kernel
def vD:bK "tuple"=E (.type "tuple"):=by decide+kernel
def Bm:bK "int"=E (.type "int"):=by decide+kernel
def SQ:bK "bool"=E (.type "bool"):=by decide+kernel
def Bl:bK "str"=E (.type "str"):=by decide+kernel
def SO:bK "dict"=E (.type "dict"):=by decide+kernel
def Hu:bK "enumerate"=E (.type "enumerate"):=by decide+kernel
def Zc:bK "reversed"=E (.type "reversed"):=by decide+kernel
def SN{f:Str}{v:V}{fs:List (Str×V)}(h:fs.length<n):(vw f v fs).length<n+1:=dv (Hh f v fs) #[2]
section
variable {a b c:Expr} {ta tb:TE}
def B1(hc:X.calm=sX):yH X (.builtin "max") (λxs H Q=>DG (λi j H1=>Q (.int<|max i j) H1) xs H):=(V9 hc).imp λxs H Q q=>by
 obtain⟨i,j,rfl,q⟩:=Ga q;show⟨i,j,Y,?_⟩;have e:(if j > i then j else i)=max i j:=by split<;> lia
 rw[e];show q
def FC(hc:X.calm=sX):yH X (.builtin "min") (λxs H Q=>DG (λi j H1=>Q (.int<|min i j) H1) xs H):=(V8 hc).imp λxs H Q q=>by
 obtain⟨i,j,rfl,q⟩:=Ga q;show⟨i,j,Y,?_⟩;have e:(if j<i then j else i)=min i j:=by split<;> lia
 rw[e];show q
def Qv:yH X (.builtin "abs") (λxs H Q=>DB (λi H1=>Q (.int (i.natAbs:Int)) H1) xs H):=UL.imp λxs H Q q=>by
 obtain⟨i,rfl,q⟩:=FY q;show⟨i,Y,?_⟩;have e:(if i<0 then -i else i)=(i.natAbs:Int):=by split<;> lia
 rw[e];show q
def wy:V->Bool
 | .rp=>sX
 |_=>sJ
def Ld(x:V):decide (x= .rp)=wy x:=by cases x<;> simp[wy]
def Qu(ta:TE):TT:=λσ H Q=>ta σ H λx H1=>Q (wy x) H1
def QV(ta:TE):TT:=λσ H Q=>ta σ H λx H1=>Q (!wy x) H1
def AX(ha:PE X a ta):PT X (.Compare a [.Is] [.Constant .none j pos'] pos) (Qu ta):=(J6<|R8 ha).imp λσ H Q q=>by
 change ta σ H _;have e:(λx H1=>∃c,V.bl (decide (x=V.rp))= .bl c/\Q c H1)=λx H1=>Q (wy x) H1:=by
  funext x H1;rw[Ld];apply propext;show⟨λ⟨c,e,q⟩=>by cases e;show q,λq=>⟨_,Y,q⟩⟩
 rw[e];show q
def D9(ha:PE X a ta):PT X (.Compare a [.IsNot] [.Constant .none j pos'] pos) (QV ta):=(J6<|Uw ha).imp λσ H Q q=>by
 change ta σ H _;have e:(λx H1=>∃c,V.bl (!decide (x=V.rp))= .bl c/\Q c H1)=λx H1=>Q (!wy x) H1:=by
  funext x H1;rw[Ld];apply propext;show⟨λ⟨c,e,q⟩=>by cases e;show q,λq=>⟨_,Y,q⟩⟩
 rw[e];show q
theorem CS{body:List Stmt}{tc:TT}{tb:TS}(hp:PassesOwn #[3] X.A X.env X.xe)(hc:PT X c tc)(hb:sY X body tb):PS X (.While c body [] pos) (Ke tc tb):=by
 intro pins s σ H D I h;unfold Ke Ea at h;obtain⟨W,⟨m0,w0⟩,turn⟩:=h;show wpAny_While<|codeAny_whileLoop (λn s'=>BK X pins (W n) s') ?_ m0 ⟨σ,H,I,w0⟩;rintro n s1 ⟨AI,H1,I1,w1⟩;show eV hp<|Cp (hc pins s1 AI H1 _ I1<|turn n AI H1 w1) λb s2 H2 I2 q2=>?_;cases b with
 |true=>
  obtain⟨N,hN,q2⟩:=q2.1 rfl;rw[if_pos rfl];show eV hp<|sj (hb pins s2 AI H2 _ I2 q2) λf s3 q3=>?_;cases f with
  |next=>
   obtain⟨w8,H3,I3,n3⟩:=q3;obtain⟨m',hm,w3⟩:=hN w8 H3 n3;show⟨m',hm,w8,H3,I3,w3⟩
  |cont=>
   obtain⟨w8,H3,I3,n3⟩:=q3;obtain⟨m',hm,w3⟩:=hN w8 H3 n3;show⟨m',hm,w8,H3,I3,w3⟩
  |brk=>show q3
  |ret v=>show q3
 |false=>
  rw[if_neg aD];show fU ⟨AI,H2,I2,q2.2 Y⟩
end
def MQ{st:Int}{g:TG}(Pv:Nat->St->Hp->Prop)(h0:Pv 0 σ H)
  (hs:∀(i:Nat) σ H,i<n->Pv i σ H->g (.int<|lo+i*st) σ H λtN H2=>tb {D with nx:=Pv<|i+1,ct:=Pv<|i+1,bk:=D.nx} tN H2) (hd:∀σ H,Pv n σ H->D.nx σ H):uo (A6 lo st n) g tb D σ H:=by
 unfold uo;show⟨λi m σ H=>m=n - i/\i<=n/\Pv i σ H,⟨n,by simp,aX _,h0⟩,?_⟩;rintro i m σ H ⟨rfl,hi,p⟩
 by_cases oK:i<n
 ·show .inr ⟨oK,Pv<|i+1,λrq H' p'=>⟨n - (i+1),by lia,Y,oK,p'⟩,λx H' sZ=>?_⟩;obtain⟨e,sZ⟩:=sZ;subst e sZ;show hs i σ _ oK p
 ·have e:i=n:=by lia
  subst e;show .inl ⟨ah _,hd σ H p⟩
def yU{g:TG}(Pv:Nat->St->Hp->Prop)(h0:Pv 0 σ H)(hl:∀i σ H,i<=xs.length->Pv i σ H->kq K H l xs)
  (hs:∀i x σ H,xs[i]? =E x->Pv i σ H->g x σ H λtN H2=>tb {D with nx:=Pv<|i+1,ct:=Pv<|i+1,bk:=D.nx} tN H2) (hd:∀σ H,Pv xs.length σ H->D.nx σ H):uo (Aq K l) g tb D σ H:=by
 unfold uo;show UM Pv h0 hl hs hd
def Wu{g:TG}(Pv:Nat->St->Hp->Prop)(h0:Pv 0 σ H)(hl:∀i σ H,i<=xs.length->Pv i σ H->rM K H l xs)
  (hs:∀i x σ H,xs[i]? =E x->Pv i σ H->g x σ H λtN H2=>tb {D with nx:=Pv<|i+1,ct:=Pv<|i+1,bk:=D.nx} tN H2) (hd:∀σ H,Pv xs.length σ H->D.nx σ H):uo (BL K l) g tb D σ H:=by
 unfold uo;show Uu Pv h0 hl hs hd
def xf.new{p:sK}(h:H p=y):xf H (upd H p o):=λb u e=>by rw[xl<|xH e h];show e
def xf.put{p:sK}(e:xf H H')(h:H p=y):xf H (upd H' p o):=λb u q=>by rw[xl<|xH q h];show e b u q
def xf.at{p:sK}(e:xf H H')(h:H p=E o):H' p=E o:=e p o h
def xf.of_eq{p:sK}(h:H p=y)(e:upd H p o=H'):xf H H':=by rw[<-e];show xf.new h
def xM{p:sK}(e:upd H p o=H'):H' p=E o:=by rw[<-e];show xk
def xf.back{p:sK}(e:xf H H')(h:H' p=y):H p=y:=xf.free e h
def xf.wr{p:sK}(s:xf H0 H)(f:H0 p=y)(e:upd H p o=H'):xf H0 H':=by rw[<-e];show s.put f
structure zE(H0 H:Hp)(l:sK)(as:List sK)(rR:List (List Int)):Prop where
 top:H l=E (.lst<|as.map V.ref)
 nd:(l::as).Nodup
 len:as.length=rR.length
 each:∀(i:Nat) (a:sK) (xs:List Int),as[i]? =E a->rR[i]? =E xs->H a=E (.lst<|xs.map V.int)
 fr:H0 l=y
 tw:∀a∈as,H0 a=y
def zE.same(L:zE H0 H l as rR)(s:xf H H'):zE H0 H' l as rR:=
 ⟨s.at L.top,L.nd,L.len,λi a xs h1 h2=>s.at (L.each i a xs h1 h2),L.fr,L.tw⟩
def zE.base(L:zE H0 H l as rR)(s:xf OO H0):zE OO H l as rR:=
 ⟨L.top,L.nd,L.len,L.each,s.back L.fr,λa ha=>s.back<|L.tw a ha⟩
def zE.nil{H':Hp}(h:H0 l=y)(e:H l=E (.lst [])):zE H0 H l [] []:=
 ⟨e,by simp,Y,λi a xs h1 _=>by simp at h1,h,λa ha=>by simp at ha⟩
def zE.tracked(L:zE H0 H l as rR)(ha:a∈as):∃xs:List Int,H a=E (.lst<|xs.map V.int):=by
 obtain⟨i,hi,rfl⟩:=cM.mp ha;have h2:i<rR.length:=by rw[<-L.len];show hi
 show⟨rR[i],L.each i _ _ (au hi)<|au h2⟩
def zE.apart(L:zE H0 H l as rR){p:sK}(h:H p=y):p∉l::as:=by
 intro z;rcases aB.mp z with rfl|z
 ·rw[L.top]at h;cases h
 ·obtain⟨xs,e⟩:=L.tracked z;rw[e]at h;cases h
theorem zE.push{p:sK}{xs:List Int}(L:zE H0 H l as rR)(hp:H p=E (.lst<|xs.map V.int))(oN:p∉l::as)(hf:H0 p=y)
  (e:upd H l (.lst<|as.map V.ref++[.ref p])=H'):zE H0 H' l (as++[p]) (rR++[xs]):=by
 subst e;have oK:p≠l:=λz=>oN (by rw[z];show aJ);have oP:p∉as:=λz=>oN<|aw _ z;obtain⟨n1,n2⟩:=cV.mp L.nd;show⟨by rw[xk,aO];rfl,?_,by simp[L.len],λi a ys h1 h2=>?_,L.fr,λa ha=>?_⟩
 ·show cV.mpr ⟨λz=>?_,Lj n2 oP⟩;rcases aZ.mp z with z|z
  ·show n1 z
  ·show oK (ai.mp z).symm
 ·have oQ:a∈as++[p]:=aj h1;have oO:a≠l:=λz=>by
   subst z;rcases aZ.mp oQ with z|z
   ·show n1 z
   ·show oK (ai.mp z).symm
  rw[xl oO]
  by_cases hi:i<as.length
  ·rw[bq hi]at h1;rw[bq (by rw[<-L.len];show hi)]at h2;show L.each i a ys h1 h2
  ·rw[bP #[2]]at h1;rw[bP (by rw[<-L.len];lia)]at h2;have e1:i - as.length=0:=by
    cases hq:i - as.length with
    |zero=>rfl
    |succ k=>rw[hq]at h1;simp at h1
   rw[e1]at h1;rw[<-L.len,e1]at h2;simp at h1 h2;rw[<-h1,<-h2];show hp
 ·rcases aZ.mp ha with z|z
  ·show L.tw a z
  ·have z':a=p:=by simpa using z
   rw[z'];show hf
def Hs{st:Int}{r8:L2.St}{H2:Hp}(f:Nat->List Int)(hn:n<=aK)
  (hs:∀(i:Nat) (H3:Hp),i<n->xf H2 H3->∀R:VK,(∀l H6,xf H3 H6->H3 l=y->H6 l=E (.lst<|(f i).map V.int)->R (.ref l) H6)->te (E (.int<|lo+i*st)::r8) H3 R)
  (hd:∀D H' as,xf H2 H'->zE H2 H' D as ((bD n).map f)->Q (.ref D) H'):zw (A6 lo st n) r8 AM te Q H2:=by
 unfold zw;intro D hD;show⟨λi m acc H3=>m=n - i/\i<=n/\xf H2 H3/\∃as,acc=as.map V.ref/\zE H2 H3 D as ((bD i).map f),⟨n,by simp,aX _,xf.new hD,[],Y,zE.nil (H':=H2) hD xk⟩,?_⟩;rintro i m acc H3 ⟨rfl,hi,s3,as,rfl,L⟩;show⟨L.top,?_⟩
 by_cases oK:i<n
 ·have hl:as.length=i:=by rw[L.len];simp
  show .inr ⟨oK,by simp[hl];lia,λv H4 sZ=>?_⟩;obtain⟨e,sZ⟩:=sZ;subst e sZ;show⟨λ_=>?_,λz=>by cases z⟩;show hs i _ oK s3 _ λl H6 s6 oN oO=>⟨s6.at L.top,n - (i+1),by lia,Y,oK,(s3.trans s6).put hD,as++[l],by rw[aO];rfl,?_⟩;rw[j8,aO];show(L.same s6).push oO (L.apart oN) (s3.back oN) rfl
 ·have e:i=n:=by lia
  subst e;show .inl ⟨ah _,hd D H3 as s3 L⟩
abbrev HO.any:HO:=.ext λ_=>True
def xP.anyOf{h:Heap}{o:Obj}(e:h.get? a=E o):xP P w H h a (.sC o HO.any):=⟨e,trivial,⟨o,e⟩,λ_ _ _ _=>trivial⟩
inductive yx(H:Hp)(f:sK)(nm qual:Str)(params:c9)(body:d5)(scope:Scope)(fv:List (Str×V)):Prop
 |intro(rL:List (Str×sK)) (c:sK) (o:Obj) (u u':HO) (vs:Array sV) (t:Tok) (doc pm Iv:sV)
  (h0:H f=E (.sC {cls:=.type "function",data:=.func {name:=nm,qualname:=qual,params,body,scope,globals:=cg,closure:=rL,defaults:=.none,kwdefaults:=.none,doc,pyModule:=pm,annotations:=y,code:=.ref c,closureTuple:=Iv,builtins:=dW}} u)) (h1:H c=E (.sC o u')) (h2:o.data= .fields vs) (h3:vs[1]? =E (.str qual t)) (h4:(∀x sZ a,rL.lookup x=E a->rL.lookup sZ=E a->x=sZ)) (h5:(∀x,(x,cw)∈scope.names->∃a,rL.lookup x=E a)) (h6:(∀x v,(x,v)∈fv->∃a,rL.lookup x=E a/\H a=E (.tm<|E v))) (h7:∀x a,rL.lookup x=E a->∃v,H a=E (.tm<|E v)):yx H f nm qual params body scope fv
def yx.same{nm:Str}(h:yx H f nm qual params body scope fv)(e:xf H H'):yx H' f nm qual params body scope fv:=by
 obtain⟨rL,c,o,u,u',vs,t,doc,pm,oK,h1,h2,h3,h4,h5,h6,h7,h8⟩:=h;show⟨rL,c,o,u,u',vs,t,doc,pm,oK,e _ _ h1,e _ _ h2,h3,h4,h5,h6,λx v m=>let⟨a,q1,q2⟩:=h7 x v m;⟨a,q1,e _ _ q2⟩,λx a q=>let⟨v,q2⟩:=h8 x a q;⟨v,e _ _ q2⟩⟩
theorem SM{pos':Pos}{c:sV}(l:List sV)(h:l8 l):
  gR pos' (l++[ck pos.line,ck pos.col,c])=(match gR pos' l with
   |some d=>E d
   |none=>if ((pos.line:Int)==pos'.line&&(pos.col:Int)==pos'.col)=sX then E c else y):=by
 fun_induction l8 l with
 |case1=>simp[gR,ck]
 |case2 a t b u x rest ih=>
  simp only[List.cons_append,gR]
  split
  ·rfl
  ·show ih h
 |case3 l h1 h2=>show h.elim
def w9(K:ax)(c P:sK):Prop:=∀h:Heap,K.In h->m8 h c P
theorem MP:∀{l:List (Str×eE)} {cs:List (Str×sK)} {x:Str} {c:sK},(zk cells l cs).lookup x=E c->(x,cw)∈l\/∃a,cs.lookup x=E a
 |[],cs,x,c,h=>.inr ⟨c,h⟩
 |(n,k)::r,cs,x,c,h=>by
  unfold zk at h;rcases MP h with q|⟨a,q⟩
  ·show .inl (aw _ q)
  ·split at q
   ·rename_i hk;rw[cE]at q
    split at q
    ·rename_i hx;have e:x=n:=by simpa using hx
     have e2:k= .free:=by simpa using hk
     subst e;subst e2;show .inl aJ
    ·show .inr ⟨a,q⟩
   ·show .inr ⟨a,q⟩
noncomputable abbrev CO(name qual:Str)(params:c9)(body:d5)(scope:Scope)(rL:List (Str×sK))(doc pm cdv Iv:sV):Obj:=
 {cls:=.type "function",data:=.func {name,qualname:=qual,params,body,scope,globals:=cg,closure:=rL,defaults:=.none,kwdefaults:=.none,doc,pyModule:=pm,annotations:=y,code:=cdv,closureTuple:=Iv,builtins:=dW}}
section
variable {M:Model} {A:bx} {sQ:sV->ag->Prop} {env:Env} {P:sK} {ps:Array sV} {firstLine:Nat}
 {rL:List (Str×sK)} {Q:sV->ag->Prop}
theorem SK(oR:mZ scope env=pure rL)(oN:env.globals=cg)(hg:s.heap.Ns cg mg)(oK:env.code= .ref c)(C:m8 s.heap c P)(hP:s.heap.get? P=E (iM ps))(ht:l8 ps.toList)
  (oP:gR pos ps.toList=y) (oQ:cg≠P) (hb:s.heap.BuiltinsAt mg P)
  (h:∀c' oO doc h' tk,ou P s.heap h'->s.heap.objs.size<=c'->c'<h'.objs.size->h'.CodeRec (.ref c') qual->h'.get? P=E (iM<|ps++#[ck pos.line,ck pos.col,.ref c'])->
   Q (.ref h'.objs.size) {s with heap:=h'.push (CO name qual params body scope rL doc ((mg "__name__").getD .none) (.ref c') oO),toks:=tk}):
  wpAny M A (makeFunction name qual params body scope env [] [] [] pos firstLine) Q sQ s:=by
 cases body with
 |stmts b=>show W.makeFunction_K oR oN hg oK C hP ht oP oQ hb h
 |expr e=>show W.kla_makeFunction oR oN hg oK C hP ht oP oQ hb λc' oO h' tk=>h c' oO .none h' tk
theorem QU{cv:sV}(oP:mZ scope env=pure rL)(oN:env.globals=cg)(hg:s.heap.Ns cg mg)(oK:env.code= .ref c)(C:m8 s.heap c P)(hP:s.heap.get? P=E (iM ps))(ht:l8 ps.toList)
  (hf:gR pos ps.toList=E cv) (hb:s.heap.BuiltinsAt mg P)
  (h:∀(oO doc:sV) (h':Heap) (tk:Tok),(∀b o,s.heap.get? b=E o->h'.get? b=E o)->s.heap.objs.size<=h'.objs.size->
   Q (.ref h'.objs.size) {s with heap:=h'.push (CO name qual params body scope rL doc ((mg "__name__").getD .none) cv oO),toks:=tk}):
  wpAny M A (makeFunction name qual params body scope env [] [] [] pos firstLine) Q sQ s:=by
 cases body with
 |stmts b=>show W.makeFunction_hit oP oN hg oK C hP ht hf hb h
 |expr e=>show W.kla_makeFunctionHit oP oN hg oK C hP ht hf hb λoO h' tk=>h oO .none h' tk
end
section
variable {P:sK} {qs:List (Pos×Str)}
def Ih(X:Cx)(P:sK)(qs:List (Pos×Str))(fns:List Str)(name qual:Str)(params:c9)(body:d5)(scope:Scope):TE:=λσ H Q=>
 H P=E (.sk qs)/\∃fv:List (Str×V),fv.map (·.1)=fns/\(∀x v,(x,v)∈fv->∃a,X.env.cells.lookup x=E a/\H a=E (.tm<|E v))/\
  ∀f H',H f=y->xf H H'->yx H' f name qual params body scope fv->Q (.ref f) H'
def SJ(I:Inv X pins σ H s)(oK:X.env.code= .ref c)(T:w9 X.K c P)(hq:(pos,qual)∈qs)(hu:(qs.all λp=> !((pos.line==p.1.line)&&(pos.col==p.1.col))||(p.2==qual))=sX)
  (pz:(scope.names.filter λsZ=>sZ.2== .free).map (·.1)=fns) (h:Ih X P qs fns name qual params body scope σ H Q):
  wpAny #[3] X.A (makeFunction name qual params body scope X.env [] [] [] pos n) (EP X pins σ Q) X.xe s:=by
 show L2.oG λ_ U=>?_;obtain⟨hP,fv,hn,hf,h⟩:=h;apply U;have oP:∀x,(x,cw)∈scope.names↔x∈fns:=λx=>by
  rw[<-pz,aY];constructor
  ·show λm=>⟨(x,.free),bJ.mpr ⟨m,Y⟩,Y⟩
  ·rintro⟨⟨sZ,k⟩,m,rfl⟩;have m2:=bJ.mp m;have e:k= .free:=by simpa using m2.2
   subst e;show m2.1
 have names:∀x,(x,cw)∈scope.names->∃v a,(x,v)∈fv/\X.env.cells.lookup x=E a/\H a=E (.tm<|E v):=λx hx=>by
  have m:=(oP x).mp hx;rw[<-hn]at m;show L2.oG λ_ U=>?_;obtain⟨⟨x',v⟩,hm,rfl⟩:=aY.mp m;obtain⟨a,h1,h2⟩:=hf _ _ hm;apply U;show⟨v,a,hm,h1,h2⟩
 have pd:∀sZ∈scope.names,sZ.2= .free->∃c,X.env.cells.lookup sZ.1=E c:=λsZ hy e=>by
  obtain⟨y1,y2⟩:=sZ;have e:y2= .free:=e;subst e;show L2.oG λ_ U=>?_;obtain⟨_,a,_,h1,_⟩:=names y1 hy;apply U;show⟨a,h1⟩
 have pe:=EJ (scope:=scope) (env:=X.env) pd;have sub:∀{z:Str} {a:sK},#[10].lookup z=E a->X.env.cells.lookup z=E a:=λ{z a} e=>by
  rcases Eu pd e with q|q
  ·cases q
  ·show q
 have oY:∀{z:Str} {a:sK},#[10].lookup z=E a->(z,cw)∈scope.names:=λ{z a} e=>by
  rcases MP e with q|⟨_,q⟩
  ·show q
  ·cases q
 have oU:∀x sZ a,#[10].lookup x=E a->#[10].lookup sZ=E a->x=sZ:=λx sZ a e1 e2=>I.ok.inj x sZ a (sub e1)<|sub e2;have oN:∀x,(x,cw)∈scope.names->∃a,#[10].lookup x=E a:=λx m=>Cd<|.inl m;have oS:∀x v,(x,v)∈fv->∃a,#[10].lookup x=E a/\H a=E (.tm<|E v):=λx v m=>by
  show L2.oG λ_ U=>?_;obtain⟨a,e1,e2⟩:=hf x v m;apply U;obtain⟨a',e3⟩:=oN x<|(oP x).mpr (by rw[<-hn];show fL m);have e4:=sub e3;rw[e1]at e4;cases e4;show⟨a,e3,e2⟩
 have oV:∀x a,#[10].lookup x=E a->∃v,H a=E (.tm<|E v):=λx a e=>by
  show L2.oG λ_ U=>?_;obtain⟨v,a',_,e1,e2⟩:=names x<|oY e;apply U;rw[sub e]at e1;cases e1;show⟨v,e2⟩
 have hg:s.heap.Ns cg X.mg:=I.mod.glob.keeps I.bk;show L2.oG λ_ U=>?_;obtain⟨ps,oW,ht,oR⟩:=I.rh P _ hP;apply U;have C:=T s.heap I.su;have pq:cg≠P:=λq=>by
  show L2.oG λ_ U=>?_;obtain⟨o,es,ep,e,hd,_⟩:=hg;apply U;rw[q,oW]at e;cases e;cases hd
 have hB:s.heap.BuiltinsAt X.mg P:=by
  show L2.oG λ_ U=>?_;obtain⟨bm,ob,b1,b2,b3,b4,b5,b6⟩:=I.mod.bm;apply U;have oX:=I.bk _ _ b3;show⟨bm,ob,b1,b2,λq=>?_,λq=>?_,oX,b4,b5,b6⟩
  ·show L2.oG λ_ U=>?_;obtain⟨o,es,ep,e,hd,_⟩:=hg;apply U;rw[<-q,oX]at e;cases e;rw[b6]at hd;cases hd
  ·rw[q,oW]at oX;cases oX;cases b4
 rcases oR pos qual hq with pk|⟨c',o,u,vs,t,hit,pC,hd,hv⟩
 ·show SK pe I.ok.glob hg oK C oW ht pk pq hB λc' oO doc h' tk hx o7 o9 oZ o8=>?_;show L2.oG λ_ U=>?_;obtain⟨c2,oc,vs,t,e2,pj,hd,hv⟩:=oZ;apply U;cases e2;have pB:H c'=y:=I.rh.fresh o7;have hsz:s.heap.objs.size<=h'.objs.size:=cR<|dv o7 o9;have oQ:H h'.objs.size=y:=I.rh.fresh hsz;have pA:c'≠h'.objs.size:=aC o9
  let fo:=CO name qual params body scope #[10] doc ((X.mg "__name__").getD .none) (.ref c') oO
  let H':=upd (upd H c'<|.sC oc HO.any) h'.objs.size (.sC fo HO.any)
  have sm:∀b u,H b=E u->H' b=E u:=λb u e=>by
   change upd _ _ _ b=_;rw[xl<|xH e oQ,xl<|xH e pB];show e
  have OQ:H' c'=E (.sC oc HO.any):=by
   change upd _ _ _ c'=_;rw[xl pA,xk]
  have OP:H' h'.objs.size=E (.sC fo HO.any):=xk;have keep:∀b o,b≠P->s.heap.get? b=E o->(h'.push fo).get? b=E o:=λb o hb e=>af _<|hx b o hb e;have nP:∀b,H b=y->b≠P:=λb e q=>by rw[q,hP]at e;cases e
  show⟨.ref h'.objs.size,H',I.un ⟨λb o e n _ _=>keep b o (nP b n) e,λb o e n _ _=>⟨o.slots,keep b o (nP b n) e⟩,λb o e n _=>?_,λb o e _=>?_,λb u e _=>sm b u e⟩ λb u e=>?_,Y,?_⟩
  ·have lt:=aq e;change upd _ _ _ b=_;rw[xl (aC<|az lt hsz),xl (aC<|az lt o7)];show n
  ·by_cases hb:b=P
   ·show⟨_,af _ (by rw[hb];show o8)⟩
   ·show⟨o,keep b o hb e⟩
  ·by_cases h1:b=h'.objs.size
   ·subst h1;rw[OP]at e;cases e;show xP.anyOf (aF _ Y)
   ·have e1:upd H c' (.sC oc HO.any) b=E u:=(xl h1).symm.trans e
    by_cases h2:b=c'
    ·subst h2;rw[xk]at e1;cases e1;show xP.anyOf (af _ pj)
    ·rw[xl h2]at e1
     by_cases hb:b=P
     ·subst hb;rw[hP]at e1;cases e1;show⟨_,af _ o8,?_,λpos' q m=>?_⟩
      ·simpa using TriplesOk_snoc (pos.line:Int) (pos.col:Int) (.ref c') ps.toList ht
      ·have e3:(ps++#[ck pos.line,ck pos.col,aS c']).toList=ps.toList++[ck pos.line,ck pos.col,aS c']:=by simp
       rw[e3,SM _ ht];rcases oR pos' q m with z|⟨d,o,u,pf,t',z1,z2,z3,z4⟩
       ·rw[z]
        by_cases hl:((pos.line:Int)==pos'.line&&(pos.col:Int)==pos'.col)=sX
        ·right
         have ph:q=qual:=by
          have:=bZ.mp hu (pos',q) m;simp only[fF,beq_iff_eq,Int.ofNat_inj,Int.natCast_inj]at hl;have a1:pos.line=pos'.line:=by have:=hl.1;omega
          have a2:pos.col=pos'.col:=by have:=hl.2;omega
          simpa [a1,a2]using this
         subst ph;show⟨c',oc,HO.any,vs,t,if_pos hl,OQ,hd,hv⟩
        ·show .inl (if_neg hl)
       ·right
        rw[z1];show⟨d,o,u,pf,t',Y,sm _ _ z2,z3,z4⟩
     ·show(I.rh b u e1).tu (λd v hc q=>keep d v ?_ q) (λd q=>sm _ _ q) λd u q _=>sm _ _ q;rcases hc with rfl|hc
      ·show hb
      ·intro z;rw[z,hP]at hc;cases hc
  ·show h h'.objs.size H' oQ sm ⟨_,c',oc,HO.any,HO.any,vs,t,doc,_,oO,OP,OQ,hd,hv,oU,oN,λx v m=>let⟨a,q1,q2⟩:=oS x v m;⟨a,q1,sm _ _ q2⟩,λx a q=>let⟨v,q2⟩:=oV x a q;⟨v,sm _ _ q2⟩⟩
 ·show QU pe I.ok.glob hg oK C oW ht hit hB λoO doc h' tk hk hsz=>?_;have oQ:H h'.objs.size=y:=I.rh.fresh hsz;have sm:xf H (upd H h'.objs.size<|.sC (CO name qual params body scope #[10] doc ((X.mg "__name__").getD .none) (.ref c') oO) HO.any):=λb u e=>by
   rw[xl<|xH e oQ];show e
  show⟨.ref h'.objs.size,_,I.laid (o:=.sC (CO name qual params body scope #[10] doc ((X.mg "__name__").getD .none) (.ref c') oO) HO.any) (λb o e=>af _<|hk b o e) hsz (xP.anyOf<|aF _ Y),rfl,?_⟩;show h _ _ oQ sm ⟨_,c',o,HO.any,u,vs,t,doc,_,oO,xk,sm _ _ pC,hd,hv,oU,oN,λx v m=>let⟨a,q1,q2⟩:=oS x v m;⟨a,q1,sm _ _ q2⟩,λx a q=>let⟨v,q2⟩:=oV x a q;⟨v,sm _ _ q2⟩⟩
def Wt(oK:X.env.code= .ref c)(T:w9 X.K c P)(hq:(pos,X.env.qual++"<lambda>")∈qs)(hu:(qs.all λp=> !((pos.line==p.1.line)&&(pos.col==p.1.col))||(p.2==X.env.qual++"<lambda>"))=sX)
  (oO:(scope.names.filter λsZ=>sZ.2== .free).map (·.1)=fns) (oN:autoParam (defaultsOf params X.env=([],[])) rJ):
  PE X (.Lambda params e scope pos) (Ih X P qs fns "<lambda>" (X.env.qual++"<lambda>") params (.expr e) scope):=λ_ _ _ _ _ I h=>
 W.kla_eval oN (SJ I oK T hq hu oO h)
theorem Inv.C4(I:Inv X pins σ H s)(hN:X.N.Nodup)(hi:X.N[i]? =E x)(hk:X.env.kindOf x=E .cell)(oQ:X.cp x=sX)(oP:X.fn x=sJ)(ha:X.env.cells.lookup x=E a)(hH:H a=y):
  Inv X pins σ (upd H a (.tm<|σ[i]?.join)) s:=by
 have oR:∀b o,X.s₀.heap.get? b=E o->b≠a:=λb o e=>aC (az (aq e)<|I.ok.wg x a oQ ha);obtain⟨v0,oO⟩:=I.cell x a ha;show⟨I.ok,I.os,I.bare,⟨I.base.keep,I.base.slot,λb o e n hx=>?_,I.base.there,λb u e f=>?_⟩,I.loc,I.cell,?_,λsZ c e=>?_,λp hp=>?_,λb u e=>?_,I.len⟩
 ·rw[xl<|oR b o e];show I.base.free b o e n hx
 ·have:=I.base.fix b u e f;rw[xl<|xH this hH];show this
 ·rw[xl (aW<|I.Ao x a ha)];show I.free
 ·by_cases hc:c=a
  ·subst hc;obtain rfl:=I.ok.inj _ _ _ e ha;show .inr ⟨oP,_,xk,λz j v e1 k e2=>?_⟩;have:=Er hN e1 hi;subst this;rw[e2]at z;cases z
  ·rw[xl hc];show I.rT sZ c e
 ·obtain⟨e,n,ne,nf,d⟩:=I.pin p hp;show⟨e,?_,ne,nf,d⟩;rw[xl λz=>?_]
  ·show n
  ·obtain⟨o,q1,q2⟩:=oO;rw[<-z,e]at q1;cases q1;show d _ q2
 ·by_cases hb:b=a
  ·subst hb;rw[xk]at e;cases e;cases tU:σ[i]?.join with
   |none=>show⟨v0,oO,λx z=>by cases z⟩
   |some v=>
    have oN:σ[i]? =E (E v):=by
     cases q:σ[i]? with
     |none=>rw[q]at tU;cases tU
     |some w=>rw[q]at tU;cases w with
      |none=>cases tU
      |some w=>cases tU;rfl
    obtain⟨m,hn,hl⟩:=I.loc;obtain⟨u,r,l⟩:=hl i x v hi oN (.inr<|.inl hk);rcases l with⟨k,_⟩|⟨_,c,hc,oK⟩
    ·rw[hk]at k;cases k
    ·rw[ha]at hc;cases hc;show⟨_,oK,λsZ z=>by cases z;show⟨u,Y,r⟩⟩
  ·rw[xl hb]at e;show(I.rh b u e).tu (λ_ _ _ q=>q) (λd q=>by rw[xl<|xH q hH];show q) λd u q _=>by rw[xl<|xH q hH];show q
def QT(X:Cx)(x:Str)(i:Nat)(t:TS):TS:=λD σ H=>∀a,X.env.cells.lookup x=E a->X.H₀ a=y->(∀sZ b,X.env.cells.lookup sZ=E b->sZ≠x->b≠a)->H a=y/\t D σ (upd H a (.tm<|σ[i]?.join))
def C1{b:List Stmt}(hN:X.N.Nodup)(hi:X.N[i]? =E x)(hk:X.env.kindOf x=E .cell)(oK:X.cp x=sX)(oN:X.fn x=sJ)
  (h:sY X b t):sY X b (QT X x i t):=λpins s σ H D I q=>by
 obtain⟨a,ha⟩:=I.ok.has x<|.inl hk;obtain⟨z,q⟩:=q a ha (I.ok.hz a<|I.ok.wg x a oK ha) λsZ b e ne z=>ne (I.ok.inj sZ x b e<|z▸ha);show h pins s σ _ D (I.C4 hN hi hk oK oN ha z) q
def Qt(X:Cx)(x:Str)(i:Nat)(te:TE):TS:=λD σ H=>te σ H λv H1=>∃a,X.env.cells.lookup x=E a/\H1 a=E (.tm y)/\D.nx (σ.set i (E v)) (upd H1 a (.tm<|E v))
def Lc(hN:X.N.Nodup)(hi:X.N[i]? =E x)(hk:X.env.kindOf x=E .cell)(oU:X.cp x=sX)(oY:X.fn x=sJ)(he:PE X e te)(hs:autoParam (iU e (E<|.Name x pos') pos.line X.env=pure sJ) rJ):
  PS X (.Assign [.Name x pos'] e pos) (Qt X x i te):=by
 intro pins s σ H D I h;show wpAny_Assign_Name (xQ (he pins s σ H _ I h) λu s1 v H1 I r q=>?_) hs;obtain⟨a,ha,hH,q⟩:=q;obtain⟨w0,z⟩:=I.cell x a ha;obtain⟨m,hn,hl⟩:=id I.loc;have oQ:i<σ.length:=by rw[I.len];show(aE.mp hi).1
 have oO:∀b o,X.s₀.heap.get? b=E o->b≠a:=λb o e=>aC (az (aq e)<|I.ok.wg x a oU ha);show wpAny_storeName_cell I.ok.kind hk ha z λh' oR hs=>?_;show⟨_,_,⟨I.ok,I.os,I.bare,⟨λb o e n hb hx=>?_,λb o e n hb hx=>?_,λb o e n hx=>?_,λb o e hx=>?_,λb u e f=>?_⟩,⟨m,hn.sameBut hs (aW<|I.Ao x a ha),λj sZ v' e1 e2 e3=>?_⟩,λsZ c' e=>?_,?_,λsZ c' e=>?_,λp hp=>?_,λb u e=>?_,by simpa using I.len⟩,q⟩
 ·show(hs.2 b<|oO b o e).trans (I.base.keep b o e n hb hx)
 ·obtain⟨sl,e1⟩:=I.base.slot b o e n hb hx;show⟨sl,(hs.2 b<|oO b o e).trans e1⟩
 ·rw[xl<|oO b o e];show I.base.free b o e n hx
 ·obtain⟨o',e1⟩:=I.base.there b o e hx;show⟨o',(hs.2 b<|oO b o e).trans e1⟩
 ·have h0:=I.ok.hz a<|I.ok.wg x a oU ha;rw[xl<|xH e h0];show I.base.fix b u e f
 ·by_cases hj:j=i
  ·subst hj;rw[hi]at e1;cases e1;rw[gc oQ]at e2;cases e2;show⟨u,r,.inr ⟨.inl hk,a,ha,oR⟩⟩
  ·rw[dz<|aW hj]at e2;obtain⟨u',r',q⟩:=hl j sZ v' e1 e2 e3;show⟨u',r',?_⟩;rcases q with q|⟨k,c',e,z'⟩
   ·show .inl q
   ·show .inr ⟨k,c',e,z'.sameBut hs ?_⟩;rintro rfl;show hj (Er hN e1<|I.ok.inj _ _ _ e ha▸hi)
 ·by_cases oK:c'=a
  ·subst oK;show⟨_,oR⟩
  ·obtain⟨w2,z2⟩:=I.cell sZ c' e;show⟨w2,z2.sameBut hs oK⟩
 ·rw[xl (aW<|I.Ao x a ha)];show I.free
 ·by_cases oK:c'=a
  ·subst oK;obtain rfl:=I.ok.inj _ _ _ e ha;show .inr ⟨oY,E v,xk,λz=>by cases z⟩
  ·rw[xl oK];show(I.rT sZ c' e).imp id λ⟨oZ,o',oW,oX⟩=>⟨oZ,o',oW,λz j v' e1 k e2=>?_⟩
   by_cases hj:j=i
   ·subst hj;rw[hi]at e1;cases e1;rw[ha]at e;cases e;show oK rfl
   ·rw[dz<|aW hj]at e2;show oX z j v' e1 k e2
 ·obtain⟨e,n,ne,nf,d⟩:=I.pin p hp;have oS:p.1≠a:=λq=>by
   obtain⟨oc,oV,oP⟩:=z;rw[q,oV]at e;have q':oc=p.2:=bI e;show d w0 (by rw[<-q'];show oP)
  show⟨(hs.2 p.1 oS).trans e,by rw[xl oS];show n,ne,nf,d⟩
 ·by_cases hb:b=a
  ·subst hb;rw[xk]at e;cases e;show⟨_,oR,λsZ z=>by cases z;show⟨u,Y,r⟩⟩
  ·rw[xl hb]at e;have oN:∀d u',H1 d=E u'->u'≠.tm y->upd H1 a (.tm<|E v) d=E u':=λd u' e' hu=>by
    rw[xl λz=>?_]
    ·show e'
    ·rw[z,hH]at e';cases e';show hu rfl
   show(I.rh b u e).tu (λd w' hc q=>(hs.2 d ?_).trans q) (λd q=>oN _ _ q #[8]) λd u' q hf=>oN _ _ q (by rintro rfl;show hf);rcases hc with rfl|hc
   ·show hb
   ·intro z;rw[z,hH]at hc;cases hc
end
theorem Ws{mb:Str->Option sV}{k:Nat}{rj:ag}{vs:List sV}{ns:List Int}{tabs:List (sK×sK×List (Pos×Str))}
  (KX:K.In rj.heap) (oV:rj.heap.Ns cg mg) (hb:rj.heap.Ns dW mb) (o8:∀x:Str,x≠"__name__"->mb x=bK x) (oS:rj.heap.NoLimit) (o7:∃b o,mg "__builtins__"=E (.ref b)/\b≠dW/\rj.heap.get? b=E o/\o.cls= .type "module"/\o.dict=E dW/\o.data= .plain) (hg:rj.gens=#[])
  (ha:rj.heap.get? a=E {cls:=.type "list",data:=.seq vs.toArray}) (hi:cX vs ns) (hl:ns.length<=aK) (hr:xR k lE)
  (hT:∀q∈tabs,m8 rj.heap q.1 q.2.1/\rj.heap.get? q.2.1=E (iM #[])) (oZ:W.noTabs K=sX) (nd:(tabs.map λq=>q.2.1).Nodup)
  (F:∀base:Heap,K.In base->base.Ns cg mg->yA P w K mg base CX k fa fd [x] sp) (oO:∀(s:ag) (u:sV),mF s fd ⟨[u],[]⟩ [(x,u)])
  (oY:∀H:Hp,kq K H a (ns.map V.int)->(∀q∈tabs,H q.2.1=E (.sk q.2.2))->sp [.ref a] H (λv _=>v= .bl sX) λ_ _ _=>False)
  (o9:∀H e s',CX [] H rj (λ_ _ _=>False) e s'->False):
  cS (model P w) lE (.call (.ref fa) ⟨[.ref a],[]⟩) (λr s'=>r= .ok (.ret<|.bool sX)/\OldK rj.heap s'.heap/\s'.os=rj.os/\gr s'.gens) rj:=by
 have rv:=GH hi;have oR:=hi.length;have aP:∀q∈tabs,q.2.1≠a:=λq hq z=>by
  have e:=(hT q hq).2;rw[z,ha]at e;cases e
 have core:∀H:Hp,kq K H a (ns.map V.int)->(∀q∈tabs,H q.2.1=E (.sk q.2.2))->
   (∀b u,H b=E u->(b=a/\K.lookup a=y/\∃xs,u= .sC {cls:=.type "list",data:=.seq vs.toArray} (.lst xs))\/∃q∈tabs,b=q.2.1/\u= .sk q.2.2)->sD P w H rj.heap->
   cS (model P w) lE (.call (.ref fa) ⟨[.ref a],[]⟩) (λr s'=>r= .ok (.ret<|.bool sX)/\OldK rj.heap s'.heap/\s'.os=rj.os/\gr s'.gens) rj:=by
  intro H hS hP hA rh;have oK:∀{b:sK} {o:Obj},rj.heap.get? b=E o->H b=y->(Av rj.heap H).get? b=E o:=λe n=>UN e n;have oU:∀{b:sK} {o:Obj},rj.heap.get? b=E o->o.cls≠.type "list"\/(∀n,o.data≠.seq vs.toArray n)->o≠iM #[]->H b=y:=λ{b o} e d1 d2=>by
   cases q:H b with
   |none=>rfl
   |some u=>
    rcases hA b u q with⟨rfl,_,_⟩|⟨t,ht,rfl,_⟩
    ·rw[ha]at e;cases e;rcases d1 with d1|d1
     ·show absurd rfl d1
     ·show absurd rfl (d1 _)
    ·have e2:=(hT t ht).2;rw[e]at e2;cases e2;show absurd rfl d2
  have oP:∀{b:sK} {m:Str->Option sV},rj.heap.Ns b m->(Av rj.heap H).Ns b m:=λ{b m} ⟨o,es,ep,e,d,r⟩=>
   ⟨o,es,ep,oK e (oU e (.inr λn z=>by rw[d]at z;cases z) λz=>by rw[z]at d;cases d),d,r⟩
  have oW:K.In (Av rj.heap H):=λb o e=>oK (KX b o e) (by
   cases q:H b with
   |none=>rfl
   |some u=>
    rcases hA b u q with⟨rfl,z,_⟩|⟨t,ht,rfl,_⟩
    ·rw[z]at e;cases e
    ·have e2:=KX _ _ e;rw[(hT t ht).2]at e2;cases e2;have h2:=bZ.mp oZ _ (W.mem_of_lookupK e);show absurd (show sJ=sX from h2) aD)
  have hM:Mod K mg (Av rj.heap H):=⟨oW,oP oV,⟨mb,oP hb,o8⟩,let⟨mc,h1,h2⟩:=oS;⟨mc,oP h1,h2⟩,let⟨b,o,a1,a2,a3,a4⟩:=o7;⟨b,o,a1,a2,oK a3 (oU a3 (.inl λz=>by rw[a4.1]at z;simp at z) λz=>by rw[z]at a4;cases a4.1),a4⟩⟩;have e0:x9 P w K mg (Av rj.heap H) lE [] rj H:=⟨Y,hM,λb o e=>Ux e,dY<|Wd _ _,trivial,λb hb=>absurd (show b∈([]:List sK)from hb) #[8],rh,.of_eq hg⟩;show dI ((F _ oW<|oP oV).run lE [] rj H ⟨[.ref a],[]⟩ [.ref a] [.ref a] _ _ hr e0 (oO rj<|.ref a) (.cons Y .nil)<|oY H hS hP) λr s' h=>?_;cases r with
  |error e=>show(o9 H e s' h).elim
  |ok fl=>
   cases fl with
   |next=>show aV h
   |brk=>show aV h
   |cont=>show aV h
   |ret u=>
    show L2.oG λ_ U=>?_;obtain⟨v,H',os,bare,un,oN,r',q⟩:=h;apply U;have q':v= .bl sX:=q;subst q';obtain rfl:u=eK sX:=r';have old:∀b o,rj.heap.get? b=E o->s'.heap.get? b=E o\/∃t∈tabs,b=t.2.1/\o=iM #[]/\∃ps,s'.heap.get? b=E (iM ps):=λb o e=>by
     cases q:H b with
     |none=>show .inl (un.keep b o e q (by intro z;show absurd (show b∈([]:List sK)from z) (by simp)) (by simp))
     |some u=>
      rcases hA b u q with⟨rfl,_,xs,rfl⟩|⟨t,ht,rfl,rfl⟩
      ·obtain⟨e1,_⟩:=rh _ _ q;obtain⟨e2,_⟩:=oN _ _<|un.fix _ _ q trivial;rw[e]at e1;cases e1;show .inl e2
      ·show L2.oG λ_ U=>?_;obtain⟨ps,e2,_⟩:=oN _ _<|un.fix _ _ q trivial;apply U;have e3:=(hT t ht).2;rw[e]at e3;cases e3;show .inr ⟨t,ht,Y,Y,ps,e2⟩
    show⟨Y,⟨λb o e=>?_,λb o e=>?_⟩,os,bare⟩
    ·rcases old b o e with z|⟨t,ht,rfl,rfl,ps,z⟩
     ·show .inl z
     ·show .inr (.inl ⟨((hT t ht).1.tab (hT t ht).2).isCodeTable,Y,#[],ps,Y,by rw[Array.empty_append];show z⟩)
    ·rcases old b o e with z|⟨t,ht,rfl,rfl,ps,z⟩
     ·show⟨o,z⟩
     ·show⟨_,z⟩
 let Ht:Hp:=λb=>(tabs.find? λq=>q.2.1==b).map λq=>HO.sk q.2.2
 have oX:∀q∈tabs,Ht q.2.1=E (.sk q.2.2):=λq hq=>by
  change oH _ (tabs.find? _)=_;cases e:tabs.find? λr=>r.2.1==q.2.1 with
  |none=>
   have:=List.find?_eq_none.mp e q hq;simp at this
  |some r=>
   have h1:=List.find?_some e;have h2:=lr e;have h3:r.2.1=q.2.1:=by simpa using h1
   have:r=q:=by
    obtain⟨i,hi⟩:=bU.mp h2;obtain⟨j,hj⟩:=bU.mp hq;have ei:(tabs.map λq=>q.2.1)[i]? =E r.2.1:=by rw[av,hi];rfl
    have ej:(tabs.map λq=>q.2.1)[j]? =E r.2.1:=by rw[av,hj,h3];rfl
    obtain⟨i1,i2⟩:=aE.mp ei;obtain⟨j1,j2⟩:=aE.mp ej;have:=(lG nd).mp<|i2.trans j2.symm;subst this;rw[hi]at hj;show bI hj
   subst this;rfl
 have oQ:∀b u,Ht b=E u->∃q∈tabs,b=q.2.1/\u= .sk q.2.2:=λb u e=>by
  have e:oH (λq=>HO.sk q.2.2) (tabs.find? λq=>q.2.1==b)=E u:=e;show L2.oG λ_ U=>?_;obtain⟨q,hq,rfl⟩:=aI.mp e;apply U;have h1:=List.find?_some hq;show⟨q,lr hq,(show q.2.1=b by simpa using h1).symm,Y⟩
 have tok:∀{H:Hp} {q},q∈tabs->xP P w H rj.heap q.2.1 (.sk q.2.2):=λ{H q} hq=>⟨#[],(hT q hq).2,trivial,λ_ _ _=>.inl Y⟩;cases hk:K.lookup a with
 |some o=>
  have e:=KX a o hk;rw[ha]at e;cases e;show core Ht (.inr ⟨_,vs.toArray,_,hk,Y,Y,Y,by rw[aH,oR];show hl,by simpa using rv⟩) oX (λb u z=>.inr<|oQ b u z) λb u z=>?_;show L2.oG λ_ U=>?_;obtain⟨q,hq,rfl,rfl⟩:=oQ b u z;apply U;show tok hq
 |none=>
  show core (λb=>if b=a then E (.sC {cls:=.type "list",data:=.seq vs.toArray} (.lst<|ns.map V.int))else Ht b) (.inl<|.inr ⟨{cls:=.type "list",data:=.seq vs.toArray},if_pos rfl⟩) (λq hq=>(if_neg<|aP q hq).trans<|oX q hq) (λb u z=>?_) λb u z=>?_
  ·by_cases hb:b=a
   ·have z':=(if_pos hb).symm.trans z;cases z';show .inl ⟨hb,hk,_,Y⟩
   ·show .inr (oQ b u<|(if_neg hb).symm.trans z)
  ·by_cases hb:b=a
   ·have z':=(if_pos hb).symm.trans z;cases z';subst hb;show⟨ha,by rw[aa];show hl,vs,_,rv,ha⟩
   ·show L2.oG λ_ U=>?_;obtain⟨q,hq,rfl,rfl⟩:=oQ b u<|(if_neg hb).symm.trans z;apply U;show tok hq
def xqx{l:W.OpenLaw}{k:Nat}{q:a9}{XP:(Str->Option sV)->Heap->Prop}{YP:World->Heap->Prop}{d:DefRec}{K:Params->ax}{sp:ax->Sp}{tabs:List (sK×sK×List (Pos×Str))}
  (hn:l.most=E n) (oP:n<=aK) (oR:d.params.defaults=[]) (hr:xR k lE)
  (hY:∀(w:World) (h:Heap),YP w h->(K w.params).In h)
  (hT:∀(w:World) (h:Heap),YP w h->(K w.params).In h->∀t∈tabs,m8 h t.1 t.2.1/\h.get? t.2.1=E (iM #[])) (oO:∀w:World,W.noTabs (K w.params)=sX) (nd:(tabs.map λq=>q.2.1).Nodup)
  (F:∀(w:World) (mg:Str->Option sV) (fa:sK) (h:Heap),(K w.params).In h->h.Ns cg mg->mg d.name=E (.ref fa)->
   ∃fd:ay,(∀(s:ag) (u:sV),mF s fd ⟨[u],[]⟩ [(x,u)])/\
    ∀base:Heap,(K w.params).In base->base.Ns cg mg->yA l.prog w (K w.params) mg base CX k fa fd [x] (sp (K w.params)))
  (oN:∀(K:ax) (H:Hp) (a:sK) (ns:List Int),ns.length<=n->kq K H a (ns.map V.int)->(∀q∈tabs,H q.2.1=E (.sk q.2.2))->sp K [.ref a] H (λv _=>v= .bl sX) λ_ _ _=>False)
  (oS:∀(H:Hp) (s:ag) (e:sV) (s':ag),CX [] H s (λ_ _ _=>False) e s'->False):
  W.WalkO q loose XP YP l.row.toRowW d [] (λf vs=>PySem.call f vs):=by
 show Att.Zd hn oR λw s₀ rj mg mb fa o pm cd doc a vs ns G rO ho hd oU oQ oK hints hlen hg=>?_;have KX:=hY w _ rO;obtain⟨fd,hb,hF⟩:=F w mg fa _ KX G.T.g oQ;show Ws KX G.T.g G.T.b G.T.builtins G.T.nolimit G.T.bmain hg oK hints (aQ hlen oP) hr (hT w _ rO KX) (oO w) nd hF hb (λH hS hP=>oN (K w.params) H a ns hlen hS hP) λH e s'=>oS H rj e s'
structure uy(N ps fns:List Str)(sc:Scope):Prop where
 kind:sc.kind= .function
 co:sc.isCoroutine=sJ
 gen:sc.isGenerator=sJ
 nd:N.Nodup
 pre:N.take (ps.length+fns.length)=ps++fns
 par:∀x∈ps,sc.names.lookup x=E .local
 fre:∀x∈fns,sc.names.lookup x=E .free
 sh:∀sZ∈sc.names,sZ.2≠.cell
noncomputable def CG(N:List Str)(vs:List V)(fv:List (Str×V)):St:=vs.map E++fv.map (λp=>E p.2)++a7 (N.length - vs.length - fv.length) y
noncomputable def DF(CX:wY)(P:a9)(w:World)(K:ax)(mg:Str->Option sV)(base:Heap)(N:List Str)(qual:Str)(scope:Scope)(f:sK)(cd:sV)(rL:List (Str×sK))(A:bx)(outer:List Env)(s:ag)(H:Hp)(sQ:XK):Cx where
 prog:=P
 w:=w
 K:=K
 mg:=mg
 base:=base
 A:=A.deeper (lK qual scope s.heap.objs.size f cd rL)
 N:=N
 s₀:=s
 H₀:=H
 env:=lK qual scope s.heap.objs.size f cd rL
 outer:=outer
 stack:=lK qual scope s.heap.objs.size f cd rL::outer
 ex:=[]
 calm:=sX
 cp:=λ_=>sJ
 fn:=λ_=>sJ
 pn:=[]
 xe:=λe s'=>wpAny (model P w) (A.deeper<|lK qual scope s.heap.objs.size f cd rL) (leaving (lK qual scope s.heap.objs.size f cd rL) e) (λ_ oK=>CX outer H s sQ e oK) (λe' oK=>CX outer H s sQ e' oK) s'
theorem MO{α:Type}:∀{l:List (Str×α)} {x:Str} {v:α},(l.map (·.1)).Nodup->(x,v)∈l->l.lookup x=E v
 |[],_,_,_,m=>by simp at m
 |(sZ,u)::r,x,v,nd,m=>by
  obtain⟨n1,n2⟩:=cV.mp nd;rw[cE];rcases aB.mp m with e|m
  ·cases e;simp
  ·have:x≠sZ:=λe=>n1 (by rw[<-e];show fL (f:=(·.1)) m);rw[beq_false_of_ne this];show MO n2 m
theorem LQ:∀{ps:List Str} {us:List sV},us.length=ps.length->(ps.zip us).map (·.1)=ps
 |[],[],_=>rfl
 |p::ps,u::us,h=>by simp[LQ (ps:=ps) (us:=us) (by simpa using h)]
 |[],_::_,h=>by simp at h
 |_::_,[],h=>by simp at h
def xha(hl:us.length=ps.length)(nd:ps.Nodup)(h1:ps[i]? =E x)(h2:us[i]? =E u):(ps.zip us).reverse.lookup x=E u:=by
 show MO ?_ (List.mem_reverse.mpr ?_)
 ·rw[List.map_reverse,LQ hl];show List.pairwise_reverse.mpr (nd.imp λh=>aW h)
 ·show bU.mpr ⟨i,?_⟩;rw[List.getElem?_zip_eq_some];show⟨h1,h2⟩
noncomputable def codeOf(body:d5)(env:Env):Code:=match body with
 | .stmts b=>.func b env
 | .expr e=>.expr e env
section
variable {base:Heap} {N:List Str} {nm:Str} {cd:sV} {rL:List (Str×sK)} {A:bx} {outer:List Env} {vs:List V} {k:Nat}
theorem XN{h':Heap}{tk:Tok}(S:uy N ps fns scope)(hd:A.handled=y)(e0:x9 P w K mg base A outer s H)(hl:vs.length=ps.length)(r:Vals vs us)(oQ:fv.map (·.1)=fns)
  (oV:∀x sZ a,rL.lookup x=E a->rL.lookup sZ=E a->x=sZ) (oP:∀x,(x,cw)∈scope.names->∃a,rL.lookup x=E a)
  (oO:∀x v,(x,v)∈fv->∃a,rL.lookup x=E a/\H a=E (.tm<|E v)) (oK:∀x a,rL.lookup x=E a->∃v,H a=E (.tm<|E v))
  (oU:h'.Ns s.heap.objs.size λx=>(ps.zip us).reverse.lookup x) (hk:∀b o,s.heap.get? b=E o->h'.get? b=E o):
  Inv (DF CX P w K mg base N qual scope f cd rL A outer s H sQ) [] (CG N vs fv) H {s with heap:=h',toks:=tk}:=by
 have oS:fv.length=fns.length:=by rw[<-oQ,aa]
 have oW:ps.length+fns.length<=N.length:=by have:=congrArg cz S.pre;rw[a8,ao]at this;lia
 have oN:∀b:sK,b∉(DF CX P w K mg base N qual scope f cd rL A outer s H sQ).ex:=λb z=>absurd (show b∈([]:List sK)from z) #[8];have lu:us.length=ps.length:=by rw[<-r.length];show hl
 have oR:(ps++fns).Nodup:=by rw[<-S.pre];show S.nd.sublist (List.take_sublist _ _)
 show⟨⟨e0.mod,S.kind,Y,Y,ah _,λsZ z c h1 h2=>oV sZ z c h1 h2,λsZ hy=>?_,λsZ c h _=>(aD h).elim,λ_=>hd,mU e0.frames,.inr ⟨Y,Y⟩,λb z=>absurd z<|oN b,e0.bs,e0.wK,λb _ _=>oN b,λb z=>absurd z<|oN b,e0.sH,e0.wW,λsZ c h _=>(aD h).elim,λb hb=>e0.rh.fresh hb⟩,
  rfl,e0.bare,Un.kept hk,⟨_,oU,λi sZ v h1 h2 h3=>?_⟩,λsZ c h=>?_,e0.rh.fresh (ah _),λsZ c h=>?_,λp hp=>absurd (show p∈([]:List (sK×Obj))from hp) #[8],e0.rh.kept hk,?_⟩
 ·have hy:scope.names.lookup sZ=E .cell\/scope.names.lookup sZ=E .free:=hy;rcases hy with hy|hy
  ·show absurd rfl (S.sh _<|PySem.mem_of_lookup hy)
  ·show oP sZ (PySem.mem_of_lookup hy)
 ·have h1:N[i]? =E sZ:=h1;unfold CG at h2
  by_cases hi:i<vs.length
  ·rw[bq (by simp;lia),bq (by simpa using hi),av]at h2;cases e:vs[i]? with
   |none=>rw[e]at h2;cases h2
   |some a=>
    rw[e]at h2;cases h2;obtain⟨u,hu,rv⟩:=r.get e;have hp:ps[i]? =E sZ:=by
     have:(N.take<|ps.length+fns.length)[i]? =E sZ:=by rw[fE #[2]];show h1
     rw[S.pre,bq #[2]]at this;show this
    show⟨u,rv,.inl ⟨S.par sZ<|aj hp,xha lu (oR.sublist<|List.sublist_append_left _ _) hp hu⟩⟩
  ·by_cases hj:i<vs.length+fv.length
   ·rw[bq (by simp;lia),bP (by simpa using hi),aa,av]at h2;cases e:fv[i - vs.length]? with
    |none=>rw[e]at h2;cases h2
    |some p=>
     obtain⟨z,v'⟩:=p;rw[e]at h2;cases h2;have hp:fns[i - vs.length]? =E sZ:=by
      have:(N.take<|ps.length+fns.length)[i]? =E sZ:=by rw[fE #[2]];show h1
      rw[S.pre,bP #[2],<-hl]at this;show this
     have hz:z=sZ:=by
      rw[<-oQ,av,e]at hp;show bI hp
     subst hz;obtain⟨a,q1,q2⟩:=oO _ _<|aj e;obtain⟨u,q3,q4⟩:=e0.rh a _ q2;obtain⟨y',rfl,r'⟩:=q4 v' rfl;show⟨y',r',.inr ⟨.inr (S.fre z<|aj hp),a,q1,q3.keeps hk⟩⟩
   ·rw[bP (by simp;lia),lX]at h2
    split at h2<;> cases h2
 ·obtain⟨v,q2⟩:=oK sZ c h;obtain⟨u,q3,_⟩:=e0.rh c _ q2;show⟨u,q3.keeps hk⟩
 ·obtain⟨v,q2⟩:=oK sZ c h;show .inr ⟨Y,E v,q2,λz=>by cases z⟩
 ·unfold CG;change _=N.length;simp only[ao,aa,iW];lia
structure uq(P:a9)(w:World)(K:ax)(mg:Str->Option sV)(base:Heap)(CX:wY)(k:Nat)(nm qual:Str)(params:c9)(body:d5)(scope:Scope)(ps:List Str)(sp:List (Str×V)->Sp):Prop where
 len:∀fv vs H Q sQ,sp fv vs H Q sQ->vs.length=ps.length
 run:∀(A:bx) (outer:List Env) (s:ag) (H:Hp) (f:sK) (fv:List (Str×V)) (us:List sV) (vs:List V) (Q:VK) (sQ:XK),xR k A->x9 P w K mg base A outer s H->yx H f nm qual params body scope fv->Vals vs us->sp fv vs H Q sQ->
  cS (model P w) A (.call (.ref f) ⟨us,[]⟩) (CR CX outer P w H s Q sQ) s
theorem Wr{sp:List (Str×V)->Sp}(S:uy N ps fns scope)(len:∀fv vs H Q sQ,sp fv vs H Q sQ->vs.length=ps.length/\fv.map (·.1)=fns)
  (hb:∀(rL:List (Str×sK)) (doc pm cdv oK:sV) (us:List sV),us.length=ps.length->
   ko {name:=nm,qualname:=qual,params,body,scope,globals:=cg,closure:=rL,defaults:=.none,kwdefaults:=.none,doc,pyModule:=pm,annotations:=y,code:=cdv,closureTuple:=oK,builtins:=dW} ⟨us,[]⟩=pure (ps.zip us))
  (oR:∀(A:bx) (outer:List Env) (s:ag) (H:Hp) (f:sK) (rL:List (Str×sK)) (cdv:sV) (fv:List (Str×V)) (vs:List V) (Q:VK) (sQ:XK) (s1:ag),xR k (A.deeper<|lK qual scope s.heap.objs.size f cdv rL)->sp fv vs H Q sQ->
   Inv (DF CX P w K mg base N qual scope f cdv rL A outer s H sQ) [] (CG N vs fv) H s1->
   cS (model P w) A (codeOf body (lK qual scope s.heap.objs.size f cdv rL)) (CR CX outer P w H s Q sQ) s1):
  uq P w K mg base CX (k+1) nm qual params body scope ps sp:=by
 show⟨λfv vs H Q sQ h=>(len fv vs H Q sQ h).1,λA outer s H f fv us vs Q sQ hr e0 hc r oO=>?_⟩;obtain⟨rL,c,o,u,u',xs,t,doc,pm,oK,h1,h2,h3,h4,h5,h6,h7,h8⟩:=hc;obtain⟨hl,oS⟩:=len fv vs H Q sQ oO;have lu:us.length=ps.length:=by rw[<-r.length];show hl
 obtain⟨hf,_⟩:=e0.rh f _ h1;obtain⟨oU,_⟩:=e0.rh c _ h2;have lim:s.heap.NoLimit:=e0.mod.nolimit.keeps λb o e=>(e0.bs b o e).1;have oN:∀sZ∈ps.zip us,scope.names.lookup sZ.1=E .local:=λ⟨n,v⟩ hy=>S.par n (dZ hy).1;have cr:s.heap.CodeRec (.ref c) qual:=⟨c,o,xs,t,Y,oU,h3,h4⟩;have fin:wpAny (model P w) A.in1 (mI scope cg rL (ps.zip us) (qual++".<locals>.") (E f) (.ref c) y dW)
   (λenv rg=>rg.heap.NoLimit/\cS (model P w) A (codeOf body env) (CR CX outer P w H s Q sQ) rg) (λe s'=>CR CX outer P w H s Q sQ (.error e) s') s:=by
  show j4 S.sh oN (λh' oQ oP=>?_) S.kind;have hk:∀b o,s.heap.get? b=E o->h'.get? b=E o:=λb o e=>oP.extBut b o (aC<|aq e)<|af _ e;show⟨lim.keeps hk,oR A outer s H f rL (.ref c) fv vs Q sQ _ (hr.deeper _) oO<|XN S hr.hd e0 hl r oS h5 h6 h7 h8 oQ hk⟩
 cases body with
 |stmts b=>
  show gs hr.depth hf rfl S.co S.gen rfl cr ?_;rw[hb rL doc pm (.ref c) oK us lu];show ar fin
 |expr e=>
  show W.kla_callFunE hr.depth hf rfl S.co S.gen rfl cr ?_;rw[hb rL doc pm (.ref c) oK us lu];show ar fin
def jx{sp:List (Str×V)->Sp}(S:uy N ps fns scope)(len:∀fv vs H Q sQ,sp fv vs H Q sQ->vs.length=ps.length/\fv.map (·.1)=fns)
  (hb:∀(rL:List (Str×sK)) (doc pm cdv oO:sV) (us:List sV),us.length=ps.length->
   ko {name:=nm,qualname:=qual,params,body:=.expr e,scope,globals:=cg,closure:=rL,defaults:=.none,kwdefaults:=.none,doc,pyModule:=pm,annotations:=y,code:=cdv,closureTuple:=oO,builtins:=dW} ⟨us,[]⟩=pure (ps.zip us))
  (oK:∀(A:bx) (outer:List Env) (s:ag) (H:Hp) (f:sK) (rL:List (Str×sK)) (cdv:sV) (fv:List (Str×V)) (vs:List V) (Q:VK) (sQ:XK),xR k (A.deeper<|lK qual scope s.heap.objs.size f cdv rL)->sp fv vs H Q sQ->
   ∃te,PE (DF sR P w K mg base N qual scope f cdv rL A outer s H sQ).w4 e te/\te (CG N vs fv) H Q):uq P w K mg base sR (k+1) nm qual params (.expr e) scope ps sp:=
 Wr S len hb λA outer s H f rL cdv fv vs Q sQ s1 hr oN I=>by
  obtain⟨te,ht,hq⟩:=oK A outer s H f rL cdv fv vs Q sQ hr oN;show W.kla_codeExpr<|aR (ht [] s1 _ H Q (I.r0 _) hq) (λv s' ⟨x,H',J,rv,q⟩=>?_) λ_ _ z=>z.elim;show⟨x,H',J.os,J.bare,J.base,J.rh,rv,q⟩
end
section
variable {k:Nat} {nm:Str} {sp:List (Str×V)->Sp} {p:Pos} {es:List Expr} {t:TA}
theorem KS(F:uq X.prog X.w X.K X.mg X.base CX k nm qual params body scope ps sp)(hr:xR k X.A)(hx:Passes CX X sQ)
  (I:Inv X pins σ H s) (hc:yx H f nm qual params body scope fv) (r:Vals vs us) (h:sp fv vs H Q sQ):wpAny #[3] X.A (call (.ref f) us) (EP X pins σ Q) X.xe s:=by
 show fV<|dI (F.run X.A X.stack s H f fv us vs Q sQ hr I.wI hc r h) λr s' hq=>?_;cases r with
 |error e=>show hx pins σ H s e s' I hq
 |ok fl=>
  cases fl with
  |ret u=>show I.after hq
  |next=>show aV hq
  |brk=>show aV hq
  |cont=>show aV hq
def yx.fn(hc:yx H f nm qual params body scope fv)(I:Inv X pins σ H s):W.FnAt f s.heap:=by
 obtain⟨rL,c,o,u,u',xs,t,doc,pm,oK,h1,_⟩:=hc;obtain⟨e,_⟩:=I.rh f _ h1;show⟨_,_,_,_,e⟩
def QS(nm qual:Str)(params:c9)(body:d5)(scope:Scope)(sp:List (Str×V)->Sp)(sQ:XK)(i:Nat)(t:TA):TE:=λσ H Q=>sE λf fv=>tG (σ[i]? =E (E<|.ref f)) (yx H f nm qual params body scope fv) (t σ H λvs H1=>yx H1 f nm qual params body scope fv/\sp fv vs H1 Q sQ)
def LP(i:Nat)(F:uq X.prog X.w X.K X.mg X.base CX k nm qual params body scope ps sp)(hr:xR k X.A)(hx:Passes CX X sQ)(ha:PA X (e::es) t)(hN:autoParam (X.N[i]? =E x) rJ)(hv:autoParam (BH X.env.scope x) rY)(hd:autoParam #[12] q9)
  (oN:autoParam ((x==("__classdict__":Str))=sJ) q9) (he:autoParam #[7] rJ) (oK:autoParam #[17] rJ):
  PE X (.Call (.Name x p) (e::es) [] pos) (QS nm qual params body scope sp sQ i t):=by
 intro pins s σ H Q I h;obtain⟨f,fv,e1,hc,h⟩:=h;show bL<|xQ (FF (pos:=p) hN hv hd oN pins s σ H (λv H1=>v= .ref f/\H1=H) I ⟨_,e1,Y,Y⟩) λu s1 v H1 I1 r ⟨q1,q2⟩=>?_;subst q1;subst q2;cases (show u=aS f from r);show W.callWith_F (hc.fn I1) (zS (ha pos pins s1 σ H1 _ I1 h) λus s2 vs H2 I2 r2 q=>⟨q.1.fn I2,?_⟩) he oK;show KS F hr hx I2 q.1 r2 q.2
end
def Inv.Dm(oK:∀x,X.fn x=sX)(I:Inv X pins σ H s)(g:Str->Bool):Inv {X with fn:=g} pins σ H s:=by
 have ok:=I.ok;show⟨⟨ok.mod,ok.kind,ok.glob,ok.blt,ok.above,ok.inj,ok.has,λx c _ h=>ok.A3 x c (oK x) h,ok.hd,ok.frames,ok.Bx,ok.Dl,ok.bs,ok.wK,ok.wa,ok.wG,ok.sH,ok.wW,ok.wg,ok.hz⟩,I.os,I.bare,I.base,I.loc,I.cell,I.free,λx c e=>?_,I.pin,I.rh,I.len⟩;rcases I.rT x c e with z|⟨z,_⟩
 ·show .inl z
 ·rw[oK x]at z;cases z
noncomputable abbrev Fm(cap:List Str):Str->Bool:=λx=> !(cap.contains x)
noncomputable abbrev AS(cap:List Str)(CX:wY)(P:a9)(w:World)(K:ax)(mg:Str->Option sV)(base:Heap)(N:List Str)(qual:Str)(scope:Scope)(f:sK)(cd:sV)(A:bx)(outer:List Env)(s:ag)(H:Hp)(sQ:XK):Cx:=
 {jw CX P w K mg base N qual scope f cd A outer s H sQ with fn:=Fm cap}
theorem wx.EN{base:Heap}{st:Stmt}{N:List Str}{k:Nat}(cap:List Str)(F:wx K x qual st f fd)(hc:fd.code= .ref c)(S:yd N ps (xt st))(len:∀vs H Q sQ,sp vs H Q sQ->vs.length=ps.length)
  (oN:∀(A:bx) (outer:List Env) (s:ag) (H:Hp) (vs:List V) (Q:VK) (sQ:XK),xR k (A.deeper (fC qual (xt st) s.heap.objs.size f<|.ref c))->sp vs H Q sQ->
   ∃t,sY (AS cap sR P w K mg base N qual (xt st) f (.ref c) A outer s H sQ).w4 (yh st) t/\t {nx:=λ_ H'=>Q .rp H',rt:=Q} (start N vs) H):yA P w K mg base sR (k+1) f fd ps sp:=by
 obtain⟨oc,od,kV,doc,pm,an,cdv,ct,v9,rfl,lk,oP⟩:=F.ex;obtain rfl:cdv= .ref c:=hc;show⟨len,λA outer s H args us vs Q sQ hr e0 hb r oO=>?_⟩;have hl:=len _ _ _ _ oO;have KX:K.In s.heap:=e0.mod.w5.keeps λb o e=>(e0.bs b o e).1;have lim:s.heap.NoLimit:=e0.mod.nolimit.keeps λb o e=>(e0.bs b o e).1;have oK:∀sZ∈ps.zip us,(xt st).names.lookup sZ.1=E .local\/((xt st).names.lookup sZ.1=E .cell/\((l9 (s.heap.objs.size+1) (xt st).names []).lookup sZ.1).isSome=sX):=λ⟨n,v⟩ hy=>by
  rcases S.par n (dZ hy).1 with q|q
  ·show .inl q
  ·show .inr ⟨q,iJ _ _ _<|.inl q⟩
 show gs hr.depth (KX _ _ lk) rfl S.co S.gen rfl (nX KX oP)<|hb _ _ _ _ ?_;show gE S.kind oK λenv he s1 x=>?_;subst he;show⟨lim.keeps x.toInCall.keep,codeAny_func ?_⟩;obtain⟨t,ht,hq⟩:=oN A outer s H vs Q sQ (hr.deeper _) oO;have I:Inv (jw sR P w K mg base N qual (xt st) f (.ref c) A outer s H sQ) [] (start N vs) H s1:=GL S hr.hd e0 hl r x;have I':Inv (AS cap sR P w K mg base N qual (xt st) f (.ref c) A outer s H sQ).w4 [] (start N vs) H s1:=(I.Dm (λ_=>Y)<|Fm cap).r0 _;show aR (ht [] s1 (start N vs) H _ I' hq) (λfl s' hs=>?_) λe s' hs=>hs.elim;have fin:∀{rq:St} {H':Hp} {v:V} {u:sV},Inv (AS cap sR P w K mg base N qual (xt st) f (.ref c) A outer s H sQ).w4 [] rq H' s'->RelV v u->Q v H'->CE outer P w H s Q u s':=
  λ{rq H' v u} J rv q=>⟨v,H',J.os,J.bare,J.base,J.rh,rv,q⟩
 cases fl with
 |ret u=>
  obtain⟨v,rq,H',J,rv,q⟩:=hs;show fin J rv q
 |next=>
  obtain⟨rq,H',J,q⟩:=hs;show fin (v:=V.rp) (u:=bz) J rfl q
 |brk=>
  obtain⟨_,_,_,q⟩:=hs;show aV q
 |cont=>
  obtain⟨_,_,_,q⟩:=hs;show aV q
section
variable {P:sK} {qs:List (Pos×Str)} {q:Str}
def uV(oK:X.env.code= .ref c)(T:w9 X.K c P)(oO:X.env.qual++"<lambda>"=q)(hq:(pos,q)∈qs)(hu:(qs.all λp=> !((pos.line==p.1.line)&&(pos.col==p.1.col))||(p.2==q))=sX)
  (oP:(scope.names.filter λsZ=>sZ.2== .free).map (·.1)=fns) (oN:autoParam (defaultsOf params X.env=([],[])) rJ):
  PE X (.Lambda params e scope pos) (Ih X P qs fns "<lambda>" q params (.expr e) scope):=by
 subst oO;show Wt oK T hq hu oP oN
end
def xsq{P:sK}(e:W.codeHdIn K c P=sX):w9 K c P:=λ_ X=>W.codeHd_of_K X e
def CA{a b:Expr}{op:CmpOp}{t:TE}(h:PC X op a b t)(h1:dO op b=sJ):PT X (.Compare a [op] [b] pos) (cB t):=by
 intro pins s σ H Q I hw;show iT (sj (h pins s σ H _ I hw) λv s1 h1=>sj h1 λu s2 h2=>sj h2 λc s3 ⟨x,H1,I1,r1,q1⟩=>?_) h1;obtain⟨d,rfl,q⟩:=Ce q1;cases r1;show cH ⟨H1,I1,q⟩
def MN{r8:L2.St}{H2:Hp}(f:V->V)(hl:kq K H2 l xs)(hn:xs.length<=aK)
  (hs:∀(x:V) (H3:Hp),x∈xs->xf H2 H3->∀R:VK,(∀H6,xf H3 H6->R (f x) H6)->te (E x::r8) H3 R)
  (hd:∀D H',H2 D=y->xf H2 H'->H' D=E (.lst<|xs.map f)->Q (.ref D) H'):zw (Aq K l) r8 AM te Q H2:=by
 unfold zw;intro D hD;show⟨λi m acc H3=>m=xs.length - i/\i<=xs.length/\acc=(xs.take i).map f/\H3 D=E (.lst acc)/\xf H2 H3,⟨xs.length,by simp,aX _,Y,xk,xf.new hD⟩,?_⟩;rintro i m acc H3 ⟨rfl,hi,rfl,oK,s3⟩;show⟨oK,?_⟩;have q:=s3.seq hl
 by_cases oN:i<xs.length
 ·have hx:xs[i]? =E xs[i]:=au oN;show .inr ⟨⟨xs,xs[i],q,hx⟩,by simp;lia,λv H4 sZ=>?_⟩;obtain⟨e,sZ⟩:=sZ;have ev:=sZ xs q;rw[hx]at ev;cases ev;subst e;show⟨λ_=>?_,λz=>by cases z⟩;show hs _ _ (cF oN) s3 _ λH6 s6=>⟨s6.at oK,xs.length - (i+1),by lia,Y,oN,?_,xk,(s3.trans s6).put hD⟩;rw[bh,hx,aO];rfl
 ·have e:i=xs.length:=by lia
  subst e;rw[bo]at oK;show .inl ⟨⟨xs,q,ah _⟩,hd D H3 hD s3 oK⟩
open PySem PySem.W PyProof.Rows
structure Ac(lt:Nat->Nat->Bool)(n:Nat):Prop where
 irr:∀i,i<n->lt i i=sJ
 tr:∀i j k,i<n->j<n->k<n->lt i j=sX->lt j k=sX->lt i k=sX
 Ie:∀i j,i<n->j<n->i≠j->lt i j=sX\/lt j i=sX
def Wp{α:Type}(lt:Nat->Nat->Bool)(n:Nat):KasT α->(α->Prop)->Prop
 | .ret a,Q=>Q a
 | .ask i j k,Q=>i<n/\j<n/\Wp lt n (k<|lt i j) Q
section
variable {lt:Nat->Nat->Bool} {β:Type}
theorem Wp.bind{f:α->KasT β}{Q:β->Prop}:∀{t:KasT α},Wp lt n t (λa=>Wp lt n (f a) Q)->Wp lt n (t.bind f) Q
 | .ret _,h=>h
 | .ask _ _ _,⟨h1,h2,h⟩=>⟨h1,h2,Wp.bind h⟩
theorem Wp.OH{cmp:Nat->Nat->(Bool->ag->Prop)->ag->Prop}{Q:α->ag->Prop}(hc:∀i j (C:Bool->ag->Prop),i<n->j<n->C (lt i j) s->cmp i j C s):∀{t:KasT α},Wp lt n t (λa=>Q a s)->t.kasWp cmp Q s
 | .ret _,h=>h
 | .ask i j k,⟨h1,h2,h⟩=>hc i j _ h1 h2 (Wp.OH hc h)
theorem wp_mono{Q Q':α->Prop}:∀{t:KasT α},Wp lt n t Q->(∀a,Q a->Q' a)->Wp lt n t Q'
 | .ret _,h,k=>k _ h
 | .ask _ _ _,⟨h1,h2,h⟩,k=>⟨h1,h2,wp_mono h k⟩
structure Pm(n:Nat)(p:Array Nat):Prop where
 size:p.size=n
 perm:p.toList.Perm (bD n)
noncomputable abbrev g0(p:Array Nat)(i:Nat):Nat:=p.getD i 0
def Aj(p:Array Nat)(i:Nat):g0 p i=(p[i]?).getD 0:=by unfold g0;rw[Array.getD_eq_getD_getElem?]
def Pm.bd(P:Pm n p)(h:i<n):g0 p i<n:=by
 have hi:i<p.size:=by rw[P.size];show h
 have e:g0 p i=p[i]:=by rw[Aj,cO hi];rfl
 rw[e];show cC.mp (P.perm.mem_iff.mp (mS.mpr<|Array.getElem_mem hi))
def Pm.inj(P:Pm n p){j:Nat}(h:i<n)(h':j<n)(ne:i≠j):g0 p i≠g0 p j:=by
 have nd:p.toList.Nodup:=P.perm.nodup_iff.mpr iN;have hi:i<p.toList.length:=by rw[aU,P.size];show h
 have hj:j<p.toList.length:=by rw[aU,P.size];show h'
 have e:∀k (hk:k<p.toList.length),g0 p k=p.toList[k]:=λk hk=>by
  rw[Aj,<-eX,au hk];rfl
 rw[e i hi,e j hj];show λz=>ne ((lG nd).mp z)
def Up(lt:Nat->Nat->Bool)(p:Array Nat)(m:Nat):Prop:=∀i j,i<j->j<m->lt (g0 p i) (g0 p j)=sX
def Dn(lt:Nat->Nat->Bool)(p:Array Nat)(m:Nat):Prop:=∀i j,i<j->j<m->lt (g0 p j) (g0 p i)=sX
def Up.snoc(S:Ac lt n)(P:Pm n p){m:Nat}(hm:m<n)(h1:1<=m)(U:Up lt p m)(h:lt (g0 p<|m - 1) (g0 p m)=sX):Up lt p (m+1):=λi j oK hj=>by
 by_cases e:j=m
 ·subst e
  by_cases e2:i=j - 1
  ·subst e2;show h
  ·show S.tr _ _ _ (P.bd #[2]) (P.bd #[2]) (P.bd hm) (U i (j - 1) #[2] #[2]) h
 ·show U i j oK #[2]
def Dn.snoc(S:Ac lt n)(P:Pm n p){m:Nat}(hm:m<n)(h1:1<=m)(U:Dn lt p m)(h:lt (g0 p m) (g0 p<|m - 1)=sX):Dn lt p (m+1):=λi j oK hj=>by
 by_cases e:j=m
 ·subst e
  by_cases e2:i=j - 1
  ·subst e2;show h
  ·show S.tr _ _ _ (P.bd hm) (P.bd #[2]) (P.bd #[2]) h (U i (j - 1) #[2] #[2])
 ·show U i j oK #[2]
theorem Fz(S:Ac lt n){p:Array Nat}(P:Pm n p){Q:Nat->Prop}:∀(f m:Nat),1<=m->m+f<=n->Up lt p m->(∀m',m<=m'->m'<=m+f->Up lt p m'->(m'<m+f->lt (g0 p m') (g0 p<|m' - 1)=sX)->Q m')->Wp lt n (kas_asc p f m) Q
 |0,m,_,_,U,h=>h m (ah _) (ah _) U (λz=>absurd z (by lia))
 |f+1,m,h1,hf,U,h=>by
  show⟨P.bd #[2],P.bd #[2],?_⟩;cases e:lt (p.getD m 0) (p.getD (m - 1) 0)with
  |true=>show h m (ah _) (by lia) U λ_=>e
  |false=>
   have e2:lt (g0 p<|m - 1) (g0 p m)=sX:=(S.Ie _ _ (P.bd #[2]) (P.bd #[2])<|P.inj #[2] #[2] #[2]).resolve_right (by rw[show lt (g0 p m) (g0 p<|m - 1)=sJ from e];simp);show Fz S P f (m+1) #[2] #[2] (U.snoc S P #[2] h1 e2) λm' a1 a2 a3 a4=>h m' #[2] #[2] a3 λz=>a4 #[2]
theorem KR(S:Ac lt n){p:Array Nat}(P:Pm n p){Q:Array Nat×Nat×Nat->Prop}:∀(f m:Nat),2<=m->m+f<=n->Dn lt p m->(∀m',2<=m'->m'<=n->Dn lt p m'->Q (p,m',0))->Wp lt n (kas_desc f p m 0) Q
 |0,m,_,hf,U,h=>h m (by lia) (by lia) U
 |f+1,m,h1,hf,U,h=>by
  show⟨P.bd #[2],P.bd #[2],?_⟩;cases e:lt (p.getD m 0) (p.getD (m - 1) 0)with
  |true=>show KR S P f (m+1) (by lia) (by lia) (U.snoc S P (by lia) (by lia) e) h
  |false=>
   have e2:lt (g0 p<|m - 1) (g0 p m)=sX:=(S.Ie _ _ (P.bd #[2]) (P.bd #[2])<|P.inj #[2] #[2] #[2]).resolve_right (by rw[show lt (g0 p m) (g0 p<|m - 1)=sJ from e];simp);show⟨P.bd #[2],P.bd #[2],?_⟩;rw[show lt (p.getD (m - 1) 0) (p.getD m 0)=sX from e2];show h m #[2] #[2] U
def Pm.rev(P:Pm n p)(i j:Nat):Pm n (kas_rev p i j):=⟨by unfold kas_rev;rw[mirror_size];show P.size,(kY.mp (mirror_perm p i j<|(j - i) / 2)).trans P.perm⟩
def Dn.rev(P:Pm n p){m:Nat}(hm:m<=n)(U:Dn lt p m):Up lt (kas_rev p 0 m) m:=λi j oK hj=>by
 have e:∀k,k<m->g0 (kas_rev p 0 m) k=g0 p (m - 1 - k):=λk hk=>by
  rw[Aj,Aj];unfold kas_rev;rw[getElem?_mirror_all (by rw[P.size];show hm),if_pos ⟨aX _,hk⟩]
  congr 2
  lia
 rw[e i #[2],e j hj];show U (m - 1 - j) (m - 1 - i) #[2] #[2]
def Uz(S:Ac lt n)(P:Pm n p){m:Nat}(h1:1<=m)(hm:m<=n)(U:Dn lt p m):Wp lt n (kas_tail3 m n p) (λr=>Pm n r.2/\1<=r.1/\r.1<=n/\Up lt r.2 r.1):=
 Wp.bind (Fz S (P.rev 0 m) (n - m) m h1 #[2] (U.rev P hm) λm' a1 a2 a3 _=>⟨P.rev 0 m,by change 1<=m';lia,by change m'<=n;lia,a3⟩)
def Uy(S:Ac lt n)(P:Pm n p)(h2:2<=n):Wp lt n (kas_count n p) (λr=>Pm n r.2/\1<=r.1/\r.1<=n/\Up lt r.2 r.1):=by
 show Wp.bind (Fz S P (n - 1) 1 (ah _) #[2] (λi j h1 h2=>absurd h2 #[2]) λm a1 a2 a3 a4=>?_)
 by_cases e:(m==n)=sX
 ·rw[if_pos e];show⟨P,a1,by change m<=n;lia,a3⟩
 ·rw[if_neg e];have oK:m<n:=by
   have:m≠n:=by simpa using e
   lia
  by_cases e2:m > 1
  ·rw[if_pos e2];show⟨P.bd #[2],P.bd #[2],?_⟩;rw[show lt (p.getD 0 0) (p.getD (m - 1) 0)=sX from a3 0 (m - 1) #[2] #[2]];show⟨P,a1,by change m<=n;lia,a3⟩
  ·rw[if_neg e2];have e3:m=1:=by lia
   subst e3;show Wp.bind (KR S P (n - 2) 2 (ah _) #[2] (λi j h1 h2=>?_) λm' b1 b2 b3=>?_)
   ·obtain rfl:j=1:=by lia
    obtain rfl:i=0:=by lia
    show a4 #[2]
   ·show Uz S P (by change 1<=m';lia) b2 b3
theorem F9(S:Ac lt n){p:Array Nat}(P:Pm n p){k:Nat}(hk:k<n){Q:Nat->Prop}(h:∀l,l<=k->(∀i,i<l->lt (g0 p i) (g0 p k)=sX)->(∀i,l<=i->i<k->lt (g0 p k) (g0 p i)=sX)->Q l)(U:Up lt p k):
  ∀(f l r:Nat),l<=r->r<=k->r - l<=f->(∀i,i<l->lt (g0 p i) (g0 p k)=sX)->(∀i,r<=i->i<k->lt (g0 p k) (g0 p i)=sX)->Wp lt n (kas_place p k f l r) Q
 |0,l,r,a1,a2,a3,b1,b2=>h l (by lia) b1 λi h1 h2=>b2 i (by lia) h2
 |f+1,l,r,a1,a2,a3,b1,b2=>by
  unfold kas_place
  by_cases e:l≥r
  ·rw[if_pos e];show h l #[2] b1 λi h1 h2=>b2 i #[2] h2
  ·rw[if_neg e];have oN:(l+r) / 2<r:=by lia
   have oK:l<=(l+r) / 2:=by lia
   show⟨P.bd hk,P.bd #[2],?_⟩;cases e2:lt (p.getD k 0) (p.getD ((l+r) / 2) 0)with
   |true=>
    show F9 S P hk h U f l ((l+r) / 2) oK #[2] #[2] b1 λi h1 h2=>?_
    by_cases e3:i=(l+r) / 2
    ·subst e3;show e2
    ·show S.tr _ _ _ (P.bd hk) (P.bd #[2]) (P.bd #[2]) e2 (U ((l+r) / 2) i #[2] h2)
   |false=>
    have e4:lt (g0 p<|(l+r) / 2) (g0 p k)=sX:=(S.Ie _ _ (P.bd #[2]) (P.bd hk)<|P.inj #[2] hk #[2]).resolve_right (by rw[show lt (g0 p k) (g0 p<|(l+r) / 2)=sJ from e2];simp);show F9 S P hk h U f ((l+r) / 2+1) r #[2] a2 #[2] (λi h1=>?_) b2
    by_cases e3:i=(l+r) / 2
    ·subst e3;show e4
    ·show S.tr _ _ _ (P.bd #[2]) (P.bd #[2]) (P.bd hk) (U i ((l+r) / 2) #[2] #[2]) e4
def Up.ins(P:Pm n p){k l:Nat}(hk:k<n)(hl:l<=k)(U:Up lt p k)(b1:∀i,i<l->lt (g0 p i) (g0 p k)=sX)(b2:∀i,l<=i->i<k->lt (g0 p k) (g0 p i)=sX):Up lt (bubble p k<|k - l) (k+1):=λi j oN hj=>by
 have e:∀x,g0 (bubble p k<|k - l) x=if x=l then g0 p k else if l<x/\x<=k then g0 p (x - 1)else g0 p x:=λx=>by
  rw[Aj,getElem?_bubble (by rw[P.size];show hk) (k - l) #[2],show k - (k - l)=l by lia]
  by_cases h1:x=l
  ·rw[if_pos h1,if_pos h1,Aj]
  ·rw[if_neg h1,if_neg h1]
   by_cases h2:l<x/\x<=k
   ·rw[if_pos h2,if_pos h2,Aj]
   ·rw[if_neg h2,if_neg h2,Aj]
 rw[e i,e j]
 by_cases hi:i=l
 ·rw[if_pos hi,if_neg #[2],if_pos ⟨by lia,by lia⟩];show b2 (j - 1) #[2] #[2]
 ·rw[if_neg hi]
  by_cases oK:j=l
  ·rw[if_pos oK,if_neg #[2]];show b1 i #[2]
  ·rw[if_neg oK]
   by_cases h1:l<i/\i<=k
   ·rw[if_pos h1,if_pos ⟨by lia,by lia⟩];show U (i - 1) (j - 1) #[2] #[2]
   ·rw[if_neg h1]
    by_cases h2:l<j/\j<=k
    ·rw[if_pos h2];show U i (j - 1) #[2] #[2]
    ·rw[if_neg h2];show U i j oN #[2]
def Pm.bub(P:Pm n p)(k d:Nat):Pm n (bubble p k d):=⟨by rw[bubble_size];show P.size,(kY.mp<|bubble_perm p k d).trans P.perm⟩
theorem J9(S:Ac lt n):∀(f:Nat) (p:Array Nat) (k:Nat),k+f=n->Pm n p->Up lt p k->Wp lt n (kas_bin f p k) (λq=>Pm n q/\Up lt q n)
 |0,p,k,e,P,U=>⟨P,by rw[show n=k by lia];show U⟩
 |f+1,p,k,e,P,U=>by
  show Wp.bind<|F9 S P #[2] (λl hl b1 b2=>?_) U k 0 k (aX _) (ah _) #[2] (λi h=>absurd h #[2]) λi h1 h2=>absurd h2 #[2];show J9 S f _ (k+1) #[2] (P.bub k<|k - l) (U.ins P #[2] hl b1 b2)
def SI(S:Ac lt n)(h2:2<=n):Wp lt n (kas_sort n) (λq=>Pm n q/\Up lt q n):=by
 have P0:Pm n (aL<|bD n):=⟨by simp,by simp⟩;show Wp.bind ?_;show wp_mono (Uy S P0 h2) λr hr=>?_;obtain⟨P,a1,a2,U⟩:=hr
 by_cases e:r.1<n
 ·rw[if_pos e,show max r.1 1=r.1 by lia];show J9 S (n - r.1) r.2 r.1 #[2] P U
 ·rw[if_neg e];show⟨P,by rw[show n=r.1 by lia];show U⟩
end
end Internal.L2
namespace PySem
open PyProof.Rows
section
variable {prog:a9} {w:World} {A:bx} {sQ:sV->ag->Prop} {s:ag}
theorem Zb{b:Int}{k:Nat}{Q:List sV->ag->Prop}(oK:A.handled=y)(hr:IsRange s.heap r a b c t u v)
  (hk:br a b c=k) (hle:k<=2^24)
  (hQ:∀g tk xs m,(∀b o,s.heap.get? b=E o->g.get? b=E o)->s.heap.objs.size<g.objs.size->
   g.get? s.heap.objs.size=E {cls:=.type "list",dict:=y,data:=.seq xs m,slots:=#[]}->lF (λi v=>∃t,v= .int (a+i*c) t) xs k->Q xs.toList {s with heap:=g,toks:=tk}):
  wpAny #[1] A (collect<|.ref r) Q sQ s:=by
 unfold collect;show ae (wpAny_runValue<|dh entry_proto_collect' ?_);change wpAny _ _ (do again (.builtin "list.__iadd__" ⟨[<-newList [],.ref r],[]⟩)) _ _ s;show ae (iF<|ar ⟨ic _ #[18],dh entry_list_iadd' ?_⟩);change wpAny _ _ (bM (.ref s.heap.objs.size) (.ref r)<|.ref s.heap.objs.size) _ _ {s with heap:=s.heap.push (bA "list" #[] 0)};have hD:(s.heap.push<|bA "list" #[] 0).get? s.heap.objs.size=E {cls:=.type "list",data:=.seq #[] 0}:=aF _ rfl;have old:∀b o,s.heap.get? b=E o->(s.heap.push<|bA "list" #[] 0).get? b=E o:=λb o e=>af _ e;show Nt (prog:=prog) (w:=w) (A:=A) (R:=λr s'=>match r with| .ok (.ret v)=>wpAny #[1] A (match v with| .ref a=>do {let o <-load a;match o.data with| .seq xs _=>pure xs.toList|_=>unsupported "internal:collect"} |_=>unsupported "internal:collect") Q sQ s'| .ok _=>False| .error e=>sQ e s') (s:={s with heap:=s.heap.push (bA "list" #[] 0)}) oK (old r _ hr) hk hle s.heap.objs.size (.ref s.heap.objs.size) 0 hD λg tk xs m q1 q2 q3=>?_;change wpAny #[1] A (do
   let o <-load s.heap.objs.size
   match o.data with
   | .seq xs _=>pure xs.toList
   |_=>unsupported "internal:collect") Q sQ {s with heap:=g,toks:=tk}
 show ae<|wpAny_load q2 ?_;show ar (hQ g tk xs m (λb o e=>q1 b o (aC<|aq e)<|old b o e) (aq q2) q2 q3)
end
end PySem
namespace HT
open PySem PyProof.Rows
open PySem.SeqAt
open PySem.AutoSeq1 (wpAny_loadPart')
open PySem.MeetsSeq PySem.MeetsSeq2 PySem.MeetsSeq3
def KP(h:cX vs ns){i:Nat}(hi:i<ns.length):∃t,vs[i]? =E (.int ns[i] t):=by
 have hx:(ns.map L2.V.int)[i]? =E (.int ns[i]):=by rw[av,au hi];rfl
 obtain⟨u,h1,t,rfl⟩:=L2.Vals.get (L2.GH h) hx;show⟨t,h1⟩
theorem SH(l b:sK)(items oK:Array sV)(n n2:Nat)(dd oV:Option sK)(sl oS:Array (Option sV))(ns ms:List Int)(hi:cX items.toList ns)(hj:cX oK.toList ms)(k:Nat):
  ∀i:Nat,ns.length - i=k->i<=ns.length->i<=ms.length->Meets (fP.«list.__eq__.loop» ⟨[.ref l,.ref b,ck i,ck 0],[]⟩)
   (λA R s=>s.heap.get? l=E {cls:=.type "list",dict:=dd,data:=.seq items n,slots:=sl}/\s.heap.get? b=E {cls:=.type "list",dict:=oV,data:=.seq oK n2,slots:=oS}/\
    R (.ok (.ret (.bool (lexLt (ns.drop i) (ms.drop i))))) s):=by
 have z1:items.size=ns.length:=by rw[<-hi.length];simp
 have z2:oK.size=ms.length:=by rw[<-hj.length];simp
 induction k with
 |zero=>
  intro i hk h1 h2 prog w A R s h;obtain⟨hp,g,d,tk,os⟩:=s;obtain⟨hl,hb,h⟩:=h
  wp_walk using bS hl,bS hb
  have oP:items[((i:Nat):Int).toNat]? =y:=by simp;lia
  rw[oP]
  wp_walk using bS hl,bS hb
  change R (.ok<|.ret (.bool<|decide (items.size<oK.size))) _;rw[iA #[2]]at h;cases e:ms.drop i with
  |nil=>
   rw[e]at h;have:ms.length<=i:=List.drop_eq_nil_iff.mp e;rw[decide_eq_false #[2]];show h
  |cons sZ r=>
   rw[e]at h;have:¬ms.length<=i:=λz=>by rw[iA z]at e;cases e
   rw[decide_eq_true #[2]];show h
 |succ k ih=>
  intro i hk h1 h2 prog w A R s h;obtain⟨hp,g,d,tk,os⟩:=s;obtain⟨hl,hb,h⟩:=h;have oR:i<ns.length:=by lia
  obtain⟨t,ht⟩:=KP hi oR;have oP:items[((i:Nat):Int).toNat]? =E (.int ns[i] t):=by simpa using ht
  wp_walk using bS hl,bS hb
  by_cases oN:i<ms.length
  ·obtain⟨u,hu⟩:=KP hj oN;have oQ:oK[((i:Nat):Int).toNat]? =E (.int ms[i] u):=by simpa using hu
   rw[oP,oQ];have e1:ns.drop i=ns[i]::ns.drop (i+1):=cP oR;have e2:ms.drop i=ms[i]::ms.drop (i+1):=cP oN;rw[e1,e2,Nr]at h;have hc:((i:Int)+1)=((i+1:Nat):Int):=by push_cast;rfl
   show L2.oG λ_ U=>?_;obtain⟨e,he,oO⟩:=LW A.in1 ⟨hp,g,d,tk,os⟩ ns[i] t ms[i] u;apply U;show ae<|he prog w _ _ ?_;cases e with
   |true=>
    rw[if_pos<|oO.mp rfl]at h
    wp_walk
    rw[hc];show⟨cD plain_eq_loop _,dh entry_eq_loop (by
     rw[dB plain_eq_loop _];show ih (i+1) #[2] #[2] #[2] prog w A R _ ⟨hl,hb,h⟩)⟩
   |false=>
    rw[if_neg λq=>absurd (oO.mpr q) aD]at h
    wp_walk using bS hl,bS hb
    rw[oP,oQ];have oU:=LV A.in1 ⟨hp,g,d,tk,os⟩ ns[i] t ms[i] u prog w
    wp_walk using oU
    simpa using h
  ·have oQ:oK[((i:Nat):Int).toNat]? =y:=by simp;lia
   rw[oP,oQ]
   wp_walk using bS hl,bS hb
   change R (.ok<|.ret (.bool<|decide (items.size<oK.size))) _;rw[decide_eq_false #[2]];have e1:ns.drop i=ns[i]::ns.drop (i+1):=cP oR;have e2:ms.drop i=[]:=iA #[2];rw[e1,e2]at h;show h
def NW(l b:sK)(items oK:Array sV)(n n2:Nat)(dd oO:Option sK)(sl oN:Array (Option sV))(ns ms:List Int)(hi:cX items.toList ns)(hj:cX oK.toList ms):
  Meets (fP.«list.__lt__» ⟨[.ref l,.ref b],[]⟩)
   (λ_ R s=>s.heap.get? l=E {cls:=.type "list",dict:=dd,data:=.seq items n,slots:=sl}/\s.heap.get? b=E {cls:=.type "list",dict:=oO,data:=.seq oK n2,slots:=oN}/\
    R (.ok (.ret (.bool (lexLt ns ms)))) s):=by
 intro prog w A R s h;obtain⟨hp,g,d,tk,os⟩:=s;obtain⟨hl,hb,h⟩:=h;have f3:=AutoSeq1.sub_list_list
 wp_walk using bS hl,bS hb
 show⟨cD plain_eq_loop _,dh entry_eq_loop (by
  rw[dB plain_eq_loop _];show SH l b items oK n n2 dd oO sl oN ns ms hi hj _ 0 rfl (aX _) (aX _) prog w A R _ ⟨hl,hb,by simpa using h⟩)⟩
section
variable {prog:a9} {w:World} {A:bx} {sQ:sV->ag->Prop} {s:ag}
def Za{b:sK}{Q:sV->ag->Prop}(hl:s.heap.IsList l items)(hb:s.heap.IsList b oK)(hi:cX items.toList ns)(hj:cX oK.toList ms)
  (hu:A.units<cLine) (h:Q (.bool<|lexLt ns ms) s):wpAny #[1] A (bH .Lt (.ref l)<|.ref b) Q sQ s:=by
 obtain⟨⟨cls,dd,data,sl⟩,ho,hc,n,hd⟩:=id hl;obtain⟨⟨oR,oQ,data2,oP⟩,oN,oO,n2,hd2⟩:=id hb;simp only at hc hd oO hd2;subst hc hd oO hd2;show richCompare_meets_room (op:=.Lt) ⟨_,ho,Y⟩ ⟨_,oN,Y⟩ PySem.F.slot_list_lt PySem.F.entry_list_lt (PySem.F.args_list_lt_2 _ _) (NW l b items oK n n2 dd oQ sl oP ns ms hi hj)
  ⟨ho,oN,show eK (lexLt ns ms)≠mW/\Q (.bool<|lexLt ns ms) s from⟨(λx=>nomatch x),h⟩⟩ hu
end
end HT
namespace Internal.L2
open PySem PySem.Spec PyProof.Rows
section
variable {X:Cx}
def PD(K:ax):R2:=λx sZ H Q=>tS λa b ns ms=>tF (x= .ref a) (sZ= .ref b) (kq K H a<|ns.map V.int) (kq K H b<|ms.map V.int) (Q (.bl<|HT.lexLt ns ms) H)
def QR(hu:X.A.units<cLine):sf X (bH .Lt) (PD X.K):=by
 intro pins s σ H x sZ v u Q I rx ry h;obtain⟨a,b,ns,ms,rfl,rfl,ha,hb,q⟩:=h;cases rx;cases ry;obtain⟨rf,r1,p1,_⟩:=I.list ha;obtain⟨oK,r2,p2,_⟩:=I.list hb;have i1:cX rf.toArray.toList ns:=intsAre_of r1;have i2:cX oK.toArray.toList ms:=intsAre_of r2;show HT.Za p1.isList p2.isList i1 i2 hu ⟨.bl<|HT.lexLt ns ms,H,I,Y,q⟩
end
end Internal.L2
namespace HT
open PySem PyProof.Rows
section
variable {prog:a9} {w:World} {A:bx} {sQ:sV->ag->Prop} {s:ag}
def xhb{b:sK}{Q:Bool->ag->Prop}(hl:s.heap.IsList l items)(hb:s.heap.IsList b oK)(hi:cX items.toList ns)(hj:cX oK.toList ms)
  (hu:A.units<cLine) (h:Q (lexLt ns ms) s):wpAny #[1] A (oneLt' sX (.ref l)<|.ref b) Q sQ s:=by
 obtain⟨⟨cls,dd,data,sl⟩,ho,hc,n,hd⟩:=id hl;obtain⟨⟨oR,oQ,data2,oO⟩,oP,oN,n2,hd2⟩:=id hb;simp only at hc hd oN hd2;subst hc hd oN hd2;rw[oneLt'_eq];simp only[if_true];show ae<|wpAny_cRoomFor hu ?_;show ae (wpAny_callSpecialIfBound?_slot (T:="list") ⟨_,ho,Y⟩ PySem.F.slot_list_lt<|dA PySem.F.slot_list_lt ⟨_,ho,Y⟩ PySem.F.entry_list_lt (PySem.F.args_list_lt_2 _ _) (NW l b items oK n n2 dd oQ sl oO ns ms hi hj) ⟨ho,oP,?_⟩);show cH h
end
end HT
namespace Internal.L2
open PySem PySem.Spec PyProof.Rows
variable {X:Cx} {H H2 sd H':Hp} {D l C:sK} {Q:VK} {te:TE} {K:ax} {pins:List (sK×Obj)} {σ:St} {r8:L2.St} {rg:ag} {xs:List V} {scope:Scope} {x1 x2:Str} {cap:List Nat} {ys:List Str} {fp:List sK} {tt:TT} {n:Nat}
def vp{st:Stmt}:PS X st (λ_ _ _=>False):=λ_ _ _ _ _ _ q=>q.elim
theorem Hr:∀{bs:List Bool} {us:List sV},Vals (bs.map V.bl) us->us=bs.map eK
 |[],[],_=>rfl
 |[],_::_,h=>by cases h
 |_::_,[],h=>by cases h
 |b::bs,u::us,h=>by
  cases h with
  |cons h1 h2=>
   rw[Hr h2];cases h1;rfl
def range_all(bs:List Bool)(d:Bool):(bD bs.length).all (λi=>bs.getD i d)=bs.all id:=by
 rw[dX,bZ,bZ];constructor
 ·intro h x hx;obtain⟨i,hi,rfl⟩:=cM.mp hx;have:=h i (by simpa using hi);simpa [hi]using this
 ·intro h i hi;have oK:i<bs.length:=by simpa using hi
  have:=h bs[i]<|cF oK;simpa [oK]using this
def range_any(bs:List Bool)(d:Bool):(bD bs.length).any (λi=>bs.getD i d)=bs.any id:=by
 rw[dX,fJ,fJ];constructor
 ·rintro⟨i,hi,h⟩;have oK:i<bs.length:=by simpa using hi
  show⟨bs[i],cF oK,by simpa [oK]using h⟩
 ·rintro⟨x,hx,h⟩;obtain⟨i,hi,rfl⟩:=cM.mp hx;show⟨i,by simpa using hi,by simpa [hi]using h⟩
def Jp(K:ax)(f:List Bool->Bool):List V->Hp->VK->Prop:=λxs H Q=>sE λp bs=>tG (xs=[.ref p]) (kq K H p<|bs.map V.bl) (Q (.bl<|f bs) H)
theorem NO(bs:List Bool):TruthOf prog w A (λi v=>(bs.map eK).toArray[i]? =E v) (λi=>bs.getD i sX):=by
 intro i v s Q sQ hP hQ;have e:v= .bool (bs.getD i sX):=by
  simp only[List.getElem?_toArray,av]at hP;cases q:bs[i]? with
  |none=>rw[q]at hP;cases hP
  |some b=>rw[q]at hP;simp at hP;rw[<-hP];simp[bX,q]
 rw[e];show cH hQ
def MM(hc:X.calm=sX):yH X (.builtin "all") (Jp X.K λbs=>bs.all id):=by
 intro pins s σ H xs us Q I r h;obtain⟨p,bs,rfl,hq,q⟩:=h;obtain⟨u,rfl,rx⟩:=vals1 r;cases rx;obtain⟨rf,r',pl,hz⟩:=I.list hq;have e:=Hr r';subst e;have hL:=pl.isList;have oK:p<s.heap.objs.size:=by obtain⟨_,e,_⟩:=hL;show aq e
 show call_all_walk<|ee hL ⟨_,_,_,_,_,_,λi=>bs.getD i sX,Y,lz (A:=X.A.in1) (I.ok.hd hc) _ p (aC oK) (bs.map eK).toArray,⟨⟨_,aF _ Y,Y,Y⟩,hL.push _⟩,NO bs,λh' tk hk=>?_⟩;show⟨.bl<|bs.all id,H,I.kept (t':=tk) (λb o e=>hk b o (λhb=>?_)<|af _ e),?_,q⟩
 ·show absurd (aq e) (by rw[ai.mp hb];show bN _)
 ·have e:=range_all bs sX;simp only[aH,aa];rw[e];rfl
def MD(hc:X.calm=sX):yH X (.builtin "any") (Jp X.K λbs=>bs.any id):=by
 intro pins s σ H xs us Q I r h;obtain⟨p,bs,rfl,hq,q⟩:=h;obtain⟨u,rfl,rx⟩:=vals1 r;cases rx;obtain⟨rf,r',pl,hz⟩:=I.list hq;have e:=Hr r';subst e;have hL:=pl.isList;have oK:p<s.heap.objs.size:=by obtain⟨_,e,_⟩:=hL;show aq e
 show call_any_walk<|ee hL ⟨_,_,_,_,_,_,λi=>bs.getD i sX,Y,lz (A:=X.A.in1) (I.ok.hd hc) _ p (aC oK) (bs.map eK).toArray,⟨⟨_,aF _ Y,Y,Y⟩,hL.push _⟩,NO bs,λh' tk hk=>?_⟩;show⟨.bl<|bs.any id,H,I.kept (t':=tk) (λb o e=>hk b o (λhb=>?_)<|af _ e),?_,q⟩
 ·show absurd (aq e) (by rw[ai.mp hb];show bN _)
 ·have e:=range_any bs sX;simp only[aH,aa];rw[e];rfl
def Qs(K:ax):List V->Hp->VK->Prop:=λxs H Q=>sE λ(p:sK) (ns:List Int)=>tG (xs=[.ref p]) (kq K H p<|ns.map V.int) (Q (.int ns.sum) H)
def Wq(hc:X.calm=sX):yH X (.builtin "sum") (Qs X.K):=by
 intro pins s σ H xs us Q I r h;obtain⟨p,ns,rfl,hq,q⟩:=h;obtain⟨u,rfl,rx⟩:=vals1 r;cases rx;obtain⟨rf,r',pl,hz⟩:=I.list hq;have hi:=intsAre_of r';have hL:=pl.isList;have hn:=hi.numsOf;obtain⟨ys,e⟩:=hi.allInts.items;rw[e]at hL;have e2:numsOf rf=numsOf (ky ys).toList:=by rw[<-e]
 rw[e2,nE]at hn;show sum_intListG (I.ok.hd hc) hL λh' tk t' hk=>⟨.int ns.sum,H,I.kept (t':=tk) hk,⟨t',?_⟩,q⟩;rw[preSum_eq,bE #[8],hn]
section
variable {s:ag} {h':Heap}
def Inv.wm{t':Nat}{ch:List sK}{a:sK}{o:HO}(I:Inv X pins σ H s)(k:∀b u,b∉ch->s.heap.get? b=E u->h'.get? b=E u)(hp:s.heap.objs.size<=a)(new:xP X.prog X.w (upd H a o) h' a o)
  (hn:∀b∈ch,H b=y) (hl:∀b∈ch,b<s.heap.objs.size) (oN:∀b∈ch,(b∈X.ex\/X.s₀.heap.objs.size<=b)/\b≠X.env.locals/\(∀x c,X.env.cells.lookup x=E c->c≠b)/\∀p∈X.pn++pins,p.1≠b):
  Inv X pins σ (upd H a o) {s with heap:=h',toks:=t'}:=by
 have oK:∀b u,H b=E u->b∉ch:=λb u e z=>by rw[hn b z]at e;cases e
 have fr:=I.rh.fresh hp;show I.tR (s':={s with heap:=h',toks:=t'}) (ch:=ch) rfl ⟨λb o q _ _ hx=>k b o hx q,λb o q _ _ hx=>⟨o.slots,k b o hx q⟩,λb o q n _=>?_,λb o q hx=>⟨o,k b o hx q⟩,λb u q _=>?_⟩ (λb u e=>?_) I.bare oN
 ·rw[xl (aC<|az (aq q) hp)];show n
 ·rw[xl<|xH q fr];show q
 ·by_cases hb:b=a
  ·subst hb;rw[xk]at e;cases e;show new
  ·rw[xl hb]at e;show(I.rh b u e).tu (λc v hc q=>k c v ?_ q) (λc q=>by rw[xl<|xH q fr];show q) λc xs q _=>by rw[xl<|xH q fr];show q
   rcases hc with z|z
   ·rw[z];show oK b u e
   ·show oK c _ z
end
def Ck(K:ax)(a:sK):It:=
 ⟨λi H=>sE λxs x=>kq K H a xs/\xs[i]? =E x,λi H v H'=>sE λT x=>v= .ref T/\H T=y/\H'=upd H T (.tup [.int i,x])/\∀xs,kq K H a xs->xs[i]? =E x,λi H=>∃xs,kq K H a xs/\xs.length<=i⟩
section
variable {es:List Expr} {k:Nat} {tp:Pos}
def Qr(K:ax)(ta:TA):TI:=λσ H R=>ta σ H λvs H1=>∃a,vs=[.ref a]/\(∃xs,kq K H1 a xs)/\R (Ck K a) H1
end
structure uH(X:Cx)(scope:Scope)(x1 x2:Str)(cap:List Nat)(ys:List Str):Prop where
 kind:scope.kind= .function
 sh:∀sZ∈scope.names,sZ.2≠.cell
 locs:∀sZ∈scope.names,sZ.2= .local->scope.names.lookup sZ.1=E .local
 OF:scope.names.lookup x1=E .local
 OE:scope.names.lookup x2=E .local
 fr:∀sZ∈scope.names,sZ.2= .free->X.env.kindOf sZ.1=E .cell\/X.env.kindOf sZ.1=E .free
 cap:Bk X scope cap ys
 nd:(x1::x2::ys).Nodup
def FT(kind:scope.kind= .function)(h1:(scope.names.all λsZ=> !(sZ.2== .cell))=sX)(h2:(scope.names.all λsZ=> !(sZ.2== .local)||scope.names.lookup sZ.1==E .local)=sX)
  (oO:scope.names.lookup x1=E .local) (oN:scope.names.lookup x2=E .local) (h3:(scope.names.all λsZ=> !(sZ.2== .free)||(X.env.kindOf sZ.1==E .cell||X.env.kindOf sZ.1==E .free))=sX) (oK:Bk X scope cap ys) (oP:(x1::x2::ys).Nodup):uH X scope x1 x2 cap ys:=by
 show⟨kind,λsZ hy e=>?_,λsZ hy e=>?_,oO,oN,λsZ hy e=>?_,oK,oP⟩
 ·have:=bZ.mp h1 sZ hy;rw[e]at this;show absurd this #[6]
 ·have:=bZ.mp h2 sZ hy;rw[e]at this;simpa using this
 ·have:=bZ.mp h3 sZ hy;rw[e]at this;simpa using this
def uH.rL(B:uH X scope x1 x2 cap ys)(ok:X.Ok):∀sZ∈scope.names,sZ.2= .free->∃c,X.env.cells.lookup sZ.1=E c:=λsZ hy e=>ok.has sZ.1 (B.fr sZ hy e)
def uH.sub(B:uH X scope x1 x2 cap ys)(ok:X.Ok){z:Str}{c:sK}(h:#[10].lookup z=E c):X.env.cells.lookup z=E c:=by
 rcases Eu (B.rL ok) h with q|q
 ·simp at q
 ·show q
theorem uH.start(B:uH X scope x1 x2 cap ys)(I:Inv X pins σ sd rg)
  (hf:∀b∈fp,wU X pins sd b) (hD:rg.heap.objs.size<=D) (hC:rg.heap.objs.size<=C) (oW:D≠C) (hk:∀b o,rg.heap.get? b=E o->r6.get? b=E o)
  (oR:∃m,r6.Ns C m) (hl:r6.get? D=E {cls:=.type "list",data:=.seq ([]:List sV).toArray}) (oV:∀b∈fp,b<rg.heap.objs.size):
  Inv (X.si scope C (x1::x2::ys) rg sd fp) [] (y::y::uG σ cap) (upd sd D<|.lst []) {rg with heap:=r6,toks:=tk}:=by
 have ok:=I.ok;have oK:sd C=y:=I.rh.fresh hC;have freshD:sd D=y:=I.rh.fresh hD;have lt:∀b o,rg.heap.get? b=E o->b<rg.heap.objs.size:=λb o e=>aq e;show⟨⟨ok.mod,B.kind,ok.glob,ok.blt,hC,λsZ z c h1 h2=>ok.inj sZ z c (B.sub ok h1)<|B.sub ok h2,λsZ hy=>?_,λsZ c h=>(aD h).elim,ok.hd,ok.frames,.inl Y,λb hb=>⟨?_,λsZ c h e=>?_⟩,I.bs,aQ ok.wK I.sz,λb o e hb=>?_,λb hb hs=>?_,I.stack,I.tO,λsZ c h=>(aD h).elim,λb hb=>I.rh.fresh hb⟩,
  rfl,I.bare,Un.laid hk hD freshD,?_,λsZ c h=>?_,?_,λsZ c h=>?_,λp hp=>?_,?_,?_⟩
 ·have oP:(mH scope X.env).names.lookup sZ=E .cell\/(mH scope X.env).names.lookup sZ=E .free:=hy;have m:(sZ,cw)∈scope.names:=by
   rcases oP with q|q
   ·show vT q (.inl Y) B.sh
   ·show vT q (.inr Y) B.sh
  show Cd (.inl m)
 ·show aC (az (oV b hb) hC)
 ·show(hf b hb).2.2.2.2.1 sZ c (B.sub ok h) e
 ·rcases(hf b hb).2.2.2.1 with q|q
  ·show ok.wa b o e q
  ·show absurd (az (aq (ok.bs b o e).1) q) (bN _)
 ·rcases aB.mp (I.tj b hs)with q|q
  ·show(hf b hb).2.1 q
  ·show(hf b hb).2.2.1 q
 ·obtain⟨m,hm⟩:=oR;show⟨m,hm,λi sZ v e1 e2 e3=>?_⟩;cases i with
  |zero=>simp at e2
  |succ i=>
   cases i with
   |zero=>simp at e2
   |succ i=>
    show L2.oG λ_ U=>?_;obtain⟨j,n1,n2,n3,n4⟩:=C2 (i:=i) B.cap (by simpa [Cx.si]using e1) (by simpa using e2);obtain⟨m0,oX,oU⟩:=I.loc;apply U;have oO:BH X.env.scope sZ:=by
     rcases n4 with q|q
     ·show .inr (.inl q)
     ·show .inr (.inr q)
    show L2.oG λ_ U=>?_;obtain⟨u,ru,l⟩:=oU j sZ v n1 n2 oO;apply U;show⟨u,ru,.inr ⟨Hv n3,?_⟩⟩;rcases l with⟨k,_⟩|⟨_,c,ec,z⟩
    ·rw[k]at n4;rcases n4 with q|q<;> cases q
    ·obtain⟨c',oN⟩:=Cd (cells:=X.env.cells) (cs:=[]) (.inl<|Od n3);have:=B.sub ok oN;rw[ec]at this;cases this;show L2.oG λ_ U=>?_;obtain⟨o,ho,hd⟩:=z;apply U;show⟨c,oN,o,hk c o ho,hd⟩
 ·show L2.oG λ_ U=>?_;obtain⟨v,o,ho,hd⟩:=I.cell sZ c<|B.sub ok h;apply U;show⟨v,o,hk c o ho,hd⟩
 ·change upd sd D _ C=y;rw[xl<|aW oW];show oK
 ·show L2.oG λ_ U=>?_;obtain⟨v,o,ho,hd⟩:=I.cell sZ c<|B.sub ok h;apply U;rw[xl (aC<|az (lt c o ho) hD)];show(I.rT sZ c<|B.sub ok h).imp id λ⟨_,o',oQ,oS⟩=>⟨Y,o',oQ,λz i v e1 k e2=>?_⟩;cases i with
  |zero=>simp at e2
  |succ i=>
   cases i with
   |zero=>simp at e2
   |succ i=>
    show L2.oG λ_ U=>?_;obtain⟨j,n1,n2,n3,n4⟩:=C2 (i:=i) B.cap (by simpa [Cx.si]using e1) (by simpa using e2);apply U;show oS z j v n1 n4 n2
 ·show absurd (show p∈([]:List (sK×Obj))from hp) #[8]
 ·show I.rh.laid hk hD ⟨aX _,[],0,.nil,hl⟩
 ·simp[Cx.si,uG,GG B.cap]
def uH.back{s':ag}{pl:List (sK×Obj)}{rq:St}(B:uH X scope x1 x2 cap ys)(I:Inv X pins σ sd rg)
  (hf:∀b∈fp,wU X pins sd b) (J:Inv (X.si scope C (x1::x2::ys) rg sd fp) pl rq H' s'):Inv X pins σ H' s':=
 I.tR (ch:=fp) J.os J.base J.rh J.bare λb hb=>by
  obtain⟨f0,f1,f2,f3,f4,f5⟩:=hf b hb;show⟨?_,f1,f4,f5⟩;rcases f3 with q|q
  ·show .inl q
  ·show .inr q
def uH.Ir{s':ag}{pl:List (sK×Obj)}{rq:St}(I:Inv X pins σ sd rg)
  (hC:rg.heap.objs.size<=C) (J:Inv (X.si scope C (x1::x2::ys) rg sd fp) pl rq H' s'):
  H' C=y/\C≠X.env.locals/\X.s₀.heap.objs.size<=C/\(∀z c,X.env.cells.lookup z=E c->c≠C)/\∀p∈X.pn++pins,p.1≠C:=by
 show⟨J.free,eP<|az I.lt hC,aQ I.sz hC,λz c e q=>?_,λp hp q=>?_⟩
 ·obtain⟨v,w⟩:=I.cell z c e;show absurd (az w.lt (by rw[q];show hC)) (bN _)
 ·show absurd (az (aq (I.pin p hp).1) (by rw[q];show hC)) (bN _)
@[irreducible] def Bv(K:ax)(J:It)(r8:St)(tt:TT)(te:TE)(Q:VK)(H2:Hp):Prop:=∀D,H2 D=y->∃W:CW,(∃m,W 0 m [] (upd H2 D<|.lst []))/\
 ∀i m acc H3,W i m acc H3->H3 D=E (.lst acc)/\((J.stop i H3/\Q (.ref D) H3)\/(J.go i H3/\acc.length<aK/\∀v H4,J.A9 i H3 v H4->∃T v1 v2,v= .ref T/\rM K H4 T [v1,v2]/\tt (E v1::E v2::r8) H4 λb H5=>
  (b=sX->te (E v1::E v2::r8) H5 λu H6=>H6 D=E (.lst acc)/\∃m',m'<m/\W (i+1) m' (acc++[u]) (upd H6 D (.lst (acc++[u]))))/\(b=sJ->∃m',m'<m/\W (i+1) m' acc H5)))
def QQ(K:ax)(cap:List Nat)(wi:TI)(tt:TT)(te:TE):TE:=λσ H Q=>wi σ H λJ H2=>Bv K J (uG σ cap) tt te Q H2
section
variable {elt iter:Expr} {ifs:List Expr} {Cg Cf px pos:Pos} {kx:Nat} {wi:TI}
theorem Y9(B:uH X scope x1 x2 cap ys)(hc:X.calm=sX)(he:∀C s H fp,PE (X.si scope C (x1::x2::ys) s H fp) elt te)(ht:∀C s H fp,BN (X.si scope C (x1::x2::ys) s H fp) ifs tt)
  {RR:sV->sK->gT->ag->Prop} {oZ:sV} {sQ:sV->ag->Prop}
  (hp:EU X pins σ (.Tuple [.Name x1 Cg,.Name x2 Cf] kx px) (λJ H2=>Bv X.K J (uG σ cap) tt te Q H2) oZ rg)
  (hR:∀(D C:sK) (H':Hp) (s':ag),Inv X pins σ H' s'->(∃m,s'.heap.Ns C m)->H' C=y->C≠X.env.locals->X.s₀.heap.objs.size<=C->(∀z c,X.env.cells.lookup z=E c->c≠C)->(∀p∈X.pn++pins,p.1≠C)->Q (.ref D) H'->RR (.ref D) C (.ok .next) s'):
  wpAny #[3] X.A (newList []) (λacc tI=>wpAny #[3] X.A (mI scope X.env.globals #[10] [] X.env.qual y .none<|E X.env) (λoQ Bw=>
   cS #[3] X.A (.compStart (.ListComp elt [⟨.Tuple [.Name x1 Cg,.Name x2 Cf] kx px,iter,ifs,0⟩] scope pos) 0 oZ acc {oQ with scope:=mH scope X.env}) (RR acc oQ.locals) Bw) sQ tI) sQ rg:=by
 show L2.oG λ_ U=>?_;obtain⟨it,fp,tn,J,H2,e,I2,T,oX,f2,hw⟩:=hp;apply U;subst e;unfold Bv at hw;show fh<|j4 B.sh (by intro sZ hy;simp at hy) (λr6 oN oK=>?_) B.kind;dsimp only at oN oK⊢;generalize hG:rg.heap.push {cls:=.type "list",dict:=y,data:=.seq ([]:List sV).toArray}=G at oN oK⊢;have hsz:G.objs.size=rg.heap.objs.size+1:=by rw[<-hG,cT]
 have oO:rg.heap.objs.size<=G.objs.size:=by lia
 have o7:rg.heap.objs.size≠G.objs.size:=by lia
 have old:∀b o,rg.heap.get? b=E o->r6.get? b=E o:=λb o q=>by
  have lt:=aq q;show oK.extBut b o (aC<|az lt oO)<|af _ ?_;rw[<-hG];show af _ q
 have oR:r6.get? rg.heap.objs.size=E {cls:=.type "list",data:=.seq ([]:List sV).toArray}:=by
  show oK.extBut _ _ o7<|af _ ?_;rw[<-hG];show aF _ rfl
 have oV:∀b∈fp,b<rg.heap.objs.size:=λb hb=>by
  show L2.oG λ_ U=>?_;obtain⟨o,ho,_⟩:=T.obj _ _ oX b hb;apply U;show aq ho
 show L2.oG λ_ U=>?_;obtain⟨W,⟨m0,w0⟩,turn⟩:=hw rg.heap.objs.size (I2.rh.fresh<|ah _);apply U;generalize pq:rg.toks+([]:List (Str×sV)).length=tk;have I0:=B.start (tk:=tk) (C:=G.objs.size) I2 f2 (ah _) oO o7 old ⟨_,oN⟩ oR oV;have oY:tn 0 r6:=T.keep _ _ _ oX λb hb o q=>old b o q
 -- o9 stays sX of pk oP objects
 have f3:∀{H':Hp},(∀b∈fp,H' b=y)->∀b∈fp,wU #[14] [] H' b:=λhn b hb=>by
  show L2.oG λ_ U=>?_;obtain⟨f0,f1,pj,pA,f4,f5⟩:=f2 b hb;apply U;show⟨hn b hb,aC<|az (oV b hb) oO,λhs=>?_,.inl hb,λz c q=>f4 z c<|B.sub I2.ok q,λp hp=>absurd (show p∈([]:List (sK×Obj))from hp) #[8]⟩;rcases aB.mp (I2.tj b hs)with q|q
  ·show f1 q
  ·show pj q
 have n0:∀b∈fp,upd H2 rg.heap.objs.size (.lst []) b=y:=λb hb=>by
  rw[xl (aC<|oV b hb)];show(f2 b hb).1
 have loop:∀sx:ag,sx={rg with heap:=r6,toks:=tk}->
   cS #[3] X.A (.compLoop (.ListComp elt [⟨.Tuple [.Name x1 Cg,.Name x2 Cf] kx px,iter,ifs,0⟩] scope pos) 0 (.ref it) (.ref rg.heap.objs.size)<|compEnvC scope #[10] G.objs.size X.env) (RR (.ref rg.heap.objs.size) G.objs.size) sx:=by
  rintro sx rfl;show Nw (λn s'=>∃i acc H',Inv #[14] [] (y::y::uG σ cap) H' s'/\tn i s'.heap/\(∀b∈fp,H' b=y)/\W i n acc H') ?_ m0 ⟨0,[],_,I0,oY,n0,w0⟩;rintro n s3 ⟨i,acc,H3,I3,oW,o8,w3⟩;obtain⟨pz,alt⟩:=turn i n acc H3 w3;rcases alt with⟨stop,q⟩|⟨go,hlen,step⟩
  ·show aR (T.done #[14] Y Y Y hc i [] s3 _ H3 (λ_ _=>False) I3 (f3 o8) oW stop) (λr s4 ⟨hr,I4⟩=>?_) λ_ _ z=>z.elim;subst hr;show L2.oG λ_ U=>?_;obtain⟨g1,g2,g3,g4,g5⟩:=uH.Ir I2 oO I4;obtain⟨m4,pd,_⟩:=I4.loc;apply U;show hR _ _ H3 s4 (B.back I2 f2 I4) ⟨m4,pd⟩ g1 g2 g3 g4 g5 q
  ·show aR (T.item #[14] Y Y Y hc i [] s3 _ H3 (λ_ _=>False) I3 (f3 o8) oW go) (λr s4 ⟨u,hr,h4⟩=>?_) λ_ _ z=>z.elim;subst hr;show aR h4 (λ_ s4 ⟨v,H4,I4,rv,y4,oS,ph⟩=>?_) λ_ _ z=>z.elim;have Iz:=I4.pinned (f3 ph)<|T.obj _ _ oS;show L2.oG λ_ U=>?_;obtain⟨Tt,v1,v2,ev,pe,step⟩:=step v H4 y4;apply U;have G0:PG #[14] (.Tuple [.Name x1 Cg,.Name x2 Cf] kx px) (IY X.K 2 (Fq (BW 0)<|Fq (BW 1) IZ)):=
    B2 hc (zD (yc (i:=0) B.nd Y (.inl<|d4 B.OF) (.inr<|d4 B.OF))<|zD (yc (i:=1) B.nd Y (.inl<|d4 B.OE) (.inr<|d4 B.OE)) B7)
   show aR (G0 _ s4 _ H4 v u (λIE H5=>IE=E v1::E v2::uG σ cap/\H4=H5) Iz rv ⟨Tt,[v1,v2],ev,pe,Y,⟨v1,_,Y,v2,_,Y,⟨Y,Y,Y⟩⟩⟩) (λ_ s5 z5=>?_) λ_ _ z=>z.elim;show L2.oG λ_ U=>?_;obtain⟨IE,H5,I5,e5,e6⟩:=z5;apply U;subst e5 e6;have Ds:Inv #[14] ([]++jg fp s4.heap) (E v1::E v2::uG σ cap) H4 s5:=I5;show aR (ht _ _ _ _ _ s5 _ H4 _ Ds step) (λok s6 ⟨H6,I6,q6⟩=>?_) λ_ _ z=>z.elim;have pinned:∀{u9:St} {H7:Hp} {s7:ag},Inv #[14] ([]++jg fp s4.heap) u9 H7 s7->tn (i+1) s7.heap/\∀b∈fp,H7 b=y:=λ{u9 H7 s7} I7=>by
    show⟨T.keep _ _ _ oS λb hb o e=>(I7.pin (b,o)<|aN _ (aN _<|vR hb e)).1,λb hb=>?_⟩;show L2.oG λ_ U=>?_;obtain⟨o,e,d⟩:=T.obj _ _ oS b hb;apply U;show(I7.pin (b,o)<|aN _ (aN _<|vR hb e)).2.1
   have weak:∀{H7:Hp} {s7:ag},Inv #[14] ([]++jg fp s4.heap) (E v1::E v2::uG σ cap) H7 s7->Inv #[14] [] (y::y::uG σ cap) H7 s7:=λI7=>
    (I7.sP (pins:=[])).weak rfl λj z e=>by
     cases j with
     |zero=>simp at e
     |succ j=>
      cases j with
      |zero=>simp at e
      |succ j=>simpa using e
   cases ok with
   |false=>
    rw[if_neg aD];show L2.oG λ_ U=>?_;obtain⟨m',oU,w'⟩:=q6.2 rfl;apply U;show⟨m',oU,i+1,acc,H6,weak I6,(pinned I6).1,(pinned I6).2,w'⟩
   |true=>
    rw[if_pos rfl];show aR (he _ _ _ _ _ s6 _ H6 _ I6<|q6.1 Y) (λsZ s7 ⟨z,H7,I7,rz,pf,m',oU,w'⟩=>?_) λ_ _ z=>z.elim;show aR (yX (X:=X.si scope G.objs.size (x1::x2::ys) rg H2 fp) _ s7 _ H7 (.ref rg.heap.objs.size) [z] (.ref rg.heap.objs.size) [sZ] (λ_ H8=>H8=upd H7 rg.heap.objs.size (.lst<|acc++[z])) I7 Y (.cons rz .nil) ⟨_,acc,z,Y,Y,pf,hlen,Y⟩) (λ_ s8 ⟨_,H8,I8,_,e8⟩=>?_) λ_ _ z=>z.elim;subst e8;show⟨m',oU,i+1,_,_,weak I8,(pinned I8).1,(pinned I8).2,w'⟩
 show codeAny_compStart_list (loop _ Y) (T.self _ 0 _ _ _ oY<|loop _ Y)
def F8(B:uH X scope x1 x2 cap ys)(hc:X.calm=sX)(hi:PI X (.Tuple [.Name x1 Cg,.Name x2 Cf] kx px) iter wi)(he:∀C s H fp,PE (X.si scope C (x1::x2::ys) s H fp) elt te)(ht:∀C s H fp,BN (X.si scope C (x1::x2::ys) s H fp) ifs tt)
  (hs:autoParam (∀x,fg iter X.env x=pure x) rV):PE X (.ListComp elt [⟨.Tuple [.Name x1 Cg,.Name x2 Cf] kx px,iter,ifs,0⟩] scope pos) (QQ X.K cap wi tt te):=by
 intro pins s σ H Q I h;rw[eval_ListComp];show g8 (use:=y) rfl hs (EJ<|B.rL I.ok) B.kind B.locs ?_;show sj (hi pins s σ H _ I h) λv s1 h1=>sj h1 λoK s2 h2=>?_;show Y9 (Q:=Q) (RR:=λacc C=>compPost #[3] X.A X.xe y (EP X pins σ Q) acc C) B hc he ht h2 ?_;rintro D C H' s' J ⟨m,hm⟩ g1 g2 g3 g4 g5 q;show⟨m,hm,λh' sb=>⟨.ref D,H',J.turned (t':=s'.toks) (λb o hb e=>(sb.2 b hb).trans e) g1 g2 (.inr g3) g4 g5,Y,q⟩⟩
end
theorem yD{α β:Type}{F:α->β->Prop}:∀{as:List α} {bs:List β} {i:Nat} {a:α},Paired F as bs->as[i]? =E a->∃b,bs[i]? =E b/\F a b
 |_,_,i,b,.nil,h=>by simp at h
 |_,_,0,b,.cons x xs,h=>by simp at h;subst h;show⟨_,Y,x⟩
 |_,_,i+1,b,.cons x xs,h=>by obtain⟨a,h1,h2⟩:=yD (i:=i) xs (by simpa using h);show⟨a,by simpa using h1,h2⟩
noncomputable def del(H:Hp)(D:sK):Hp:=λb=>if b=D then y else H b
def va:del H D D=y:=by unfold del;rw[if_pos rfl]
def jP{b:sK}(h:b≠D):del H D b=H b:=by unfold del;rw[if_neg h]
def zZ:xf (del H D) H:=λb u e=>by
 by_cases h:b=D
 ·rw[h,va]at e;cases e
 ·rw[jP h]at e;show e
def zh:del (upd H D o) D=del H D:=by
 funext b
 by_cases h:b=D
 ·rw[h,va,va]
 ·rw[jP h,jP h,xl h]
def vE(h:H D=y):del H D=H:=by
 funext b
 by_cases e:b=D
 ·rw[e,va,h]
 ·rw[jP e]
def vF(s:xf H H'):xf (del H D) (del H' D):=λb u e=>by
 by_cases h:b=D
 ·rw[h,va]at e;cases e
 ·rw[jP h]at e⊢;show s b u e
def Wo{lo st:Int}(Pv:Nat->List V->Hp->Prop)(hn:n<=aK)(h0:Pv 0 [] H2)
  (hs:∀(i:Nat) acc H3 sI,i<n->xf H2 H3->xf H3 sI->Pv i acc H3->∀R:VK,#[13]->te (E (.int<|lo+i*st)::r8) sI R)
  (hd:∀D acc H H',H2 D=y->H D=y->xf H2 H->xf H H'->Pv n acc H->acc.length=n->H' D=E (.lst acc)->Q (.ref D) H'):zw (A6 lo st n) r8 AM te Q H2:=by
 unfold zw;intro D hD;show⟨λi m acc H3=>m=n - i/\i<=n/\acc.length=i/\H3 D=E (.lst acc)/\xf H2 (del H3 D)/\Pv i acc (del H3 D),⟨n,by simp,aX _,Y,xk,?_,?_⟩,?_⟩
 ·rw[zh,vE hD];show xf.refl _
 ·rw[zh,vE hD];show h0
 rintro i m acc H3 ⟨rfl,hi,oK,oN,s3,p3⟩;show⟨oN,?_⟩
 by_cases oO:i<n
 ·show .inr ⟨oO,by lia,λv H4 sZ=>?_⟩;obtain⟨e,sZ⟩:=sZ;subst e sZ;show⟨λ_=>?_,λz=>by cases z⟩;show hs i acc _ _ oO s3 zZ p3 _ λu u5 s6 k=>⟨s6.at oN,n - (i+1),by lia,Y,oO,by simp[oK],xk,?_,?_⟩
  ·rw[zh];show s3.trans (vF s6)
  ·rw[zh];show k _ (vF s6) λp o q1 q2=>?_;rw[jP (λz=>by
    rcases q1 with q1|q1
    ·rw[z,oN]at q1;cases q1
    ·rw[z,s6.at oN]at q2;cases q2;show q1 _ rfl)]
   show q2
 ·have e:i=n:=by lia
  subst e;show .inl ⟨ah _,hd D acc _ H3 hD va s3 zZ p3 oK oN⟩
def yV(Pv:Nat->List V->Hp->Prop)(hl:kq K H2 l xs)(hn:xs.length<=aK)(h0:Pv 0 [] H2)
  (hs:∀(i:Nat) x acc H3 sI,xs[i]? =E x->xf H2 H3->xf H3 sI->Pv i acc H3->∀R:VK,#[13]->te (E x::r8) sI R)
  (hd:∀D acc H H',H2 D=y->H D=y->xf H2 H->xf H H'->Pv xs.length acc H->acc.length=xs.length->H' D=E (.lst acc)->Q (.ref D) H'):zw (Aq K l) r8 AM te Q H2:=by
 unfold zw;intro D hD;show⟨λi m acc H3=>m=xs.length - i/\i<=xs.length/\acc.length=i/\H3 D=E (.lst acc)/\xf H2 (del H3 D)/\Pv i acc (del H3 D),⟨xs.length,by simp,aX _,Y,xk,?_,?_⟩,?_⟩
 ·rw[zh,vE hD];show xf.refl _
 ·rw[zh,vE hD];show h0
 rintro i m acc H3 ⟨rfl,hi,oK,oN,s3,p3⟩;show⟨oN,?_⟩;have q:=(s3.trans zZ).seq hl
 by_cases oO:i<xs.length
 ·have hx:xs[i]? =E xs[i]:=au oO;show .inr ⟨⟨xs,xs[i],q,hx⟩,by lia,λv H4 sZ=>?_⟩;obtain⟨e,sZ⟩:=sZ;have ev:=sZ xs q;rw[hx]at ev;cases ev;subst e;show⟨λ_=>?_,λz=>by cases z⟩;show hs i _ acc _ _ hx s3 zZ p3 _ λu u5 s6 k=>⟨s6.at oN,xs.length - (i+1),by lia,Y,oO,by simp[oK],xk,?_,?_⟩
  ·rw[zh];show s3.trans (vF s6)
  ·rw[zh];show k _ (vF s6) λp o q1 q2=>?_;rw[jP (λz=>by
    rcases q1 with q1|q1
    ·rw[z,oN]at q1;cases q1
    ·rw[z,s6.at oN]at q2;cases q2;show q1 _ rfl)]
   show q2
 ·have e:i=xs.length:=by lia
  subst e;show .inl ⟨⟨xs,q,ah _⟩,hd D acc _ H3 hD va s3 zZ p3 oK oN⟩
def GF(Pv:Nat->List V->Hp->Prop)(hl:rM K H2 l xs)(hn:xs.length<=aK)(h0:Pv 0 [] H2)
  (hs:∀(i:Nat) x acc H3 sI,xs[i]? =E x->xf H2 H3->xf H3 sI->Pv i acc H3->∀R:VK,#[13]->te (E x::r8) sI R)
  (hd:∀D acc H H',H2 D=y->H D=y->xf H2 H->xf H H'->Pv xs.length acc H->acc.length=xs.length->H' D=E (.lst acc)->Q (.ref D) H'):zw (BL K l) r8 AM te Q H2:=by
 unfold zw;intro D hD;show⟨λi m acc H3=>m=xs.length - i/\i<=xs.length/\acc.length=i/\H3 D=E (.lst acc)/\xf H2 (del H3 D)/\Pv i acc (del H3 D),⟨xs.length,by simp,aX _,Y,xk,?_,?_⟩,?_⟩
 ·rw[zh,vE hD];show xf.refl _
 ·rw[zh,vE hD];show h0
 rintro i m acc H3 ⟨rfl,hi,oK,oN,s3,p3⟩;show⟨oN,?_⟩;have q:=(s3.trans zZ).tP hl
 by_cases oO:i<xs.length
 ·have hx:xs[i]? =E xs[i]:=au oO;show .inr ⟨⟨xs,xs[i],q,hx⟩,by lia,λv H4 sZ=>?_⟩;obtain⟨e,sZ⟩:=sZ;have ev:=sZ xs q;rw[hx]at ev;cases ev;subst e;show⟨λ_=>?_,λz=>by cases z⟩;show hs i _ acc _ _ hx s3 zZ p3 _ λu u5 s6 k=>⟨s6.at oN,xs.length - (i+1),by lia,Y,oO,by simp[oK],xk,?_,?_⟩
  ·rw[zh];show s3.trans (vF s6)
  ·rw[zh];show k _ (vF s6) λp o q1 q2=>?_;rw[jP (λz=>by
    rcases q1 with q1|q1
    ·rw[z,oN]at q1;cases q1
    ·rw[z,s6.at oN]at q2;cases q2;show q1 _ rfl)]
   show q2
 ·have e:i=xs.length:=by lia
  subst e;show .inl ⟨⟨xs,q,ah _⟩,hd D acc _ H3 hD va s3 zZ p3 oK oN⟩
def jQ(p:V->Bool)(f:V->V)(hl:kq K H2 l xs)(hn:xs.length<aK)
  (ht:∀(x:V) (H3:Hp),x∈xs->xf H2 H3->∀R:Bool->Hp->Prop,(∀H6,xf H3 H6->R (p x) H6)->tt (E x::r8) H3 R)
  (hs:∀(x:V) (H3:Hp),x∈xs->p x=sX->xf H2 H3->∀R:VK,(∀H6,xf H3 H6->R (f x) H6)->te (E x::r8) H3 R)
  (hd:∀D H',H2 D=y->xf H2 H'->H' D=E (.lst<|(xs.filter p).map f)->Q (.ref D) H'):zw (Aq K l) r8 tt te Q H2:=by
 unfold zw;intro D hD;show⟨λi m acc H3=>m=xs.length - i/\i<=xs.length/\acc=((xs.take i).filter p).map f/\H3 D=E (.lst acc)/\xf H2 H3,⟨xs.length,by simp,aX _,Y,xk,xf.new hD⟩,?_⟩;rintro i m acc H3 ⟨rfl,hi,rfl,oN,s3⟩;show⟨oN,?_⟩;have q:=s3.seq hl
 by_cases oK:i<xs.length
 ·have hx:xs[i]? =E xs[i]:=au oK;have hle:(((xs.take i).filter p).map f).length<aK:=by
   rw[aa];show dv (dm _ _) ?_;rw[a8];lia
  have et:xs.take (i+1)=xs.take i++[xs[i]]:=by rw[bh,hx];rfl
  show .inr ⟨⟨xs,xs[i],q,hx⟩,hle,λv H4 sZ=>?_⟩;obtain⟨e,sZ⟩:=sZ;have ev:=sZ xs q;rw[hx]at ev;cases ev;subst e;show ht _ _ (cF oK) s3 _ λH5 s5=>⟨λhp=>?_,λhp=>?_⟩
  ·show hs _ _ (cF oK) hp (s3.trans s5) _ λH6 s6=>⟨s6.at (s5.at oN),xs.length - (i+1),by lia,Y,oK,?_,xk,(s3.trans<|s5.trans s6).put hD⟩;rw[et,eQ,aO];simp[hp]
  ·show⟨xs.length - (i+1),by lia,Y,oK,?_,s5.at oN,s3.trans s5⟩;rw[et,eQ,aO];simp[hp]
 ·have e:i=xs.length:=by lia
  subst e;rw[bo]at oN⊢;show .inl ⟨⟨xs,q,ah _⟩,hd D H3 hD s3 oN⟩
def Y8(p:Nat->V->Bool)(hl:kq K H2 l xs)(hn:xs.length<aK)
  (ht:∀(i:Nat) (x:V) (H3:Hp),xs[i]? =E x->xf H2 H3->∀R:Bool->Hp->Prop,(∀H6,xf H3 H6->R (p i x) H6)->tt (E (.int i)::E x::r8) H3 R)
  (hs:∀(i:Nat) (x:V) (H3:Hp),xs[i]? =E x->xf H2 H3->∀R:VK,(∀H6,xf H3 H6->R (.int i) H6)->te (E (.int i)::E x::r8) H3 R)
  (hd:∀D H',H2 D=y->xf H2 H'->H' D=E (.lst<|((bD xs.length).filter λi=>p i<|xs.getD i .rp).map λ(i:Nat)=>V.int i)->Q (.ref D) H'):Bv K (Ck K l) r8 tt te Q H2:=by
 unfold Bv;intro D hD;show⟨λi m acc H3=>m=xs.length - i/\i<=xs.length/\acc=((bD i).filter λi=>p i<|xs.getD i .rp).map (λ(i:Nat)=>V.int i)/\H3 D=E (.lst acc)/\xf H2 H3,⟨xs.length,by simp,aX _,Y,xk,xf.new hD⟩,?_⟩;rintro i m acc H3 ⟨rfl,hi,rfl,oK,s3⟩;show⟨oK,?_⟩;have q:=s3.seq hl
 by_cases oN:i<xs.length
 ·have hx:xs[i]? =E xs[i]:=au oN;have hle:(((bD i).filter λi=>p i<|xs.getD i .rp).map λ(i:Nat)=>V.int i).length<aK:=by
   rw[aa];show dv (dm _ _) ?_;rw[ef];lia
  have eg:xs.getD i .rp=xs[i]:=by simp[bX,hx]
  show .inr ⟨⟨xs,xs[i],q,hx⟩,hle,λv H4 sZ=>?_⟩;obtain⟨T,x,rfl,hT,rfl,sZ⟩:=sZ;have ev:=sZ xs q;rw[hx]at ev;cases ev;have s4:=xf.new (o:=.tup [.int i,xs[i]]) hT;show⟨T,.int i,xs[i],Y,rM.of xk,?_⟩;show ht i _ _ hx (s3.trans s4) _ λH5 s5=>⟨λhp=>?_,λhp=>?_⟩
  ·show hs i _ _ hx (s3.trans<|s4.trans s5) _ λH6 s6=>⟨s6.at (s5.at (s4.at oK)),xs.length - (i+1),by lia,Y,oN,?_,xk,(s3.trans (s4.trans<|s5.trans s6)).put hD⟩;rw[j8,eQ,aO,iK,eg,if_pos hp];rfl
  ·show⟨xs.length - (i+1),by lia,Y,oN,?_,s5.at (s4.at oK),s3.trans<|s4.trans s5⟩;rw[j8,eQ,aO,iK,eg,if_neg (by rw[hp];show aD)];simp
 ·have e:i=xs.length:=by lia
  subst e;show .inl ⟨⟨xs,q,ah _⟩,hd D H3 hD s3 oK⟩
def Vd{f:Bool->Bool}(hx:Rp K H x d)(hy:Rp K H sZ d)(hd:j7 d=sX)(q:Q (.bl<|f sX) H):BS K f x sZ H Q:=
 ⟨d,d,hx,hy,hd,hd,by rw[PySem.SeqAt.eqv_refl d<|SeqAt.canLay_of_shaped hd];show q⟩
def LO(e:X.K=K):Dr X (IS K):=e▸xU
def xwW(e:X.K=K):Dr X (IQ K):=e▸xG
def Vc(e:X.K=K):ET X (IP K):=e▸yC
def II(e:X.K=K):yH X (.builtin "isinstance") (IK K):=e▸zY
def PB(e:X.K=K)(hu:X.A.units+64<cLine):sf X (bH .Eq) (BS K λb=>b):=e▸Fs hu
def xwZ(e:X.K=K)(hu:X.A.units+64<cLine):sf X (bH .NotEq) (BS K λb=> !b):=e▸Jq hu
def Cc(i:Int)(own:List Int):wV (.int i) (own.map V.int)=decide (i∈own):=by
 unfold wV;rw[j9,dX,fJ,decide_eq_true_iff];constructor
 ·rintro⟨sZ,hy,h⟩;have h:(sZ==i)=sX:=h;rw[<-beq_iff_eq.mp h];show hy
 ·intro h;show⟨i,h,beq_iff_eq.mpr Y⟩
def Wn(xs:List Int):(xs.map V.int).all Al=sX:=by
 rw[bZ];intro x hx;obtain⟨sZ,_,rfl⟩:=aY.mp hx;rfl
def Wm(es:List Int)(lo hi:Option Int):wR (es.map V.int) lo hi=((es.drop<|HT.sN es.length 0 lo).take<|HT.sN es.length es.length hi - HT.sN es.length 0 lo).map V.int:=by
 unfold wR;rw[aa,<-cQ,<-dy]
def Yj(p:V->Bool)(xs:List Int):(xs.map V.int).filter p=(xs.filter λx=>p<|.int x).map V.int:=by
 rw[mi];rfl
def B0(h0:0<=i):HT.sN n d (E i)=min i.toNat n:=by
 change(if i<0 then(i+(n:Int)).toNat else min i.toNat n)=_;rw[if_neg #[2]]
noncomputable def SG:Stmt->List Stmt
 | .For _ _ b _ _=>b
 |_=>[]
noncomputable def QP:Stmt->Expr
 | .Assign _ v _=>v
 |_=>.Constant .none 0 ⟨0,0,0,0⟩
noncomputable def J8:Stmt->Expr
 | .Return (E v) _=>v
 |_=>.Constant .none 0 ⟨0,0,0,0⟩
noncomputable def D8(i:Nat):Expr->Expr
 | .Call _ as _ _=>as.getD i (.Constant .none 0 ⟨0,0,0,0⟩)
 |_=>.Constant .none 0 ⟨0,0,0,0⟩
noncomputable def uI:Expr->c9
 | .Lambda a _ _ _=>a
 |_=>uF (.Pass ⟨0,0,0,0⟩)
noncomputable def uJ:Expr->Expr
 | .Lambda _ b _ _=>b
 |e=>e
noncomputable def yF:Expr->Scope
 | .Lambda _ _ s _=>s
 |_=>xt (.Pass ⟨0,0,0,0⟩)
def D4{xs:List Int}(h0:0<=x)(h:xs[x.toNat]? =E v):wN (xs.map V.int) x=E (.int v):=by
 have:=yn (xs:=xs.map V.int) (j:=x.toNat) (v:=.int v) (by rw[av,h];rfl)
 rwa [cq h0]at this
def J7{x:Int}(h0:0<=x)(h:x<n):z9 n x=E x.toNat:=by
 unfold z9;rw[if_pos h0,if_pos h]
end Internal.L2
namespace PySem
open Sem (wp)
open PyProof.Rows
namespace F
def WJ:iq (.type "list_reverseiterator") "__len__"=pure y:=by rw[typeLookup_type,builtinLookup_eq_fast];kernel_rfl
def Vb:iq (.type "list_reverseiterator") "__length_hint__"=pure (E<|.builtin "list_reverseiterator.__length_hint__"):=by rw[typeLookup_type,builtinLookup_eq_fast];kernel_rfl
end F
section
variable {prog:a9} {w:World} {A:bx} {sQ:sV->ag->Prop} {s:ag}
def W4{R:gT->ag->Prop}(oR:A.handled=y)(hr:s.heap.IsRevIter r l ((items.size:Int) - 1))(hl:s.heap.IsList l items)(oQ:l≠r)(hsz:items.size<=aK)
  (D:sK) (z:sV) (we:Nat) (hD:s.heap.get? D=E {cls:=.type "list",data:=.seq #[] we}) (oU:D≠l)
  (hR:∀g tk xs m,(∀b o,b≠D->b≠r->s.heap.get? b=E o->g.get? b=E o)->g.get? D=E {cls:=.type "list",dict:=y,data:=.seq xs m,slots:=#[]}->
   lF (λi v=>items[items.size - 1 - i]? =E v) xs items.size->R (.ok (.ret z)) {s with heap:=g,toks:=tk}):
  wpAny #[1] A.in1 (bM (.ref D) (.ref r) z)
   (λfin s'=>match fin with| .done f=>R (.ok f) s'| .again d=>d.quiet=sX/\cS #[1] A d R s') (λe s'=>R (.error e) s') s:=by
 have oN:D≠r:=λe=>by
  obtain⟨o,ho,hc,_⟩:=hr;rw[e,ho]at hD;have e2:=congrArg Obj.cls<|bI hD;rw[hc]at e2;have e3:cL "list_reverseiterator"=cL "list":=e2;show absurd e3 #[6]
 have oP:D∉[r,l]:=λq=>by
  rcases aB.mp q with q|q
  ·show oN q
  ·show oU (ai.mp q)
 have Wk:=(Walks.listRev (prog:=prog) (w:=w) (A:=A.in1) oR r l oQ items).toS;have e0:(items.size:Int) - 1=(items.size:Int) - 1 - ((0:Nat):Int):=by lia
 rw[e0]at hr;have T:s.TypeIs (.ref r) "list_reverseiterator":=hr.typeIs;unfold bM;show ae<|j5 T ?_;have x1:fH (.ref D) (.ref r)=sJ:=by simp[fH,oN]
 rw[if_neg (by rw[x1];decide)];show ae<|wpAny_pyIter_revIter hr ?_;show ae<|bO ?_;unfold Builtin.List.listLengthHint;show ae<|me T F.WJ ?_;change wpAny _ A.in1 (specialOf (aS r) (bF "__length_hint__") >>= _) _ _ _;show ae (me T F.Vb ?_)
 (generalize oK:("list_reverseiterator.__length_hint__":String)=oO;(fail_if_success (clear oK oO));wp_delta;rw[show splitId oO=E ("list_reverseiterator","__length_hint__")from by subst oK;decide+kernel];subst oK)
 show ae<|wpAny_isInstance (b:=sX) T (by rw[isSubtype_type];kernel_rfl) ?_;show ar ?_;rw[if_neg #[6]];show ar ⟨cD kh _,codeAny_extend_loopS Wk hsz D oP z items.size 0 _ #[] we Y (aX _) ⟨aX _,hr,hl⟩ hD (ItemsOf.nil _) λs' xs m hm oV hx=>?_⟩;rw[Moved.eq_with hm];show hR s'.heap s'.toks xs m (λb o hb oS e=>hm.heap b o (λhq=>?_) e) oV hx;rcases aB.mp hq with e'|hq
 ·show hb e'
 ·show oS (ai.mp hq)
def Yi{Q:sV->ag->Prop}(oQ:A.handled=y)(hr:s.heap.IsRevIter r l ((items.size:Int) - 1))(hl:s.heap.IsList l items)(oP:l≠r)(hsz:items.size<=aK)
  (hQ:∀g tk xs m,(∀b o,b≠r->s.heap.get? b=E o->g.get? b=E o)->
   g.get? s.heap.objs.size=E {cls:=.type "list",dict:=y,data:=.seq xs m,slots:=#[]}->lF (λi v=>items[items.size - 1 - i]? =E v) xs items.size->Q (.ref s.heap.objs.size) {s with heap:=g,toks:=tk}):
  wpAny #[1] A (call (.type "list") [.ref r]) Q sQ s:=by
 show mJ (Q₁:=λobj rj=>obj= .ref s.heap.objs.size/\rj={s with heap:=s.heap.push {cls:=.type "list",data:=.seq #[]}}) F.called_list (F.typeCall_list_1 _) F.entry_list_init
  (code_list_new _ ⟨Y,Y⟩) λobj rj BA=>?_
 obtain⟨rfl,rfl⟩:=BA;generalize hG:s.heap.push {cls:=.type "list",data:=.seq #[]}=G;have old:∀b o,s.heap.get? b=E o->G.get? b=E o:=λb o e=>by rw[<-hG];show af _ e
 have hD:G.get? s.heap.objs.size=E {cls:=.type "list",data:=.seq #[]}:=by rw[<-hG];show aF _ rfl
 have oO:r<s.heap.objs.size:=by obtain⟨o,ho,_⟩:=hr;show aq ho
 have oN:l<s.heap.objs.size:=by obtain⟨o,ho,_⟩:=hl;show aq ho
 show⟨⟨_,hD,Y⟩,F.args_list_init_2 _ _,?_⟩;change wpAny _ _ (do let old <-gf (.ref s.heap.objs.size);lY (.ref s.heap.objs.size) λ_=>#[];letGo old.toList.reverse;bM (.ref s.heap.objs.size) (.ref r) .none) _ _ _;show ae ?_;unfold gf;show ae (eI hD Y<|ar ?_);change wpAny _ _ (g9 s.heap.objs.size (λ_=>#[]) >>= λ_=>letGo (#[]:Array sV).toList.reverse >>= λ_=>bM (.ref s.heap.objs.size) (.ref r) .none) _ _ _;show ae<|dg hD Y ?_;have d2:=b9 (bb λ_=>(#[]:Array sV)) hD rfl;have oK:∀b o,b≠s.heap.objs.size->G.get? b=E o->(G.update s.heap.objs.size<|bb λ_=>(#[]:Array sV)).get? b=E o:=
  λb o hb e=>(bj _ _<|aW hb).trans e
 show ae<|dJ ?_;show W4 (A:=A.in1) oQ (hr.at λo e=>oK r o (aC oO)<|old r o e) (hl.at λo e=>oK l o (aC oN)<|old l o e) oP hsz s.heap.objs.size .none _ d2 (eP oN) λg tk xs m q1 q2 q3=>⟨Y,?_⟩;show hQ g tk xs m (λb o hb e=>q1 b o (aC<|aq e) hb (oK b o (aC<|aq e)<|old b o e)) q2 q3
end
end PySem
namespace Internal.L2
open PySem PySem.Spec PyProof.Rows
variable {X:Cx}
def log2_small(h:n<2^64):n.log2<=64:=by
 by_cases h0:n=0
 ·subst h0;decide
 ·show cR ((oy h0).mpr h)
theorem NV:∀ns:List Int,(∀x∈ns,x.natAbs<2^64)->lL (ns.map d6)<=66*ns.length
 |[],_=>by simp[lL]
 |x::xs,h=>by
  have ih:=NV xs λsZ hy=>h sZ<|aw _ hy;have hx:=log2_small<|h x aJ;rw[ba,PyData.weightAll.eq_2,aT];have:nF (.int x)<=65:=by
   rw[m9];change(if (x==0)=sX then 0 else x.natAbs.log2+1)<=65
   split
   ·lia
   ·lia
  lia
def Qq(K:ax)(te:TE):TE:=λσ H Q=>te σ H λx H1=>sE λl ys=>tG (x= .ref l) (kq K H1 l ys) (∀d,H1 d=y->Q (.ref d) (upd H1 d<|.lst ys.reverse))
def W3(hc:X.calm=sX)(oX:Gl X "list")(oU:X.mg "list"=y)(oW:Gl X "reversed")(oS:X.mg "reversed"=y)(he:PE X e te)
  (oO:autoParam (aM [e] X.env=[(sJ,eval e X.env)]) rJ)
  (oP:autoParam (aM [.Call (.Name "reversed" p2) [e] [] oK] X.env=[(sJ,eval (.Call (.Name "reversed" p2) [e] [] oK) X.env)]) rJ):
  PE X (.Call (.Name "list" p1) [.Call (.Name "reversed" p2) [e] [] oK] [] oN) (Qq X.K te):=by
 intro pins s σ H Q I h;show bL<|zJ I oX oU jF ?_ #[6] #[6];show bW ?_ oP rfl;rw[oP];show gW ?_;show bL<|zJ I oW oS Zc ?_ #[6] #[6];show bW ?_ oO rfl;rw[oO];show gW<|xQ (he pins s σ H _ I h) λv s1 x H1 I1 r1 q1=>?_;obtain⟨l,ys,rfl,hq,q⟩:=q1;cases r1;obtain⟨rf,rv,pl,hz⟩:=I1.list hq;have hlen:=rv.length;have hL:=pl.isList;have oV:l<s1.heap.objs.size:=by obtain⟨o,ho,_⟩:=hL;show aq ho
 show iw (call_reversed_list hL<|iw ?_);show Yi (s:={s1 with heap:=s1.heap.push (revObj l<|(rf.toArray.size:Int) - 1)}) (I.ok.hd hc) ⟨_,aF _ Y,Y,Y⟩ (hL.push _) (aC oV) (by rw[aH];lia) λg tk xs m q1 q2 q3=>?_;have hsz:(s1.heap.push (revObj l<|(rf.toArray.size:Int) - 1)).objs.size=s1.heap.objs.size+1:=cT ..;have oR:g.get? (s1.heap.objs.size+1)=E {cls:=.type "list",dict:=y,data:=.seq xs m,slots:=#[]}:=by rw[<-hsz];show q2
 have oY:xs.toList=rf.reverse:=by
  obtain⟨h1,h2⟩:=q3;have oZ:xs.size=rf.length:=by rw[h1];simp
  apply fi;intro i
  by_cases hi:i<rf.length
  ·have oQ:i<xs.size:=by lia
   have:=h2 i xs[i]<|cO oQ;rw[List.getElem?_reverse hi,eX,cO oQ,<-this];simp
  ·rw[bV (by simp;lia),bV (by simp;lia)]
 show⟨.ref<|s1.heap.objs.size+1,upd H1 (s1.heap.objs.size+1)<|.lst ys.reverse,I1.laid (h':=g) (t':=tk) (λb o e=>q1 b o (aC<|aq e)<|af _ e) (cU _) ⟨by rw[ki];show hz,xs.toList,m,by rw[oY];show rv.reverse,by simpa using oR⟩,by change aS _=aS _;rw[hsz],q _ (I1.rh.fresh<|cU _)⟩
def Qp(K:ax):List V->Hp->VK->Prop:=λxs H Q=>sE λ(p:sK) (ns:List Int)=>sU (xs=[.ref p]) (kq K H p<|ns.map V.int) (ns≠[]) (∀m,m∈ns->(∀x∈ns,m<=x)->Q (.int m) H)
def MC(hc:X.calm=sX):yH X (.builtin "min") (Qp X.K):=by
 intro pins s σ H xs us Q I r h;obtain⟨p,ns,rfl,hq,oN,q⟩:=h;obtain⟨u,rfl,rx⟩:=vals1 r;cases rx;obtain⟨rf,r',pl,hz⟩:=I.list hq;have hi:=intsAre_of r';have hL:=pl.isList;have hn:=hi.numsOf;obtain⟨ys,e⟩:=hi.allInts.items;rw[e]at hL;have e2:numsOf rf=numsOf (ky ys).toList:=by rw[<-e]
 rw[e2,nE]at hn;have hlen:=congrArg cz hn;rw[aa,aU]at hlen;have oK:0<ns.length:=cb.mpr oN;show min_intList (I.ok.hd hc) hL #[2] λv h' tk hv hk=>?_;obtain⟨t,rfl⟩:=intItems_at hv;obtain⟨h1,h2⟩:=argBest_lt (numAt ys)<|ys.size - 1;show⟨.int _,H,I.kept (t':=tk) hk,⟨t,Y⟩,q _ ?_ λa ha=>?_⟩
 ·rw[<-hn,numAt_eq];show getD_mem (by rw[aa,aU];lia)
 ·rw[<-hn]at ha;obtain⟨j,hj,rfl⟩:=mem_getD ha;rw[aa,aU]at hj;rw[<-numAt_eq];show h2 j #[2]
def SE:V->List V->Hp->VK->Prop:=λx vs H Q=>tK λ(l:sK) (ns:List Int) (i:Int)=>AH (x= .ref l) (vs=[.int i]) (H l=E (.lst<|ns.map V.int)) (i∈ns) (ns.length<=1000) (∀x∈ns,x.natAbs<2^64) (Q (.int (ns.idxOf i:Nat)) H)
def Va:A4 X "list.index" SE:=by
 intro pins s σ H x vs v us Q I rx rv h;obtain⟨l,ns,i,rfl,rfl,hH,hi,hlen,oK,q⟩:=h;cases rx;obtain⟨u,rfl,ru⟩:=rv.one;obtain⟨t,rfl⟩:=ru;obtain⟨rf,r',pl,hz⟩:=I.list<|kq.of hH;show index_list_ints pl.isList (intsAre_of r') ?_ hi ⟨.int _,H,I.tok _,⟨_,Y⟩,q⟩;have w:=NV ns oK;have h1:kz (.list<|ns.map d6)=sX:=by unfold kz;show W.ke_canLayAll0 ns
 have h2:lM (.list<|ns.map d6)<=64:=by unfold lM;rw[W.ke_depthAll];decide
 have h3:nF (.list<|ns.map d6)<=2^20:=by
  have e:nF (.list<|ns.map d6)=lL (ns.map d6):=by rw[m9]
  rw[e];lia
 unfold PyData.layable0;rw[h1,decide_eq_true h2,decide_eq_true h3];rfl
section
variable {K:ax}
end
def vc:sY X Oy (λ_ _ _=>False):=λ_ _ _ _ _ _ q=>q.elim
def jh(Pv:Nat->St->Hp->Prop){m:Nat}(h0:Pv m σ H)
  (hs:∀m σ H,Pv m σ H->c σ H λb H1=>(b=sX->∃N:St->Hp->Prop,(∀rq H',N rq H'->∃m',m'<m/\Pv m' rq H')/\tb {D with nx:=N,ct:=N,bk:=D.nx} σ H1)/\(b=sJ->D.nx σ H1)):Ea c tb D σ H:=by
 unfold Ea;show⟨Pv,⟨m,h0⟩,hs⟩
theorem EA{l₁:List Int}(h:l₁.Nodup):∀{l₂:List Int},(∀x∈l₁,x∈l₂)->l₁.length<=l₂.length:=by
 induction l₁ with
 |nil=>intro l₂ _;show aX _
 |cons x xs ih=>
  intro l₂ hs;obtain⟨h1,h2⟩:=cV.mp h;have hx:=hs x aJ;have:=ih h2 (l₂:=l₂.erase x) λsZ hy=>(List.mem_erase_of_ne λz=>h1 (by rw[<-z];show hy)).mpr (hs sZ<|aw _ hy);rw[List.length_erase_of_mem hx]at this;have oK:0<l₂.length:=List.length_pos_of_mem hx;rw[aT];lia
end Internal.L2
namespace PySem.W
open PySem PySem.Calls PyProof.Rows
def LN(h:Heap)(ks:List sV):Prop:=∀v∈ks,∃a o,v= .ref a/\h.get? a=E o/\o.cls= .type "list"
section
variable {M:Model} {A:bx} {sQ:sV->ag->Prop} {s:ag}
theorem MB:∀(vs:List sV) {Q:List (Option sV)->ag->Prop},LN s.heap vs->Q (vs.map λ_=>y) s->wpAny M A (vs.mapM firstOfTuple') Q sQ s
 |[],_,_,h=>by rw[List.mapM_nil];show ar h
 |v::vs,Q,t,h=>by
  obtain⟨a,o,rfl,ho,hc⟩:=t v aJ;rw[List.mapM_cons];show ae ?_;rw[kas_first_eq];show ae<|Looks.here (show Looks M s.heap (typeOf<|.ref a) o.cls from(Looks.ld ho).andThen .now) ?_;rw[hc,if_pos (by first|decide|simp)];show ar ?_;show ae (MB vs (Q:=λbs s'=>wpAny M A (pure<|y::bs) Q sQ s') (λv hv=>t v<|aw _ hv)<|ar h)
theorem SD{Q:gz->ag->Prop}(oN:0<vs.length)(t:LN s.heap vs)(h:Q lN s):wpAny M A (keyKind' vs.toArray) Q sQ s:=by
 obtain⟨wu,fr,rfl⟩:∃wu fr,vs=wu::fr:=by
  match vs,oN with
  |wu::fr,_=>show⟨wu,fr,Y⟩
 rw[kat_kind_eq,List.mapM_toArray,map_eq_pure_bind];show ae<|ae (MB _ t<|ar ?_);have h1:((((wu::fr).map λ_=>(y:Option sV)).toArray).all λx=>x.isSome)=sJ:=by simp
 rw[if_neg (by rw[h1];decide)];have h2:((((wu::fr).map λ_=>(y:Option sV)).toArray)[0]?.bind id).isSome=sJ:=by simp
 rw[if_neg (by rw[h2];decide)];rw[oneTypeOnly'_eq,List.mapM_toArray,map_eq_pure_bind];show ae (ae<|ae (kas_mapM (r:=cL "list") _ (λv hv Q' hq=>?_)<|ar ?_))
 ·obtain⟨a,o,rfl,ho,hc⟩:=t v hv;show Looks.here (show Looks M s.heap (typeOf<|.ref a) o.cls from(Looks.ld ho).andThen .now) ?_;rw[hc];show hq
 ·have oK:((oB (λ_=>cL "list")<|wu::fr).toArray.all λx=>x==cL "list")=sX:=by
   simp only[List.all_toArray,List.all_map,bZ];intro _ _;rfl
  have h0:(oB (λ_=>cL "list")<|wu::fr).toArray[0]? =E (cL "list"):=by simp
  rw[h0];dsimp only;rw[if_pos oK];show ar (ar h)
end
section
variable {prog:a9} {w:World} {A:bx} {sQ:sV->ag->Prop} {s:ag} {a kS:sK} {vs:List sV} {e1:Nat} {f:sV} {P:PySem.Fin->ag->Prop}
def LM{st:bt}{out ks:List sV}{e:Nat}(oP:a≠kS)(oK:(arrOf st).map (·.2)=aL out)(hz:out.length<64)(oQ:ks.length<64)(hf:kA st=y)
  (ha:s.heap.get? a=E (bA "list" #[] e1)) (hk:s.heap.get? kS=E (bA "list" (aL ks) e))
  (h:∀h' c,(∀b o,b≠kS->b≠a->s.heap.get? b=E o->h'.get? b=E o)->h'.get? a=E (bA "list" (aL out) c)->P (.done<|.ret .none) {s with heap:=h'}):wpAny #[1] A (ksk_tail a sJ e1 (.ref kS) st) P sQ s:=by
 have s1:=cu s.heap kS<|bb λ_=>(#[]:Array sV);have oN:(s.heap.update kS<|bb λ_=>(#[]:Array sV)).get? a=E (bA "list" #[] e1):=(s1.2 a oP).trans ha;have s2:=cu (s.heap.update kS<|bb λ_=>(#[]:Array sV)) a<|bb λ_=>aL out;obtain⟨c2,oO⟩:∃c2,((s.heap.update kS<|bb λ_=>(#[]:Array sV)).update a<|bb λ_=>aL out).get? a=E (bA "list" (aL out) c2):=⟨_,gK oN λ_=>aL out⟩;have hsz:(aL out).size=out.length:=aH;unfold ksk_tail
 try dsimp only
 rw[oK];show ae (gF hk Y ?_ (by rw[aH,ak];lia)<|aX _);show ae<|dJ ?_;show ae<|seqEpoch_at oN Y ?_;show ae (gF oN Y ?_ (aX _)<|aQ (dY hsz) (by rw[ak];lia));rw[hf];simp only[bne_self_eq_false,cA,if_false];show ar (h _ c2 (λb o h1 h2 q=>(s2.2 b h2).trans<|(s1.2 b h1).trans q) oO)
end
end PySem.W
namespace Internal.L2
open PySem PySem.Spec PyProof.Rows PySem.W
variable {sQ Q:sV->ag->Prop} {s s':ag} {X:Cx} {w:World} {C f a l j:sK} {K:ax} {A A':bx} {pos p np r9:Pos} {H:Hp} {x qual fl q:Str} {σ:St} {n hdct ab:Bool} {ps N sn:List Str} {pins qs:List (sK×Obj)} {P prog:a9} {fd:ay} {e:Expr} {M:Model} {es:List Expr} {h:Heap} {mg:Str->Option sV} {st:Stmt} {ds bm:List sV} {sp:Sp} {oe ox:Obj} {EE:Ad} {t:TA} {dx dd:Option sK} {D:Ends} {rf vs:Array sV} {cls:sV} {ta:TE} {r k0 k1 k2 k3 k5:Option sV} {tb:TS} {i:Nat} {col:Option Bool} {newId:String}
section
variable {k:Nat} {nm:Str} {params:c9} {body:d5} {scope:Scope} {sp:List (Str×V)->Sp} {H2:Hp} {s2:ag} {D kS:sK} {fv:List (Str×V)} {kk:Nat->List Int} {vs:List sV} {P:PySem.Fin->ag->Prop} {e1:Nat}
def Inv.young(I:Inv X pins σ H2 s2){b:sK}(h:s2.heap.objs.size<=b):b∉tw X.stack:=λz=>by
 rcases aB.mp (I.tj b z)with q|q
 ·show absurd I.lt (by rw[<-q];show Nat.not_lt.mpr h)
 ·show I.De h q
def Mg{P:a9}{b:sK}(x:sD P w G h)(fb:G b=y)(k:∀c o,c≠b->h.get? c=E o->h'.get? c=E o):sD P w G h':=λa o e=>
 (x a o e).tu (λc u hc q=>k c u (by
  rintro rfl;rcases hc with z|z
  ·rw[<-z,fb]at e;cases e
  ·rw[fb]at z;cases z) q) (λ_ q=>q) λ_ _ q _=>q
def Yh{lt:Nat->Nat->Bool}{n:Nat}{p:Array Nat}(hp:Pm n p)(hu:Up lt p n):p.toList.Pairwise λi j=>lt i j=sX:=by
 show cc.mpr λi j hi hj oK=>?_;rw[aU]at hi hj;have:=hu i j oK (by rw[<-hp.size];show hj);rw[Aj,Aj,cO hi,cO hj]at this;simpa using this
end
open PySem
noncomputable def Fj:Expr->Expr
 | .Call _ _ (k::_) _=>k.value
 |e=>e
noncomputable def Rv:Option (Int×Tok)->Array sV
 |none=>#[]
 |some (m,t)=>#[.int m t,.int m t]
def Qo(f:Nat->Int)(j:Nat):Option (Int×Tok)->Prop
 |none=>j=0
 |some (m,_)=>(∃i,i<j/\f i=m)/\∀i,i<j->f i<=m
def Kk(f:Nat->Int)(n:Nat)(d v:sV):Prop:=(n=0->v=d)/\(0<n->∃m t,v= .int m t/\(∃i,i<n/\f i=m)/\∀i,i<n->f i<=m)
def U9(a v:sV):argsOk "max" ⟨[a],[(bF "default",v)]⟩:=by unfold argsOk;kernel_rfl
section
variable {R:gT->ag->Prop} {I:sK} {fp wr:List sK} {n:Nat} {P:Nat->sV->Prop} {St:Nat->Heap->Prop}
theorem Et(W:Walks prog w A.in1 I fp wr n P St)(f:Nat->Int)(hP:∀i v,P i v->∃t,v= .int (f i) t)(S:sK)(oV:S∉fp)(d:sV):∀(k j:Nat) (s:ag) (b:Option (Int×Tok)) (c:Nat),n - j=k->j<=n->St j s.heap->
  s.heap.get? S=E {cls:=.type "list",dict:=y,data:=.seq (Rv b) c,slots:=#[]}->Qo f j b->
  (∀v h' tk,Kk f n d v->(∀b o,b∉wr->b≠S->s.heap.get? b=E o->h'.get? b=E o)->R (.ok<|.ret v) {s with heap:=h',toks:=tk})->
  cS #[1] A (.builtin "max.loop" ⟨[.ref I,.none,.ref S],[(bF "default",d)]⟩) R s
 |0,j,s,b,c,hk,hj,oX,hS,hb,hR=>by
  have o8:j=n:=by lia
  subst o8;have o7:S∉wr:=λh=>oV<|W.sub _ h;show dh F.entry_max_loop ?_;rw[dB fK _];change wpAny _ A.in1 (iX (.ref S) >>= _) _ _ s;show ae<|eI hS Y ?_;change wpAny _ A.in1 (tryCatch (i9<|.ref I) _ >>= _) _ _ s;show ae (eJ<|W.done s _ _ oX λh' tk oR=>?_);have oU:=oR S _ o7 hS;cases b with
  |none=>
   cases hb;show ae (m:=rule _) (eN (ar<|hR d _ tk ⟨λ_=>Y,λq=>absurd q<|bN _⟩ λb o oK _ e=>oR b o oK e))
  |some p=>
   obtain⟨m,t⟩:=p;change wpAny _ A.in1 (g9 S (λ_=>#[]) >>= _) _ _ _;show ae<|dg oU Y (ae (dJ<|ar ?_)) (by change(2:Nat)<=_;decide);show hR _ _ tk ⟨λq=>?_,λ_=>⟨m,t,Y,hb⟩⟩ λb o oK oQ e=>(bj _ _<|aW oQ).trans<|oR b o oK e;obtain⟨⟨i,hi,_⟩,_⟩:=hb;lia
 |k+1,j,s,b,c,hk,hj,oX,hS,hb,hR=>by
  have oY:j<n:=by lia
  have o7:S∉wr:=λh=>oV<|W.sub _ h;have oO:(toString "max"++toString ".loop":String)="max.loop":=by decide
  show dh F.entry_max_loop ?_;rw[dB fK _];change wpAny _ A.in1 (iX (.ref S) >>= _) _ _ s;show ae<|eI hS Y ?_;change wpAny _ A.in1 (tryCatch (i9<|.ref I) _ >>= _) _ _ s;show ae (eJ<|W.item j s _ _ oY oX λv h' tk hv oS oR=>?_);have oU:=oR S _ o7 hS;obtain⟨t,rfl⟩:=hP _ _ hv;have turned:∀(g:Array sV->Array sV),(∀b∈fp,∀o,h'.get? b=E o->(h'.update S<|bb g).get? b=E o):=λg b o9 o e=>(bj _ _ λh:S=b=>oV (by rw[h];show o9)).trans e;cases b with
  |none=>
   cases hb;change wpAny _ A.in1 (g9 S (λ_=>#[.int (f 0) t,.int (f 0) t]) >>= _) _ _ _;show ae<|dg oU Y ?_;rw[oO];show ar ⟨cD fK _,Et W f hP S oV d k 1 _ (E (f 0,t)) (c+1) #[2] #[2] (W.frame _ _ _ oS<|turned _) ?_ ⟨⟨0,by lia,Y⟩,λi hi=>?_⟩ λv' oW oN ho oP=>?_⟩
   ·show(b9 _ oU Y).trans rfl
   ·rw[show i=0 by lia];show iB _
   show hR v' oW oN ho λb o oK oQ e=>oP b o oK oQ ((bj _ _<|aW oQ).trans<|oR b o oK e)
  |some p=>
   obtain⟨m,u⟩:=p;obtain⟨⟨i0,pd,e0⟩,hle⟩:=hb;change wpAny _ A.in1 (tryCatch (fA [.int (f j) t,.int (f j) t]<|richCompare .Gt (.int (f j) t) (.int m u) >>= _) _ >>= _) _ _ _;have oZ:=CmpOf.ints_gt (prog:=prog) (w:=w) (A:=A.in1) (P:=λi v=>∃t,v= .int (if i=0 then f j else m) t) (λi=>if i=0 then f j else m) λi v e=>e;show ae (eJ<|bO (ae<|oZ 0 1 _ _ _ _ _ ⟨t,Y⟩ ⟨u,Y⟩ ?_));show ae (bO<|cH ?_);show ae (dJ<|ar ?_)
   by_cases hb:f j > m
   ·change wpAny _ _ (if decide (f j > m)=sX then _ else _) _ _ _;rw[if_pos<|decide_eq_true hb];show ae<|dg oU Y (ae<|dJ ?_) (by change(2:Nat)<=_;decide);rw[oO];obtain⟨c',e'⟩:∃c',(h'.update S<|bb λ_=>#[.int (f j) t,.int (f j) t]).get? S=E {cls:=.type "list",dict:=y,data:=.seq #[.int (f j) t,.int (f j) t] c',slots:=#[]}:=⟨_,b9 _ oU Y⟩;show ar ⟨cD fK _,Et W f hP S oV d k (j+1) _ (E (f j,t)) c' #[2] oY (W.frame _ _ _ oS<|turned _) e' ⟨⟨j,by lia,Y⟩,λi hi=>?_⟩ λv' oW oN ho oP=>?_⟩
    ·by_cases q:i=j
     ·subst q;show iB _
     ·have:=hle i #[2];lia
    ·show hR v' oW oN ho λb o oK oQ e=>oP b o oK oQ ((bj _ _<|aW oQ).trans<|oR b o oK e)
   ·change wpAny _ _ (if decide (f j > m)=sX then _ else _) _ _ _;rw[if_neg (by rw[decide_eq_false hb];show aD)];show ae<|dJ ?_;rw[oO];show ar ⟨cD fK _,Et W f hP S oV d k (j+1) _ (E (m,u)) c #[2] oY oS oU ⟨⟨i0,by lia,e0⟩,λi hi=>?_⟩ λv' oW oN ho oP=>hR v' oW oN ho λb o oK oQ e=>oP b o oK oQ<|oR b o oK e⟩
    by_cases q:i=j
    ·subst q;lia
    ·show hle i #[2]
def U8(hh:A.handled=y)(hl:s.heap.IsList l (ky xs))
  (h:∀v h' tk,Kk (numAt xs) xs.size d v->(∀b o,s.heap.get? b=E o->h'.get? b=E o)->Q v {s with heap:=h',toks:=tk}):
  wpAny #[1] A (call (.builtin "max") [.ref l] [(bF "default",d)]) Q sQ s:=by
 have oK:(toString "max"++toString ".loop":String)="max.loop":=by decide
 show kmk_tree F.kind_max F.plain_max F.entry_max (U9 _ _) ?_;change wpAny _ A.in1 (eR "max" ["key","default"] 0 ⟨[],[(bF "default",d)]⟩ >>= _) _ _ s;show ae<|kF (show eR "max" ["key","default"] 0 ⟨[],[(bF "default",d)]⟩=pure [y,E d]from rfl) ?_;show ae<|ar (ae<|iter_intList hl λrg e st oO oN=>?_);subst e;show ae<|fh ?_;rw[oK];have W:=lz (prog:=prog) (w:=w) (A:=A.in1) hh s.heap.objs.size l oN<|ky xs;have hsz:(ky xs).size=xs.size:=by simp[ky]
 show ar ⟨cD fK _,Et W (numAt xs) (λi v e=>intItems_at e) _ (λhm=>bN _<|oO _ hm) d _ 0 _ y 0 Y (aX _) (W.frame _ _ _ st λb _ o e=>af _ e) (aF _ Y) Y λv h' tk ho hk=>?_⟩;rw[hsz]at ho;show h v h' tk ho (old_kept λb o oP e=>hk b o oP (aC<|aq e)<|af _ e)
end
def Qn(K:ax)(ta:TA)(tf:TE):TE:=λσ H Q=>ta σ H λxs H1=>tf σ H1 λsZ H2=>tK λ(l:sK) (ns:List Int) (z:Int)=>sU (xs=[.ref l]) (sZ= .int z) (kq K H2 l<|ns.map V.int) (∀m,(ns=[]->m=z)->(ns≠[]->m∈ns/\∀a∈ns,a<=m)->Q (.int m) H2)
def KN{ta:TA}{kp:Pos}(hc:X.calm=sX)(hg:Gl X "max")(hm:X.mg "max"=y)(ha:PA X [e] ta)(hf:PE X fe tf)
  (he:autoParam (bY pos (aM [e] X.env)=(sJ,eval e X.env)::bY pos (aM [] X.env)) rJ):
  PE X (.Call (.Name "max" p) [e] [⟨E "default",fe,kp⟩] pos) (Qn X.K ta tf):=by
 intro pins s σ H Q I h;show bL<|zJ I hg hm Bo ?_ #[6] #[6];show mB (zS #[16] λus s1 xs H1 I1 r1 q1=>?_) he (by rw[he];rfl) rfl rfl;show ng<|xQ (hf pins s1 σ H1 _ I1 q1) λfu s2 sZ H2 I2 r2 q2=>kws_nil ?_;obtain⟨l,ns,z,rfl,rfl,hl,q⟩:=q2;obtain⟨u,rfl,ru⟩:=Vals.one r1;cases ru;obtain⟨tz,rfl⟩:=r2;obtain⟨rf,r',pl,hz⟩:=I2.list hl;have hi:=intsAre_of r';have hL:=pl.isList;have hn:=hi.numsOf;obtain⟨ys,e⟩:=hi.allInts.items;rw[e]at hL;have e2:numsOf rf=numsOf (ky ys).toList:=by rw[<-e]
 rw[e2,nE]at hn;have hlen:=congrArg cz hn;rw[aa,aU]at hlen;change wpAny _ _ (call (.builtin "max") [.ref l] [(bF "default",.int z tz)]) _ _ s2;show U8 (I.ok.hd hc) hL λv h' tk ho hk=>?_
 by_cases oK:ns=[]
 ·have h0:ys.size=0:=by rw[hlen,oK];rfl
  have:=ho.1 h0;subst this;show⟨.int z,H2,I2.kept (t':=tk) hk,⟨tz,Y⟩,q z (λ_=>Y) λx=>absurd oK x⟩
 ·have oO:0<ns.length:=cb.mpr oK;obtain⟨m,t,rfl,⟨i,oP,ei⟩,hle⟩:=ho.2 (by omega);show⟨.int m,H2,I2.kept (t':=tk) hk,⟨t,Y⟩,q m (λx=>absurd x oK) λ_=>⟨?_,λa oN=>?_⟩⟩
  ·rw[<-hn,<-ei,numAt_eq];show getD_mem (by rw[aa,aU];omega)
  ·rw[<-hn]at oN;obtain⟨j,hj,rfl⟩:=mem_getD oN;rw[aa,aU]at hj;rw[<-numAt_eq];show hle j hj
structure AK(K:ax)(x qual:Str)(st:Stmt)(f:sK)(fd:ay)(ds:List sV):Prop where
 ex:∃(oc:sV) (od:Option sK) (dT:sK) (o:Obj) (n:Nat) (kV doc pm:sV) (an:Option sK) (cdv ct:sV) (v9:Array (Option sV)),
  fd=gZ x qual (uF st) (yh st) (xt st) (.ref dT) kV doc pm an cdv ct/\K.lookup f=E ⟨oc,od,.func fd,v9⟩/\mV K cdv qual=sX/\K.lookup dT=E o/\o.data= .seq ds.toArray n
 kp:gU K (.ref f)=sX
section
variable {base:Heap}
def AK.ok{k:Nat}(F:AK K x qual st f fd ds)(S:yd N ps (xt st))(len:∀vs H Q sQ,sp vs H Q sQ->vs.length=ps.length)
  (oK:∀(cdv:sV) (A:bx) (outer:List Env) (s:ag) (H:Hp) (vs:List V) (Q:VK) (sQ:XK),xR k (A.deeper<|fC qual (xt st) s.heap.objs.size f cdv)->sp vs H Q sQ->
   ∃t,sY (jw sR P w K mg base N qual (xt st) f cdv A outer s H sQ).w4 (yh st) t/\t {nx:=λ_ H'=>Q .rp H',rt:=Q} (start N vs) H):yA P w K mg base sR (k+1) f fd ps sp:=by
 obtain⟨oc,od,dT,o,n,kV,doc,pm,an,cdv,ct,v9,rfl,lk,oO,_⟩:=F.ex;show DJ lk oO S len λA outer s H vs Q sQ hr oN=>?_;obtain⟨t,h,q⟩:=oK cdv A outer s H vs Q sQ hr oN;show⟨t,h.w4,q⟩
def AK.binds{es:List sV}(F:AK K x qual st f fd ds)(n:Nat)(hn:n+es.length=ps.length)
  (h:∀(dT:sK) (kV doc pm:sV) (an:Option sK) (cdv ct:sV) (us:List sV),us.length=n->
   ∃k:Option (Array sV)->Sem (List (Str×sV)),ko (gZ x qual (uF st) (yh st) (xt st) (.ref dT) kV doc pm an cdv ct) ⟨us,[]⟩=iX (.ref dT) >>= k/\k (E ds.toArray)=pure (ps.zip (us++es))):Binds K fd ps es:=by
 obtain⟨oc,od,dT,o,n,kV,doc,pm,an,cdv,ct,v9,rfl,lk,oK,ho,hs⟩:=F.ex;intro s us X hl;obtain⟨k,h1,h2⟩:=h dT kV doc pm an cdv ct us (by rw[ao]at hl;lia);show binds_K X rfl ho hs h1 h2
def xsx{kV:sV}{n:Nat}(l:K.lookup f=E ⟨oc,od,.func<|gZ x qual (uF st) (yh st) (xt st) (.ref dT) kV doc pm an cdv ct,v9⟩)
  (c:mV K cdv qual=sX) (k:gU K (.ref f)=sX) (d:K.lookup dT=E ⟨dc,oN,.seq ds.toArray n,oK⟩):AK K x qual st f (gZ x qual (uF st) (yh st) (xt st) (.ref dT) kV doc pm an cdv ct) ds:=
 ⟨⟨oc,od,dT,_,n,kV,doc,pm,an,cdv,ct,v9,Y,l,c,d,Y⟩,k⟩
end
open PySem PySem.Spec PyProof.Rows
def Nu(X:Cx)(H:Hp)(b:sK):Prop:=H b=y/\X.s₀.heap.get? b=y/\∀p∈X.pn,p.1≠b
inductive Jo(n:Bool)(X:Cx)(H:Hp)(h:Heap)(a:sK)(cls:sV)(dx:Option sK):Prop
 |intro(oe:Obj) (vs:Array sV) (a0:sV) (e1:h.get? a=E oe) (e2:oe.cls=cls) (e3:oe.dict=dx) (e4:oe.data= .fields vs) (e5:vs[0]? =E a0) (e6:vs[1]? =E .none) (e7:n=sX->vs[2]? =E .none) (e8:Nu X H a):Jo n X H h a cls dx
inductive AR(n:Bool)(X:Cx)(fl:sV)(H:Hp)(h:Heap)(a:sK)(cls:sV)(dx:Option sK):Prop
 |intro(oe:Obj) (vs:Array sV) (a0:sV) (T:sK) (oT:Obj) (ts:Array sV) (e1:h.get? a=E oe) (e2:oe.cls=cls) (e3:oe.dict=dx) (e4:oe.data= .fields vs) (e5:vs[0]? =E a0) (e6:vs[1]? =E (.ref T)) (e7:n=sX->vs[2]? =E .none) (e8:T≠a) (e9:h.get? T=E oT) (ea:oT.data= .fields ts) (eb:ts[3]? =E fl) (ec:Nu X H a) (ed:Nu X H T):AR n X fl H h a cls dx
def Fc(n:Bool)(X:Cx)(H:Hp)(h:Heap)(a:sK)(cls:sV)(dx:Option sK):Prop:=
 Jo n X H h a cls dx\/AR n X .none H h a cls dx\/AR n X (ck X.env.locals) H h a cls dx
structure Own(X:Cx):Prop where
 ex:X.ex=[]
 st:X.stack=X.env::X.outer
 fr:X.env.frame=E X.env.locals
abbrev Ad:=St->XK
inductive tV(n:Bool)(X:Cx)(EE:Ad)(e:sV)(s':ag):Prop
 |intro(a:sK) (cls:sV) (dx:Option sK) (σ:St) (H:Hp) (e1:e= .ref a) (e2:Inv X [] σ H s') (e3:Fc n X H s'.heap a cls dx) (e4:EE σ cls dx H):tV n X EE e s'
def Inv.wB(I:Inv X pins σ H s):Inv X [] σ H s:=I.v8 λp hp=>nomatch hp
def Own.mem(o:Own X){b:sK}:b∈tw X.stack↔b=X.env.locals\/b∈X.fs:=by
 rw[o.st];unfold tw;rw[gI,o.fr];show aB
def Inv.Ab(o:Own X)(I:Inv X [] σ H s)(ch:sK->Prop)
  (keep:∀b u,¬ch b->b∉tw X.stack->s.heap.get? b=E u->h'.get? b=E u)
  (slot:∀b u,¬ch b->b∈tw X.stack->s.heap.get? b=E u->∃sl,h'.get? b=E {u with slots:=sl})
  (new:∀b,ch b->Nu X H b/\∀u,s.heap.get? b=E u->∃vs,u.data= .fields vs):Inv X [] σ H {s with heap:=h'}:=by
 have any:∀b u,¬ch b->s.heap.get? b=E u->∃sl,h'.get? b=E {u with slots:=sl}:=λb u n e=>by
  by_cases hb:b∈tw X.stack
  ·show slot b u n hb e
  ·show⟨u.slots,keep b u n hb e⟩
 have old:∀b u,X.s₀.heap.get? b=E u->¬ch b:=λb u e z=>by
  have:=(new b z).1.2.1;rw[e]at this;cases this
 have oN:∀b u,X.s₀.heap.get? b=E u->b≠X.env.locals:=λb u e=>aC<|az (aq e) I.ok.above;have tm:∀c v,s.heap.IsCell c v->h'.IsCell c v:=λc v ⟨u,e,d⟩=>by
  obtain⟨sl,q⟩:=any c u (λz=>by
   obtain⟨vs,w⟩:=(new c z).2 u e;rw[d]at w;cases w) e
  show⟨_,q,d⟩
 show⟨I.ok,I.os,I.bare,⟨λb u e n hb hx=>?_,λb u e n hb hx=>?_,I.base.free,λb u e hx=>?_,I.base.fix⟩,?_,λx c e=>?_,I.free,I.rT,λp hp=>?_,λb u e=>?_,I.len⟩
 ·show keep b u (old b u e) (λz=>(o.mem.mp z).elim (oN b u e) hb) (I.base.keep b u e n hb hx)
 ·obtain⟨sl,e1⟩:=I.base.slot b u e n hb hx;obtain⟨oK,e2⟩:=slot b _ (old b u e) (o.mem.mpr<|.inr hb) e1;show⟨oK,e2⟩
 ·by_cases hb:b∈X.fs
  ·obtain⟨o',e1⟩:=I.base.there b u e hx;obtain⟨sl,e2⟩:=any b _ (old b u e) e1;show⟨_,e2⟩
  ·obtain⟨o',e1⟩:=I.base.there b u e hx;obtain⟨sl,e2⟩:=any b _ (old b u e) e1;show⟨_,e2⟩
 ·obtain⟨m,⟨u,es,ep,e,d⟩,l⟩:=I.loc;obtain⟨sl,q⟩:=any _ u (λz=>by
   obtain⟨vs,w⟩:=(new _ z).2 u e;rw[d.1]at w;cases w) e
  show⟨m,⟨_,es,ep,q,d⟩,λi x v e1 e2 e3=>?_⟩;obtain⟨sZ,r,z⟩:=l i x v e1 e2 e3;show⟨sZ,r,z.imp id λ⟨k,c,e,z⟩=>⟨k,c,e,tm c _ z⟩⟩
 ·obtain⟨v,z⟩:=I.cell x c e;show⟨v,tm c v z⟩
 ·obtain⟨e,n,ne,nf,d⟩:=I.pin p hp;have oO:p∈X.pn:=by simpa using hp
  show⟨keep p.1 p.2 (λz=>(new _ z).1.2.2 p oO Y) (λz=>(o.mem.mp z).elim ne nf) e,n,ne,nf,d⟩
 ·show(I.rh b u e).tu (λc v hc q=>?_) (λ_ q=>q) λ_ _ q _=>q;have tr:∃u,H c=E u:=by
   rcases hc with rfl|hc
   ·show⟨u,e⟩
   ·show⟨_,hc⟩
  obtain⟨u',tr⟩:=tr;show keep c v (λz=>?_) (λz=>?_) q
  ·rw[(new c z).1.1]at tr;cases tr
  ·rw[I.tO c z]at tr;cases tr
def M7{Q:Unit->ag->Prop}(o:Own X)(oU:A'.frames=E X.stack)(I:Inv X [] σ H s)
  (he:s.heap.get? a=E oe) (hd:oe.data= .fields vs) (h0:vs[0]? =E a0) (h1:1<vs.size) (h2:n=sX->vs[2]? =E .none) (hn:Nu X H a)
  (h:∀s',Inv X [] σ H s'->AR n X (ck X.env.locals) H s'.heap a oe.cls oe.dict->Q () s'):
  wpAny M A' (do let f <-frameOf X.env;let pl <-entryPlaceOf X.env.locals oV;let b <-nI head f .none (ck X.env.locals) .none pl;setField (.ref a) 1 b) Q sQ s:=by
 have oN:s.heap.FunFrames X.base (X.env::X.outer):=by have:=I.stack;rwa [o.st]at this
 have oK:∀b,b∈(X.env::X.outer).filterMap (·.frame)↔b∈tw X.stack:=λb=>by rw[o.st];rfl
 have oS:a∉tw X.stack:=λz=>by
  show L2.oG λ_ U=>?_;obtain⟨_,u,hu,oR⟩:=oN.mem<|(oK a).mpr z;apply U;rw[he]at hu;injection hu with hu;subst hu;show oR vs hd
 show ae<|wpAny_frameOf_fun (by rw[oU,o.st]) oN o.fr λg1 so=>?_;show ae<|wpAny_entryPlaceOf λpl oQ=>?_;unfold nI newFields;show ae (fh ?_<|oQ.sizeOk5 _ _ _ _ _);have oP:g1.get? a=E oe:=(so.2.1 a λz=>oS<|(oK a).mp z).trans he;generalize hT:({cls:=.type "traceback",dict:=y,data:=.fields ([head,.ref X.env.locals,.none,ck X.env.locals,.none]++(if pl.isEmpty then a7 6 bz else pl)).toArray}:Obj)=ot;have oO:=af (h:=g1) ot oP;show ir oO hd h1 ?_;have neT:g1.objs.size≠a:=eP<|aq oP;have d3:=ie hd (·.setIfInBounds 1 (aS g1.objs.size));have a3:=b9 (fQ (·.setIfInBounds 1 (aS g1.objs.size))) oO<|iY d3;have t3:((g1.push ot).update a<|fQ (·.setIfInBounds 1 (aS g1.objs.size))).get? g1.objs.size=E ot:=(bj _ _<|aW neT).trans<|aF g1 (by rw[<-hT];rfl);have kp:∀b u,b≠a->g1.get? b=E u->((g1.push ot).update a<|fQ (·.setIfInBounds 1 (aS g1.objs.size))).get? b=E u:=λb u nb e=>
  (bj _ _<|aW nb).trans (af _ e)
 have old:∀b u,s.heap.get? b=E u->b≠g1.objs.size:=λb u e=>aC (by rw[so.1];show aq e);have nT:Nu X H g1.objs.size:=by
  show⟨I.rh.fresh (by rw[so.1];show ah _),?_,λp hp z=>old p.1 p.2 (I.pin p (by simpa using hp)).1 z⟩;show gy (by rw[so.1];show I.sz)
 have J:Inv X [] σ H {s with heap:=(g1.push ot).update a (fQ (·.setIfInBounds 1 (aS g1.objs.size)))}:=by
  show I.Ab o (λb=>b=a) (λb u n nf e=>kp b u n<|(so.2.1 b λz=>nf<|(oK b).mp z).trans e) (λb u n _ e=>?_) (λb z=>?_)
  ·obtain⟨sl,e1⟩:=so.2.2 b u e;show⟨sl,kp b _ n e1⟩
  ·subst z;show⟨hn,λu e=>⟨vs,by rw[he]at e;cases e;show hd⟩⟩
 show h _ J ?_
 ·show⟨_,_,a0,g1.objs.size,ot,_,a3,Obj.cls_mapFields _ _,?_,d3,by rw[i6 #[6]];show h0,by simp[h1],λz=>by rw[i6 #[6]];show h2 z,neT,t3,by rw[<-hT],by simp,hn,nT⟩;show L2.oG λ_ U=>?_;obtain⟨c,d,dt,sl⟩:=oe;apply U;cases dt<;> rfl
def FR{Q:Unit->ag->Prop}(o:Own X)(oO:A'.frames=E X.stack)(I:Inv X [] σ H s)(F:Fc n X H s.heap a cls dx)
  (h:∀s',Inv X [] σ H s'->AR n X (ck X.env.locals) H s'.heap a cls dx->Q () s'):wpAny M A' (noteFrame (.ref a) X.env) Q sQ s:=by
 unfold noteFrame;simp only[o.fr];rcases F with⟨oe,vs,a0,he,rfl,rfl,hd,h0,h1,h2,hn⟩|⟨oe,vs,a0,T,oT,ts,he,rfl,rfl,hd,h0,h1,h2,nT,hT,oK,h3,hn,oN⟩|F
 ·show ae<|dN he hd h1 ?_;rw[if_neg #[6]];show M7 o oO I he hd h0 (c5.mp h1).1 h2 hn h
 ·show ae<|dN he hd h1 ?_;rw[if_pos (by simp:(aS T != bz)=sX)];show ae<|dN hT oK h3 ?_;rw[if_neg (by simp[ck]:¬((bz==ck X.env.locals)=sX))];show ae<|ir hT oK (c5.mp h3).1 ?_;have ot:∀b,b≠T->(s.heap.update T<|fQ (·.setIfInBounds 3 bz)).get? b=s.heap.get? b:=λb nb=>bj _ _<|aW nb;have I':Inv X [] σ H {s with heap:=s.heap.update T (fQ (·.setIfInBounds 3 bz))}:=by
   show I.Ab o (λb=>b=T) (λb u n _ e=>(ot b n).trans e) (λb u n _ e=>⟨u.slots,(ot b n).trans e⟩) λb z=>?_;subst z;show⟨oN,λu e=>⟨ts,by rw[hT]at e;cases e;show oK⟩⟩
  show M7 o oO I' ((ot a<|aW nT).trans he) hd h0 (c5.mp h1).1 h2 hn h
 ·show L2.oG λ_ U=>?_;obtain⟨oe,vs,a0,T,oT,ts,he,hc,hx,hd,h0,h1,h2,nT,hT,oK,h3,hn,oN⟩:=id F;apply U;show ae<|dN he hd h1 ?_;rw[if_pos (by simp:(aS T != bz)=sX)];show ae<|dN hT oK h3 ?_;rw[if_pos (by simp:(ck X.env.locals==ck X.env.locals)=sX)];show ar (h s I F)
def Ez{Q:Unit->ag->Prop}{fl:sV}{to:Option sK}(o:Own X)(I:Inv X [] σ H s)(F:AR n X fl H s.heap a cls dx)
  (h:∀s',Inv X [] σ H s'->AR n X (to.elim .none λf=>ck f) H s'.heap a cls dx->Q () s'):wpAny M A' (setFlight (.ref a) to) Q sQ s:=by
 obtain⟨oe,vs,a0,T,oT,ts,he,rfl,rfl,hd,h0,h1,h2,nT,hT,oK,h3,hn,oN⟩:=F;unfold setFlight;show ae<|dN he hd h1 ?_;rw[if_pos (by simp:(aS T != bz)=sX)];have z3:=(c5.mp h3).1;have ot:∀b,b≠T->(s.heap.update T<|fQ (·.setIfInBounds 3 (to.elim bz λf=>ck f))).get? b=s.heap.get? b:=λb nb=>bj _ _<|aW nb;have d3:=ie oK (·.setIfInBounds 3 (to.elim bz λf=>ck f));show ir hT oK z3 (h _ (I.Ab o (λb=>b=T) (λb u n _ e=>(ot b n).trans e) (λb u n _ e=>⟨u.slots,(ot b n).trans e⟩) λb z=>?_) ?_)
 ·subst z;show⟨oN,λu e=>⟨ts,by rw[hT]at e;cases e;show oK⟩⟩
 ·show⟨oe,vs,a0,T,_,_,(ot a<|aW nT).trans he,Y,Y,hd,h0,h1,h2,nT,b9 _ hT<|iY d3,d3,by simp[z3],hn,oN⟩
def Hq{Q:Unit->ag->Prop}(o:Own X)(oK:A'.frames=E X.stack)(I:Inv X [] σ H s)(F:Fc n X H s.heap a cls dx)
  (h:∀s',Inv X [] σ H s'->AR n X .none H s'.heap a cls dx->Q () s'):wpAny M A' (leaving X.env<|.ref a) Q sQ s:=by
 unfold leaving;show ae (FR o oK I F λs1 I1 F1=>Ez (to:=y) o I1 F1 h)
def PassesOwn.xe(o:Own X):PassesOwn #[3] X.A X.env (tV n X EE):=by
 rintro e s' ⟨a,cls,dx,σ,H,rfl,I,F,q⟩;show FR o I.ok.frames I F λs1 I1 F1=>?_;unfold cameBackBy;obtain⟨oe,vs,a0,T,oT,ts,he,hc,hx,hd,h0,h1,_⟩:=id F1;show ae<|dN he hd h1 ?_;rw[if_neg #[8]];show Ez (to:=X.env.frame) o I1 F1 λs2 I2 F2=>⟨a,cls,dx,σ,H,Y,I2,.inr<|.inr ?_,q⟩;rw[o.fr]at F2;show F2
inductive wj(n:Bool)(P:a9)(w:World)(outer:List Env)(H:Hp)(s:ag)(sQ:XK)(e:sV)(s':ag):Prop
 |intro(a:sK) (cls:sV) (dx:Option sK) (H':Hp) (oe:Obj) (vs:Array sV) (a0:sV) (T:sK) (oT:Obj) (ts:Array sV) (e1:e= .ref a) (e2:s'.os=s.os) (e3:gr s'.gens) (e4:Un (tw outer) [] H H' s.heap s'.heap) (e5:sD P w H' s'.heap)
  (f1:s'.heap.get? a=E oe) (f2:oe.cls=cls) (f3:oe.dict=dx) (f4:oe.data= .fields vs) (f5:vs[0]? =E a0) (f6:vs[1]? =E (.ref T)) (f7:n=sX->vs[2]? =E .none) (f8:T≠a) (f9:s'.heap.get? T=E oT) (fa:oT.data= .fields ts) (fb:ts[3]? =E .none)
  (g1:H' a=y) (g2:s.heap.get? a=y) (g3:H' T=y) (g4:s.heap.get? T=y) (g5:sQ cls dx H'):wj n P w outer H s sQ e s'
def Mf{base:Heap}{sQ:XK}:
  Own (jw CX P w K mg base N qual sc f cd A outer s H sQ):=⟨Y,Y,Y⟩
def sY.wz{st:List Stmt}{t:TS}(h:sY (X.r0 sQ) st t)(hE:∀e s,sQ e s->X.xe e s):sY X st t:=λpins s σ H D I hw=>
 aR (h pins s σ H D (I.r0 _) hw) (λ_ _ q=>q.rS) hE
noncomputable abbrev OI(n:Bool)(P:a9)(w:World)(K:ax)(mg:Str->Option sV)(base:Heap)(N:List Str)(qual:Str)(sc:Scope)(f:sK)(cd:sV)(A:bx)(outer:List Env)(s:ag)(H:Hp)(sQ:XK):Cx:=
 (jw (wj n P w) P w K mg base N qual sc f cd A outer s H sQ).r0 (tV n (jw (wj n P w) P w K mg base N qual sc f cd A outer s H sQ) λ_=>sQ)
section
variable {base:Heap}
def wx.BB{k:Nat}(F:wx K x qual st f fd)(S:yd N ps (xt st))(len:∀vs H Q sQ,sp vs H Q sQ->vs.length=ps.length)
  (oK:∀(cdv:sV) (A:bx) (outer:List Env) (s:ag) (H:Hp) (vs:List V) (Q:VK) (sQ:XK),xR k (A.deeper<|fC qual (xt st) s.heap.objs.size f cdv)->sp vs H Q sQ->
   ∃t,sY (OI n P w K mg base N qual (xt st) f cdv A outer s H sQ) (yh st) t/\t {nx:=λ_ H'=>Q .rp H',rt:=Q} (start N vs) H):yA P w K mg base (wj n P w) (k+1) f fd ps sp:=by
 obtain⟨oc,od,kV,doc,pm,an,cdv,ct,v9,rfl,lk,oQ⟩:=F.ex;show DJ lk oQ S len λA outer s H vs Q sQ hr oO=>?_;obtain⟨t,h,q⟩:=oK cdv A outer s H vs Q sQ hr oO;show⟨t,h.wz λe s' ⟨a,cls,dx,σ,H',he,I,Fl,z⟩=>?_,q⟩;subst he;show Hq Mf I.ok.frames I Fl λs2 I2 F2=>?_;obtain⟨oe,vs,a0,T,oT,ts,he,hc,hx,hd,h0,h1,h2,nT,hT,oP,h3,hn,oN⟩:=F2;show⟨a,cls,dx,H',oe,vs,a0,T,oT,ts,Y,I2.os,I2.bare,I2.base,I2.rh,he,hc,hx,hd,h0,h1,h2,nT,hT,oP,h3,hn.1,hn.2.1,oN.1,oN.2.1,z⟩
end
section
theorem W2{e:sV}(o:Own X)(I:Inv (X.r0<|tV n X EE) pins σ H s)(h:wj n X.prog X.w X.stack H s (EE σ) e s'):tV n X EE e s':=by
 show L2.oG λ_ U=>?_;obtain⟨a,cls,dx,H',oe,vs,a0,T,oT,ts,rfl,os,bare,un,rh,he,hc,hx,hd,h0,h1,h2,nT,hT,oK,h3,n1,n2,n3,n4,q⟩:=h;apply U;have I0:Inv X pins σ H s:=I.rS;have I1:Inv X pins σ H' s':=I0.tR os un rh bare λb z=>absurd z #[8];have nu:∀b,H' b=y->s.heap.get? b=y->Nu X H' b:=λb m1 m2=>by
  show⟨m1,?_,λp hp z=>?_⟩
  ·cases q:X.s₀.heap.get? b with
   |none=>rfl
   |some u=>
    obtain⟨u',e⟩:=I0.base.there b u q (by rw[o.ex];simp);rw[m2]at e;cases e
  ·have:=(I0.pin p<|bB _ hp).1;rw[z,m2]at this;cases this
 show⟨a,cls,dx,σ,H',Y,I1.wB,.inr<|.inl ⟨oe,vs,a0,T,oT,ts,he,hc,hx,hd,h0,h1,h2,nT,hT,oK,h3,nu a n1 n2,nu T n3 n4⟩,q⟩
variable {k:Nat} {dvs:List V} {m:Str} {apos:Pos} {ob:Expr}
theorem FQ{Q:VK}{vs:List V}(o:Own X)(F:yA X.prog X.w X.K X.mg X.base (wj n X.prog X.w) k f fd ps sp)(hr:xR k X.A)(hb:Binds X.K fd ps ds)(hd:Vals dvs ds)
  (I:Inv (X.r0<|tV n X EE) pins σ H s) (r:Vals vs us) (h:sp (vs++dvs) H Q (EE σ)):wpAny #[3] X.A (call (.ref f) us) (EP (X.r0<|tV n X EE) pins σ Q) (tV n X EE) s:=by
 have r2:Vals (vs++dvs) (us++ds):=r.append hd;have hl:(us++ds).length=ps.length:=r2.length.symm.trans<|F.len _ _ _ _ h;show fV (dI (F.run X.A X.stack s H ⟨us,[]⟩ (us++ds) (vs++dvs) Q (EE σ) hr I.rS.wI (hb s us I.rS.su hl) r2 h) λz s' hq=>?_)
 match z,hq with
 | .error e,hq=>show W2 o I hq
 | .ok (.ret u),hq=>show I.after hq
 | .ok .next,hq=>show hq.elim
 | .ok .brk,hq=>show hq.elim
 | .ok .cont,hq=>show hq.elim
def Ru(sp:Sp)(dvs:List V)(EE:Ad)(t:TA):TE:=λσ H Q=>t σ H λvs H1=>sp (vs++dvs) H1 Q (EE σ)
def Me(o:Own X)(F:yA X.prog X.w X.K X.mg X.base (wj n X.prog X.w) k f fd ps sp)(hr:xR k X.A)(hg:Gl X x)(hm:X.mg x=E (.ref f))(hk:gU X.K (.ref f)=sX)(hb:Binds X.K fd ps ds)(hd:Vals dvs ds)
  (ha:PA (X.r0<|tV n X EE) (e::es) t) (oN:autoParam #[12] q9) (he:autoParam #[7] rJ) (oK:autoParam #[17] rJ):
  PE (X.r0<|tV n X EE) (.Call (.Name x p) (e::es) [] pos) (Ru sp dvs EE t):=by
 intro pins s σ H Q I h;show bL<|vQ I hg hm ?_ oN;show gX (h₀:=X.base) I.ok.mod.w5 hk (zS #[16] λus s1 vs H1 I1 r q=>⟨I1.su,FQ o F hr hb hd I1 r q⟩) he oK
end
abbrev XE(X:Cx)(EE:Ad):=tV sJ X EE
abbrev As(P:a9)(w:World):wY:=wj sJ P w
open PySem PySem.Spec PyProof.Rows
noncomputable def Cs:List sV:=[.type "ValueError",.type "Exception",.type "BaseException",.type "object"]
def Pz(k:Option sV):Bool:=match k with
 |some (.builtin n)=>n=="ValueError.__new__"
 |_=>sJ
def Fb(sl:List (Option sV)):Bool:=match sl with
 |[_,_,_,_,k,_]=>Pz k
 |_=>sJ
def E9(K:ax)(C:sK)(r:Option sV)(ns:sK)(del:Bool)(mro:List sV):Bool:=match mro with
 | .ref C'::bm=>C'==C&&(!del&&(W.tailIn K Cs bm&&(W.nsOkIn K ns&&kN K ns "__init__"==E r)))
 |_=>sJ
def IW(K:ax)(C:sK)(r:Option sV)(o:Obj):Bool:=match o with
 |⟨.type t,_,.cls cd,sl⟩=>t=="type"&&(E9 K C r cd.ns cd.hasDel cd.mro&&Fb sl.toList)
 |_=>sJ
noncomputable def FG(K:ax)(C:sK)(r:Option sV):Bool:=(K.lookup C).any (IW K C r)
theorem Sz(q:Fb sl=sX):∃k0 k1 k2 k3 k5,sl=[k0,k1,k2,k3,E<|.builtin "ValueError.__new__",k5]:=by
 rcases sl with _|⟨k0,_|⟨k1,_|⟨k2,_|⟨k3,_|⟨k4,_|⟨k5,_|⟨k6,l⟩⟩⟩⟩⟩⟩⟩<;> try show absurd q aD
 cases k4 with
 |none=>show absurd q aD
 |some k4=>
 cases k4<;> try show absurd q aD
 cases beq_iff_eq.mp q;show⟨_,_,_,_,_,Y⟩
def Sy{del:Bool}(q:E9 K C r ns del mro=sX):∃bm,mro= .ref C::bm/\del=sJ/\W.tailIn K Cs bm=sX/\W.nsOkIn K ns=sX/\kN K ns "__init__"=E r:=by
 rcases mro with _|⟨v,bm⟩
 ·show absurd q aD
 cases v<;> try show absurd q aD
 obtain⟨q1,z⟩:=d7.mp q;obtain⟨q2,z⟩:=d7.mp z;obtain⟨q3,z⟩:=d7.mp z;obtain⟨q4,q5⟩:=d7.mp z;cases beq_iff_eq.mp q1;cases del
 ·show⟨_,Y,Y,q3,q4,beq_iff_eq.mp q5⟩
 ·show absurd q2 aD
def Tx(q:IW K C r o=sX):∃dd cd sl,o=⟨.type "type",dd,.cls cd,sl⟩/\E9 K C r cd.ns cd.hasDel cd.mro=sX/\Fb sl.toList=sX:=by
 obtain⟨c,dd,d,sl⟩:=o;cases c<;> try show absurd q aD
 cases d<;> try show absurd q aD
 obtain⟨q1,z⟩:=d7.mp q;obtain⟨q2,q3⟩:=d7.mp z;cases beq_iff_eq.mp q1;show⟨_,_,_,Y,q2,q3⟩
def W0{N:sK}{n:Str}(X:K.In h)(G:h.Ns N mg)(e:kN K N n=E (E v)):mg n=E v:=by
 obtain⟨o,es,ep,ho,hd,_,hf⟩:=G;unfold kN at e
 split at e
 ·rename_i c d oK n' sl q;have:=X _ _ q;rw[ho]at this;cases this;cases hd
  split at e
  ·rename_i en he;cases e;rw[<-hf];unfold nsFind findBy;rw[<-nR,he];rfl
  ·split at e<;> cases e
 ·cases e
theorem FP(q:FG K C r=sX)(X:K.In h):tW λbm N nm qn bs hdct=>E7 λsn sub ab col dd k0 k1 k2 k3 k5=>
  h.get? C=E (iC nm qn C N bs bm hdct sn sub ab col dd k0 k1 k2 k3 k5 "ValueError.__new__")/\h.Ns N (h.nsMap N)/\h.nsMap N "__init__"=r/\OwnTail h Cs bm:=by
 show L2.oG λ_ U=>?_;obtain⟨o,ho,q1⟩:=(Option.any_eq_true _ _).mp q;obtain⟨dd,⟨nm,bs,mro,ns,qn,hd,sn,sub,ab,col,del⟩,⟨sl⟩,rfl,qm,qs⟩:=Tx q1;obtain⟨k0,k1,k2,k3,k5,e⟩:=Sz qs;cases e;obtain⟨bm,e1,e2,ht,rh,oK⟩:=Sy qm;cases e1;cases e2;have N1:h.Ns ns (h.nsMap ns):=.of_isNs<|W.isNs_of_in X rh;show U ⟨bm,ns,nm,qn,bs,hd,sn,sub,ab,col,dd,k0,k1,k2,k3,k5,X _ _ ho,N1,?_,W.tail_of_in X ht⟩;cases r with
 |none=>show W.nsMap_none_of_in X rh oK
 |some v=>show W0 X N1 oK
def IV(K:ax)(C:sK):Prop:=FG K C y=sX
theorem xP.here(x:xP P w H h a o):∃u,h.get? a=E u:=by
 cases o with
 |lst xs=>obtain⟨_,_,_,_,e⟩:=x;show⟨_,e⟩
 |tup xs=>obtain⟨_,_,_,u,e,_⟩:=x;show⟨_,e⟩
 |dK kvs=>obtain⟨_,_,_,_,o,_,_,e,_⟩:=x;show⟨_,e⟩
 |dT kvs=>obtain⟨_,_,_,_,o,_,_,e,_⟩:=x;show⟨_,e⟩
 |set S n=>obtain⟨o,_,_,_,e,_⟩:=x;show⟨_,e⟩
 |ins C dx fs=>obtain⟨_,_,_,e,_⟩:=x;show⟨_,e⟩
 |own sZ=>show x
 |xd fs=>obtain⟨_,⟨_,_,_,e,_⟩,_⟩:=x;show⟨_,e⟩
 |z0 lo hi=>obtain⟨_,_,_,e⟩:=x;show⟨_,e⟩
 |sC ob u=>obtain⟨e,_⟩:=x;show⟨_,e⟩
 |sk qs=>obtain⟨_,e,_⟩:=x;show⟨_,e⟩
 |tm v=>obtain⟨_,⟨_,e,_⟩,_⟩:=x;show⟨_,e⟩
 |met f sZ=>show⟨_,x⟩
 |ext φ=>show x.2.1
section
theorem Jn(o:Own X)(I:Inv X pins σ H s){b:sK}(m:s.heap.get? b=y):Nu X H b:=by
 show⟨?_,?_,λp hp z=>?_⟩
 ·cases q:H b with
  |none=>rfl
  |some u=>
   obtain⟨v,e⟩:=(I.rh b u q).here;rw[m]at e;cases e
 ·cases q:X.s₀.heap.get? b with
  |none=>rfl
  |some u=>
   obtain⟨u',e⟩:=I.base.there b u q (by rw[o.ex];simp);rw[m]at e;cases e
 ·have:=(I.pin p<|bB _ hp).1;rw[z,m]at this;cases this
def Rr(C:sK)(EE:Ad)(t:TA):TS:=λ_ σ H=>t σ H λvs H1=>vs.length<=aK/\EE σ (.ref C) y H1
def U7(o:Own X)(hc:X.calm=sX)(q:IV X.K C)(hg:Gl X x)(hm:X.mg x=E (.ref C))(ha:PA (X.r0<|tV n X EE) (e::es) t)
  (oP:autoParam #[12] q9) (he:autoParam #[7] rJ) (oN:autoParam ((bY r9<|aM (e::es) X.env).any (·.1)=sJ) rJ):
  PS (X.r0<|tV n X EE) (.Raise (E<|.Call (.Name x np) (e::es) [] r9) y pos) (Rr C EE t):=by
 intro pins s σ H D I h;obtain⟨bm,N,nm,qn,bs,hdct,sn,sub,ab,col,dd,k0,k1,k2,k3,k5,hC,hN,oO,TL⟩:=FP q I.ok.mod.w5;show wpAny_Raise_call_subT (C:=C) (N:=N) (bm:=bm) (nm:=nm) (q:=qn) (bs:=bs) (hdct:=hdct) (sn:=sn) (sub:=sub) (ab:=ab) (col:=col) (dd:=dd) (k0:=k0) (k1:=k1) (k2:=k2) (k3:=k3) (k5:=k5) PySem.F.excBase_ValueError (TL.hasType PySem.F.excBase_ValueError.hasBase) (I.ok.hd hc) oN oO<|vQ I hg hm ⟨Y,?_⟩ oP;have oK:=ha r9 pins s σ H _ I h;rw[he]at oK;change wpAny #[3] X.A (evalArgs (.ref C) sX (bY r9<|aM (e::es) X.env) []) _ _ s;rw[he];show PySem.evalArgs_kw (keywords:=[]) rfl ?_;show sj oK λus s1 ⟨vs,H1,I1,r,z,sZ⟩=>?_;show ar ?_;show⟨Y,by rw[<-r.length];show z,I1.bk _ _ hC,hN.keeps I1.bk,TL.keeps I1.bk,λh' a mk=>?_⟩;obtain⟨t0,ea,_,_⟩:=mk.there;have I2:Inv X pins σ H1 {s1 with heap:=h'}:=I1.rS.kept (t':=s1.toks) mk.keeps;show⟨a,.ref C,y,σ,H1,Y,I2.wB,.inl ⟨_,_,.ref t0,ea,Y,Y,Y,Y,Y,λ_=>Y,Jn o I1.rS mk.new⟩,sZ⟩
noncomputable abbrev Cx.v7(X:Cx)(ps:List (sK×Obj)):Cx:={X with pn:=X.pn++ps}
noncomputable abbrev Cx.held(X:Cx)(a:sK)(ps:List (sK×Obj)):Cx:={X with A:=X.A.mark (E<|.ref a),calm:=sJ,xe:=λ_ _=>False,pn:=X.pn++ps}
def Cx.Ok.v7{ps:List (sK×Obj)}(ok:X.Ok):(X.v7 ps).Ok:=
 ⟨ok.mod,ok.kind,ok.glob,ok.blt,ok.above,ok.inj,ok.has,ok.A3,ok.hd,ok.frames,ok.Bx,ok.Dl,ok.bs,ok.wK,ok.wa,ok.wG,ok.sH,ok.wW,ok.wg,ok.hz⟩
def Cx.Ok.held{ps:List (sK×Obj)}(ok:X.Ok):(X.held a ps).Ok:=
 ⟨ok.mod,ok.kind,ok.glob,ok.blt,ok.above,ok.inj,ok.has,ok.A3,(λz=>by cases z),ok.frames,ok.Bx,ok.Dl,ok.bs,ok.wK,ok.wa,ok.wG,ok.sH,ok.wW,ok.wg,ok.hz⟩
def Own.v7{ps:List (sK×Obj)}(o:Own X):Own (X.v7 ps):=⟨o.ex,o.st,o.fr⟩
section
variable {ps:List (sK×Obj)}
def Inv.v7(I:Inv X pins σ H s):Inv (X.v7 pins) [] σ H s:=
 ⟨I.ok.v7,I.os,I.bare,I.base,I.loc,I.cell,I.free,I.rT,λp hp=>I.pin p (by simpa using hp),I.rh,I.len⟩
def Inv.tZ(ok:X.Ok)(I:Inv (X.v7 pins) qs σ H s):Inv X pins σ H s:=
 ⟨ok,I.os,I.bare,I.base,I.loc,I.cell,I.free,I.rT,λp hp=>I.pin p<|bB _ hp,I.rh,I.len⟩
theorem SP.tZ(ok:X.Ok){f:Flow}(h:SP (X.v7 pins) qs D f s'):SP X pins D f s':=by
 cases f with
 |next=>obtain⟨rq,H',I,q⟩:=h;show⟨rq,H',I.tZ ok,q⟩
 |brk=>obtain⟨rq,H',I,q⟩:=h;show⟨rq,H',I.tZ ok,q⟩
 |cont=>obtain⟨rq,H',I,q⟩:=h;show⟨rq,H',I.tZ ok,q⟩
 |ret u=>obtain⟨v,rq,H',I,r,q⟩:=h;show⟨v,rq,H',I.tZ ok,r,q⟩
def Inv.held(I:Inv (X.v7 pins) [] σ H s)(ok:X.Ok)(he:s.heap.get? a=E oe)(hn:H a=y)(hd:oe.data= .fields vs):Inv (X.held a<|pins++[(a,oe)]) [] σ H s:=by
 show⟨ok.held,I.os,I.bare,I.base,I.loc,I.cell,I.free,I.rT,λp hp=>?_,I.rh,I.len⟩;have oK:p∈X.pn++pins\/p=(a,oe):=by
  have:p∈(X.pn++(pins++[(a,oe)]))++[]:=hp;rw[df,<-bu]at this;rcases aZ.mp this with z|z
  ·show .inl z
  ·show .inr (ai.mp z)
 rcases oK with oK|rfl
 ·show I.pin p (bB _ oK)
 ·show⟨he,hn,λz=>?_,λz=>?_,λv z=>?_⟩
  ·obtain⟨m,⟨u,es,ep,e,d⟩,_⟩:=I.loc;have z':a=X.env.locals:=z;rw[z']at he;rw[show s.heap.get? X.env.locals=E u from e]at he;cases he;rw[d.1]at hd;cases hd
  ·obtain⟨_,u,hu,oO⟩:=I.sH.mem z;have oN:s.heap.get? a=E u:=hu;rw[he]at oN;cases oN;show oO vs hd
  ·have z':oe.data= .cell v:=z;rw[hd]at z';cases z'
def Inv.tH(ok:X.Ok)(I:Inv (X.held a<|pins++[(a,oe)]) qs σ H s):Inv X pins σ H s:=
 ⟨ok,I.os,I.bare,I.base,I.loc,I.cell,I.free,I.rT,λp hp=>I.pin p (by
  change p∈(X.pn++(pins++[(a,oe)]))++qs;rcases aZ.mp hp with z|z
  ·show bB _ (bB _ z)
  ·show bB _ (aN _ (bB _ z))),I.rh,I.len⟩
theorem SP.tH(ok:X.Ok){f:Flow}(h:SP (X.held a<|pins++[(a,oe)]) qs D f s'):SP X pins D f s':=by
 cases f with
 |next=>obtain⟨rq,H',I,q⟩:=h;show⟨rq,H',I.tH ok,q⟩
 |brk=>obtain⟨rq,H',I,q⟩:=h;show⟨rq,H',I.tH ok,q⟩
 |cont=>obtain⟨rq,H',I,q⟩:=h;show⟨rq,H',I.tH ok,q⟩
 |ret u=>obtain⟨v,rq,H',I,r,q⟩:=h;show⟨v,rq,H',I.tH ok,r,q⟩
end
structure Cr(K:ax)(C':sK):Prop where
 base:W.mroIn K C' (.type "BaseException")=E sX
theorem WZ{b:Bool}{Q:Bool->ag->Prop}(KX:K.In s.heap)(he:s.heap.get? a=E oe)(oK:oe.cls= .ref C)
  (hk:iO K (.ref C) (.ref C')=E b) (hb:Cr K C') (hq:Q b s):wpAny M A' (excMatches (.ref a)<|.ref C') Q sQ s:=by
 obtain⟨l1,l2,l3⟩:=W.kit_cls (M:=M) KX hk;have l4:=W.looks_mroIn (M:=M) KX hb.base;have kk:∀b o,s.heap.get? b=E o->s.heap.get? b=E o:=λ_ _ e=>e;unfold excMatches isInstance;show ae (ae<|l1 _ _ _ s kk ?_);show kF tc_notTuple ?_;simp only[cA,if_false];show ae<|ar ?_;simp only[mh,List.forIn_nil];unfold isExcClass;show ae (ae<|ae (ae<|l2 _ _ _ s kk ?_));simp only[if_true];show l4 _ _ _ s kk ?_;simp only[Bool.not_true,cA,if_false];show ar<|ar ?_;have lt:wpAny M A' (typeOf<|.ref a) (λv s'=>v=oe.cls/\s'=s) sQ s:=by
  unfold typeOf;show ae (mE he<|ar ⟨Y,Y⟩)
 show ae<|aR lt (λv s' z=>?_) λ_ _ x=>x;obtain⟨rfl,rfl⟩:=z;rw[oK];show ae<|ae (ae<|l3 _ _ _ s' kk ?_);cases b with
 |true=>show ar (ar<|ar hq)
 |false=>show ar (ar<|ar hq)
def Jm(K:ax)(C':sK)(ts:sK->sV->TS)(D:Ends):Ad:=λσ cls _ H=>∃C,cls= .ref C/\iO K (.ref C) (.ref C')=E sX/\∀a,H a=y->ts a cls D σ H
def Py(K:ax)(C':sK)(tb:Ad->TS)(ts:sK->sV->TS):TS:=λD σ H=>tb (Jm K C' ts D) D σ H
theorem Kj{tb:Ad->TS}{ts:sK->sV->TS}(o:Own X)(hb:Cr X.K C')(hg:Gl X sZ)(hm:X.mg sZ=E (.ref C'))
  (oO:∀(EE:Ad) (ps:List (sK×Obj)),sY ((X.v7 ps).r0<|XE (X.v7 ps) EE) body<|tb EE) (oN:∀(ps:List (sK×Obj)) (a:sK) (cls:sV),sY (X.held a ps) (Dp::oK)<|ts a cls)
  (oW:autoParam ((sZ==("__debug__":Str))=sJ) q9):PS X (.Try body [.ExceptHandler (E<|.Name sZ np) y (Dp::oK) hp] [] [] pos) (Py X.K C' tb ts):=by
 intro pins s σ H D I h;have ok:=I.ok;show wpAny_Try_except (aR (oO (Jm X.K C' ts D) pins [] s σ H D (I.v7.r0 _) h) (λf s1 hq=>?_) λe s1 hx=>?_)
 ·have oP:SP X pins D f s1:=(SP.rS hq).tZ ok;cases f with
  |next=>show fU oP
  |brk=>show oP
  |cont=>show oP
  |ret u=>show oP
 ·show L2.oG λ_ U=>?_;obtain⟨a,cls,dx,AI,H1,rfl,I1,F1,C,rfl,hk,q⟩:=hx;apply U;show FR (X:=X.v7 pins) o.v7 ok.frames I1 F1 λs2 I2 F2=>?_;show Ez (X:=X.v7 pins) (to:=y) o.v7 I2 F2 λs3 I3 F3=>?_;show wpAny_handleBy_cons (codeAny_handlers_test ?_) (by intro z;cases z);show L2.oG λ_ U=>?_;obtain⟨oe,vs,a0,T,oT,o7,he,hc,hx,hd,h0,h1,h2,nT,hT,pf,h3,hn,pe⟩:=id F3;apply U;have J3:=Inv.held I3 ok he hn.1 hd;show vQ J3 hg hm ?_ oW;show WZ (K:=X.K) I3.su he hc hk hb ?_;show codeAny_handlers_suite ?_;show Ez (X:=X.v7 pins) (to:=y) o.v7 I3 F3 λs4 I4 F4=>?_;show L2.oG λ_ U=>?_;obtain⟨oS,oZ,pB,T',o8,oR,oV,ph,pd,oY,pA,pz,pq,o9,pj,oX,pk,oQ,oU⟩:=id F4;apply U;have J4:=Inv.held I4 ok oV oQ.1 oY;show aR (oN (pins++[(a,oS)]) a (.ref C) [] s4 AI H1 D J4<|q a oQ.1) (λf s5 hq=>?_) λ_ _ z=>z.elim;show hq.tH ok
theorem Tw(hx:X.xe=λ_ _=>False)(oK:sY X body tb):PS X (.Try body (h₀::hs) [] [] pos) tb:=by
 intro pins s σ H D I h;show wpAny_Try_except (aR (oK pins s σ H D I h) (λf s1 hq=>?_) λe s1 z=>?_)
 ·cases f with
  |next=>show fU hq
  |brk=>show hq
  |cont=>show hq
  |ret u=>show hq
 ·rw[hx]at z;show z.elim
end
def Az:Passes (wj n P w) X E0:=λ_ _ _ _ _ _ _ h=>by
 obtain⟨_,_,_,_,_,_,_,_,_,_,_,_,_,_,_,_,_,_,_,_,_,_,_,_,_,_,_,_,_,_,z⟩:=h;show z.elim
structure Px(K:Frag)(D:sK):Prop where
 ga:findIn K (.ref D) "__getattribute__"=E (E<|.builtin "BaseException.__getattribute__")
 gh:findIn K (.ref D) "__getattr__"=E y
 cl:findIn K (.ref D) "__class__"=E (E<|.builtin "object.__class__")
 gt:specialIn K (.builtin "object.__class__") "__get__"=E (E<|.builtin "getset_descriptor.__get__")
 tk:takesIn K (.builtin "object.__class__")=E sX
 ob:mroIn K D (.type "object")=E sX
 bs:mroIn K D (.type "BaseException")=E sX
 is:(clsIn K D).isSome=sX
section
variable {K:Frag} {x D:sK} {od:Option Obj}
end
open PySem PySem.Spec PyProof.Rows
def Rq{t:sK}{x:sV}(hj:s.heap.IsTupleIter j t i)(ht:s.heap.IsTuple t rf)(hx:rf[i]? =E x)
  (q:∀h',h'.IsTupleIter j t (i+1)->i7 j s.heap h'->Q x {s with heap:=h'}):wpAny #[1] A (fm<|.ref j) Q sQ s:=by
 obtain⟨oj,ej,cj,dj⟩:=id hj;obtain⟨ot,et,_,nt,dt⟩:=ht;unfold fm;show ae<|iu (name:=bF "__next__") hj.typeIs fc (lO fc hj.typeIs kO ?_<|kB _);change wpAny _ _ (field (.ref j) 0 >>= _) _ _ s;show ae<|dN ej dj (x:=.ref t) Y ?_;change wpAny _ _ (if (aS t==bz)=sX then _ else _) _ _ s;rw[if_neg (show¬((aS t==bz)=sX)from aD)];change wpAny _ _ (field (.ref j) 1 >>= _) _ _ s;show ae<|dN ej dj (x:=.int i 0) Y ?_;change wpAny _ _ (iX (.ref t) >>= _) _ _ s;show ae<|eI et dt ?_;simp only[cf,hx];show ae (ir ej dj #[8]<|ar ⟨x,Y,ar (q _ ?_<|cu ..)⟩);show⟨_,b9 _ ej (iY<|ie dj _),(Obj.cls_mapFields ..).trans cj,by rw[ie dj];simp[ck]⟩
def MA{t:sK}(hh:A.handled=y)(hj:s.heap.IsTupleIter j t i)(ht:s.heap.IsTuple t rf)(hx:rf[i]? =y)
  (q:∀h' e,ou j s.heap h'->(∃o,h'.get? e=E o/\o.cls= .type "StopIteration")->sQ (.ref e) {s with heap:=h'}):wpAny #[1] A (fm<|.ref j) Q sQ s:=by
 obtain⟨oj,ej,cj,dj⟩:=id hj;obtain⟨ot,et,_,nt,dt⟩:=ht;unfold fm;show ae<|iu (name:=bF "__next__") hj.typeIs fc (lO fc hj.typeIs kO ?_<|kB _);change wpAny _ _ (field (.ref j) 0 >>= _) _ _ s;show ae<|dN ej dj (x:=.ref t) Y ?_;change wpAny _ _ (if (aS t==bz)=sX then _ else _) _ _ s;rw[if_neg (show¬((aS t==bz)=sX)from aD)];change wpAny _ _ (field (.ref j) 1 >>= _) _ _ s;show ae<|dN ej dj (x:=.int i 0) Y ?_;change wpAny _ _ (iX (.ref t) >>= _) _ _ s;show ae<|eI et dt ?_;simp only[cf,hx];show ae<|eN (ae<|ir ej dj #[8] ?_);change wpAny _ _ (newExc (.type "StopIteration") [] >>= _) _ _ _;show ae ?_;simp only[newExc,newTuple];show ae<|fh ?_ (by size_fits);show ae (m:=firstArgMember _ _)<|kF (a:=bz) (by first|rfl|(simp only[firstArgMember];rfl)) ?_;show fh ?_ (by size_fits);simp only[raiseNew];show ae<|wpAny_handled ?_;first|rw[show A.in1.handled=y from hh]|rw[hh]
 show ae (ar<|wpAny_throw ?_);show q _ _ (((cu ..).extBut.push _).push _) ⟨_,aF _ Y,Y⟩
def WI(hh:A.handled=y)(j t:sK)(oN:t≠j)(rf:Array sV):Draws prog w A j [j,t] rf.size (λi v=>rf[i]? =E v) (λi h=>h.IsTupleIter j t i/\h.IsTuple t rf) where
 live:=λ_ _ st=>let⟨o,ho,_⟩:=st.1;⟨o,ho⟩
 frame:=λ_ _ _ ⟨⟨o,e,r⟩,o2,e2,r2⟩ hk=>⟨⟨o,hk j #[8] o e,r⟩,o2,hk t #[8] o2 e2,r2⟩
 item:=λi s Q sQ hi st q=>by
  show Rq st.1 st.2 (x:=rf[i]) (by simp[hi]) λh' oO oK=>q _ h' s.toks (by simp[hi]) ⟨oO,?_⟩ oK;obtain⟨o2,e2,r2⟩:=st.2;show⟨o2,(oK.2 t oN).trans e2,r2⟩
 done:=λs Q sQ st q=>MA hh st.1 st.2 #[8] q
set_option maxHeartbeats 8000000 in
theorem WH(l:sK)(rf:Array sV)(n:Nat)(oN:Option sK)(sl:Array (Option sV)):
  Meets (fP.«enumerate.__new__» ⟨[.type "enumerate",.ref l],[]⟩) (λ_ R s=>s.heap.get? l=E {cls:=.type "tuple",dict:=oN,data:=.seq rf n,slots:=sl}/\
   R (.ok (.ret<|.ref (s.heap.push {cls:=.type "tuple_iterator",data:=.fields #[.ref l,.int 0 0]}).objs.size))
    {s with heap:=(s.heap.push {cls:=.type "tuple_iterator",data:=.fields #[.ref l,.int 0 0]}).push {cls:=.type "enumerate",data:=.fields #[.none,.bool sJ,.ref s.heap.objs.size,ck 0,.none,.none]}}):=
 .of_wp λprog w A R s h=>by
  obtain⟨hp,g,d,tk,os⟩:=s;obtain⟨el,h⟩:=h;have oK:=sub_enumerate;have hL:Heap.IsTuple (Shared.heap ⟨hp,g,d,tk,os⟩) l rf:=⟨_,el,Y,n,Y⟩
  wp_walk using ig el
  show wpAny_stack_any λst=>ar ?_
  split
  ·rename_i c _ _ _ _ _;cases (c==cL "enumerate")<;> (wp_walk using ig el,kL hL;show⟨_,Y,h⟩)
  ·wp_walk using ig el,kL hL;show⟨_,Y,h⟩
def WY(hL:s.heap.IsTuple l rf)
  (q:∀h',lP h' (s.heap.objs.size+1) s.heap.objs.size 0 .none->h'.IsTupleIter s.heap.objs.size l 0->(∀b o,s.heap.get? b=E o->h'.get? b=E o)->Q (.ref<|s.heap.objs.size+1) {s with heap:=h'}):
  wpAny #[1] A (call (.type "enumerate") [.ref l]) Q sQ s:=by
 obtain⟨⟨c,oK,dt,sl⟩,el,hc,n,hd⟩:=hL;cases (show c= .type "tuple" from hc);cases (show dt= .seq rf n from hd);show callType_new F.called_enumerate #[6] (F.typeCall_enumerate_1 _) (F.newCall_enumerate_1 _) (λobj=>F.args_object_init_2 obj _) mK (WH l rf n oK sl) ⟨el,?_⟩;generalize hO:({cls:=.type "tuple_iterator",data:=.fields #[.ref l,.int 0 0]}:Obj)=oi;have hz:(s.heap.push oi).objs.size=s.heap.objs.size+1:=cT ..;have f0:oi.isFreed=sJ:=by rw[<-hO];rfl
 change _/\_;rw[hz];have he:lP ((s.heap.push oi).push {cls:=.type "enumerate",data:=.fields #[.none,.bool sJ,.ref s.heap.objs.size,ck 0,.none,.none]}) (s.heap.objs.size+1) s.heap.objs.size 0 .none:=by
  have e:=aF (s.heap.push oi) (o:={cls:=.type "enumerate",data:=.fields #[.none,.bool sJ,.ref s.heap.objs.size,ck 0,.none,.none]}) rfl;rw[hz]at e;show e
 show⟨⟨_,he,Y⟩,q _ he ⟨oi,af _<|aF _ f0,by rw[<-hO],by rw[<-hO];rfl⟩ λb o x=>af _<|af _ x⟩
def Tv{e t:sK}{k:Int}{Q:Option sV->ag->Prop}(hh:A.handled=y)(he:lP s.heap e j k old)(hj:s.heap.IsTupleIter j t i)(ht:s.heap.IsTuple t rf)(hx:rf[i]? =y)
  (q:∀h',ou j s.heap h'->Q y {s with heap:=h'}):wpAny #[1] A (i9<|.ref e) Q sQ s:=by
 have hT:s.TypeIs (.ref e) "enumerate":=⟨_,he,Y⟩;unfold i9;show ae (nG<|iu (name:=bF "__next__") hT mL (lO mL hT F.entry_enumerate_next ?_<|F.args_enumerate_next_1 _));change wpAny _ _ (field (.ref e) 2 >>= _) _ _ _;show ae<|dN he Y (x:=.ref j) Y ?_;show ae<|MA hh hj ht hx λh' x eb ⟨o,ho,hc⟩=>?_;show ae<|wpAny_isInstance (T:="StopIteration") (b:=sX) ⟨o,ho,hc⟩ isSubtype_stop ?_;show ar (q _ eb)
def E8(K:ax)(a:sK):It:=
 ⟨λi H=>sE λxs x=>rM K H a xs/\xs[i]? =E x,λi H v H'=>sE λT x=>v= .ref T/\H T=y/\H'=upd H T (.tup [.int i,x])/\∀xs,rM K H a xs->xs[i]? =E x,λi H=>∃xs,rM K H a xs/\xs.length<=i⟩
def WX{k:Nat}(a e it:sK)(oO:e≠it):Turn P w K (.Tuple es k pos) (E8 K a) [e,it] e (λi h=>(∃old,lP h e it (i:Nat) old)/\h.IsTupleIter it a i) where
 mem:=by simp
 obj:=λi h st b hb=>by
  show L2.oG λ_ U=>?_;obtain⟨⟨old,he⟩,⟨o,e1,c,d⟩⟩:=st;apply U;rcases aB.mp hb with z|z
  ·subst z;show⟨_,he,λv z=>by cases z⟩
  ·rw[ai.mp z];show⟨o,e1,λv z=>by rw[d]at z;cases z⟩
 keep:=λi h h' st kk=>by
  show L2.oG λ_ U=>?_;obtain⟨⟨old,he⟩,⟨o,e1,r⟩⟩:=st;apply U;show⟨⟨old,kk e #[8] _ he⟩,⟨o,kk it #[8] o e1,r⟩⟩
 item:=by
  intro X hP hw hK hc i pins s σ H sQ I hf st hg;subst hP hw hK;show L2.oG λ_ U=>?_;obtain⟨xs,x,hq,hx⟩:=hg;obtain⟨rf,rv,p,hz⟩:=I.tuple hq;obtain⟨u,hu,ru⟩:=rv.get hx;obtain⟨⟨old,he⟩,hit⟩:=st;apply U;have oP:=aq he;have oQ:it<s.heap.objs.size:=by obtain⟨o,q,_⟩:=hit;show aq q
  have p':s.heap.IsTuple a rf.toArray:=p;have oV:a≠it:=λz=>by
   show L2.oG λ_ U=>?_;obtain⟨o,e1,c,d⟩:=hit;obtain⟨o2,e2,c2,_⟩:=p';apply U;rw[z,e1]at e2;cases e2;rw[c]at c2;injection c2 with c2;show absurd c2 #[6]
  have oW:e≠a:=λz=>by
   show L2.oG λ_ U=>?_;obtain⟨o2,e2,c2,_⟩:=p';apply U;have oK:s.heap.get? e=_:=he;rw[z,e2]at oK;cases oK;injection c2 with c2;show absurd c2 #[6]
  have oR:i<rf.toArray.size:=by simpa using(aE.mp hu).1
  show lZ (WI (A:=X.A.in1) (I.ok.hd hc) it a oV rf.toArray) he ⟨hit,p'⟩ oR oO (by simp[oO,oW]) λx2 h' tk px oS rn hT hsz hk=>?_;have ex:x2=u:=by
   have:rf.toArray[i]? =E u:=by simpa using hu
   rw[this]at px;cases px;rfl
  subst ex;show⟨_,Y,kZ (s:={s with heap:=h',toks:=tk+1}) oS λh2 oK oN=>?_⟩;have oX:h2.get? s.heap.objs.size=E {cls:=.type "tuple",data:=.seq #[.int i tk,x2]}:=(oN.2 _<|eP oP).trans hT;have I2:Inv X pins σ (upd H s.heap.objs.size<|.tup [.int i,x]) {s with heap:=h2,toks:=tk+1}:=by
   show I.wm (ch:=[e,it]) (λb o hb q=>?_) (ah _) ⟨by simp[ak],[.int i tk,x2],.cons ⟨_,Y⟩<|.cons ru .nil,⟨_,oX,Y,_,Y⟩⟩ (λb hb=>(hf b hb).1) (λb hb=>?_) λb hb=>?_
   ·have b1:b≠e:=λz=>hb (by simp[z]);have b2:b≠it:=λz=>hb (by simp[z]);show(oN.2 b b1).trans (hk b o b1 b2 q)
   ·rcases aB.mp hb with z|z
    ·rw[z];show oP
    ·rw[ai.mp z];show oQ
   ·show L2.oG λ_ U=>?_;obtain⟨f0,f1,f2,f3,f4,f5⟩:=hf b hb;apply U;show⟨f3,f1,f4,f5⟩
  show⟨.ref s.heap.objs.size,_,I2,Y,⟨_,x,Y,I.rh.fresh<|ah _,Y,λys hy=>by rw[I.t8 hy hq];show hx⟩,⟨⟨x2,by simpa using oK⟩,?_⟩,λb hb=>?_⟩
  ·show L2.oG λ_ U=>?_;obtain⟨⟨o,e1,r⟩,_⟩:=rn;apply U;show⟨o,(oN.2 it<|aW oO).trans e1,r⟩
  have oU:b≠s.heap.objs.size:=by
   rcases aB.mp hb with z|z
   ·rw[z];show aC oP
   ·rw[ai.mp z];show aC oQ
  rw[xl oU];show(hf b hb).1
 done:=by
  intro X hP hw hK hc i pins s σ H sQ I hf st hg;subst hP hw hK;show L2.oG λ_ U=>?_;obtain⟨xs,hq,hx⟩:=hg;obtain⟨rf,rv,p,hz⟩:=I.tuple hq;obtain⟨⟨old,he⟩,hit⟩:=st;obtain⟨f0,f1,f2,f3,f4,f5⟩:=hf it #[8];apply U;have hl:=rv.length;show Tv (I.ok.hd hc) he hit p (by simp;lia) λh' eb=>⟨Y,I.turned (t':=s.toks) (λb o hb e=>eb b o hb e) f0 f1 f3 f4 f5⟩
 self:=λ_ _ _ _ _ st h=>by
  show L2.oG λ_ U=>?_;obtain⟨⟨old,he⟩,_⟩:=st;apply U;show gk he h
section
variable {k:Nat} {tp:Pos}
def Ro(K:ax)(ta:TA):TI:=λσ H R=>ta σ H λvs H1=>∃a,vs=[.ref a]/\(∃xs,rM K H1 a xs)/\R (E8 K a) H1
def U6{l:Expr}{ta:TA}(hg:Gl X "enumerate")(hm:X.mg "enumerate"=y)(ha:PA X [l] ta)(hs:autoParam (aM [l] X.env=[(sJ,eval l X.env)]) rJ):PI X (.Tuple es k tp) (.Call (.Name "enumerate" p) [l] [] pos) (Ro X.K ta):=by
 intro pins s σ H R I h;show Call_ (zJ I hg hm Hu<|bW (zS #[16] λus s1 vs H1 I1 r1 q1=>?_) hs Y);obtain⟨a,e,⟨xs,hq⟩,q⟩:=q1;subst e;obtain⟨u,rfl,ru⟩:=Vals.one r1;cases ru;obtain⟨rf,rv,pl,hz⟩:=I1.tuple hq;show WY (show s1.heap.IsTuple a rf.toArray from pl) λh' he hi hk=>gk (s:={s1 with heap:=h'}) he ?_;show⟨s1.heap.objs.size+1,[s1.heap.objs.size+1,s1.heap.objs.size],_,_,H1,Y,I1.kept (t':=s1.toks) hk,WX a _ _<|lQ _,⟨⟨.none,by simpa using he⟩,hi⟩,λb hb=>?_,q⟩;rcases aB.mp hb with z|z
 ·rw[z];show I1.tQ (cU _) (I1.rh.fresh<|cU _)
 ·rw[ai.mp z];show I1.tQ (ah _) (I1.rh.fresh<|ah _)
def Yg{g:TG}(Pv:Nat->St->Hp->Prop)(h0:Pv 0 σ H)(hl:∀i σ H,i<=xs.length->Pv i σ H->rM K H l xs)
  (hs:∀i x σ H T,xs[i]? =E x->Pv i σ H->H T=y->g (.ref T) σ (upd H T<|.tup [.int i,x]) λtN H2=>tb {D with nx:=Pv<|i+1,ct:=Pv<|i+1,bk:=D.nx} tN H2) (hd:∀σ H,Pv xs.length σ H->D.nx σ H):uo (E8 K l) g tb D σ H:=by
 unfold uo;show⟨λi m σ H=>m=xs.length - i/\i<=xs.length/\Pv i σ H,⟨xs.length,by simp,aX _,h0⟩,?_⟩;rintro i m σ H ⟨rfl,hi,p⟩;have hq:=hl i σ H hi p
 by_cases oK:i<xs.length
 ·have hx:xs[i]? =E xs[i]:=au oK;show .inr ⟨⟨xs,xs[i],hq,hx⟩,Pv<|i+1,λrq H' p'=>⟨xs.length - (i+1),by lia,Y,oK,p'⟩,λv H' sZ=>?_⟩;obtain⟨T,x,rfl,hT,rfl,oN⟩:=sZ;have:=oN xs hq;show hs i x σ H T this p hT
 ·have e:i=xs.length:=by lia
  subst e;show .inl ⟨⟨xs,hq,ah _⟩,hd σ H p⟩
def NN{g:TG}(Pv:Nat->St->Hp->Prop)(h0:Pv 0 σ H)(hl:∀i σ H,i<=xs.length->Pv i σ H->kq K H l xs)
  (hs:∀i x σ H T,xs[i]? =E x->Pv i σ H->H T=y->g (.ref T) σ (upd H T<|.tup [.int i,x]) λtN H2=>tb {D with nx:=Pv<|i+1,ct:=Pv<|i+1,bk:=D.nx} tN H2) (hd:∀σ H,Pv xs.length σ H->D.nx σ H):uo (Ck K l) g tb D σ H:=by
 unfold uo;show⟨λi m σ H=>m=xs.length - i/\i<=xs.length/\Pv i σ H,⟨xs.length,by simp,aX _,h0⟩,?_⟩;rintro i m σ H ⟨rfl,hi,p⟩;have hq:=hl i σ H hi p
 by_cases oK:i<xs.length
 ·have hx:xs[i]? =E xs[i]:=au oK;show .inr ⟨⟨xs,xs[i],hq,hx⟩,Pv<|i+1,λrq H' p'=>⟨xs.length - (i+1),by lia,Y,oK,p'⟩,λv H' sZ=>?_⟩;obtain⟨T,x,rfl,hT,rfl,oN⟩:=sZ;have:=oN xs hq;show hs i x σ H T this p hT
 ·have e:i=xs.length:=by lia
  subst e;show .inl ⟨⟨xs,hq,ah _⟩,hd σ H p⟩
end
open PySem PySem.Spec PyProof.Rows
noncomputable def GD:List sV->List sV
 | .ref _::r=>GD r
 |l=>l
structure Ba(K:ax)(C f:sK):Prop where
 xi:FG K C (E<|.ref f)=sX
 fn:W.isFn K (.ref f)=sX
 hd:kE K C=sX
 mr:(W.clsIn K C).any (λcd=>GD cd.mro==Cs)=sX
 ob:W.mroIn K C (.type "object")=E sX
 sa:fB K (.ref C) "__setattr__"=E (E<|.builtin "object.__setattr__")
theorem NU(self:sV)(oK:Str):∀l:List sV,refuseLoop self oK l=refuseLoop self oK (GD l)
 |[]=>rfl
 |v::r=>by
  cases v with
  |ref C=>rw[refuseLoop_ref];show NU self oK r
  |_=>rfl
section
variable {x:sK} {name:Str} {v:sV}
def Tu{R:gT->ag->Prop}(X:K.In s.heap)(I:W.InstAt s.heap x ox C od)(F:Ba K C f)(n:xY K C name)
  (h:∀b,wpAny #[1] A.in1 (Builtin.ObjectAttr.storeInOwnDict (.ref x) (.ref C) (.str name tk) name v b) (λfin s'=>match fin with| .done f=>R (.ok f) s'| .again c'=>c'.quiet=sX/\cS #[1] A c' R s') (λe s'=>R (.error e) s') s):
  cS #[1] A (.call (.builtin "object.__setattr__") ⟨[.ref x,.str name tk,v],[]⟩) R s:=by
 have SF:=PySem.F.store_object;obtain⟨cd,hc,oK⟩:=W.any_some F.mr;have sub:W.Looks #[1] s.heap (isInstance (.ref x)<|.type "object") sX:=I.type.andThen<|W.looks_mroIn X F.ob;show ka SF.slot.plain SF.entry<|@W.check_slot #[1] _ _ s "object.__setattr__" "object" "__setattr__" (.ref x) [.str name tk,v] [] _ SF.kind SF.split sub (SF.args (.ref x) (.str name tk) v) ?_;have hm:W.Looks #[1] s.heap (mroOf<|.ref C) cd.mro:=(nz X hc).andThen .now;have L3:W.Looks #[1] s.heap (Builtin.ObjectAttr.storeTaker? y) y:=.now;rw[W.osa_eq,refuse_eq];show ae (ae<|I.type.here (ae<|hm.here ?_));rw[NU,beq_iff_eq.mp oK,show refuseLoop (aS x) "__setattr__" Cs=pure ()from PySem.F.store_ValueError.passes _];show ar (ae<|I.type.here (ae<|(W.looks_findIn X n).here (ae<|L3.here ?_)));show h _
def Ts{Q:Unit->ag->Prop}(X:K.In s.heap)(I:W.InstAt s.heap x ox C y)(oV:ox.dict=y)(oN:ox.data= .fields vs)(F:Ba K C f)(n:xY K C name)
  (h:∀h' t',h'.Ns1 s.heap.objs.size (λsZ=>if sZ=name then E v else y)->h'.get? x=E {ox with dict:=E s.heap.objs.size}->(∀b o,b≠x->s.heap.get? b=E o->h'.get? b=E o)->Q () {s with heap:=h',toks:=t'}):
  wpAny #[1] A (setAttr (.ref x) name v) Q sQ s:=by
 show W.set_plain X I F.sa<|Tu (s:={s with toks:=s.toks+1}) X I F n λb=>?_;show L2.oG λ_ U=>?_;obtain⟨cd,hc,oX⟩:=W.any_some F.hd;apply U;have hx:=I.at_;show L2.oG λ_ U=>?_;obtain⟨c0,d0,o9,oQ⟩:=ox;apply U;cases oV;cases oN;cases I.cls;show ae (ar<|ae (ae<|mE hx (ae<|W.Looks.here (s:={s with toks:=s.toks+1}) (nz X hc) ?_)));rw[oX];have oK:(s.heap.push {cls:=.type "dict",data:=.dict #[]}).get? x=E ⟨.ref C,y,.fields vs,oQ⟩:=af _ hx;have oO:x≠s.heap.objs.size:=aC<|aq hx;show ae<|wpAny_alloc' ?_;show ae<|wpAny_update' oK ?_;show ar ?_;have oU:((s.heap.push {cls:=.type "dict",data:=.dict #[]}).update x λo=>{cls:=o.cls,dict:=E s.heap.objs.size,data:=o.data,slots:=o.slots}).get? s.heap.objs.size
   =E {cls:=.type "dict",data:=.dict #[]}:=
  (nJ _ _ _ _ oO.symm).trans (Heap.get?_push_at Y Y)
 have oS:((s.heap.push {cls:=.type "dict",data:=.dict #[]}).update x λo=>{cls:=o.cls,dict:=E s.heap.objs.size,data:=o.data,slots:=o.slots}).Ns s.heap.objs.size (λ_=>y):=
  ⟨_,#[],_,oU,Y,λe he=>absurd he #[8],λ_=>Y⟩
 change wpAny _ _ (kb s.heap.objs.size (.str name _) name v) _ _ _;unfold kb Builtin.ObjectAttr.newKeyGuard;show ae<|ar (ae<|wpAny_nsSet1 (n9 oS) λh' oP hs=>?_);show L2.oG λ_ U=>?_;obtain⟨oD,o7,o8,oR,oW,oY⟩:=oP.count<|Within.cons name v Within.nil;apply U;show ae<|wpAny_lookBehind oR (by rw[oW];show pastItsLine_dict<|aQ oY (by rw[aT,cW,ak];lia)) ?_;show ar<|h h' _ oP ((hs.2 x oO).trans<|b9 _ oK Y) λb ob oZ hb=>?_;show(hs.2 b (aC<|aq hb)).trans ((nJ _ _ _ _ oZ).trans<|af _ hb)
end
def HO.exc(a C:sK)(dx:Option sK):HO:=.ext λh=>∃o t,h.get? a=E o/\o.cls= .ref C/\o.dict=dx/\o.data= .fields #[.ref t,.none,.none,.none,.bool sJ,.none]
noncomputable def rem(H:Hp)(a:sK):Hp:=λb=>if b=a then y else H b
section
variable {sZ:V} {u:sV}
def Mz{h1 h2:Heap}(q:∃o t,h1.get? a=E o/\o.cls= .ref C/\o.dict=dx/\o.data= .fields #[.ref t,.none,.none,.none,.bool sJ,.none])(k:∀o,h1.get? a=E o->h2.get? a=E o):
  ∃o t,h2.get? a=E o/\o.cls= .ref C/\o.dict=dx/\o.data= .fields #[.ref t,.none,.none,.none,.bool sJ,.none]:=by
 obtain⟨o,t,e,r⟩:=q;show⟨o,t,k o e,r⟩
def WG{Q:Unit->ag->Prop}(I:Inv X pins σ H s)(e:H a=E (HO.exc a C y))(F:Ba X.K C f)(n:xY X.K C fl)(ry:RelV sZ u)
  (h:∀d s',H d=y->d≠a->Inv X pins σ (upd (upd H d<|.xd [(fl,sZ)]) a (HO.exc a C<|E d)) s'->Q () s'):wpAny #[3] A (setAttr (.ref a) fl u) Q sQ s:=by
 obtain⟨⟨o,t,ea,hc,hd,oK⟩,_⟩:=I.rh a _ e;have J:W.InstAt s.heap a o C y:=⟨ea,hc,by obtain⟨c1,d1,dt,sl⟩:=o;cases oK;rfl,by rw[hd];trivial⟩;show Ts I.su J hd oK F n λh' t' hn hx kp=>?_;have oN:H s.heap.objs.size=y:=I.rh.fresh<|ah _;have oQ:s.heap.objs.size≠a:=λz=>by rw[z,e]at oN;cases oN
 have nA:∀b,H b=y->b≠a:=λb n z=>by rw[z,e]at n;cases n
 have oO:∀b,b≠a->b≠s.heap.objs.size->upd (upd H s.heap.objs.size<|.xd [(fl,sZ)]) a (HO.exc a C<|E s.heap.objs.size) b=H b:=λb h1 h2=>by rw[xl h1,xl h2]
 have own:∀b u,H b=E u->u≠HO.exc a C y->upd (upd H s.heap.objs.size<|.xd [(fl,sZ)]) a (HO.exc a C<|E s.heap.objs.size) b=E u:=λb u q nu=>by
  rw[oO b (λz=>by rw[z,e]at q;show nu (bI q).symm)<|xH q oN];show q
 show h s.heap.objs.size _ oN oQ (I.un ⟨λb o q n _ _=>kp b o (nA b n) q,λb o q n _ _=>⟨o.slots,kp b o (nA b n) q⟩,λb o q n _=>?_,λb o q _=>?_,λb u q f=>own b u q (by rintro rfl;show f)⟩ λb u q=>?_)
 ·rw[oO b (nA b n) (aC<|aq q)];show n
 ·by_cases hb:b=a
  ·subst hb;show⟨_,hx⟩
  ·show⟨o,kp b o hb q⟩
 ·by_cases hb:b=a
  ·subst hb;rw[xk]at q;cases q;show⟨⟨_,t,hx,hc,Y,oK⟩,⟨_,hx⟩,λh1 h2=>Mz⟩
  ·rw[xl hb]at q
   by_cases oP:b=s.heap.objs.size
   ·subst oP;rw[xk]at q;cases q;show⟨_,hn,λg=>?_⟩;change ja (gd g [(fl,sZ)]) (if g=fl then E u else y);rw[cE]
    by_cases q:g=fl
    ·subst q;simp;show ry
    ·rw[beq_false_of_ne q,if_neg q];show cm
   ·rw[xl oP]at q;show(I.rh b u q).tu (λc v hc q'=>kp c v ?_ q') (λc q'=>own _ _ q' (λz=>by cases z)) λc u' q' hf=>own _ _ q' (by rintro rfl;show hf);rcases hc with rfl|hc
    ·show hb
    ·intro z;rw[z,e]at hc;cases hc
def Inv.forget(I:Inv X pins σ H s){φ:Heap->Prop}(e:H a=E (.ext φ)):Inv X pins σ (rem H a) s:=by
 have rp:∀b,H b=y->rem H a b=y:=λb n=>by unfold rem;split<;> first|rfl|show n
 have kp:∀b u,H b=E u->(∀φ,u≠.ext φ)->rem H a b=E u:=λb u q n=>by
  unfold rem;rw[if_neg]
  ·show q
  ·intro z;rw[z,e]at q;show n φ (bI q).symm
 show⟨I.ok,I.os,I.bare,⟨I.base.keep,I.base.slot,λb o q n x=>rp b<|I.base.free b o q n x,I.base.there,λb u q f=>kp b u (I.base.fix b u q f) (by rintro φ rfl;show f)⟩,I.loc,I.cell,rp _ I.free,λx c q=>?_,λp hp=>?_,λb u q=>?_,I.len⟩
 ·rcases I.rT x c q with z|⟨z1,o,z2,z3⟩
  ·show .inl (rp c z)
  ·show .inr ⟨z1,o,kp c _ z2 (λφ z=>by cases z),z3⟩
 ·obtain⟨e1,n,r⟩:=I.pin p hp;show⟨e1,rp _ n,r⟩
 ·have q':H b=E u:=by
   unfold rem at q
   split at q
   ·cases q
   ·show q
  show(I.rh b u q').tu (λ_ _ _ z=>z) (λc z=>kp c _ z (λφ z=>by cases z)) λc u' z hf=>kp c _ z (by rintro φ rfl;show hf)
end
def Qm(K:ax)(ta tv:TE)(f:Str):TS:=λD σ H=>tv σ H λsZ H1=>ta σ H1 λx H2=>tK λa C g=>x= .ref a/\H2 a=E (HO.exc a C y)/\Ba K C g/\xY K C f/\
 ∀d,H2 d=y->d≠a->D.nx σ (upd (upd H2 d<|.xd [(f,sZ)]) a (HO.exc a C<|E d))
def Tr{f:Str}(ha:PE X o ta)(hv:PE X value tv)(hs:iU value (E<|.Attribute o f pos') pos.line X.env=pure sJ):PS X (.Assign [.Attribute o f pos'] value pos) (Qm X.K ta tv f):=by
 intro pins s σ H D I h;show i5 (xQ (hv pins s σ H _ I h) λu s1 sZ H1 I1 ry q=>xQ (ha pins s1 σ H1 _ I1 q) λov s2 x H2 I2 rx ⟨a,C,g,ex,ea,F,n,q2⟩=>?_) hs;subst ex;obtain rfl:ov=aS a:=rx;show WG I2 ea F n ry λd s3 n1 n2 I3=>⟨σ,_,I3,q2 d n1 n2⟩
def Md(C:sK)(f:Str):Sp:=λvs H Q _=>∃a v,vs=[.ref a,v]/\H a=E (HO.exc a C y)/\∀d,H d=y->d≠a->Q .rp (upd (upd H d<|.xd [(f,v)]) a (HO.exc a C<|E d))
section
variable {g:Array GenState} {d:Drawn} {t:Nat} {os:OsState}
variable {nm:Str} {N:sK} {bs ER:List sV} {sub:List sV} {B Aa:String}
def Zy(F:ExcBaseFacts B newId Aa ER)(T:OwnTail h ER bm){mN:Str->Option sV}{rest:List sV}{fI:sK}{oI:Obj}{Q:Fin->ag->Prop}
  (hC:h.get? C=E (iC nm q C N bs bm hdct sn sub ab col dd k0 k1 k2 k3 k5 newId)) (hn:h.Ns N mN) (hi:mN "__init__"=E (.ref fI))
  (oR:h.get? fI=E oI) (oQ:oI.cls= .type "function")
  (hq:∀h' e,Heap.MadeExcOf h h' e (.ref C) rest->h.objs.size<=e->
   wpAny #[1] A (call (.ref fI) (.ref e::rest)) (λr s'=>r= .none/\Q (.done (.ret (.ref e))) s') sQ ⟨h',g,d,t,os⟩) (hrest:autoParam (rest.length<=aK) rD):
  wpAny #[1] A (fP.«type.__call__» ⟨.ref C::rest,[]⟩) Q sQ ⟨h,g,d,t,os⟩:=by
 repeat (first|with_reducible show gm hC ?_|with_reducible show wpAny_madeBy_exc hC ?_|wp_step)
 show codeAny_call_builtin_code (ic _ F.quiet)<|wpAny_check_new_subT F T hC ?_;show codeAny_exc_new_subT F T hC ?_ hrest;change wpAny _ _ _ _ _ _;have oK:=af {cls:=.ref C,data:=.fields #[.ref h.objs.size,.none,.none,.none,.bool sJ,.none]}
  (af {cls:=.type "tuple",data:=.seq rest.toArray} hC)
 have oN:=af {cls:=.ref C,data:=.fields #[.ref h.objs.size,.none,.none,.none,.bool sJ,.none]}
  (af {cls:=.type "tuple",data:=.seq rest.toArray} oR)
 have oO:((h.push {cls:=.type "tuple",data:=.seq rest.toArray}).push {cls:=.ref C,data:=.fields #[.ref h.objs.size,.none,.none,.none,.bool sJ,.none]}).Ns N mN:=
  let⟨o,es,ep,e,r⟩:=hn;⟨o,es,ep,af _<|af _ e,r⟩
 have oP:((h.push {cls:=.type "tuple",data:=.seq rest.toArray}).push
   {cls:=.ref C,data:=.fields #[.ref h.objs.size,.none,.none,.none,.bool sJ,.none]}).get? (h.objs.size+1)=E
   {cls:=.ref C,data:=.fields #[.ref h.objs.size,.none,.none,.none,.bool sJ,.none]}:=by heap_get
 have oS:(aS C::bm).contains (.ref C)=sX:=by simp
 have Iw:=T.keeps (h':=(h.push {cls:=.type "tuple",data:=.seq rest.toArray}).push {cls:=.ref C,data:=.fields #[.ref h.objs.size,.none,.none,.none,.bool sJ,.none]})
  λb o e=>af _ (af _ e)
 unfold isInstance
 repeat (first|with_reducible show gm oP ?_|(with_reducible show wpAny_isSubtype_exc oK ?_;rw[oS])|wp_step)
 change wpAny _ _ (iq (.ref C) _) _ _ _;show wpAny_typeLookup_tail oK oO Iw F.mroIs F.init.lookup ?_;rw[hi];show bO<|ae ?_;unfold bindSpecial;show ae<|j5 (T:="function") ⟨_,oN,oQ⟩ ?_;rw[if_pos #[6]];show ar (ae<|aR (hq _ (h.objs.size+1) ⟨λb o hb=>af _<|af _ hb,gy<|cU _,h.objs.size,oP,gy<|ah _,?_⟩<|cU _) (λr s' hr=>?_) λ_ _ x=>x)
 ·show af _ (Heap.get?_push_at Y Y)
 ·obtain⟨rfl,hQ⟩:=hr
  wp_walk
  show hQ
def U5(F:ExcBaseFacts B newId Aa ER)(T:OwnTail h ER bm){mN:Str->Option sV}{rest:List sV}{fI:sK}{oI:Obj}
  (hC:h.get? C=E (iC nm q C N bs bm hdct sn sub ab col dd k0 k1 k2 k3 k5 newId)) (hn:h.Ns N mN) (hi:mN "__init__"=E (.ref fI))
  (oN:h.get? fI=E oI) (oK:oI.cls= .type "function")
  (hq:∀h' e,Heap.MadeExcOf h h' e (.ref C) rest->h.objs.size<=e->
   wpAny #[1] (A.under (.builtin "type.__call__" ⟨.ref C::rest,[]⟩)) (call (.ref fI) (.ref e::rest)) (λr s'=>r= .none/\Q (.ref e) s') sQ ⟨h',g,d,t,os⟩) (hrest:autoParam (rest.length<=aK) rD):
  wpAny #[1] A (call (.ref C) rest) Q sQ ⟨h,g,d,t,os⟩:=by
 have f1:=tc_lookup;have f2:=tc_bind<|.ref C;have hT:(⟨h,g,d,t,os⟩:ag).TypeIs (.ref C) "type":=⟨_,hC,Y⟩;show fV<|codeAny_of_tree ?_;change wpAny _ _ (callAny (.ref C) _) _ _ _
 repeat (any_goals (first|assumption|with_reducible show gm hC ?_|wp_step))
 show⟨Y,?_⟩;show codeAny_call_builtin_at (ic _ #[18]) entry_typeCall (wpAny_check_type_call_sub hC<|Zy (hrest:=hrest) F T hC hn hi oN oK λh' e hm hl=>?_);show hq h' e hm hl
end
section
variable {env:Env}
variable {nm:Str} {N:sK} {bs:List sV} {sub:List sV}
def M6{x:Sem sV}{Q:Flow->ag->Prop}(oK:bm.contains (.type "BaseException")=sX)(hh:A.handled=y)
  (h:wpAny M A x (λv rj=>∃e t od sl,v= .ref e/\rj.heap.get? C=E (iC nm q C N bs bm hdct sn sub ab col dd k0 k1 k2 k3 k5 newId)/\
   rj.heap.get? e=E {cls:=.ref C,dict:=od,data:=.fields #[.ref t,.none,.none,.none,.bool sJ,.none],slots:=sl}/\sQ (.ref e) rj) sQ s):
  wpAny M A (raiseStmt env (E x) y) Q sQ s:=by
 have oN:(aS C::bm).contains (.type "BaseException")=sX:=by rw[List.contains_cons,oK,Bool.or_true]
 unfold raiseStmt;show ae<|aR h (λv rj r6=>?_) λ_ _ x=>x;show L2.oG λ_ U=>?_;obtain⟨e,t,od,sl,rfl,hC,he,hE⟩:=r6;obtain⟨hp,g,d,tk,os⟩:=rj;apply U
 repeat (first|with_reducible show gm he ?_|with_reducible show gm hC ?_|(with_reducible show wpAny_isSubtype_exc hC ?_;rw[oN])|wp_step)
 show wpAny_raiseNew_none hh hE
end
section
variable {env:Env}
variable {nm:Str} {N:sK} {bs:List sV} {sub:List sV}
theorem WW{Q:Flow->ag->Prop}
  (oK:bm.contains (.type "BaseException")=sX) (hh:A.handled=y) (oN:(bY r9<|aM args env).any (·.1)=sJ)
  (h:wpAny #[1] A (eval (.Name x np) env) (λf rj=>f= .ref C/\wpAny #[1] A (evalArgs (.ref C) sX (bY r9<|aM args env) [])
   (λa rg=>a.kw=[]/\rg.heap.get? C=E (iC nm q C N bs bm hdct sn sub ab col dd k0 k1 k2 k3 k5 newId)/\
    wpAny #[1] A (call (.ref C) a.pos) (λv tI=>∃e t od sl,v= .ref e/\tI.heap.get? C=E (iC nm q C N bs bm hdct sn sub ab col dd k0 k1 k2 k3 k5 newId)/\
     tI.heap.get? e=E {cls:=.ref C,dict:=od,data:=.fields #[.ref t,.none,.none,.none,.bool sJ,.none],slots:=sl}/\sQ (.ref e) tI) sQ rg) sQ rj) sQ s):
  wpAny #[1] A (exec (.Raise (E<|.Call (.Name x np) args [] r9) y pos) env) Q sQ s:=by
 rw[arm_exec_Raise]
 first
  |show ae (eh<|M6 (C:=C) (nm:=nm) (q:=q) (N:=N) (bs:=bs) (bm:=bm) (hdct:=hdct) (sn:=sn) (sub:=sub) (ab:=ab) (col:=col) (dd:=dd) (k0:=k0) (k1:=k1) (k2:=k2) (k3:=k3) (k5:=k5) (newId:=newId) oK hh (ae<|aR (wpAny_Call_ofName<|aR h (λf rj r6=>?_) λ_ _ x=>x) (λv tI wD=>ae (eh<|ar wD)) λ_ _ x=>x))
  |(simp only[evalOpt,oH];show ae (eh<|M6 (C:=C) (nm:=nm) (q:=q) (N:=N) (bs:=bs) (bm:=bm) (hdct:=hdct) (sn:=sn) (sub:=sub) (ab:=ab) (col:=col) (dd:=dd) (k0:=k0) (k1:=k1) (k2:=k2) (k3:=k3) (k5:=k5) (newId:=newId) oK hh (ae<|aR (wpAny_Call_ofName<|aR h (λf rj r6=>?_) λ_ _ x=>x) (λv tI wD=>ae (eh<|ar wD)) λ_ _ x=>x)))
 obtain⟨rfl,r6⟩:=r6;unfold iI;show ae (bO<|aR r6 (λa rg wF=>ae<|eh ?_) λ_ _ x=>x);obtain⟨apos,oP⟩:=a;show L2.oG λ_ U=>?_;obtain⟨oO,hC,wF⟩:=wF;apply U;obtain rfl:oP=[]:=oO;show L2.oG λ_ U=>?_;obtain⟨hp,g,d,tk,os⟩:=rg;apply U;simp only[oN];show ae<|wpAny_keeperOf_exc hC ?_;show ae (aR wF (λv tI wD=>ae<|bO (wpAny_point<|ar wD)) λ_ _ x=>x)
end
def Tq(C:sK)(f:Str)(EE:Ad)(t:TA):TS:=λ_ σ H=>t σ H λvs H1=>∃v,vs=[v]/\∀d,H1 d=y->EE σ (.ref C) (E d) (upd H1 d<|.xd [(f,v)])
def Rn{b:sK}(n1:H b=y)(n2:d≠b):rem (upd (upd (upd H b o1) d o2) b o3) b=upd H d o2:=by
 funext c
 unfold rem
 by_cases hb:c=b
 ·rw[if_pos hb,hb,xl<|aW n2,n1]
 ·rw[if_neg hb,xl hb]
  by_cases hd:c=d
  ·rw[hd,xk,xk]
  ·rw[xl hd,xl hd,xl hb]
noncomputable abbrev Pu(C:sK)(d:sK)(t:sK)(sl:Array (Option sV)):Obj:={cls:=.ref C,dict:=E d,data:=.fields #[.ref t,.none,.none,.none,.bool sJ,.none],slots:=sl}
theorem U4{g:sK}(q:Ba X.K C g)(I:Inv X pins σ H s)(r:Vals [v] us)
  (run:∀b s1,H b=y->Inv X pins σ (upd H b<|HO.exc b C y) s1->cS #[3] (A.under<|.builtin "type.__call__" ⟨.ref C::us,[]⟩) (.call (.ref g) ⟨.ref b::us,[]⟩)
   (CR sR X.stack X.prog X.w (upd H b (HO.exc b C y)) s1 (λvv H3=>vv= .rp/\∃d,H d=y/\d≠b/\H3=upd (upd (upd H b (HO.exc b C y)) d (.xd [(fl,v)])) b (HO.exc b C (E d))) E0) s1)
  (k:∀b t d sl s',s.heap.get? b=y->H d=y->d≠b->s'.heap.get? b=E (Pu C d t sl)->Inv X pins σ (upd H d<|.xd [(fl,v)]) s'->Q (.ref b) s'):
  wpAny #[3] A (call (.ref C) us) Q sQ s:=by
 show L2.oG λ_ U=>?_;obtain⟨bm,N,nm,qn,bs,hdct,sn,sub,ab,col,dd,k0,k1,k2,k3,k5,hC,hN,oQ,TL⟩:=FP q.xi I.su;obtain⟨og,oP,oR⟩:=aI.mp (show(X.K.lookup g).map (·.cls)=_ from beq_iff_eq.mp q.fn);obtain⟨hh,gg,dr,tt,oV⟩:=s;apply U;have hl:us.length=1:=r.length.symm;show U5 PySem.F.excBase_ValueError TL hC hN oQ (I.su _ _ oP) oR (λh' a mk hsz=>?_) (by rw[hl];decide);show L2.oG λ_ U=>?_;obtain⟨t0,ea,_,_⟩:=mk.there;apply U;have n0:=I.rh.fresh hsz;have I2:=I.laid (a:=a) (o:=HO.exc a C y) (t':=tt) mk.keeps hsz ⟨⟨_,t0,ea,Y,Y,Y⟩,⟨_,ea⟩,λh1 h2=>Mz⟩;show fV<|dI (run a _ n0 I2) λrr s' oK=>?_;cases rr with
 |error e=>show aV oK
 |ok oS=>
  cases oS with
  |ret u=>
   show L2.oG λ_ U=>?_;obtain⟨vv,H',I3,rv,rfl,d,n1,n2,rfl⟩:=I2.after oK;obtain rfl:u=bz:=rv;obtain⟨⟨⟨c1,d1,oW,oO⟩,t1,oU,oc,od,oN⟩,_⟩:=I3.rh a _ xk;apply U;have I4:=I3.forget (a:=a) xk;rw[Rn n0 n2]at I4;cases oc;cases od;cases oN;show⟨Y,k a t1 d oO s' mk.new n1 n2 oU I4⟩
  |next=>show aV oK
  |brk=>show aV oK
  |cont=>show aV oK
def WE{g:sK}{k:Nat}(o:Own X)(hc:X.calm=sX)(q:Ba X.K C g)(F:yA X.prog X.w X.K X.mg X.base sR k g fd ps (Md C fl))(hr:xR (k+1) X.A)(hb:Binds X.K fd ps [])
  (hg:Gl X x) (hm:X.mg x=E (.ref C)) (ha:PA (X.r0<|tV n X EE) [e] t)
  (oP:autoParam #[12] q9) (he:autoParam (aM [e] X.env=(sJ,eval e X.env)::aM [] X.env) rJ) (oN:autoParam ((bY r9<|aM [e] X.env).any (·.1)=sJ) rJ):
  PS (X.r0<|tV n X EE) (.Raise (E<|.Call (.Name x np) [e] [] r9) y pos) (Tq C fl EE t):=by
 intro pins s σ H D I h;show L2.oG λ_ U=>?_;obtain⟨bm,N,nm,qn,bs,hdct,sn,sub,ab,col,dd,k0,k1,k2,k3,k5,hC,hN,oQ,TL⟩:=FP q.xi I.ok.mod.w5;apply U;show WW (C:=C) (N:=N) (bm:=bm) (nm:=nm) (q:=qn) (bs:=bs) (hdct:=hdct) (sn:=sn) (sub:=sub) (ab:=ab) (col:=col) (dd:=dd) (k0:=k0) (k1:=k1) (k2:=k2) (k3:=k3) (k5:=k5) (newId:="ValueError.__new__") (TL.hasType PySem.F.excBase_ValueError.hasBase) (I.ok.hd hc) oN<|vQ I hg hm ⟨Y,?_⟩ oP;have oK:=ha r9 pins s σ H _ I h;rw[he]at oK;change wpAny #[3] X.A (evalArgs (.ref C) sX (bY r9<|aM [e] X.env) []) _ _ s;rw[he];show PySem.evalArgs_kw (keywords:=[]) rfl ?_;show sj oK λus s1 ⟨vs,H1,I1,r,v,hv,sZ⟩=>?_;subst hv;show ar ⟨Y,I1.bk _ _ hC,U4 (fl:=fl) (v:=v) (Q:=_) q I1 r (λb s1 n0 I2=>?_) λb t1 d sl s' m n1 n2 ea I4=>?_⟩
 ·have oO:(aS b::us++[]).length=ps.length:=by
   have:=F.len [.ref b,v] (upd H1 b<|HO.exc b C y) (λ_ _=>True) E0 ⟨b,v,Y,xk,λ_ _ _=>trivial⟩;rw[<-this];simp[<-r.length]
  show F.run _ X.stack _ _ _ (aS b::us) [.ref b,v] _ E0 (hr.make C us []) (I2.wI.make C us []) (by have:=hb _ (aS b::us) I2.su oO;rwa [df]at this) (.cons Y r) ⟨b,v,Y,xk,λd n1 n2=>⟨Y,d,by rwa [xl n2]at n1,n2,Y⟩⟩
 ·have nu:=Jn o I1.rS m;show⟨b,t1,E d,sl,Y,I4.bk _ _ hC,ea,b,.ref C,E d,σ,_,Y,I4.rS.wB,.inl ⟨_,_,.ref t1,ea,Y,Y,Y,Y,Y,λ_=>Y,by rw[xl<|aW n2];show nu.1,nu.2⟩,sZ d n1⟩
section
variable {K:Frag} {x D:sK} {od:Obj}
end
section
variable {base:Heap}
def wx.Dd{k:Nat}(F:wx K x qual st f fd)(hc:fd.code= .ref c)(S:yd N ps (xt st))(len:∀vs H Q sQ,sp vs H Q sQ->vs.length=ps.length)
  (oK:∀(A:bx) (outer:List Env) (s:ag) (H:Hp) (vs:List V) (Q:VK) (sQ:XK),xR k (A.deeper (fC qual (xt st) s.heap.objs.size f<|.ref c))->sp vs H Q sQ->
   ∃t,sY (OI n P w K mg base N qual (xt st) f (.ref c) A outer s H sQ) (yh st) t/\t {nx:=λ_ H'=>Q .rp H',rt:=Q} (start N vs) H):yA P w K mg base (wj n P w) (k+1) f fd ps sp:=by
 obtain⟨oc,od,kV,doc,pm,an,cdv,ct,v9,rfl,lk,oQ⟩:=F.ex;obtain rfl:cdv= .ref c:=hc;show DJ lk oQ S len λA outer s H vs Q sQ hr oO=>?_;obtain⟨t,h,q⟩:=oK A outer s H vs Q sQ hr oO;show⟨t,h.wz λe s' ⟨a,cls,dx,σ,H',he,I,Fl,z⟩=>?_,q⟩;subst he;show Hq Mf I.ok.frames I Fl λs2 I2 F2=>?_;obtain⟨oe,vs,a0,T,oT,ts,he,hc,hx,hd,h0,h1,h2,nT,hT,oP,h3,hn,oN⟩:=F2;show⟨a,cls,dx,H',oe,vs,a0,T,oT,ts,Y,I2.os,I2.bare,I2.base,I2.rh,he,hc,hx,hd,h0,h1,h2,nT,hT,oP,h3,hn.1,hn.2.1,oN.1,oN.2.1,z⟩
end
section
variable {k:Nat} {dvs:List V} {m:Str} {apos:Pos} {o:Expr}
def Ki(C:sK)(m:Str)(sp:Sp)(dvs:List V)(EE:Ad)(ta:TE)(t:TA):TE:=λσ H Q=>ta σ H λx H1=>tK λa dx fs=>sU (x= .ref a) (H1 a=E (.ins C dx fs)) (fs.lookup m=y) (t σ H1 λvs H2=>sp (x::(vs++dvs)) H2 Q<|EE σ)
def vd(ow:Own X)(he:PE (X.r0<|tV n X EE) o ta)(c:tX X.K C)(hm:Meth X.K C m f)(F:yA X.prog X.w X.K X.mg X.base (wj n X.prog X.w) k f fd ps sp)(hr:xR k X.A)(hb:Binds X.K fd ps ds)(hd:Vals dvs ds)(ha:PA (X.r0<|tV n X EE) (e::es) t)
  (oK:autoParam #[7] rJ) (oN:autoParam #[17] rJ)
  (ht:autoParam (eval (.Call (.Attribute o m apos) (e::es) [] pos) X.env=(do
   let ov <-eval o X.env
   lC apos.atName
   let(f,first) <-fA [ov] (iV ov m pl)
   iI pos f first (bY pos (aM (e::es) X.env)) (ku pos (gG [] X.env)))) rJ):
  PE (X.r0<|tV n X EE) (.Call (.Attribute o m apos) (e::es) [] pos) (Ki C m sp dvs EE ta t):=by
 intro pins s σ H Q I h;show gJ (pl:=pl) (xQ (he pins s σ H _ I h) λu s1 x H1 I1 rx ⟨a,dx,fs,ex,ea,l,q⟩=>?_) ht;subst ex;obtain rfl:u=aS a:=rx;show EK I1 ea c hm l ?_;show gX (first:=[.ref a]) (h₀:=X.base) I.ok.mod.w5 hm.kp (zS (ha pos pins s1 σ H1 _ I1 q) λus s2 vs H2 I2 r q2=>⟨I2.su,?_⟩) oK oN;show FQ (us:=.ref a::us) (vs:=.ref a::vs) ow F hr hb hd I2 (.cons Y r) q2
def My(ow:Own X)(he:PE (X.r0<|tV n X EE) o ta)(c:tX X.K C)(hm:Meth X.K C m f)(F:yA X.prog X.w X.K X.mg X.base (wj n X.prog X.w) k f fd ps sp)(hr:xR k X.A)(hb:Binds X.K fd ps ds)(hd:Vals dvs ds)
  (ht:autoParam (eval (.Call (.Attribute o m apos) [] [] pos) X.env=(do
   let ov <-eval o X.env
   lC apos.atName
   let(f,first) <-fA [ov] (iV ov m pl)
   iI pos f first (bY pos (aM [] X.env)) (ku pos (gG [] X.env)))) rJ):
  PE (X.r0<|tV n X EE) (.Call (.Attribute o m apos) [] [] pos) (Ki C m sp dvs EE ta vx):=by
 intro pins s σ H Q I h;show gJ (pl:=pl) (xQ (he pins s σ H _ I h) λu s1 x H1 I1 rx ⟨a,dx,fs,ex,ea,l,q⟩=>?_) ht;subst ex;obtain rfl:u=aS a:=rx;show EK I1 ea c hm l ?_;show nB (first:=[.ref a]) I1.su hm.kp (FQ (us:=[.ref a]) (vs:=[.ref a]) ow F hr hb hd I1 (.cons Y .nil) q)
end
def OS(P:a9)(w:World)(K:ax)(mg:Str->Option sV)(base:Heap)(k:Nat)(H:Hp)(f:sK)(vs:List V)(Q:VK):Prop:=
 ∃nm qual params body scope ps sp fv,uq P w K mg base sR k nm qual params body scope ps sp/\yx H f nm qual params body scope fv/\sp fv vs H Q E0
section
variable {k:Nat}
def Rm(X:Cx)(k:Nat)(i:Nat)(t:TA):TE:=λσ H Q=>∃f,σ[i]? =E (E<|.ref f)/\(tW λnm qual params body scope fv=>yx H f nm qual params body scope fv)/\t σ H λvs H1=>OS X.prog X.w X.K X.mg X.base k H1 f vs Q
def U3(i:Nat)(hr:xR k X.A)(ha:PA X (e::es) t)(hN:autoParam (X.N[i]? =E x) rJ)(hv:autoParam (BH X.env.scope x) rY)(hd:autoParam #[12] q9)
  (oN:autoParam ((x==("__classdict__":Str))=sJ) q9) (he:autoParam #[7] rJ) (oK:autoParam #[17] rJ):
  PE X (.Call (.Name x p) (e::es) [] pos) (Rm X k i t):=by
 intro pins s σ H Q I h;obtain⟨f,e1,⟨_,_,_,_,_,_,oO⟩,h⟩:=h;show bL<|xQ (FF (pos:=p) hN hv hd oN pins s σ H (λv H1=>v= .ref f/\H1=H) I ⟨_,e1,Y,Y⟩) λu s1 v H1 I1 r ⟨q1,q2⟩=>?_;subst q1;subst q2;cases (show u=aS f from r);show W.callWith_F (oO.fn I1) (zS (ha pos pins s1 σ H1 _ I1 h) λus s2 vs H2 I2 r2 q=>?_) he oK;obtain⟨nm,qual,params,body,scope,ps,sp,fv,F,hc,q⟩:=q;show⟨hc.fn I2,KS F hr xn I2 hc r2 q⟩
end
open PySem PySem.Spec PyProof.Rows
noncomputable def Ql:Stmt->List Stmt
 | .If _ b _ _=>b
 |_=>[]
noncomputable def Rl:Stmt->List Stmt
 | .While _ b _ _=>b
 |_=>[]
end Internal.L2
namespace PySem
open Sem (wp)
open AutoSeq1 (wpAny_loadPart')
abbrev AB(k:Int)(t:Tok):List (Str×sV):=[(bF "start",.int k t)]
def Tp(a:sV)(k:Int)(t:Tok):checkTypeCall "enumerate" ⟨[a],AB k t⟩=pure ():=by kernel_rfl
def Rk(a:sV)(k:Int)(t:Tok):checkBuiltinCall "enumerate.__new__" ⟨[.type "enumerate",a],AB k t⟩=pure ():=by kernel_rfl
def To(x a:sV)(k:Int)(t:Tok):argsOk "object.__init__" ⟨[x,a],AB k t⟩:=by
 unfold argsOk;rw[signature?_of (id:="object.__init__") (n:="__tini__".toList) (o:="tcejbo".toList) #[9] F.owner_object]
 kernel_rfl
def Tn(l:sK)(items:Array sV)(n:Nat)(oN:Option sK)(sl:Array (Option sV))(k:Int)(t:Tok)(hf:gu k=sX):
  Meets (fP.«enumerate.__new__» ⟨[.type "enumerate",.ref l],AB k t⟩) (λ_ R s=>s.heap.get? l=E ⟨.type "list",oN,.seq items n,sl⟩/\
   R (.ok<|.ret (.ref<|s.heap.objs.size+1))
    {s with heap:=(s.heap.push {cls:=.type "list_iterator",data:=.fields #[.ref l,.int 0 0]}).push {cls:=.type "enumerate",data:=.fields #[.none,.bool sJ,.ref s.heap.objs.size,ck k,.none,.none]}}):=by
 show .of_wp λprog w A R s h=>?_;obtain⟨hl,h⟩:=h;show L2.oG λ_ U=>?_;obtain⟨hp,g,d,tk,os⟩:=s;apply U;have hz:(hp.push {cls:=.type "list_iterator",data:=.fields #[.ref l,.int 0 0]}).objs.size=hp.objs.size+1:=cT ..;have oK:=sub_enumerate;have hL:Heap.IsList (Shared.heap ⟨hp,g,d,tk,os⟩) l items:=⟨_,hl,Y,n,Y⟩
 wp_walk using bS hl
 show wpAny_stack_any λst=>ar ?_
 split
 ·rename_i c _ _ _ _ _;cases (c==cL "enumerate")<;>
   (wp_walk using bS hl,ee hL;show⟨_,Y,by rw[hz];show h⟩)
 ·wp_walk using bS hl,ee hL
  show⟨_,Y,by rw[hz];show h⟩
def WD(hl:iq (.type T) "__init__"=pure (E<|.builtin "object.__init__"))(hm:Bind.madeBy (.type T)=pure (E newId))(oK:(E newId != E "object.__new__")=sX):
  Meets (fP.«object.__init__» ⟨[x,sZ],kw⟩) (λ_ R s=>s.TypeIs x T/\R (.ok<|.ret .none) s):=
 .of_wp λprog w A R s h=>by
  obtain⟨hT,h⟩:=h
  repeat (any_goals (first|assumption|wp_step))
  show⟨_,Y,h⟩
section
variable {prog:a9} {w:World} {A:bx} {sQ:sV->ag->Prop} {s:ag}
theorem WV{k:Int}{Q:sV->ag->Prop}(hL:s.heap.IsList l items)(hf:gu k=sX)
  (h:∀h',lP h' (s.heap.objs.size+1) s.heap.objs.size k .none->h'.IsListIter s.heap.objs.size l 0->(∀b o,s.heap.get? b=E o->h'.get? b=E o)->Q (.ref<|s.heap.objs.size+1) {s with heap:=h'}):
  wpAny #[1] A (call (.type "enumerate") [.ref l]<|AB k t) Q sQ s:=by
 show L2.oG λ_ U=>?_;obtain⟨⟨c0,oP,dt,sl⟩,hl,hc,n,hd⟩:=hL;apply U;obtain rfl:c0= .type "list":=hc;obtain rfl:dt= .seq items n:=hd;have ft:=F.called_enumerate;show L2.oG λ_ U=>?_;obtain⟨c,tl,oO⟩:=ft.mro;apply U;have oR:=Tp (.ref l) k t;have oK:=ft.made;have oN:=ft.sub;have h1:=ft.notType;have h2:=ft.canCreate;have hz:(s.heap.push {cls:=.type "list_iterator",data:=.fields #[.ref l,.int 0 0]}).objs.size=s.heap.objs.size+1:=cT ..;have he:lP ((s.heap.push {cls:=.type "list_iterator",data:=.fields #[.ref l,.int 0 0]}).push {cls:=.type "enumerate",data:=.fields #[.none,.bool sJ,.ref s.heap.objs.size,ck k,.none,.none]}) (s.heap.objs.size+1) s.heap.objs.size k .none:=by
  rw[<-hz];show aF _ rfl
 have fin:=h _ he ⟨_,af _<|aF _ Y,Y,Y⟩ λb o x=>af _<|af _ x;show fV (codeAny_of_tree<|ar ⟨ic _ #[18],dh F.entry_type_call ?_⟩);rw[Around.under_plain (weight_type_call_type "enumerate" [.ref l] (AB k t))<|units_type_call_type "enumerate" [.ref l] (AB k t)]
 repeat (any_goals (first|assumption|wp_step))
 show dI (ka ft.plain mK (kF (Rk (.ref l) k t)<|Tn l items n oP sl k t hf prog w A.in1 (wants (λobj rj=>rj.TypeIs obj "enumerate"/\Q obj rj) sQ) s ⟨hl,⟨_,he,Y⟩,fin⟩)) λr rj hr=>?_;rcases r with e|fl
 ·show hr
 cases fl with
 |ret obj=>
  obtain⟨hT,hq⟩:=(show rj.TypeIs obj "enumerate"/\Q obj rj from hr);have oQ:=ft.init.lookup;have oS:=ft.init.bind obj
  repeat (any_goals (first|assumption|wp_step))
  show dI (ka ft.init.plain F.entry_object_init (ft.init.check _ _ _ _ _ _ _ _ hT (To obj (.ref l) k t)<|WD (T:="enumerate") (kw:=AB k t) ft.init.lookup ft.made #[6] prog w A.in1 (wants (λr rg=>r= .none/\Q obj rg) sQ) rj ⟨hT,Y,hq⟩)) λIi rg h3=>?_;rcases Ii with e|f2
  ·show h3
  cases f2 with
  |ret r=>
   obtain⟨rfl,h4⟩:=(show r= .none/\Q obj rg from h3)
   repeat (any_goals (first|assumption|wp_step))
  |_=>show h3.elim
 |_=>show hr.elim
end
end PySem
namespace Internal.L2
open PySem PySem.Spec PyProof.Rows
variable {X:Cx} {w:World} {s s2:ag} {pos:Pos} {H H2:Hp} {A:bx} {P prog:a9} {K:ax} {o:Obj} {pins:List (sK×Obj)} {sQ:sV->ag->Prop} {tb:TS} {σ:St} {v:sV}
def Yf{Pv:Nat->sV->Prop}{St:Nat->Heap->Prop}(D:Draws prog w A it fp n Pv St)(m:Nat):
  Draws prog w A it fp (m+n) (λi v=>m<=i/\Pv (i - m) v) (λi h=>m<=i/\St (i - m) h) where
 live:=λ_ _ st=>D.live _ _ st.2
 frame:=λ_ _ _ st hk=>⟨st.1,D.frame _ _ _ st.2 hk⟩
 item:=λi s Q sQ hi st hQ=>D.item (i - m) s Q sQ #[2] st.2 λx h' tk hp hs hb=>hQ x h' tk ⟨st.1,hp⟩ ⟨by lia,by rw[show i+1 - m=i - m+1 by lia];show hs⟩ hb
 done:=λs Q sQ st hE=>D.done s Q sQ (by have:=st.2;rwa [show m+n - m=n by lia]at this) hE
section
variable {M:Model}
def Ye{Q:sV->ag->Prop}(hp:args.any (·.1)=sJ)(hk:EO.any (·.1.isNone)=sJ)
  (h:wpAny M A (evalArgs (.type T) sX args EO) (λa rj=>wpAny M A (call (.type T) a.pos a.kw) Q sQ rj) sQ s):wpAny M A (iI pos (.type T) [] args EO) Q sQ s:=by
 unfold iI;show ae<|bO ?_;show aR h (λa rj r6=>?_) λ_ _ x=>x;show ae<|eh ?_;simp only[hp,hk,Bool.or_false];show ae (ar<|ae ?_);show aR r6 (λr rg hr=>?_) λ_ _ x=>x;show ae (bO (wpAny_point<|ar hr))
end
def Cq(K:ax)(a:sK)(m:Nat):It:=
 ⟨λi H=>sE λxs x=>kq K H a xs/\xs[i]? =E x,λi H v H'=>sE λT x=>v= .ref T/\H T=y/\H'=upd H T (.tup [.int ((m+i:Nat):Int),x])/\∀xs,kq K H a xs->xs[i]? =E x,λi H=>∃xs,kq K H a xs/\xs.length<=i⟩
def M5{es:List Expr}{k:Nat}(a e it:sK)(m:Nat)(oO:e≠it):Turn P w K (.Tuple es k pos) (Cq K a m) [e,it] e (λi h=>(∃old,lP h e it ((m+i:Nat):Int) old)/\h.IsListIter it a i) where
 mem:=by simp
 obj:=λi h st b hb=>by
  show L2.oG λ_ U=>?_;obtain⟨⟨old,he⟩,⟨o,e1,c,d⟩⟩:=st;apply U;rcases aB.mp hb with z|z
  ·subst z;show⟨_,he,λv z=>by cases z⟩
  ·rw[ai.mp z];show⟨o,e1,λv z=>by rw[d]at z;cases z⟩
 keep:=λi h h' st kk=>by
  show L2.oG λ_ U=>?_;obtain⟨⟨old,he⟩,hit⟩:=st;apply U;show⟨⟨old,kk e #[8] _ he⟩,hit.at λo x=>kk it #[8] o x⟩
 item:=by
  intro X hP hw hK hc i pins s σ H sQ I hf st hg;subst hP hw hK;show L2.oG λ_ U=>?_;obtain⟨xs,x,hq,hx⟩:=hg;obtain⟨rf,rv,p,hz⟩:=I.list hq;obtain⟨u,hu,ru⟩:=rv.get hx;obtain⟨⟨old,he⟩,hit⟩:=st;apply U;have oP:=aq he;have oQ:it<s.heap.objs.size:=by obtain⟨o,q,_⟩:=hit;show aq q
  have oZ:i<rf.length:=by
   have:=(aE.mp hu).1;show this
  have pl:=p.isList;have oW:a≠it:=λz=>by
   show L2.oG λ_ U=>?_;obtain⟨o1,q1,c1,_⟩:=pl;obtain⟨o2,q2,c2,_⟩:=hit;apply U;rw[z,q2]at q1;cases q1;rw[c2]at c1;simp at c1
  have oX:e≠a:=λz=>by
   show L2.oG λ_ U=>?_;obtain⟨o1,q1,c1,_⟩:=pl;apply U;rw[<-z,he]at q1;cases q1;simp at c1
  have D:=Yf (Draws.list (prog:=X.prog) (w:=X.w) (A:=X.A.in1) (I.ok.hd hc) it a oW rf.toArray) m;show lZ D he ⟨by lia,by rw[show m+i - m=i by lia];show⟨hit,pl⟩⟩ (by simp;lia) oO (by simp[oO,oX]) λsZ h' tk hy oS oR hT hsz hk=>?_;have ey:sZ=u:=by
   have h1:=hy.2;rw[show m+i - m=i by lia]at h1;have h2:rf.toArray[i]? =E u:=by simpa using hu
   rw[h2]at h1;show(bI h1).symm
  subst ey;have oK:=oR.2.1;rw[show m+i+1 - m=i+1 by lia]at oK;show⟨_,Y,kZ (s:={s with heap:=h',toks:=tk+1}) oS λh2 oU oN=>?_⟩;have oY:h2.get? s.heap.objs.size=E {cls:=.type "tuple",data:=.seq #[.int ((m+i:Nat):Int) tk,sZ]}:=(oN.2 _<|eP oP).trans hT;have I2:Inv X pins σ (upd H s.heap.objs.size<|.tup [.int ((m+i:Nat):Int),x]) {s with heap:=h2,toks:=tk+1}:=by
   show I.wm (ch:=[e,it]) (λb o hb q=>?_) (ah _) ⟨by simp[ak],[.int ((m+i:Nat):Int) tk,sZ],.cons ⟨_,Y⟩<|.cons ru .nil,⟨_,oY,Y,_,Y⟩⟩ (λb hb=>(hf b hb).1) (λb hb=>?_) λb hb=>?_
   ·have b1:b≠e:=λz=>hb (by simp[z]);have b2:b≠it:=λz=>hb (by simp[z]);show(oN.2 b b1).trans (hk b o b1 b2 q)
   ·rcases aB.mp hb with z|z
    ·rw[z];show oP
    ·rw[ai.mp z];show oQ
   ·show L2.oG λ_ U=>?_;obtain⟨f0,f1,f2,f3,f4,f5⟩:=hf b hb;apply U;show⟨f3,f1,f4,f5⟩
  show⟨.ref s.heap.objs.size,_,I2,Y,⟨_,x,Y,I.rh.fresh<|ah _,Y,λys hy=>by rw[I.wt hy hq];show hx⟩,⟨⟨sZ,by rw[show((m+(i+1):Nat):Int)=((m+i:Nat):Int)+1 by lia];show oU⟩,oK.extBut oN.extBut<|aW oO⟩,λb hb=>?_⟩;have oV:b≠s.heap.objs.size:=by
   rcases aB.mp hb with z|z
   ·rw[z];show aC oP
   ·rw[ai.mp z];show aC oQ
  rw[xl oV];show(hf b hb).1
 done:=by
  intro X hP hw hK hc i pins s σ H sQ I hf st hg;subst hP hw hK;show L2.oG λ_ U=>?_;obtain⟨xs,hq,hx⟩:=hg;obtain⟨rf,rv,p,hz⟩:=I.list hq;obtain⟨⟨old,he⟩,hit⟩:=st;obtain⟨f0,f1,f2,f3,f4,f5⟩:=hf it #[8];apply U;have hl:=rv.length;have pl:=p.isList;have D:Draws X.prog X.w X.A.in1 it [it,a] 0 (λ_ _=>False) (λ_ h=>h.IsListIter it a i/\h.IsList a rf.toArray):={
   live:=λ_ _ st=>let⟨o,ho,_⟩:=st.1;⟨o,ho⟩
   frame:=λ_ _ _ st hk=>⟨st.1.at λo e=>hk it #[8] o e,st.2.at λo e=>hk a #[8] o e⟩
   item:=λj s Q sQ hj=>absurd hj (kc _)
   done:=λs Q sQ st hE=>wpAny_nextOf_list_end (I.ok.hd hc) st.1 st.2 (by simp;lia) hE}
  show wpAny_pyNext_enum_endD D he ⟨hit,pl⟩ λh' eb=>⟨Y,I.turned (t':=s.toks) (λb o hb e=>eb b o hb e) f0 f1 f3 f4 f5⟩
 self:=λ_ _ _ _ _ st h=>by
  show L2.oG λ_ U=>?_;obtain⟨⟨old,he⟩,_⟩:=st;apply U;show gk he h
section
variable {es:List Expr} {k:Nat} {tp:Pos}
def Rj(K:ax)(ta:TA)(tf:TE):TI:=λσ H R=>ta σ H λvs H1=>tf σ H1 λsZ H2=>sE λ(a:sK) (m:Nat)=>vs=[.ref a]/\sZ= .int m/\(m:Int)<2^62/\(∃xs,kq K H2 a xs)/\R (Cq K a m) H2
def U2{kp:Pos}(hg:Gl X "enumerate")(hm:X.mg "enumerate"=y)(ha:PA X [l] ta)(hf:PE X fe tf)
  (he:autoParam (bY pos (aM [l] X.env)=(sJ,eval l X.env)::bY pos (aM [] X.env)) rJ):PI X (.Tuple es k tp) (.Call (.Name "enumerate" p) [l] [⟨E "start",fe,kp⟩] pos) (Rj X.K ta tf):=by
 intro pins s σ H R I h;show bL<|zJ I hg hm Hu ?_;show Ye (by rw[he];rfl) rfl ?_;rw[he];show evalArgs_kwB rfl ?_;rw[<-he];show sj #[16] λus s1 h1=>?_;obtain⟨vs,H1,I1,r1,q1⟩:=h1;show ng<|sj (hf pins s1 σ H1 _ I1 q1) λfu s2 h2=>kws_nil ?_;obtain⟨sZ,H2,I2,r2,a,m,rfl,rfl,oK,⟨xs,hq⟩,q⟩:=h2;obtain⟨u,rfl,ru⟩:=Vals.one r1;cases ru;obtain⟨tz,rfl⟩:=r2;obtain⟨rf,rv,pl,hz⟩:=I2.list hq;change wpAny _ _ (call (.type "enumerate") [.ref a]<|AB m tz) _ _ s2;show WV pl.isList (by simp[gu];lia) λh' he hi hk=>gk (s:={s2 with heap:=h'}) he ?_;show⟨s2.heap.objs.size+1,[s2.heap.objs.size+1,s2.heap.objs.size],_,_,H2,Y,I2.kept (t':=s2.toks) hk,M5 a _ _ m<|lQ _,⟨⟨.none,by simpa using he⟩,hi⟩,λb hb=>?_,q⟩;rcases aB.mp hb with z|z
 ·rw[z];show I2.tQ (cU _) (I2.rh.fresh<|cU _)
 ·rw[ai.mp z];show I2.tQ (ah _) (I2.rh.fresh<|ah _)
end
def Yd{g:TG}(Pv:Nat->St->Hp->Prop)(h0:Pv 0 σ H)(hl:∀i σ H,i<=xs.length->Pv i σ H->kq K H l xs)
  (hs:∀i x σ H T,xs[i]? =E x->Pv i σ H->H T=y->g (.ref T) σ (upd H T<|.tup [.int ((n+i:Nat):Int),x]) λtN H2=>tb {D with nx:=Pv<|i+1,ct:=Pv<|i+1,bk:=D.nx} tN H2) (hd:∀σ H,Pv xs.length σ H->D.nx σ H):uo (Cq K l n) g tb D σ H:=by
 unfold uo;show⟨λi m σ H=>m=xs.length - i/\i<=xs.length/\Pv i σ H,⟨xs.length,by simp,aX _,h0⟩,?_⟩;rintro i m σ H ⟨rfl,hi,p⟩;have hq:=hl i σ H hi p
 by_cases oK:i<xs.length
 ·have hx:xs[i]? =E xs[i]:=au oK;show .inr ⟨⟨xs,xs[i],hq,hx⟩,Pv<|i+1,λrq H' p'=>⟨xs.length - (i+1),by lia,Y,oK,p'⟩,λv H' sZ=>?_⟩;obtain⟨T,x,rfl,hT,rfl,oN⟩:=sZ;show hs i x σ H T (oN xs hq) p hT
 ·obtain rfl:i=xs.length:=by lia
  show .inl ⟨⟨xs,hq,ah _⟩,hd σ H p⟩
noncomputable abbrev Pt(n:Bool)(cap:List Str)(P:a9)(w:World)(K:ax)(mg:Str->Option sV)(base:Heap)(N:List Str)(qual:Str)(sc:Scope)(f:sK)(cd:sV)(A:bx)(outer:List Env)(s:ag)(H:Hp)(sQ:XK):Cx:=
 (AS cap (wj n P w) P w K mg base N qual sc f cd A outer s H sQ).r0 (tV n (AS cap (wj n P w) P w K mg base N qual sc f cd A outer s H sQ) λ_=>sQ)
theorem wx.Ij{n:Bool}{mg:Str->Option sV}{base:Heap}{x qual:Str}{st:Stmt}{f c:sK}{fd:ay}{N ps:List Str}{k:Nat}{sp:Sp}(cap:List Str)(F:wx K x qual st f fd)(hc:fd.code= .ref c)(S:yd N ps (xt st))(len:∀vs H Q sQ,sp vs H Q sQ->vs.length=ps.length)
  (oN:∀(A:bx) (outer:List Env) (s:ag) (H:Hp) (vs:List V) (Q:VK) (sQ:XK),xR k (A.deeper (fC qual (xt st) s.heap.objs.size f<|.ref c))->sp vs H Q sQ->
   ∃t,sY (Pt n cap P w K mg base N qual (xt st) f (.ref c) A outer s H sQ) (yh st) t/\t {nx:=λ_ H'=>Q .rp H',rt:=Q} (start N vs) H):yA P w K mg base (wj n P w) (k+1) f fd ps sp:=by
 show L2.oG λ_ U=>?_;obtain⟨oc,od,kV,doc,pm,an,cdv,ct,v9,rfl,lk,oS⟩:=F.ex;apply U;obtain rfl:cdv= .ref c:=hc;show⟨len,λA outer s H args us vs Q sQ hr e0 hb r oO=>?_⟩;have hl:=len _ _ _ _ oO;have KX:K.In s.heap:=e0.mod.w5.keeps λb o e=>(e0.bs b o e).1;have lim:s.heap.NoLimit:=e0.mod.nolimit.keeps λb o e=>(e0.bs b o e).1;have oK:∀sZ∈ps.zip us,(xt st).names.lookup sZ.1=E .local\/((xt st).names.lookup sZ.1=E .cell/\((l9 (s.heap.objs.size+1) (xt st).names []).lookup sZ.1).isSome=sX):=λ⟨n,v⟩ hy=>by
  rcases S.par n (dZ hy).1 with q|q
  ·show .inl q
  ·show .inr ⟨q,iJ _ _ _<|.inl q⟩
 show gs hr.depth (KX _ _ lk) rfl S.co S.gen rfl (nX KX oS)<|hb _ _ _ _ ?_;show gE S.kind oK λenv he s1 x=>?_;subst he;show⟨lim.keeps x.toInCall.keep,codeAny_func ?_⟩;show L2.oG λ_ U=>?_;obtain⟨t,oQ,hq⟩:=oN A outer s H vs Q sQ (hr.deeper _) oO;apply U;have ht:sY (AS cap (wj n P w) P w K mg base N qual (xt st) f (.ref c) A outer s H sQ) (yh st) t:=oQ.wz λe s' ⟨a,cls,dx,σ,H',he,I,Fl,z⟩=>by
  subst he;show Hq ⟨Y,Y,Y⟩ I.ok.frames I Fl λs2 I2 F2=>?_;show L2.oG λ_ U=>?_;obtain⟨oe,vs,a0,T,oT,ts,he,hc,hx,hd,h0,h1,h2,nT,hT,oR,h3,hn,oP⟩:=F2;apply U;show⟨a,cls,dx,H',oe,vs,a0,T,oT,ts,Y,I2.os,I2.bare,I2.base,I2.rh,he,hc,hx,hd,h0,h1,h2,nT,hT,oR,h3,hn.1,hn.2.1,oP.1,oP.2.1,z⟩
 have I:Inv (jw (wj n P w) P w K mg base N qual (xt st) f (.ref c) A outer s H sQ) [] (start N vs) H s1:=GL S hr.hd e0 hl r x;have I':Inv (AS cap (wj n P w) P w K mg base N qual (xt st) f (.ref c) A outer s H sQ) [] (start N vs) H s1:=I.Dm (λ_=>Y)<|Fm cap;show aR (ht [] s1 (start N vs) H _ I' hq) (λfl s' hs=>?_) λe s' hs=>hs;have fin:∀{rq:St} {H':Hp} {v:V} {u:sV},Inv (AS cap (wj n P w) P w K mg base N qual (xt st) f (.ref c) A outer s H sQ) [] rq H' s'->RelV v u->Q v H'->CE outer P w H s Q u s':=
  λ{rq H' v u} J rv q=>⟨v,H',J.os,J.bare,J.base,J.rh,rv,q⟩
 cases fl with
 |ret u=>
  show L2.oG λ_ U=>?_;obtain⟨v,rq,H',J,rv,q⟩:=hs;apply U;show fin J rv q
 |next=>
  show L2.oG λ_ U=>?_;obtain⟨rq,H',J,q⟩:=hs;apply U;show fin (v:=V.rp) (u:=bz) J rfl q
 |brk=>
  show L2.oG λ_ U=>?_;obtain⟨_,_,_,q⟩:=hs;apply U;show aV q
 |cont=>
  show L2.oG λ_ U=>?_;obtain⟨_,_,_,q⟩:=hs;apply U;show aV q
section
variable {h:Heap} {b d:sK} {u ob:HO}
theorem xP.v5(hd:H d=E (.sC o u))(oK:∀vs,o.data≠.fields vs)(x:xP P w H h b ob):xP P w (upd H d u) h b ob:=by
 have off:∀{c:sK} {sZ:HO},H c=E sZ->(∀o' u',sZ≠.sC o' u')->upd H d u c=E sZ:=λ{c sZ} e n=>by
  rw[xl (λz=>by rw[z,hd]at e;cases e;show n _ _ rfl)];show e
 induction ob with
 |dT kvs=>
  obtain⟨z,sZ,xs,r,c⟩:=x;show⟨z,sZ,xs,Paired.z7 r λp q z=>⟨z.1,off z.2.1 (by intro _ _ z;cases z),z.2.2⟩,c⟩
 |ins C dx fs=>obtain⟨e,c⟩:=x;show⟨off e (by intro _ _ z;cases z),c⟩
 |sC ob u' ih=>obtain⟨e,q⟩:=x;show⟨e,ih q⟩
 |sk qs=>
  obtain⟨ps,e,tr,r⟩:=x;show⟨ps,e,tr,λpos q m=>?_⟩;rcases r pos q m with z|⟨c,ob,u',vs,t,z1,z2,z3⟩
  ·show .inl z
  ·show .inr ⟨c,ob,u',vs,t,z1,?_,z3⟩;rw[xl (λz=>by rw[z,hd]at z2;cases z2;show oK _ z3.1)];show z2
 |lst xs=>show x
 |tup xs=>show x
 |dK kvs=>show x
 |set S n=>show x
 |own sZ=>show x
 |xd fs=>show x
 |z0 lo hi=>show x
 |tm v=>show x
 |met f sZ=>show x
 |ext φ=>show x
def sD.v5(ok:sD P w H h)(hd:H d=E (.sC o u))(oK:∀vs,o.data≠.fields vs):sD P w (upd H d u) h:=λb ob e=>by
 by_cases hb:b=d
 ·subst hb;rw[xk]at e;cases e;show xP.v5 hd oK (ok _ _ hd).2
 ·rw[xl hb]at e;show xP.v5 hd oK (ok b ob e)
end
section
variable {d:sK} {u:HO} {kvs:List (Key×V)}
def Inv.v5(I:Inv X pins σ H s)(hd:H d=E (.sC o u))(oK:∀vs,o.data≠.fields vs)(h0:∀u',X.H₀ d=E u'->¬Fix u'):Inv X pins σ (upd H d u) s:=by
 have ne:∀{b:sK},H b=y->b≠d:=λ{b} e z=>by rw[z,hd]at e;cases e
 show⟨I.ok,I.os,I.bare,⟨I.base.keep,I.base.slot,λb o' q n hx=>?_,I.base.there,λb u' q hf=>?_⟩,I.loc,I.cell,?_,λx c e=>?_,λp hp=>?_,I.rh.v5 hd oK,I.len⟩
 ·have:=I.base.free b o' q n hx;rw[xl<|ne this];show this
 ·rw[xl (λz=>by rw[z]at q;show h0 _ q hf)];show I.base.fix b u' q hf
 ·rw[xl<|ne I.free];show I.free
 ·rcases I.rT x c e with z|⟨z1,o',z2,z3⟩
  ·show .inl (by rw[xl<|ne z];show z)
  ·show .inr ⟨z1,o',?_,z3⟩;rw[xl (λz=>by rw[z,hd]at z2;cases z2)];show z2
 ·obtain⟨p1,p2,p3⟩:=I.pin p hp;show⟨p1,by rw[xl<|ne p2];show p2,p3⟩
def Inv.freeze(I:Inv X pins σ H s)(hd:H d=E (.dK kvs))(ho:s.heap.get? d=E o):Inv X pins σ (upd H d (.sC o<|.dK kvs)) s:=by
 have:=I.write (x:=d) (e:=d) (o:=.sC o<|.dK kvs) (h':=s.heap) (t':=s.toks) (by rw[hd];show cm) (.inl Y) (λ_ _ _ q=>q) ⟨_,ho⟩ ⟨ho,(show xP X.prog X.w H s.heap d (.dK kvs)from I.rh d _ hd)⟩;show this
def Inv.Df(I:Inv X pins σ H s)(hd:H d=E (.dK kvs)):∀u',X.H₀ d=E u'->¬Fix u':=λu' e hf=>by
 have:=I.base.fix d u' e hf;rw[hd]at this;cases this;show hf
end
noncomputable def EW(a:sK)(o:Obj)(kvs:List (Key×V)):It:=
 ⟨λi H=>H a=E (.sC o<|.dK kvs)/\i<kvs.length,λi H x H'=>H'=H/\∃k,(kvs.map (·.1))[i]? =E k/\x=kV k,λi H=>H a=E (.sC o<|.dK kvs)/\i=kvs.length⟩
def Pr{k:Key}(h:vP k v=sX):RelV (kV k) v:=by
 rcases yP h with⟨i,t,rfl,rfl⟩|⟨x,t,rfl,rfl⟩
 ·show⟨t,Y⟩
 ·show⟨t,Y⟩
theorem DO{κ:Type}:∀{kvs:List (κ×V)} {vs:List (κ×sV)},KV kvs vs->kvs.map (·.1)=vs.map (·.1)
 |_,_,.nil=>rfl
 |_,_,.cons h t=>by rw[ba,ba,h.1,DO t]
def WC(a it:sK)(o:Obj)(kvs:List (Key×V))(es:Array DictEntry)(ep:Nat)(oK:o.data= .dict es ep):Turn P w K tg (EW a o kvs) [it] it (λi h=>h.IsKeyIter it a i kvs.length ep) where
 mem:=by simp
 obj:=λi h st b hb=>by
  have e:b=it:=by simpa using hb
  subst e;show L2.oG λ_ U=>?_;obtain⟨o,e,c,d⟩:=st;apply U;show⟨o,e,λv z=>by rw[d]at z;cases z⟩
 keep:=λi h h' st k=>by
  show L2.oG λ_ U=>?_;obtain⟨o,e,c,d⟩:=st;apply U;show⟨o,k it #[8] o e,c,d⟩
 item:=by
  intro X hP hw hK hc i pins s σ H sQ I hf st hg;subst hP hw hK;obtain⟨hq,hx⟩:=hg;show L2.oG λ_ U=>?_;obtain⟨f0,f1,f2,f3,f4,f5⟩:=hf it #[8];obtain⟨ho,z,oN,vs,rel,dd⟩:=(show xP X.prog X.w H s.heap a (.sC o<|.dK kvs)from I.rh a _ hq);apply U;have hl:kvs.length=vs.length:=rel.length;have oO:mC (yr X.prog X.w) s.heap a vs ep:=by
   show L2.oG λ_ U=>?_;obtain⟨o',oP,oQ,h1,h2,h3,h4⟩:=dd;apply U;rw[ho]at h1;cases h1;rw[oK]at h3;cases h3;show⟨o,es,ho,h2,oK,h4⟩
  have ne:a≠it:=λz=>by rw[z,f0]at hq;cases hq
  have W:=mM (knd:=yr X.prog X.w) (I.ok.hd hc) it a ne vs ep;show W.item i s _ _ #[2] ⟨by rw[<-hl];show st,oO⟩ λv h' tk hv rn kk=>?_;show L2.oG λ_ U=>?_;obtain⟨k,x,hk,hv⟩:=hv;apply U;have I1:Inv X pins σ H {s with heap:=h',toks:=tk}:=I.turned (λb o hb e=>kk b o (by simpa using hb) e) f0 f1 f3 f4 f5;show L2.oG λ_ U=>?_;obtain⟨ob,e,c,d⟩:=id rn.1;apply U;show⟨_,Y,BV (s:={s with heap:=h',toks:=tk}) e c d #[6] ⟨kV k,H,I1,Pr hv,⟨Y,k,?_,Y⟩,?_,λb hb=>(hf b hb).1⟩⟩
  ·rw[DO rel,av,hk];rfl
  ·rw[hl];show rn.1
 done:=by
  intro X hP hw hK hc i pins s σ H sQ I hf st hg;subst hP hw hK;obtain⟨hq,hx⟩:=hg;show L2.oG λ_ U=>?_;obtain⟨f0,f1,f2,f3,f4,f5⟩:=hf it #[8];obtain⟨ho,z,oN,vs,rel,dd⟩:=(show xP X.prog X.w H s.heap a (.sC o<|.dK kvs)from I.rh a _ hq);apply U;have hl:kvs.length=vs.length:=rel.length;have oO:mC (yr X.prog X.w) s.heap a vs ep:=by
   show L2.oG λ_ U=>?_;obtain⟨o',oP,oQ,h1,h2,h3,h4⟩:=dd;apply U;rw[ho]at h1;cases h1;rw[oK]at h3;cases h3;show⟨o,es,ho,h2,oK,h4⟩
  have ne:a≠it:=λz=>by rw[z,f0]at hq;cases hq
  have W:=mM (knd:=yr X.prog X.w) (I.ok.hd hc) it a ne vs ep;subst hx;show W.done s _ _ ⟨by rw[<-hl];show st,oO⟩ λh' tk kk=>⟨Y,I.turned (λb o hb e=>kk b o (by simpa using hb) e) f0 f1 f3 f4 f5⟩
 self:=λA i s Q sQ st h=>wpAny_pyIter_keyiter st h
section
variable {tg:Expr}
def Fi(tl:TE):TI:=λσ H R=>tl σ H λx H1=>sE λa kvs=>x= .ref a/\H1 a=E (.dK kvs)/\∀o:Obj,(∀vs,o.data≠.fields vs)->R (EW a o kvs) (upd H1 a (.sC o<|.dK kvs))
def Tj(hl:PE X l tl):PI X tg l (Fi tl):=by
 intro pins s σ H R I h;show xQ (hl pins s σ H _ I h) λv s1 x H1 I1 r1 q1=>?_;obtain⟨a,kvs,e,hq,q⟩:=q1;subst e;cases r1;obtain⟨z,oN,vs,rel,o,es,ep,ho,h2,oK,h4⟩:=(show xP X.prog X.w H1 s1.heap a (.dK kvs)from I1.rh a _ hq);have hl:kvs.length=vs.length:=rel.length;show wpAny_pyIter_dict oN (⟨o,es,ho,h2,oK,h4⟩:mC (yr X.prog X.w) s1.heap a vs ep) ?_;have I2:=I1.freeze hq ho;show⟨s1.heap.objs.size,[s1.heap.objs.size],_,_,_,Y,I2.kept (t':=s1.toks) λb o e=>af _ e,WC a _ o kvs es ep oK,⟨_,aF _ Y,Y,?_⟩,λb hb=>?_,q o (λvs z=>by rw[oK]at z;cases z)⟩
 ·rw[hl];rfl
 ·have e:b=s1.heap.objs.size:=by simpa using hb
  subst e;show I2.tQ (ah _) (I2.rh.fresh<|ah _)
noncomputable def Fh(a:sK)(kvs:List (Key×V))(D:Ends):Ends:={D with
 nx:=λσ H=>(∃o:Obj,H a=E (.sC o<|.dK kvs)/\∀vs,o.data≠.fields vs)/\D.nx σ (upd H a<|.dK kvs)
 rt:=λv H=>(∃o:Obj,H a=E (.sC o<|.dK kvs)/\∀vs,o.data≠.fields vs)/\D.rt v (upd H a<|.dK kvs)
 bk:=λ_ _=>False
 ct:=λ_ _=>False}
def Qk(i:Nat)(g:TG)(tb:TS):TS:=λD σ H=>sE λa kvs=>σ[i]? =E (E<|.ref a)/\H a=E (.dK kvs)/\∀o:Obj,(∀vs,o.data≠.fields vs)->uo (EW a o kvs) g tb (Fh a kvs D) σ (upd H a (.sC o<|.dK kvs))
theorem Ti{g:TG}(hp:PassesOwn #[3] X.A X.env X.xe)(hc:X.calm=sX)(hi:PE X iter (zv i))(hg:PG X tg g)(hb:sY X body tb)
  (hs:autoParam (∀x,fg iter X.env x=pure x) rV):PS X (.For tg iter body [] pos) (Qk i g tb):=by
 intro pins s σ H D I h;obtain⟨a,kvs,tU,hq,h⟩:=h;have nf:=I.Df hq;have h1:Dz (Fi<|zv i) g tb (Fh a kvs D) σ H:=by
  rw[<-Lh];unfold DC Fi zv;rw[tU];show⟨a,kvs,Y,hq,h⟩
 show sj (JZ hp hc (Tj hi) hg hb hs pins s σ H (Fh a kvs D) I h1) λf s' z=>?_;cases f with
 |next=>obtain⟨rq,H',I',⟨o,ho,hd⟩,m⟩:=z;show⟨rq,_,I'.v5 ho hd nf,m⟩
 |brk=>obtain⟨rq,H',I',m⟩:=z;show m.elim
 |cont=>obtain⟨rq,H',I',m⟩:=z;show m.elim
 |ret v=>obtain⟨x7,u9,H7,I7,r7,⟨o,ho,hd⟩,q7⟩:=z;show⟨x7,u9,_,I7.v5 ho hd nf,r7,q7⟩
end
def WU{g:TG}(Pv:Nat->St->Hp->Prop)(h0:Pv 0 σ H)(hl:∀i σ H,i<=kvs.length->Pv i σ H->H a=E (.sC o<|.dK kvs))
  (hs:∀i k σ H,(kvs.map (·.1))[i]? =E k->Pv i σ H->g (kV k) σ H λtN H2=>tb {D with nx:=Pv<|i+1,ct:=Pv<|i+1,bk:=D.nx} tN H2) (hd:∀σ H,Pv kvs.length σ H->D.nx σ H):uo (EW a o kvs) g tb D σ H:=by
 unfold uo;show⟨λi m σ H=>m=kvs.length - i/\i<=kvs.length/\Pv i σ H,⟨kvs.length,by simp,aX _,h0⟩,?_⟩;rintro i m σ H ⟨rfl,hi,p⟩;have q:=hl i σ H hi p
 by_cases oK:i<kvs.length
 ·show .inr ⟨⟨q,oK⟩,Pv<|i+1,λrq H' p'=>⟨kvs.length - (i+1),by lia,Y,oK,p'⟩,λx H' sZ=>?_⟩;obtain⟨e,k,hk,rfl⟩:=sZ;subst e;show hs i k σ _ hk p
 ·have e:i=kvs.length:=by lia
  subst e;show .inl ⟨⟨q,Y⟩,hd σ H p⟩
def Qj:List V->Hp->VK->Prop:=λxs H Q=>tK λ(p:sK) (kvs:List (Key×V)) (ks:List Int)=>tF (xs=[.ref p]) (H p=E (.dK kvs)) (kvs.map (·.1)=ks.map cJ) (ks≠[]) (∀m∈ks,(∀x∈ks,m<=x)->Q (.int m) H)
def VH(hc:X.calm=sX):yH X (.builtin "min") Qj:=by
 intro pins s σ H xs us Q I r h;obtain⟨p,kvs,ks,rfl,hq,hk,oS,q⟩:=h;obtain⟨u,rfl,rx⟩:=vals1 r;cases rx;obtain⟨z,oO,vs,rel,o,es,ep,ho,h2,oN,h4⟩:=(show xP X.prog X.w H s.heap p (.dK kvs)from I.rh p _ hq);have oK:vs.map (·.1)=ks.map cJ:=(DO rel).symm.trans hk;have hl:vs.length=ks.length:=by have:=congrArg cz oK;simpa using this
 have oR:0<ks.length:=cb.mpr oS;show call_min_walk<|wpAny_pyIter_dict oO (⟨o,es,ho,h2,oN,h4⟩:mC (yr X.prog X.w) s.heap p vs ep) ?_;have oQ:p<s.heap.objs.size:=aq ho;have W:=mM (knd:=yr X.prog X.w) (A:=X.A.in1) (I.ok.hd hc) s.heap.objs.size p (aC oQ) vs ep;have hP:∀(i:Nat) (v:sV),(∃k x,vs[i]? =E (k,x)/\(yr X.prog X.w).is k v=sX)->∃t,v= .int (ks.getD i 0) t:=λi v hv=>by
  obtain⟨k,x,h1,h2⟩:=hv;have e:(vs.map (·.1))[i]? =E k:=by rw[av,h1];rfl
  rw[oK,av]at e;obtain⟨j,hj,rfl⟩:=aI.mp e;have h2:vP (cJ j) v=sX:=h2;rcases yP h2 with⟨i',t,e1,rfl⟩|⟨x,t,e1,_⟩
  ·cases e1;show⟨t,by rw[cK,hj];rfl⟩
  ·cases e1
 show⟨s.heap.objs.size,_,_,_,_,_,_,Y,W,⟨⟨_,aF _ Y,Y,Y⟩,⟨o,es,af _ ho,h2,oN,h4⟩⟩,λb hb=>?_,by omega,CmpOf.ints_lt (λi=>ks.getD i 0) hP,λv h' tk hv oU=>?_⟩
 ·simp only[aB,bR,or_false]at hb;have hs:=aq<|aF s.heap (o:={cls:=cL "dict_keyiterator",data:=oq #[aS p,fR 0 0,fR (↑vs.length) 0,fR (↑ep) 0]}) rfl;rcases hb with z|z
  ·rw[z];show hs
  ·rw[z];show Nat.lt_trans oQ hs
 ·obtain⟨t,rfl⟩:=hP _ _ hv;obtain⟨g1,g2⟩:=argBest_lt (λi=>ks.getD i 0)<|vs.length - 1;show⟨.int _,H,I.kept (t':=tk) λb ob e=>oU b ob ?_<|af _ e,⟨t,Y⟩,q _ ?_ λx hx=>?_⟩
  ·have hb:=aq e;simp only[aB,bR,or_false];show aC hb
  ·generalize hj:argBest (λi j=>decide (ks.getD i 0<ks.getD j 0)) (vs.length - 1)=j at g1;have oP:j<ks.length:=by omega
   rw[cK,au oP];show cF oP
  ·obtain⟨j,hj⟩:=bU.mp hx;have oP:=(aE.mp hj).1;have:=g2 j (by omega);rw[cK (i:=j),hj]at this;show this
open PySem PySem.Spec PyProof.Rows PySem.W
def Mx:entryFor table "dict.update.loop"=E fP.«dict.update.loop»:=entryFor_of_tree #[9]
def Eo:plainId "dict.update.loop"=sX:=by decide+kernel
def Zx{k:Nat}{Q:Option sV->ag->Prop}
  (hx:s.heap.get? a=E o) (hc:o.cls= .type "list") (oO:o.data= .seq xs k) (hd:o.dict=y) (hA:A.handled=y)
  (h:∀h' tk,(∀b ob,s.heap.get? b=E ob->h'.get? b=E ob)->Q y {s with heap:=h',toks:=tk}):
  wpAny #[1] A (getAttr? (.ref a) "keys") Q sQ s:=by
 show L2.oG λ_ U=>?_;obtain⟨c,oR,dat,sl⟩:=o;apply U;simp only at hc oO hd;subst hc oO hd;show L2.oG λ_ U=>?_;obtain⟨hp,g,d,tk,os⟩:=s;apply U;have oN:iq (.type "list") "keys"=pure y:=am_miss_of_fast #[18];have oK:(["__module__","__name__","__qualname__","__doc__","__annotations__"]:List Str).contains "keys"=sJ:=by decide+kernel
 have hT:∀oP,(⟨hp,g,d,oP,os⟩:ag).TypeIs (.ref a) "list":=λ_=>⟨_,hx,Y⟩;have f1:=sub_AttributeError;have f3:=ij.lookup;have f4:=ij.bind<|.ref a;have f5:=am_list_getattr_none;unfold getAttr? getAttrBy? getAttrBy
 repeat (any_goals (first|assumption|show hT _|((with_reducible change wpAny _ _ (call (Value.builtin "list.__getattribute__") _ _) _ _ _);show dA ij (hT _) am_entry_list_getattribute (F.args_list_getattribute_2 _ _) (meets_getattribute_miss_list a xs k sl "keys" _ oN oK (by size_fits)) ⟨hx,hA,λh' oP e oQ=>?_⟩)|wp_step))
 show L2.oG λ_ U=>?_;obtain⟨t',u',he⟩:=oQ.there;apply U;change wpAny _ _ (getattributeRaised _ _ _ _ _ _ _) _ _ _;unfold getattributeRaised
 repeat (any_goals (first|assumption|wp_step))
 show h _ _ oQ.keeps
section
variable {K:Type} [DecidableEq K] {knd:KeyKind prog w K} {R:gT->ag->Prop} {I D:sK} {fp wr:List sK} {P:Nat->sV->Prop} {St:Nat->Heap->Prop} {kvs:List (K×sV)} {ts:Nat->sK} {z:sV}
def Zq{k:K}(h:k∉ks.map (·.1)):stored ks k v=ks++[(k,v)]:=by
 unfold stored;rw[if_neg];rw[fJ];rintro⟨x,hx,e⟩;show h (aY.mpr ⟨x,hx,of_decide_eq_true e⟩)
theorem Mc(W:Walks prog w A.in1 I fp wr kvs.length P St)(hP:∀i v,i<kvs.length->P i v->v= .ref (ts i))(oY:(kvs.map (·.1)).Nodup)(hsz:kvs.length<=aK)(hD:D∉fp)(oQ:∀i,i<kvs.length->ts i∉wr/\ts i≠D):∀(k j:Nat) (s:ag) (i:Int) (t:Tok),kvs.length - j=k->j<=kvs.length->St j s.heap->
  s.heap.DictOf knd D (kvs.take j)->(∀i p,kvs[i]? =E p->∃key,knd.is p.1 key=sX/\IsTup s.heap (ts i) #[key,p.2])->
  (∀h' tk,h'.DictOf knd D kvs->(∀b o,b∉wr->b≠D->s.heap.get? b=E o->h'.get? b=E o)->R (.ok<|.ret z) {s with heap:=h',toks:=tk})->
  cS #[1] A (.builtin "dict.update.loop" ⟨[.ref D,.ref I,.int i t,z],[]⟩) R s
 |0,j,s,i,t,hk,hj,oS,hd,hp,hR=>by
  have ph:j=kvs.length:=by lia
  subst ph;have oW:D∉wr:=λh=>hD<|W.sub _ h;show dh Mx ?_;rw[dB Eo _];change wpAny _ A.in1 (i9 (.ref I) >>= _) _ _ s;show ae<|W.done s _ _ oS λh' tk oN=>?_;rw[bo]at hd;show ae<|ar (ar<|hR h' tk ?_ λb o hb _ e=>oN b o hb e);obtain⟨o,es,ep,ho,r⟩:=hd;show⟨o,es,ep,oN D _ oW ho,r⟩
 |k+1,j,s,i,t,hk,hj,oS,hd,hp,hR=>by
  have oP:j<kvs.length:=by lia
  have oW:D∉wr:=λh=>hD<|W.sub _ h;show dh Mx ?_;rw[dB Eo _];change wpAny _ A.in1 (i9 (.ref I) >>= _) _ _ s;show ae<|W.item j s _ _ oP oS λv h' tk hv oR oN=>?_;have ev:=hP _ _ oP hv;subst ev;obtain⟨key,oK,o,ho,hc,n,oV⟩:=hp j _<|au oP;obtain⟨t1,t2⟩:=oQ j oP;have oX:=oN _ _ t1 ho;show ae (m:=fA _ _)<|bO ?_;show ae<|eJ ?_;unfold Builtin.Dict.pairItems;show ae<|j5 (T:="tuple") ⟨o,oX,hc⟩ ?_;rw[if_pos #[6]];show ae (eI oX oV<|ar ?_);have pq:h'.DictOf knd D (kvs.take j):=by
   obtain⟨o,es,ep,ho,r⟩:=hd;show⟨o,es,ep,oN D _ oW ho,r⟩
  change wpAny _ A.in1 (fA [key,kvs[j].2]<|dictSet D key kvs[j].2) _ _ _;show bO<|wpAny_dictSet_pairs (hsz:=by rw[a8];lia) oK pq λh2 hd2 oU=>?_;show ar ⟨cD Eo _,?_⟩;have oO:kvs[j].1∉(kvs.take j).map (·.1):=λhm=>by
   obtain⟨x,hx,e⟩:=aY.mp hm;obtain⟨m,pe,oZ⟩:=nK hx;rw[a8]at pe;have pd:m<j:=by lia
   have:=cc.mp oY m j (by simp;lia) (by simp;lia) pd;simp only[List.getElem_map]at this;rw[List.getElem_take]at oZ;show this (by rw[oZ];show e)
  rw[Zq oO,List.take_append_getElem oP]at hd2;show Mc W hP oY hsz hD oQ k (j+1) _ _ _ #[2] oP (W.frame _ _ _ oR λb hb o e=>(oU.2 b (λq=>hD<|q▸hb)).trans e) hd2 (λi p o7=>?_) λh3 o9 pk pf=>?_
  ·obtain⟨key,oK,o,ho,r⟩:=hp i p o7;have pj:i<kvs.length:=(aE.mp o7).1;obtain⟨u1,u2⟩:=oQ i pj;show⟨key,oK,o,(oU.2 _ u2).trans<|oN _ _ u1 ho,r⟩
  ·show hR h3 o9 pk λb o hb o8 e=>pf b o hb o8 ((oU.2 b o8).trans<|oN b o hb e)
def WT{Q:sV->ag->Prop}{rf:List sV}(hA:A.handled=y)(hL:PlainL s.heap p rf.toArray)(hlen:rf.length=kvs.length)(hits:∀(i:Nat) (v:sV),rf[i]? =E v->v= .ref (ts i))(oO:∀i pr,kvs[i]? =E pr->∃key,knd.is pr.1 key=sX/\IsTup s.heap (ts i) #[key,pr.2])
  (oU:(kvs.map (·.1)).Nodup) (hsz:kvs.length<=aK) (hQ:∀h' tk,h'.DictOf knd s.heap.objs.size kvs->(∀b o,s.heap.get? b=E o->h'.get? b=E o)->Q (.ref s.heap.objs.size) {s with heap:=h',toks:=tk}):
  wpAny #[1] A (call (.type "dict") [.ref p]) Q sQ s:=by
 show mJ (Q₁:=λobj rj=>obj= .ref s.heap.objs.size/\rj={s with heap:=s.heap.push {cls:=.type "dict",data:=.dict #[]}}) F.kt_called_dict (F.kt_typeCall_dict_1 _) F.entry_dict_init (kt_code_dict_new _ ⟨Y,Y⟩) ?_;rintro obj rj ⟨rfl,rfl⟩;have oK:(s.heap.push {cls:=.type "dict",data:=.dict #[]}).DictOf knd s.heap.objs.size []:=oF s.heap;show⟨oK.typeIs,F.args_dict_init_2 _ _,?_⟩;generalize hG:s.heap.push {cls:=.type "dict",data:=.dict #[]}=G at oK⊢;have old:∀b o,s.heap.get? b=E o->G.get? b=E o:=λb o e=>by rw[<-hG];show af _ e
 obtain⟨lo,ln,l1,l2,l3,l4⟩:=hL;have oN:=old _ _ l1;unfold fP.«dict.__init__»;show ae ?_;unfold Builtin.Dict.selfAndRest;show ae<|wpAny_notOrdered_dict oK.typeIs ?_;change wpAny _ _ (pure (s.heap.objs.size,[aS p])) _ _ _;show ar ?_;change wpAny _ _ (l0 "dict.__init__" s.heap.objs.size (.ref p) [] .none) _ _ _;unfold l0;show ae<|j5 (T:="list") ⟨lo,oN,l2⟩ ?_;rw[if_pos #[6]];show ae<|Zx oN l2 l4 l3 hA λh2 oZ k2=>?_;rw[if_pos #[5]];show ae<|eN ?_;have oQ:h2.IsList p rf.toArray:=PlainL.isList ⟨lo,ln,k2 _ _ oN,l2,l3,l4⟩;show ae<|ee oQ ?_;have o7:p<G.objs.size:=aq oN;have oP:∀b o,G.get? b=E o->b<h2.objs.size:=λb o e=>aq<|k2 b o e;have oV:s.heap.objs.size≠p:=λe=>absurd (aq l1) (by rw[<-e];show bN _);have oY:s.heap.objs.size<h2.objs.size:=by obtain⟨o,_,_,ho,_⟩:=oK;show oP _ _ ho
 have oS:p<h2.objs.size:=oP _ _ oN;show ar ⟨cD Eo _,?_⟩;have W:=lz (prog:=prog) (w:=w) (A:=A.in1.in1) hA h2.objs.size p (aC oS) rf.toArray;have ez:rf.toArray.size=kvs.length:=by simpa using hlen
 rw[ez]at W;show Mc (knd:=knd) (ts:=ts) W (λi v hi hv=>hits i v (by simpa using hv)) oU hsz ?_ (λi hi=>?_) kvs.length 0 _ _ _ #[8] (aX _) ⟨⟨_,aF _ Y,Y,Y⟩,oQ.push _⟩ ?_ (λi pr hp=>?_) λh3 oR oX oW=>⟨Y,hQ h3 oR oX λb o e=>?_⟩
 ·intro hm;rcases aB.mp hm with e|e
  ·show absurd e (aC oY)
  ·show oV (ai.mp e)
 ·obtain⟨key,_,o,ho,_⟩:=oO i _<|au hi;have g1:=aq ho;have g2:=oP _ _<|old _ _ ho;show⟨λe=>absurd (ai.mp e)<|aC g2,aC g1⟩
 ·obtain⟨o,es,ep,ho,r⟩:=oK;show⟨o,es,ep,af _<|k2 _ _ ho,r⟩
 ·obtain⟨key,hk,o,ho,r⟩:=oO i pr hp;show⟨key,hk,o,af _ (k2 _ _<|old _ _ ho),r⟩
 ·have g1:=aq e;have g2:=oP _ _<|old _ _ e;show oW b o (λz=>absurd (ai.mp z)<|aC g2) (aC g1) (af _ (k2 _ _<|old _ _ e))
end
theorem U1{k:Key}(h:RelV (kV k) v):vP k v=sX:=by
 cases k with
 |inl i=>obtain⟨t,rfl⟩:=h;simp[vP,om]
 |inr x=>obtain⟨t,rfl⟩:=h;simp[vP,nr]
def Ri(K:ax):List V->Hp->VK->Prop:=λxs H Q=>tK λ(p:sK) (ts:List sK) (kvs:List (Key×V))=>tF (xs=[.ref p]) (kq K H p<|ts.map V.ref) (Paired (λt (kv:Key×V)=>H t=E (.tup [kV kv.1,kv.2])) ts kvs) ((kvs.map (·.1)).Nodup) (∀d,H d=y->Q (.ref d) (upd H d<|.dK kvs))
theorem Mb{pins:List (sK×Obj)}{σ:L2.St}{H:Hp}{s:ag}(I:Inv X pins σ H s):∀{ts:List sK} {kvs:List (Key×V)},Paired (λt (kv:Key×V)=>H t=E (.tup [kV kv.1,kv.2])) ts kvs->
  ∃vs:List (Key×sV),KV kvs vs/\∀(i:Nat) (t:sK) (p:Key×sV),ts[i]? =E t->vs[i]? =E p->∃key,vP p.1 key=sX/\IsTup s.heap t #[key,p.2]
 |_,_,.nil=>⟨[],.nil,λi t p e _=>by simp at e⟩
 |t::_,kv::_,.cons h r=>by
  obtain⟨vs,h1,h2⟩:=Mb I r;obtain⟨z,rf,rl,tp⟩:=(show xP X.prog X.w H s.heap t (.tup [kV kv.1,kv.2])from I.rh t _ h);cases rl with
  |cons r1 rl=>
   cases rl with
   |cons r2 rl=>
    cases rl;rename_i u1 u2;show⟨(kv.1,u2)::vs,.cons ⟨Y,r2⟩ h1,λi t' p e1 e2=>?_⟩;cases i with
    |zero=>cases e1;cases e2;show⟨u1,U1 r1,tp⟩
    |succ i=>show h2 i t' p (by simpa using e1) (by simpa using e2)
def WS(hc:X.calm=sX):yH X (.type "dict") (Ri X.K):=by
 intro pins s σ H xs us Q I r h;obtain⟨p,ts,kvs,rfl,hq,hp,oR,q⟩:=h;obtain⟨u,rfl,rx⟩:=vals1 r;cases rx;obtain⟨rf,r',pl,hz⟩:=I.list hq;obtain⟨vs,oK,oP⟩:=Mb I hp;have e1:kvs.length=vs.length:=oK.length;have e2:ts.length=kvs.length:=hp.length;have e3:rf.length=ts.length:=by have:=r'.length;rw[aa]at this;lia
 have oS:ts.length<=aK:=by rw[aa]at hz;show hz
 show WT (knd:=yr X.prog X.w) (kvs:=vs) (ts:=λi=>ts.getD i 0) (I.ok.hd hc) pl #[2] (λi v hv=>?_) (λi pr oO=>?_) (by rw[<-DO oK];show oR) #[2] λh' tk hd hk=>?_
 ·have hi:i<ts.length:=by have:=(aE.mp hv).1;lia
  obtain⟨u,oN,oQ⟩:=r'.get (i:=i) (x:=.ref ts[i]) (by simp[hi]);rw[hv]at oN;cases oN;rw[show v= .ref ts[i]from oQ];simp[bX,hi]
 ·have hi:i<ts.length:=by have:=(aE.mp oO).1;lia
  have:=oP i ts[i] pr (au hi) oO;have e:ts.getD i 0=ts[i]:=by simp[bX,hi]
  change∃key,vP pr.1 key=sX/\IsTup s.heap (ts.getD i 0) #[key,pr.2];rw[e];show this
 ·show⟨.ref s.heap.objs.size,_,I.laid (t':=tk) hk (ah _)<|FD #[2] (beq_eq_false_iff_ne.mpr (aW<|aC I.big)) oK hd,Y,q _ I.fresh⟩
open PySem PySem.Spec PyProof.Rows PySem.W
noncomputable def wL(kk:Nat->List Int):Nat->Nat
 |0=>0
 |j+1=>if HT.lexLt (kk<|j+1) (kk<|wL kk j)=sX then j+1 else wL kk j
theorem JJ(kk:Nat->List Int):∀j,wL kk j<=j
 |0=>ah _
 |j+1=>by
  unfold wL
  split
  ·show ah _
  ·show Nat.le_succ_of_le (JJ kk j)
structure MJ(X:Cx)(H2:Hp)(s2:ag)(G:Hp)(s':ag):Prop where
 os:s'.os=s2.os
 bare:gr s'.gens
 un:Un (tw X.stack) [] H2 G s2.heap s'.heap
 rh:sD X.prog X.w G s'.heap
 same:xf H2 G
def MJ.turn{b:sK}(J:MJ X H2 s2 G s')(fb:G b=y)(hb:s2.heap.objs.size<=b)(k:∀c o,c≠b->s'.heap.get? c=E o->h'.get? c=E o):MJ X H2 s2 G {s' with heap:=h',toks:=t}:=by
 have oK:∀c o,s2.heap.get? c=E o->c≠b:=λc o q=>aC<|az (aq q) hb;show⟨J.os,J.bare,⟨λc o q n1 n2 n3=>k c o (oK c o q)<|J.un.keep c o q n1 n2 n3,λc o q n1 n2 n3=>?_,J.un.free,λc o q n3=>?_,J.un.fix⟩,Mg J.rh fb k,J.same⟩
 ·obtain⟨sl,e⟩:=J.un.slot c o q n1 n2 n3;show⟨sl,k c _ (oK c o q) e⟩
 ·obtain⟨o',e⟩:=J.un.there c o q n3;show⟨o',k c _ (oK c o q) e⟩
def MJ.inv{σ:L2.St}(J:MJ X H2 s2 G s')(I:Inv X pins σ H2 s2):Inv X pins σ G s':=I.tR (s':=s') (ch:=[]) J.os J.un J.rh J.bare λb z=>absurd z #[8]
def Rh(kk:Nat->List Int)(xs:List Int)(G:Hp)(j:Nat)(old:Array sV):Prop:=
 (j=0/\old=#[])\/∃j',j=j'+1/\∃vb d,old=#[vb,.ref d]/\RelV (.int<|xs.getD (wL kk j') 0) vb/\G d=E (.tup<|(kk<|wL kk j').map V.int)
section
variable {k:Nat} {nm qual:Str} {params:c9} {body:d5} {scope:Scope} {ps:List Str} {sp:List (Str×V)->Sp} {σ:L2.St} {f l S It:sK} {fv:List (Str×V)} {kk:Nat->List Int} {xs:List Int} {R:gT->ag->Prop}
theorem U0(F:uq X.prog X.w X.K X.mg X.base sR k nm qual params body scope ps sp)(hr:xR (k+2) X.A)(pN:X.calm=sX)(I:Inv X pins σ H2 s2)(hc:yx H2 f nm qual params body scope fv)(hl:kq X.K H2 l (xs.map V.int))(pI:0<xs.length)
  (pG:∀i x,xs[i]? =E x->∀H3,xf H2 H3->sp fv [.int x] H3 (λv H4=>xf H3 H4/\∃d,v= .ref d/\H4 d=E (.tup<|(kk i).map V.int)) E0)
  (hS:s2.heap.objs.size<=S) (hI:s2.heap.objs.size<=It) (pf:S≠It)
  (fin:∀v sF G',Inv X pins σ G' sF->xf H2 G'->RelV (.int<|xs.getD (wL kk<|xs.length - 1) 0) v->R (.ok<|.ret v) sF):
  ∀(r j:Nat) (s':ag) (G:Hp) (old:Array sV) (c:Nat),xs.length - j=r->j<=xs.length->MJ X H2 s2 G s'->G S=y->G It=y->s'.heap.get? S=E (bA "list" old c)->Rh kk xs G j old->s'.heap.IsListIter It l j->
   cS #[3] X.A (.builtin "min.loop" ⟨[.ref It,.ref f,.ref S],[]⟩) R s':=by
  intro r
  induction r using Nat.strongRecOn with|ind r ih=>
  intro j s' G old c hk hj J fS fI atS hb hit;have oN:(toString "min"++toString ".loop":String)="min.loop":=by decide
  have Iu:=J.inv I;show L2.oG λ_ U=>?_;obtain⟨rf,rel,pl,_⟩:=Iu.list<|J.same.seq hl;apply U;have hn:rf.length=xs.length:=by have:=rel.length;rw[aa]at this;show this.symm
  have pK:l≠It:=λz=>by
   show L2.oG λ_ U=>?_;obtain⟨oK,_,⟨o,n,e,_⟩,_⟩:=I.list hl;apply U;show absurd (aq e) (by rw[z];show Nat.not_lt.mpr hI)
  have W:=lz (prog:=X.prog) (w:=X.w) (A:=X.A.in1) (I.ok.hd pN) It l pK rf.toArray;have hsz:rf.toArray.size=xs.length:=by simpa using hn
  show dh PySem.F.entry_min_loop ?_;rw[dB PySem.F.plain_min_loop _];change wpAny _ X.A.in1 (iX (.ref S) >>= _) _ _ _;show ae<|eI atS Y ?_;change wpAny _ X.A.in1 (tryCatch (i9<|.ref It) _ >>= _) _ _ _;cases r with
  |zero=>
   have ej:j=xs.length:=by lia
   show ae (eJ<|W.done _ _ _ ⟨by rw[hsz,<-ej];show hit,pl.isList⟩ λh' oU oW=>?_);have J1:MJ X H2 s2 G {s' with heap:=h',toks:=oU}:=J.turn fI hI λc o hc q=>oW c o (by simpa using hc) q;have oQ:=oW S _ (by simpa using pf) atS;rcases hb with⟨z,_⟩|⟨j',pE,vb,d,rfl,rv,hd⟩
   ·lia
   change wpAny _ X.A.in1 (g9 S (λ_=>#[]) >>= _) _ _ _;show ae<|dg oQ Y (ae (dJ<|ar ?_)) (by change(2:Nat)<=_;decide);have s1:=cu h' S<|bb λ_=>(#[]:Array sV);have J2:=J1.turn (h':=h'.update S<|bb λ_=>(#[]:Array sV)) (t:=oU) fS hS λc o hc q=>(s1.2 c hc).trans q;show fin vb _ G (J2.inv I) J.same ?_;have:xs.length - 1=j':=by lia
   rw[this];show rv
  |succ r=>
   have oR:j<xs.length:=by lia
   show ae (eJ<|W.item j _ _ _ (by rw[hsz];show oR) ⟨hit,pl.isList⟩ λv h' oU hP pd oW=>?_);have J1:MJ X H2 s2 G {s' with heap:=h',toks:=oU}:=J.turn fI hI λc o hc q=>oW c o (by simpa using hc) q;have oQ:=oW S _ (by simpa using pf) atS;show L2.oG λ_ U=>?_;obtain⟨oI,pC,pB,pA⟩:=pd.1;apply U;have hv:rf[j]? =E v:=by simpa using hP
   show L2.oG λ_ U=>?_;obtain⟨u,pz,o9⟩:=rel.get (i:=j) (x:=.int xs[j]) (by simp[oR]);apply U;rw[hv]at pz;cases pz;have pO:=J1.inv I;have IC:x9 X.prog X.w X.K X.mg X.base X.A.in1 X.stack {s' with heap:=h',toks:=oU} G:=by
    have e:=pO.wI;show⟨e.frames,e.mod,e.bs,e.wK,e.sH,e.wW,e.rh,e.bare⟩
   change wpAny _ X.A.in1 (tryCatch (fA [v]<|call (.ref f) [v]) _ >>= _) _ _ _;show ae (eJ<|bO (fV<|dI (F.run X.A.in1 X.stack _ G f fv _ [.int xs[j]] _ E0 (hr.in1.mono<|cU k) IC (hc.same J.same) (.cons o9 .nil)<|pG j xs[j] (au oR) G J.same) λrr oO hq=>?_));cases rr with
   |error e=>show hq.elim
   |ok fl=>
    cases fl with
    |next=>show hq.elim
    |brk=>show hq.elim
    |cont=>show hq.elim
    |ret u=>
     show L2.oG λ_ U=>?_;obtain⟨v',H',pJ,oY,oV,oS,pH,pD,d,rfl,hd⟩:=hq;apply U;cases pH;have oP:=oV.keep S _ oQ fS (I.young hS) #[8];have oZ:=oV.keep It _ pC fI (I.young hI) #[8];have o8:H' S=y:=oV.free S _ oQ fS #[8];have ph:H' It=y:=oV.free It _ pC fI #[8];have J2:MJ X H2 s2 H' oO:=⟨pJ.trans J.os,oY,J1.un.trans oV,oS,J.same.trans pD⟩;have pj:∀(oK:Array sV),∃c2,(oO.heap.update S<|bb λ_=>oK).get? S=E (bA "list" oK c2):=λoK=>⟨_,gK oP λ_=>oK⟩;have pk:∀(oK:Array sV) (t:Nat),MJ X H2 s2 H' {oO with heap:=oO.heap.update S<|bb λ_=>oK,toks:=t}:=λoK t=>
      J2.turn o8 hS λc o hc q=>((cu oO.heap S<|bb λ_=>oK).2 c hc).trans q
     have pq:∀(oK:Array sV),(oO.heap.update S<|bb λ_=>oK).IsListIter It l (j+1):=λoK=>⟨oI,((cu oO.heap S<|bb λ_=>oK).2 It pf.symm).trans oZ,pB,pA⟩;rcases hb with⟨z,rfl⟩|⟨j',pE,vb,db,rfl,rv,pL⟩
     ·subst z;change wpAny _ X.A.in1 (g9 S (λ_=>#[v,.ref d]) >>= _) _ _ _;show ae<|dg oP Y ?_;rw[oN];obtain⟨c2,pe⟩:=pj #[v,.ref d];show ar ⟨cD PySem.F.plain_min_loop _,ih r (du r) 1 _ H' _ c2 #[2] oR (pk _ _) o8 ph pe (.inr ⟨0,Y,v,d,Y,?_,hd⟩)<|pq _⟩;have:xs.getD (wL kk 0) 0=xs[0]:=by simp[wL,bX,oR]
      rw[this];show o9
     ·have oX:=pD.at pL;show L2.oG λ_ U=>?_;obtain⟨_,pF,r1,p1⟩:=(show xP X.prog X.w H' oO.heap d _ from oS d _ hd);obtain⟨_,oK,r2,p2⟩:=(show xP X.prog X.w H' oO.heap db _ from oS db _ oX);apply U;change wpAny _ X.A.in1 (tryCatch (fA [v,.ref d]<|bH .Lt (.ref d) (.ref db) >>= _) _ >>= _) _ _ _;show ae (eJ<|bO (ae<|HT.XF p1 p2 (intsAre_of r1) (intsAre_of r2) hr.in1.wA ?_));show ae (bO<|cH ?_);show ae (dJ<|ar ?_);have ex:xs.getD j 0=xs[j]:=by simp[bX,oR]
      subst pE
      by_cases o7:HT.lexLt (kk<|j'+1) (kk<|wL kk j')=sX
      ·have eb:wL kk (j'+1)=j'+1:=by change(if _ then _ else _)=_;rw[if_pos o7]
       simp only[o7,if_true];show ae<|dg oP Y (ae<|dJ ?_) (by change(2:Nat)<=_;decide);rw[oN];obtain⟨c2,pe⟩:=pj #[v,.ref d];show ar ⟨cD PySem.F.plain_min_loop _,ih r (du r) (j'+1+1) _ H' _ c2 #[2] oR (pk _ _) o8 ph pe (.inr ⟨j'+1,Y,v,d,Y,?_,?_⟩)<|pq _⟩
       ·rw[eb,ex];show o9
       ·rw[eb];show hd
      ·have eb:wL kk (j'+1)=wL kk j':=by change(if _ then _ else _)=_;rw[if_neg o7]
       simp only[o7,cA,if_false];show ae<|dJ ?_;rw[oN];show ar ⟨cD PySem.F.plain_min_loop _,ih r (du r) (j'+1+1) _ H' _ c #[2] oR J2 o8 ph oP (.inr ⟨j'+1,Y,vb,db,Y,?_,?_⟩) ⟨oI,oZ,pB,pA⟩⟩
       ·rw[eb];show rv
       ·rw[eb];show oX
def Qi(K:ax)(nm qual:Str)(params:c9)(body:d5)(scope:Scope)(sp:List (Str×V)->Sp)(ta:TA)(tf:TE):TE:=λσ H Q=>ta σ H λys H1=>tf σ H1 λsZ H2=>tE λ(l f:sK) (xs:List Int) (fv:List (Str×V)) (kk:Nat->List Int)=>AH (ys=[.ref l]) (sZ= .ref f) (kq K H2 l<|xs.map V.int) (0<xs.length) (yx H2 f nm qual params body scope fv) ((∀i x,xs[i]? =E x->∀H3,xf H2 H3->sp fv [.int x] H3 (λv H4=>xf H3 H4/\∃d,v= .ref d/\H4 d=E (.tup<|(kk i).map V.int)) E0)) (∀(H':Hp),xf H2 H'->Q (.int<|xs.getD (wL kk<|xs.length - 1) 0) H')
def Th{kp:Pos}(F:uq X.prog X.w X.K X.mg X.base sR k nm qual params body scope ps sp)(hr:xR (k+2) X.A)(hc:X.calm=sX)(hg:Gl X "min")(hm:X.mg "min"=y)(ha:PA X [e] ta)(hf:PE X fe tf)
  (he:autoParam (bY pos (aM [e] X.env)=(sJ,eval e X.env)::bY pos (aM [] X.env)) rJ):
  PE X (.Call (.Name "min" p) [e] [⟨E "key",fe,kp⟩] pos) (Qi X.K nm qual params body scope sp ta tf):=by
 intro pins s σ H Q I h;show bL<|zJ I hg hm Bn ?_ #[6] #[6];show mB (zS #[16] λus s1 xs H1 I1 r1 q1=>?_) he (by rw[he];rfl) rfl rfl;show ng<|xQ (hf pins s1 σ H1 _ I1 q1) λfu s2 sZ H2 I2 r2 q2=>kws_nil ?_;obtain⟨l,f,xs,fv,kk,rfl,rfl,hl,oN,oR,oQ,q⟩:=q2;obtain⟨u,rfl,ru⟩:=Vals.one r1;cases ru;cases r2;have oK:(toString "min"++toString ".loop":String)="min.loop":=by decide
 obtain⟨rf,rel,pl,_⟩:=I2.list hl;change wpAny _ _ (call (.builtin "min") [.ref l] [(bF "key",.ref f)]) _ _ s2;show kmb_tree PySem.F.kind_min PySem.F.plain_min PySem.F.entry_min (kmb_min_key _ _) ?_;change wpAny _ X.A.in1 (eR "min" ["key","default"] 0 ⟨[],[(bF "key",.ref f)]⟩ >>= _) _ _ s2;show ae<|kF (show eR "min" ["key","default"] 0 ⟨[],[(bF "key",.ref f)]⟩=pure [E<|.ref f,y]from rfl) ?_;show ae<|ar ?_;show ae<|ee pl.isList ?_;show ae (iF ?_<|aX _);rw[oK];show ar ⟨cD PySem.F.plain_min_loop _,?_⟩;have oO:(s2.heap.push {cls:=.type "list_iterator",data:=.fields #[.ref l,.int 0 0]}).objs.size=s2.heap.objs.size+1:=cT ..;have oP:s2.heap.objs.size<=(s2.heap.push {cls:=.type "list_iterator",data:=.fields #[.ref l,.int 0 0]}).objs.size:=by rw[oO];show cU _
 have old:∀b o,s2.heap.get? b=E o->((s2.heap.push {cls:=.type "list_iterator",data:=.fields #[.ref l,.int 0 0]}).push<|bA "list" #[] 0).get? b=E o:=λb o e=>af _<|af _ e;show U0 (kk:=kk) F hr hc I2 oR hl oN oQ oP (ah _) (by rw[oO];show eP<|du _) (λv sF G' IF sm rv=>?_) xs.length 0 _ H2 #[] 0 #[8] (aX _) ⟨Y,I2.bare,Un.kept old,I2.rh.kept old,xf.refl _⟩
  (I2.rh.fresh oP) (I2.rh.fresh<|ah _) (aF _ Y) (.inl ⟨Y,Y⟩) ⟨_,af _<|aF _ Y,Y,Y⟩
 show⟨_,G',IF,rv,q G' sm⟩
end
end Internal.L2
namespace PySem.W
open PySem PySem.Calls PyProof.Rows
def Tg(h:Heap)(ks:List sV):Prop:=∀v∈ks,∃i t,v= .int i t
section
variable {prog:a9} {w:World} {A:bx} {sQ:sV->ag->Prop} {s:ag} {a kS:sK} {vs:List sV} {e1:Nat} {f:sV} {P:PySem.Fin->ag->Prop}
def Tf(prog:a9)(w:World)(A:bx)(kS a:sK)(vs:List sV)(P:PySem.Fin->ag->Prop)(ks:List sV)(s:ag):Prop:=
 ∃lt:Nat->Nat->Bool,L2.Ac lt vs.length/\Tg s.heap ks/\(∀i j (C:Bool->ag->Prop),i<vs.length->j<vs.length->C (lt i j) s->wpAny #[1] A (keyLt' lN (ks.getD i bz)<|ks.getD j bz) C (λ_ _=>False) s)/\
 ∀p:Array Nat,L2.Pm vs.length p->L2.Up lt p vs.length->∀h' c,(∀b o,b≠kS->b≠a->s.heap.get? b=E o->h'.get? b=E o)->h'.get? a=E (bA "list" (aL<|p.toList.map λi=>vs.getD i bz) c)->P (.done<|.ret .none) {s with heap:=h'}
def UZ(oP:a≠kS)(hl:ks.length=vs.length)(oO:vs.length<64)(ha:s.heap.get? a=E (bA "list" #[] e1))(hk:s.heap.get? kS=E (bA "list" (aL ks) e))
  (h:Tf prog w A kS a vs P ks s):wpAny #[1] A (mO a sJ vs.toArray e1 (.ref kS)<|aL ks) P sQ s:=by
 obtain⟨lt,S,hL,oN,fin⟩:=h;unfold mO
 try dsimp only
 by_cases h2:2<=vs.length
 ·have oK:¬vs.toArray.size<2:=by rw[aH];lia
  have oS:wpAny #[1] A (keyKind'<|aL ks) (λκ s'=>κ=lN/\s=s') (λ_ _=>False) s:=kas_kind (T:=cL "int") #[2] (λv hv=>by obtain⟨i,t,rfl⟩:=hL v hv;show .now) #[6] #[6] ⟨Y,Y⟩;simp only[cA,if_false];rw[if_neg oK,if_neg oK];show ae<|aR oS (λκ s0 hk=>?_) λ_ _ x=>x.elim;obtain⟨rfl,rfl⟩:=hk;have hw:(kas_sort vs.length).kasWp (kas_ask prog w A lN ks) (λp oQ=>s=oQ/\L2.Pm vs.length p/\L2.Up lt p vs.length) s:=by
   show L2.Wp.OH (lt:=lt) (n:=vs.length) (λi j C hi hj hc=>oN i j C hi hj hc) ?_;show L2.wp_mono (L2.SI S h2) λq hq=>⟨Y,hq⟩
  show ae (aR (kat_run (Q:=λrn s'=>∃p:Array Nat,arrOf rn=p.map (kas_item ((aL ks).zip<|aL vs))/\kA rn=y/\s=s'/\L2.Pm vs.length p/\L2.Up lt p vs.length)
   hl h2 oO (λp' rn s' a1 a2 a3 a4=>⟨p',a2,a3,a4⟩) hw) ?_ λ_ _ x=>x)
  rintro⟨⟨⟩,rn⟩ s' ⟨p,oU,hf,rfl,hp,hu⟩
  try dsimp only
  show LM oP (kat_snds hl oU) (by rw[aa,aU,hp.size];show oO) #[2] hf ha hk λh' c k1 k2=>fin p hp hu h' c k1 k2
 ·have oK:vs.toArray.size<2:=by rw[aH];lia
  simp only[cA,if_false];rw[if_pos oK,if_pos oK];show ae<|ar ?_;show ae (ar ?_)
  try dsimp only
  have oR:(arrOf<|lA general' ((aL ks).zip<|aL vs) #[] 7 y).map (·.2)=aL vs:=by
   change((aL ks).zip<|aL vs).map (·.2)=aL vs;apply iP.mp;simp[lR,hl]
  show LM oP oR oO #[2] rfl ha hk λh' c k1 k2=>fin (aL<|bD vs.length) ⟨by simp,by simp⟩ (λi j oV hj=>by lia) h' c k1 ?_;have e:((aL<|bD vs.length).toList.map λi=>vs.getD i bz)=vs:=by
   apply fi;intro i
   by_cases hi:i<vs.length
   ·simp[hi]
   ·simp[hi]
  rw[e];show k2
end
end PySem.W
namespace Internal.L2
open PySem PySem.Spec PyProof.Rows PySem.W
variable {X:Cx} {n:Int} {c:Nat} {tg:Expr} {K:ax} {H2:Hp} {te:TE}
section
variable {k:Nat} {nm qual:Str} {params:c9} {body:d5} {scope:Scope} {ps:List Str} {sp:List (Str×V)->Sp} {pins:List (sK×Obj)} {σ:St} {s2:ag} {f D kS:sK} {fv:List (Str×V)} {kk:Nat->Int} {vs:List sV} {xs:List V} {P:PySem.Fin->ag->Prop} {e1:Nat}
end
open PySem PySem.Spec PyProof.Rows
def UY(e:X.K=K)(hl:PE X l tl):PI X tg l (JA K tl):=e▸xS hl
open PySem PySem.Spec PyProof.Rows
def NM{l:sK}{xs:List V}{r8:L2.St}{Q:VK}(Pv:Nat->List V->Hp->Prop)(hl:kq K H2 l xs)(hn:xs.length<=aK)(h0:Pv 0 [] H2)
  (hs:∀(i:Nat) x acc H3 sI,xs[i]? =E x->xf H2 H3->xf H3 sI->Pv i acc H3->∃T v1 v2,x= .ref T/\rM K sI T [v1,v2]/\∀R:VK,#[13]->te (E v1::E v2::r8) sI R)
  (hd:∀D acc H H',H2 D=y->H D=y->xf H2 H->xf H H'->Pv xs.length acc H->acc.length=xs.length->H' D=E (.lst acc)->Q (.ref D) H'):Bv K (Aq K l) r8 AM te Q H2:=by
 unfold Bv;intro D hD;show⟨λi m acc H3=>m=xs.length - i/\i<=xs.length/\acc.length=i/\H3 D=E (.lst acc)/\xf H2 (del H3 D)/\Pv i acc (del H3 D),⟨xs.length,by simp,aX _,Y,xk,?_,?_⟩,?_⟩
 ·rw[zh,vE hD];show xf.refl _
 ·rw[zh,vE hD];show h0
 rintro i m acc H3 ⟨rfl,hi,oK,oN,s3,p3⟩;show⟨oN,?_⟩;have q:=(s3.trans zZ).seq hl
 by_cases oO:i<xs.length
 ·have hx:xs[i]? =E xs[i]:=au oO;show .inr ⟨⟨xs,xs[i],q,hx⟩,by lia,λv H4 sZ=>?_⟩;obtain⟨e,sZ⟩:=sZ;have ev:=sZ xs q;rw[hx]at ev;cases ev;subst e;obtain⟨T,v1,v2,h1,h2,h3⟩:=hs i _ acc _ _ hx s3 zZ p3;show⟨T,v1,v2,h1,h2,λ_=>?_,λz=>by cases z⟩;show h3 _ λu u5 s6 k=>⟨s6.at oN,xs.length - (i+1),by lia,Y,oO,by simp[oK],xk,?_,?_⟩
  ·rw[zh];show s3.trans (vF s6)
  ·rw[zh];show k _ (vF s6) λp o q1 q2=>?_;rw[jP (λz=>by
    rcases q1 with q1|q1
    ·rw[z,oN]at q1;cases q1
    ·rw[z,s6.at oN]at q2;cases q2;show q1 _ rfl)]
   show q2
 ·have e:i=xs.length:=by lia
  subst e;show .inl ⟨⟨xs,q,ah _⟩,hd D acc _ H3 hD va s3 zZ p3 oK oN⟩
open PySem PySem.Spec PyProof.Rows
noncomputable def DE(sep:Str):List Str->Str
 |[p]=>p
 |ss=>Builtin.Str.glued sep ss
noncomputable def Dv(sep:Str)(ss:List Str):Nat:=Array.foldl (λx1 x2=>x1+x2.length+sep.length) 0 ss.toArray
theorem KL:∀{ss:List Str} {us:List sV},Vals (ss.map V.str) us->∃l:List (Str×Tok),us=strValues l/\l.map (λx=>x.1)=ss
 |[],us,h=>by cases h;show⟨[],Y,Y⟩
 |s::ss,us,h=>by
  cases h with
  |cons a b=>
   obtain⟨t,rfl⟩:=a;obtain⟨l,rfl,rfl⟩:=KL b;show⟨(s,t)::l,Y,Y⟩
def rJoin(K:ax):V->List V->Hp->VK->Prop:=λx vs H Q=>tK λ(sep:Str) (l:sK) (ss:List Str)=>tY (x= .str sep) (vs=[.ref l]) (kq K H l<|ss.map V.str) (Dv sep ss<=aK) ((DE sep ss).length<=aK) (Q (.str<|DE sep ss) H)
def KJ:A4 X "str.join" (rJoin X.K):=by
 intro pins s σ H x vs v us Q I rx rv h;obtain⟨sep,a,ss,rfl,rfl,hq,hl,oN,q⟩:=h;obtain⟨t,rfl⟩:=rx;obtain⟨u,rfl,ru⟩:=rv.one;cases ru;obtain⟨rf,r',pl,hz⟩:=I.list hq;obtain⟨l,rfl,rfl⟩:=KL r';have oK:Builtin.Str.tooLong (Array.foldl (λx1 x2=>x1+x2.length+sep.length) 0 (oB (λx=>x.fst) l).toArray)=sJ:=decide_eq_false (by unfold Dv at hl;lia);show dA F.slot_str_join (fW s sep t) F.entry_str_join (F.args_str_join_2 _ _) (meets_str_join_list sep t a l oK) ⟨pl.isList,?_⟩;rcases l with _|⟨p,_|⟨p2,l⟩⟩
 ·show⟨oN,.str _,H,I.tok _,⟨_,Y⟩,q⟩
 ·show⟨.str _,H,I.tok _,⟨_,Y⟩,q⟩
 ·show⟨oN,.str _,H,I.tok _,⟨_,Y⟩,q⟩
def Te:V->List V->Hp->VK->Prop:=λx vs H Q=>∃(z sZ:Str),x= .str z/\vs=[.str sZ]/\Q (.bl<|decide (0+sZ.length<=z.length)&&lh z sZ 0) H
def HZ:A4 X "str.startswith" Te:=by
 intro pins s σ H x vs v us Q I rx rv h;obtain⟨z,sZ,rfl,rfl,q⟩:=h;obtain⟨t,rfl⟩:=rx;obtain⟨u,rfl,ru⟩:=rv.one;obtain⟨t2,rfl⟩:=ru;show dA F.slot_str_startswith (fW s z t) F.entry_str_startswith (F.args_str_startswith_2 _ _) (gives_str_startswith z sZ t t2).meets ?_;show⟨.bl _,H,I.tok _,Y,q⟩
theorem Mw:∀(ss:List Str) (t:Nat),Vals (ss.map V.str) (strsFrom t ss)
 |[],t=>by unfold strsFrom;show .nil
 |s::ss,t=>by unfold strsFrom;show .cons ⟨t,Y⟩ (Mw ss<|t+1)
open PySem PySem.Spec PyProof.Rows
def Qh(c:Str)(te:TE):TE:=λσ H Q=>(cy++c).length<=aK/\te σ H λx H1=>∃i:Int,x= .int i/\i.natAbs.log2<1920/\(cy++c++bF (toString i)).length<=aK/\Q (.str<|cy++c++bF (toString i)) H1
def Td{c:Str}(he:PE X e te):PE X (.JoinedStr [.Constant (.str c) j p1,.FormattedValue e (-1) y p2] pos) (Qh c te):=by
 intro pins s σ H Q I h;obtain⟨hl,h⟩:=h;show wpAny_JoinedStr (gA<|fT ⟨c,_,Y,hl,gA ?_⟩);show ff<|xQ (he pins _ σ H _ (I.tok _) h) λv s1 x H1 I1 r1 q1=>?_;obtain⟨i,rfl,hi,oK,q⟩:=q1;obtain⟨t,rfl⟩:=r1;show gv hi ⟨_,_,Y,oK,Joins_nil ⟨oK,?_⟩⟩;show⟨.str _,H1,(I1.tok _).tok _,⟨_,Y⟩,q⟩
noncomputable def Pq:V->Option Str
 | .int i=>E (bF<|toString i)
 | .str z=>E z
 |_=>y
theorem Cb:yH X (.type "str") (λxs H Q=>∃(x:V) (z:Str),xs=[x]/\Pq x=E z/\(∀i,x= .int i->i.natAbs.log2<1920)/\Q (.str z) H):=by
 intro pins s σ H xs us Q I r h;obtain⟨x,z,rfl,hz,hb,q⟩:=h;obtain⟨u,rfl,rx⟩:=vals1 r;cases x with
 |int i=>
  obtain⟨t,rfl⟩:=rx;cases hz;show PySem.P.str_of_int (hb i Y) ⟨.str _,H,I.tok _,⟨_,Y⟩,q⟩
 |str sZ=>
  obtain⟨t,rfl⟩:=rx;cases hz;show PySem.P.str_of_str ⟨.str _,H,I.tok _,⟨_,Y⟩,q⟩
 |_=>cases hz
open PySem PySem.Spec PyProof.Rows
noncomputable def AJ(z:Str)(lo hi:Option Int):Str:=⟨((z.cps.toList.drop<|HT.sN z.length 0 lo).take<|HT.sN z.length z.length hi - HT.sN z.length 0 lo).toArray⟩
def Rg(lo hi:Option Int)(n:Nat):Builtin.Str.strSliceIndices lo hi 1 n=sliceRange ((HT.sN n 0 lo:Nat):Int) ((HT.sN n n hi:Nat):Int) 1:=by
 obtain⟨h1,h2,h3⟩:=NY lo hi n;rw[<-h1,<-h2];rfl
def Pp:V->Option Int->Option Int->Hp->VK->Prop:=λx lo hi H Q=>∃z,x= .str z/\z.length<=aK/\Q (.str<|AJ z lo hi) H
theorem Rf:ET X Pp:=by
 intro pins s σ H x v vl vu lo hi sl Q I rx hs pl pu h;obtain⟨z,rfl,hz,q⟩:=h;obtain⟨t,rfl⟩:=rx;show⟨"str",_,slot_str_getitem.lookup,fW s z t,?_⟩;obtain⟨l,hl⟩:∃l:Option (Int×Tok),vl=partValue l/\l.map (·.1)=lo:=by
  cases pl with
  |none=>show⟨y,Y,Y⟩
  |int i t=>show⟨E (i,t),Y,Y⟩
 obtain⟨u,hu⟩:∃u:Option (Int×Tok),vu=partValue u/\u.map (·.1)=hi:=by
  cases pu with
  |none=>show⟨y,Y,Y⟩
  |int i t=>show⟨E (i,t),Y,Y⟩
 obtain⟨rfl,rfl⟩:=hl;obtain⟨rfl,rfl⟩:=hu;show wpAny_getItem_str_slice (st:=y) (l:=l) (u:=u) hs rfl ?_;have hp:slicePicked z l u y=(bD<|HT.sN z.length z.length (u.map (·.1)) - HT.sN z.length 0 (l.map (·.1))).map λx=>HT.sN z.length 0 (l.map (·.1))+x:=by
  unfold slicePicked;rw[show((y:Option (Int×Tok)).map λx=>x.fst).getD 1=1 from rfl,Rg,sliceRange_one]
 have he:(List.filterMap (λoN=>z.cps[oN]?)<|slicePicked z l u y).toArray=(AJ z (l.map (·.1))<|u.map (·.1)).cps:=by
  rw[hp,pick_run];rfl
 unfold sliceMade
 split
 ·rename_i hc;have hlen:HT.sN z.length z.length (u.map (·.1)) - HT.sN z.length 0 (l.map (·.1))=z.length:=by
   have:=hc;rw[hp]at this;simpa using this
  have oK:AJ z (l.map (·.1)) (u.map (·.1))=z:=by
   have hb:HT.sN z.length z.length (u.map (·.1))<=z.length:=HT.So _ _ (ah _) _;unfold AJ;rw[hlen];have oO:z.cps.toList.length=z.length:=by simp[eO]
   by_cases h0:z.length=0
   ·have:z.cps.toList=[]:=dD.mp #[2];rw[this];have:z.cps=#[]:=by rw[<-nh (xs:=z.cps),this]
    cases z
    simp_all
   ·have ha:HT.sN z.length 0 (l.map (·.1))=0:=by lia
    rw[ha,dQ,bE #[2],nh]
  rw[oK]at q;show⟨.str _,H,I.tok _,⟨_,Y⟩,q⟩
 ·rw[he];show⟨?_,.str _,H,I.tok _,⟨_,Y⟩,q⟩;have oO:z.cps.toList.length=z.length:=by simp[eO]
  change(AJ z (l.map (·.1))<|u.map (·.1)).cps.size<=aK;unfold AJ;rw[aH,a8,bC];lia
open PySem PySem.Spec PyProof.Rows
def Fg(z:Str):It:=⟨λi _=>i<z.cps.size,λi H x H'=>H'=H/\∃c,z.cps[i]? =E c/\x= .str ⟨#[c]⟩,λi _=>i=z.cps.size⟩
def Ma(h:A.handled=y)(it:sK)(z:Str)(t:Tok):Walks P w A it [it] [it] z.cps.size (SignAt z) (λi h=>h.IsStrIter it (iD z) z t i):=by
 unfold iD
 split
 ·show Walks.strAscii h it z t
 ·show Walks.strWide h it z t
def Z2(z:Str):["enumerate","zip","dict_itemiterator","dict_reverseitemiterator","odict_iterator","itertools.zip_longest","itertools.pairwise"].contains (iD z)=sJ:=by
 unfold iD
 split<;> decide
def UX(z:Str)(t:Tok)(it:sK):Turn P w K tg (Fg z) [it] it (λi h=>h.IsStrIter it (iD z) z t i) where
 mem:=by simp
 obj:=λi h st b hb=>by
  have e:b=it:=by simpa using hb
  subst e;obtain⟨o,e,c,d⟩:=st;show⟨o,e,λv z=>by rw[d]at z;cases z⟩
 keep:=λi h h' st k=>by
  obtain⟨o,e,c,d⟩:=st;show⟨o,k it #[8] o e,c,d⟩
 item:=by
  intro X hP hw hK hc i pins s σ H sQ I hf st hg;subst hP hw hK;obtain⟨f0,f1,f2,f3,f4,f5⟩:=hf it #[8];show(Ma (I.ok.hd hc) it z t).item i s _ sQ hg st λv h' tk hv rn hk=>?_;obtain⟨c,u,oK,rfl⟩:=hv;have I1:Inv X pins σ H {s with heap:=h',toks:=tk}:=I.turned (t':=tk) (λb o hb e=>hk b o (by simpa using hb) e) f0 f1 f3 f4 f5;obtain⟨o,e,cl,d⟩:=id rn;show⟨_,Y,BV (s:={s with heap:=h',toks:=tk}) e cl d (Z2 z) ⟨.str ⟨#[c]⟩,H,I1,⟨_,Y⟩,⟨Y,c,oK,Y⟩,rn,λb hb=>(hf b hb).1⟩⟩
 done:=by
  intro X hP hw hK hc i pins s σ H sQ I hf st hg;subst hP hw hK;obtain⟨f0,f1,f2,f3,f4,f5⟩:=hf it #[8];have hg:i=z.cps.size:=hg;subst hg;show(Ma (I.ok.hd hc) it z t).done s _ sQ st λh' tk hk=>⟨Y,I.turned (t':=tk) (λb o hb e=>hk b o (by simpa using hb) e) f0 f1 f3 f4 f5⟩
 self:=λA i s Q sQ st h=>by
  unfold iD at st
  split at st
  ·show wpAny_pyIter_striter_ascii st h
  ·show wpAny_pyIter_striter_wide st h
def Po(tl:TE):TI:=λσ H R=>tl σ H λx H1=>∃z,x= .str z/\R (Fg z) H1
def Rc(hl:PE X l tl):PI X tg l (Po tl):=by
 intro pins s σ H R I h;show xQ (hl pins s σ H _ I h) λv s1 x H1 I1 r1 q1=>?_;obtain⟨z,rfl,q⟩:=q1;obtain⟨t,rfl⟩:=r1;show wpAny_pyIter_strU ?_;show⟨s1.heap.objs.size,[s1.heap.objs.size],_,_,H1,Y,I1.kept (t':=s1.toks) λb o e=>af _ e,UX z t _,⟨_,aF _ Y,Y,Y⟩,λb hb=>?_,q⟩;have e:b=s1.heap.objs.size:=by simpa using hb
 subst e;show I1.tQ (ah _) (I1.rh.fresh<|ah _)
def UW{z:Str}{r8:L2.St}{Q:VK}(f:Nat->V)(hn:z.cps.size<=aK)
  (hs:∀(c:Nat) (H3:Hp),c∈z.cps.toList->xf H2 H3->∀R:VK,(∀H6,xf H3 H6->R (f c) H6)->te (E (.str ⟨#[c]⟩)::r8) H3 R)
  (hd:∀D H',H2 D=y->xf H2 H'->H' D=E (.lst<|z.cps.toList.map f)->Q (.ref D) H'):zw (Fg z) r8 AM te Q H2:=by
 unfold zw;intro D hD;have hz:z.cps.toList.length=z.cps.size:=aU;show⟨λi m acc H3=>m=z.cps.size - i/\i<=z.cps.size/\acc=(z.cps.toList.take i).map f/\H3 D=E (.lst acc)/\xf H2 H3,⟨z.cps.size,by simp,aX _,Y,xk,xf.new hD⟩,?_⟩;rintro i m acc H3 ⟨rfl,hi,rfl,oK,s3⟩;show⟨oK,?_⟩
 by_cases oN:i<z.cps.size
 ·show .inr ⟨oN,by rw[aa,a8];lia,λv H4 sZ=>?_⟩;obtain⟨e,c,hc,ev⟩:=sZ;subst e;subst ev;have oO:z.cps.toList[i]? =E c:=by rw[eX];show hc
  show⟨λ_=>?_,λz=>by cases z⟩;show hs _ _ (aj oO) s3 _ λH6 s6=>⟨s6.at oK,z.cps.size - (i+1),by lia,Y,oN,?_,xk,(s3.trans s6).put hD⟩;rw[bh,oO,aO];rfl
 ·have e:i=z.cps.size:=by lia
  subst e;rw[<-hz,bo]at oK;show .inl ⟨Y,hd D H3 hD s3 oK⟩
open PySem PySem.Spec PyProof.Rows
def En:yH X (.type "int") (λxs H Q=>∃(z:Str) (n:Int),xs=[.str z]/\PySem.intText? z=E n/\z.length<=640/\Q (.int n) H):=by
 intro pins s σ H xs us Q I r h;obtain⟨z,n,rfl,hn,hl,q⟩:=h;obtain⟨u,rfl,rx⟩:=vals1 r;obtain⟨t,rfl⟩:=rx;show W.KIN.call_text hn hl ⟨.int _,H,I.tok _,⟨_,Y⟩,q⟩
section
variable {o i:Expr} {pos:Pos} {td ty:TE}
end
def Tc:V->List V->Hp->VK->Prop:=λx vs H Q=>∃(z sZ:Str),x= .str z/\vs=[.str sZ]/\sZ.length≠0/\z.length+2<=aK/\∀d,H d=y->Q (.ref d) (upd H d (.lst<|(PySem.Txt.split z sZ).map V.str))
theorem Em:A4 X "str.split" Tc:=by
 intro pins s σ H x vs v us Q I rx rv h;obtain⟨z,sZ,rfl,rfl,h0,h1,q⟩:=h;obtain⟨t,rfl⟩:=rx;obtain⟨u,rfl,ru⟩:=rv.one;obtain⟨t2,rfl⟩:=ru;have hy:(sZ.length==0)=sJ:=by simpa using h0
 have q0:=q s.heap.objs.size (I.rh.fresh<|ah _);unfold PySem.Txt.split at q0;cases e1:(decide (z.length<sZ.length)||decide (nL z<nL sZ))with
 |true=>
  rw[if_pos e1]at q0;show dA lS (fW s z t) lj (kP _ _) (meets_str_split_cannot_occur z sZ t t2 e1) ?_;show⟨.ref _,_,I.z8 (show Vals [V.str z] [gx z t]from .cons ⟨t,Y⟩ .nil) (by change 1<=aK;decide),Y,q0⟩
 |false=>
  rw[if_neg<|ne_true_of_eq_false e1]at q0;cases e2:(dC z sZ 0 z.length<|z.length+1).isEmpty with
  |true=>
   rw[if_pos e2]at q0;show dA lS (fW s z t) lj (kP _ _) (meets_str_split_not_found z sZ t t2 e1 hy e2) ?_;show⟨.ref _,_,I.z8 (show Vals [V.str z] [gx z t]from .cons ⟨t,Y⟩ .nil) (by change 1<=aK;decide),Y,q0⟩
  |false=>
   rw[if_neg<|ne_true_of_eq_false e2]at q0;have hn:(Builtin.Str.partsBetween z (dC z sZ 0 z.length<|z.length+1) sZ.length).length<=aK:=by
    have l1:=PySem.length_partsBetween z (dC z sZ 0 z.length<|z.length+1) sZ.length;have l2:=StrLaws.occ_length_le z sZ 0 z.length<|z.length+1;lia
   show dA lS (fW s z t) lj (kP _ _) (meets_str_split_sep z sZ t t2 e1 hy e2 #[2] hn) ?_;show⟨.ref _,_,I.z8 (Mw _ s.toks) (by rw[aa];show hn),Y,q0⟩
open PySem PySem.Spec PyProof.Rows
open PySem.NumText (AllDigits digitsVal)
def xB(n:Int):Str:=bF (toString n)
noncomputable def yR(m:Nat):List Nat:=(Nat.toDigits 10 m).map Char.toNat
def CN{b:Str}(h:a.cps.toList=b.cps.toList):a=b:=by
 obtain⟨a⟩:=a;obtain⟨b⟩:=b;have:a=b:=iP.mp h;rw[this]
def uz(m:Nat):AllDigits (yR m):=by
 intro c hc;obtain⟨ch,oK,e⟩:=aY.mp hc;have r:=digit_range<|Nat.isDigit_of_mem_toDigits #[6] #[6] oK;rw[<-e];show r
def CM(m:Nat):yR m≠[]:=by
 intro e;have h:=toDigits_len_ge 10 m;rw[List.map_eq_nil_iff.mp e]at h;show absurd h #[6]
def L9(m:Nat):digitsVal (yR m)=m:=W.KIN.val_back m
theorem uW(n:Int):(xB n).cps.toList=if n<0 then 45::yR n.natAbs else yR n.natAbs:=by
 unfold xB;cases n with
 |ofNat m=>
  have:=W.KIN.signs_num m;rw[if_neg (by have:(0:Int)<=Int.ofNat m:=ik m;lia)];show this
 |negSucc m=>
  rw[if_pos<|Int.negSucc_lt_zero m,signs_ofString];change(("-"++(Nat.repr<|m+1)).toList).map Char.toNat=_;rw[String.toList_append,aO,Nat.toList_repr];rfl
def KI{m k:Nat}(h:m<10^k)(hk:0<k):(yR m).length<=k:=by
 unfold yR;rw[aa];show Nat.length_toDigits_le_iff #[6] hk |>.mpr h
def yI(h:(n.natAbs:Int)<10^60):(xB n).length<=61:=by
 have hf:(yR n.natAbs).length<=60:=KI #[2] #[6];have:(xB n).cps.toList.length<=61:=by
  rw[uW];split
  ·rw[aT];lia
  ·lia
 simpa [eO]using this
def CQ(h:(n.natAbs:Int)<10^60):PySem.intText? (xB n)=E n:=by
 have hl:=yI h;have e:=uW n
 by_cases h0:n<0
 ·rw[if_pos h0]at e;have:=PySem.intText_neg e (uz _) (CM _) #[2];rw[this,L9]
  congr 1
  lia
 ·rw[if_neg h0]at e;have:=PySem.intText_digits (x:=xB n) (by rw[e];show uz _) (by rw[e];show CM _) #[2];rw[this,e,L9]
  congr 1
  lia
def vG(h:(n.natAbs:Int)<10^60):n.natAbs.log2<1920:=by
 have h1:n.natAbs<2^200:=az (show n.natAbs<10^60 by lia) #[6]
 by_cases h0:n.natAbs=0
 ·rw[h0];decide
 ·show az ((oy h0).mpr h1) #[6]
def Es(sep:Str)(ss:List Str):DE sep ss=b7 sep ss:=by
 unfold DE
 split
 ·rfl
 ·show StrLaws.glued_eq_join _ _
def B5(a b:Str):(a++b).cps.toList=a.cps.toList++b.cps.toList:=by
 change(a.cps++b.cps).toList=_;show fM
def Ey(c:Nat)(x sZ:Str)(r:List Str):(b7 ⟨#[c]⟩<|x::sZ::r).cps.toList=x.cps.toList++c::(b7 ⟨#[c]⟩<|sZ::r).cps.toList:=by
 change(x++⟨#[c]⟩++b7 ⟨#[c]⟩ (sZ::r)).cps.toList=_;rw[B5,B5,bu];rfl
theorem KH{c:Nat}:∀{a b A B:List Nat},c∉a->c∉b->a++c::A=b++c::B->a=b/\A=B
 |[],[],A,B,_,_,h=>⟨Y,by injection h⟩
 |[],sZ::b,A,B,_,hb,h=>by
  injection h with h1 _;show absurd (by rw[h1];show aJ) hb
 |x::a,[],A,B,ha,_,h=>by
  injection h with h1 _;show absurd (by rw[h1];show aJ) ha
 |x::a,sZ::b,A,B,ha,hb,h=>by
  injection h with h1 h2;obtain⟨e1,e2⟩:=KH (λz=>ha<|aw _ z) (λz=>hb<|aw _ z) h2;show⟨by rw[h1,e1],e2⟩
theorem L8{c:Nat}:∀{as bs:List Str},as≠[]->bs≠[]->(∀p∈as,c∉p.cps.toList)->(∀p∈bs,c∉p.cps.toList)->b7 ⟨#[c]⟩ as=b7 ⟨#[c]⟩ bs->as=bs
 |[],_,h,_,_,_,_=>absurd rfl h
 |_,[],_,h,_,_,_=>absurd rfl h
 |[x],[sZ],_,_,_,_,h=>by rw[show x=sZ from h]
 |[x],sZ::z::r,_,_,ha,hb,h=>by
  have e:=congrArg (λs:Str=>s.cps.toList) h;simp only[Ey]at e;have:c∈x.cps.toList:=by
   change c∈(b7 ⟨#[c]⟩ [x]).cps.toList;rw[e];simp
  show absurd this (ha x #[8])
 |x::z::r,[sZ],_,_,ha,hb,h=>by
  have e:=congrArg (λs:Str=>s.cps.toList) h;simp only[Ey]at e;have:c∈sZ.cps.toList:=by
   change c∈(b7 ⟨#[c]⟩ [sZ]).cps.toList;rw[<-e];simp
  show absurd this (hb sZ #[8])
 |x::u::r,sZ::v::q,_,_,ha,hb,h=>by
  have e:=congrArg (λs:Str=>s.cps.toList) h;simp only[Ey]at e;obtain⟨e1,e2⟩:=KH (ha x #[8]) (hb sZ #[8]) e;rw[CN e1,L8 (as:=u::r) (bs:=v::q) #[8] #[8] (λp hp=>ha p<|aw _ hp) (λp hp=>hb p<|aw _ hp)<|CN e2]
def UU(x sZ:Str):PySem.Txt.split x sZ≠[]:=by
 unfold PySem.Txt.split
 split
 ·simp
 ·split
  ·simp
  ·intro e;have:=PySem.length_partsBetween x (dC x sZ 0 x.length<|x.length+1) sZ.length;rw[e]at this;simp at this
def Ex(oK:ss≠[])(h:∀p∈ss,c∉p.cps.toList):PySem.Txt.split (b7 ⟨#[c]⟩ ss) ⟨#[c]⟩=ss:=
 L8 (UU _ _) oK (StrLaws.split_free _ c) h (StrLaws.join_split _ _)
theorem Ca:∀(ss:List Str),(∀p∈ss,p.length<=B)->(b7 ⟨#[d]⟩ ss).length<=ss.length*(B+1)
 |[],_=>by change(cy).length<=_;simp[cy,eO]
 |[x],h=>by
  have:=h x #[8];change x.length<=_;simp;lia
 |x::sZ::r,h=>by
  have h1:=h x #[8];have h2:=Ca (d:=d) (sZ::r) (λp hp=>h p<|aw _ hp);have e:(b7 ⟨#[d]⟩<|x::sZ::r).length=x.length+(1+(b7 ⟨#[d]⟩<|sZ::r).length):=by
   have:=congrArg cz<|Ey d x sZ r;simp only[ao,aT,aU]at this;change(b7 ⟨#[d]⟩<|x::sZ::r).cps.size=x.cps.size+(1+(b7 ⟨#[d]⟩<|sZ::r).cps.size);lia
  rw[e];have e2:(x::sZ::r).length*(B+1)=(sZ::r).length*(B+1)+(B+1):=by
   rw[aT,g7]
  lia
def L7(ss:List Str)(h:∀p∈ss,p.length<=B):Dv ⟨#[d]⟩ ss<=ss.length*(B+1):=by
 unfold Dv;rw[StrLaws.joinTotal];have h1:=StrLaws.sumLen_le ss h;have e:(⟨#[d]⟩:Str).length=1:=rfl;rw[e,Nat.mul_add];lia
def CZ(n:Int)(h1:c≠45)(h2:c<48):c∉(xB n).cps.toList:=by
 rw[uW];have hf:c∉yR n.natAbs:=λz=>by have:=uz _ c z;lia
 split
 ·intro m;rcases aB.mp m with m|m
  ·show h1 m
  ·show hf m
 ·show hf
def len_app(a b:Str):(a++b).length=a.length+b.length:=by change(a.cps++b.cps).size=a.cps.size+b.cps.size;show Array.size_append
theorem WR(n:Int):(decide (0+("-":Str).length<=(xB n).length)&&lh (xB n) ("-":Str) 0)=decide (n<0):=by
 have e:=uW n;have hl:(xB n).length=(xB n).cps.toList.length:=by simp[eO]
 rw[oC,hl,e];have e1:(("-":Str).length)=1:=rfl;have e2:("-":Str).cps.toList=[45]:=rfl;rw[e1,e2]
 by_cases h0:n<0
 ·rw[if_pos h0,decide_eq_true h0];simp
 ·rw[if_neg h0,decide_eq_false h0];cases hf:yR n.natAbs with
  |nil=>show absurd hf (CM _)
  |cons c r=>
   have hc:=uz n.natAbs c (by rw[hf];simp);simp;lia
def Tb(h0:n<0):AJ (xB n) (E 1) y=⟨(yR n.natAbs).toArray⟩:=by
 have e:=uW n;rw[if_pos h0]at e;have hl:(xB n).length=(yR n.natAbs).length+1:=by
  have:=congrArg cz e;simpa [eO]using this
 unfold AJ;rw[e,hl];have s1:HT.sN ((yR n.natAbs).length+1) 0 (E 1)=1:=by simp[HT.sN]
 have s2:HT.sN ((yR n.natAbs).length+1) ((yR n.natAbs).length+1) y=(yR n.natAbs).length+1:=by simp[HT.sN]
 rw[s1,s2];simp
def VG(h0:¬n<0):xB n=⟨(yR n.natAbs).toArray⟩:=by
 have e:=uW n;rw[if_neg h0]at e;show CN e
def VF(h:48<=c/\c<=57):(!(dC ("0123456789":Str) ⟨#[c]⟩ 0 ("0123456789":Str).length 1).isEmpty)=sX:=by
 rw[StrLaws.found_one];have e:("0123456789":Str).cps.toList=[48,49,50,51,52,53,54,55,56,57]:=rfl;rw[e];show decide_eq_true ?_;simp only[aB,bR,or_false];lia
open PySem PySem.Spec PyProof.Rows
def WQ:Iy X "str.isdigit" (λx vs H Q=>∃z:Str,x= .str z/\vs=[]/\Q (.bl<|Txt.isdigit z) H):=by
 intro pins s σ H x xs v us Q I rx rv h;obtain⟨z,rfl,rfl,q⟩:=h;obtain⟨t,rfl⟩:=rx;have oK:=rv.zero;subst oK;show dA F.slot_str_isdigit (fW s z t) F.entry_str_isdigit (F.args_str_isdigit_1 _) (gives_str_isdigit z t).meets ?_;show⟨.bl _,H,I,Y,q⟩
end Internal.L2
namespace Internal.L2
variable {K:ax} {pos:Pos} {X:Cx}
def Qg:Cq K a 0=Ck K a:=by unfold Cq Ck;simp only[n6]
section
open PySem PySem.Spec PyProof.Rows
def WO{k:Nat}(a e it:sK)(oK:e≠it):Turn P w K (.Tuple es k pos) (Ck K a) [e,it] e (λi h=>(∃old,lP h e it (i:Nat) old)/\h.IsListIter it a i):=by
 have:=M5 (P:=P) (w:=w) (K:=K) (es:=es) (k:=k) (pos:=pos) a e it 0 oK;rw[Qg]at this;simpa only[n6]using this
variable {es:List Expr} {k:Nat} {tp:Pos}
def F7(hg:Gl X "enumerate")(hm:X.mg "enumerate"=y)(ha:PA X [l] ta)(hs:autoParam (aM [l] X.env=[(sJ,eval l X.env)]) rJ):PI X (.Tuple es k tp) (.Call (.Name "enumerate" p) [l] [] pos) (Qr X.K ta):=by
 intro pins s σ H R I h;show Call_ (zJ I hg hm Hu<|bW (zS #[16] λus s1 vs H1 I1 r1 q1=>?_) hs Y);obtain⟨a,e,⟨xs,hq⟩,q⟩:=q1;subst e;obtain⟨u,rfl,ru⟩:=Vals.one r1;cases ru;obtain⟨rf,rv,pl,hz⟩:=I1.list hq;show call_enumerate_list pl.isList λh' he hi hsz hk=>gk (s:={s1 with heap:=h'}) he ?_;show⟨s1.heap.objs.size+1,[s1.heap.objs.size+1,s1.heap.objs.size],_,_,H1,Y,I1.kept (t':=s1.toks) hk,WO a _ _<|lQ _,⟨⟨.none,by simpa using he⟩,hi⟩,λb hb=>?_,q⟩;rcases aB.mp hb with z|z
 ·rw[z];show I1.tQ (cU _) (I1.rh.fresh<|cU _)
 ·rw[ai.mp z];show I1.tQ (ah _) (I1.rh.fresh<|ah _)
end
@[elab_as_elim] theorem se{α:Type}{p:α->Prop}(x:α)(h:∀sZ,x=sZ->p sZ):p x:=h x rfl
@[elab_as_elim] theorem xK{p:Hp->Prop}{H:Hp}{a:PySem.Addr}{o:HO}(G:Hp)(e:upd H a o=G)(hn:H a=y)(h:∀H',xf H H'->H' a=E o->p H'):p G:=h G (xf.of_eq hn e) (xM e)
open PySem PySem.Spec PyProof.Rows
structure ID(w:World)(K:ax)(a:sK)(kvs:List (Str×sK))(wo:List Str):Prop where
 obj:∃es n,K.lookup a=E ⟨.type "dict",y,.dict es n,#[]⟩/\W.KeysLit w.params es.toList
 sys:(a==eM)=sJ
 val:∀x r,(x,r)∈kvs->kN K a x=E (E<|.ref r)
 rp:∀x∈wo,kN K a x=E y
def vq(h:kN K a sZ=E (E<|.ref r))(q:∀x r,(x,r)∈kvs->kN K a x=E (E<|.ref r)):
  ∀x r',(x,r')∈(sZ,r)::kvs->kN K a x=E (E<|.ref r'):=λx i z=>by
 rcases aB.mp z with e|z
 ·obtain⟨rfl,rfl⟩:=Prod.mk.inj e;show h
 ·show q x i z
section
variable {o i:Expr} {td ty:TE}
def Rb(w:World)(K:ax)(td ty:TE):TE:=λσ H Q=>td σ H λx H1=>ty σ H1 λsZ H2=>tE λ(a:sK) (kvs:List (Str×sK)) (wo:List Str) (z:Str) (r:sK)=>tF (x= .ref a) (sZ= .str z) (ID w K a kvs wo) ((z,r)∈kvs) (Q (.ref r) H2)
def UT(ho:PE X o td)(hi:PE X i ty)(hs:IM i):PE X (.Subscript o i pos) (Rb X.w X.K td ty):=by
 intro pins s σ H Q I h;show SV PySem.F.slot_dict_getitem.lookup hs<|xQ (ho pins s σ H _ I h) λu s1 x H1 I1 rx q1=>xQ (hi pins s1 σ H1 _ I1 q1) λiv s2 sZ H2 I2 ry ⟨a,kvs,wo,z,r,ex,ey,dc,hz,q2⟩=>?_;subst ex ey;obtain rfl:u=aS a:=rx;obtain⟨t,rfl⟩:=ry;obtain⟨es,m,hl,hk⟩:=dc.obj;have hm:=W.mapOf_K (prog:=X.prog) (w:=X.w) I2.su hl hk;show⟨hm.typeIs,wpAny_getItem_of (strKind_is X.prog X.w z t) hm (W.find_K hl<|dc.val z r hz) ⟨.ref r,H2,I2.tok _,Y,q2⟩⟩
def US(w:World)(K:ax)(ty td:TE):TE:=λσ H Q=>ty σ H λsZ H1=>td σ H1 λx H2=>tS λ(a:sK) (kvs:List (Str×sK)) (wo:List Str) (z:Str)=>sU (x= .ref a) (sZ= .str z) (ID w K a kvs wo) (((∃r,(z,r)∈kvs)/\Q (.bl sJ) H2\/z∈wo/\Q (.bl sX) H2))
def WN(hi:PE X i ty)(ho:PE X o td):PC X .NotIn i o (US X.w X.K ty td):=by
 intro pins s σ H Q I h;show xQ (hi pins s σ H _ I h) λiv s1 sZ H1 I1 ry q1=>xQ (ho pins s1 σ H1 _ I1 q1) λu s2 x H2 I2 rx ⟨a,kvs,wo,z,ex,ey,dc,q2⟩=>?_;subst ex ey;obtain rfl:u=aS a:=rx;obtain⟨t,rfl⟩:=ry;obtain⟨es,m,hl,hk⟩:=dc.obj;have hm:=W.mapOf_K (prog:=X.prog) (w:=X.w) I2.su hl hk;rcases q2 with⟨⟨r,hr⟩,q⟩|⟨hn,q⟩
 ·show mG (strKind_is X.prog X.w z t) dc.sys hm ?_;rw[W.find_K hl<|dc.val z r hr];show⟨.bl sJ,H2,I2.tok _,Y,q⟩
 ·show mG (strKind_is X.prog X.w z t) dc.sys hm ?_;rw[W.find_K hl<|dc.rp z hn];show⟨.bl sX,H2,I2.tok _,Y,q⟩
end
section
variable {st:Stmt} {Oy:List Stmt} {t u:TS} {e a o:Expr} {te ta to:TE} {p q:List Stmt}
def KG{e:Expr}{ta:TE}(hK:X.K=K)(he:PE X e ta)(hb:gD e f X.env (eval e X.env)=eval e X.env):PE X (.Attribute e f pos) (Jg K ta f):=by
 subst hK;show xv he hb
end
end Internal.L2
namespace PySem.W
open PySem PySem.Calls PyProof.Rows
def KD:Bool->Keyed->Array Keyed->Nat->Nat->Nat->StateT bt Sem (Option Nat):=sortPriv%PySem.Builtin.gallop
def L6:Array Keyed->Array Keyed->StateT bt Sem (Array Keyed):=sortPriv%PySem.Builtin.mergeLo
def L5:Array Keyed->Array Keyed->StateT bt Sem (Array Keyed):=sortPriv%PySem.Builtin.mergeHi
section
variable {M:Model} {A:bx} {sQ:sV->ag->Prop} {σ:Type} {s:ag}
def VE{α:Type}{m:StateT σ Sem α}{Q Q':α->σ->ag->Prop}{st:σ}(h:kasC M A sQ m Q st s)(q:∀a rn s',Q a rn s'->Q' a rn s'):kasC M A sQ m Q' st s:=
 aR h (λ_ _ z=>q _ _ _ z) λ_ _ e=>e
def UR{v:σ}{Q:PUnit->σ->ag->Prop}{st:σ}(h:Q ⟨⟩ v s):kasC M A sQ (set v:StateT σ Sem PUnit) Q st s:=by
 unfold kasC;rw[StateT.run_set];show ar h
def xx{α:Type}{c:Prop}[Decidable c]{m m':StateT σ Sem α}{Q:α->σ->ag->Prop}{st:σ}(t:c->kasC M A sQ m Q st s)(e:¬c->kasC M A sQ m' Q st s):kasC M A sQ (if c then m else m') Q st s:=by
 by_cases h:c
 ·rw[if_pos h];show t h
 ·rw[if_neg h];show e h
section
variable {ρ δ:Type} {I:Nat->δ->σ->Prop} {Z:ρ->σ->Prop} {J:δ->σ->Prop} {i:Nat}
def FE(I:Nat->δ->σ->Prop)(Z:ρ->σ->Prop)(J:δ->σ->Prop)(i:Nat)(s:ag):ForInStep (Option ρ×δ)->σ->ag->Prop
 | .done (E m,_),st,s'=>s'=s/\Z m st
 | .done (y,d),st,s'=>s'=s/\J d st
 | .yield (y,d),st,s'=>s'=s/\I (i+1) d st
 | .yield (E _,_),_,_=>False
def FE.ret{m:ρ}{d:δ}{st:σ}(h:Z m st):kasC M A sQ (pure (.done (E m,d)):StateT σ Sem _) (FE I Z J i s) st s:=cG ⟨Y,h⟩
def FE.brk{d:δ}{st:σ}(h:J d st):kasC M A sQ (pure (.done ((y:Option ρ),d)):StateT σ Sem _) (FE I Z J i s) st s:=cG ⟨Y,h⟩
def FE.go{d:δ}{st:σ}(h:I (i+1) d st):kasC M A sQ (pure (.yield ((y:Option ρ),d)):StateT σ Sem _) (FE I Z J i s) st s:=cG ⟨Y,h⟩
theorem yE{c n:Nat}{d:δ}{f:Nat->Option ρ×δ->StateT σ Sem (ForInStep<|Option ρ×δ)}{Q:Option ρ×δ->σ->ag->Prop}{st:σ}(h0:I c d st)
  (step:∀i d st,i<n->I i d st->kasC M A sQ (f i (y,d)) (FE I Z J i s) st s) (fin:∀i d st,n<=i->I i d st->J d st) (qz:∀m d st,Z m st->Q (E m,d) st s) (qj:∀d st,J d st->Q (y,d) st s):
  kasC M A sQ (forIn [c:n] (y,d) f) Q st s:=by
 show kasC_range ?_
 suffices g:∀k a d st,n<=a+k->(0<k->a+k<=n)->I a d st->kasC M A sQ (forIn (List.range' a k) (y,d) f) Q st s from g (n - c) c d st #[2] #[2] h0
 intro k
 induction k with
 |zero=>intro a d st e _ h;show kasC_nil (qj d st<|fin a d st e h)
 |succ k ih=>
  intro a d st e e' h;rw[List.range'_succ];show kasC_cons (VE (step a d st #[2] h) λr rn s' z=>?_)
  match r,z with
  | .done (E m,d'),z=>rw[z.1];show qz m d' rn z.2
  | .done (y,d'),z=>rw[z.1];show qj d' rn z.2
  | .yield (y,d'),z=>rw[z.1];show ih (a+1) d' rn (by lia) (by lia) z.2
end
end
section
variable {prog:a9} {w:World} {A:bx} {sQ:sV->ag->Prop} {κ:gz} {s:ag} {L:List Keyed}
def uK(prog:a9)(w:World)(A:bx)(κ:gz)(s:ag)(L:List Keyed):Prop:=∀x sZ,x∈L->sZ∈L->∀C:Bool->ag->Prop,(∀b,C b s)->wpAny #[1] A (keyLt' κ x.1 sZ.1) C (λ_ _=>False) s
def Ct{x sZ:Keyed}{Q:Option Bool->bt->ag->Prop}{st:bt}(h:uK prog w A κ s L)(hk:de st=κ)(hx:x∈L)(hy:sZ∈L)(q:∀b,Q (E b) st s):kasC #[1] A sQ (lt' x sZ) Q st s:=by
 rw[lt'_eq];show aA<|gC ?_;rw[hk];show aA<|iZ (nG<|aR (h x sZ hx hy (λb s'=>s'=s) λ_=>Y) (λb s' z=>?_) λ_ _ z=>z.elim);subst z;show cG (q b)
def yw{arr:Array Keyed}{i:Nat}{Q:Keyed->bt->ag->Prop}{st:bt}(hi:i<arr.size)(q:∀x,x∈arr.toList->arr[i]? =E x->Q x st s):kasC #[1] A sQ (elem' arr i) Q st s:=by
 rw[elem'_eq,cO hi];show cG (q _ (Array.getElem_mem_toList hi)<|cO hi)
def GI(st:bt)(n:Nat)(_:Nat)(d:Nat×Nat)(rn:bt):Prop:=rn=st/\d.1<d.2/\d.1<n
def GJ(st:bt)(n:Nat)(d:Nat×Nat)(rn:bt):Prop:=rn=st/\d.2<=n
theorem jG{left:Bool}{key:Keyed}{arr:Array Keyed}{bs n hint:Nat}{Q:Option Nat->bt->ag->Prop}{st:bt}(h:uK prog w A κ s L)(hk:de st=κ)(oK:key∈L)(ha:∀x∈arr.toList,x∈L)(hb:bs+n<=arr.size)(hh:hint<n)
  (q:∀k,k<=n->Q (E k) st s):kasC #[1] A sQ (KD left key arr bs n hint) Q st s:=by
 unfold KD;have oN:∀i (R:Option Bool->bt->ag->Prop),i<n->(∀b,R (E b) st s)->kasC #[1] A sQ (do
   let x <-elem' arr (bs+i)
   if left=sX then lt' x key else do return (<-lt' key x).map (!·)) R st s:=λi R hi hR=>by
  show aA<|yw #[2] λx hx _=>?_;cases left with
  |true=>show Ct h hk (ha x hx) oK hR
  |false=>show aA (Ct h hk oK (ha x hx) λb=>cG<|hR _)
 have last:∀lo hi (F:Nat->Option (Option Nat)×Nat×Nat->StateT bt Sem (ForInStep<|Option (Option Nat)×Nat×Nat)) (G:Option (Option Nat)×Nat×Nat->StateT bt Sem (Option Nat)),hi<=n->
   (∀i (d:Nat×Nat),F i (y,d)=if d.1≥d.2 then pure (.done (y,d.1,d.2))else(do
    let x <-elem' arr (bs+(d.1+(d.2 - d.1) / 2))
    if left=sX then lt' x key else do return (<-lt' key x).map (!·)) >>= λx=>match x with
     |some more=>if more=sX then pure (.yield (y,d.1+(d.2 - d.1) / 2+1,d.2))else pure (.yield (y,d.1,d.1+(d.2 - d.1) / 2))
     |_=>pure (.done (E y,d.1,d.2)))->(∀d:Nat×Nat,G (y,d)=pure (E d.2))->kasC (model prog w) A sQ (forIn [0:n] (y,lo,hi) F >>= G) Q st s:=λlo hi F G hz hF hG=>by
  show aA (yE (I:=λ_=>GJ st n) (Z:=λ_ _=>False) (J:=GJ st n) ⟨Y,hz⟩ (λi d rn _ hI=>?_) (λ_ _ _ _ z=>z) (λ_ _ _ z=>z.elim) λd rn z=>?_)
  ·obtain⟨d1,d2⟩:=d;obtain⟨rfl,h4⟩:=hI;rw[hF];show xx (λ_=>FE.brk ⟨Y,h4⟩) λhm=>aA (oN _ _ ?_ λmore=>xx (λ_=>FE.go ⟨Y,h4⟩) λ_=>FE.go ⟨Y,?_⟩)
   all_goals dsimp only at h4 hm⊢;lia
  ·rw[hG];obtain⟨rfl,h4⟩:=z;show cG (q _ h4)
 show aA ?_;show oN hint _ hh λright=>?_;cases right
 all_goals dsimp only
 case' true=>rw[if_pos rfl]
 case' false=>rw[if_neg #[6]]
 case true=>
  show aA (yE (I:=GI st<|n - hint) (Z:=λ_ _=>False) (J:=GI st (n - hint) 0) ⟨Y,mj,(show 0<n - hint by lia)⟩ (λi d rn _ hI=>?_) (λ_ _ _ _ z=>z) (λ_ _ _ z=>z.elim) λd rn z=>?_)
  ·obtain⟨d1,d2⟩:=d;obtain⟨rfl,h2,h3⟩:=hI;show xx (λ_=>FE.brk ⟨Y,h2,h3⟩) λhm=>aA (oN _ _ ?_ λmore=>?_)
   ·dsimp only at hm⊢;lia
   ·cases more<;> first|show FE.brk ⟨Y,h2,h3⟩|show FE.go ⟨Y,(show d2<2*d2+1 by lia),Nat.lt_of_not_le hm⟩
  ·obtain⟨d1,d2⟩:=d;obtain⟨rfl,h2,h3⟩:=z;show last _ _ _ _ (show hint+min d2 (n - hint)<=n by lia) (λ_ _=>Y) λ_=>rfl
 case false=>
  show aA (yE (I:=GI st<|hint+1) (Z:=λ_ _=>False) (J:=GI st (hint+1) 0) ⟨Y,mj,Nat.succ_pos _⟩ (λi d rn _ hI=>?_) (λ_ _ _ _ z=>z) (λ_ _ _ z=>z.elim) λd rn z=>?_)
  ·obtain⟨d1,d2⟩:=d;obtain⟨rfl,h2,h3⟩:=hI;show xx (λ_=>FE.brk ⟨Y,h2,h3⟩) λhm=>aA (oN _ _ ?_ λmore=>?_)
   ·dsimp only;lia
   ·cases more<;> first|show FE.brk ⟨Y,h2,h3⟩|show FE.go ⟨Y,(show d2<2*d2+1 by lia),Nat.lt_of_not_le hm⟩
  ·obtain⟨d1,d2⟩:=d;obtain⟨rfl,h2,h3⟩:=z;show last _ _ _ _ (show hint - d1<=n by lia) (λ_ _=>Y) λ_=>rfl
def sG(st:bt)(g:Nat):bt:=lA (de st) (arrOf st) (mn st) g (kA st)
section
variable {a b out:Array Keyed} {ia ib na nb k:Nat} {x:Keyed} {T o t u v:List Keyed}
def PM(T o u v:List Keyed):Prop:=(o++(u++v)).Perm T
def PM.sym(h:PM T o u v):PM T o v u:=(dq _ mP).trans h
def PM.ls(h:PM T o (t++u) v):PM T (o++t) u v:=by
 unfold PM at h⊢;rw[bu,<-bu t];show h
def PM.rs(h:PM T o u (t++v)):PM T (o++t) u v:=h.sym.ls.sym
def Ta{α:Type}{a:Array α}{x:α}(e:a[i]? =E x):a.toList.drop i=[x]++a.toList.drop (i+1):=by
 obtain⟨h,e⟩:=c5.mp e;rw[cP (by rw[aU];show h),ni,e];rfl
def S9{α:Type}{a:Array α}{x:α}(e:a[i]? =E x):(a.toList.take<|i+1).reverse=[x]++(a.toList.take i).reverse:=by
 obtain⟨h,e⟩:=c5.mp e;rw[cZ (by rw[aU];show h),ni,e,nM];rfl
def S8{l:List Keyed}(h:i<=j):l.take j=l.take i++(l.drop i).take (j - i):=by
 obtain⟨d,rfl⟩:=kH h;rw[List.take_add,cY]
def uA(T:List Keyed)(a b out:Array Keyed)(ia ib:Nat):Prop:=PM T out.toList (a.toList.drop ia) (b.toList.drop ib)
def uA.pb(h:uA T a b out ia ib)(e:b[ib]? =E x):uA T a b (out.push x) ia (ib+1):=by
 unfold uA at h⊢;rw[Ta e]at h;rw[ll];show h.rs
def uA.bs(h:uA T a b out ia ib):uA T a b (out++b.extract ib (ib+k)) ia (ib+k):=by
 unfold uA at h⊢;rw[fM,d8,di,cY,<-gw];show PM.rs (by rw[eZ];show h)
def uA.sym(h:uA T a b out ia ib):uA T b a out ib ia:=PM.sym h
def uA.fin(h:uA T a b out ia ib):(out++a.extract ia++b.extract ib).toList.Perm T:=by
 unfold uA PM at h;rw[fM,fM,d8,d8,bu];simpa [di,bE]using h
def ug(T:List Keyed)(a b out:Array Keyed)(na nb:Nat):Prop:=PM T out.toList (a.toList.take na).reverse (b.toList.take nb).reverse
def ug.sym(h:ug T a b out na nb):ug T b a out nb na:=PM.sym h
def ug.pb(h:ug T a b out na (nb+1))(e:b[nb]? =E x):ug T a b (out.push x) na nb:=by
 unfold ug at h⊢;rw[S9 e]at h;rw[ll];show h.rs
def ug.bs(h:ug T a b out na nb)(hk:k<=nb):ug T a b (out++(b.extract k nb).reverse) na k:=by
 unfold ug at h⊢;rw[S8 hk,nM]at h;rw[fM,Array.toList_reverse,d8,di];show h.rs
def ug.fin(h:ug T a b out na nb):(a.extract 0 na++b.extract 0 nb++out.reverse).toList.Perm T:=by
 have e:(a.extract 0 na++b.extract 0 nb++out.reverse).toList=(out.toList++((b.toList.take nb).reverse++(a.toList.take na).reverse)).reverse:=by simp[di]
 rw[e];show(lp _).trans h.sym
end
structure A5{γ:Type}(a b:Array Keyed)(st:bt)(c:Nat)(d:Array Keyed×Nat×Nat×γ)(rn:bt):Prop where
 g:∃g,rn=sG st g
 z1:d.2.1+1<a.size
 z2:d.2.2.1<b.size
 z3:uA (a.toList++b.toList) a b d.1 d.2.1 d.2.2.1
 z4:c<d.2.1+d.2.2.1
structure A7{γ:Type}(a b:Array Keyed)(st:bt)(c:Nat)(d:Nat×Nat×Array Keyed×γ)(rn:bt):Prop where
 g:∃g,rn=sG st g
 z1:1<=d.1
 z2:d.1<=a.size
 z3:2<=d.2.1
 z5:d.2.1<=b.size
 z6:ug (a.toList++b.toList) a b d.2.2.1 d.1 d.2.1
 z4:c+(d.1+d.2.1)<a.size+b.size
def Cj(a b:Array Keyed)(st:bt)(m:Array Keyed)(rn:bt):Prop:=(∃g,rn=sG st g)/\m.toList.Perm (a.toList++b.toList)
def sG.k{st rn:bt}(h:∃g,rn=sG st g)(hk:de st=κ):de rn=κ:=by
 obtain⟨_,rfl⟩:=h;show hk
def sG.m{st rn:bt}{g:Nat}(h:∃g,rn=sG st g):∃g',sG rn g=sG st g':=by
 obtain⟨_,rfl⟩:=h;show⟨_,Y⟩
def WM{a b:Array Keyed}{Q:Array Keyed->bt->ag->Prop}{st:bt}(h:uK prog w A κ s L)(hk:de st=κ)(ha:∀x∈a.toList,x∈L)(hb:∀x∈b.toList,x∈L)(h1:1<=a.size)(h2:1<=b.size)
  (q:∀m g,m.toList.Perm (a.toList++b.toList)->Q m (sG st g) s):kasC #[1] A sQ (L6 a b) Q st s:=by
 unfold L6;show aA (iZ<|eN (aA<|yw #[2] λx0 _ e0=>?_));have oK:uA (a.toList++b.toList) a b #[x0] 0 1:=uA.pb (show uA _ a b #[] 0 0 from mQ _) e0;have q0:∀m,m.toList.Perm (a.toList++b.toList)->Q m st s:=λm hm=>q m (gallopOf st) hm;show xx (λc1=>cG<|q0 _ oK.fin) λc1=>?_;show xx (λc2=>cG<|q0 _ oK.sym.fin) λc2=>?_;rw[beq_iff_eq]at c1 c2;show aA (gC (aA<|yE (I:=A5 a b st) (Z:=Cj a b st) (J:=λ_ _=>False) ⟨⟨_,Y⟩,(show 0+1<a.size by lia),(show 1<b.size by lia),oK,mj⟩ (λi d rn hi hI=>?_) (λi d rn hn z=>?_) (λm d rn z=>?_) λ_ _ z=>z.elim))
 ·show aA (yE (I:=λk=>A5 a b st<|i+k) (Z:=Cj a b st) (J:=A5 a b st<|i+1) ⟨hI.g,hI.z1,hI.z2,hI.z3,hI.z4⟩ (λk d rn _ hI=>?_) (λk d rn hn z=>⟨z.g,z.z1,z.z2,z.z3,by have:=z.z4;lia⟩) (λm d rn z=>FE.ret z) λd rn z=>?_)
  ·show aA (yw hI.z2 λx hx _=>aA<|yw (iy hI.z1) λsZ hy _=>aA (Ct h (sG.k hI.g hk) (hb x hx) (ha sZ hy) λbw=>xx (λ_=>aA<|yw hI.z2 λx' _ u0=>xx (λc=>FE.ret ⟨hI.g,(hI.z3.pb u0).fin⟩) λc=>?_) λ_=>aA<|yw (iy hI.z1) λx' _ u0=>xx (λc=>FE.ret ⟨hI.g,(hI.z3.sym.pb u0).fin⟩) λc=>?_))
   ·rw[beq_iff_eq]at c;have z:A5 a b st (i+k+1) (d.1.push x',d.2.1,d.2.2.1+1,()) rn:=⟨hI.g,hI.z1,dS hI.z2 c,hI.z3.pb u0,Nat.succ_lt_succ hI.z4⟩;show xx (λ_=>FE.brk ⟨z.g,z.z1,z.z2,z.z3,dv (Nat.succ_le_succ<|iQ _ _) z.z4⟩) λ_=>FE.go ⟨z.g,z.z1,z.z2,z.z3,z.z4⟩
   ·rw[beq_iff_eq]at c;have z:A5 a b st (i+k+1) (d.1.push x',d.2.1+1,d.2.2.1,()) rn:=⟨hI.g,dS hI.z1 c,hI.z2,(hI.z3.sym.pb u0).sym,by have:=hI.z4;dsimp only;lia⟩;show xx (λ_=>FE.brk ⟨z.g,z.z1,z.z2,z.z3,dv (Nat.succ_le_succ<|iQ _ _) z.z4⟩) λ_=>FE.go ⟨z.g,z.z1,z.z2,z.z3,z.z4⟩
  show aA (iZ<|eN (aA<|yE (I:=λ_=>A5 a b st<|i+1) (Z:=Cj a b st) (J:=A5 a b st<|i+1) ⟨z.g,z.z1,z.z2,z.z3,z.z4⟩ (λk d rn _ hI=>?_) (λ_ _ _ _ z=>z) (λm d rn z=>FE.ret z) λd rn z=>aA (fz<|FE.go ⟨sG.m z.g,z.z1,z.z2,z.z3,z.z4⟩)));obtain⟨out,ia,ib,oV,ac,bc⟩:=d;obtain⟨hg,z1,z2,z3,z4⟩:=hI;have z1:ia+1<a.size:=z1;have z2:ib<b.size:=z2;have z3:uA (a.toList++b.toList) a b out ia ib:=z3;have z4:i+1<ia+ib:=z4
  extract_lets _ _ _ _ _ _ _ _ _ _ _ _ jp _
  suffices hj:∀mg,kasC #[1] A sQ (jp () mg) _ rn s from xx (λ_=>hj _) λ_=>hj _
  intro mg;show aA (fz<|aA (yw z2 λx hx _=>aA<|jG h (sG.k (sG.m hg) hk) (hb x hx) ha (show ia+(a.size - ia)<=a.size by lia) (show 0<a.size - ia by lia) λk oQ=>?_));clear jp;have hg:∃g,sG rn mg=sG st g:=sG.m hg;dsimp -zeta only
  extract_lets _ jp _ _
  suffices hj:∀o i',uA (a.toList++b.toList) a b o i' ib->i'+1<a.size->ia<=i'->kasC #[1] A sQ (jp () o i') _ (sG rn mg) s by
   have oQ:k<=a.size - ia:=oQ;show xx (λ_=>xx (λc=>FE.ret ⟨hg,z3.sym.bs.fin⟩) λc=>xx (λc=>FE.ret ⟨hg,z3.sym.bs.sym.fin⟩) λc'=>hj _ _ z3.sym.bs.sym ?_<|iQ _ _) λ_=>hj _ _ z3 z1<|ah _;rw[beq_iff_eq]at c c';have c:¬ia+k+1=a.size:=c;have c':¬ia+k=a.size:=c';change ia+k+1<a.size;lia
  intro o i' ho oN hle;show aA<|yw z2 λx' _ u0=>xx (λc=>FE.ret ⟨hg,(ho.pb u0).fin⟩) λc=>?_;rw[beq_iff_eq]at c;have z5:ib+1<b.size:=dS z2 c;show aA (yw (iy oN) λsZ hy _=>aA<|jG h (sG.k hg hk) (ha sZ hy) hb (show ib+1+(b.size - (ib+1))<=b.size by lia) (show 0<b.size - (ib+1)by lia) λk2 oP=>?_);clear jp;dsimp -zeta only
  extract_lets _ _ jp _ _
  suffices hj:∀o' j',uA (a.toList++b.toList) a b o' i' j'->j'<b.size->ib<=j'->kasC #[1] A sQ (jp () o' j') _ (sG rn mg) s by
   have oP:k2<=b.size - (ib+1):=oP;show xx (λ_=>xx (λc=>FE.ret ⟨hg,(ho.pb u0).bs.fin⟩) λc=>hj _ _ (ho.pb u0).bs ?_ (show ib<=ib+1+k2 by lia)) λ_=>hj _ _ (ho.pb u0) z5<|cU _;rw[beq_iff_eq]at c;have c:¬ib+1+k2=b.size:=c;change ib+1+k2<b.size;lia
  intro o' j' oO oU oS;show aA<|yw (iy oN) λy' _ oR=>xx (λc=>FE.ret ⟨hg,(oO.sym.pb oR).fin⟩) λc=>?_;rw[beq_iff_eq]at c;have z:A5 a b st (i+1) (o'.push y',i'+1,j',()) (sG rn mg):=⟨hg,dS oN c,oU,(oO.sym.pb oR).sym,(show i+1<i'+1+j' by lia)⟩;show xx (λ_=>FE.brk ⟨z.g,z.z1,z.z2,z.z3,z.z4⟩) λ_=>FE.go ⟨z.g,z.z1,z.z2,z.z3,z.z4⟩
 ·have:=z.z1;have:=z.z2;have:=z.z4;lia
 ·obtain⟨⟨g,rfl⟩,hm⟩:=z;show cG (q m g hm)
def WL{a b:Array Keyed}{Q:Array Keyed->bt->ag->Prop}{st:bt}(h:uK prog w A κ s L)(hk:de st=κ)(ha:∀x∈a.toList,x∈L)(hb:∀x∈b.toList,x∈L)(h1:1<=a.size)(h2:1<=b.size)
  (q:∀m g,m.toList.Perm (a.toList++b.toList)->Q m (sG st g) s):kasC #[1] A sQ (L5 a b) Q st s:=by
 unfold L5;show aA (iZ<|eN (aA<|yw (Nat.sub_lt h1 Nat.one_pos) λx0 _ e0=>?_));have oP:ug (a.toList++b.toList) a b #[x0] (a.size - 1) b.size:=by
  have z:ug (a.toList++b.toList) a b #[] a.size b.size:=by
   unfold ug;rw[bE #[8],bE #[8]];show(lp _).append (lp _)
  show(ug.pb (nb:=a.size - 1) (by rw[fZ h1];show z.sym) e0).sym
 have q0:∀m,m.toList.Perm (a.toList++b.toList)->Q m st s:=λm hm=>q m (gallopOf st) hm;show xx (λc1=>cG<|q0 _ oP.fin) λc1=>?_;show xx (λc2=>cG<|q0 _ oP.sym.fin) λc2=>?_;rw[beq_iff_eq]at c1 c2;show aA (gC (aA<|yE (I:=A7 a b st) (Z:=Cj a b st) (J:=λ_ _=>False) ⟨⟨_,Y⟩,(show 1<=a.size - 1 by lia),Nat.sub_le _ _,(show 2<=b.size by lia),ah _,oP,(show 0+(a.size - 1+b.size)<_ by lia)⟩ (λi d rn hi hI=>?_) (λi d rn hn z=>?_) (λm d rn z=>?_) λ_ _ z=>z.elim))
 ·show aA (yE (I:=λk=>A7 a b st<|i+k) (Z:=Cj a b st) (J:=A7 a b st<|i+1) ⟨hI.g,hI.z1,hI.z2,hI.z3,hI.z5,hI.z6,hI.z4⟩ (λk d rn _ hI=>?_) (λk d rn hn z=>⟨z.g,z.z1,z.z2,z.z3,z.z5,z.z6,by have:=z.z4;lia⟩) (λm d rn z=>FE.ret z) λd rn z=>?_)
  ·obtain⟨na,nb,out,r2⟩:=d;obtain⟨na,rfl⟩:∃n,na=n+1:=⟨na - 1,(fZ hI.z1).symm⟩;obtain⟨nb,rfl⟩:∃n,nb=n+1:=⟨nb - 1,(fZ<|fj hI.z3).symm⟩;obtain⟨hg,z1,z2,z3,z5,z6,z4⟩:=hI;have z4:i+k+(na+1+(nb+1))<a.size+b.size:=z4;show aA (yw (show nb+1 - 1<b.size from z5) λx hx _=>aA<|yw (show na+1 - 1<a.size from z2) λsZ hy _=>aA (Ct h (sG.k hg hk) (hb x hx) (ha sZ hy) λbw=>xx (λ_=>aA<|yw (show na<a.size from z2) λx' _ u0=>xx (λc=>FE.ret ⟨hg,(z6.sym.pb u0).sym.fin⟩) λc=>?_) λ_=>aA<|yw (show nb<b.size from z5) λx' _ u0=>xx (λc=>FE.ret ⟨hg,(z6.pb u0).sym.fin⟩) λc=>?_))
   ·rw[beq_iff_eq]at c;have z:A7 a b st (i+k+1) (na,nb+1,out.push x',()) rn:=⟨hg,kQ c,fj z2,z3,z5,(z6.sym.pb u0).sym,by dsimp only;lia⟩;show xx (λ_=>FE.brk ⟨z.g,z.z1,z.z2,z.z3,z.z5,z.z6,by have:=z.z4;dsimp only at this⊢;lia⟩) λ_=>FE.go ⟨z.g,z.z1,z.z2,z.z3,z.z5,z.z6,z.z4⟩
   ·rw[beq_iff_eq]at c;have z:A7 a b st (i+k+1) (na+1,nb,out.push x',()) rn:=⟨hg,z1,z2,dS (Nat.le_of_succ_le_succ z3)<|aW c,fj z5,z6.pb u0,by dsimp only;lia⟩;show xx (λ_=>FE.brk ⟨z.g,z.z1,z.z2,z.z3,z.z5,z.z6,by have:=z.z4;dsimp only at this⊢;lia⟩) λ_=>FE.go ⟨z.g,z.z1,z.z2,z.z3,z.z5,z.z6,z.z4⟩
  show aA (iZ<|eN (aA<|yE (I:=λ_=>A7 a b st<|i+1) (Z:=Cj a b st) (J:=A7 a b st<|i+1) ⟨z.g,z.z1,z.z2,z.z3,z.z5,z.z6,z.z4⟩ (λk d rn _ hI=>?_) (λ_ _ _ _ z=>z) (λm d rn z=>FE.ret z) λd rn z=>aA (fz<|FE.go ⟨sG.m z.g,z.z1,z.z2,z.z3,z.z5,z.z6,z.z4⟩)));obtain⟨na,nb,out,oV,ac,bc⟩:=d;obtain⟨nb,rfl⟩:∃n,nb=n+1:=⟨nb - 1,(fZ<|fj hI.z3).symm⟩;obtain⟨hg,z1,z2,z3,z5,z6,z4⟩:=hI;have z1:1<=na:=z1;have z2:na<=a.size:=z2;have z5:nb+1<=b.size:=z5;have z6:ug (a.toList++b.toList) a b out na (nb+1):=z6;have z4:i+1+(na+(nb+1))<a.size+b.size:=z4
  extract_lets _ _ _ _ _ _ _ _ _ _ _ _ jp _
  suffices hj:∀mg,kasC #[1] A sQ (jp () mg) _ rn s from xx (λ_=>hj _) λ_=>hj _
  intro mg;show aA (fz<|aA (yw (show nb+1 - 1<b.size from z5) λx hx _=>aA<|jG h (sG.k (sG.m hg) hk) (hb x hx) ha (show 0+na<=a.size by lia) (show na - 1<na by lia) λk oN=>?_));clear jp;have hg:∃g,sG rn mg=sG st g:=sG.m hg;dsimp -zeta only;have oN:k<=na:=oN
  extract_lets _ _ jp _ _
  suffices hj:∀n' o,ug (a.toList++b.toList) a b o n' (nb+1)->1<=n'->n'<=na->kasC #[1] A sQ (jp () n' o) _ (sG rn mg) s by
   show xx (λ_=>xx (λc=>FE.ret ⟨hg,(z6.sym.bs oN).sym.fin⟩) λc=>hj _ _ (z6.sym.bs oN).sym ?_ oN) λ_=>hj _ _ z6 z1<|ah _;rw[beq_iff_eq]at c;show kQ c
  intro n' o ho oS hle;obtain⟨n',rfl⟩:∃n,n'=n+1:=⟨n' - 1,(fZ oS).symm⟩;show aA<|yw (show nb<b.size from z5) λx' _ u0=>xx (λc=>FE.ret ⟨hg,(ho.pb u0).sym.fin⟩) λc=>?_;rw[beq_iff_eq]at c;have c:¬nb=1:=c;have z3:2<=nb+1:=z3;show aA (yw (show n'+1 - 1<a.size from aQ hle z2) λsZ hy _=>aA<|jG h (sG.k hg hk) (ha sZ hy) hb (show 0+nb<=b.size by lia) (show nb - 1<nb by lia) λk2 oK=>?_);clear jp;dsimp -zeta only;have oK:k2<=nb:=oK;have oO:=ug.pb ho u0
  extract_lets _ _ _ jp _ _
  suffices hj:∀m' o',ug (a.toList++b.toList) a b o' (n'+1) m'->2<=m'->m'<=nb->kasC #[1] A sQ (jp () m' o') _ (sG rn mg) s by
   show xx (λ_=>xx (λc=>FE.ret ⟨hg,(oO.bs oK).sym.fin⟩) λc=>xx (λc=>FE.ret ⟨hg,(oO.bs oK).fin⟩) λc'=>hj _ _ (oO.bs oK) ?_ oK) λ_=>hj _ _ oO (show 2<=nb by lia)<|ah _;rw[beq_iff_eq]at c c';have c:¬k2=1:=c;have c':¬k2=0:=c';change 2<=k2;lia
  intro m' o' hm oU oQ;show aA<|yw (show n'<a.size from aQ hle z2) λy' _ oR=>xx (λc=>FE.ret ⟨hg,(hm.sym.pb oR).sym.fin⟩) λc=>?_;rw[beq_iff_eq]at c;have z:A7 a b st (i+1) (n',m',o'.push y',()) (sG rn mg):=⟨hg,kQ c,fj<|aQ hle z2,oU,aQ oQ<|fj z5,(hm.sym.pb oR).sym,(show i+1+(n'+m')<a.size+b.size by lia)⟩;show xx (λ_=>FE.brk ⟨z.g,z.z1,z.z2,z.z3,z.z5,z.z6,z.z4⟩) λ_=>FE.go ⟨z.g,z.z1,z.z2,z.z3,z.z5,z.z6,z.z4⟩
 ·have:=z.z4;have:=z.z1;lia
 ·obtain⟨⟨g,rfl⟩,hm⟩:=z;show cG (q m g hm)
def zx(κ:gz)(L:List Keyed)(P:Array (Nat×Nat×Nat))(st:bt):Prop:=de st=κ/\kA st=y/\mn st=P/\(arrOf st).toList.Perm L
variable {P:Array (Nat×Nat×Nat)}
def zx.size{st:bt}(t:zx κ L P st):(arrOf st).size=L.length:=by rw[<-aU];show t.2.2.2.length_eq
def CL{i j:Nat}{Q:Option Bool->bt->ag->Prop}{st:bt}(h:uK prog w A κ s L)(t:zx κ L P st)(hi:i<L.length)(hj:j<L.length)(q:∀b,Q (E b) st s):kasC #[1] A sQ (ltAt' i j) Q st s:=by
 rw[<-t.size]at hi hj;rw[ltAt'_eq];show aA (gC<|aA (yw hi λx hx _=>aA<|yw hj λsZ hy _=>Ct h t.1 (t.2.2.2.mem_iff.mp hx) (t.2.2.2.mem_iff.mp hy) q))
def DN{i j:Nat}{Q:Unit->bt->ag->Prop}{st:bt}(t:zx κ L P st)(q:∀rn,zx κ L P rn->Q () rn s):kasC #[1] A sQ (reverseSlice' i j) Q st s:=by
 rw[reverseSlice'_eq];show fz (q _ ⟨t.1,t.2.1,t.2.2.1,(mirror_perm _ _ _ _).toList.trans t.2.2.2⟩)
def S7{i j:Nat}{Q:Unit->bt->ag->Prop}{st:bt}(t:zx κ L P st)(q:∀rn,zx κ L P rn->Q () rn s):kasC #[1] A sQ (moveDown' i j) Q st s:=by
 rw[moveDown'_eq];show fz (q _ ⟨t.1,t.2.1,t.2.2.1,(bubble_perm _ _ _).toList.trans t.2.2.2⟩)
def VD{lo n ok:Nat}{Q:Bool->bt->ag->Prop}{st:bt}(h:uK prog w A κ s L)(t:zx κ L P st)(hn:lo+n<=L.length)(q:∀rn,zx κ L P rn->Q sX rn s):kasC #[1] A sQ (binarySort' lo n ok) Q st s:=by
 unfold binarySort';show aA (yE (I:=λ_ _=>zx κ L P) (Z:=λ_ _=>False) (J:=λ_=>zx κ L P) t (λi _ st hi t=>?_) (λ_ _ _ _ z=>z) (λ_ _ _ z=>z.elim) λ_ rn t=>cG<|q rn t);show aA (yE (I:=λ_=>GJ st i) (Z:=λ_ _=>False) (J:=λ_=>zx κ L P) ⟨Y,ah _⟩ (λk d rn _ hI=>?_) (λ_ _ _ _ z=>by rw[z.1];show t) (λ_ _ _ z=>z.elim) λ_ rn t=>aA<|S7 t λrn t=>FE.go t);obtain⟨l,r⟩:=d;obtain⟨rfl,h3⟩:=hI;have h3:r<=i:=h3;show xx (λ_=>FE.brk t) λc=>?_;have c:¬l≥r:=c;show aA (CL h t (show lo+i<_ by lia) (show lo+(l+r) / 2<_ by lia) λb=>xx (λ_=>FE.go ⟨Y,(show(l+r) / 2<=i by lia)⟩) λ_=>FE.go ⟨Y,h3⟩)
structure CI(κ:gz)(L:List Keyed)(P:Array (Nat×Nat×Nat))(Ik n:Nat)(st:bt):Prop where
 a:1<=n
 b:n<=Ik
 t:zx κ L P st
theorem JI{lo oK n:Nat}{Q:Option Nat->bt->ag->Prop}{st:bt}{G:Option (Option Nat)×Nat->StateT bt Sem (Option Nat)}(h:uK prog w A κ s L)(hn:lo+oK<=L.length)(c:CI κ L P oK n st)
  (q:∀n rn,CI κ L P oK n rn->kasC #[1] A sQ (G (y,n)) Q rn s):kasC #[1] A sQ (forIn [n:oK] ((y:Option (Option Nat)),n) (λ_ r=>do
    let oO <-ltAt' (lo+r.2) (lo+r.2 - 1)
    match oO with
    |some oN=>if oN=sX then pure (oJ (y,r.2))else pure (eY (y,r.2+1))
    |_=>pure (oJ (E y,r.2))) >>= G) Q st s:=by
 show aA<|yE (I:=λi d st=>d=i/\CI κ L P oK d st) (Z:=λ_ _=>False) (J:=CI κ L P oK) ⟨Y,c⟩ (λi d rn hi hI=>?_) (λ_ _ _ _ z=>z.2) (λ_ _ _ z=>z.elim) q;obtain⟨rfl,z⟩:=hI;show aA (CL h z.t (show lo+d<_ by lia) (show lo+d - 1<_ by lia) λb=>xx (λ_=>FE.brk z) λ_=>FE.go ⟨Y,mq _ _,hi,z.t⟩)
def Vm{lo oK:Nat}{Q:Option Nat->bt->ag->Prop}{st:bt}(h:uK prog w A κ s L)(t:zx κ L P st)(h1:1<=oK)(hn:lo+oK<=L.length)(q:∀n rn,1<=n->n<=oK->zx κ L P rn->Q (E n) rn s):kasC #[1] A sQ (countRun' lo oK) Q st s:=by
 unfold countRun';show JI h hn ⟨ah _,h1,t⟩ λn st z=>?_;dsimp -zeta only;show xx (λ_=>cG<|q n _ z.a z.b z.t) λc=>?_;rw[beq_iff_eq]at c;have c:n+1<=oK:=dS z.b c
 extract_lets _ _ jp
 suffices hj:∀oO,zx κ L P oO->kasC #[1] A sQ (jp ()) Q oO s from
  xx (λ_=>aA (CL h z.t (show lo<_ by lia) (show lo+n - 1<_ by lia) λb=>xx (λ_=>cG<|q n _ z.a z.b z.t) λ_=>aA<|DN z.t λoN t3=>hj _ t3)) λ_=>hj _ z.t
 intro oO t2;show aA (iZ<|eN (aA<|yE (I:=λi d st=>d.1=i/\CI κ L P oK d.1 st) (Z:=λ_ _=>False) (J:=λd=>CI κ L P oK d.1) ⟨Y,mq _ _,c,t2⟩ (λi d rn hi hI=>?_) (λ_ _ _ _ z=>z.2) (λ_ _ _ z=>z.elim) λd rn z=>?_))
 ·obtain⟨m,oP⟩:=d;obtain⟨e,z⟩:=hI;have e:m=i:=e;subst e;have go:∀k oN,zx κ L P oN->kasC #[1] A sQ (pure (.yield ((y:Option (Option Nat)),m+1,k)):StateT bt Sem _) (FE (λi (d:Nat×Nat) st=>d.1=i/\CI κ L P oK d.1 st) (λ_ _=>False) (λd=>CI κ L P oK d.1) m s) oN s:=λk oN t3=>FE.go ⟨Y,mq _ _,hi,t3⟩;show aA (CL h z.t (show lo+m<_ by lia) (show lo+m - 1<_ by lia) λb=>xx (λ_=>xx (λ_=>aA<|DN z.t λoN t3=>go _ _ t3) λ_=>go _ _ z.t) λ_=>aA<|CL h z.t (show lo+m - 1<_ by lia) (show lo+m<_ by lia) λb'=>xx (λ_=>FE.brk z) λ_=>go _ _ z.t)
 ·obtain⟨n,oP⟩:=d;dsimp -zeta only
  extract_lets _ _ _ _ jp
  suffices hj:∀oO,zx κ L P oO->kasC #[1] A sQ (jp ()) Q oO s from
   xx (λ_=>aA<|DN z.t λoN t3=>hj _ t3) λ_=>hj _ z.t
  show λoO t2=>aA (DN t2 λoN t3=>JI h hn ⟨z.a,z.b,t3⟩ λn st z=>cG<|q n _ z.a z.b z.t)
theorem M0:∀(m:List Keyed) (sa k:Nat) (arr:Array Keyed),sa+k+m.length<=arr.size->((m.zipIdx k).foldl (λa p=>a.setIfInBounds (sa+p.2) p.1) arr).toList=arr.toList.take (sa+k)++m++arr.toList.drop (sa+k+m.length)
 |[],sa,k,arr,_=>by simp
 |x::m,sa,k,arr,hl=>by
  rw[aT]at hl;rw[List.zipIdx_cons,md,M0 m sa (k+1) _ (by rw[Array.size_setIfInBounds];lia)];rw[la,aT];have e:sa+(k+1)=sa+k+1:=rfl;rw[e,cZ (by rw[eW,aU];lia),List.take_set_of_le<|ah _,List.getElem_set_self,List.drop_set_of_lt #[2],bu,bu];rw[show sa+k+1+m.length=sa+k+(m.length+1)by lia];simp
def Pl(l:List Keyed)(p u v:Nat):l=l.take p++((l.drop p).take u++(l.drop<|p+u).take v)++l.drop (p+(u+v)):=by
 rw[<-gw (i:=u) (j:=p),<-List.take_add,<-gw (i:=u+v) (j:=p),bu,eZ,eZ]
def WK{i sa na nb pw oK:Nat}{Q:Bool->bt->ag->Prop}{st:bt}(h:uK prog w A κ s L)(t:zx κ L P st)(e1:P[i]? =E (sa,na,pw))(e2:P[i+1]? =E (sa+na,nb,oK))(h1:1<=na)(h2:1<=nb)(hz:sa+na+nb<=L.length)
  (q:∀rn,zx κ L ((P.setIfInBounds i (sa,na+nb,pw)).eraseIdxIfInBounds<|i+1) rn->Q sX rn s):kasC #[1] A sQ (mergeAt' i) Q st s:=by
 have hs:=t.size;obtain⟨BP,arr,P',g,f⟩:=st;obtain⟨rfl,e,rfl,hp⟩:=t;have e:f=y:=e;subst e;have hs:arr.size=L.length:=hs;have hp:arr.toList.Perm L:=hp;have hm:∀x∈arr.toList,x∈L:=λx hx=>hp.mem_iff.mp hx;unfold mergeAt';show aA<|gC ?_;have e1:P'[i]? =E (sa,na,pw):=e1;have e2:P'[i+1]? =E (sa+na,nb,oK):=e2;dsimp -zeta only;rw[e1,e2];dsimp -zeta only;show aA (UR<|aA (yw (show sa+na<arr.size by lia) λx0 oP _=>aA<|jG h Y (hm x0 oP) hm (show sa+na<=arr.size by lia) (show 0<na from h1) λk oR=>xx (λ_=>cG<|q _ ⟨Y,Y,Y,hp⟩) λc=>?_));rw[beq_iff_eq]at c;show aA (yw (show sa+k+(na - k) - 1<arr.size by lia) λx1 oO _=>aA<|jG h Y (hm x1 oO) hm (show sa+na+nb<=arr.size by lia) (show nb - 1<nb by lia) λn2 oQ=>xx (λ_=>cG<|q _ ⟨Y,Y,Y,hp⟩) λc2=>?_);rw[beq_iff_eq]at c2
 extract_lets x sZ jp
 have ex:x.toList=(arr.toList.drop<|sa+k).take (na - k):=by
  rw[d8,di,show sa+na - (sa+k)=na - k by lia]
 have ey:sZ.toList=(arr.toList.drop<|sa+na).take n2:=by
  rw[d8,di,cY]
 have lx:x.size=na - k:=by rw[<-aU,ex,a8,bC,aU];lia
 have ly:sZ.size=n2:=by rw[<-aU,ey,a8,bC,aU];lia
 have hx:∀z∈x.toList,z∈L:=λz hz=>by rw[ex]at hz;show hm z (cx<|bQ hz)
 have hy:∀z∈sZ.toList,z∈L:=λz hz=>by rw[ey]at hz;show hm z (cx<|bQ hz)
 have all:arr.toList=arr.toList.take (sa+k)++(x.toList++sZ.toList)++arr.toList.drop (sa+k+(na - k+n2)):=by
  rw[ex,ey,show sa+na=sa+k+(na - k)by lia];show Pl _ _ _ _
 clear_value x sZ
 suffices hj:∀m g',m.toList.Perm (x.toList++sZ.toList)->kasC #[1] A sQ (jp m) Q (sG (lA BP arr ((P'.setIfInBounds i (sa,na+nb,pw)).eraseIdxIfInBounds<|i+1) g y) g') s from
  xx (λ_=>aA<|WM h Y hx hy #[2] #[2] hj) λ_=>aA (WL h Y hx hy #[2] #[2] hj)
 intro m g' oN;show aA<|fz (aA<|gC (cG<|q _ ⟨Y,Y,Y,?_⟩));have lm:m.toList.length=na - k+n2:=by rw[oN.length_eq,ao,aU,aU,lx,ly]
 have wb:=M0 m.toList (sa+k) 0 arr (by rw[lm];lia);rw[lm]at wb;show gL (mx wb) (gL ?_ hp)
 conv=>rhs;rw[all]
 show List.Perm.append_right _ (dq _ oN)
def u4:List (Nat×Nat×Nat)->Nat->Nat->Prop
 |[],a,e=>a=e
 |(b,n,_)::r,a,e=>b=a/\1<=n/\u4 r (a+n) e
theorem u4.le:∀{l:List (Nat×Nat×Nat)} {a e:Nat},u4 l a e->a<=e
 |[],_,_,h=>dY h
 |(_,_,_)::_,_,_,h=>aQ (iQ _ _) (u4.le h.2.2)
theorem u4.OD:∀{l:List (Nat×Nat×Nat)} {i a e:Nat},u4 l a e->i+1<l.length->∃sa na pw nb oK,l[i]? =E (sa,na,pw)/\l[i+1]? =E (sa+na,nb,oK)/\1<=na/\1<=nb/\sa+na+nb<=e/\u4 ((l.set i (sa,na+nb,pw)).eraseIdx<|i+1) a e
 |(b,n,p)::(b2,n2,p2)::r,0,a,e,h,_=>by
  obtain⟨rfl,h1,rfl,h2,h3⟩:=h;show⟨b,n,p,n2,p2,Y,Y,h1,h2,h3.le,Y,Nat.le_add_right_of_le h1,by rw[<-Nat.add_assoc];show h3⟩
 |(b,n,p)::r,i+1,a,e,h,hi=>by
  obtain⟨sa,na,pw,nb,oK,e1,e2,h1,h2,h3,h4⟩:=u4.OD (i:=i) h.2.2<|mD hi;show⟨sa,na,pw,nb,oK,e1,e2,h1,h2,h3,h.1,h.2.1,h4⟩
 |[],_,_,_,_,hi=>absurd hi (kc _)
 |[_],0,_,_,_,hi=>absurd hi (bN _)
theorem u4.snoc:∀{l:List (Nat×Nat×Nat)} {a e n:Nat},u4 l a e->1<=n->u4 (l++[(e,n,0)]) a (e+n)
 |[],_,_,_,h,hn=>by cases h;show⟨Y,hn,Y⟩
 |(_,_,_)::_,_,_,_,h,hn=>⟨h.1,h.2.1,u4.snoc h.2.2 hn⟩
theorem u4.mod{w:Nat}:∀{l:List (Nat×Nat×Nat)} {i a e:Nat},u4 l a e->u4 (l.modify i λp=>(p.1,p.2.1,w)) a e
 |[],_,_,_,h=>by simpa using h
 |(_,_,_)::_,0,_,_,h=>h
 |(_,_,_)::_,i+1,_,_,h=>⟨h.1,h.2.1,u4.mod (i:=i) h.2.2⟩
def AG(κ:gz)(L:List Keyed)(lo:Nat)(st:bt):Prop:=lo<=L.length/\∃P,zx κ L P st/\u4 P.toList 0 lo
def L4{i lo:Nat}{Q:Bool->bt->ag->Prop}{st:bt}(h:uK prog w A κ s L)(t:zx κ L P st)(hT:u4 P.toList 0 lo)(hl:lo<=L.length)(hi:i+1<P.size)(q:∀rn,AG κ L lo rn->Q sX rn s):kasC #[1] A sQ (mergeAt' i) Q st s:=by
 obtain⟨sa,na,pw,nb,oK,e1,e2,h1,h2,h3,h4⟩:=hT.OD (i:=i) (by rw[aU];show hi);rw[eX]at e1 e2;show WK h t e1 e2 h1 h2 #[2] λrn t'=>q rn ⟨hl,_,t',?_⟩;rw[Array.toList_eraseIdxIfInBounds,la];show h4
def S6{Q:Unit->bt->ag->Prop}{st:bt}(h:uK prog w A κ s L)(t:zx κ L #[] st)(q:∀rn P',zx κ L P' rn->Q () rn s):kasC #[1] A sQ sortRuns' Q st s:=by
 unfold sortRuns';have hs:=t.size;show aA (gC (aA<|yE (I:=λ_=>AG κ L) (Z:=λ_ _=>False) (J:=AG κ L) ⟨aX _,#[],t,(show u4 [] 0 0 from rfl)⟩ (λi lo rn _ hI=>?_) (λ_ _ _ _ z=>z) (λ_ _ _ z=>z.elim) λlo rn z=>?_))
 ·show xx (λ_=>FE.brk hI) λc=>?_;obtain⟨hl,P,t',hT⟩:=hI;have c:¬lo≥(arrOf st).size:=c;show aA<|Vm h t' (show 1<=(arrOf st).size - lo by lia) (show lo+((arrOf st).size - lo)<=_ by lia) λn oO n1 n2 t2=>?_;have n2:n<=(arrOf st).size - lo:=n2;dsimp -zeta only
  extract_lets _ jp oQ _
  suffices hj:∀n oO,1<=n->lo+n<=L.length->zx κ L P oO->kasC #[1] A sQ (jp () n) _ oO s by
   show xx (λc1=>aA (iZ<|eN (aA<|VD h t2 (show lo+min ((arrOf st).size - lo) _<=_ by lia) λoK t3=>xx (λz=>by cases z) λ_=>hj _ _ ?_ (show lo+min ((arrOf st).size - lo) _<=_ by lia) t3))) λ_=>hj _ _ n1 #[2] t2;show Nat.le_min.mpr ⟨show 1<=(arrOf st).size - lo by lia,aQ n1<|cR c1⟩
  clear t2 n1;intro n oO n1 n2 t2;show aA (gC ?_)
  extract_lets _ oR
  have hj:∀oK P',zx κ L P' oK->u4 P'.toList 0 lo->kasC #[1] A sQ (oR ()) (FE (λ_=>AG κ L) (λ_ _=>False) (AG κ L) i s) oK s:=λoK P' t3 oS=>
   aA (fz<|FE.go ⟨n2,P'.push (lo,n,0),⟨t3.1,t3.2.1,(show(mn oK).push (lo,n,0)=_ by rw[t3.2.2.1]),t3.2.2.2⟩,by rw[ll];show oS.snoc n1⟩)
  split
  ·extract_lets pw
   show aA (yE (I:=λ_ _=>AG κ L lo) (Z:=λ_ _=>False) (J:=λ_=>AG κ L lo) ⟨hl,P,t2,hT⟩ (λk r rn _ hI=>?_) (λ_ _ _ _ z=>z) (λ_ _ _ z=>z.elim) λr rn z=>?_)
   ·have oP:=hI;obtain⟨_,P2,t',oN⟩:=hI;show aA (gC ?_)
    extract_lets p
    have hp:p=P2:=t'.2.2.1
    split
    ·rename_i hz;have hi:p.size - 2+1<P2.size:=by
      rw[<-hp]
      split at hz
      ·lia
      ·cases hz
     show xx (λ_=>FE.brk oP) λ_=>aA (L4 h t' oN hl hi λoK z=>xx (λz=>by cases z) λ_=>FE.go z)
    ·show FE.brk oP
   ·obtain⟨_,P2,t',oN⟩:=z;show aA (fz<|hj _ (P2.modify (P2.size - 1) λp=>(p.1,p.2.1,pw)) ⟨t'.1,t'.2.1,?_,t'.2.2.2⟩ (by rw[Array.toList_modify];show oN.mod));change(mn rn).modify ((mn rn).size - 1) (λx=>(x.1,x.2.1,pw))=_;rw[t'.2.2.1]
  ·show hj _ P t2 hT
 ·show aA (yE (I:=λ_ _=>AG κ L lo) (Z:=λ_ _=>False) (J:=λ_=>AG κ L lo) z (λk r rn _ hI=>?_) (λ_ _ _ _ z=>z) (λ_ _ _ z=>z.elim) λr rn z=>?_)
  ·have oP:=hI;obtain⟨hl,P2,t',oN⟩:=hI;show aA (gC ?_)
   extract_lets p i0 bf i1
   have hp:p=P2:=t'.2.2.1;show xx (λ_=>FE.brk oP) λc=>aA<|L4 h t' oN hl (show i1+1<P2.size from ?_) λoK z=>xx (λz=>by cases z) λ_=>FE.go z;rw[<-hp];have h1:i1<=i0:=by
    change(if _ then _ else _)<=_
    split
    ·show Nat.sub_le _ _
    ·show ah _
   have h0:i0=p.size - 2:=rfl;lia
  ·obtain⟨_,P2,t',_⟩:=z;show cG (q _ _ t')
end
end PySem.W
namespace PySem.W
open PySem PySem.Calls PyProof.Rows
section
variable {prog:a9} {w:World} {A:bx} {sQ:sV->ag->Prop} {s:ag} {a kS:sK} {ks vs:List sV} {e1:Nat} {f:sV} {κ:gz} {P:PySem.Fin->ag->Prop}
def IU(prog:a9)(w:World)(A:bx)(κ:gz)(s:ag)(ks:List sV):Prop:=∀x sZ,x∈ks->sZ∈ks->∀C:Bool->ag->Prop,(∀b,C b s)->wpAny #[1] A (keyLt' κ x sZ) C (λ_ _=>False) s
def Ra{Q:bt->ag->Prop}(hl:ks.length=vs.length)(hc:IU prog w A κ s ks)(q:∀rn out,(arrOf rn).map (·.2)=aL out->out.Perm vs->kA rn=y->Q rn s):
  wpAny #[1] A (sortRuns'.run<|lA κ (ks.toArray.zip vs.toArray) #[] 7 y) (λr s'=>Q r.2 s') sQ s:=by
 have z:(ks.toArray.zip vs.toArray).toList=ks.zip vs:=by simp
 show S6 (κ:=κ) (L:=ks.zip vs) (Q:=λ_ rn s'=>Q rn s') (λx sZ hx hy C hC=>hc _ _ (dZ (a:=x.1) (b:=x.2) hx).1 (dZ (a:=sZ.1) (b:=sZ.2) hy).1 C hC) ⟨Y,Y,Y,mx z⟩ λrn P' t=>q rn ((arrOf rn).toList.map (·.2)) ?_ ?_ t.2.1
 ·apply iP.mp;simp
 ·show(t.2.2.2.map (·.2)).trans (mx ?_);show lR (dY hl.symm)
def Mv{st:bt}{out:List sV}{e:Nat}(oP:a≠kS)(oK:(arrOf st).map (·.2)=aL out)(hz:out.length<=1000)(oQ:ks.length<=1000)(hf:kA st=y)
  (ha:s.heap.get? a=E (bA "list" #[] e1)) (hk:s.heap.get? kS=E (bA "list" (aL ks) e))
  (h:∀h' c,(∀b o,b≠kS->b≠a->s.heap.get? b=E o->h'.get? b=E o)->h'.get? a=E (bA "list" (aL out) c)->P (.done<|.ret .none) {s with heap:=h'}):wpAny #[1] A (ksk_tail a sJ e1 (.ref kS) st) P sQ s:=by
 have s1:=cu s.heap kS<|bb λ_=>(#[]:Array sV);have oN:(s.heap.update kS<|bb λ_=>(#[]:Array sV)).get? a=E (bA "list" #[] e1):=(s1.2 a oP).trans ha;have s2:=cu (s.heap.update kS<|bb λ_=>(#[]:Array sV)) a<|bb λ_=>aL out;obtain⟨c2,oO⟩:∃c2,((s.heap.update kS<|bb λ_=>(#[]:Array sV)).update a<|bb λ_=>aL out).get? a=E (bA "list" (aL out) c2):=⟨_,gK oN λ_=>aL out⟩;unfold ksk_tail
 try dsimp only
 rw[oK];show ae (gF hk Y ?_ (by rw[aH,ak];lia)<|aX _);show ae<|dJ ?_;show ae<|seqEpoch_at oN Y ?_;show ae (gF oN Y ?_ (aX _)<|aQ (dY aH) (by rw[ak];lia));rw[hf];simp only[bne_self_eq_false,cA,if_false];show ar (h _ c2 (λb o h1 h2 q=>(s2.2 b h2).trans<|(s1.2 b h1).trans q) oO)
def Q9(kS a:sK)(vs:List sV)(P:PySem.Fin->ag->Prop)(s:ag):Prop:=∀out:List sV,out.Perm vs->∀h' c,(∀b o,b≠kS->b≠a->s.heap.get? b=E o->h'.get? b=E o)->h'.get? a=E (bA "list" (aL out) c)->P (.done<|.ret .none) {s with heap:=h'}
def Vl(oO:a≠kS)(hl:ks.length=vs.length)(hz:vs.length<=1000)(ha:s.heap.get? a=E (bA "list" #[] e1))(hk:s.heap.get? kS=E (bA "list" (aL ks) e))
  (oN:2<=vs.length->wpAny #[1] A (keyKind'<|aL ks) (λBP s'=>BP=κ/\s=s') (λ_ _=>False) s) (hc:IU prog w A κ s ks) (fin:Q9 kS a vs P s):
  wpAny #[1] A (mO a sJ vs.toArray e1 (.ref kS)<|aL ks) P sQ s:=by
 unfold mO
 try dsimp only
 by_cases h2:2<=vs.length
 ·have oK:¬vs.toArray.size<2:=by rw[aH];lia
  simp only[cA,if_false];rw[if_neg oK,if_neg oK];show ae<|aR (oN h2) (λBP s0 hk=>?_) λ_ _ x=>x.elim;obtain⟨rfl,rfl⟩:=hk;show ae<|aR (Ra (Q:=λrn s'=>s=s'/\∃out,(arrOf rn).map (·.2)=aL out/\out.Perm vs/\kA rn=y) hl hc λrn out h1 h2 h3=>⟨Y,out,h1,h2,h3⟩) ?_ λ_ _ x=>x;rintro⟨⟨⟩,rn⟩ s' ⟨rfl,out,h1,h2,h3⟩;show Mv oO h1 (by rw[h2.length_eq];show hz) #[2] h3 ha hk λh' c=>fin out h2 h' c
 ·have oK:vs.toArray.size<2:=by rw[aH];lia
  simp only[cA,if_false];rw[if_pos oK,if_pos oK];show ae (ar (ae<|ar ?_))
  try dsimp only
  have oP:(arrOf<|lA general' ((aL ks).zip<|aL vs) #[] 7 y).map (·.2)=aL vs:=by
   change((aL ks).zip<|aL vs).map (·.2)=aL vs;apply iP.mp;simp[lR,hl]
  show Mv oO oP hz #[2] rfl ha hk λh' c=>fin vs (mQ _) h' c
end
end PySem.W
namespace PySem.W
open PySem PySem.Calls PyProof.Rows
section
variable {prog:a9} {w:World} {A:bx} {sQ:sV->ag->Prop} {s:ag} {a kS:sK} {vs:List sV} {e1:Nat} {f:sV} {P:PySem.Fin->ag->Prop} {Z:List sV->ag->Prop}
def zq(prog:a9)(w:World)(A:bx)(kS a:sK)(e1:Nat)(f:sV)(Z:List sV->ag->Prop):List sV->List sV->ag->Prop
 |[],ks,s=>s.heap.get? a=E (bA "list" #[] e1)/\Z ks s
 |v::r,ks,s=>wpAny (model prog w) A (call f [v]) (λk s'=>(∃e,s'.heap.get? kS=E (bA "list" (aL ks) e))/\∀h' c,(∀b o,b≠kS->s'.heap.get? b=E o->h'.get? b=E o)->h'.get? kS=E (bA "list" (aL<|ks++[k]) c)->zq prog w A kS a e1 f Z r (ks++[k]) {s' with heap:=h'}) (λ_ _=>False) s
theorem zq.imp{Z':List sV->ag->Prop}(i:∀ks s,Z ks s->Z' ks s):∀{r ks:List sV} {s:ag},zq prog w A kS a e1 f Z r ks s->zq prog w A kS a e1 f Z' r ks s
 |[],_,_,h=>⟨h.1,i _ _ h.2⟩
 |_::_,_,_,h=>aR h (λ_ _ q=>⟨q.1,λh' c k1 k2=>zq.imp i<|q.2 h' c k1 k2⟩) λ_ _ z=>z
theorem Mu{body:sV->PUnit->Sem (ForInStep PUnit)}(hn:n<=1000)
  (hb:∀x ks (s:ag) (C:sV->Nat->ag->Prop),cz ks<=1000->wpAny #[1] A (call f [x]) (λk s'=>(∃e,s'.heap.get? kS=E (bA "list" (aL ks) e))/\∀h' c,(∀b o,b≠kS->s'.heap.get? b=E o->h'.get? b=E o)->h'.get? kS=E (bA "list" (aL<|ks++[k]) c)->C k c {s' with heap:=h'}) (λ_ _=>False) s->
   wpAny #[1] A (body x ⟨⟩) (λr s'=>r= .yield ⟨⟩/\∃k c,s'.heap.get? kS=E (bA "list" (aL (ks++[k])) c)/\C k c s') sQ s):∀(r ks:List sV) (e:Nat) (s:ag),ks.length+r.length=n->
   s.heap.get? kS=E (bA "list" (aL ks) e)->zq prog w A kS a e1 f Z r ks s->
   wpAny #[1] A (forIn r PUnit.unit body) (λ_ s'=>∃ks e,s'.heap.get? kS=E (bA "list" (aL ks) e)/\ks.length=n/\s'.heap.get? a=E (bA "list" #[] e1)/\Z ks s') sQ s
 |[],ks,e,s,hl,hk,h=>by
  rw[List.forIn_nil];show ar ⟨ks,e,hk,by simpa using hl,h⟩
 |x::r,ks,e,s,hl,hk,h=>by
  rw[aT]at hl;rw[mh];have h':=h;unfold zq at h';show ae<|aR (hb x ks s (λk c s'=>zq prog w A kS a e1 f Z r (ks++[k]) s') #[2]<|aR h' (λk s' hq=>hq) λ_ _ x=>x) (λq s' hq=>?_) λ_ _ x=>x;obtain⟨rfl,k,c,oK,h2⟩:=hq;change wpAny #[1] A (forIn r PUnit.unit body) _ sQ s';show Mu hn hb r (ks++[k]) c s' (by rw[ao,bT];lia) oK h2
theorem MZ(ho:s.heap.get? a=E (bA "list" vs.toArray n))(oV:vs.length<=1000){Z:sK->Nat->List sV->ag->Prop}
  (hZ:∀kS e1 ks e s,a≠kS->ks.length=vs.length->s.heap.get? a=E (bA "list" #[] e1)->s.heap.get? kS=E (bA "list" (aL ks) e)->Z kS e1 ks s->wpAny #[1] A (mO a sJ vs.toArray e1 (.ref kS)<|aL ks) P sQ s)
  (h:∀kS e1 h',(∀b o,b≠a->s.heap.get? b=E o->h'.get? b=E o)->h'.get? a=E (bA "list" #[] e1)->h'.get? kS=E (bA "list" #[] 0)->s.heap.objs.size<=kS->zq prog w A kS a e1 f (Z kS e1) vs [] {s with heap:=h'}):
  wpAny #[1] A (ksk_tree a f sJ) P sQ s:=by
 have ha:a<s.heap.objs.size:=aq ho;have s1:=cu s.heap a<|bb λ_=>(#[]:Array sV);obtain⟨e1,oO⟩:∃e1,(s.heap.update a<|bb λ_=>(#[]:Array sV)).get? a=E (bA "list" #[] e1):=⟨_,gK ho λ_=>#[]⟩;have oK:((s.heap.update a<|bb λ_=>(#[]:Array sV)).push<|bA "tuple" vs.toArray 0).objs.size=s.heap.objs.size+1:=by rw[size_push',Heap.size_update]
 unfold ksk_tree;show ae<|listItems_at ho Y ?_;show ae (gF ho Y ?_ (by rw[aH,ak];lia)<|aX _);show ae<|seqEpoch_at oO Y ?_;show ae<|wpAny_newTuple ?_ (by change vs.length<=_;rw[ak];lia);show ae (iF ?_<|aX _);show bO ?_;generalize hK:((s.heap.update a<|bb λ_=>(#[]:Array sV)).push<|bA "tuple" vs.toArray 0).objs.size=kS at oK;generalize hh:((s.heap.update a<|bb λ_=>(#[]:Array sV)).push<|bA "tuple" vs.toArray 0).push (bA "list" #[] 0)=h1;have oP:h1.get? kS=E (bA "list" #[] 0):=by rw[<-hh,<-hK];show aF _ rfl
 have hk:=h kS e1 h1 (λb o hb q=>by rw[<-hh];show af _ (af _<|(s1.2 b hb).trans q)) (by rw[<-hh];show af _<|af _ oO) oP (by rw[oK];show cU _);have oS:a≠kS:=aC (by rw[oK];show Nat.lt_succ_of_lt ha);unfold ksk_rest;show ae (eN ?_)
 first
  |rw[List.forIn_toArray]
  |(rw[<-n8];simp only[List.toList_toArray])
  |rw[<-n8]
 show ae (aR (Mu oV (λx ks s' C hz hx=>?_) vs [] 0 {s with heap:=h1} #[8] oP hk) (λ_ s' hd=>?_) λ_ _ x=>x)
 ·show ae (nG<|aR hx (λk oN hk=>?_) λ_ _ hF=>hF.elim);obtain⟨⟨e,nk⟩,c⟩:=hk;have s1:=cu oN.heap kS<|bb (·.push k);have ea:(aL ks).push k=aL (ks++[k]):=by simp
  obtain⟨c2,oR⟩:∃c2,(oN.heap.update kS<|bb (·.push k)).get? kS=E (bA "list" (aL<|ks++[k]) c2):=⟨_,by rw[<-ea];show gK nk (·.push k)⟩
  try dsimp only
  show ae (gF nk Y ?_ (by rw[aH,ak];lia)<|aQ (dY<|Array.size_push ..) (by rw[aH,ak];lia));show ar ⟨Y,k,c2,oR,c _ c2 (λb o hb q=>(s1.2 b hb).trans q) oR⟩
 ·obtain⟨ks,e,oQ,hl,oU,fin⟩:=hd
  try dsimp only
  show ae<|listItems_at oQ Y ?_;show hZ _ _ _ _ _ oS hl oU oQ fin
end
end PySem.W
namespace Internal.L2
open PySem PySem.Spec PyProof.Rows PySem.W
variable {ps:List Str} {f:sK} {X:Cx} {x qual q:Str} {st:Stmt} {fd:ay} {K:ax} {params:c9} {body:d5} {scope:Scope} {sp:List (Str×V)->Sp} {pos p:Pos} {e:Expr}
theorem VC(h:us.Perm ts):∀{xs:List V},Vals xs ts->∃ys,Vals ys us/\ys.Perm xs:=by
 induction h with
 |nil=>intro xs p;show⟨xs,p,mQ _⟩
 |cons x _ ih=>
  intro xs p;cases p with
  |cons p1 p2=>
   obtain⟨ys,q,z⟩:=ih p2;show⟨_::ys,.cons p1 q,z.cons _⟩
 |swap x sZ l=>
  intro xs p;cases p with
  |cons p1 p=>
   cases p with
   |cons p2 p3=>show⟨_,.cons p2<|.cons p1 p3,List.Perm.swap _ _ _⟩
 |trans _ _ i1 i2=>
  intro xs p;obtain⟨ys,q,z⟩:=i2 p;obtain⟨zs,q',z'⟩:=i1 q;show⟨zs,q',z'.trans z⟩
structure BQ(X:Cx)(H2:Hp)(s2:ag)(KQ:Nat->V->Hp->Prop)(D kS:sK)(e1:Nat)(ks:List sV)(G:Hp)(s':ag):Prop where
 os:s'.os=s2.os
 bare:gr s'.gens
 un:Un (tw X.stack) [] H2 G s2.heap s'.heap
 rh:sD X.prog X.w G s'.heap
 same:xf H2 G
 keys:∀i u,ks[i]? =E u->∃v,RelV v u/\KQ i v G
 AF:s'.heap.get? D=E (bA "list" #[] e1)
 fD:G D=y
 fk:G kS=y
section
variable {k:Nat} {nm:Str} {pins:List (sK×Obj)} {σ:St} {H2:Hp} {s2:ag} {D kS:sK} {fv:List (Str×V)} {KQ:Nat->V->Hp->Prop} {xs:List V} {vs:List sV} {P:PySem.Fin->ag->Prop} {e1:Nat} {κ:gz}
structure DM(X:Cx)(κ:gz)(KQ:Nat->V->Hp->Prop):Prop where
 same:∀{i v G G'},KQ i v G->xf G G'->KQ i v G'
 kind:∀{ks:List sV} {G s},2<=ks.length->sD X.prog X.w G s.heap->(∀i u,ks[i]? =E u->∃v,RelV v u/\KQ i v G)->wpAny (model X.prog X.w) X.A.in1.in1 (keyKind' ks.toArray) (λBP s'=>BP=κ/\s=s') (λ_ _=>False) s
 ask:∀{u u':sV} {i j v v' G s} {C:Bool->ag->Prop},sD X.prog X.w G s.heap->RelV v u->KQ i v G->RelV v' u'->KQ j v' G->(∀b,C b s)->wpAny (model X.prog X.w) X.A.in1.in1 (keyLt' κ u u') C (λ_ _=>False) s
def KC(I:Inv X pins σ H2 s2)(hD:s2.heap.objs.size<=D)(hk:s2.heap.objs.size<=kS)(J:BQ X H2 s2 KQ D kS e1 ks G s)(oO:Vals ys out)(hz:out.length<=1000)
  (keep:∀b o,b≠kS->b≠D->s.heap.get? b=E o->h'.get? b=E o) (oR:h'.get? D=E (bA "list" (aL out) c)):Inv X pins σ (upd G D<|.lst ys) {s with heap:=h'}/\xf H2 (upd G D<|.lst ys):=by
 have newD:xP X.prog X.w (upd G D<|.lst ys) h' D (.lst ys):=⟨by rw[oO.length,ak];lia,_,c,oO,oR⟩;have oN:sD X.prog X.w (upd G D<|.lst ys) h':=λb u e=>by
  by_cases hb:b=D
  ·subst hb;rw[xk]at e;cases e;show newD
  ·rw[xl hb]at e;show(J.rh b u e).tu (λc' v oP q=>keep c' v ?_ ?_ q) (λc' q=>by rw[xl<|xH q J.fD];show q) λc' xs q _=>by rw[xl<|xH q J.fD];show q
   ·rintro rfl;rcases oP with z|z
    ·rw[<-z,J.fk]at e;cases e
    ·rw[J.fk]at z;cases z
   ·rintro rfl;rcases oP with z|z
    ·show hb z.symm
    ·rw[J.fD]at z;cases z
 have oK:∀b o,s2.heap.get? b=E o->b≠D/\b≠kS:=λb o q=>⟨aC<|az (aq q) hD,aC<|az (aq q) hk⟩;have oQ:Un (tw X.stack) [] H2 (upd G D<|.lst ys) s2.heap h':=by
  show⟨λb o q n1 n2 n3=>keep b o (oK b o q).2 (oK b o q).1<|J.un.keep b o q n1 n2 n3,λb o q n1 n2 n3=>?_,λb o q n1 n3=>by rw[xl (oK b o q).1];show J.un.free b o q n1 n3,λb o q n3=>?_,λb u q fx=>?_⟩
  ·obtain⟨sl,e⟩:=J.un.slot b o q n1 n2 n3;show⟨sl,keep b _ (oK b o q).2 (oK b o q).1 e⟩
  ·obtain⟨o',e⟩:=J.un.there b o q n3;show⟨o',keep b _ (oK b o q).2 (oK b o q).1 e⟩
  ·have:=J.un.fix b u q fx;rw[xl<|xH this J.fD];show this
 have IF:Inv X pins σ (upd G D<|.lst ys) {s with heap:=h'}:=I.tR (s':={s with heap:=h'}) (ch:=[]) J.os oQ oN J.bare λb z=>absurd z #[8];show⟨IF,λb u q=>?_⟩;have:=J.same b u q;rw[xl<|xH this J.fD];show this
def L1{e:Nat}{sQ:sV->ag->Prop}(KO:DM X κ KQ)(I:Inv X pins σ H2 s2)(hv:Vals xs vs)(hD:s2.heap.objs.size<=D)(hk:s2.heap.objs.size<=kS)(hz:vs.length<=1000)
  (fin:∀ys,ys.Perm xs->∀sF G',Inv X pins σ G' sF->xf H2 G'->G' D=E (.lst ys)->P (.done<|.ret .none) sF)
  (oO:D≠kS) (hl:ks.length=vs.length) (oQ:s.heap.get? kS=E (bA "list" (aL ks) e)) (J:BQ X H2 s2 KQ D kS e1 ks G s):
  wpAny #[3] X.A.in1.in1 (mO D sJ vs.toArray e1 (.ref kS)<|aL ks) P sQ s:=by
 show Vl (κ:=κ) oO hl hz J.AF oQ (λh2=>KO.kind #[2] J.rh J.keys) (λx sZ hx hy C hC=>?_) λout hp h' c keep oP=>?_
 ·obtain⟨i,hi⟩:=bU.mp hx;obtain⟨j,hj⟩:=bU.mp hy;obtain⟨v,r,q⟩:=J.keys i x hi;obtain⟨v',r',q'⟩:=J.keys j sZ hj;show KO.ask J.rh r q r' q' hC
 ·obtain⟨ys,oN,oK⟩:=VC hp hv;have z:=KC I hD hk J oN (by rw[hp.length_eq];show hz) keep oP;show fin ys oK _ _ z.1 z.2 xk
theorem GC(KO:DM X κ KQ)(F:uq X.prog X.w X.K X.mg X.base sR k nm qual params body scope ps sp)(hr:xR (k+2) X.A)(I:Inv X pins σ H2 s2)(hc:yx H2 f nm qual params body scope fv)
  (hD:s2.heap.objs.size<=D) (hk:s2.heap.objs.size<=kS) (oW:D≠kS):∀(rx:List V) (r ks:List sV) (s':ag) (G:Hp),Vals rx r->
   (∀i x,rx[i]? =E x->∀H3,xf H2 H3->sp fv [x] H3 (λv H4=>xf H3 H4/\KQ (ks.length+i) v H4) E0)->BQ X H2 s2 KQ D kS e1 ks G s'->(∃e,s'.heap.get? kS=E (bA "list" (aL ks) e))->
   zq X.prog X.w X.A.in1.in1 kS D e1 (.ref f) (λks s=>∃G,BQ X H2 s2 KQ D kS e1 ks G s) r ks s'
 |_,[],ks,s',G,.nil,_,J,oV=>⟨J.AF,G,J⟩
 |_,x::r,ks,s',G,.cons (a:=x0) (l₁:=rx) rel oP,oU,J,oV=>by
  have Iu:Inv X pins σ G s':=I.tR (s':=s') (ch:=[]) J.os J.un J.rh J.bare λb z=>absurd z #[8];have IC:x9 X.prog X.w X.K X.mg X.base X.A.in1.in1 X.stack s' G:=by
   have e:=Iu.wI;show⟨e.frames,e.mod,e.bs,e.wK,e.sH,e.wW,e.rh,e.bare⟩
  unfold zq;show fV<|dI (F.run X.A.in1.in1 X.stack s' G f fv _ [x0] _ E0 hr.in1.in1 IC (hc.same J.same) (.cons rel .nil)<|oU 0 x0 Y G J.same) λrr oX hq=>?_;cases rr with
  |error e=>show hq.elim
  |ok fl=>
   cases fl with
   |next=>show hq.elim
   |brk=>show hq.elim
   |cont=>show hq.elim
   |ret u=>
    obtain⟨v,H',o7,oO,oN,oS,oZ,hS,hq⟩:=hq;obtain⟨e,oK⟩:=oV;have kD:=oN.keep D _ J.AF J.fD (I.young hD) #[8];have oY:=oN.keep kS _ oK J.fk (I.young hk) #[8];show⟨⟨e,oY⟩,λh' c keep oR=>?_⟩;show GC KO F hr I hc hD hk oW rx r (ks++[u]) {oX with heap:=h'} H' oP (λi x hx=>by have:=oU (i+1) x hx;rwa [show ks.length+(i+1)=(ks++[u]).length+i by rw[ao,bT];lia]at this) ⟨o7.trans J.os,oO,?_,?_,J.same.trans hS,λi w hw=>?_,keep D _ oW kD,oN.free D _ J.AF J.fD #[8],oN.free kS _ oK J.fk #[8]⟩ ⟨c,oR⟩
    ·have u2:=J.un.trans oN;have oQ:∀b o,s2.heap.get? b=E o->b≠kS:=λb o q=>aC<|az (aq q) hk;show⟨λb o q n1 n2 n3=>keep b o (oQ b o q)<|u2.keep b o q n1 n2 n3,λb o q n1 n2 n3=>?_,u2.free,λb o q n3=>?_,u2.fix⟩
     ·obtain⟨sl,e⟩:=u2.slot b o q n1 n2 n3;show⟨sl,keep b _ (oQ b o q) e⟩
     ·obtain⟨o',e⟩:=u2.there b o q n3;show⟨o',keep b _ (oQ b o q) e⟩
    ·show Mg oS (oN.free kS _ oK J.fk #[8]) λc' o o8 q=>keep c' o o8 q
    ·by_cases hi:i<ks.length
     ·rw[bq hi]at hw;obtain⟨v',r',q'⟩:=J.keys i w hw;show⟨v',r',KO.same q' hS⟩
     ·rw[bP #[2]]at hw;obtain⟨h1,h2⟩:=aE.mp hw;have:i=ks.length:=by simp at h1;lia
      subst this;simp at h2;subst h2;show⟨v,oZ,hq⟩
end
def Ff(v:V)(G:Hp):Prop:=∃d ns,v= .ref d/\G d=E (.lst<|oB V.int ns)
section
variable {k:Nat} {nm:Str}
def Mt{k:Nat}(hr:xR (k+2) X.A):DM X lN λ_=>Ff where
 same:=λh e=>by
  obtain⟨d,ns,rfl,h⟩:=h;show⟨d,ns,Y,e.at h⟩
 kind:=λh2 rh hk=>by
  show SD #[2] (λu hu=>?_) ⟨Y,Y⟩;obtain⟨i,hi⟩:=bU.mp hu;obtain⟨v,r,d,ns,rfl,hd⟩:=hk i u hi;cases r;obtain⟨_,rf,n,_,e⟩:=rh d _ hd;show⟨d,_,Y,e,Y⟩
 ask:=λrh r q r' q' hC=>by
  obtain⟨d,ns,rfl,hd⟩:=q;obtain⟨d',oR,rfl,oO⟩:=q';cases r;cases r';rw[mR];obtain⟨_,oN,n1,r1,oQ⟩:=rh d _ hd;obtain⟨_,oK,n2,r2,oP⟩:=rh d' _ oO;show HT.xhb ⟨_,oQ,Y,_,Y⟩ ⟨_,oP,Y,_,Y⟩ (intsAre_of r1) (intsAre_of r2) hr.in1.in1.wA (hC _)
def Q8(nm qual:Str)(params:c9)(body:d5)(scope:Scope)(sp:List (Str×V)->Sp)(ta:TA)(tf:TE):TE:=λσ H Q=>ta σ H λxs H1=>tf σ H1 λsZ H2=>
 ∃(r f:sK) (n:Nat) (fv:List (Str×V)),xs=[.ref r]/\sZ= .ref f/\H2 r=E (.z0 0 n)/\n<=1000/\yx H2 f nm qual params body scope fv/\
 (∀i,i<n->∀H3,xf H2 H3->sp fv [.int (i:Nat)] H3 (λv H4=>xf H3 H4/\Ff v H4) E0)/\
 ∀(l:sK) (p:List V) (H':Hp),xf H2 H'->H2 l=y->H' l=E (.lst p)->p.Perm ((bD n).map λ(i:Nat)=>V.int i)->Q (.ref l) H'
def Xt{kp:Pos}(F:uq X.prog X.w X.K X.mg X.base sR k nm qual params body scope ps sp)(hr:xR (k+2) X.A)(hc:X.calm=sX)(hg:Gl X "sorted")(hm:X.mg "sorted"=y)(ha:PA X [e] ta)(hf:PE X fe tf)
  (he:autoParam (bY pos (aM [e] X.env)=(sJ,eval e X.env)::bY pos (aM [] X.env)) rJ):
  PE X (.Call (.Name "sorted" p) [e] [⟨E "key",fe,kp⟩] pos) (Q8 nm qual params body scope sp ta tf):=by
 intro pins s σ H Q I h;show bL<|zJ I hg hm MR ?_ #[6] #[6];show mB (zS #[16] λus s1 xs H1 I1 r1 q1=>?_) he (by rw[he];rfl) rfl rfl;show ng<|xQ (hf pins s1 σ H1 _ I1 q1) λfu s2 sZ H2 I2 r2 q2=>kws_nil ?_;obtain⟨r,f,n,fv,rfl,rfl,oS,hn,o8,oX,q⟩:=q2;obtain⟨u,rfl,ru⟩:=Vals.one r1;cases ru;cases r2;obtain⟨t1,t2,t3,hR⟩:=I2.rh r _ oS;change wpAny _ _ (call (.builtin "sorted") [.ref r] [(bF "key",.ref f)]) _ _ s2;show call_function_entry_kw kind_sorted plain_sorted entry_sorted (ksk_s1 _ _) ?_;unfold fP.«sorted»;show ae (m:=checkCount "sorted" 1 1 _)<|ar ?_;have oP:br 0 (n:Int) 1=(n:Nat):=by rw[rangeSize_one];split<;> lia
 show ae<|Zb (A:=X.A.in1) (I.ok.hd hc) hR oP #[2] λg tk xs m keep oY o7 items=>?_;obtain⟨oW,hit⟩:=items;have oO:xs.toList.length=n:=by rw[aU];show oW
 show ae<|iF ?_ (by rw[oO,ak];lia);have oV:(g.push<|bA "list" xs.toList.toArray 0).get? g.objs.size=E (bA "list" xs.toList.toArray 0):=aF _ rfl;have hv:Vals ((bD n).map λ(i:Nat)=>V.int i) xs.toList:=by
  show EH (by rw[aa,ef,oO]) λj x u e1 e2=>?_;have hj:j<n:=by rw[<-oO];show(aE.mp e2).1
  rw[av,kj hj]at e1;cases e1;obtain⟨t,ht⟩:=hit j u (by simpa using e2);show⟨t,by rw[ht];congr 1;lia⟩
 show ae (bO (wpAny_call_entry_kw slot_list_sort ⟨_,oV,Y⟩ entry_list_sort ?body<|ksk_l1 _ _))
 case body=>
  change wpAny #[3] X.A.in1.in1 (fP.«list.sort» ⟨[.ref g.objs.size],[(bF "key",.ref f)]⟩) _ _ _;rw[ksk_t1];have oK:s2.heap.objs.size<=g.objs.size:=cR oY;show MZ (s:={s2 with heap:=g.push<|bA "list" xs.toList.toArray 0,toks:=tk}) (Z:=λkS e1 ks s=>s2.heap.objs.size<=kS/\∃G,BQ X H2 s2 (λ_=>Ff) g.objs.size kS e1 ks G s) oV (by rw[oO];show hn) (λkS e1 ks e s o9 hl _ oU hz=>?_) λkS e1 h' oN AF oU oZ=>?_
  ·obtain⟨oQ,G,J⟩:=hz;show L1 (Mt hr) I2 hv oK oQ (by rw[oO];show hn) (λys hy sF G' IF sm pd=>⟨_,Y,ar ⟨_,Y,.ref g.objs.size,G',IF,Y,q _ ys G' sm (I2.rh.fresh oK) pd hy⟩⟩) o9 hl oU J
  ·have oR:g.objs.size<kS:=az (by change g.objs.size<(g.push _).objs.size;rw[cT];show du _) oZ;have oQ:s2.heap.objs.size<=kS:=aQ oK<|cR oR;have old:∀b o,s2.heap.get? b=E o->h'.get? b=E o:=λb o e=>oN b o (aC<|az (aq e) oK) (af _<|keep b o e);show zq.imp (λks s z=>⟨oQ,z⟩) (GC (e1:=e1) (Mt hr) F hr I2 o8 oK oQ (aC oR) _ xs.toList [] {s2 with heap:=h',toks:=tk} H2 hv (λi x hx=>by
    obtain⟨j,hi,rfl⟩:=aY.mp (aj hx);show oX j (cC.mp hi)) ⟨Y,I2.bare,Un.kept old,I2.rh.kept old,xf.refl _,(λi u hu=>nomatch hu),AF,I2.rh.fresh oK,I2.rh.fresh oQ⟩ ⟨0,oU⟩)
end
def IT(kk:Nat->Int)(i:Nat)(v:V)(_:Hp):Prop:=v= .int (kk i)
section
variable {k:Nat} {nm:Str}
def LZ{kk:Nat->Int}:DM X lN (IT kk) where
 same:=λh _=>h
 kind:=λh2 _ hk=>kas_kind (T:=cL "int") #[2] (λu hu=>by
  obtain⟨i,hi⟩:=bU.mp hu;obtain⟨v,r,rfl⟩:=hk i u hi;obtain⟨t,rfl⟩:=r;show .now) #[6] #[6] ⟨Y,Y⟩
 ask:=λ_ r q r' q' hC=>by
  cases q;cases q';obtain⟨t,rfl⟩:=r;obtain⟨t',rfl⟩:=r';rw[mR];show oneLt_int (hC _)
end
open PySem PySem.Spec PyProof.Rows
def QO:V->List V->Hp->VK->Prop:=λx vs H Q=>∃(z sZ:Str),x= .str z/\vs=[.str sZ]/\Q (.bl<|PySem.Txt.endswith z sZ) H
def NL:A4 X "str.endswith" QO:=by
 intro pins s σ H x vs v us Q I rx rv h;obtain⟨z,sZ,rfl,rfl,q⟩:=h;obtain⟨t,rfl⟩:=rx;obtain⟨u,rfl,ru⟩:=rv.one;obtain⟨t2,rfl⟩:=ru;show dA F.slot_str_endswith (fW s z t) F.entry_str_endswith (F.args_str_endswith_2 _ _) (gives_str_endswith z sZ t t2).meets ?_;show⟨.bl _,H,I.tok _,Y,q⟩
noncomputable def t9(c:Str)(i:Int):Str:=c++bF (toString i)
def Q7(a b c:Str)(ta tb tc:TE):TE:=λσ H Q=>(cy++a).length<=aK/\ta σ H λx H1=>∃i:Int,x= .int i/\i.natAbs.log2<1920/\(t9 (cy++a) i).length<=aK/\(t9 (cy++a) i++b).length<=aK/\
 tb σ H1 λsZ H2=>∃j:Int,sZ= .int j/\j.natAbs.log2<1920/\(t9 (t9 (cy++a) i++b) j).length<=aK/\(t9 (t9 (cy++a) i++b) j++c).length<=aK/\
 tc σ H2 λz H3=>∃k:Int,z= .int k/\k.natAbs.log2<1920/\(t9 (t9 (t9 (cy++a) i++b) j++c) k).length<=aK/\Q (.str<|t9 (t9 (t9 (cy++a) i++b) j++c) k) H3
def Vk{b:Str}(h1:PE X e1 ta)(h2:PE X e2 tb)(h3:PE X e3 tc):
  PE X (.JoinedStr [.Constant (.str a) n1 p1,.FormattedValue e1 (-1) y p2,.Constant (.str b) n2 p3,.FormattedValue e2 (-1) y p4,.Constant (.str c) n3 p5,.FormattedValue e3 (-1) y p6] pos) (Q7 a b c ta tb tc):=by
 intro pins s σ H Q I h;obtain⟨hl,h⟩:=h;show wpAny_JoinedStr (gA<|fT ⟨a,_,Y,hl,gA ?_⟩);show ff<|xQ (h1 pins _ σ H _ (I.tok _) h) λv s1 x H1 I1 r1 q1=>?_;obtain⟨i,rfl,hi,oQ,oP,q1⟩:=q1;obtain⟨t,rfl⟩:=r1;show gv hi ⟨_,_,Y,oQ,gA<|fT ⟨b,_,Y,oP,gA ?_⟩⟩;show ff<|xQ (h2 pins _ σ H1 _ ((I1.tok _).tok _) q1) λv s2 sZ H2 I2 r2 q2=>?_;obtain⟨j,rfl,hj,oO,oN,q2⟩:=q2;obtain⟨t2,rfl⟩:=r2;show gv hj ⟨_,_,Y,oO,gA<|fT ⟨c,_,Y,oN,gA ?_⟩⟩;show ff<|xQ (h3 pins _ σ H2 _ ((I2.tok _).tok _) q2) λv s3 z H3 I3 r3 q3=>?_;obtain⟨k,rfl,hk,oK,q3⟩:=q3;obtain⟨t3,rfl⟩:=r3;show gv hk ⟨_,_,Y,oK,Joins_nil ⟨oK,?_⟩⟩;show⟨.str _,H3,(I3.tok _).tok _,⟨_,Y⟩,q3⟩
def Ms{α:Type}{xs:List α}{d:α}{p:List Nat}(h:p.Perm (bD xs.length)):(p.map λi=>xs.getD i d).Perm xs:=by
 have:=h.map λi=>xs.getD i d
 rwa [show(bD xs.length).map (λi=>xs.getD i d)=xs from List.ext_getElem #[8] λi h1 h2=>by simp[bX,h2]]at this
theorem VB{p:List Nat}(hv:Vals xs vs)(hp:p.Perm (bD vs.length)):Vals (p.map λi=>xs.getD i .rp) (p.map λi=>vs.getD i bz):=by
 show EH #[8] λj x u e1 e2=>?_;rw[av]at e1 e2;cases q:p[j]? with
 |none=>rw[q]at e1;cases e1
 |some m=>
  rw[q]at e1 e2;cases e1;cases e2;have hm:m<vs.length:=cC.mp (hp.mem_iff.mp<|aj q);have oK:m<xs.length:=by rw[hv.length];show hm
  obtain⟨w',oO,oN⟩:=hv.get (i:=m) (x:=xs[m])<|au oK;change RelV (xs.getD m .rp) (vs.getD m bz);rw[show vs.getD m bz=w' by simp[bX,oO],show xs.getD m .rp=xs[m]by simp[bX,oK]];show oN
section
variable {k:Nat} {nm:Str}
def Q6(K:ax)(nm qual:Str)(params:c9)(body:d5)(scope:Scope)(sp:List (Str×V)->Sp)(ta:TA)(tf:TE):TE:=λσ H Q=>ta σ H λys H1=>tf σ H1 λsZ H2=>
 ∃(r f:sK) (xs:List V) (fv:List (Str×V)) (kk:Nat->Int),ys=[.ref r]/\sZ= .ref f/\kq K H2 r xs/\xs.length<=1000/\yx H2 f nm qual params body scope fv/\
 (∀i x,xs[i]? =E x->∀H3,xf H2 H3->∀R:VK,(∀H4,xf H3 H4->R (.int<|kk i) H4)->sp fv [x] H3 R E0)/\Ac (λi j=>decide (kk i<kk j)) xs.length/\
 ∀(l:sK) (p:List V) (H':Hp),xf H2 H'->H2 l=y->H' l=E (.lst p)->p.Perm xs->(xs.length<64->∃p':List Nat,p=p'.map (λi=>xs.getD i .rp)/\p'.Perm (bD xs.length)/\p'.Pairwise λi j=>kk i<kk j)->Q (.ref l) H'
def Xs{kp:Pos}(F:uq X.prog X.w X.K X.mg X.base sR k nm qual params body scope ps sp)(hr:xR (k+2) X.A)(hg:Gl X "sorted")(hm:X.mg "sorted"=y)(ha:PA X [e] ta)(hf:PE X fe tf)
  (he:autoParam (bY pos (aM [e] X.env)=(sJ,eval e X.env)::bY pos (aM [] X.env)) rJ):
  PE X (.Call (.Name "sorted" p) [e] [⟨E "key",fe,kp⟩] pos) (Q6 X.K nm qual params body scope sp ta tf):=by
 intro pins s σ H Q I h;show bL<|zJ I hg hm MR ?_ #[6] #[6];show mB (zS #[16] λus s1 xs H1 I1 r1 q1=>?_) he (by rw[he];rfl) rfl rfl;show ng<|xQ (hf pins s1 σ H1 _ I1 q1) λfu s2 sZ H2 I2 r2 q2=>kws_nil ?_;obtain⟨r,f,xs,fv,kk,rfl,rfl,hl,hz,o8,oY,S,q⟩:=q2;obtain⟨u,rfl,ru⟩:=Vals.one r1;cases ru;cases r2;obtain⟨rf,rel,pl,_⟩:=I2.list hl;have hn:xs.length=rf.length:=rel.length;change wpAny _ _ (call (.builtin "sorted") [.ref r] [(bF "key",.ref f)]) _ _ s2;show call_function_entry_kw kind_sorted plain_sorted entry_sorted (ksk_s1 _ _) ?_;unfold fP.«sorted»;show ae (m:=checkCount "sorted" 1 1 _)<|ar ?_;show ae<|collect_list pl.isList ?_ (by rw[ak];lia);generalize oU:(s2.heap.push<|bA "list" #[] 0).update s2.heap.objs.size (bb (· ++rf.toArray))=g;have keep:∀b o,s2.heap.get? b=E o->g.get? b=E o:=λb o e=>by
  rw[<-oU];show(bj _ _ (eP<|aq e)).trans (af _ e)
 have oZ:s2.heap.objs.size<g.objs.size:=by rw[<-oU,Heap.size_update,cT];show du _
 show ae<|iF ?_ (by rw[ak];lia);have oS:(g.push<|bA "list" rf.toArray 0).get? g.objs.size=E (bA "list" rf.toArray 0):=aF _ rfl;show ae (bO (wpAny_call_entry_kw slot_list_sort ⟨_,oS,Y⟩ entry_list_sort ?body<|ksk_l1 _ _))
 case body=>
  change wpAny #[3] X.A.in1.in1 (fP.«list.sort» ⟨[.ref g.objs.size],[(bF "key",.ref f)]⟩) _ _ _;rw[ksk_t1];have oK:s2.heap.objs.size<=g.objs.size:=cR oZ;show MZ (s:={s2 with heap:=g.push (bA "list" rf.toArray 0)}) (Z:=λkS e1 ks s=>s2.heap.objs.size<=kS/\∃G,BQ X H2 s2 (IT kk) g.objs.size kS e1 ks G s) oS #[2] (λkS e1 ks e s oV hl _ oQ oW=>?_) λkS e1 h' oO AF oQ o7=>?_
  ·obtain⟨oN,G,J⟩:=oW
   by_cases pe:xs.length<64
   ·have oR:∀i,i<ks.length->∃t,ks[i]? =E (.int (kk i) t):=λi hi=>by
     obtain⟨v,r,rfl⟩:=J.keys i _<|au hi;obtain⟨t,e⟩:=r;show⟨t,by rw[au hi,e]⟩
    show UZ oV hl #[2] J.AF oQ ⟨λi j=>decide (kk i<kk j),by rw[<-hn];show S,λv oX=>?_,λi j C hi hj hC=>?_,λp hp hu h' c keep pd=>?_⟩
    ·obtain⟨i,hi,rfl⟩:=cM.mp oX;obtain⟨t,h1⟩:=oR i hi;rw[au hi]at h1;show⟨_,t,bI h1⟩
    ·obtain⟨t1,a1⟩:=oR i #[2];obtain⟨t2,b1⟩:=oR j #[2];rw[show ks.getD i bz= .int (kk i) t1 by simp[bX,a1],show ks.getD j bz= .int (kk j) t2 by simp[bX,b1],mR];show oneLt_int hC
    ·have z:=KC I2 oK oN J (VB rel hp.perm) (by rw[aa,aU,hp.size];lia) keep pd;rw[<-hn]at hp hu;show⟨_,Y,ar ⟨_,Y,.ref g.objs.size,_,z.1,Y,q _ _ _ z.2 (I2.rh.fresh oK) xk (Ms hp.perm) λ_=>⟨p.toList,Y,hp.perm,(Yh hp hu).imp of_decide_eq_true⟩⟩⟩
   ·show L1 LZ I2 rel oK oN #[2] (λys hy sF G' IF sm o9=>⟨_,Y,ar ⟨_,Y,.ref g.objs.size,G',IF,Y,q _ ys G' sm (I2.rh.fresh oK) o9 hy λh=>absurd h pe⟩⟩) oV hl oQ J
  ·have oP:g.objs.size<kS:=az (by change g.objs.size<(g.push _).objs.size;rw[cT];show du _) o7;have oN:s2.heap.objs.size<=kS:=aQ oK<|cR oP;have old:∀b o,s2.heap.get? b=E o->h'.get? b=E o:=λb o e=>oO b o (aC<|az (aq e) oK) (af _<|keep b o e);show zq.imp (λks s z=>⟨oN,z⟩) (GC (e1:=e1) LZ F hr I2 o8 oK oN (aC oP) _ rf [] {s2 with heap:=h'} H2 rel (λi x hx H3 s3=>oY i x hx H3 s3 _ λH4 s4=>⟨s4,by rw[cW,n6];rfl⟩) ⟨Y,I2.bare,Un.kept old,I2.rh.kept old,xf.refl _,(λi u hu=>nomatch hu),AF,I2.rh.fresh oK,I2.rh.fresh oN⟩ ⟨0,oQ⟩)
end
open PySem PySem.Spec PyProof.Rows
section
variable {P:a9} {w:World} {mg:Str->Option sV} {base:Heap}
def wx.go{k:Nat}{sp:Sp}(F:wx K x qual st f fd)(S:yd N ps (xt st))
  (oK:∀(cdv:sV) (A:bx) (outer:List Env) (s:ag) (H:Hp) (vs:List V) (Q:VK) (sQ:XK),xR k (A.deeper<|fC qual (xt st) s.heap.objs.size f cdv)->sp vs H Q sQ->N.Nodup->
   ∃t,sY (jw sR P w K mg base N qual (xt st) f cdv A outer s H sQ).w4 (yh st) t/\t {nx:=λ_ H'=>Q .rp H',rt:=Q} (start N vs) H) (len:autoParam (∀vs H Q sQ,sp vs H Q sQ->vs.length=ps.length) rF):yA P w K mg base sR (k+1) f fd ps sp:=
 F.ok S len λcdv A outer s H vs Q sQ hr h=>oK cdv A outer s H vs Q sQ hr h S.nd
end
structure FB(K:ax)(x q:Str)(st:Stmt)(f:sK)(fd:ay)(ps:List Str):Prop extends wx K x q st f fd where
 b:Binds K fd ps []
abbrev FB.O(_:FB K x q st f fd ps)(P:a9)(w:World)(mg:Str->Option sV)(base:Heap)(k:Nat)(sp:Sp):Prop:=yA P w K mg base sR k f fd ps sp
def FB.g{mg:Str->Option sV}{base:Heap}{k:Nat}{sp:Sp}(F:FB K x q st f fd ps)(N:List Str)
  (oK:∀(cdv:sV) (A:bx) (outer:List Env) (s:ag) (H:Hp) (vs:List V) (Q:VK) (sQ:XK),xR k (A.deeper<|fC q (xt st) s.heap.objs.size f cdv)->sp vs H Q sQ->N.Nodup->
   ∃t,sY (jw sR P w K mg base N q (xt st) f cdv A outer s H sQ).w4 (yh st) t/\t {nx:=λ_ H'=>Q .rp H',rt:=Q} (start N vs) H) (S:autoParam (yd N ps (xt st)) rH) (len:autoParam (∀vs H Q sQ,sp vs H Q sQ->vs.length=ps.length) rF):yA P w K mg base sR (k+1) f fd ps sp:=F.go S oK len
section
variable {CX:wY} {k:Nat} {sp:Sp} {nm:Str} {sQ:XK} {es:List Expr} {t:TA}
def xo(F:yA X.prog X.w X.K X.mg X.base CX k f fd ps sp)(hr:xR k X.A)(hm:X.mg x=E (.ref f))(B:FB X.K nm q st f fd ps)(hx:Passes CX X sQ)(ha:PA X (e::es) t)(hg:autoParam (Gl X x) rJ)(oN:autoParam #[12] q9)
  (he:autoParam #[7] rJ) (oK:autoParam #[17] rJ):PE X (.Call (.Name x p) (e::es) [] pos) (Bj sp [] sQ t):=K8 F hr hg hm B.kp B.b .nil hx ha oN he oK
end
structure Dt(K:ax)(x q:Str)(st:Stmt)(f:sK)(fd:ay)(ds:List sV)(ps:List Str):Prop extends AK K x q st f fd ds where
 b:Binds K fd ps []
 bd:Binds K fd ps ds
abbrev Dt.O{ds:List sV}(_:Dt K x q st f fd ds ps)(P:a9)(w:World)(mg:Str->Option sV)(base:Heap)(k:Nat)(sp:Sp):Prop:=yA P w K mg base sR k f fd ps sp
def Ar(ps:List Str):(List sV->Prop)->Prop:=ps.foldr (λ_ r p=>∀u,r λus=>p<|u::us) λp=>p []
theorem Ar.of{p:List sV->Prop}(hl:us.length=ps.length)(h:Ar ps p):p us:=by
 induction ps generalizing p us with
 |nil=>cases dD.mp hl;show h
 |cons x ps ih=>
  cases us with
  |nil=>cases hl
  |cons u us=>show ih (p:=λus=>p<|u::us) (Nat.succ.inj hl) (h u)
section
variable {ds es:List sV}
def xv1(F:wx K x q st f fd)(h:∀(kV doc pm:sV) (an:Option sK) (cdv ct:sV),Ar ps λus=>ko (gZ x q (uF st) (yh st) (xt st) .none kV doc pm an cdv ct) ⟨us,[]⟩=pure (ps.zip us):=by(repeat intro _);show rfl):FB K x q st f fd ps:=
 ⟨F,F.binds λkV doc pm an cdv ct _ hl=>Ar.of hl<|h kV doc pm an cdv ct⟩
def EX(x q:Str)(st:Stmt)(ds es:List sV)(ps qs:List Str):Prop:=∀(dT:sK) (kV doc pm:sV) (an:Option sK) (cdv ct:sV),Ar qs λus=>
 ∃k:Option (Array sV)->Sem (List<|Str×sV),ko (gZ x q (uF st) (yh st) (xt st) (.ref dT) kV doc pm an cdv ct) ⟨us,[]⟩=iX (.ref dT) >>= k/\k (E ds.toArray)=pure (ps.zip<|us++es)
def EX.b(h:EX x q st ds es ps qs)(F:AK K x q st f fd ds)(hn:qs.length+es.length=ps.length):Binds K fd ps es:=F.binds qs.length hn λdT kV doc pm an cdv ct _ hl=>Ar.of hl (h dT kV doc pm an cdv ct)
def xuZ(F:AK K x q st f fd ds)(qs:List Str)(h:EX x q st ds [] ps ps)(h':EX x q st ds ds ps qs)(hn:autoParam (qs.length+ds.length=ps.length) rJ):Dt K x q st f fd ds ps:=⟨F,h.b F Y,h'.b F hn⟩
end
end Internal.L2
namespace Internal.K83
open PySem PySem.Spec PyProof.Rows L2
def _root_.Internal.L2.xR.m{k:Nat}(h:xR k A)(e:autoParam (j<=k) q9):xR j A:=h.mono e
variable {H H' H1 G H6 H0:Hp} {r:xh} {a:rP} {K:ax} {i d j:Nat} {cells es ns nw C0 rN cs C ord sW:List Int} {w:World} {mg:Str->Option sV} {P:a9} {x n c least lo st:Int} {gq:List (Option Int)} {α β:Type} {D:List xh} {t o p l tl:sK} {S L:List sK} {fl:V} {F:FA} {Q:VK} {s:DS} {rR:List (List Int)} {xs:List V} {σ:L2.St} {X:List (xh×List Int)} {u:HO} {tf:Int->V} {kvs:List (Key×V)} {sZ:Bool}
noncomputable def top(i:Nat):Stmt:=PySem.Challenge.pw_oneroom_k83_whole_desk.main.body.getD i (.Pass ⟨0,0,0,0⟩)
abbrev Z1:Stmt:=inClass (top 3) 0
abbrev Xr:Stmt:=inClass (top 9) 0
abbrev Zp:Stmt:=inClass (top 9) 1
abbrev Z0:Stmt:=inClass (top 9) 2
abbrev Yc:Stmt:=inClass (top 10) 0
abbrev Zo:Stmt:=inClass (top 10) 1
abbrev Zn:Stmt:=inClass (top 10) 2
abbrev ZZ:Stmt:=inClass (top 10) 3
abbrev ZY:Stmt:=inClass (top 10) 4
abbrev xeK:Stmt:=inClass (top 10) 5
abbrev xgj:Stmt:=inClass (top 10) 6
abbrev Yb:Stmt:=inClass (top 10) 7
abbrev Ya:Stmt:=inClass (top 10) 8
abbrev MY:Stmt:=inClass (top 11) 0
abbrev X9:Stmt:=inClass (top 11) 1
abbrev Zm:Stmt:=inClass (top 11) 2
abbrev Zl:Stmt:=inClass (top 11) 3
abbrev xhh:Stmt:=inClass (top 11) 4
abbrev Xq:Stmt:=inClass (top 11) 5
abbrev Xp:Stmt:=inClass (top 11) 6
abbrev Vj:Stmt:=top 12
abbrev Zk:Stmt:=top 13
abbrev X8:Stmt:=top 14
abbrev X7:Stmt:=top 15
abbrev VA:Stmt:=top 16
abbrev xgl:Stmt:=top 17
abbrev Xo:Stmt:=top 18
abbrev X6:Stmt:=top 20
abbrev KA:Stmt:=top 21
abbrev xfs:Stmt:=top 22
abbrev xgm:Stmt:=top 23
abbrev xgn:Stmt:=top 24
abbrev Ho:Stmt:=top 25
abbrev S5:Stmt:=top 28
abbrev xhi:Stmt:=top 29
abbrev X5:Stmt:=top 30
abbrev xeL:Stmt:=top 31
abbrev xft:Stmt:=top 32
abbrev xgo:Stmt:=top 33
abbrev Vz:Stmt:=top 34
abbrev X4:Stmt:=top 35
abbrev GU:Stmt:=top 37
abbrev Vy:Stmt:=top 38
abbrev xgp:Stmt:=top 39
abbrev Xn:Stmt:=top 40
abbrev Vi:Stmt:=top 43
abbrev X3:Stmt:=top 44
abbrev Zj:Stmt:=top 45
abbrev xhj:Stmt:=top 46
abbrev xeM:Stmt:=top 47
abbrev RE:Stmt:=top 48
abbrev JH:Stmt:=top 50
abbrev Zw:Stmt:=top 51
abbrev xgq:Stmt:=top 52
abbrev HN:Stmt:=top 53
abbrev xfu:Stmt:=top 54
abbrev Vx:Stmt:=top 55
abbrev F6:Stmt:=top 56
abbrev RD:Stmt:=top 59
abbrev S4:Stmt:=top 60
abbrev Xm:Stmt:=inClass (top 62) 0
abbrev Oc:Stmt:=inClass (top 62) 1
abbrev xc9:Stmt:=inClass (top 62) 2
abbrev N4:Stmt:=inClass (top 63) 0
abbrev Zv:Stmt:=inClass (top 63) 1
abbrev HY:Stmt:=inClass (top 63) 2
abbrev N3:Stmt:=inClass (top 63) 3
abbrev ZX:Stmt:=inClass (top 63) 4
abbrev NT:Stmt:=inClass (top 63) 5
abbrev Zu:Stmt:=inClass (top 63) 6
abbrev xgr:Stmt:=inClass (top 63) 7
abbrev xcl:Stmt:=inClass (top 63) 8
abbrev jb:Stmt:=inClass (top 63) 9
abbrev ZW:Stmt:=top 72
abbrev ZV:Stmt:=top 73
abbrev X2:Stmt:=inClass (top 78) 0
abbrev MX:Stmt:=inClass (top 78) 1
abbrev xbc:Stmt:=inClass (top 78) 2
abbrev Ob:Stmt:=inClass (top 78) 3
abbrev xgt:Stmt:=inClass (top 78) 4
abbrev xfw:Stmt:=inClass (top 78) 5
abbrev xeN:Stmt:=inClass (top 78) 7
abbrev xd3:Stmt:=inClass (top 78) 8
abbrev Oq:Stmt:=inClass (top 78) 9
abbrev xb0:Stmt:=inClass (top 78) 10
abbrev Xl:Stmt:=top 79
abbrev X1:Stmt:=top 80
abbrev HX:Stmt:=top 81
abbrev Vw:Stmt:=top 82
abbrev Vv:Stmt:=top 85
abbrev TQ:Stmt:=top 86
abbrev TN:Stmt:=top 87
abbrev TM:Stmt:=top 88
abbrev TK:Stmt:=top 89
abbrev RC:Stmt:=top 90
abbrev RB:Stmt:=top 91
abbrev TJ:Stmt:=top 92
abbrev RA:Stmt:=top 93
abbrev QN:Stmt:=top 94
abbrev vU:sK:=375
abbrev ur:sK:=371
noncomputable def vt:List (Pos×Str):=[(⟨157,45,157,70⟩,"do_piece.<locals>.<lambda>")]
abbrev Ia:sK:=436
abbrev uu:sK:=432
noncomputable def ve:List (Pos×Str):=[(⟨218,40,218,60⟩,"endings.<locals>.<lambda>")]
abbrev uL:sK:=517
abbrev yY:sK:=515
noncomputable def zA:List (Pos×Str):=[(⟨307,35,307,80⟩,"put_in_order.<locals>.<lambda>")]
abbrev HI:sK:=536
abbrev vH:sK:=532
noncomputable def jH:List (Pos×Str):=[(⟨322,32,322,50⟩,"joined.<locals>.<lambda>")]
abbrev vk:sK:=612
abbrev zF:sK:=608
noncomputable def uM:List (Pos×Str):=[(⟨373,50,373,69⟩,"Store.write.<locals>.<lambda>")]
abbrev zL:sK:=659
abbrev yM:sK:=655
noncomputable def zy:List (Pos×Str):=[(⟨397,52,397,70⟩,"Store.note_down.<locals>.<lambda>")]
abbrev vm:sK:=831
abbrev zG:sK:=827
noncomputable def uN:List (Pos×Str):=[(⟨558,11,558,58⟩,"fall_behind.<locals>.<lambda>")]
set_option genInjectivity false in
set_option genSizeOf false in
set_option genSizeOfSpec false in
structure rP where
 q0H:sK
 q18:ay
 q2f:sK
 q2W:ay
 q0V:sK
 q2q:ay
 q0I:sK
 q19:ay
 q1M:sK
 q2J:ay
 q1l:sK
 q2r:ay
 q1m:sK
 q2s:ay
 q09:sK
 q2a:ay
 q1a:sK
 q2b:ay
 q0v:sK
 q04:ay
 q0M:sK
 q1n:ay
 q1N:sK
 q2K:ay
 q1O:sK
 q2L:ay
 q2g:sK
 q2X:ay
 q1P:sK
 q2M:ay
 q1o:sK
 q2t:ay
 q1p:sK
 q2u:ay
 q0Z:sK
 q1I:ay
 q2h:sK
 q2Y:ay
 q2i:sK
 q2Z:ay
 q20:sK
 q3n:ay
 q1q:sK
 q2v:ay
 q1Q:sK
 q2N:ay
 q1R:sK
 q2O:ay
 q2B:sK
 q29:ay
 q0N:sK
 q1r:ay
 q2j:sK
 q21:ay
 q1S:sK
 q2P:ay
 q2V:sK
 q3f:ay
 q0A:sK
 q1h:ay
 q0O:sK
 q1s:ay
 q0P:sK
 q1t:ay
 q1u:sK
 q1v:ay
 q3g:sK
 q3w:ay
 q00:sK
 q1J:ay
 q1T:sK
 q2Q:ay
 q0w:sK
 q05:ay
 q0B:sK
 q1i:ay
 q0Q:sK
 q1w:ay
 q2C:sK
 q3a:ay
 q1U:sK
 q2R:ay
 q2D:sK
 q2E:ay
 q2F:sK
 q3b:ay
 q0R:sK
 q1x:ay
 q2k:sK
 q22:ay
 q23:sK
 q3o:ay
 q1V:sK
 q2S:ay
 q1y:sK
 q2w:ay
 q01:sK
 q1K:ay
 q0x:sK
 q06:ay
 q3q:sK
 q3F:ay
 q3r:sK
 q3G:ay
 q3p:Tok
 q1z:sK
 q2x:ay
 q0S:sK
 q1A:ay
 q02:sK
 q03:ay
 q0C:sK
 q1j:ay
 q2G:sK
 q3c:ay
 q24:sK
 q25:ay
 q3s:sK
 q3H:ay
 q3h:sK
 q3x:ay
 q2l:sK
 q26:ay
 q0p:sK
 q0D:ay
 q0n:sK
 q0E:ay
 q1B:sK
 q2y:ay
 q1C:sK
 q2z:ay
 q0J:sK
 q0K:ay
 q0W:sK
 q1D:ay
 q1b:sK
 q2c:ay
 q0L:sK
 q1c:ay
 q1E:sK
 q2A:ay
 q0T:sK
 q1F:ay
 q0h:sK
 q0u:ay
 q0l:sK
 q0m:ay
 q1d:sK
 q2d:ay
 q1e:sK
 q2e:ay
 q1W:sK
 q2T:ay
 q1G:sK
 q2m:ay
 q0f:sK
 q0o:ay
 q0q:sK
 q0F:ay
 q0U:sK
 q1H:ay
 q0G:sK
 q1k:ay
 q0y:sK
 q07:ay
 q0s:sK
 q0X:ay
 q0j:sK
 q0t:ay
 q0g:sK
 q0r:ay
 q2n:sK
 q27:ay
 q1X:sK
 q2U:ay
 q1f:sK
 q1g:ay
 q2H:sK
 q3d:ay
 q2I:sK
 q3e:ay
 q3i:sK
 q3y:ay
 q3j:sK
 q3z:ay
 q3k:sK
 q3A:ay
 q3l:sK
 q3B:ay
 q3t:sK
 q3I:ay
 q3u:sK
 q3J:ay
 q3m:sK
 q3C:ay
 q3v:sK
 q3K:ay
 q3D:sK
 q3E:ay
 q28:sK
 q0a:sK
 q0b:sK
 q0i:sK
 q0e:sK
 q0c:sK
 q0d:sK
 q0k:sK
 q2o:sK
 q2p:sK
 q1Y:sK
 q1Z:sK
 q10:sK
 q11:sK
 q12:sK
 q13:sK
 q14:sK
 q15:sK
 q16:sK
 q17:sK
 q3L:Tok
 q1L:Tok
 q0z:sK
 q0Y:sK
 q08:sK
structure Txt(w:World)(K:ax)(mg:Str->Option sV)(a:rP):Prop where
 QM:mg "law"=E (.ref a.q3D)
 HW:FB K "__init__" "Fallen.__init__" Z1 a.q0H a.q18 ["self","count"]
 jR:FB K "__init__" "Row.__init__" Xr a.q2f a.q2W ["self","to"]
 uO:FB K "covers" "Row.covers" Zp a.q0V a.q2q ["self"]
 yW:FB K "covered" "Row.covered" Z0 a.q0I a.q19 ["self"]
 EG:FB K "__init__" "Take.__init__" Yc a.q1M a.q2J ["self","to","start","count"]
 ua:FB K "stays" "Take.stays" Zo a.q1l a.q2r ["self"]
 HH:FB K "reads" "Take.reads" Zn a.q1m a.q2s ["self"]
 HV:FB K "writes" "Take.writes" ZZ a.q09 a.q2a ["self"]
 HU:FB K "pieces" "Take.pieces" ZY a.q1a a.q2b ["self"]
 uC:FB K "source_for" "Take.source_for" xeK a.q0v a.q04 ["self","cell"]
 jS:FB K "sign_for" "Take.sign_for" xgj a.q0M a.q1n ["self","cell","read"]
 Hg:FB K "cost" "Take.cost" Yb a.q1N a.q2K ["self"]
 ji:FB K "told" "Take.told" Ya a.q1O a.q2L ["self"]
 uv:FB K "__init__" "Put.__init__" MY a.q2g a.q2X ["self","to","signs"]
 Hf:FB K "reads" "Put.reads" X9 a.q1P a.q2M ["self"]
 HG:FB K "writes" "Put.writes" Zm a.q1o a.q2t ["self"]
 HF:FB K "pieces" "Put.pieces" Zl a.q1p a.q2u ["self"]
 HM:FB K "sign_for" "Put.sign_for" xhh a.q0Z a.q1I ["self","cell","read"]
 GB:FB K "cost" "Put.cost" Xq a.q2h a.q2Y ["self"]
 GA:FB K "told" "Put.told" Xp a.q2i a.q2Z ["self"]
 uB:FB K "row_of" "row_of" Vj a.q20 a.q3n ["told"]
 vI:mg "row_of"=E (.ref a.q20)
 HE:FB K "tells_take" "tells_take" Zk a.q1q a.q2v ["told"]
 Zt:mg "tells_take"=E (.ref a.q1q)
 He:FB K "tells_put" "tells_put" X8 a.q1Q a.q2N ["told"]
 X0:mg "tells_put"=E (.ref a.q1Q)
 Hd:FB K "are_signs" "are_signs" X7 a.q1R a.q2O ["signs"]
 XZ:mg "are_signs"=E (.ref a.q1R)
 GS:FB K "is_sign" "is_sign" VA a.q2B a.q29 ["value"]
 Vu:mg "is_sign"=E (.ref a.q2B)
 zd:FB K "is_whole_from" "is_whole_from" xgl a.q0N a.q1r ["least","value"]
 uw:mg "is_whole_from"=E (.ref a.q0N)
 Ew:FB K "is_whole" "is_whole" Xo a.q2j a.q21 ["value"]
 MW:mg "is_whole"=E (.ref a.q2j)
 Hc:FB K "pieces_of" "pieces_of" X6 a.q1S a.q2P ["paper"]
 XY:mg "pieces_of"=E (.ref a.q1S)
 FO:FB K "go_on" "go_on" KA a.q2V a.q3f ["store","paper"]
 TH:mg "go_on"=E (.ref a.q2V)
 jy:FB K "refuse_lengths" "refuse_lengths" xfs a.q0A a.q1h ["size","paper"]
 xfx:mg "refuse_lengths"=E (.ref a.q0A)
 jT:FB K "refuse_beyond" "refuse_beyond" xgm a.q0O a.q1s ["size","pieces"]
 xgv:mg "refuse_beyond"=E (.ref a.q0O)
 jU:FB K "places_needed" "places_needed" xgn a.q0P a.q1t ["row","cells"]
 xgw:mg "places_needed"=E (.ref a.q0P)
 Gz:FB K "do_piece" "do_piece" Ho a.q1u a.q1v ["store","row","cells"]
 Xk:mg "do_piece"=E (.ref a.q1u)
 NK:w9 K vU ur
 XX:a.q1v.code= .ref vU
 Ei:FB K "judge" "judge" S5 a.q3g a.q3w ["paper"]
 Kz:mg "judge"=E (.ref a.q3g)
 HL:FB K "fits_in_size" "fits_in_size" xhi a.q00 a.q1J ["paper"]
 xhl:mg "fits_in_size"=E (.ref a.q00)
 EF:FB K "is_length" "is_length" X5 a.q1T a.q2Q ["value"]
 NJ:mg "is_length"=E (.ref a.q1T)
 jc:FB K "first_wrong_row" "first_wrong_row" xeL a.q0w a.q05 ["paper"]
 xeO:mg "first_wrong_row"=E (.ref a.q0w)
 jz:FB K "is_fitting_row" "is_fitting_row" xft a.q0B a.q1i ["told","old","new"]
 xfy:mg "is_fitting_row"=E (.ref a.q0B)
 jV:FB K "covered_twice" "covered_twice" xgo a.q0Q a.q1w ["rows"]
 xgx:mg "covered_twice"=E (.ref a.q0Q)
 GR:FB K "lacking" "lacking" Vz a.q2C a.q3a ["rows","new"]
 Vt:mg "lacking"=E (.ref a.q2C)
 Hb:FB K "read_late" "read_late" X4 a.q1U a.q2R ["rows"]
 XW:mg "read_late"=E (.ref a.q1U)
 GQ:FB K "endings" "endings" GU a.q2D a.q2E ["text"]
 Vs:mg "endings"=E (.ref a.q2D)
 Xj:w9 K Ia uu
 Xi:a.q2E.code= .ref Ia
 GP:FB K "longest" "longest" Vy a.q2F a.q3b ["text","table","part"]
 Vr:mg "longest"=E (.ref a.q2F)
 jW:FB K "how_many_less" "how_many_less" xgp a.q0R a.q1x ["text","table","part"]
 xgy:mg "how_many_less"=E (.ref a.q0R)
 Gy:FB K "agreeing" "agreeing" Xn a.q2k a.q22 ["text","at","part"]
 Xh:mg "agreeing"=E (.ref a.q2k)
 F5:FB K "spoils" "spoils" Vi a.q23 a.q3o ["rows"]
 Vh:mg "spoils"=E (.ref a.q23)
 Ha:FB K "spoilt_by" "spoilt_by" X3 a.q1V a.q2S ["number","stretch","read"]
 XU:mg "spoilt_by"=E (.ref a.q1V)
 HD:FB K "ring_among" "ring_among" Zj a.q1y a.q2w ["spoilt","left"]
 Zs:mg "ring_among"=E (.ref a.q1y)
 HK:FB K "stretch_read" "stretch_read" xhj a.q01 a.q1K ["row"]
 xhm:mg "stretch_read"=E (.ref a.q01)
 jd:FB K "stretch_written" "stretch_written" xeM a.q0x a.q06 ["row"]
 xeP:mg "stretch_written"=E (.ref a.q0x)
 FJ:FB K "meet" "meet" RE a.q3q a.q3F ["one","other"]
 Rz:mg "meet"=E (.ref a.q3q)
 DL:Dt K "made" "made" JH a.q3r a.q3G [.int 6 a.q3p] ["elder","newer","least"]
 Ry:mg "made"=E (.ref a.q3r)
 HC:FB K "rows_found" "rows_found" Zw a.q1z a.q2x ["elder","newer","least"]
 Zr:mg "rows_found"=E (.ref a.q1z)
 vA:FB K "put_ending_at" "put_ending_at" xgq a.q0S a.q1A ["end","signs"]
 N6:mg "put_ending_at"=E (.ref a.q0S)
 HJ:FB K "put_in_order" "put_in_order" HN a.q02 a.q03 ["takes"]
 xhn:mg "put_in_order"=E (.ref a.q02)
 xgA:w9 K uL yY
 xgB:a.q03.code= .ref uL
 jA:FB K "harmless_among" "harmless_among" xfu a.q0C a.q1j ["spoilt","left"]
 xfA:mg "harmless_among"=E (.ref a.q0C)
 GO:FB K "put_for" "put_for" Vx a.q2G a.q3c ["take","elder"]
 Vq:mg "put_for"=E (.ref a.q2G)
 Gi:FB K "joined" "joined" F6 a.q24 a.q25 ["puts"]
 Vg:mg "joined_maker"=E (.ref a.q24)
 Vp:w9 K HI vH
 Vo:a.q25.code= .ref HI
 DV:FB K "cost" "cost" RD a.q3s a.q3H ["paper"]
 JG:mg "cost"=E (.ref a.q3s)
 FN:FB K "plain" "plain" S4 a.q3h a.q3x ["old","newer"]
 TF:mg "plain"=E (.ref a.q3h)
 Gx:FB K "__init__" "Pen.__init__" Xm a.q2l a.q26 ["self","fall"]
 jB:FB K "write_into" "Pen.write_into" Oc a.q0p a.q0D ["self","kept","at","value","torn"]
 vf:FB K "answer_of_fall" "Pen.answer_of_fall" xc9 a.q0n a.q0E ["self","count"]
 HB:Dt K "__init__" "Store.__init__" N4 a.q1B a.q2y [.none] ["self","cells","fall"]
 HA:FB K "read" "Store.read" Zv a.q1C a.q2z ["self","at"]
 NS:FB K "write" "Store.write" HY a.q0J a.q0K ["self","at","sign"]
 xhp:w9 K vk zF
 xhq:a.q0K.code= .ref vk
 N2:FB K "mark" "Store.mark" N3 a.q0W a.q1D ["self","number"]
 HS:FB K "noted" "Store.noted" ZX a.q1b a.q2c ["self"]
 NR:FB K "begin" "Store.begin" NT a.q0L a.q1c ["self"]
 uP:FB K "told" "Store.told" Zu a.q1E a.q2A ["self"]
 vB:FB K "fall_by" "Store.fall_by" xgr a.q0T a.q1F ["self","fall"]
 zu:FB K "refuse_lacking" "Store.refuse_lacking" xcl a.q0h a.q0u ["self","at"]
 uD:FB K "note_down" "Store.note_down" jb a.q0l a.q0m ["self","at","number"]
 xea:w9 K zL yM
 xeb:a.q0m.code= .ref zL
 HR:FB K "read_number" "read_number" ZW a.q1d a.q2d ["word"]
 ZU:mg "read_number"=E (.ref a.q1d)
 HQ:FB K "are_figures" "are_figures" ZV a.q1e a.q2e ["word"]
 ZT:mg "are_figures"=E (.ref a.q1e)
 GZ:FB K "__init__" "Desk.__init__" X2 a.q1W a.q2T ["self"]
 ze:FB K "say" "Desk.say" MX a.q1G a.q2m ["self","row"]
 zN:FB K "has_what_is_wanted" "Desk.has_what_is_wanted" xbc a.q0f a.q0o ["self","word"]
 Oh:FB K "answer_to" "Desk.answer_to" Ob a.q0q a.q0F ["self","word","numbers"]
 jX:FB K "lay_room" "Desk.lay_room" xgt a.q0U a.q1H ["self","size","text"]
 jC:FB K "lay_paper" "Desk.lay_paper" xfw a.q0G a.q1k ["self","paper"]
 je:FB K "make_paper" "Desk.make_paper" xeN a.q0y a.q07 ["self","least","newer"]
 vJ:FB K "shown_fault" "Desk.shown_fault" xd3 a.q0s a.q0X ["self"]
 Oo:FB K "begin_paper" "Desk.begin_paper" Oq a.q0j a.q0t ["self"]
 uh:FB K "go_on_with_paper" "Desk.go_on_with_paper" xb0 a.q0g a.q0r ["self","numbers"]
 Gw:FB K "words_of" "words_of" Xl a.q2n a.q27 ["row"]
 Xg:mg "words_of"=E (.ref a.q2n)
 GY:FB K "is_listed" "is_listed" X1 a.q1X a.q2U ["word","numbers"]
 XT:mg "is_listed"=E (.ref a.q1X)
 HP:FB K "fall_behind" "fall_behind" HX a.q1f a.q1g ["asked","numbers"]
 ZS:mg "fall_behind"=E (.ref a.q1f)
 xhr:w9 K vm zG
 xhs:a.q1g.code= .ref vm
 Gm:FB K "joined" "joined" Vw a.q2H a.q3d ["parts"]
 Vn:mg "joined_desk"=E (.ref a.q2H)
 zQ:FB K "_law_cell_at" "_law_cell_at" Vv a.q2I a.q3e ["_law_script","_law_k"]
 uX:mg "_law_cell_at"=E (.ref a.q2I)
 FL:FB K "_law_mixed" "_law_mixed" TQ a.q3i a.q3y ["_law_cell","_law_k"]
 TC:mg "_law_mixed"=E (.ref a.q3i)
 Eh:FB K "_law_draws" "_law_draws" TN a.q3j a.q3z ["_law_cell","_law_amount","_law_base"]
 Ky:mg "_law_draws"=E (.ref a.q3j)
 Eg:FB K "_law_newer" "_law_newer" TM a.q3k a.q3A ["_law_text","_law_size","_law_cell"]
 Kx:mg "_law_newer"=E (.ref a.q3k)
 CK:FB K "_law_words" "_law_words" TK a.q3l a.q3B ["_law_numbers"]
 m_words:mg "_law_words"=E (.ref a.q3l)
 FI:FB K "_law_told" "_law_told" RC a.q3t a.q3I ["_law_desk","_law_text","_law_newer_here","_law_lowest"]
 Rx:mg "_law_told"=E (.ref a.q3t)
 FH:FB K "_law_gone" "_law_gone" RB a.q3u a.q3J ["_law_desk","_law_cells","_law_upper"]
 Rw:mg "_law_gone"=E (.ref a.q3u)
 FK:FB K "_law_ended" "_law_ended" TJ a.q3m a.q3C ["_law_desk"]
 TB:mg "_law_ended"=E (.ref a.q3m)
 DU:FB K "_law_once" "_law_once" RA a.q3v a.q3K ["_law_desk","_law_text","_law_newer_here","_law_size","_law_lowest","_law_cells"]
 JF:mg "_law_once"=E (.ref a.q3v)
 Jl:FB K "law" "law" QN a.q3D a.q3E ["_law_script"]
 Fo:mg "Row"=E (.ref a.q28)
 xwY:tX K a.q28
 xu9:xY K a.q28 "count"
 xwb:xY K a.q28 "to"
 Bu:mg "Take"=E (.ref a.q0a)
 xD:tX K a.q0a
 yk:xY K a.q0a "count"
 xZ:xY K a.q0a "source"
 yy:xY K a.q0a "to"
 Kw:Mk K a.q0a a.q1M
 Cv:mg "Put"=E (.ref a.q0b)
 yl:tX K a.q0b
 yS:xY K a.q0b "count"
 zz:xY K a.q0b "signs"
 zi:xY K a.q0b "to"
 DT:Mk K a.q0b a.q2g
 QL:mg "Pen"=E (.ref a.q0i)
 Ai:tX K a.q0i
 jY:xY K a.q0i "asked"
 GX:xY K a.q0i "fall"
 Qf:Mk K a.q0i a.q2l
 Tz:mg "Store"=E (.ref a.q0e)
 xX:tX K a.q0e
 uQ:xY K a.q0e "cells"
 vV:xY K a.q0e "notes"
 vK:xY K a.q0e "pen"
 Vf:Mk K a.q0e a.q1B
 Qe:mg "Desk"=E (.ref a.q0c)
 xI:tX K a.q0c
 uj:xY K a.q0c "begun"
 uk:xY K a.q0c "elder"
 zj:xY K a.q0c "paper"
 yJ:xY K a.q0c "store"
 R6:Mk K a.q0c a.q1W
 Mh:mg "Fallen"=E (.ref a.q0d)
 Lw:mg "NoLine"=E (.ref a.q0k)
 xwX:mg "NoRow"=E (.ref a.q2o)
 xtJ:fB K (.ref a.q0d) "__init__"=E (E<|.ref a.q0H)
 Mr:Ba K a.q0d a.q0H
 xwc:kE K a.q0d=sX
 xgG:xY K a.q0d "count"
 xfC:iO K (.ref a.q0d) (.ref a.q0d)=E sX
 xq8:iO K (.ref a.q0d) (.ref a.q0k)=E sJ
 xrW:iO K (.ref a.q0d) (.ref a.q2o)=E sJ
 xwd:Px K a.q0d
 Ve:IV K a.q0k
 xra:iO K (.ref a.q0k) (.ref a.q0d)=E sJ
 xfD:iO K (.ref a.q0k) (.ref a.q0k)=E sX
 xrX:iO K (.ref a.q0k) (.ref a.q2o)=E sJ
 V0:Cr K a.q0d
 VZ:Cr K a.q0k
 xwQ:Cr K a.q2o
 DR:∀{H:Hp} {o dx:sK} {fs:List (Str×V)},H o=E (.ins a.q0b dx fs)->uf K H (.ref o) (.ref a.q0b)
 B4:∀{H:Hp} {o dx:sK} {fs:List (Str×V)},H o=E (.ins a.q0a dx fs)->uf K H (.ref o) (.ref a.q0a)
 Xf:lH K (.ref a.q0b) (.ref a.q0b)=E sX
 GW:lH K (.ref a.q0b) (.ref a.q0a)=E sJ
 YF:lH K (.ref a.q0a) (.ref a.q0b)=E sJ
 vL:lH K (.ref a.q0a) (.ref a.q0a)=E sX
 Kv:mg "FORMS"=E (.ref a.q2p)
 Ku:ID w K a.q2p [("room",a.q1Y),("rows",a.q1Z),("take",a.q10),("put",a.q11),("make",a.q12),("judge",a.q13),("begin",a.q14),("go",a.q15),("cells",a.q16),("paper",a.q17)] []
 VY:∀H,rM K H a.q1Y [.int 1,.rp,.int 1]
 xwe:∀H,rM K H a.q1Z [.int 2,.int 2,.int 2]
 xwf:∀H,rM K H a.q10 [.int 3,.int 3,.int 3]
 xwg:∀H,rM K H a.q11 [.int 2,.rp,.int 1]
 VX:∀H,rM K H a.q12 [.int 1,.rp,.int 1]
 VW:∀H,rM K H a.q13 [.int 0,.int 0,.int 0]
 VV:∀H,rM K H a.q14 [.int 0,.int 0,.int 0]
 Mq:∀H,rM K H a.q15 [.int 0,.int 2,.int 1]
 VU:∀H,rM K H a.q16 [.int 0,.int 0,.int 0]
 xwh:∀H,rM K H a.q17 [.int 0,.int 0,.int 0]
 Fv:mg "MOST"=E (.int 300 a.q3L)
 xhv:mg "MOST_FIGURES"=E (.int 60 a.q1L)
 NC:mg "NO_STRETCH"=E (.ref a.q0z)
 NB:∀H,rM K H a.q0z [.int 0,.int 0]
 YV:mg "WANT_PAPER"=E (.ref a.q0Y)
 YU:∀H,rM K H a.q0Y [.str "take",.str "put",.str "judge",.str "begin",.str "paper"]
 YE:mg "WANT_ROOM"=E (.ref a.q08)
 YD:∀H,rM K H a.q08 [.str "make",.str "begin",.str "cells"]
 xeQ:Meth K a.q0c "answer_to" a.q0q
 xdC:Meth K a.q0c "begin_paper" a.q0j
 xbL:Meth K a.q0c "go_on_with_paper" a.q0g
 xa0:Meth K a.q0c "has_what_is_wanted" a.q0f
 xeR:Meth K a.q0c "lay_paper" a.q0G
 xfE:Meth K a.q0c "lay_room" a.q0U
 xef:Meth K a.q0c "make_paper" a.q0y
 za:Meth K a.q0c "say" a.q1G
 xdD:Meth K a.q0c "shown_fault" a.q0s
 xcO:Meth K a.q0i "answer_of_fall" a.q0n
 Ow:Meth K a.q0i "write_into" a.q0p
 YC:Meth K a.q0b "cost" a.q2h
 vW:Meth K a.q0b "covered" a.q0I
 NQ:Meth K a.q0b "covers" a.q0V
 ZR:Meth K a.q0b "pieces" a.q1p
 YT:Meth K a.q0b "reads" a.q1P
 xgI:Meth K a.q0b "sign_for" a.q0Z
 YB:Meth K a.q0b "told" a.q2i
 ZQ:Meth K a.q0b "writes" a.q1o
 xhw:Meth K a.q0e "begin" a.q0L
 Og:Meth K a.q0e "fall_by" a.q0T
 ZP:Meth K a.q0e "mark" a.q0W
 vM:Meth K a.q0e "note_down" a.q0l
 xhx:Meth K a.q0e "noted" a.q1b
 ZO:Meth K a.q0e "read" a.q1C
 vY:Meth K a.q0e "refuse_lacking" a.q0h
 jq:Meth K a.q0e "told" a.q1E
 xhy:Meth K a.q0e "write" a.q0J
 YS:Meth K a.q0a "cost" a.q1N
 jZ:Meth K a.q0a "covered" a.q0I
 Oa:Meth K a.q0a "covers" a.q0V
 Z9:Meth K a.q0a "pieces" a.q1a
 ZN:Meth K a.q0a "reads" a.q1m
 xfF:Meth K a.q0a "sign_for" a.q0M
 Om:Meth K a.q0a "source_for" a.q0v
 vn:Meth K a.q0a "stays" a.q1l
 Hz:Meth K a.q0a "told" a.q1O
 xhA:Meth K a.q0a "writes" a.q09
 GV:IJ K a.q28 "__init__" a.q2f
 QK:mg "abs"=y
 Jk:mg "all"=y
 Jj:mg "any"=y
 Qd:mg "bool"=y
 Qc:mg "dict"=y
 jj:mg "enumerate"=y
 Bi:mg "int"=y
 yB:mg "isinstance"=y
 xW:mg "len"=y
 AW:mg "list"=y
 AQ:mg "max"=y
 Bh:mg "min"=y
 uR:mg "range"=y
 Xe:mg "reversed"=y
 Lv:mg "sorted"=y
 Bg:mg "str"=y
 QJ:mg "sum"=y
 jI:mg "tuple"=y
local macro_rules| `(tactic|walk_at"c")=>`(tactic|exact⟨Y,Y,Y,by decide+kernel,Y,by decide+kernel,by decide+kernel⟩)
local macro_rules| `(tactic|walk_at"d")=>`(tactic|exact⟨Y,Y,Y,by decide+kernel,Y,by decide+kernel,by decide+kernel,by decide+kernel⟩)
def NI:yd ["self","to","signs"] ["self","to","signs"] (xt MY):=by walk_at"c"
def Lu:yd ["store","paper","size","pieces","first","left","number","piece"] ["store","paper"] (xt KA):=by walk_at"c"
def NH:yd ["store","row","cells","cell"] ["store","row","cells"] (xt Ho):=by walk_at"c"
def Nf:yd ["text"] ["text"] (xt GU):=by walk_at"c"
def Kt:yd ["elder","newer","least","rows","order","ordered","turned","puts","done","paper"] ["elder","newer","least"] (xt JH):=by walk_at"c"
def N5:yd ["takes","spoilt","left","ordered","turned","number","ring"] ["takes"] (xt HN):=by walk_at"c"
def Mp:yd ["puts","rows","put","ahead"] ["puts"] (xt F6):=by walk_at"c"
def Ov:yd ["self","kept","at","value","torn","count","answer"] ["self","kept","at","value","torn"] (xt Oc):=by walk_at"c"
def N0:yd ["self","cells","fall"] ["self","cells","fall"] (xt N4):=by walk_at"c"
def N9:yd ["self","at","sign"] ["self","at","sign"] (xt HY):=by walk_at"c"
def NZ:yd ["self","number"] ["self","number"] (xt N3):=by walk_at"c"
def N8:yd ["self"] ["self"] (xt NT):=by walk_at"c"
def Ol:yd ["self","at","number"] ["self","at","number"] (xt jb):=by walk_at"c"
def NG:yd ["self","row","words","word","numbers"] ["self","row"] (xt MX):=by walk_at"c"
def Ou:yd ["self","word","numbers"] ["self","word","numbers"] (xt Ob):=by walk_at"c"
def Oi:yd ["self","fault"] ["self"] (xt Oq):=by walk_at"c"
def N7:yd ["asked","numbers","last","answer"] ["asked","numbers"] (xt HX):=by walk_at"c"
noncomputable def Ax(to st c:Int):List (Str×V):=[("to",.int to),("count",.int c),("source",.int st)]
noncomputable def Ah(to:Int)(t:sK)(n:Int):List (Str×V):=[("to",.int to),("count",.int n),("signs",.ref t)]
noncomputable def yz(lo:Int)(n:Nat):List Int:=(bD n).map λ(i:Nat)=>lo+(i:Int)
def Ef(lo:Int)(n:Nat):AL lo n=(yz lo n).map V.int:=by simp[AL,yz,oh]
def yK(lo:Int)(n:Nat):(yz lo n).length=n:=by simp[yz]
def ub{n:Nat}:x∈yz lo n↔lo<=x/\x<lo+n:=by
 unfold yz;rw[aY];constructor
 ·rintro⟨i,hi,rfl⟩;have:=cC.mp hi;lia
 ·rintro⟨h1,h2⟩;show⟨(x - lo).toNat,cC.mpr #[2],by lia⟩
inductive xh where
 |take (to st c:Int)
 |put (to:Int) (sg:List Int)
noncomputable def xh.rk:xh->Bool
 | .take .. =>sX
 | .put .. =>sJ
def TupAt(K:ax)(H:Hp)(t:sK):xh->Prop
 | .take to st c=>H t=E (.tup [.str "take",.int to,.int st,.int c])
 | .put to sg=>∃u,H t=E (.tup [.str "put",.int to,.ref u])/\H u=E (.tup<|sg.map V.int)
theorem TupAt.same(h:TupAt K H t r)(s:xf H H'):TupAt K H' t r:=by
 cases r with
 |take to st c=>show s.at h
 |put to sg=>obtain⟨u,h1,h2⟩:=h;show⟨u,s.at h1,s.at h2⟩
def xE(K:ax)(a:rP)(H:Hp)(o:sK):xh->Prop
 | .take to st c=>∃dx,H o=E (.ins a.q0a dx<|Ax to st c)
 | .put to sg=>∃dx u,H o=E (.ins a.q0b dx<|Ah to u sg.length)/\H u=E (.tup<|sg.map V.int)
theorem xE.same(h:xE K a H o r)(s:xf H H'):xE K a H' o r:=by
 cases r with
 |take to st c=>obtain⟨dx,h⟩:=h;show⟨dx,s.at h⟩
 |put to sg=>obtain⟨dx,u,h1,h2⟩:=h;show⟨dx,u,s.at h1,s.at h2⟩
theorem xE.mv(h:xE K a H' o r)(k:∀p o,(H p=y\/∀ys,o≠HO.lst ys)->H' p=E o->H6 p=E o):xE K a H6 o r:=by
 cases r with
 |take to st c=>obtain⟨dx,h⟩:=h;show⟨dx,k _ _ (.inr λys z=>by cases z) h⟩
 |put to sg=>obtain⟨dx,u,h1,h2⟩:=h;show⟨dx,u,k _ _ (.inr λys z=>by cases z) h1,k _ _ (.inr λys z=>by cases z) h2⟩
theorem TupAt.mv(h:TupAt K H' t r)(k:∀p o,(H p=y\/∀ys,o≠HO.lst ys)->H' p=E o->H6 p=E o):TupAt K H6 t r:=by
 cases r with
 |take to st c=>show k _ _ (.inr λys z=>by cases z) h
 |put to sg=>obtain⟨u,h1,h2⟩:=h;show⟨u,k _ _ (.inr λys z=>by cases z) h1,k _ _ (.inr λys z=>by cases z) h2⟩
def xh.ok:xh->Prop
 | .take to st c=>0<=to/\0<=st/\1<=c
 | .put to sg=>0<=to/\sg≠[]/\sg.length<=100000/\∀x∈sg,(x.natAbs:Int)<10^60
def DQ(K:ax)(a:rP)(H:Hp)(l:sK)(rs:List xh):Prop:=∃ts:List sK,kq K H l (ts.map V.ref)/\Paired (xE K a H) ts rs
def JR{C:sK}{fs:List (Str×V)}{o:HO}(h:rM K H t xs)(hp:H p=E (.ins C dx fs)):rM K (upd H p o) t xs:=by
 rcases h with(h|⟨ob,h⟩)|h
 ·show .inl (.inl (by rw[xl<|zt h hp (by intro z;cases z)];show h))
 ·show .inl (.inr ⟨ob,by rw[xl<|zt h hp (by intro z;cases z)];show h⟩)
 ·show .inr h
def YA(K:ax):Sp:=λvs H Q _=>tS λ(p C dx:sK) (to:Int)=>tY (vs=[.ref p,.int to]) (H p=E (.ins C dx [])) (tX K C) (xY K C "to") (xY K C "count") (Q .rp (upd H p<|.ins C dx [("to",.int to),("count",.int 0)]))
def YR(a:rP):Sp:=λvs H Q _=>tE λ(p dx:sK) (to st c:Int)=>tG (vs=[.ref p,.int to,.int st,.int c]) (H p=E (.ins a.q0a dx [])) (Q .rp<|upd H p (.ins a.q0a dx<|Ax to st c))
def Yz(K:ax)(a:rP):Sp:=λvs H Q _=>tE λ(p dx t:sK) (to:Int) (xs:List V)=>sU (vs=[.ref p,.int to,.ref t]) (H p=E (.ins a.q0b dx [])) (rM K H t xs) (Q .rp<|upd H p (.ins a.q0b dx<|Ah to t xs.length))
def Ae(H:Hp)(Q:VK)(ns:List Int):Prop:=∀(l:sK) (H':Hp),xf H H'->H l=y->H' l=E (.lst<|ns.map V.int)->Q (.ref l) H'
def Ui(a:rP):Sp:=λvs H Q _=>tE λ(p dx:sK) (to st c:Int)=>tG (vs=[.ref p]) (H p=E (.ins a.q0a dx<|Ax to st c)) (Q (.bl<|decide (st=to)) H)
def Yy:Sp:=λvs H Q _=>∃i:Int,vs=[.int i]/\Q (.bl sX) H
def xfG:Sp:=λvs H Q _=>sE λ(l i:Int)=>vs=[.int l,.int i]/\Q (.bl<|decide (l<=i)) H
def Xd:Sp:=λvs H Q _=>∃i:Int,tG (vs=[.int i]) ((i.natAbs:Int)<10^60) (Q (.bl sX) H)
def YQ(K:ax):Sp:=λvs H Q _=>sE λ(u:sK) (sg:List Int)=>tY (vs=[.ref u]) (H u=E (.tup<|sg.map V.int)) (sg≠[]) (sg.length<=100000) ((∀x∈sg,(x.natAbs:Int)<10^60)) (∀H',xf H H'->Q (.bl sX) H')
def ZM(K:ax):Sp:=λvs H Q _=>sE λ(t:sK) (r:xh)=>sU (vs=[.ref t]) (TupAt K H t r) r.ok (Q (.bl r.rk) H)
def YO(K:ax):Sp:=λvs H Q _=>tK λ(t:sK) (to:Int) (sg:List Int)=>sU (vs=[.ref t]) (TupAt K H t<|.put to sg) (xh.ok<|.put to sg) (∀H',xf H H'->Q (.bl sX) H')
def CY(K:ax)(a:rP):Sp:=λvs H Q _=>sE λ(t:sK) (r:xh)=>sU (vs=[.ref t]) (TupAt K H t r) r.ok (∀(o:sK) (H':Hp),xf H H'->H o=y->xE K a H' o r->Q (.ref o) H')
def Ls(a:rP):Sp:=λvs H Q _=>tE λ(o dx:sK) (to st c:Int)=>tG (vs=[.ref o]) (H o=E (.ins a.q0a dx<|Ax to st c)) (∀t,H t=y->Q (.ref t) (upd H t<|.tup [.str "take",.int to,.int st,.int c]))
def Lr(a:rP):Sp:=λvs H Q _=>tE λ(o dx u:sK) (to n:Int)=>tG (vs=[.ref o]) (H o=E (.ins a.q0b dx<|Ah to u n)) (∀t,H t=y->Q (.ref t) (upd H t<|.tup [.str "put",.int to,.ref u]))
noncomputable def cN(d k:Nat):Nat:=(k+d - 1) / d
noncomputable def Ap(u:Nat->Nat->List Int)(d k:Nat):List (List Int):=(bD<|cN d k).map (u k)
def Ks(hd:0<d):cN d 0=0:=by unfold cN;show Nat.div_eq_of_lt (by omega)
def Ee(hd:0<d)(k:Nat):cN d (k+1)=k / d+1:=by
 unfold cN;rw[show k+1+d - 1=k+d by lia,Nat.add_div_right _ hd]
noncomputable def C3(to:Int)(d k j:Nat):List Int:=yz (to+((j*d:Nat):Int)) (min d<|k - j*d)
noncomputable def Ci(e:Int)(d k j:Nat):List Int:=yz (e - ((min ((j+1)*d) k:Nat):Int)) (min d<|k - j*d)
noncomputable def yL(to st c:Int):List (List Int):=
 if st=to then[]else if to<st then Ap (C3 to (st - to).toNat) (st - to).toNat c.toNat else Ap (Ci (to+c) (to - st).toNat) (to - st).toNat c.toNat
theorem Ed(u:Nat->Nat->List Int)(d k:Nat)(hd:0<d):(Ap u d k).length<=k:=by
 unfold Ap;rw[aa,ef];cases k with
 |zero=>rw[Ks hd];show ah _
 |succ k=>rw[Ee hd];have:=Nat.div_le_self k d;lia
def JQ(h0:x≠0)(h:x.natAbs<2^200):Kc x:=by
 show⟨h0,?_⟩;have:x.natAbs.log2<200:=(oy #[2]).mpr h;lia
def R5(to c:Int)(d:Nat)(hc:1<=c)(hd:0<d):zM to (to+c) (d:Int)=cN d c.toNat:=by
 unfold zM br;rw[if_pos #[2],if_pos #[2]];obtain⟨n,rfl⟩:∃n:Nat,c=(n:Int)+1:=⟨(c - 1).toNat,by lia⟩;rw[show((n:Int)+1).toNat=n+1 by lia,Ee hd,show to+((n:Int)+1) - to - 1=(n:Int)by lia,<-Int.natCast_ediv];generalize n / d=q;lia
def VT(to c:Int)(d:Nat)(hc:1<=c)(hd:0<d):zM (to+c) to (-(d:Int))=cN d c.toNat:=by
 unfold zM br;rw[if_neg #[2],if_pos #[2]];obtain⟨n,rfl⟩:∃n:Nat,c=(n:Int)+1:=⟨(c - 1).toNat,by lia⟩;rw[show((n:Int)+1).toNat=n+1 by lia,Ee hd,show to+((n:Int)+1) - to - 1=(n:Int)by lia,Int.neg_neg,<-Int.natCast_ediv];generalize n / d=q;lia
theorem Lq{k:Nat}(hd:0<d)(h:i<cN d k):i*d<=k:=by
 cases k with
 |zero=>rw[Ks hd]at h;lia
 |succ k=>
  rw[Ee hd]at h;have h1:i<=k / d:=by lia
  have:=aQ (kd d h1)<|kl k d;lia
def Kr(d r:Nat):min (d:Int) r=(min d r:Nat):=by
 rcases Nat.le_total d r with h|h
 ·rw[d9 h,Int.min_eq_left<|lT.mpr h]
 ·rw[iR h,Int.min_eq_right<|lT.mpr h]
def Qb{to:Int}(h:st - to=d)(hc:1<=c)(hq:q<=c.toNat):(min (to+(q:Int)+(st - to)) (to+c) - (to+q)).toNat=min d (c.toNat - q):=by
 obtain⟨n,rfl⟩:=eA<|ke #[6] hc;rw[cf]at hq⊢;obtain⟨r,rfl⟩:=kH hq;rw[h,Int.natCast_add,<-Int.add_assoc,Int.min_add_left,lU<|to+q,kR,cY,Kr];rfl
def R4{to:Int}(h:to - st=d)(hc:1<=c)(hq:q<=c.toNat):max (to+c+ -(q:Int) - (to - st)) to=to+c+ -q - (min d (c.toNat - q):Nat):=by
 obtain⟨n,rfl⟩:=eA<|ke #[6] hc;rw[cf]at hq⊢;obtain⟨r,rfl⟩:=kH hq;rw[h,cY,<-Kr,<-Int.sub_max_sub_left]
 congr 1
 lia
noncomputable def FW:Stmt->Expr
 | .Expr v _=>v
 |_=>.Constant .none 0 ⟨0,0,0,0⟩
def Kp(S:List sK)(H H':Hp):Prop:=∀b u,H b=E u->b∉S->H' b=E u
def Kp.of(s:xf H H'):Kp S H H':=λb u e _=>s b u e
def Kp.trans(h:Kp S H H1)(g:Kp S H1 H2):Kp S H H2:=λb u e n=>g b u (h b u e n) n
def Kp.mono(h:Kp S H H1)(m:∀x∈S,x∈S'):Kp S' H H1:=λb u e n=>h b u e λz=>n (m b z)
def Kp.wr{o:HO}(h:Kp S H H1)(m:p∈S):Kp S H (upd H1 p o):=λb u e n=>by
 rw[xl λz=>n (by rw[z];show m)];show h b u e n
def Kp.mk{o:HO}(h:Kp S H H1)(m:H p=y):Kp S H (upd H1 p o):=λb u e n=>by
 rw[xl<|xH e m];show h b u e n
def Kp.same(h:Kp S H H1)(s:xf H1 H2):Kp S H H2:=h.trans (.of s)
def wM:HO->Prop
 | .ins _ _ _=>True
 | .lst _=>True
 |_=>False
def yx.kp{nm:Str}(h:yx H f nm qual params body scope fv)(mu:∀x∈S,∃u,H x=E u/\wM u)(k:Kp S H H'):yx H' f nm qual params body scope fv:=by
 have e:∀b u,H b=E u->¬wM u->H' b=E u:=λb u q n=>k b u q λz=>by
  obtain⟨u',q',m⟩:=mu b z;rw[q]at q';cases q';show n m
 obtain⟨rL,c,o,u,u',vs,t,doc,pm,oK,h1,h2,h3,h4,h5,h6,h7,h8⟩:=h;show⟨rL,c,o,u,u',vs,t,doc,pm,oK,e _ _ h1 λz=>z,e _ _ h2 λz=>z,h3,h4,h5,h6,λx v m=>let⟨a,q1,q2⟩:=h7 x v m;⟨a,q1,e _ _ q2 λz=>z⟩,λx a q=>let⟨v,q2⟩:=h8 x a q;⟨v,e _ _ q2 λz=>z⟩⟩
noncomputable abbrev y8(n:Int)(fl:V):List (Str×V):=[("asked",.int n),("fall",fl)]
def Yx(a:rP):Sp:=λvs H Q _=>tK λ(p dp:sK) (fl:V)=>tG (vs=[.ref p,fl]) (H p=E (.ins a.q0i dp [])) (Q .rp<|upd H p (.ins a.q0i dp<|y8 0 fl))
structure SA where
 st:sK
 dx:sK
 ca:sK
 na:sK
 p:sK
 dp:sK
noncomputable def nV:Option Int->V
 |none=>.rp
 |some i=>.int i
noncomputable abbrev SS(S:SA):List sK:=[S.ca,S.na,S.p]
noncomputable abbrev stF(S:SA):List (Str×V):=[("cells",.ref S.ca),("notes",.ref S.na),("pen",.ref S.p)]
structure zH(a:rP)(H:Hp)(S:SA)(cells:List Int)(gq:List (Option Int))(n:Int)(fl:V):Prop where
 st:H S.st=E (.ins a.q0e S.dx<|stF S)
 ca:H S.ca=E (.lst<|cells.map V.int)
 na:H S.na=E (.lst<|gq.map nV)
 p:H S.p=E (.ins a.q0i S.dp<|y8 n fl)
 ne:S.ca≠S.na
 np:S.p≠S.st
def zH.mu{S:SA}(h:zH a H S cells gq n fl):∀x∈SS S,∃u,H x=E u/\wM u:=by
 intro x hx;simp only[aB,bR,or_false]at hx;rcases hx with rfl|rfl|rfl
 ·show⟨_,h.ca,trivial⟩
 ·show⟨_,h.na,trivial⟩
 ·show⟨_,h.p,trivial⟩
def zH.Io{S:SA}(h:zH a H S cells gq n fl)(k:Kp L H H')(d:∀x∈L,x≠S.st/\x≠S.ca/\x≠S.na/\x≠S.p):zH a H' S cells gq n fl:=
 ⟨k _ _ h.st λz=>(d _ z).1 Y,k _ _ h.ca λz=>(d _ z).2.1 Y,k _ _ h.na λz=>(d _ z).2.2.1 Y,k _ _ h.p λz=>(d _ z).2.2.2 Y,h.ne,h.np⟩
def zH.same{S:SA}(h:zH a H S cells gq n fl)(s:xf H H'):zH a H' S cells gq n fl:=
 h.Io (L:=[]) (Kp.of s) (λ_ z=>nomatch z)
def zH.OA{S:SA}(h:zH a H S cells gq n fl):S.st∉SS S:=by
 simp only[aB,bR,or_false];rintro(z|z|z)
 ·have:=h.st;rw[z,h.ca]at this;cases this
 ·have:=h.st;rw[z,h.na]at this;cases this
 ·show h.np z.symm
def zH.OC{S:SA}(h:zH a H S cells gq n fl):S.p≠S.ca:=zt h.p h.ca (by intro z;cases z)
def zH.OB{S:SA}(h:zH a H S cells gq n fl):S.p≠S.na:=zt h.p h.na (by intro z;cases z)
def Pk(a:rP)(H:Hp)(S:SA)(cells:List Int)(gq:List (Option Int))(n:Int)(fl:V)(q:Hp->Prop):Prop:=∀H',Kp (SS S) H H'->zH a H' S cells gq n fl->q H'
abbrev inR(cells:List Int)(i:Int):Prop:=0<=i/\i<cells.length
def ZL(K:ax)(a:rP):Sp:=λvs H Q _=>tE λ(st dx l:sK) (cells:List Int) (fl:V)=>sU (vs=[.ref st,.ref l,fl]) (H st=E (.ins a.q0e dx [])) (H l=E (.lst<|cells.map V.int)) (∀(S:SA) (H':Hp),S.st=st->Kp [st] H H'->zH a H' S cells [E 0,E 0] 0 fl->H S.ca=y->H S.na=y->H S.p=y->Q .rp H')
def xgL(a:rP):Sp:=λvs H Q _=>tW λ(S:SA) (cells:List Int) (gq:List (Option Int)) (n i:Int) (fl:V)=>sU (vs=[.ref S.st,.int i]) (zH a H S cells gq n fl) (inR cells i) (Q .rp H)
def ZK(a:rP):Sp:=λvs H Q _=>BM λ(S:SA) (cells:List Int) (gq:List (Option Int)) (n i v:Int) (fl:V)=>tF (vs=[.ref S.st,.int i]) (zH a H S cells gq n fl) (inR cells i) (cells[i.toNat]? =E v) (Q (.int v) H)
def R3(a:rP):Sp:=λvs H Q _=>tE λ(S:SA) (cells:List Int) (gq:List (Option Int)) (n:Int) (fl:V)=>tG (vs=[.ref S.st]) (zH a H S cells gq n fl) (∀t c m H',xf H H'->H c=y->H m=y->c≠m->H' t=E (.tup [.ref c,.ref m,.int n])->H' c=E (.lst<|cells.map V.int)->H' m=E (.lst<|gq.map nV)->Q (.ref t) H')
def BZ(gq:List (Option Int))(m:Int):Prop:=(gq.filterMap id=[]->m=0)/\(gq.filterMap id≠[]->m∈gq.filterMap id/\∀x∈gq.filterMap id,x<=m)
def BZ.uniq{m:Int}(h:BZ gq m)(h':BZ gq m'):m=m':=by
 by_cases e:gq.filterMap id=[]
 ·rw[h.1 e,h'.1 e]
 ·have a:=h.2 e;have b:=h'.2 e;have:=a.2 _ b.1;have:=b.2 _ a.1;lia
def VS(a:rP):Sp:=λvs H Q _=>tE λ(S:SA) (cells:List Int) (gq:List (Option Int)) (n:Int) (fl:V)=>sU (vs=[.ref S.st]) (zH a H S cells gq n fl) (gq.length=2) (∀m H',xf H H'->BZ gq m->Q (.int m) H')
def Fn(H:Hp)(Q:VK)(rR:List (List Int)):Prop:=∀(l:sK) (as:List sK) (H':Hp),xf H H'->zE H H' l as rR->Q (.ref l) H'
def Gv(a:rP):Sp:=λvs H Q _=>tE λ(p dx:sK) (to st c:Int)=>tY (vs=[.ref p]) (H p=E (.ins a.q0a dx<|Ax to st c)) (1<=c) (c<=1000) ((st - to).natAbs<2^200) (Fn H Q<|yL to st c)
def Gu(a:rP):Sp:=λvs H Q _=>tE λ(p dx t:sK) (to n:Int)=>sU (vs=[.ref p]) (H p=E (.ins a.q0b dx<|Ah to t n)) (n<=1000) (Fn H Q [yz to n.toNat])
def Gs(K:ax):Sp:=λvs H Q _=>tW λ(p C dx:sK) (fs:List (Str×V)) (to c:Int)=>EY (vs=[.ref p]) (H p=E (.ins C dx fs)) (tX K C) (xY K C "to") (xY K C "count") (fs.lookup ("to":Str)=E (.int to)) (fs.lookup ("count":Str)=E (.int c)) (c.toNat<=2^24) (Ae H Q<|yz to c.toNat)
def Sm(x:Int):Prop:=(x.natAbs:Int)<10^60
abbrev Bt:Expr:=J8 ((yh HX).getD 3<|.Pass ⟨0,0,0,0⟩)
def Kq:uy ["count","answer","last"] ["count"] ["answer","last"] (yF Bt):=by walk_at"d"
abbrev Br:Expr:=D8 3 (FW ((yh HY).getD 1<|.Pass ⟨0,0,0,0⟩))
abbrev Bq:Expr:=D8 3 (FW ((yh jb).getD 0<|.Pass ⟨0,0,0,0⟩))
def Ko:uy ["other"] ["other"] [] (yF Br):=by walk_at"d"
def Kn:uy ["other"] ["other"] [] (yF Bq):=by walk_at"d"
abbrev Pj(H:Hp)(f:sK)(fv:List (Str×V)):Prop:=yx H f "<lambda>" "Store.write.<locals>.<lambda>" (uI Br) (.expr<|uJ Br) (yF Br) fv
abbrev Ph(H:Hp)(f:sK)(fv:List (Str×V)):Prop:=yx H f "<lambda>" "Store.note_down.<locals>.<lambda>" (uI Bq) (.expr<|uJ Bq) (yF Bq) fv
abbrev Pg(H:Hp)(f t:sK)(last:Int):Prop:=yx H f "<lambda>" "fall_behind.<locals>.<lambda>" (uI Bt) (.expr<|uJ Bt) (yF Bt) [("answer",.ref t),("last",.int last)]
def R1:List (Str×V)->Sp:=λfv vs H Q _=>∃v:V,tG (fv=([]:List (Str×V))) (vs=[v]) (Q v H)
def R0:List (Str×V)->Sp:=λfv vs H Q _=>∃v:V,tG (fv=([]:List (Str×V))) (vs=[v]) (Q .rp H)
def RZ:List (Str×V)->Sp:=λfv vs H Q _=>tK λ(t:sK) (last n:Int)=>sU (fv=([("answer",.ref t),("last",.int last)]:List (Str×V))) (vs=[.int n]) (Q (.ref t) H) (Q .rp H)
def Bf(H:Hp)(g:sK)(tf:Int->V):Prop:=(Pj H g []/\tf=λs=>.int s)\/(Ph H g []/\tf=λ_=>.rp)
def OJ(H:Hp)(t:sK)(ns:List Int):Prop:=H t=E (.tup<|ns.map V.int)/\ns.length<=1/\∀x∈ns,Sm x
def AO(H:Hp)(fl:V)(mf:Bool):Prop:=(mf=sJ/\fl= .rp)\/(mf=sX/\∃(f t:sK) (last:Int) (ns:List Int),fl= .ref f/\Pg H f t last/\OJ H t ns)
def ZJ(a:rP):Sp:=λvs H Q _=>tW λ(p dp:sK) (n m:Int) (fl:V) (mf:Bool)=>tF (vs=[.ref p,.int n]) (H p=E (.ins a.q0i dp<|y8 m fl)) (AO H fl mf) (Q .rp H) ((mf=sX->∀t ns,OJ H t ns->Q (.ref t) H))
def YN(a:rP):Sp:=λvs H Q sQ=>Jf λ(p dp l g:sK) (i n:Int) (val fl:V) (xs:List V) (mf:Bool) (tf:Int->V)=>EY (vs=[.ref p,.ref l,.int i,val,.ref g]) (H p=E (.ins a.q0i dp<|y8 n fl)) (AO H fl mf) (H l=E (.lst xs)) (0<=i) (i<xs.length) (Bf H g tf) ((∀H',Kp [p,l] H H'->H' p=E (.ins a.q0i dp<|y8 (n+1) fl)->H' l=E (.lst<|xs.set i.toNat val)->Q .rp H')) ((mf=sX->∀d H',Kp [p,l] H H'->H' p=E (.ins a.q0i dp<|y8 (n+1) fl)->(H' l=E (.lst xs)\/∃s,Sm s/\H' l=E (.lst (xs.set i.toNat<|tf s)))->H' d=E (.xd [("count",.int n)])->sQ (.ref a.q0d) (E d) H'))
set_option genInjectivity false in
structure FA where
 S:SA
 fl:V
 mf:Bool
 n0:Int
 H0:Hp
structure Bs(F:FA):Prop where
 fal:AO F.H0 F.fl F.mf
 mu:∀x∈SS F.S,∃u,F.H0 x=E u/\wM u
 Pd:F.H0 ur=E (.sk vt)
 Pw:F.H0 zF=E (.sk uM)
 Pn:F.H0 yM=E (.sk zy)
structure tq(a:rP)(H:Hp)(F:FA)(cells:List Int)(gq:List (Option Int))(k:Nat):Prop where
 st:∃n:Int,F.n0<=n/\n<=F.n0+k/\zH a H F.S cells gq n F.fl
 kp:Kp (SS F.S) F.H0 H
 sm:∀x∈cells,Sm x
def tq.same{k:Nat}(h:tq a H F cells gq k)(s:xf H H'):tq a H' F cells gq k:=
 ⟨let⟨n,h0,h1,h2⟩:=h.st;⟨n,h0,h1,h2.same s⟩,h.kp.same s,h.sm⟩
def tq.mono{k:Nat}(h:tq a H F cells gq k)(e:k<=k'):tq a H F cells gq k':=
 ⟨let⟨n,h0,h1,h2⟩:=h.st;⟨n,h0,by lia,h2⟩,h.kp,h.sm⟩
def Bs.keep(B:Bs F)(k:Kp (SS F.S) F.H0 H){b:sK}(e:F.H0 b=E u)(m:¬wM u):H b=E u:=
 k b u e λz=>by
  obtain⟨u',q',m'⟩:=B.mu b z;rw[e]at q';cases q';show m m'
def Bs.Dj(B:Bs F)(k:Kp (SS F.S) F.H0 H):AO H F.fl F.mf:=by
 rcases B.fal with h|⟨h,f,t,last,ns,h1,h2,h3,h4⟩
 ·show .inl h
 ·show .inr ⟨h,f,t,last,ns,h1,yx.kp h2 B.mu k,B.keep k h3 λz=>z,h4⟩
def BR(a:rP)(H:Hp)(F:FA)(sQ:XK)(p:List Int->List (Option Int)->Prop):Prop:=F.mf=sX->∀n d H' oN oK k,Kp (SS F.S) H H'->tq a H' F oN oK k->p oN oK->H' d=E (.xd [("count",.int n)])->sQ (.ref a.q0d) (E d) H'
def Lp(a:rP):Sp:=λvs H Q sQ=>tW λ(F:FA) (cells:List Int) (gq:List (Option Int)) (i s:Int) (k:Nat)=>AH (vs=[.ref F.S.st,.int i,.int s]) (Bs F) (tq a H F cells gq k) (inR cells i) (Sm s) ((∀H',Kp (SS F.S) H H'->tq a H' F (cells.set i.toNat s) gq (k+1)->Q .rp H')) (BR a H F sQ λoK oN=>oN=gq/\(oK=cells\/∃t,oK=cells.set i.toNat t))
def YM(a:rP):Sp:=λvs H Q sQ=>tW λ(F:FA) (cells:List Int) (gq:List (Option Int)) (i m:Int) (k:Nat)=>AH (vs=[.ref F.S.st,.int i,.int m]) (Bs F) (tq a H F cells gq k) (0<=i) (i<gq.length) ((∀H',Kp (SS F.S) H H'->tq a H' F cells (gq.set i.toNat<|E m) (k+1)->Q .rp H')) (BR a H F sQ λoN oK=>oN=cells/\(oK=gq\/oK=gq.set i.toNat y))
def RY(a:rP):Sp:=λvs H Q sQ=>tE λ(F:FA) (cells:List Int) (gq:List (Option Int)) (m:Int) (k:Nat)=>tY (vs=[.ref F.S.st,.int m]) (Bs F) (tq a H F cells gq k) (gq.length=2) ((∀H',Kp (SS F.S) H H'->tq a H' F cells (gq.set (m%2).toNat<|E m) (k+1)->Q .rp H')) (BR a H F sQ λoN oK=>oN=cells/\(oK=gq\/oK=gq.set (m%2).toNat y))
def Uh(a:rP):Sp:=λvs H Q _=>tS λ(F:FA) (cells:List Int) (gq:List (Option Int)) (k:Nat)=>tY (vs=[.ref F.S.st]) (Bs F) (F.mf=sJ) (tq a H F cells gq k) (gq.length=2) (∀H',Kp (SS F.S) H H'->tq a H' F cells [E 0,E 0] (k+1+1)->Q .rp H')
def Xb(a:rP):Sp:=λvs H Q _=>tW λ(S:SA) (cells:List Int) (gq:List (Option Int)) (n:Int) (fl oK:V)=>tG (vs=[.ref S.st,oK]) (zH a H S cells gq n fl) (Pk a H S cells gq n oK<|Q .rp)
def xhD:Sp:=λvs H Q _=>tK λ(asked:Int) (l:sK) (ns:List Int)=>tY (vs=[.int asked,.ref l]) (H l=E (.lst<|ns.map V.int)) (H zG=E (.sk uN)) (ns.length<=2) (∀x∈ns,Sm x) (∀(fl:V) (H':Hp),xf H H'->AO H' fl (decide (ns≠[]))->Q fl H')
noncomputable def xh.cv:xh->List Int
 | .take to _ c=>yz to c.toNat
 | .put to sg=>yz to sg.length
noncomputable def xh.tT:xh->List Int
 | .take to st c=>if st=to then[]else yz st c.toNat
 | .put _ _=>[]
noncomputable def xh.sS:xh->List Int
 | .take to st c=>if st=to then[]else yz to c.toNat
 | .put to sg=>yz to sg.length
noncomputable def xh.to:xh->Int
 | .take t _ _=>t
 | .put t _=>t
noncomputable def xh.cnt:xh->Nat
 | .take _ _ c=>c.toNat
 | .put _ sg=>sg.length
noncomputable def xh.sg(es:List Int):xh->List Int
 | .take _ st c=>(es.drop st.toNat).take c.toNat
 | .put _ sg=>sg
def xh.fits(es:List Int):xh->Prop
 | .take _ st c=>st+c<=es.length
 | .put _ _=>True
theorem xh.By(ok:r.ok)(f:r.fits es):(r.sg es).length=r.cnt:=by
 cases r with
 |take to st c=>
  obtain⟨k1,k2,k3⟩:=ok;have f':st+c<=es.length:=f;simp only[xh.sg,xh.cnt,a8,bC];obtain⟨s,rfl⟩:=eA k2;obtain⟨n,rfl⟩:=eA<|ke #[6] k3;show d9 (Nat.le_sub_of_add_le'<|lT.mp f')
 |put to sg=>rfl
theorem xh.ok.to(ok:r.ok):0<=r.to:=by
 cases r with
 |take to st c=>show ok.1
 |put to sg=>show ok.1
def Tells(es nw:List Int)(r:xh):Prop:=r.ok/\r.fits es/\r.to+r.cnt<=nw.length/\∀i:Nat,i<r.cnt->nw[(r.to+i).toNat]? =(r.sg es)[i]?
def CF(r:xh)(j:Nat):Prop:=r.to<=j/\(j:Int)<r.to+r.cnt
def zB(K:ax)(H:Hp)(p:sK)(o n:Int)(rs:List xh):Prop:=∃t ts,H p=E (.tup [.int o,.int n,.ref t])/\H t=E (.tup<|ts.map V.ref)/\Paired (TupAt K H) ts rs
def zB.same{o:Int}{rs:List xh}(h:zB K H p o n rs)(s:xf H H'):zB K H' p o n rs:=by
 obtain⟨t,ts,h1,h2,h3⟩:=h;show⟨t,ts,s.at h1,s.at h2,L2.Paired.imp' (λ_ _ z=>z.same s) h3⟩
def OT(old new:Int):xh->Prop
 | .take to st c=>st+c<=old/\to+c<=new
 | .put to sg=>to+sg.length<=new
def YL:Sp:=λvs H Q _=>∃i:Int,sU (vs=[.int i]) (0<=i) (i<=300) (Q (.bl sX) H)
def Xa(K:ax):Sp:=λvs H Q _=>tS λ(t:sK) (r:xh) (old new:Int)=>tF (vs=[.ref t,.int old,.int new]) (TupAt K H t r) r.ok (OT old new r) (∀H',xf H H'->Q (.bl sX) H')
noncomputable def C8:xh->List (List Int)
 | .take to st c=>yL to st c
 | .put to sg=>[yz to sg.length]
noncomputable def IH(C:List Int):xh->Int->Option Int
 | .take to st _,j=>C[(st+j - to).toNat]?
 | .put to sg,j=>sg[(j - to).toNat]?
def Part(C:List Int)(r:xh)(D cur:List Int):Prop:=cur.length=C.length/\∀j:Nat,j<C.length->cur[j]? =if (j:Int)∈D then IH C r j else C[j]?
local macro_rules| `(tactic|walk_at"w")=>`(tactic|(conv=>whnf))
def xvg{fs:List (Str×V)}{n:Nat}(h:fs.length<998)(hn:autoParam (999<=n) q9):(vw f v fs).length<n:=az (SN h) hn
local macro_rules| `(tactic|walk_at"few")=>`(tactic|first|exact xvg (by simp)|(simp;done))
local macro_rules| `(tactic|walk_at"no")=>`(tactic|(intro z;first|cases z|(simp at z;done)))
local macro_rules| `(tactic|walk_at"side")=>`(tactic|first|(and_intros<;> decide)|(change(0:Int)<_;first|decide|lia)|assumption|exact .inl ⟨by lia,by lia⟩|exact .inr ⟨by lia,by lia⟩|(change(_:Nat)<=sizeLine;first|decide|(simp only[List.length_cons,List.length_nil];decide)))
local macro_rules| `(tactic|walk_at"s")=>`(tactic|(refine And.intro (by walk_at"side") ?_;walk_at"w"))
local macro_rules| `(tactic|walk_at"ss")=>`(tactic|(repeat (walk_at"s")))
set_option hygiene false in
local macro_rules| `(tactic|specialize $e:term)=>`(tactic|(refine $e ?_;intro cdv A outer s H vs Q sQ hr h nd))
local macro_rules| `(tactic|walk_at"l")=>`(tactic|(intro _ _ _ _ h;(repeat (cases h;rename_i h))<;> (subst_vars;rfl)))
local macro_rules| `(tactic|walk_at"N")=>`(tactic|refine⟨by walk_at"no",λ_=>?_⟩)
local macro_rules| `(tactic|walk_at"Y")=>`(tactic|refine⟨λ_=>?_,by walk_at"no"⟩)
local macro_rules| `(tactic|walk_at"n")=>`(tactic|(walk_at"N";walk_at"w"))
local macro_rules| `(tactic|walk_at"y")=>`(tactic|(walk_at"Y";walk_at"w"))
local macro_rules| `(tactic|walk_at"W")=>`(tactic|(walk_at"w";walk_at"ss"))
local macro_rules| `(tactic|exists$e:term)=>`(tactic|(refine $e;walk_at"w"))
local macro_rules| `(tactic|left)=>`(tactic|walk_at"w")
local macro_rules| `(tactic|right)=>`(tactic|walk_at"W")
section
variable {base:Heap} (T:Txt w K mg a)
def xhE:T.HW.O P w mg base 1 (Md a.q0d "count"):=by
 specialize T.HW.g ["self","count"]
 ·show oG λ_ U=>?_;obtain⟨p,v,rfl,hp,k⟩:=h;apply U;show⟨_,(xg<|Tr (cv 0) (cv 1) Y),?_⟩;show⟨p,_,_,Y,hp,T.Mr,T.xgG,λd h1 h2=>?_⟩;show k d h1 h2
def xeh(T:Txt w K mg a):uq P w K mg base sR 1 "<lambda>" "Store.write.<locals>.<lambda>" (uI Br) (.expr<|uJ Br) (yF Br) ["other"] R1:=by
 show jx Ko (λfv vs H Q sQ h=>?_) (λ_ _ _ _ _ us hl=>match us,hl with|[_],_=>Y) (λA outer s H f rL cdv fv vs Q sQ hr h=>?_)
 ·obtain⟨v,rfl,rfl,_⟩:=h;show⟨Y,Y⟩
 ·show oG λ_ U=>?_;obtain⟨v,rfl,rfl,k⟩:=h;apply U;have nd:=Ko.nd;exists⟨_,(cv 0),?_⟩;show k
def xcz(T:Txt w K mg a):uq P w K mg base sR 1 "<lambda>" "Store.note_down.<locals>.<lambda>" (uI Bq) (.expr<|uJ Bq) (yF Bq) ["other"] R0:=by
 show jx Kn (λfv vs H Q sQ h=>?_) (λ_ _ _ _ _ us hl=>match us,hl with|[_],_=>Y) (λA outer s H f rL cdv fv vs Q sQ hr h=>?_)
 ·obtain⟨v,rfl,rfl,_⟩:=h;show⟨Y,Y⟩
 ·show oG λ_ U=>?_;obtain⟨v,rfl,rfl,k⟩:=h;apply U;have nd:=Kn.nd;show⟨_,zT,?_⟩;show k
def Yw:T.Gx.O P w mg base 1 (Yx a):=by
 specialize T.Gx.g ["self","fall"]
 ·show oG λ_ U=>?_;obtain⟨p,dp,fl,rfl,hp,k⟩:=h;apply U;show⟨_,(xc (yt (cv 0) xj Y)
  (xg (yt (cv 0) (cv 1) Y))),?_⟩
  show⟨p,_,dp,_,Y,hp,T.Ai,T.jY,by walk_at"few",?_⟩;show⟨p,_,dp,_,Y,xk,T.Ai,T.GX,by walk_at"few",?_⟩;left;rw[yO];show k
def Ug(T:Txt w K mg a){g:sK}{s:Int}(h:Bf H g tf)(q:Q (tf s) H):OS P w K mg base 1 H g [.int s] Q:=by
 rcases h with⟨h,rfl⟩|⟨h,rfl⟩
 ·show⟨_,_,_,_,_,_,_,_,xeh T,h,_,Y,Y,q⟩
 ·show⟨_,_,_,_,_,_,_,_,xcz T,h,_,Y,Y,q⟩
def Bf.clo{g:sK}(h:Bf H g tf):tW λnm qual params body scope fv=>yx H g nm qual params body scope fv:=by
 rcases h with⟨h,_⟩|⟨h,_⟩
 ·show⟨_,_,_,_,_,_,h⟩
 ·show⟨_,_,_,_,_,_,h⟩
def Bf.kp{g:sK}(h:Bf H g tf)(mu:∀x∈S,∃u,H x=E u/\wM u)(k:Kp S H H'):Bf H' g tf:=by
 rcases h with⟨h,e⟩|⟨h,e⟩
 ·show .inl ⟨yx.kp h mu k,e⟩
 ·show .inr ⟨yx.kp h mu k,e⟩
def ZI:T.HB.O P w mg base 3 (ZL K a):=by
 show T.HB.ok N0 (λvs H Q sQ h=>?_) (λcdv A outer s H vs Q sQ hr h=>?_)
 ·obtain⟨st,dx,l,cells,fl,rfl,_⟩:=h;rfl
 ·show oG λ_ U=>?_;obtain⟨st,dx,l,cells,fl,rfl,oP,hl,k⟩:=h;apply U;have nd:=N0.nd;show⟨_,(xc (yt (cv 0) (xT Hw #[5] T.AW jF<|xa (cv 1) xb) Y)
  (xc (yt (cv 0) (yf (xa xj<|xa xj xb)) Y)
  (xg (yt (cv 0) (jD T.Qf (Yw T) hr.m #[5] T.QL T.Gx.b .nil xn (xa (cv 2) xb)) Y)))),?_⟩
  show⟨l,_,Y,.inl<|kq.of hl,?_⟩;intro ca oO;show⟨st,_,dx,_,Y,by rw[xl<|xH oP oO];show oP,T.xX,T.uQ,by walk_at"few",?_⟩;show se (upd (upd H ca _) st _) λH1 oN=>?_;have k1:Kp [st] H H1:=by rw[<-oN];show((Kp.of<|xf.refl _).mk oO).wr #[8]
  have f1:H1 st=E (.ins a.q0e dx [("cells",.ref ca)]):=by rw[<-oN,xk];rfl
  have g1:H1 ca=E (.lst<|cells.map V.int):=by rw[<-oN,xl (aW<|xH oP oO),xk]
  have b1:∀b,H1 b=y->H b=y/\b≠st/\b≠ca:=λb hb=>by
   have n1:b≠st:=λz=>by rw[z,f1]at hb;cases hb
   have n2:b≠ca:=λz=>by rw[z,g1]at hb;cases hb
   rw[<-oN,xl n1,xl n2]at hb;show⟨hb,n1,n2⟩
  clear oN;right;intro na oU;show oG λ_ U=>?_;obtain⟨oS,oR,oQ⟩:=b1 na oU;apply U;show⟨st,_,dx,_,Y,by rw[xl<|xH f1 oU];show f1,T.xX,T.vV,by walk_at"few",?_⟩;show se (upd (upd H1 na _) st _) λH2 oK=>?_;have k2:Kp [st] H H2:=by rw[<-oK];show(k1.mk oS).wr #[8]
  have f2:H2 st=E (.ins a.q0e dx [("cells",.ref ca),("notes",.ref na)]):=by rw[<-oK,xk];rfl
  have g2:H2 ca=E (.lst<|cells.map V.int):=by rw[<-oK,xl<|zt g1 f1 (by intro z;cases z),xl<|aW oQ];show g1
  have m2:H2 na=E (.lst<|[E 0,E 0].map nV):=by rw[<-oK,xl oR,xk];rfl
  have b2:∀b,H2 b=y->H b=y/\b≠st/\b≠ca/\b≠na:=λb hb=>by
   have n1:b≠st:=λz=>by rw[z,f2]at hb;cases hb
   have n3:b≠na:=λz=>by rw[z,m2]at hb;cases hb
   rw[<-oK,xl n1,xl n3]at hb;show⟨(b1 b hb).1,n1,(b1 b hb).2.2,n3⟩
  clear oK b1;left;intro p dp hp oV oW;show oG λ_ U=>?_;obtain⟨p0,p1,p2,p3⟩:=b2 p hp;obtain⟨q0,q1,q2,q3⟩:=b2 dp oV;apply U;show⟨p,dp,fl,Y,xk,?_⟩;exists⟨Y,?_⟩;rw[yO];have e3:∀b,b≠p->b≠dp->∀o o',upd (upd H2 dp o) p o' b=H2 b:=λb n1 n2 o o'=>by rw[xl n1,xl n2]
  show⟨st,_,dx,_,Y,by rw[e3 _ (aW p1)<|aW q1];show f2,T.xX,T.vK,by walk_at"few",?_⟩;show k ⟨st,dx,ca,na,p,dp⟩ _ rfl (((k2.mk q0).mk p0).wr #[8]) ⟨?_,?_,?_,?_,aW oQ,p1⟩ oO oS p0
  ·rw[xk];rfl
  ·rw[xl<|zt g2 f2 (by intro z;cases z),e3 _ (aW p2)<|aW q2];show g2
  ·rw[xl oR,e3 _ (aW p3)<|aW q3];show m2
  ·rw[xl p1,xk]
def vZ:T.zu.O P w mg base 1 (xgL a):=by
 specialize T.zu.g ["self","at"]
 ·show oG λ_ U=>?_;obtain⟨S,cells,gq,n,i,fl,rfl,hS,hi,k⟩:=h;apply U;show⟨_,(xg<|xC (PW.pt<|vy (xA wZ (cv 1) xj) (jf<|xA Cn (cv 1) (xq xu #[5] T.xW xN<|xa #[11] xb))) (xg vp) xw),?_⟩;show⟨λe=>absurd (of_decide_eq_true e) (by have:=hi.1;omega),λe=>?_⟩;show⟨S.st,_,S.dx,_,.ref S.ca,Y,hS.st,T.xX,T.uQ,Y,?_⟩;exists⟨S.ca,_,Y,.inl<|kq.of hS.ca,?_⟩;rw[aa];show⟨λe1=>absurd (of_decide_eq_true e1) (by have:=hi.2;omega),λe1=>?_⟩;show k
def ZH:T.HA.O P w mg base 2 (ZK a):=by
 specialize T.HA.g ["self","at"]
 ·show oG λ_ U=>?_;obtain⟨S,cells,gq,n,i,v,fl,rfl,hS,hi,hv,k⟩:=h;apply U;show⟨_,(xc (xO (ym (cv 0) T.xX T.vY (vZ T) hr.m T.zu.b .nil xn<|xa (cv 1) xb))
  (xg (xm (xy xU #[11] (cv 1) (λ_ _=>Y))))),?_⟩
  show⟨S.st,S.dx,_,Y,hS.st,Y,?_⟩;show⟨S,cells,gq,n,i,fl,Y,hS,hi,?_⟩;show⟨S.st,_,S.dx,_,.ref S.ca,Y,hS.st,T.xX,T.uQ,Y,?_⟩;show⟨S.ca,_,i,.int v,Y,Y,kq.of hS.ca,D4 hi.1 hv,?_⟩;show k
def jr:T.uP.O P w mg base 1 (R3 a):=by
 specialize T.uP.g ["self"]
 ·show oG λ_ U=>?_;obtain⟨S,cells,gq,n,fl,rfl,hS,k⟩:=h;apply U;show⟨_,(xg<|xm (zp<|xa (xT Hw #[5] T.AW jF<|xa #[11] xb) (xa (xT Hw #[5] T.AW jF<|xa #[11] xb)<|xa (xv #[11] Y) xb))),?_⟩;show⟨S.st,_,S.dx,_,.ref S.ca,Y,hS.st,T.xX,T.uQ,Y,?_⟩;show⟨S.ca,_,Y,.inl<|kq.of hS.ca,?_⟩;exists λc hc=>xK (upd H c _) rfl hc λH1 oO ec=>?_;have oP:=hS.same oO;show⟨S.st,_,S.dx,_,.ref S.na,Y,oP.st,T.xX,T.vV,Y,?_⟩;show⟨S.na,_,Y,.inl<|kq.of oP.na,?_⟩;exists λm hm=>xK (upd H1 m _) rfl hm λH2 oN em=>?_;have oQ:=oP.same oN;show⟨S.st,_,S.dx,_,.ref S.p,Y,oQ.st,T.xX,T.vK,Y,?_⟩;exists⟨S.p,_,S.dp,_,.int n,Y,oQ.p,T.Ai,T.jY,Y,?_⟩;walk_at"ss";exists λt ht=>xK (upd H2 t _) rfl ht λH3 oK et=>?_;show k t c m H3 (oO.trans<|oN.trans oK) hc (oO.back hm) (xH ec hm) et (oK.at (oN.at ec)) (oK.at em)
theorem Gr:∀gq:List (Option Int),((gq.map nV).filter λv=> !(wy v)).map (λv=>v)=(gq.filterMap id).map V.int
 |[]=>rfl
 |none::r=>by
  have:=Gr r;simpa [nV,wy]using this
 |some i::r=>by
  have:=Gr r;simpa [nV,wy]using this
def xhF:T.HS.O P w mg base 1 (VS a):=by
 specialize T.HS.g ["self"]
 ·show oG λ_ U=>?_;obtain⟨S,cells,gq,n,fl,rfl,hS,h2,k⟩:=h;apply U;show⟨_,(xg (xm<|KN Y #[5] T.AQ (xa (yv #[4] Y (xS<|xv (cv 0) Y) (λ_ _ _ _=>(cv 0)) λ_ _ _ _=>(B6 (D9<|cv 0))) xb) xj)),?_⟩;show⟨S.st,_,S.dx,_,.ref S.na,Y,hS.st,T.xX,T.vV,Y,?_⟩;show⟨S.na,Y,⟨_,kq.of hS.na⟩,?_⟩;show jQ (λv=> !(wy v)) (λv=>v) (kq.of hS.na) (by rw[aa,h2];decide) (λx H3 hx s3 R hR=>?_) (λx H3 hx hp s3 R hR=>?_) (λD H' hD s' e'=>?_)
  ·show hR H3 (xf.refl _)
  ·show hR H3 (xf.refl _)
  ·rw[Gr]at e';show⟨D,_,0,Y,Y,kq.of e',λm h1 h2=>k m H' s' ⟨h1,h2⟩⟩
def xei(T:Txt w K mg a):uq P w K mg base sR 1 "<lambda>" "fall_behind.<locals>.<lambda>" (uI Bt) (.expr<|uJ Bt) (yF Bt) ["count"] RZ:=by
 show jx Kq (λfv vs H Q sQ h=>?_) (λ_ _ _ _ _ us hl=>match us,hl with|[_],_=>Y) (λA outer s H f rL cdv fv vs Q sQ hr h=>?_)
 ·obtain⟨t,last,n,rfl,rfl,_⟩:=h;show⟨Y,Y⟩
 ·show oG λ_ U=>?_;obtain⟨t,last,n,rfl,rfl,k1,k2⟩:=h;apply U;have nd:=Kq.nd;show⟨_,(Jt (xA vS (cv 0)<|cv 2) (cv 1) zT),?_⟩;show⟨λz=>k1,λz=>k2⟩
def xcT:T.vf.O P w mg base 2 (ZJ a):=by
 specialize T.vf.g ["self","count","fall"]
 ·show oG λ_ U=>?_;obtain⟨p,dp,n,m,fl,mf,rfl,hp,hf,k1,k2⟩:=h;apply U;show⟨_,(xc (xp (i:=2) nd Y (aG Y)<|xv (cv 0) Y)
  (xc (xC (AX<|cv 2) (xg<|xm zT) xw)
  (xg (xm (LP 2 (xei T) hr.m xn (xa (cv 1) xb)))))),?_⟩
  show⟨p,_,dp,_,fl,Y,hp,T.Ai,T.GX,Y,?_⟩;rcases hf with⟨_,rfl⟩|⟨hm,f,t,last,ns,rfl,hc,ht⟩
  ·walk_at"Y";show k1
  ·walk_at"N";show⟨f,_,Y,hc,?_⟩;show⟨hc,t,last,n,Y,Y,k2 hm t ns ht,k1⟩
theorem Ot(T:Txt w K mg a):yA P w K mg base (As P w) 3 a.q0p a.q0D ["self","kept","at","value","torn"] (YN a):=by
 show T.jB.BB Ov (λvs H Q sQ h=>?_) (λcdv A outer s H vs Q sQ hr h=>?_)
 ·obtain⟨p,dp,l,g,i,n,val,fl,xs,mf,tf,rfl,_⟩:=h;rfl
 ·show oG λ_ U=>?_;obtain⟨p,dp,l,g,i,n,val,fl,xs,mf,tf,rfl,hp,hf,hl,h0,hi,ht,k1,k2⟩:=h;apply U;have nd:=Ov.nd;show⟨_,(xc (xp (i:=5) nd Y (aG Y)<|xv (cv 0) Y)
  (xc (yt (cv 0) (xr yp (cv 5) xj) Y)
  (xc (xp (i:=6) nd Y (aG Y) (ym (cv 0) T.Ai T.xcO (xcT T) hr.m T.vf.b .nil xn<|xa (cv 5) xb))
  (xc (xC (AX<|cv 6) (xc (J0 (cv 3)<|J5 (cv 1) (cv 2) set_list)
  (xg Uv)) xw)
  (xc (jO<|xC (xA vS (xq xu #[5] T.xW xN<|xa (cv 6) xb) xj) (xg (J0 (U3 (k:=1) 4 hr.m<|xa (xy xG (cv 6) xj λ_ _=>Y) xb)<|J5 (cv 1) (cv 2) set_list)) xw)
  (xg (WE (k:=1) ⟨Y,Y,Y⟩ Y T.Mr (xhE T) hr.m T.HW.b #[5] T.Mh (xa (cv 5) xb)))))))),?_⟩
  have oO:l≠p:=zt hl hp (by intro z;cases z);have mu:∀x∈[p,l],∃u,H x=E u/\wM u:=by
   intro x hx;simp only[aB,bR,or_false]at hx;rcases hx with rfl|rfl
   ·show⟨_,hp,trivial⟩
   ·show⟨_,hl,trivial⟩
  show⟨p,_,dp,_,.int n,Y,hp,T.Ai,T.jY,Y,?_⟩;show⟨p,_,dp,_,Y,hp,T.Ai,T.jY,by walk_at"few",?_⟩;show se (upd H p _) λH1 hU=>?_;have c1:Kp [p,l] H H1:=by rw[<-hU];show(Kp.of<|xf.refl _).wr #[8]
  have oN:H1 p=E (.ins a.q0i dp<|y8 (n+1) fl):=by rw[<-hU,xk];rfl
  have oQ:H1 l=E (.lst xs):=by rw[<-hU,xl oO];show hl
  clear hU;have tk:∀{t u},H t=E (.tup u)->H1 t=E (.tup u):=λe=>c1 _ _ e λz=>by
   show oG λ_ U=>?_;obtain⟨u',q',m'⟩:=mu _ z;apply U;rw[e]at q';cases q';show m'
  have oU:AO H1 fl mf:=by
   rcases hf with h|⟨h,f,t,last,ns,h1,h2,h3,h4⟩
   ·show .inl h
   ·show .inr ⟨h,f,t,last,ns,h1,yx.kp h2 mu c1,tk h3,h4⟩
  have oR:=ht.kp mu c1;show⟨p,dp,_,Y,oN,Y,?_⟩;show⟨p,dp,n,_,fl,mf,Y,oN,oU,?_,λhm ta ns oK=>?_⟩
  ·walk_at"Y";show⟨l,xs,i,_,Y,Y,oQ,J7 h0 hi,?_⟩;show k1 _ (c1.wr #[8]) (by rw[xl<|aW oO];show oN) xk
  have k2:=k2 hm;have fin:∀(H3:Hp),Kp [p,l] H H3->H3 p=E (.ins a.q0i dp<|y8 (n+1) fl)->(H3 l=E (.lst xs)\/∃s,Sm s/\H3 l=E (.lst (xs.set i.toNat<|tf s)))->∀d,H3 d=y->sQ (.ref a.q0d) (E d) (upd H3 d<|.xd [("count",.int n)]):=λH3 q1 q2 q3 d hd=>by
   show k2 d _ (λb u e nb=>by rw[xl (λz=>by rw[z]at e nb;rw[q1 d u e nb]at hd;cases hd)];show q1 b u e nb) (by rw[xl<|xH q2 hd];show q2) ?_ xk;rcases q3 with z|⟨s,hs,z⟩
   ·show .inl (by rw[xl<|xH z hd];show z)
   ·show .inr ⟨s,hs,by rw[xl<|xH z hd];show z⟩
  show oG λ_ U=>?_;obtain⟨oK,oS,oP⟩:=oK;apply U;walk_at"N";show⟨λrq H'=>rq=[E<|.ref p,E<|.ref l,E<|.int i,E val,E<|.ref g,E<|.int n,E<|.ref ta]/\Kp [p,l] H H'/\H' p=E (.ins a.q0i dp<|y8 (n+1) fl)/\(H' l=E (.lst xs)\/∃s,Sm s/\H' l=E (.lst (xs.set i.toNat<|tf s))),?_,?_⟩
  ·show⟨ta,_,Y,.inr<|rM.of oK,?_⟩;rw[aa];left
   match ns,oS,oP,oK with
   |[],_,_,_=>show⟨by walk_at"no",λ_=>⟨Y,c1,oN,.inl oQ⟩⟩
   |[s1],_,oP,oK=>
    walk_at"Y";show⟨g,Y,oR.clo,?_⟩;exists⟨ta,_,0,.int s1,Y,Y,rM.of oK,Y,?_⟩;show Ug T oR ?_;show⟨l,xs,i,_,Y,Y,oQ,J7 h0 hi,?_⟩;show⟨Y,c1.wr #[8],by rw[xl<|aW oO];show oN,.inr ⟨s1,oP s1 #[8],xk⟩⟩
   |_::_::_,h,_,_=>show absurd h (by simp)
  ·rintro rq H' ⟨rfl,q1,q2,q3⟩;show⟨.int n,Y,fin _ q1 q2 q3⟩
def tq.mu{k:Nat}(h:tq a H F cells gq k):∀x∈SS F.S,∃u,H x=E u/\wM u:=let⟨_,_,_,hS⟩:=h.st;hS.mu
def tq.Im{k:Nat}(h:tq a H F cells gq k){b:sK}(e:H b=y):b∉SS F.S:=λz=>by
 obtain⟨u,q,_⟩:=h.mu _ z;rw[e]at q;cases q
def tq.BD{k:Nat}(h:tq a H F cells gq k){b:sK}(e:H b=E u)(m:¬wM u):b∉SS F.S:=λz=>by
 obtain⟨u',q',m'⟩:=h.mu b z;rw[e]at q';cases q';show m m'
def JP{s:Int}(h:∀x∈cells,Sm x)(hs:Sm s):∀x∈cells.set i s,Sm x:=λx hx=>by
 rcases gN hx with z|z
 ·show h x z
 ·rw[z];show hs
def xhG(T:Txt w K mg a):yA P w K mg base (As P w) 4 a.q0J a.q0K ["self","at","sign"] (Lp a):=by
 show T.NS.Dd T.xhq N9 (λvs H Q sQ h=>?_) (λA outer s H vs Q sQ hr h=>?_)
 ·obtain⟨F,cells,gq,i,s,k,rfl,_⟩:=h;rfl
 ·show oG λ_ U=>?_;obtain⟨F,cells,gq,i,sg,k,rfl,B,hF,hi,oN,k1,k2⟩:=h;apply U;have nd:=N9.nd;show⟨_,(xc (xO (ym (cv 0) T.xX T.vY (vZ T) hr.m T.zu.b .nil xn<|xa (cv 1) xb))
  (xg (xO (vd ⟨Y,Y,Y⟩ #[11] T.Ai T.Ow (Ot T) hr.m T.jB.b .nil (xa #[11] (xa (cv 1) (xa (cv 2) (xa (uV (c:=vk) (P:=zF) (qs:=uM) (fns:=[]) Y T.xhp (q:="Store.write.<locals>.<lambda>") #[9] (.head _) #[9] #[9]) xb)))))))),?_⟩
  show oG λ_ U=>?_;obtain⟨n,hn,hk,hS⟩:=hF.st;apply U;show⟨F.S.st,F.S.dx,_,Y,hS.st,Y,?_⟩;show⟨F.S,cells,gq,n,i,F.fl,Y,hS,hi,?_⟩;show⟨F.S.st,_,F.S.dx,_,.ref F.S.p,Y,hS.st,T.xX,T.vK,Y,?_⟩;show⟨F.S.p,F.S.dp,_,Y,hS.p,Y,?_⟩;show⟨F.S.st,_,F.S.dx,_,.ref F.S.ca,Y,hS.st,T.xX,T.uQ,Y,?_⟩;exists⟨B.keep hF.kp B.Pw λz=>z,[],Y,(λx v m=>nomatch m),λg H1 hg s1 hc=>?_⟩;have oO:=hF.same s1;have oK:=hS.same s1;have go:∀{H2:Hp} {cs:List Int},Kp [F.S.p,F.S.ca] H1 H2->H2 F.S.p=E (.ins a.q0i F.S.dp<|y8 (n+1) F.fl)->H2 F.S.ca=E (.lst<|cs.map V.int)->(∀x∈cs,Sm x)->Kp (SS F.S) H H2/\tq a H2 F cs gq (k+1):=λq1 q2 q3 q4=>by
   have q0:Kp (SS F.S) H _:=(Kp.of s1).trans<|q1.mono #[8];show⟨q0,⟨n+1,by lia,by lia,q0 _ _ hS.st hS.OA,q3,q1 _ _ oK.na (by simp[aW hS.OB,aW hS.ne]),q2,hS.ne,hS.np⟩,hF.kp.trans q0,q4⟩
  show⟨F.S.p,F.S.dp,F.S.ca,g,i,n,.int sg,F.fl,_,F.mf,_,Y,oK.p,B.Dj oO.kp,oK.ca,hi.1,by rw[aa];show hi.2,.inl ⟨hc,Y⟩,λH2 q1 q2 q3=>?_,λhm d H2 q1 q2 q3 q5=>?_⟩
  ·have q:=go q1 q2 (by rw[q3,lV])<|JP hF.sm oN;show k1 H2 q.1 q.2
  ·rcases q3 with z|⟨t,ht,z⟩
   ·have q:=go q1 q2 z hF.sm;show k2 hm n d H2 cells gq _ q.1 q.2 ⟨Y,.inl Y⟩ q5
   ·have q:=go q1 q2 (by rw[z,lV])<|JP hF.sm ht;show k2 hm n d H2 _ gq _ q.1 q.2 ⟨Y,.inr ⟨t,Y⟩⟩ q5
def vN(T:Txt w K mg a):yA P w K mg base (As P w) 4 a.q0l a.q0m ["self","at","number"] (YM a):=by
 show T.uD.Dd T.xeb Ol (λvs H Q sQ h=>?_) (λA outer s H vs Q sQ hr h=>?_)
 ·obtain⟨F,cells,gq,i,m,k,rfl,_⟩:=h;rfl
 ·show oG λ_ U=>?_;obtain⟨F,cells,gq,i,m,k,rfl,B,hF,h0,hi,k1,k2⟩:=h;apply U;have nd:=Ol.nd;show⟨_,(xg (xO<|vd ⟨Y,Y,Y⟩ #[11] T.Ai T.Ow (Ot T) hr.m T.jB.b .nil (xa #[11]<|xa (cv 1) (xa (cv 2)<|xa (uV (c:=zL) (P:=yM) (qs:=zy) (fns:=[]) Y T.xea (q:="Store.note_down.<locals>.<lambda>") #[9] (.head _) #[9] #[9]) xb)))),?_⟩;show oG λ_ U=>?_;obtain⟨n,hn,hk,hS⟩:=hF.st;apply U;show⟨F.S.st,_,F.S.dx,_,.ref F.S.p,Y,hS.st,T.xX,T.vK,Y,?_⟩;show⟨F.S.p,F.S.dp,_,Y,hS.p,Y,?_⟩;show⟨F.S.st,_,F.S.dx,_,.ref F.S.na,Y,hS.st,T.xX,T.vV,Y,?_⟩;exists⟨B.keep hF.kp B.Pn λz=>z,[],Y,(λx v m=>nomatch m),λg H1 hg s1 hc=>?_⟩;have oN:=hF.same s1;have oK:=hS.same s1;have go:∀{H2:Hp} {ns:List (Option Int)},Kp [F.S.p,F.S.na] H1 H2->H2 F.S.p=E (.ins a.q0i F.S.dp<|y8 (n+1) F.fl)->H2 F.S.na=E (.lst<|ns.map nV)->Kp (SS F.S) H H2/\tq a H2 F cells ns (k+1):=λq1 q2 q3=>by
   have q0:Kp (SS F.S) H _:=(Kp.of s1).trans<|q1.mono #[8];show⟨q0,⟨n+1,by lia,by lia,q0 _ _ hS.st hS.OA,q1 _ _ oK.ca (by simp[aW hS.OC,hS.ne]),q3,q2,hS.ne,hS.np⟩,hF.kp.trans q0,hF.sm⟩
  show⟨F.S.p,F.S.dp,F.S.na,g,i,n,.int m,F.fl,_,F.mf,_,Y,oK.p,B.Dj oN.kp,oK.na,h0,by rw[aa];show hi,.inr ⟨hc,Y⟩,λH2 q1 q2 q3=>?_,λhm d H2 q1 q2 q3 q5=>?_⟩
  ·have q:=go (ns:=gq.set i.toNat<|E m) q1 q2 (by rw[q3,lV];rfl);show k1 H2 q.1 q.2
  ·rcases q3 with z|⟨t,ht,z⟩
   ·have q:=go q1 q2 z;show k2 hm n d H2 cells gq _ q.1 q.2 ⟨Y,.inl Y⟩ q5
   ·have q:=go (ns:=gq.set i.toNat y) q1 q2 (by rw[z,lV];rfl);show k2 hm n d H2 cells _ _ q.1 q.2 ⟨Y,.inr Y⟩ q5
def ZG(T:Txt w K mg a):yA P w K mg base (As P w) 5 a.q0W a.q1D ["self","number"] (RY a):=by
 show T.N2.BB NZ (λvs H Q sQ h=>?_) (λcdv A outer s H vs Q sQ hr h=>?_)
 ·obtain⟨F,cells,gq,m,k,rfl,_⟩:=h;rfl
 ·show oG λ_ U=>?_;obtain⟨F,cells,gq,m,k,rfl,B,hF,h2,k1,k2⟩:=h;apply U;have nd:=NZ.nd;show⟨_,(xg (xO<|vd ⟨Y,Y,Y⟩ (cv 0) T.xX T.vM (vN T) hr.m T.uD.b .nil (xa (xr zm (cv 1) xj)<|xa (cv 1) xb))),?_⟩;show oG λ_ U=>?_;obtain⟨n,hn,_,hS⟩:=hF.st;apply U;exists⟨F.S.st,F.S.dx,_,Y,hS.st,Y,?_⟩;walk_at"ss";show⟨F,cells,gq,m%2,m,k,Y,B,hF,by lia,by rw[h2];lia,k1,k2⟩
theorem xhH(T:Txt w K mg a):yA P w K mg base (As P w) 5 a.q0L a.q1c ["self"] (Uh a):=by
 show T.NR.BB N8 (λvs H Q sQ h=>?_) (λcdv A outer s H vs Q sQ hr h=>?_)
 ·obtain⟨F,cells,gq,k,rfl,_⟩:=h;rfl
 ·show oG λ_ U=>?_;obtain⟨F,cells,gq,k,rfl,B,hm,hF,h2,k1⟩:=h;apply U;have nd:=N8.nd;show⟨_,(xc (xO<|vd ⟨Y,Y,Y⟩ (cv 0) T.xX T.vM (vN T) hr.m T.uD.b .nil (xa xj<|xa xj xb))
  (xg (xO (vd ⟨Y,Y,Y⟩ (cv 0) T.xX T.vM (vN T) hr.m T.uD.b .nil (xa xj (xa xj xb)))))),?_⟩
  have no:∀{H sQ p},BR a H F sQ p:=λz=>by rw[hm]at z;cases z
  show oG λ_ U=>?_;obtain⟨n,_,_,hS⟩:=hF.st;apply U;show⟨F.S.st,F.S.dx,_,Y,hS.st,Y,?_⟩;show⟨F,cells,gq,0,0,k,Y,B,hF,by lia,by rw[h2];lia,λH1 q1 oN=>?_,no⟩;show oG λ_ U=>?_;obtain⟨n1,_,_,oO⟩:=oN.st;apply U;show⟨F.S.st,F.S.dx,_,Y,oO.st,Y,?_⟩;show⟨F,cells,_,1,0,_,Y,B,oN,by lia,by rw[eW,h2];lia,λH2 q2 oK=>?_,no⟩;have e:(gq.set (0:Int).toNat<|E 0).set (1:Int).toNat (E 0)=[E 0,E 0]:=by
   match gq,h2 with
   |[x,sZ],_=>rfl
  rw[e]at oK;show k1 H2 (q1.trans q2) oK
def Of:T.vB.O P w mg base 1 (Xb a):=by
 specialize T.vB.g ["self","fall","pen"]
 ·show oG λ_ U=>?_;obtain⟨S,cells,gq,n,fl,oK,rfl,hS,k⟩:=h;apply U;show⟨_,(xc (xp (i:=2) nd Y (aG Y)<|xv (cv 0) Y)
  (xg (yt (cv 2) (cv 1) Y))),?_⟩
  show⟨S.st,_,S.dx,_,.ref S.p,Y,hS.st,T.xX,T.vK,Y,?_⟩;show⟨S.p,_,S.dp,_,Y,hS.p,T.Ai,T.GX,by walk_at"few",?_⟩;left;show k _ ((Kp.of<|xf.refl _).wr #[8]) ⟨by rw[xl<|aW hS.np];show hS.st,by rw[xl<|aW hS.OC];show hS.ca,by rw[xl<|aW hS.OB];show hS.na,by rw[xk];rfl,hS.ne,hS.np⟩
def Ek(x:V)(xs:List V):wR (x::xs) (E 1) y=xs:=by
 unfold wR;rw[B0 #[6],HT.LU,aT];have e:min (Int.toNat 1) (xs.length+1)=1:=by change min 1 (xs.length+1)=1;lia
 rw[e,List.drop_succ_cons,dQ,bE #[2]]
theorem xhI:T.HP.O P w mg base 1 xhD:=by
 show T.HP.EN ["answer","last"] T.xhs N7 (λvs H Q sQ h=>?_) (λA outer s H vs Q sQ hr h=>?_)
 ·obtain⟨asked,l,ns,rfl,_⟩:=h;rfl
 ·show oG λ_ U=>?_;obtain⟨asked,l,ns,rfl,hl,hT,h1,oY,k⟩:=h;apply U;have nd:=N7.nd;show⟨_,(C1 (x:="answer") (i:=3) nd rfl rfl rfl #[9] (C1 (x:="last") (i:=2) nd rfl rfl rfl #[9] (xc (xC (xA vS (xq xu #[5] T.xW xN<|xa (cv 1) xb) xj) (xg<|xm zT) xw)
  (xc (Lc (i:=2) nd Y Y Y #[9] (xr yp (cv 0)<|xy xU (cv 1) xj λ_ _=>Y))
  (xc (Lc (i:=3) nd Y Y Y #[9] (xT vi #[5] T.jI vD<|xa (yj yC (cv 1) (ya xj) zg) xb))
  (xg (xm (uV (c:=vm) (P:=zG) (qs:=uN) (fns:=["answer","last"]) rfl T.xhr (q:="fall_behind.<locals>.<lambda>") #[9] (.head _) #[9] #[9])))))))),?_⟩
  left;intro f1 e1 z1 d1;show bG z1 ?_;show se (upd H f1 _) λH1 oP=>?_;have s1:=xf.of_eq z1 oP;have c1:H1 f1=E (.tm y):=xM oP;left;intro f2 e2 z2 d2;have oR:f1≠f2:=d2 _ _ e1 #[6];have y2:H1 f2=y:=by rw[<-oP,xl<|aW oR];show z2
  clear oP;show bG y2 ?_;show xK (upd H1 f2 _) rfl y2 λH2 s2 c2=>?_;have oQ:=s1.trans s2;have c1:=s2.at c1;have oV:=oQ.at hl;show⟨l,_,Y,.inl<|kq.of oV,?_⟩;rw[aa];left;cases ns with
  |nil=>
   walk_at"Y";show k .rp H2 oQ (.inl ⟨Y,Y⟩)
  |cons u r=>
   show⟨(λz=>by have:=of_decide_eq_true z;rw[aT]at this;lia),λ_=>?_⟩;show⟨l,_,0,.int u,Y,Y,kq.of oV,yn (j:=0) Y,?_⟩;show⟨f2,e2,c2,?_⟩;show se (upd H2 f2 _) λH3 oO=>?_;have oU:xf H H3:=by rw[<-oO];show oQ.put z2
   have c3:H3 f2=E (.tm<|E (.int<|asked+u)):=xM oO;have oW:H3 f1=E (.tm y):=by rw[<-oO,xl oR];show c1
   clear oO;show⟨1,Y,?_⟩;show⟨l,_,Y,kq.of<|oU.at hl,?_⟩;show λp hp=>xK (upd H3 p _) rfl hp λH4 s4 e4=>?_;rw[ba,Ek]at e4;show⟨p,_,Y,.inl ⟨kq.of e4,?_⟩⟩;show λq hq=>xK (upd H4 q _) rfl hq λH5 s5 e5=>?_;have oN:=s4.trans s5;show⟨f1,e1,oN.at oW,?_⟩;have oX:=oU.trans oN;show se (upd H5 f1 _) λH6 oK=>?_;have oS:xf H H6:=by rw[<-oK];show oX.put z1
   have c6:H6 f1=E (.tm (E<|.ref q)):=xM oK;have o7:H6 f2=E (.tm<|E (.int<|asked+u)):=by rw[<-oK,xl<|aW oR];show oN.at c3
   have oZ:H6 q=E (.tup<|r.map V.int):=by rw[<-oK,xl<|zt e5 (oN.at oW) (by intro z;cases z)];show e5
   clear oK;show⟨oS.at hT,[("answer",.ref q),("last",.int<|asked+u)],rfl,(λx v m=>?_),λg H7 hg s7 hc=>?_⟩
   ·simp only[aB,iG,bR,or_false]at m;rcases m with⟨rfl,rfl⟩|⟨rfl,rfl⟩
    ·show⟨f1,e1,c6⟩
    ·show⟨f2,e2,o7⟩
   left;show k (.ref g) H7 (oS.trans s7) (.inr ⟨Y,g,q,_,r,Y,hc,s7.at oZ,by rw[aT]at h1;lia,λx hx=>oY x<|aw _ hx⟩)
end
section
variable {base:Heap} (T:Txt w K mg a)
def Hn:T.jR.O P w mg base 1 (YA K):=by
 specialize T.jR.g ["self","to"]
 ·show oG λ_ U=>?_;obtain⟨p,C,dx,to,rfl,hp,c,n1,n2,k⟩:=h;apply U;show⟨_,(xc (yt (cv 0) (cv 1) Y)
  (xg (yt (cv 0) xj Y))),?_⟩
  show⟨p,C,dx,_,Y,hp,c,n1,by walk_at"few",?_⟩;show⟨p,C,dx,_,Y,xk,c,n2,by walk_at"few",?_⟩;left;rw[yO];show k
def NA:T.EG.O P w mg base 2 (YR a):=by
 specialize T.EG.g ["self","to","start","count"]
 ·show oG λ_ U=>?_;obtain⟨p,dx,to,st,c,rfl,hp,k⟩:=h;apply U;show⟨_,(xc (xO<|FX #[5] T.Fo T.GV (Hn T) hr.m T.jR.b .nil xn (xa (cv 0)<|xa (cv 1) xb))
  (xc (yt (cv 0) (cv 2) Y)
  (xg (yt (cv 0) (cv 3) Y)))),?_⟩
  show⟨p,_,dx,to,Y,hp,T.xD,T.yy,T.yk,?_⟩;show⟨p,_,dx,_,Y,xk,T.xD,T.xZ,by walk_at"few",?_⟩;show⟨p,_,dx,_,Y,xk,T.xD,T.yk,by walk_at"few",?_⟩;left;rw[yO,yO];show k
def jk:T.uv.O P w mg base 2 (Yz K a):=by
 show T.uv.go NI ?_;intro cdv A outer s H vs Q sQ hr h nd
 ·show oG λ_ U=>?_;obtain⟨p,dx,t,to,xs,rfl,hp,ht,k⟩:=h;apply U;have oK:∀o,rM K (upd H p o) t xs:=λo=>JR ht hp;show⟨_,(xc (xO<|FX #[5] T.Fo T.GV (Hn T) hr.m T.jR.b .nil xn (xa (cv 0)<|xa (cv 1) xb))
  (xc (yt (cv 0) (xT vi #[5] T.jI vD<|xa (cv 2) xb) Y)
  (xg (yt (cv 0) (xq xu #[5] T.xW xN (xa #[11] xb)) Y)))),?_⟩
  show⟨p,_,dx,to,Y,hp,T.yl,T.zi,T.yS,?_⟩;show⟨t,xs,Y,.inr ⟨oK _,?_⟩⟩;show⟨p,_,dx,_,Y,xk,T.yl,T.zz,by walk_at"few",?_⟩;show⟨p,_,dx,_,.ref t,Y,xk,T.yl,T.zz,Y,?_⟩;show⟨t,xs,Y,.inr<|JR (oK _) xk,?_⟩;show⟨p,_,dx,_,Y,xk,T.yl,T.yS,by walk_at"few",?_⟩;left;rw[yO,yO];show k
def zr:T.yW.O P w mg base 1 (Gs K):=by
 specialize T.yW.g ["self"]
 ·show oG λ_ U=>?_;obtain⟨p,C,dx,fs,to,c,rfl,hp,cl,n1,n2,l1,l2,hc,k⟩:=h;apply U;show⟨_,(xg<|xm (xT (jo Y) #[5] T.AW jF<|xa (EB #[5] T.uR (xa #[11]<|xa (xr yp #[11]<|xv (cv 0) Y) xb)) xb)),?_⟩;show⟨p,C,dx,fs,_,Y,hp,cl,n1,l1,?_⟩;show⟨p,C,dx,fs,_,Y,hp,cl,n1,l1,?_⟩;exists⟨p,C,dx,fs,_,Y,hp,cl,n2,l2,?_⟩;intro r oK;left;have e:zM to (to+c) 1=c.toNat:=by rw[uZ];congr 1;lia
  show⟨r,to,to+c,Y,xk,by rw[e];show hc,λl hl=>?_⟩;rw[e,Ef];have oN:H l=y:=xf.free (xf.new oK) hl;show k l _ ((xf.new oK).put oN) oN xk
def vo:T.ua.O P w mg base 1 (Ui a):=by
 specialize T.ua.g ["self"]
 ·show oG λ_ U=>?_;obtain⟨p,dx,to,st,c,rfl,hp,k⟩:=h;apply U;show⟨_,(xg<|xm (yQ vS #[11]<|xv (cv 0) Y)),?_⟩;show⟨p,_,dx,_,.int st,Y,hp,T.xD,T.xZ,Y,?_⟩;show⟨p,_,dx,_,.int to,Y,hp,T.xD,T.yy,Y,?_⟩;show k
def Nq:T.Ew.O P w mg base 1 Yy:=by
 specialize T.Ew.g ["value"]
 ·show oG λ_ U=>?_;obtain⟨i,rfl,q⟩:=h;apply U;show⟨_,(xg<|xm (zX (xq zY #[5] T.yB yq (xa (cv 0)<|xa (B8 (v:=.ty "int") #[5] T.Bi Bm rfl) xb))<|um (QZ<|xq zY #[5] T.yB yq (xa (cv 0)<|xa (B8 (v:=.ty "bool") #[5] T.Qd SQ rfl) xb)))),?_⟩;show⟨_,_,_,_,sX,Y,Y,uf.int _,Y,?_⟩;walk_at"Y";show⟨_,_,_,_,sJ,Y,Y,uf.int _,Y,?_⟩;show q
def uc:T.zd.O P w mg base 2 xfG:=by
 specialize T.zd.g ["least","value"]
 ·show oG λ_ U=>?_;obtain⟨l,i,rfl,q⟩:=h;apply U;show⟨_,(xg<|xm (zX (xo (Nq T) hr.m T.MW T.Ew xn<|xa (cv 1) xb)<|um (yQ Cn (cv 1)<|cv 0))),?_⟩;show⟨i,Y,?_⟩;show⟨λ_=>q,by walk_at"no"⟩
def W9:T.GS.O P w mg base 2 Xd:=by
 specialize T.GS.g ["value"]
 ·show oG λ_ U=>?_;obtain⟨i,rfl,hi,q⟩:=h;apply U;show⟨_,(xg<|xm (zX (xo (Nq T) hr.m T.MW T.Ew xn<|xa (cv 0) xb)<|um (yQ wZ (xq Qv #[5] T.QK QX<|xa (cv 0) xb)<|xr CD xj xj))),?_⟩;show⟨i,Y,?_⟩;walk_at"Y";show⟨⟨by decide,by decide,by decide⟩,?_⟩;left;change Q (.bl<|decide ((i.natAbs:Int)<10^(60:Int).toNat)) H;have e:decide ((i.natAbs:Int)<10^(60:Int).toNat)=sX:=decide_eq_true hi;rw[e];show q
theorem YK:T.Hd.O P w mg base 3 (YQ K):=by
 specialize T.Hd.g ["signs"]
 ·show oG λ_ U=>?_;obtain⟨u,sg,rfl,hu,oO,hlen,hs,q⟩:=h;apply U;show⟨_,(xg (xm<|zX (xq zY #[5] T.yB yq (xa (cv 0)<|xa (B8 (v:=.ty "tuple") #[5] T.jI vD rfl) xb)) (zX (yQ Af (xq xu #[5] T.xW xN<|xa (cv 0) xb) xj)<|um (xq (MM Y) #[5] T.Jk Ka<|xa (yv #[4] Y (D0<|cv 0) (λ_ _ _ _=>(xo (W9 T) hr.m T.Vu T.GS xn<|xa (cv 0) xb)) λ_ _ _ _=>yo) xb)))),?_⟩;show⟨_,_,_,_,sX,Y,Y,uf.tup hu,Y,?_⟩;walk_at"Y";exists⟨u,_,Y,.inr<|rM.of hu,?_⟩;have oN:0<sg.length:=cb.mpr oO;show⟨λ_=>?_,λz=>by have:=of_decide_eq_false z;rw[aa]at this;lia⟩;show⟨u,Y,⟨_,rM.of hu⟩,?_⟩;show GF (λi acc _=>acc=a7 i (V.bl sX)) (rM.of hu) (by rw[aa,ak];lia) rfl (λi x acc H3 sI hx s3 oK hp R hR=>?_) (λD acc H3 sI hD oP s3 oK hp hl hv=>?_)
  ·rw[av]at hx;cases hy:sg[i]? with
   |none=>rw[hy]at hx;cases hx
   |some sZ=>
    rw[hy]at hx;cases hx;show⟨sZ,Y,hs sZ<|aj hy,hR _ _ (xf.refl _) λH6 _ _=>?_⟩;rw[hp,nj]
  ·show⟨D,a7 sg.length sX,Y,kq.of ?_,?_⟩
   ·rw[hv,hp,aa,kT]
   ·left;change Q (.bl<|(a7 sg.length sX).all id) sI;have e:(a7 sg.length sX).all id=sX:=by simp
    rw[e];show q _ (s3.trans oK)
theorem ZF:T.HE.O P w mg base 3 (ZM K):=by
 specialize T.HE.g ["told"]
 ·show oG λ_ U=>?_;obtain⟨t,r,rfl,ht,hk,q⟩:=h;apply U;show⟨_,(xc (xC (PW.pt (vy (zK (yb<|xq zY #[5] T.yB yq (xa (cv 0)<|xa (B8 (v:=.ty "tuple") #[5] T.jI vD rfl) xb)))<|vy (xA CC (xq xu #[5] T.xW xN<|xa (cv 0) xb) xj) (jf<|xA Ak #[15] xF))) (xg<|xm yG) xw)
  (xg (xm (zX (xo (uc T) hr.m T.uw T.zd xn (xa xj (xa (xy xG (cv 0) xj (λ_ _=>Y)) xb))) (zX (xo (uc T) hr.m T.uw T.zd xn (xa xj (xa (xy xG (cv 0) xj (λ_ _=>Y)) xb))) (um (xo (uc T) hr.m T.uw T.zd xn (xa xj (xa (xy xG (cv 0) xj (λ_ _=>Y)) xb))))))))),?_⟩
  cases r with
  |put to sg=>
   show oG λ_ U=>?_;obtain⟨u,h1,h2⟩:=ht;apply U;show⟨_,_,_,_,sX,Y,Y,uf.tup h1,Y,?_⟩;walk_at"N";show⟨t,_,Y,.inr<|rM.of h1,?_⟩;walk_at"Y";show⟨λ_=>q,by walk_at"no"⟩
  |take to st c=>
   show⟨_,_,_,_,sX,Y,Y,uf.tup ht,Y,?_⟩;walk_at"N";show⟨t,_,Y,.inr<|rM.of ht,?_⟩;walk_at"N";show⟨t,_,_,.str "take",rfl,rfl,rM.of ht,rfl,?_⟩;walk_at"n";show oG λ_ U=>?_;obtain⟨k1,k2,k3⟩:=hk;apply U;show⟨t,_,_,.int to,Y,Y,rM.of ht,Y,?_⟩;show⟨_,_,Y,?_⟩;show⟨λ_=>?_,λz=>absurd k1<|of_decide_eq_false z⟩;show⟨t,_,_,.int st,Y,Y,rM.of ht,Y,?_⟩;show⟨_,_,Y,?_⟩;show⟨λ_=>?_,λz=>absurd k2<|of_decide_eq_false z⟩;show⟨t,_,_,.int c,Y,Y,rM.of ht,Y,?_⟩;exists⟨_,_,Y,?_⟩;rw[decide_eq_true k3];show q
def YJ:T.He.O P w mg base 4 (YO K):=by
 specialize T.He.g ["told"]
 ·show oG λ_ U=>?_;obtain⟨t,to,sg,rfl,⟨u,h1,h2⟩,⟨k1,k2,k3,k4⟩,q⟩:=h;apply U;show⟨_,(xc (xC (PW.pt (vy (zK (yb<|xq zY #[5] T.yB yq (xa (cv 0)<|xa (B8 (v:=.ty "tuple") #[5] T.jI vD rfl) xb)))<|vy (xA CC (xq xu #[5] T.xW xN<|xa (cv 0) xb) xj) (jf<|xA Ak #[15] xF))) (xg<|xm yG) xw)
  (xg (xm (zX (xo (uc T) hr.m T.uw T.zd xn (xa xj (xa (xy xG (cv 0) xj (λ_ _=>Y)) xb))) (um (xo (YK T) hr.m T.XZ T.Hd xn (xa (xy xG (cv 0) xj (λ_ _=>Y)) xb))))))),?_⟩
  show⟨_,_,_,_,sX,Y,Y,uf.tup h1,Y,?_⟩;walk_at"N";show⟨t,_,Y,.inr<|rM.of h1,?_⟩;walk_at"N";show⟨t,_,_,.str "put",rfl,rfl,rM.of h1,rfl,?_⟩;walk_at"N";show⟨t,_,_,.int to,Y,Y,rM.of h1,Y,?_⟩;show⟨_,_,Y,?_⟩;show⟨λ_=>?_,λz=>absurd k1<|of_decide_eq_false z⟩;show⟨t,_,_,.ref u,Y,Y,rM.of h1,Y,?_⟩;show⟨u,sg,Y,h2,k2,k3,k4,q⟩
theorem uY:T.uB.O P w mg base 5 (CY K a):=by
 specialize T.uB.g ["told"]
 ·show oG λ_ U=>?_;obtain⟨t,r,rfl,ht,hk,q⟩:=h;apply U;show⟨_,(xc (xC (yb (xo (ZF T) hr.m T.Zt T.HE xn<|xa (cv 0) xb)) (xg<|xm (jD T.Kw (NA T) hr.m #[5] T.Bu T.EG.b .nil xn<|xa #[15] (xa #[15]<|xa #[15] xb))) xw)
  (xc (xC (yb (xo (YJ T) hr.m T.X0 T.He xn<|xa (cv 0) xb)) (xg (xm<|jD T.DT (jk T) hr.m #[5] T.Cv T.uv.b .nil xn (xa #[15]<|xa #[15] xb))) xw)
  (xg vp))),?_⟩
  show⟨t,r,Y,ht,hk,?_⟩;cases r with
  |take to st c=>
   walk_at"Y";show⟨t,_,_,.int to,Y,Y,rM.of ht,Y,?_⟩;show⟨t,_,_,.int st,Y,Y,rM.of ht,Y,?_⟩;exists⟨t,_,_,.int c,Y,Y,rM.of ht,Y,?_⟩;intro x dx hx oP oO;show se (upd H dx<|.own x) λH3 hU=>?_;have oK:=xf.of_eq oP hU;have oN:H3 x=y:=by rw[<-hU,xl<|aW oO];show hx
   show⟨x,dx,_,_,_,Y,xk,?_⟩;rw[yO];show⟨Y,q x _ (oK.trans<|xf.new oN) hx ⟨dx,xk⟩⟩
  |put to sg=>
   walk_at"N";exists⟨t,to,sg,Y,ht,hk,λH2 s2=>?_⟩;show oG λ_ U=>?_;obtain⟨u,h1,h2⟩:=ht;apply U;walk_at"Y";show⟨t,_,_,.int to,Y,Y,rM.of<|s2.at h1,Y,?_⟩;exists⟨t,_,_,.ref u,Y,Y,rM.of<|s2.at h1,Y,?_⟩;intro x dx hx oP oO;show se (upd H2 dx<|.own x) λH3 hU=>?_;have oK:=xf.of_eq oP hU;have oN:H3 x=y:=by rw[<-hU,xl<|aW oO];show hx
   show⟨x,dx,u,_,_,Y,xk,(oK.trans<|xf.new oN).tP (rM.of<|s2.at h2),?_⟩;rw[yO];show⟨Y,q x _ (s2.trans (oK.trans<|xf.new oN)) (s2.back hx) ⟨dx,u,?_,(s2.trans (oK.trans<|xf.new oN)).at h2⟩⟩;rw[xk,aa]
theorem ZE:T.HF.O P w mg base 2 (Gu a):=by
 specialize T.HF.g ["self"]
 ·show oG λ_ U=>?_;obtain⟨p,dx,t,to,n,rfl,hp,hn,k⟩:=h;apply U;show⟨_,(xg<|xm (yf<|xa (xJ (cv 0) T.yl T.vW (zr T) hr.m T.yW.b .nil xn) xb)),?_⟩;show⟨p,dx,_,Y,hp,Y,?_⟩;show⟨p,_,dx,_,to,n,Y,hp,T.yl,T.zi,T.yS,Y,Y,by lia,λl H1 s1 hl e1=>?_⟩;right;intro D hD;have oK:=s1.back hD;show k D [l] _ (s1.put oK) ⟨xk,?_,Y,λi b xs h1 h2=>?_,oK,λb hb=>?_⟩
  ·have:D≠l:=λz=>by rw[z,e1]at hD;cases hD
   simpa using this
  ·cases i with
   |zero=>
    simp at h1 h2;subst h1 h2;rw[xl<|xH e1 hD];show e1
   |succ i=>simp at h1
  ·rw[ai.mp hb];show hl
def xhJ:T.HU.O P w mg base 2 (Gv a):=by
 specialize T.HU.g ["self","first","end","step"]
 ·show oG λ_ U=>?_;obtain⟨p,dx,to,st,c,rfl,hp,oP,oR,hd,k⟩:=h;apply U;show⟨_,(xc (xC (yb<|xJ (cv 0) T.xD T.vn (vo T) hr.m T.ua.b .nil xn) (xg (xm<|yf xb)) xw)
  (xc (xp (i:=1) nd Y (dP Y)<|xv (cv 0) Y)
  (xc (xp (i:=2) nd Y (dP Y) (xr yp #[11]<|xv (cv 0) Y))
  (xc (xC (xA wZ #[11]<|xv (cv 0) Y) (xc (xp (i:=3) nd Y (dP Y) (xr jN #[11]<|xv (cv 0) Y))
  (xg (xm (yv (yu (cap:=[2,3]) (ys:=["end","step"]) rfl rfl rfl rfl rfl ⟨⟨Y,Y,.inl Y⟩,⟨⟨Y,Y,.inl Y⟩,trivial⟩⟩ #[18]) rfl (MS #[5] T.uR (xa (cv 1) (xa (cv 2) (xa (cv 3) xb)))) (λ_ _ _ _=>(xT (jo Y) #[5] T.AW jF (xa (EB #[5] T.uR (xa (cv 0) (xa (xq (FC Y) #[5] T.Bh Bn (xa (xr yp (cv 0) (cv 2)) (xa (cv 1) xb))) xb))) xb))) (λ_ _ _ _=>yo))))) xw)
  (xc (xp (i:=3) nd Y (dP Y) (xr jN #[11]<|xv (cv 0) Y))
  (xg (xm (yv (yu (cap:=[1,3]) (ys:=["first","step"]) rfl rfl rfl rfl rfl ⟨⟨Y,Y,.inl Y⟩,⟨⟨Y,Y,.inl Y⟩,trivial⟩⟩ #[18]) rfl (MS #[5] T.uR (xa (cv 2) (xa (cv 1) (xa (Fp Ft (cv 3)) xb)))) (λ_ _ _ _=>(xT (jo Y) #[5] T.AW jF (xa (EB #[5] T.uR (xa (xq (B1 Y) #[5] T.AQ Bo (xa (xr jN (cv 0) (cv 2)) (xa (cv 1) xb))) (xa (cv 0) xb))) xb))) (λ_ _ _ _=>yo))))))))),?_⟩
  show⟨p,dx,_,Y,hp,Y,?_⟩;show⟨p,dx,to,st,c,Y,hp,?_⟩;show⟨λe=>?_,λe=>?_⟩
  ·have e':st=to:=of_decide_eq_true e;right;intro l hl;show k l [] _ (xf.new hl) ?_;rw[yL,if_pos e'];show zE.nil (H':=H) hl xk
  ·have e':¬st=to:=of_decide_eq_false e;show⟨p,_,dx,_,.int to,Y,hp,T.xD,T.yy,Y,?_⟩;show⟨p,_,dx,_,.int to,Y,hp,T.xD,T.yy,Y,?_⟩;show⟨p,_,dx,_,.int c,Y,hp,T.xD,T.yk,Y,?_⟩;show⟨p,_,dx,_,.int to,Y,hp,T.xD,T.yy,Y,?_⟩;show⟨p,_,dx,_,.int st,Y,hp,T.xD,T.xZ,Y,?_⟩;show⟨λe2=>?_,λe2=>?_⟩
   ·have e3:to<st:=of_decide_eq_true e2;show⟨p,_,dx,_,.int st,Y,hp,T.xD,T.xZ,Y,?_⟩;exists⟨p,_,dx,_,.int to,Y,hp,T.xD,T.yy,Y,?_⟩;show bG (JQ #[2] hd) ?_;left;obtain⟨d,oN⟩:∃d:Nat,st - to=(d:Int):=⟨(st - to).toNat,by lia⟩;have oO:0<d:=by lia
    rw[oN,R5 to c d oP oO];show Hs (C3 to d c.toNat) (aQ ?_ (show 1000<=aK by decide)) (λi H3 hi s3 R hR=>?_) (λD H2 as s2 L=>?_)
    ·have:=Ed (C3 to d) d c.toNat oO;unfold Ap at this;rw[aa,ef]at this;lia
    ·left;exists λr hr=>xK (upd H3 r _) rfl hr λH4 oK er=>?_;have ep:(i:Int)*(d:Int)=((i*d:Nat):Int):=by rw[Int.natCast_mul]
     have el:zM (to+((i*d:Nat):Int)) (min (to+((i*d:Nat):Int)+(st - to))<|to+c) 1=min d (c.toNat - i*d):=by
      rw[uZ];show Qb oN oP (Lq oO hi)
     rw[ep]at er;show⟨r,_,_,Y,er,by rw[el];lia,λl hl=>?_⟩;rw[el,Ef];show hR l _ (oK.put<|oK.back hl) (oK.back hl) xk
    ·show k D as H2 s2 ?_;rw[yL,if_neg e',if_pos e3,oN];show L
   ·have e3:¬to<st:=of_decide_eq_false e2;show⟨p,_,dx,_,.int to,Y,hp,T.xD,T.yy,Y,?_⟩;exists⟨p,_,dx,_,.int st,Y,hp,T.xD,T.xZ,Y,?_⟩;show bG (JQ #[2] #[2]) ?_;left;obtain⟨d,oN⟩:∃d:Nat,to - st=(d:Int):=⟨(to - st).toNat,by lia⟩;have oO:0<d:=by lia
    rw[oN,VT to c d oP oO];show Hs (Ci (to+c) d c.toNat) (aQ ?_ (show 1000<=aK by decide)) (λi H3 hi s3 R hR=>?_) (λD H2 as s2 L=>?_)
    ·have:=Ed (Ci (to+c) d) d c.toNat oO;unfold Ap at this;rw[aa,ef]at this;lia
    ·left;exists λr hr=>xK (upd H3 r _) rfl hr λH4 oK er=>?_;have ep:(i:Int)* -(d:Int)= -((i*d:Nat):Int):=by rw[Int.mul_neg,Int.natCast_mul]
     have oQ:i*d<=c.toNat:=Lq oO hi;have lo:=R4 oN oP oQ;have el:zM (max (to+c+ -((i*d:Nat):Int) - (to - st)) to) (to+c+ -((i*d:Nat):Int)) 1=min d (c.toNat - i*d):=by
      rw[uZ,lo,Int.sub_sub_self];rfl
     rw[ep]at er;show⟨r,_,_,Y,er,by rw[el];lia,λl hl=>?_⟩;rw[el,Ef];show hR l _ (oK.put<|oK.back hl) (oK.back hl) ?_;rw[xk];unfold Ci;have e5:max (to+c+ -((i*d:Nat):Int) - (to - st)) to=to+c - ((min ((i+1)*d) c.toNat:Nat):Int):=by
      have e6:min (i*d+d) c.toNat=i*d+min d (c.toNat - i*d):=by rw[<-kf,Nat.add_sub_cancel' oQ]
      rw[lo,g7,e6,Int.natCast_add,<-Int.sub_sub,<-Int.sub_eq_add_neg]
     rw[e5]
    ·show k D as H2 s2 ?_;rw[yL,if_neg e',if_neg e3,oN];show L
def Sr:xh->Prop
 | .take to st c=>to<=300/\st<=300/\c<=300
 | .put to sg=>to<=300/\sg.length<=300
theorem TupAt.off{o:HO}(h:TupAt K H t r)(hp:H p=E (.lst xs)):TupAt K (upd H p o) t r:=by
 have ne:∀{q:sK} {ys:List V},H q=E (.tup ys)->upd H p o q=E (.tup ys):=λ{q ys} e=>by
  rw[xl (λz=>by rw[z,hp]at e;cases e)];show e
 cases r with
 |take to st c=>show ne h
 |put to sg=>obtain⟨u,h1,h2⟩:=h;show⟨u,ne h1,ne h2⟩
theorem yT{α β:Type}{F:α->β->Prop}{x:α}{sZ:β}:∀{l₁:List α} {l₂:List β},Paired F l₁ l₂->F x sZ->Paired F (l₁++[x]) (l₂++[sZ])
 |_,_,.nil,h=>.cons h .nil
 |_,_,.cons r t,h=>.cons r (yT t h)
def IG(old new:Int):xh->Prop
 | .take to st c=>st+c<=old/\to+c<=new
 | .put to sg=>to+sg.length<=new
theorem Paired.An{α β:Type}{F:α->β->Prop}:∀{l₁:List α} {l₂:List β} {i:Nat} {x:α},Paired F l₁ l₂->l₁[i]? =E x->∃sZ,l₂[i]? =E sZ/\F x sZ
 |_,_,_,_,.nil,e=>by simp at e
 |_,_,0,_,.cons r _,e=>by simp at e;subst e;show⟨_,Y,r⟩
 |_,_,i+1,_,.cons _ t,e=>by
  obtain⟨sZ,h1,h2⟩:=Paired.An (i:=i) t (by simpa using e);show⟨sZ,by simpa using h1,h2⟩
def Paired.mem{F:α->β->Prop}{x:α}(h:Paired F l₁ l₂)(hx:x∈l₁):∃sZ∈l₂,F x sZ:=by
 obtain⟨i,hi⟩:=bU.mp hx;obtain⟨sZ,h1,h2⟩:=Paired.An h hi;show⟨sZ,aj h1,h2⟩
def GT(K:ax)(H:Hp)(u:sK)(r:xh):Prop:=TupAt K H u r/\r.ok/\Sr r
noncomputable def uS:xh->List (List Int)
 | .take to st c=>yL to st c
 | .put to sg=>[yz to sg.length]
theorem Np(hk:r.ok)(hs:Sr r):(uS r).length<=300:=by
 cases r with
 |take to st c=>
  obtain⟨k1,k2,k3⟩:=hk;obtain⟨s1,s2,s3⟩:=hs;change(yL to st c).length<=300;unfold yL
  split
  ·simp
  ·split
   ·have:=Ed (C3 to (st - to).toNat) (st - to).toNat c.toNat #[2];lia
   ·have:=Ed (Ci (to+c) (to - st).toNat) (to - st).toNat c.toNat #[2];lia
 |put to sg=>change 1<=300;lia
def zR(K:ax)(H0:Hp)(tl:sK)(G:Hp)(u:sK)(x:xh×List Int):Prop:=∃t c:sK,(c≠tl/\H0 c=y)/\G u=E (.tup [.ref t,.ref c])/\TupAt K G t x.1/\G c=E (.lst<|x.2.map V.int)
def zR.same{u:sK}{x:xh×List Int}(h:zR K H0 tl G u x)(s:xf G G'):zR K H0 tl G' u x:=by
 obtain⟨t,c,h1,h2,h3,h4⟩:=h;show⟨t,c,h1,s.at h2,h3.same s,s.at h4⟩
def zR.off{u:sK}{x:xh×List Int}{o:HO}(h:zR K H0 tl G u x)(hp:G tl=E (.lst xs)):zR K H0 tl (upd G tl o) u x:=by
 obtain⟨t,c,h1,h2,h3,h4⟩:=h;show⟨t,c,h1,by rw[xl (λz=>by rw[z,hp]at h2;cases h2)];show h2,h3.off hp,by rw[xl h1.1];show h4⟩
noncomputable def yi(rs:List xh):List (xh×List Int):=rs.flatMap λr=>(uS r).map λc=>(r,c)
theorem zI{α β:Type}{F:α->β->Prop}:∀{l₁ Dh:List α} {l₂ Dg:List β},Paired F l₁ l₂->Paired F Dh Dg->Paired F (l₁++Dh) (l₂++Dg)
 |_,_,_,_,.nil,h=>h
 |_,_,_,_,.cons r t,h=>.cons r (zI t h)
def YI(K:ax):Sp:=λvs H Q _=>tW λ(p tt:sK) (o n:V) (us:List sK) (rs:List xh)=>tY (vs=[.ref p]) (H p=E (.tup [o,n,.ref tt])) (H tt=E (.tup<|us.map V.ref)) (Paired (GT K H) us rs) (us.length<=300) (∀(l:sK) (ws:List sK) (H':Hp),xf H H'->H l=y->H' l=E (.lst<|ws.map V.ref)->Paired (zR K H l H') ws (yi rs)->Q (.ref l) H')
def GT.same{u:sK}(h:GT K H u r)(s:xf H H'):GT K H' u r:=⟨h.1.same s,h.2⟩
theorem Lo{H0:Hp}{tl:sK}{L G:Hp}{l t:sK}{rR:List (List Int)}{r:xh}(s0:xf H0 L0)(hL:zE L0 L l as rR)(sL:xf L G)(hT:TupAt K G t r)(oK:L0 tl≠y):∀{ws:List sK} {i:Nat},Paired (λw a=>G w=E (.tup [.ref t,.ref a])) ws (as.drop i)->Paired (zR K H0 tl G) ws ((rR.drop i).map λc=>(r,c))
 |ws,i,h=>by
  have hlen:=hL.len
  by_cases hi:i<as.length
  ·have e1:as.drop i=as[i]::as.drop (i+1):=cP hi;have oN:i<rR.length:=by lia
   have e2:rR.drop i=rR[i]::rR.drop (i+1):=cP oN;rw[e1]at h;rw[e2,ba];cases h with
   |cons h1 h2=>
    have oO:=hL.tw _<|cF hi;show .cons ⟨t,as[i],⟨λz=>oK (by rw[<-z];show oO),s0.back oO⟩,h1,hT,sL.at (hL.each i _ _ (au hi)<|au oN)⟩ (Lo s0 hL sL hT oK h2)
  ·rw[c8 #[2]]at h;rw[c8 #[2]];cases h;show .nil
 termination_by _ i=>as.length - i
theorem W8(T:Txt w K mg a)(hT:GT K H t r)
  (k:∀l as H1 H2,xf H H1->xf H1 H2->zE H1 H2 l as (uS r)->Q (.ref l) H2) (tU:autoParam (σ[i]? =E (E<|.ref t)) rJ):
  zl a.q0b "pieces" (Gu a) [] E0 (Bj (CY K a) [] E0<|Cz (zv i) vx) vx σ H Q\/zl a.q0a "pieces" (Gv a) [] E0 (Bj (CY K a) [] E0<|Cz (zv i) vx) vx σ H Q:=by
 obtain⟨hT,hk,hs⟩:=hT;have go:∀{R:VK},CY K a [.ref t] H R E0->Bj (CY K a) [] E0 (Cz (zv i) vx) σ H R:=λh=>by
  unfold Bj Cz vx zv;rw[tU];show h
 cases r with
 |put to sg=>
  apply Or.inl
  unfold zl;show go ⟨t,_,Y,hT,hk,λo H1 s1 ho oK=>?_⟩;obtain⟨dx,u,h1,h2⟩:=oK;have h9:sg.length<=300:=hs.2;show⟨o,dx,_,Y,h1,Y,?_⟩;change Gu a [.ref o] H1 Q E0;show⟨o,dx,u,to,sg.length,Y,h1,by lia,λl as H2 s2 L=>k l as H1 H2 s1 s2 ?_⟩;rw[show((sg.length:Int)).toNat=sg.length by lia]at L;show L
 |take to st c=>
  apply Or.inr
  unfold zl;show go ⟨t,_,Y,hT,hk,λo H1 s1 ho oK=>?_⟩;obtain⟨dx,h1⟩:=oK;obtain⟨k1,k2,k3⟩:=hk;obtain⟨oP,oO,oN⟩:=hs;show⟨o,dx,_,Y,h1,Y,?_⟩;change Gv a [.ref o] H1 Q E0;have hb:(st - to).natAbs<2^200:=dv (show(st - to).natAbs<=1000 by lia) #[6];show⟨o,dx,to,st,c,Y,h1,k3,by lia,hb,λl as H2 s2 L=>k l as H1 H2 s1 s2 L⟩
def YH:T.Hc.O P w mg base 6 (YI K):=by
 specialize T.Hc.g ["paper","pieces","told"]
 ·show oG λ_ U=>?_;obtain⟨p,tt,o,n,us,rs,rfl,hp,ht,oV,ph,q⟩:=h;apply U;show⟨_,(xc (xp (i:=1) nd Y (aG Y)<|yf xb)
  (xc (zc PassesOwn.never Y (D0<|xy xG (cv 0) xj λ_ _=>Y) (yc (i:=2) nd Y<|dP Y) (xg<|xO (yN PySem.F.plainAttrs_list PySem.F.slot_list_extend PySem.F.type_list_extend GK (cv 1)<|xa (yv (yu (cap:=[2]) (ys:=["told"]) rfl rfl rfl rfl rfl ⟨⟨Y,Y,.inl Y⟩,trivial⟩ #[18]) rfl (xS (jM (xJ (xo (uY T) hr.m T.vI T.uB xn<|xa (cv 2) xb) T.yl T.ZR (ZE T) hr.m T.HF.b .nil xn)<|xJ (xo (uY T) hr.m T.vI T.uB xn<|xa (cv 2) xb) T.xD T.Z9 (xhJ T) hr.m T.HU.b .nil xn)) (λ_ _ _ _=>(zp (xa (cv 1)<|xa (cv 0) xb))) λ_ _ _ _=>yo) xb)))
  (xg (xm (cv 1))))),?_⟩
  right;show λpl oU=>xK (upd H pl _) rfl oU λH1 oR pe=>?_;show⟨p,_,_,.ref tt,Y,Y,rM.of<|oR.at hp,Y,?_⟩;exists⟨tt,Y,⟨_,rM.of<|oR.at ht⟩,?_⟩;show Wu (xs:=us.map V.ref) (λi σ G=>xf H G/\∃(ws:List sK) (x2:Option V),σ=[E<|.ref p,E<|.ref pl,x2]/\G pl=E (.lst<|ws.map V.ref)/\Paired (zR K H pl G) ws (yi<|rs.take i)/\ws.length<=300*i)
   ⟨oR,[],_,Y,pe,.nil,by simp⟩ (λi σ G hi hP=>rM.of<|hP.1.at ht) (λi x σ G hx hP=>?_) (λσ G hP=>?_)
  ·show oG λ_ U=>?_;obtain⟨sG,ws,x2,rfl,oK,oQ,o7⟩:=hP;apply U;rw[av]at hx;show oG λ_ U=>?_;obtain⟨t,oW,rfl⟩:=aI.mp hx;apply U;have hi:i<us.length:=(aE.mp oW).1;show oG λ_ U=>?_;obtain⟨r,o8,hT⟩:=Paired.An oV oW;apply U;have oZ:=hT.same sG;exists⟨.inl ⟨Y,_,kq.of oK⟩,?_⟩;have oX:=Np hT.2.1 hT.2.2;show W8 (K:=K) T oZ λL as G1 G2 s1 s2 hL=>?_;show⟨L,Y,⟨_,kq.of hL.top⟩,?_⟩;have pj:as.length=(uS r).length:=hL.len;show yV (λi acc G=>∃oO:List sK,acc=oO.map V.ref/\Paired (λw a=>G w=E (.tup [.ref t,.ref a])) oO (as.take i)) (kq.of hL.top) (by rw[aa,ak];lia) ⟨[],Y,by rw[kC];show .nil⟩ (λj x acc H3 sI hx s3 pf hP R hR=>?_) (λD acc H9 A8 hD pk s9 oS hP o9 hv=>?_)
   ·show oG λ_ U=>?_;obtain⟨oO,rfl,oN⟩:=hP;apply U;rw[av]at hx;show oG λ_ U=>?_;obtain⟨c,hc,rfl⟩:=aI.mp hx;exists U ?_;walk_at"ss";intro w hw;show hR _ _ (xf.new hw) λH6 sx kx=>⟨oO++[w],by simp,?_⟩;rw[bh,hc];show yT (L2.Paired.imp' (λ_ _ (z:H3 _=E _)=>sx.at z) oN) (kx w _ (.inl hw) xk)
   ·show oG λ_ U=>?_;obtain⟨oO,rfl,oN⟩:=hP;apply U;rw[aa,bo]at oN;rw[aa,aa]at o9;have sB:xf G A8:=s1.trans (s2.trans<|s9.trans oS);have oP:=sB.at oK;have pd:TupAt K A8 t r:=oZ.1.same sB;have oY:=Lo (K:=K) (H0:=H) (tl:=pl) (G:=A8) (sG.trans s1) hL (s9.trans oS) pd (by rw[s1.at oK];show λz=>by cases z) (ws:=oO) (i:=0) (by rw[dQ];show L2.Paired.imp' (λ_ _ (z:H9 _=E _)=>oS.at z) oN);rw[dQ]at oY;show⟨pl,D,_,_,Y,Y,oP,hv,by rw[aa,aa,ak];lia,?_⟩;show se (upd A8 pl _) λG6 hU=>?_;show⟨xf.wr (sG.trans sB) oU hU,ws++oO,_,Y,?_,?_,?_⟩
    ·rw[<-hU,xk,aO]
    ·have e:yi (rs.take<|i+1)=yi (rs.take i)++(uS r).map λc=>(r,c):=by
      unfold yi;rw[bh,o8,km];simp
     rw[e,<-hU];show zI (L2.Paired.imp' (λ_ _ (z:zR K H pl G _ _)=>(z.same sB).off oP) oQ) (L2.Paired.imp' (λ_ _ (z:zR K H pl A8 _ _)=>z.off oP) oY)
    ·rw[ao];lia
  ·show oG λ_ U=>?_;obtain⟨sG,ws,x2,rfl,oK,oQ,o7⟩:=hP;exists U ?_;have e:rs.take (us.map V.ref).length=rs:=by rw[aa,oV.length,bo]
   rw[e]at oQ;show q pl ws G sG oU oK oQ
def W7(a:rP):Sp:=λvs H Q _=>tW λ(p dx:sK) (to st c cell:Int)=>tG (vs=[.ref p,.int cell]) (H p=E (.ins a.q0a dx<|Ax to st c)) (Q (.int<|st+cell - to) H)
def Oj:T.uC.O P w mg base 1 (W7 a):=by
 specialize T.uC.g ["self","cell"]
 ·show oG λ_ U=>?_;obtain⟨p,dx,to,st,c,cell,rfl,hp,k⟩:=h;apply U;show⟨_,(xg<|xm (xr jN (xr yp #[11]<|cv 1)<|xv (cv 0) Y)),?_⟩;show⟨p,_,dx,_,.int st,Y,hp,T.xD,T.xZ,Y,?_⟩;show⟨p,_,dx,_,.int to,Y,hp,T.xD,T.yy,Y,?_⟩;show k
noncomputable def AZ(r:xh)(c:Int):List Int:=match r with
 | .take to st _=>[st+c - to,c]
 | .put _ _=>[c]
noncomputable def zC(r:xh)(cs:List Int):List Int:=cs.flatMap (AZ r)
def Nz{d:Int}(h:cs[i]? =E d):zC r (cs.take<|i+1)=zC r (cs.take i)++AZ r d:=by
 unfold zC;rw[bh,h,km];simp
theorem Hm(r:xh):∀cs:List Int,(zC r cs).length<=2*cs.length
 |[]=>by simp[zC]
 |c::cs=>by
  have:=Hm r cs;have h2:(AZ r c).length<=2:=by cases r<;> simp[AZ]
  simp only[zC,List.flatMap_cons,ao,aT]at this⊢;lia
def VR(K:ax)(a:rP):Sp:=λvs H Q _=>tS λ(o cl:sK) (r:xh) (cs:List Int)=>tF (vs=[.ref o,.ref cl]) (xE K a H o r) (H cl=E (.lst<|cs.map V.int)) (cs.length<=300) (Ae H Q<|zC r cs)
theorem xfH:T.jU.O P w mg base 2 (VR K a):=by
 specialize T.jU.g ["row","cells","places","cell"]
 ·show oG λ_ U=>?_;obtain⟨o,cl,r,cs,rfl,ho,oR,hn,q⟩:=h;apply U;show⟨_,(xc (xp (i:=2) nd Y (aG Y)<|yf xb)
  (xc (zc PassesOwn.never Y (xS<|cv 1) (yc (i:=3) nd Y<|aG Y) (xc (jO<|xC (yb<|xq zY #[5] T.yB yq (xa (cv 0)<|xa (zf (v:=.ref a.q0a) #[5] T.Bu Y) xb)) (xg<|xO (yN PySem.F.plainAttrs_list PySem.F.slot_list_append PySem.F.type_list_append yX (cv 2)<|xa (ym (cv 0) T.xD T.Om (Oj T) hr.m T.uC.b .nil xn<|xa (cv 3) xb) xb)) xw)
  (xg (xO (yN PySem.F.plainAttrs_list PySem.F.slot_list_append PySem.F.type_list_append yX (cv 2) (xa (cv 3) xb))))))
  (xg (xm (cv 2))))),?_⟩
  right;show λpl oN=>xK (upd H pl _) rfl oN λH1 oO oX=>?_;show⟨cl,Y,⟨_,kq.of<|oO.at oR⟩,?_⟩;show yU (xs:=cs.map V.int) (λi σ G=>xf H G/\∃(x3:Option V),σ=[E<|.ref o,E<|.ref cl,E<|.ref pl,x3]/\G pl=E (.lst<|(zC r<|cs.take i).map V.int))
   ⟨oO,_,Y,oX⟩ (λi σ G hi hP=>kq.of<|hP.1.at oR) (λi x σ G hx hP=>?_) (λσ G hP=>?_)
  ·show oG λ_ U=>?_;obtain⟨sG,x3,rfl,oK⟩:=hP;apply U;rw[av]at hx;show oG λ_ U=>?_;obtain⟨d,hd,rfl⟩:=aI.mp hx;apply U;have hlen:=Hm r<|cs.take i;have hi:i<cs.length:=(aE.mp hd).1;have oY:(cs.take i).length<=cs.length:=by rw[a8];lia
   show⟨λrq G'=>xf H G'/\rq=[E<|.ref o,E<|.ref cl,E<|.ref pl,E<|.int d]/\∃ys:List Int,G' pl=E (.lst<|ys.map V.int)/\ys++[d]=zC r (cs.take<|i+1),?_,?_⟩
   ·have oQ:=ho.same sG;cases r with
    |take to st c=>
     obtain⟨dx,h1⟩:=oQ;show⟨_,_,_,_,sX,Y,Y,T.B4 h1,T.vL,?_⟩;walk_at"Y";show⟨.inl ⟨Y,_,kq.of oK⟩,?_⟩;show⟨o,dx,_,Y,h1,Y,?_⟩;show⟨o,dx,to,st,c,d,Y,h1,?_⟩;show⟨pl,_,_,Y,Y,oK,by rw[aa,ak];lia,?_⟩;show⟨sG.put oN,Y,zC (.take to st c) (cs.take i)++[st+d - to],by rw[xk,aO];rfl,?_⟩;rw[Nz hd];simp[AZ]
    |put to sg=>
     show oG λ_ U=>?_;obtain⟨dx,u,h1,h2⟩:=oQ;apply U;show⟨_,_,_,_,sJ,Y,Y,T.DR h1,T.GW,?_⟩;walk_at"N";show⟨sG,Y,_,oK,?_⟩;rw[Nz hd];simp[AZ]
   ·rintro rq G' ⟨oU,rfl,ys,oS,oP⟩;exists⟨.inl ⟨Y,_,kq.of oS⟩,?_⟩;have oV:=congrArg cz oP;have:=Hm r (cs.take<|i+1);have oW:(cs.take<|i+1).length<=cs.length:=by rw[a8];lia
    rw[ao,bT]at oV;show⟨pl,_,_,Y,Y,oS,by rw[aa,ak];lia,?_⟩;show⟨oU.put oN,_,Y,?_⟩;rw[xk,<-oP,aO];rfl
  ·show oG λ_ U=>?_;obtain⟨sG,x3,rfl,oK⟩:=hP;apply U;rw[aa,bo]at oK;left;show q pl G sG oN oK
def VQ(K:ax):Sp:=λvs H Q _=>tW λ(size:Int) (H0:Hp) (pl tl:sK) (ws:List sK) (xs:List (xh×List Int))=>tF (vs=[.int size,.ref pl]) (H pl=E (.lst<|ws.map V.ref)) (Paired (zR K H0 tl H) ws xs) (∀x∈xs,x.1.ok/\x.2.length<=300/\∀p∈zC x.1 x.2,p<size) (∀H',xf H H'->Q .rp H')
def xfI:T.jT.O P w mg base 6 (VQ K):=by
 specialize T.jT.g ["size","pieces","told","cells","at"]
 ·show oG λ_ U=>?_;obtain⟨size,H0,pl,tl,ws,xs,rfl,oN,oO,hx,q⟩:=h;apply U;show⟨_,(xg<|zc PassesOwn.never Y (xS<|cv 1) (B2 Y (zD (yc (i:=2) nd Y<|aG Y)<|zD (yc (i:=3) nd Y<|aG Y) B7)) (xg<|zc PassesOwn.never Y (xS<|xo (xfH T) hr.m T.xgw T.jU xn (xa (xo (uY T) hr.m T.vI T.uB xn<|xa (cv 2) xb)<|xa (cv 3) xb)) (yc (i:=4) nd Y<|aG Y) (xg<|xC (xA Cn (cv 4)<|cv 0) (xg vp) xw))),?_⟩;show⟨pl,Y,⟨_,kq.of oN⟩,?_⟩;show yU (xs:=ws.map V.ref) (λi σ G=>xf H G/\∃(x2 x3 x4:Option V),σ=[E<|.int size,E<|.ref pl,x2,x3,x4])
   ⟨xf.refl _,_,_,_,Y⟩ (λi σ G hi hP=>kq.of<|hP.1.at oN) (λi x σ G oK hP=>?_) (λσ G hP=>?_)
  ·show oG λ_ U=>?_;obtain⟨sG,x2,x3,x4,rfl⟩:=hP;apply U;rw[av]at oK;show oG λ_ U=>?_;obtain⟨u,hu,rfl⟩:=aI.mp oK;obtain⟨⟨r,cs⟩,oP,t,c,nc,h1,h2,h3⟩:=Paired.An oO hu;obtain⟨hk,oS,oQ⟩:=hx _<|aj oP;apply U;show⟨u,_,Y,rM.of<|sG.at h1,Y,?_⟩;show⟨_,_,Y,?_⟩;exists⟨_,_,Y,?_⟩;show bG rfl ?_;show⟨t,r,Y,h2.same sG,hk,λo H1 s1 ho oR=>?_⟩;show⟨o,c,r,cs,Y,oR,s1.at (sG.at h3),oS,λl H2 s2 hl el=>?_⟩;have sA:xf H H2:=sG.trans<|s1.trans s2;show⟨l,Y,⟨_,kq.of el⟩,?_⟩;show yU (xs:=(zC r cs).map V.int) (λi σ G=>H2=G/\∃(x4:Option V),σ=[E<|.int size,E<|.ref pl,E<|.ref t,E<|.ref c,x4])
    ⟨Y,_,Y⟩ (λi σ G hi hP=>by rw[<-hP.1];show kq.of el) (λi x σ G oK hP=>?_) (λσ G hP=>?_)
   ·show oG λ_ U=>?_;obtain⟨rfl,x4,rfl⟩:=hP;apply U;rw[av]at oK;show oG λ_ U=>?_;obtain⟨p,hp,rfl⟩:=aI.mp oK;apply U;have oU:=oQ p<|aj hp;show⟨λe=>absurd (of_decide_eq_true e) (by change¬size<=p;lia),λ_=>?_⟩;show⟨Y,_,Y⟩
   ·show oG λ_ U=>?_;obtain⟨rfl,x4,rfl⟩:=hP;apply U;show⟨sA,_,_,_,Y⟩
  ·show oG λ_ U=>?_;obtain⟨sG,x2,x3,x4,rfl⟩:=hP;apply U;show q _ sG
def W6:Sp:=λvs H Q _=>tE λ(size o n:Int) (p:sK) (x:V)=>sU (vs=[.int size,.ref p]) (H p=E (.tup [.int o,.int n,x])) (max o n<=size) (Q .rp H)
def xeS:T.jy.O P w mg base 1 W6:=by
 specialize T.jy.g ["size","paper","greater"]
 ·show oG λ_ U=>?_;obtain⟨size,o,n,p,x,rfl,hp,hle,k1⟩:=h;apply U;show⟨_,(xc (xp (i:=2) nd Y (aG Y)<|xq (B1 Y) #[5] T.AQ Bo (xa (xy xG (cv 1) xj λ_ _=>Y)<|xa (xy xG (cv 1) xj λ_ _=>Y) xb))
  (xg (xC (xA wZ (cv 0) (cv 2)) (xg vp) xw))),?_⟩
  show⟨p,_,_,.int o,Y,Y,rM.of hp,Y,?_⟩;show⟨p,_,_,.int n,Y,Y,rM.of hp,Y,?_⟩;show⟨λe=>absurd (of_decide_eq_true e) (by change¬size<max o n;lia),λe=>?_⟩;show k1
noncomputable def vg(r:xh)(C:List Int)(d:Int):List Int:=match r with
 | .take to st _=>C.set d.toNat (C.getD (st+d - to).toNat 0)
 | .put to sg=>C.set d.toNat (sg.getD (d - to).toNat 0)
def tD(r:xh)(C cs:List Int):List Int:=cs.foldl (vg r) C
def VP(r:xh)(C:List Int)(d:Int):(vg r C d).length=C.length:=by cases r<;> simp[vg]
theorem Ec(r:xh):∀(cs C:List Int),(tD r C cs).length=C.length
 |[],_=>rfl
 |d::cs,C=>by
  change(tD r (vg r C d) cs).length=_;rw[Ec r cs,VP]
def Ue{d:Int}(h:cs[i]? =E d):tD r C (cs.take<|i+1)=vg r (tD r C<|cs.take i) d:=by
 unfold tD;rw[bh,h];simp[gn]
abbrev Bp:Expr:=D8 1 (D8 1<|FW ((SG ((yh Ho).getD 0<|.Pass ⟨0,0,0,0⟩)).getD 0<|.Pass ⟨0,0,0,0⟩))
def Km:uy ["at","store"] ["at"] ["store"] (yF Bp):=by walk_at"d"
abbrev Pf(H:Hp)(f:sK)(fv:List (Str×V)):Prop:=yx H f "<lambda>" "do_piece.<locals>.<lambda>" (uI Bp) (.expr<|uJ Bp) (yF Bp) fv
def Kl(a:rP):List (Str×V)->Sp:=λfv vs H Q _=>BM λ(S:SA) (cells:List Int) (gq:List (Option Int)) (n i v:Int) (fl:V)=>tY (fv=([("store",.ref S.st)]:List (Str×V))) (vs=[.int i]) (zH a H S cells gq n fl) (inR cells i) (cells[i.toNat]? =E v) (Q (.int v) H)
def xgM(T:Txt w K mg a):uq P w K mg base sR 3 "<lambda>" "do_piece.<locals>.<lambda>" (uI Bp) (.expr<|uJ Bp) (yF Bp) ["at"] (Kl a):=by
 show jx Km (λfv vs H Q sQ h=>?_) (λ_ _ _ _ _ us hl=>match us,hl with|[_],_=>Y) (λA outer s H f rL cdv fv vs Q sQ hr h=>?_)
 ·obtain⟨S,cells,gq,n,i,v,fl,rfl,rfl,_⟩:=h;show⟨Y,Y⟩
 ·show oG λ_ U=>?_;obtain⟨S,cells,gq,n,i,v,fl,rfl,rfl,hS,hi,hv,k⟩:=h;apply U;have nd:=Km.nd;show⟨_,(ym (cv 1) T.xX T.ZO (ZH T) hr.m T.HA.b .nil xn<|xa (cv 0) xb),?_⟩;show⟨S.st,S.dx,_,Y,hS.st,Y,?_⟩;show⟨S,cells,gq,n,i,v,fl,Y,hS,hi,hv,k⟩
def Ud(a:rP):Sp:=λvs H Q sQ=>IA λ(p dx u:sK) (to n cell v:Int) (f:V) (sg:List Int)=>tY (vs=[.ref p,.int cell,f]) (H p=E (.ins a.q0b dx<|Ah to u n)) (H u=E (.tup<|sg.map V.int)) (0<=cell - to) (sg[(cell - to).toNat]? =E v) (Q (.int v) H)
def Uc(a:rP):Sp:=λvs H Q _=>IB λ(p dx:sK) (to st c cell:Int) (f:sK) (fv:List (Str×V))=>sU (vs=[.ref p,.int cell,.ref f]) (H p=E (.ins a.q0a dx<|Ax to st c)) (Pf H f fv) (Kl a fv [.int<|st+cell - to] H Q E0)
def xfJ:T.jS.O P w mg base 4 (Uc a):=by
 specialize T.jS.g ["self","cell","read"]
 ·show oG λ_ U=>?_;obtain⟨p,dx,to,st,c,cell,f,fv,rfl,hp,hf,k⟩:=h;apply U;show⟨_,(xg<|xm (LP 2 (xgM T) hr.m xn<|xa (ym (cv 0) T.xD T.Om (Oj T) hr.m T.uC.b .nil xn<|xa (cv 1) xb) xb)),?_⟩;show⟨f,fv,Y,hf,?_⟩;show⟨p,dx,_,Y,hp,Y,?_⟩;show⟨p,dx,to,st,c,cell,Y,hp,?_⟩;show⟨hf,k⟩
def xgN:T.HM.O P w mg base 1 (Ud a):=by
 specialize T.HM.g ["self","cell","read"]
 ·show oG λ_ U=>?_;obtain⟨p,dx,u,to,n,cell,v,f,sg,rfl,hp,hu,hi,hv,k⟩:=h;apply U;show⟨_,(xg (xm<|xy xG #[11] (xr jN (cv 1)<|xv (cv 0) Y) λ_ _=>Y)),?_⟩;show⟨p,_,dx,_,.ref u,Y,hp,T.yl,T.zz,Y,?_⟩;show⟨p,_,dx,_,.int to,Y,hp,T.yl,T.zi,Y,?_⟩;show⟨u,_,_,.int v,Y,Y,rM.of hu,D4 hi hv,k⟩
def CJ(r:xh)(L:Nat)(d:Int):Prop:=0<=d/\d<L/\match r with
 | .take to st _=>0<=st+d - to/\st+d - to<L
 | .put to sg=>0<=d - to/\d - to<sg.length
end
section
variable {base:Heap} (T:Txt w K mg a)
theorem xE.kpF{k:Nat}(h:xE K a H o r)(hF:tq a H F cells gq k)(hn:o∉SS F.S)(kp:Kp (SS F.S) H H'):xE K a H' o r:=by
 cases r with
 |take to st c=>obtain⟨dx,h⟩:=h;show⟨dx,kp _ _ h hn⟩
 |put to sg=>obtain⟨dx,u,h1,h2⟩:=h;show⟨dx,u,kp _ _ h1 hn,kp _ _ h2<|hF.BD h2 λz=>z⟩
def zO(cs D cells:List Int):Prop:=cells.length=D.length/\∀j:Nat,j<D.length->(j:Int)∉cs->cells[j]? =D[j]?
def zO.refl(cs D:List Int):zO cs D D:=⟨Y,λ_ _ _=>Y⟩
def zO.set{D:List Int}{d:Int}(h:zO cs D cells)(hd:d∈cs)(h0:0<=d):zO cs D (cells.set d.toNat v):=by
 show⟨by rw[eW];show h.1,λj hj hn=>?_⟩;rw[List.getElem?_set,if_neg λz=>hn (by rw[<-z,cq h0];show hd)];show h.2 j hj hn
theorem zO.step{D:List Int}{d:Int}(h:zO cs D cells)(hd:d∈cs)(h0:0<=d):zO cs D (vg r cells d):=by
 cases r with
 |take to st c=>show h.set hd h0
 |put to sg=>show h.set hd h0
theorem zO.tD{cs D:List Int}{r:xh}:∀{ds cells:List Int},zO cs D cells->(∀d∈ds,d∈cs/\0<=d)->zO cs D (tD r cells ds)
 |[],_,h,_=>h
 |d::ds,cells,h,k=>by
  change zO cs D (ds.foldl (vg r)<|vg r cells d);show zO.tD (h.step (k d aJ).1 (k d aJ).2) λx hx=>k x (aw _ hx)
def Yv(K:ax)(a:rP):Sp:=λvs H Q sQ=>IB λ(F:FA) (o c:sK) (r:xh) (cs cells:List Int) (gq:List (Option Int)) (k:Nat)=>vs=[.ref F.S.st,.ref o,.ref c]/\Bs F/\tq a H F cells gq k/\xE K a H o r/\r.ok/\o∉SS F.S/\H c=E (.lst<|cs.map V.int)/\c∉SS F.S/\(∀d∈cs,CJ r cells.length d)/\(∀H',Kp (SS F.S) H H'->tq a H' F (tD r cells cs) gq (k+cs.length)->Q .rp H')/\BR a H F sQ λoN oK=>oK=gq/\zO cs cells oN
theorem Yu(T:Txt w K mg a):yA P w K mg base (As P w) 5 a.q1u a.q1v ["store","row","cells"] (Yv K a):=by
 show T.Gz.Ij ["store"] T.XX NH (λvs H Q sQ h=>?_) (λA outer s H vs Q sQ hr h=>?_)
 ·obtain⟨F,o,c,r,cs,cells,gq,k,rfl,_⟩:=h;rfl
 ·show oG λ_ U=>?_;obtain⟨F,o,c,r,cs,cells,gq,k,rfl,B,hF,ho,rh,o8,hc,pf,oU,k1,k2⟩:=h;apply U;have nd:=NH.nd;show⟨_,(C1 (x:="store") (i:=0) nd rfl rfl rfl #[9]<|xg (zc (PassesOwn.xe ⟨Y,Y,Y⟩) Y (xS<|cv 2) (yc (i:=3) nd Y<|aG Y)<|xg (xO<|vd ⟨Y,Y,Y⟩ (cv 0) T.xX T.xhy (xhG T) hr.m T.NS.b .nil (xa (cv 3)<|xa (jM (ym (cv 1) T.yl T.xgI (xgN T) hr.m T.HM.b .nil xn (xa (cv 3)<|xa (uV (c:=vU) (P:=ur) (qs:=vt) (fns:=["store"]) rfl T.NK (q:="do_piece.<locals>.<lambda>") #[9] (.head _) #[9] #[9]) xb))<|ym (cv 1) T.xD T.xfF (xfJ T) hr.m T.jS.b .nil xn (xa (cv 3)<|xa (uV (c:=vU) (P:=ur) (qs:=vt) (fns:=["store"]) rfl T.NK (q:="do_piece.<locals>.<lambda>") #[9] (.head _) #[9] #[9]) xb)) xb)))),?_⟩;left;intro a1 e1 z1 d1;show bG z1 ?_;show se (upd H a1 _) λH1 oR=>?_;have s1:=xf.of_eq z1 oR;have c1:=xM oR;clear oR;have oS:=hF.same s1;have c1:H1 a1=E (.tm (E<|.ref F.S.st)):=c1;show⟨c,Y,⟨_,kq.of<|s1.at hc⟩,?_⟩;show yU (xs:=cs.map V.int) (λi σ G=>Kp (SS F.S) H1 G/\tq a G F (tD r cells<|cs.take i) gq (k+i)/\∃(x3:Option V),σ=[E<|.ref F.S.st,E<|.ref o,E<|.ref c,x3])
   ⟨Kp.of<|xf.refl _,oS,_,Y⟩ (λi σ G hi hP=>kq.of<|hP.1 _ _ (s1.at hc) pf) (λi x σ G hx hP=>?_) (λσ G hP=>?_)
  ·show oG λ_ U=>?_;obtain⟨kp,oN,x3,rfl⟩:=hP;apply U;rw[av]at hx;show oG λ_ U=>?_;obtain⟨d,hd,rfl⟩:=aI.mp hx;apply U;have oV:=aj hd;show oG λ_ U=>?_;obtain⟨oW,pe,hd2⟩:=oU d oV;apply U;have oQ:=Ec r (cs.take i) cells;have oY:xE K a G o r:=(ho.same s1).kpF oS o8 kp;have oZ:G a1=E (.tm (E<|.ref F.S.st)):=kp _ _ c1<|oS.BD c1 λz=>z;show oG λ_ U=>?_;obtain⟨n,_,_,oX⟩:=oN.st;apply U;have oK:zO cs cells (tD r cells<|cs.take i):=zO.tD (zO.refl _ _) λx hx=>⟨bQ hx,(oU x<|bQ hx).1⟩;have fin:∀(G5:Hp) (v:Int),xf G G5->Sm v->vg r (tD r cells<|cs.take i) d=(tD r cells<|cs.take i).set d.toNat v->Lp a [.ref F.S.st,.int d,.int v] G5 (λv' H'=>Kp (SS F.S) H1 H'/\tq a H' F (tD r cells (cs.take<|i+1)) gq (k+(i+1))/\∃(x3:Option V),[E<|V.ref F.S.st,E<|.ref o,E<|.ref c,E<|.int d]=[E<|.ref F.S.st,E<|.ref o,E<|.ref c,x3]) sQ:=λG5 v s5 o7 e=>by
    show⟨F,_,gq,d,v,k+i,Y,B,oN.same s5,⟨oW,by rw[oQ];show pe⟩,o7,λG6 k6 h6=>⟨(kp.same s5).trans k6,?_,_,Y⟩,λo9 m dd G6 oP oO kk k6 h6 hp pd=>?_⟩
    ·rw[Ue hd,e];show h6
    ·obtain⟨rfl,hp⟩:=hp;show k2 o9 m dd G6 oP oO kk (λb u eb nb=>k6 b u (s5 b u<|kp b u (s1 b u eb) nb) nb) h6 ⟨Y,?_⟩ pd;rcases hp with rfl|⟨t,rfl⟩
     ·show oK
     ·show oK.set oV oW
   exists⟨F.S.st,F.S.dx,_,Y,oX.st,Y,?_⟩;cases r with
   |put to sg=>
    show oG λ_ U=>?_;obtain⟨dx,u,q1,q2⟩:=oY;apply U;have hd2:0<=d - to/\d - to<sg.length:=hd2;obtain⟨v,hv⟩:∃v,sg[(d - to).toNat]? =E v:=⟨_,au (by omega)⟩
    apply Or.inl
    show⟨o,dx,_,Y,q1,Y,?_⟩;show⟨B.keep oN.kp B.Pd λz=>z,[("store",.ref F.S.st)],rfl,λx v m=>?_,λf G5 hf s5 hc=>?_⟩
    ·simp only[aB,iG,bR,or_false]at m;obtain⟨rfl,rfl⟩:=m;show⟨a1,e1,oZ⟩
    exists⟨o,dx,u,to,_,d,v,_,sg,Y,s5.at q1,s5.at q2,hd2.1,hv,?_⟩;show fin G5 v s5 (rh.2.2.2 v<|aj hv) (by simp[vg,cK,hv])
   |take to st cn=>
    obtain⟨dx,q1⟩:=oY;have hd2:0<=st+d - to/\st+d - to<cells.length:=hd2;obtain⟨v,hv⟩:∃v,(tD (.take to st cn) cells<|cs.take i)[(st+d - to).toNat]? =E v:=⟨_,au (by rw[oQ];omega)⟩
    apply Or.inr
    show⟨o,dx,_,Y,q1,Y,?_⟩;show⟨B.keep oN.kp B.Pd λz=>z,[("store",.ref F.S.st)],rfl,λx v m=>?_,λf G5 hf s5 hc=>?_⟩
    ·simp only[aB,iG,bR,or_false]at m;obtain⟨rfl,rfl⟩:=m;show⟨a1,e1,oZ⟩
    show⟨o,dx,to,st,cn,d,f,_,Y,s5.at q1,hc,F.S,_,gq,n,_,v,F.fl,Y,Y,oX.same s5,⟨hd2.1,by rw[oQ];show hd2.2⟩,hv,?_⟩;left;show fin G5 v s5 (oN.sm v<|aj hv) (by simp[vg,cK,hv])
  ·show oG λ_ U=>?_;obtain⟨kp,oN,x3,rfl⟩:=hP;apply U;rw[aa,bo]at oN;left;show k1 G (λb u e n=>kp b u (s1 b u e) n) oN
def sO(C:List Int)(xs:List (xh×List Int)):List Int:=xs.foldl (λC x=>tD x.1 C x.2) C
theorem uT:∀(xs:List (xh×List Int)) (C:List Int),(sO C xs).length=C.length
 |[],_=>rfl
 |x::xs,C=>by
  change(sO (tD x.1 C x.2) xs).length=_;rw[uT xs,Ec]
def Ln{xs:List (xh×List Int)}{x:xh×List Int}(h:xs[i]? =E x):sO C (xs.take<|i+1)=tD x.1 (sO C<|xs.take i) x.2:=by
 unfold sO;rw[bh,h];simp[gn]
def jJ(L:Nat)(x:xh×List Int):Prop:=x.1.ok/\x.2.length<=300/\∀d∈x.2,CJ x.1 L d
def jK(xs:List V)(i:Nat):wR xs (E (i:Int)) y=xs.drop i:=by
 unfold wR;rw[B0 #[2],HT.LU,cf]
 by_cases h:i<=xs.length
 ·rw[d9 h];show bE (by rw[bC];lia)
 ·rw[iR #[2],c8<|ah _,c8 #[2]];simp
theorem Nn{α β:Type}{F:α->β->Prop}:∀{l₁:List α} {l₂:List β} (n:Nat),Paired F l₁ l₂->Paired F (l₁.drop n) (l₂.drop n)
 |_,_,0,h=>h
 |_,_,n+1,.nil=>.nil
 |_,_,n+1,.cons _ t=>Nn n t
theorem VO{L:Nat}(h:∀d∈cs,CJ r L d):∀p∈zC r cs,p<(L:Int):=by
 intro p hp;unfold zC at hp;obtain⟨d,hd,hp⟩:=iS.mp hp;have h1:=h d hd;cases r with
 |take to st c=>
  have h2:0<=st+d - to/\st+d - to<L:=h1.2.2;simp only[AZ,aB,bR,or_false]at hp;rcases hp with rfl|rfl
  ·show h2.2
  ·show h1.2.1
 |put to sg=>
  simp only[AZ,ai]at hp;rw[hp];show h1.2.1
theorem TupAt.OG(h:TupAt K H t r)(k:∀b u,H b=E u->¬wM u->H' b=E u):TupAt K H' t r:=by
 cases r with
 |take to st c=>show k _ _ h (λz=>z)
 |put to sg=>obtain⟨u,h1,h2⟩:=h;show⟨u,k _ _ h1 λz=>z,k _ _ h2 λz=>z⟩
def B3{u:Nat->Nat->List Int}{k:Nat}{p:List Int}(h:(Ap u d k)[j]? =E p):j<cN d k/\p=u k j:=by
 unfold Ap at h;rw[av]at h;obtain⟨i,hi,rfl⟩:=aI.mp h;have hj:j<cN d k:=by
  have:=(aE.mp hi).1;simpa using this
 rw[kj hj]at hi;cases hi;show⟨hj,Y⟩
def Lm{n:Nat}{d:Int}(h:(yz lo n)[i]? =E d):i<n/\d=lo+i:=by
 unfold yz at h;rw[av]at h;obtain⟨j,hj,rfl⟩:=aI.mp h;have hi:i<n:=by
  have:=(aE.mp hj).1;simpa using this
 rw[kj hi]at hj;cases hj;show⟨hi,Y⟩
def VN{n:Nat}(h:x∈(yz lo n).take i):lo<=x/\x<lo+i:=by
 obtain⟨j,hj⟩:=bU.mp h;rw[il]at hj
 split at hj
 ·have:=Lm hj;lia
 ·cases hj
def B9{to:Int}{k:Nat}(h:x∈C3 to d k j):∃m:Nat,x=to+m/\j*d<=m/\m<j*d+d/\m<k:=by
 obtain⟨h1,h2⟩:=ub.mp h;obtain⟨m,rfl⟩:=kJ<|ke (lb<|ik _) h1;have h1:=lT.mp<|Int.le_of_add_le_add_left h1;rw[Int.add_assoc]at h2;have h2:m<j*d+min d (k - j*d):=lW.mp<|gO h2;show⟨m,Y,h1,az h2<|nH (my _ _) _,?_⟩;have:=lI d<|k - j*d;omega
def vX{k:Nat}(h:x∈Ci e d k j):∃m:Nat,x=e - 1 - m/\j*d<=m/\m<j*d+d/\m<k:=by
 obtain⟨h1,h2⟩:=ub.mp h;rcases Nat.le_total k (j*d)with hk|hk
 ·rw[Nat.sub_eq_zero_of_le hk,Nat.min_zero,Int.natCast_zero,Int.add_zero]at h2;show absurd h2 (Int.not_lt.mpr h1)
 ·obtain⟨r,rfl⟩:=kH hk;have w1:=my d r;have w2:=lI d r;rw[g7,kf]at h1 h2;rw[cY]at h2;generalize min d r=w at*;generalize j*d=q at*;show⟨(e - 1 - x).toNat,by omega⟩
def Mo{k:Nat}(h:x∈(rR.take k).flatten):∃j p,j<k/\rR[j]? =E p/\x∈p:=by
 obtain⟨p,hp,hx⟩:=dw.mp h;obtain⟨j,hj⟩:=bU.mp hp;rw[il]at hj
 split at hj
 ·rename_i oK;show⟨j,p,oK,hj,hx⟩
 ·cases hj
def K7{k:Nat}(d:Nat)(h:j<k):j*d+d<=k*d:=g7 j d▸kd d h
def JD{to:Int}{g m:Nat}(h:m'<m):to+(m':Int)≠to+g+(to+m) - to:=by lia
def RX{d:Int}{n:Nat}(hd:(yz lo n)[i]? =E d)(hx:x∈(yz lo n).take i):x<d:=by
 rw[(Lm hd).2];show(VN hx).2
def W5{to:Int}(hc:1<=c){k:Nat}{p:List Int}{d:Int}(hp:(yL to st c)[k]? =E p)(hd:p[i]? =E d)(hx:x∈((yL to st c).take k).flatten++p.take i):x≠st+d - to:=by
 unfold yL at hp hx
 split at hp
 ·cases hp
 rename_i oO;rw[if_neg oO]at hx
 split at hp
 ·rename_i oK;rw[if_pos oK]at hx;obtain⟨g,rfl⟩:=kJ<|Int.le_of_lt oK;rw[lU to,kR,cf]at hp hx;obtain⟨_,rfl⟩:=B3 hp;obtain⟨m,rfl,m1,_⟩:=B9<|aj hd;show(aZ.mp hx).elim (λhx=>?_) λhx=>?_
  ·obtain⟨j,q,hj,hq,oN⟩:=Mo hx;obtain⟨_,rfl⟩:=B3 hq;obtain⟨m',rfl,_,h2,_⟩:=B9 oN;show JD (az h2<|aQ (K7 g hj) m1)
  ·have h:=RX hd hx;obtain⟨m',rfl,_⟩:=B9<|bQ hx;show JD (lW.mp<|gO h)
 ·rename_i oK;rw[if_neg oK]at hx;obtain⟨g,rfl⟩:=kJ<|Int.not_lt.mp oK;rw[lU st,kR,cf]at hp hx;obtain⟨_,rfl⟩:=B3 hp;obtain⟨m,rfl,m1,_⟩:=vX<|aj hd;rw[lU st];show(aZ.mp hx).elim (λhx=>?_) λhx=>?_
  ·obtain⟨j,q,hj,hq,oN⟩:=Mo hx;obtain⟨_,rfl⟩:=B3 hq;obtain⟨m',rfl,_,h2,_⟩:=vX oN;have:=K7 g hj;clear hd hp hx oN hq hc oO oK;omega
  ·obtain⟨m',rfl,m2,m3,_⟩:=vX<|bQ hx;clear hd hp hx hc oO oK;omega
def RW{u:Nat->Nat->List Int}{k:Nat}(h:j<cN d k):u k j∈Ap u d k:=aY.mpr ⟨j,cC.mpr h,Y⟩
def JC{k m:Nat}(hd:0<d)(h:m<k):m / d<cN d k:=by
 unfold cN;rw[Nat.div_lt_iff_lt_mul hd];have:=kW (a:=k+d - 1) hd;omega
def JO{u:Nat->Nat->List Int}{k:Nat}:x∈(Ap u d k).flatten↔∃j,j<cN d k/\x∈u k j:=
 ⟨λh=>by
  obtain⟨p,hp,hx⟩:=dw.mp h;obtain⟨j,hj,rfl⟩:=aY.mp hp;show⟨j,cC.mp hj,hx⟩,λh=>by
  obtain⟨j,hj,hx⟩:=h;show dw.mpr ⟨_,RW hj,hx⟩⟩
def Gq{to:Int}(hc:1<=c):x∈(yL to st c).flatten↔st≠to/\to<=x/\x<to+c:=by
 unfold yL;obtain⟨n,rfl⟩:=eA<|ke #[6] hc;rw[cf]
 by_cases oK:st=to
 ·rw[if_pos oK];simp[oK]
 rw[if_neg oK]
 by_cases oN:to<st
 ·rw[if_pos oN,JO];constructor
  ·rintro⟨j,_,hx⟩;obtain⟨m,rfl,_,_,h⟩:=B9 hx;show⟨oK,lb<|ik _,Int.add_lt_add_left (lW.mpr h) _⟩
  ·rintro⟨_,h1,h2⟩;have hd:0<(st - to).toNat:=by omega
   generalize (st - to).toNat=d at hd;obtain⟨m,rfl⟩:=kJ h1;have hm:m<n:=lW.mp<|gO h2;show⟨_,JC hd hm,ub.mpr ?_⟩;have a1:=kl m d;have a2:=kW (a:=m) hd;generalize m / d*d=q at*;have:=Nat.lt_min.mpr ⟨(show m - q<d by omega),(show m - q<n - q by omega)⟩;omega
 ·rw[if_neg oN,JO];constructor
  ·rintro⟨j,_,hx⟩;obtain⟨m,rfl,_,_,h⟩:=vX hx;show⟨oK,by omega,by omega⟩
  ·rintro⟨_,h1,h2⟩;have hd:0<(to - st).toNat:=by omega
   generalize (to - st).toNat=d at hd;obtain⟨m,hm⟩:=kJ<|Int.add_one_le_of_lt h2;have hn:m<n:=by omega
   show⟨_,JC hd hn,ub.mpr ?_⟩;have a1:=kl m d;have a2:=kW (a:=m) hd;rw[g7];generalize m / d*d=q at*;have:=Nat.lt_min.mpr ⟨a2,hn⟩;obtain⟨r,rfl⟩:=kH (aQ a1<|cR hn);rw[kf]at*;rw[cY];omega
def YG{to:Int}{p:List Int}(hp:p∈yL to st c):p.length<=(st - to).natAbs:=by
 unfold yL at hp
 split at hp
 ·simp at hp
 split at hp
 all_goals
  obtain⟨j,_,rfl⟩:=aY.mp hp;show aQ (dY<|yK _ _)<|aQ (my _ _) ?_;lia
theorem Ub{new:Int}{L:Nat}{c:List Int}(hk:r.ok)(hs:Sr r)(hf:IG old new r)(h1:old<=L)(h2:new<=L)(hc:c∈uS r):jJ L (r,c):=by
 cases r with
 |take to st n=>
  obtain⟨k1,k2,k3⟩:=hk;obtain⟨s1,s2,s3⟩:=hs;obtain⟨f1,f2⟩:=hf;have hc:c∈yL to st n:=hc;have hl:=YG hc;show⟨⟨k1,k2,k3⟩,by change c.length<=300;lia,λd hd=>?_⟩;have hm:=(Gq k3).mp<|dw.mpr ⟨c,hc,hd⟩;show⟨by lia,by lia,by lia,by lia⟩
 |put to sg=>
  have oK:=hk;obtain⟨k1,k2,k3,k4⟩:=hk;have s2:sg.length<=300:=hs.2;have f1:to+sg.length<=new:=hf;have hc:c∈[yz to sg.length]:=hc;rw[ai.mp hc];show⟨oK,by change(yz to sg.length).length<=300;rw[yK];lia,λd hd=>?_⟩;have hm:=ub.mp hd;show⟨by lia,by lia,by lia,by lia⟩
theorem VM{D:List Int}{d:Int}(h:Part C r D cur)(hc:CJ r C.length d)(hs:∀to st c,r= .take to st c->st+d - to∉D):Part C r (D++[d]) (vg r cur d):=by
 obtain⟨hl,hv⟩:=h;obtain⟨h0,h1,h2⟩:=hc;have key:∀v:Int,IH C r d=E v->vg r cur d=cur.set d.toNat v->Part C r (D++[d]) (vg r cur d):=λv e1 e2=>by
  rw[e2];show⟨by rw[eW];show hl,λj hj=>?_⟩;rw[List.getElem?_set]
  by_cases e:d.toNat=j
  ·have ej:(j:Int)=d:=by lia
   rw[if_pos e,if_pos #[2],if_pos<|aN _ (by simp[ej]),ej,e1]
  ·rw[if_neg e,hv j hj]
   by_cases hm:(j:Int)∈D
   ·rw[if_pos hm,if_pos<|bB _ hm]
   ·rw[if_neg hm,if_neg];intro z;rcases aZ.mp z with z|z
    ·show hm z
    ·have:=ai.mp z;lia
 cases r with
 |take to st c=>
  obtain⟨h3,h4⟩:=h2;have oK:(st+d - to).toNat<C.length:=by lia
  have e:=hv (st+d - to).toNat oK;rw[cq h3,if_neg<|hs to st c rfl,au oK]at e;show key C[(st+d - to).toNat] (au oK) ?_;change cur.set d.toNat (cur.getD (st+d - to).toNat 0)=_;rw[cK,e];rfl
 |put to sg=>
  obtain⟨h3,h4⟩:=h2;have oK:(d - to).toNat<sg.length:=by lia
  show key sg[(d - to).toNat] (au oK) ?_;change cur.set d.toNat (sg.getD (d - to).toNat 0)=_;rw[cK,au oK];rfl
theorem Gk{C:List Int}{r:xh}:∀(ds:List Int) {D cur:List Int},Part C r D cur->(∀d∈ds,CJ r C.length d)->(∀(i:Nat) (d:Int),ds[i]? =E d->∀to st c,r= .take to st c->st+d - to∉D++ds.take i)->Part C r (D++ds) (tD r cur ds)
 |[],D,cur,h,_,_=>by rw[df];show h
 |d::ds,D,cur,h,hc,ho=>by
  have h1:=VM h (hc d aJ) λto st c e=>by
   have:=ho 0 d rfl to st c e;simpa using this
  have h2:=Gk ds h1 (λx hx=>hc x<|aw _ hx) λi x hx to st c e=>by
   have:=ho (i+1) x hx to st c e;simpa using this
  rw[bu]at h2;show h2
theorem K6:∀{rR:List (List Int)} {i:Nat} {d:Int},rR.flatten[i]? =E d->∃(k m:Nat) (p:List Int),rR[k]? =E p/\p[m]? =E d/\rR.flatten.take i=(rR.take k).flatten++p.take m
 |[],i,d,h=>by simp at h
 |p::rR,i,d,h=>by
  rw[dG]at h⊢
  by_cases hi:i<p.length
  ·rw[bq hi]at h;show⟨0,i,p,Y,h,by rw[List.take_append_of_le_length<|cR hi];rfl⟩
  ·rw[bP #[2]]at h;obtain⟨k,m,q,h1,h2,h3⟩:=K6 h;show⟨k+1,m,q,h1,h2,?_⟩;rw[List.take_append,h3,bE #[2],List.take_succ_cons,dG,bu]
theorem K5(r:xh):∀(cs:List (List Int)) (C:List Int),sO C (cs.map λc=>(r,c))=tD r C cs.flatten
 |[],_=>rfl
 |c::cs,C=>by
  rw[dG];change sO (tD r C c) (cs.map λc=>(r,c))=(c++cs.flatten).foldl (vg r) C;rw[gn,K5 r cs];rfl
def XC(C:List Int)(xs ys:List (xh×List Int)):sO C (xs++ys)=sO (sO C xs) ys:=by
 unfold sO;rw[gn]
def JN(r:xh):uS r=C8 r:=by cases r<;> rfl
def Ua(hk:r.ok)(hc:∀c∈uS r,jJ C.length (r,c)):Part C r (C8 r).flatten (sO C<|(uS r).map λc=>(r,c)):=by
 rw[K5,JN];have:=Gk (C:=C) (r:=r) (C8 r).flatten (D:=[]) (cur:=C) ⟨Y,λj hj=>by simp⟩ (λd hd=>by
  obtain⟨p,hp,hd⟩:=dw.mp hd;show(hc p (by rw[JN];show hp)).2.2 d hd) λi d hd to st c e=>by
   subst e;obtain⟨k,m,p,h1,h2,h3⟩:=K6 hd;rw[fX,h3];intro z;show W5 hk.2.2 h1 h2 z rfl
 rw[fX]at this;show this
def T9{rs:List xh}(h:rs[j]? =E r):yi (rs.take<|j+1)=yi (rs.take j)++(uS r).map λc=>(r,c):=by
 unfold yi;rw[bh,h,km];simp
def uU(gq:List (Option Int))(m:Nat):Prop:=gq.length=2/\gq[m%2]? =E (E (m:Int))/\∀x:Int,E x∈gq->x<=m
def uU.max{m:Nat}(h:uU gq m):BZ gq m:=by
 have hm:(m:Int)∈gq.filterMap id:=gS.mpr ⟨E (m:Int),aj h.2.1,Y⟩;show⟨(λz=>by rw[z]at hm;cases hm),λ_=>⟨hm,λx hx=>?_⟩⟩;obtain⟨sZ,hy,oK⟩:=gS.mp hx;have oK:sZ=E x:=oK;subst oK;show h.2.2 x hy
def JM(m:Nat):(((m:Int)+1)%2).toNat=(m+1)%2:=rfl
def uU.mark{m:Nat}(h:uU gq m):uU (gq.set (((m:Int)+1)%2).toNat (E<|(m:Int)+1)) (m+1):=by
 obtain⟨h1,h2,h3⟩:=h;rw[JM];show⟨by rw[eW];show h1,by rw[gc #[2]];rfl,λx hx=>?_⟩;rcases gN hx with z|z
 ·have:=h3 x z;lia
 ·have:=bI z;lia
def uU.Ig{m:Nat}(h:uU gq m):uU (gq.set (((m:Int)+1)%2).toNat y) m:=by
 obtain⟨h1,h2,h3⟩:=h;rw[JM];show⟨by rw[eW];show h1,by rw[dz #[2]];show h2,λx hx=>?_⟩;rcases gN hx with z|z
 ·show h3 x z
 ·cases z
def Apart(x:xh×List Int):Prop:=∀d∈x.2,∀to st c,x.1= .take to st c->st+d - to∉x.2
def VL{rs:List xh}:∀x∈yi rs,Apart x:=by
 intro x hx d hd to st c e hs;unfold yi at hx;obtain⟨r,hr,hx⟩:=iS.mp hx;obtain⟨p,hp,rfl⟩:=aY.mp hx;have e:r= .take to st c:=e;subst e;have hd:d∈p:=hd;have hs:st+d - to∈p:=hs;have hp:p∈yL to st c:=hp;unfold yL at hp
 split at hp
 ·cases hp
 rename_i oK;obtain⟨j,hj⟩:=bU.mp hp
 split at hj
 ·obtain⟨_,rfl⟩:=B3 hj;obtain⟨_,h1,h3,h5,_⟩:=B9 hd;obtain⟨_,h2,h4,h6,_⟩:=B9 hs;omega
 ·obtain⟨_,rfl⟩:=B3 hj;obtain⟨_,h1,h3,h5,_⟩:=vX hd;obtain⟨_,h2,h4,h6,_⟩:=vX hs;omega
def Nd{x:xh×List Int}(hp:jJ A.length x)(ha:Apart x):Part A x.1 x.2 (tD x.1 A x.2):=by
 have:=Gk (C:=A) (r:=x.1) x.2 (D:=[]) (cur:=A) ⟨Y,λj hj=>by simp⟩ hp.2.2 λi d hd to st c e z=>by
  rw[fX]at z;show ha d (aj hd) to st c e (bQ z)
 rw[fX]at this;show this
theorem Yt{D:List Int}{x:xh×List Int}(h:zO x.2 D cells)(hp:jJ D.length x)(ha:Apart x):tD x.1 cells x.2=tD x.1 D x.2:=by
 have h1:=Nd hp ha;have h2:=Nd (A:=cells) (x:=x) (by rw[h.1];show hp) ha;apply fi;intro j
 by_cases hj:j<D.length
 ·rw[h1.2 j hj,h2.2 j (by rw[h.1];show hj)]
  by_cases hm:(j:Int)∈x.2
  ·rw[if_pos hm,if_pos hm];obtain⟨r,cs⟩:=x;cases r with
   |put to sg=>rfl
   |take to st c=>
    obtain⟨_,_,c1,c2⟩:=hp.2.2 j hm;change cells[(st+(j:Int) - to).toNat]? =D[(st+(j:Int) - to).toNat]?;show h.2 _ #[2] ?_;rw[cq c1];show ha j hm to st c rfl
  ·rw[if_neg hm,if_neg hm];show h.2 j hj hm
 ·rw[bV (by rw[h2.1,h.1];lia),bV (by rw[h1.1];lia)]
def zo(X:List (xh×List Int))(m:Nat)(C0 cells:List Int):Prop:=cells.length=C0.length/\∀j:Nat,j<C0.length->(∀x,X[m]? =E x->(j:Int)∉x.2)->cells[j]? =(sO C0<|X.take m)[j]?
def zo.near{m:Nat}{x:xh×List Int}(h:zo X m C0 cells)(hx:X[m]? =E x):zO x.2 (sO C0<|X.take m) cells:=
 ⟨by rw[h.1,uT],λj hj hn=>h.2 j (by rw[uT]at hj;show hj) λsZ hy=>by rw[hx]at hy;cases hy;show hn⟩
def zo.of{m:Nat}{x:xh×List Int}(h:zO x.2 (sO C0<|X.take m) cells)(hx:X[m]? =E x):zo X m C0 cells:=
 ⟨by rw[h.1,uT],λj hj hn=>h.2 j (by rw[uT];show hj)<|hn x hx⟩
def zo.refl(X:List (xh×List Int))(m:Nat)(C0:List Int):zo X m C0 (sO C0<|X.take m):=⟨uT _ _,λ_ _ _=>Y⟩
def zo.all(h:zo X X.length C0 cells):cells=sO C0 X:=by
 have e:X.take X.length=X:=bo;apply fi;intro j
 by_cases hj:j<C0.length
 ·rw[h.2 j hj λx hx=>by simp at hx,e]
 ·rw[bV (by rw[h.1];lia),bV (by rw[uT];lia)]
def zo.next{m:Nat}{x:xh×List Int}(h:zo X m C0 cells)(hx:X[m]? =E x)(hp:jJ C0.length x)(ha:Apart x):tD x.1 cells x.2=sO C0 (X.take<|m+1):=by
 rw[Ln hx];show Yt (h.near hx) (by rw[uT];show hp) ha
def zo.back{m:Nat}{x:xh×List Int}(hx:X[m]? =E x)(hp:jJ C0.length x):zo X m C0 (sO C0 (X.take<|m+1)):=by
 rw[Ln hx];show zo.of (zO.tD (zO.refl _ _) λd hd=>⟨hd,(hp.2.2 d hd).1⟩) hx
end
section
variable {base:Heap} (T:Txt w K mg a)
def T8(K:ax)(a:rP):Sp:=λvs H Q sQ=>E6 λ(F:FA) (p tt:sK) (o n:Int) (us:List sK) (rs:List xh) (cells C0:List Int) (gq:List (Option Int)) (k m:Nat)=>Jd (vs=[.ref F.S.st,.ref p]) (Bs F) (tq a H F cells gq k) (H p=E (.tup [.int o,.int n,.ref tt])) (H tt=E (.tup<|us.map V.ref)) (Paired (GT K H) us rs) (us.length<=300) (max o n<=C0.length) (∀x∈yi rs,jJ C0.length x) (uU gq m) (m<=(yi rs).length) (m<=100000) (zo (yi rs) m C0 cells) ((∀v H' oK,Kp (SS F.S) H H'->tq a H' F (sO C0<|yi rs) oK (k+301*(yi rs).length)->uU oK (yi rs).length->Q v H')) (BR a H F sQ λoN oK=>∃m',uU oK m'/\m'<=(yi rs).length/\zo (yi rs) m' C0 oN)
def T7(T:Txt w K mg a):yA P w K mg base (As P w) 7 a.q2V a.q3f ["store","paper"] (T8 K a):=by
 show T.FO.BB Lu (λvs H Q sQ h=>?_) (λcdv A outer s H vs Q sQ hr h=>?_)
 ·obtain⟨F,p,tt,o,n,us,rs,cells,C0,gq,k,m,rfl,_⟩:=h;rfl
 ·show oG λ_ U=>?_;obtain⟨F,p,tt,o,n,us,rs,cells,C0,gq,k,m,rfl,B,hF,hp,ht,pS,pT,hle,rh,pf,hm,qc,pe,k1,k2⟩:=h;apply U;have nd:=Lu.nd;show⟨_,(xc (xp (i:=2) nd Y (aG Y) (xq xu #[5] T.xW xN<|xa (xy xG (xJ (cv 0) T.xX T.jq (jr T) hr.m T.uP.b .nil xn) xj λ_ _=>Y) xb))
  (xc (xO<|xo (xeS T) hr.m T.xfx T.jy xn (xa (cv 2)<|xa (cv 1) xb))
  (xc (xp (i:=3) nd Y (aG Y) (xo (YH T) hr.m T.XY T.Hc xn<|xa (cv 1) xb))
  (xc (xp (i:=4) nd Y (aG Y)<|xJ (cv 0) T.xX T.xhx (xhF T) hr.m T.HS.b .nil xn)
  (xc (xp (i:=5) nd Y (aG Y)<|yj yC (cv 3) (ya<|cv 4) zg)
  (xc (xO<|xo (xfI T) hr.m T.xgv T.jT xn (xa (cv 2)<|xa (cv 5) xb))
  (xc (zc (PassesOwn.xe ⟨Y,Y,Y⟩) Y (U2 #[5] T.jj (xa (cv 5) xb)<|cv 4) (B2 Y (zD (yc (i:=6) nd Y<|aG Y)<|zD (yc (i:=7) nd Y<|aG Y) B7)) (xc (xO (Me ⟨Y,Y,Y⟩ (Yu T) hr.m #[5] T.Xk T.Gz.kp T.Gz.b .nil<|xa (cv 0) (xa (xo (uY T) hr.m T.vI T.uB xn<|xa (xy xG (cv 7) xj λ_ _=>Y) xb)<|xa (xy xG (cv 7) xj λ_ _=>Y) xb)))
  (xg (xO (vd ⟨Y,Y,Y⟩ (cv 0) T.xX T.ZP (ZG T) hr.m T.N2.b .nil (xa (xr yp (cv 6) xj) xb))))))
  (xg (xm (xq xu #[5] T.xW xN (xa (cv 5) xb))))))))))),?_⟩
  show oG λ_ U=>?_;obtain⟨cnt,_,_,hS⟩:=hF.st;apply U;have pO:cells.length=C0.length:=pe.1;show⟨F.S.st,F.S.dx,_,Y,hS.st,Y,?_⟩;show⟨F.S,cells,gq,cnt,F.fl,Y,hS,λt c m' H1 s1 hc qd qa et ec em=>?_⟩;show⟨t,_,_,.ref c,Y,Y,rM.of et,Y,?_⟩;show⟨c,_,Y,.inl<|kq.of ec,?_⟩;show⟨_,o,n,p,_,Y,s1.at hp,by rw[aa,pO];show hle,?_⟩;have pC:=hF.same s1;have p9:=hS.same s1;show⟨p,tt,.int o,.int n,us,rs,Y,s1.at hp,s1.at ht,L2.Paired.imp' (λ_ _ z=>z.same s1) pS,pT,λl ws H2 s2 hl el pR=>?_⟩;have pA:=p9.same s2;show⟨F.S.st,F.S.dx,_,Y,pA.st,Y,?_⟩;show⟨F.S,cells,gq,cnt,F.fl,Y,pA,pf.1,λm2 H3 s3 pj=>?_⟩;obtain rfl:=BZ.uniq pj pf.max;have qe:=pA.same s3;show⟨(m:Int),Y,?_⟩;show⟨l,_,Y,kq.of<|s3.at el,?_⟩;exists λlf pN=>xK (upd H3 lf _) rfl pN λH4 pD oZ=>?_;rw[jK,<-cQ]at oZ;have oU:Paired (zR K H1 l H4) (ws.drop m) ((yi rs).drop m):=Nn m<|L2.Paired.imp' (λ_ _ z=>(z.same s3).same pD) pR;obtain⟨X,hX⟩:∃X,X=yi rs:=⟨_,Y⟩;rw[<-hX]at oU k1 k2 hm pe rh;have p7:∀x∈X,Apart x:=by rw[hX];show VL
  have pK:(ws.drop m).length=X.length - m:=by rw[oU.length,bC]
  show⟨_,H1,lf,l,ws.drop m,X.drop m,Y,oZ,oU,λx hx=>⟨(rh x<|cx hx).1,(rh x<|cx hx).2.1,by rw[aa,pO];show VO (rh x<|cx hx).2.2⟩,λH5 s5=>?_⟩;have pF:xf H1 H5:=s2.trans (s3.trans<|pD.trans s5);have pP:=pC.same pF;have pG:xf H H5:=s1.trans pF;have pH:lf∉SS F.S:=(pC.same<|s2.trans s3).Im pN;show⟨lf,m,Y,Y,by lia,⟨_,kq.of<|s5.at oZ⟩,?_⟩;show Yd (xs:=(ws.drop m).map V.ref) (λi σ G=>Kp (SS F.S) H5 G/\(∃oN oK,tq a G F oN oK (k+301*i)/\uU oK (m+i)/\zo X (m+i) C0 oN)/\∃(x6 x7:Option V),σ=[E<|.ref F.S.st,E<|.ref p,E<|.int ((cells.map V.int).length:Nat),E<|.ref l,E<|.int m,E<|.ref lf,x6,x7])
   ⟨Kp.of<|xf.refl _,⟨cells,gq,pP,pf,pe⟩,_,_,Y⟩ (λi σ G hi hP=>kq.of<|hP.1 _ _ (s5.at oZ) pH) (λi x σ G Tt hx hP p8=>?_) (λσ G hP=>?_)
  ·show oG λ_ U=>?_;obtain⟨kp,⟨oN,oK,oX,oO,oQ⟩,x6,x7,rfl⟩:=hP;apply U;rw[av]at hx;show oG λ_ U=>?_;obtain⟨u,hu,rfl⟩:=aI.mp hx;obtain⟨⟨r,cs⟩,oV,t',c',⟨qb,pQ⟩,h1,h2,h3⟩:=Paired.An oU hu;apply U;rw[dU]at oV;have pV:=rh _<|aj oV;show oG λ_ U=>?_;obtain⟨o9,oW,oP⟩:=pV;apply U;have pq:=p7 _<|aj oV;have kG:∀b u,H5 b=E u->¬wM u->G b=E u:=λb u e mm=>kp b u e<|pP.BD e mm;have pI:c'∉SS F.S:=pC.Im pQ;have pZ:G c'=E (.lst<|cs.map V.int):=kp _ _ (s5.at h3) pI;have pL:=kG _ _ (s5.at h1) λz=>z;have pU:TupAt K G t' r:=TupAt.OG (h2.same s5) kG;have back:∀{G':Hp},Kp (SS F.S) G G'->Kp (SS F.S) H G':=λ{G'} z b u e nb=>z b u (kp b u (pG b u e) nb) nb;show se (upd G Tt _) λG1 hU=>?_;have sT:=xf.of_eq p8 hU;have eT:=xM hU;clear hU;show⟨Tt,_,Y,rM.of eT,Y,?_⟩;show⟨_,_,Y,?_⟩;exists⟨_,_,Y,?_⟩;show bG rfl ?_;show⟨u,_,_,.ref t',Y,Y,rM.of<|sT.at pL,Y,?_⟩;show⟨t',r,Y,pU.same sT,o9,λob G2 pE pW hO=>?_⟩;exists⟨u,_,_,.ref c',Y,Y,rM.of<|pE.at (sT.at pL),Y,?_⟩;have o7:=sT.trans pE;have pJ:Kp (SS F.S) H G2:=back<|Kp.of o7;show⟨F,ob,c',r,cs,oN,oK,_,Y,B,oX.same o7,hO,o9,(oX.same sT).Im pW,o7.at pZ,pI,(λd hd=>by rw[oQ.1];show oP d hd),λG3 o8 oY=>?_,λpk nn dd G3 oS oR kk o8 oY hh pY=>?_⟩
   ·rw[oQ.next oV ⟨o9,oW,oP⟩ pq]at oY;show oG λ_ U=>?_;obtain⟨n3,_,_,pz⟩:=oY.st;apply U;exists⟨F.S.st,F.S.dx,_,Y,pz.st,Y,?_⟩;have em:(m:Int)+(i:Int)=((m+i:Nat):Int):=by lia
    show⟨F,_,oK,_,_,Y,B,oY,oO.1,λG4 pd pB=>?_,λpk nn dd G4 oS oR kk pd pB hh pX=>?_⟩
    ·show⟨((kp.same o7).trans o8).trans pd,⟨_,_,pB.mono (by have:cs.length<=300:=oW;lia),?_,zo.refl X (m+i+1) C0⟩,_,_,Y⟩;show oO.mark
    ·obtain⟨rfl,hh⟩:=hh;show k2 pk nn dd G4 _ oR kk ((pJ.trans o8).trans pd) pB ⟨m+i,?_,?_,zo.back oV ⟨o9,oW,oP⟩⟩ pX
     ·rcases hh with rfl|rfl
      ·show oO
      ·show oO.Ig
     ·have:=(aE.mp oV).1;lia
   ·obtain⟨rfl,hh⟩:=hh;show k2 pk nn dd G3 oS _ kk (pJ.trans o8) oY ⟨m+i,oO,?_,?_⟩ pY
    ·have:=(aE.mp oV).1;lia
    ·have ph:=oQ.near oV;show zo.of (x:=(r,cs)) ⟨by rw[hh.1];show ph.1,λj hj hn=>?_⟩ oV;rw[hh.2 j (by rw[ph.1];show hj) hn];show ph.2 j hj hn
  ·show oG λ_ U=>?_;obtain⟨kp,⟨oN,oK,oX,oO,oQ⟩,x6,x7,rfl⟩:=hP;apply U;rw[aa,pK,show m+(X.length - m)=X.length by lia]at oO oQ;exists⟨lf,_,Y,.inl (kq.of<|kp _ _ (s5.at oZ) pH),?_⟩;rw[oQ.all]at oX;show k1 _ G oK (λb u e n=>kp b u (pG b u e) n) (oX.mono (by rw[aa,pK];lia)) oO
end
def CV{L:List (List α)}{r:List α}(h:L[i]? =E r):(L.take<|i+1).flatten=(L.take i).flatten++r:=by
 rw[bh,h,nN];simp
def RV{L:List (List Int)}(hn:L.flatten.Nodup){r:List Int}(h:L[i]? =E r)(hc:r[j]? =E c):c∉(L.take i).flatten++r.take j:=λhm=>by
 have e:L.flatten=(L.take<|i+1).flatten++(L.drop<|i+1).flatten:=by rw[<-nN,eZ]
 rw[e,CV h]at hn;obtain⟨_,h2,h3⟩:=gp.mp (gp.mp hn).1;rcases aZ.mp hm with z|z
 ·show h3 c z c (aj hc) rfl
 ·obtain⟨j',oK,e'⟩:=gP.mp z;obtain⟨hj,e2⟩:=aE.mp hc;show cc.mp h2 j' j #[2] hj #[2] (e'.trans e2.symm)
theorem Ej{L:List (List Int)}(h:∀l∈L,l.length<=300):∀i,(L.take i).flatten.length<=i*300
 |0=>by simp
 |i+1=>by
  have ih:=Ej h i;cases e:L[i]? with
  |none=>rw[bh,e];change(L.take i++[]).flatten.length<=_;rw[df];lia
  |some r=>rw[CV e,ao];have:=h r<|aj e;lia
def Dk(G:Hp)(d:sK)(S:List Int):Prop:=∃kvs,G d=E (.dK kvs)/\(∀c:Int,(yZ kvs<|.inl c).isSome=decide (c∈S))/\kvs.length<=S.length
def Dk.same{d:sK}{S:List Int}(h:Dk G d S)(s:xf G G'):Dk G' d S:=let⟨k,h1,h2⟩:=h;⟨k,s.at h1,h2⟩
def T6(kvs:List (Key×V))(k:Key)(v:V):(putK kvs k v).length<=kvs.length+1:=by
 unfold putK
 split
 ·rw[aa];lia
 ·rw[ao];simp
def Dk.put{S:List Int}{d:sK}(h:(∀c:Int,(yZ kvs<|.inl c).isSome=decide (c∈S))/\kvs.length<=S.length)(e:G d=E (.dK<|putK kvs (.inl c) v)):Dk G d (S++[c]):=by
 show⟨_,e,λx=>?_,by have:=T6 kvs (.inl c) v;rw[ao,bT];lia⟩;rw[UH]
 by_cases e:x=c
 ·subst e;rw[if_pos rfl];simp
 ·rw[if_neg λz=>e (by cases z;rfl),h.1 x];simp[e]
def Dw(rs:List xh):Prop:=rs.Pairwise λr s=>∀x∈s.tT,x∉r.sS
structure ui(o n:Int)(rs:List xh):Prop where
 few:rs.length<=300
 o0:0<=o
 o3:o<=300
 n0:0<=n
 n3:n<=300
 fit:∀r∈rs,r.ok/\OT o n r
 nd:(rs.map xh.cv).flatten.Nodup
 all:∀j:Nat,(j:Int)<n->(j:Int)∈(rs.map xh.cv).flatten
 Di:Dw rs
def LK(K:ax)(a:rP):Sp:=λvs H Q _=>tS λ(l:sK) (o n:Int) (rs:List xh)=>sU (vs=[.ref l]) (DQ K a H l rs) (ui o n rs) (∀H',xf H H'->Q .rp H')
def XB(K:ax)(a:rP):Sp:=λvs H Q _=>tS λ(l:sK) (o n:Int) (rs:List xh)=>sU (vs=[.ref l,.int n]) (DQ K a H l rs) (ui o n rs) (∀H',xf H H'->Q .rp H')
def JL(K:ax)(q:VK->Hp->Prop):Sp:=λvs H Q _=>tS λ(p:sK) (o n:Int) (rs:List xh)=>sU (vs=[.ref p]) (zB K H p o n rs) (ui o n rs) (q Q H)
def RU(K:ax):Sp:=JL K λQ H=>Q (.bl sX) H
def LJ(K:ax):Sp:=JL K λQ H=>∀H',xf H H'->Q .rp H'
def VJ(K:ax):Sp:=λvs H Q _=>tW λ(p C dx:sK) (fs:List (Str×V)) (to c:Int)=>BO (vs=[.ref p]) (H p=E (.ins C dx fs)) (tX K C) (xY K C "to") (xY K C "count") (fs.lookup ("to":Str)=E (.int to)) (fs.lookup ("count":Str)=E (.int c)) (∀t,H t=y->Q (.ref t) (upd H t<|.tup [.int to,.int<|to+c]))
section
variable {base:Heap} (T:Txt w K mg a)
def jt:T.uO.O P w mg base 1 (VJ K):=by
 specialize T.uO.g ["self"]
 ·show oG λ_ U=>?_;obtain⟨p,C,dx,fs,to,c,rfl,hp,cl,n1,n2,l1,l2,k⟩:=h;apply U;show⟨_,(xg (xm<|zp (xa #[11]<|xa (xr yp #[11]<|xv (cv 0) Y) xb))),?_⟩;show⟨p,C,dx,fs,_,Y,hp,cl,n1,l1,?_⟩;show⟨p,C,dx,fs,_,Y,hp,cl,n1,l1,?_⟩;show⟨p,C,dx,fs,_,Y,hp,cl,n2,l2,?_⟩;show⟨by walk_at"side",k⟩
noncomputable def Fy(to st c:Int):List Int:=if st=to then[]else yz st c.toNat
noncomputable def FV(to st c:Int):List Int:=if st=to then[]else yz to c.toNat
def Mn(a:rP):Sp:=λvs H Q _=>tE λ(p dx:sK) (to st c:Int)=>sU (vs=[.ref p]) (H p=E (.ins a.q0a dx<|Ax to st c)) (c.toNat<=2^24) (Ae H Q<|Fy to st c)
def Nb(a:rP):Sp:=λvs H Q _=>tE λ(p dx:sK) (to st c:Int)=>sU (vs=[.ref p]) (H p=E (.ins a.q0a dx<|Ax to st c)) (c.toNat<=2^24) (Ae H Q<|FV to st c)
def Mm(a:rP):Sp:=λvs H Q _=>tE λ(p dx t:sK) (to n:Int)=>tG (vs=[.ref p]) (H p=E (.ins a.q0b dx<|Ah to t n)) (Ae H Q [])
def Na(a:rP):Sp:=λvs H Q _=>tE λ(p dx t:sK) (to n:Int)=>sU (vs=[.ref p]) (H p=E (.ins a.q0b dx<|Ah to t n)) (n.toNat<=2^24) (Ae H Q<|yz to n.toNat)
def ZD:T.HH.O P w mg base 2 (Mn a):=by
 specialize T.HH.g ["self"]
 ·show oG λ_ U=>?_;obtain⟨p,dx,to,st,c,rfl,hp,hc,k⟩:=h;apply U;show⟨_,(xc (xC (yb<|xJ (cv 0) T.xD T.vn (vo T) hr.m T.ua.b .nil xn) (xg (xm<|yf xb)) xw)
  (xg (xm (xT (jo Y) #[5] T.AW jF (xa (EB #[5] T.uR (xa #[11] (xa (xr yp #[11] #[11]) xb))) xb))))),?_⟩
  show⟨p,dx,_,Y,hp,Y,?_⟩;show⟨p,dx,to,st,c,Y,hp,?_⟩;show⟨λe=>?_,λe=>?_⟩
  ·show⟨by decide,λl hl=>?_⟩;have e':st=to:=of_decide_eq_true e;show k l _ (xf.new hl) hl (by rw[xk,Fy,if_pos e'];rfl)
  ·have e':¬st=to:=of_decide_eq_false e;show⟨p,_,dx,_,.int st,Y,hp,T.xD,T.xZ,Y,?_⟩;show⟨p,_,dx,_,.int st,Y,hp,T.xD,T.xZ,Y,?_⟩;exists⟨p,_,dx,_,.int c,Y,hp,T.xD,T.yk,Y,?_⟩;intro r oK;left;have e2:zM st (st+c) 1=c.toNat:=by rw[uZ];congr 1;lia
   show⟨r,st,st+c,Y,xk,by rw[e2];show hc,λl hl=>?_⟩;rw[e2,Ef];have oN:H l=y:=xf.free (xf.new oK) hl;show k l _ ((xf.new oK).put oN) oN (by rw[xk,Fy,if_neg e'])
def xhL:T.HV.O P w mg base 2 (Nb a):=by
 specialize T.HV.g ["self"]
 ·show oG λ_ U=>?_;obtain⟨p,dx,to,st,c,rfl,hp,hc,k⟩:=h;apply U;show⟨_,(xc (xC (yb<|xJ (cv 0) T.xD T.vn (vo T) hr.m T.ua.b .nil xn) (xg (xm<|yf xb)) xw)
  (xg (xm (xJ (cv 0) T.xD T.jZ (zr T) hr.m T.yW.b .nil xn)))),?_⟩
  show⟨p,dx,_,Y,hp,Y,?_⟩;show⟨p,dx,to,st,c,Y,hp,?_⟩;show⟨λe=>?_,λe=>?_⟩
  ·show⟨by decide,λl hl=>?_⟩;have e':st=to:=of_decide_eq_true e;show k l _ (xf.new hl) hl (by rw[xk,FV,if_pos e'];rfl)
  ·have e':¬st=to:=of_decide_eq_false e;show⟨p,dx,_,Y,hp,Y,?_⟩;show⟨p,_,dx,_,to,c,Y,hp,T.xD,T.yy,T.yk,Y,Y,hc,λl H' s1 hl hv=>?_⟩;show k l H' s1 hl (by rw[hv,FV,if_neg e'])
def Y7:T.Hf.O P w mg base 1 (Mm a):=by
 specialize T.Hf.g ["self"]
 ·show oG λ_ U=>?_;obtain⟨p,dx,t,to,n,rfl,hp,k⟩:=h;apply U;show⟨_,(xg (xm<|yf xb)),?_⟩;show⟨by decide,λl hl=>k l _ (xf.new hl) hl (by rw[xk];rfl)⟩
def Z8:T.HG.O P w mg base 2 (Na a):=by
 specialize T.HG.g ["self"]
 ·show oG λ_ U=>?_;obtain⟨p,dx,t,to,n,rfl,hp,hn,k⟩:=h;apply U;show⟨_,(xg (xm<|xJ (cv 0) T.yl T.vW (zr T) hr.m T.yW.b .nil xn)),?_⟩;show⟨p,dx,_,Y,hp,Y,?_⟩;show⟨p,_,dx,_,to,n,Y,hp,T.yl,T.zi,T.yS,Y,Y,hn,k⟩
theorem K4(T:Txt w K mg a)(ho:xE K a H o r)(hl:r.cv.length<=300)
  (k:∀l H',xf H H'->H l=y->H' l=E (.lst<|r.cv.map V.int)->Q (.ref l) H') (tU:autoParam (σ[i]? =E (E<|.ref o)) rJ):
  zl a.q0b "covered" (Gs K) [] E0 (zv i) vx σ H Q\/zl a.q0a "covered" (Gs K) [] E0 (zv i) vx σ H Q:=by
 cases r with
 |put to sg=>
  obtain⟨dx,u,h1,h2⟩:=ho
  apply Or.inl
  unfold zl zv;rw[tU];have e:(sg.length:Int).toNat=sg.length:=by simp
  have oK:sg.length<=300:=by rw[show xh.cv (.put to sg)=yz to sg.length from rfl,yK]at hl;show hl
  show⟨o,dx,_,Y,h1,Y,o,a.q0b,dx,_,to,sg.length,Y,h1,T.yl,T.zi,T.yS,Y,Y,by rw[e];show aQ oK #[6],λl H' s n eL=>k l H' s n ?_⟩;rw[e]at eL;show eL
 |take to st c=>
  obtain⟨dx,h1⟩:=ho
  apply Or.inr
  unfold zl zv;rw[tU];have oK:c.toNat<=300:=by rw[show xh.cv (.take to st c)=yz to c.toNat from rfl,yK]at hl;show hl
  show⟨o,dx,_,Y,h1,Y,o,a.q0a,dx,_,to,c,Y,h1,T.xD,T.yy,T.yk,Y,Y,aQ oK #[6],λl H' s n eL=>k l H' s n eL⟩
theorem RT(T:Txt w K mg a)(ho:xE K a H o r)(hc:r.cv.length<=300)
  (k:∀l H',xf H H'->H l=y->H' l=E (.lst<|r.tT.map V.int)->Q (.ref l) H') (tU:autoParam (σ[i]? =E (E<|.ref o)) rJ):
  zl a.q0b "reads" (Mm a) [] E0 (zv i) vx σ H Q\/zl a.q0a "reads" (Mn a) [] E0 (zv i) vx σ H Q:=by
 cases r with
 |put to sg=>
  obtain⟨dx,u,h1,h2⟩:=ho
  apply Or.inl
  unfold zl zv;rw[tU];show⟨o,dx,_,Y,h1,Y,o,dx,u,to,sg.length,Y,h1,λl H' s n eL=>k l H' s n eL⟩
 |take to st c=>
  obtain⟨dx,h1⟩:=ho
  apply Or.inr
  unfold zl zv;rw[tU];have oK:c.toNat<=300:=by rw[show xh.cv (.take to st c)=yz to c.toNat from rfl,yK]at hc;show hc
  show⟨o,dx,_,Y,h1,Y,o,dx,to,st,c,Y,h1,aQ oK #[6],λl H' s n eL=>k l H' s n eL⟩
theorem RS(T:Txt w K mg a)(ho:xE K a H o r)(hc:r.cv.length<=300)
  (k:∀l H',xf H H'->H l=y->H' l=E (.lst<|r.sS.map V.int)->Q (.ref l) H') (tU:autoParam (σ[i]? =E (E<|.ref o)) rJ):
  zl a.q0b "writes" (Na a) [] E0 (zv i) vx σ H Q\/zl a.q0a "writes" (Nb a) [] E0 (zv i) vx σ H Q:=by
 cases r with
 |put to sg=>
  obtain⟨dx,u,h1,h2⟩:=ho
  apply Or.inl
  unfold zl zv;rw[tU];have e:(sg.length:Int).toNat=sg.length:=by simp
  have oK:sg.length<=300:=by rw[show xh.cv (.put to sg)=yz to sg.length from rfl,yK]at hc;show hc
  show⟨o,dx,_,Y,h1,Y,o,dx,u,to,sg.length,Y,h1,by rw[e];show aQ oK #[6],λl H' s n eL=>k l H' s n ?_⟩;rw[e]at eL;show eL
 |take to st c=>
  obtain⟨dx,h1⟩:=ho
  apply Or.inr
  unfold zl zv;rw[tU];have oK:c.toNat<=300:=by rw[show xh.cv (.take to st c)=yz to c.toNat from rfl,yK]at hc;show hc
  show⟨o,dx,_,Y,h1,Y,o,dx,to,st,c,Y,h1,aQ oK #[6],λl H' s n eL=>k l H' s n eL⟩
theorem ui.len{o:Int}{rs:List xh}(h:ui o n rs)(hr:r∈rs):r.cv.length<=300/\r.sS.length<=300:=by
 obtain⟨hk,hf⟩:=h.fit r hr;have hn:=h.n3;cases r with
 |take to st c=>
  obtain⟨k1,k2,k3⟩:=hk;have h2:=hf.2;show⟨by simp only[xh.cv,yK];lia,?_⟩;simp only[xh.sS];split
  ·simp
  ·rw[yK];lia
 |put to sg=>
  have h2:to+(sg.length:Int)<=n:=hf;have k1:=hk.1;simp only[xh.cv,xh.sS,yK];lia
def xfK:T.jV.O P w mg base 2 (LK K a):=by
 specialize T.jV.g ["rows","covered","number","row","cell"]
 ·show oG λ_ U=>?_;obtain⟨l,o,n,rs,rfl,⟨ts,hl,hp⟩,hF,q⟩:=h;apply U;show⟨_,(xc (xp (i:=1) nd Y (aG Y) Gb)
  (xc (zc PassesOwn.never Y (F7 #[5] T.jj<|xa (cv 0) xb) (B2 Y (zD (yc (i:=2) nd Y<|aG Y)<|zD (yc (i:=3) nd Y<|aG Y) B7)) (xg (zc PassesOwn.never Y (xS (jM (xJ (cv 3) T.yl T.vW (zr T) hr.m T.yW.b .nil xn)<|xJ (cv 3) T.xD T.jZ (zr T) hr.m T.yW.b .nil xn)) (yc (i:=4) nd Y<|aG Y) (xc (xC (CA (DX (AU hr) (cv 4)<|cv 1) #[5]) vc xw)
  (xg (FZ (AU hr) (cv 1) (cv 4) yG Y))))))
  (xg (xm zT)))),?_⟩
  have oX:=hF.few;have o7:ts.length=rs.length:=hp.length;left;intro d oQ;show se (upd H d _) λH1 oN=>?_;have oO:=xf.of_eq oQ oN;have ed:Dk H1 d []:=⟨[],xM oN,λc=>by simp[Gd],ah _⟩;clear oN;exists⟨l,Y,⟨_,oO.seq hl⟩,?_⟩;show NN (xs:=ts.map V.ref) (λi σ G=>xf H G/\Dk G d ((rs.map xh.cv).take i).flatten/\∃x2 x3 x4,σ=[E<|.ref l,E<|.ref d,x2,x3,x4]) ⟨oO,ed,_,_,_,Y⟩ (λi σ G hi hP=>hP.1.seq hl) (λi x σ G T0 hx hP oY=>?_) (λσ G hP=>?_)
  ·show oG λ_ U=>?_;obtain⟨s1,hd,x2,x3,x4,rfl⟩:=hP;apply U;rw[av]at hx;show oG λ_ U=>?_;obtain⟨o',ho,rfl⟩:=aI.mp hx;obtain⟨r,hr,oW⟩:=Paired.An hp ho;apply U;have oU:r∈rs:=aj hr;have oV:=hF.len oU;have hi:i<ts.length:=(aE.mp ho).1;show se (upd G T0 _) λG2 hU=>?_;have s2:=xf.of_eq oY hU;have eT:=xM hU;clear hU;show⟨T0,_,Y,rM.of eT,Y,?_⟩;show⟨_,_,Y,?_⟩;exists⟨_,_,Y,?_⟩;exists bG rfl ?_;show K4 (K:=K) T (r:=r) (oW.same<|s1.trans s2) oV.1 λL G3 s3 hL eL=>?_;exists⟨L,Y,⟨_,kq.of eL⟩,?_⟩;have hG:=hd.same<|s2.trans s3;have oS:L≠d:=zt eL hG.choose_spec.1 (λz=>by cases z);show yU (xs:=r.cv.map V.int) (λj σ G4=>xf H G4/\G4 L=E (.lst<|r.cv.map V.int)/\Dk G4 d (((rs.map xh.cv).take i).flatten++r.cv.take j)/\∃x4,σ=[E<|.ref l,E<|.ref d,E<|.int i,E<|.ref o',x4])
    ⟨s1.trans<|s2.trans s3,eL,by rw[kC,df];show hG,_,Y⟩ (λj σ G4 hj hQ=>kq.of hQ.2.1) (λj x σ G4 hx hQ=>?_) (λσ G4 hQ=>?_)
   ·show oG λ_ U=>?_;obtain⟨s4,oR,⟨kvs,oK,hk⟩,x4,rfl⟩:=hQ;apply U;rw[av]at hx;show oG λ_ U=>?_;obtain⟨c,hc,rfl⟩:=aI.mp hx;apply U;have hj:j<r.cv.length:=(aE.mp hc).1;have o8:kvs.length<=i*300+j:=by
     have h1:=Ej (L:=rs.map xh.cv) (λl hl=>by obtain⟨r,hr,rfl⟩:=aY.mp hl;show(hF.len hr).1) i;have h2:=hk.2;rw[ao,a8]at h2;lia
    exists⟨d,_,Y,Aw.k (k:=cJ c) oK,?_⟩;rw[hk.1 c,decide_eq_false<|RV hF.nd (show(rs.map xh.cv)[i]? =E r.cv by rw[av,hr];rfl) hc];walk_at"N";show⟨d,_,Y,Bb.k (k:=cJ c) oK (by rw[ak];lia),?_⟩;show se (upd G4 d _) λG5 hV=>?_;have s5:xf H G5:=xf.wr s4 oQ hV;have oZ:G5 L=E (.lst<|r.cv.map V.int):=by rw[<-hV,xl oS];show oR
    have oP:=Dk.put hk<|xM hV;rw[bu,show r.cv.take j++[c]=r.cv.take (j+1)by rw[bh,hc];rfl]at oP;show⟨s5,oZ,oP,_,Y⟩
   ·show oG λ_ U=>?_;obtain⟨s4,oR,oK,x4,rfl⟩:=hQ;apply U;rw[aa,bo]at oK;show⟨s4,by rw[CV (show(rs.map xh.cv)[i]? =E r.cv by rw[av,hr];rfl)];show oK,_,_,_,Y⟩
  ·show oG λ_ U=>?_;obtain⟨s1,hd,x2,x3,x4,rfl⟩:=hP;apply U;show q G s1
def XA:T.GR.O P w mg base 2 (XB K a):=by
 specialize T.GR.g ["rows","new","covered","row","cell"]
 ·show oG λ_ U=>?_;obtain⟨l,o,n,rs,rfl,⟨ts,hl,hp⟩,hF,q⟩:=h;apply U;show⟨_,(xc (xp (i:=2) nd Y (aG Y) Gb)
  (xc (zc PassesOwn.never Y (xS<|cv 0) (yc (i:=3) nd Y<|aG Y) (xg<|zc PassesOwn.never Y (xS (jM (xJ (cv 3) T.yl T.vW (zr T) hr.m T.yW.b .nil xn)<|xJ (cv 3) T.xD T.jZ (zr T) hr.m T.yW.b .nil xn)) (yc (i:=4) nd Y<|aG Y) (xg<|FZ (AU hr) (cv 2) (cv 4) yG Y)))
  (xc (zc PassesOwn.never Y (EC #[5] T.uR<|xa (cv 1) xb) (yc (i:=4) nd Y<|aG Y) (xg<|xC (CA (WA (AU hr) (cv 4)<|cv 2) #[5]) vc xw))
  (xg (xm zT))))),?_⟩
  have oX:=hF.few;have oZ:ts.length=rs.length:=hp.length;left;intro d oQ;show se (upd H d _) λH1 oN=>?_;have oO:=xf.of_eq oQ oN;have ed:Dk H1 d []:=⟨[],xM oN,λc=>by simp[Gd],ah _⟩;clear oN;exists⟨l,Y,⟨_,oO.seq hl⟩,?_⟩;show yU (xs:=ts.map V.ref) (λi σ G=>xf H G/\Dk G d ((rs.map xh.cv).take i).flatten/\∃x3 x4,σ=[E<|.ref l,E<|.int n,E<|.ref d,x3,x4]) ⟨oO,ed,_,_,Y⟩ (λi σ G hi hP=>hP.1.seq hl) (λi x σ G hx hP=>?_) (λσ G hP=>?_)
  ·show oG λ_ U=>?_;obtain⟨s1,hd,x3,x4,rfl⟩:=hP;apply U;rw[av]at hx;show oG λ_ U=>?_;obtain⟨o',ho,rfl⟩:=aI.mp hx;obtain⟨r,hr,oW⟩:=Paired.An hp ho;apply U;have oU:r∈rs:=aj hr;have oV:=hF.len oU;have hi:i<ts.length:=(aE.mp ho).1;left;show K4 (K:=K) T (r:=r) (oW.same s1) oV.1 λL G3 s3 hL eL=>?_;exists⟨L,Y,⟨_,kq.of eL⟩,?_⟩;have hG:=hd.same s3;have oS:L≠d:=zt eL hG.choose_spec.1 (λz=>by cases z);show yU (xs:=r.cv.map V.int) (λj σ G4=>xf H G4/\G4 L=E (.lst<|r.cv.map V.int)/\Dk G4 d (((rs.map xh.cv).take i).flatten++r.cv.take j)/\∃x4,σ=[E<|.ref l,E<|.int n,E<|.ref d,E<|.ref o',x4])
    ⟨s1.trans s3,eL,by rw[kC,df];show hG,_,Y⟩ (λj σ G4 hj hQ=>kq.of hQ.2.1) (λj x σ G4 hx hQ=>?_) (λσ G4 hQ=>?_)
   ·show oG λ_ U=>?_;obtain⟨s4,oR,⟨kvs,oK,hk⟩,x4,rfl⟩:=hQ;apply U;rw[av]at hx;show oG λ_ U=>?_;obtain⟨c,hc,rfl⟩:=aI.mp hx;apply U;have hj:j<r.cv.length:=(aE.mp hc).1;have o7:kvs.length<=i*300+j:=by
     have h1:=Ej (L:=rs.map xh.cv) (λl hl=>by obtain⟨r,hr,rfl⟩:=aY.mp hl;show(hF.len hr).1) i;have h2:=hk.2;rw[ao,a8]at h2;lia
    show⟨d,_,Y,Bb.k (k:=cJ c) oK (by rw[ak];lia),?_⟩;show se (upd G4 d _) λG5 hV=>?_;have s5:xf H G5:=xf.wr s4 oQ hV;have oY:G5 L=E (.lst<|r.cv.map V.int):=by rw[<-hV,xl oS];show oR
    have oP:=Dk.put hk<|xM hV;rw[bu,show r.cv.take j++[c]=r.cv.take (j+1)by rw[bh,hc];rfl]at oP;show⟨s5,oY,oP,_,Y⟩
   ·show oG λ_ U=>?_;obtain⟨s4,oR,oK,x4,rfl⟩:=hQ;apply U;rw[aa,bo]at oK;show⟨s4,by rw[CV (show(rs.map xh.cv)[i]? =E r.cv by rw[av,hr];rfl)];show oK,_,_,Y⟩
  ·show oG λ_ U=>?_;obtain⟨s1,⟨kvs,hd,hk,_⟩,x3,x4,rfl⟩:=hP;apply U;rw[bE (by rw[aa,aa];lia)]at hk;left;show MQ (λi σ G2=>G2=G/\∃x4,σ=[E<|.ref l,E<|.int n,E<|.ref d,x3,x4]) ⟨Y,_,Y⟩ (λi σ G2 hi hQ=>?_) (λσ G2 hQ=>?_)
   ·show oG λ_ U=>?_;obtain⟨rfl,x4,rfl⟩:=hQ;apply U;rw[uZ]at hi;have ei:(0+(i:Int)*1)=(i:Int):=by lia
    rw[ei];exists⟨d,_,Y,Aw.k (k:=cJ (i:Int)) hd,?_⟩;rw[hk,decide_eq_true<|hF.all i #[2]];show⟨by walk_at"no",λ_=>⟨Y,_,Y⟩⟩
   ·show oG λ_ U=>?_;obtain⟨rfl,x4,rfl⟩:=hQ;apply U;show q G2 s1
def Y6:T.Hb.O P w mg base 3 (LK K a):=by
 specialize T.Hb.g ["rows","written","number","row","cell"]
 ·show oG λ_ U=>?_;obtain⟨l,o,n,rs,rfl,⟨ts,hl,hp⟩,hF,q⟩:=h;apply U;show⟨_,(xc (xp (i:=1) nd Y (aG Y) Gb)
  (xc (zc PassesOwn.never Y (F7 #[5] T.jj<|xa (cv 0) xb) (B2 Y (zD (yc (i:=2) nd Y<|aG Y)<|zD (yc (i:=3) nd Y<|aG Y) B7)) (xc (zc PassesOwn.never Y (xS (jM (xJ (cv 3) T.yl T.YT (Y7 T) hr.m T.Hf.b .nil xn)<|xJ (cv 3) T.xD T.ZN (ZD T) hr.m T.HH.b .nil xn)) (yc (i:=4) nd Y<|aG Y) (xg<|xC (CA (DX (AU hr) (cv 4)<|cv 1) #[5]) vc xw))
  (xg (zc PassesOwn.never Y (xS (jM (xJ (cv 3) T.yl T.ZQ (Z8 T) hr.m T.HG.b .nil xn) (xJ (cv 3) T.xD T.xhA (xhL T) hr.m T.HV.b .nil xn))) (yc (i:=4) nd Y (aG Y)) (xg (FZ (AU hr) (cv 1) (cv 4) yG Y))))))
  (xg (xm zT)))),?_⟩
  have o9:=hF.few;have ph:ts.length=rs.length:=hp.length;left;intro d oW;show se (upd H d _) λH1 oN=>?_;have oP:=xf.of_eq oW oN;have ed:Dk H1 d []:=⟨[],xM oN,λc=>by simp[Gd],ah _⟩;clear oN;exists⟨l,Y,⟨_,oP.seq hl⟩,?_⟩;show NN (xs:=ts.map V.ref) (λi σ G=>xf H G/\Dk G d ((rs.map xh.sS).take i).flatten/\∃x2 x3 x4,σ=[E<|.ref l,E<|.ref d,x2,x3,x4]) ⟨oP,ed,_,_,_,Y⟩ (λi σ G hi hP=>hP.1.seq hl) (λi x σ G T0 hx hP pe=>?_) (λσ G hP=>?_)
  ·show oG λ_ U=>?_;obtain⟨s1,hd,x2,x3,x4,rfl⟩:=hP;apply U;rw[av]at hx;show oG λ_ U=>?_;obtain⟨o',ho,rfl⟩:=aI.mp hx;obtain⟨r,hr,oS⟩:=Paired.An hp ho;apply U;have o7:r∈rs:=aj hr;have oR:=hF.len o7;have hi:i<ts.length:=(aE.mp ho).1;show se (upd G T0 _) λG2 hU=>?_;have s2:=xf.of_eq pe hU;have eT:=xM hU;clear hU;show⟨T0,_,Y,rM.of eT,Y,?_⟩;show⟨_,_,Y,?_⟩;exists⟨_,_,Y,?_⟩;exists bG rfl ?_;show RT (K:=K) T (r:=r) (oS.same<|s1.trans s2) oR.1 λL G3 s3 hL eL=>?_;exists⟨L,Y,⟨_,kq.of eL⟩,?_⟩;have oQ:xf H G3:=s1.trans<|s2.trans s3;have oX:=hd.same<|s2.trans s3;show yU (xs:=r.tT.map V.int) (λj σ G4=>G4=G3/\∃x4,σ=[E<|.ref l,E<|.ref d,E<|.int i,E<|.ref o',x4])
    ⟨Y,_,Y⟩ (λj σ G4 hj hQ=>by rw[hQ.1];show kq.of eL) (λj x σ G4 hx hQ=>?_) (λσ G4 hQ=>?_)
   ·show oG λ_ U=>?_;obtain⟨rfl,x4,rfl⟩:=hQ;apply U;rw[av]at hx;show oG λ_ U=>?_;obtain⟨c,hc,rfl⟩:=aI.mp hx;obtain⟨kvs,oK,hk,_⟩:=oX;apply U;exists⟨d,_,Y,Aw.k (k:=cJ c) oK,?_⟩;rw[hk c,decide_eq_false λhm=>?_]
    ·show⟨by walk_at"no",λ_=>⟨Y,_,Y⟩⟩
    show oG λ_ U=>?_;obtain⟨w,hw,pd⟩:=dw.mp hm;obtain⟨j',o8,ew⟩:=gP.mp hw;apply U;rw[List.getElem_map]at ew;rw[aa]at o8;have oU:=aE.mp hr;show cc.mp hF.Di j' i #[2] oU.1 #[2] c (by rw[oU.2];show aj hc) (by rw[ew];show pd)
   ·show oG λ_ U=>?_;obtain⟨rfl,x4,rfl⟩:=hQ;exists U ?_;show RS (K:=K) T (r:=r) (oS.same oQ) oR.1 λL2 G5 s5 pk oO=>?_;exists⟨L2,Y,⟨_,kq.of oO⟩,?_⟩;have hG:=oX.same s5;have oZ:L2≠d:=zt oO hG.choose_spec.1 (λz=>by cases z);show yU (xs:=r.sS.map V.int) (λj σ G4=>xf H G4/\G4 L2=E (.lst<|r.sS.map V.int)/\Dk G4 d (((rs.map xh.sS).take i).flatten++r.sS.take j)/\∃x4,σ=[E<|.ref l,E<|.ref d,E<|.int i,E<|.ref o',x4])
     ⟨oQ.trans s5,oO,by rw[kC,df];show hG,_,Y⟩ (λj σ G4 hj hQ=>kq.of hQ.2.1) (λj x σ G4 hx hQ=>?_) (λσ G4 hQ=>?_)
    ·show oG λ_ U=>?_;obtain⟨s4,oY,⟨kvs,oK,hk⟩,x4,rfl⟩:=hQ;apply U;rw[av]at hx;show oG λ_ U=>?_;obtain⟨c,hc,rfl⟩:=aI.mp hx;apply U;have hj:j<r.sS.length:=(aE.mp hc).1;have pj:kvs.length<=i*300+j:=by
      have h1:=Ej (L:=rs.map xh.sS) (λl hl=>by obtain⟨r,hr,rfl⟩:=aY.mp hl;show(hF.len hr).2) i;have h2:=hk.2;rw[ao,a8]at h2;lia
     show⟨d,_,Y,Bb.k (k:=cJ c) oK (by rw[ak];lia),?_⟩;show se (upd G4 d _) λG5 hV=>?_;have s5:xf H G5:=xf.wr s4 oW hV;have pf:G5 L2=E (.lst<|r.sS.map V.int):=by rw[<-hV,xl oZ];show oY
     have oV:=Dk.put hk<|xM hV;rw[bu,show r.sS.take j++[c]=r.sS.take (j+1)by rw[bh,hc];rfl]at oV;show⟨s5,pf,oV,_,Y⟩
    ·show oG λ_ U=>?_;obtain⟨s4,oY,oK,x4,rfl⟩:=hQ;apply U;rw[aa,bo]at oK;show⟨s4,by rw[CV (show(rs.map xh.sS)[i]? =E r.sS by rw[av,hr];rfl)];show oK,_,_,_,Y⟩
  ·show oG λ_ U=>?_;obtain⟨s1,hd,x2,x3,x4,rfl⟩:=hP;apply U;show q G s1
def Ny:T.EF.O P w mg base 3 YL:=by
 specialize T.EF.g ["value"]
 ·show oG λ_ U=>?_;obtain⟨i,rfl,h0,h3,q⟩:=h;apply U;show⟨_,(xg<|xm (zX (xo (uc T) hr.m T.uw T.zd xn (xa xj<|xa (cv 0) xb))<|um (yQ Co (cv 0)<|zf (v:=.int 300) #[5] T.Fv ⟨_,Y⟩))),?_⟩;show⟨_,i,Y,?_⟩;rw[decide_eq_true h0];walk_at"Y";change Q (.bl<|decide (i<=300)) H;rw[decide_eq_true h3];show q
def xgR:T.HL.O P w mg base 4 (RU K):=by
 specialize T.HL.g ["paper"]
 ·show oG λ_ U=>?_;obtain⟨p,o,n,rs,rfl,⟨tt,ts,hp,ht,oK⟩,⟨hl,oO,oN,oQ,oP,_,_,_,_⟩,q⟩:=h;apply U;show⟨_,(xg (xm<|zX (xo (Ny T) hr.m T.NJ T.EF xn<|xa #[15] xb) (zX (xo (Ny T) hr.m T.NJ T.EF xn<|xa #[15] xb)<|um (yQ Co (xq xu #[5] T.xW xN<|xa #[15] xb)<|zf (v:=.int 300) #[5] T.Fv ⟨_,Y⟩)))),?_⟩;show⟨p,_,_,.int o,Y,Y,rM.of hp,Y,?_⟩;show⟨o,Y,oO,oN,?_⟩;walk_at"Y";show⟨p,_,_,.int n,Y,Y,rM.of hp,Y,?_⟩;show⟨n,Y,oQ,oP,?_⟩;walk_at"Y";show⟨p,_,_,.ref tt,Y,Y,rM.of hp,Y,?_⟩;show⟨tt,_,Y,.inr<|rM.of ht,?_⟩;rw[aa,oK.length];change Q (.bl<|decide ((rs.length:Int)<=300)) H;rw[decide_eq_true #[2]];show q
theorem xeT:T.jz.O P w mg base 6 (Xa K):=by
 specialize T.jz.g ["told","old","new","row"]
 ·show oG λ_ U=>?_;obtain⟨t,r,old,new,rfl,ht,hk,hf,q⟩:=h;apply U;show⟨_,(xc (Tw Y (xg<|xp (i:=3) nd Y (aG Y) (xo (uY T) hr.m T.vI T.uB xn<|xa (cv 0) xb)))
  (xc (xC (PW.pt (vj (yb<|xq zY #[5] T.yB yq (xa (cv 3)<|xa (zf (v:=.ref a.q0a) #[5] T.Bu Y) xb))<|uE (xA Af (xr yp (xv (cv 3) Y)<|xv (cv 3) Y)<|cv 1))) (xg<|xm yG) xw)
  (xg (xm (yQ Co (xy xG (jM (xJ (cv 3) T.yl T.NQ (jt T) hr.m T.uO.b .nil xn) (xJ (cv 3) T.xD T.Oa (jt T) hr.m T.uO.b .nil xn)) xj (λ_ _=>Y)) (cv 2)))))),?_⟩
  show⟨t,r,Y,ht,hk,λo H1 s1 _ ho=>?_⟩;cases r with
  |take to st c=>
   obtain⟨dx,ho⟩:=ho;show⟨_,_,_,_,sX,Y,Y,T.B4 ho,T.vL,?_⟩;walk_at"Y";show⟨o,_,dx,_,.int st,Y,ho,T.xD,T.xZ,Y,?_⟩;exists⟨o,_,dx,_,.int c,Y,ho,T.xD,T.yk,Y,?_⟩;rw[decide_eq_false (show¬old<st+c from by have:=hf.1;lia)];walk_at"n";show dP ?_;show⟨o,dx,_,Y,ho,Y,?_⟩;show⟨o,a.q0a,dx,_,to,c,Y,ho,T.xD,T.yy,T.yk,Y,Y,?_⟩;show λt3 oN=>xK (upd H1 t3 _) rfl oN λH3 oK oO=>?_;show⟨t3,_,_,.int<|to+c,Y,Y,rM.of oO,Y,?_⟩;change Q (.bl<|decide (to+c<=new)) H3;rw[decide_eq_true hf.2];show q H3 (s1.trans oK)
  |put to sg=>
   show oG λ_ U=>?_;obtain⟨dx,u,ho,hu⟩:=ho;apply U;show⟨_,_,_,_,sJ,Y,Y,T.DR ho,T.GW,?_⟩;walk_at"N";walk_at"n";show aG ?_;show⟨o,dx,_,Y,ho,Y,?_⟩;show⟨o,a.q0b,dx,_,to,sg.length,Y,ho,T.yl,T.zi,T.yS,Y,Y,?_⟩;show λt3 oN=>xK (upd H1 t3 _) rfl oN λH3 oK oO=>?_;show⟨t3,_,_,.int<|to+sg.length,Y,Y,rM.of oO,Y,?_⟩;change Q (.bl<|decide (to+(sg.length:Int)<=new)) H3;rw[decide_eq_true (show to+(sg.length:Int)<=new from hf)];show q H3 (s1.trans oK)
def xen:T.jc.O P w mg base 7 (LJ K):=by
 specialize T.jc.g ["paper","number","told"]
 ·show oG λ_ U=>?_;obtain⟨p,o,n,rs,rfl,⟨tt,ts,hp,ht,oN⟩,hF,q⟩:=h;apply U;show⟨_,(xc (zc PassesOwn.never Y (U6 #[5] T.jj<|xa #[15] xb) (B2 Y (zD (yc (i:=1) nd Y<|aG Y)<|zD (yc (i:=2) nd Y<|aG Y) B7)) (xg<|xC (zK<|yb (xo (xeT T) hr.m T.xfy T.jz xn<|xa (cv 2) (xa #[15]<|xa #[15] xb))) (xg (xm<|cv 1)) xw))
  (xg (xm zT))),?_⟩
  show⟨p,_,_,.ref tt,Y,Y,rM.of hp,Y,?_⟩;exists⟨tt,Y,⟨_,rM.of ht⟩,?_⟩;show Yg (xs:=ts.map V.ref) (λi σ H1=>xf H H1/\∃x1 x2,σ=[E<|.ref p,x1,x2]) ⟨xf.refl _,_,_,Y⟩ (λi σ H1 hi hP=>hP.1.tP<|rM.of ht) (λi x σ H1 T0 hx hP oQ=>?_) (λσ H1 hP=>?_)
  ·show oG λ_ U=>?_;obtain⟨s1,x1,x2,rfl⟩:=hP;apply U;rw[av]at hx;show oG λ_ U=>?_;obtain⟨t0,oO,rfl⟩:=aI.mp hx;obtain⟨r,oP,pr⟩:=yD oN oO;obtain⟨k1,k2⟩:=hF.fit r<|aj oP;apply U;show se (upd H1 T0 _) λH2 hU=>?_;have s2:=xf.of_eq oQ hU;have eT:=xM hU;clear hU;have oK:=s1.trans s2;show⟨T0,_,Y,rM.of eT,Y,?_⟩;show⟨_,_,Y,?_⟩;exists⟨_,_,Y,?_⟩;show bG rfl ?_;show⟨p,_,_,.int o,Y,Y,rM.of<|oK.at hp,Y,?_⟩;show⟨p,_,_,.int n,Y,Y,rM.of<|oK.at hp,Y,?_⟩;show⟨t0,r,o,n,Y,pr.same oK,k1,k2,λH3 s3=>?_⟩;walk_at"N";show⟨oK.trans s3,_,_,Y⟩
  ·show oG λ_ U=>?_;obtain⟨s1,x1,x2,rfl⟩:=hP;apply U;show q H1 s1
def LI:T.Ei.O P w mg base 8 (LJ K):=by
 specialize T.Ei.g ["paper","wrong","rows","fault"]
 ·show oG λ_ U=>?_;obtain⟨p,o,n,rs,rfl,hP,hF,q⟩:=h;apply U;show⟨_,(xc (xC (zK<|yb (xo (xgR T) hr.m T.xhl T.HL xn<|xa (cv 0) xb)) vc xw)
  (xc (xp (i:=1) nd Y (aG Y) (xo (xen T) hr.m T.xeO T.jc xn<|xa (cv 0) xb))
  (xc (xC (D9<|cv 1) vc xw)
  (xc (EI (i:=2) #[4] Y nd Y Y (D0<|xy xG (cv 0) xj λ_ _=>Y) (λ_ _ _ _=>(xo (uY T) hr.m T.vI T.uB xn<|xa (cv 0) xb)) λ_ _ _ _=>yo)
  (xc (xp (i:=3) nd Y (aG Y) (xo (xfK T) hr.m T.xgx T.jV xn<|xa (cv 2) xb))
  (xc (jO<|xC (AX<|cv 3) (xg (xp (i:=3) nd Y (aG Y)<|xo (XA T) hr.m T.Vt T.GR xn (xa (cv 2)<|xa #[15] xb))) xw)
  (xc (jO<|xC (AX<|cv 3) (xg<|xp (i:=3) nd Y (aG Y) (xo (Y6 T) hr.m T.XW T.Hb xn<|xa (cv 2) xb)) xw)
  (xg (xm (cv 3)))))))))),?_⟩
  have hl:=hF.few;show⟨p,o,n,rs,Y,hP,hF,?_⟩;walk_at"N";show⟨p,o,n,rs,Y,hP,hF,λH1 s1=>?_⟩;walk_at"N";show oG λ_ U=>?_;obtain⟨tt,ts,hp,ht,oO⟩:=hP.same s1;apply U;show⟨p,_,_,.ref tt,Y,Y,rM.of hp,Y,?_⟩;show⟨tt,Y,⟨_,rM.of ht⟩,?_⟩;show GF (λi acc G=>∃(os:List sK),acc=os.map V.ref/\Paired (xE K a G) os (rs.take i)) (rM.of ht) (by rw[aa,oO.length,ak];lia) ⟨[],Y,.nil⟩ (λi x acc H3 sI hx s3 oK hP R hR=>?_) (λD acc H3 sI hD oX s3 oK hP oW he=>?_)
  ·show oG λ_ U=>?_;obtain⟨os,rfl,oN⟩:=hP;apply U;rw[av]at hx;show oG λ_ U=>?_;obtain⟨t0,oS,rfl⟩:=aI.mp hx;obtain⟨r,oQ,pr⟩:=yD oO oS;apply U;show⟨t0,r,Y,pr.same<|s3.trans oK,(hF.fit r<|aj oQ).1,λo u5 s6 oY oV=>hR _ _ s6 λH6 sx kx=>⟨os++[o],by simp,?_⟩⟩;rw[bh,oQ];show yT (L2.Paired.imp' (λ_ _ z=>z.same sx) oN) (oV.mv kx)
  show oG λ_ U=>?_;obtain⟨os,rfl,oN⟩:=hP;apply U;rw[aa,oO.length,bo]at oN;have oP:=L2.Paired.imp' (λ_ _ (z:xE K a H3 _ _)=>z.same oK) oN;have sA:xf H sI:=s1.trans<|s3.trans oK;have oU:=(s3.trans oK).at hp;clear oW oX s3 oK oN oO ht hp;have ho:∀{G},xf sI G->DQ K a G D rs:=λsG=>⟨os,kq.of<|sG.at he,L2.Paired.imp' (λ_ _ z=>z.same sG) oP⟩;show⟨D,o,n,rs,Y,ho<|xf.refl _,hF,λH4 s4=>?_⟩;show⟨λrq G=>rq=[E<|.ref p,E .rp,E<|.ref D,E .rp]/\xf sI G,?_,?_⟩
  ·walk_at"Y";show⟨p,_,_,.int n,Y,Y,rM.of<|s4.at oU,Y,?_⟩;show⟨D,o,n,rs,Y,ho s4,hF,λH5 s5=>⟨Y,s4.trans s5⟩⟩
  rintro rq G ⟨rfl,sG⟩;show⟨λrq G2=>rq=[E<|.ref p,E .rp,E<|.ref D,E .rp]/\xf sI G2,?_,?_⟩
  ·walk_at"Y";show⟨D,o,n,rs,Y,ho sG,hF,λH5 s5=>⟨Y,sG.trans s5⟩⟩
  rintro rq G2 ⟨rfl,oR⟩;show q G2 (sA.trans oR)
end
noncomputable def xh.cst:xh->Int
 | .take .. =>4
 | .put _ sg=>2+sg.length
def T5:Sp:=λvs H Q sQ=>∃(p:sK),vs=[.ref p]/\Q (.int 4) H
def T4(a:rP):Sp:=λvs H Q sQ=>tE λ(p dx u:sK) (to n:Int)=>tG (vs=[.ref p]) (H p=E (.ins a.q0b dx<|Ah to u n)) (Q (.int<|2+n) H)
def RQ(K:ax):Sp:=λvs H Q _=>tS λ(p:sK) (o n:Int) (rs:List xh)=>tF (vs=[.ref p]) (zB K H p o n rs) (∀r∈rs,r.ok) (rs.length<=1000) (∀H',xf H H'->Q (.int (rs.map xh.cst).sum) H')
def T3(K:ax):Sp:=λvs H Q _=>tK λ(o:Int) (l:sK) (ns:List Int)=>sU (vs=[.int o,.ref l]) (H l=E (.lst<|ns.map V.int)) (ns≠[]) (∀(p:sK) (H':Hp),xf H H'->zB K H' p o ns.length [.put 0 ns]->Q (.ref p) H')
section
variable {base:Heap} (T:Txt w K mg a)
def Y5:T.Hg.O P w mg base 1 T5:=by
 specialize T.Hg.g ["self"]
 ·show oG λ_ U=>?_;obtain⟨p,rfl,k⟩:=h;apply U;show⟨_,(xg<|xm xj),?_⟩;show k
def Ys:T.GB.O P w mg base 1 (T4 a):=by
 specialize T.GB.g ["self"]
 ·show oG λ_ U=>?_;obtain⟨p,dx,u,to,n,rfl,hp,k⟩:=h;apply U;show⟨_,(xg<|xm (xr yp xj<|xv (cv 0) Y)),?_⟩;show⟨p,_,dx,_,.int n,Y,hp,T.yl,T.yS,Y,k⟩
theorem K3:T.DV.O P w mg base 6 (RQ K):=by
 specialize T.DV.g ["paper"]
 ·show oG λ_ U=>?_;obtain⟨p,o,n,rs,rfl,⟨t,ts,hp,ht,oO⟩,rh,hle,q⟩:=h;apply U;show⟨_,(xg<|xm (xq (Wq Y) #[5] T.QJ QW<|xa (yv #[4] Y (D0<|xy xG (cv 0) xj λ_ _=>Y) (λ_ _ _ _=>(jM (xJ (xo (uY T) hr.m T.vI T.uB xn<|xa (cv 0) xb) T.yl T.YC (Ys T) hr.m T.GB.b .nil xn)<|xJ (xo (uY T) hr.m T.vI T.uB xn<|xa (cv 0) xb) T.xD T.YS (Y5 T) hr.m T.Hg.b .nil xn)) λ_ _ _ _=>yo) xb)),?_⟩;have tl:ts.length=rs.length:=oO.length;show⟨p,_,_,.ref t,Y,Y,rM.of hp,Y,?_⟩;show⟨t,Y,⟨_,rM.of ht⟩,?_⟩;show GF (λi acc _=>acc=((rs.take i).map xh.cst).map V.int) (rM.of ht) (by rw[aa,ak];lia) #[8] (λi x acc H3 sI hx s3 oK hP R hR=>?_) (λD acc H3 sI hD oQ s3 oK hP hl hv=>?_)
  ·rw[av]at hx;cases hb:ts[i]? with
   |none=>rw[hb]at hx;cases hx
   |some t0=>
    rw[hb]at hx;cases hx;show oG λ_ U=>?_;obtain⟨r,oP,pr⟩:=yD oO hb;apply U;have oN:=pr.same<|s3.trans oK;have ok:=rh r<|aj oP;have fin:∀G,xf sI G->R (.int r.cst) G:=λG sG=>hR _ _ sG λH6 _ _=>by
     rw[hP,bh,oP,aO,aO];rfl
    cases r with
    |put to sg=>
     apply Or.inl
     show⟨t0,_,Y,oN,ok,λob G sG hn hO=>?_⟩;show oG λ_ U=>?_;obtain⟨dx,u,q1,q2⟩:=hO;apply U;show⟨ob,dx,_,Y,q1,Y,?_⟩;show⟨ob,dx,u,to,_,Y,q1,fin G sG⟩
    |take to st c=>
     apply Or.inr
     show⟨t0,_,Y,oN,ok,λob G sG hn hO=>?_⟩;obtain⟨dx,q1⟩:=hO;show⟨ob,dx,_,Y,q1,Y,?_⟩;show⟨ob,Y,fin G sG⟩
  ·rw[hP,bE (by simp;lia)]at hv;show⟨D,_,Y,kq.of hv,q _<|s3.trans oK⟩
def T2:T.FN.O P w mg base 1 (T3 K):=by
 specialize T.FN.g ["old","newer"]
 ·show oG λ_ U=>?_;obtain⟨o,l,ns,rfl,hl,oR,q⟩:=h;apply U;show⟨_,(xc (xC (xA vS (xq xu #[5] T.xW xN<|xa (cv 1) xb) xj) vc xw)
  (xg (xm (zp (xa (cv 0) (xa (xq xu #[5] T.xW xN (xa (cv 1) xb)) (xa (zp (xa (zp (xa xF (xa xj (xa (xT vi #[5] T.jI vD (xa (cv 1) xb)) xb)))) xb)) xb))))))),?_⟩
  exists⟨l,_,Y,.inl<|kq.of hl,?_⟩;rw[aa];show⟨λe=>?_,λe=>?_⟩
  ·show absurd (dD.mp (by have:=of_decide_eq_true e;lia)) oR
  ·show⟨l,_,Y,.inl<|kq.of hl,?_⟩;show⟨l,_,Y,.inl ⟨kq.of hl,?_⟩⟩;exists λu hu=>xK (upd H u _) rfl hu λH1 oQ eu=>?_;walk_at"ss";exists λr hr=>xK (upd H1 r _) rfl hr λH2 oO er=>?_;walk_at"ss";exists λt ht=>xK (upd H2 t _) rfl ht λH3 oP et=>?_;walk_at"ss";exists λp hp=>xK (upd H3 p _) rfl hp λH4 oN ep=>?_;rw[aa]at ep;have oK:=oP.trans oN;show q p H4 (oQ.trans<|oO.trans oK) ⟨t,[r],ep,oN.at et,.cons ⟨u,oK.at er,(oO.trans oK).at eu⟩ .nil⟩
end
abbrev DD:Expr:=Fj (J8 ((yh GU).getD 0<|.Pass ⟨0,0,0,0⟩))
def JK:uy ["at","text"] ["at"] ["text"] (yF DD):=by walk_at"d"
def Qa:List (Str×V)->Sp:=λfv vs H Q _=>tK λ(e:sK) (es:List Int) (i:Int)=>tF (fv=([("text",.ref e)]:List (Str×V))) (vs=[.int i]) (H e=E (.lst<|es.map V.int)) (0<=i) (∀d,H d=y->Q (.ref d) (upd H d (.lst<|(es.drop i.toNat).map V.int)))
def Tab(es:List Int)(p:List V):Prop:=p.length<=300/\∀v∈p,∃i:Nat,i<es.length/\v= .int i
def Xz:Sp:=λvs H Q _=>sE λ(e:sK) (es:List Int)=>tF (vs=[.ref e]) (H uu=E (.sk ve)) (H e=E (.lst<|es.map V.int)) (es.length<=300) (∀(l:sK) (p:List V) (H':Hp),xf H H'->H' l=E (.lst p)->Tab es p->Q (.ref l) H')
def Ag(es ps:List Int)(i c:Nat):Prop:=c<=ps.length/\i+c<=es.length/\(es.drop i).take c=ps.take c
def T1:Sp:=λvs H Q _=>tE λ(e q:sK) (es ps:List Int) (i:Nat)=>tF (vs=[.ref e,.int i,.ref q]) (H e=E (.lst<|es.map V.int)) (H q=E (.lst<|ps.map V.int)) (i<=es.length) (∀c:Nat,Ag es ps i c->Q (.int c) H)
def RP:Sp:=λvs H Q _=>tW λ(e t q:sK) (es ps:List Int) (p:List V)=>tY (vs=[.ref e,.ref t,.ref q]) (H e=E (.lst<|es.map V.int)) (H t=E (.lst p)) (H q=E (.lst<|ps.map V.int)) (Tab es p) (∀(L:Nat) (H':Hp),xf H H'->L<=p.length->Q (.int L) H')
def Xy:Sp:=λvs H Q _=>tW λ(e t q:sK) (es ps:List Int) (p:List V)=>tY (vs=[.ref e,.ref t,.ref q]) (H e=E (.lst<|es.map V.int)) (H t=E (.lst p)) (H q=E (.lst<|ps.map V.int)) (Tab es p) (∀(r:sK) (a c:Nat) (H':Hp),xf H H'->H' r=E (.tup [.int a,.int c])->(0<c->Ag es ps a c)->Q (.ref r) H')
theorem K2:∀{fs:List V},(∀v∈fs,∃i:Int,v= .int i)->∃is:List Int,fs=is.map V.int
 |[],_=>⟨[],Y⟩
 |v::fs,h=>by
  obtain⟨i,rfl⟩:=h v aJ;obtain⟨is,rfl⟩:=K2 λv hv=>h v<|aw _ hv;show⟨i::is,Y⟩
section
variable {base:Heap} (T:Txt w K mg a)
def jl(xs:List V)(a b:Nat):wR xs (E (a:Int)) (E (b:Int))=(xs.drop a).take (b - a):=by
 unfold wR;rw[B0 #[2],B0 #[2],cf,cf]
 by_cases h:a<=xs.length
 ·rw[d9 h]
  by_cases q:b<=xs.length
  ·rw[d9 q]
  ·rw[iR #[2],bE (by rw[bC];lia),bE (by rw[bC];lia)]
 ·rw[iR (show xs.length<=a by lia),c8<|ah _,c8 #[2],List.take_nil,List.take_nil]
def xhM(T:Txt w K mg a):uq P w K mg base sR 1 "<lambda>" "endings.<locals>.<lambda>" (uI DD) (.expr<|uJ DD) (yF DD) ["at"] Qa:=by
 show jx JK (λfv vs H Q sQ h=>?_) (λ_ _ _ _ _ us hl=>match us,hl with|[_],_=>Y) (λA outer s H f rL cdv fv vs Q sQ hr h=>?_)
 ·obtain⟨e,es,i,rfl,rfl,_⟩:=h;show⟨Y,Y⟩
 ·show oG λ_ U=>?_;obtain⟨e,es,i,rfl,rfl,he,hi,k⟩:=h;apply U;have nd:=JK.nd;show⟨_,(yj yC (cv 1) (ya<|cv 0) zg),?_⟩;show⟨_,Y,?_⟩;show⟨e,_,Y,kq.of he,λd hd=>?_⟩;have:=jK (es.map V.int) i.toNat;rw[cq hi]at this;rw[this,<-cQ];show k d hd
def Xx:T.GQ.O P w mg base 4 Xz:=by
 show T.GQ.EN ["text"] T.Xi Nf (λvs H Q sQ h=>?_) (λA outer s H vs Q sQ hr h=>?_)
 ·obtain⟨e,es,rfl,_⟩:=h;rfl
 ·show oG λ_ U=>?_;obtain⟨e,es,rfl,hP,he,oN,q⟩:=h;apply U;have nd:=Nf.nd;show⟨_,(C1 (x:="text") (i:=0) nd rfl rfl rfl #[9] (xg<|xm (Xt (xhM T) hr.m Y #[5] T.Lv (xa (Wv #[5] T.uR<|xa (xq xu #[5] T.xW xN<|xa (cv 0) xb) xb) xb)<|uV (c:=Ia) (P:=uu) (qs:=ve) (fns:=["text"]) rfl T.Xj (q:="endings.<locals>.<lambda>") #[9] (.head _) #[9] #[9]))),?_⟩;left;intro a1 e1 z1 d1;show bG z1 ?_;show se (upd H a1 _) λH1 oK=>?_;have s1:=xf.of_eq z1 oK;have c1:=xM oK;clear oK;show⟨e,_,Y,.inl (kq.of<|s1.at he),?_⟩;exists λr hr=>xK (upd H1 r _) rfl hr λH2 oO er=>?_;have s2:xf H H2:=s1.trans oO;show⟨s2.at hP,[("text",.ref e)],rfl,λx v m=>?_,λf H3 hf s3 hc=>?_⟩
  ·simp only[aB,iG,bR,or_false]at m;obtain⟨rfl,rfl⟩:=m;show⟨a1,e1,oO.at c1⟩
  left;have oP:=s3.at er;rw[aa]at oP;show⟨r,f,es.length,_,Y,Y,oP,by lia,hc,λi hi H4 s4=>?_,λl p H4 s4 hl el hp=>?_⟩
  ·show⟨e,es,_,Y,Y,(s2.trans<|s3.trans s4).at he,by lia,λd hd=>⟨xf.new hd,d,_,Y,xk⟩⟩
  ·show q l p H4 (s2.trans<|s3.trans s4) el ⟨by rw[hp.length_eq];simpa using oN,λv hv=>?_⟩;show oG λ_ U=>?_;obtain⟨i,hi,rfl⟩:=aY.mp<|hp.mem_iff.mp hv;apply U;show⟨i,cC.mp hi,Y⟩
def RO{xs ys:List Int}{k:Nat}(hk:xs.take k=ys.take k)(h1:k<xs.length)(h2:k<ys.length)(e:xs[k]=ys[k]):xs.take (k+1)=ys.take (k+1):=by
 rw[cZ h1,cZ h2,hk,e]
def Yr:T.Gy.O P w mg base 1 T1:=by
 specialize T.Gy.g ["text","at","part","count"]
 ·show oG λ_ U=>?_;obtain⟨e,q,es,ps,i,rfl,he,hq,hi,k⟩:=h;apply U;show⟨_,(xc (xp (i:=3) nd Y (aG Y) xj)
  (xc (CS PassesOwn.never (PW.pt<|vj (xA wZ (cv 3) (xq xu #[5] T.xW xN<|xa (cv 2) xb)) (vj (xA wZ (xr yp (cv 1)<|cv 3) (xq xu #[5] T.xW xN<|xa (cv 0) xb))<|uE (xA vS (xy xU (cv 0) (xr yp (cv 1)<|cv 3) λ_ _=>Y)<|xy xU (cv 2) (cv 3) λ_ _=>Y)))<|xg (xp (i:=3) nd Y (aG Y)<|xr yp (cv 3) xj))
  (xg (xm (cv 3))))),?_⟩
  left;show jh (m:=ps.length) (λm σ G=>G=H/\∃x:Nat,m=ps.length - x/\σ=[E<|.ref e,E<|.int i,E<|.ref q,E<|.int x]/\Ag es ps i x) ⟨Y,0,Y,Y,aX _,by lia,by simp⟩ λm σ G hP=>?_;show oG λ_ U=>?_;obtain⟨rfl,x,rfl,rfl,hA⟩:=hP;apply U;have done:=k x hA;show oG λ_ U=>?_;obtain⟨hx,hy,heq⟩:=hA;apply U;exists⟨q,_,Y,.inl<|kq.of hq,?_⟩;rw[aa];show⟨λe1=>?_,λe1=>⟨by walk_at"no",λ_=>done⟩⟩;have h1:x<ps.length:=by have:=of_decide_eq_true e1;lia
  exists⟨e,_,Y,.inl<|kq.of he,?_⟩;rw[aa];show⟨λe2=>?_,λe2=>⟨by walk_at"no",λ_=>done⟩⟩;have h2:i+x<es.length:=by have:=of_decide_eq_true e2;lia
  have h3:x<(es.drop i).length:=by rw[bC];lia
  show⟨e,_,_,.int es[i+x],Y,Y,kq.of he,D4 #[2] (by rw[show((i:Int)+(x:Int)).toNat=i+x by lia];simp[h2]),?_⟩;show⟨q,_,_,.int ps[x],Y,Y,kq.of hq,yn (by simp[h1]),?_⟩;show⟨λe3=>?_,λe3=>done⟩;show⟨_,λ_ _ z=>z,?_⟩;show⟨ps.length - (x+1),by lia,Y,x+1,Y,Y,by lia,by lia,RO heq h3 h1 (by rw[List.getElem_drop];simpa using e3)⟩
def xfL:T.jW.O P w mg base 1 RP:=by
 specialize T.jW.g ["text","table","part","low","high","middle"]
 ·show oG λ_ U=>?_;obtain⟨e,t,q,es,ps,p,rfl,he,ht,hq,hp,k⟩:=h;apply U;show⟨_,(xc (xp (i:=3) nd Y (aG Y) xj)
  (xc (xp (i:=4) nd Y (aG Y) (xq xu #[5] T.xW xN<|xa (cv 1) xb))
  (xc (CS PassesOwn.never (xA wZ (cv 3)<|cv 4) (xc (xp (i:=5) nd Y (aG Y)<|xr zW (xr yp (cv 3)<|cv 4) xj)
  (xg (xC (xA (QR hr.wA) (yj yC (cv 0) (ya (xy xU (cv 1) (cv 5) (λ_ _=>Y))) zg) (cv 2)) (xg (xp (i:=3) nd Y (aG Y) (xr yp (cv 5) xj))) (xg (xp (i:=4) nd Y (aG Y) (cv 5)))))))
  (xg (xm (cv 3)))))),?_⟩
  exists⟨t,_,Y,.inl<|kq.of ht,?_⟩;show jh (m:=p.length) (λm σ G=>xf H G/\∃(lo hi:Nat) (x5:Option V),m=hi - lo/\σ=[E<|.ref e,E<|.ref t,E<|.ref q,E<|.int lo,E<|.int hi,x5]/\lo<=hi/\hi<=p.length)
   ⟨xf.refl _,0,p.length,_,Y,Y,aX _,ah _⟩ (λm σ G hP=>?_)
  show oG λ_ U=>?_;obtain⟨sG,lo,hi,x5,rfl,rfl,h1,h2⟩:=hP;apply U;show⟨λe1=>?_,λe1=>?_⟩
  ·have oO:lo<hi:=by have:=of_decide_eq_true e1;lia
   exists⟨_,λ_ _ z=>z,?_⟩;walk_at"ss";have em:((lo:Int)+(hi:Int)) / 2=(((lo+hi) / 2:Nat):Int):=by lia
   generalize hz:(λ(i j:Int)=>V.int<|i / j) ((lo:Int)+(hi:Int)) 2=z;generalize oN:(lo+hi) / 2=mid at em;have ez:z= .int (mid:Nat):=by rw[<-hz];change V.int (((lo:Int)+(hi:Int)) / 2)=_;rw[em]
   clear hz;subst ez;have b1:lo<=mid/\mid<hi:=by lia
   have b2:mid<p.length:=by lia
   show oG λ_ U=>?_;obtain⟨x,_,ex⟩:=hp.2 _<|cF b2;apply U;show⟨t,_,_,.int x,Y,Y,kq.of<|sG.at ht,yn (by rw[au b2,ex]),?_⟩;show⟨_,Y,?_⟩;show⟨e,_,Y,kq.of<|sG.at he,?_⟩;exists λd hd=>xK (upd G d _) rfl hd λG1 oK ed=>?_;rw[jK,<-cQ]at ed;show⟨d,q,_,_,Y,Y,kq.of ed,kq.of<|(sG.trans oK).at hq,?_⟩;show⟨λe2=>?_,λe2=>?_⟩
   ·show⟨hi - (mid+1),by lia,sG.trans oK,mid+1,hi,_,Y,Y,by lia,h2⟩
   ·show⟨mid - lo,by lia,sG.trans oK,lo,mid,_,Y,Y,by lia,by lia⟩
  ·left;show k lo G sG #[2]
def Xw:T.GP.O P w mg base 2 Xy:=by
 specialize T.GP.g ["text","table","part","less","count","beginning"]
 ·show oG λ_ U=>?_;obtain⟨e,t,q,es,ps,p,rfl,he,ht,hq,hp,k⟩:=h;apply U;show⟨_,(xc (xp (i:=3) nd Y (aG Y) (xo (xfL T) hr.m T.xgy T.jW xn<|xa (cv 0) (xa (cv 1)<|xa (cv 2) xb)))
  (xc (xp (i:=4) nd Y (dP Y)<|KN Y #[5] T.AQ (xa (yv (yu (cap:=[0,2]) (ys:=["text","part"]) rfl rfl rfl rfl rfl ⟨⟨Y,Y,.inl Y⟩,⟨⟨Y,Y,.inl Y⟩,trivial⟩⟩ #[18]) rfl (xS<|yj yC (cv 1) (ya<|xq (B1 Y) #[5] T.AQ Bo (xa (xr jN (cv 3) xj)<|xa xj xb)) (ya<|xr yp (cv 3) xj)) (λ_ _ _ _=>(xo (Yr T) hr.m T.Xh T.Gy xn<|xa (cv 1) (xa (cv 0)<|xa (cv 2) xb))) λ_ _ _ _=>yo) xb) xj)
  (xc (xC (xA vS (cv 4) xj) (xg (xm<|zp (xa xj<|xa xj xb))) xw)
  (xc (xp (i:=5) nd Y (dP Y)<|yj yC (cv 2) zg (ya<|cv 4))
  (xg (xm (zp (xa (xq (MC Y) #[5] T.Bh Bn (xa (yv (yu (cap:=[0,4,5]) (ys:=["text","count","beginning"]) rfl rfl rfl rfl rfl ⟨⟨Y,Y,.inl Y⟩,⟨⟨Y,Y,.inl Y⟩,⟨⟨Y,Y,.inl Y⟩,trivial⟩⟩⟩ #[18]) rfl (xS (cv 1)) (λ_ _ _ _=>(cv 0)) (λ_ _ _ _=>(B6 (xA (PB (K:=K) Y hr.units) (yj (Vc (K:=K) Y) (cv 1) (ya (cv 0)) (ya (xr yp (cv 0) (cv 2)))) (cv 3))))) xb)) (xa (cv 4) xb))))))))),?_⟩
  have h3:=hp.1;show⟨e,t,q,es,ps,p,Y,he,ht,hq,hp,λL H1 s1 hL=>?_⟩;show⟨_,Y,?_⟩;show⟨_,Y,?_⟩;show⟨t,_,Y,kq.of<|s1.at ht,?_⟩;exists λd hd=>xK (upd H1 d _) rfl hd λH2 oS ed=>?_;rw[show max ((L:Int) - 1) 0=((L - 1:Nat):Int)by lia,show(L:Int)+1=((L+1:Nat):Int)by lia,jl]at ed;have s2:=s1.trans oS;have oW:∀v∈(p.drop<|L - 1).take (L+1 - (L - 1)),v∈p:=λv hv=>cx<|bQ hv;show⟨d,Y,⟨_,kq.of ed⟩,?_⟩;show yV (λi acc _=>∃cs:List Int,acc=cs.map V.int/\∀c∈cs,∃b n:Nat,V.int b∈p/\c=n/\Ag es ps b n) (kq.of ed) (by rw[a8,bC,ak];lia) ⟨[],Y,λc hc=>by cases hc⟩ (λj sZ acc G3 u6 hy t3 oK hP R hR=>?_) (λD acc G3 u6 hD oY t3 oK hP hle eD=>?_)
  ·show oG λ_ U=>?_;obtain⟨cs,rfl,oO⟩:=hP;apply U;have hyp:=oW _<|aj hy;show oG λ_ U=>?_;obtain⟨b,hb,rfl⟩:=hp.2 _ hyp;apply U;have s3:=s2.trans<|t3.trans oK;show⟨e,q,es,ps,b,Y,s3.at he,s3.at hq,by lia,λc hc=>hR _ _ (xf.refl _) λ_ _ _=>⟨cs++[(c:Int)],by simp,λx hx=>?_⟩⟩;rcases aZ.mp hx with z|z
   ·show oO x z
   ·rw[ai.mp z];show⟨b,c,hyp,Y,hc⟩
  show oG λ_ U=>?_;obtain⟨cs,rfl,oO⟩:=hP;apply U;have s4:=s2.trans<|t3.trans oK;show⟨D,_,_,Y,Y,kq.of eD,λm m1 m2=>?_⟩;have hm:m=0\/∃b n:Nat,V.int b∈p/\m=n/\Ag es ps b n:=by
   by_cases z:cs=[]
   ·show .inl (m1 z)
   ·show .inr (oO m (m2 z).1)
  show⟨λe1=>?_,λe1=>?_⟩
  ·right;exists λz hz=>xK (upd u6 z _) rfl hz λG2 oN ez=>?_;show k z 0 0 G2 (s4.trans oN) ez λz=>absurd z #[2]
  ·show oG λ_ U=>?_;obtain⟨b0,c,oX,rfl,hA⟩:=hm.resolve_left<|of_decide_eq_false e1;apply U;show⟨_,Y,?_⟩;show⟨q,_,Y,kq.of<|s4.at hq,?_⟩;exists λb hb=>xK (upd u6 b _) rfl hb λG2 oN eb=>?_;have eb:G2 b=E (.lst<|(ps.take c).map V.int):=by
    rw[eb];have:=jl (ps.map V.int) 0 c;rw[dQ,<-dy]at this;show congrArg (λz=>E<|HO.lst z) this
   have s5:=s4.trans oN;show⟨t,Y,⟨_,kq.of<|s5.at ht⟩,?_⟩;show jQ (λv=>match v with| .int x=>decide ((es.drop x.toNat).take c=ps.take c)|_=>sJ) (λv=>v) (kq.of<|s5.at ht) (by rw[ak];lia) (λx H3 hx s3 R hR=>?_) (λx H3 hx _ s3 R hR=>?_) (λD2 G4 oZ oV oP=>?_)
   ·show oG λ_ U=>?_;obtain⟨i,hi,rfl⟩:=hp.2 x hx;apply U;show⟨_,Y,?_⟩;show⟨_,Y,?_⟩;show⟨e,_,Y,kq.of<|(s5.trans s3).at he,?_⟩;exists λg hg=>xK (upd H3 g _) rfl hg λH4 oQ eg=>?_;rw[show(i:Int)+(c:Int)=((i+c:Nat):Int)by lia,jl,show i+c - i=c by lia,<-cQ,<-dy]at eg;show Le (f:=λb=>b) ⟨g,b,_,_,Y,Y,kq.of eg,kq.of<|(s3.trans oQ).at eb,?_⟩;show hR H4 oQ
   ·left;show hR H3 (xf.refl _)
   rw[List.map_id']at oP;generalize hf:p.filter _=fs at oP;have oR:∀v∈fs,∃i:Nat,v= .int i/\i<es.length/\(es.drop i).take c=ps.take c:=λv hv=>by
    rw[<-hf]at hv;obtain⟨h1,h2⟩:=bJ.mp hv;show oG λ_ U=>?_;obtain⟨i,hi,rfl⟩:=hp.2 v h1;apply U;show⟨i,Y,hi,of_decide_eq_true h2⟩
   obtain⟨is,rfl⟩:∃is:List Int,fs=is.map V.int:=K2 λv hv=>let⟨i,e,_⟩:=oR v hv;⟨i,e⟩
   have s6:=s5.trans oV;show⟨D2,is,Y,kq.of oP,?_,λm m1 m2=>?_⟩
   ·intro z;have:V.int b0∈is.map V.int:=by rw[<-hf];show bJ.mpr ⟨oX,decide_eq_true hA.2.2⟩
    rw[z]at this;cases this
   show oG λ_ U=>?_;obtain⟨i,ei,hi,h2⟩:=oR _<|fL m1;apply U;injection ei with ei;subst ei;right;exists λz hz=>xK (upd G4 z _) rfl hz λG5 oU ez=>?_;show k z i c G5 (s6.trans oU) ez λ_=>⟨hA.1,?_,h2⟩;have:=congrArg cz h2;have h1:=hA.1;rw[a8,a8,bC]at this;lia
end
def tL(xs:List Int):Prop:=∀x∈xs,Sm x
inductive Rt(es ns:List Int)(least:Int):List xh->Nat->Bool->Prop
 |nil:Rt es ns least [] 0 sJ
 |snoc {rs:List xh} {i:Nat} {b:Bool} {r:xh}:Rt es ns least rs i b->r.to=i->Tells es ns r->(if r.rk=sX then least<=r.cnt else b=sJ)->Rt es ns least (rs++[r]) (i+r.cnt) (!r.rk)
noncomputable def Ay(i:Int)(sg:List Int):List xh:=if sg=[]then[]else[.put (i - sg.length) sg]
def M9(i:Int)(sg:List Int):(Ay i sg).length<=1:=by
 unfold Ay
 split<;> simp
def LH{c k:Nat}(hk:k<c):ns[((i:Int)+(k:Int)).toNat]? =((ns.drop i).take c)[k]? :=by
 rw[fE hk,dU]
 congr 1
def Rt.put{rs:List xh}{sg:List Int}(h:Rt es ns least rs i sJ)(hb:tL ns)(hn:ns.length<=300)(h1:i+sg.length<=ns.length)(h2:sg=(ns.drop i).take sg.length):∃b,Rt es ns least (rs++Ay ((i+sg.length:Nat):Int) sg) (i+sg.length) b:=by
 unfold Ay
 by_cases h0:sg=[]
 ·rw[if_pos h0,h0];show⟨sJ,by simpa using h⟩
 ·rw[if_neg h0,show((i+sg.length:Nat):Int) - sg.length=i by lia];show⟨sX,.snoc (r:=.put i sg) h Y ⟨⟨by lia,h0,by lia,λx hx=>?_⟩,cm,by simp only[xh.to,xh.cnt];lia,λk hk=>?_⟩ Y⟩
  ·rw[h2]at hx;show hb x (cx<|bQ hx)
  ·have hk:k<sg.length:=hk;change ns[((i:Int)+(k:Int)).toNat]? =sg[k]?;rw[LH hk,<-h2]
def Rt.take{rs:List xh}{st c:Nat}{b:Bool}(h:Rt es ns least rs i b)(hi:i<=ns.length)(h0:0<c)(h1:least<=c)(hA:Ag es (ns.drop i) st c):Rt es ns least (rs++[.take i st c]) (i+c) sJ/\i+c<=ns.length:=by
 obtain⟨a1,a2,a3⟩:=hA;rw[bC]at a1;have e:(c:Int).toNat=c:=cf c;have:=Rt.snoc (r:=.take i st c) h rfl ⟨⟨by lia,by lia,by lia⟩,by change(st:Int)+(c:Int)<=es.length;lia,by simp only[xh.to,xh.cnt];lia,λk hk=>?_⟩ (show least<=((c:Int).toNat:Int)by lia)
 ·simp only[xh.cnt,e]at this;show⟨this,by lia⟩
 ·have hk:k<c:=by simpa [xh.cnt]using hk
  change ns[((i:Int)+(k:Int)).toNat]? =((es.drop (st:Int).toNat).take (c:Int).toNat)[k]?;rw[cf,cf,a3,LH hk]
def Y4(a:rP):Sp:=λvs H Q _=>tE λ(p dx q:sK) (to:Int) (xs:List Int)=>sU (vs=[.ref p,.int to,.ref q]) (H p=E (.ins a.q0b dx [])) (H q=E (.lst<|xs.map V.int)) (∀(u:sK) (H':Hp),H u=y->(∀b o,b≠p->H b=E o->H' b=E o)->H' p=E (.ins a.q0b dx<|Ah to u xs.length)->H' u=E (.tup<|xs.map V.int)->Q .rp H')
def xfM(K:ax)(a:rP):Sp:=λvs H Q _=>tK λ(q:sK) (i:Int) (xs:List Int)=>tG (vs=[.int i,.ref q]) (H q=E (.lst<|xs.map V.int)) (∀(l:sK) (os:List sK) (H':Hp),xf H H'->H l=y->H' l=E (.lst<|os.map V.ref)->Paired (xE K a H') os (Ay i xs)->Q (.ref l) H')
def Z7(K:ax)(a:rP):Sp:=λvs H Q _=>tE λ(e n:sK) (es ns:List Int) (least:Int)=>BO (vs=[.ref e,.ref n,.int least]) (H uu=E (.sk ve)) (H e=E (.lst<|es.map V.int)) (H n=E (.lst<|ns.map V.int)) (es.length<=300) (ns.length<=300) (tL ns) (∀(l:sK) (os:List sK) (rs:List xh) (b:Bool) (H':Hp),xf H H'->H' l=E (.lst<|os.map V.ref)->Paired (xE K a H') os rs->Rt es ns least rs ns.length b->Q (.ref l) H')
theorem xE.off{o:HO}(h:xE K a H t r)(hp:H p=E (.lst xs)):xE K a (upd H p o) t r:=by
 cases r with
 |take to st c=>obtain⟨dx,h⟩:=h;show⟨dx,by rw[xl<|zt h hp (by intro z;cases z)];show h⟩
 |put to sg=>
  obtain⟨dx,u,h1,h2⟩:=h;show⟨dx,u,by rw[xl<|zt h1 hp (by intro z;cases z)];show h1,by rw[xl<|zt h2 hp (by intro z;cases z)];show h2⟩
def VI{sg:List Int}(h:sg=(ns.drop i).take sg.length)(hi:i+sg.length<ns.length):sg++[ns[i+sg.length]]=(ns.drop i).take (sg++[ns[i+sg.length]]).length:=by
 rw[ao,bT,cZ (by rw[bC];lia),List.getElem_drop,<-h]
def E1(K:ax)(a:rP)(H1:Hp)(es ns:List Int)(least:Int)(e n t:sK)(m:Nat)(σ:L2.St)(G:Hp):Prop:=xf H1 G/\∃(rl sl:sK) (os:List sK) (rs:List xh) (sg:List Int) (i:Nat) (x7 x8:Option V),m=ns.length - (i+sg.length)/\σ=[E<|.ref e,E<|.ref n,E<|.int least,E<|.ref t,E<|.ref rl,E<|.ref sl,E<|.int (i+sg.length:Nat),x7,x8]/\
 H1 rl=y/\H1 sl=y/\rl≠sl/\G rl=E (.lst<|os.map V.ref)/\Paired (xE K a G) os rs/\os.length<=2*i/\G sl=E (.lst<|sg.map V.int)/\i+sg.length<=ns.length/\sg=(ns.drop i).take sg.length/\Rt es ns least rs i sJ
def Xv(K:ax)(a:rP):Sp:=λvs H Q _=>tW λ(o e:sK) (to st c:Int) (es:List Int)=>AH (vs=[.ref o,.ref e]) (xE K a H o<|.take to st c) (H e=E (.lst<|es.map V.int)) (0<=st) (0<=c) (st+c<=es.length) (∀(p:sK) (H':Hp),xf H H'->H p=y->xE K a H' p (.put to<|(es.drop st.toNat).take c.toNat)->Q (.ref p) H')
namespace ML
section
variable {base:Heap} (T:Txt w K mg a)
def jk:T.uv.O P w mg base 2 (Y4 a):=by
 show T.uv.go NI ?_;intro cdv A outer s H vs Q sQ hr h nd
 ·show oG λ_ U=>?_;obtain⟨p,dx,t,to,xs,rfl,hp,ht,k⟩:=h;apply U;have ne:t≠p:=zt ht hp (by intro z;cases z);show⟨_,(xc (xO<|FX #[5] T.Fo T.GV (Hn T) hr.m T.jR.b .nil xn (xa (cv 0)<|xa (cv 1) xb))
  (xc (yt (cv 0) (xT vi #[5] T.jI vD<|xa (cv 2) xb) Y)
  (xg (yt (cv 0) (xq xu #[5] T.xW xN (xa #[11] xb)) Y)))),?_⟩
  show⟨p,_,dx,to,Y,hp,T.yl,T.zi,T.yS,?_⟩;show⟨t,_,Y,.inl ⟨kq.of (by rw[xl ne];show ht),λu hu=>?_⟩⟩;have oK:u≠p:=λz=>by rw[z,xk]at hu;cases hu
  have oN:H u=y:=by rw[xl oK]at hu;show hu
  generalize hU:upd H p _=H1 at hu⊢;have e1:=xM hU;have o1:∀b o,b≠p->H b=E o->H1 b=E o:=λb o q z=>by rw[<-hU,xl q];show z
  clear hU;show se (upd H1 u _) λH2 hU=>?_;have e2:=(show H2 p=H1 p by rw[<-hU,xl<|aW oK]).trans e1;have eu:=xM hU;have o2:∀b o,b≠p->H b=E o->H2 b=E o:=λb o q z=>by rw[<-hU,xl (λsZ=>by rw[sZ,oN]at z;cases z)];show o1 b o q z
  clear hU;show⟨p,_,dx,_,Y,e2,T.yl,T.zz,by walk_at"few",?_⟩;show⟨p,_,dx,_,.ref u,Y,xk,T.yl,T.zz,Y,?_⟩;show⟨u,_,Y,.inr<|rM.of (by rw[xl oK];show eu),?_⟩;show⟨p,_,dx,_,Y,xk,T.yl,T.yS,by walk_at"few",?_⟩;left;rw[yO];show se (upd H2 p _) λH3 hU=>?_;show k u H3 oN (λb o q z=>by rw[<-hU,xl q];show o2 b o q z) ?_ (by rw[<-hU,xl oK];show eu);rw[xM hU,aa];rfl
def Oe:T.vA.O P w mg base 4 (xfM K a):=by
 specialize T.vA.g ["end","signs"]
 ·show oG λ_ U=>?_;obtain⟨q,i,xs,rfl,hq,k⟩:=h;apply U;show⟨_,(xc (xC (xA vS (xq xu #[5] T.xW xN<|xa (cv 1) xb) xj) (xg (xm<|yf xb)) xw)
  (xg (xm (yf (xa (jD T.DT (jk T) hr.m #[5] T.Cv T.uv.b .nil xn (xa (xr jN (cv 0) (xq xu #[5] T.xW xN (xa (cv 1) xb))) (xa (cv 1) xb))) xb))))),?_⟩
  exists⟨q,_,Y,.inl<|kq.of hq,?_⟩;rw[aa];show⟨λe1=>?_,λe1=>?_⟩
  ·have h0:xs=[]:=dD.mp (by have:=of_decide_eq_true e1;lia);right;exists λl hl=>xK (upd H l _) rfl hl λH1 oK el=>?_;show k l [] H1 oK hl el (by unfold Ay;rw[if_pos h0];show .nil)
  ·have h0:xs≠[]:=λz=>by rw[z]at e1;simp at e1
   exists⟨q,_,Y,.inl<|kq.of hq,?_⟩;rw[aa];intro x oN hx oP oS;show se (upd H oN<|.own x) λH1 oR=>?_;have oK:=xf.of_eq oP oR;have oQ:H1 x=y:=by rw[<-oR,xl<|aW oS];show hx
   show⟨x,oN,q,_,xs,Y,xk,(xf.new oQ).at (oK.at hq),λu H4 hu o4 e4 eu=>⟨Y,?_⟩⟩;have s4:xf H H4:=λb o z=>o4 b o (λsZ=>by rw[sZ,hx]at z;cases z)<|(oK.trans<|xf.new oQ).at z;have oU:u≠x:=λz=>by rw[z,xk]at hu;cases hu
   right;exists λl hl=>xK (upd H4 l _) rfl hl λH5 oO el=>?_;show k l [x] H5 (s4.trans oO) (s4.back hl) el ?_;unfold Ay;rw[if_neg h0];show .cons ⟨oN,u,oO.at e4,oO.at eu⟩ .nil
def Z6:T.HC.O P w mg base 5 (Z7 K a):=by
 specialize T.HC.g ["elder","newer","least","table","rows","signs","place","best","count"]
 ·show oG λ_ U=>?_;obtain⟨e,n,es,ns,least,rfl,hP,he,hn,pX,pF,pW,k⟩:=h;apply U;show⟨_,(xc (xp (i:=3) nd Y (aG Y) (xo (Xx T) hr.m T.Vs T.GQ xn<|xa (cv 0) xb))
  (xc (xp (i:=4) nd Y (aG Y)<|yf xb)
  (xc (xp (i:=5) nd Y (aG Y)<|yf xb)
  (xc (xp (i:=6) nd Y (aG Y) xj)
  (xc (CS PassesOwn.never (xA wZ (cv 6) (xq xu #[5] T.xW xN<|xa (cv 1) xb)) (xc (xp (i:=7) nd Y (aG Y) (xo (Xw T) hr.m T.Vr T.GP xn<|xa (cv 0) (xa (cv 3)<|xa (yj yC (cv 1) (ya<|cv 6) zg) xb)))
  (xc (xp (i:=8) nd Y (aG Y)<|xy xG (cv 7) xj λ_ _=>Y)
  (xg (xC (PW.pt (vj (xA Af (cv 8) xj)<|uE (xA Cn (cv 8)<|cv 2))) (xc (xO (yN PySem.F.plainAttrs_list PySem.F.slot_list_extend PySem.F.type_list_extend GK (cv 4)<|xa (xo (Oe T) hr.m T.N6 T.vA xn (xa (cv 6)<|xa (cv 5) xb)) xb))
  (xc (xO (yN PySem.F.plainAttrs_list PySem.F.slot_list_append PySem.F.type_list_append yX (cv 4)<|xa (jD T.Kw (NA T) hr.m #[5] T.Bu T.EG.b .nil xn<|xa (cv 6) (xa (xy xG (cv 7) xj λ_ _=>Y)<|xa (cv 8) xb)) xb))
  (xc (xp (i:=5) nd Y (aG Y)<|yf xb)
  (xg (xp (i:=6) nd Y (aG Y) (xr yp (cv 6) (cv 8))))))) (xc (xO (yN PySem.F.plainAttrs_list PySem.F.slot_list_append PySem.F.type_list_append yX (cv 5) (xa (xy xU (cv 1) (cv 6) (λ_ _=>Y)) xb)))
  (xg (xp (i:=6) nd Y (aG Y) (xr yp (cv 6) xj)))))))))
  (xg (xm (xr AY (cv 4) (xo (Oe T) hr.m T.N6 T.vA xn (xa (cv 6) (xa (cv 5) xb))))))))))),?_⟩
  show⟨e,es,Y,hP,he,pX,λt p H1 s1 et hp=>?_⟩;have pV:=s1.at he;have pd:=s1.at hn;right;exists λrl oQ=>xK (upd H1 rl _) rfl oQ λH2 pj oV=>?_;walk_at"ss";exists λsl oP=>xK (upd H2 sl _) rfl oP λH3 ph o7=>?_;have oX:rl≠sl:=λz=>by rw[<-z,oV]at oP;cases oP
  show jh (m:=ns.length) (E1 K a H1 es ns least e n t)
   ⟨pj.trans ph,rl,sl,[],[],[],0,_,_,Y,Y,oQ,pj.back oP,oX,ph.at oV,.nil,ah _,o7,aX _,Y,.nil⟩ (λm σ G hP=>?_)
  clear pj ph oV o7 oQ oP oX H2 H3 rl sl;show oG λ_ U=>?_;obtain⟨sG,rl,sl,os,rs,sg,i,x7,x8,rfl,rfl,oQ,oP,oX,oV,pE,pS,o7,hle,pI,pJ⟩:=hP;apply U;have p7:=pE.length;exists⟨n,_,Y,.inl (kq.of<|sG.at pd),?_⟩;rw[aa];obtain⟨bp,oS⟩:=pJ.put pW pF hle pI;show⟨λe1=>?_,λe1=>?_⟩
  ·have h1:i+sg.length<ns.length:=by have:=of_decide_eq_true e1;lia
   show⟨λrq G'=>∃m',m'<ns.length - (i+sg.length)/\E1 K a H1 es ns least e n t m' rq G',λ_ _ z=>z,?_⟩;show⟨_,Y,?_⟩;show⟨n,_,Y,kq.of<|sG.at pd,?_⟩;exists λd hd=>xK (upd G d _) rfl hd λG1 pG ed=>?_;rw[jK,<-cQ]at ed;have pz:=sG.trans pG;show⟨e,t,d,es,ns.drop<|i+sg.length,p,Y,pz.at pV,pz.at et,ed,hp,λr a1 c G2 s2 er hb=>?_⟩;have o9:=pz.trans s2;have pf:=pG.trans s2;show⟨r,_,_,.int c,Y,Y,rM.of er,Y,?_⟩;have oK:=pf.at o7;have oU:=pf.at oV;have oY:=L2.Paired.imp' (λ_ _ z=>xE.same z pf) pE;have more:∀G3 x7 x8,upd G2 sl (.lst<|sg.map V.int++[.int ns[i+sg.length]])=G3->∃m',m'<ns.length - (i+sg.length)/\E1 K a H1 es ns least e n t m' [E<|.ref e,E<|.ref n,E<|.int least,E<|.ref t,E<|.ref rl,E<|.ref sl,E (.int<|((i+sg.length:Nat):Int)+1),x7,x8] G3:=λG3 x7 x8 hU=>by
    have pU:(sg++[ns[i+sg.length]]).length=sg.length+1:=by rw[ao];rfl
    show⟨ns.length - (i+(sg++[ns[i+sg.length]]).length),by lia,xf.wr o9 oP hU,rl,sl,os,rs,sg++[ns[i+sg.length]],i,x7,x8,Y,?_,oQ,oP,oX,by rw[<-hU,xl oX];show oU,?_,pS,by rw[xM hU,aO];rfl,by lia,VI pI h1,pJ⟩
    ·rw[pU,show((i+(sg.length+1):Nat):Int)=((i+sg.length:Nat):Int)+1 by lia]
    ·rw[<-hU];show L2.Paired.imp' (λ_ _ z=>xE.off z oK) oY
   show⟨λe2=>?_,λe2=>?_⟩
   ·have c0:0<c:=by have:=of_decide_eq_true e2;lia
    show⟨λe3=>?_,λe3=>?_⟩
    ·have c1:least<=(c:Int):=by have:=of_decide_eq_true e3;lia
     show⟨.inl ⟨Y,_,kq.of oU⟩,?_⟩;show⟨sl,_,sg,Y,oK,λl oR G3 s3 hl el oZ=>?_⟩;have oO:=s3.at oU;have pD:=L2.Paired.imp' (λ_ _ z=>xE.same z s3) oY;have l2:oR.length<=1:=by
      have:=oZ.length;have:=M9 ((i+sg.length:Nat):Int) sg;lia
     show⟨rl,l,_,_,Y,Y,oO,el,by rw[aa,aa,ak];lia,?_⟩;show se (upd G3 rl _) λG4 hU=>?_;have pP:=xf.wr (o9.trans s3) oQ hU;have oN:=xM hU;have pC:Paired (xE K a G4) (os++oR) (rs++Ay ((i+sg.length:Nat):Int) sg):=by
      rw[<-hU];show zI (L2.Paired.imp' (λ_ _ z=>xE.off z oO) pD) (L2.Paired.imp' (λ_ _ z=>xE.off z oO) oZ)
     have pZ:G4 r=E (.tup [.int a1,.int c]):=by rw[<-hU,xl<|zt (s3.at er) oO (by intro z;cases z)];show s3.at er
     clear hU;rw[<-aO]at oN;show⟨.inl ⟨Y,_,kq.of oN⟩,?_⟩;exists⟨r,_,_,.int a1,Y,Y,rM.of pZ,Y,?_⟩;intro x pe hx pA pQ;show se (upd G4 pe<|.own x) λG5 pL=>?_;have pO:=xf.of_eq pA pL;have pR:G5 x=y:=by rw[<-pL,xl<|aW pQ];show hx
     show⟨x,pe,_,_,_,Y,xk,Y,?_⟩;rw[yO];show se (upd G5 x _) λG6 pK=>?_;have pN:=xf.of_eq pR pK;have ex:=xM pK;left;have oW:=pO.trans pN;show⟨rl,_,_,Y,Y,oW.at oN,by rw[aa,ao,ak];lia,?_⟩;show se (upd G6 rl _) λG8 hU=>?_;have pH:=xf.wr (pP.trans oW) oQ hU;have o8:=xM hU;have pB:Paired (xE K a G8) (os++oR++[x]) (rs++Ay ((i+sg.length:Nat):Int) sg++[.take (i+sg.length:Nat) a1 c]):=by
      rw[<-hU];show zI (L2.Paired.imp' (λ_ _ z=>xE.off (xE.same z oW)<|oW.at oN) pC)<|.cons ?_ .nil;show xE.off (r:=.take (i+sg.length:Nat) a1 c) ⟨pe,ex⟩ (oW.at oN)
     clear hU;right;exists λsz hsz=>xK (upd G8 sz _) rfl hsz λG9 pk pY=>?_;obtain⟨rt,pT⟩:=oS.take (cR h1) c0 c1<|hb c0;show⟨ns.length - (i+sg.length+c),by lia,pH.trans pk,rl,sz,os++oR++[x],_,[],i+sg.length+c,E<|.ref r,E<|.int c,Y,?_,oQ,pH.back hsz,(λz=>by rw[<-z,o8]at hsz;cases hsz),?_,L2.Paired.imp' (λ_ _ z=>xE.same z pk) pB,?_,pY,by simpa using pT,by simp,rt⟩
     ·have ec:((i+sg.length+c+([]:List Int).length:Nat):Int)=((i+sg.length:Nat):Int)+(c:Int):=by change((i+sg.length+c:Nat):Int)=_;lia
      rw[ec];rfl
     ·rw[pk.at o8];simp
     ·simp;lia
    ·show⟨.inl ⟨Y,_,kq.of oK⟩,?_⟩;show⟨n,_,_,.int ns[i+sg.length],Y,Y,kq.of<|o9.at pd,yn (by simp[h1]),?_⟩;show⟨sl,_,_,Y,Y,oK,by rw[aa,ak];lia,?_⟩;show more _ _ _ rfl
   ·walk_at"N";show⟨.inl ⟨Y,_,kq.of oK⟩,?_⟩;show⟨n,_,_,.int ns[i+sg.length],Y,Y,kq.of<|o9.at pd,yn (by simp[h1]),?_⟩;show⟨sl,_,_,Y,Y,oK,by rw[aa,ak];lia,?_⟩;show more _ _ _ rfl
  ·have h1:i+sg.length=ns.length:=by have:=of_decide_eq_false e1;lia
   exists⟨sl,_,sg,Y,o7,λl oR G3 s3 hl el oZ=>?_⟩;have l2:oR.length<=1:=by
    have:=oZ.length;have:=M9 ((i+sg.length:Nat):Int) sg;lia
   show⟨rl,l,_,_,Y,Y,s3.at oV,el,by rw[aa,aa,ak];lia,?_⟩;exists λz hz=>xK (upd G3 z _) rfl hz λG4 pq ez=>?_;have s4:=s1.trans<|sG.trans s3;show k z (os++oR) _ bp G4 (s4.trans pq) (by rw[ez,aO]) (zI (L2.Paired.imp' (λ_ _ z=>xE.same z<|s3.trans pq) pE)<|L2.Paired.imp' (λ_ _ z=>xE.same z pq) oZ) ?_;rw[h1]at oS;rw[h1];show oS
def Xu:T.GO.O P w mg base 4 (Xv K a):=by
 specialize T.GO.g ["take","elder"]
 ·show oG λ_ U=>?_;obtain⟨o,e,to,st,c,es,rfl,⟨dx,h1⟩,he,oS,c0,hle,k⟩:=h;apply U;show⟨_,(xg (xm<|jD T.DT (jk T) hr.m #[5] T.Cv T.uv.b .nil xn (xa #[11]<|xa (yj yC (cv 1) (ya<|xv (cv 0) Y)<|ya (xr yp #[11]<|xv (cv 0) Y)) xb))),?_⟩;show⟨_,_,dx,_,.int to,Y,h1,T.xD,T.yy,Y,?_⟩;show⟨_,_,dx,_,.int st,Y,h1,T.xD,T.xZ,Y,?_⟩;show⟨_,Y,?_⟩;show⟨_,_,dx,_,.int st,Y,h1,T.xD,T.xZ,Y,?_⟩;show⟨_,_,dx,_,.int c,Y,h1,T.xD,T.yk,Y,?_⟩;show⟨_,Y,?_⟩;show⟨e,_,Y,kq.of he,?_⟩;exists λq hq=>xK (upd H q _) rfl hq λH1 oP eq=>?_;have eq2:H1 q=E (.lst<|((es.drop st.toNat).take c.toNat).map V.int):=by
   rw[eq,Wm,B0 oS,B0 #[2]]
   congr 4
   ·rw[d9 #[2],d9 #[2]];lia
   ·rw[d9 #[2]]
  left;intro x oK hx oN oU;show se (upd H1 oK<|.own x) λH2 oR=>?_;have oO:=xf.of_eq oN oR;have oQ:H2 x=y:=by rw[<-oR,xl<|aW oU];show hx
  show⟨x,oK,q,_,(es.drop st.toNat).take c.toNat,Y,xk,(xf.new oQ).at (oO.at eq2),λu H5 hu o5 e5 eu=>⟨Y,?_⟩⟩;have s5:xf H1 H5:=λb o z=>o5 b o (λsZ=>by rw[sZ,hx]at z;cases z)<|(oO.trans<|xf.new oQ).at z;show k x H5 (oP.trans s5) (oP.back hx) ⟨oK,u,e5,eu⟩
end
end ML
def y7(rR:List (List Int))(rN:List Int)(k:Int):Prop:=∃o∈rN,o∈rR.getD k.toNat []
def JX(rR:List (List Int))(rN:List Int):Prop:=∀k∈rN,0<=k/\k<rR.length/\y7 rR rN k
def Gj(h:kvs.map (·.1)=rN.map cJ)(o:Int):(yZ kvs<|.inl o).isSome=decide (o∈rN):=by
 unfold yZ;rw[ix,List.isSome_find?];have e:(kvs.any λkv=>decide (kv.1=cJ o))=((kvs.map (·.1)).any λk=>decide (k=cJ o)):=by rw[j9];rfl
 rw[e,h,j9,dX,fJ,decide_eq_true_iff];constructor
 ·rintro⟨x,hx,hq⟩;have:=of_decide_eq_true hq;cases this;show hx
 ·show λhx=>⟨o,hx,decide_eq_true Y⟩
def xf.v5{x:HO}(h:H l=E u)(s:xf (upd H l x) G):xf H (upd G l u):=λb o e=>by
 by_cases hb:b=l
 ·subst hb;rw[xk,<-h];show e
 ·rw[xl hb];show s b o ?_;rw[xl hb];show e
def K1{b:sK}{x sZ:HO}(h:H l=E (.dK kvs))(e:H b=E sZ)(n:∀q,sZ≠.dK q):upd H l x b=E sZ:=by
 rw[xl (λz=>by rw[z,h]at e;cases e;show n _ rfl)];show e
def xeU(K:ax):Sp:=λvs H Q _=>BM λ(D l:sK) (as:List sK) (H0:Hp) (rR:List (List Int)) (kvs:List (Key×V)) (rN:List Int)=>EY (vs=[.ref D,.ref l]) (zE H0 H D as rR) (H l=E (.dK kvs)) (kvs.map (·.1)=rN.map cJ) (∀k∈rN,0<=k/\k<rR.length) (rR.length<=1000) (∀xs∈rR,xs.length<=1000) ((∀k∈rN,¬y7 rR rN k->∀G,xf H G->Q (.int k) G)) (((∀k∈rN,y7 rR rN k)->∀G,xf H G->Q .rp G))
def RN(K:ax):Sp:=λvs H Q _=>BM λ(D l:sK) (as:List sK) (H0:Hp) (rR:List (List Int)) (kvs:List (Key×V)) (rN:List Int)=>DA (vs=[.ref D,.ref l]) (zE H0 H D as rR) (H l=E (.dK kvs)) (kvs.map (·.1)=rN.map cJ) (rN≠[]) (rN.length<=1000) (JX rR rN) (rR.length<=1000) (∀xs∈rR,xs.length<=1000) (∀ring:List Int,ring≠[]->(∀x∈ring,x∈rN)->ring.length<=1000->Ae H Q ring)
noncomputable def xh.rd:xh->Int×Int
 | .take to st c=>if st=to then(0,0)else(st,st+c)
 | .put _ _=>(0,0)
noncomputable def xh.wr:xh->Int×Int
 | .take to st c=>if st=to then(0,0)else(to,to+c)
 | .put to sg=>(to,to+sg.length)
noncomputable def BY(x sZ:Int×Int):Bool:=decide (max x.1 sZ.1<min x.2 sZ.2)
noncomputable def BX(k:Nat)(w:Int×Int)(tT:List (Int×Int)):List Int:=((bD tT.length).filter λ(i:Nat)=> !decide ((i:Int)=(k:Int))&&BY w (tT.getD i (0,0))).map λ(i:Nat)=>(i:Int)
noncomputable def vh(rs:List xh):List (List Int):=(bD rs.length).map λk=>BX k ((rs.map xh.wr).getD k (0,0)) (rs.map xh.rd)
def Du(K:ax)(H H':Hp)(t:sK)(x:Int×Int):Prop:=(∀G,rM K G t [.int x.1,.int x.2])\/(H t=y/\H' t=E (.tup [.int x.1,.int x.2]))
def Bd(K:ax)(H:Hp)(t:sK)(x:Int×Int):Prop:=rM K H t [.int x.1,.int x.2]
def Du.at{x:Int×Int}(h:Du K H H' t x)(k:∀p o,(H p=y\/∀ys,o≠HO.lst ys)->H' p=E o->H6 p=E o):Bd K H6 t x:=by
 rcases h with h|⟨h1,h2⟩
 ·show h _
 ·show rM.of (k _ _ (.inl h1) h2)
def xgT(K:ax)(a:rP):Sp:=λvs H Q _=>sE λ(o:sK) (r:xh)=>sU (vs=[.ref o]) (xE K a H o r) (r.rk=sX) (∀t H',xf H H'->Du K H H' t r.rd->Q (.ref t) H')
def xep(K:ax)(a:rP):Sp:=λvs H Q _=>sE λ(o:sK) (r:xh)=>sU (vs=[.ref o]) (xE K a H o r) (r.rk=sX) (∀t H',xf H H'->Du K H H' t r.wr->Q (.ref t) H')
def RM(K:ax):Sp:=λvs H Q _=>tS λ(s t:sK) (x sZ:Int×Int)=>sU (vs=[.ref s,.ref t]) (Bd K H s x) (Bd K H t sZ) (Q (.bl<|BY x sZ) H)
def Y3(K:ax):Sp:=λvs H Q _=>tW λ(k:Nat) (s l:sK) (x:Int×Int) (ts:List sK) (tT:List (Int×Int))=>tY (vs=[.int k,.ref s,.ref l]) (Bd K H s x) (kq K H l<|ts.map V.ref) (Paired (Bd K H) ts tT) (tT.length<=1000) (Ae H Q<|BX k x tT)
def V4(K:ax)(a:rP):Sp:=λvs H Q _=>sE λ(l:sK) (rs:List xh)=>tF (vs=[.ref l]) (DQ K a H l rs) (rs.length<=1000) (∀r∈rs,r.rk=sX) (Fn H Q<|vh rs)
noncomputable def Cu:xh->List Int
 | .take to _ c=>[c,to]
 | .put .. =>[]
def dR:xh:=.put 0 []
abbrev DP:Expr:=Fj (QP ((Ql ((Rl ((yh HN).getD 4<|.Pass ⟨0,0,0,0⟩)).getD 1<|.Pass ⟨0,0,0,0⟩)).getD 1<|.Pass ⟨0,0,0,0⟩))
def K0:uy ["one","takes"] ["one"] ["takes"] (yF DP):=by walk_at"d"
def RL(K:ax)(a:rP):List (Str×V)->Sp:=λfv vs H Q _=>tS λ(l:sK) (os:List sK) (rs:List xh) (x:Int)=>BO (fv=([("takes",.ref l)]:List (Str×V))) (vs=[.int x]) (kq K H l<|os.map V.ref) (Paired (xE K a H) os rs) (∀r∈rs,r.rk=sX) (0<=x) (x<rs.length) (∀d,H d=y->Q (.ref d) (upd H d (.tup<|(Cu<|rs.getD x.toNat dR).map V.int)))
def JW(os:List sK)(o t:sK)(G:Hp)(p:sK)(k:Int):Prop:=∃(rl:sK) (ring:List Int),rl≠o/\rl≠t/\G p=E (.tup [.ref<|os.getD k.toNat 0,.ref rl])/\G rl=E (.lst (ring.map λx=>V.ref<|os.getD x.toNat 0))/\ring.length<=1000/\∀x∈ring,0<=x/\x<os.length
def QI(K:ax)(a:rP)(G:Hp)(p:sK)(r:xh):Prop:=∃(q rl:sK) (qs:List sK),G p=E (.tup [.ref q,.ref rl])/\xE K a G q r/\G rl=E (.lst<|qs.map V.ref)/\qs.length<=1000/\∀q'∈qs,∃r',xE K a G q' r'/\r'.rk=sX
def xgW(K:ax)(a:rP):Sp:=λvs H Q _=>tK λ(l:sK) (os:List sK) (rs:List xh)=>AH (vs=[.ref l]) (kq K H l<|os.map V.ref) (Paired (xE K a H) os rs) (∀r∈rs,r.rk=sX) (rs.length<=300) (H yY=E (.sk zA)) (∀(p o t:sK) (oN oK:List sK) (ord sW:List xh) (G:Hp),xf H G->H o=y->H t=y->G p=E (.tup [.ref o,.ref t])->G o=E (.lst<|oN.map V.ref)->Paired (xE K a G) oN ord->G t=E (.lst<|oK.map V.ref)->Paired (QI K a G) oK sW->(ord++sW).Perm rs->Dw ord->Q (.ref p) G)
theorem M8{k:Int}:∀{kvs:List (Key×V)} {rN:List Int},kvs.map (·.1)=rN.map cJ->(AV kvs<|.inl k).map (·.1)=(rN.filter λx=>decide (x≠k)).map cJ
 |[],[],_=>rfl
 |kv::kvs,x::rN,h=>by
  rw[ba,ba]at h;injection h with h1 h2;have ih:=M8 (k:=k) h2;unfold AV at ih⊢
  by_cases e:x=k
  ·rw[fN (by rw[h1,e];simp),fN (by simp[e])];show ih
  ·rw[fO (by rw[h1];simpa using e),fO (by simpa using e),ba,ba,ih,h1]
def Yq{k:Int}(h:k∈rN):(rN.filter λx=>decide (x≠k)).length<rN.length:=by
 show dS (dm _ _) λz=>?_;have e:=List.filter_sublist.eq_of_length z;have:=bJ.mp<|e▸h;simp at this
noncomputable def refOf(os:List sK):V->V
 | .int x=>.ref (os.getD x.toNat 0)
 |_=>.rp
def getD_mem{xs:List Int}(h:i<xs.length):xs.getD i 0∈xs:=by
 have:xs.getD i 0=xs[i]:=by simp[bX,h]
 rw[this];show cF h
def Nx{k:Int}(hn:rN.Nodup)(hk:k∈rN):(k::rN.filter λx=>decide (x≠k)).Perm rN:=by
 show(List.perm_ext_iff_of_nodup ?_ hn).mpr λx=>?_
 ·show cV.mpr ⟨λh=>by simpa using(bJ.mp h).2,hn.filter _⟩
 ·rw[aB,bJ];constructor
  ·rintro(z|z)
   ·rw[z];show hk
   ·show z.1
  ·intro h
   by_cases e:x=k
   ·show .inl e
   ·show .inr ⟨h,by simpa using e⟩
def Fx{n:Nat}(h:x∈yz lo n):lo<=x/\x<lo+n:=by
 unfold yz at h;obtain⟨i,hi,rfl⟩:=aY.mp h;have:=cC.mp hi;lia
theorem P9{s:xh}(h:x∈s.tT):s.rd.1<=x/\x<s.rd.2:=by
 cases s with
 |put _ _=>simp[xh.tT]at h
 |take to st c=>
  by_cases e:st=to
  ·simp[xh.tT,e]at h
  ·have h2:x∈yz st c.toNat:=by simpa [xh.tT,e]using h
   have:=Fx h2;have e2:xh.rd (.take to st c)=(st,st+c):=by simp[xh.rd,e]
   rw[e2];show⟨this.1,by change x<st+c;lia⟩
theorem P8{s:xh}(h:x∈s.sS):s.wr.1<=x/\x<s.wr.2:=by
 cases s with
 |put to sg=>show Fx (show x∈yz to sg.length from h)
 |take to st c=>
  by_cases e:st=to
  ·simp[xh.sS,e]at h
  ·have h2:x∈yz to c.toNat:=by simpa [xh.sS,e]using h
   have:=Fx h2;have e2:xh.wr (.take to st c)=(to,to+c):=by simp[xh.wr,e]
   rw[e2];show⟨this.1,by change x<to+c;lia⟩
def RK{s:xh}(h:BY r.wr s.rd=sJ):∀x∈s.tT,x∉r.sS:=λx hx hw=>by
 have h:=of_decide_eq_false h;have a1:=P9 hx;have a2:=P8 hw;omega
theorem QH{rs:List xh}{k:Int}(k0:0<=k)(k1:k<rs.length)(x0:0<=x)(x1:x<rs.length)(ne:x≠k)(h:x∉(vh rs).getD k.toNat []):BY (rs.getD k.toNat dR).wr (rs.getD x.toNat dR).rd=sJ:=by
 have hk:k.toNat<rs.length:=by lia
 have hx:x.toNat<rs.length:=by lia
 have e:(vh rs).getD k.toNat []=BX k.toNat ((rs.map xh.wr).getD k.toNat (0,0)) (rs.map xh.rd):=by simp[vh,bX,hk]
 rw[e]at h;have e1:(rs.map xh.wr).getD k.toNat (0,0)=(rs.getD k.toNat dR).wr:=by simp[bX,hk]
 have e2:(rs.map xh.rd).getD x.toNat (0,0)=(rs.getD x.toNat dR).rd:=by simp[bX,hx]
 rw[e1]at h;cases hm:BY (rs.getD k.toNat dR).wr (rs.getD x.toNat dR).rd with
 |false=>rfl
 |true=>
  show absurd (aY.mpr ⟨x.toNat,bJ.mpr ⟨cC.mpr (by rw[aa];show hx),?_⟩,by lia⟩) h;rw[e2,hm,Bool.and_true];simp;lia
structure vC(rR:List (List Int))(n:Nat)(ord sW rN:List Int):Prop where
 perm:(ord++(sW++rN)).Perm ((bD n).map λ(i:Nat)=>(i:Int))
 pair:ord.Pairwise λk x=>x∉rR.getD k.toNat []
 ahead:∀k∈ord,∀x∈rN,x∉rR.getD k.toNat []
def Wl(n:Nat):((bD n).map λ(i:Nat)=>(i:Int)).Nodup:=cI.mpr (iN.imp λh e=>h #[2])
def vC.nd{n:Nat}(h:vC rR n ord sW rN):ord.Nodup/\rN.Nodup:=by
 have:=(h.perm.nodup_iff.mpr<|Wl n);obtain⟨h1,h2,_⟩:=gp.mp this;show⟨h1,(gp.mp h2).2.1⟩
def vC.lt{n:Nat}(h:vC rR n ord sW rN)(hx:x∈ord\/x∈sW\/x∈rN):0<=x/\x<n:=by
 obtain⟨i,hi,rfl⟩:=aY.mp<|h.perm.mem_iff.mp (by simpa using hx);have:=cC.mp hi;lia
def vC.keep{n:Nat}{k:Int}(h:vC rR n ord sW rN)(hk:k∈rN)(hh:¬y7 rR rN k):vC rR n (ord++[k]) sW (rN.filter λx=>decide (x≠k)):=by
 show⟨?_,b8.mpr ⟨h.pair,eC _ _,λx hx sZ hy=>by rw[ai.mp hy];show h.ahead x hx k hk⟩,λx hx sZ hy=>?_⟩
 ·show gL ?_ h.perm;rw[bu];show dq _ ((List.perm_middle (a:=k) (l₁:=sW)).symm.trans (dq sW<|Nx h.nd.2 hk))
 ·have hy:=(bJ.mp hy).1;rcases aZ.mp hx with z|z
  ·show h.ahead x z sZ hy
  ·rw[ai.mp z];show λq=>hh ⟨sZ,hy,q⟩
def vC.turn{n:Nat}{k:Int}(h:vC rR n ord sW rN)(hk:k∈rN):vC rR n ord (sW++[k]) (rN.filter λx=>decide (x≠k)):=by
 show⟨gL ?_ h.perm,h.pair,λx hx sZ hy=>h.ahead x hx sZ (bJ.mp hy).1⟩;rw[bu];show dq _ (dq _<|Nx h.nd.2 hk)
def range_getD(xs:List α)(d:α):(bD xs.length).map (λi=>xs.getD i d)=xs:=by
 apply List.ext_getElem
 ·simp
 ·intro i h1 h2;simp[bX,h2]
def vC.done{rs:List xh}(h:vC (vh rs) rs.length ord sW []):((ord.map λx=>rs.getD x.toNat dR)++sW.map λx=>rs.getD x.toNat dR).Perm rs/\Dw (ord.map λx=>rs.getD x.toNat dR):=by
 show⟨?_,cI.mpr<|(h.nd.1.and h.pair).imp_of_mem λ{k x} hk hx hq=>?_⟩
 ·have:=h.perm.map λx=>rs.getD x.toNat dR;rw[df,c7,show((λx:Int=>rs.getD x.toNat dR)∘λ(i:Nat)=>(i:Int))=λi=>rs.getD i dR from funext λi=>by simp,range_getD,aO]at this;show this
 ·show RK (QH (h.lt<|.inl hk).1 (h.lt<|.inl hk).2 (h.lt<|.inl hx).1 (h.lt<|.inl hx).2 (aW hq.1) hq.2)
section
variable {base:Heap} (T:Txt w K mg a)
theorem xgY:T.HK.O P w mg base 2 (xgT K a):=by
 specialize T.HK.g ["row"]
 ·show oG λ_ U=>?_;obtain⟨o,r,rfl,ho,oK,k⟩:=h;apply U;show⟨_,(xc (xC (PW.pt<|vj (yb<|xq zY #[5] T.yB yq (xa (cv 0)<|xa (zf (v:=.ref a.q0a) #[5] T.Bu Y) xb)) (uE<|zK (yb<|xJ (cv 0) T.xD T.vn (vo T) hr.m T.ua.b .nil xn))) (xg (xm<|zp (xa #[11]<|xa (xr yp #[11]<|xv (cv 0) Y) xb))) xw)
  (xg (xm (zf (v:=.ref a.q0z) #[5] T.NC Y)))),?_⟩
  cases r with
  |put _ _=>cases oK
  |take to st c=>
   obtain⟨dx,h1⟩:=ho;show⟨_,_,_,_,sX,Y,Y,T.B4 h1,T.vL,?_⟩;walk_at"Y";show⟨o,dx,_,Y,h1,Y,?_⟩;exists⟨o,dx,to,st,c,Y,h1,?_⟩
   by_cases e:st=to
   ·rw[decide_eq_true e];walk_at"n";show k _ _ (xf.refl _)<|.inl λG=>?_;have:=T.NB G;simpa [xh.rd,e]using this
   ·rw[decide_eq_false e];walk_at"Y";show⟨o,_,dx,_,.int st,Y,h1,T.xD,T.xZ,Y,?_⟩;show⟨o,_,dx,_,.int st,Y,h1,T.xD,T.xZ,Y,?_⟩;show⟨o,_,dx,_,.int c,Y,h1,T.xD,T.yk,Y,?_⟩;show⟨by walk_at"side",λt ht=>k t _ (xf.new ht)<|.inr ⟨ht,?_⟩⟩;rw[xk];simp[xh.rd,e]
theorem xer:T.jd.O P w mg base 2 (xep K a):=by
 specialize T.jd.g ["row"]
 ·show oG λ_ U=>?_;obtain⟨o,r,rfl,ho,oK,k⟩:=h;apply U;show⟨_,(xc (xC (PW.pt (vj (yb<|xq zY #[5] T.yB yq (xa (cv 0)<|xa (zf (v:=.ref a.q0a) #[5] T.Bu Y) xb))<|uE (yb<|xJ (cv 0) T.xD T.vn (vo T) hr.m T.ua.b .nil xn))) (xg (xm<|zf (v:=.ref a.q0z) #[5] T.NC Y)) xw)
  (xg (xm (xJ (cv 0) T.xD T.Oa (jt T) hr.m T.uO.b .nil xn)))),?_⟩
  cases r with
  |put _ _=>cases oK
  |take to st c=>
   obtain⟨dx,h1⟩:=ho;show⟨_,_,_,_,sX,Y,Y,T.B4 h1,T.vL,?_⟩;walk_at"Y";show⟨o,dx,_,Y,h1,Y,?_⟩;exists⟨o,dx,to,st,c,Y,h1,?_⟩
   by_cases e:st=to
   ·rw[decide_eq_true e];walk_at"y";show k _ _ (xf.refl _)<|.inl λG=>?_;have:=T.NB G;simpa [xh.wr,e]using this
   ·rw[decide_eq_false e];walk_at"N";show⟨o,dx,_,Y,h1,Y,?_⟩;show⟨o,_,dx,_,to,c,Y,h1,T.xD,T.yy,T.yk,Y,Y,λt ht=>k t _ (xf.new ht)<|.inr ⟨ht,?_⟩⟩;rw[xk];simp[xh.wr,e]
def RJ:T.FJ.O P w mg base 1 (RM K):=by
 specialize T.FJ.g ["one","other"]
 ·show oG λ_ U=>?_;obtain⟨s1,t1,x,sZ,rfl,hs,ht,q⟩:=h;apply U;show⟨_,(xg<|xm (yQ wZ (xq (B1 Y) #[5] T.AQ Bo (xa #[15]<|xa (xy xG (cv 1) xj λ_ _=>Y) xb))<|xq (FC Y) #[5] T.Bh Bn (xa #[15]<|xa (xy xG (cv 1) xj λ_ _=>Y) xb))),?_⟩;show⟨s1,_,_,.int x.1,Y,Y,hs,Y,?_⟩;show⟨t1,_,_,.int sZ.1,Y,Y,ht,Y,?_⟩;show⟨s1,_,_,.int x.2,Y,Y,hs,Y,?_⟩;show⟨t1,_,_,.int sZ.2,Y,Y,ht,Y,?_⟩;show q
theorem Y2:T.Ha.O P w mg base 2 (Y3 K):=by
 specialize T.Ha.g ["number","stretch","read"]
 ·show oG λ_ U=>?_;obtain⟨k,s1,l,x,ts,tT,rfl,hs,hl,hp,hle,q⟩:=h;apply U;show⟨_,(xg (xm<|F8 (FT (cap:=[0,1]) (ys:=["number","stretch"]) rfl rfl rfl rfl rfl rfl ⟨⟨Y,Y,.inl Y⟩,⟨⟨Y,Y,.inl Y⟩,trivial⟩⟩ #[18]) rfl (F7 #[5] T.jj<|xa (cv 2) xb) (λ_ _ _ _=>(cv 0)) λ_ _ _ _=>(B6<|PW.pt (vj (xA CC (cv 0)<|cv 2)<|uE (yb<|xo (RJ T) hr.m T.Rz T.FJ xn (xa (cv 3)<|xa (cv 1) xb)))))),?_⟩;have oK:ts.length=tT.length:=hp.length;show⟨l,Y,⟨_,hl⟩,?_⟩;show Y8 (λi v=> !decide ((i:Int)=(k:Int))&&BY x (tT.getD i (0,0))) hl (by rw[aa,ak];lia) (λi v H3 hv s3 R hR=>?_) (λi v H3 hv s3 R hR=>?_) (λD H' hD s' hv=>?_)
  ·rw[av]at hv;cases ht:ts[i]? with
   |none=>rw[ht]at hv;cases hv
   |some t=>
    rw[ht]at hv;cases hv;show oG λ_ U=>?_;obtain⟨sZ,hy,py⟩:=yD hp ht;apply U;have eg:tT.getD i (0,0)=sZ:=by simp[bX,hy]
    show⟨λe=>?_,λe=>?_⟩
    ·show⟨s1,t,x,sZ,Y,s3.tP hs,s3.tP py,?_⟩;have:=hR _<|xf.refl _;rw[eg,e,Bool.true_and]at this;show this
    ·have:=hR _<|xf.refl _;rw[e,Bool.false_and]at this;show this
  ·show hR _ (xf.refl _)
  ·show q D H' s' hD ?_;rw[hv,aa,oK,BX,c7];rfl
theorem V3:T.F5.O P w mg base 3 (V4 K a):=by
 specialize T.F5.g ["rows","read","written"]
 ·show oG λ_ U=>?_;obtain⟨l,rs,rfl,⟨os,hl,hp⟩,hle,oU,q⟩:=h;apply U;show⟨_,(xc (xp (i:=1) nd Y (dP Y)<|yv #[4] Y (xS<|cv 0) (λ_ _ _ _=>(xo (xgY T) hr.m T.xhm T.HK xn<|xa (cv 0) xb)) λ_ _ _ _=>yo)
  (xc (xp (i:=2) nd Y (dP Y)<|yv #[4] Y (xS<|cv 0) (λ_ _ _ _=>(xo (xer T) hr.m T.xeP T.jd xn<|xa (cv 0) xb)) λ_ _ _ _=>yo)
  (xg (xm (yv (yu (cap:=[1,2]) (ys:=["read","written"]) rfl rfl rfl rfl rfl ⟨⟨Y,Y,.inl Y⟩,⟨⟨Y,Y,.inl Y⟩,trivial⟩⟩ #[18]) rfl (EC #[5] T.uR (xa (xq xu #[5] T.xW xN (xa (cv 0) xb)) xb)) (λ_ _ _ _=>(xo (Y2 T) hr.m T.XU T.Ha xn (xa (cv 0) (xa (xy (LO (K:=K) Y) (cv 2) (cv 0) (λ_ _=>Y)) (xa (cv 1) xb))))) (λ_ _ _ _=>yo)))))),?_⟩
  have oR:os.length=rs.length:=hp.length;have hz:(os.map V.ref).length<=aK:=by rw[aa,ak];lia
  show⟨l,Y,⟨_,hl⟩,?_⟩;show yV (λi acc G=>∃ts:List sK,acc=ts.map V.ref/\Paired (Bd K G) ts ((rs.map xh.rd).take i)) hl hz ⟨[],Y,.nil⟩ (λi v acc H3 sI hv s3 oO hP R hR=>?_) (λD1 acc H1 H1' pk ph s1 oN hP pe o8=>?_)
  ·rw[av]at hv;cases ht:os[i]? with
   |none=>rw[ht]at hv;cases hv
   |some o=>
    rw[ht]at hv;cases hv;show oG λ_ U=>?_;obtain⟨r,hy,py⟩:=yD hp ht;obtain⟨ts,rfl,oP⟩:=hP;apply U;show⟨o,r,Y,py.same<|s3.trans oO,oU r<|aj hy,λt H6 s6 hn=>hR _ _ s6 λG sG kG=>⟨ts++[t],by simp,?_⟩⟩;rw[bh,av,hy];show yT (L2.Paired.imp' (λ_ _ z=>sG.tP z) oP) (hn.at kG)
  ·show oG λ_ U=>?_;obtain⟨t1,rfl,oW⟩:=hP;apply U;rw[bE (by simp;lia)]at oW;left;have oQ:=(s1.trans oN).seq hl;show⟨l,Y,⟨_,oQ⟩,?_⟩;show yV (λi acc G=>∃ts:List sK,acc=ts.map V.ref/\Paired (Bd K G) ts ((rs.map xh.wr).take i)) oQ hz ⟨[],Y,.nil⟩ (λi v acc H3 sI hv s3 oO hP R hR=>?_) (λD2 acc H2 H2' pj pf s2 oK hP oY o7=>?_)
   ·rw[av]at hv;cases ht:os[i]? with
    |none=>rw[ht]at hv;cases hv
    |some o=>
     rw[ht]at hv;cases hv;show oG λ_ U=>?_;obtain⟨r,hy,py⟩:=yD hp ht;obtain⟨ts,rfl,oP⟩:=hP;apply U;show⟨o,r,Y,py.same ((s1.trans oN).trans<|s3.trans oO),oU r<|aj hy,λt H6 s6 hn=>hR _ _ s6 λG sG kG=>⟨ts++[t],by simp,?_⟩⟩;rw[bh,av,hy];show yT (L2.Paired.imp' (λ_ _ z=>sG.tP z) oP) (hn.at kG)
   ·show oG λ_ U=>?_;obtain⟨t2,rfl,oV⟩:=hP;apply U;rw[bE (by simp;lia)]at oV;exists⟨l,_,Y,.inl<|(s2.trans oK).seq oQ,?_⟩;have en:zM 0 ((os.map V.ref).length:Nat) 1=rs.length:=by rw[uZ,aa,oR];lia
    rw[en];have pd:=(s2.trans oK).at o8;have p1:=L2.Paired.imp' (λ_ _ z=>(oN.trans<|s2.trans oK).tP z) oW;have p2:=L2.Paired.imp' (λ_ _ z=>oK.tP z) oV;have oS:xf H H2':=(s1.trans oN).trans<|s2.trans oK;show Hs (λk=>BX k ((rs.map xh.wr).getD k (0,0))<|rs.map xh.rd) (by rw[ak];lia) (λk H3 hk s3 R hR=>?_) (λD H' as s' L=>?_)
    ·have oX:k<t2.length:=by rw[p2.length];simpa using hk
     obtain⟨sZ,hy,py⟩:=yD p2<|au oX;have eg:(rs.map xh.wr).getD k (0,0)=sZ:=by simp only[bX];rw[hy];rfl
     rw[eg]at hR;have ek:(0:Int)+(k:Int)*1=(k:Int):=by lia
     rw[ek];show⟨D2,_,_,.ref t2[k],Y,Y,kq.of<|s3.at o7,?_,?_⟩
     ·show yn (by simp[oX])
     show⟨k,t2[k],D1,sZ,t1,rs.map xh.rd,Y,s3.tP py,kq.of<|s3.at pd,L2.Paired.imp' (λ_ _ z=>s3.tP z) p1,by simpa using hle,λl1 H4 s4 o9 oZ=>hR _ _ s4 o9 oZ⟩
    ·show q D as H' (oS.trans s') (L.base oS)
theorem xeV:T.jA.O P w mg base 1 (xeU K):=by
 specialize T.jA.g ["spoilt","left","number"]
 ·show oG λ_ U=>?_;obtain⟨D,l,as,H0,rR,kvs,rN,rfl,L,hl,oQ,rh,oX,oS,q1,q2⟩:=h;apply U;show⟨_,(xc (Ti (i:=1) PassesOwn.never Y (cv 1) (yc (i:=2) nd Y<|aG Y) (xg<|xC (zK<|yb (xq (MD Y) #[5] T.Jj Kb<|xa (yv (yu (cap:=[1]) (ys:=["left"]) rfl rfl rfl rfl rfl ⟨⟨Y,Y,.inl Y⟩,trivial⟩ #[18]) rfl (xS<|xy xU (cv 0) (cv 2) λ_ _=>Y) (λ_ _ _ _=>(R7 (DX (AU hr) (cv 0)<|cv 1) #[5])) λ_ _ _ _=>yo) xb)) (xg (xm<|cv 2)) xw))
  (xg (xm zT))),?_⟩
  show⟨l,kvs,Y,hl,λo oN=>?_⟩;show se (upd H l _) λF hF=>?_;have eF:F l=E (.sC o<|.dK kvs):=by rw[<-hF,xk]
  have LF:zE H0 F D as rR:=⟨by rw[<-hF];show K1 hl L.top (by intro _ z;cases z),L.nd,L.len,λi a xs h1 h2=>by rw[<-hF];show K1 hl (L.each i a xs h1 h2) (by intro _ z;cases z),L.fr,L.tw⟩;have oY:kvs.length=rN.length:=by have:=congrArg cz oQ;simpa using this
  have back:∀G,xf F G->xf H (upd G l<|.dK kvs):=λG sG=>by subst hF;show xf.v5 hl sG
  clear hF;show WU (λi σ G=>xf F G/\(∃z,σ=[E<|.ref D,E<|.ref l,z])/\∀j k,j<i->rN[j]? =E k->y7 rR rN k) ⟨xf.refl _,⟨_,Y⟩,λj k hj=>absurd hj<|kc _⟩ (λi σ G _ hp=>hp.1.at eF) (λi k σ G hk hp=>?_) (λσ G hp=>?_)
  ·show oG λ_ U=>?_;obtain⟨sG,⟨z,rfl⟩,hh⟩:=hp;apply U;have oV:∃n,rN[i]? =E n/\k=cJ n:=by
    rw[oQ,av]at hk;cases e:rN[i]? with
    |none=>rw[e]at hk;cases hk
    |some n=>rw[e]at hk;cases hk;show⟨n,Y,Y⟩
   show oG λ_ U=>?_;obtain⟨n,hn,rfl⟩:=oV;apply U;have hm:n∈rN:=aj hn;obtain⟨k0,k1⟩:=rh n hm;left;have oO:n.toNat<rR.length:=by lia
   have LG:=LF.same sG;have oK:n.toNat<as.length:=by rw[L.len];show oO
   have eg:rR.getD n.toNat []=rR[n.toNat]:=by simp[bX,oO]
   have ea:=LG.each _ _ _ (au oK)<|au oO;have oU:=oS _<|cF oO;show⟨D,_,_,.ref as[n.toNat],Y,Y,kq.of LG.top,?_,?_⟩
   ·have:=yn (xs:=as.map V.ref) (j:=n.toNat) (v:=.ref as[n.toNat]) (by simp[oK])
    rwa [cq k0]at this
   show⟨_,Y,⟨_,kq.of ea⟩,?_⟩;show MN (λv=>V.bl (wV v<|rN.map V.int)) (kq.of ea) (by rw[aa,ak];lia) (λv G5 hv s5 R hR=>?_) (λD5 G5 oZ s5 e5=>?_)
   ·show oG λ_ U=>?_;obtain⟨c,_,rfl⟩:=aY.mp hv;apply U;show⟨l,yZ kvs<|.inl c,Y,.inl ⟨kvs,.inl c,.inr ⟨o,(sG.trans s5).at eF⟩,Y,Y⟩,?_⟩;rw[Gj oQ,<-Cc];show hR _ (xf.refl _)
   show⟨D5,rR[n.toNat].map λc=>decide (c∈rN),Y,kq.of (by rw[e5,c7,c7];simp[oh,Cc]),?_⟩;left;have ha:((rR[n.toNat].map λc=>decide (c∈rN)).any id)=sX↔y7 rR rN n:=by
    unfold y7;rw[eg,j9,fJ];show⟨λ⟨x,hx,hq⟩=>⟨x,of_decide_eq_true hq,hx⟩,λ⟨x,hx,hq⟩=>⟨x,hq,decide_eq_true hx⟩⟩
   show⟨λe=>?_,λe=>?_⟩
   ·have oP:¬y7 rR rN n:=λz=>by rw[<-ha]at z;simp only[z]at e;cases e
    show⟨⟨o,(sG.trans s5).at eF,oN⟩,q1 n hm oP _ (back _<|sG.trans s5)⟩
   ·have oP:y7 rR rN n:=by rw[<-ha];simpa using e
    show⟨sG.trans s5,⟨_,Y⟩,λj k hj oR=>?_⟩
    by_cases oW:j=i
    ·subst oW;rw[hn]at oR;cases oR;show oP
    ·show hh j k #[2] oR
  ·show oG λ_ U=>?_;obtain⟨sG,⟨z,rfl⟩,hh⟩:=hp;apply U;show⟨⟨o,sG.at eF,oN⟩,q2 (λk hk=>?_) _<|back G sG⟩;show oG λ_ U=>?_;obtain⟨j,hj,e⟩:=nK hk;apply U;show hh j k #[2] (by rw[au hj,e])
def Z5:T.HD.O P w mg base 1 (RN K):=by
 specialize T.HD.g ["spoilt","left","path","number"]
 ·show oG λ_ U=>?_;obtain⟨D,l,as,H0,rR,kvs,rN,rfl,L,hl,oZ,pe,pk,rh,pj,o7,q⟩:=h;apply U;show⟨_,(xc (xp (i:=2) nd Y (aG Y)<|yf xb)
  (xc (xp (i:=3) nd Y (aG Y) (xq (VH Y) #[5] T.Bh Bn<|xa (cv 1) xb))
  (xc (CS PassesOwn.never (xA Zi (cv 3) (cv 2) #[5]) (xc (xO (yN PySem.F.plainAttrs_list PySem.F.slot_list_append PySem.F.type_list_append yX (cv 2)<|xa (cv 3) xb))
  (xg (xp (i:=3) nd Y (aG Y) (xq (MC Y) #[5] T.Bh Bn (xa (yv (yu (cap:=[1]) (ys:=["left"]) rfl rfl rfl rfl rfl ⟨⟨Y,Y,.inl Y⟩,trivial⟩ #[18]) rfl (xS (xy xU (cv 0) (cv 3) (λ_ _=>Y))) (λ_ _ _ _=>(cv 0)) (λ_ _ _ _=>(B6 (CA (DX (AU hr) (cv 0) (cv 1)) #[5])))) xb))))))
  (xg (xm (W3 Y #[5] T.AW #[5] T.Xe (yj yC (cv 2) (ya (yN PySem.F.plainAttrs_list PySem.F.slot_list_index PySem.F.type_list_index Va (cv 2) (xa (cv 3) xb))) zg))))))),?_⟩
  right;show λp hp=>xK (upd H p _) rfl hp λH1 oV ep=>?_;exists⟨l,kvs,rN,Y,oV.at hl,oZ,pe,λst oS o9=>?_⟩;show jh (m:=rN.length) (λm σ G=>xf H G/\∃(path:List Int) (k:Int),m=rN.length - path.length/\σ=[E<|.ref D,E<|.ref l,E<|.ref p,E<|.int k]/\G p=E (.lst<|path.map V.int)/\path.Nodup/\(∀x∈path,x∈rN)/\k∈rN) ⟨oV,[],st,Y,Y,ep,.nil,(λx hx=>by cases hx),oS⟩ λm σ G hP=>?_;show oG λ_ U=>?_;obtain⟨sG,path,k,rfl,rfl,oK,oY,oQ,hk⟩:=hP;apply U;have pq:=EA oY oQ;exists⟨p,_,Y,.inl<|kq.of oK,Y,Wn _,?_⟩;rw[Cc];show⟨λe=>?_,λe=>?_⟩
  ·have e':¬k∈path:=by simpa using e
   have oO:(path++[k]).Nodup:=gp.mpr ⟨oY,by simp,λx hx sZ hy z=>e' (by rw[<-ai.mp hy,<-z];show hx)⟩;have oN:∀x∈path++[k],x∈rN:=λx hx=>by
    rcases aZ.mp hx with z|z
    ·show oQ x z
    ·rw[ai.mp z];show hk
   have oU:=EA oO oN;rw[ao,bT]at oU;show⟨_,λ_ _ z=>z,?_⟩;show⟨.inl ⟨Y,_,kq.of oK⟩,?_⟩;show⟨p,_,_,Y,Y,oK,by rw[aa,ak];lia,?_⟩;show se (upd G p _) λG2 hU=>?_;have s2:xf H G2:=xf.wr sG hp hU;have ph:G2 p=E (.lst<|(path++[k]).map V.int):=by rw[<-hU,xk,aO];rfl
   clear hU;left;show oG λ_ U=>?_;obtain⟨k0,k1,o,pd,oX⟩:=rh k hk;apply U;have oR:k.toNat<rR.length:=by lia
   have oP:k.toNat<as.length:=by rw[L.len];show oR
   have eg:rR.getD k.toNat []=rR[k.toNat]:=by simp[bX,oR]
   rw[eg]at oX;have ea:=L.each _ _ _ (au oP)<|au oR;show⟨D,_,_,.ref as[k.toNat],Y,Y,kq.of<|s2.at L.top,?_,?_⟩
   ·have:=yn (xs:=as.map V.ref) (j:=k.toNat) (v:=.ref as[k.toNat]) (by simp[oP])
    rwa [cq k0]at this
   show⟨_,Y,⟨_,kq.of<|s2.at ea⟩,?_⟩;have o8:=o7 _<|cF oR;show jQ (λv=>wV v<|rN.map V.int) id (kq.of<|s2.at ea) (by rw[aa,ak];lia) (λv G5 hv s5 R hR=>?_) (λv G5 hv _ s5 R hR=>?_) (λD5 G5 pz s5 e5=>?_)
   ·show oG λ_ U=>?_;obtain⟨c,_,rfl⟩:=aY.mp hv;apply U;show⟨l,yZ kvs<|.inl c,Y,.inl ⟨kvs,.inl c,.inl<|(s2.trans s5).at hl,Y,Y⟩,?_⟩;rw[Gj oZ,<-Cc];show hR _ (xf.refl _)
   ·show hR _ (xf.refl _)
   rw[oz,Yj]at e5;simp only[Cc]at e5;show⟨D5,_,Y,kq.of e5,List.ne_nil_of_mem<|bJ.mpr ⟨oX,decide_eq_true pd⟩,λmm h1 h2=>?_⟩;show⟨rN.length - (path++[k]).length,by rw[ao,bT];lia,s2.trans s5,path++[k],mm,Y,Y,s5.at ph,oO,oN,of_decide_eq_true (bJ.mp h1).2⟩
  ·have e':k∈path:=by simpa using e
   show⟨.inl ⟨Y,_,kq.of oK⟩,?_⟩;show⟨p,_,_,Y,Y,oK,e',by lia,λx hx=>by have:=rh x<|oQ x hx;lia,?_⟩;show⟨_,Y,?_⟩;show⟨p,_,Y,kq.of oK,?_⟩;exists λc hc=>xK (upd G c _) rfl hc λG3 oW ec=>?_;rw[jK,<-cQ]at ec;show⟨c,_,Y,kq.of ec,λd hd=>?_⟩;have pf:=List.idxOf_lt_length_iff.mpr e';show q (path.drop<|path.idxOf k).reverse (λz=>?_) (λx hx=>oQ x (cx<|List.mem_reverse.mp hx)) (by rw[ki,bC];lia) d _ ((sG.trans oW).trans<|xf.new hd) ((sG.trans oW).back hd) (by rw[xk,<-List.map_reverse]);have:=congrArg cz z;rw[ki,bC,cW]at this;lia
theorem Gp{α β:Type}{R S:α->β->Prop}:∀{xs:List α} {ys:List β},(∀x,∀sZ∈ys,R x sZ->S x sZ)->Paired R xs ys->Paired S xs ys
 |_,_,_,.nil=>.nil
 |_,_,h,.cons x r=>.cons (h _ _ aJ x) (Gp (λx sZ hy=>h x sZ<|aw _ hy) r)
theorem jm{α β γ:Type}{R:α->β->Prop}{f:γ->α}{g:γ->β}:∀{xs:List γ},(∀x∈xs,R (f x)<|g x)->Paired R (xs.map f) (xs.map g)
 |[],_=>.nil
 |x::xs,h=>.cons (h x aJ) (jm λsZ hy=>h sZ<|aw _ hy)
theorem Nl{α β γ:Type}{R:α->γ->Prop}{g:β->γ}:∀{xs:List α} {ys:List β},Paired (λx sZ=>R x<|g sZ) xs ys->Paired R xs (ys.map g)
 |_,_,.nil=>.nil
 |_,_,.cons h r=>.cons h (Nl r)
theorem Hl{α β:Type}{R:α->β->Prop}{d:α}{d':β}:∀{xs:List α} {ys:List β} {i:Nat},Paired R xs ys->i<ys.length->R (xs.getD i d) (ys.getD i d')
 |_,_,0,.cons h _,_=>h
 |_,_,i+1,.cons _ r,hi=>Hl (i:=i) r (mD hi)
theorem xdE(T:Txt w K mg a):uq P w K mg base sR 1 "<lambda>" "put_in_order.<locals>.<lambda>" (uI DP) (.expr<|uJ DP) (yF DP) ["one"] (RL K a):=by
 show jx K0 (λfv vs H Q sQ h=>?_) (λ_ _ _ _ _ us hl=>match us,hl with|[_],_=>Y) (λA outer s H f rL cdv fv vs Q sQ hr h=>?_)
 ·obtain⟨l,os,rs,x,rfl,rfl,_⟩:=h;show⟨Y,Y⟩
 ·show oG λ_ U=>?_;obtain⟨l,os,rs,x,rfl,rfl,hl,hp,oO,x0,x1,k⟩:=h;apply U;have nd:=K0.nd;show⟨_,(zp (xa (xv (xy xU (cv 1) (cv 0) λ_ _=>Y) Y)<|xa (xv (xy xU (cv 1) (cv 0) λ_ _=>Y) Y) xb)),?_⟩;have oQ:os.length=rs.length:=hp.length;have hx:x.toNat<os.length:=by lia
  have oR:x.toNat<rs.length:=by lia
  obtain⟨r,oK,oP⟩:=yD hp<|au hx;have ht:=oO r<|aj oK;have eg:rs.getD x.toNat dR=r:=by simp only[bX];rw[oK];rfl
  rw[eg]at k;have oN:wN (os.map V.ref) x=E (.ref os[x.toNat]):=by
   have:=yn (xs:=os.map V.ref) (j:=x.toNat) (v:=.ref os[x.toNat]) (by simp[hx])
   rwa [cq x0]at this
  cases r with
  |put _ _=>cases ht
  |take to st c=>
   obtain⟨dx,h1⟩:=oP;show⟨l,_,_,_,Y,Y,hl,oN,?_⟩;show⟨_,_,dx,_,.int c,Y,h1,T.xD,T.yk,Y,?_⟩;show⟨l,_,_,_,Y,Y,hl,oN,?_⟩;show⟨_,_,dx,_,.int to,Y,h1,T.xD,T.yy,Y,?_⟩;show⟨by walk_at"side",k⟩
def xgZ:T.HJ.O P w mg base 4 (xgW K a):=by
 show T.HJ.EN ["takes"] T.xgB N5 (λvs H Q sQ h=>?_) (λA outer s H vs Q sQ hr h=>?_)
 ·obtain⟨l,os,rs,rfl,_⟩:=h;rfl
 ·show oG λ_ U=>?_;obtain⟨l,os,rs,rfl,hl,hp,pJ,hle,hP,q⟩:=h;apply U;have nd:=N5.nd;show⟨_,(C1 (x:="takes") (i:=0) nd rfl rfl rfl #[9] (xc (xp (i:=1) nd Y (aG Y) (xo (V3 T) hr.m T.Vh T.F5 xn<|xa (cv 0) xb))
  (xc (xp (i:=2) nd Y (aG Y) (xT (WS Y) #[5] T.Qc SO<|xa (yv #[4] Y (EC #[5] T.uR<|xa (xq xu #[5] T.xW xN<|xa (cv 0) xb) xb) (λ_ _ _ _=>(zp (xa (cv 0)<|xa yG xb))) λ_ _ _ _=>yo) xb))
  (xc (xp (i:=3) nd Y (aG Y)<|yf xb)
  (xc (xp (i:=4) nd Y (aG Y)<|yf xb)
  (xc (CS PassesOwn.never (xA Af (xq Wx #[5] T.xW xN<|xa (cv 2) xb) xj) (xc (jO (xp (i:=5) nd Y (aG Y)<|xo (xeV T) hr.m T.xfA T.jA xn (xa (cv 1)<|xa (cv 2) xb)))
  (xc (jO (xC (AX<|cv 5) (xc (xp (i:=6) nd Y (aG Y)<|xo (Z5 T) hr.m T.Zs T.HD xn (xa (cv 1)<|xa (cv 2) xb))
  (xc (xp (i:=5) nd Y (aG Y) (Th (xdE T) hr.m Y #[5] T.Bh (xa (cv 6) xb)<|uV (c:=uL) (P:=yY) (qs:=zA) (fns:=["takes"]) rfl T.xgA (q:="put_in_order.<locals>.<lambda>") #[9] (.head _) #[9] #[9]))
  (xg (xO (yN PySem.F.plainAttrs_list PySem.F.slot_list_append PySem.F.type_list_append yX (cv 4) (xa (zp (xa (xy xU (cv 0) (cv 5) (λ_ _=>Y)) (xa (yv (yu (cap:=[0]) (ys:=["takes"]) rfl rfl rfl rfl rfl ⟨⟨Y,Y,.inl Y⟩,trivial⟩ #[18]) rfl (xS (cv 6)) (λ_ _ _ _=>(xy (LO (K:=K) Y) (cv 1) (cv 0) (λ_ _=>Y))) (λ_ _ _ _=>yo)) xb))) xb)))))) (xg (xO (yN PySem.F.plainAttrs_list PySem.F.slot_list_append PySem.F.type_list_append yX (cv 3) (xa (xy xU (cv 0) (cv 5) (λ_ _=>Y)) xb))))))
  (xg (xO (UD (cv 2) (cv 5) ⟨by rfl,by rfl,by decide,by rfl⟩))))))
  (xg (xm (zp (xa (cv 3) (xa (cv 4) xb))))))))))),?_⟩
  have pz:os.length=rs.length:=hp.length;left;intro a1 e1 z1 d1;show bG z1 ?_;show se (upd H a1 _) λH1 pP=>?_;have s1:=xf.of_eq z1 pP;have c1:=xM pP;clear pP;show⟨l,rs,Y,⟨os,s1.seq hl,L2.Paired.imp' (λ_ _ z=>z.same s1) hp⟩,by lia,pJ,λD as H2 s2 L=>?_⟩;exists⟨l,_,Y,.inl<|(s1.trans s2).seq hl,?_⟩;have en:zM 0 ((os.map V.ref).length:Nat) 1=rs.length:=by rw[uZ,aa,pz];lia
  rw[en];show Wo (λi acc G=>∃ts:List sK,acc=ts.map V.ref/\Paired (λt (kv:Key×V)=>G t=E (.tup [kV kv.1,kv.2])) ts ((bD i).map λ(j:Nat)=>((cJ (j:Int),V.bl sX):Key×V))) (by rw[ak];lia) ⟨[],Y,.nil⟩ (λi acc H3 sI hi s3 oV pq R hR=>?_) (λD2 acc H3 sI qr qe s3 oV pq qd p8=>?_)
  ·show oG λ_ U=>?_;obtain⟨ts,rfl,pI⟩:=pq;apply U;have ek:(0:Int)+(i:Int)*1=(i:Int):=by lia
   rw[ek];show⟨by walk_at"side",λt ht=>hR _ _ (xf.new ht) λG sG kG=>⟨ts++[t],by simp,?_⟩⟩;rw[j8,aO];show yT (L2.Paired.imp' (λ_ _ z=>sG.at z) pI) (kG t _ (.inl ht) xk)
  show oG λ_ U=>?_;obtain⟨ts,rfl,pI⟩:=pq;apply U;have ql:xf H1 sI:=s2.trans<|s3.trans oV;show⟨D2,ts,_,Y,kq.of p8,L2.Paired.imp' (λ_ _ z=>oV.at z) pI,?_,λd hd=>?_⟩
  ·rw[c7];show cI.mpr (iN.imp λh e=>h (by have:=Sum.inl.inj e;lia))
  show se (upd sI d _) λH4 pO=>?_;have s4:=xf.of_eq hd pO;have c4:=xM pO;clear pO;right;exists λo ho=>xK (upd H4 o _) rfl ho λH5 pH eo=>?_;right;exists λt ht=>xK (upd H5 t _) rfl ht λH6 pG et=>?_;left;have pW:xf H2 H6:=(s3.trans oV).trans (s4.trans<|pH.trans pG);have fd:H2 d=y:=(s3.trans oV).back hd;have fo:H2 o=y:=((s3.trans oV).trans s4).back ho;have ft:H2 t=y:=(((s3.trans oV).trans s4).trans pH).back ht;have pV:o≠t:=λz=>by rw[z]at eo;rw[ht]at eo;cases eo
  have pf:(vh rs).length=rs.length:=by simp[vh]
  have pe:∀xs∈vh rs,xs.length<=1000:=λxs hx=>by
   show oG λ_ U=>?_;obtain⟨k,_,rfl⟩:=aY.mp hx;apply U;unfold BX;rw[aa];show aQ (dm _ _) ?_;simp;lia
  have pN:∀x:Int,0<=x/\x<rs.length->wN (os.map V.ref) x=E (.ref<|os.getD x.toNat 0):=λx rh=>by
   have hx:x.toNat<os.length:=by lia
   have:=yn (xs:=os.map V.ref) (j:=x.toNat) (v:=.ref os[x.toNat]) (by simp[hx]);rw[cq rh.1]at this;rw[this];simp[bX,hx]
  have pd:=s1.trans s2;show jh (m:=rs.length) (λm σ G=>xf H2 G/\∃(rN ord sW:List Int) (kvs:List (Key×V)) (oU:List sK) (z5 z6:Option V),m=rN.length/\σ=[E<|.ref l,E<|.ref D,E<|.ref d,E<|.ref o,E<|.ref t,z5,z6]/\G d=E (.dK kvs)/\kvs.map (·.1)=rN.map cJ/\
   G o=E (.lst (ord.map λx=>V.ref (os.getD x.toNat 0)))/\G t=E (.lst (oU.map V.ref))/\Paired (JW os o t G) oU sW/\vC (vh rs) rs.length ord sW rN)
   ⟨pW,(bD rs.length).map λ(i:Nat)=>(i:Int),[],[],_,[],_,_,by simp,Y,(pH.trans pG).at c4,by rw[c7,c7];rfl,pG.at eo,et,.nil,.refl _,.nil,λk hk=>by cases hk⟩ (λm σ G pq=>?_)
  show oG λ_ U=>?_;obtain⟨sG,rN,ord,sW,kvs,oU,z5,z6,rfl,rfl,oS,pk,oN,oK,pC,oX⟩:=pq;apply U;have oR:∀x∈rN,0<=x/\x<rs.length:=λx hx=>oX.lt (.inr<|.inr hx);have hlen:=oX.perm.length_eq;rw[ao,ao,aa,ef]at hlen;have qp:kvs.length=rN.length:=by have:=congrArg cz pk;simpa using this
  have LG:=L.same sG;show⟨d,kvs,Y,oS,?_⟩;show⟨λe=>?_,λe=>?_⟩
  ·show⟨_,λ_ _ z=>z,?_⟩;have qa:0<rN.length:=by have:=of_decide_eq_true e;lia
   show⟨λrq G1=>xf G G1/\∃v,rq=[E<|.ref l,E<|.ref D,E<|.ref d,E<|.ref o,E<|.ref t,E v,z6]/\((∃kn,v= .int kn/\kn∈rN/\¬y7 (vh rs) rN kn)\/(v= .rp/\∀k∈rN,y7 (vh rs) rN k)),?_,λrq G1 hM=>?_⟩
   ·show⟨D,d,as,H1,vh rs,kvs,rN,Y,LG,oS,pk,λx hx=>by rw[pf];show oR x hx,by lia,pe,λkn oW hh G1 g1=>⟨g1,_,Y,.inl ⟨kn,Y,oW,hh⟩⟩,λoY G1 g1=>⟨g1,_,Y,.inr ⟨Y,oY⟩⟩⟩
   show oG λ_ U=>?_;obtain⟨g1,v,rfl,hM⟩:=hM;apply U;show⟨λrq G'=>∃(kn:Int) (y6:Option V) (oQ oO:List Int) (oP:List sK),rq=[E<|.ref l,E<|.ref D,E<|.ref d,E<|.ref o,E<|.ref t,E<|.int kn,y6]/\kn∈rN/\xf H2 G'/\G' d=E (.dK kvs)/\G' o=E (.lst (oQ.map λx=>V.ref<|os.getD x.toNat 0))/\G' t=E (.lst<|oP.map V.ref)/\Paired (JW os o t G') oP oO/\vC (vh rs) rs.length oQ oO (rN.filter λx=>decide (x≠kn)),?_,λrq H' hM=>?_⟩
   ·rcases hM with⟨kn,rfl,oW,hh⟩|⟨rfl,oY⟩
    ·walk_at"N";show⟨.inl ⟨Y,_,kq.of<|g1.at oN⟩,?_⟩;show⟨l,_,_,_,Y,Y,(pd.trans<|sG.trans g1).seq hl,pN kn<|oR kn oW,?_⟩;show⟨o,_,_,Y,Y,g1.at oN,by rw[aa,ak];lia,?_⟩;show se (upd G1 o _) λG2 hU=>?_;have qi:G2 o=E (.lst ((ord++[kn]).map λx=>V.ref<|os.getD x.toNat 0)):=by rw[<-hU,xk,aO];rfl
     have off:∀b u,b≠o->G b=E u->G2 b=E u:=λb u hb e=>by rw[<-hU,xl hb];show g1.at e
     have o9:xf H2 G2:=xf.wr (sG.trans g1) fo hU;clear hU;show⟨kn,z6,ord++[kn],sW,oU,Y,oW,o9,off d _ (λz=>by rw[z]at oS;rw[oS]at oN;cases oN) oS,qi,off t _ (aW pV) oK,L2.Paired.imp' (λp kr z=>?_) pC,oX.keep oW hh⟩;show oG λ_ U=>?_;obtain⟨rl,ring,n1,n2,x1,x2,x3⟩:=z;apply U;show⟨rl,ring,n1,n2,off _ _ (λz=>by rw[z]at x1;rw[x1]at oN;cases oN) x1,off _ _ n1 x2,x3⟩
    ·walk_at"y";have pQ:JX (vh rs) rN:=λx hx=>⟨(oR x hx).1,by rw[pf];show(oR x hx).2,oY x hx⟩;show⟨D,d,as,H1,vh rs,kvs,rN,Y,LG.same g1,g1.at oS,pk,List.ne_nil_of_length_pos qa,by lia,pQ,by lia,pe,λring pZ pB pY r G2 g2 qo pR=>?_⟩;have pX:=cb.mpr pZ;left;have pA:xf H G2:=pd.trans (sG.trans<|g1.trans g2);show⟨pA.at hP,[("takes",.ref l)],rfl,λx v m=>?_,λf G3 hf g3 qc=>?_⟩
     ·simp only[aB,iG,bR,or_false]at m;obtain⟨rfl,rfl⟩:=m;show⟨a1,e1,(s2.trans (sG.trans<|g1.trans g2)).at c1⟩
     show⟨r,f,ring,_,λi=>Cu<|rs.getD (ring.getD i 0).toNat dR,Y,Y,kq.of<|g3.at pR,pX,qc,λi x hx G4 g4=>?_,λG4 g4=>?_⟩
     ·have pU:x∈rN:=pB x<|aj hx;show⟨l,os,rs,x,Y,Y,(pA.trans<|g3.trans g4).seq hl,L2.Paired.imp' (λ_ _ z=>z.same (pA.trans<|g3.trans g4)) hp,pJ,(oR x pU).1,(oR x pU).2,λdd qb=>⟨xf.new qb,dd,Y,?_⟩⟩;have:ring.getD i 0=x:=by simp[bX,hx]
      rw[xk];change _=E (HO.tup<|(Cu<|rs.getD (ring.getD i 0).toNat dR).map V.int);rw[this]
     have qq:=JJ (λi=>Cu<|rs.getD (ring.getD i 0).toNat dR)<|ring.length - 1;generalize oW:ring.getD (wL (λi=>Cu<|rs.getD (ring.getD i 0).toNat dR)<|ring.length - 1) 0=kn;have o7:kn∈rN:=pB kn (by rw[<-oW];show getD_mem #[2]);have pE:xf G G4:=g1.trans (g2.trans<|g3.trans g4);have pT:xf H G4:=pA.trans<|g3.trans g4;show⟨.inl ⟨Y,_,kq.of<|pE.at oK⟩,?_⟩;show⟨l,_,_,_,Y,Y,pT.seq hl,pN kn<|oR kn o7,?_⟩;show⟨_,Y,⟨_,kq.of<|(g3.trans g4).at pR⟩,?_⟩;show MN (refOf os) (kq.of<|(g3.trans g4).at pR) (by rw[aa,ak];lia) (λv G5 hv g5 R hR=>?_) (λrl G5 p9 g5 qg=>?_)
     ·show oG λ_ U=>?_;obtain⟨x,hx,rfl⟩:=aY.mp hv;apply U;show⟨l,_,_,_,Y,Y,(pT.trans g5).seq hl,pN x (oR x<|pB x hx),?_⟩;show hR _ (xf.refl _)
     show⟨by walk_at"side",λp pD=>?_⟩;show se (upd G5 p _) λG6 hV=>?_;have g6:=xf.of_eq pD hV;have qh:=xM hV;clear hV;have o8:xf G G6:=pE.trans<|g5.trans g6;show⟨t,_,_,Y,Y,o8.at oK,by rw[aa,pC.length,ak];lia,?_⟩;show se (upd G6 t _) λG7 hU=>?_;have qf:G7 t=E (.lst<|(oU++[p]).map V.ref):=by rw[<-hU,xk,aO];rfl
     have off:∀b u,b≠t->G6 b=E u->G7 b=E u:=λb u hb e=>by rw[<-hU,xl hb];show e
     have o9:xf H2 G7:=xf.wr (sG.trans o8) ft hU;clear hU;have fp:G p=y:=(pE.trans g5).back pD;have pF:G rl=y:=pE.back p9;have pK:rl≠o:=λz=>by rw[z]at pF;rw[pF]at oN;cases oN
     have pj:rl≠t:=λz=>by rw[z]at pF;rw[pF]at oK;cases oK
     show⟨kn,_,ord,sW++[kn],oU++[p],Y,o7,o9,off d _ (λz=>by rw[z]at oS;rw[oS]at oK;cases oK)<|o8.at oS,off o _ pV<|o8.at oN,qf,yT (L2.Paired.imp' (λp kr z=>?_) pC) ⟨rl,ring,pK,pj,off p _ (λz=>by rw[z]at fp;rw[fp]at oK;cases oK) qh,off rl _ pj (by rw[g6.at qg,c7];rfl),pY,λx hx=>by rw[pz];show oR x<|pB x hx⟩,oX.turn o7⟩;show oG λ_ U=>?_;obtain⟨rl,ring,n1,n2,x1,x2,x3⟩:=z;apply U;show⟨rl,ring,n1,n2,off _ _ (λz=>by rw[z]at x1;rw[x1]at oK;cases oK)<|o8.at x1,off _ _ n2<|o8.at x2,x3⟩
   show oG λ_ U=>?_;obtain⟨kn,y6,oQ,oO,oP,rfl,o7,sM,dM,oM,tM,pM,gM⟩:=hM;apply U;have ph:(yZ kvs<|.inl kn).isSome=sX:=by rw[Gj pk];show decide_eq_true o7
   obtain⟨vv,p7⟩:=gY.mp ph;show⟨d,Y,.inl ⟨_,.inl dM⟩,?_⟩;show⟨kvs,.inl kn,vv,dM,Y,p7,?_⟩;show se (upd H' d _) λG2 hU=>?_;have qk:G2 d=E (.dK (AV kvs<|.inl kn)):=by rw[<-hU,xk]
   have off:∀b u,b≠d->H' b=E u->G2 b=E u:=λb u hb e=>by rw[<-hU,xl hb];show e
   have o9:xf H2 G2:=xf.wr sM fd hU;clear hU;show⟨_,Yq o7,o9,rN.filter λx=>decide (x≠kn),oQ,oO,_,oP,_,_,Y,Y,qk,M8 pk,off o _ (λz=>by rw[z]at oM;rw[oM]at dM;cases dM) oM,off t _ (λz=>by rw[z]at tM;rw[tM]at dM;cases dM) tM,L2.Paired.imp' (λp kr z=>?_) pM,gM⟩;show oG λ_ U=>?_;obtain⟨rl,ring,n1,n2,x1,x2,x3⟩:=z;apply U;show⟨rl,ring,n1,n2,off _ _ (λz=>by rw[z]at x1;rw[x1]at dM;cases dM) x1,off _ _ (λz=>by rw[z]at x2;rw[x2]at dM;cases dM) x2,x3⟩
  ·obtain rfl:rN=[]:=dD.mp (by have:=of_decide_eq_false e;lia);show⟨by walk_at"side",λp pD=>?_⟩;have oZ:=xf.new (o:=HO.tup [.ref o,.ref t]) pD;have pS:xf H G:=pd.trans sG;have pL:∀{x:Int},0<=x/\x<rs.length->xE K a (upd G p<|.tup [.ref o,.ref t]) (os.getD x.toNat 0) (rs.getD x.toNat dR)/\(rs.getD x.toNat dR).rk=sX:=λ{x} hx=>by
    have h1:x.toNat<rs.length:=by lia
    have h2:rs.getD x.toNat dR=rs[x.toNat]:=by simp[bX,h1]
    show⟨(Hl (d:=0) (d':=dR) hp h1).same<|pS.trans oZ,by rw[h2];show pJ _<|cF h1⟩
   obtain⟨m1,m2⟩:=oX.done;show q p o t (ord.map λx=>os.getD x.toNat 0) oU _ _ _ (pS.trans oZ) (pd.back fo) (pd.back ft) xk (by rw[oZ.at oN,c7];rfl) (jm λx hx=>(pL (oX.lt<|.inl hx)).1) (oZ.at oK) (Nl<|Gp (λp x hx z=>?_) pC) m1 m2;show oG λ_ U=>?_;obtain⟨rl,ring,n1,n2,x1,x2,x3,x4⟩:=z;apply U;show⟨_,rl,ring.map λx=>os.getD x.toNat 0,oZ.at x1,(pL<|oX.lt (.inr<|.inl hx)).1,by rw[oZ.at x2,c7];rfl,by simpa using x3,λq hq=>?_⟩;show oG λ_ U=>?_;obtain⟨sZ,hy,rfl⟩:=aY.mp hq;apply U;have:=pL (x:=sZ) (by have:=x4 sZ hy;lia);show⟨_,this.1,this.2⟩
end
noncomputable def QG:Stmt->Expr
 | .For _ it _ _ _=>it
 |_=>.Constant .none 0 ⟨0,0,0,0⟩
abbrev DW:Expr:=Fj (QG ((yh F6).getD 1<|.Pass ⟨0,0,0,0⟩))
def KZ:uy ["one"] ["one"] [] (yF DW):=by walk_at"d"
def RI(a:rP):List (Str×V)->Sp:=λfv vs H Q _=>tE λ(p dx t:sK) (to n:Int)=>sU (fv=[]) (vs=[.ref p]) (H p=E (.ins a.q0b dx<|Ah to t n)) (Q (.int to) H)
noncomputable def xV(acc:List xh)(r:xh):List xh:=match acc.getLast?,r with
 |some (.put t sg),.put to oK=>if t+sg.length=to then acc.dropLast++[.put t<|sg++oK]else acc++[r]
 |_,_=>acc++[r]
def ud(r:xh):Prop:=∃to sg,r= .put to sg/\sg≠[]/\0<=to/\to+sg.length<=1000
def Hk(h:∀x∈acc,ud x)(hr:ud r):∀x∈xV acc r,ud x:=by
 obtain⟨to,oK,rfl,s1,s2,s3⟩:=id hr;intro x hx;unfold xV at hx
 split at hx
 ·rename_i t sg to2 oO hl e;cases e;obtain⟨to3,oN,e3,u1,u2,u3⟩:=h _<|List.mem_of_getLast? hl;cases e3
  split at hx
  ·rcases aZ.mp hx with z|z
   ·show h x (List.dropLast_subset _ z)
   ·rw[ai.mp z];show⟨t,sg++oK,Y,by simp[u1],u2,by rw[ao];lia⟩
  ·rcases aZ.mp hx with z|z
   ·show h x z
   ·rw[ai.mp z];show hr
 ·rcases aZ.mp hx with z|z
  ·show h x z
  ·rw[ai.mp z];show hr
theorem Nk{α β:Type}{R:α->β->Prop}:∀{xs:List α} {ys:List β} {sZ:β},Paired R xs (ys++[sZ])->∃oK x,xs=oK++[x]/\Paired R oK ys/\R x sZ
 |_,[],_,.cons h .nil=>⟨[],_,Y,.nil,h⟩
 |_,_::ys,_,.cons h r=>by
  obtain⟨oK,x,rfl,h1,h2⟩:=Nk r;show⟨_::oK,x,Y,.cons h h1,h2⟩
theorem Gh:∀{L acc:List xh},(∀x∈acc,ud x)->(∀x∈L,ud x)->∀x∈L.foldl xV acc,ud x
 |[],_,h,_=>h
 |r::L,_,h,k=>Gh (L:=L) (Hk h<|k r aJ) λx hx=>k x (aw _ hx)
theorem Yp{R:α->β->Prop}{p xs:List α}(h:p.Perm xs):∀{ys:List β},Paired R xs ys->∃oK,Paired R p oK/\oK.Perm ys:=by
 induction h with
 |nil=>show λh=>⟨_,h,.refl _⟩
 |cons x _ ih=>
  rintro _ (_|⟨r,t⟩);obtain⟨oK,h1,h2⟩:=ih t;show⟨_,.cons r h1,h2.cons _⟩
 |swap x sZ l=>
  rintro _ (_|⟨r,_|⟨s,t⟩⟩);show⟨_,.cons s<|.cons r t,.swap ..⟩
 |trans _ _ oO oN=>
  intro ys h;obtain⟨z,h1,h2⟩:=oN h;obtain⟨w,h3,h4⟩:=oO h1;show⟨w,h3,h4.trans h2⟩
def V2(K:ax)(a:rP):Sp:=λvs H Q _=>tK λ(l:sK) (os:List sK) (ps:List xh)=>BO (vs=[.ref l]) (kq K H l<|os.map V.ref) (Paired (xE K a H) os ps) (∀r∈ps,ud r) (ps.length<=300) ((ps.map xh.to).Nodup) (H vH=E (.sk jH)) (∀(l':sK) (oK:List sK) (L:List xh) (G:Hp),xf H G->G l'=E (.lst<|oK.map V.ref)->L.Perm ps->(ps.length<64->L.Pairwise λr s=>r.to<s.to)->Paired (xE K a G) oK (L.foldl xV [])->Q (.ref l') G)
def OL(K:ax)(a:rP)(H:Hp)(l wl sl:sK)(pv:List V)(acc:List xh)(i:Nat)(σ:L2.St)(G:Hp):Prop:=xf H G/\G sl=E (.lst pv)/\∃(z2 z3:Option V) (oK:List sK),σ=[E<|.ref l,E<|.ref wl,z2,z3]/\G wl=E (.lst<|oK.map V.ref)/\Paired (xE K a G) oK acc/\oK.length<=i
def Hy(r:xh):xV [] r=[r]:=by unfold xV;simp
def ju(acc:List xh)(t:Int)(sg:List Int)(to:Int)(oK:List Int):xV (acc++[.put t sg]) (.put to oK)=if t+sg.length=to then acc++[.put t<|sg++oK]else acc++[.put t sg]++[.put to oK]:=by
 unfold xV;simp only[List.getLast?_append,List.getLast?_singleton,Option.some_or,List.dropLast_concat]
section
variable {base:Heap} (T:Txt w K mg a)
theorem Nj{α β γ:Type}{R:γ->β->Prop}{g:α->γ}:∀{xs:List α} {ys:List β},Paired (λx sZ=>R (g x) sZ) xs ys->Paired R (xs.map g) ys
 |_,_,.nil=>.nil
 |_,_,.cons h r=>.cons h (Nj r)
def Z4(T:Txt w K mg a):uq P w K mg base sR 1 "<lambda>" "joined.<locals>.<lambda>" (uI DW) (.expr<|uJ DW) (yF DW) ["one"] (RI a):=by
 show jx KZ (λfv vs H Q sQ h=>?_) (λ_ _ _ _ _ us hl=>match us,hl with|[_],_=>Y) (λA outer s H f rL cdv fv vs Q sQ hr h=>?_)
 ·obtain⟨p,dx,t,to,n,rfl,rfl,_⟩:=h;show⟨Y,Y⟩
 ·show oG λ_ U=>?_;obtain⟨p,dx,t,to,n,rfl,rfl,hp,k⟩:=h;apply U;have nd:=KZ.nd;show⟨_,#[11],?_⟩;show⟨_,_,dx,_,.int to,Y,hp,T.yl,T.zi,Y,k⟩
theorem V1:T.Gi.O P w mg base 4 (V2 K a):=by
 show T.Gi.EN [] T.Vo Mp (λvs H Q sQ h=>?_) (λA outer s H vs Q sQ hr h=>?_)
 ·obtain⟨l,os,ps,rfl,_⟩:=h;rfl
 ·show oG λ_ U=>?_;obtain⟨l,os,ps,rfl,hl,hp,rh,qh,pK,hP,k⟩:=h;apply U;have nd:=Mp.nd;show⟨_,(xc (xp (i:=1) nd Y (aG Y)<|yf xb)
  (xc (zc PassesOwn.never Y (xS (Xs (Z4 T) hr.m #[5] T.Lv (xa (cv 0) xb)<|uV (c:=HI) (P:=vH) (qs:=jH) (fns:=[]) Y T.Vp (q:="joined.<locals>.<lambda>") #[9] (.head _) #[9] #[9])) (yc (i:=2) nd Y<|aG Y) (xg (xC (PW.pt (vj (xA Af (xq xu #[5] T.xW xN<|xa (cv 1) xb) xj)<|uE (xA vS (xy xG (xJ (xy xU (cv 1) (Fp Ft xj) λ_ _=>Y) T.yl T.NQ (jt T) hr.m T.uO.b .nil xn) xj λ_ _=>Y)<|xv (cv 2) Y))) (xc (xp (i:=3) nd Y (aG Y) (Kf PySem.F.plainAttrs_list PySem.F.slot_list_pop PySem.F.type_list_pop Q4<|cv 1))
  (xg (xO (yN PySem.F.plainAttrs_list PySem.F.slot_list_append PySem.F.type_list_append yX (cv 1) (xa (jD T.DT (jk T) hr.m #[5] T.Cv T.uv.b .nil xn (xa (xv (cv 3) Y) (xa (xr S1 (xv (cv 3) Y) (xv (cv 2) Y)) xb))) xb))))) (xg (xO (yN PySem.F.plainAttrs_list PySem.F.slot_list_append PySem.F.type_list_append yX (cv 1) (xa (cv 2) xb)))))))
  (xg (xm (cv 1))))),?_⟩
  have oU:os.length=ps.length:=hp.length;right;show λwl o7=>xK (upd H wl _) rfl o7 λH1 pE pC=>?_;show⟨pE.at hP,[],Y,λx v m=>by simp at m,λf H2 hf s2 qd=>?_⟩;have pd:xf H H2:=pE.trans s2;show⟨l,f,os.map V.ref,[],λi=>(ps.getD i dR).to,Y,Y,pd.seq hl,by rw[aa];lia,qd,λi x hx H3 s3 R hR=>?_,⟨λi hi=>by simp,λi j k _ _ _ h1 h2=>decide_eq_true (by have:=of_decide_eq_true h1;have:=of_decide_eq_true h2;lia),λi j hi hj qa=>?_⟩,λsl p H3 s3 pY pR p9 p8=>?_⟩
  ·rw[av]at hx;show oG λ_ U=>?_;obtain⟨o,ho,rfl⟩:=aI.mp hx;obtain⟨pr,hy,py⟩:=yD hp ho;obtain⟨to,sg,rfl,_⟩:=rh pr<|aj hy;obtain⟨dx,t,p1,p2⟩:=py;apply U;have e:ps.getD i dR= .put to sg:=by simp only[bX];rw[hy];rfl
   have:R (.int (ps.getD i dR).to) H3:=hR H3<|xf.refl _;rw[e]at this;show⟨o,dx,t,to,sg.length,Y,Y,(pd.trans s3).at p1,this⟩
  ·rw[aa,oU]at hi hj;have gi:ps.getD i dR=ps[i]:=by simp[bX,hi]
   have gj:ps.getD j dR=ps[j]:=by simp[bX,hj]
   change decide ((ps.getD i dR).to<(ps.getD j dR).to)=sX\/decide ((ps.getD j dR).to<(ps.getD i dR).to)=sX;rw[gi,gj];have ne:ps[i].to≠ps[j].to:=λe=>by
    rcases Nat.lt_or_gt_of_ne qa with z|z
    ·show cc.mp (cI.mp pK) i j hi hj z e
    ·show cc.mp (cI.mp pK) j i hj hi z e.symm
   rcases Int.lt_or_gt_of_ne ne with z|z
   ·show .inl (decide_eq_true z)
   ·show .inr (decide_eq_true z)
  have pT:xf H H3:=pd.trans s3;have pI:Paired (λv r=>∃o,v=V.ref o/\xE K a H o r) (os.map V.ref) ps:=Nj<|L2.Paired.imp' (λo _ z=>⟨o,Y,z⟩) hp;obtain⟨L,pO,pB,qg⟩:∃L:List xh,Paired (λv r=>∃o,v=V.ref o/\xE K a H o r) p L/\L.Perm ps/\(ps.length<64->L.Pairwise λr s=>r.to<s.to):=by
   by_cases pP:ps.length<64
   ·obtain⟨p',rfl,h2,h3⟩:=p8 (by rw[aa,oU];show pP);rw[aa,oU]at h2;show⟨p'.map λi=>ps.getD i dR,jm λi hi=>Hl pI (cC.mp<|h2.mem_iff.mp hi),Ms h2,λ_=>cI.mpr h3⟩
   ·show oG λ_ U=>?_;obtain⟨L,h1,h2⟩:=Yp p9 pI;apply U;show⟨L,h1,h2,λz=>absurd z pP⟩
  have pN:∀r∈L,ud r:=λr hr=>rh r<|pB.mem_iff.mp hr;have qq:=pB.length_eq;have oS:wl≠sl:=λz=>by rw[z]at pC;have:=s2.at pC;rw[pY]at this;cases this
  show⟨sl,Y,⟨_,kq.of pR⟩,?_⟩;show yU (λi=>OL K a H l wl sl p ((L.take i).foldl xV []) i)
   ⟨pT,pR,_,_,[],Y,(s2.trans s3).at pC,.nil,ah _⟩ (λi σ G _ oY=>kq.of oY.2.1) (λi x σ G hx oY=>?_) (λσ G oY=>?_)
  ·show oG λ_ U=>?_;obtain⟨sG,pj,z2,z3,oW,rfl,oO,oQ,pk⟩:=oY;obtain⟨pr,hy,o,rfl,py⟩:=Paired.An pO hx;apply U;have qp:i<L.length:=(aE.mp hy).1;have pA:=pN pr<|aj hy;show oG λ_ U=>?_;obtain⟨to,oR,rfl,g1,g2,g3⟩:=id pA;apply U;have pJ:=Gh (L:=L.take i) (acc:=[]) (λx hx=>by cases hx) λx hx=>pN x<|bQ hx;have en:∀acc,mY xV acc (E<|xh.put to oR).toList=xV acc (.put to oR):=λ_=>rfl;rw[bh,hy,gn,en];generalize (L.take i).foldl xV []=acc at oQ pJ⊢;show oG λ_ U=>?_;obtain⟨dx,u,o1,o2⟩:=py.same sG;apply U;exists⟨wl,_,Y,.inl<|kq.of oO,?_⟩;have app:xV acc (.put to oR)=acc++[.put to oR]->∀(G':Hp),xf G G'->OL K a H l wl sl p (xV acc<|.put to oR) (i+1) [E<|.ref l,E<|.ref wl,E<|.ref o,z3] (upd G' wl (.lst<|oW.map V.ref++[.ref o])):=λej G' g=>by
    show⟨(sG.trans g).put o7,by rw[xl<|aW oS];show g.at pj,_,_,oW++[o],Y,by rw[xk,aO];rfl,?_,by rw[ao,bT];lia⟩;rw[ej];show yT (L2.Paired.imp' (λ_ _ z=>(z.same g).off<|g.at oO) oQ) (xE.off (r:=.put to oR) ⟨dx,u,g.at o1,g.at o2⟩<|g.at oO)
   show⟨λe1=>?_,λe1=>?_⟩
   ·rcases i3 acc with z|⟨pD,last,z⟩
    ·subst z;cases oQ;simp at e1
    rw[i4]at z;subst z;show oG λ_ U=>?_;obtain⟨oN,lo,rfl,pz,oX⟩:=Nk oQ;obtain⟨t,sg,rfl,u1,u2,u3⟩:=pJ last #[8];obtain⟨oZ,lu,l1,l2⟩:=oX;exists U ?_;have qe:wN ((oN++[lo]).map V.ref) (-1)=E (.ref lo):=by
     rw[aO];have e:z9 (oN.length+1) (-1)=E oN.length:=by
      unfold z9
      first
       |(rw[if_neg (by lia),if_pos (by lia)];congr 1;lia)
       |(simp;lia)
       |simp
     simp[wN,e]
    show⟨wl,_,_,_,Y,Y,kq.of oO,qe,?_⟩;show⟨lo,oZ,_,Y,l1,Y,?_⟩;show⟨lo,_,oZ,_,t,sg.length,Y,l1,T.yl,T.zi,T.yS,Y,Y,λct qb=>?_⟩;show se (upd G ct _) λG1 hV=>?_;have oK:=xf.of_eq qb hV;have qo:=xM hV;clear hV;show⟨ct,_,_,.int<|t+sg.length,Y,Y,rM.of qo,Y,?_⟩;show⟨_,_,dx,_,.int to,Y,oK.at o1,T.yl,T.zi,Y,?_⟩;show⟨λe2=>?_,λe2=>?_⟩
    ·have pf:t+sg.length=to:=of_decide_eq_true e2;show⟨.inl ⟨Y,_,kq.of<|oK.at oO⟩,wl,_,.ref lo,Y,Y,oK.at oO,by simp,?_⟩;have ql:((oN++[lo]).map V.ref).dropLast=oN.map V.ref:=by rw[aO];simp
     rw[ql];show se (upd G1 wl _) λG2 hU=>?_;have o8:=xM hU;have oP:∀b w0,b≠wl->G1 b=E w0->G2 b=E w0:=λb w0 hb e=>by rw[<-hU,xl hb];show e
     have pZ:xf H G2:=by rw[<-hU];show(sG.trans oK).put o7
     have nl:∀{b:sK} {w0:HO},G1 b=E w0->(∀ys,w0≠.lst ys)->b≠wl:=λ{b w0} e n z=>by rw[z,oK.at oO]at e;cases e;show n _ rfl
     have pq:Paired (xE K a G2) oN pD:=by rw[<-hU];show L2.Paired.imp' (λ_ _ z=>(z.same oK).off<|oK.at oO) pz
     clear hU;have pG:=oP lo _ (nl (oK.at l1) (by intro _ z;cases z))<|oK.at l1;have pX:=oP lu _ (nl (oK.at l2) (by intro _ z;cases z))<|oK.at l2;have pV:=oP o _ (nl (oK.at o1) (by intro _ z;cases z))<|oK.at o1;have pU:=oP u _ (nl (oK.at o2) (by intro _ z;cases z))<|oK.at o2;have ph:=oP sl _ (aW oS)<|oK.at pj;show⟨.inl ⟨Y,_,kq.of o8⟩,?_⟩;show⟨_,_,oZ,_,.int t,Y,pG,T.yl,T.zi,Y,?_⟩;show⟨_,_,oZ,_,.ref lu,Y,pG,T.yl,T.zz,Y,?_⟩;show⟨_,_,dx,_,.ref u,Y,pV,T.yl,T.zz,Y,?_⟩;show⟨lu,u,_,_,Y,Y,rM.of pX,rM.of pU,by simpa using u1,by rw[aa,aa,ak];lia,λz=>absurd z (by simpa using g1),λ_ cp qc=>?_⟩;show se (upd G2 cp _) λG3 hW=>?_;have qi:=xf.of_eq qc hW;have pS:=xM hW;clear hW;left;intro x o9 hx pe pW;show se (upd G3 o9<|.own x) λG4 pL=>?_;have pF:=xf.of_eq pe pL;have pH:G4 x=y:=by rw[<-pL,xl<|aW pW];show hx
     show⟨x,o9,cp,t,_,Y,xk,rM.of<|(xf.new pH).at (pF.at pS),Y,?_⟩;rw[yO];show se (upd G4 x _) λG5 hX=>?_;have g5:=xf.of_eq pH hX;have qk:=xM hX;clear hX;have pQ:xf G3 G5:=pF.trans g5;have oV:xf G2 G5:=qi.trans pQ;show⟨wl,_,_,Y,Y,oV.at o8,by rw[aa,ak];rw[ao,bT]at pk;lia,?_⟩;show⟨(pZ.trans oV).put o7,by rw[xl<|aW oS];show oV.at ph,_,_,oN++[x],Y,by rw[xk,aO];rfl,?_,by rw[ao,bT]at pk⊢;lia⟩;rw[ju,if_pos pf];show yT (L2.Paired.imp' (λ_ _ z=>(z.same oV).off<|oV.at o8) pq) (xE.off (r:=.put t<|sg++oR) ⟨o9,cp,?_,?_⟩<|oV.at o8)
     ·rw[qk];simp
     ·rw[pQ.at pS,aO]
    ·have pf:¬t+sg.length=to:=of_decide_eq_false e2;show⟨.inl ⟨Y,_,kq.of<|oK.at oO⟩,?_⟩;show⟨wl,_,_,Y,Y,oK.at oO,by rw[aa,ak];lia,?_⟩;show app (by rw[ju,if_neg pf]) _ oK
   ·have p7:oW=[]:=by
     have:=of_decide_eq_false e1;rw[aa]at this;show dD.mp #[2]
    subst p7;have qf:acc=[]:=by cases oQ;rfl
    subst qf;walk_at"N";show⟨.inl ⟨Y,_,kq.of<|(xf.refl G).at oO⟩,?_⟩;show⟨wl,_,_,Y,Y,(xf.refl G).at oO,by rw[aa,ak];lia,?_⟩;show app (Hy _) _ (xf.refl G)
  ·show oG λ_ U=>?_;obtain⟨sG,pj,z2,z3,oW,rfl,oO,oQ,pk⟩:=oY;apply U;rw[pO.length,bo]at oQ;left;show k wl oW L G sG oO pB qg oQ
end
def Off(r s:xh):Prop:=∀c∈r.cv,c∉s.cv
theorem ue:c∈r.cv↔r.to<=c/\c<r.to+r.cnt:=by
 cases r with
 |take to st n=>show ub
 |put to sg=>show ub
def Off.sym{s:xh}(h:Off r s):Off s r:=λc h1 h2=>h c h2 h1
theorem jL(h:Tells es nw r):0<r.cnt:=by
 cases r with
 |take to st n=>have:=h.1.2.2;change 0<n.toNat;lia
 |put to sg=>show cb.mpr h.1.2.1
structure u7(es nw:List Int)(D:List xh):Prop where
 tells:∀r∈D,Tells es nw r
 off:D.Pairwise Off
 wJ:∀j:Nat,j<nw.length->∃r∈D,CF r j
def u7.perm(h:u7 es nw D)(p:D'.Perm D):u7 es nw D':=
 ⟨λr hr=>h.tells r<|p.mem_iff.mp hr,(p.pairwise_iff λh=>Off.sym h).mpr h.off,λj hj=>let⟨r,h1,h2⟩:=h.wJ j hj;⟨r,p.mem_iff.mpr h1,h2⟩⟩
def u7.map{f:xh->xh}(h:u7 es nw (A++B))(e:∀r∈B,(f r).to=r.to/\(f r).cnt=r.cnt/\Tells es nw (f r)):u7 es nw (A++B.map f):=by
 show⟨λr hr=>?_,?_,λj hj=>?_⟩
 ·rcases aZ.mp hr with z|z
  ·show h.tells r (bB _ z)
  ·obtain⟨s,hs,rfl⟩:=aY.mp z;show(e s hs).2.2
 ·have ec:∀r∈B,∀c,c∈(f r).cv↔c∈r.cv:=λr hr c=>by rw[ue,ue,(e r hr).1,(e r hr).2.1]
  obtain⟨h1,h2,h3⟩:=b8.mp h.off;show b8.mpr ⟨h1,cI.mpr<|h2.imp_of_mem λ{r s} hr hs h c=>?_,λr hr s hs c c1=>?_⟩
  ·rw[ec r hr,ec s hs];show h c
  ·obtain⟨x,hx,rfl⟩:=aY.mp hs;rw[ec x hx];show h3 r hr x hx c c1
 ·obtain⟨r,hr,hc⟩:=h.wJ j hj;rcases aZ.mp hr with z|z
  ·show⟨r,bB _ z,hc⟩
  ·show⟨f r,aN _<|fL z,?_⟩;unfold CF at hc⊢;rw[(e r z).1,(e r z).2.1];show hc
def u7.join{t to:Int}{sg:List Int}(h:u7 es nw (A++ .put t sg:: .put to oK::B))(e:t+sg.length=to)(hl:nw.length<=300):u7 es nw (A++ .put t (sg++oK)::B):=by
 have ec:∀c,c∈(xh.put t<|sg++oK).cv↔c∈(xh.put t sg).cv\/c∈(xh.put to oK).cv:=λc=>by
  rw[ue,ue,ue];simp only[xh.to,xh.cnt,ao];lia
 obtain⟨h1,h2,h3⟩:=b8.mp h.off;obtain⟨h4,h5⟩:=ip.mp h2;obtain⟨h6,h7⟩:=ip.mp h5;have hA:=h.tells _<|aN _ aJ;have hB:=h.tells _ (aN _<|aw _ aJ);show⟨λr hr=>?_,b8.mpr ⟨h1,ip.mpr ⟨λs hs c hc=>?_,h7⟩,λr hr s hs c hc=>?_⟩,λj hj=>?_⟩
 ·have hm:r∈A++ .put t sg:: .put to oK::B\/r= .put t (sg++oK):=by simp at hr⊢;rcases hr with z|z|z<;> simp[z]
  rcases hm with z|rfl
  ·show h.tells r z
  ·obtain⟨⟨a1,a2,a3,a4⟩,_,a5,a6⟩:=hA;obtain⟨⟨b1,b2,b3,b4⟩,_,b5,b6⟩:=hB;simp only[xh.to,xh.cnt,xh.sg]at a5 a6 b5 b6;show⟨⟨a1,by simp[a2],by rw[ao];lia,λsZ hy=>(aZ.mp hy).elim (a4 sZ)<|b4 sZ⟩,cm,?_,λi hi=>?_⟩
   ·simp only[xh.to,xh.cnt,ao];lia
   ·simp only[xh.to,xh.cnt,xh.sg,ao]at hi⊢
    by_cases c:i<sg.length
    ·rw[bq c];show a6 i c
    ·rw[bP #[2],<-b6 (i - sg.length) #[2]]
     congr 2
     lia
 ·rcases(ec c).mp hc with z|z
  ·show h4 s (aw _ hs) c z
  ·show h6 s hs c z
 ·rcases aB.mp hs with rfl|q
  ·intro z;rcases(ec c).mp z with z|z
   ·show h3 r hr _ aJ c hc z
   ·show h3 r hr _ (aw _ aJ) c hc z
  ·show h3 r hr s (aw _<|aw _ q) c hc
 ·obtain⟨r,hr,hc⟩:=h.wJ j hj;have hm:(r= .put t sg\/r= .put to oK)\/r∈A++ .put t (sg++oK)::B:=by simp at hr⊢;rcases hr with z|z|z|z<;> simp[z]
  rcases hm with z|z
  ·show⟨.put t<|sg++oK,by simp,?_⟩;unfold CF at hc⊢;rcases z with rfl|rfl<;> simp only[xh.to,xh.cnt,ao]at hc⊢<;> lia
  ·show⟨r,z,hc⟩
theorem u7.A1{es nw:List Int}{X:List xh}(hn:nw.length<=300):∀{L acc:List xh},(∀x∈acc,ud x)->(∀x∈L,ud x)->u7 es nw (X++(acc++L))->u7 es nw (X++L.foldl xV acc)/\(L.foldl xV acc).length<=acc.length+L.length
 |[],acc,_,_,h=>⟨by simpa using h,by simp⟩
 |r::L,acc,h1,h2,h=>by
  have hr:=h2 r aJ;obtain⟨to,oN,rfl,v1,v2,v3⟩:=id hr;have key:u7 es nw (X++(xV acc (.put to oN)++L))/\(xV acc<|.put to oN).length<=acc.length+1:=by
   rcases i3 acc with z|⟨oK,last,z⟩
   ·subst z;rw[Hy];show⟨by simpa using h,by simp⟩
   ·rw[i4]at z;subst z;obtain⟨t,sg,rfl,u1,u2,u3⟩:=h1 last #[8];rw[ju]
    split
    ·rename_i e;have:=u7.join (A:=X++oK) (B:=L) (by simpa using h) e hn;show⟨by simpa using this,by simp⟩
    ·show⟨by simpa using h,by simp⟩
  obtain⟨k1,k2⟩:=u7.A1 hn (L:=L) (Hk h1 hr) (λx hx=>h2 x<|aw _ hx) key.1;show⟨k1,by rw[aT,md];lia⟩
theorem Rt.wJ{rs:List xh}{b:Bool}(h:Rt es ns least rs j b):rs.length<=j/\(∀r∈rs,Tells es ns r/\r.to+r.cnt<=j/\(r.rk=sX->least<=r.cnt))/\rs.Pairwise Off/\∀c:Nat,c<j->∃r∈rs,CF r c:=by
 induction h with
 |nil=>show⟨ah _,(λr hr=>by cases hr),.nil,λc hc=>absurd hc<|kc _⟩
 | @snoc rs i b r _ ht hT hb ih=>
  obtain⟨g1,g2,g3,g4⟩:=ih;have hp:=jL hT;show⟨by rw[ao,bT];lia,λs hs=>?_,b8.mpr ⟨g3,eC _ _,λs hs x hx c c1 c2=>?_⟩,λc hc=>?_⟩
  ·rcases aZ.mp hs with z|z
   ·obtain⟨q1,q2,q3⟩:=g2 s z;show⟨q1,by lia,q3⟩
   ·rw[ai.mp z];show⟨hT,by lia,λe=>by rw[if_pos e]at hb;show hb⟩
  ·rw[ai.mp hx]at c2;have:=(g2 s hs).2.1;rw[ue]at c1 c2;lia
  ·by_cases q:c<i
   ·obtain⟨s,hs,hc⟩:=g4 c q;show⟨s,bB _ hs,hc⟩
   ·show⟨r,by simp,by unfold CF;lia⟩
theorem Rt.few(h6:6<=least){rs:List xh}{b:Bool}(h:Rt es ns least rs j b):(rs.filter λr=> !r.rk).length<=(rs.filter xh.rk).length+(if b=sX then 1 else 0)/\6*(rs.filter xh.rk).length<=j:=by
 induction h with
 |nil=>simp
 | @snoc rs i b r _ ht hT hb ih=>
  rw[eQ,eQ,ao,ao];cases e:r.rk with
  |true=>rw[if_pos e]at hb;simp[e];split at ih<;> lia
  |false=>rw[if_neg (by rw[e];decide)]at hb;subst hb;simp[e]at ih⊢;lia
noncomputable def AN(es:List Int)(r:xh):xh:=.put r.to (r.sg es)
def Hj(hb:tL nw)(hn:nw.length<=300)(h:Tells es nw r):(AN es r).to=r.to/\(AN es r).cnt=r.cnt/\Tells es nw (AN es r)/\ud (AN es r):=by
 have hl:=xh.By h.1 h.2.1;have hp:=jL h;have h0:=h.1.to;obtain⟨h1,h2,h3,h4⟩:=h;have oK:r.sg es≠[]:=cb.mp #[2];show⟨Y,hl,⟨⟨h0,oK,by lia,λx hx=>?_⟩,cm,?_,λi hi=>h4 i (by rw[<-hl];show hi)⟩,r.to,r.sg es,Y,oK,h0,by lia⟩
 ·obtain⟨i,hi,rfl⟩:=cM.mp hx;have:=h4 i #[2];rw[au hi]at this;show hb _ (aj this)
 ·change r.to+((r.sg es).length:Int)<=nw.length;rw[hl];show h3
def xhN(h:∀x∈acc,ud x)(hr:ud r)(hp:acc.Pairwise λr s=>r.to+(r.cnt:Int)<s.to)(he:∀x∈acc,x.to+(x.cnt:Int)<=r.to):(xV acc r).Pairwise (λr s=>r.to+(r.cnt:Int)<s.to)/\∀x∈xV acc r,x.to+(x.cnt:Int)<=r.to+r.cnt:=by
 obtain⟨to,oN,rfl,v1,v2,v3⟩:=hr;rcases i3 acc with z|⟨oK,last,z⟩
 ·subst z;rw[Hy];show⟨eC _ _,λx hx=>by rw[ai.mp hx];show iB _⟩
 ·rw[i4]at z;subst z;obtain⟨t,sg,rfl,u1,u2,u3⟩:=h last #[8];obtain⟨p1,p2,p3⟩:=b8.mp hp;have hl:=he _ (aN _<|l5 _);have p3:∀x∈oK,x.to+(x.cnt:Int)<t:=λx hx=>p3 x hx _<|l5 _;simp only[xh.to,xh.cnt]at hl;rw[ju]
  split
  ·show⟨b8.mpr ⟨p1,eC _ _,λx hx sZ hy=>?_⟩,λx hx=>?_⟩
   ·rw[ai.mp hy];show p3 x hx
   ·rcases aZ.mp hx with q|q
    ·have:=p3 x q;change _<=to+(oN.length:Int);lia
    ·rw[ai.mp q];simp only[xh.to,xh.cnt,ao];lia
  ·show⟨b8.mpr ⟨hp,eC _ _,λx hx sZ hy=>?_⟩,λx hx=>?_⟩
   ·rw[ai.mp hy];rcases aZ.mp hx with q|q
    ·have:=p3 x q;change _<to;lia
    ·rw[ai.mp q];change t+(sg.length:Int)<to;lia
   ·rcases aZ.mp hx with q|q
    ·have:x.to+(x.cnt:Int)<=to:=he x q;change _<=to+(oN.length:Int);lia
    ·rw[ai.mp q];show iB _
theorem Ni:∀{L acc:List xh},(∀x∈acc,ud x)->(∀x∈L,ud x)->(acc.Pairwise λr s=>r.to+(r.cnt:Int)<s.to)->(∀x∈acc,∀r∈L,x.to+(x.cnt:Int)<=r.to)->(L.Pairwise λr s=>r.to+(r.cnt:Int)<=s.to)->(L.foldl xV acc).Pairwise λr s=>r.to+(r.cnt:Int)<s.to
 |[],acc,_,_,h3,_,_=>h3
 |r::L,acc,h1,h2,h3,h4,h5=>by
  have hr:=h2 r aJ;obtain⟨h6,h7⟩:=ip.mp h5;obtain⟨g1,g2⟩:=xhN h1 hr h3 λx hx=>h4 x hx r aJ;show Ni (L:=L) (acc:=xV acc r) (Hk h1 hr) (λx hx=>h2 x<|aw _ hx) g1 (λx hx s hs=>?_) h7;have:=g2 x hx;have:=h6 s hs;lia
theorem RH{L:List xh}(h:∀r∈L,r.rk=sJ):(L.map xh.cst).sum=2*(L.length:Int)+((L.map xh.cnt).sum:Nat):=by
 induction L with
 |nil=>simp
 |cons r L ih=>
  have hr:=h r aJ;rw[ba,ba,iH,iH,ih λx hx=>h x<|aw _ hx,aT];cases r with
  |take _ _ _=>cases hr
  |put to sg=>simp only[xh.cst,xh.cnt];lia
theorem TZ{L:List xh}(hl:6<=least)(h:∀r∈L,r.rk=sX/\least<=r.cnt):(L.map xh.cst).sum+2*(L.length:Int)<=((L.map xh.cnt).sum:Nat):=by
 induction L with
 |nil=>simp
 |cons r L ih=>
  obtain⟨h1,h2⟩:=h r aJ;have:=ih λx hx=>h x<|aw _ hx;rw[ba,ba,iH,iH,aT];cases r with
  |put _ _=>cases h1
  |take to st c=>simp only[xh.cst,xh.cnt]at h2⊢;lia
theorem Pe(r:xh):r.cv.Nodup:=by
 have h:∀lo n,(yz lo n).Nodup:=λlo n=>cI.mpr<|iN.imp λh e=>h #[2];cases r with
 |take to st n=>show h _ _
 |put to sg=>show h _ _
theorem JV(r:xh):r.cv.length=r.cnt:=by
 cases r with
 |take to st c=>show yK _ _
 |put to sg=>show yK _ _
def Ng(h:D.Pairwise Off):(D.map xh.cv).flatten.Nodup:=by
 show List.pairwise_flatten.mpr ⟨λl hl=>?_,cI.mpr (h.imp (S:=λr s=>∀x∈r.cv,∀sZ∈s.cv,x≠sZ) λoK x hx sZ hy e=>oK x hx<|e▸hy)⟩;obtain⟨r,_,rfl⟩:=aY.mp hl;show Pe r
def RG{n:Nat}(h:D.Pairwise Off)(hb:∀r∈D,0<=r.to/\r.to+r.cnt<=n):(D.map xh.cnt).sum<=n:=by
 have h1:=Ng h;have h2:(D.map xh.cv).flatten.length<=((bD n).map λ(i:Nat)=>(i:Int)).length:=EA h1 λx hx=>by
  obtain⟨l,hl,hx⟩:=dw.mp hx;obtain⟨r,hr,rfl⟩:=aY.mp hl;have:=ue.mp hx;have:=hb r hr;show aY.mpr ⟨x.toNat,cC.mpr #[2],by lia⟩
 rw[aa,ef,List.length_flatten,c7]at h2;rw[show(cz∘xh.cv)=xh.cnt from funext JV]at h2;show h2
structure Made(es nw:List Int)(least:Int)(D:List xh):Prop where
 tJ:ui es.length nw.length D
 wJ:u7 es nw D
 cost:6<=least->(D.map xh.cst).sum<=nw.length+2
theorem RF{rs ord sW:List xh}{b:Bool}(he:es.length<=300)(hn:nw.length<=150)(hb:tL nw)(oX:Rt es nw least rs nw.length b)(hg:(ord++sW).Perm (rs.filter xh.rk))(hl:Dw ord){all:List xh}(oN:(rs.filter λr=> !r.rk)++sW.map (AN es)=all):
  (∀r∈all,ud r)/\all.length<=300/\(all.map xh.to).Nodup/\∀L:List xh,L.Perm all->(all.length<64->L.Pairwise λr s=>r.to<s.to)->Made es nw least (ord++L.foldl xV []):=by
 obtain⟨hlen,hT,oR,oU⟩:=oX.wJ;have oK:(ord++((rs.filter λr=> !r.rk)++sW)).Perm rs:=by
  show gL ?_<|List.filter_append_perm xh.rk rs;show(dq _ mP).trans ?_;rw[<-bu];show hg.append_right _
 have h0:u7 es nw (ord++((rs.filter λr=> !r.rk)++sW)):=u7.perm ⟨λr hr=>(hT r hr).1,oR,oU⟩ oK;have o7:=oK.length_eq;rw[ao,ao]at o7;rw[<-bu]at h0;have h1:=h0.map (f:=AN es) λr hr=>by
  obtain⟨q1,q2,q3,_⟩:=Hj hb #[2] (h0.tells r<|aN _ hr);show⟨q1,q2,q3⟩
 rw[bu,oN]at h1;have pz:all.length=(rs.filter λr=> !r.rk).length+sW.length:=by rw[<-oN];simp
 have rh:∀r∈all,ud r:=λr hr=>by
  rw[<-oN]at hr;rcases aZ.mp hr with q|q
  ·have h2:=(Hj hb #[2] (hT r (bJ.mp q).1).1).2.2.2;have:=(bJ.mp q).2;cases r with
   |take _ _ _=>cases this
   |put to sg=>show h2
  ·obtain⟨s,hs,rfl⟩:=aY.mp q;show(Hj hb #[2] (h0.tells s<|aN _ hs)).2.2.2
 show⟨rh,by lia,?_,λL hL oZ=>?_⟩
 ·show cI.mpr<|(b8.mp h1.off).2.1.imp_of_mem λ{r s} hr hs h e=>?_;have p1:=jL (h1.tells r<|aN _ hr);have p2:=jL (h1.tells s<|aN _ hs);show h r.to (ue.mpr ⟨by lia,by lia⟩) (ue.mpr ⟨by lia,by lia⟩)
 have oV:∀r∈L,ud r:=λr hr=>rh r<|hL.mem_iff.mp hr;have h2:u7 es nw (ord++L):=h1.perm<|hL.append_left _;obtain⟨h3,h4⟩:=u7.A1 (es:=es) (nw:=nw) (X:=ord) (acc:=[]) (L:=L) #[2] (λx hx=>by cases hx) oV (by simpa using h2);have hJ:=Gh (L:=L) (acc:=[]) (λx hx=>by cases hx) oV;have oO:6<=least->(L.foldl xV []).Pairwise λr s=>r.to+(r.cnt:Int)<s.to:=λh6=>by
  obtain⟨f1,f2⟩:=oX.few h6;have o8:=hg.length_eq;rw[ao]at o8;have hs:=oZ (by split at f1<;> lia);show Ni (acc:=[]) (λx hx=>by cases hx) oV .nil (λx hx=>by cases hx)<|((b8.mp h2.off).2.1.and hs).imp_of_mem λ{r s} hr hs h=>?_;have p2:=jL (h2.tells s<|aN _ hs);rcases Int.lt_or_le s.to (r.to+r.cnt)with z|z
  ·show absurd (ue.mpr ⟨by lia,by lia⟩) (h.1 s.to<|ue.mpr ⟨by lia,z⟩)
  ·show z
 have pA:=hL.length_eq;generalize L.foldl xV []=J at*;have pf:∀r∈J,r.rk=sJ:=λr hr=>by obtain⟨to,sg,rfl,_⟩:=hJ r hr;rfl
 have oY:∀{r:xh},r∈J->r.tT=[]:=λ{r} hr=>by obtain⟨to,sg,rfl,_⟩:=hJ r hr;rfl
 have oQ:∀r∈ord,r.rk=sX/\r∈rs:=λr hr=>by
  obtain⟨q1,q2⟩:=bJ.mp (hg.mem_iff.mp<|bB _ hr);show⟨q2,q1⟩
 show⟨⟨by rw[ao];simp at h4;lia,by lia,by lia,by lia,by lia,λr hr=>?_,Ng h3.off,λj hj=>?_,?_⟩,h3,λh6=>?_⟩
 ·obtain⟨t1,t2,t3,_⟩:=h3.tells r hr;show⟨t1,?_⟩;cases r with
  |take to st n=>show⟨t2,by have:=t1.2.2;simp only[xh.to,xh.cnt]at t3;lia⟩
  |put to sg=>show t3
 ·obtain⟨r,hr,hc⟩:=h3.wJ j #[2];show dw.mpr ⟨r.cv,fL hr,ue.mpr hc⟩
 ·show b8.mpr ⟨hl,List.pairwise_of_forall_mem_list λr _ s hs x hx=>?_,λr _ s hs x hx=>?_⟩
  ·rw[oY hs]at hx;cases hx
  ·rw[oY hs]at hx;cases hx
 ·have oO:=oO h6;have pd:=RG (n:=nw.length) h3.off λr hr=>⟨(h3.tells r hr).1.to,(h3.tells r hr).2.2.1⟩;have o9:J.length<=ord.length+1:=by
   have:=EA (l₁:=J.map xh.to) (l₂:=0::ord.map λr=>r.to+(r.cnt:Int)) (cI.mpr (oO.imp λh e=>by lia)) λx hx=>by
    obtain⟨s,hs,rfl⟩:=aY.mp hx;have oP:=h3.tells s<|aN _ hs;have pk:=oP.1.to;have pj:=oP.2.2.1;have ph:=jL oP
    by_cases e:s.to=0
    ·rw[e];show aJ
    ·obtain⟨r,hr,pe,pq⟩:=h3.wJ (s.to - 1).toNat #[2];have oW:r≠s:=λz=>by rw[z]at pe;lia
     have oS:r.to+(r.cnt:Int)=s.to:=by
      rcases Int.lt_or_le s.to (r.to+r.cnt)with z|z
      ·exfalso;obtain⟨i,hi,rfl⟩:=cM.mp hr;obtain⟨j,hj,e2⟩:=cM.mp<|aN ord hs;have pw:=cc.mp h3.off;have c1:s.to∈((ord++J)[i]).cv:=ue.mpr ⟨by lia,z⟩;have c2:s.to∈((ord++J)[j]).cv:=by rw[e2];show ue.mpr ⟨by lia,by lia⟩
       rcases Nat.lt_trichotomy i j with q|q|q
       ·show pw i j hi hj q _ c1 c2
       ·subst q;show oW e2
       ·show pw j i hj hi q _ c2 c1
      ·lia
     rcases aZ.mp hr with z|z
     ·show aw _ (aY.mpr ⟨r,z,oS⟩)
     ·exfalso;obtain⟨i,hi,rfl⟩:=cM.mp z;obtain⟨j,hj,rfl⟩:=cM.mp hs;have pw:=cc.mp oO;rcases Nat.lt_trichotomy i j with q|q|q
      ·have:=pw i j hi hj q;lia
      ·subst q;show oW rfl
      ·have:=pw j i hj hi q;lia
   simpa using this
  have c1:=RH pf;have c2:=TZ h6 λr hr=>⟨(oQ r hr).1,(hT r (oQ r hr).2).2.2 (oQ r hr).1⟩;rw[aO,List.sum_append]at pd⊢;lia
theorem jv{α β:Type}{R:α->β->Prop}{p:α->Bool}{q:β->Bool}:∀{xs:List α} {ys:List β},Paired R xs ys->(∀x sZ,R x sZ->p x=q sZ)->Paired R (xs.filter p) (ys.filter q)
 |_,_,.nil,_=>.nil
 |x::xs,sZ::ys,.cons h r,e=>by
  have:=e x sZ h;cases hq:q sZ with
  |true=>rw[fO (by rw[this];show hq),fO hq];show .cons h (jv r e)
  |false=>rw[fN (by rw[this,hq];decide),fN (by rw[hq];decide)];show jv r e
noncomputable def w6(K:ax)(a:rP)(H:Hp)(o:sK):Bool:=open Classical in decide (∃r,xE K a H o r/\r.rk=sX)
theorem Fw(h:xE K a H o r):w6 K a H o=r.rk:=by
 cases r with
 |take to st c=>unfold w6;show@decide_eq_true _ (l6 _) ⟨_,h,Y⟩
 |put to sg=>
  unfold w6;show@decide_eq_false _ (l6 _) ?_;rintro⟨r2,h2,e2⟩;cases r2 with
  |put _ _=>cases e2
  |take to2 oK c2=>
   obtain⟨dx,u,h1,_⟩:=h;obtain⟨oN,h3⟩:=h2;rw[h1]at h3;injection h3 with h3;injection h3 with _ _ h4;have h5:((["to","count","signs"]:List Str))=(["to","count","source"]:List Str):=congrArg (λl=>l.map (·.1)) h4
   revert h5
   decide+kernel
def Sn(K:ax):Sp:=λvs H Q _=>tE λ(e n:sK) (es nw:List Int) (least:Int)=>DA (vs=[.ref e,.ref n,.int least]) (H uu=E (.sk ve)) (H yY=E (.sk zA)) (H vH=E (.sk jH)) (H e=E (.lst<|es.map V.int)) (H n=E (.lst<|nw.map V.int)) (es.length<=300) (nw.length<=150) (tL nw) (∀(t p tl:sK) (D:List xh) (xs:List V) (H':Hp),xf H H'->H' t=E (.tup [.ref p,.ref tl])->zB K H' p es.length nw.length D->H' tl=E (.lst xs)->xs.length<=300->Made es nw least D->Q (.ref t) H')
namespace ML
section
variable {base:Heap} (T:Txt w K mg a)
def Hx:T.ji.O P w mg base 1 (Ls a):=by
 specialize T.ji.g ["self"]
 ·show oG λ_ U=>?_;obtain⟨o,dx,to,st,c,rfl,h1,k⟩:=h;apply U;show⟨_,(xg (xm<|zp (xa xF<|xa #[11] (xa #[11]<|xa #[11] xb)))),?_⟩;show⟨o,_,dx,_,.int to,Y,h1,T.xD,T.yy,Y,?_⟩;show⟨o,_,dx,_,.int st,Y,h1,T.xD,T.xZ,Y,?_⟩;show⟨o,_,dx,_,.int c,Y,h1,T.xD,T.yk,Y,?_⟩;show⟨by walk_at"side",k⟩
def Yo:T.GA.O P w mg base 1 (Lr a):=by
 specialize T.GA.g ["self"]
 ·show oG λ_ U=>?_;obtain⟨o,dx,u,to,n,rfl,h1,k⟩:=h;apply U;show⟨_,(xg<|xm (zp<|xa xF (xa #[11]<|xa #[11] xb))),?_⟩;show⟨o,_,dx,_,.int to,Y,h1,T.yl,T.zi,Y,?_⟩;show⟨o,_,dx,_,.ref u,Y,h1,T.yl,T.zz,Y,?_⟩;show⟨by walk_at"side",k⟩
theorem TY(ho:xE K a H o r)
  (k:∀t H',xf H H'->TupAt K H' t r->Q (.ref t) H') (tU:autoParam (σ[i]? =E (E<|.ref o)) rJ):
  zl a.q0b "told" (Lr a) [] E0 (zv i) vx σ H Q\/zl a.q0a "told" (Ls a) [] E0 (zv i) vx σ H Q:=by
 cases r with
 |put to sg=>
  obtain⟨dx,u,h1,h2⟩:=ho
  apply Or.inl
  unfold zl zv;rw[tU];show⟨o,dx,_,Y,h1,Y,o,dx,u,to,_,Y,h1,λt ht=>k t _ (xf.new ht) ⟨u,xk,(xf.new ht).at h2⟩⟩
 |take to st c=>
  obtain⟨dx,h1⟩:=ho
  apply Or.inr
  unfold zl zv;rw[tU];show⟨o,dx,_,Y,h1,Y,o,dx,to,st,c,Y,h1,λt ht=>k t _ (xf.new ht) xk⟩
theorem xmJ:T.DL.O P w mg base 6 (Sn K):=by
 show T.DL.ok Kt (λvs H Q sQ h=>?_) (λcdv A outer s H vs Q sQ hr h=>?_)
 ·obtain⟨e,n,es,nw,least,rfl,_⟩:=h;rfl
 ·show oG λ_ U=>?_;obtain⟨e,n,es,nw,least,rfl,qx,qw,qv,he,hn,qp,ql,pU,k⟩:=h;apply U;have nd:=Kt.nd;show⟨_,(xc (xp (i:=3) nd Y (aG Y) (xo (Z6 T) hr.m T.Zr T.HC xn<|xa (cv 0) (xa (cv 1)<|xa (cv 2) xb)))
  (xc (xp (i:=4) nd Y (aG Y) (xo (xgZ T) hr.m T.xhn T.HJ xn<|xa (yv #[4] Y (xS<|cv 3) (λ_ _ _ _=>(cv 0)) λ_ _ _ _=>(B6 (yb<|xq (II (K:=K) Y) #[5] T.yB yq (xa (cv 0)<|xa (zf (v:=.ref a.q0a) #[5] T.Bu Y) xb)))) xb))
  (xc (xp (i:=5) nd Y (aG Y)<|xy xG (cv 4) xj λ_ _=>Y)
  (xc (xp (i:=6) nd Y (aG Y)<|xy xG (cv 4) xj λ_ _=>Y)
  (xc (EI (i:=7) #[4] Y nd Y Y (xS<|cv 3) (λ_ _ _ _=>(cv 0)) λ_ _ _ _=>(B6 (yb<|xq (II (K:=K) Y) #[5] T.yB yq (xa (cv 0)<|xa (zf (v:=.ref a.q0b) #[5] T.Cv Y) xb))))
  (xc (xO (yN PySem.F.plainAttrs_list PySem.F.slot_list_extend PySem.F.type_list_extend GK (cv 7)<|xa (F8 (FT (cap:=[0]) (ys:=["elder"]) rfl rfl rfl rfl rfl rfl ⟨⟨Y,Y,.inl Y⟩,trivial⟩ #[18]) rfl (xS<|cv 6) (λ_ _ _ _=>(xo (Xu T) hr.m T.Vq T.GO xn (xa (cv 0)<|xa (cv 2) xb))) λ_ _ _ _=>yo) xb))
  (xc (xp (i:=8) nd Y (aG Y)<|xr AY (cv 5) (xo (V1 T) hr.m T.Vg T.Gi xn<|xa (cv 7) xb))
  (xc (xp (i:=9) nd Y (aG Y) (zp<|xa (xq xu #[5] T.xW xN<|xa (cv 0) xb) (xa (xq xu #[5] T.xW xN<|xa (cv 1) xb)<|xa (xT vi #[5] T.jI vD<|xa (yv #[4] Y (xS<|cv 8) (λ_ _ _ _=>(jM (xJ (cv 0) T.yl T.YB (Yo T) hr.m T.GA.b .nil xn)<|xJ (cv 0) T.xD T.Hz (Hx T) hr.m T.ji.b .nil xn)) λ_ _ _ _=>yo) xb) xb)))
  (xg (xm (zp (xa (cv 9) (xa (F8 (FT (cap:=[]) (ys:=[]) Y Y Y Y Y Y trivial #[18]) Y (xS (cv 6)) (λ_ _ _ _=>(zp (xa (xJ (cv 0) T.xD T.Hz (Hx T) hr.m T.ji.b .nil xn) (xa (yv #[4] Y (UY (K:=K) Y (cv 1)) (λ_ _ _ _=>(xJ (cv 0) T.xD T.Hz (Hx T) hr.m T.ji.b .nil xn)) (λ_ _ _ _=>yo)) xb)))) (λ_ _ _ _=>yo)) xb))))))))))))),?_⟩
  show⟨e,n,es,nw,least,Y,qx,he,hn,by lia,by lia,pU,λl os rs b H1 s1 el oS pD=>?_⟩;have oS:Paired (xE K a H1) os rs:=oS;have qG:os.length=rs.length:=oS.length;have qR:=pD.wJ.1;have hsz:(os.map V.ref).length<aK:=by rw[aa,ak];lia
  have row:∀{v:V} {G:Hp},v∈os.map V.ref->xf H1 G->∃o r,v= .ref o/\xE K a G o r/\w6 K a H1 o=r.rk:=λ{v G} hv sG=>by
   show oG λ_ U=>?_;obtain⟨o,ho,rfl⟩:=aY.mp hv;obtain⟨r,_,hT⟩:=Paired.mem oS ho;apply U;show⟨o,r,Y,hT.same sG,Fw hT⟩
  show⟨l,Y,⟨_,kq.of el⟩,?_⟩;show jQ (λv=>match v with| .ref o=>w6 K a H1 o|_=>sJ) id (kq.of el) hsz (λv G2 hv s2 R hR=>?_) (λv G2 hv _ s2 R hR=>?_) (λD1 H2 qW s2 pd=>?_)
  ·show oG λ_ U=>?_;obtain⟨o,r,rfl,ho,ht⟩:=row hv s2;apply U;have:=hR G2<|xf.refl _;dsimp only at this;rw[ht]at this;cases r with
   |take to st c=>
    obtain⟨dx,ho⟩:=ho;show⟨_,_,_,_,sX,Y,Y,T.B4 ho,T.vL,this⟩
   |put to sg=>
    show oG λ_ U=>?_;obtain⟨dx,u,ho,_⟩:=ho;apply U;show⟨_,_,_,_,sJ,Y,Y,T.DR ho,T.GW,this⟩
  ·show hR _ (xf.refl _)
  have pd:H2 D1=E (.lst<|(os.filter λo=>w6 K a H1 o).map V.ref):=by rw[pd,oz,mi];rfl
  have pQ:=jv (p:=λo=>w6 K a H1 o) (q:=xh.rk) oS λx sZ z=>Fw z;have pE:=jv (p:=λo=> !w6 K a H1 o) (q:=λr=> !r.rk) oS λx sZ z=>by rw[Fw z]
  generalize qN:(os.filter λo=>w6 K a H1 o)=tk at pd pQ;have qQ:(rs.filter xh.rk).length<=rs.length:=dm _ _;have qP:(rs.filter λr=> !r.rk).length<=rs.length:=dm _ _;show⟨D1,tk,rs.filter xh.rk,Y,kq.of pd,L2.Paired.imp' (λ_ _ z=>z.same s2) pQ,λr hr=>(bJ.mp hr).2,by lia,(s1.trans s2).at qw,λp o t pO qL ord sW H3 s3 ho ht ep eo pF et oO hg o7=>?_⟩;have M:=RF qp ql pU pD hg o7 rfl;have oN:∀r∈sW,∃to st c,r= .take to st c/\Tells es nw (.take to st c):=λr hr=>by
   obtain⟨q1,q2⟩:=bJ.mp (hg.mem_iff.mp<|aN _ hr);have q3:=(pD.wJ.2.1 r q1).1;cases r with
   |put _ _=>cases q2
   |take to st c=>show⟨to,st,c,Y,q3⟩
  have hlen:=hg.length_eq;rw[ao]at hlen;generalize pH:((rs.filter λr=> !r.rk)++sW.map (AN es))=all at*;show oG λ_ U=>?_;obtain⟨M1,M2,M3,M4⟩:=M;apply U;show⟨p,_,_,.ref o,Y,Y,rM.of ep,Y,?_⟩;show⟨p,_,_,.ref t,Y,Y,rM.of ep,Y,?_⟩;show⟨l,Y,⟨_,kq.of<|(s2.trans s3).at el⟩,?_⟩;show jQ (λv=>match v with| .ref o=> !w6 K a H1 o|_=>sJ) id (kq.of<|(s2.trans s3).at el) hsz (λv G2 hv s4 R hR=>?_) (λv G2 hv _ s4 R hR=>?_) (λD2 H4 qA s4 oW=>?_)
  ·show oG λ_ U=>?_;obtain⟨o,r,rfl,ho,ht⟩:=row hv<|(s2.trans s3).trans s4;apply U;have:=hR G2<|xf.refl _;dsimp only at this;rw[ht]at this;cases r with
   |take to st c=>
    obtain⟨dx,ho⟩:=ho;show⟨_,_,_,_,sJ,Y,Y,T.B4 ho,T.YF,this⟩
   |put to sg=>
    show oG λ_ U=>?_;obtain⟨dx,u,ho,_⟩:=ho;apply U;show⟨_,_,_,_,sX,Y,Y,T.DR ho,T.Xf,this⟩
  ·show hR _ (xf.refl _)
  have oW:H4 D2=E (.lst<|(os.filter λo=> !w6 K a H1 o).map V.ref):=by
   rw[oW,oz,mi];rfl
  generalize qO:(os.filter λo=> !w6 K a H1 o)=pu at oW pE;have pZ:xf H1 H4:=s2.trans<|s3.trans s4;have oZ:=oO.length;show⟨.inl ⟨Y,_,kq.of oW⟩,?_⟩;show⟨t,Y,⟨_,kq.of<|s4.at et⟩,?_⟩;show NM (λi acc G=>∃us:List sK,acc=us.map V.ref/\Paired (xE K a G) us ((sW.take i).map<|AN es)) (kq.of<|s4.at et) (by rw[aa,ak];lia) ⟨[],Y,.nil⟩ (λi x acc G3 u6 hx g3 oV oQ=>?_) (λB acc H5 ON hB qX s5 pJ oQ oK eB=>?_)
  ·show oG λ_ U=>?_;obtain⟨us,rfl,oY⟩:=oQ;apply U;rw[av]at hx;show oG λ_ U=>?_;obtain⟨sZ,oP,rfl⟩:=aI.mp hx;obtain⟨r,o9,q,rl,qs,x1,x2,_⟩:=yD oO oP;obtain⟨to,st,c,rfl,pB⟩:=oN r<|aj o9;apply U;have pV:=s4.trans<|g3.trans oV;exists⟨sZ,_,_,Y,rM.of<|pV.at x1,λR hR=>?_⟩;have qd:st+c<=es.length:=pB.2.1;have pP:=pB.1;show⟨_,e,to,st,c,es,Y,x2.same pV,(s1.trans (pZ.trans<|g3.trans oV)).at he,pP.2.1,by have:=pP.2.2;lia,qd,λq G5 g5 hq qi=>hR _ _ g5 λG7 s7 k7=>⟨us++[q],by simp,?_⟩⟩;rw[bh,o9,Option.toList_some,aO,List.map_singleton];show yT (L2.Paired.imp' (λ_ _ z=>z.same s7) oY) (qi.mv k7)
  show oG λ_ U=>?_;obtain⟨us,rfl,oY⟩:=oQ;apply U;rw[aa,oZ,bo]at oY;have gB:xf H4 ON:=s5.trans pJ;have p8:=oY.length;rw[aa]at p8;show⟨D2,B,_,_,Y,Y,gB.at oW,eB,by rw[aa,aa,ak,pE.length];lia,?_⟩;show se (upd ON D2 _) λH6 hU=>?_;have qI:H6 D2=E (.lst<|(pu++us).map V.ref):=by rw[<-hU,xk,aO]
  have pA:=L2.Paired.imp' (λ_ _ z=>show xE K a H6 _ _ by rw[<-hU];show(z.same pJ).off (gB.at oW)) oY;have pK:xf H3 H6:=xf.wr (s4.trans gB) qA hU;clear hU;have pj:xf H1 H6:=s2.trans<|s3.trans pK;have pR:=zI (L2.Paired.imp' (λ_ _ z=>z.same pj) pE) pA;rw[pH]at pR;show⟨D2,pu++us,all,Y,kq.of qI,pR,M1,M2,M3,(s1.trans pj).at qv,λl' pN L H7 s7 qH qg qc qh=>?_⟩;have M:=M4 L qg qc;have ph:=pK.trans s7;have pL:=pj.trans s7;have pT:Paired (xE K a H7) (pO++pN) (ord++L.foldl xV []):=zI (L2.Paired.imp' (λ_ _ z=>z.same ph) pF) qh;generalize ord++L.foldl xV []=D at*;have qr:=pT.length;have qo:=M.tJ.few;show⟨o,l',_,_,Y,Y,ph.at eo,qH,by rw[<-ao,<-aO,aa,ak];lia,λdn qq=>?_⟩;rw[<-aO];generalize pO++pN=qJ at*;show se (upd H7 dn _) λH8 hV=>?_;have s8:=xf.of_eq qq hV;have ed:=xM hV;clear hV;have pz:xf H H8:=s1.trans<|pL.trans s8;show⟨e,_,Y,.inl (kq.of<|pz.at he),?_⟩;show⟨n,_,Y,.inl (kq.of<|pz.at hn),?_⟩;rw[aa,aa];show⟨dn,Y,⟨_,kq.of ed⟩,?_⟩;show yV (λi acc G=>∃ts:List sK,acc=ts.map V.ref/\Paired (TupAt K G) ts (D.take i)) (kq.of ed) (by rw[aa,ak];lia) ⟨[],Y,.nil⟩ (λi x acc G3 u6 hx g3 oV oQ R hR=>?_) (λD3 acc H9 A8 qV qS s9 pI oQ oK e3=>?_)
  ·show oG λ_ U=>?_;obtain⟨ts,rfl,oR⟩:=oQ;apply U;rw[av]at hx;cases oP:qJ[i]? with
   |none=>rw[oP]at hx;cases hx
   |some sZ=>
   rw[oP]at hx;cases hx;show oG λ_ U=>?_;obtain⟨r,qe,ho⟩:=yD pT oP;exists U ?_;show TY (xE.same ho (s8.trans<|g3.trans oV)) λt H4 s4 qa=>hR _ _ s4 λG7 s7 k7=>⟨ts++[t],by simp,?_⟩;rw[bh,qe];show yT (L2.Paired.imp' (λ_ _ z=>TupAt.same z s7) oR) (qa.mv k7)
  show oG λ_ U=>?_;obtain⟨ts,rfl,oR⟩:=oQ;apply U;rw[aa,qr,bo]at oR;have pe:xf H8 A8:=s9.trans pI;have oR:=L2.Paired.imp' (λ_ _ z=>TupAt.same z pI) oR;show⟨D3,_,Y,.inl ⟨kq.of e3,λtt p9=>?_⟩⟩;show se (upd A8 tt _) λqK hV=>?_;have o8:=xf.of_eq p9 hV;have qE:=xM hV;clear hV;show⟨by walk_at"side",λpp qf=>?_⟩;show se (upd qK pp _) λpX hV=>?_;have oX:=xf.of_eq qf hV;have qF:=xM hV;clear hV;have pf:xf H3 pX:=ph.trans<|s8.trans (pe.trans<|o8.trans oX);have qM:xf H1 pX:=pL.trans<|s8.trans (pe.trans<|o8.trans oX);show⟨t,Y,⟨_,kq.of<|pf.at et⟩,?_⟩;show NM (λi acc G=>True) (kq.of<|pf.at et) (by rw[aa,ak];lia) cm (λi x acc G3 u6 hx g3 oV _=>?_) (λD5 acc qY H12' qU qB p7 pq _ oK e5=>?_)
  ·rw[av]at hx;show oG λ_ U=>?_;obtain⟨sZ,oP,rfl⟩:=aI.mp hx;obtain⟨r,o9,q,rl,qs,x1,x2,x3,x4,x5⟩:=yD oO oP;obtain⟨to,st,c,rfl,pB⟩:=oN r<|aj o9;apply U;have oU:=pf.trans<|g3.trans oV;show⟨sZ,_,_,Y,rM.of<|oU.at x1,λR hR=>?_⟩;obtain⟨dx,pS⟩:=x2;show⟨_,dx,_,Y,oU.at pS,Y,?_⟩;show⟨_,dx,to,st,c,Y,oU.at pS,λt1 qb=>?_⟩;have f1:=xf.new (o:=HO.tup [.str "take",.int to,.int st,.int c]) qb;generalize upd u6 t1 _=G4 at f1⊢;show⟨rl,Y,⟨_,kq.of<|(oU.trans f1).at x3⟩,?_⟩;show yV (λ_ _ _=>True) (kq.of<|(oU.trans f1).at x3) (by rw[aa,ak];lia) cm (λi x acc G5 G5' hx g5 qD _ R qu=>?_) (λD6 acc G6 G6' qT qy g6 qC _ oK e6=>?_)
   ·rw[av]at hx;show oG λ_ U=>?_;obtain⟨z,qt,rfl⟩:=aI.mp hx;obtain⟨r2,qk,pC⟩:=x5 z<|aj qt;apply U;cases r2 with
    |put _ _=>cases pC
    |take to2 pY c2=>
     obtain⟨pW,pG⟩:=qk;have hz:=((oU.trans f1).trans<|g5.trans qD).at pG;show⟨_,pW,_,Y,hz,Y,?_⟩;show⟨_,pW,to2,pY,c2,Y,hz,λt2 pC=>qu _ _ (xf.new pC) λ_ _ _=>cm⟩
   show⟨by walk_at"side",λq hq=>hR _ _ (f1.trans ((g6.trans qC).trans<|xf.new hq)) λ_ _ _=>cm⟩
  rw[aa]at oK;show⟨by walk_at"side",λq hq=>?_⟩;have pk:=p7.trans pq;have sq:=pk.trans<|xf.new (o:=HO.tup [.ref pp,.ref D5]) hq;show k q pp D5 D acc _ (pz.trans<|pe.trans (o8.trans<|oX.trans sq)) xk ⟨tt,ts,sq.at qF,(oX.trans sq).at qE,L2.Paired.imp' (λ_ _ z=>z.same (o8.trans<|oX.trans sq)) oR⟩ ((xf.new hq).at e5) #[2] M
end
end ML
section
variable {base:Heap} (T:Txt w K mg a)
theorem ui.sr{o:Int}(h:ui o n D)(hr:r∈D):r.ok/\Sr r/\IG o n r:=by
 obtain⟨h1,h2⟩:=h.fit r hr;have:=h.o3;have:=h.n3;cases r with
 |take to st c=>obtain⟨k1,k2,k3⟩:=h1;obtain⟨f1,f2⟩:=h2;show⟨⟨k1,k2,k3⟩,⟨by lia,by lia,by lia⟩,f1,f2⟩
 |put to sg=>have f:to+(sg.length:Int)<=n:=h2;have:=h1.1;show⟨h1,⟨by lia,by lia⟩,h2⟩
def KY{rs:List xh}{x:xh×List Int}(hx:x∈yi rs):x.1∈rs/\x.2∈uS x.1:=by
 obtain⟨r,hr,hx⟩:=iS.mp hx;obtain⟨c,hc,rfl⟩:=aY.mp hx;show⟨hr,hc⟩
def ui.pieces{o:Int}(h:ui o n D){L:Nat}(h1:o<=L)(h2:n<=L):∀x∈yi D,jJ L x:=λx hx=>by
 obtain⟨k1,k2⟩:=KY hx;obtain⟨q1,q2,q3⟩:=h.sr k1;show Ub q1 q2 q3 h1 h2 k2
theorem ui.many{o:Int}(h:ui o n D):(yi D).length<=90000:=by
 have key:∀l:List xh,(∀r∈l,r∈D)->(yi l).length<=l.length*300:=λl=>by
  induction l with
  |nil=>intro _;simp[yi]
  |cons r l ih=>
   intro hs;obtain⟨q1,q2,_⟩:=h.sr<|hs r aJ;have h1:=Np q1 q2;have h2:=ih λs oK=>hs s<|aw _ oK;unfold yi at h2⊢;rw[List.flatMap_cons,ao,aa,aT];lia
 have:=key D λr hr=>hr;have:=h.few;lia
theorem ui.below{o:Int}(h:ui o n D){x:xh×List Int}(hx:x∈yi D){d:Int}(hd:d∈x.2):d<n:=by
 obtain⟨k1,k2⟩:=KY hx;obtain⟨q1,_,q3⟩:=h.sr k1;obtain⟨r,c⟩:=x;cases r with
 |take to st m=>
  have:=((Gq q1.2.2).mp<|dw.mpr ⟨c,k2,hd⟩).2;have:=q3.2;lia
 |put to sg=>
  have k2:c∈[yz to sg.length]:=k2;have hd:d∈c:=hd;rw[ai.mp k2]at hd;have:=ub.mp hd;have q3:to+(sg.length:Int)<=n:=q3;lia
theorem LC{j:Nat}:∀{X:List (xh×List Int)} {C:List Int},(∀x∈X,∀d∈x.2,0<=d/\d≠j)->(sO C X)[j]? =C[j]?
 |[],_,_=>rfl
 |x::X,C,h=>by
  change(sO (tD x.1 C x.2) X)[j]? =_;rw[LC λsZ hy=>h sZ<|aw _ hy]
  by_cases hj:j<C.length
  ·show(zO.tD (cs:=x.2) (D:=C) (r:=x.1) (zO.refl _ _) λd hd=>⟨hd,(h x aJ d hd).1⟩).2 j hj λz=>(h x aJ j z).2 rfl
  ·rw[bV (by rw[Ec];lia),bV #[2]]
theorem KW(ok:r.ok):x∈(C8 r).flatten↔x∈r.sS:=by
 cases r with
 |take to st c=>
  obtain⟨k1,k2,k3⟩:=ok;change x∈(yL to st c).flatten↔_;rw[Gq k3];simp only[xh.sS]
  split
  ·rename_i h;simp[h]
  ·rename_i h;rw[ub,cq #[2]];show⟨λz=>z.2,λz=>⟨h,z⟩⟩
 |put to sg=>simp[C8,xh.sS]
theorem JU(h:c∈r.sS):c∈r.cv:=by
 cases r with
 |take to st n=>
  simp only[xh.sS]at h
  split at h
  ·cases h
  ·show h
 |put to sg=>show h
theorem JT{es nw C0:List Int}{D:List xh}{least:Int}(M:Made es nw least D)(hz:C0=es++z)(hn:nw.length<=C0.length):∀{k:Nat},k<=D.length->∀x:Nat,x<C0.length->((∃r∈D.take k,(x:Int)∈r.sS)->(sO C0 (yi<|D.take k))[x]? =nw[x]?)/\((∀r∈D.take k,(x:Int)∉r.sS)->(sO C0 (yi<|D.take k))[x]? =C0[x]?)
 |0,_,x,_=>⟨(λ⟨r,hr,_⟩=>by cases hr),λ_=>Y⟩
 |k+1,hk,x,hx=>by
  have ih:=JT M hz hn (k:=k) #[2];obtain⟨r,hr⟩:∃r,D[k]? =E r:=⟨_,au #[2]⟩;have hm:=aj hr;obtain⟨t1,t2,t3,t4⟩:=M.wJ.tells r hm;have oQ:C0.length=es.length+z.length:=by rw[hz];simp
  have oO:=M.tJ.pieces (L:=C0.length) #[2] #[2];have hp:=Ua (C:=sO C0 (yi<|D.take k)) t1 λc h=>by
   rw[uT];show oO (r,c) (iS.mpr ⟨r,hm,aY.mpr ⟨c,h,Y⟩⟩)
  have h1:=hp.2 x (by rw[uT];show hx);rw[T9 hr,XC,h1,bh,hr]
  by_cases hw:(x:Int)∈r.sS
  ·rw[if_pos<|(KW t1).mpr hw];show⟨λ_=>?_,λh=>absurd hw<|h r #[8]⟩;have oS:=ue.mp<|JU hw;have e2:=t4 ((x:Int) - r.to).toNat #[2];rw[show(r.to+(((x:Int) - r.to).toNat:Nat)).toNat=x by have:=t1.to;lia]at e2;rw[e2];cases r with
   |put to sg=>rfl
   |take to st c=>
    simp only[xh.sS]at hw
    split at hw
    ·cases hw
    rename_i oP;have oR:=ub.mp hw;have t2:st+c<=es.length:=t2;obtain⟨k1,k2,k3⟩:=t1;have h2:=(ih (st+x - to).toNat #[2]).2 λs hs oK=>by
     obtain⟨j,hj,rfl⟩:=gP.mp hs;have oN:=aE.mp hr;show cc.mp M.tJ.Di j k #[2] oN.1 #[2] (((st+x - to).toNat:Nat):Int) ?_ oK;rw[oN.2];simp only[xh.tT];rw[if_neg oP];show ub.mpr #[2]
    change(sO C0 (yi<|D.take k))[(st+x - to).toNat]? =((es.drop st.toNat).take c.toNat)[((x:Int) - to).toNat]?;rw[h2,hz,bq #[2],il,if_pos #[2],dU]
    congr 1;lia
  ·rw[if_neg λz=>hw<|(KW t1).mp z];show⟨λ⟨s,hs,oK⟩=>?_,λh=>(ih x hx).2 λs hs=>h s<|bB _ hs⟩;rcases aZ.mp hs with q|q
   ·show(ih x hx).1 ⟨s,q,oK⟩
   ·have:s=r:=by simpa using q
    rw[this]at oK;show absurd oK hw
theorem P7(M:Made es nw least D)(hz:C0=es++z)(hn:nw.length<=C0.length):sO C0 (yi D)=nw++C0.drop nw.length:=by
 have key:=JT M hz hn<|ah _;rw[bo]at key;apply fi;intro j
 by_cases hj:j<C0.length
 ·obtain⟨h1,h2⟩:=key j hj
  by_cases hw:∃r∈D,(j:Int)∈r.sS
  ·obtain⟨r,hr,oK⟩:=id hw;have hc:=ue.mp<|JU oK;have:=(M.wJ.tells r hr).2.2.1;rw[h1 hw,bq #[2]]
  ·rw[h2 λr hr oK=>hw ⟨r,hr,oK⟩]
   by_cases oN:j<nw.length
   ·rw[bq oN];obtain⟨r,hr,hc⟩:=M.wJ.wJ j oN;obtain⟨t1,t2,t3,t4⟩:=M.wJ.tells r hr;cases r with
    |put to sg=>show absurd ⟨_,hr,ue.mpr hc⟩ hw
    |take to st c=>
     by_cases e:st=to
     ·subst e;obtain⟨c1,c2⟩:=hc;have c1:st<=(j:Int):=c1;have c2:(j:Int)<st+(c.toNat:Nat):=c2;have t2:st+c<=es.length:=t2;have h0:0<=st:=t1.1;have e2:=t4 ((j:Int) - st).toNat (by change _<c.toNat;lia);rw[show(xh.to (.take st st c)+(((j:Int) - st).toNat:Nat)).toNat=j by change(st+_).toNat=j;lia]at e2;rw[e2,hz,bq #[2]];change _=((es.drop st.toNat).take c.toNat)[((j:Int) - st).toNat]?;rw[il,if_pos #[2],dU]
      congr 1;lia
     ·show absurd ⟨_,hr,show(j:Int)∈xh.sS (.take to st c)by simp only[xh.sS];rw[if_neg e];show ue.mpr hc⟩ hw
   ·rw[bP #[2],dU]
    congr 1;lia
 ·rw[bV (by rw[uT];lia),bV (by rw[ao,bC];lia)]
def zo.rest{m:Nat}(M:Made es nw least D)(h1:es.length<=C0.length)(h2:nw.length<=C0.length)(h:zo (yi D) m C0 cells):cells.drop nw.length=C0.drop nw.length:=by
 apply fi;intro j;rw[dU,dU];have hb:∀x∈yi D,∀d∈x.2,0<=d/\d≠((nw.length+j:Nat):Int):=λx hx d hd=>by
  have:=M.tJ.below hx hd;have:=((M.tJ.pieces (L:=C0.length) #[2] #[2] x hx).2.2 d hd).1;lia
 by_cases hj:nw.length+j<C0.length
 ·rw[h.2 _ hj λx hx z=>(hb x (aj hx) _ z).2 rfl];show LC λx hx=>hb x (bQ hx)
 ·rw[bV (by rw[h.1];lia),bV #[2]]
end
def xhO:Sp:=λvs H Q _=>∃m:Nat,tG (vs=[.str ⟨(yR m).toArray⟩]) ((yR m).length<=60) (∀H',xf H H'->Q (.bl sX) H')
def xhP:Sp:=λvs H Q _=>∃n:Int,tG (vs=[.str<|xB n]) (Sm n) (∀H',xf H H'->Q (.int n) H')
noncomputable def vO(c:List Int):Str:=b7 ⟨#[32]⟩ (c.map xB)
def Wj(K:ax):Sp:=λvs H Q _=>sE λ(l:sK) (ns:List Int)=>tF (vs=[.ref l]) (kq K H l<|ns.map V.int) (ns.length<=300) (tL ns) (∀H',xf H H'->Q (.str<|vO ns) H')
def Yn:Sp:=λvs H Q _=>∃z:Str,tG (vs=[.str z]) (z.length<=100000) (∀(l:sK) (H':Hp),xf H H'->H' l=E (.lst<|(PySem.Txt.split z " ").map V.str)->Q (.ref l) H')
structure OR(w:Str)(ns:List Int)(lo:Int)(hi:Option Int)(k:Nat):Prop where
 few:ns.length<=400
 lo:lo<=ns.length
 hi:∀h,hi=E h->(ns.length:Int)<=h
 pos:∀x∈ns.take k,0<=x
 rm:w="room"->∃x xs,ns=x::xs/\x<=300/\(xs.length:Int)<=x
 ma:w="make"->∃x xs,ns=x::xs/\1<=x
noncomputable def JS(a:rP):List (Str×sK):=[("room",a.q1Y),("rows",a.q1Z),("take",a.q10),("put",a.q11),("make",a.q12),("judge",a.q13),("begin",a.q14),("go",a.q15),("cells",a.q16),("paper",a.q17)]
def Y1(K:ax)(a:rP):Sp:=λvs H Q _=>BM λ(w:Str) (l r:sK) (ns:List Int) (lo:Int) (hi:Option Int) (k:Nat)=>tY (vs=[.str w,.ref l]) (H l=E (.lst<|ns.map V.int)) ((w,r)∈JS a) (∀H,rM K H r [.int lo,nV hi,.int k]) (OR w ns lo hi k) (∀H',xf H H'->Q (.bl sX) H')
noncomputable abbrev dF(sv:V)(e:sK)(pv:V)(bg:Bool):List (Str×V):=[("store",sv),("elder",.ref e),("paper",pv),("begun",.bl bg)]
def UQ(a:rP):Sp:=λvs H Q _=>BM λ(d dx e:sK) (sv pv:V) (bg:Bool) (w:Str)=>tF (vs=[.ref d,.str w]) (H d=E (.ins a.q0c dx<|dF sv e pv bg)) ((wV (.str w) [.str "make",.str "begin",.str "cells"]&&wy sv)=sJ) ((wV (.str w) [.str "take",.str "put",.str "judge",.str "begin",.str "paper"]&&wy pv)=sJ) (Q (.bl (!decide (w="go")||bg)) H)
section
variable {base:Heap} (T:Txt w K mg a)
def xhQ:T.HQ.O P w mg base 1 xhO:=by
 specialize T.HQ.g ["word"]
 ·show oG λ_ U=>?_;obtain⟨m,rfl,hm,q⟩:=h;apply U;show⟨_,(xg<|xm (zX (yQ Af (xq NX #[5] T.xW xN<|xa (cv 0) xb) xj)<|um (xq (MM Y) #[5] T.Jk Ka<|xa (yv #[4] Y (Rc<|cv 0) (λ_ _ _ _=>(yQ Wa (cv 0) xF #[5])) λ_ _ _ _=>yo) xb))),?_⟩;have hz:(⟨(yR m).toArray⟩:Str).length=(yR m).length:=by simp[eO]
  have oK:0<(yR m).length:=cb.mpr<|CM m;show⟨_,Y,by rw[hz,ak];lia,?_⟩;show⟨λ_=>?_,λz=>by have:=of_decide_eq_false z;rw[hz]at this;lia⟩;show⟨_,Y,?_⟩;show UW (λ_=>.bl sX) (by change(yR m).toArray.size<=_;rw[aH,ak];lia) (λc H3 hc s3 R hR=>?_) (λD H' hD s' he=>?_)
  ·have oN:c∈yR m:=by simpa using hc
   have hf:=VF<|uz m c oN;show⟨_,_,Y,Y,?_⟩;have:=hR H3<|xf.refl _;rw[<-hf]at this;show this
  ·have e:((⟨(yR m).toArray⟩:Str).cps.toList.map λ_=>V.bl sX)=(a7 (yR m).length sX).map V.bl:=by
    rw[kT,List.map_const']
   rw[e]at he;show⟨D,_,Y,kq.of he,?_⟩;have e2:(a7 (yR m).length sX).all id=sX:=by simp
   change Q (.bl<|(a7 (yR m).length sX).all id) H';rw[e2];show q _ s'
def xhR:T.HR.O P w mg base 2 xhP:=by
 specialize T.HR.g ["word","figures","number"]
 ·show oG λ_ U=>?_;obtain⟨n,rfl,hn,q⟩:=h;apply U;show⟨_,(xc (xp (i:=1) nd Y (aG Y) (Jt (yb (yN PySem.F.plainAttrs_str PySem.F.slot_str_startswith PySem.F.type_str_startswith HZ (cv 0)<|xa xF xb)) (yj Rf (cv 0) (ya xj) zg)<|cv 0))
  (xc (xC (PW.pt (vy (xA Af (xq NX #[5] T.xW xN<|xa (cv 1) xb)<|zf (v:=.int 60) #[5] T.xhv ⟨_,Y⟩)<|jf (zK<|yb (xo (xhQ T) hr.m T.ZT T.HQ xn<|xa (cv 1) xb)))) (xg<|xm zT) xw)
  (xc (xp (i:=2) nd Y (aG Y) (xT En #[5] T.Bi Bm<|xa (cv 0) xb))
  (xc (xC (xA Ak (xT Cb #[5] T.Bg Bl<|xa (cv 2) xb)<|cv 0) (xg<|xm zT) xw)
  (xg (xm (cv 2))))))),?_⟩
  have hl:=yI hn;have hf:(yR n.natAbs).length<=60:=KI (by unfold Sm at hn;lia) #[6];have hz:(⟨(yR n.natAbs).toArray⟩:Str).length=(yR n.natAbs).length:=by simp[eO]
  left;show bG rfl ?_;show⟨_,_,Y,Y,?_⟩;rw[WR n];show⟨λz=>?_,λz=>?_⟩
  ·have oN:=of_decide_eq_true z;show⟨_,Y,?_⟩;show⟨_,Y,by rw[ak];lia,?_⟩;rw[Tb oN];show⟨_,Y,by rw[hz,ak];lia,?_⟩;show⟨λz=>by have:=of_decide_eq_true z;rw[hz]at this;lia,λ_=>?_⟩;show⟨_,Y,hf,λH1 s1=>?_⟩;walk_at"N";show⟨_,_,Y,CQ hn,by lia,?_⟩;show⟨_,_,Y,Y,λi e=>by injection e with e;rw[<-e];show vG hn,?_⟩;show⟨λz=>(by rw[show decide (bF (toString n)=xB n)=sX from decide_eq_true rfl]at z;cases z),λ_=>?_⟩;left;show q _ s1
  ·have oK:=of_decide_eq_false z
   conv=>arg 2;rw[VG oK]
   show⟨_,Y,by rw[hz,ak];lia,?_⟩;show⟨λz=>by have:=of_decide_eq_true z;rw[hz]at this;lia,λ_=>?_⟩;show⟨_,Y,hf,λH1 s1=>?_⟩;walk_at"N";show⟨_,_,Y,CQ hn,by lia,?_⟩;show⟨_,_,Y,Y,λi e=>by injection e with e;rw[<-e];show vG hn,?_⟩;show⟨λz=>(by rw[show decide (bF (toString n)=xB n)=sX from decide_eq_true rfl]at z;cases z),λ_=>?_⟩;left;show q _ s1
def Ml(ns:List Int):wV V.rp (ns.map V.int)=sJ/\(ns.map V.int).all Al=sX:=by
 show⟨?_,?_⟩
 ·unfold wV;rw[j9];show List.any_eq_false.mpr λx _=>by simp[AE]
 ·rw[List.all_map];show bZ.mpr λx _=>rfl
def CU(h:∀x∈ns,Sm x):∀p∈ns.map xB,p.length<=61:=by
 intro p hp;obtain⟨n,hn,rfl⟩:=aY.mp hp;show yI (h n hn)
def Wi:T.Gm.O P w mg base 1 (Wj K):=by
 specialize T.Gm.g ["parts"]
 ·show oG λ_ U=>?_;obtain⟨l,ns,rfl,hl,hn,hs,q⟩:=h;apply U;show⟨_,(xg<|xm (yN PySem.F.plainAttrs_str PySem.F.slot_str_join PySem.F.type_str_join KJ xF<|xa (yv #[4] Y (xS<|cv 0) (λ_ _ _ _=>(xT Cb #[5] T.Bg Bl<|xa (cv 0) xb)) λ_ _ _ _=>yo) xb)),?_⟩;left;show bG rfl ?_;show⟨l,Y,⟨_,hl⟩,?_⟩;show yV (λi acc _=>acc=((ns.take i).map xB).map V.str) hl (by rw[aa,ak];lia) rfl (λj sZ acc G3 u6 hy t3 oK hP R hR=>?_) (λD acc G3 u6 hD oN t3 oK hP hle he=>?_)
  ·rw[av]at hy;show oG λ_ U=>?_;obtain⟨m,hm,rfl⟩:=aI.mp hy;apply U;show⟨.int m,xB m,Y,Y,λi e=>?_,hR _ _ (xf.refl _) λH7 _ _=>?_⟩
   ·injection e with e;rw[<-e];show vG (hs m<|aj hm)
   ·rw[hP,bh,hm];simp
  ·rw[aa,bo]at hP;rw[hP]at he;have h1:=L7 (d:=32) (ns.map xB)<|CU hs;have h2:=Ca (d:=32) (ns.map xB)<|CU hs;rw[aa]at h1 h2;have h3:ns.length*(61+1)<=300*62:=kd _ hn;show⟨_,D,ns.map xB,Y,Y,kq.of he,aQ h1<|aQ h3 (by rw[ak];decide),?_,?_⟩
   ·rw[Es];show aQ h2 (aQ h3 (by rw[ak];decide))
   rw[Es];show q _ (t3.trans oK)
def Ym:T.Gw.O P w mg base 1 Yn:=by
 specialize T.Gw.g ["row"]
 ·show oG λ_ U=>?_;obtain⟨z,rfl,hz,k⟩:=h;apply U;show⟨_,(xc (xC (zK (yb<|xq zY #[5] T.yB yq (xa (cv 0)<|xa (B8 (v:=.ty "str") #[5] T.Bg Bl rfl) xb))) (xg vp) xw)
  (xg (xm (yN PySem.F.plainAttrs_str PySem.F.slot_str_split PySem.F.type_str_split Em (cv 0) (xa xF xb))))),?_⟩
  show⟨_,_,_,_,sX,Y,Y,uf.str _,Y,?_⟩;walk_at"n";show bG rfl ?_;show⟨z," ",rfl,rfl,by decide,by rw[ak];lia,λl hl=>k l _ (xf.new hl) xk⟩
theorem Y0:T.GY.O P w mg base 1 (Y1 K a):=by
 specialize T.GY.g ["word","numbers","form"]
 ·show oG λ_ U=>?_;obtain⟨w',l,r,ns,lo,hi,k,rfl,hl,hm,oK,hF,q⟩:=h;apply U;show⟨_,(xc (xC (PW.pt<|vy (CA (WN (cv 0)<|zf (v:=.ref a.q2p) #[5] T.Kv Y) #[5]) (jf<|xA ED zT (cv 1) #[5])) (xg<|xm yG) xw)
  (xc (xp (i:=2) nd Y (aG Y)<|UT (zf (v:=.ref a.q2p) #[5] T.Kv Y) (cv 0) λ_ _=>Y)
  (xc (jO<|xC (PW.pt<|vy (xA wZ (xq xu #[5] T.xW xN<|xa (cv 1) xb)<|xy xG (cv 2) xj λ_ _=>Y) (jf<|PW.pt (vj (D9<|xy xG (cv 2) xj λ_ _=>Y)<|uE (xA Af (xq xu #[5] T.xW xN<|xa (cv 1) xb)<|xy xG (cv 2) xj λ_ _=>Y)))) (xg<|xm yG) xw)
  (xc (xC (yb (xq (MD Y) #[5] T.Jj Kb<|xa (yv #[4] Y (xS<|yj yC (cv 1) zg (ya<|xy xG (cv 2) xj λ_ _=>Y)) (λ_ _ _ _=>(yQ wZ (cv 0) xj)) λ_ _ _ _=>yo) xb)) (xg<|xm yG) xw)
  (xc (xC (xA jn (cv 0) xF) (xg<|xm (zX (yQ Co (xy xU (cv 1) xj λ_ _=>Y)<|zf (v:=.int 300) #[5] T.Fv ⟨_,Y⟩)<|um (yQ Co (xr jN (xq xu #[5] T.xW xN<|xa (cv 1) xb) xj)<|xy xU (cv 1) xj λ_ _=>Y))) xw)
  (xg (xm (Ju (yQ Ak (cv 0) xF) (um (yQ Cn (xy xU (cv 1) xj (λ_ _=>Y)) xj)))))))))),?_⟩
  have hlen:(ns.map V.int).length=ns.length:=aa _;have oS:=hF.few;have oU:=hF.lo;show⟨_,_,_,w',Y,Y,T.Ku,.inl ⟨⟨r,hm⟩,?_⟩⟩;walk_at"N";show⟨l,_,Y,.inl<|kq.of hl,Y,(Ml ns).2,?_⟩;rw[if_neg #[6],(Ml ns).1];walk_at"N";show⟨_,_,_,w',r,Y,Y,T.Ku,hm,?_⟩;show⟨λrq H'=>rq=[E<|.str w',E<|.ref l,E<|.ref r]/\H'=H,?_,?_⟩
  ·show⟨l,_,Y,.inl<|kq.of hl,?_⟩;rw[hlen];show⟨r,_,_,.int lo,Y,Y,oK _,Y,?_⟩;show⟨λb=>absurd (of_decide_eq_true b) (by change¬(ns.length:Int)<lo;lia),λ_=>?_⟩;exists⟨r,_,_,nV hi,Y,Y,oK _,Y,?_⟩;cases hi with
   |none=>show⟨by walk_at"no",λ_=>⟨by walk_at"no",λ_=>⟨Y,Y⟩⟩⟩
   |some h=>
    walk_at"Y";show⟨l,_,Y,.inl<|kq.of hl,?_⟩;rw[hlen];show⟨r,_,_,.int h,Y,Y,oK _,Y,?_⟩;have:=hF.hi h rfl;show⟨λb=>absurd (of_decide_eq_true b) (by change¬h<(ns.length:Int);lia),λ_=>⟨Y,Y⟩⟩
  rintro rq H' ⟨rfl,rfl⟩;show⟨r,_,_,.int k,Y,Y,oK _,Y,?_⟩;show⟨_,Y,?_⟩;show⟨l,_,Y,kq.of hl,?_⟩;exists λsl oR=>xK (upd H' sl _) rfl oR λH1 oQ oO=>?_;have oO:H1 sl=E (.lst<|(ns.take k).map V.int):=by
   rw[oO];have:=jl (ns.map V.int) 0 k;rw[dQ,<-dy]at this;show congrArg (λz=>E<|HO.lst z) this
  show⟨sl,Y,⟨_,kq.of oO⟩,?_⟩;show yV (λi acc _=>acc=(a7 i sJ).map V.bl) (kq.of oO) (by rw[aa,ak,a8];lia) rfl (λj sZ acc G3 u6 hy t3 oP hP R hR=>?_) (λD acc G3 u6 hD oV t3 oP hP hle he=>?_)
  ·rw[av]at hy;show oG λ_ U=>?_;obtain⟨m,hm,rfl⟩:=aI.mp hy;apply U;have:=hF.pos m<|aj hm;left;change R (.bl<|decide (m<0)) _;rw[decide_eq_false (show¬m<0 by lia)];show hR _ _ (xf.refl _) λH7 _ _=>?_;rw[hP,nj];simp
  rw[hP]at he;have sA:xf H' u6:=oQ.trans<|t3.trans oP;show⟨D,_,Y,kq.of he,?_⟩;show⟨λb=>by simp at b,λ_=>?_⟩;have oN:=sA.at hl;show⟨λb4=>?_,λb4=>?_⟩
  ·show oG λ_ U=>?_;obtain⟨x,xs,rfl,h1,h2⟩:=hF.rm<|of_decide_eq_true b4;apply U;show⟨l,_,_,.int x,Y,Y,kq.of oN,yn (j:=0) Y,?_⟩;show⟨λ_=>?_,λb=>absurd h1<|of_decide_eq_false b⟩;show⟨l,_,Y,.inl<|kq.of oN,?_⟩;rw[hlen];show⟨l,_,_,.int x,Y,Y,kq.of oN,yn (j:=0) Y,?_⟩;have:=q _ sA;rw[<-decide_eq_true (show(((x::xs).length:Nat):Int) - 1<=x by rw[aT];lia)]at this;show this
  ·show⟨λb5=>q _ sA,λb5=>?_⟩;show oG λ_ U=>?_;obtain⟨x,xs,rfl,h1⟩:=hF.ma<|of_decide_eq_true (by simpa using b5);apply U;show⟨l,_,_,.int x,Y,Y,kq.of oN,yn (j:=0) Y,?_⟩;have:=q _ sA;rw[<-decide_eq_true (show(1:Int)<=x from h1)]at this;show this
theorem LB{X:Prop}{F:Bool->Prop}(hX:F b2->X)(h:F (b1&&b2)):(b1=sX->X)/\(b1=sJ->F sJ):=by
 cases b1 with
 |true=>show⟨λ_=>hX h,λz=>nomatch z⟩
 |false=>show⟨λz=>(nomatch z),λ_=>h⟩
def xa1:T.zN.O P w mg base 1 (UQ a):=by
 specialize T.zN.g ["self","word"]
 ·show oG λ_ U=>?_;obtain⟨d,dx,e,sv,pv,bg,w',rfl,hD,h1,h2,q⟩:=h;apply U;show⟨_,(xc (xC (PW.pt (vj (xA ED (cv 1) (zf (v:=.ref a.q08) #[5] T.YE Y) #[5])<|uE (AX<|xv (cv 0) Y))) (xg<|xm yG) xw)
  (xc (xC (PW.pt (vj (xA ED (cv 1) (zf (v:=.ref a.q0Y) #[5] T.YV Y) #[5])<|uE (AX<|xv (cv 0) Y))) (xg<|xm yG) xw)
  (xg (xm (Ju (yQ Ak (cv 1) xF) (um #[11])))))),?_⟩
  exists⟨_,[.str "make",.str "begin",.str "cells"],rfl,.inr<|T.YD _,rfl,rfl,?_⟩;show LB (F:=λb=>(b=sX->_)/\(b=sJ->_)) (b2:=wy sv) (λhF=>?_) ?_
  ·show⟨d,_,dx,_,sv,Y,hD,T.xI,T.yJ,Y,?_⟩;show hF
  rw[if_neg #[6],h1];walk_at"N";exists⟨_,[.str "take",.str "put",.str "judge",.str "begin",.str "paper"],rfl,.inr<|T.YU _,rfl,rfl,?_⟩;show LB (F:=λb=>(b=sX->_)/\(b=sJ->_)) (b2:=wy pv) (λhF=>?_) ?_
  ·show⟨d,_,dx,_,pv,Y,hD,T.xI,T.zj,Y,?_⟩;show hF
  rw[if_neg #[6],h2];walk_at"N";show⟨λb=>?_,λb=>?_⟩
  ·rw[show(!decide (w'="go"))=sX from b]at q;show q
  rw[show(!decide (w'="go"))=sJ from b]at q;show⟨d,_,dx,_,.bl bg,Y,hD,T.xI,T.uj,Y,q⟩
end
open ML (xmJ)
set_option genInjectivity false in
structure DK where
 d:sK
 dx:sK
 S:SA
set_option genInjectivity false in
structure DS where
 c:List Int
 ns:List (Option Int)
 el:sK
 elder:List Int
 pv:V
 bg:Bool
noncomputable abbrev LD(D:DK):List sK:=D.d::SS D.S
structure yg(a:rP)(H:Hp)(D:DK)(s:DS):Prop where
 dk:H D.d=E (.ins a.q0c D.dx<|dF (.ref D.S.st) s.el s.pv s.bg)
 el:H s.el=E (.lst<|s.elder.map V.int)
 st:∃n fl,zH a H D.S s.c s.ns n fl
 nd:D.d∉D.S.st::SS D.S
 BE:s.el∉SS D.S
 sm:tL s.c
def yg.mu{D:DK}(h:yg a H D s):∀x∈LD D,∃u,H x=E u/\wM u:=λx hx=>by
 rcases aB.mp hx with rfl|hx
 ·show⟨_,h.dk,trivial⟩
 ·obtain⟨n,fl,hS⟩:=h.st;show hS.mu x hx
def yg.same{D:DK}(h:yg a H D s)(e:xf H H'):yg a H' D s:=
 ⟨e.at h.dk,e.at h.el,let⟨n,fl,hS⟩:=h.st;⟨n,fl,hS.same e⟩,h.nd,h.BE,h.sm⟩
def yg.store{D:DK}{c:List Int}{ns:List (Option Int)}(h:yg a H D s)(k:Kp (SS D.S) H H')(hS:zH a H' D.S c ns n fl)(hc:tL c):yg a H' D {s with c:=c,ns:=ns}:=
 ⟨k _ _ h.dk λz=>h.nd<|aw _ z,k _ _ h.el h.BE,⟨n,fl,hS⟩,h.nd,h.BE,hc⟩
def yg.own{D:DK}{el:sK}{elder:List Int}{pv:V}{bg:Bool}(h:yg a H D s)(k:Kp [D.d] H H')(e:H' D.d=E (.ins a.q0c D.dx<|dF (.ref D.S.st) el pv bg))(oK:H' el=E (.lst<|elder.map V.int))(BE:el∉SS D.S):yg a H' D {s with el:=el,elder:=elder,pv:=pv,bg:=bg}:=by
 show⟨e,oK,?_,h.nd,BE,h.sm⟩;obtain⟨n,fl,hS⟩:=h.st;have h3:=h.nd;simp only[aB,bR,or_false,not_or]at h3;show⟨n,fl,hS.Io k λx hx=>by rw[ai.mp hx];show⟨h3.1,h3.2.1,h3.2.2.1,h3.2.2.2⟩⟩
def yg.C9{D:DK}{o:HO}(h:yg a H D s)(eo:o= .ins a.q0c D.dx (dF (.ref D.S.st) s.el pv bg)):Kp [D.d] H (upd H D.d o)/\yg a (upd H D.d o) D {s with pv:=pv,bg:=bg}:=by
 have k:Kp [D.d] H (upd H D.d o):=(Kp.of<|xf.refl _).wr #[8];show⟨k,h.own k (by rw[xk,eo]) (k _ _ h.el λz=>by have:=h.el;rw[ai.mp z,h.dk]at this;cases this) h.BE⟩
def Nm(H H':Hp):Prop:=∀b u,H b=E u->¬wM u->H' b=E u
def zP(mu:∀x∈L,∃u,H x=E u/\wM u)(k:Kp L H H'):Nm H H':=λb u e m=>k b u e λz=>by
 obtain⟨u',q',m'⟩:=mu b z;rw[e]at q';cases q';show m m'
def zB.nm{o:Int}{rs:List xh}(h:zB K H p o n rs)(k:Nm H H'):zB K H' p o n rs:=by
 obtain⟨t,ts,h1,h2,h3⟩:=h;show⟨t,ts,k _ _ h1 λz=>z,k _ _ h2 λz=>z,L2.Paired.imp' (λ_ _ z=>z.OG k) h3⟩
structure wk(H:Hp):Prop where
 e:H uu=E (.sk ve)
 o:H yY=E (.sk zA)
 j:H vH=E (.sk jH)
 d:H ur=E (.sk vt)
 w:H zF=E (.sk uM)
 n:H yM=E (.sk zy)
 f:H zG=E (.sk uN)
def wk.nm(h:wk H)(k:Nm H H'):wk H':=⟨k _ _ h.e λz=>z,k _ _ h.o λz=>z,k _ _ h.j λz=>z,k _ _ h.d λz=>z,k _ _ h.w λz=>z,k _ _ h.n λz=>z,k _ _ h.f λz=>z⟩
def xf.nm(s:xf H H'):Nm H H':=λb u e _=>s b u e
def wk.bs{D:DK}(h:wk H)(hD:yg a H D s){mf:Bool}(hf:AO H fl mf)(n:Int):Bs ⟨D.S,fl,mf,n,H⟩:=⟨hf,λx hx=>hD.mu x<|aw _ hx,h.d,h.w,h.n⟩
def YZ(a:rP):Sp:=λvs H Q _=>sE λ(d dx:sK)=>tG (vs=[.ref d]) (H d=E (.ins a.q0c dx [])) (∀(e:sK) (H':Hp),Kp [d] H H'->H' d=E (.ins a.q0c dx<|dF .rp e .rp sJ)->Q .rp H')
def YY(a:rP):Sp:=λvs H Q _=>tK λ(D:DK) (s:DS) (p:sK)=>tG (vs=[.ref D.d,.ref p]) (yg a H D s) (∀H',Kp [D.d] H H'->yg a H' D {s with pv:=.ref p,bg:=sJ}->Q (.str "ok") H')
def Yl(a:rP):Sp:=λvs H Q _=>tW λ(d dx e:sK) (size:Nat) (l:sK) (text:List Int)=>AH (vs=[.ref d,.int size,.ref l]) (H d=E (.ins a.q0c dx<|dF .rp e .rp sJ)) (H l=E (.lst<|text.map V.int)) (text.length<=size) (size<=300) (tL text) (∀(S:SA) (H':Hp),Kp [d] H H'->(∀x∈SS S,H x=y)->yg a H' ⟨d,dx,S⟩ ⟨text++a7 (size - text.length) 0,[E 0,E 0],l,text,.rp,sJ⟩->Q (.str "ok") H')
noncomputable def Fe(i j k:Int):Str:=t9 (t9 (t9 (cy++"cost ") i++" plain ") j++" turned ") k
def Z3(K:ax)(a:rP):Sp:=λvs H Q _=>tE λ(D:DK) (s:DS) (l:sK) (least:Int) (nw:List Int)=>DA (vs=[.ref D.d,.int least,.ref l]) (yg a H D s) (wk H) (H l=E (.lst<|nw.map V.int)) (l≠D.d) (s.elder.length<=300) (nw≠[]) (nw.length<=150) (tL nw) (∀(H':Hp) (p:sK) (rs:List xh) (m:Nat),Kp [D.d] H H'->yg a H' D {s with pv:=.ref p,bg:=sJ}->zB K H' p s.elder.length nw.length rs->Made s.elder nw least rs->m<=300->Q (.str<|Fe (rs.map xh.cst).sum (nw.length+2) m) H')
def TX(K:ax)(a:rP):Sp:=λvs H Q _=>tW λ(D:DK) (s:DS) (p:sK) (o n:Int) (rs:List xh)=>tY (vs=[.ref D.d]) (yg a H D s) (s.pv= .ref p) (zB K H p o n rs) (ui o n rs) (∀H',xf H H'->Q (.str "none") H')
def xhS(K:ax)(a:rP):Sp:=λvs H Q _=>tE λ(D:DK) (s:DS) (p:sK) (n:Int) (rs:List xh)=>BO (vs=[.ref D.d]) (yg a H D s) (wk H) (s.pv= .ref p) (zB K H p s.elder.length n rs) (ui s.elder.length n rs) (s.ns.length=2) (∀H',Kp (LD D) H H'->yg a H' D {s with ns:=[E 0,E 0],bg:=sX}->Q (.str "ok") H')
noncomputable def Am(n:Int):Str:=cy++"done "++xB n
structure Way(rs:List xh)(C0:List Int)(s:DS)(m:Nat):Prop where
 note:uU s.ns m
 le:m<=(yi rs).length
 near:zo (yi rs) m C0 s.c
def Wh(K:ax)(a:rP):Sp:=λvs H Q _=>E7 λ(D:DK) (s:DS) (p l:sK) (us C0:List Int) (o:Int) (n:Nat) (rs:List xh) (m:Nat)=>E5 (vs=[.ref D.d,.ref l]) (yg a H D s) (wk H) (H l=E (.lst<|us.map V.int)) (us.length<=2) (tL us) (s.pv= .ref p) (zB K H p o n rs) (ui o n rs) (max o n<=C0.length) (Way rs C0 s m) ((∀(H':Hp) (e:sK) (ns:List (Option Int)) (x:Int),Kp (LD D) H H'->yg a H' D ⟨sO C0<|yi rs,ns,e,(sO C0<|yi rs).take n,s.pv,sJ⟩->ns.length=2->Q (.str<|Am x) H')) ((us≠[]->∀(H':Hp) (c:List Int) (ns:List (Option Int)) (m:Nat),Kp (LD D) H H'->yg a H' D {s with c:=c,ns:=ns}->Way rs C0 {s with c:=c,ns:=ns} m->Q (.str "fallen") H'))
section
variable {base:Heap} (T:Txt w K mg a)
def YX:T.GZ.O P w mg base 1 (YZ a):=by
 specialize T.GZ.g ["self"]
 ·show oG λ_ U=>?_;obtain⟨d,dx,rfl,hd,k⟩:=h;apply U;show⟨_,(xc (yt (cv 0) zT Y)
  (xc (yt (cv 0) (yf xb) Y)
  (xc (yt (cv 0) zT Y)
  (xg (yt (cv 0) yG Y))))),?_⟩
  show⟨d,_,dx,_,Y,hd,T.xI,T.yJ,by walk_at"few",?_⟩;right;intro el oK;have ne:d≠el:=λz=>by rw[<-z,xk]at oK;cases oK
  have oN:H el=y:=by rw[xl<|aW ne]at oK;show oK
  show⟨d,_,dx,_,Y,by rw[xl ne,xk],T.xI,T.uk,by walk_at"few",?_⟩;show⟨d,_,dx,_,Y,xk,T.xI,T.zj,(show 2<1000 by decide),?_⟩;show⟨d,_,dx,_,Y,xk,T.xI,T.uj,(show 3<1000 by decide),?_⟩;left;rw[yO,yO];show k el _ (((((Kp.of<|xf.refl _).wr #[8]).mk oN).wr #[8])) xk
def xeW:T.jC.O P w mg base 1 (YY a):=by
 specialize T.jC.g ["self","paper"]
 ·show oG λ_ U=>?_;obtain⟨D,s,p,rfl,hD,k⟩:=h;apply U;show⟨_,(xc (yt (cv 0) (cv 1) Y)
  (xc (yt (cv 0) yG Y)
  (xg (xm xF)))),?_⟩
  show⟨D.d,_,D.dx,_,Y,hD.dk,T.xI,T.zj,by walk_at"few",?_⟩;show⟨D.d,_,D.dx,_,Y,xk,T.xI,T.uj,by walk_at"few",?_⟩;left;rw[yO];obtain⟨k1,k2⟩:=hD.C9 (pv:=.ref p) (bg:=sJ) rfl;show k _ k1 k2
theorem LA:∀n:Nat,(a7 n [V.int 0]).flatten=a7 n (V.int 0)
 |0=>rfl
 |n+1=>by rw[dH,dG,LA n,dH];rfl
def xfP:T.jX.O P w mg base 5 (Yl a):=by
 specialize T.jX.g ["self","size","text"]
 ·show oG λ_ U=>?_;obtain⟨d,dx,e,size,l,text,rfl,hD,hl,hle,h3,hb,k⟩:=h;apply U;show⟨_,(xc (yt (cv 0) (jD (dvs:=[.rp]) T.Vf (ZI T) hr.m #[5] T.Tz T.HB.bd (.cons Y .nil) xn<|xa (xr AY (cv 2) (xr Q3 (yf<|xa xj xb)<|xr jN (cv 1) (xq xu #[5] T.xW xN<|xa (cv 2) xb))) xb) Y)
  (xc (yt (cv 0) (cv 2) Y)
  (xc (yt (cv 0) yG Y)
  (xg (xm xF))))),?_⟩
  right;show λz1 pe=>xK (upd H z1 _) rfl pe λH1 oS pk=>?_;show⟨l,_,Y,.inl (kq.of<|oS.at hl),?_⟩;rw[aa];show⟨z1,(size:Int) - text.length,_,Y,Y,pk,by lia,by lia,by rw[ak];simp;lia,?_⟩;show λz2 pd=>xK (upd H1 z2 _) rfl pd λH2 oW pj=>?_;show⟨l,z2,_,_,Y,Y,oW.at (oS.at hl),pj,?_,?_⟩
  ·rw[aa,ak,len_rep];simp;lia
  exists λz3 o9=>xK (upd H2 z3 _) rfl o9 λH3 oZ ph=>?_;have oX:=oS.trans<|oW.trans oZ;have ec:H3 z3=E (.lst<|(text++a7 (size - text.length) 0).map V.int):=by
   rw[ph,aO,kT,show((size:Int) - text.length).toNat=size - text.length by lia];rw[LA]
  intro st oN oY oO nest;show se (upd H3 oN<|.own st) λH4 oP=>?_;have oR:=xf.of_eq oO oP;have oV:H4 st=y:=by rw[<-oP,xl<|aW nest];show oY
  have o7:=oX.trans oR;have oQ:H st=y:=oX.back oY;have s5:∀o,xf H (upd H4 st o):=λo=>o7.put oQ;show⟨st,oN,z3,_,.rp,Y,xk,by rw[xl<|xH (oR.at ec) oV];show oR.at ec,λS H6 eS k6 hS f1 f2 f3=>⟨Y,?_⟩⟩;have oU:xf H H6:=λb u e=>k6 b u ((s5 _) b u e) (λz=>by rw[ai.mp z]at e;rw[oQ]at e;cases e);have fr:∀x∈SS S,H x=y:=λx hx=>by
   simp only[aB,bR,or_false]at hx;rcases hx with rfl|rfl|rfl
   ·show(s5 _).back f1
   ·show(s5 _).back f2
   ·show(s5 _).back f3
  have pf:=oU.at hD;have oK:d∉S.st::SS S:=λz=>by
   have:H d=y:=by
    rcases aB.mp z with e|z
    ·rw[e,eS];show oQ
    ·show fr d z
   rw[this]at hD;cases hD
  have nl:l∉SS S:=λz=>by rw[fr l z]at hl;cases hl
  have o8:l≠d:=zt hl hD (by intro z;cases z);show⟨d,_,dx,_,Y,pf,T.xI,T.yJ,by walk_at"few",?_⟩;show⟨d,_,dx,_,Y,xk,T.xI,T.uk,by walk_at"few",?_⟩;show⟨d,_,dx,_,Y,xk,T.xI,T.uj,(show 4<1000 by decide),?_⟩;left;rw[yO,yO];rw[<-eS];have kk:∀o,Kp [d] H6 (upd H6 d o):=λo=>(Kp.of<|xf.refl _).wr #[8];show k S _ ((Kp.of oU).trans<|kk _) fr ⟨xk,?_,⟨0,.rp,?_⟩,oK,nl,λx hx=>?_⟩
  ·change upd H6 d _ l=_;rw[xl o8];show oU.at hl
  ·show hS.Io (kk _) λx hx=>?_;rw[ai.mp hx];simp only[aB,bR,or_false,not_or]at oK;show⟨oK.1,oK.2.1,oK.2.2.1,oK.2.2.2⟩
  ·rcases aZ.mp hx with z|z
   ·show hb x z
   ·rw[(List.mem_replicate.mp z).2];unfold Sm;decide
theorem JE{n:Int}:∀{rs:List xh},(∀r∈rs,r.ok/\r.cnt<=300)->0<=(rs.map xh.cst).sum/\(rs.map xh.cst).sum<=302*(rs.length:Int)
 |[],_=>by simp
 |r::rs,h=>by
  have ih:=JE (n:=n) λs hs=>h s<|aw _ hs;have h1:=(h r aJ).2;rw[ba,iH,aT];cases r with
  |take to st c=>simp only[xh.cst];lia
  |put to sg=>simp only[xh.cst,xh.cnt]at h1⊢;lia
def ui.cst{o:Int}{rs:List xh}(h:ui o n rs):Sm (rs.map xh.cst).sum:=by
 have:=JE (n:=n) (rs:=rs) λr hr=>⟨(h.fit r hr).1,by have:=(h.len hr).1;rw[JV]at this;show this⟩;have:=h.few;unfold Sm;lia
def FU{c:Str}{i:Int}(h:Sm i):(t9 c i).length<=c.length+61:=by
 unfold t9;have:=yI h;rw[len_app];unfold xB at this;lia
def xes:T.je.O P w mg base 7 (Z3 K a):=by
 specialize T.je.g ["self","least","newer","pair","price","plain_price","turned"]
 ·show oG λ_ U=>?_;obtain⟨D,s,l,least,nw,rfl,hD,hT,hl,oY,he,oU,hn,hb,k⟩:=h;apply U;show⟨_,(xc (xp (i:=3) nd Y (aG Y) (K8 (xmJ T) hr.m #[5] T.Ry T.DL.kp T.DL.b .nil xn<|xa #[11] (xa (cv 2)<|xa (cv 1) xb)))
  (xc (xO (ym (cv 0) T.xI T.xeR (xeW T) hr.m T.jC.b .nil xn<|xa (xy xG (cv 3) xj λ_ _=>Y) xb))
  (xc (xp (i:=4) nd Y (aG Y) (xo (K3 T) hr.m T.JG T.DV xn<|xa (xy xG (cv 3) xj λ_ _=>Y) xb))
  (xc (xp (i:=5) nd Y (aG Y) (xo (K3 T) hr.m T.JG T.DV xn<|xa (xo (T2 T) hr.m T.TF T.FN xn (xa (xq xu #[5] T.xW xN<|xa #[11] xb)<|xa (cv 2) xb)) xb))
  (xc (xp (i:=6) nd Y (aG Y) (xq xu #[5] T.xW xN<|xa (xy xG (cv 3) xj λ_ _=>Y) xb))
  (xg (xm (Vk (cv 4) (cv 5) (cv 6))))))))),?_⟩
  show⟨D.d,_,D.dx,_,.ref s.el,Y,hD.dk,T.xI,T.uk,Y,?_⟩;show⟨s.el,l,s.elder,nw,least,Y,hT.e,hT.o,hT.j,hD.el,hl,he,hn,hb,λt p tl rs xs H1 s1 ht hp oQ oZ hM=>?_⟩;have oN:=hD.same s1;show⟨D.d,D.dx,_,Y,oN.dk,Y,?_⟩;show⟨t,_,_,.ref p,Y,Y,rM.of ht,Y,?_⟩;show⟨D,s,p,Y,oN,λH2 k2 oW=>?_⟩;have n2:Nm H1 H2:=zP (λx hx=>by rw[ai.mp hx];show⟨_,oN.dk,trivial⟩) k2;have oP:Kp [D.d] H H2:=(Kp.of s1).trans k2;have oS:=hp.nm n2;have oR:H2 t=E (.tup [.ref p,.ref tl]):=n2 _ _ ht λz=>z;have oX:tl≠D.d:=zt oQ oN.dk (by intro z;cases z);have oO:=k2 _ _ oQ (by simpa using oX);have o8:=oP _ _ hl (by simpa using oY);show⟨t,_,_,.ref p,Y,Y,rM.of oR,Y,?_⟩;show⟨p,_,_,rs,Y,oS,λr hr=>(hM.tJ.fit r hr).1,by have:=hM.tJ.few;lia,λH3 s3=>?_⟩;have oV:=oW.same s3;show⟨D.d,_,D.dx,_,.ref s.el,Y,oV.dk,T.xI,T.uk,Y,?_⟩;show⟨s.el,_,Y,.inl<|kq.of oV.el,?_⟩;show⟨_,l,nw,Y,s3.at o8,oU,λpp H4 s4 o7=>?_⟩;show⟨pp,_,_,[.put 0 nw],Y,o7,λr hr=>?_,by change 1<=1000;decide,λH5 s5=>?_⟩
  ·rw[ai.mp hr];show⟨by decide,oU,by lia,hb⟩
  have oK:=s3.trans<|s4.trans s5;show⟨t,_,_,.ref tl,Y,Y,rM.of<|oK.at oR,Y,?_⟩;show⟨tl,_,Y,.inl (kq.of<|oK.at oO),?_⟩;have ep:(([xh.put 0 nw]:List xh).map xh.cst).sum=(nw.length:Int)+2:=by simp[xh.cst];lia
  rw[ep];have c1:=hM.tJ.cst;have c2:Sm ((nw.length:Int)+2):=by unfold Sm;lia
  have c3:Sm (xs.length:Int):=by unfold Sm;lia
  have fin:=k H5 p rs xs.length (oP.same oK) (oW.same oK) (oS.same oK) hM oZ;have f1:=FU (c:=cy++"cost ") c1;have f2:=FU (c:=t9 (cy++"cost ") (rs.map xh.cst).sum++" plain ") c2;have f3:=FU (c:=t9 (t9 (cy++"cost ") (rs.map xh.cst).sum++" plain ") ((nw.length:Int)+2)++" turned ") c3;have l1:(cy++("cost ":Str)).length=5:=rfl;have l2:(" plain ":Str).length=7:=rfl;have l3:(" turned ":Str).length=8:=rfl;rw[len_app]at f2 f3;left;show bG (by rw[l1,ak];lia) ?_;show⟨_,Y,vG c1,by rw[ak];lia,by rw[len_app,ak];lia,?_⟩;show⟨_,Y,vG c2,by rw[ak];lia,by rw[len_app,ak];lia,?_⟩;show⟨_,Y,vG c3,by rw[ak];lia,fin⟩
def xdF:T.vJ.O P w mg base 9 (TX K a):=by
 specialize T.vJ.g ["self","fault"]
 ·show oG λ_ U=>?_;obtain⟨D,s,p,o,n,rs,rfl,hD,ep,hp,hF,k⟩:=h;apply U;show⟨_,(xc (xp (i:=1) nd Y (aG Y) (xo (LI T) hr.m T.Kz T.Ei xn<|xa #[11] xb))
  (xc (xC (AX<|cv 1) (xg<|xm xF) xw)
  (xg vp))),?_⟩
  have oK:=hD.dk;rw[ep]at oK;show⟨D.d,_,D.dx,_,.ref p,Y,oK,T.xI,T.zj,Y,?_⟩;show⟨p,o,n,rs,Y,hp,hF,λH1 s1=>?_⟩;walk_at"y";show k H1 s1
def xdG(T:Txt w K mg a):yA P w K mg base (As P w) 9 a.q0j a.q0t ["self"] (xhS K a):=by
 show T.Oo.BB Oi (λvs H Q sQ h=>?_) (λcdv A outer s H vs Q sQ hr h=>?_)
 ·obtain⟨D,s,p,n,rs,rfl,_⟩:=h;rfl
 ·show oG λ_ U=>?_;obtain⟨D,s,p,n,rs,rfl,hD,hT,ep,hp,hF,h2,k⟩:=h;apply U;have nd:=Oi.nd;show⟨_,(xc (xp (i:=1) nd Y (aG Y) (xo (LI T) hr.m T.Kz T.Ei xn<|xa #[11] xb))
  (xc (xC (D9<|cv 1) (xg vp) xw)
  (xc (xC (xA CC (xy xG #[11] xj λ_ _=>Y) (xq xu #[5] T.xW xN<|xa #[11] xb)) (xg vp) xw)
  (xc (xO (ym #[11] T.xX T.Og (Of T) hr.m T.vB.b .nil xn<|xa zT xb))
  (xc (xO<|My ⟨Y,Y,Y⟩ #[11] T.xX T.xhw (xhH T) hr.m T.NR.b .nil)
  (xc (yt (cv 0) yG Y)
  (xg (xm xF)))))))),?_⟩
  have oN:=hD.dk;rw[ep]at oN;show⟨D.d,_,D.dx,_,.ref p,Y,oN,T.xI,T.zj,Y,?_⟩;show⟨p,_,n,rs,Y,hp,hF,λH1 s1=>?_⟩;have oK:=hD.same s1;show oG λ_ U=>?_;obtain⟨tt,ts,oR,_⟩:=hp.same s1;apply U;walk_at"N";show⟨D.d,_,D.dx,_,.ref p,Y,s1.at oN,T.xI,T.zj,Y,?_⟩;show⟨p,_,_,.int s.elder.length,Y,Y,rM.of oR,Y,?_⟩;show⟨D.d,_,D.dx,_,.ref s.el,Y,oK.dk,T.xI,T.uk,Y,?_⟩;show⟨s.el,_,Y,.inl<|kq.of oK.el,?_⟩;rw[aa];show⟨λz=>by simp at z,λ_=>?_⟩;show oG λ_ U=>?_;obtain⟨m,fl,hS⟩:=oK.st;apply U;show⟨D.d,_,D.dx,_,.ref D.S.st,Y,oK.dk,T.xI,T.yJ,Y,?_⟩;show⟨D.S.st,D.S.dx,_,Y,hS.st,Y,?_⟩;show⟨D.S,_,_,m,fl,.rp,Y,hS,λH2 k2 oO=>?_⟩;have oP:=oK.store k2 oO hD.sm;have oS:=(hT.nm<|xf.nm s1).nm<|zP hS.mu k2;show⟨D.d,_,D.dx,_,.ref D.S.st,Y,oP.dk,T.xI,T.yJ,Y,?_⟩;show⟨D.S.st,D.S.dx,_,Y,oO.st,Y,?_⟩;show⟨⟨D.S,.rp,sJ,m,H2⟩,s.c,s.ns,0,Y,oS.bs oP (.inl ⟨Y,Y⟩) m,Y,⟨⟨m,iB _,by change m<=m+0;lia,oO⟩,Kp.of<|xf.refl _,hD.sm⟩,h2,λH3 k3 oV=>?_⟩;show oG λ_ U=>?_;obtain⟨m3,_,_,oU⟩:=oV.st;apply U;have oQ:=oP.store k3 oU hD.sm;show⟨D.d,_,D.dx,_,Y,oQ.dk,T.xI,T.uj,by walk_at"few",?_⟩;left;obtain⟨k4,oW⟩:=oQ.C9 (pv:=s.pv) (bg:=sX) rfl;show k _ ((((Kp.of s1).trans<|k2.trans k3).mono λx hx=>aw _ hx).trans (k4.mono λx hx=>by rw[ai.mp hx];show aJ)) oW
def xbZ:T.uh.O P w mg base 8 (Wh K a):=by
 specialize T.uh.g ["self","numbers","asked","told","writes"]
 ·show oG λ_ U=>?_;obtain⟨D,s,p,l,us,C0,o,n,rs,m,rfl,hD,hT,hl,pL,pK,ep,hp,hF,pQ,hW,k1,k2⟩:=h;apply U;show⟨_,(xc (xp (i:=2) nd Y (aG Y)<|xy xG (xJ #[11] T.xX T.jq (jr T) hr.m T.uP.b .nil xn) xj λ_ _=>Y)
  (xc (xO (ym #[11] T.xX T.Og (Of T) hr.m T.vB.b .nil xn<|xa (xo (xhI T) hr.m T.ZS T.HP xn (xa (cv 2)<|xa (cv 1) xb)) xb))
  (xc (Kj ⟨Y,Y,Y⟩ T.V0 #[5] T.Mh (λ_ _=>(xg (xO<|Me ⟨Y,Y,Y⟩ (T7 T) hr.m #[5] T.TH T.FO.kp T.FO.b .nil (xa (KG (K:=K) Y (cv 0) Y)<|xa (KG (K:=K) Y (cv 0) Y) xb)))) λ_ _ _=>(xg<|xm xF))
  (xc (xp (i:=3) nd Y (aG Y)<|xJ #[11] T.xX T.jq (jr T) hr.m T.uP.b .nil xn)
  (xc (yt (cv 0) (yj yC (xy xG (cv 3) xj λ_ _=>Y) zg (ya<|xy xG #[11] xj λ_ _=>Y)) Y)
  (xc (yt (cv 0) yG Y)
  (xc (xp (i:=4) nd Y (aG Y) (xr jN (xy xG (cv 3) xj λ_ _=>Y)<|cv 2))
  (xg (xm (Td (cv 4))))))))))),?_⟩
  show oG λ_ U=>?_;obtain⟨cn,fl,hS⟩:=hD.st;apply U;have pk:=hF.many;have pR:=hW.le;show⟨D.d,_,D.dx,_,.ref D.S.st,Y,hD.dk,T.xI,T.yJ,Y,?_⟩;show⟨D.S.st,D.S.dx,_,Y,hS.st,Y,?_⟩;show⟨D.S,_,_,_,fl,Y,hS,λt c m1 H1 s1 _ _ _ ht _ _=>?_⟩;show⟨t,_,_,.int cn,Y,Y,rM.of ht,Y,?_⟩;have pX:=hD.same s1;have pB:=hS.same s1;show⟨D.d,_,D.dx,_,.ref D.S.st,Y,pX.dk,T.xI,T.yJ,Y,?_⟩;show⟨D.S.st,D.S.dx,_,Y,pB.st,Y,?_⟩;show⟨cn,l,us,Y,s1.at hl,s1.at hT.f,pL,pK,λf H2 s2 pV=>?_⟩;have o8:=pB.same s2;have oR:=s1.trans s2;show⟨D.S,_,_,_,fl,f,Y,o8,λH3 k3 o7=>?_⟩;have n3:=zP o8.mu k3;have pU:AO H3 f (decide (us≠[])):=by
   rcases pV with h|⟨h,g,t,last,ns,h1,h2,h3,h4⟩
   ·show .inl h
   ·show .inr ⟨h,g,t,last,ns,h1,yx.kp h2 o8.mu k3,n3 _ _ h3 λz=>z,h4⟩
  have oV:=(hD.same oR).store k3 o7 hD.sm;have pT:=(hT.nm<|xf.nm oR).nm n3;have pe:Kp (SS D.S) H H3:=(Kp.of oR).trans k3;have oK:=oV.dk;rw[show({s with c:=s.c,ns:=s.ns}:DS).pv= .ref p from ep]at oK;show oG λ_ U=>?_;obtain⟨tt,pD,pj,pN,pf⟩:=(hp.same oR).nm n3;apply U;show⟨D.d,_,D.dx,_,.ref D.S.st,Y,oK,T.xI,T.yJ,Y,?_⟩;exists⟨D.d,_,D.dx,_,.ref p,Y,oK,T.xI,T.zj,Y,?_⟩;have oZ:o<=C0.length:=by lia
  have oY:(n:Int)<=C0.length:=by lia
  show⟨⟨D.S,f,decide (us≠[]),cn,H3⟩,p,tt,o,n,pD,rs,s.c,C0,s.ns,0,m,Y,pT.bs oV pU cn,⟨⟨cn,iB _,by change cn<=cn+0;lia,o7⟩,Kp.of<|xf.refl _,hD.sm⟩,pj,pN,Gp (λx r hr z=>⟨z,(hF.sr hr).1,(hF.sr hr).2.1⟩) pf,by rw[pf.length];show hF.few,pQ,hF.pieces oZ oY,hW.note,pR,by lia,hW.near,λv H4 oS k4 oQ pO=>?_,λhm x d H4 c4 oS kk k4 oQ pJ p7=>?_⟩
  ·show oG λ_ U=>?_;obtain⟨oN,pA,pz,oP⟩:=oQ.st;apply U;have pC:=oV.store k4 oP oQ.sm;show⟨D.d,_,D.dx,_,.ref D.S.st,Y,pC.dk,T.xI,T.yJ,Y,?_⟩;show⟨D.S.st,D.S.dx,_,Y,oP.st,Y,?_⟩;show⟨D.S,_,_,_,f,Y,oP,λt2 c2 m2 H5 s5 p8 _ _ ph pY _=>?_⟩;have o9:=pC.same s5;have oO:=o9.dk;rw[show({s with c:=sO C0<|yi rs,ns:=oS}:DS).pv= .ref p from ep]at oO;have pH:Nm H3 H5:=λb u e z=>s5 b u<|zP o7.mu k4 b u e z;show⟨t2,_,_,.ref c2,Y,Y,rM.of ph,Y,?_⟩;show⟨D.d,_,D.dx,_,.ref p,Y,oO,T.xI,T.zj,Y,?_⟩;show⟨p,_,_,.int n,Y,Y,rM.of<|pH _ _ pj λz=>z,Y,?_⟩;show⟨_,Y,?_⟩;show⟨c2,_,Y,kq.of pY,?_⟩;exists λce pq=>xK (upd H5 ce _) rfl pq λH6 oX oW=>?_;have oW:H6 ce=E (.lst<|((sO C0<|yi rs).take n).map V.int):=by
    rw[oW];have:=jl ((sO C0<|yi rs).map V.int) 0 n;rw[dQ,<-dy]at this;show congrArg (λz=>E<|HO.lst z) this
   have oU:=o9.same oX;have pE:ce∉SS D.S:=λz=>by
    show oG λ_ U=>?_;obtain⟨u,q,_⟩:=o9.mu ce<|aw _ z;apply U;rw[pq]at q;cases q
   show⟨D.d,_,D.dx,_,Y,oU.dk,T.xI,T.uk,by walk_at"few",?_⟩;show⟨D.d,_,D.dx,_,Y,xk,T.xI,T.uj,by walk_at"few",?_⟩;rw[yO];show se (upd H6 D.d _) λH7 hU=>?_;have kk:Kp [D.d] H6 H7:=by rw[<-hU];show(Kp.of<|xf.refl _).wr #[8]
   have e7:H7 D.d=E (.ins a.q0c D.dx<|dF (.ref D.S.st) ce s.pv sJ):=by rw[<-hU,xk];rfl
   clear hU;have pG:Nm H6 H7:=zP (λx hx=>by rw[ai.mp hx];show⟨_,oU.dk,trivial⟩) kk;have pF:ce≠D.d:=zt oW oU.dk (by intro z;cases z);have pW:=oU.own kk e7 (kk _ _ oW (by simpa using pF)) pE;exists⟨t2,_,_,.int oN,Y,Y,rM.of<|pG _ _ (oX.at ph) λz=>z,Y,?_⟩;show bG #[6] ?_;left;have pd:Sm (oN - cn):=by
    have pA:cn<=oN:=pA;have pz:oN<=cn+((0+301*(yi rs).length:Nat):Int):=pz;unfold Sm;lia
   show⟨_,Y,vG pd,?_,?_⟩
   ·have:=yI pd;change(Am<|oN - cn).length<=_;unfold Am;rw[len_app,ak,show(cy++("done ":Str)).length=5 from rfl];lia
   show k1 H7 ce oS (oN - cn) ((((pe.trans k4).same s5).same oX).mono (λx hx=>aw _ hx) |>.trans (kk.mono λx hx=>by rw[ai.mp hx];show aJ)) pW pO.1
  ·show oG λ_ U=>?_;obtain⟨m',pP,pS,pI⟩:=pJ;obtain⟨oN,_,_,oP⟩:=oQ.st;apply U;exists⟨a.q0d,Y,T.xfC,λea pZ=>?_⟩;show k2 (of_decide_eq_true hm) H4 c4 oS m' ((pe.trans k4).mono λx hx=>aw _ hx) (oV.store k4 oP oQ.sm) ⟨pP,pS,pI⟩
end
noncomputable def Be(w:Str)(ns:List Int):Str:=b7 ⟨#[32]⟩ (w::ns.map xB)
def A0(s:xf H H1)(k:Kp L H1 H'):Kp L H H':=λb u e n=>k b u (s b u e) n
inductive wQ(K:ax)(a:rP)(H:Hp)(d:sK)(Q:VK):Str->List Int->Prop
 |room (dx e:sK) (size:Nat) (text:List Int) (hd:H d=E (.ins a.q0c dx<|dF .rp e .rp sJ)) (h1:text.length<=size) (h2:size<=300) (h3:tL text)
   (k:∀(S:SA) (l:sK) (H':Hp),Kp [d] H H'->(∀x∈SS S,H x=y)->H l=y->yg a H' ⟨d,dx,S⟩ ⟨text++a7 (size - text.length) 0,[E 0,E 0],l,text,.rp,sJ⟩->Q (.str "ok") H'):wQ K a H d Q "room" ((size:Int)::text)
 |make (D:DK) (s:DS) (least:Int) (nw:List Int) (ed:D.d=d) (hD:yg a H D s) (he:s.elder.length<=300) (h0:nw≠[]) (hn:nw.length<=150) (hb:tL nw) (hl:1<=least) (hl2:least<=100)
   (k:∀(H':Hp) (p:sK) (rs:List xh) (m:Nat),Kp [D.d] H H'->yg a H' D {s with pv:=.ref p,bg:=sJ}->zB K H' p s.elder.length nw.length rs->Made s.elder nw least rs->m<=300->Q (.str<|Fe (rs.map xh.cst).sum (nw.length+2) m) H'):wQ K a H d Q "make" (least::nw)
 |judge (D:DK) (s:DS) (p:sK) (o n:Int) (rs:List xh) (ed:D.d=d) (hD:yg a H D s) (ep:s.pv= .ref p) (hp:zB K H p o n rs) (hF:ui o n rs) (k:∀H',xf H H'->Q (.str "none") H'):wQ K a H d Q "judge" []
 |begin (D:DK) (s:DS) (p:sK) (n:Int) (rs:List xh) (ed:D.d=d) (hD:yg a H D s) (ep:s.pv= .ref p) (hp:zB K H p s.elder.length n rs) (hF:ui s.elder.length n rs) (h2:s.ns.length=2)
   (k:∀H',Kp (LD D) H H'->yg a H' D {s with ns:=[E 0,E 0],bg:=sX}->Q (.str "ok") H'):wQ K a H d Q "begin" []
 |go (D:DK) (s:DS) (p:sK) (us C0:List Int) (o:Int) (n:Nat) (rs:List xh) (m:Nat) (ed:D.d=d) (hD:yg a H D s) (eb:s.bg=sX) (hu:us.length<=2) (hb:tL us) (h0:∀x∈us.take 1,0<=x) (ep:s.pv= .ref p) (hp:zB K H p o n rs) (hF:ui o n rs) (hm:max o n<=C0.length) (hW:Way rs C0 s m)
   (k1:∀(H':Hp) (e:sK) (ns:List (Option Int)) (x:Int),Kp (LD D) H H'->yg a H' D ⟨sO C0<|yi rs,ns,e,(sO C0<|yi rs).take n,s.pv,sJ⟩->ns.length=2->Q (.str<|Am x) H')
   (k2:us≠[]->∀(H':Hp) (c:List Int) (ns:List (Option Int)) (m:Nat),Kp (LD D) H H'->yg a H' D {s with c:=c,ns:=ns}->Way rs C0 {s with c:=c,ns:=ns} m->Q (.str "fallen") H'):wQ K a H d Q "go" us
 |cells (D:DK) (s:DS) (ed:D.d=d) (hD:yg a H D s) (h:s.c.length<=300) (k:∀H',xf H H'->Q (.str<|vO s.c) H'):wQ K a H d Q "cells" []
theorem wQ.same{d:sK}{w:Str}(h:wQ K a H d Q w ns)(e:xf H H1):wQ K a H1 d Q w ns:=by
 cases h with
 |room dx el size text hd h1 h2 h3 k=>show .room dx el size text (e.at hd) h1 h2 h3 λS l H' z1 z2 z3=>k S l H' (A0 e z1) (λx hx=>e.back<|z2 x hx) (e.back z3)
 |make D s least nw ed hD he h0 hn hb hl oK k=>show .make D s least nw ed (hD.same e) he h0 hn hb hl oK λH' p rs m z=>k H' p rs m (A0 e z)
 |judge D s p o n rs ed hD ep hp hF k=>show .judge D s p o n rs ed (hD.same e) ep (hp.same e) hF λH' z=>k H' (e.trans z)
 |begin D s p n rs ed hD ep hp hF h2 k=>show .begin D s p n rs ed (hD.same e) ep (hp.same e) hF h2 λH' z=>k H' (A0 e z)
 |go D s p us C0 o n rs m ed hD eb hu hb h0 ep hp hF hm hW k1 k2=>show .go D s p ns C0 o n rs m ed (hD.same e) eb hu hb h0 ep (hp.same e) hF hm hW (λH' el ns x z=>k1 H' el ns x<|A0 e z) λhn H' c ns m z=>k2 hn H' c ns m (A0 e z)
 |cells D s ed hD h k=>show .cells D s ed (hD.same e) h λH' z=>k H' (e.trans z)
structure EZ(K:ax)(a:rP)(H:Hp)(d:sK)(w:Str)(ns:List Int)(b:Bool):Prop where
 bnd:tL ns
 wd:32∉w.cps.toList/\w.length<=5
 frm:∃(lo:Int) (hi:Option Int) (k:Nat) (r:sK),(w,r)∈JS a/\(∀H,rM K H r [.int lo,nV hi,.int k])/\OR w ns lo hi k
 obj:∃dx e sv pv bg,H d=E (.ins a.q0c dx<|dF sv e pv bg)/\(wV (.str w) [.str "make",.str "begin",.str "cells"]&&wy sv)=sJ/\(wV (.str w) [.str "take",.str "put",.str "judge",.str "begin",.str "paper"]&&wy pv)=sJ/\(!decide (w="go")||bg)=b
def YW(K:ax)(a:rP):Sp:=λvs H Q _=>tS λ(d:sK) (w:Str) (l:sK) (ns:List Int)=>tF (vs=[.ref d,.str w,.ref l]) (wk H) (H l=E (.lst<|ns.map V.int)) ((∀u,H d≠E (.lst u))) (wQ K a H d Q w ns)
def P6(K:ax)(a:rP):Sp:=λvs H Q sQ=>tK λ(d:sK) (w:Str) (ns:List Int)=>tG (vs=[.ref d,.str<|Be w ns]) (wk H) ((wQ K a H d Q w ns\/(w="go"/\ns=[]/\(∃D s,D.d=d/\yg a H D s/\s.bg=sJ)/\∀H',xf H H'->sQ (.ref a.q0k) y H')))
section
variable {base:Heap} (T:Txt w K mg a)
def Au{x:Bool}(h:x=sJ):(x&&sZ)=sJ:=by rw[h];rfl
def Cm{x:Bool}(h:sZ=sJ):(x&&sZ)=sJ:=by rw[h,Bool.and_false]
def Dc{x:Bool}(h:x=sX):(x||sZ)=sX:=by rw[h];rfl
theorem wQ.Ip(T:Txt w K mg a){d:sK}{w':Str}(h:wQ K a H d Q w' ns):EZ K a H d w' ns sX:=by
 have obj:∀{D:DK} {s:DS},D.d=d->yg a H D s->H d=E (.ins a.q0c D.dx<|dF (.ref D.S.st) s.el s.pv s.bg):=λe h=>e▸h.dk;have no:∀{x sZ:Str} {p:Prop},x=sZ->(x==sZ)=sJ->p:=λe h=>by rw[e]at h;simp at h
 cases h with
 |room dx e size text hd h1 h2 h3 k=>
  show⟨λx hx=>?_,by decide+kernel,⟨1,y,1,_,.head _,T.VY,by rw[aT];lia,by rw[aT];lia,(λh z=>by cases z),λx hx=>?_,λ_=>⟨_,_,Y,by lia,by lia⟩,λz=>no z #[18]⟩,⟨_,_,_,_,_,hd,Au #[18],Au #[18],Dc #[18]⟩⟩
  ·rcases aB.mp hx with rfl|hx
   ·unfold Sm;lia
   ·show h3 x hx
  ·have:x=size:=by simpa using hx
   lia
 |make D s least nw ed hD he h0 hn hb hl oK k=>
  show⟨λx hx=>?_,by decide+kernel,⟨1,y,1,_,aj (i:=4) Y,T.VX,by rw[aT];lia,by rw[aT];lia,(λh z=>by cases z),λx hx=>?_,λz=>no z #[18],λ_=>⟨_,_,Y,hl⟩⟩,⟨_,_,_,_,_,obj ed hD,Cm Y,Au #[18],Dc #[18]⟩⟩
  ·rcases aB.mp hx with rfl|hx
   ·unfold Sm;lia
   ·show hb x hx
  ·have:x=least:=by simpa using hx
   lia
 |judge D s p o n rs ed hD ep hp hF k=>
  show⟨λx hx=>(by cases hx),by decide+kernel,⟨0,E 0,0,_,aj (i:=5) Y,T.VW,by decide,by decide,(λh z=>by cases z;decide),λx hx=>(by cases hx),λz=>no z #[18],λz=>no z #[18]⟩,⟨_,_,_,_,_,obj ed hD,Au #[18],Cm (by rw[ep];rfl),Dc #[18]⟩⟩
 |begin D s p n rs ed hD ep hp hF h2 k=>
  show⟨λx hx=>(by cases hx),by decide+kernel,⟨0,E 0,0,_,aj (i:=6) Y,T.VV,by decide,by decide,(λh z=>by cases z;decide),λx hx=>(by cases hx),λz=>no z #[18],λz=>no z #[18]⟩,⟨_,_,_,_,_,obj ed hD,Cm Y,Cm (by rw[ep];rfl),Dc #[18]⟩⟩
 |go D s p us C0 o n rs m ed hD eb hu hb h0 ep hp hF hm hW k1 k2=>
  show⟨hb,by decide+kernel,⟨0,E 2,1,_,aj (i:=7) Y,T.Mq,by lia,by lia,(λh z=>by cases z;lia),h0,λz=>no z #[18],λz=>no z #[18]⟩,⟨_,_,_,_,_,obj ed hD,Au #[18],Au #[18],by rw[eb,Bool.or_true]⟩⟩
 |cells D s ed hD h k=>
  show⟨λx hx=>(by cases hx),by decide+kernel,⟨0,E 0,0,_,aj (i:=8) Y,T.VU,by decide,by decide,(λh z=>by cases z;decide),λx hx=>(by cases hx),λz=>no z #[18],λz=>no z #[18]⟩,⟨_,_,_,_,_,obj ed hD,Cm Y,Au #[18],Dc #[18]⟩⟩
def Sl(T:Txt w K mg a){D:DK}(hD:yg a H D s)(eb:s.bg=sJ):EZ K a H D.d "go" [] sJ:=
 ⟨λx hx=>(by cases hx),by decide+kernel,⟨0,E 2,1,_,aj (i:=7) Y,T.Mq,by decide,by decide,(λh z=>by cases z;decide),λx hx=>(by cases hx),λz=>absurd z #[18],λz=>absurd z #[18]⟩,⟨_,_,_,_,_,hD.dk,Au #[18],Au #[18],by rw[eb];decide+kernel⟩⟩
theorem xeX(T:Txt w K mg a):yA P w K mg base (As P w) 10 a.q0q a.q0F ["self","word","numbers"] (YW K a):=by
 show T.Oh.BB Ou (λvs H Q sQ h=>?_) (λcdv A outer s H vs Q sQ hr h=>?_)
 ·obtain⟨d,w',l,ns,rfl,_⟩:=h;rfl
 ·show oG λ_ U=>?_;obtain⟨d,w',l,ns,rfl,hT,hl,oQ,h⟩:=h;apply U;have nd:=Ou.nd;show⟨_,(xc (xC (xA jn (cv 1) xF) (xg (xm<|ym (cv 0) T.xI T.xfE (xfP T) hr.m T.jX.b .nil xn (xa (xy xU (cv 2) xj λ_ _=>Y)<|xa (yj yC (cv 2) (ya xj) zg) xb))) xw)
  (xc (xC (xA jn (cv 1) xF) vc xw)
  (xc (xC (xA jn (cv 1) xF) vc xw)
  (xc (xC (xA jn (cv 1) xF) vc xw)
  (xc (xC (xA jn (cv 1) xF) (xg (xm<|ym (cv 0) T.xI T.xef (xes T) hr.m T.je.b .nil xn (xa (xy xU (cv 2) xj λ_ _=>Y)<|xa (yj yC (cv 2) (ya xj) zg) xb))) xw)
  (xc (xC (xA jn (cv 1) xF) (xg (xm<|xJ (cv 0) T.xI T.xdD (xdF T) hr.m T.vJ.b .nil xn)) xw)
  (xc (xC (xA jn (cv 1) xF) (xg (xm<|My ⟨Y,Y,Y⟩ (cv 0) T.xI T.xdC (xdG T) hr.m T.Oo.b .nil)) xw)
  (xc (xC (xA jn (cv 1) xF) (xg<|xm (ym (cv 0) T.xI T.xbL (xbZ T) hr.m T.uh.b .nil xn<|xa (cv 2) xb)) xw)
  (xc (xC (xA jn (cv 1) xF) (xg<|xm (xo (Wi T) hr.m T.Vn T.Gm xn<|xa (xy xG (xJ #[11] T.xX T.jq (jr T) hr.m T.uP.b .nil xn) xj λ_ _=>Y) xb)) xw)
  (xg vp)))))))))),?_⟩
  cases h with
  |room dx e size text hd h1 h2 h3 k=>
   walk_at"Y";show⟨d,dx,_,Y,hd,Y,?_⟩;show⟨l,_,_,.int size,Y,Y,kq.of hl,yn (j:=0) Y,?_⟩;show⟨_,Y,?_⟩;show⟨l,_,Y,kq.of hl,?_⟩;exists λtl oO=>xK (upd H tl _) rfl oO λH1 oK oN=>?_;rw[ba,Ek]at oN;show⟨d,dx,e,size,tl,text,Y,oK.at hd,oN,h1,h2,h3,λS H' z1 z2=>k S tl H' (A0 oK z1) (λx hx=>oK.back<|z2 x hx) oO⟩
  |make D s least nw ed hD he h0 hn hb oS oR k=>
   subst ed;left
   iterate 4 (walk_at"n")
   walk_at"Y";show⟨D.d,D.dx,_,Y,hD.dk,Y,?_⟩;show⟨l,_,_,.int least,Y,Y,kq.of hl,yn (j:=0) Y,?_⟩;show⟨_,Y,?_⟩;show⟨l,_,Y,kq.of hl,?_⟩;exists λtl oO=>xK (upd H tl _) rfl oO λH1 oK oN=>?_;rw[ba,Ek]at oN;have oP:=hD.same oK;show⟨D,s,tl,least,nw,Y,oP,hT.nm<|xf.nm oK,oN,zt oN oP.dk (by intro z;cases z),he,h0,hn,hb,λH' p rs m z=>k H' p rs m<|A0 oK z⟩
  |judge D s p o n rs ed hD ep hp hF k=>
   subst ed;left
   iterate 5 (walk_at"n")
   walk_at"Y";show⟨D.d,D.dx,_,Y,hD.dk,Y,?_⟩;show⟨D,s,p,o,n,rs,Y,hD,ep,hp,hF,k⟩
  |begin D s p n rs ed hD ep hp hF h2 k=>
   subst ed;left
   iterate 6 (walk_at"n")
   walk_at"Y";show⟨D.d,D.dx,_,Y,hD.dk,Y,?_⟩;show⟨D,s,p,n,rs,Y,hD,hT,ep,hp,hF,h2,k⟩
  |go D s p us C0 o n rs m ed hD eb hu hb h0 ep hp hF hm hW k1 k2=>
   subst ed;left
   iterate 7 (walk_at"n")
   walk_at"Y";show⟨D.d,D.dx,_,Y,hD.dk,Y,?_⟩;show⟨D,s,p,l,ns,C0,o,n,rs,m,Y,hD,hT,hl,hu,hb,ep,hp,hF,hm,hW,k1,k2⟩
  |cells D s ed hD h k=>
   subst ed;show oG λ_ U=>?_;obtain⟨n,fl,hS⟩:=hD.st;exists U ?_
   iterate 8 (walk_at"n")
   walk_at"Y";show⟨D.d,_,D.dx,_,.ref D.S.st,Y,hD.dk,T.xI,T.yJ,Y,?_⟩;show⟨D.S.st,D.S.dx,_,Y,hS.st,Y,?_⟩;show⟨D.S,_,_,_,fl,Y,hS,λt c m H1 s1 _ _ _ ht ec _=>?_⟩;show⟨t,_,_,.ref c,Y,Y,rM.of ht,Y,?_⟩;show⟨c,s.c,Y,kq.of ec,h,hD.sm,λH' z=>k H'<|s1.trans z⟩
def zb(T:Txt w K mg a):yA P w K mg base (As P w) 11 a.q1G a.q2m ["self","row"] (P6 K a):=by
 show T.ze.BB NG (λvs H Q sQ h=>?_) (λcdv A outer s H vs Q sQ hr h=>?_)
 ·obtain⟨d,w',ns,rfl,_⟩:=h;rfl
 ·show oG λ_ U=>?_;obtain⟨d,w',ns,rfl,hT,h⟩:=h;apply U;have nd:=NG.nd;show⟨_,(xc (xp (i:=2) nd Y (aG Y) (xo (Ym T) hr.m T.Xg T.Gw xn<|xa (cv 1) xb))
  (xc (xp (i:=3) nd Y (aG Y)<|xy xU (cv 2) xj λ_ _=>Y)
  (xc (EI (i:=4) #[4] Y nd Y Y (xS<|yj yC (cv 2) (ya xj) zg) (λ_ _ _ _=>(xo (xhR T) hr.m T.ZU T.HR xn<|xa (cv 0) xb)) λ_ _ _ _=>yo)
  (xc (xC (zK (yb<|xo (Y0 T) hr.m T.XT T.GY xn (xa (cv 3)<|xa (cv 4) xb))) (xg vp) xw)
  (xc (xC (zK<|yb (ym (cv 0) T.xI T.xa0 (xa1 T) hr.m T.zN.b .nil xn<|xa (cv 3) xb)) (xg (U7 ⟨Y,Y,Y⟩ Y T.Ve #[5] T.Lw<|xa xF xb)) xw)
  (xg (xm (vd ⟨Y,Y,Y⟩ (cv 0) T.xI T.xeQ (xeX T) hr.m T.Oh.b .nil (xa (cv 3) (xa (cv 4) xb)))))))))),?_⟩
  obtain⟨b,hK,hA⟩:∃b,EZ K a H d w' ns b/\((b=sX/\wQ K a H d Q w' ns)\/(b=sJ/\∀H',xf H H'->sQ (.ref a.q0k) y H')):=by
   rcases h with h|⟨rfl,rfl,⟨D,s,rfl,hD,eb⟩,k⟩
   ·show⟨sX,h.Ip T,.inl ⟨Y,h⟩⟩
   ·show⟨sJ,Sl T hD eb,.inr ⟨Y,k⟩⟩
  clear h;show oG λ_ U=>?_;obtain⟨hb,⟨oY,pd⟩,⟨lo,hi,k,r,o8,o7,oQ⟩,⟨dx,e,sv,pv,bg,ho,oX,oW,oV⟩⟩:=hK;apply U;have o9:=oQ.few;have hlen:(Be w' ns).length<=100000:=by
   have:=Ca (d:=32) (B:=61) (w'::ns.map xB) λp hp=>by
    rcases aB.mp hp with rfl|hp
    ·lia
    ·show CU hb p hp
   rw[aT,aa]at this;unfold Be;lia
  show⟨_,Y,hlen,λl H1 s1 hl=>?_⟩;rw[show PySem.Txt.split (Be w' ns) " "=w'::ns.map xB from Ex (c:=32) #[8] λp hp=>by
   rcases aB.mp hp with rfl|hp
   ·show oY
   ·show oG λ_ U=>?_;obtain⟨n,_,rfl⟩:=aY.mp hp;apply U;show CZ n #[6] #[6]]at hl
  show⟨l,_,_,.str w',Y,Y,kq.of hl,yn (j:=0) Y,?_⟩;show⟨_,Y,?_⟩;show⟨l,_,Y,kq.of hl,?_⟩;exists λtl oZ=>xK (upd H1 tl _) rfl oZ λH2 oS oO=>?_;rw[ba,Ek,c7]at oO;have oU:=s1.trans oS;show⟨tl,Y,⟨_,kq.of oO⟩,?_⟩;show yV (λi acc _=>acc=(ns.take i).map V.int) (kq.of oO) (by rw[aa,ak];lia) rfl (λj sZ acc G3 u6 hy t3 oP hP R hR=>?_) (λL acc G3 u6 hL pe t3 oP hP hle he=>?_)
  ·rw[av]at hy;show oG λ_ U=>?_;obtain⟨m,oR,rfl⟩:=aI.mp hy;apply U;show⟨m,Y,hb m<|aj oR,λH' e'=>?_⟩;show hR _ _ e' λH7 _ _=>?_;rw[hP,bh,oR,aO];rfl
  rw[aa,bo]at hP;rw[hP]at he;have sA:xf H u6:=oU.trans<|t3.trans oP;show⟨w',L,r,ns,lo,hi,k,Y,he,o8,o7,oQ,λH4 s4=>?_⟩;have oK:=sA.trans s4;have oN:=oK.at ho;walk_at"N";show⟨d,dx,_,Y,oN,Y,?_⟩;show⟨d,dx,e,sv,pv,bg,w',Y,oN,oX,oW,?_⟩;rw[oV];left;rcases hA with⟨rfl,hA⟩|⟨rfl,k⟩
  ·walk_at"N";show⟨d,dx,_,Y,oN,Y,?_⟩;show⟨d,w',L,ns,Y,hT.nm<|xf.nm oK,s4.at he,(λu z=>by rw[oN]at z;cases z),hA.same oK⟩
  ·walk_at"Y";show⟨by walk_at"side",k H4 oK⟩
end
section
variable {base:Heap} (T:Txt w K mg a)
def Wg(K:ax):Sp:=λvs H Q _=>tK λ(l:sK) (ns:List Int) (k:Int)=>sU (vs=[.ref l,.int k]) (kq K H l<|ns.map V.int) (0<=k) (∀x:Int,Q (.int x) H)
def TV:Sp:=λvs H Q _=>sE λ(c k:Int)=>vs=[.int c,.int k]/\∀x:Int,0<=x->x<2147483647->Q (.int x) H
def TU:Sp:=λvs H Q _=>tK λ(c n b:Int)=>tF (vs=[.int c,.int n,.int b]) (0<=n) (n<=1000) (Fu 0 b) (∀ds:List Int,(ds.length:Int)=n->Ae H Q ds)
def TR:Sp:=λvs H Q _=>tS λ(l:sK) (text:List Int) (size c:Int)=>tY (vs=[.ref l,.int size,.int c]) (H l=E (.lst<|text.map V.int)) (1<=size) (text.length<=300) (tL text) (∀nw:List Int,nw≠[]->nw.length<=150->(nw.length:Int)<=size->tL nw->Ae H Q nw)
def JB(v:V)(z:Str):Prop:=v= .str z\/∃n,v= .int n/\z=xB n/\Sm n
def Uq(K:ax):Sp:=λvs H Q _=>tK λ(l:sK) (xs:List V) (ws:List Str)=>tY (vs=[.ref l]) (H l=E (.lst xs)) (Paired JB xs ws) (ws.length<=400) (∀p∈ws,p.length<=61) (∀H',xf H H'->Q (.str<|b7 ⟨#[32]⟩ ws) H')
def ux:T.zQ.O P w mg base 1 (Wg K):=by
 specialize T.zQ.g ["_law_script","_law_k"]
 ·show oG λ_ U=>?_;obtain⟨l,ns,k,rfl,hl,hk,q⟩:=h;apply U;show⟨_,(xc (xC (xA wZ (cv 1) (xq xu #[5] T.xW xN<|xa (cv 0) xb)) (xg (xm<|xy xU (cv 0) (cv 1) λ_ _=>Y)) xw)
  (xg (xm xj))),?_⟩
  show⟨l,_,Y,.inl hl,?_⟩;show⟨λe=>?_,λe=>q _⟩;have e':=of_decide_eq_true e;rw[aa]at e';obtain⟨x,hx⟩:∃x,ns[k.toNat]? =E x:=⟨_,au #[2]⟩;show⟨l,_,k,.int x,Y,Y,hl,D4 hk hx,q x⟩
def Uo:T.FL.O P w mg base 1 TV:=by
 specialize T.FL.g ["_law_cell","_law_k","_law_number"]
 ·show oG λ_ U=>?_;obtain⟨c,k,rfl,q⟩:=h;apply U;show⟨_,(xc (xp (i:=2) nd Y (aG Y)<|xr zm (xr BU (xr yp (xr yp (xr zm (cv 0) xj) (xr BU xj<|cv 1)) xj) xj) xj)
  (xg (xm (xr zm (xr BU (cv 2) (xr yp (xr zW (cv 2) xj) xj)) xj)))),?_⟩
  right;show q _ (gb _ #[6]) (eU _ #[6])
def Lz:T.Eh.O P w mg base 2 TU:=by
 specialize T.Eh.g ["_law_cell","_law_amount","_law_base","_law_drawn","_law_rest","_law_k","_law_number"]
 ·show oG λ_ U=>?_;obtain⟨c,n,b,rfl,n0,n1,b0,q⟩:=h;apply U;show⟨_,(xc (xp (i:=3) nd Y (aG Y)<|yf xb)
  (xc (xp (i:=4) nd Y (aG Y)<|xr zW (cv 0) xj)
  (xc (zc PassesOwn.never Y (EC #[5] T.uR<|xa (cv 1) xb) (yc (i:=5) nd Y<|aG Y) (xg (xC (xA vS (xr zm (cv 0) xj) xj) (xc (xO (yN PySem.F.plainAttrs_list PySem.F.slot_list_append PySem.F.type_list_append yX (cv 3)<|xa (xr zm (cv 4)<|cv 2) xb))
  (xg (xp (i:=4) nd Y (aG Y) (xr zW (cv 4) (cv 2))))) (xc (xp (i:=6) nd Y (aG Y) (xo (Uo T) hr.m T.TC T.FL xn (xa (cv 4) (xa (cv 5) xb))))
  (xg (xO (yN PySem.F.plainAttrs_list PySem.F.slot_list_append PySem.F.type_list_append yX (cv 3) (xa (xr zm (xr BU (cv 6) (xr yp (xr zW (cv 6) xj) xj)) xj) xb))))))))
  (xg (xm (cv 3)))))),?_⟩
  right;exists λdl oK=>xK (upd H dl _) rfl oK λH1 oO oP=>?_;walk_at"ss";left;show MQ (λi σ G=>xf H G/\∃(ds:List Int) (r:Int) (x5 x6:Option V),σ=[E<|.int c,E<|.int n,E<|.int b,E<|.ref dl,E<|.int r,x5,x6]/\G dl=E (.lst<|ds.map V.int)/\ds.length=i) ⟨oO,[],_,_,_,Y,oP,Y⟩ (λi σ G hi hP=>?_) (λσ G hP=>?_)
  ·rw[uZ]at hi;show oG λ_ U=>?_;obtain⟨sG,ds,r,x5,x6,rfl,eG,hl⟩:=hP;apply U;have put:∀(x r':Int) (x5 x6:Option V),xf H (upd G dl (.lst<|ds.map V.int++[.int x]))/\∃(oN:List Int) (r:Int) (y5 y6:Option V),[E<|V.int c,E<|.int n,E<|.int b,E<|.ref dl,E<|.int r',x5,x6]=[E<|.int c,E<|.int n,E<|.int b,E<|.ref dl,E<|.int r,y5,y6]/\upd G dl (.lst<|ds.map V.int++[.int x]) dl=E (.lst<|oN.map V.int)/\oN.length=i+1:=λx r' x5 x6=>
    ⟨sG.put oK,ds++[x],r',_,_,Y,by rw[xk,aO];rfl,by rw[ao,hl];rfl⟩
   right;show⟨λ_=>?_,λ_=>?_⟩
   ·exists⟨.inl ⟨Y,_,kq.of eG⟩,?_⟩;show bG b0.1 ?_;show⟨dl,_,_,Y,Y,eG,by rw[aa,ak];lia,?_⟩;left;show bG b0 ?_;show put _ _ _ _
   ·show⟨_,_,Y,λsZ y0 y1=>?_⟩;exists⟨.inl ⟨Y,_,kq.of eG⟩,?_⟩;walk_at"ss";show⟨dl,_,_,Y,Y,eG,by rw[aa,ak];lia,?_⟩;show put _ _ _ _
  ·show oG λ_ U=>?_;obtain⟨sG,ds,r,x5,x6,rfl,eG,hl⟩:=hP;apply U;rw[uZ]at hl;left;show q ds #[2] dl G sG oK eG
def Ly:T.Eg.O P w mg base 3 TR:=by
 specialize T.Eg.g ["_law_text","_law_size","_law_cell","_law_newer_here","_law_draw","_law_start"]
 ·show oG λ_ U=>?_;obtain⟨l,text,size,c,rfl,hl,hs,ht,hb,q⟩:=h;apply U;show⟨_,(xc (xp (i:=3) nd Y (aG Y)<|yf xb)
  (xc (zc PassesOwn.never Y (xS (xo (Lz T) hr.m T.Ky T.Eh xn<|xa (xr zW (cv 2) xj) (xa (xr yp xj<|xr zm (cv 2) xj)<|xa (xr CD xj xj) xb))) (yc (i:=4) nd Y<|aG Y) (xg (xC (PW.pt (vy (xA vS (xr zm (cv 4) xj) xj)<|jf (xA (Fs hr.units) (cv 0)<|yf xb))) (xg (xp (i:=3) nd Y (aG Y)<|xr AY (cv 3) (yf<|xa (xr jN (xr zm (xr zW (cv 4) xj) xj) xj) xb))) (xc (xp (i:=5) nd Y (aG Y)<|xr zm (xr zW (cv 4) xj) (xq xu #[5] T.xW xN<|xa (cv 0) xb))
  (xg (xp (i:=3) nd Y (aG Y) (xr AY (cv 3) (yj yC (cv 0) (ya (cv 5)) (ya (xr yp (xr yp (cv 5) xj) (xr zm (xr zW (cv 4) xj) xj)))))))))))
  (xg (xm (yj yC (cv 3) zg (ya (cv 1))))))),?_⟩
  right;exists λn0 pe=>xK (upd H n0 _) rfl pe λH1 o7 pj=>?_;walk_at"ss";have c6:0<=c%6/\c%6<6:=by lia
  show⟨_,_,_,Y,by lia,by lia,⟨by decide,by decide+kernel⟩,λds pk dl H2 s2 pq oZ=>?_⟩;show⟨dl,Y,⟨_,kq.of oZ⟩,?_⟩;show yU (xs:=ds.map V.int) (λi σ G=>xf H G/\G dl=E (.lst<|ds.map V.int)/\∃(nl:sK) (nw:List Int) (x4 x5:Option V),σ=[E<|.ref l,E<|.int size,E<|.int c,E<|.ref nl,x4,x5]/\G nl=E (.lst<|nw.map V.int)/\nw.length<=25*i/\(0<i->nw≠[])/\tL nw) ⟨o7.trans s2,oZ,n0,[],_,_,Y,s2.at pj,ah _,λz=>absurd z<|bN _,λx hx=>by cases hx⟩ (λi σ G hi hP=>kq.of hP.2.1) (λi x σ G hx hP=>?_) (λσ G hP=>?_)
  ·show oG λ_ U=>?_;obtain⟨sG,eG,nl,nw,x4,x5,rfl,oS,oY,_,oW⟩:=hP;apply U;rw[av]at hx;show oG λ_ U=>?_;obtain⟨dr,pf,rfl⟩:=aI.mp hx;apply U;have hi:i<ds.length:=(aE.mp pf).1;have oX:=sG.at hl;have more:∀(G':Hp) (l':sK) (ys:List Int) (x5:Option V),xf G G'->G' l'=y->ys≠[]->ys.length<=25->tL ys->xf H (upd G' l' (.lst<|nw.map V.int++ys.map V.int))/\upd G' l' (.lst<|nw.map V.int++ys.map V.int) dl=E (.lst<|ds.map V.int)/\∃(nl:sK) (oU:List Int) (x4 y5:Option V),[E<|V.ref l,E<|.int size,E<|.int c,E<|.ref l',E<|.int dr,x5]=[E<|.ref l,E<|.int size,E<|.int c,E<|.ref nl,x4,y5]/\upd G' l' (.lst<|nw.map V.int++ys.map V.int) nl=E (.lst<|oU.map V.int)/\oU.length<=25*(i+1)/\(0<i+1->oU≠[])/\tL oU:=λG' l' ys x5 g oN h0 pz o8=>
    ⟨(sG.trans g).trans<|xf.new oN,(xf.new oN).at (g.at eG),l',nw++ys,_,_,Y,by rw[xk,aO],by rw[ao];lia,λ_=>by simp[h0],λx hx=>(aZ.mp hx).elim (oW x)<|o8 x⟩
   right;show⟨λe1=>⟨λ_=>?_,by walk_at"no"⟩,λe1=>?_⟩
   ·right;show λo1 oR=>xK (upd G o1 _) rfl oR λG1 oK oO=>?_;show⟨nl,o1,_,_,Y,Y,oK.at oS,oO,by rw[aa,ak];simp;lia,λl' oN=>?_⟩;show more G1 l' [dr / 3%5 - 2] x5 oK oN #[8] #[8] λsZ hy=>by rw[ai.mp hy];unfold Sm;lia
   ·right;exists λo0 pd=>xK (upd G o0 _) rfl pd λG1 oK ph=>?_;show Le (f:=λb=>b) ⟨l,o0,text,[],Y,Y,kq.of<|oK.at oX,kq.of ph,?_⟩;show⟨λe2=>?_,λe2=>?_⟩
    ·right;show λo1 oR=>xK (upd G1 o1 _) rfl oR λG2 oQ oO=>?_;show⟨nl,o1,_,_,Y,Y,(oK.trans oQ).at oS,oO,by rw[aa,ak];simp;lia,λl' oN=>?_⟩;show more G2 l' [dr / 3%5 - 2] x5 (oK.trans oQ) oN #[8] #[8] λsZ hy=>by rw[ai.mp hy];unfold Sm;lia
    ·have oP:text≠[]:=of_decide_eq_false e2;have oV:0<text.length:=cb.mpr oP;right;show⟨l,_,Y,.inl (kq.of<|oK.at oX),?_⟩;rw[aa];left;show bG (by change(0:Int)<text.length;lia) ?_;have b0:=gb (dr / 3) (show(text.length:Int)≠0 by lia);have b1:=eU (dr / 3) (show(0:Int)<text.length by lia);obtain⟨st,o9⟩:∃st:Nat,(dr / 3%(text.length:Int))=st:=⟨(dr / 3%(text.length:Int)).toNat,by lia⟩;obtain⟨k,hk⟩:∃k:Nat,dr / 200%25=k:=⟨(dr / 200%25).toNat,by lia⟩;exists⟨_,Y,?_⟩;walk_at"ss";show⟨_,Y,?_⟩;show⟨l,_,Y,kq.of<|oK.at oX,?_⟩;exists λo1 oR=>xK (upd G1 o1 _) rfl oR λG2 oQ oO=>?_;have oO:G2 o1=E (.lst<|((text.drop st).take<|k+1).map V.int):=by
      rw[oO,show dr / 3%(text.length:Int)+1+dr / 200%25=((st+(k+1):Nat):Int)by lia,o9,jl,show st+(k+1) - st=k+1 by lia,<-cQ,<-dy]
     show⟨nl,o1,_,_,Y,Y,(oK.trans oQ).at oS,oO,by rw[aa,aa,ak,a8];lia,λl' oN=>?_⟩;show more G2 l' _ _ (oK.trans oQ) oN (λz=>?_) (by rw[a8];lia) λsZ hy=>hb sZ (cx<|bQ hy);have:=congrArg cz z;rw[a8,bC,cW]at this;lia
  ·show oG λ_ U=>?_;obtain⟨sG,eG,nl,nw,x4,x5,rfl,oS,oY,oP,oW⟩:=hP;apply U;rw[aa]at oY oP;have oP:=oP #[2];have oV:=cb.mpr oP;obtain⟨z,hz⟩:∃z:Nat,size=z:=⟨size.toNat,by lia⟩;subst hz;show⟨_,Y,?_⟩;show⟨nl,_,Y,kq.of oS,λr hr=>?_⟩;show q (nw.take z) (λe=>?_) (by rw[a8];lia) (by rw[a8];lia) (λx hx=>oW x<|bQ hx) r _ (sG.trans<|xf.new hr) (sG.back hr) ?_
   ·have:=congrArg cz e;rw[a8,cW]at this;lia
   ·have:=jl (nw.map V.int) 0 z;rw[dQ,<-dy]at this;rw[xk];show congrArg (λz=>E<|HO.lst z) this
def Gg:T.CK.O P w mg base 1 (Uq K):=by
 specialize T.CK.g ["_law_numbers"]
 ·show oG λ_ U=>?_;obtain⟨l,xs,ws,rfl,hl,hp,hn,hs,q⟩:=h;apply U;show⟨_,(xg<|xm (yN PySem.F.plainAttrs_str PySem.F.slot_str_join PySem.F.type_str_join KJ xF<|xa (yv #[4] Y (xS<|cv 0) (λ_ _ _ _=>(xT Cb #[5] T.Bg Bl<|xa (cv 0) xb)) λ_ _ _ _=>yo) xb)),?_⟩;have oO:=hp.length;left;show bG rfl ?_;show⟨l,Y,⟨_,kq.of hl⟩,?_⟩;show yV (λi acc _=>acc=(ws.take i).map V.str) (kq.of hl) (by rw[ak];lia) rfl (λj sZ acc G3 u6 hy t3 oK hP R hR=>?_) (λD acc G3 u6 hD oP t3 oK hP hle he=>?_)
  ·show oG λ_ U=>?_;obtain⟨z,hz,oN⟩:=Paired.An hp hy;apply U;have fin:=hR (.str z) _ (xf.refl _) λH7 _ _=>by rw[hP,bh,hz];simp
   left;rcases oN with rfl|⟨n,rfl,rfl,hn⟩
   ·show⟨.str z,z,Y,Y,(λi e=>by cases e),fin⟩
   ·show⟨.int n,xB n,Y,Y,(λi e=>by injection e with e;rw[<-e];show vG hn),fin⟩
  ·rw[oO,bo]at hP;rw[hP]at he;have h1:=L7 (d:=32) ws hs;have h2:=Ca (d:=32) ws hs;show⟨_,D,ws,Y,Y,kq.of he,aQ h1 (by rw[ak];lia),?_,?_⟩
   ·rw[Es];show aQ h2 (by rw[ak];lia)
   rw[Es];show q _ (t3.trans oK)
end
section
variable {base:Heap} (T:Txt w K mg a)
def y9(x sZ:Str)(r:List Str):b7 ⟨#[32]⟩ (x::sZ::r)=x++⟨#[32]⟩++b7 ⟨#[32]⟩ (sZ::r):=rfl
def El(x sZ z:Str):x++sZ++z=x++(sZ++z):=CN (by simp only[B5,bu])
def UP(i j k:Int):Fe i j k=b7 ⟨#[32]⟩ ["cost",xB i,"plain",xB j,"turned",xB k]:=by
 rw[y9,y9,y9,y9,y9];change(cy++"cost "++xB i++" plain "++xB j++" turned "++xB k)=_;rw[show(cy++"cost ":Str)=("cost":Str)++⟨#[32]⟩by decide+kernel,show(" plain ":Str)=⟨#[32]⟩++(("plain":Str)++⟨#[32]⟩)by decide+kernel,show(" turned ":Str)=⟨#[32]⟩++(("turned":Str)++⟨#[32]⟩)by decide+kernel];change _=("cost":Str)++⟨#[32]⟩++(xB i++⟨#[32]⟩++(("plain":Str)++⟨#[32]⟩++(xB j++⟨#[32]⟩++(("turned":Str)++⟨#[32]⟩++xB k))));simp only[El]
def Sk(m:Int):("go ":Str)++xB m=Be "go" [m]:=by
 change _=b7 ⟨#[32]⟩ [("go":Str),xB m];rw[y9,show("go ":Str)=("go":Str)++⟨#[32]⟩by decide+kernel];rfl
def Um(m k:Int):("go ":Str)++xB m++" "++xB k=Be "go" [m,k]:=by
 change _=b7 ⟨#[32]⟩ [("go":Str),xB m,xB k];rw[y9,y9,show("go ":Str)=("go":Str)++⟨#[32]⟩by decide+kernel];change _=("go":Str)++⟨#[32]⟩++(xB m++⟨#[32]⟩++xB k);simp only[El];rfl
def UO:∀c<128,Unicode.isDigit c=decide (48<=c/\c<=57):=by decide+kernel
def Yk(m:Nat):PySem.Txt.isdigit (xB m)=sX:=by
 have e:=uW m;rw[if_neg #[2]]at e;have e2:(m:Int).natAbs=m:=rfl;rw[e2]at e;unfold PySem.Txt.isdigit;rw[fF,<-Array.all_toList,e,bZ];show⟨decide_eq_true ?_,λc hc=>?_⟩
 ·have hl:(xB m).length=(xB m).cps.toList.length:=by simp[eO]
  have:=cb.mpr<|CM m;change 0<(xB m).length;rw[hl,e];show this
 ·have:=uz m c hc;rw[UO c #[2]];show decide_eq_true this
def Nh(x:Int):(decide (0+("done ":Str).length<=(Am x).length)&&lh (Am x) ("done ":Str) 0)=sX:=by
 have e:(Am x).cps.toList=[100,111,110,101,32]++(xB x).cps.toList:=by unfold Am;rw[B5];rfl
 have hl:(Am x).length=(Am x).cps.toList.length:=by simp[eO]
 rw[oC,hl,e,show("done ":Str).length=5 from rfl,show("done ":Str).cps.toList=[100,111,110,101,32]from rfl];simp
def Mj(h:tL ns):Paired JB (ns.map V.int) (ns.map xB):=jm λn hn=>.inr ⟨n,Y,Y,h n hn⟩
theorem Lx:∀(xs:List Str) (sZ:Str) (ys:List Str),xs≠[]->b7 ⟨#[32]⟩ (xs++sZ::ys)=b7 ⟨#[32]⟩ xs++⟨#[32]⟩++b7 ⟨#[32]⟩ (sZ::ys)
 |[],_,_,h=>absurd rfl h
 |[x],sZ,ys,_=>rfl
 |x::x'::xs,sZ,ys,_=>by
  change b7 ⟨#[32]⟩ (x::x'::(xs++sZ::ys))=_;rw[y9,y9,show x'::(xs++sZ::ys)=(x'::xs)++sZ::ys from rfl,Lx (x'::xs) sZ ys #[8]];simp only[El]
def ES(k:Nat)(C:List Int)(u:Str):Prop:=u=""\/(0<k/\k<C.length/\u=b7 ⟨#[32]⟩ (""::(C.drop k).map xB))
def ES.ends{k:Nat}{c:List Int}{u:Str}(h:ES k C u)(e:c.drop k=C.drop k)(hl:c.length=C.length):PySem.Txt.endswith (vO c) u=sX:=by
 rcases h with rfl|⟨h1,h2,rfl⟩
 ·have:=W.KT.ends_app (vO c) ""
  rwa [show vO c++("":Str)=vO c from CN (by rw[B5];show df _)]at this
 ·obtain⟨x,r,hx⟩:∃x r,C.drop k=x::r:=⟨_,_,cP h2⟩;have hc:vO c=b7 ⟨#[32]⟩ ((c.take k).map xB)++b7 ⟨#[32]⟩ (""::(C.drop k).map xB):=by
   unfold vO;rw[show c.map xB=(c.take k).map xB++(C.drop k).map xB by rw[<-e,<-aO,eZ],hx,ba,Lx _ _ _ λz=>?_,y9]
   ·change _=_++(("":Str)++⟨#[32]⟩++_);rw[show("":Str)++(⟨#[32]⟩:Str)=⟨#[32]⟩by decide+kernel];simp only[El]
   ·have:=congrArg cz z;rw[aa,a8,cW]at this;lia
  rw[hc];show W.KT.ends_app _ _
def Ul(K:ax)(a:rP):Sp:=λvs H Q _=>tW λ(D:DK) (s:DS) (tv:V) (nl:sK) (nw:List Int) (least:Int)=>E5 (vs=[.ref D.d,tv,.ref nl,.int least]) (yg a H D s) (wk H) (H nl=E (.lst<|nw.map V.int)) (nl∉LD D) (s.elder.length<=300) (nw≠[]) (nw.length<=150) (tL nw) (1<=least) (least<=100) (s.ns.length=2) (∀(H':Hp) (p:sK) (rs:List xh),Kp (LD D) H H'->yg a H' D {s with pv:=.ref p,ns:=[E 0,E 0],bg:=sX}->zB K H' p s.elder.length nw.length rs->Made s.elder nw least rs->Q (.bl sX) H')
def Sj:T.FI.O P w mg base 12 (Ul K a):=by
 specialize T.FI.g ["_law_desk","_law_text","_law_newer_here","_law_lowest","_law_words_here"]
 ·show oG λ_ U=>?_;obtain⟨D,s,tv,nl,nw,least,rfl,hD,hT,oZ,o9,he,h0,hn,hb,pq,pk,h2,q⟩:=h;apply U;show⟨_,(xc (xp (i:=4) nd Y (aG Y) (yN PySem.F.plainAttrs_str PySem.F.slot_str_split PySem.F.type_str_split Em (ym (cv 0) T.xI T.za (zb T) hr.m T.ze.b .nil Az<|xa (xo (Gg T) hr.m T.m_words T.CK xn<|xa (xr AY (yf (xa xF<|xa (cv 3) xb))<|cv 2) xb) xb)<|xa xF xb))
  (xc (xC (PW.pt (vy (xA Ak (xy xU (cv 4) xj λ_ _=>Y) xF)<|vy (xA Ak (xy xU (cv 4) xj λ_ _=>Y) xF) (vy (xA Ak (xy xU (cv 4) xj λ_ _=>Y) xF)<|jf (zK<|yb (Kf PySem.F.plainAttrs_str PySem.F.slot_str_isdigit PySem.F.type_str_isdigit WQ<|xy xU (cv 4) xj λ_ _=>Y))))) (xg<|xm yG) xw)
  (xc (xC (PW.pt<|vj (xA Af (cv 3) xj) (uE<|xA Af (xT En #[5] T.Bi Bm<|xa (xy xU (cv 4) xj λ_ _=>Y) xb) (xT En #[5] T.Bi Bm<|xa (xy xU (cv 4) xj λ_ _=>Y) xb))) (xg<|xm yG) xw)
  (xc (xC (xA CC (xT En #[5] T.Bi Bm<|xa (xy xU (cv 4) xj λ_ _=>Y) xb) (xr yp (xq xu #[5] T.xW xN<|xa (cv 2) xb)<|xr BU xj (xT MI #[5] T.Bi Bm<|xa (yQ (Jq hr.units) (cv 2)<|yf xb) xb))) (xg<|xm yG) xw)
  (xg (xm (zX (yQ jn (ym (cv 0) T.xI T.za (zb T) hr.m T.ze.b .nil Az (xa xF xb)) xF) (um (yQ jn (ym (cv 0) T.xI T.za (zb T) hr.m T.ze.b .nil Az (xa xF xb)) xF))))))))),?_⟩
  exists⟨D.d,D.dx,_,Y,hD.dk,Y,?_⟩;walk_at"ss";show λo1 pj=>xK (upd H o1 _) rfl pj λH1 oX pC=>?_;show⟨o1,nl,_,_,Y,Y,pC,oX.at oZ,by rw[aa,ak];simp;lia,?_⟩;exists λo2 ph=>xK (upd H1 o2 _) rfl ph λH2 o7 pB=>?_;have o8:=oX.trans o7;show⟨o2,_,"make"::xB least::nw.map xB,rfl,pB,.cons (.inl Y) (.cons (.inr ⟨least,Y,Y,by unfold Sm;lia⟩)<|Mj hb),by simp;lia,λp hp=>?_,λH3 s3=>?_⟩
  ·rcases aB.mp hp with rfl|hp
   ·decide
   rcases aB.mp hp with rfl|hp
   ·show yI #[2]
   ·show CU hb p hp
  have oV:=o8.trans s3;show⟨D.d,"make",least::nw,rfl,hT.nm<|xf.nm oV,.inl<|.make D s least nw Y (hD.same oV) he h0 hn hb pq pk λH4 p rs m k4 oR hp hM hm=>?_⟩;have oS:Kp (LD D) H H4:=A0 oV (k4.mono λx hx=>by rw[ai.mp hx];show aJ);have pD:Nm H H4:=zP hD.mu oS;have oP:=oS _ _ oZ o9;have c1:=hM.tJ.cst;have c2:Sm ((nw.length:Int)+2):=by unfold Sm;lia
  have c3:Sm ((m:Nat):Int):=by unfold Sm;lia
  have oQ:=hM.cost;generalize (rs.map xh.cst).sum=C at c1 oQ;rw[UP];have hw:∀p∈([("cost":Str),xB C,"plain",xB<|(nw.length:Int)+2,"turned",xB (m:Int)]:List Str),p.length<=61/\32∉p.cps.toList:=λp hp=>by
   simp only[aB,bR,or_false]at hp;rcases hp with rfl|rfl|rfl|rfl|rfl|rfl
   ·decide+kernel
   ·show⟨yI c1,CZ _ #[6] #[6]⟩
   ·decide+kernel
   ·show⟨yI c2,CZ _ #[6] #[6]⟩
   ·decide+kernel
   ·show⟨yI c3,CZ _ #[6] #[6]⟩
  have hlen:=Ca (d:=32) _ λp hp=>(hw p hp).1;left;show bG rfl ?_;show⟨_," ",rfl,rfl,by decide,by rw[ak];simp at hlen;lia,?_⟩;exists λwl pe=>xK (upd H4 wl _) rfl pe λH5 oU oK=>?_;rw[show PySem.Txt.split (b7 ⟨#[32]⟩ [("cost":Str),xB C,"plain",xB<|(nw.length:Int)+2,"turned",xB (m:Int)]) " "=_ from Ex (c:=32) #[8] λp hp=>(hw p hp).2]at oK;show⟨wl,_,_,.str "cost",rfl,rfl,kq.of oK,yn (j:=0) rfl,?_⟩;walk_at"N";show⟨wl,_,_,.str "plain",rfl,rfl,kq.of oK,yn (j:=2) rfl,?_⟩;walk_at"N";show⟨wl,_,_,.str "turned",rfl,rfl,kq.of oK,yn (j:=4) rfl,?_⟩;walk_at"N";exists⟨wl,_,_,.str<|xB (m:Int),Y,Y,kq.of oK,yn (j:=5) Y,?_⟩;show bG rfl ?_;show⟨_,Y,Y,?_⟩;rw[Yk];walk_at"n";show(λg=>bG (λe5=>?_) λ_=>g) ?_
  ·show⟨wl,_,_,.str<|xB C,Y,Y,kq.of oK,yn (j:=1) Y,?_⟩;show⟨_,C,Y,CQ c1,by have:=yI c1;lia,?_⟩;show⟨wl,_,_,.str (xB<|(nw.length:Int)+2),Y,Y,kq.of oK,yn (j:=3) Y,?_⟩;show⟨_,(nw.length:Int)+2,Y,CQ c2,by have:=yI c2;lia,λe6=>?_,λ_=>g.2 Y⟩;have e5:=of_decide_eq_true e5;have e6:=of_decide_eq_true e6;lia
  walk_at"N";show⟨wl,_,_,.str (xB<|(nw.length:Int)+2),Y,Y,kq.of oK,yn (j:=3) Y,?_⟩;show⟨_,(nw.length:Int)+2,Y,CQ c2,by have:=yI c2;lia,?_⟩;show⟨nl,_,Y,.inl (kq.of<|oU.at oP),?_⟩;show⟨aX _,?_⟩;show λo6 pf=>xK (upd H5 o6 _) rfl pf λH6 oW pA=>?_;show⟨_,_,.ints (kq.of<|(oU.trans oW).at oP),.ints (ns:=[])<|kq.of pA,iL nw,iL [],?_⟩;rw[show m7 (.list<|nw.map d6) (.list<|([]:List Int).map d6)=sJ from(W.ked_eqvAll nw []).trans (decide_eq_false h0)];left;exists .inr ⟨_,Y,?_⟩;walk_at"ss";rw[aa];walk_at"n";have oO:=oU.trans oW;have pd:=oS.trans<|Kp.of oO;show⟨D.d,D.dx,_,Y,oO.at oR.dk,Y,?_⟩;show⟨D.d,"judge",[],rfl,hT.nm<|zP hD.mu pd,.inl<|.judge D _ p _ _ rs Y (oR.same oO) Y (hp.same oO) hM.tJ λH7 s7=>?_⟩;walk_at"y";have oN:=oO.trans s7;have oY:=oS.trans<|Kp.of oN;show⟨D.d,D.dx,_,Y,oN.at oR.dk,Y,?_⟩;exists⟨D.d,"begin",[],rfl,hT.nm<|zP hD.mu oY,.inl<|.begin D _ p _ rs Y (oR.same oN) Y (hp.same oN) hM.tJ h2 λH8 k8 pz=>?_⟩;show q H8 p rs (oY.trans k8) pz ((hp.same oN).nm<|zP (oR.same oN).mu k8) hM
end
section
variable {base:Heap} (T:Txt w K mg a)
def len_app(x sZ:Str):(x++sZ).length=x.length+sZ.length:=by
 have h:∀z:Str,z.length=z.cps.toList.length:=λz=>by simp[eO]
 rw[h,h,h,B5,ao]
def Si(K:ax)(a:rP):Sp:=λvs H Q _=>E6 λ(D:DK) (s:DS) (p cl:sK) (us C0 nw:List Int) (least:Int) (u:Str) (rs:List xh) (m k:Nat)=>Jc (vs=[.ref D.d,.ref cl,.str u]) (yg a H D s) (wk H) (H cl=E (.lst<|us.map V.int)) (cl∉LD D) (s.bg=sX) (s.pv= .ref p) (zB K H p s.elder.length nw.length rs) (Made s.elder nw least rs) (s.elder.length<=C0.length) (nw.length<=k) (nw.length<=C0.length) (C0.length<=300) (Way rs C0 s m) (ES k C0 u) (∀(H':Hp) (e:sK) (ns:List (Option Int)),Kp (LD D) H H'->yg a H' D ⟨sO C0<|yi rs,ns,e,(sO C0<|yi rs).take nw.length,s.pv,sJ⟩->ns.length=2->Q (.bl sX) H')
def Sh:T.FH.O P w mg base 12 (Si K a):=by
 specialize T.FH.g ["_law_desk","_law_cells","_law_upper","_law_cell","_law_line","_law_told_here"]
 ·show oG λ_ U=>?_;obtain⟨D,s,p,cl,us,C0,nw,least,u,rs,m,k,rfl,hD,hT,oV,oY,oW,oS,hp,hM,he,hk,hn,hC,hW,hu,q⟩:=h;apply U;have oU:max (s.elder.length:Int) nw.length<=C0.length:=by lia
  show⟨_,(xc (zc PassesOwn.never Y (xS<|cv 1) (yc (i:=3) nd Y<|aG Y) (xc (xp (i:=4) nd Y (aG Y)<|xr Hi xF (xT Cb #[5] T.Bg Bl<|xa (xr zm (xr zW (cv 3) xj) xj) xb))
  (xc (jO<|xC (xA vS (xr zm (cv 3) xj) xj) (xg (xp (i:=4) nd Y (aG Y)<|xr Hi (xr Hi (cv 4) xF) (xT Cb #[5] T.Bg Bl<|xa (xr BU (xy xU (yf (xa xj<|xa (Fp Ft xj) xb)) (xr zm (xr zW (cv 3) xj) xj) λ_ _=>Y) (xr zm (xr zW (cv 3) xj)<|xr CD xj xj)) xb))) xw)
  (xc (xp (i:=5) nd Y (aG Y) (ym (cv 0) T.xI T.za (zb T) hr.m T.ze.b .nil Az<|xa (cv 4) xb))
  (xc (xC (yb (yN PySem.F.plainAttrs_str PySem.F.slot_str_startswith PySem.F.type_str_startswith HZ (cv 5)<|xa xF xb)) (xg<|xm yG) xw)
  (xg (xC (PW.pt (vy (xA Ak (cv 5) xF) (jf (zK (yb (yN PySem.F.plainAttrs_str PySem.F.slot_str_endswith PySem.F.type_str_endswith NL (ym (cv 0) T.xI T.za (zb T) hr.m T.ze.b .nil Az (xa xF xb)) (xa (cv 2) xb))))))) (xg (xm yG)) xw)))))))
  (xg (xm (yN PySem.F.plainAttrs_str PySem.F.slot_str_startswith PySem.F.type_str_startswith HZ (ym (cv 0) T.xI T.za (zb T) hr.m T.ze.b .nil Az (xa xF xb)) (xa xF xb))))),?_⟩
  show⟨cl,Y,⟨_,kq.of oV⟩,?_⟩;show yU (xs:=us.map V.int) (λi σ G=>Kp (LD D) H G/\∃(c:List Int) (ns:List (Option Int)) (m:Nat) (x3 x4 x5:Option V),σ=[E<|.ref D.d,E<|.ref cl,E<|.str u,x3,x4,x5]/\yg a G D {s with c:=c,ns:=ns}/\Way rs C0 {s with c:=c,ns:=ns} m) ⟨.of<|xf.refl _,s.c,s.ns,m,_,_,_,Y,hD,hW⟩ (λi σ G hi hP=>kq.of<|hP.1 _ _ oV oY) (λi x σ G hx hP=>?_) (λσ G hP=>?_)
  ·show oG λ_ U=>?_;obtain⟨kG,c,ns,m,x3,x4,x5,rfl,oN,oQ⟩:=hP;apply U;rw[av]at hx;show oG λ_ U=>?_;obtain⟨x,-,rfl⟩:=aI.mp hx;exists U ?_;walk_at"ss";have b1:Sm (x / 2%21):=by unfold Sm;lia
   show⟨_,_,Y,Y,(λi ei=>by injection ei with ei;rw[<-ei];show vG b1),?_⟩;show⟨_,_,Y,Y,by have:=yI b1;rw[ak];change 3+(xB<|x / 2%21).length<=_;lia,?_⟩;show⟨λrq G'=>xf G G'/\∃oK:List Int,rq=[E<|.ref D.d,E<|.ref cl,E<|.str u,E<|.int x,E (.str<|Be "go" oK),x5]/\oK≠[]/\oK.length<=2/\tL oK/\∀sZ∈oK.take 1,0<=sZ,?_,λrq G' hc=>?_⟩
   ·right;show⟨λe=>?_,λ_=>?_⟩
    ·have b2:∀j:Int,j=1\/j= -1->Sm (j*(x / 84%10^60)):=λj hj=>by
      have:=gb (x / 84) (show(10^60:Int)≠0 by decide);have:=eU (x / 84) (show(0:Int)<10^60 by decide);unfold Sm;rcases hj with rfl|rfl<;> lia
     left;have l1:(("go ":Str)++xB (x / 2%21)).length<=64:=by have:=yI b1;rw[len_app];change 3+_<=_;lia
     show⟨_,_,Y,Y,by rw[ak];change(("go ":Str)++xB (x / 2%21)).length+1<=_;lia,?_⟩;right;exists λo1 o7=>xK (upd G o1 _) rfl o7 λG1 oX pd=>?_;walk_at"ss";obtain⟨j,hj,hv⟩:∃j:Int,(j=1\/j= -1)/\wN [V.int 1,V.int (-1)] (x / 42%2)=E (.int j):=by
      rcases Int.emod_two_eq (x / 42)with z|z<;> rw[z]
      ·show⟨1,.inl Y,Y⟩
      ·show⟨-1,.inr Y,Y⟩
     exists⟨o1,_,_,.int j,Y,Y,kq.of pd,hv,?_⟩;walk_at"ss";show⟨_,_,Y,Y,(λi ei=>by injection ei with ei;rw[<-ei];show vG<|b2 j hj),?_⟩;show⟨_,_,Y,Y,by have:=yI<|b2 j hj;rw[ak,len_app];change(("go ":Str)++xB (x / 2%21)).length+1+(xB<|j*(x / 84%10^60)).length<=_;lia,?_⟩;show⟨oX,[x / 2%21,j*(x / 84%10^60)],congrArg (λz=>[E<|V.ref D.d,E<|.ref cl,E<|.str u,E<|.int x,E<|.str z,x5])<|Um _ _,by simp,by simp,λsZ hy=>by
      rcases aB.mp hy with rfl|hy
      ·show b1
      ·rw[ai.mp hy];show b2 j hj,λsZ hy=>by rw[ai.mp hy];lia⟩
    ·show⟨xf.refl _,[x / 2%21],congrArg (λz=>[E<|V.ref D.d,E<|.ref cl,E<|.str u,E<|.int x,E<|.str z,x5])<|Sk _,by simp,by simp,λsZ hy=>by rw[ai.mp hy];show b1,λsZ hy=>by rw[ai.mp hy];lia⟩
   ·show oG λ_ U=>?_;obtain⟨sG,oK,rfl,pe,o8,o9,oZ⟩:=hc;apply U;have oN:=oN.same sG;have kG:=kG.trans<|Kp.of sG;show⟨D.d,D.dx,_,Y,oN.dk,Y,?_⟩;show⟨D.d,"go",oK,rfl,hT.nm<|zP hD.mu kG,.inl<|.go D _ p oK C0 _ _ rs m Y oN oW o8 o9 oZ oS (hp.nm<|zP hD.mu kG) hM.tJ oU oQ (λH' e ns sZ k' oO hl=>?_) λ_ H' c ns m k' oO oP=>?_⟩
    ·left;show bG rfl ?_;show⟨_,"done ",rfl,rfl,?_⟩;rw[Nh];show⟨λ_=>q _ _ _ (kG.trans k') oO hl,by walk_at"no"⟩
    ·have oR:=kG.trans k';left;show bG rfl ?_;show⟨_,"done ",rfl,rfl,?_⟩;walk_at"N";walk_at"N";show⟨D.d,D.dx,_,Y,oO.dk,Y,?_⟩;show⟨D.d,"cells",[],rfl,hT.nm<|zP hD.mu oR,.inl<|.cells D _ Y oO (by rw[oP.near.1];show hC) λH2 s2=>?_⟩;left;show bG rfl ?_;show⟨_,u,Y,Y,?_⟩;rw[hu.ends (by have:=congrArg (List.drop<|k - nw.length)<|oP.near.rest hM he hn;rwa [gw,gw,show nw.length+(k - nw.length)=k by lia]at this) oP.near.1];walk_at"N";show⟨oR.trans<|Kp.of s2,c,ns,m,_,_,_,Y,oO.same s2,oP⟩
  ·show oG λ_ U=>?_;obtain⟨kG,c,ns,m,x3,x4,x5,rfl,oN,oQ⟩:=hP;apply U;show⟨D.d,D.dx,_,Y,oN.dk,Y,?_⟩;show⟨D.d,"go",[],rfl,hT.nm<|zP hD.mu kG,.inl<|.go D _ p [] C0 _ _ rs m Y oN oW #[8] (λx hx=>by cases hx) (λx hx=>by cases hx) oS (hp.nm<|zP hD.mu kG) hM.tJ oU oQ (λH' e ns sZ k' oO hl=>?_) λz=>absurd Y z⟩;left;show bG rfl ?_;show⟨_,"done ",rfl,rfl,?_⟩;rw[Nh];show q _ _ _ (kG.trans k') oO hl
def Uk(a:rP):Sp:=λvs H Q _=>sE λ(D:DK) (s:DS)=>tF (vs=[.ref D.d]) (yg a H D s) (wk H) (s.bg=sJ) (∀H',xf H H'->Q (.bl sX) H')
def Uj:T.FK.O P w mg base 12 (Uk a):=by
 specialize T.FK.g ["_law_desk","_law_over"]
 ·show oG λ_ U=>?_;obtain⟨D,s,rfl,hD,hT,hb,q⟩:=h;apply U;show⟨_,(xc (xp (i:=1) nd Y (aG Y) yG)
  (xc (Kj ⟨Y,Y,Y⟩ T.VZ #[5] T.Lw (λ_ _=>(xg<|xO (vd ⟨Y,Y,Y⟩ (cv 0) T.xI T.za (zb T) hr.m T.ze.b .nil<|xa xF xb))) λ_ _ _=>(xg<|xp (i:=1) nd Y (aG Y) yG))
  (xg (xm (cv 1))))),?_⟩
  show⟨D.d,D.dx,_,Y,hD.dk,Y,?_⟩;show⟨D.d,"go",[],rfl,hT,.inr ⟨Y,Y,⟨D,s,Y,hD,hb⟩,λH1 s1=>?_⟩⟩;show⟨_,Y,T.xfD,λ_ _=>q H1 s1⟩
end
section
variable {base:Heap} (T:Txt w K mg a)
def Gn{c:List Int}(h:tL c):∀p∈c.map xB,p.length<=61/\32∉p.cps.toList:=λp hp=>by
 obtain⟨n,hn,rfl⟩:=aY.mp hp;show⟨yI<|h n hn,CZ _ #[6] #[6]⟩
def Mi{c:List Int}(h:tL c)(hc:c.length<=300):(vO c).length+2<=aK:=by
 have:=Ca (d:=32) _ λp hp=>(Gn h p hp).1;rw[aa]at this;rw[ak];show aQ (Nat.add_le_add_right this 2) #[2]
def P5(n:Int):PyData.strOk (xB n)=sX:=by
 have key:∀m,∀c∈yR m,c<1114112:=λm c hc=>by have:=(uz m c hc).2;lia
 have e:=uW n;unfold PyData.strOk;rw[<-Array.all_toList,e,bZ];intro c hc
 split at hc
 ·rcases aB.mp hc with rfl|hc
  ·decide
  ·show decide_eq_true (key _ c hc)
 ·show decide_eq_true (key _ c hc)
noncomputable def Fd(ns:List Int):j6:=.list (ns.map λn=>nq<|xB n)
theorem Gf{K:ax}{H:Hp}:∀ns:List Int,wO K H ((ns.map xB).map V.str) (ns.map λn=>nq<|xB n)
 |[]=>.nil
 |i::r=>.cons (.str _) (Gf r)
theorem Sg(ns:List Int):j7 (Fd ns)=sX:=by
 have h1:lq (ns.map λn=>nq<|xB n)=sX:=by
  induction ns with
  |nil=>rfl
  |cons x r ih=>simp[lq,kz,ih,P5]
 have h2:PyData.depthAll (ns.map λn=>nq<|xB n)=0:=by
  induction ns with
  |nil=>rfl
  |cons x r ih=>simp[PyData.depthAll,lM,ih (by simp only[ba,lq,fF]at h1;show h1.2)]
 simp[j7,Fd,kz,lM,h1,h2]
def Sf(K:ax)(a:rP):Sp:=λvs H Q _=>IA λ(D:DK) (s:DS) (tl nl cl:sK) (z nw us:List Int) (least:Int)=>vs=[.ref D.d,.ref tl,.ref nl,.int s.c.length,.int least,.ref cl]/\yg a H D s/\wk H/\s.c=s.elder++z/\s.c.length<=300/\s.ns.length=2/\H tl=E (.lst<|s.elder.map V.int)/\tl∉LD D/\H nl=E (.lst<|nw.map V.int)/\nl∉LD D/\nw≠[]/\nw.length<=150/\nw.length<=s.c.length/\tL nw/\1<=least/\least<=100/\H cl=E (.lst<|us.map V.int)/\cl∉LD D/\∀(H':Hp) (e:sK) (ns:List (Option Int)) (pv:V),Kp (LD D) H H'->yg a H' D ⟨nw++s.c.drop nw.length,ns,e,nw,pv,sJ⟩->ns.length=2->Q (.bl sX) H'
def KU:T.DU.O P w mg base 13 (Sf K a):=by
 specialize T.DU.g ["_law_desk","_law_text","_law_newer_here","_law_size","_law_lowest","_law_cells","_law_room","_law_upper"]
 ·show oG λ_ U=>?_;obtain⟨D,s,tl,nl,cl,z,nw,us,least,rfl,hD,hT,hz,hC,h2,pA,pf,oQ,oP,h0,hn,pB,hb,pT,pS,pU,ph,q⟩:=h;apply U;have he:s.elder.length<=s.c.length:=by rw[hz,ao];lia
  have oS:=Gn hD.sm;have pK:=cb.mpr h0;have pV:s.c.map xB≠[]:=λe=>by have:=congrArg cz e;rw[aa,cW]at this;lia
  show⟨_,(xc (xC (zK (yb<|xo (Sj T) hr.m T.Rx T.FI xn (xa (cv 0)<|xa (cv 1) (xa (cv 2)<|xa (cv 4) xb)))) (xg<|xm yG) xw)
  (xc (xp (i:=6) nd Y (aG Y) (yN PySem.F.plainAttrs_str PySem.F.slot_str_split PySem.F.type_str_split Em (ym (cv 0) T.xI T.za (zb T) hr.m T.ze.b .nil Az<|xa xF xb)<|xa xF xb))
  (xc (xp (i:=7) nd Y (aG Y) (xo (Gg T) hr.m T.m_words T.CK xn<|xa (xr AY (yf<|xa xF xb)<|yj yC (cv 6) (ya<|xq (B1 Y) #[5] T.AQ Bo (xa (xq xu #[5] T.xW xN<|xa (cv 1) xb)<|xa (xq xu #[5] T.xW xN<|xa (cv 2) xb) xb)) zg) xb))
  (xc (jO<|xC (xA ED (xq (B1 Y) #[5] T.AQ Bo (xa (xq xu #[5] T.xW xN<|xa (cv 1) xb)<|xa (xq xu #[5] T.xW xN<|xa (cv 2) xb) xb)) (yf (xa xj<|xa (cv 3) xb)) #[5]) (xg<|xp (i:=7) nd Y (aG Y) xF) xw)
  (xc (xC (PW.pt (vy (zK<|yb (xo (Sh T) hr.m T.Rw T.FH xn<|xa (cv 0) (xa (cv 5)<|xa (cv 7) xb)))<|jf (zK<|yb (xo (Uj T) hr.m T.TB T.FK xn<|xa (cv 0) xb)))) (xg<|xm yG) xw)
  (xc (xp (i:=6) nd Y (aG Y) (ym (cv 0) T.xI T.za (zb T) hr.m T.ze.b .nil Az<|xa xF xb))
  (xg (xm (zX (yQ (Fs hr.units) (yj yC (yN PySem.F.plainAttrs_str PySem.F.slot_str_split PySem.F.type_str_split Em (cv 6) (xa xF xb)) zg (ya (xq xu #[5] T.xW xN (xa (cv 2) xb)))) (yv #[4] Y (xS (cv 2)) (λ_ _ _ _=>(xT Cb #[5] T.Bg Bl (xa (cv 0) xb))) (λ_ _ _ _=>yo))) (um (yN PySem.F.plainAttrs_str PySem.F.slot_str_endswith PySem.F.type_str_endswith NL (cv 6) (xa (cv 7) xb)))))))))))),?_⟩
  show⟨D,s,_,nl,nw,least,Y,hD,hT,oQ,oP,by lia,h0,hn,hb,pT,pS,h2,λH1 p rs k1 oX hp hM=>?_⟩;walk_at"N";show⟨D.d,D.dx,_,Y,oX.dk,Y,?_⟩;show⟨D.d,"cells",[],rfl,hT.nm<|zP hD.mu k1,.inl<|.cells D _ Y oX hC λH2 s2=>?_⟩;have k2:=k1.trans<|Kp.of s2;left;show bG rfl ?_;show⟨_," ",rfl,rfl,by decide,Mi hD.sm hC,?_⟩;exists λrl pJ=>xK (upd H2 rl _) rfl pJ λH3 o8 pD=>?_;rw[show PySem.Txt.split (vO s.c) " "=_ from Ex (c:=32) pV λp hp=>(oS p hp).2]at pD;have k3:=k2.trans<|Kp.of o8;walk_at"ss";exists λo1 pQ=>xK (upd H3 o1 _) rfl pQ λH4 oV pY=>?_;have k4:=k3.trans<|Kp.of oV;show⟨tl,_,Y,.inl (kq.of<|k4 _ _ pA pf),?_⟩;show⟨nl,_,Y,.inl (kq.of<|k4 _ _ oQ oP),?_⟩;rw[aa,aa];left;obtain⟨k,hk⟩:∃k:Nat,max (s.elder.length:Int) nw.length=k:=⟨max s.elder.length nw.length,by lia⟩;rw[hk];show⟨_,Y,?_⟩;show⟨rl,_,Y,kq.of<|oV.at pD,?_⟩;exists λo2 pP=>xK (upd H4 o2 _) rfl pP λH5 oU pF=>?_;rw[jK,<-cQ,<-cQ]at pF;have k5:=k4.trans<|Kp.of oU;show⟨o1,o2,_,_,Y,Y,oU.at pY,pF,by simp[ak];lia,?_⟩;exists λo3 pO=>xK (upd H5 o3 _) rfl pO λH6 o7 pX=>?_;have k6:=k5.trans<|Kp.of o7;show⟨o3,_,""::(s.c.drop k).map xB,rfl,pX,.cons (.inl Y) (by rw[c7];show jm λn _=>.inl rfl),by simp;lia,λp hp=>?_,λH7 s7=>?_⟩
  ·rcases aB.mp hp with rfl|hp
   ·decide
   ·show(oS p (by rw[cQ]at hp;show cx hp)).1
  have k7:=k6.trans<|Kp.of s7;show⟨λrq G'=>xf H7 G'/\∃u:Str,rq=[E<|.ref D.d,E<|.ref tl,E<|.ref nl,E<|.int s.c.length,E<|.int least,E<|.ref cl,E<|.ref rl,E<|.str u]/\ES k s.c u,?_,λrq H8 hc=>?_⟩
  ·show⟨tl,_,Y,.inl (kq.of<|k7 _ _ pA pf),?_⟩;show⟨nl,_,Y,.inl (kq.of<|k7 _ _ oQ oP),?_⟩;rw[aa,aa];left;rw[hk];walk_at"ss";show λo4 pN=>xK (upd H7 o4 _) rfl pN λH8 oZ pW=>?_;show⟨o4,_,Y,.inl<|kq.of pW,Y,Y,?_⟩;show⟨λ_=>⟨oZ,_,Y,.inl Y⟩,λe=>⟨oZ,_,Y,.inr ⟨by lia,?_,Y⟩⟩⟩;have e':wV (.int (k:Int)) ([0,(s.c.length:Int)].map V.int)=sJ:=e;rw[Cc]at e';have e':=of_decide_eq_false e';simp at e';lia
  ·show oG λ_ U=>?_;obtain⟨s8,u,rfl,hu⟩:=hc;apply U;have k8:=k7.trans<|Kp.of s8;left;have o9:=((((s2.trans o8).trans oV).trans oU).trans o7).trans<|s7.trans s8;have hW:Way rs s.c {s with pv:=.ref p,ns:=[E 0,E 0],bg:=sX} 0:=⟨⟨Y,Y,λx hx=>by simp at hx;lia⟩,aX _,Y,λj _ _=>Y⟩;show⟨D,_,p,cl,us,s.c,nw,least,u,rs,0,k,Y,oX.same o9,hT.nm<|zP hD.mu k8,k8 _ _ pU ph,ph,Y,Y,hp.same o9,hM,he,by lia,pB,hC,hW,hu,λH9 e ns k9 oW pR=>?_⟩;rw[P7 hM hz pB,List.take_left]at oW;have pz:=k8.trans k9;walk_at"N";show⟨D,_,Y,oW,hT.nm<|zP hD.mu pz,Y,λqa pe=>?_⟩;have oK:=oW.same pe;have pq:=pz.trans<|Kp.of pe;walk_at"N";exists⟨D.d,D.dx,_,Y,oK.dk,Y,?_⟩;have hlen:(nw++s.c.drop nw.length).length=s.c.length:=by rw[ao,bC];lia
   show⟨D.d,"cells",[],rfl,hT.nm<|zP hD.mu pq,.inl<|.cells D _ Y oK (by rw[hlen];show hC) λp7 pd=>?_⟩;have pG:=pq.trans<|Kp.of pd;have oS:=Gn oK.sm;left;show bG rfl ?_;show⟨_," ",rfl,rfl,by decide,Mi oK.sm (by rw[hlen];show hC),?_⟩;exists λrm pI=>xK (upd p7 rm _) rfl pI λpZ oO pC=>?_;rw[show PySem.Txt.split (vO<|nw++s.c.drop nw.length) " "=_ from Ex (c:=32) (λe=>by simp[h0]at e) λp hp=>(oS p hp).2]at pC;have pk:=pG.trans<|Kp.of oO;show⟨nl,_,Y,.inl (kq.of<|pk _ _ oQ oP),?_⟩;rw[aa];show⟨_,Y,?_⟩;show⟨rm,_,Y,kq.of pC,?_⟩;exists λo5 pL=>xK (upd pZ o5 _) rfl pL λp9 oN pE=>?_;rw[show wR (((nw++s.c.drop nw.length).map xB).map V.str) y (E (nw.length:Int))=(nw.map xB).map V.str by
    have:=jl (((nw++s.c.drop nw.length).map xB).map V.str) 0 nw.length;rw[dQ,<-dy,<-dy,Nat.sub_zero,List.take_left]at this;show this]at pE
   have pj:=pk.trans<|Kp.of oN;have oR:=pj _ _ oQ oP;show⟨nl,Y,⟨_,kq.of oR⟩,?_⟩;show yV (λi acc _=>acc=((nw.take i).map xB).map V.str) (kq.of oR) (by rw[aa,ak];lia) rfl (λj sZ acc G3 u6 hy t3 oY hP R hR=>?_) (λL acc G3 u6 hL p8 t3 oY hP hle he=>?_)
   ·rw[av]at hy;show oG λ_ U=>?_;obtain⟨x,hx,rfl⟩:=aI.mp hy;apply U;have pH:=hb x<|aj hx;show⟨.int x,xB x,Y,Y,(λi e=>by injection e with e;rw[<-e];show vG pH),hR _ _ (xf.refl _) λH7 _ _=>by rw[hP,bh,hx];simp⟩
   ·rw[aa,bo]at hP;rw[hP]at he;have t:=t3.trans oY;show Vd (d:=Fd nw) (.lst (kq.of<|t.at pE)<|Gf nw) (.lst (kq.of he)<|Gf nw) (Sg nw) ?_;walk_at"y";show bG rfl ?_;show⟨_,u,Y,Y,?_⟩;rw[hu.ends (by rw[List.drop_append,c8 #[2],fX,gw,show nw.length+(k - nw.length)=k by lia]) hlen];show q _ _ _ _ (pj.trans<|Kp.of t) (oK.same<|(pd.trans<|oO.trans oN).trans t) pR
end
section
variable {base:Heap} (T:Txt w K mg a)
def Se(h:kq K H l xs)(k:∀u,H l=E u->H' l=E u):kq K H' l xs:=by
 rcases h with(h|⟨o,h⟩)|h
 ·show .inl (.inl<|k _ h)
 ·show .inl (.inr ⟨o,k _ h⟩)
 ·show .inr h
def LL(K:ax):Sp:=λvs H Q _=>sE λ(l:sK) (ns:List Int)=>Je (vs=[.ref l]) (kq K H l<|ns.map V.int) (ns.length<=63) (H ur=E (.sk vt)) (H uu=E (.sk ve)) (H yY=E (.sk zA)) (H vH=E (.sk jH)) (H zF=E (.sk uM)) (H yM=E (.sk zy)) (H zG=E (.sk uN)) (∀H',Q (.bl sX) H')
def P4:T.Jl.O P w mg base 14 (LL K):=by
 specialize T.Jl.g ["_law_script","_law_size","_law_amount","_law_few","_law_text","_law_desk","_law_newer_here","_law_lowest"]
 ·show oG λ_ U=>?_;obtain⟨l,ns,rfl,hl,qt,t1,t2,t3,t4,t5,t6,t7,q⟩:=h;apply U;have hT:wk H:=⟨t2,t3,t4,t1,t5,t6,t7⟩;show⟨_,(xc (xp (i:=1) nd Y (aG Y)<|xr yp xj (xr zm (xo (ux T) hr.m T.uX T.zQ xn (xa (cv 0)<|xa xj xb))<|xy xU (yf (xa xj<|xa xj xb)) (xT MI #[5] T.Bi Bm<|xa (yQ vS (xr zm (xr zW (xo (ux T) hr.m T.uX T.zQ xn (xa (cv 0)<|xa xj xb)) xj) xj) xj) xb) λ_ _=>Y))
  (xc (xp (i:=2) nd Y (aG Y) (xr zm (xr zW (xo (ux T) hr.m T.uX T.zQ xn (xa (cv 0)<|xa xj xb)) xj)<|xr yp (xq (FC Y) #[5] T.Bh Bn (xa (cv 1)<|xa xj xb)) xj))
  (xc (xp (i:=3) nd Y (dP Y)<|xy xU (yf<|xa xj (xa xj<|xa (xr CD xj xj) xb)) (xr zm (xo (ux T) hr.m T.uX T.zQ xn (xa (cv 0)<|xa xj xb)) xj) λ_ _=>Y)
  (xc (EI (i:=4) (yu (cap:=[3]) (ys:=["_law_few"]) rfl rfl rfl rfl rfl ⟨⟨Y,Y,.inl Y⟩,trivial⟩ #[18]) rfl nd rfl rfl (xS (xo (Lz T) hr.m T.Ky T.Eh xn<|xa (xr zW (xo (ux T) hr.m T.uX T.zQ xn (xa (cv 0)<|xa xj xb)) xj) (xa (cv 2)<|xa (xr CD xj xj) xb))) (λ_ _ _ _=>(xr zm (cv 0)<|cv 1)) λ_ _ _ _=>yo)
  (xc (xp (i:=5) nd Y (aG Y)<|UI T.R6 (YX T) hr.m #[5] T.Qe T.GZ.b .nil xn)
  (xc (xC (xA Ak (ym (cv 5) T.xI T.za (zb T) hr.m T.ze.b .nil Az<|xa (xo (Gg T) hr.m T.m_words T.CK xn<|xa (xr AY (yf (xa xF<|xa (cv 1) xb))<|cv 4) xb) xb) xF) (xg<|xm yG) xw)
  (xc (xp (i:=6) nd Y (aG Y) (xo (Ly T) hr.m T.Kx T.Eg xn<|xa (cv 4) (xa (cv 1)<|xa (xo (ux T) hr.m T.uX T.zQ xn (xa (cv 0)<|xa xj xb)) xb)))
  (xc (xp (i:=7) nd Y (aG Y) (xr yp xj<|xr zm (xo (ux T) hr.m T.uX T.zQ xn (xa (cv 0)<|xa xj xb)) xj))
  (xc (xC (zK (yb<|xo (KU T) hr.m T.JF T.DU xn (xa (cv 5)<|xa (cv 4) (xa (cv 6)<|xa (cv 1) (xa (cv 7)<|xa (yj yC (cv 0) (ya xj)<|ya xj) xb))))) (xg<|xm yG) xw)
  (xg (xm (xo (KU T) hr.m T.JF T.DU xn (xa (cv 5) (xa (cv 6) (xa (xo (Ly T) hr.m T.Kx T.Eg xn (xa (cv 6) (xa (cv 1) (xa (xo (ux T) hr.m T.uX T.zQ xn (xa (cv 0) (xa xj xb))) xb)))) (xa (cv 1) (xa (cv 7) (xa (yj yC (cv 0) (ya xj) (ya xj)) xb)))))))))))))))))),?_⟩
  show⟨l,ns,0,Y,hl,by decide,λx0=>?_⟩;right;show λo1 pV=>xK (upd H o1 _) rfl pV λH1 oV ql=>?_;show⟨l,ns,1,Y,oV.seq hl,by decide,λx1=>?_⟩;right;exists .inr ⟨_,Y,?_⟩;obtain⟨m,hm,hv⟩:∃m:Int,(m=40\/m=300)/\wN [V.int 40,V.int 300] (if decide (x1 / 3%16=5)=sX then 1 else 0)=E (.int m):=by
   split
   ·show⟨300,.inr Y,Y⟩
   ·show⟨40,.inl Y,Y⟩
  exists⟨o1,_,_,.int m,Y,Y,kq.of ql,hv,?_⟩;show bG (by change 0<m;lia) ?_;obtain⟨size,hsz,qr,oY⟩:∃size:Nat,1+x0%m=(size:Int)/\1<=size/\size<=300:=by
   have:=gb x0 (show m≠0 by lia);have:=eU x0 (show 0<m by lia);show⟨(1+x0%m).toNat,by lia,by lia,by lia⟩
  show⟨l,ns,0,Y,oV.seq hl,by decide,λx2=>?_⟩;right;dsimp only;rw[hsz];obtain⟨am,qd,qx,qw⟩:∃am:Nat,x2 / 40%(min (size:Int) 40+1)=(am:Int)/\am<=size/\am<=40:=by
   have:=gb (x2 / 40) (show min (size:Int) 40+1≠0 by lia);have:=eU (x2 / 40) (show 0<min (size:Int) 40+1 by lia);show⟨(x2 / 40%(min (size:Int) 40+1)).toNat,by lia,by lia,by lia⟩
  rw[qd];exists λo2 pU=>xK (upd H1 o2 _) rfl pU λH2 pP qk=>?_;have s2:=oV.trans pP;show⟨l,ns,1,Y,s2.seq hl,by decide,λx3=>?_⟩;right;obtain⟨few,pD,qu,hv⟩:∃few:Int,0<few/\few<=10^9/\wN [V.int 2,V.int 4,V.int<|10^9] (x3%3)=E (.int few):=by
   have:x3%3=0\/x3%3=1\/x3%3=2:=by lia
   rcases this with z|z|z<;> rw[z]
   ·show⟨2,by decide,by decide,Y⟩
   ·show⟨4,by decide,by decide,Y⟩
   ·show⟨10^9,by decide,by decide,Y⟩
  show⟨o2,_,_,.int few,Y,Y,kq.of qk,hv,?_⟩;show⟨l,ns,1,Y,s2.seq hl,by decide,λx4=>?_⟩;right;show⟨_,_,_,Y,ik am,by lia,⟨by decide,by decide+kernel⟩,λds qb dl H3 s3 qc o9=>?_⟩;show⟨dl,Y,⟨_,kq.of o9⟩,?_⟩;show yV (λi acc _=>acc=((ds.take i).map (· %few)).map V.int) (kq.of o9) (by rw[aa,ak];lia) rfl (λj sZ acc G3 u6 hy t3 oU hP R hR=>?_) (λtl acc G3 H4 hL qg t3 oU hP hle he=>?_)
  ·rw[av]at hy;show oG λ_ U=>?_;obtain⟨x,hx,rfl⟩:=aI.mp hy;exists U ?_;show bG pD ?_;show hR _ _ (xf.refl _) λH7 _ _=>by rw[hP,bh,hx];simp
  rw[aa,bo]at hP;have s4:=s2.trans (s3.trans<|t3.trans oU);obtain⟨text,oN,qq,oR⟩:∃text:List Int,text=ds.map (· %few)/\text.length=am/\tL text:=⟨_,Y,by rw[aa];lia,λx hx=>by
   show oG λ_ U=>?_;obtain⟨sZ,_,rfl⟩:=aY.mp hx;apply U;have:=gb sZ (show few≠0 by lia);have:=eU sZ pD;unfold Sm;lia⟩
  rw[<-oN]at hP;rw[hP]at he;clear hP hle hL qg t3 oU s3 o9 qb oN qc s2;left;intro d oQ hd o8 pR;show se (upd H4 oQ<|.own d) λH5 pH=>?_;have pO:=xf.of_eq o8 pH;have qv:H5 d=y:=by rw[<-pH,xl<|aW pR];show hd
  show⟨d,oQ,Y,xk,λe H6 k6 pE=>⟨Y,?_⟩⟩;have pq:xf H4 H6:=λb u e=>k6 b u ((pO.put hd) b u e) λz=>by rw[ai.mp z,hd]at e;cases e
  exists⟨d,oQ,_,Y,pE,Y,?_⟩;walk_at"ss";show λo3 pT=>xK (upd H6 o3 _) rfl pT λH7 pf qi=>?_;show⟨o3,tl,_,_,Y,Y,qi,(pq.trans pf).at he,by simp[ak];lia,?_⟩;exists λo4 pS=>xK (upd H7 o4 _) rfl pS λH8 pN qh=>?_;show⟨o4,_,"room"::xB size::text.map xB,rfl,qh,.cons (.inl Y) (.cons (.inr ⟨size,Y,Y,by unfold Sm;lia⟩)<|Mj oR),by simp;lia,λp hp=>?_,λH9 s9=>?_⟩
  ·rcases aB.mp hp with rfl|hp
   ·decide
   rcases aB.mp hp with rfl|hp
   ·show yI #[2]
   ·show CU oR p hp
  have pk:=(pf.trans pN).trans s9;have oW:=pq.trans pk;left;have qe:wk H9:=hT.nm (xf.nm<|s4.trans oW);show⟨d,"room",(size:Int)::text,rfl,qe,.inl<|.room oQ e size text (pk.at pE) #[2] oY oR λS el G k9 nS BE hD=>?_⟩;show oG λ_ U=>?_;obtain⟨D,oS⟩:∃D:DK,D=⟨d,oQ,S⟩:=⟨_,Y⟩;apply U;rw[<-oS]at hD;have fr:∀x u,H4 x=E u->x∉LD D:=λx u ex z=>by
   rw[oS]at z;rcases aB.mp z with rfl|z
   ·rw[hd]at ex;cases ex
   ·have:=nS x z;rw[oW _ _ ex]at this;cases this
  have sG:xf H4 G:=λb u eb=>k9 b u (oW b u eb) λz=>by rw[ai.mp z,hd]at eb;cases eb
  have o7:kq K G l (ns.map V.int):=(s4.trans sG).seq hl;have pI:wk G:=hT.nm (xf.nm<|s4.trans sG);have oN:=sG.at he;have pQ:=fr _ _ he;walk_at"N";show⟨l,ns,2,Y,o7,by decide,λx5=>?_⟩;show⟨tl,text,_,_,Y,oN,by lia,by lia,oR,λnw h0 pX pW pz nl G1 g1 pY qo=>?_⟩;show⟨l,ns,3,Y,g1.seq o7,by decide,λx6=>?_⟩;right;left;dsimp only;obtain⟨least,hle,pC,pB⟩:∃least:Int,1+x6%8=least/\1<=least/\least<=100:=⟨_,Y,by lia,by lia⟩;rw[hle];show⟨_,Y,?_⟩;show⟨_,Y,?_⟩;show⟨l,_,Y,g1.seq o7,?_⟩;exists λc1 pG=>xK (upd G1 c1 _) rfl pG λG2 pj pe=>?_;have g2:=g1.trans pj;have pL:∀x,G x=y->x∉LD D:=λx ex z=>by obtain⟨u,eu,_⟩:=hD.mu x z;rw[ex]at eu;cases eu
  have pe:G2 c1=E (.lst<|((ns.drop 4).take 30).map V.int):=by rw[pe,show(34:Int)=((34:Nat):Int)from rfl,show(4:Int)=((4:Nat):Int)from rfl,jl,<-cQ,<-dy]
  have hlen:(text++a7 (size - text.length) (0:Int)).length=size:=by rw[ao,iW];lia
  have oP:=pj.at qo;have oZ:nw.length<=(text++a7 (size - text.length) (0:Int)).length:=by lia
  have oX:=pL _ pY;show⟨D,_,tl,nl,c1,_,nw,_,least,?_,hD.same g2,pI.nm<|xf.nm g2,Y,aQ (dY hlen) oY,Y,g2.at oN,pQ,oP,oX,h0,pX,oZ,pz,pC,pB,pe,pL _<|g1.back pG,λG3 e2 n2 p2 k3 pJ pZ=>?_⟩
  ·rw[oS];show congrArg (λz:Nat=>[V.ref d,.ref tl,.ref nl,.int z,.int least,.ref c1]) hlen.symm
  have pA:kq K G3 l (ns.map V.int):=Se hl λu eu=>k3 _ _ (g2 _ _ (sG _ _<|s4 _ _ eu)) (fr _ _<|s4 _ _ eu);have qf:wk G3:=(pI.nm<|xf.nm g2).nm<|zP (hD.same g2).mu k3;have oO:=k3 _ _ oP oX;walk_at"N";show⟨l,ns,34,Y,pA,by decide,λx7=>?_⟩;show⟨nl,nw,_,_,Y,oO,by lia,by lia,pz,λmw m0 p8 p7 qa ml G4 g4 p9 qp=>?_⟩;show⟨_,Y,?_⟩;show⟨_,Y,?_⟩;show⟨l,_,Y,g4.seq pA,?_⟩;exists λc2 pF=>xK (upd G4 c2 _) rfl pF λG5 ph pd=>?_;have g5:=g4.trans ph;have pK:∀x,G3 x=y->x∉LD D:=λx ex z=>by obtain⟨u,eu,_⟩:=pJ.mu x z;rw[ex]at eu;cases eu
  have pd:G5 c2=E (.lst<|((ns.drop 35).take 15).map V.int):=by rw[pd,show(50:Int)=((50:Nat):Int)from rfl,show(35:Int)=((35:Nat):Int)from rfl,jl,<-cQ,<-dy]
  have oK:(nw++(text++a7 (size - text.length) (0:Int)).drop nw.length).length=size:=by rw[ao,bC];lia
  show⟨D,_,nl,ml,c2,_,mw,_,least,?_,pJ.same g5,qf.nm<|xf.nm g5,Y,aQ (dY oK) oY,pZ,g5.at oO,oX,ph.at qp,pK _ p9,m0,p8,?_,qa,pC,pB,pd,pK _<|g4.back pF,λG6 _ _ _ _ _ _=>q G6⟩
  ·rw[oS];show congrArg (λz:Nat=>[V.ref d,.ref nl,.ref ml,.int z,.int least,.ref c2]) oK.symm
  ·change mw.length<=(nw++(text++a7 (size - text.length) (0:Int)).drop nw.length).length;lia
end
def xvp{l:W.OpenLaw}(oK:mg "law"=E (.ref fa))(b:∀(s:ag) (v:sV),mF s q3E ⟨[v],[]⟩ [("_law_script",v)])(T:Txt w K mg ⟨q0H,q18,q2f,q2W,q0V,q2q,q0I,q19,q1M,q2J,q1l,q2r,q1m,q2s,q09,q2a,q1a,q2b,q0v,q04,q0M,q1n,q1N,q2K,q1O,q2L,q2g,q2X,q1P,q2M,q1o,q2t,q1p,q2u,q0Z,q1I,q2h,q2Y,q2i,q2Z,q20,q3n,q1q,q2v,q1Q,q2N,q1R,q2O,q2B,q29,q0N,q1r,q2j,q21,q1S,q2P,q2V,q3f,q0A,q1h,q0O,q1s,q0P,q1t,q1u,q1v,q3g,q3w,q00,q1J,q1T,q2Q,q0w,q05,q0B,q1i,q0Q,q1w,q2C,q3a,q1U,q2R,q2D,q2E,q2F,q3b,q0R,q1x,q2k,q22,q23,q3o,q1V,q2S,q1y,q2w,q01,q1K,q0x,q06,q3q,q3F,q3r,q3G,q3p,q1z,q2x,q0S,q1A,q02,q03,q0C,q1j,q2G,q3c,q24,q25,q3s,q3H,q3h,q3x,q2l,q26,q0p,q0D,q0n,q0E,q1B,q2y,q1C,q2z,q0J,q0K,q0W,q1D,q1b,q2c,q0L,q1c,q1E,q2A,q0T,q1F,q0h,q0u,q0l,q0m,q1d,q2d,q1e,q2e,q1W,q2T,q1G,q2m,q0f,q0o,q0q,q0F,q0U,q1H,q0G,q1k,q0y,q07,q0s,q0X,q0j,q0t,q0g,q0r,q2n,q27,q1X,q2U,q1f,q1g,q2H,q3d,q2I,q3e,q3i,q3y,q3j,q3z,q3k,q3A,q3l,q3B,q3t,q3I,q3u,q3J,q3m,q3C,q3v,q3K,q3D,q3E,q28,q0a,q0b,q0i,q0e,q0c,q0d,q0k,q2o,q2p,q1Y,q1Z,q10,q11,q12,q13,q14,q15,q16,q17,q3L,q1L,q0z,q0Y,q08⟩):∃fd:ay,(∀(s:ag) (v:sV),mF s fd ⟨[v],[]⟩ [("_law_script",v)])/\∀base:Heap,K.In base->base.Ns cg mg->yA l.prog w K mg base sR 14 fa fd ["_law_script"] (LL K):=by
 have e:=oK.symm.trans T.QM;injection e with e;injection e with e;subst e;show⟨_,b,λbase _ _=>P4 T⟩
end Internal.K83
open PySem PySem.W PyProof.Rows
structure PySem.W.Fast:Prop where
 (tw16174508163768748800 tw15341185892218565153 tw13177944049591625505 tw7459316537924131809 tw9715026748706538465 tw2553417570350896578 tw13865315795922435906 tw4995975430700930019 tw16389464571093961989 tw3596735017185127877 tw7725083306687341061 tw11404857241122772901 tw3486074262744017990 tw14553955258185700070 tw16919832191907599463 tw13716943678366715303 tw7181650585430119079 tw4261111501277634503 tw11897746180364407880 tw12186517185387034056 tw16408100429363796554 tw17239084845054490346 tw17517513195901362924 tw15717129465492676749 tw12479052507371054765 tw5501376838777544846 tw773973757949577711 tw13067005125558207600 tw4687238980396067984 tw1566116202955075891 tw1954181611792574003 tw14575749463573103958 tw3598993058748255703 tw17709126268840563255 tw10764140985928346327 tw13532472552019930039 tw13604630432615043096 tw6960060123228008504 tw12270198610037027416 tw15082365074021807898 tw17021733629564258363 tw7480626454143059996 tw14232982774716629404 tw15984571410477513757 tw12220415841971870878 tw9329171623253464351 tw10157717933691230719 tw17786062129311774389 tw18124508987144392039 tw1239905155021519231 tw10081336899953206989 tw16350763381503284922 tw18265478352285189786 tw16462129734519987025 tw1496157413031113400 tw12298172150897964620 tw14548021000915500747 tw2901002198703922042 tw1969562616726018858 tw14273070995921535127 tw13159764861987136963 tw1738929856015281665 tw1355905539505642932 tw5629394884982492975 tw3725395819862824365 tw7640805018602988504 tw1553177821347232326 tw14393320385604398896 tw4032745193838728257 tw8208171289299503662 tw6786130055199903393 tw4841437075952177200 tw7682816250189408327 tw13183001490715539578 tw8847370119265385406 tw14522144238900134556 tw14228815017264363968 tw5606847602176521950 tw17916971633535963821 tw10061426224284855186 tw9714601418707547063 tw7239239129395842717 tw10626093688538309353 tw17797420492821361679 tw5167249384324637240 tw7884566450600423397 tw14086238865540635817 tw8706685415047352124 tw15131459463394089996 tw3778790079116082702 tw11694655406378818054 tw2755575094159835370 tw8969758677452861018 tw12082268962297435263 tw3745325601291848166 tw9783918003061698047 tw12706270218166402652 tw205112856123425578 tw4356276943637411019 tw974213208924087447 tw10979307775779281062 tw12902469236425541754 tw15500227977583566860 tw150798144454810252 tw4653626188949918772 tw14647636699577808173 tw12439480092352282915 tw12354962446996375174 tw8795467055098880169 tw5167714036126233249 tw13113340389194698829 tw10831234152003575902 tw14147621990483766850 tw1367816643010752219 tw9626885425212448124 tw10010881602094345059 tw13723938187736141472 tw16345970523435712634 tw11117273844550923754 tw11048603810251804336 tw3825365299957217041 tw12803380659830509848 tw1849872938985827742 tw9074321465640139028 tw14297786900471833867 tw6947327319514164703 tw14537481972612261770 tw7743308150805087576 tw2937602171591966728 tw14319870637408241559 tw1319046241077155795 tw3601692294172743045 tw1120976320202179602 tw11365989427037343653 tw880469864265822312 tw18071636490898554428 tw12661305303287950013 tw7674444224365491758 tw13252808464189055403 tw15633139238831605963 tw7128936368746710284 tw1411492346140841532 tw5031574317881396193 tw8853282817192002432 tw10039895287246203699 tw8121773999083477121 tw14331536750315872963 tw10077247145970999775 tw1749948151383558393 tw17428333932936925880 tw5403703135039440287 tw4015449624442259901 tw3535549635296704985 tw6821892418928741646 tw18134856599512763863 tw12132055710482030829 tw16993012126726258621 tw14926894827378841081 tw1392041027738526417 tw14649711790650454207 tw4812876181554763659 tw7132887262447731746 tw1137238261199308034 tw6049535353482341115 tw5389407492345912646 tw3348616241166944345 tw8259602373744873630 tw14108359456267282595 tw4682498948132135372 tw11448204305253228092 tw1651568323986026236 tw3799295471573643327 tw1778222967425745616 tw16673169613137514552 tw17705766592135918408 tw10482061076311523622 tw2172678586220748232 tw10362315411541237389 tw7988483184818786659 tw12180793091302488535 tw9466290052265216972 tw10465266410073173684 tw17232160530414209623 tw8207415669846160775 tw10691017197112631867 tw5262514087056079661 tw14399522130820387034 tw1349055383467947063 tw4224641399412863821 tw2347681476858171858 tw6004167422676020461 tw14059333443545909878 tw6180862555130309250 tw3279871924201849908 tw5381117791912834052 tw6601802768185001118 tw3023244393411333089 tw12931189132043056828 tw16197062101744845406 tw4929615144157386831 tw9626510244206082318 tw1110734423266004964 tw6012215725785060287 tw17815243352514024202 tw4587724485974793451 tw14271062708471484618 tw4515795059803719205 tw18222489976065536847 tw1598810974353929650 tw11701221263641507438 tw6719312313921589526 tw12875305426219873889 tw10499155042225028962 tw804780657053749138 tw11099948326377052743 tw14982829200472324311 tw8835951805813964266 tw7689453340483229078 tw15329780088122043288 tw11222770176100263160 tw13349121765151081532 tw1993894199056789488 tw10211100736438607506 tw4391414165690422539 tw6425370938271242922 tw2876222567596839105 tw8773389915478646509 tw473415692286152878 tw8722678995949115175 tw12947696323226232321 tw3252836114930201596 tw10448166134585232206 tw14926057873859230888 tw10554250364095205124 tw13482018985924959436 tw10071256014220208981 tw5536371080132242881 tw416976760564182878 tw18150048979458555236 tw8644070416322319530 tw12771010067189537119 tw405411473887256596 tw6169451741512634304 tw12803992205390528403 tw4365966640828730062 tw6301743178300300406 tw814279750741913196 tw1482571875191235831 tw9350614480330241409 tw6905909592413712882 tw2952776148016789830 tw3024995870224495633 tw5293288195313091249 tw6652994635984722418 tw10781770214249963655 tw7288243005771105402 tw3185828558413806353 tw9658632957140615289 tw13964769106007694746 tw12315125499686073176 tw10924430350058261755 tw8684494409227486449 tw6575345472262973889 tw7007813962327608989 tw5171904614586511509 tw15954054165338360442 tw12925714425877070884 tw1563570031347806748 tw18223825292883658500 tw13525472130719110549 tw17723713511633214231 tw8565186876519899273 tw11012905519067980814 tw17756481185360649159 tw11139511776580231754 tw2502010667790211158 tw2166531696904896854 tw4901248109133237332 tw15828763858389488422 tw16870061004380603012 tw2510003600574795448 tw7479179729268985327 tw11049764824095247690 tw14940376520296184416 tw9826064374650884071 tw14065372571843165211 tw12490156929957664491 tw18227360462998001381 tw9570269646921559905 tw985890580796861828 tw11656549936951108512 tw10457252954394277497 tw1131123917754680456 tw12563701651607286663 tw1904686970521847163 tw5468029102129029924 tw6514102944006073670 tw16974211792187752740 tw2682680442158656894 tw9722306155653112902 tw12238594516721583455 tw6850708872901105792 tw1328318538066240357 tw15803820674200287498 tw3695242323717533301 tw9882191977507541739 tw14156587198418091558 tw3510344275448185296 tw16680396767349049948 tw18137157763536679169 tw2928292308289623224 tw5832570096500726219 tw3068341154685711026 tw10930130250702381850 tw4991370793006447756 tw1282138929360263939 tw8943236684041744231 tw11867396811256857100 tw1281626053417461705 tw17338620572729140740 tw6155491589951170960 tw5039335744299208990 tw197206009432110456 tw15215259316139378373 tw1707698999666324133 tw4198609622741126610 tw15019094230462367221 tw4150494865769428741 tw10805487067881337440 tw17012090599501401372 tw4728480995945099629 tw10144863932527887444 tw8978307818021955029 tw10642172462820741957 tw13489933400893389197 tw15386652012126171261 tw9486662248706430731 tw13556852456405070698 tw18386921841475013254 tw130263148864310585 tw12406750219779928172 tw1274982201670412645 tw4844171442519141647 tw11470163075832472377 tw11524162109183297288 tw10059747153090861692 tw16682428978435462079 tw572938959179048745 tw17329119922388599501 tw15974252420984471583 tw4540213297786667460 tw4979844817248332736 tw5684292896299016539 tw6096816094751997574 tw10098763066738007975 tw10537776023749944104 tw10835151202055177703 tw11379390981625089699 tw11601046877813015628 tw11690519770514322527 tw12211276858282390448 tw13118602107819154678 tw139393956959992545 tw14110767735952772709 tw14647095001331058470 tw14953540452220831736 tw15519775064345451369 tw15698553370147297337 tw15964652522727091029 tw15992451680105124183 tw16161999912906352315 tw16419658733746123621 tw16610532615079851435 tw17332416086734919032 tw17420606763979567724 tw17756896173617639401 tw244490332178468159 tw2888903131471579305 tw3513568132420629907 tw3848279967798901739 tw4207839055012140242 tw4648799884898401910 tw4661766944215535227 tw4985767011743118305 tw510801594012374376 tw5112460663606560735 tw5480619660537609363 tw5785902207681917806 tw5876252639610107316 tw660110527231778778 tw7070636618658725604 tw7298536679841786121 tw7661719935265528939 tw819912888040280526 tw8523605957999126744 tw8690947833010107290 tw9438690513194488013 tw9498228167450402765 tw9601021442291688109 tw14341709045591916904 tw7137434146459734832 tw12675389276522567703 tw10098999008565696119 tw10705400112938148733 tw10780405039358203838 tw10943192381638715679 tw11102119484921087361 tw1136848622831724954 tw11568655997605929113 tw11630677997362218034 tw11963087030889314378 tw12176368755445906073 tw12928468999367413333 tw12938709817402458506 tw12941286958179660060 tw12985900113079690772 tw13155251122970909374 tw13784862561585643909 tw13947905634815312514 tw14019920911860033308 tw14149285764702748355 tw14161123605758976050 tw14359689155866224378 tw15105572815931419460 tw15156213918474051771 tw15561160919070209023 tw15727232596410999678 tw15761712461445838275 tw16257790789102393994 tw16303883716951578732 tw16857716329763210252 tw16904444671700802076 tw17154098204101436824 tw17154128810040120229 tw17270717947760431158 tw1740975868321140309:True)
set_option maxRecDepth 100000 in
set_option maxHeartbeats 0 in
theorem PySem.Challenge.cw_oneroom_k83_whole_desk_holds : PySem.Challenge.rw_oneroom_k83_whole_desk.Holds := by
 w_on;o_law;k_head;(case hw=>w_witness2)
 k_fill
 refine L2.xqx (l:=PySem.Challenge.rw_oneroom_k83_whole_desk) (n:=63) (k:=14) (x:="_law_script") (CX:=L2.sR) (sp:=K83.LL) (tabs:=[(K83.vU,K83.ur,K83.vt),(K83.Ia,K83.uu,K83.ve),(K83.uL,K83.yY,K83.zA),(K83.HI,K83.vH,K83.jH),(K83.vk,K83.zF,K83.uM),(K83.zL,K83.yM,K83.zy),(K83.vm,K83.zG,K83.uN)]) rfl #[6] rfl ⟨Y,by decide,by decide⟩ (fun w h rO=>PySem.W.km_in_of rO) (fun w h rO KX=>(List.forall_mem_cons.mpr ⟨⟨PySem.W.codeHd_of_K (c:=K83.vU) (P:=K83.ur) KX #[9],PySem.W.km_tabs_of rO _ #[6]⟩,(List.forall_mem_cons.mpr ⟨⟨PySem.W.codeHd_of_K (c:=K83.Ia) (P:=K83.uu) KX #[9],PySem.W.km_tabs_of rO _ #[6]⟩,(List.forall_mem_cons.mpr ⟨⟨PySem.W.codeHd_of_K (c:=K83.uL) (P:=K83.yY) KX #[9],PySem.W.km_tabs_of rO _ #[6]⟩,(List.forall_mem_cons.mpr ⟨⟨PySem.W.codeHd_of_K (c:=K83.HI) (P:=K83.vH) KX #[9],PySem.W.km_tabs_of rO _ #[6]⟩,(List.forall_mem_cons.mpr ⟨⟨PySem.W.codeHd_of_K (c:=K83.vk) (P:=K83.zF) KX #[9],PySem.W.km_tabs_of rO _ #[6]⟩,(List.forall_mem_cons.mpr ⟨⟨PySem.W.codeHd_of_K (c:=K83.zL) (P:=K83.yM) KX #[9],PySem.W.km_tabs_of rO _ #[6]⟩,(List.forall_mem_cons.mpr ⟨⟨PySem.W.codeHd_of_K (c:=K83.vm) (P:=K83.zG) KX #[9],PySem.W.km_tabs_of rO _ #[6]⟩,(fun _ z=>nomatch z)⟩)⟩)⟩)⟩)⟩)⟩)⟩)) (fun w=>by kernel_rfl) #[6] ?F ?S ?C
 case F=>
  intro w mg fa h KX G hmg
  refine' K83.xvp hmg ?b ?T
  case T=>
   constructor
   all_goals try dsimp only
   iterate 3 all_goals first|exact PySem.W.mg_of KX G (by k_is)|exact PySem.W.mg_none_of KX G (by k_is)|exact L2.xv1 (L2.xuk (by k_is) (by k_is) (by k_is))|exact L2.xsq #[9]|exact⟨⟨_,_,by k_is,by exact⟨⟨_,_,Y,Y⟩,⟨_,_,Y,Y⟩,⟨_,_,Y,Y⟩,⟨_,_,Y,Y⟩,⟨_,_,Y,Y⟩,⟨_,_,Y,Y⟩,⟨_,_,Y,Y⟩,⟨_,_,Y,Y⟩,⟨_,_,Y,Y⟩,⟨_,_,Y,Y⟩,True.intro⟩⟩,by first|k_is|kernel_rfl,(L2.vq (by k_is) (L2.vq (by k_is)<|L2.vq (by k_is) (L2.vq (by k_is)<|L2.vq (by k_is) (L2.vq (by k_is)<|L2.vq (by k_is) (L2.vq (by k_is)<|L2.vq (by k_is) (L2.vq (by k_is)<|fun _ _ z=>nomatch z)))))),fun _ z=>nomatch z⟩|(exact L2.xuZ (L2.xsx (by k_is) (by k_is) (by k_is) (by k_is)) ["",""] (fun _ _ _ _ _ _ _ _ _ _=>⟨_,Y,Y⟩)<|fun _ _ _ _ _ _ _ _ _=>⟨_,Y,Y⟩)|exact fun _=>.inr ⟨_,_,_,by k_is,Y,Y,by simp[sizeLine_eq],by repeat (first|exact .nil|refine .cons (by first|rfl|exact⟨_,Y⟩) ?_)⟩|exact fun e=>.ins e ⟨by k_is,by k_is,by k_is,by k_is⟩ (by k_is) (by k_is) (by k_is) (by k_is)|exact⟨by first|k_is|kernel_rfl⟩|exact⟨by k_is,by k_is,by k_is⟩|exact⟨by k_is,by k_is,by k_is,by k_is⟩|exact⟨by kernel_rfl,by kernel_rfl,by kernel_rfl,by kernel_rfl,by kernel_rfl,by kernel_rfl⟩|exact⟨by kernel_rfl,by kernel_rfl,by kernel_rfl,by kernel_rfl,by kernel_rfl,by kernel_rfl,by kernel_rfl,by kernel_rfl⟩|k_is|(show _=_;k_is)|kernel_rfl|(show L2.FG _ _ y=sX;kernel_rfl)|rfl|skip
  case b=>exact fun s v=>.of_eq rfl
 case S=>exact fun K H a ns hl hS hT=>⟨a,ns,Y,hS,hl,hT _<|.head _,hT _ (.tail _<|.head _),hT _<|.tail _ (.tail _<|.head _),hT _ (.tail _<|.tail _ (.tail _<|.head _)),hT _<|.tail _ (.tail _<|.tail _ (.tail _<|.head _)),hT _ (.tail _<|.tail _ (.tail _<|.tail _ (.tail _<|.head _))),hT _<|.tail _ (.tail _<|.tail _ (.tail _<|.tail _ (.tail _<|.head _))),fun _=>Y⟩
 case C=>exact fun _ _ _ _ z=>z
#print axioms PySem.Challenge.cw_oneroom_k83_whole_desk_holds
