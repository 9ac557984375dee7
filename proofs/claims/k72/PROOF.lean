import PyProof.Rows.All
import Wide.All
import OpenK.AllK
import Wide.FinOn
import Lean
import PyProof.EqAt
import PyProof.EqKinds
import PyProof.TupleCall
import PySem.Challenge.RW_oneroom_k72_updates_gone_on_with
set_option compiler.extract_closed false
set_option bootstrap.genMatcherCode false
noncomputable section
theorem sQ(h:True:=by first|exact .inl rfl|exact .inr rfl|assumption):True:=h
def sZ:=sQ._auto_1
theorem sX(h:True:=by decide):True:=h
def sJ:=sX._auto_1
theorem sK(h:True:=by rfl):True:=h
def sV:=sK._auto_1
theorem sW(h:True:=by intro _;rfl):True:=h
def sY:=sW._auto_1
theorem tQ(h:True:=by exact xoi _):True:=h
def tZ:=tQ._auto_1
theorem tX(h:True:=by size_fits):True:=h
def tJ:=tX._auto_1
theorem tK(h:True:=by intros;exact rfl):True:=h
def tV:=tK._auto_1
namespace Internal
end Internal
open Internal
set_option Elab.async false
set_option linter.all false
set_option maxRecDepth 100000
set_option maxHeartbeats 4000000
open And renaming intro->aY
open Array renaming getElem?_eq_some_iff->dD,length_toList->dU,getElem?_setIfInBounds_ne->gm,find?_toList->kr
open Bool renaming false_ne_true->aR,not_eq_false'->dq,false_eq_true->ee,eq_iff_iff->fj,false_or->fU,and_eq_true->fX,true_or->ix
open False renaming elim->bc
open ForInStep renaming yield->d9
open Function renaming comp_def->kJ
open Int renaming toNat_of_nonneg->cb,le_refl->cI,toNat_natCast->cL,emod_lt_of_pos->dn,emod_nonneg->ez,toNat->gR,zero_add->iH
open List renaming length_map->ag,mem_singleton->aj,replicate->ao,mem_cons->av,getElem?_eq_some_iff->aw,length_append->aC,getElem?_eq_getElem->aD,getElem?_map->aF,mem_append_right->aI,mem_of_getElem?->aK,mem_cons_of_mem->aL,not_mem_nil->aV,mem_append->aW,size_toArray->aX,mem_append_left->ba,length_replicate->bf,mem_cons_self->bh,getElem?_append_left->bj,getElem?_eq_none->bw,getElem?_append_right->bx,length_take->bz,nodup_cons->bA,mem_iff_getElem?->bB,length_cons->bD,map_append->bH,getElem?_set_ne->bK,map_cons->bO,append_assoc->bP,drop_eq_getElem_cons->bQ,drop_eq_nil_of_le->bS,lookup_cons->bV,nil_append->bY,mem_map->bZ,getElem?_set_self->b9,take_succ->cu,take_length->cy,take_of_length_le->cz,append_nil->cC,length_set->cD,getElem?_drop->cG,mem_of_mem_drop->cK,find?_cons->cM,length_drop->cT,cons_append->cU,flatten_cons->cX,all_eq_true->df,nodup_nil->dg,mem_filterMap->dm,getElem?_take->dv,of_mem_zip->dy,getD_eq_getElem?_getD->dG,mem_range->dO,getElem?_take_of_lt->dP,mem_flatten->dS,replicate_succ->dW,length_pos_iff->dX,range->d7,find?_eq_none->eu,lookup->eB,foldl_append->eE,ext_getElem?->eF,take_zero->eN,getElem_mem->eU,mem_flatMap->eW,mem_of_mem_take->eX,filterMap_cons->fg,length_nil->fq,drop_length->gc,mem_filter->gn,mem_iff_getElem->gv,flatMap_append->gC,getElem?_range->gD,length->gF,length_range->g7,getElem?_set->g8,mem_of_find?_eq_some->g9,pairwise_iff_getElem->hZ,mem_or_eq_of_mem_set->ia,map_nil->iu,getElem?_replicate->iI,length_singleton->iY,drop_zero->i6,take_left->i7,any_cons->kh,mem_map_of_mem->km,getElem_range->kB,filter_append->kC,contains_cons->kD,ne_nil_of_mem->kE
open List.Perm renaming refl->kO
open Nat renaming le_refl->ay,lt_of_lt_of_le->aJ,ne_of_lt->aQ,le_trans->bG,zero_le->bL,lt_irrefl->cg,le_succ->dN,lt_of_le_of_lt->d8,le_of_lt->eG,succ_mul->eJ,not_lt_zero->fx,ne_of_gt->gr,mul_le_mul_right->gz,mul_comm->iw,succ_ne_self->iF,zero_add->iG,div_add_mod->iP
open Ne renaming symm->au
open Option renaming map_eq_some_iff->aO,map_some->gu,isSome_map->gY,isSome_iff_exists->ip,getD_none->kM,map->kN
open Option.some renaming inj->bt,injEq->kH
open Or renaming inl->az,inr->cW
open Prod renaming snd->kd
open Prod.mk renaming injEq->dF
open PyProof renaming noPylong_of_log2->iy
open PyProof.Rows renaming callWith_type1->bW,envOfC->cV,AllBare->fJ,Constant_none->gS,IntsAre->iW,boot_range->j6,subscriptTail->kg
open PySem renaming wpAny_bind->af,Shared->ak,FuncData->ax,wpAny_pure->aA,starEach->aE,Program->aH,wpAny_mono->aN,sizeLine->aU,sizeLine_eq->aZ,Around->bo,mainGlobals->br,compareOp->bF,wpAny_holding->bJ,bootBuiltins->bM,rawInt->bN,backTo->bR,wpAny_Call_Name_kw->bX,wpAny_standAt->ck,wpAny_field->cw,wpAny_truthy_bool->cA,codeAny_mono->cE,codeAny->cP,builtinsNs->cQ,behindInMarks->cR,wpAny_loadPart_at->cY,Arguments->cZ,binaryOp->c8,NameKind->c9,wpAny_execs_nil->dw,codeAny_call_function->dz,codeAny_handlers_test->dA,bindArgs->dB,wpAny_newFunctionEnv_cells->dC,wpAny_call->dH,wpAny_handleBy_cons->dY,sysModules->d5,wpAny_updateSeq->eg,wpAny_newObj_type->eC,wpAny_pyIter_enum->eD,wpAny_setField->eK,swapsWith->eO,FuncBody->eS,codeAny_call_builtin->eV,plainId_quiet->eY,sliceBounds->eZ,excClassObj->fc,wpAny_passesOwn->fh,codeAny_handlers_suite_as->fw,codeAmong->fA,callWith->fD,tupleKind_room_in1->fE,PyData->fF,holding->fK,wpAny_seqItems->fL,cameBackBy->fN,wpAny_callSpecial?_slot->fO,wpAny_pyIter_list->fP,foldedSetIterable->fQ,keywordEach->fT,ExceptHandler->fV,wpAny_execs_cons->fW,wpAny_Try_except->fZ,wpAny_isTrue_Compare1->gd,getMethod->gf,plainObj_wpAny_Assign_Attribute->gk,assignEach->gp,letOwnedTupleGo->gs,codeAny_builtin->gw,unbindBehindTheSuite->gx,wpAny_isSubtype_exc->gB,wpAny_letGo->gG,wpAny_of_eq->gH,assign->gK,wpAny_pyIter_tuple->gL,cellsFrom->gM,attributeBase->gU,wpAny_letOwnedTupleGo_enum->gW,wpAny_assign_Name->gX,wpAny_Call_ofName->gZ,standAt->ic,valueAt->ie,callerA->ig,Result->ij,backToKw->il,codeAny_func->ir,wpAny_comprehension_free->iz,intItems->iB,wpAny_call_entry->iD,IsEnum->iE,wpAny_pyNext_enum_itemD->iJ,tupleKind->iK,TriplesOk->iL,updateSeq->iM,seqItems?->iN,wpAny_loadPart'->iO,subscripted->iR,wpAny_loadPart->iT,recursionLimit->iU,BindsTo->iV,getItem->iX,wpAny_tryCatch->iZ,Builtin->i3,typeLookup->j0,call_meets->j3,closureFor->j4,IsLongIter->j5,evalArgs->j9,isInstance->ka
open PySem.Around renaming frames_deeper->i9,under_plainId->j8,under->ku
open PySem.AutoSeq1 renaming wpAny_loadPart'->fH
open PySem.Builtin.Builtins renaming bindParams->gO
open PySem.Builtin.List renaming listExtendWith->cO,listTooLong->dQ,listSameRef->iA,listItems->iS
open PySem.Builtin.ObjectAttr renaming storeInDict->gy
open PySem.Builtin.Range renaming rangeSize->bq,small->gA
open PySem.Builtin.SmallTypes renaming nextOf->dI,fitsIndex->eM
open PySem.Calls renaming Name_function_global->gT
open PySem.Code renaming quiet_builtin->gQ,isFrame->kz
open PySem.EntryCells renaming newEntry->kn
open PySem.F renaming slot_tuple_iterator_next->dE,plain_max_loop->dR,args_tuple_iterator_next_1->gE,entry_tuple_iterator_next->gP,entry_enumerate_new->i4,slot_enumerate_next->i5
open PySem.Heap renaming get?_push_of_some->ai,lt_size->aB,get?_push_size->aT,get?_update_other->bg,get?_update_self->bu,size_push->eI,get?_none_of_le->eQ,SameBut->fB,get?_update_ne->ko,ExtBut->kL
open PySem.Heap.Ns1 renaming of_empty->kF
open PySem.Heap.SameBut renaming update->dZ
open PySem.NameKind renaming free->bT,cell->ki
open PySem.Obj renaming mapFields->bU,mapSeq->dk,data_mapFields->fG,isFreed_of_fields->gj
open PySem.PyData renaming canLay0->bC,depth->cH,eqv->eo,depthAll->fy,int->fM,canLayAll0->fR
open PySem.SeqAt renaming shaped->cF
open PySem.Str renaming ofString->bE
open PySem.Value renaming ref->aG,none->bp,bool->di,type->eP,int->gI,str->gJ,builtin->kj,float->kK
open PySem.W renaming Frag->aq,kitCls->aM,findIn->aS,fnOf->cq,keepIn->cx,codeIn->cS,emptyDict->dJ,kia_one->dM,cellsFrom_some->eR,methodCall_KW->fk,instObj->fz,callWith_K->fC,hasDictIn->fS,tabObj->fY,mroIn->gi,envX->gN,kitOne->ik,codeRec_of->iq,nsIn->iC,specialIn->iQ,plainGet->i8,CodeHd->j7,plainGet_of->ke,looks_clsIn->kf
open Sum renaming inl->c7,inr->ib
open True renaming intro->cJ
namespace Internal.L2
open PySem PySem.Spec PyProof.Rows
variable {H H':Hp} {X:Cx} {s s':ak} {σ:St} {pins:List (Addr×Obj)} {A:bo} {x m:Str} {pos p:Pos} {u:Value} {a C b dx f:Addr} {E Q:Value->ak->Prop} {K:aq} {w:World} {h h' base:Heap} {e tg:Expr} {o:HO} {P:aH} {us:List Value} {t' i:Nat} {M:Model} {v y:V} {ta te tb:TE} {es:List Expr} {op:CmpOp} {ps N:List Str} {xs vs:List V} {g:TG} {pl:Sem Bool} {t:TA} {CX:CXT} {α:Type} {ch fp:List Addr} {D:Ends} {mA mg:Str->Option Value} {kw:List (Str×Value)} {fd:ax} {sp:Sp}
inductive Ex2{α β:Type}(p:α->β->Prop):Prop
 |intro(a:α) (b:β) (h:p a b):Ex2 p
inductive Ex3{α β γ:Type}(p:α->β->γ->Prop):Prop
 |intro(a:α) (b:β) (c:γ) (h:p a b c):Ex3 p
inductive Ex4{α β γ δ:Type}(p:α->β->γ->δ->Prop):Prop
 |intro(a:α) (b:β) (c:γ) (d:δ) (h:p a b c d):Ex4 p
inductive Ex5{α β γ δ ε:Type}(p:α->β->γ->δ->ε->Prop):Prop
 |intro(a:α) (b:β) (c:γ) (d:δ) (e:ε) (h:p a b c d e):Ex5 p
inductive Ex6{α β γ δ ε ζ:Type}(p:α->β->γ->δ->ε->ζ->Prop):Prop
 |intro(a:α) (b:β) (c:γ) (d:δ) (e:ε) (f:ζ) (h:p a b c d e f):Ex6 p
inductive Ex7{α β γ δ ε ζ η:Type}(p:α->β->γ->δ->ε->ζ->η->Prop):Prop
 |intro(a:α) (b:β) (c:γ) (d:δ) (e:ε) (f:ζ) (g:η) (h:p a b c d e f g):Ex7 p
inductive Ex8{α β γ δ ε ζ η θ:Type}(p:α->β->γ->δ->ε->ζ->η->θ->Prop):Prop
 |intro(a:α) (b:β) (c:γ) (d:δ) (e:ε) (f:ζ) (g:η) (i:θ) (h:p a b c d e f g i):Ex8 p
inductive Ex9{α β γ δ ε ζ η θ ι:Type}(p:α->β->γ->δ->ε->ζ->η->θ->ι->Prop):Prop
 |intro(a:α) (b:β) (c:γ) (d:δ) (e:ε) (f:ζ) (g:η) (i:θ) (j:ι) (h:p a b c d e f g i j):Ex9 p
inductive xsa{α β γ δ ε ζ η θ ι κ:Type}(p:α->β->γ->δ->ε->ζ->η->θ->ι->κ->Prop):Prop
 |intro(a:α) (b:β) (c:γ) (d:δ) (e:ε) (f:ζ) (g:η) (i:θ) (j:ι) (k:κ) (h:p a b c d e f g i j k):xsa p
inductive xsb{α β γ δ ε ζ η θ ι κ ℓ:Type}(p:α->β->γ->δ->ε->ζ->η->θ->ι->κ->ℓ->Prop):Prop
 |intro(a:α) (b:β) (c:γ) (d:δ) (e:ε) (f:ζ) (g:η) (i:θ) (j:ι) (k:κ) (l:ℓ) (h:p a b c d e f g i j k l):xsb p
def oG{R:Prop}(h:∀G:Prop,(R->G)->G):R:=h R id
abbrev Key:=Sum Int Str
noncomputable def xfE:Key->Value->Bool
 | .inl k,v=>Value.isInt k v
 | .inr x,v=>Value.isStrOf x v
def xtS(w:World):Key->Int
 | .inl k=>hashInt k
 | .inr x=>hashStr w x
theorem zp:∀{k:Key} {v:Value},xfE k v=true->(∃i t,k=c7 i/\v=gI i t)\/(∃x t,k=ib x/\v=gJ x t)
 | .inl i,v,h=>by
  obtain⟨t,e⟩:=Value.isInt_shape (k:=i) (v:=v) h;exact .inl ⟨i,t,rfl,e⟩
 | .inr x,v,h=>by
  obtain⟨t,e⟩:=Value.isStrOf_shape (x:=x) (v:=v) h;exact .inr ⟨x,t,rfl,e⟩
def xoa(i:Int)(t:Tok):xfE (.inl i) (.int i t)=true:=by simp[xfE,Value.isInt]
def xob(x:Str)(t:Tok):xfE (.inr x) (.str x t)=true:=by simp[xfE,Value.isStrOf]
def xsc(a b:Int):decide ((c7 a:Key)=c7 b)=(a==b):=by
 by_cases e:a=b
 ·subst e;simp
 ·have h:¬(c7 a:Key)=c7 b:=λq=>e (Sum.inl.inj q);rw[decide_eq_false h];exact(beq_eq_false_iff_ne.mpr e).symm
def xsd(a b:Str):decide ((ib a:Key)=ib b)=decide (a=b):=by
 by_cases e:a=b
 ·subst e;simp
 ·have h:¬(ib a:Key)=ib b:=λq=>e (Sum.inr.inj q);rw[decide_eq_false h,decide_eq_false e]
def xse(a:Int)(b:Str):decide ((c7 a:Key)=ib b)=false:=decide_eq_false (λq=>nomatch q)
def xsf(a:Str)(b:Int):decide ((ib a:Key)=c7 b)=false:=decide_eq_false (λq=>nomatch q)
def zf(prog:aH)(w:World):PySem.KeyKind prog w Key where
 is:=xfE
 hash:=xtS w
 inj:=λv a b ha hb=>by
  rcases zp ha with⟨i,t,rfl,rfl⟩|⟨x,t,rfl,rfl⟩
  ·rcases zp hb with⟨j,u,rfl,e⟩|⟨y,u,rfl,e⟩
   ·injection e with e1 _;rw[e1]
   ·exact nomatch e
  ·rcases zp hb with⟨j,u,rfl,e⟩|⟨y,u,rfl,e⟩
   ·exact nomatch e
   ·injection e with e1 _;rw[e1]
 byValue:=λk v h=>by
  rcases zp h with⟨i,t,rfl,rfl⟩|⟨x,t,rfl,rfl⟩<;> rfl
 pyHash:=λhv h=>by
  rcases zp hv with⟨i,t,rfl,rfl⟩|⟨x,t,rfl,rfl⟩
  ·exact wpAny_pyHash_int h
  ·exact wpAny_pyHash_str h
 eqBool:=λhu hv h=>by
  rcases zp hu with⟨i,t,rfl,rfl⟩|⟨x,t,rfl,rfl⟩
  ·rcases zp hv with⟨j,u,rfl,rfl⟩|⟨y,u,rfl,rfl⟩
   ·rw[xsc]at h;exact wpAny_eqBool_int h
   ·rw[xse]at h;exact SeqAt.EqAt.int_str i t y u _ _ _ _ h
  ·rcases zp hv with⟨j,u,rfl,rfl⟩|⟨y,u,rfl,rfl⟩
   ·rw[xsf]at h;exact SeqAt.EqAt.str_int x t j u _ _ _ _ h
   ·rw[xsd]at h;exact wpAny_eqBool_str h
 «strs»:=λk x t v h=>by
  rcases zp h with⟨i,u,rfl,e⟩|⟨y,u,rfl,e⟩
  ·exact nomatch e
  ·injection e with e1 _;subst e1;cases v<;> rfl
def xlF(prog:aH)(w:World)(i:Int)(t:Tok):(zf prog w).is (.inl i) (.int i t)=true:=xoa i t
def xlG(prog:aH)(w:World)(x:Str)(t:Tok):(zf prog w).is (.inr x) (.str x t)=true:=xob x t
inductive V where
 |non|bl (b:Bool)|int (i:Int)|str (x:Str)|byt (b:Array UInt8)|flt (b:UInt64)|ref (a:Addr)|ty (n:String)
 deriving DecidableEq
def RelV:V->Value->Prop
 | .non,u=>u=bp
 | .bl b,u=>u=di b
 | .int i,u=>∃t,u=gI i t
 | .str x,u=>∃t,u=gJ x t
 | .byt b,u=>∃t,u=Value.bytes b t
 | .flt b,u=>∃t,u=kK b t
 | .ref a,u=>u=aG a
 | .ty n,u=>u=eP n
def RelV.fn{x:V}(a:RelV x u)(b:RelV y u):x=y:=by
 cases x<;> simp only[RelV]at a<;> (first|subst a|(obtain⟨_,rfl⟩:=a))<;> cases y<;> simp only[RelV]at b<;> first|rfl|(cases b;done)|(cases b;rfl)|(obtain⟨_,b⟩:=b;cases b;done)|(obtain⟨_,b⟩:=b;cases b;rfl)
abbrev Vals:List V->List Value->Prop:=Paired RelV
def Vals.length(r:Vals xs us):xs.length=us.length:=Paired.length r
theorem Vals.get:∀{xs:List V} {us:List Value} {i:Nat} {x:V},Vals xs us->xs[i]? =some x->∃u,us[i]? =some u/\RelV x u
 |_,_,_,_,.nil,e=>by simp at e
 |_,_,0,_,.cons r _,e=>by simp at e;subst e;exact⟨_,rfl,r⟩
 |_,_,i+1,x,.cons _ t,e=>by
  obtain⟨u,h1,h2⟩:=Vals.get (i:=i) (x:=x) t (by simpa using e);exact⟨u,by simpa using h1,h2⟩
theorem Vals.set{x:V}{u:Value}(r:RelV x u):∀{xs:List V} {us:List Value} (i:Nat),Vals xs us->Vals (xs.set i x) (us.set i u)
 |_,_,_,.nil=>.nil
 |_,_,0,.cons _ t=>.cons r t
 |_,_,i+1,.cons q t=>.cons q (Vals.set r i t)
theorem Vals.append:∀{xs ys:List V} {us ws:List Value},Vals xs us->Vals ys ws->Vals (xs++ys) (us++ws)
 |_,_,_,_,.nil,s=>s
 |_,_,_,_,.cons r t,s=>.cons r (Vals.append t s)
theorem Vals.take:∀{xs:List V} {us:List Value} (n:Nat),Vals xs us->Vals (xs.take n) (us.take n)
 |_,_,0,_=>.nil
 |_,_,_+1,.nil=>.nil
 |_,_,n+1,.cons r t=>.cons r (Vals.take n t)
theorem Vals.drop:∀{xs:List V} {us:List Value} (n:Nat),Vals xs us->Vals (xs.drop n) (us.drop n)
 |_,_,0,r=>r
 |_,_,_+1,.nil=>.nil
 |_,_,n+1,.cons _ t=>Vals.drop n t
def vk:Option V->Option Value->Prop
 |some v,some u=>RelV v u
 |none,none=>True
 |_,_=>False
def KV{κ:Type}:List (κ×V)->List (κ×Value)->Prop:=Paired λ(p:κ×V) (q:κ×Value)=>p.1=q.1/\RelV p.2 q.2
def kV:Key->V
 | .inl i=>.int i
 | .inr x=>.str x
inductive HO where
 |lst (xs:List V)
 |tup (xs:List V)
 |dK (kvs:List (Key×V))|dT (kvs:List (List Key×V))
 |set (S:Int->Bool) (n:Nat)
 |ins (C dx:Addr) (fs:List (Str×V))
 |own (x:Addr)
 |xd (fs:List (Str×V))
 |met (f x:Addr)
 |rng (lo hi:Int)
 |frz (o:Obj) (u:HO)
 |tbl (qs:List (Pos×Str))
 |cel (v:Option V)
 |ext (φ:Heap->Prop)
abbrev Hp:=Addr->Option HO
noncomputable def upd(H:Hp)(a:Addr)(o:HO):Hp:=λb=>if b=a then some o else H b
def xp:upd H a o a=some o:=by unfold upd;rw[if_pos rfl]
def xm(h:b≠a):upd H a o b=H b:=by unfold upd;rw[if_neg h]
def uh{u:HO}:upd (upd H a o) a u=upd H a u:=by
 funext b;unfold upd;split<;> rfl
def xcO{u:HO}(h:H a=some o)(h':H b=some u)(d:o≠u):a≠b:=by
 intro e;subst e;rw[h]at h';exact d (bt h')
def xG(h:H a=some o)(h':H b=none):a≠b:=by
 intro e;subst e;rw[h]at h';cases h'
section
variable (P:aH) (w:World)
def yl(H:Hp)(h:Heap)(a:Addr):HO->Prop
 | .lst xs=>xs.length<=aU/\∃(its:List Value) (n:Nat),Vals xs its/\h.get? a=some {cls:=.type "list",data:=.seq its.toArray n}
 | .tup xs=>xs.length<=aU/\∃its:List Value,Vals xs its/\IsTup h a its.toArray
 | .dK kvs=>kvs.length<=aU/\(a==d5)=false/\∃vs,KV kvs vs/\h.DictOf (zf P w) a vs
 | .dT kvs=>kvs.length<=aU/\(a==d5)=false/\∃xs:List (List Key×Addr×Value),
   Paired (λ(p:List Key×V) (q:List Key×Addr×Value)=>p.1=q.1/\H q.2.1=some (.tup (p.1.map kV))/\RelV p.2 q.2.2) kvs xs/\
   ∃o es ep,h.get? a=some o/\o.ExactDict/\o.data= .dict es ep/\es.toList=xs.map (entryOfKey (iK (zf P w)))/\(xs.map (·.1)).Nodup
 | .set S n=>h.SetOf (intKind P w) a S n
 | .ins C dx fs=>H dx=some (.own a)/\fs.length<=1000/\dx≠a/\h.get? a=some (fz C dx)/\
   ∃mA,h.Ns1 dx mA/\(∀f,vk (fs.lookup f) (mA f))/\PySem.Within mA (fs.map (·.1))
 | .own _=>∃o,h.get? a=some o
 | .xd fs=>∃mA,h.Ns1 a mA/\∀f,vk (fs.lookup f) (mA f)
 | .rng lo hi=>∃t u v,h.get? a=some {cls:=.type "range",data:=.fields #[.int lo t,.int hi u,.int 1 v]}
 | .frz o u=>h.get? a=some o/\yl H h a u
 | .tbl qs=>∃ps:Array Value,h.get? a=some {cls:=.none,data:=.fields ps}/\iL ps.toList/\∀pos q,(pos,q)∈qs->
   fA pos ps.toList=none\/∃c o u vs t,fA pos ps.toList=some (.ref c)/\H c=some (.frz o u)/\o.data= .fields vs/\vs[1]? =some (.str q t)
 | .cel v=>∃u,h.IsCell a u/\∀x,v=some x->∃y,u=some y/\RelV x y
 | .met f x=>h.get? a=some (W.methodObj (.ref f) (.ref x))
 | .ext φ=>φ h/\(∃o,h.get? a=some o)/\∀h1 h2:Heap,φ h1->(∀o,h1.get? a=some o->h2.get? a=some o)->φ h2
def HOk(H:Hp)(h:Heap):Prop:=∀a o,H a=some o->yl P w H h a o
end
def xsg:HO->Prop
 | .tup _=>True
 | .frz _ _=>True
 |_=>False
def Fix:HO->Prop
 | .tup _=>True
 | .frz _ _=>True
 | .tbl _=>True
 | .cel _=>True
 |_=>False
theorem yl.lt(x:yl P w H h a o):a<h.objs.size:=by
 cases o with
 |lst xs=>obtain⟨_,_,_,_,e⟩:=x;exact aB e
 |tup xs=>obtain⟨_,_,_,p⟩:=x;exact p.lt
 |dK kvs=>obtain⟨_,_,_,_,o,_,_,e,_⟩:=x;exact aB e
 |dT kvs=>obtain⟨_,_,_,_,o,_,_,e,_⟩:=x;exact aB e
 |set S n=>obtain⟨o,_,_,_,e,_⟩:=x;exact aB e
 |ins C dx fs=>obtain⟨_,_,_,e,_⟩:=x;exact aB e
 |own y=>obtain⟨_,e⟩:=x;exact aB e
 |xd fs=>obtain⟨_,⟨_,_,_,e,_⟩,_⟩:=x;exact aB e
 |rng lo hi=>obtain⟨_,_,_,e⟩:=x;exact aB e
 |frz ob u=>obtain⟨e,_⟩:=x;exact aB e
 |tbl qs=>obtain⟨_,e,_⟩:=x;exact aB e
 |cel v=>obtain⟨_,⟨_,e,_⟩,_⟩:=x;exact aB e
 |met f y=>exact aB (show h.get? a=some _ from x)
 |ext φ=>obtain⟨_,⟨_,e⟩,_⟩:=x;exact aB e
theorem Paired.mapP{α β:Type}{F G:α->β->Prop}:∀{l₁:List α} {l₂:List β},Paired F l₁ l₂->(∀a b,F a b->G a b)->Paired G l₁ l₂
 |_,_,.nil,_=>.nil
 |_,_,.cons r t,f=>.cons (f _ _ r) (Paired.mapP t f)
def Paired.imp'{β:Type}{F G:α->β->Prop}(f:∀a b,F a b->G a b){l₁:List α}{l₂:List β}(r:Paired F l₁ l₂):Paired G l₁ l₂:=Paired.mapP r f
theorem yl.stay(x:yl P w H h a o)(k:∀b u,(b=a\/H b=some (.own a))->h.get? b=some u->h'.get? b=some u)
  (ho:∀b,H b=some (.own a)->H' b=some (.own a)) (ht:∀b u,H b=some u->xsg u->H' b=some u):yl P w H' h' a o:=by
 induction o with
 |lst xs=>obtain⟨z,its,n,r,e⟩:=x;exact⟨z,its,n,r,k _ _ (.inl rfl) e⟩
 |tup xs=>obtain⟨z,its,r,ob,e,c⟩:=x;exact⟨z,its,r,ob,k _ _ (.inl rfl) e,c⟩
 |dK kvs=>obtain⟨z,y,vs,r,ob,es,ep,e,c⟩:=x;exact⟨z,y,vs,r,ob,es,ep,k _ _ (.inl rfl) e,c⟩
 |dT kvs=>
  refine L2.oG λ_ Z=>?_;obtain⟨z,y,xs,r,ob,es,ep,e,c⟩:=x;apply Z;exact⟨z,y,xs,Paired.mapP r λp q z=>⟨z.1,ht _ _ z.2.1 trivial,z.2.2⟩,ob,es,ep,k _ _ (.inl rfl) e,c⟩
 |set S n=>obtain⟨ob,es,ep,t,e,c⟩:=x;exact⟨ob,es,ep,t,k _ _ (.inl rfl) e,c⟩
 |ins C dx fs=>
  refine L2.oG λ_ Z=>?_;obtain⟨d,z,ne,e,mA,⟨od,es,ep,e2,c⟩,r⟩:=x;apply Z;exact⟨ho _ d,z,ne,k _ _ (.inl rfl) e,mA,⟨od,es,ep,k _ _ (.inr d) e2,c⟩,r⟩
 |own y=>obtain⟨ob,e⟩:=x;exact⟨ob,k _ _ (.inl rfl) e⟩
 |xd fs=>obtain⟨mA,⟨od,es,ep,e,c⟩,r⟩:=x;exact⟨mA,⟨od,es,ep,k _ _ (.inl rfl) e,c⟩,r⟩
 |rng lo hi=>obtain⟨t,u,v,e⟩:=x;exact⟨t,u,v,k _ _ (.inl rfl) e⟩
 |frz ob u ih=>obtain⟨e,q⟩:=x;exact⟨k _ _ (.inl rfl) e,ih q⟩
 |tbl qs=>
  refine L2.oG λ_ Z=>?_;obtain⟨ps,e,tr,r⟩:=x;apply Z;refine⟨ps,k _ _ (.inl rfl) e,tr,λpos q m=>?_⟩;rcases r pos q m with z|⟨c,ob,u,vs,t,z1,z2,z3⟩
  ·exact .inl z
  ·exact .inr ⟨c,ob,u,vs,t,z1,ht _ _ z2 trivial,z3⟩
 |cel v=>obtain⟨u,⟨ob,e,d⟩,r⟩:=x;exact⟨u,⟨ob,k _ _ (.inl rfl) e,d⟩,r⟩
 |met f y=>
  have e:h.get? a=some (W.methodObj (.ref f) (.ref y)):=x;show h'.get? a=some (W.methodObj (.ref f) (.ref y));exact k a _ (.inl rfl) e
 |ext φ=>obtain⟨p,⟨o,e⟩,st⟩:=x;exact⟨st _ _ p λo q=>k _ _ (.inl rfl) q,⟨o,k _ _ (.inl rfl) e⟩,st⟩
def HOk.lt(x:HOk P w H h)(e:H a=some o):a<h.objs.size:=(x a o e).lt
theorem HOk.fresh(x:HOk P w H h)(e:h.objs.size<=a):H a=none:=by
 cases q:H a with
 |none=>rfl
 |some u=>exact absurd (aJ (x.lt q) e) (cg _)
def HOk.kept(x:HOk P w H h)(k:∀b u,h.get? b=some u->h'.get? b=some u):HOk P w H h':=λa o e=>
 (x a o e).stay (λb u _ q=>k b u q) (λ_ q=>q) λ_ _ q _=>q
def HOk.laid(x:HOk P w H h)(k:∀b u,h.get? b=some u->h'.get? b=some u)(hp:h.objs.size<=a)(new:yl P w (upd H a o) h' a o):HOk P w (upd H a o) h':=λb u e=>by
 have hn:=x.fresh hp
 by_cases hb:b=a
 ·subst hb;rw[xp]at e;cases e;exact new
 ·rw[xm hb]at e;exact(x b u e).stay (λc v _ q=>k c v q) (λc q=>by rw[xm (xG q hn)];exact q) λc xs q _=>by rw[xm (xG q hn)];exact q
def Rd(H:Hp)(a:Addr)(u:HO):Prop:=H a=some u\/∃o,H a=some (.frz o u)
def Rd.ok{u:HO}(r:Rd H a u)(x:HOk P w H h):yl P w H h a u:=by
 rcases r with r|⟨o,r⟩
 ·exact x a u r
 ·obtain⟨_,q⟩:=x a _ r;exact q
def Mut:Option HO->Prop
 |some (.lst _)=>True
 |some (.dK _)=>True
 |some (.dT _)=>True
 |some (.set _ _)=>True
 |some (.ins _ _ _)=>True
 |some (.ext _)=>True
 |_=>False
section
variable {x e:Addr} {o':HO}
def HOk.write(ok:HOk P w H h)(mu:Mut (H x))(he:e=x\/H e=some (.own x))(k:∀b u,b≠e->h.get? b=some u->h'.get? b=some u)(kS:∃u,h'.get? e=some u)
  (new:yl P w (upd H x o') h' x o'):HOk P w (upd H x o') h':=λb u q=>by
 have kP:∀c y,H c=some (.own y)->c≠x:=λc y r z=>by subst z;rw[r]at mu;exact mu
 have kR:∀c u,H c=some u->xsg u->c≠x:=λc u r hf z=>by
  subst z;rw[r]at mu;cases u<;> first|exact mu|exact hf
 by_cases hb:b=x
 ·subst hb;rw[xp]at q;cases q;exact new
 ·rw[xm hb]at q
  by_cases kQ:b=e
  ·have q':H b=some (.own x):=by
    rcases he with z|z
    ·exact absurd (kQ.trans z) hb
    ·rw[kQ];exact z
   rw[q]at q';cases q';obtain⟨v,hv⟩:=kS;exact⟨v,by rw[kQ];exact hv⟩
  ·refine(ok b u q).stay (λc v hc r=>k c v ?_ r) (λc r=>by rw[xm (kP c b r)];exact r) λc xs r hf=>by rw[xm (kR c xs r hf)];exact r
   rcases hc with rfl|hc
   ·exact kQ
   ·rintro rfl;rcases he with z|z
    ·exact kP c b hc z
    ·rw[hc]at z;cases z;exact hb rfl
end
structure Un(fs ex:List Addr)(H H':Hp)(h h':Heap):Prop where
 keep:∀b o,h.get? b=some o->H b=none->b∉fs->b∉ex->h'.get? b=some o
 slot:∀b o,h.get? b=some o->H b=none->b∈fs->b∉ex->∃sl,h'.get? b=some {o with slots:=sl}
 free:∀b o,h.get? b=some o->H b=none->b∉ex->H' b=none
 there:∀b o,h.get? b=some o->b∉ex->∃o',h'.get? b=some o'
 fix:∀b u,H b=some u->Fix u->H' b=some u
section
variable {fs fs' ex ex':List Addr} {H1 H2:Hp} {h1 h2:Heap} {x e:Addr}
def Un.any(u:Un fs ex H H1 h h1){ob:Obj}(q:h.get? b=some ob)(n:H b=none)(hx:b∉ex):∃sl,h1.get? b=some {ob with slots:=sl}:=by
 by_cases hb:b∈fs
 ·exact u.slot b ob q n hb hx
 ·exact⟨ob.slots,u.keep b ob q n hb hx⟩
def Un.kept(k:∀b u,h.get? b=some u->h'.get? b=some u):Un fs ex H H h h':=
 ⟨λb ob q _ _ _=>k b ob q,λb ob q _ _ _=>⟨ob.slots,k b ob q⟩,λ_ _ _ n _=>n,λb ob q _=>⟨ob,k b ob q⟩,λ_ _ q _=>q⟩
def Un.refl:Un fs ex H H h h:=Un.kept λ_ _ q=>q
def Un.laid(k:∀b u,h.get? b=some u->h'.get? b=some u)(hp:h.objs.size<=a)(hn:H a=none):Un fs ex H (upd H a o) h h' where
 keep:=λb u q _ _ _=>k b u q
 slot:=λb u q _ _ _=>⟨u.slots,k b u q⟩
 free:=λb u q n _=>by rw[xm (aQ (aJ (aB q) hp))];exact n
 there:=λb u q _=>⟨u,k b u q⟩
 fix:=λb u q _=>by rw[xm (xG q hn)];exact q
def Un.write(mu:Mut (H x))(he:e=x\/H e=some (.own x))(k:∀b u,b≠e->h.get? b=some u->h'.get? b=some u)(kQ:∃u,h'.get? e=some u):Un fs ex H (upd H x o) h h':=by
 have hx:∀b,H b=none->b≠x:=λb n z=>by subst z;rw[n]at mu;exact mu
 have hb:∀b,H b=none->b≠e:=λb n z=>by
  subst z;rcases he with r|r
  ·exact hx b n r
  ·rw[n]at r;cases r
 have hm:∀b u,H b=some u->¬Mut (some u)->b≠x:=λb u q nm z=>by subst z;rw[q]at mu;exact nm mu
 refine⟨λb u q n _ _=>k b u (hb b n) q,λb u q n _ _=>⟨u.slots,k b u (hb b n) q⟩,λb u q n _=>by rw[xm (hx b n)];exact n,λb u q _=>?_,
  λb u q hf=>by rw[xm (hm b _ q λz=>by cases u<;> first|exact z|exact hf)];exact q⟩
 by_cases kP:b=e
 ·subst kP;exact kQ
 ·exact⟨u,k b u kP q⟩
end
def trk(h:Heap)(H:Hp):List Addr:=(d7 h.objs.size).filter λa=>(H a).isSome
def xdR(h:Heap)(H:Hp):Heap:=W.hideAll h (trk h H)
def xoc(h:Heap)(H:Hp):(xdR h H).objs.size=h.objs.size:=W.hideAll_size _ _
def xpA{o:Obj}(e:h.get? b=some o)(n:H b=none):(xdR h H).get? b=some o:=
 W.hideAll_get _ e λhm=>by
  have q:(H b).isSome=true:=(gn.mp hm).2;rw[n]at q;simp at q
theorem xqZ{o:Obj}(e:(xdR h H).get? b=some o):h.get? b=some o/\H b=none:=by
 have e':h.get? b=some o:=W.of_hideAll (trk h H) e;refine⟨e',?_⟩;cases q:H b with
 |none=>rfl
 |some x=>
  have hm:b∈trk h H:=gn.mpr ⟨dO.mpr (aB e'),by simp[q]⟩;have z:(xdR h H).get? b=none:=W.hideAll_none (trk h H) hm;rw[z]at e;cases e
structure Mod(K:aq)(mg:Str->Option Value)(base:Heap):Prop where
 kin:K.In base
 glob:base.Ns br mg
 blt:∃mb,base.Ns cQ mb/\∀x:Str,x≠"__name__"->mb x=bM x
 nolimit:base.NoLimit
 bm:∃b o,mg "__builtins__"=some (.ref b)/\b≠cQ/\base.get? b=some o/\o.cls= .type "module"/\o.dict=some cQ/\o.data= .plain
structure Cx where
 prog:aH
 w:World
 K:aq
 mg:Str->Option Value
 base:Heap
 A:bo
 N:List Str
 s₀:ak
 H₀:Hp
 env:Env
 outer:List Env
 stack:List Env
 ex:List Addr
 fn:Str->Bool
 calm:Bool
 pn:List (Addr×Obj)
 xe:Value->ak->Prop
 cp:Str->Bool
def frs(l:List Env):List Addr:=l.filterMap (·.frame)
abbrev Cx.fs(X:Cx):List Addr:=frs X.outer
def Vis(sc:Scope)(x:Str):Prop:=sc.names.lookup x=some .local\/sc.names.lookup x=some .cell\/sc.names.lookup x=some .free
def Loc(sc:Scope)(x:Str):Prop:=sc.names.lookup x=some .local\/sc.names.lookup x=some .cell
def Look(env:Env)(h:Heap)(m:Str->Option Value)(x:Str)(u:Value):Prop:=
 (env.kindOf x=some .local/\m x=some u)\/((env.kindOf x=some .cell\/env.kindOf x=some .free)/\∃c,env.cells.lookup x=some c/\h.IsCell c (some u))
structure Cx.Ok(X:Cx):Prop where
 mod:Mod X.K X.mg X.base
 kind:X.env.scope.kind= .function
 glob:X.env.globals=br
 blt:X.env.builtins=cQ
 above:X.s₀.heap.objs.size<=X.env.locals
 inj:∀x y c,X.env.cells.lookup x=some c->X.env.cells.lookup y=some c->x=y
 has:∀x,(X.env.kindOf x=some .cell\/X.env.kindOf x=some .free)->∃c,X.env.cells.lookup x=some c
 cab:∀x c,X.fn x=true->X.env.cells.lookup x=some c->X.s₀.heap.objs.size<=c
 hd:X.calm=true->X.A.handled=none
 frames:X.A.frames=some X.stack
 stk:X.stack=X.outer\/(X.stack=X.env::X.outer/\X.env.frame=some X.env.locals)
 exf:∀b∈X.ex,b≠X.env.locals/\∀x c,X.env.cells.lookup x=some c->c≠b
 bs:∀b o,X.base.get? b=some o->X.s₀.heap.get? b=some o/\X.H₀ b=none
 bsz:X.base.objs.size<=X.s₀.heap.objs.size
 noex:∀b o,X.base.get? b=some o->b∉X.ex
 exfs:∀b∈X.ex,b∉X.fs
 funs:X.s₀.heap.FunFrames X.base X.outer
 frf:∀b∈X.fs,X.H₀ b=none
 cab2:∀x c,X.cp x=true->X.env.cells.lookup x=some c->X.s₀.heap.objs.size<=c
 hz:∀b,X.s₀.heap.objs.size<=b->X.H₀ b=none
structure Inv(X:Cx)(pins:List (Addr×Obj))(σ:List (Option V))(H:Hp)(s:ak):Prop where
 ok:X.Ok
 os:s.os=X.s₀.os
 bare:fJ s.gens
 base:Un X.fs X.ex X.H₀ H X.s₀.heap s.heap
 loc:∃m,s.heap.Ns X.env.locals m/\∀(i:Nat) (x:Str) (v:V),X.N[i]? =some x->σ[i]? =some (some v)->Vis X.env.scope x->∃u,RelV v u/\Look X.env s.heap m x u
 cell:∀x c,X.env.cells.lookup x=some c->∃v,s.heap.IsCell c v
 free:H X.env.locals=none
 freeC:∀x c,X.env.cells.lookup x=some c->H c=none\/(X.fn x=false/\∃o,H c=some (.cel o)/\(o=none->∀(i:Nat) v,X.N[i]? =some x->(X.env.kindOf x=some .cell\/X.env.kindOf x=some .free)->σ[i]?≠some (some v)))
 pin:∀p∈X.pn++pins,s.heap.get? p.1=some p.2/\H p.1=none/\p.1≠X.env.locals/\p.1∉X.fs/\∀v,p.2.data≠.cell v
 hok:HOk X.prog X.w H s.heap
 len:σ.length=X.N.length
section
variable {σ:List (Option V)}
def Cx.Ok.nofr(ok:X.Ok){o:Obj}(e:X.base.get? b=some o):b∉X.fs:=λhb=>by
 have:=(ok.funs.mem hb).1;rw[e]at this;cases this
def Inv.bs(I:Inv X pins σ H s):∀b o,X.base.get? b=some o->s.heap.get? b=some o/\H b=none:=λb o e=>
 ⟨I.base.keep b o (I.ok.bs b o e).1 (I.ok.bs b o e).2 (I.ok.nofr e) (I.ok.noex b o e),I.base.free b o (I.ok.bs b o e).1 (I.ok.bs b o e).2 (I.ok.noex b o e)⟩
def Inv.bk(I:Inv X pins σ H s):∀b o,X.base.get? b=some o->s.heap.get? b=some o:=λb o e=>(I.bs b o e).1
def Inv.mod(I:Inv X pins σ H s):Mod X.K X.mg X.base:=I.ok.mod
def Inv.kIn(I:Inv X pins σ H s):X.K.In s.heap:=I.ok.mod.kin.keeps I.bk
def Inv.lt(I:Inv X pins σ H s):X.env.locals<s.heap.objs.size:=let⟨_,hn,_⟩:=I.loc;hn.lt
def Inv.sz(I:Inv X pins σ H s):X.s₀.heap.objs.size<=s.heap.objs.size:=bG I.ok.above (eG I.lt)
def Inv.nofs(I:Inv X pins σ H s)(h:s.heap.objs.size<=a):a∉X.fs:=λhb=>by
 obtain⟨_,o,ho,_⟩:=I.ok.funs.mem hb;exact absurd (aJ (aB ho) (bG I.sz h)) (cg _)
def Inv.cne(I:Inv X pins σ H s):∀x c,X.env.cells.lookup x=some c->c≠X.env.locals:=λx c e z=>by
 obtain⟨v,o,ho,hd⟩:=I.cell x c e;obtain⟨m,⟨o',es,ep,kP,kQ,_⟩,_⟩:=I.loc;rw[z,kP]at ho;cases ho;rw[kQ]at hd;cases hd
theorem Inv.funs(I:Inv X pins σ H s):s.heap.FunFrames X.base X.outer:=by
 have all:∀(l:List Env),(∀b∈frs l,b∈X.fs)->X.s₀.heap.FunFrames X.base l->s.heap.FunFrames X.base l:=by
  intro l
  induction l with
  |nil=>intro _ _;trivial
  |cons env r ih=>
   intro hs hl;obtain⟨hk,⟨L,o,hf,hn,ho,hd⟩,hr⟩:=hl;have hL:L∈X.fs:=hs L (by unfold frs;rw[fg,hf];exact bh);obtain⟨sl,e⟩:=I.base.slot L o ho (I.ok.frf L hL) hL λz=>I.ok.exfs L z hL;exact⟨hk,⟨L,_,hf,hn,e,hd⟩,ih (λb hb=>hs b (by unfold frs;rw[fg,hf];exact aL _ hb)) hr⟩
 exact all X.outer (λ_ hb=>hb) I.ok.funs
def Inv.stack(I:Inv X pins σ H s):s.heap.FunFrames X.base X.stack:=by
 rcases I.ok.stk with e|⟨e,hf⟩
 ·rw[e];exact I.funs
 ·rw[e];obtain⟨m,hn,_⟩:=I.loc;refine .cons (by rw[I.ok.kind];decide) hf hn ?_ I.funs;exact eQ (bG I.ok.bsz I.ok.above)
def Inv.stkSub(I:Inv X pins σ H s):∀b∈frs X.stack,b∈X.env.locals::X.fs:=λb hb=>by
 rcases I.ok.stk with e|⟨e,hf⟩
 ·rw[e]at hb;exact aL _ hb
 ·rw[e]at hb;unfold frs at hb;rw[fg,hf]at hb;exact hb
def Inv.stkFree(I:Inv X pins σ H s):∀b∈frs X.stack,H b=none:=λb hb=>by
 rcases av.mp (I.stkSub b hb)with e|hb
 ·rw[e];exact I.free
 ·obtain⟨_,o,ho,_⟩:=I.ok.funs.mem hb;exact I.base.free b o ho (I.ok.frf b hb) λz=>I.ok.exfs b z hb
theorem Inv.step{g':Array GenState}{d':Drawn}(I:Inv X pins σ H s)
  (kR:∀b∈ch,(b∈X.ex\/X.s₀.heap.objs.size<=b)/\b≠X.env.locals/\(∀x c,X.env.cells.lookup x=some c->c≠b)/\∀p∈X.pn++pins,p.1≠b)
  (keep:∀b o,b≠X.env.locals->b∉X.fs->b∉ch->s.heap.get? b=some o->H b=none->h'.get? b=some o)
  (slot:∀b o,b≠X.env.locals->b∈X.fs->b∉ch->s.heap.get? b=some o->H b=none->∃sl,h'.get? b=some {o with slots:=sl}) (free:∀b o,b∉ch->s.heap.get? b=some o->H b=none->H' b=none)
  (there:∀b o,b∉ch->s.heap.get? b=some o->∃o',h'.get? b=some o')
  (fix:∀b u,H b=some u->Fix u->H' b=some u)
  (ns:∀m,s.heap.Ns X.env.locals m->h'.Ns X.env.locals m) (hok:HOk X.prog X.w H' h') (hg:fJ g'):
  Inv X pins σ H' {s with heap:=h',gens:=g',drawn:=d',toks:=t'}:=by
 have kX:∀b o,X.s₀.heap.get? b=some o->b≠X.env.locals:=λb o e=>aQ (aJ (aB e) I.ok.above);have kS:∀b o,X.s₀.heap.get? b=some o->b∉X.ex->b∉ch:=λb o e hx hb=>by
  rcases(kR b hb).1 with z|z
  ·exact hx z
  ·exact absurd (aJ (aB e) z) (cg _)
 have cellK:∀x c,X.env.cells.lookup x=some c->H c=none->∀v,s.heap.IsCell c v->h'.IsCell c v:=λx c e hn v ⟨o,ho,hd⟩=>by
  have kP:c∉ch:=λz=>(kR c z).2.2.1 x c e rfl
  by_cases hc:c∈X.fs
  ·obtain⟨sl,q⟩:=slot c o (I.cne x c e) hc kP ho hn;exact⟨_,q,hd⟩
  ·exact⟨o,keep c o (I.cne x c e) hc kP ho hn,hd⟩
 refine⟨I.ok,I.os,hg,⟨λb o e n hb hx=>?_,λb o e n hb hx=>?_,λb o e n hx=>?_,λb o e hx=>?_,λb u e f=>fix b u (I.base.fix b u e f) f⟩,?_,λx c e=>?_,?_,λx c e=>?_,λp hp=>?_,hok,I.len⟩
 ·exact keep b o (kX b o e) hb (kS b o e hx) (I.base.keep b o e n hb hx) (I.base.free b o e n hx)
 ·obtain⟨sl,e1⟩:=I.base.slot b o e n hb hx;obtain⟨kY,e2⟩:=slot b _ (kX b o e) hb (kS b o e hx) e1 (I.base.free b o e n hx);exact⟨kY,e2⟩
 ·obtain⟨o',e1⟩:=I.base.there b o e hx;exact free b o' (kS b o e hx) e1 (I.base.free b o e n hx)
 ·obtain⟨o',e1⟩:=I.base.there b o e hx;exact there b o' (kS b o e hx) e1
 ·obtain⟨m,hn,hl⟩:=I.loc;refine⟨m,ns m hn,λi x v e1 e2 e3=>?_⟩;obtain⟨u,r,l⟩:=hl i x v e1 e2 e3;rcases l with l|⟨k,c,e,z⟩
  ·exact⟨u,r,.inl l⟩
  ·rcases I.freeC x c e with kQ|⟨_,o,ho,kW⟩
   ·exact⟨u,r,.inr ⟨k,c,e,cellK x c e kQ _ z⟩⟩
   ·cases o with
    |none=>exact absurd e2 (kW rfl i v e1 k)
    |some v'=>
     obtain⟨y,hy,hr⟩:=I.hok c _ ho;obtain⟨y',kT,kZ⟩:=hok c _ (fix c _ ho trivial);obtain⟨y2,rfl,r2⟩:=hr v' rfl;obtain⟨y3,rfl,r3⟩:=kZ v' rfl;have:v=v':=RelV.fn r (by
      obtain⟨o1,q1,q2⟩:=z;obtain⟨o2,q3,q4⟩:=hy;rw[q1]at q3;cases q3;rw[q2]at q4;cases q4;exact r2)
     subst this;exact⟨y3,r3,.inr ⟨k,c,e,kT⟩⟩
 ·rcases I.freeC x c e with kQ|⟨_,o,ho,_⟩
  ·obtain⟨v,z⟩:=I.cell x c e;exact⟨v,cellK x c e kQ v z⟩
  ·obtain⟨y',kT,_⟩:=hok c _ (fix c _ ho trivial);exact⟨y',kT⟩
 ·obtain⟨m,⟨o,_,_,ho,_⟩,_⟩:=I.loc;exact free _ o (λz=>(kR _ z).2.1 rfl) ho I.free
 ·rcases I.freeC x c e with kQ|⟨hf,o,ho,kW⟩
  ·obtain⟨v,o,ho,hd⟩:=I.cell x c e;exact .inl (free c o (λz=>(kR c z).2.2.1 x c e rfl) ho kQ)
  ·exact .inr ⟨hf,o,fix c _ ho trivial,kW⟩
 ·obtain⟨e,n,ne,nf,d⟩:=I.pin p hp;have kP:p.1∉ch:=λz=>(kR p.1 z).2.2.2 p hp rfl;exact⟨keep p.1 p.2 ne nf kP e n,free p.1 p.2 kP e n,ne,nf,d⟩
def Inv.un(I:Inv X pins σ H s)(u:Un X.fs [] H H' s.heap h')(hok:HOk X.prog X.w H' h'):Inv X pins σ H' {s with heap:=h',toks:=t'}:=by
 obtain⟨m,⟨o,es,ep,ho,r⟩,_⟩:=id I.loc;obtain⟨sl,hL⟩:=u.any ho I.free (by simp);exact I.step (g':=s.gens) (d':=s.drawn) (ch:=[]) (λ_ z=>nomatch z) (λb o _ hb _ e n=>u.keep b o e n hb (by simp)) (λb o _ hb _ e n=>u.slot b o e n hb (by simp)) (λb o _ e n=>u.free b o e n (by simp)) (λb o _ e=>u.there b o e (by simp)) u.fix (λm' hm=>by
  obtain⟨o',kQ,kR,kP,r'⟩:=hm;rw[ho]at kP;cases kP;exact⟨_,kQ,kR,hL,r'⟩) hok I.bare
def Inv.call{g':Array GenState}{d':Drawn}(I:Inv X pins σ H s)(u:Un (frs X.stack) ch H H' s.heap h')(hok:HOk X.prog X.w H' h')(hg:fJ g')
  (kQ:∀b∈ch,(b∈X.ex\/X.s₀.heap.objs.size<=b)/\b≠X.env.locals/\(∀x c,X.env.cells.lookup x=some c->c≠b)/\∀p∈X.pn++pins,p.1≠b):
  Inv X pins σ H' {s with heap:=h',gens:=g',drawn:=d',toks:=t'}:=by
 obtain⟨m,⟨o,es,ep,ho,r⟩,_⟩:=id I.loc;obtain⟨sl,hL⟩:=u.any ho I.free λz=>(kQ _ z).2.1 rfl;exact I.step (ch:=ch) kQ (λb o hL hb hc e n=>u.keep b o e n (λz=>(av.mp (I.stkSub b z)).elim hL hb) hc) (λb o _ _ hc e n=>u.any e n hc) (λb o hc e n=>u.free b o e n hc) (λb o hc e=>u.there b o e hc) u.fix (λm' hm=>by
  obtain⟨o',kR,kS,kP,r'⟩:=hm;rw[ho]at kP;cases kP;exact⟨_,kR,kS,hL,r'⟩) hok hg
def Inv.turned{it:Addr}(I:Inv X pins σ H s)(k:∀b o,b≠it->s.heap.get? b=some o->h'.get? b=some o)(hn:H it=none)(hL:it≠X.env.locals)
  (h1:it∈X.ex\/X.s₀.heap.objs.size<=it) (h2:∀x c,X.env.cells.lookup x=some c->c≠it) (h3:∀p∈X.pn++pins,p.1≠it):Inv X pins σ H {s with heap:=h',toks:=t'}:=by
 have kP:∀b u,H b=some u->b≠it:=λb u e z=>by rw[z,hn]at e;cases e
 refine I.step (g':=s.gens) (d':=s.drawn) (ch:=[it]) (λb hb=>?_) (λb o _ _ hc e _=>k b o (λz=>hc (by simp[z])) e) (λb o _ _ hc e _=>⟨o.slots,k b o (λz=>hc (by simp[z])) e⟩) (λ_ _ _ _ n=>n)
  (λb o hc e=>⟨o,k b o (λz=>hc (by simp[z])) e⟩) (λ_ _ e _=>e) (λm hm=>?_) (λb u e=>?_) I.bare
 ·have e:b=it:=by simpa using hb
  subst e;exact⟨h1,hL,h2,h3⟩
 ·obtain⟨o,es,ep,ho,r⟩:=hm;exact⟨o,es,ep,k _ o (au hL) ho,r⟩
 ·refine(I.hok b u e).stay (λc v hc q=>k c v ?_ q) (λ_ q=>q) λ_ _ q _=>q;rcases hc with z|z
  ·rw[z];exact kP b u e
  ·exact kP c _ z
def Inv.tok(I:Inv X pins σ H s)(t:Nat):Inv X pins σ H {s with toks:=t}:=I.un (h':=s.heap) (t':=t) Un.refl I.hok
def Inv.kept(I:Inv X pins σ H s)(k:∀b u,s.heap.get? b=some u->h'.get? b=some u):Inv X pins σ H {s with heap:=h',toks:=t'}:=I.un (Un.kept k) (I.hok.kept k)
def Inv.laid(I:Inv X pins σ H s)(k:∀b u,s.heap.get? b=some u->h'.get? b=some u)(hp:s.heap.objs.size<=a)(new:yl X.prog X.w (upd H a o) h' a o):
  Inv X pins σ (upd H a o) {s with heap:=h',toks:=t'}:=I.un (Un.laid k hp (I.hok.fresh hp)) (I.hok.laid k hp new)
def Inv.write{x e:Addr}(I:Inv X pins σ H s)(mu:Mut (H x))(he:e=x\/H e=some (.own x))(k:∀b u,b≠e->s.heap.get? b=some u->h'.get? b=some u)(kP:∃u,h'.get? e=some u)
  (new:yl X.prog X.w (upd H x o) h' x o):Inv X pins σ (upd H x o) {s with heap:=h',toks:=t'}:=I.un (Un.write mu he k kP) (I.hok.write mu he k kP new)
def Inv.weak{σ':List (Option V)}(I:Inv X pins σ H s)(hl:σ'.length=σ.length)(w:∀(i:Nat) v,σ'[i]? =some (some v)->σ[i]? =some (some v)):Inv X pins σ' H s:=
 ⟨I.ok,I.os,I.bare,I.base,let⟨m,hn,kQ⟩:=I.loc;⟨m,hn,λi x v e1 e2 e3=>kQ i x v e1 (w i v e2) e3⟩,I.cell,I.free,λx c e=>(I.freeC x c e).imp id λ⟨hf,o,ho,kP⟩=>⟨hf,o,ho,λz i v e1 k e2=>kP z i v e1 k (w i v e2)⟩,I.pin,I.hok,hl.trans I.len⟩
def Inv.pins_of{kP:List (Addr×Obj)}(I:Inv X pins σ H s)(h:∀p∈kP,s.heap.get? p.1=some p.2/\H p.1=none/\p.1≠X.env.locals/\p.1∉X.fs/\∀v,p.2.data≠.cell v):Inv X kP σ H s:=
 ⟨I.ok,I.os,I.bare,I.base,I.loc,I.cell,I.free,I.freeC,λp hp=>(aW.mp hp).elim (λz=>I.pin p (ba _ z)) (h p),I.hok,I.len⟩
def xaI(hN:N.Nodup){j:Nat}(a:N[i]? =some x)(b:N[j]? =some x):i=j:=by
 obtain⟨h1,e1⟩:=aw.mp a;obtain⟨h2,e2⟩:=aw.mp b;exact(List.getElem_inj hN).mp (e1.trans e2.symm)
def xi8{Q:Unit->ak->Prop}(I:Inv X pins σ H s)(hN:X.N.Nodup)(hi:X.N[i]? =some x)(hx:Loc X.env.scope x)(r:RelV v u)
  (h:∀s',Inv X pins (σ.set i (some v)) H s'->(∃a,fB a s.heap s'.heap/\(a=X.env.locals\/X.env.cells.lookup x=some a))->Q () s') (hf:autoParam (X.fn x=true\/X.env.scope.names.lookup x=some .local) sZ):wpAny M A (storeName X.env x u) Q E s:=by
 refine L2.oG λ_ Z=>?_;obtain⟨m,hn,hl⟩:=id I.loc;apply Z;have kY:(X.env.scope.kind== .class||(X.env.scope.kind== .module&&X.env.locals != X.env.globals))=false:=by rw[I.ok.kind];rfl
 have kQ:i<σ.length:=by rw[I.len];exact(aw.mp hi).1
 have cne:=I.cne;have tracked:∀{a:Addr} {h':Heap},(∃o,s.heap.get? a=some o/\H a=none)->fB a s.heap h'->HOk X.prog X.w H h':=λ{a h'} ha hs b ob e=>by
  refine L2.oG λ_ Z=>?_;obtain⟨_,_,kP⟩:=ha;apply Z;refine(I.hok b ob e).stay (λc w' hc q=>(hs.2 c ?_).trans q) (λ_ q=>q) λ_ _ q _=>q;rintro rfl;rcases hc with rfl|hc
  ·rw[kP]at e;cases e
  ·rw[kP]at hc;cases hc
 rcases hx with hk|hk
 ·refine wpAny_storeName_local hk hn (λh' lh hs=>?_) kY;refine L2.oG λ_ Z=>?_;obtain⟨oL,_,_,lg,_⟩:=id hn;apply Z;refine h _ ⟨I.ok,I.os,I.bare,⟨λb o e n hb hx=>?_,λb o e n hb hx=>?_,I.base.free,λb o e hx=>?_,I.base.fix⟩,⟨_,lh,λj y v' e1 e2 e3=>?_⟩,λy c e=>?_,I.free,λy c e=>?_,λp hp=>?_,tracked ⟨oL,lg,I.free⟩ hs,by simpa using I.len⟩ ⟨_,hs,.inl rfl⟩
  ·exact(hs.2 b (aQ (aJ (aB e) I.ok.above))).trans (I.base.keep b o e n hb hx)
  ·obtain⟨sl,e1⟩:=I.base.slot b o e n hb hx;exact⟨sl,(hs.2 b (aQ (aJ (aB e) I.ok.above))).trans e1⟩
  ·obtain⟨o',e1⟩:=I.base.there b o e hx;exact⟨o',(hs.2 b (aQ (aJ (aB e) I.ok.above))).trans e1⟩
  ·by_cases hj:j=i
   ·subst hj;rw[hi]at e1;cases e1;rw[b9 kQ]at e2;cases e2;exact⟨u,r,.inl ⟨hk,by simp⟩⟩
   ·rw[bK (au hj)]at e2;refine L2.oG λ_ Z=>?_;obtain⟨u',r',q⟩:=hl j y v' e1 e2 e3;apply Z;refine⟨u',r',?_⟩;rcases q with⟨k,e⟩|⟨k,c,e,z⟩
    ·refine .inl ⟨k,?_⟩;have:y≠x:=λe=>hj (xaI hN e1 (e▸hi));simp[this,e]
    ·exact .inr ⟨k,c,e,z.sameBut hs (cne y c e)⟩
  ·obtain⟨w',z⟩:=I.cell y c e;exact⟨w',z.sameBut hs (cne y c e)⟩
  ·refine(I.freeC y c e).imp id λ⟨kS,o',kW,kX⟩=>⟨kS,o',kW,λz j v' e1 k e2=>?_⟩
   by_cases hj:j=i
   ·subst hj;rw[hi]at e1;cases e1;have ll:X.env.kindOf x=some .local:=hk;rw[ll]at k;rcases k with k|k<;> cases k
   ·rw[bK (au hj)]at e2;exact kX z j v' e1 k e2
  ·refine L2.oG λ_ Z=>?_;obtain⟨e,n,ne,nf,d⟩:=I.pin p hp;apply Z;exact⟨(hs.2 p.1 ne).trans e,n,ne,nf,d⟩
 ·have kR:X.fn x=true:=by
   rcases hf with z|z
   ·exact z
   ·rw[z]at hk;cases hk
  obtain⟨c,hc⟩:=I.ok.has x (.inl hk);have lp:H c=none:=by
   rcases I.freeC x c hc with z|⟨z,_⟩
   ·exact z
   ·rw[kR]at z;cases z
  obtain⟨w',z⟩:=I.cell x c hc;refine wpAny_storeName_cell I.ok.kind hk hc z (λh' lb hs=>?_);refine L2.oG λ_ Z=>?_;obtain⟨oc,kZ,kT⟩:=id z;apply Z;refine h {s with heap:=h'} ⟨I.ok,I.os,I.bare,⟨λb o e n hb hx=>?_,λb o e n hb hx=>?_,I.base.free,λb o e hx=>?_,I.base.fix⟩,⟨m,hn.sameBut hs (au (cne x c hc)),λj y v' e1 e2 e3=>?_⟩,λy c' e=>?_,I.free,λy c' e=>?_,λp hp=>?_,tracked ⟨oc,kZ,lp⟩ hs,by simpa using I.len⟩ ⟨c,hs,.inr hc⟩
  ·exact(hs.2 b (aQ (aJ (aB e) (I.ok.cab x c kR hc)))).trans (I.base.keep b o e n hb hx)
  ·obtain⟨sl,e1⟩:=I.base.slot b o e n hb hx;exact⟨sl,(hs.2 b (aQ (aJ (aB e) (I.ok.cab x c kR hc)))).trans e1⟩
  ·obtain⟨o',e1⟩:=I.base.there b o e hx;exact⟨o',(hs.2 b (aQ (aJ (aB e) (I.ok.cab x c kR hc)))).trans e1⟩
  ·by_cases hj:j=i
   ·subst hj;rw[hi]at e1;cases e1;rw[b9 kQ]at e2;cases e2;exact⟨u,r,.inr ⟨.inl hk,c,hc,lb⟩⟩
   ·rw[bK (au hj)]at e2;refine L2.oG λ_ Z=>?_;obtain⟨u',r',q⟩:=hl j y v' e1 e2 e3;apply Z;refine⟨u',r',?_⟩;rcases q with q|⟨k,c',e,z'⟩
    ·exact .inl q
    ·refine .inr ⟨k,c',e,z'.sameBut hs ?_⟩;rintro rfl;exact hj (xaI hN e1 (I.ok.inj _ _ _ e hc▸hi))
  ·by_cases la:c'=c
   ·subst la;exact⟨_,lb⟩
   ·obtain⟨w2,z2⟩:=I.cell y c' e;exact⟨w2,z2.sameBut hs la⟩
  ·refine(I.freeC y c' e).imp id λ⟨kS,o',kW,kX⟩=>⟨kS,o',kW,λz j v' e1 k e2=>?_⟩
   by_cases hj:j=i
   ·subst hj;rw[hi]at e1;cases e1;rw[kR]at kS;cases kS
   ·rw[bK (au hj)]at e2;exact kX z j v' e1 k e2
  ·refine L2.oG λ_ Z=>?_;obtain⟨e,n,ne,nf,d⟩:=I.pin p hp;apply Z;refine⟨(hs.2 p.1 ?_).trans e,n,ne,nf,d⟩;intro q;rw[q,kZ]at e;have q':oc=p.2:=bt e;exact d w' (by rw[<-q'];exact kT)
def xaJ{Q:Unit->ak->Prop}(I:Inv X pins σ H s)(hN:X.N.Nodup)(hi:X.N[i]? =some x)(hx:Loc X.env.scope x)(r:RelV v u)
  (h:∀s',Inv X pins (σ.set i (some v)) H s'->Q () s') (hf:autoParam (X.fn x=true\/X.env.scope.names.lookup x=some .local) sZ):wpAny M A (storeName X.env x u) Q E s:=
 xi8 I hN hi hx r (λs' I' _=>h s' I') hf
def Inv.call'(I:Inv X pins σ H s)(ho:s'.os=s.os)(u:Un (frs X.stack) ch H H' s.heap s'.heap)(hok:HOk X.prog X.w H' s'.heap)(hg:fJ s'.gens)
  (kP:∀b∈ch,(b∈X.ex\/X.s₀.heap.objs.size<=b)/\b≠X.env.locals/\(∀x c,X.env.cells.lookup x=some c->c≠b)/\∀p∈X.pn++pins,p.1≠b):Inv X pins σ H' s':=by
 obtain⟨h',g',d',t',o'⟩:=s';have e:o'=s.os:=ho;subst e;exact I.call (g':=g') (t':=t') (d':=d') u hok hg kP
end
abbrev XK:=Value->Option Addr->Hp->Prop
abbrev St:=List (Option V)
abbrev VK:=V->Hp->Prop
abbrev TE:=St->Hp->VK->Prop
abbrev TT:=St->Hp->(Bool->Hp->Prop)->Prop
abbrev TA:=St->Hp->(List V->Hp->Prop)->Prop
structure Ends where
 nx:St->Hp->Prop
 rt:VK
 bk:St->Hp->Prop:=λ_ _=>False
 ct:St->Hp->Prop:=λ_ _=>False
abbrev TS:=Ends->St->Hp->Prop
inductive EP(X:Cx)(pins:List (Addr×Obj))(σ:St)(Q:VK)(u:Value)(s':ak):Prop
 |intro(v:V) (H':Hp) (i:Inv X pins σ H' s') (r:RelV v u) (q:Q v H'):EP X pins σ Q u s'
inductive TP(X:Cx)(pins:List (Addr×Obj))(σ:St)(Q:Bool->Hp->Prop)(b:Bool)(s':ak):Prop
 |intro(H':Hp) (i:Inv X pins σ H' s') (q:Q b H'):TP X pins σ Q b s'
inductive AP(X:Cx)(pins:List (Addr×Obj))(σ:St)(Q:List V->Hp->Prop)(us:List Value)(s':ak):Prop
 |intro(vs:List V) (H':Hp) (i:Inv X pins σ H' s') (r:Vals vs us) (q:Q vs H'):AP X pins σ Q us s'
inductive SPn(X:Cx)(pins:List (Addr×Obj))(Q:St->Hp->Prop)(s':ak):Prop
 |intro(σ':St) (H':Hp) (i:Inv X pins σ' H' s') (q:Q σ' H'):SPn X pins Q s'
inductive SPr(X:Cx)(pins:List (Addr×Obj))(Q:VK)(u:Value)(s':ak):Prop
 |intro(v:V) (σ':St) (H':Hp) (i:Inv X pins σ' H' s') (r:RelV v u) (q:Q v H'):SPr X pins Q u s'
def SP(X:Cx)(pins:List (Addr×Obj))(D:Ends)(f:Flow)(s':ak):Prop:=
 match f with
 | .next=>SPn X pins D.nx s'
 | .brk=>SPn X pins D.bk s'
 | .cont=>SPn X pins D.ct s'
 | .ret u=>SPr X pins D.rt u s'
def PE(X:Cx)(e:Expr)(t:TE):Prop:=
 ∀(pins:List (Addr×Obj)) (s:ak) (σ:St) (H:Hp) (Q:VK),Inv X pins σ H s->t σ H Q->wpAny (model X.prog X.w) X.A (eval e X.env) (EP X pins σ Q) X.xe s
def PT(X:Cx)(e:Expr)(t:TT):Prop:=
 ∀(pins:List (Addr×Obj)) (s:ak) (σ:St) (H:Hp) (Q:Bool->Hp->Prop),Inv X pins σ H s->t σ H Q->wpAny (model X.prog X.w) X.A (isTrue e X.env (eval e X.env)) (TP X pins σ Q) X.xe s
def PW(X:Cx)(e:Expr)(t:TT):Prop:=
 ∀(whole:Sem Value) (pins:List (Addr×Obj)) (s:ak) (σ:St) (H:Hp) (Q:Bool->Hp->Prop),Inv X pins σ H s->t σ H Q->wpAny (model X.prog X.w) X.A (isTrue e X.env whole) (TP X pins σ Q) X.xe s
def PW.pt{t:TT}(h:PW X e t):PT X e t:=h _
def PA(X:Cx)(es:List Expr)(t:TA):Prop:=
 ∀(pos:Pos) (pins:List (Addr×Obj)) (s:ak) (σ:St) (H:Hp) (Q:List V->Hp->Prop),Inv X pins σ H s->t σ H Q->wpAny (model X.prog X.w) X.A (spliced (bR pos (aE es X.env))) (AP X pins σ Q) X.xe s
def PS(X:Cx)(st:Stmt)(t:TS):Prop:=
 ∀(pins:List (Addr×Obj)) (s:ak) (σ:St) (H:Hp) (D:Ends),Inv X pins σ H s->t D σ H->wpAny (model X.prog X.w) X.A (exec st X.env) (SP X pins D) X.xe s
def PSs(X:Cx)(st:List Stmt)(t:TS):Prop:=
 ∀(pins:List (Addr×Obj)) (s:ak) (σ:St) (H:Hp) (D:Ends),Inv X pins σ H s->t D σ H->wpAny (model X.prog X.w) X.A (execs st X.env) (SP X pins D) X.xe s
def thn{t:Sem α}{Q Q':α->ak->Prop}(h:wpAny M A t Q E s)(hQ:∀a s,Q a s->Q' a s):wpAny M A t Q' E s:=aN h hQ λ_ _ x=>x
def yg{Q:VK}{t:Sem Value}{Q':Value->ak->Prop}(h:wpAny M A t (EP X pins σ Q) E s)(hQ:∀a s v H',Inv X pins σ H' s->RelV v a->Q v H'->Q' a s):wpAny M A t Q' E s:=thn h λa s z=>z.rec (hQ a s)
def uJ{Q:List V->Hp->Prop}{t:Sem (List Value)}{Q':List Value->ak->Prop}(h:wpAny M A t (AP X pins σ Q) E s)(hQ:∀a s v H',Inv X pins σ H' s->Vals v a->Q v H'->Q' a s):wpAny M A t Q' E s:=thn h λa s z=>z.rec (hQ a s)
def xpB{Q:Bool->Hp->Prop}{t:Sem Bool}{Q':Bool->ak->Prop}(h:wpAny M A t (TP X pins σ Q) E s)(hQ:∀a s H',Inv X pins σ H' s->Q a H'->Q' a s):wpAny M A t Q' E s:=thn h λa s z=>z.rec (hQ a s)
section
variable {X:Cx}
def xsh(i:Nat):TE:=λσ H Q=>∃v,σ[i]? =some (some v)/\Q v H
def tC(v:V):TE:=λ_ H Q=>Q v H
def xgP(hN:X.N[i]? =some x)(hv:Vis X.env.scope x)(hd:autoParam ((x==("__debug__":Str))=false) sJ)(kQ:autoParam ((x==("__classdict__":Str))=false) sJ):PE X (.Name x pos) (xsh i):=by
 intro pins s σ H Q I h;obtain⟨v,e,h⟩:=h;obtain⟨m,hn,hl⟩:=I.loc;obtain⟨u,r,l⟩:=hl i x v hN e hv;have fin:EP X pins σ Q u s:=⟨v,H,I,r,h⟩;rcases l with⟨hk,hm⟩|⟨hk,c,hc,kP⟩
 ·exact wpAny_Name (wpAny_loadName_local I.ok.kind hk hn hm fin) hd
 ·rcases hk with hk|hk
  ·exact wpAny_Name (wpAny_loadName_cell I.ok.kind hk hc kP fin) hd
  ·exact wpAny_Name (wpAny_loadName_free I.ok.kind hk hc kP fin kQ) hd
def xg{i j pos}:PE X (.Constant (.int i) j pos) (tC (.int i)):=λ_ _ _ H _ I h=>wpAny_Constant_int ⟨.int i,H,I.tok _,⟨_,rfl⟩,h⟩
def zL{b j pos}:PE X (.Constant (.bool b) j pos) (tC (.bl b)):=λ_ _ _ H _ I h=>Constant_bool ⟨.bl b,H,I,rfl,h⟩
def yO{j pos}:PE X (.Constant .none j pos) (tC .non):=λ_ _ _ H _ I h=>gS ⟨.non,H,I,rfl,h⟩
def xH{x j pos}:PE X (.Constant (.str x) j pos) (tC (.str x)):=λ_ _ _ H _ I h=>Calls.Constant_str ⟨.str x,H,I.tok _,⟨_,rfl⟩,h⟩
def Gl(X:Cx)(x:Str):Prop:=X.env.kindOf x=some .globalImplicit
def zR(I:Inv X pins σ H s)(hg:Gl X x)(hm:X.mg x=some u)(h:Q u s)
  (hd:autoParam ((x==("__debug__":Str))=false) sJ):wpAny (model X.prog X.w) X.A (eval (.Name x pos) X.env) Q E s:=
 gT I.ok.kind hg (Calls.loadGlobal_global (by rw[I.ok.glob];exact I.mod.glob.keeps I.bk) hm h) hd
def vK(I:Inv X pins σ H s)(hg:Gl X x)(hm:X.mg x=none)(hv:bM x=some u)(h:Q u s)
  (hn:autoParam (x≠"__name__") sJ) (hd:autoParam ((x==("__debug__":Str))=false) sJ):wpAny (model X.prog X.w) X.A (eval (.Name x pos) X.env) Q E s:=by
 obtain⟨mb,h1,h2⟩:=I.mod.blt;exact gT I.ok.kind hg (Calls.loadGlobal_builtin (by rw[I.ok.glob];exact I.mod.glob.keeps I.bk) hm (by rw[I.ok.blt];exact h1.keeps I.bk) ((h2 x hn).trans hv) h) hd
def xfF(hg:Gl X x)(hm:X.mg x=some u)(r:RelV v u)(hd:autoParam ((x==("__debug__":Str))=false) sJ):PE X (.Name x pos) (tC v):=
 λ_ _ _ H _ I h=>zR I hg hm ⟨v,H,I,r,h⟩ hd
def xdt(hg:Gl X x)(hm:X.mg x=none)(hv:bM x=some u)(r:RelV v u)(hn:autoParam (x≠"__name__") sJ)(hd:autoParam ((x==("__debug__":Str))=false) sJ):PE X (.Name x pos) (tC v):=
 λ_ _ _ H _ I h=>vK I hg hm hv ⟨v,H,I,r,h⟩ hn hd
variable {a b:Expr} {ta tb:TE} {pos:Pos}
def PC(X:Cx)(op:CmpOp)(a b:Expr)(t:TE):Prop:=
 ∀(pins:List (Addr×Obj)) (s:ak) (σ:St) (H:Hp) (Q:VK),Inv X pins σ H s->t σ H Q->
  wpAny (model X.prog X.w) X.A (eval a X.env) (λv s₁=>wpAny (model X.prog X.w) X.A (eval b X.env) (λu s₂=>wpAny (model X.prog X.w) X.A (bF op v u) (EP X pins σ Q) X.xe s₂) X.xe s₁) X.xe s
def xkf(b:Expr)(h:op≠.In)(h2:op≠.NotIn):cR op b=false:=by
 have e1:(op==CmpOp.In)=false:=by cases op<;> first|rfl|exact absurd rfl h
 have e2:(op==CmpOp.NotIn)=false:=by cases op<;> first|rfl|exact absurd rfl h2
 cases b<;> simp[cR,e1,e2]
def xtT(ta:TE):TE:=λσ H Q=>ta σ H λx H1=>Q (.bl (decide (x= .non))) H1
def xtd(ta:TE):TE:=λσ H Q=>ta σ H λx H1=>Q (.bl (!decide (x= .non))) H1
theorem RelV.none_iff{x:V}{v:Value}(r:RelV x v):(v==bp)=decide (x= .non):=by
 cases x with
 |non=>cases r;rfl
 |bl _=>cases r;rfl
 |int _=>obtain⟨t,rfl⟩:=r;rfl
 |str _=>obtain⟨t,rfl⟩:=r;rfl
 |byt _=>obtain⟨t,rfl⟩:=r;rfl
 |flt _=>obtain⟨t,rfl⟩:=r;rfl
 |ref _=>cases r;rfl
 |ty _=>cases r;rfl
def xod{j pos'}(ha:PE X a ta):PC X .Is a (.Constant .none j pos') (xtT ta):=by
 intro pins s σ H Q I h;refine yg (ha pins s σ H _ I h) λv s1 x H1 I1 r1 q1=>?_;exact gS (is_none_gen ⟨.bl _,H1,I1,by rw[r1.none_iff];rfl,q1⟩)
def xq0{j pos'}(ha:PE X a ta):PC X .IsNot a (.Constant .none j pos') (xtd ta):=by
 intro pins s σ H Q I h;refine yg (ha pins s σ H _ I h) λv s1 x H1 I1 r1 q1=>?_;exact gS (isnot_none_gen ⟨.bl _,H1,I1,by rw[r1.none_iff];rfl,q1⟩)
def tB(t:TE):TT:=λσ H Q=>t σ H λx H1=>∃c,x= .bl c/\Q c H1
def xsi{t:TE}(h:PC X op a b t)(h1:cR op b=false:=by first|exact xkf _ (by decide) (by decide)|rfl):PE X (.Compare a [op] [b] pos) t:=λpins s σ H Q I hw=>wpAny_Compare1 (h pins s σ H Q I hw) h1
def xoe{t:TE}(h:PC X op a b t)(h1:cR op b=false:=by first|exact xkf _ (by decide) (by decide)|rfl):PT X (.Compare a [op] [b] pos) (tB t):=by
 intro pins s σ H Q I hw;refine gd (thn (h pins s σ H _ I hw) λv s1 h1=>thn h1 λu s2 h2=>thn h2 λc s3 ⟨x,H1,I1,r1,q1⟩=>?_) h1;obtain⟨d,rfl,q⟩:=q1;cases r1;exact cA ⟨H1,I1,q⟩
variable {tA tB':TT} {rest:List Expr}
def xtU(t:TT):TT:=λσ H Q=>t σ H λc H1=>Q (!c) H1
theorem xfG(ha:PT X a tA):PW X (.BoolOp .And [a] pos) tA:=by
 intro wh pins s σ H Q I h;refine isTrue_and (thn (ha pins s σ H Q I h) λc s1 e=>?_);cases c with
 |true=>exact isTrue_and_nil e
 |false=>exact e
theorem uo(ha:PT X a tA):PW X (.BoolOp .Or [a] pos) tA:=by
 intro wh pins s σ H Q I h;refine isTrue_or (thn (ha pins s σ H Q I h) λc s1 e=>?_);cases c with
 |false=>exact isTrue_or_nil e
 |true=>exact e
def xb7(ha:PT X a tA):PT X (.UnaryOp .Not a pos) (xtU tA):=by
 intro pins s σ H Q I h;exact isTrue_not (thn (ha pins s σ H (λc H1=>Q (!c) H1) I h) λ_ _ ⟨H1,i,q⟩=>⟨H1,i,q⟩)
def vL{op}{t:TE}(h:PE X a t):PE X (.BoolOp op [a] pos) t:=λpins s σ H Q I hw=>BoolOp_one (h pins s σ H Q I hw)
end
def SqL(K:aq)(H:Hp)(a:Addr)(xs:List V):Prop:=
 Rd H a (.lst xs)\/
  ∃(o:Obj) (its:Array Value) (n:Nat),K.lookup a=some o/\o.cls= .type "list"/\o.dict=none/\o.data= .seq its n/\its.size<=aU/\Vals xs its.toList
def SqT(K:aq)(H:Hp)(a:Addr)(xs:List V):Prop:=
 Rd H a (.tup xs)\/
  ∃(o:Obj) (its:Array Value) (n:Nat),K.lookup a=some o/\o.cls= .type "tuple"/\o.data= .seq its n/\its.size<=aU/\Vals xs its.toList
noncomputable def xtV:Value->Option V
 | .none=>some .non
 | .bool b=>some (.bl b)
 | .int i _=>some (.int i)
 | .str x _=>some (.str x)
 | .bytes b _=>some (.byt b)
 | .float b _=>some (.flt b)
 | .ref a=>some (.ref a)
 | .type n=>some (.ty n)
 |_=>none
theorem RelV.abs{x:V}(r:RelV x u):xtV u=some x:=by
 cases x with
 |non=>cases r;rfl
 |bl _=>cases r;rfl
 |int _=>obtain⟨t,rfl⟩:=r;rfl
 |str _=>obtain⟨t,rfl⟩:=r;rfl
 |byt _=>obtain⟨t,rfl⟩:=r;rfl
 |flt _=>obtain⟨t,rfl⟩:=r;rfl
 |ref _=>cases r;rfl
 |ty _=>cases r;rfl
def RelV.inj{x:V}(r:RelV x u)(q:RelV y u):x=y:=bt (r.abs.symm.trans q.abs)
theorem Vals.inj:∀{xs ys:List V} {us:List Value},Vals xs us->Vals ys us->xs=ys
 |_,_,_,.nil,.nil=>rfl
 |_,_,_,.cons r t,.cons r' t'=>by rw[r.inj r',Vals.inj t t']
section
variable {ys:List V}
def SqL.of(h:H a=some (.lst xs)):SqL K H a xs:=.inl (.inl h)
def SqT.of(h:H a=some (.tup xs)):SqT K H a xs:=.inl (.inl h)
def Inv.list(I:Inv X pins σ H s)(h:SqL X.K H a xs):∃its:List Value,Vals xs its/\PlainL s.heap a its.toArray/\xs.length<=aU:=by
 rcases h with h|⟨o,its,n,hk,hc,hd,hs,hz,r⟩
 ·obtain⟨z,its,n,r,e⟩:=h.ok I.hok;exact⟨its,r,⟨_,n,e,rfl,rfl,rfl⟩,z⟩
 ·refine⟨its.toList,r,⟨o,n,I.kIn a o hk,hc,hd,by simpa using hs⟩,?_⟩;have e:=r.length;simp only[dU]at e;lia
def Inv.tuple(I:Inv X pins σ H s)(h:SqT X.K H a xs):∃its:List Value,Vals xs its/\IsTup s.heap a its.toArray/\xs.length<=aU:=by
 rcases h with h|⟨o,its,n,hk,hc,hs,hz,r⟩
 ·obtain⟨z,its,r,p⟩:=h.ok I.hok;exact⟨its,r,p,z⟩
 ·refine⟨its.toList,r,⟨o,I.kIn a o hk,hc,n,by simpa using hs⟩,?_⟩;have e:=r.length;simp only[dU]at e;lia
def Inv.list_inj(I:Inv X pins σ H s)(h:SqL X.K H a xs)(h':SqL X.K H a ys):xs=ys:=by
 obtain⟨its,r,⟨o,n,e,_,_,d⟩,_⟩:=I.list h;obtain⟨its',r',⟨o',n',e',_,_,d'⟩,_⟩:=I.list h';rw[e]at e';cases e';rw[d]at d';injection d' with d1 _;have:its=its':=by simpa using congrArg Array.toList d1
 subst this;exact r.inj r'
def Inv.tuple_inj(I:Inv X pins σ H s)(h:SqT X.K H a xs)(h':SqT X.K H a ys):xs=ys:=by
 obtain⟨its,r,⟨o,e,_,n,d⟩,_⟩:=I.tuple h;obtain⟨its',r',⟨o',e',_,n',d'⟩,_⟩:=I.tuple h';rw[e]at e';cases e';rw[d]at d';injection d' with d1 _;have:its=its':=by simpa using congrArg Array.toList d1
 subst this;exact r.inj r'
end
noncomputable abbrev Cx.wish(X:Cx)(E:Value->ak->Prop):Cx:={X with xe:=E}
abbrev Cx.nox(X:Cx):Cx:=X.wish λ_ _=>False
def Cx.Ok.wish(ok:X.Ok)(E:Value->ak->Prop):(X.wish E).Ok:=
 ⟨ok.mod,ok.kind,ok.glob,ok.blt,ok.above,ok.inj,ok.has,ok.cab,ok.hd,ok.frames,ok.stk,ok.exf,ok.bs,ok.bsz,ok.noex,ok.exfs,ok.funs,ok.frf,ok.cab2,ok.hz⟩
def Cx.Ok.unwish(ok:(X.wish E).Ok):X.Ok:=
 ⟨ok.mod,ok.kind,ok.glob,ok.blt,ok.above,ok.inj,ok.has,ok.cab,ok.hd,ok.frames,ok.stk,ok.exf,ok.bs,ok.bsz,ok.noex,ok.exfs,ok.funs,ok.frf,ok.cab2,ok.hz⟩
def Inv.wish(I:Inv X pins σ H s)(E:Value->ak->Prop):Inv (X.wish E) pins σ H s:=⟨I.ok.wish E,I.os,I.bare,I.base,I.loc,I.cell,I.free,I.freeC,I.pin,I.hok,I.len⟩
def Inv.unwish(I:Inv (X.wish E) pins σ H s):Inv X pins σ H s:=⟨I.ok.unwish,I.os,I.bare,I.base,I.loc,I.cell,I.free,I.freeC,I.pin,I.hok,I.len⟩
theorem SP.unwish{f:Flow}(h:SP (X.wish E) pins D f s'):SP X pins D f s':=by
 cases f with
 |next=>obtain⟨σ',H',I,q⟩:=h;exact⟨σ',H',I.unwish,q⟩
 |brk=>obtain⟨σ',H',I,q⟩:=h;exact⟨σ',H',I.unwish,q⟩
 |cont=>obtain⟨σ',H',I,q⟩:=h;exact⟨σ',H',I.unwish,q⟩
 |ret u=>obtain⟨v,σ',H',I,r,q⟩:=h;exact⟨v,σ',H',I.unwish,r,q⟩
def PSs.nox{st:List Stmt}{t:TS}(h:PSs X.nox st t):PSs X st t:=λpins s σ H D I hw=>
 aN (h pins s σ H D (I.wish _) hw) (λ_ _ q=>q.unwish) λ_ _ z=>bc z
section
variable {X:Cx} {st:Stmt} {rest:List Stmt} {t u:TS} {e:Expr} {te:TE} {pos:Pos}
def xte:TS:=λD σ H=>D.nx σ H
def xtW(t u:TS):TS:=λD σ H=>t {D with nx:=u D} σ H
def xF:PSs X [] xte:=λ_ _ σ H _ I h=>dw ⟨σ,H,I,h⟩
theorem xf(h1:PS X st t)(h2:PSs X rest u):PSs X (st::rest) (xtW t u):=by
 intro pins s σ H D I h;refine fW (thn (h1 pins s σ H {D with nx:=u D} I h) λf s1 q=>?_);cases f with
 |next=>
  obtain⟨σ',H',I',q⟩:=q;exact h2 pins s1 σ' H' D I' q
 |ret v=>exact q
 |brk=>exact q
 |cont=>exact q
theorem xk(h1:PS X st t):PSs X [st] t:=by
 intro pins s σ H D I h;refine fW (thn (h1 pins s σ H D I h) λf s1 q=>?_);cases f with
 |next=>exact dw q
 |ret v=>exact q
 |brk=>exact q
 |cont=>exact q
def Inv.quiet(I:Inv X pins σ H s):interactive X.env=false:=by simp[interactive,I.ok.kind]
def xtf(te:TE):TS:=λD σ H=>te σ H λ_ H1=>D.nx σ H1
def xK(he:PE X e te)(hs:autoParam (eO e none pos.line X.env=pure false) sV):PS X (.Expr e pos) (xtf te):=by
 intro pins s σ H D I h;exact wpAny_Expr_any (yg (he pins s σ H _ I h) λv s1 x H1 I1 r1 q1=>⟨σ,H1,I1,q1⟩) I.quiet hs
def xtX(te:TE):TS:=λD σ H=>te σ H D.rt
def xv(he:PE X e te):PS X (.Return (some e) pos) (xtX te):=by
 intro pins s σ H D I h;exact wpAny_Return_some (yg (he pins s σ H _ I h) λv s1 x H1 I1 r1 q1=>⟨x,σ,H1,I1,r1,q1⟩)
def xtg:TS:=λD _ H=>D.rt .non H
def xq1:PS X (.Return none pos) xtg:=λ_ _ σ H _ I h=>wpAny_Return_none ⟨.non,σ,H,I,rfl,h⟩
end
abbrev TG:=V->St->Hp->(St->Hp->Prop)->Prop
abbrev TGs:=List V->St->Hp->(St->Hp->Prop)->Prop
def PG(X:Cx)(target:Expr)(t:TG):Prop:=
 ∀(pins:List (Addr×Obj)) (s:ak) (σ:St) (H:Hp) (v:V) (u:Value) (Q:St->Hp->Prop),Inv X pins σ H s->RelV v u->t v σ H Q->
  wpAny (model X.prog X.w) X.A (gK target X.env u) (λ_ s'=>SPn X pins Q s') X.xe s
def PGs(X:Cx)(ts:List Expr)(t:TGs):Prop:=
 ∀(pins:List (Addr×Obj)) (s:ak) (σ:St) (H:Hp) (vs:List V) (us:List Value) (Q:St->Hp->Prop),Inv X pins σ H s->Vals vs us->t vs σ H Q->
  wpAny (model X.prog X.w) X.A (assignInOrder ((gp ts X.env).map (·.2)) us) (λ_ s'=>SPn X pins Q s') X.xe s
abbrev xpC:=V->V->V->Hp->(Hp->Prop)->Prop
def xpD(X:Cx)(t:xpC):Prop:=
 ∀(pins:List (Addr×Obj)) (s:ak) (σ:St) (H:Hp) (o i v:V) (ov iv u:Value) (Q:Hp->Prop),Inv X pins σ H s->RelV o ov->RelV i iv->RelV v u->t o i v H Q->
  wpAny (model X.prog X.w) X.A (setItem ov iv u) (λ_ s'=>∃H',Inv X pins σ H' s'/\Q H') X.xe s
section
variable {X:Cx} {pos:Pos}
def xgQ(i:Nat):TG:=λv σ H Q=>Q (σ.set i (some v)) H
def yc(hN:X.N.Nodup)(hi:X.N[i]? =some x)(hx:Loc X.env.scope x)(hf:autoParam (X.fn x=true\/X.env.scope.names.lookup x=some .local) sZ):PG X (.Name x pos) (xgQ i):=by
 intro pins s σ H v u Q I r h;exact gX (xaJ I hN hi hx r (λs' I'=>⟨_,H,I',h⟩) hf)
def xtY:TGs:=λvs σ H Q=>vs=[]/\Q σ H
def xth(t:TG)(u:TGs):TGs:=λvs σ H Q=>Ex2 λv r=>vs=v::r/\t v σ H λσ' H'=>u r σ' H' Q
def xaK:PGs X [] xtY:=by
 intro pins s σ H vs us Q I r h;obtain⟨e,h⟩:=h;subst e;cases r;exact assignInOrder_nil ⟨σ,H,I,h⟩
theorem yB{t:TG}{u:TGs}(h1:PG X e t)(h2:PGs X es u)
  (hs:autoParam ((gp (e::es) X.env).map (·.2)=gK e X.env::(gp es X.env).map (·.2)) sV):PGs X (e::es) (xth t u):=by
 intro pins s σ H vs us Q I r h;obtain⟨v,vr,e1,h⟩:=h;subst e1;cases r with
 |cons r rr=>
  rw[hs];refine assignInOrder_cons (thn (h1 pins s σ H _ _ _ I r h) λ_ s1 ⟨σ1,H1,I1,q1⟩=>?_);exact h2 pins s1 σ1 H1 _ _ Q I1 rr q1
def xtZ(K:aq)(n:Nat)(t:TGs):TG:=λv σ H Q=>Ex2 λa xs=>v= .ref a/\SqT K H a xs/\xs.length=n/\t xs σ H Q
def xb8{k:Nat}{t:TGs}{n:Nat}(hc:X.calm=true)(h:PGs X es t)
  (hn:autoParam ((gp es X.env).length=n) sV) (kP:autoParam ((gp es X.env).findIdx? (·.1)=none) sV):PG X (.Tuple es k pos) (xtZ X.K n t):=by
 intro pins s σ H v u Q I r hw;obtain⟨a,xs,e1,hq,hl,hw⟩:=hw;subst e1;cases r;obtain⟨its,rv,ht,hz⟩:=I.tuple hq;refine assign_Tuple_tuple (I.ok.hd hc) ht (by simp[hn,<-hl,rv.length]) kP λh' hx=>?_;have I1:Inv X pins σ H {s with heap:=h'}:=I.kept (t':=s.toks) λb o e=>hx b o (aQ (aB e)) e;exact h pins _ σ H xs _ Q I1 (by simpa using rv) hw
def xt0(to ti:TE)(t:xpC):TG:=λv σ H Q=>to σ H λo H1=>ti σ H1 λi H2=>t o i v H2 λH3=>Q σ H3
def xgR{o i:Expr}{to ti:TE}{t:xpC}(ho:PE X o to)(hi:PE X i ti)(hs:xpD X t)
  (ha:autoParam (∀v,gK (.Subscript o i pos) X.env v=(do
   let ov <-fK [v] (eval o X.env)
   let iv <-fK [v,ov] (eval i X.env)
   ic pos
   fK [v,ov,iv] (setItem ov iv v)
   release [v,ov,iv] [])) sY):PG X (.Subscript o i pos) (xt0 to ti t):=by
 intro pins s σ H v u Q I r h;rw[ha];refine af (bJ (yg (ho pins s σ H _ I h) λov s1 x H1 I1 r1 q1=>?_));refine af (bJ (yg (hi pins s1 σ H1 _ I1 q1) λiv s2 y H2 I2 r2 q2=>?_));refine af (ck (af (bJ (thn (hs pins s2 σ H2 x y v ov iv u _ I2 r1 r2 r q2) λ_ s3 ⟨H3,I3,q3⟩=>?_))));exact wpAny_release ⟨σ,H3,I3,q3⟩
def xgj(te:TE)(g:TG):TS:=λD σ H=>te σ H λx H1=>g x σ H1 D.nx
def xdu(he:PE X e te)(hg:PG X tg g)(hs:autoParam (swapsWithSole [tg] e pos.line X.env=pure false) sV)(hw:autoParam (swappedStores [tg] e X.env=pure none) sV)
  (h1:autoParam ((gp [tg] X.env).map (·.2)=[gK tg X.env]) sV):PS X (.Assign [tg] e pos) (xgj te g):=by
 intro pins s σ H D I h;refine wpAny_Assign_stores (yg (he pins s σ H _ I h) λv s1 x H1 I1 r1 q1=>?_) hs hw;rw[h1];exact thn (hg pins s1 σ H1 x v _ I1 r1 q1) λ_ s2 q=>q
def xC{i:Nat}{x:Str}{e:Expr}{te:TE}{pos':Pos}(hN:X.N.Nodup)(hi:X.N[i]? =some x)(hx:Loc X.env.scope x)(he:PE X e te)(hs:autoParam (eO e (some (.Name x pos')) pos.line X.env=pure false) sV)(hf:autoParam (X.fn x=true\/X.env.scope.names.lookup x=some .local) sZ):
  PS X (.Assign [.Name x pos'] e pos) (xgj te (xgQ i)):=by
 intro pins s σ H D I h;refine wpAny_Assign_Name (yg (he pins s σ H _ I h) λv s1 y H1 I1 r1 q1=>?_) hs;exact xaJ I1 hN hi hx r1 (λs2 I2=>⟨_,H1,I2,q1⟩) hf
end
structure It where
 go:Nat->Hp->Prop
 yld:Nat->Hp->V->Hp->Prop
 stop:Nat->Hp->Prop
def xc3(X:Cx)(pins:List (Addr×Obj))(H:Hp)(b:Addr):Prop:=
 H b=none/\b≠X.env.locals/\b∉X.fs/\(b∈X.ex\/X.s₀.heap.objs.size<=b)/\(∀x c,X.env.cells.lookup x=some c->c≠b)/\∀p∈X.pn++pins,p.1≠b
def Inv.fpOk(I:Inv X pins σ H s)(hb:s.heap.objs.size<=b)(hn:H' b=none):xc3 X pins H' b:=by
 refine⟨hn,gr (aJ I.lt hb),I.nofs hb,.inr (bG I.sz hb),λx c e z=>?_,λp hp z=>?_⟩
 ·obtain⟨v,q⟩:=I.cell x c e;exact absurd (aJ q.lt (by rw[z];exact hb)) (cg _)
 ·exact absurd (aJ (aB (I.pin p hp).1) (by rw[z];exact hb)) (cg _)
structure Turn(P:aH)(w:World)(K:aq)(tg:Expr)(J:It)(fp:List Addr)(it:Addr)(tn:Nat->Heap->Prop):Prop where
 mem:it∈fp
 obj:∀i h,tn i h->∀b∈fp,∃o,h.get? b=some o/\∀v,o.data≠.cell v
 keep:∀i h h',tn i h->(∀b∈fp,∀o,h.get? b=some o->h'.get? b=some o)->tn i h'
 item:∀(X:Cx),X.prog=P->X.w=w->X.K=K->X.calm=true->∀(i:Nat) (pins:List (Addr×Obj)) (s:ak) (σ:St) (H:Hp) (E:Value->ak->Prop),Inv X pins σ H s->(∀b∈fp,xc3 X pins H b)->tn i s.heap->J.go i H->
  wpAny (model P w) X.A (pyNext (.ref it)) (λr s1=>∃u,r=some u/\
   wpAny (model P w) X.A (gs tg (.ref it) u) (λ_ s2=>∃x H',Inv X pins σ H' s2/\RelV x u/\J.yld i H x H'/\tn (i+1) s2.heap/\∀b∈fp,H' b=none) E s1) E s
 done:∀(X:Cx),X.prog=P->X.w=w->X.K=K->X.calm=true->∀(i:Nat) (pins:List (Addr×Obj)) (s:ak) (σ:St) (H:Hp) (E:Value->ak->Prop),Inv X pins σ H s->(∀b∈fp,xc3 X pins H b)->tn i s.heap->J.stop i H->
  wpAny (model P w) X.A (pyNext (.ref it)) (λr s1=>r=none/\Inv X pins σ H s1) E s
 self:∀(A:bo) (i:Nat) (s:ak) (Q:Value->ak->Prop) (E:Value->ak->Prop),tn i s.heap->Q (.ref it) s->wpAny (model P w) A (pyIter (.ref it)) Q E s
abbrev TI:=St->Hp->(It->Hp->Prop)->Prop
def PIE(X:Cx)(pins:List (Addr×Obj))(σ:St)(tg:Expr)(R:It->Hp->Prop)(kP:Value)(s2:ak):Prop:=
 ∃(it:Addr) (fp:List Addr) (tn:Nat->Heap->Prop) (J:It) (H':Hp),kP= .ref it/\Inv X pins σ H' s2/\Turn X.prog X.w X.K tg J fp it tn/\tn 0 s2.heap/\(∀b∈fp,xc3 X pins H' b)/\R J H'
def PI(X:Cx)(tg iter:Expr)(wi:TI):Prop:=
 ∀(pins:List (Addr×Obj)) (s:ak) (σ:St) (H:Hp) (R:It->Hp->Prop),Inv X pins σ H s->wi σ H R->
  wpAny (model X.prog X.w) X.A (eval iter X.env) (λv s1=>wpAny (model X.prog X.w) X.A (pyIter v) (PIE X pins σ tg R) X.xe s1) X.xe s
theorem xj8{it:Addr}{o:Obj}{n:String}{vs:Array Value}{Q:Unit->ak->Prop}(ho:s.heap.get? it=some o)(hc:o.cls= .type n)(hd:o.data= .fields vs)
  (hn:["enumerate","zip","dict_itemiterator","dict_reverseitemiterator","odict_iterator","itertools.zip_longest","itertools.pairwise"].contains n=false) (hQ:Q () s):wpAny M A (gs tg (.ref it) u) Q E s:=by
 unfold gs;cases tg<;> first
  |exact aA hQ
  |(cases u<;> first
    |exact aA hQ
    |(refine af (wpAny_load ho ?_)
      rw[hc,hd];show wpAny M A (if (["enumerate","zip","dict_itemiterator","dict_reverseitemiterator","odict_iterator","itertools.zip_longest","itertools.pairwise"].contains n&&vs[0]? ==some (bN _))=true then _ else _) Q E s;rw[if_neg (by intro h;rw[hn,Bool.false_and]at h;cases h)];exact aA hQ))
def Itl(K:aq)(a:Addr):It:=
 ⟨λi H=>Ex2 λxs x=>SqL K H a xs/\xs[i]? =some x,λi H x H'=>H'=H/\∀xs,SqL K H a xs->xs[i]? =some x,λi H=>∃xs,SqL K H a xs/\xs.length<=i⟩
def Itt(K:aq)(a:Addr):It:=
 ⟨λi H=>Ex2 λxs x=>SqT K H a xs/\xs[i]? =some x,λi H x H'=>H'=H/\∀xs,SqT K H a xs->xs[i]? =some x,λi H=>∃xs,SqT K H a xs/\xs.length<=i⟩
def xof(a it:Addr):Turn P w K tg (Itl K a) [it] it (λi h=>h.IsListIter it a i) where
 mem:=by simp
 obj:=λi h st b hb=>by
  have e:b=it:=by simpa using hb
  subst e;refine L2.oG λ_ Z=>?_;obtain⟨o,e,c,d⟩:=st;apply Z;exact⟨o,e,λv z=>by rw[d]at z;cases z⟩
 keep:=λi h h' st k=>st.at λo e=>k it (by simp) o e
 item:=by
  intro X hP hw hK hc i pins s σ H E I hf st hg;subst hP hw hK;refine L2.oG λ_ Z=>?_;obtain⟨xs,x,hq,hx⟩:=hg;obtain⟨its,rv,p,hz⟩:=I.list hq;obtain⟨u,hu,ru⟩:=rv.get hx;obtain⟨f0,f1,f2,f3,f4,f5⟩:=hf it (by simp);apply Z;refine wpAny_pyNext_list_item st p.isList (x:=u) (by simpa using hu) λh' kP sb=>?_;have I1:Inv X pins σ H {s with heap:=h'}:=I.turned (t':=s.toks) (λb o hb e=>(sb.2 b hb).trans e) f0 f1 f3 f4 f5;refine L2.oG λ_ Z=>?_;obtain⟨o,e,c,d⟩:=id kP;apply Z;exact⟨u,rfl,xj8 (s:={s with heap:=h'}) e c d (by decide) ⟨x,H,I1,ru,⟨rfl,λys hy=>by rw[I.list_inj hy hq];exact hx⟩,kP,λb hb=>(hf b hb).1⟩⟩
 done:=by
  intro X hP hw hK hc i pins s σ H E I hf st hg;subst hP hw hK;refine L2.oG λ_ Z=>?_;obtain⟨xs,hq,hx⟩:=hg;obtain⟨its,rv,p,hz⟩:=I.list hq;obtain⟨f0,f1,f2,f3,f4,f5⟩:=hf it (by simp);apply Z;have hl:=rv.length;exact wpAny_pyNext_list_end (I.ok.hd hc) st p.isList (by simp;lia) λh' eb=>⟨rfl,I.turned (t':=s.toks) (λb o hb e=>eb b o hb e) f0 f1 f3 f4 f5⟩
 self:=λ_ _ _ _ _ st h=>wpAny_pyIter_listiter st h
def xm1(a it:Addr):Turn P w K tg (Itt K a) [it] it (λi h=>h.IsTupleIter it a i) where
 mem:=by simp
 obj:=λi h st b hb=>by
  have e:b=it:=by simpa using hb
  subst e;refine L2.oG λ_ Z=>?_;obtain⟨o,e,c,d⟩:=st;apply Z;exact⟨o,e,λv z=>by rw[d]at z;cases z⟩
 keep:=λi h h' st k=>st.at λo e=>k it (by simp) o e
 item:=by
  intro X hP hw hK hc i pins s σ H E I hf st hg;subst hP hw hK;refine L2.oG λ_ Z=>?_;obtain⟨xs,x,hq,hx⟩:=hg;obtain⟨its,rv,p,hz⟩:=I.tuple hq;obtain⟨u,hu,ru⟩:=rv.get hx;obtain⟨f0,f1,f2,f3,f4,f5⟩:=hf it (by simp);apply Z;refine wpAny_pyNext_tuple_item st (show s.heap.IsTuple a its.toArray from p) (x:=u) (by simpa using hu) λh' kP sb=>?_;have I1:Inv X pins σ H {s with heap:=h'}:=I.turned (t':=s.toks) (λb o hb e=>(sb.2 b hb).trans e) f0 f1 f3 f4 f5;refine L2.oG λ_ Z=>?_;obtain⟨o,e,c,d⟩:=id kP;apply Z;exact⟨u,rfl,xj8 (s:={s with heap:=h'}) e c d (by decide) ⟨x,H,I1,ru,⟨rfl,λys hy=>by rw[I.tuple_inj hy hq];exact hx⟩,kP,λb hb=>(hf b hb).1⟩⟩
 done:=by
  intro X hP hw hK hc i pins s σ H E I hf st hg;subst hP hw hK;refine L2.oG λ_ Z=>?_;obtain⟨xs,hq,hx⟩:=hg;obtain⟨its,rv,p,hz⟩:=I.tuple hq;obtain⟨f0,f1,f2,f3,f4,f5⟩:=hf it (by simp);apply Z;have hl:=rv.length;exact wpAny_pyNext_tuple_end (I.ok.hd hc) st (show s.heap.IsTuple a its.toArray from p) (by simp;lia) λh' eb=>⟨rfl,I.turned (t':=s.toks) (λb o hb e=>eb b o hb e) f0 f1 f3 f4 f5⟩
 self:=λ_ _ _ _ _ st h=>wpAny_pyIter_tupleiter st h
def xti(K:aq)(tl:TE):TI:=λσ H R=>tl σ H λx H1=>∃a,x= .ref a/\(∃xs,SqL K H1 a xs)/\R (Itl K a) H1
def xt1(K:aq)(tl:TE):TI:=λσ H R=>tl σ H λx H1=>∃a,x= .ref a/\(∃xs,SqT K H1 a xs)/\R (Itt K a) H1
def zx{l:Expr}{tl:TE}(hl:PE X l tl):PI X tg l (xti X.K tl):=by
 intro pins s σ H R I h;refine yg (hl pins s σ H _ I h) λv s1 x H1 I1 r1 q1=>?_;obtain⟨a,e,⟨xs,hq⟩,q⟩:=q1;subst e;cases r1;obtain⟨its,rv,p,hz⟩:=I1.list hq;refine fP p.isList ?_;refine⟨s1.heap.objs.size,[s1.heap.objs.size],_,_,H1,rfl,I1.kept (t':=s1.toks) λb o e=>ai _ e,xof a _,⟨_,aT _ rfl,rfl,rfl⟩,λb hb=>?_,q⟩;have e:b=s1.heap.objs.size:=by simpa using hb
 subst e;exact I1.fpOk (ay _) (I1.hok.fresh (ay _))
def xgS{l:Expr}{tl:TE}(hl:PE X l tl):PI X tg l (xt1 X.K tl):=by
 intro pins s σ H R I h;refine yg (hl pins s σ H _ I h) λv s1 x H1 I1 r1 q1=>?_;obtain⟨a,e,⟨xs,hq⟩,q⟩:=q1;subst e;cases r1;obtain⟨its,rv,p,hz⟩:=I1.tuple hq;refine gL (show s1.heap.IsTuple a its.toArray from p) ?_;refine⟨s1.heap.objs.size,[s1.heap.objs.size],_,_,H1,rfl,I1.kept (t':=s1.toks) λb o e=>ai _ e,xm1 a _,⟨_,aT _ rfl,rfl,rfl⟩,λb hb=>?_,q⟩;have e:b=s1.heap.objs.size:=by simpa using hb
 subst e;exact I1.fpOk (ay _) (I1.hok.fresh (ay _))
def xpE(wi:TI)(g:TG)(tb:TS):TS:=λD σ H=>wi σ H λJ H1=>∃W:Nat->Nat->St->Hp->Prop,(∃m,W 0 m σ H1)/\∀i m σ H,W i m σ H->
 (J.stop i H/\D.nx σ H)\/(J.go i H/\∃N:St->Hp->Prop,(∀σ' H',N σ' H'->∃m',m'<m/\W (i+1) m' σ' H')/\∀x H',J.yld i H x H'->g x σ H' λσ2 H2=>tb {D with nx:=N,ct:=N,bk:=D.nx} σ2 H2)
def xb9(fp:List Addr)(h:Heap):List (Addr×Obj):=fp.filterMap λb=>(h.get? b).map λo=>(b,o)
def xbP{o:Obj}(hb:b∈fp)(e:h.get? b=some o):(b,o)∈xb9 fp h:=dm.mpr ⟨b,hb,by rw[e];rfl⟩
theorem xog{p:Addr×Obj}(hp:p∈xb9 fp h):p.1∈fp/\h.get? p.1=some p.2:=by
 obtain⟨b,hb,e⟩:=dm.mp hp;cases q:h.get? b with
 |none=>rw[q]at e;cases e
 |some o=>
  rw[q]at e;have e':(b,o)=p:=bt e;subst e';exact⟨hb,q⟩
def Inv.pinned(I:Inv X pins σ H s)(hf:∀b∈fp,xc3 X pins H b)(ho:∀b∈fp,∃o,s.heap.get? b=some o/\∀v,o.data≠.cell v):Inv X (pins++xb9 fp s.heap) σ H s:=
 I.pins_of λp hp=>(aW.mp hp).elim (λz=>I.pin p (aI _ z)) λz=>by
  obtain⟨hb,e⟩:=xog z;obtain⟨f0,f1,f2,_⟩:=hf p.1 hb;obtain⟨o,e',d⟩:=ho p.1 hb;rw[e]at e';cases e';exact⟨e,f0,f1,f2,d⟩
def Inv.unpinned{pl:List (Addr×Obj)}(I:Inv X (pins++pl) σ H s):Inv X pins σ H s:=I.pins_of λp hp=>I.pin p (aI _ (ba _ hp))
theorem xsj{iter:Expr}{body:List Stmt}{wi:TI}{tb:TS}(hp:PassesOwn (model X.prog X.w) X.A X.env X.xe)(hc:X.calm=true)(hi:PI X tg iter wi)(hg:PG X tg g)(hb:PSs X body tb)
  (hs:autoParam (∀x,fQ iter X.env x=pure x) sY):PS X (.For tg iter body [] pos) (xpE wi g tb):=by
 intro pins s σ H D I h;refine wpAny_For (thn (hi pins s σ H _ I h) λv s1 h1=>thn h1 λla s2 h2=>?_) hs;refine L2.oG λ_ Z=>?_;obtain⟨it,fp,tn,J,H2,e,I2,T,kY,f2,W,⟨m0,w0⟩,turn⟩:=h2;apply Z;subst e
 -- kW stays true of kX kQ objects through kX loop
 have kP:∀{H':Hp},(∀b∈fp,H' b=none)->∀b∈fp,xc3 X pins H' b:=λhn b hb=>⟨hn b hb,(f2 b hb).2⟩;refine codeAny_forLoop_any (λn s'=>∃i σ' H',Inv X pins σ' H' s'/\tn i s'.heap/\(∀b∈fp,H' b=none)/\W i n σ' H') ?_ m0 ⟨0,σ,H2,I2,kY,λb hb=>(f2 b hb).1,w0⟩;rintro n s3 ⟨i,σ3,H3,I3,kS,kT,w3⟩;rcases turn i n σ3 H3 w3 with⟨stop,qn⟩|⟨go,N,hN,step⟩
 ·refine fh hp (thn (T.done X rfl rfl rfl hc i pins s3 σ3 H3 X.xe I3 (kP kT) kS stop) λr s4 ⟨hr,I4⟩=>?_);subst hr;exact dw ⟨σ3,H3,I4,qn⟩
 ·refine fh hp (thn (T.item X rfl rfl rfl hc i pins s3 σ3 H3 X.xe I3 (kP kT) kS go) λr s4 ⟨u,hr,h4⟩=>?_);subst hr;refine fh hp (thn h4 λ_ s5 ⟨x,H5,I5,r5,y5,kR,kZ⟩=>?_);have I5':=I5.pinned (kP kZ) (T.obj _ _ kR);refine fh hp (thn (hg _ s5 σ3 H5 x u _ I5' r5 (step x H5 y5)) λ_ s6 ⟨σ6,H6,I6,q6⟩=>?_);refine fh hp (thn (hb _ s6 σ6 H6 _ I6 q6) λf s7 q7=>?_);have again:∀{σ7:St} {H7:Hp},Inv X (pins++xb9 fp s5.heap) σ7 H7 s7->N σ7 H7->∃m,m<n/\∃i σ' H',Inv X pins σ' H' s7/\tn i s7.heap/\(∀b∈fp,H' b=none)/\W i m σ' H':=λ{σ7 H7} I7 n7=>by
   refine L2.oG λ_ Z=>?_;obtain⟨m',hm,w7⟩:=hN σ7 H7 n7;apply Z;refine⟨m',hm,i+1,σ7,H7,I7.unpinned,T.keep _ _ _ kR λb hb o e=>(I7.pin (b,o) (aI _ (aI _ (xbP hb e)))).1,λb hb=>?_,w7⟩;refine L2.oG λ_ Z=>?_;obtain⟨o,e,d⟩:=T.obj _ _ kR b hb;apply Z;exact(I7.pin (b,o) (aI _ (aI _ (xbP hb e)))).2.1
  cases f with
  |next=>obtain⟨σ7,H7,I7,n7⟩:=q7;exact again I7 n7
  |cont=>obtain⟨σ7,H7,I7,n7⟩:=q7;exact again I7 n7
  |brk=>obtain⟨σ7,H7,I7,q7⟩:=q7;exact⟨σ7,H7,I7.unpinned,q7⟩
  |ret v=>obtain⟨x7,σ7,H7,I7,r7,q7⟩:=q7;exact⟨x7,σ7,H7,I7.unpinned,r7,q7⟩
def xpF{tb:TS}(Pv:Nat->St->Hp->Prop)(h0:Pv 0 σ H)(hl:∀i σ H,i<=xs.length->Pv i σ H->SqL K H a xs)
  (hs:∀i x σ H,xs[i]? =some x->Pv i σ H->g x σ H λσ2 H2=>tb {D with nx:=Pv (i+1),ct:=Pv (i+1),bk:=D.nx} σ2 H2) (hd:∀σ H,Pv xs.length σ H->D.nx σ H):
  ∃W:Nat->Nat->St->Hp->Prop,(∃m,W 0 m σ H)/\∀i m σ H,W i m σ H->
   ((Itl K a).stop i H/\D.nx σ H)\/((Itl K a).go i H/\∃N:St->Hp->Prop,(∀σ' H',N σ' H'->∃m',m'<m/\W (i+1) m' σ' H')/\∀x H',(Itl K a).yld i H x H'->g x σ H' λσ2 H2=>tb {D with nx:=N,ct:=N,bk:=D.nx} σ2 H2):=by
 refine⟨λi m σ H=>m=xs.length - i/\i<=xs.length/\Pv i σ H,⟨xs.length,by simp,bL _,h0⟩,?_⟩;rintro i m σ H ⟨rfl,hi,p⟩;have q:=hl i σ H hi p
 by_cases kP:i<xs.length
 ·refine .inr ⟨⟨xs,xs[i],q,by simp[kP]⟩,Pv (i+1),λσ' H' p'=>⟨xs.length - (i+1),by lia,rfl,kP,p'⟩,λx H' y=>?_⟩;obtain⟨e,y⟩:=y;subst e;exact hs i x σ _ (y xs q) p
 ·have e:i=xs.length:=by lia
  subst e;exact .inl ⟨⟨xs,q,ay _⟩,hd σ H p⟩
def xq2{tb:TS}(Pv:Nat->St->Hp->Prop)(h0:Pv 0 σ H)(hl:∀i σ H,i<=xs.length->Pv i σ H->SqT K H a xs)
  (hs:∀i x σ H,xs[i]? =some x->Pv i σ H->g x σ H λσ2 H2=>tb {D with nx:=Pv (i+1),ct:=Pv (i+1),bk:=D.nx} σ2 H2) (hd:∀σ H,Pv xs.length σ H->D.nx σ H):
  ∃W:Nat->Nat->St->Hp->Prop,(∃m,W 0 m σ H)/\∀i m σ H,W i m σ H->
   ((Itt K a).stop i H/\D.nx σ H)\/((Itt K a).go i H/\∃N:St->Hp->Prop,(∀σ' H',N σ' H'->∃m',m'<m/\W (i+1) m' σ' H')/\∀x H',(Itt K a).yld i H x H'->g x σ H' λσ2 H2=>tb {D with nx:=N,ct:=N,bk:=D.nx} σ2 H2):=by
 refine⟨λi m σ H=>m=xs.length - i/\i<=xs.length/\Pv i σ H,⟨xs.length,by simp,bL _,h0⟩,?_⟩;rintro i m σ H ⟨rfl,hi,p⟩;have q:=hl i σ H hi p
 by_cases kP:i<xs.length
 ·refine .inr ⟨⟨xs,xs[i],q,by simp[kP]⟩,Pv (i+1),λσ' H' p'=>⟨xs.length - (i+1),by lia,rfl,kP,p'⟩,λx H' y=>?_⟩;obtain⟨e,y⟩:=y;subst e;exact hs i x σ _ (y xs q) p
 ·have e:i=xs.length:=by lia
  subst e;exact .inl ⟨⟨xs,q,ay _⟩,hd σ H p⟩
abbrev R2:=V->V->Hp->VK->Prop
def OpR(X:Cx)(f:Value->Value->Sem Value)(r:R2):Prop:=
 ∀(pins:List (Addr×Obj)) (s:ak) (σ:St) (H:Hp) (x y:V) (v u:Value) (Q:VK),Inv X pins σ H s->RelV x v->RelV y u->r x y H Q->
  wpAny (model X.prog X.w) X.A (f v u) (EP X pins σ Q) X.xe s
def UnR(X:Cx)(f:Value->Sem Value)(r:V->Hp->VK->Prop):Prop:=
 ∀(pins:List (Addr×Obj)) (s:ak) (σ:St) (H:Hp) (x:V) (v:Value) (Q:VK),Inv X pins σ H s->RelV x v->r x H Q->
  wpAny (model X.prog X.w) X.A (f v) (EP X pins σ Q) X.xe s
def zy(X:Cx)(f:Value)(r:List V->Hp->VK->Prop):Prop:=
 ∀(pins:List (Addr×Obj)) (s:ak) (σ:St) (H:Hp) (xs:List V) (us:List Value) (Q:VK),Inv X pins σ H s->Vals xs us->r xs H Q->
  wpAny (model X.prog X.w) X.A (call f us) (EP X pins σ Q) X.xe s
def tOp(r:R2)(ta tb:TE):TE:=λσ H Q=>ta σ H λx H1=>tb σ H1 λy H2=>r x y H2 Q
def tUn(r:V->Hp->VK->Prop)(ta:TE):TE:=λσ H Q=>ta σ H λx H1=>r x H1 Q
def rI(C:Int->Int->Prop)(g:Int->Int->V):R2:=λx y H Q=>Ex2 λi j=>x= .int i/\y= .int j/\C i j/\Q (g i j) H
def rI0(g:Int->Int->V):R2:=λx y H Q=>Ex2 λi j=>x= .int i/\y= .int j/\Q (g i j) H
def rU(g:Int->V):V->Hp->VK->Prop:=λx H Q=>∃i,x= .int i/\Q (g i) H
section
variable {X:Cx} {a b c:Expr} {ta tb tc:TE} {pos:Pos}
def xpG(ha:PE X a ta)(hb:PE X b tb){R:V->V->Hp->Prop}(I:Inv X pins σ H s)
  (h:ta σ H λx H1=>tb σ H1 λy H2=>R x y H2) {f:Value->Value->Sem Value}
  (hf:∀v u s2 x y H2,Inv X pins σ H2 s2->RelV x v->RelV y u->R x y H2->wpAny (model X.prog X.w) X.A (f v u) Q X.xe s2):
  wpAny (model X.prog X.w) X.A (eval a X.env) (λv s₁=>wpAny (model X.prog X.w) X.A (eval b X.env) (λu s₂=>wpAny (model X.prog X.w) X.A (f v u) Q X.xe s₂) X.xe s₁) X.xe s:=by
 refine yg (ha pins s σ H _ I h) λv s1 x H1 I1 r1 q1=>?_;refine yg (hb pins s1 σ H1 _ I1 q1) λu s2 y H2 I2 r2 q2=>?_;exact hf v u s2 x y H2 I2 r1 r2 q2
def xx{op:Operator}{r:R2}(ho:OpR X (c8 op) r)(ha:PE X a ta)(hb:PE X b tb):PE X (.BinOp a op b pos) (tOp r ta tb):=by
 intro pins s σ H Q I h;exact wpAny_BinOp (xpG ha hb I h λv u s2 x y H2 I2 rx ry q=>ho pins s2 σ H2 x y v u Q I2 rx ry q)
def xqH{op:UnaryOp}{r:V->Hp->VK->Prop}(ho:UnR X (unaryOp op) r)(ha:PE X a ta):PE X (.UnaryOp op a pos) (tUn r ta):=by
 intro pins s σ H Q I h;exact UnaryOp_ (yg (ha pins s σ H _ I h) λv s1 x H1 I1 r1 q1=>ho pins s1 σ H1 x v Q I1 r1 q1)
def opI{f:Value->Value->Sem Value}{C:Int->Int->Prop}{g:Int->Int->Int}
  (rule:∀(i j:Int) (t u:Tok) (s:ak) (Q:Value->ak->Prop) (E:Value->ak->Prop),C i j->Q (.int (g i j) s.toks) {s with toks:=s.toks+1}->wpAny (model X.prog X.w) X.A (f (.int i t) (.int j u)) Q E s):
  OpR X f (rI C λi j=>.int (g i j)):=by
 intro pins s σ H x y v u Q I rx ry h;obtain⟨i,j,rfl,rfl,hc,q⟩:=h;obtain⟨t,rfl⟩:=rx;obtain⟨t',rfl⟩:=ry;exact rule i j t t' s _ _ hc ⟨.int (g i j),H,I.tok _,⟨_,rfl⟩,q⟩
def xsk{f:Value->Value->Sem Value}{g:Int->Int->Int}
  (rule:∀(i j:Int) (t u:Tok) (s:ak) (Q:Value->ak->Prop) (E:Value->ak->Prop),Q (.int (g i j) s.toks) {s with toks:=s.toks+1}->wpAny (model X.prog X.w) X.A (f (.int i t) (.int j u)) Q E s):
  OpR X f (rI0 λi j=>.int (g i j)):=by
 intro pins s σ H x y v u Q I rx ry h;obtain⟨i,j,rfl,rfl,q⟩:=h;obtain⟨t,rfl⟩:=rx;obtain⟨t',rfl⟩:=ry;exact rule i j t t' s _ _ ⟨.int (g i j),H,I.tok _,⟨_,rfl⟩,q⟩
def xm2{f:Value->Value->Sem Value}{g:Int->Int->Bool}
  (rule:∀(i j:Int) (t u:Tok) (s:ak) (Q:Value->ak->Prop) (E:Value->ak->Prop),Q (.bool (g i j)) s->wpAny (model X.prog X.w) X.A (f (.int i t) (.int j u)) Q E s):
  OpR X f (rI0 λi j=>.bl (g i j)):=by
 intro pins s σ H x y v u Q I rx ry h;obtain⟨i,j,rfl,rfl,q⟩:=h;obtain⟨t,rfl⟩:=rx;obtain⟨t',rfl⟩:=ry;exact rule i j t t' s _ _ ⟨.bl (g i j),H,I,rfl,q⟩
def xsl(i j:Int):Prop:=0<=j/\j<=1000000/\i.natAbs<2^64
def xm3(i j:Int):Prop:=(-(2^64)<i/\i<2^64)\/(-(2^64)<j/\j<2^64)
def xm3.ok{i j:Int}(h:xm3 i j):IntMulOk i j:=by
 rcases h with⟨h1,h2⟩|⟨h1,h2⟩
 ·exact .of_left (intBits_le_64 h1 h2)
 ·exact .of_right (intBits_le_64 h1 h2)
def xsm:OpR X (c8 .Add) (rI0 λi j=>.int (i+j)):=xsk λ_ _ _ _ _ _ _ q=>add_int q
def xsn:OpR X (c8 .Sub) (rI0 λi j=>.int (i - j)):=xsk λ_ _ _ _ _ _ _ q=>sub_int q
def xso:OpR X (c8 .Mult) (rI xm3 λi j=>.int (i*j)):=opI λ_ _ _ _ _ _ _ hc q=>mul_int q hc.ok
def xsp:OpR X (c8 .Mod) (rI (λ_ j=>0<j) λi j=>.int (i%j)):=opI λi j _ _ _ _ _ hc q=>by
 have h1:(0:Int)<j:=hc;exact mod_int' (by lia) (by rw[Int.fmod_eq_emod_of_nonneg i (by lia)];exact q)
def xsq:OpR X (c8 .Pow) (rI xsl λi j=>.int (i^j.toNat)):=opI λ_ _ _ _ _ _ _ hc q=>pow_int_small hc.1 hc.2.1 hc.2.2 q
def unI{f:Value->Sem Value}{g:Int->Int}
  (rule:∀(i:Int) (t:Tok) (s:ak) (Q:Value->ak->Prop) (E:Value->ak->Prop),Q (.int (g i) s.toks) {s with toks:=s.toks+1}->wpAny (model X.prog X.w) X.A (f (.int i t)) Q E s):
  UnR X f (rU λi=>.int (g i)):=by
 intro pins s σ H x v Q I rx h;obtain⟨i,rfl,q⟩:=h;obtain⟨t,rfl⟩:=rx;exact rule i t s _ _ ⟨.int (g i),H,I.tok _,⟨_,rfl⟩,q⟩
def xsr:UnR X (unaryOp .USub) (rU λi=>.int (-i)):=unI λ_ _ _ _ _ q=>neg_int q
end
noncomputable def xst:V->V->Bool
 | .non,.non=>true| .non,.int _=>true| .int _,.non=>true| .non,.bl _=>true| .bl _,.non=>true| .non,.str _=>true| .str _,.non=>true
 | .int _,.int _=>true| .bl _,.bl _=>true| .str _,.str _=>true| .byt _,.byt _=>true
 | .int _,.str _=>true| .str _,.int _=>true| .bl _,.str _=>true| .str _,.bl _=>true
 |_,_=>false
def rEq:R2:=λx y H Q=>xst x y=true/\Q (.bl (decide (x=y))) H
def rNe:R2:=λx y H Q=>xst x y=true/\Q (.bl (!decide (x=y))) H
def xmi{i j:Int}:decide (V.int i=V.int j)=(i==j):=by
 rw[fj];simp
def xoh{i j:Bool}:decide (V.bl i=V.bl j)=(i==j):=by
 rw[fj];simp
def xmj{i j:Str}:decide (V.str i=V.str j)=(i==j):=by
 rw[fj];simp
def xmk{i j:Array UInt8}:decide (V.byt i=V.byt j)=(i.toList==j.toList):=by
 rw[fj];cases i;cases j;simp
section
variable {a b c:Expr} {tc:TE}
def yk{Q:VK}{k k':Bool}(I:Inv X pins σ H s)(q:Q (.bl k) H)(e:k=k'):EP X pins σ Q (.bool k') s:=by
 subst e;exact⟨.bl k,H,I,rfl,q⟩
theorem xqI:OpR X (bF .Eq) rEq:=by
 intro pins s σ H x y v u Q I rx ry h;obtain⟨hs,q⟩:=h;cases x with
 |non=>
  cases rx;cases y with
  |non=>cases ry;exact PySem.EqNone.eq_none_none (yk I q (by simp))
  |bl j=>cases ry;exact PySem.EqNone.eq_none_bool (yk I q (by simp))
  |int j=>obtain⟨t',rfl⟩:=ry;exact PySem.EqNone.eq_none_int (yk I q (by simp))
  |str j=>obtain⟨t',rfl⟩:=ry;exact PySem.EqNone.eq_none_str (yk I q (by simp))
  |_=>exact absurd (show false=true from hs) aR
 |bl i=>
  cases rx;cases y with
  |non=>cases ry;exact PySem.EqNone.eq_bool_none (yk I q (by simp))
  |bl j=>cases ry;exact eq_bool (yk I q xoh)
  |str j=>obtain⟨t',rfl⟩:=ry;exact PySem.EqMixed.eq_bool_str (yk I q (by simp))
  |_=>exact absurd (show false=true from hs) aR
 |int i=>
  obtain⟨t,rfl⟩:=rx;cases y with
  |non=>cases ry;exact PySem.EqNone.eq_int_none (yk I q (by simp))
  |int j=>obtain⟨t',rfl⟩:=ry;exact eq_int (yk I q xmi)
  |str j=>obtain⟨t',rfl⟩:=ry;exact PySem.EqMixed.eq_int_str (yk I q (by simp))
  |_=>exact absurd (show false=true from hs) aR
 |str i=>
  obtain⟨t,rfl⟩:=rx;cases y with
  |non=>cases ry;exact PySem.EqNone.eq_str_none (yk I q (by simp))
  |bl j=>cases ry;exact PySem.EqMixed.eq_str_bool (yk I q (by simp))
  |int j=>obtain⟨t',rfl⟩:=ry;exact PySem.EqMixed.eq_str_int (yk I q (by simp))
  |str j=>obtain⟨t',rfl⟩:=ry;exact eq_str (yk I q xmj)
  |_=>exact absurd (show false=true from hs) aR
 |byt i=>
  obtain⟨t,rfl⟩:=rx;cases y with
  |byt j=>obtain⟨t',rfl⟩:=ry;exact W.eq_bytes (yk I q xmk)
  |_=>exact absurd (show false=true from hs) aR
 |_=>cases y<;> exact absurd (show false=true from hs) aR
theorem xqJ:OpR X (bF .NotEq) rNe:=by
 intro pins s σ H x y v u Q I rx ry h;obtain⟨hs,q⟩:=h;cases x with
 |non=>
  cases rx;cases y with
  |non=>cases ry;exact PySem.EqNone.ne_none_none (yk I q (by simp))
  |bl j=>cases ry;exact PySem.EqNone.ne_none_bool (yk I q (by simp))
  |int j=>obtain⟨t',rfl⟩:=ry;exact PySem.EqNone.ne_none_int (yk I q (by simp))
  |str j=>obtain⟨t',rfl⟩:=ry;exact PySem.EqNone.ne_none_str (yk I q (by simp))
  |_=>exact absurd (show false=true from hs) aR
 |bl i=>
  cases rx;cases y with
  |non=>cases ry;exact PySem.EqNone.ne_bool_none (yk I q (by simp))
  |bl j=>cases ry;exact ne_bool (yk I q (congrArg not xoh))
  |str j=>obtain⟨t',rfl⟩:=ry;exact PySem.EqMixed.ne_bool_str (yk I q (by simp))
  |_=>exact absurd (show false=true from hs) aR
 |int i=>
  obtain⟨t,rfl⟩:=rx;cases y with
  |non=>cases ry;exact PySem.EqNone.ne_int_none (yk I q (by simp))
  |int j=>obtain⟨t',rfl⟩:=ry;exact ne_int (yk I q (congrArg not xmi))
  |str j=>obtain⟨t',rfl⟩:=ry;exact PySem.EqMixed.ne_int_str (yk I q (by simp))
  |_=>exact absurd (show false=true from hs) aR
 |str i=>
  obtain⟨t,rfl⟩:=rx;cases y with
  |non=>cases ry;exact PySem.EqNone.ne_str_none (yk I q (by simp))
  |bl j=>cases ry;exact PySem.EqMixed.ne_str_bool (yk I q (by simp))
  |int j=>obtain⟨t',rfl⟩:=ry;exact PySem.EqMixed.ne_str_int (yk I q (by simp))
  |str j=>obtain⟨t',rfl⟩:=ry;exact ne_str (yk I q (congrArg not xmj))
  |_=>exact absurd (show false=true from hs) aR
 |byt i=>
  obtain⟨t,rfl⟩:=rx;cases y with
  |byt j=>obtain⟨t',rfl⟩:=ry;exact W.ne_bytes (yk I q (congrArg not xmk))
  |_=>exact absurd (show false=true from hs) aR
 |_=>cases y<;> exact absurd (show false=true from hs) aR
def xtj:OpR X (bF .Lt) (rI0 λi j=>.bl (decide (i<j))):=xm2 λ_ _ _ _ _ _ _ q=>lt_int q
def xtk:OpR X (bF .LtE) (rI0 λi j=>.bl (decide (i<=j))):=xm2 λ_ _ _ _ _ _ _ q=>le_int q
def xtl:OpR X (bF .Gt) (rI0 λi j=>.bl (decide (j<i))):=xm2 λ_ _ _ _ _ _ _ q=>gt_int q
def xtm:OpR X (bF .GtE) (rI0 λi j=>.bl (decide (j<=i))):=xm2 λ_ _ _ _ _ _ _ q=>ge_int q
def xoi(b:Expr)(h:autoParam (op≠.In) sJ)(h2:autoParam (op≠.NotIn) sJ):cR op b=false:=by
 have e1:(op==CmpOp.In)=false:=by cases op<;> first|rfl|exact absurd rfl h
 have e2:(op==CmpOp.NotIn)=false:=by cases op<;> first|rfl|exact absurd rfl h2
 cases b<;> simp[cR,e1,e2]
def xq3{r:R2}(ho:OpR X (bF op) r)(ha:PE X a ta)(hb:PE X b tb)(hm:cR op b=false):PE X (.Compare a [op] [b] pos) (tOp r ta tb):=by
 intro pins s σ H Q I h;exact wpAny_Compare1 (xpG ha hb I h λv u s2 x y H2 I2 rx ry q=>ho pins s2 σ H2 x y v u Q I2 rx ry q) hm
def xgT:(aU:Nat)<2^63:=by rw[aZ];decide
theorem vals1{x:V}(r:Vals [x] us):∃u,us=[u]/\RelV x u:=by
 cases r with
 |cons r1 r2=>cases r2;exact⟨_,rfl,r1⟩
theorem vals2{x:V}(r:Vals [x,y] us):∃u w',us=[u,w']/\RelV x u/\RelV y w':=by
 cases r with
 |cons r1 r2=>
  cases r2 with
  |cons r3 r4=>cases r4;exact⟨_,_,rfl,r1,r3⟩
def xpH:zy X (.builtin "abs") (λxs H Q=>∃i,xs=[.int i]/\Q (.int (if i<0 then -i else i)) H):=by
 intro pins s σ H xs us Q I r h;obtain⟨i,rfl,q⟩:=h;obtain⟨u,rfl,t,rfl⟩:=vals1 r;exact call_abs_int λu tk=>⟨.int (if i<0 then -i else i),H,I.tok _,⟨_,rfl⟩,q⟩
def xoj(hc:X.calm=true):zy X (.builtin "max") (λxs H Q=>∃i j,xs=[.int i,.int j]/\Q (.int (if j > i then j else i)) H):=by
 intro pins s σ H xs us Q I r h;obtain⟨i,j,rfl,q⟩:=h;obtain⟨u,w',rfl,⟨t,rfl⟩,⟨t',rfl⟩⟩:=vals2 r;refine max_two_ints (I.ok.hd hc) λh' tk k=>⟨_,H,I.kept k,?_,q⟩
 by_cases hj:j > i
 ·rw[if_pos hj,if_pos hj];exact⟨_,rfl⟩
 ·rw[if_neg hj,if_neg hj];exact⟨_,rfl⟩
def xok(hc:X.calm=true):zy X (.builtin "min") (λxs H Q=>∃i j,xs=[.int i,.int j]/\Q (.int (if j<i then j else i)) H):=by
 intro pins s σ H xs us Q I r h;obtain⟨i,j,rfl,q⟩:=h;obtain⟨u,w',rfl,⟨t,rfl⟩,⟨t',rfl⟩⟩:=vals2 r;refine min_two_ints (I.ok.hd hc) λh' tk k=>⟨_,H,I.kept k,?_,q⟩
 by_cases hj:j<i
 ·rw[if_pos hj,if_pos hj];exact⟨_,rfl⟩
 ·rw[if_neg hj,if_neg hj];exact⟨_,rfl⟩
def xcP:zy X (.type "int") (λxs H Q=>(∃i,xs=[.int i]/\Q (.int i) H)\/∃k,xs=[.bl k]/\Q (.int (if k then 1 else 0)) H):=by
 intro pins s σ H xs us Q I r h;rcases h with⟨i,rfl,q⟩|⟨k,rfl,q⟩
 ·obtain⟨u,rfl,t,rfl⟩:=vals1 r;exact call_int_int ⟨.int i,H,I,⟨_,rfl⟩,q⟩
 ·obtain⟨u,rfl,r1⟩:=vals1 r;cases r1;exact call_int_bool ⟨.int (if k then 1 else 0),H,I.tok _,⟨_,rfl⟩,q⟩
end
structure xgk(h:Heap)(x dx C:Addr)(mA:Str->Option Value):Prop where
 obj:h.get? x=some (fz C dx)
 ns:h.Ns1 dx mA
 ne:dx≠x
def xi9(n:h.Ns1 dx mA):∃od,h.get? dx=some od/\∀name,W.lookIn name od=some (mA name):=by
 obtain⟨o,es,ep,ho,hd,hk,_,hm⟩:=n;refine⟨o,ho,λname=>?_⟩;have e:=hm name;unfold nsFind findBy at e;rw[<-kr]at e;unfold W.lookIn;rw[hd];dsimp only
 split
 ·rename_i y q;rw[q]at e;exact congrArg some e
 ·rename_i q;rw[q]at e;have a:es.toList.any (·.refKey)=false:=by
   rw[List.any_eq_false];intro y hy;obtain⟨z,t,kP⟩:=hk y (Array.mem_toList_iff.mp hy);simp[DictEntry.refKey,kP]
  have a':¬es.toList.any (·.refKey)=true:=by rw[a];exact aR
  rw[if_neg a'];exact congrArg some e
def xgk.look{x:Addr}(I:xgk h x dx C mA):∃od,W.InstAt h x (fz C dx) C (some od)/\∀name,W.lookIn name od=some (mA name):=
 let⟨od,ho,hl⟩:=xi9 I.ns
 ⟨od,⟨I.obj,rfl,rfl,ho⟩,hl⟩
section
variable {prog:aH} {x:Addr} {name:Str} {v:Value}
def get_map{expr:Bool}(X:K.In s.heap)(I:xgk s.heap x dx C mA)(hg:i8 K C name=true)(hh:fS K C=true)
  (ha:aS K (.ref C) name=some none) (hv:mA name=some v) (kP:W.handedIn v=true) (h:Q v {s with toks:=s.toks+1}):
  wpAny (model prog w) A (getAttr (.ref x) name expr) Q E s:=by
 obtain⟨od,J,hl⟩:=I.look;exact W.get_value X J (ke hg).1 (W.findObj_own hh ha rfl (by rw[hl,hv])) kP h
def xpI{Q:Value×List Value->ak->Prop}(X:K.In s.heap)(I:xgk s.heap x dx C mA)(hg:i8 K C name=true)
  (hf:aS K (.ref C) name=some (some (.ref f))) (ht:W.isFn K (.ref f)=true) (hv:mA name=none) (h:Q (.ref f,[.ref x]) s):
  wpAny (model prog w) A (gf (.ref x) name pl) Q E s:=by
 obtain⟨od,J,hl⟩:=I.look;exact W.method_fn X J (ke hg).1 (ke hg).2 hf (beq_iff_eq.mp ht) (by show(W.lookIn name od).map (·.isSome)=some false;rw[hl,hv];rfl) h
def xq4{ns:List Str}{Q:Unit->ak->Prop}(X:K.In s.heap)(I:xgk s.heap x dx C mA)
  (hs:aS K (.ref C) "__setattr__"=some (some (.builtin "object.__setattr__"))) (hp:W.plainOver K C=true) (ht:W.takerIn K C name=some none) (hh:fS K C=true)
  (hw:PySem.Within mA ns) (hsz:ns.length<=aU)
  (h:∀h',xgk h' x dx C (λy=>if y=name then some v else mA y)->fB dx s.heap h'->Q () {s with heap:=h',toks:=s.toks+2}):
  wpAny (model prog w) A (setAttr (.ref x) name v) Q E s:=by
 obtain⟨od,J,hl⟩:=I.look;refine W.set_plain X J hs (W.osa_open (s:={s with toks:=s.toks+1}) (r:=none) X J hp ht λb=>?_);obtain⟨cd,hc,kT⟩:=W.any_some hh;have hx:s.heap.get? x=some ⟨.ref C,some dx,.plain,#[]⟩:=I.obj;refine af (aA (af (af (iT hx (af (W.Looks.here (s:={s with toks:=s.toks+1}) (kf X hc) ?_))))));rw[kT];refine aA (a:=some dx) (af (aA (af ?_)));refine wpAny_nsSet1 (s:={s with toks:=s.toks+1}) I.ns λh' kQ kP=>?_;obtain⟨oD,kX,kY,kR,kS,kW⟩:=kQ.count (PySem.Within.cons name v hw);refine af (wpAny_lookBehind kR (by rw[kS];exact pastItsLine_dict (bG kW (by rw[bD];lia))) ?_);exact aA (h _ ⟨(kP.2 _ (au I.ne)).trans I.obj,kQ,I.ne⟩ kP)
def xpJ{R:ij->ak->Prop}{vs:List Value}(X:K.In s.heap)(hm:W.makesIn K C=true)
  (hi:aS K (.ref C) "__init__"=some (some (.ref f))) (hf:W.typeIn K (.ref f)=some (.type "function"))
  (h:cP (model prog w) (A.under (.builtin "type.__call__" ⟨.ref C::vs,kw⟩)) (.call (.ref f) ⟨.ref (s.heap.objs.size+1)::vs,kw⟩) (W.InitBack (s.heap.objs.size+1) R)
   {s with heap:=(s.heap.push dJ).push (fz C s.heap.objs.size)}):
  cP (model prog w) A (.call (.ref C) ⟨vs,kw⟩) R s:=by
 obtain⟨hh,g,d,t,os⟩:=s;exact W.make_core (W.makes_of X hm) (W.looks_findIn X hi) (λself=>W.bind_fn X self hf) (.inl rfl) h
end
def vm(f:Str)(v:V):List (Str×V)->List (Str×V)
 |[]=>[(f,v)]
 |(g,x)::r=>if g=f then(g,v)::r else(g,x)::vm f v r
theorem xf1(f g:Str)(v:V):∀fs:List (Str×V),(vm f v fs).lookup g=if g=f then some v else fs.lookup g
 |[]=>by
  show eB g [(f,v)]=_
  by_cases h:g=f
  ·have hb:(g==f)=true:=beq_iff_eq.mpr h;simp only[eB,hb,if_pos h]
  ·have hb:(g==f)=false:=beq_eq_false_iff_ne.mpr h;simp only[eB,hb,if_neg h]
 |(k,x)::r=>by
  have ih:=xf1 f g v r;rw[show vm f v ((k,x)::r)=(if k=f then(k,v)::r else(k,x)::vm f v r)from rfl]
  by_cases hk:k=f
  ·rw[if_pos hk]
   by_cases h:g=k
   ·have hb:(g==k)=true:=beq_iff_eq.mpr h;simp only[eB,hb,if_pos (h.trans hk)]
   ·have hb:(g==k)=false:=beq_eq_false_iff_ne.mpr h;simp only[eB,hb,if_neg (λe:g=f=>h (e.trans hk.symm))]
  ·rw[if_neg hk]
   by_cases h:g=k
   ·have hb:(g==k)=true:=beq_iff_eq.mpr h;simp only[eB,hb,if_neg (λe:g=f=>hk (h.symm.trans e))]
   ·have hb:(g==k)=false:=beq_eq_false_iff_ne.mpr h;simp only[eB,hb];exact ih
theorem xeT(f:Str)(v:V):∀fs:List (Str×V),f∈(vm f v fs).map (·.1)/\∀g,g∈fs.map (·.1)->g∈(vm f v fs).map (·.1)
 |[]=>⟨by simp[vm],λg h=>by simp at h⟩
 |(k,x)::r=>by
  obtain⟨i1,i2⟩:=xeT f v r;rw[show vm f v ((k,x)::r)=(if k=f then(k,v)::r else(k,x)::vm f v r)from rfl]
  by_cases hk:k=f
  ·rw[if_pos hk];subst hk;exact⟨by simp,λg h=>by simpa using h⟩
  ·rw[if_neg hk];refine⟨?_,λg h=>?_⟩
   ·rw[bO];exact aL _ i1
   ·rw[bO]at h⊢;rcases av.mp h with e|e
    ·exact av.mpr (.inl e)
    ·exact aL _ (i2 g e)
theorem xc4(f:Str)(v:V):∀fs:List (Str×V),(vm f v fs).length<=fs.length+1
 |[]=>by simp[vm]
 |(k,x)::r=>by
  have ih:=xc4 f v r;rw[show vm f v ((k,x)::r)=(if k=f then(k,v)::r else(k,x)::vm f v r)from rfl]
  by_cases hk:k=f
  ·rw[if_pos hk,bD,bD];lia
  ·rw[if_neg hk,bD,bD];lia
theorem vk.some_of{o:Option Value}(r:vk (some v) o):∃u,o=some u/\RelV v u:=by
 cases o with
 |none=>exact(show False from r).elim
 |some u=>exact⟨u,rfl,r⟩
theorem vk.none_of{o:Option Value}(r:vk none o):o=none:=by
 cases o with
 |none=>rfl
 |some u=>exact(show False from r).elim
theorem xja(r:RelV v u):W.handedIn u=true:=by
 cases v with
 |non=>cases (show u=bp from r);rfl
 |bl b=>cases (show u=di b from r);rfl
 |int i=>obtain⟨t,e⟩:=(show∃t,u=gI i t from r);cases e;rfl
 |str x=>obtain⟨t,e⟩:=(show∃t,u=gJ x t from r);cases e;rfl
 |byt b=>obtain⟨t,e⟩:=(show∃t,u=Value.bytes b t from r);cases e;rfl
 |flt b=>obtain⟨t,e⟩:=(show∃t,u=kK b t from r);cases e;rfl
 |ref a=>cases (show u=aG a from r);rfl
 |ty n=>cases (show u=eP n from r);rfl
section
variable {fs fs':List (Str×V)}
def xfH(hok:HOk P w H h)(e:H a=some (.ins C dx fs)):∃mA,xgk h a dx C mA/\(∀f,vk (fs.lookup f) (mA f))/\PySem.Within mA (fs.map (·.1))/\fs.length<=1000/\H dx=some (.own a):=by
 obtain⟨d,z,ne,ob,mA,n,r,q⟩:=(show yl P w H h a (.ins C dx fs)from hok a _ e);exact⟨mA,⟨ob,n,ne⟩,r,q,z,d⟩
end
structure Cls(K:aq)(C:Addr):Prop where
 pg:i8 K C Str.empty=true
 hd:fS K C=true
 po:W.plainOver K C=true
 sa:aS K (.ref C) "__setattr__"=some (some (.builtin "object.__setattr__"))
def Cls.get(c:Cls K C)(f:Str):i8 K C f=true:=c.pg
def xJ(K:aq)(C:Addr)(f:Str):Prop:=aS K (.ref C) f=some none
def xJ.taker{f:Str}(n:xJ K C f):W.takerIn K C f=some none:=by
 unfold W.takerIn;rw[show aS K (.ref C) f=some none from n];rfl
structure Meth(K:aq)(C:Addr)(m:Str)(f:Addr):Prop where
 at_:aS K (.ref C) m=some (some (.ref f))
 fn:W.isFn K (.ref f)=true
 kp:cx K (.ref f)=true
section
variable {fs:List (Str×V)} {f:Str}
def xm4{b:Bool}(I:Inv X pins σ H s)(e:H a=some (.ins C dx fs))(c:Cls X.K C)(n:xJ X.K C f)(l:fs.lookup f=some v)
  (h:∀u s',Inv X pins σ H s'->RelV v u->Q u s'):wpAny (model X.prog X.w) A (getAttr (.ref a) f b) Q E s:=by
 obtain⟨mA,O,r,_,_,_⟩:=xfH I.hok e;obtain⟨u,hu,ru⟩:=vk.some_of (v:=v) (o:=mA f) (by rw[<-l];exact r f);exact get_map I.kIn O (c.get f) c.hd n hu (xja ru) (h u _ (I.tok _) ru)
def xbQ{g:Addr}{Q:Value×List Value->ak->Prop}(I:Inv X pins σ H s)(e:H a=some (.ins C dx fs))(c:Cls X.K C)(k:Meth X.K C m g)(l:fs.lookup m=none)
  (h:Q (.ref g,[.ref a]) s):wpAny (model X.prog X.w) A (gf (.ref a) m pl) Q E s:=by
 obtain⟨mA,O,r,_,_,_⟩:=xfH I.hok e;have hn:mA m=none:=vk.none_of (by rw[<-l];exact r m);exact xpI I.kIn O (c.get m) k.at_ k.fn hn h
def xm5{Q:Unit->ak->Prop}(I:Inv X pins σ H s)(e:H a=some (.ins C dx fs))(c:Cls X.K C)(n:xJ X.K C f)(hl:fs.length<1000)(ry:RelV y u)
  (h:∀s',Inv X pins σ (upd H a (.ins C dx (vm f y fs))) s'->Q () s'):wpAny (model X.prog X.w) A (setAttr (.ref a) f u) Q E s:=by
 obtain⟨mA,O,r,wi,_,ho⟩:=xfH I.hok e;have hz:(fs.map (·.1)).length<=aU:=by rw[ag,aZ];lia
 refine xq4 I.kIn O c.sa c.po n.taker c.hd wi hz λh' O' sb=>h _ ?_;have hd:∃o,h'.get? dx=some o:=let⟨o,_,_,e',_⟩:=O'.ns;⟨o,e'⟩
 refine I.write (x:=a) (e:=dx) (by rw[e];exact cJ) (.inr ho) (λb q hb z=>(sb.2 b hb).trans z) hd ?_;refine⟨by rw[xm O.ne];exact ho,?_,O.ne,O'.obj,_,O'.ns,λg=>?_,λg hg=>?_⟩
 ·have:=xc4 f y fs;lia
 ·show vk ((vm f y fs).lookup g) (if g=f then some u else mA g);rw[xf1]
  by_cases q:g=f
  ·rw[if_pos q,if_pos q];exact ry
  ·rw[if_neg q,if_neg q];exact r g
 ·by_cases q:g=f
  ·rw[q];exact(xeT f y fs).1
  ·refine(xeT f y fs).2 g (wi g λz=>hg ?_);show(if g=f then some u else mA g)=none;rw[if_neg q];exact z
def Inv.made(I:Inv X pins σ H s):Inv X pins σ (upd (upd H s.heap.objs.size (.own (s.heap.objs.size+1))) (s.heap.objs.size+1) (.ins C s.heap.objs.size []))
  {s with heap:=(s.heap.push dJ).push (fz C s.heap.objs.size)}:=by
 have e1:(s.heap.push dJ).get? s.heap.objs.size=some dJ:=aT s.heap rfl;have e2:((s.heap.push dJ).push (fz C s.heap.objs.size)).get? (s.heap.objs.size+1)=some (fz C s.heap.objs.size):=by
  have:=aT (s.heap.push dJ) (o:=fz C s.heap.objs.size) rfl
  rwa [eI]at this
 have e3:(s.heap.push dJ).Ns s.heap.objs.size (λ_=>none):=⟨dJ,#[],_,e1,rfl,(λe he=>absurd he (by simp)),λ_=>rfl⟩;have I1:=I.laid (a:=s.heap.objs.size) (o:=.own (s.heap.objs.size+1)) (h':=s.heap.push dJ) (t':=s.toks) (λb u q=>ai _ q) (ay _) ⟨_,e1⟩;refine I1.laid (a:=s.heap.objs.size+1) (o:=.ins C s.heap.objs.size []) (t':=s.toks) (λb u q=>ai _ q) (Nat.le_of_eq (eI _ _)) ?_;have ne:s.heap.objs.size≠s.heap.objs.size+1:=aQ (Nat.lt_succ_self _);refine⟨by rw[xm ne,xp],bL _,ne,e2,λ_=>none,(kF e3).at λo q=>ai _ q,λ_=>cJ,λy hy=>absurd rfl hy⟩
def xml{prog:aH}{env:Env}{f:Str}(hb:gU e f env (eval e env)=eval e env)
  (h:wpAny (model prog w) A (eval e env) (λo s₁=>wpAny (model prog w) A (getAttr o f true) Q E s₁) E s):wpAny (model prog w) A (eval (.Attribute e f pos) env) Q E s:=
 Attribute_any_ h (by rw[arm_eval_Attribute,hb])
end
def xt2(K:aq)(ta:TE)(f:Str):TE:=λσ H Q=>ta σ H λx H1=>Ex5 λa C dx fs v=>x= .ref a/\H1 a=some (.ins C dx fs)/\Cls K C/\xJ K C f/\fs.lookup f=some v/\Q v H1
def xsu(K:aq)(ta tv:TE)(f:Str):TS:=λD σ H=>tv σ H λy H1=>ta σ H1 λx H2=>Ex4 λa C dx fs=>x= .ref a/\H2 a=some (.ins C dx fs)/\Cls K C/\xJ K C f/\fs.length<1000/\
 D.nx σ (upd H2 a (.ins C dx (vm f y fs)))
section
variable {o value:Expr} {f:Str} {pos' tpos:Pos} {tv:TE}
def xB(he:PE X e ta)(hb:gU e f X.env (eval e X.env)=eval e X.env):PE X (.Attribute e f pos) (xt2 X.K ta f):=by
 intro pins s σ H Q I h;refine xml hb (yg (he pins s σ H _ I h) λu s1 x H1 I1 rx ⟨a,C,dx,fs,v,ex,ea,c,n,l,q⟩=>?_);subst ex;obtain rfl:u=aG a:=rx;exact xm4 I1 ea c n l λu' s2 I2 ru=>⟨v,H1,I2,ru,q⟩
def yC(ha:PE X o ta)(hv:PE X value tv)(hs:eO value (some (.Attribute o f pos')) pos.line X.env=pure false):PS X (.Assign [.Attribute o f pos'] value pos) (xsu X.K ta tv f):=by
 intro pins s σ H D I h;refine gk (yg (hv pins s σ H _ I h) λu s1 y H1 I1 ry q=>yg (ha pins s1 σ H1 _ I1 q) λov s2 x H2 I2 rx ⟨a,C,dx,fs,ex,ea,c,n,l,q2⟩=>?_) hs;subst ex;obtain rfl:ov=aG a:=rx;exact xm5 I2 ea c n l ry λs3 I3=>⟨σ,_,I3,q2⟩
end
section
variable {c:Value} {b:Bool}
inductive uA(K:aq)(H:Hp):V->Value->Prop where
 |non:uA K H .non (.type "NoneType")
 |bl (x:Bool):uA K H (.bl x) (.type "bool")
 |int (i:Int):uA K H (.int i) (.type "int")
 |str (x:Str):uA K H (.str x) (.type "str")
 |flt (x:UInt64):uA K H (.flt x) (.type "float")
 |lst {a:Addr} {xs:List V} (e:H a=some (.lst xs)):uA K H (.ref a) (.type "list")
 |frz {a:Addr} {o:Obj} {xs:List V} (e:H a=some (.frz o (.lst xs))):uA K H (.ref a) (.type "list")
 |tup {a:Addr} {xs:List V} (e:H a=some (.tup xs)):uA K H (.ref a) (.type "tuple")
 |dK {a:Addr} {kvs:List (Key×V)} (e:H a=some (.dK kvs)):uA K H (.ref a) (.type "dict")
 |dT {a:Addr} {kvs:List (List Key×V)} (e:H a=some (.dT kvs)):uA K H (.ref a) (.type "dict")
 |ins {a C dx:Addr} {fs:List (Str×V)} (e:H a=some (.ins C dx fs)) (cl:Cls K C) (ha:aS K (.ref C) "__class__"=some (some (.builtin "object.__class__")))
   (hn:iQ K (.builtin "object.__class__") "__get__"=some (some (.builtin "getset_descriptor.__get__"))) (htk:W.takesIn K (.builtin "object.__class__")=some true)
   (hm:gi K C (.type "object")=some true):uA K H (.ref a) (.ref C)
theorem xol{x:V}{t:Value}(I:Inv X pins σ H s)(rx:RelV x u)(ty:uA X.K H x t)(e:ik X.K t c=some b)(h:∀tk,Q (.bool b) {s with toks:=tk}):
  wpAny (model X.prog X.w) A (call (.builtin "isinstance") [u,c]) Q E s:=by
 cases ty with
 |non=>cases (show u=bp from rx);exact dM W.kitx_none I.kIn cJ e (λz=>nomatch z) h
 |bl y=>cases (show u=di y from rx);exact dM W.kitx_bool I.kIn cJ e (λz=>nomatch z) h
 |int i=>obtain⟨t,q⟩:=(show∃t,u=gI i t from rx);cases q;exact dM W.kitx_int I.kIn cJ e (λz=>nomatch z) h
 |str y=>obtain⟨t,q⟩:=(show∃t,u=gJ y t from rx);cases q;exact dM W.kitx_str I.kIn cJ e (λz=>nomatch z) h
 |flt y=>obtain⟨t,q⟩:=(show∃t,u=kK y t from rx);cases q;exact dM W.kitx_float I.kIn cJ e (λz=>nomatch z) h
 | @lst a xs ea=>
  cases (show u=aG a from rx);obtain⟨_,_,n,_,h1⟩:=(show yl X.prog X.w H s.heap a (.lst xs)from I.hok a _ ea);exact dM W.kitx_list I.kIn ⟨_,h1,rfl⟩ e (λz=>nomatch z) h
 | @frz a ob xs ea=>
  cases (show u=aG a from rx);obtain⟨_,_,_,n,_,h1⟩:=(show yl X.prog X.w H s.heap a (.frz ob (.lst xs))from I.hok a _ ea);exact dM W.kitx_list I.kIn ⟨_,h1,rfl⟩ e (λz=>nomatch z) h
 | @tup a xs ea=>
  cases (show u=aG a from rx);obtain⟨_,_,_,p⟩:=(show yl X.prog X.w H s.heap a (.tup xs)from I.hok a _ ea);obtain⟨o,h1,h2,_⟩:=p;exact dM W.kitx_tuple I.kIn ⟨o,h1,h2⟩ e (λz=>nomatch z) h
 | @dK a kvs ea=>
  cases (show u=aG a from rx);obtain⟨_,_,vs,_,p⟩:=(show yl X.prog X.w H s.heap a (.dK kvs)from I.hok a _ ea);obtain⟨o,es,ep,h1,h2,_⟩:=p;exact dM W.kitx_dict I.kIn ⟨o,h1,h2.1⟩ e (λz=>nomatch z) h
 | @dT a kvs ea=>
  cases (show u=aG a from rx);obtain⟨_,_,xs,_,o,es,ep,h1,h2,_⟩:=(show yl X.prog X.w H s.heap a (.dT kvs)from I.hok a _ ea);exact dM W.kitx_dict I.kIn ⟨o,h1,h2.1⟩ e (λz=>nomatch z) h
 | @ins a C dx fs ea cl ha hn kP hm=>
  cases (show u=aG a from rx);obtain⟨mA,O,_⟩:=xfH I.hok ea;obtain⟨od,J,_⟩:=O.look;exact dM (W.kitx_own (cl.get _) cl.hd ha hn kP hm) I.kIn J e (λz=>nomatch z) h
end
structure ya(k:Nat)(A:bo):Prop where
 hd:A.handled=none
 dp:A.depth+3*k+5<iU
 un:A.units+16*k+200<cLine
def ya.mono{j k:Nat}(r:ya k A)(h:j<=k):ya j A:=⟨r.hd,by have:=r.dp;lia,by have:=r.un;lia⟩
def ya.deeper{k:Nat}(r:ya (k+1) A)(env:Env):ya k (A.deeper env):=
 ⟨r.hd,by have:=r.dp;show A.depth+1+3*k+5<_;lia,by have:=r.un;show A.units+3+16*k+200<_;lia⟩
def xm6:(A.under (.builtin "type.__call__" ⟨.ref C::us,kw⟩)).depth=A.depth+1:=by
 first|rfl|simp[ku,Code.weight,Code.isCreation,Code.isGuard,Code.isCaller,Code.frames,kz,guardIds]
def xm7:(A.under (.builtin "type.__call__" ⟨.ref C::us,kw⟩)).units=A.units+1:=by
 first|rfl|simp[ku,Code.cUnits,Code.frames,kz]
def ya.make{k:Nat}(r:ya (k+1) A)(C:Addr)(us:List Value)(kw:List (Str×Value)):ya k (A.under (.builtin "type.__call__" ⟨.ref C::us,kw⟩)):=
 ⟨r.hd,by have:=r.dp;rw[xm6];lia,by have:=r.un;rw[xm7];lia⟩
def ya.depth{k:Nat}(r:ya k A):A.depth<iU:=by have:=r.dp;lia
def ya.units{k:Nat}(r:ya k A):A.units+64<cLine:=by have:=r.un;lia
def jK:TA:=λ_ H Q=>Q [] H
def xgU(ta:TE)(tr:TA):TA:=λσ H Q=>ta σ H λx H1=>tr σ H1 λxs H2=>Q (x::xs) H2
section
variable {X:Cx} {e:Expr} {es:List Expr} {te:TE} {t:TA} {pos:Pos}
def xc:PA X [] jK:=λ_ _ _ _ H Q I h=>Calls.spliced_nil ⟨[],H,I,.nil,h⟩
def xa(ha:PE X e te)(hr:PA X es t)(hs:autoParam (aE (e::es) X.env=(false,eval e X.env)::aE es X.env) sV):PA X (e::es) (xgU te t):=by
 intro pos pins s σ H Q I h;rw[hs];show wpAny _ _ (spliced ((false,eval e X.env)::bR pos (aE es X.env))) _ _ s;refine Calls.spliced_cons (yg (ha pins s σ H _ I h) λu s1 x H1 I1 r1 q1=>?_);exact uJ (hr pos pins s1 σ H1 _ I1 q1) λus s2 xs H2 I2 r2 q2=>⟨x::xs,H2,I2,.cons r1 r2,q2⟩
def xt3(t:TA):TE:=λσ H Q=>t σ H λxs H1=>xs.length<=aU/\∀p,H1 p=none->Q (.ref p) (upd H1 p (.tup xs))
def xt4(t:TA):TE:=λσ H Q=>t σ H λxs H1=>xs.length<=aU/\∀p,H1 p=none->Q (.ref p) (upd H1 p (.lst xs))
def xR{x1}(h:PA X es t):PE X (.Tuple es x1 pos) (xt3 t):=by
 intro pins s σ H Q I hq;refine wpAny_Tuple_spliced (uJ (h pos pins s σ H _ I hq) λus s1 xs H1 I1 r ⟨z,q⟩=>⟨by rw[<-r.length];exact z,?_⟩);have hf:H1 s1.heap.objs.size=none:=I1.hok.fresh (ay _);refine⟨.ref s1.heap.objs.size,upd H1 s1.heap.objs.size (.tup xs),I1.laid (t':=s1.toks) (λb u e=>ai _ e) (ay _) ?_,rfl,q _ hf⟩;exact⟨z,us,r,⟨_,aT _ rfl,rfl,_,rfl⟩⟩
def xX(h:PA X es t):PE X (.List es pos) (xt4 t):=by
 intro pins s σ H Q I hq;refine wpAny_List_spliced (uJ (h pos pins s σ H _ I hq) λus s1 xs H1 I1 r ⟨z,q⟩=>⟨by rw[<-r.length];exact z,?_⟩);have hf:H1 s1.heap.objs.size=none:=I1.hok.fresh (ay _);refine⟨.ref s1.heap.objs.size,upd H1 s1.heap.objs.size (.lst xs),I1.laid (t':=s1.toks) (λb u e=>ai _ e) (ay _) ?_,rfl,q _ hf⟩;exact⟨z,us,0,r,aT _ rfl⟩
end
abbrev Sp:=List V->Hp->VK->XK->Prop
abbrev CXT:=List Env->Hp->ak->XK->Value->ak->Prop
structure xaL(P:aH)(w:World)(K:aq)(mg:Str->Option Value)(base:Heap)(A:bo)(outer:List Env)(s:ak)(H:Hp):Prop where
 frames:A.frames=some outer
 mod:Mod K mg base
 bs:∀b o,base.get? b=some o->s.heap.get? b=some o/\H b=none
 bsz:base.objs.size<=s.heap.objs.size
 funs:s.heap.FunFrames base outer
 frf:∀b∈frs outer,H b=none
 hok:HOk P w H s.heap
 bare:fJ s.gens
inductive CE(outer:List Env)(P:aH)(w:World)(H:Hp)(s:ak)(Q:VK)(u:Value)(s':ak):Prop
 |intro(v:V) (H':Hp) (o:s'.os=s.os) (b:fJ s'.gens) (un:Un (frs outer) [] H H' s.heap s'.heap) (h:HOk P w H' s'.heap) (r:RelV v u) (q:Q v H'):CE outer P w H s Q u s'
def CR(CX:CXT)(outer:List Env)(P:aH)(w:World)(H:Hp)(s:ak)(Q:VK)(E:XK)(r:ij)(s':ak):Prop:=
 match r with
 | .ok (.ret u)=>CE outer P w H s Q u s'
 | .ok _=>False
 | .error e=>CX outer H s E e s'
structure xE(P:aH)(w:World)(K:aq)(mg:Str->Option Value)(base:Heap)(CX:CXT)(k:Nat)(f:Addr)(fd:ax)(ps:List Str)(sp:Sp):Prop where
 len:∀vs H Q E,sp vs H Q E->vs.length=ps.length
 run:∀(A:bo) (outer:List Env) (s:ak) (H:Hp) (args:Args) (us:List Value) (vs:List V) (Q:VK) (E:XK),ya k A->xaL P w K mg base A outer s H->iV s fd args (ps.zip us)->Vals vs us->sp vs H Q E->
  cP (model P w) A (.call (.ref f) args) (CR CX outer P w H s Q E) s
def xaL.make{outer:List Env}(e:xaL P w K mg base A outer s H)(C:Addr)(us:List Value)(kw:List (Str×Value)):
  xaL P w K mg base (A.under (.builtin "type.__call__" ⟨.ref C::us,kw⟩)) outer s H:=⟨by first|exact e.frames|(simpa [ku,Code.envs,kz,pushEnvs]using e.frames),e.mod,e.bs,e.bsz,e.funs,e.frf,e.hok,e.bare⟩
def Inv.env0(I:Inv X pins σ H s):xaL X.prog X.w X.K X.mg X.base X.A X.stack s H:=
 ⟨I.ok.frames,I.ok.mod,I.bs,bG I.ok.bsz I.sz,I.stack,I.stkFree,I.hok,I.bare⟩
def Inv.after{Q:VK}(I:Inv X pins σ H s)(h:CE X.stack X.prog X.w H s Q u s'):EP X pins σ Q u s':=by
 obtain⟨v,H',os,bare,un,hok,r,q⟩:=h;obtain⟨hh,g,d,t,kP⟩:=s';obtain rfl:kP=s.os:=os;exact⟨v,H',I.call (h':=hh) (g':=g) (d':=d) (t':=t) (ch:=[]) un hok bare (λb z=>absurd z (by simp)),r,q⟩
def xfI(sp:Sp)(dvs:List V)(E:XK)(t:TA):TE:=λσ H Q=>t σ H λvs H1=>sp (vs++dvs) H1 Q E
def ud(C:Addr)(m:Str)(sp:Sp)(dvs:List V)(E:XK)(ta:TE)(t:TA):TE:=λσ H Q=>ta σ H λx H1=>Ex3 λa dx fs=>x= .ref a/\H1 a=some (.ins C dx fs)/\fs.lookup m=none/\
 t σ H1 λvs H2=>sp (x::(vs++dvs)) H2 Q E
def xtn(C:Addr)(sp:Sp)(dvs:List V)(E:XK)(t:TA):TE:=λσ H Q=>t σ H λvs H1=>∀x dx,H1 x=none->H1 dx=none->dx≠x->
 sp (.ref x::(vs++dvs)) (upd (upd H1 dx (.own x)) x (.ins C dx [])) (λv H2=>v= .non/\Q (.ref x) H2) E
def Binds(K:aq)(fd:ax)(ps:List Str)(ds:List Value):Prop:=
 ∀(s:ak) (us:List Value),K.In s.heap->(us++ds).length=ps.length->iV s fd ⟨us,[]⟩ (ps.zip (us++ds))
def Binds.all(h:∀us:List Value,us.length=ps.length->dB fd ⟨us,[]⟩=pure (ps.zip us)):Binds K fd ps []:=λs us _ hl=>by
 rw[cC]at hl⊢;exact .of_eq (h us hl)
def Passes(CX:CXT)(X:Cx)(E:XK):Prop:=∀(pins:List (Addr×Obj)) (σ:St) (H:Hp) (s:ak) (e:Value) (s':ak),Inv X pins σ H s->CX X.stack H s E e s'->X.xe e s'
section
variable {k:Nat} {dvs:List V} {ds:List Value} {E:XK} {apos:Pos} {o:Expr}
theorem xgV{Q:VK}(F:xE X.prog X.w X.K X.mg X.base CX k f fd ps sp)(hr:ya k X.A)(hb:Binds X.K fd ps ds)(hd:Vals dvs ds)(hx:Passes CX X E)
  (I:Inv X pins σ H s) (r:Vals vs us) (h:sp (vs++dvs) H Q E):wpAny (model X.prog X.w) X.A (call (.ref f) us) (EP X pins σ Q) X.xe s:=by
 have r2:Vals (vs++dvs) (us++ds):=r.append hd;have hl:(us++ds).length=ps.length:=by rw[<-r2.length];exact F.len _ _ _ _ h
 refine dH (cE (F.run X.A X.stack s H ⟨us,[]⟩ (us++ds) (vs++dvs) Q E hr I.env0 (hb s us I.kIn hl) r2 h) λr s' hq=>?_);cases r with
 |error e=>exact hx pins σ H s e s' I hq
 |ok fl=>
  cases fl with
  |ret u=>exact I.after hq
  |next=>exact bc hq
  |brk=>exact bc hq
  |cont=>exact bc hq
def xy(F:xE X.prog X.w X.K X.mg X.base CX k f fd ps sp)(hr:ya k X.A)(hg:Gl X x)(hm:X.mg x=some (.ref f))(hk:cx X.K (.ref f)=true)(hb:Binds X.K fd ps ds)(hd:Vals dvs ds)(hx:Passes CX X E)
  (ha:PA X (e::es) t) (kQ:autoParam ((x==("__debug__":Str))=false) sJ) (he:autoParam (aE (e::es) X.env=(false,eval e X.env)::aE es X.env) sV) (kP:autoParam ((bR pos (aE es X.env)).any (·.1)=false) sV):
  PE X (.Call (.Name x p) (e::es) [] pos) (xfI sp dvs E t):=by
 intro pins s σ H Q I h;refine bX (zR I hg hm ?_ kQ);refine fC (h₀:=X.base) I.ok.mod.kin hk (uJ (ha pos pins s σ H _ I h) λus s1 vs H1 I1 r q=>⟨I1.kIn,?_⟩) he kP;exact xgV F hr hb hd hx I1 r q
def za(he:PE X o ta)(c:Cls X.K C)(hm:Meth X.K C m f)(F:xE X.prog X.w X.K X.mg X.base CX k f fd ps sp)(hr:ya k X.A)(hb:Binds X.K fd ps ds)(hd:Vals dvs ds)(hx:Passes CX X E)(ha:PA X (e::es) t)
  (kP:autoParam (aE (e::es) X.env=(false,eval e X.env)::aE es X.env) sV) (kQ:autoParam ((bR pos (aE es X.env)).any (·.1)=false) sV)
  (ht:autoParam (eval (.Call (.Attribute o m apos) (e::es) [] pos) X.env=(do
   let ov <-eval o X.env
   ic apos.atName
   let(f,first) <-fK [ov] (gf ov m pl)
   fD pos f first (bR pos (aE (e::es) X.env)) (il pos (fT [] X.env)))) sV):
  PE X (.Call (.Attribute o m apos) (e::es) [] pos) (ud C m sp dvs E ta t):=by
 intro pins s σ H Q I h;refine fk (pl:=pl) (yg (he pins s σ H _ I h) λu s1 x H1 I1 rx ⟨a,dx,fs,ex,ea,l,q⟩=>?_) ht;subst ex;obtain rfl:u=aG a:=rx;refine xbQ I1 ea c hm l ?_;refine fC (first:=[.ref a]) (h₀:=X.base) I.ok.mod.kin hm.kp (uJ (ha pos pins s1 σ H1 _ I1 q) λus s2 vs H2 I2 r q2=>⟨I2.kIn,?_⟩) kP kQ;exact xgV (us:=.ref a::us) (vs:=.ref a::vs) F hr hb hd hx I2 (.cons rfl r) q2
def xO(he:PE X o ta)(c:Cls X.K C)(hm:Meth X.K C m f)(F:xE X.prog X.w X.K X.mg X.base CX k f fd ps sp)(hr:ya k X.A)(hb:Binds X.K fd ps ds)(hd:Vals dvs ds)(hx:Passes CX X E)
  (ht:autoParam (eval (.Call (.Attribute o m apos) [] [] pos) X.env=(do
   let ov <-eval o X.env
   ic apos.atName
   let(f,first) <-fK [ov] (gf ov m pl)
   fD pos f first (bR pos (aE [] X.env)) (il pos (fT [] X.env)))) sV):
  PE X (.Call (.Attribute o m apos) [] [] pos) (ud C m sp dvs E ta jK):=by
 intro pins s σ H Q I h;refine fk (pl:=pl) (yg (he pins s σ H _ I h) λu s1 x H1 I1 rx ⟨a,dx,fs,ex,ea,l,q⟩=>?_) ht;subst ex;obtain rfl:u=aG a:=rx;refine xbQ I1 ea c hm l ?_;exact W.callWith_K0 (first:=[.ref a]) I1.kIn hm.kp (xgV (us:=[.ref a]) (vs:=[.ref a]) F hr hb hd hx I1 (.cons rfl .nil) q)
structure Mk(K:aq)(C f:Addr):Prop where
 makes:W.makesIn K C=true
 init:aS K (.ref C) "__init__"=some (some (.ref f))
 fn:W.isFn K (.ref f)=true
 kp:cx K (.ref C)=true
theorem xpK{Q:VK}(M:Mk X.K C f)(F:xE X.prog X.w X.K X.mg X.base CX k f fd ps sp)(hr:ya (k+1) X.A)(hb:Binds X.K fd ps ds)(hd:Vals dvs ds)
  (hx:Passes CX X E) (I:Inv X pins σ H s) (r:Vals vs us)
  (h:∀x dx,H x=none->H dx=none->dx≠x->sp (.ref x::(vs++dvs)) (upd (upd H dx (.own x)) x (.ins C dx [])) (λv H2=>v= .non/\Q (.ref x) H2) E):
  wpAny (model X.prog X.w) X.A (call (.ref C) us) (EP X pins σ Q) X.xe s:=by
 have hq:=h (s.heap.objs.size+1) s.heap.objs.size (I.hok.fresh (dN _)) (I.hok.fresh (ay _)) (aQ (Nat.lt_succ_self _));have I2:=Inv.made (C:=C) I;have r2:Vals (V.ref (s.heap.objs.size+1)::(vs++dvs)) (aG (s.heap.objs.size+1)::(us++ds)):=.cons rfl (r.append hd);have hl:(aG (s.heap.objs.size+1)::us++ds).length=ps.length:=by
  have e:=r2.length;rw[F.len _ _ _ _ hq]at e;exact e.symm
 refine dH (xpJ (f:=f) I.kIn M.makes M.init (beq_iff_eq.mp M.fn) (cE (F.run _ X.stack _ _ ⟨aG (s.heap.objs.size+1)::us,[]⟩ (aG (s.heap.objs.size+1)::(us++ds)) _ _ E (hr.make C us [])
  (I2.env0.make C us []) (hb _ (aG (s.heap.objs.size+1)::us) I2.kIn hl) r2 hq) λr s' kP=>?_))
 cases r with
 |error e=>exact hx pins σ _ _ e s' I2 kP
 |ok fl=>
  cases fl with
  |ret u=>
   obtain⟨v,H',I3,rv,ev,q3⟩:=I2.after kP;subst ev;exact⟨rv,⟨V.ref (s.heap.objs.size+1),H',I3,rfl,q3⟩⟩
  |next=>exact bc kP
  |brk=>exact bc kP
  |cont=>exact bc kP
def xaM(M:Mk X.K C f)(F:xE X.prog X.w X.K X.mg X.base CX k f fd ps sp)(hr:ya (k+1) X.A)(hg:Gl X x)(hm:X.mg x=some (.ref C))(hb:Binds X.K fd ps ds)(hd:Vals dvs ds)(hx:Passes CX X E)
  (ha:PA X (e::es) t) (kQ:autoParam ((x==("__debug__":Str))=false) sJ) (he:autoParam (aE (e::es) X.env=(false,eval e X.env)::aE es X.env) sV) (kP:autoParam ((bR pos (aE es X.env)).any (·.1)=false) sV):
  PE X (.Call (.Name x p) (e::es) [] pos) (xtn C sp dvs E t):=by
 intro pins s σ H Q I h;refine bX (zR I hg hm ?_ kQ);refine fC (h₀:=X.base) I.ok.mod.kin M.kp (uJ (ha pos pins s σ H _ I h) λus s1 vs H1 I1 r q=>⟨I1.kIn,?_⟩) he kP;exact xpK M F hr hb hd hx I1 r q
end
section
variable {k:Nat} {ks:List Str} {E:XK} {apos kpos:Pos} {o:Expr} {kws:List Keyword} {tk:TA} {nm:Option Str}
variable {g:List Value->List Value->List Value} {gV:List V->List V->List V}
end
structure xu(N P:List Str)(sc:Scope):Prop where
 kind:sc.kind= .function
 co:sc.isCoroutine=false
 gen:sc.isGenerator=false
 nd:N.Nodup
 pre:N.take P.length=P
 par:∀x∈P,sc.names.lookup x=some .local\/sc.names.lookup x=some .cell
 nofree:∀y∈sc.names,y.2≠.free
theorem xjb{kindOf:Str->Option c9}{x:Str}:∀{binds:List (Str×Value)} {m:Str->Option Value},(∀v,(x,v)∉binds)->bindL kindOf binds m x=m x
 |[],_,_=>rfl
 |(n,v)::r,m,h=>by
  unfold bindL;rw[xjb λw hw=>h w (aL _ hw)]
  split
  ·have:x≠n:=by rintro rfl;exact h v bh
   simp[this]
  ·rfl
theorem xjc{kindOf:Str->Option c9}{x:Str}:∀{binds:List (Str×Value)} {m:Str->Option Value},(∀v,(x,v)∉binds)->bindC kindOf binds m x=m x
 |[],_,_=>rfl
 |(n,v)::r,m,h=>by
  unfold bindC;rw[xjc λw hw=>h w (aL _ hw)]
  split
  ·rfl
  ·have:x≠n:=by rintro rfl;exact h v bh
   simp[this]
theorem xjd{kindOf:Str->Option c9}{x:Str}{v:Value}:∀{P:List Str} {vs:List Value} {i:Nat} {m:Str->Option Value},P.Nodup->P[i]? =some x->vs[i]? =some v->kindOf x=some .local->
  bindL kindOf (P.zip vs) m x=some v
 |[],_,_,_,_,h,_,_=>by simp at h
 |_::_,[],_,_,_,_,h,_=>by simp at h
 |p::P,w::vs,0,m,nd,h1,h2,hk=>by
  simp at h1 h2;subst h1;subst h2;show bindL kindOf ((p,w)::P.zip vs) m p=_;unfold bindL;rw[xjb λv hv=>(bA.mp nd).1 (dy hv).1,if_pos hk];simp
 |p::P,w::vs,i+1,m,nd,h1,h2,hk=>by
  show bindL kindOf ((p,w)::P.zip vs) m x=_;unfold bindL;exact xjd (i:=i) (bA.mp nd).2 (by simpa using h1) (by simpa using h2) hk
theorem xje{kindOf:Str->Option c9}{x:Str}{v:Value}:∀{P:List Str} {vs:List Value} {i:Nat} {m:Str->Option Value},P.Nodup->P[i]? =some x->vs[i]? =some v->kindOf x≠some .local->
  bindC kindOf (P.zip vs) m x=some v
 |[],_,_,_,_,h,_,_=>by simp at h
 |_::_,[],_,_,_,_,h,_=>by simp at h
 |p::P,w::vs,0,m,nd,h1,h2,hk=>by
  simp at h1 h2;subst h1;subst h2;show bindC kindOf ((p,w)::P.zip vs) m p=_;unfold bindC;rw[xjc λv hv=>(bA.mp nd).1 (dy hv).1,if_neg hk];simp
 |p::P,w::vs,i+1,m,nd,h1,h2,hk=>by
  show bindC kindOf ((p,w)::P.zip vs) m x=_;unfold bindC;exact xje (i:=i) (bA.mp nd).2 (by simpa using h1) (by simpa using h2) hk
def start(N:List Str)(vs:List V):St:=vs.map some++ao (N.length - vs.length) none
noncomputable def uQ(CX:CXT)(P:aH)(w:World)(K:aq)(mg:Str->Option Value)(base:Heap)(N:List Str)(qual:Str)(scope:Scope)(f:Addr)(cd:Value)(A:bo)(outer:List Env)(s:ak)(H:Hp)(E:XK):Cx where
 prog:=P
 w:=w
 K:=K
 mg:=mg
 base:=base
 A:=A.deeper (cV qual scope s.heap.objs.size f cd)
 N:=N
 s₀:=s
 H₀:=H
 env:=cV qual scope s.heap.objs.size f cd
 outer:=outer
 stack:=cV qual scope s.heap.objs.size f cd::outer
 ex:=[]
 calm:=true
 cp:=λ_=>true
 fn:=λ_=>true
 pn:=[]
 xe:=λe s'=>wpAny (model P w) (A.deeper (cV qual scope s.heap.objs.size f cd)) (leaving (cV qual scope s.heap.objs.size f cd) e) (λ_ kP=>CX outer H s E e kP) (λe' kP=>CX outer H s E e' kP) s'
def xkg{sc:Scope}{n:Nat}(h:sc.names.lookup x=some .cell):∃c,(gM n sc.names []).lookup x=some c:=by
 have q:=eR sc.names n [] (.inl h);exact ip.mp q
theorem xcQ{qual:Str}{scope:Scope}{cd:Value}{outer:List Env}{s1:ak}{E:XK}
  (S:xu N ps scope) (hd:A.handled=none) (e0:xaL P w K mg base A outer s H) (hl:vs.length=ps.length) (r:Vals vs us)
  (x:InCallC s s.heap.objs.size (bindL (cV qual scope s.heap.objs.size f cd).kindOf (ps.zip us) λ_=>none) (gM (s.heap.objs.size+1) scope.names []) (bindC (cV qual scope s.heap.objs.size f cd).kindOf (ps.zip us) λ_=>none) s1):
  Inv (uQ CX P w K mg base N qual scope f cd A outer s H E) [] (start N vs) H s1:=by
 have kR:ps.length<=N.length:=by have:=congrArg gF S.pre;rw[bz]at this;lia
 obtain⟨h1,tk,rfl,hk⟩:=x.done;have kP:∀b:Addr,b∉(uQ CX P w K mg base N qual scope f cd A outer s H E).ex:=λb z=>absurd (show b∈([]:List Addr)from z) (by simp);refine⟨⟨e0.mod,S.kind,rfl,rfl,ay _,λy z c h1 h2=>?_,λy hy=>?_,λy c _ h=>?_,λ_=>hd,i9 e0.frames,.inr ⟨rfl,rfl⟩,λb z=>absurd z (kP b),e0.bs,e0.bsz,λb _ _=>kP b,λb z=>absurd z (kP b),e0.funs,e0.frf,λy c _ h=>eG (x.above y c (PySem.mem_of_lookup h)),λb hb=>e0.hok.fresh hb⟩,
  rfl,e0.bare,Un.kept hk,⟨_,x.toInCall.ns,λi y v h1 h2 h3=>?_⟩,λy c h=>⟨_,x.cell y c h⟩,e0.hok.fresh (ay _),λy c h=>.inl ?_,λp hp=>absurd (show p∈([]:List (Addr×Obj))from hp) (by simp),e0.hok.kept hk,?_⟩
 ·exact name_of_addr x.apart (PySem.mem_of_lookup h1) (PySem.mem_of_lookup h2)
 ·have hy:scope.names.lookup y=some .cell\/scope.names.lookup y=some .free:=hy;rcases hy with hy|hy
  ·exact xkg hy
  ·exact absurd rfl (S.nofree _ (PySem.mem_of_lookup hy))
 ·exact eG (x.above y c (PySem.mem_of_lookup h))
 ·have hi:i<vs.length:=by
   unfold start at h2
   by_cases hi:i<vs.length
   ·exact hi
   ·rw[bx (by simpa using hi)]at h2;rw[iI]at h2
    split at h2<;> cases h2
  have ha:vs[i]? =some v:=by
   unfold start at h2;rw[bj (by simpa using hi),aF]at h2;cases e:vs[i]? with
   |none=>rw[e]at h2;cases h2
   |some a=>rw[e]at h2;cases h2;rfl
  obtain⟨u,hu,rv⟩:=r.get ha;have hp:ps[i]? =some y:=by
   rw[<-S.pre,dP (by lia)];exact h1
  have kQ:ps.Nodup:=by rw[<-S.pre];exact S.nd.sublist (List.take_sublist _ _)
  refine⟨u,rv,?_⟩;rcases S.par y (aK hp)with k|k
  ·exact .inl ⟨k,xjd kQ hp hu k⟩
  ·obtain⟨c,e⟩:=xkg (n:=s.heap.objs.size+1) k;refine .inr ⟨.inl k,c,e,?_⟩;have q:=x.cell y c e;rw[xje kQ hp hu (by show scope.names.lookup y≠_;rw[k];decide)]at q;exact q
 ·exact e0.hok.fresh (eG (x.above y c (PySem.mem_of_lookup h)))
 ·unfold start;show _=N.length;rw[aC,ag,bf];lia
theorem xj9{k:Nat}{name qual:Str}{params:cZ}{body:List Stmt}{scope:Scope}{dV kV doc pm cdv ct oc:Value}{an od:Option Addr}
  {osl:Array (Option Value)} (lk:K.lookup f=some ⟨oc,od,.func (cq name qual params body scope dV kV doc pm an cdv ct),osl⟩) (kS:cS K cdv qual=true) (S:xu N ps scope)
  (len:∀vs H Q E,sp vs H Q E->vs.length=ps.length)
  (kQ:∀(A:bo) (outer:List Env) (s:ak) (H:Hp) (vs:List V) (Q:VK) (E:XK),ya k (A.deeper (cV qual scope s.heap.objs.size f cdv))->sp vs H Q E->
   ∃t,PSs (uQ CX P w K mg base N qual scope f cdv A outer s H E) body t/\t {nx:=λ_ H'=>Q .non H',rt:=Q} (start N vs) H):
  xE P w K mg base CX (k+1) f (cq name qual params body scope dV kV doc pm an cdv ct) ps sp:=by
 refine⟨len,λA outer s H args us vs Q E hr e0 hb r kR=>?_⟩;have hl:=len _ _ _ _ kR;have KX:K.In s.heap:=e0.mod.kin.keeps λb o e=>(e0.bs b o e).1;have lim:s.heap.NoLimit:=e0.mod.nolimit.keeps λb o e=>(e0.bs b o e).1;have kP:∀y∈ps.zip us,scope.names.lookup y.1=some .local\/(scope.names.lookup y.1=some .cell/\((gM (s.heap.objs.size+1) scope.names []).lookup y.1).isSome=true):=λ⟨n,v⟩ hy=>by
  rcases S.par n (dy hy).1 with q|q
  ·exact .inl q
  ·exact .inr ⟨q,eR _ _ _ (.inl q)⟩
 refine dz hr.depth (KX _ _ lk) rfl S.co S.gen rfl (iq KX kS) (hb _ _ _ _ ?_);refine dC S.kind kP λenv he s1 x=>?_;subst he;refine⟨lim.keeps x.toInCall.keep,ir ?_⟩;obtain⟨t,ht,hq⟩:=kQ A outer s H vs Q E (hr.deeper _) kR;have I:Inv (uQ CX P w K mg base N qual scope f cdv A outer s H E) [] (start N vs) H s1:=xcQ S hr.hd e0 hl r x;refine aN (ht [] s1 (start N vs) H _ I hq) (λfl s' hs=>?_) λe s' hs=>hs;have fin:∀{σ':St} {H':Hp} {v:V} {u:Value},Inv (uQ CX P w K mg base N qual scope f cdv A outer s H E) [] σ' H' s'->RelV v u->Q v H'->CE outer P w H s Q u s':=
  λ{σ' H' v u} J rv q=>⟨v,H',J.os,J.bare,J.base,J.hok,rv,q⟩
 cases fl with
 |ret u=>
  obtain⟨v,σ',H',J,rv,q⟩:=hs;exact fin J rv q
 |next=>
  obtain⟨σ',H',J,q⟩:=hs;exact fin (v:=V.non) (u:=bp) J rfl q
 |brk=>
  obtain⟨_,_,_,q⟩:=hs;exact bc q
 |cont=>
  obtain⟨_,_,_,q⟩:=hs;exact bc q
section
variable {id T:String} {r:List V->Hp->VK->Prop}
def tCB(r:List V->Hp->VK->Prop)(t:TA):TE:=λσ H Q=>t σ H λvs H1=>r vs H1 Q
def xI(hc:zy X (.builtin id) r)(hg:Gl X x)(hm:X.mg x=none)(hv:bM x=some (.builtin id))(ha:PA X (e::es) t)(hn:autoParam (x≠"__name__") sJ)(kQ:autoParam ((x==("__debug__":Str))=false) sJ)
  (he:autoParam (aE (e::es) X.env=(false,eval e X.env)::aE es X.env) sV) (kP:autoParam ((bR pos (aE es X.env)).any (·.1)=false) sV):PE X (.Call (.Name x p) (e::es) [] pos) (tCB r t):=by
 intro pins s σ H Q I h;refine bX (vK I hg hm hv ?_ hn kQ);exact PyProof.Rows.callWith_builtin1 (uJ (ha pos pins s σ H _ I h) λus s1 vs H1 I1 r1 q1=>hc pins s1 σ H1 vs us Q I1 r1 q1) he kP
def xW(hc:zy X (.type T) r)(hg:Gl X x)(hm:X.mg x=none)(hv:bM x=some (.type T))(ha:PA X (e::es) t)(hn:autoParam (x≠"__name__") sJ)(kQ:autoParam ((x==("__debug__":Str))=false) sJ)
  (he:autoParam (aE (e::es) X.env=(false,eval e X.env)::aE es X.env) sV) (kP:autoParam ((bR pos (aE es X.env)).any (·.1)=false) sV):PE X (.Call (.Name x p) (e::es) [] pos) (tCB r t):=by
 intro pins s σ H Q I h;refine bX (vK I hg hm hv ?_ hn kQ);exact bW (uJ (ha pos pins s σ H _ I h) λus s1 vs H1 I1 r1 q1=>hc pins s1 σ H1 vs us Q I1 r1 q1) he kP
end
end Internal.L2
namespace HT
open PySem PyProof.Rows
section
open PySem.SeqAt
open PySem.AutoSeq1 (wpAny_loadPart')
open PySem.MeetsSeq PySem.MeetsSeq2 PySem.MeetsSeq3
end
section
variable {prog:aH} {w:World} {A:bo} {E:Value->ak->Prop} {s:ak}
def sIx(n d:Nat):Option Int->Nat
 |none=>d
 |some v=>if v<0 then(v+(n:Int)).toNat else min v.toNat n
def xkh(n d:Nat):sIx n d none=d:=rfl
end
end HT
namespace Internal.L2
open PySem PySem.Spec PyProof.Rows
variable {H H':Hp} {X:Cx} {s:ak} {pins:List (Addr×Obj)} {σ:St} {y x:V} {u:Value} {a:Addr} {pos:Pos} {w:World} {A:bo} {E Q:Value->ak->Prop} {kvs:List (Key×V)} {P:aH} {α:Type} {e:Expr} {n t':Nat} {xs:List V} {o:Option V} {its us:List Value} {T:String}
abbrev TO:=St->Hp->(Option Int->Hp->Prop)->Prop
def PO(X:Cx)(e:Option Expr)(t:TO):Prop:=
 ∀(pins:List (Addr×Obj)) (s:ak) (σ:St) (H:Hp) (Q:Option Int->Hp->Prop),Inv X pins σ H s->t σ H Q->
  wpAny (model X.prog X.w) X.A (evalPart e X.env) (λu s'=>∃o H',Inv X pins σ H' s'/\IsPart u o/\Q o H') X.xe s
def xq5:TO:=λ_ H Q=>Q none H
def xto(t:TE):TO:=λσ H Q=>t σ H λx H1=>∃i,x= .int i/\Q (some i) H1
theorem intsAre_of{ns:List Int}:∀{us:List Value},Vals (ns.map V.int) us->iW us ns:=by
 induction ns with
 |nil=>intro us r;rw[iu]at r;cases r;exact .nil
 |cons n ns ih=>
  intro us r;rw[bO]at r;cases r with
  |cons r1 r2=>
   obtain⟨t,e⟩:=r1;subst e;exact .cons n t (ih r2)
section
variable {te:TE} {lo hi:Option Expr} {tl th:TO} {p2:Pos}
def xb1:PO X none xq5:=by
 intro pins s σ H Q I h;rw[evalPart_none];exact aA ⟨none,H,I,.none,h⟩
def xb2(h:PE X e te):PO X (some e) (xto te):=by
 intro pins s σ H Q I hw;rw[evalPart_some];refine yg (h pins s σ H _ I hw) λu s1 x H1 I1 r1 q1=>?_;obtain⟨i,rfl,q⟩:=q1;obtain⟨t,rfl⟩:=r1;exact⟨some i,H1,I1,.int i t,q⟩
def SlR(X:Cx)(r:V->Option Int->Option Int->Hp->VK->Prop):Prop:=
 ∀(pins:List (Addr×Obj)) (s:ak) (σ:St) (H:Hp) (x:V) (v vl vu:Value) (lo hi:Option Int) (sl:Addr) (Q:VK),Inv X pins σ H s->RelV x v->s.heap.IsSliceOf sl vl vu .none->IsPart vl lo->IsPart vu hi->r x lo hi H Q->
  ∃T id,j0 (.type T) "__getitem__"=pure (some (.builtin id))/\s.TypeIs v T/\wpAny (model X.prog X.w) X.A (iX v (.ref sl)) (EP X pins σ Q) X.xe s
def tSl(r:V->Option Int->Option Int->Hp->VK->Prop)(te:TE)(tl th:TO):TE:=λσ H Q=>te σ H λx H1=>tl σ H1 λl H2=>th σ H2 λu H3=>r x l u H3 Q
def xaN{r:V->Option Int->Option Int->Hp->VK->Prop}(hr:SlR X r)(he:PE X e te)(hl:PO X lo tl)(hu:PO X hi th):PE X (.Subscript e (.Slice lo hi none p2) pos) (tSl r te tl th):=by
 intro pins s σ H Q I h;refine Subscript_ (yg (he pins s σ H _ I h) λv s1 x H1 I1 r1 q1=>?_);refine wpAny_Slice (thn (hl pins s1 σ H1 _ I1 q1) λvl s2 ⟨l,H2,I2,pl,q2⟩=>thn (hu pins s2 σ H2 _ I2 q2) λvu s3 ⟨u,H3,I3,pu,q3⟩=>?_);rw[evalPart_none];refine aA ?_;have I4:Inv X pins σ H3 {s3 with heap:=s3.heap.push {cls:=.type "slice",data:=.fields #[vl,vu,.none]}}:=I3.kept (t':=s3.toks) λb ob q=>ai _ q;obtain⟨T,id,hT,ht,hg⟩:=hr pins {s3 with heap:=s3.heap.push {cls:=.type "slice",data:=.fields #[vl,vu,.none]}} σ H3 x v vl vu l u s3.heap.objs.size Q I4 r1 (Heap.IsSliceOf.new ..) pl pu q3;show wpAny (model X.prog X.w) X.A (kg e (.Slice lo hi none p2) v (.ref s3.heap.objs.size)) (EP X pins σ Q) X.xe {s3 with heap:=s3.heap.push {cls:=.type "slice",data:=.fields #[vl,vu,.none]}};exact tail_any (ops:=[.ref s3.heap.objs.size,v]) ht hT hg (by with_unfolding_all rfl)
def xc5(xs:List V)(lo hi:Option Int):List V:=(xs.drop (HT.sIx xs.length 0 lo)).take (HT.sIx xs.length xs.length hi - HT.sIx xs.length 0 lo)
def xlH(xs:List V)(lo hi:Option Int):(xc5 xs lo hi).length<=xs.length:=by
 unfold xc5;rw[bz,cT];lia
end
noncomputable def ixN(n:Nat)(i:Int):Option Nat:=if 0<=i then(if i<n then some i.toNat else none)else if -(n:Int)<=i then some (i+n).toNat else none
def atI(xs:List α)(i:Int):Option α:=(ixN xs.length i).bind λj=>xs[j]?
def xmm{i:Int}{j:Nat}(h:ixN n i=some j):seqIndex? i n=some j/\j<n/\-(n:Int)<=i/\i<n:=by
 unfold ixN at h
 by_cases h0:0<=i
 ·rw[if_pos h0]at h
  by_cases h1:i<n
  ·rw[if_pos h1]at h;have e:i.toNat=j:=bt h;exact⟨by rw[seqIndex_of h0 h1,e],by lia,by lia,h1⟩
  ·rw[if_neg h1]at h;cases h
 ·rw[if_neg h0]at h
  by_cases h1: -(n:Int)<=i
  ·rw[if_pos h1]at h;have e:(i+n).toNat=j:=bt h;exact⟨by rw[seqIndex_neg (by lia) h1,e],by lia,h1,by lia⟩
  ·rw[if_neg h1]at h;cases h
theorem xmn{xs:List α}{i:Int}{v:α}(h:atI xs i=some v):∃j,seqIndex? i xs.length=some j/\xs[j]? =some v/\j<xs.length/\-(xs.length:Int)<=i/\i<xs.length:=by
 unfold atI at h;cases e:ixN xs.length i with
 |none=>rw[e]at h;cases h
 |some j=>
  rw[e]at h;obtain⟨h1,h2,h3,h4⟩:=xmm e;exact⟨j,h1,h,h2,h3,h4⟩
def xh7{xs:List α}{j:Nat}{v:α}(h:xs[j]? =some v):atI xs (j:Int)=some v:=by
 have hj:j<xs.length:=(aw.mp h).1;have e:ixN xs.length (j:Int)=some j:=by
  unfold ixN;rw[if_pos (by lia),if_pos (by lia)];simp
 unfold atI;rw[e];exact h
def xpL(xs:List α)(v:α):atI (xs++[v]) (-1)=some v:=by
 have hl:(xs++[v]).length=xs.length+1:=by simp
 have e:ixN (xs++[v]).length (-1)=some xs.length:=by
  unfold ixN;rw[hl,if_neg (by decide),if_pos (by lia)]
  congr 1
  lia
 unfold atI;rw[e];show(xs++[v])[xs.length]? =some v;simp
def xq6(b:Expr):Prop:=∀o i,iR b false o i=operate [o,i] (iX o i)
def IxR(X:Cx)(r:R2):Prop:=
 ∀(value slice:Expr) (pins:List (Addr×Obj)) (s:ak) (σ:St) (H:Hp) (x y:V) (v u:Value) (Q:VK),Inv X pins σ H s->RelV x v->RelV y u->r x y H Q->
  iR slice false v u=operate [v,u] (iX v u)->wpAny (model X.prog X.w) X.A (kg value slice v u) (EP X pins σ Q) X.xe s
def MtR(X:Cx)(id:String)(r:V->List V->Hp->VK->Prop):Prop:=
 ∀(pins:List (Addr×Obj)) (s:ak) (σ:St) (H:Hp) (x:V) (xs:List V) (v:Value) (us:List Value) (Q:VK),Inv X pins σ H s->RelV x v->Vals xs us->r x xs H Q->
  wpAny (model X.prog X.w) X.A (call (.builtin id) (v::us)) (EP X pins σ Q) X.xe s
section
variable {a b:Expr} {ta tb:TE}
def xM{r:R2}(hr:IxR X r)(ha:PE X a ta)(hb:PE X b tb)(hs:xq6 b):PE X (.Subscript a b pos) (tOp r ta tb):=by
 intro pins s σ H Q I h;exact Subscript_ (xpG ha hb I h λv u s2 x y H2 I2 rx ry q=>hr a b pins s2 σ H2 x y v u Q I2 rx ry q (hs _ _))
def xsv(K:aq):R2:=λx y H Q=>Ex4 λp xs i v=>x= .ref p/\y= .int i/\SqL K H p xs/\atI xs i=some v/\Q v H
def xsw(K:aq):R2:=λx y H Q=>Ex4 λp xs i v=>x= .ref p/\y= .int i/\SqT K H p xs/\atI xs i=some v/\Q v H
def yx:IxR X (xsv X.K):=by
 intro value slice pins s σ H x y v u Q I rx ry h hs;obtain⟨p,xs,i,z,rfl,rfl,hq,he,q⟩:=h;cases rx;obtain⟨t,rfl⟩:=ry;obtain⟨its,r,pl,hz⟩:=I.list hq;obtain⟨j,h1,h2,h3,h4,h5⟩:=xmn he;obtain⟨w,ew,kP⟩:=r.get h2;have hl:=r.length;have hn:=xgT;have fin:EP X pins σ Q w s:=⟨z,H,I,kP,q⟩
 by_cases h0:0<=i
 ·have hj:i.toNat=j:=by
   rw[seqIndex_of h0 h5]at h1;exact bt h1
  exact item_listR pl.isList h0 (by lia) (by rw[hj];simpa using ew) fin hs
 ·have hj:(i+(its.toArray.size:Int)).toNat=j:=by
   rw[seqIndex_neg (by lia) h4]at h1;rw[aX,<-hl];exact bt h1
  exact subscriptTail_builtinR (x:=w) pl.isList.typeIs slot_list_getitem.lookup
   (wpAny_getItem_list_neg (Q:=λr s'=>r=w/\EP X pins σ Q r s') pl.isList (by lia) (by rw[aX]<;> lia) (by lia) (by rw[hj];simpa using ew) ⟨rfl,fin⟩) hs
def xT:IxR X (xsw X.K):=by
 intro value slice pins s σ H x y v u Q I rx ry h hs;obtain⟨p,xs,i,z,rfl,rfl,hq,he,q⟩:=h;cases rx;obtain⟨t,rfl⟩:=ry;obtain⟨its,r,pl,hz⟩:=I.tuple hq;obtain⟨j,h1,h2,h3,h4,h5⟩:=xmn he;obtain⟨w,ew,kP⟩:=r.get h2;have hl:=r.length;have hn:=xgT;have fin:EP X pins σ Q w s:=⟨z,H,I,kP,q⟩;exact subscriptTail_builtinR (x:=w) pl.typeIs slot_tuple_getitem.lookup
  (getItem_tuple (j:=j) (Q:=λr s'=>r=w/\EP X pins σ Q r s') pl (by lia) (by lia) (by rw[aX,<-hl];exact h1) (by simpa using ew) ⟨rfl,fin⟩) hs
def xm8(its:List Value)(n j:Nat)(u:Value):dk (·.setIfInBounds j u) {cls:=.type "list",data:=.seq its.toArray n}={cls:=.type "list",data:=.seq (its.set j u).toArray n}:=by
 simp[dk]
def Inv.lst{p:Addr}(I:Inv X pins σ H s)(h:H p=some (.lst xs)):
  ∃(its:List Value) (n:Nat),Vals xs its/\s.heap.get? p=some {cls:=.type "list",data:=.seq its.toArray n}/\xs.length<=aU:=by
 obtain⟨z,its,n,r,e⟩:=I.hok p _ h;exact⟨its,n,r,e,z⟩
def Inv.lstUpd{p:Addr}{ys:List V}{its':List Value}{n':Nat}{f:Obj->Obj}(I:Inv X pins σ H s)(h:H p=some (.lst xs))
  (ho:s.heap.get? p=some {cls:=.type "list",data:=.seq its.toArray n}) (hf:f {cls:=.type "list",data:=.seq its.toArray n}={cls:=.type "list",data:=.seq its'.toArray n'}) (r:Vals ys its') (hz:ys.length<=aU) (t:Nat):
  Inv X pins σ (upd H p (.lst ys)) {s with heap:=s.heap.update p f,toks:=t}:=by
 have e:(s.heap.update p f).get? p=some {cls:=.type "list",data:=.seq its'.toArray n'}:=by
  rw[bu f ho (by rw[hf]<;> rfl),hf]
 refine I.write (x:=p) (e:=p) (by rw[h];trivial) (.inl rfl) (λb u hb q=>(bg _ _ (au hb)).trans q) ⟨_,e⟩ ?_;exact⟨hz,its',n',r,e⟩
def xqK:V->V->V->Hp->(Hp->Prop)->Prop:=λo i v H Q=>Ex4 λp xs k j=>o= .ref p/\i= .int k/\H p=some (.lst xs)/\ixN xs.length k=some j/\Q (upd H p (.lst (xs.set j v)))
def set_list:xpD X xqK:=by
 intro pins s σ H o i v ov iv u Q I ro ri rv h;obtain⟨p,xs,k,j,rfl,rfl,hp,hj,q⟩:=h;cases ro;obtain⟨t,rfl⟩:=ri;obtain⟨its,n,r,ho,hz⟩:=I.lst hp;obtain⟨h1,h2,h3,h4⟩:=xmm hj;have hl:=r.length;have hn:=xgT;have I':Inv X pins σ (upd H p (.lst (xs.set j v))) {s with heap:=s.heap.update p (dk (·.setIfInBounds j u))}:=
  I.lstUpd hp ho (xm8 its n j u) (r.set rv j) (by rw[cD];exact hz) s.toks
 by_cases h0:0<=k
 ·have hk:k.toNat=j:=by
   rw[seqIndex_of h0 h4]at h1;exact bt h1
  exact W.ki_setAt ho h0 (by lia) (by rw[aX,<-hl];exact h4) (by rw[hk];exact⟨_,I',q⟩)
 ·have hk:(k+(its.toArray.size:Int)).toNat=j:=by
   rw[seqIndex_neg (by lia) h3]at h1;rw[aX,<-hl];exact bt h1
  exact W.ki_setBack ho (by lia) (by rw[aX,<-hl];exact h3) (by lia) (by rw[hk];exact⟨_,I',q⟩)
theorem xki(lo hi:Option Int)(n:Nat):(eZ lo hi none n).1=((HT.sIx n 0 lo:Nat):Int)/\(eZ lo hi none n).2.1=((HT.sIx n n hi:Nat):Int)/\(eZ lo hi none n).2.2=1:=by
 refine⟨?_,?_,rfl⟩
 ·cases lo with
  |none=>simp[eZ,HT.sIx]
  |some i=>
   simp only[eZ,HT.sIx,kM,show(1:Int) > 0 by decide,if_true]
   by_cases h:i<0
   ·simp only[h,if_true]<;> lia
   ·simp only[h,if_false]<;> lia
 ·cases hi with
  |none=>simp[eZ,HT.sIx]
  |some i=>
   simp only[eZ,HT.sIx,kM,show(1:Int) > 0 by decide,if_true]
   by_cases h:i<0
   ·simp only[h,if_true]<;> lia
   ·simp only[h,if_false]<;> lia
def xjK(its:List Value)(lo hi:Option Int):slicePick its.toArray lo hi none=((its.drop (HT.sIx its.length 0 lo)).take (HT.sIx its.length its.length hi - HT.sIx its.length 0 lo)).toArray:=by
 obtain⟨h1,h2,h3⟩:=xki lo hi its.toArray.size;unfold slicePick;rw[h1,h2,h3];simp only[sliceRange_one,pick_run,aX]<;> rfl
def xsx(K:aq):V->Option Int->Option Int->Hp->VK->Prop:=λx lo hi H Q=>Ex2 λa xs=>x= .ref a/\SqL K H a xs/\∀p,H p=none->Q (.ref p) (upd H p (.lst (xc5 xs lo hi)))
def xaO:SlR X (xsx X.K):=by
 intro pins s σ H x v vl vu lo hi sl Q I rx hs pl pu h;obtain⟨a,xs,rfl,hx,q⟩:=h;cases rx;obtain⟨its,r,ht,hz⟩:=I.list hx;have hlen:=r.length;refine⟨"list",_,slot_list_getitem.lookup,ht.isList.typeIs,?_⟩;refine wpAny_getItem_list_slice ht.isList hs pl pu .none (by simp) ?_ (by rw[aX]<;> lia);rw[xjK,<-hlen];refine⟨.ref s.heap.objs.size,_,I.laid (t':=s.toks) (o:=.lst (xc5 xs lo hi)) (λb ob q=>ai _ q) (ay _) ?_,rfl,q _ (I.hok.fresh (ay _))⟩;exact⟨bG (xlH xs lo hi) hz,_,0,(r.drop (HT.sIx xs.length 0 lo)).take (HT.sIx xs.length xs.length hi - HT.sIx xs.length 0 lo),aT _ rfl⟩
def xQ:zy X (.builtin "len") (λxs H Q=>∃p ys,xs=[.ref p]/\(SqL X.K H p ys\/SqT X.K H p ys)/\Q (.int ys.length) H):=by
 intro pins s σ H xs us Q I r h;obtain⟨p,ys,rfl,hq,q⟩:=h;obtain⟨u,rfl,rx⟩:=vals1 r;cases rx;have hn:=xgT;rcases hq with hq|hq
 ·obtain⟨its,r',pl,hz⟩:=I.list hq;have hlen:=r'.length;exact Calls.call_len_list pl.isList (by simp only[aX]<;> lia) ⟨.int ys.length,H,I.tok _,⟨s.toks+1,by rw[aX,hlen]⟩,q⟩
 ·obtain⟨its,r',pl,hz⟩:=I.tuple hq;have hlen:=r'.length;exact len_tuple pl (by simp only[aX]<;> lia) ⟨.int ys.length,H,I.tok _,⟨s.toks+1,by rw[aX,hlen]⟩,q⟩
def zu:zy X (.type "list") (λxs H Q=>∃p ys,xs=[.ref p]/\(SqL X.K H p ys\/SqT X.K H p ys)/\∀l,H l=none->Q (.ref l) (upd H l (.lst ys))):=by
 intro pins s σ H xs us Q I r h;obtain⟨p,ys,rfl,hq,q⟩:=h;obtain⟨u,rfl,rx⟩:=vals1 r;cases rx;have fin:∀(its:List Value),Vals ys its->ys.length<=aU->∀(h':Heap) (c':Nat),(∀b o',s.heap.get? b=some o'->h'.get? b=some o')->
   h'.get? s.heap.objs.size=some {cls:=.type "list",dict:=none,data:=.seq its.toArray c',slots:=#[]}->EP X pins σ Q (.ref s.heap.objs.size) {s with heap:=h'}:=λits r' hz h' c' kp e=>
  ⟨.ref s.heap.objs.size,_,I.laid (t':=s.toks) kp (ay _) (show yl X.prog X.w _ h' _ (.lst ys)from⟨hz,its,c',r',e⟩),rfl,q _ (I.hok.fresh (ay _))⟩
 rcases hq with hq|hq
 ·obtain⟨its,r',pl,hz⟩:=I.list hq;have hlen:=r'.length;obtain⟨o,ho,hc,n,hd⟩:=pl.isList;exact call_list_seq p (.inl rfl) ho hc hd (λh' c' kp e=>fin its r' hz h' c' kp e) (by simp only[aX]<;> lia)
 ·obtain⟨its,r',pl,hz⟩:=I.tuple hq;have hlen:=r'.length;obtain⟨o,ho,hc,n,hd⟩:=pl;exact call_list_seq p (.inr rfl) ho hc hd (λh' c' kp e=>fin its r' hz h' c' kp e) (by simp only[aX]<;> lia)
def yn:zy X (.type "tuple") (λxs H Q=>∃p ys,xs=[.ref p]/\((SqL X.K H p ys/\∀l,H l=none->Q (.ref l) (upd H l (.tup ys)))\/(SqT X.K H p ys/\Q (.ref p) H))):=by
 intro pins s σ H xs us Q I r h;obtain⟨p,ys,rfl,h⟩:=h;obtain⟨u,rfl,rx⟩:=vals1 r;cases rx;rcases h with⟨hq,q⟩|⟨hq,q⟩
 ·obtain⟨its,r',pl,hz⟩:=I.list hq;have hlen:=r'.length;refine call_tuple_list pl.isList (λh' kp=>?_) (by simp only[aX]<;> lia);have I1:Inv X pins σ H {s with heap:=h'}:=I.kept (t':=s.toks) kp;have I2:Inv X pins σ (upd H h'.objs.size (.tup ys)) {s with heap:=h'.push {cls:=.type "tuple",data:=.seq its.toArray}}:=
   I1.laid (t':=s.toks) (λb o e=>ai _ e) (ay _) (show yl X.prog X.w _ _ _ (.tup ys)from⟨hz,its,r',IsTup.new _ _⟩)
  exact⟨.ref h'.objs.size,_,I2,rfl,q _ (I1.hok.fresh (ay _))⟩
 ·obtain⟨its,r',pl,hz⟩:=I.tuple hq;exact call_tuple_same pl ⟨.ref p,H,I,rfl,q⟩
def tyV(K:aq)(T:String)(x:V)(H:Hp):Prop:=match x with
 | .str _=>T="str"
 | .int _=>T="int"
 | .ref p=>(T="list"/\∃xs,SqL K H p xs)\/(T="tuple"/\∃o,K.lookup p=some o/\o.cls= .type "tuple"/\o.dict=none)\/
   (T="dict"/\((∃kvs,H p=some (.dK kvs))\/∃kvs,H p=some (.dT kvs)))\/(T="set"/\∃S n,H p=some (.set S n))
 |_=>False
theorem xsy{v:Value}(I:Inv X pins σ H s)(r:RelV x v)(ty:tyV X.K T x H):
  s.TypeIs v T/\∀a,v= .ref a->∃ob,s.heap.get? a=some ob/\ob.dict=none:=by
 cases x with
 |str z=>
  obtain⟨t,rfl⟩:=r;cases (show T="str" from ty);exact⟨typeIs_str s z t,λ_ e=>nomatch e⟩
 |int i=>
  obtain⟨t,rfl⟩:=r;cases (show T="int" from ty);exact⟨typeIs_int s i t,λ_ e=>nomatch e⟩
 |ref p=>
  cases r;rcases ty with⟨rfl,xs,hq⟩|⟨rfl,o,hk,hc,hd⟩|⟨rfl,hk⟩|⟨rfl,S,n,hk⟩
  ·obtain⟨its,_,pl,_⟩:=I.list hq;refine⟨pl.isList.typeIs,λa e=>?_⟩;cases e;obtain⟨o,n,e,c,hd,_⟩:=pl;exact⟨o,e,hd⟩
  ·refine⟨⟨o,I.kIn p o hk,hc⟩,λa e=>?_⟩;cases e;exact⟨o,I.kIn _ o hk,hd⟩
  ·have z:∃o,s.heap.get? p=some o/\o.ExactDict:=by
    rcases hk with⟨kvs,hk⟩|⟨kvs,hk⟩
    ·obtain⟨_,_,_,_,o,_,_,e,ex,_⟩:=I.hok p _ hk;exact⟨o,e,ex⟩
    ·obtain⟨_,_,_,_,o,_,_,e,ex,_⟩:=I.hok p _ hk;exact⟨o,e,ex⟩
   obtain⟨o,e,ex⟩:=z;refine⟨⟨o,e,ex.1⟩,λa e2=>?_⟩;cases e2;exact⟨o,e,ex.2.1⟩
  ·obtain⟨o,_,_,_,e,ex,_⟩:=I.hok p _ hk;refine⟨⟨o,e,ex.1⟩,λa e2=>?_⟩;cases e2;exact⟨o,e,ex.2.1⟩
 |_=>exact bc ty
def tBM(K:aq)(T:String)(r:V->List V->Hp->VK->Prop)(to:TE)(t:TA):TE:=λσ H Q=>to σ H λx H1=>tyV K T x H1/\t σ H1 λxs H2=>r x xs H2 Q
variable {o:Expr} {es:List Expr} {to:TE} {t:TA} {name:Str} {apos cpos:Pos} {id:String} {r:V->List V->Hp->VK->Prop}
def xbR(pa:PlainAttrs T)(slot:Slot T name id)(kT:typeOf (.builtin id)=pure (.type "method_descriptor"))(hm:MtR X id r)(ho:PE X o to)(ha:PA X (e::es) t)
  (kR:autoParam (gU o name X.env (eval o X.env)=eval o X.env) sV)
  (kS:autoParam (((bR cpos (aE (e::es) X.env)).all (λx=> !x.1)&&(il cpos (fT [] X.env)).all (λx=>x.1.isSome)
   &&decide ((e::es).length+([]:List Keyword).length+(if ([]:List Keyword).isEmpty then 0 else 1)<30))=true) sV)
  (kQ:autoParam ((apos.endLine==cpos.line)=true) sV) (hs:autoParam (aE (e::es) X.env=(false,eval e X.env)::aE es X.env) sV) (kP:autoParam ((bR cpos (aE es X.env)).any (·.1)=false) sV):
  PE X (.Call (.Attribute o name apos) (e::es) [] cpos) (tBM X.K T r to t):=by
 intro pins s σ H Q I h;refine wpAny_Call_method_late kR kS kQ rfl (yg (ho pins s σ H _ I h) λv s1 x H1 I1 r1 ⟨ty,q1⟩=>?_);obtain⟨h1,h2⟩:=xsy I1 r1 ty;refine⟨T,id,pa,slot,kT,h1,h2,?_⟩;have hA:=ha cpos pins s1 σ H1 _ I1 q1;rw[hs]at hA⊢;refine Calls.callWith_builtin (by show(false||(bR cpos (aE es X.env)).any (·.1))=false;rw[kP]<;> rfl) (Calls.evalArgs_plain ?_);exact thn hA λus s2 ⟨vs,H2,I2,r2,q2⟩=>hm pins s2 σ H2 x vs v us Q I2 r1 r2 q2
end
def MtM(X:Cx)(id:String)(r:V->List V->Hp->VK->Prop):Prop:=
 ∀(pins:List (Addr×Obj)) (s:ak) (σ:St) (H:Hp) (x:V) (xs:List V) (v:Value) (us:List Value) (Q:VK),Inv X pins σ H s->RelV x v->Vals xs us->r x xs H Q->
  wpAny (model X.prog X.w) X.A (call (.builtin id) (v::us)) (EP X pins σ Q) X.xe s
theorem Vals.one(h:Vals [x] us):∃u,us=[u]/\RelV x u:=by
 cases h with
 |cons r t=>cases t;exact⟨_,rfl,r⟩
theorem Vals.two(h:Vals [x,y] us):∃u v,us=[u,v]/\RelV x u/\RelV y v:=by
 cases h with
 |cons r t=>obtain⟨v,rfl,q⟩:=Vals.one t;exact⟨_,_,rfl,r,q⟩
theorem Vals.rep{xs:List V}{us:List Value}(h:Vals xs us):∀k:Nat,Vals (ao k xs).flatten (ao k us).flatten
 |0=>.nil
 |k+1=>by
  rw[dW,dW,cX,cX];exact Vals.append h (Vals.rep h k)
theorem foldl_rep(its:List Value):∀(k:Nat) (acc:List Value),
  List.foldl (λx1 x2=>x1++x2) acc.toArray (ao k its.toArray)=(acc++(ao k its).flatten).toArray
 |0,acc=>by simp
 |k+1,acc=>by
  have e:acc.toArray++its.toArray=(acc++its).toArray:=by simp
  have e2:(acc++its)++(ao k its).flatten=acc++(ao (k+1) its).flatten:=by
   rw[dW,cX,bP]
  rw[<-e2,<-foldl_rep its k (acc++its),<-e,dW,List.foldl_cons]
section
variable {l b:Addr} {ys zs:List V}
def Inv.lset{its':List Value}{f:Array Value->Array Value}(I:Inv X pins σ H s)(hH:H l=some (.lst xs))
  (e:s.heap.get? l=some {cls:=.type "list",data:=.seq its.toArray n}) (hf:f its.toArray=its'.toArray) (hv:Vals ys its') (hz:ys.length<=aU):
  Inv X pins σ (upd H l (.lst ys)) {s with heap:=s.heap.update l (dk f),toks:=t'}:=by
 have q:=PySem.IsL.update e f;rw[hf]at q;refine I.write (x:=l) (e:=l) (by rw[hH];exact trivial) (.inl rfl) (λb' u hb hu=>(bg s.heap (dk f) (au hb)).trans hu) ⟨_,q⟩ ?_;exact⟨hz,its',_,hv,q⟩
def Inv.lnew(I:Inv X pins σ H s)(hv:Vals ys its)(hz:ys.length<=aU):
  Inv X pins σ (upd H s.heap.objs.size (.lst ys)) {s with heap:=s.heap.push {cls:=.type "list",data:=.seq its.toArray},toks:=t'}:=
 I.laid (λ_ _ q=>ai _ q) (ay _) ⟨hz,its,0,hv,aT _ rfl⟩
def Inv.fresh(I:Inv X pins σ H s):H s.heap.objs.size=none:=I.hok.fresh (ay _)
def Inv.lstM(I:Inv X pins σ H s)(hH:H l=some (.lst xs)):xs.length<=aU/\∃(its:List Value) (n:Nat),Vals xs its/\xs.length=its.length/\s.heap.get? l=some {cls:=.type "list",data:=.seq its.toArray n}:=by
 obtain⟨z,its,n,r,e⟩:=I.hok l _ hH;exact⟨z,its,n,r,r.length,e⟩
def xkj(h:n<=aU):dQ n=false:=by
 unfold dQ;exact decide_eq_false (by lia)
end
def xq7:V->List V->Hp->VK->Prop:=λx vs H Q=>Ex3 λl xs y=>x= .ref l/\vs=[y]/\H l=some (.lst xs)/\xs.length<aU/\Q .non (upd H l (.lst (xs++[y])))
def uq:MtM X "list.append" xq7:=by
 intro pins s σ H x vs v us Q I rx rv h;obtain⟨l,xs,y,rfl,rfl,hH,hz,q⟩:=h;cases rx;obtain⟨u,rfl,ru⟩:=rv.one;obtain⟨z,its,n,r,hl,e⟩:=I.lstM hH;refine j3 F.slot_list_append ⟨_,e,rfl⟩ F.entry_list_append (F.args_list_append_2 _ _) (PySem.list_append l its.toArray n u (by rw[aX];lia)) ⟨e,?_⟩;refine⟨.non,_,I.lset (its':=its++[u]) hH e (by simp) (r.append (.cons ru .nil)) ?_,rfl,q⟩;rw[aC,iY];lia
def xq8:V->List V->Hp->VK->Prop:=λx vs H Q=>Ex4 λl b xs zs=>x= .ref l/\vs=[.ref b]/\H l=some (.lst xs)/\H b=some (.lst zs)/\xs.length+zs.length<=aU/\Q .non (upd H l (.lst (xs++zs)))
def xom:MtM X "list.extend" xq8:=by
 intro pins s σ H x vs v us Q I rx rv h;obtain⟨l,b,xs,zs,rfl,rfl,hH,hB,hz,q⟩:=h;cases rx;obtain⟨u,rfl,ru⟩:=rv.one;cases ru;obtain⟨z,its,n,r,hl,e⟩:=I.lstM hH;obtain⟨z2,kP,n2,r2,kR,e2⟩:=I.lstM hB;have hsz:its.toArray.size+kP.toArray.size<=aU:=by rw[aX,aX];lia
 have kQ:¬(!its.toArray.isEmpty&&dQ (its.toArray.size+kP.toArray.size))=true:=by
  rw[xkj hsz,Bool.and_false];exact aR
 refine j3 F.slot_list_extend ⟨_,e,rfl⟩ F.entry_list_extend (F.args_list_extend_2 _ _)
  (AutoSeq1.list_extend_list_list_0 l its.toArray n b kP.toArray n2 kQ (by rw[aX];lia) (by lia)) ⟨e,e2,?_⟩
 refine⟨.non,_,I.lset (its':=its++kP) hH e (by simp) (r.append r2) ?_,rfl,q⟩;rw[aC];lia
def xt5:R2:=λx y H Q=>Ex4 λl b xs zs=>x= .ref l/\y= .ref b/\H l=some (.lst xs)/\H b=some (.lst zs)/\xs.length+zs.length<=aU/\∀p,H p=none->Q (.ref p) (upd H p (.lst (xs++zs)))
def xon:OpR X (c8 .Add) xt5:=by
 intro pins s σ H x y v u Q I rx ry h;obtain⟨l,b,xs,zs,rfl,rfl,hH,hB,hz,q⟩:=h;cases rx;cases ry;obtain⟨z,its,n,r,hl,e⟩:=I.lstM hH;obtain⟨z2,kP,n2,r2,kQ,e2⟩:=I.lstM hB;refine PySem.P.add_list e e2 ?_ (by rw[aX,aX];lia);have ea:its.toArray++kP.toArray=(its++kP).toArray:=by simp
 rw[ea];exact⟨.ref _,_,I.lnew (t':=s.toks) (r.append r2) (by rw[aC];lia),rfl,q _ I.fresh⟩
def xt6:R2:=λx y H Q=>Ex3 λl k xs=>x= .ref l/\y= .int k/\H l=some (.lst xs)/\-(2^63)<=k/\k<2^63/\xs.length*k.toNat<=aU/\
 ∀p,H p=none->Q (.ref p) (upd H p (.lst (ao k.toNat xs).flatten))
theorem len_rep(xs:List α)(k:Nat):(ao k xs).flatten.length=k*xs.length:=by
 induction k with
 |zero=>simp
 |succ k ih=>rw[dW,cX,aC,ih,eJ,Nat.add_comm]
theorem xgW:OpR X (c8 .Mult) xt6:=by
 intro pins s σ H x y v u Q I rx ry h;obtain⟨l,k,xs,rfl,rfl,hH,h1,h2,hz,q⟩:=h;cases rx;obtain⟨t,rfl⟩:=ry;obtain⟨z,its,n,r,hl,e⟩:=I.lstM hH;have hlen:its.toArray.size*k.toNat<=aU:=by rw[aX,<-hl];exact hz
 have kS:¬its.toArray.size*k.toNat > (2^63 - 1) / 8:=by
  have:(aU:Nat)<=(2^63 - 1) / 8:=by decide
  lia
 have kR:¬(!Builtin.List.listFitsIndex k)=true:=by
  rw[fitsIndex_both h1 h2];exact aR
 have kP:¬dQ (its.toArray.size*k.toNat)=true:=by
  rw[xkj hlen];exact aR
 have kQ:List.foldl (λx1 x2=>x1++x2) #[] (ao (if its.toArray.isEmpty=true then 0 else k.toNat) its.toArray)=(ao k.toNat its).flatten.toArray:=by
  have f0:∀m:Nat,List.foldl (λx1 x2=>x1++x2) #[] (ao m its.toArray)=(ao m its).flatten.toArray:=λm=>by
   have:=foldl_rep its m [];rw[bY]at this;exact this
  rw[f0];cases its with
  |nil=>simp
  |cons a r'=>rw[if_neg (by simp)]
 refine wpAny_binaryOp_repeat_ref (T:="list") (U:="int") (by decide) ⟨_,e,rfl⟩ (λs'=>typeIs_int s' k t) noFill_list_mul F.fills_int_mul F.slot_int_rmul repeat_list F.slot_int_index.lookup
  (j3 F.slot_int_rmul (typeIs_int s k t) F.entry_int_rmul (F.args_int_rmul_2 _ _) (int___rmul___int_list k t l its.toArray n)
   ⟨e,rfl,⟨_,e,rfl⟩,j3 F.slot_list_mul ⟨_,e,rfl⟩ F.entry_list_mul (F.args_list_mul_2 _ _) (AutoListH.list___mul___list_int_3 l its.toArray n k t kR kS kP) ⟨e,?_⟩⟩)
 rw[kQ];exact⟨.ref _,_,I.lnew (t':=s.toks) (r.rep k.toNat) (by rw[len_rep,iw];exact hz),rfl,q _ I.fresh⟩
section
variable {prog:aH}
set_option maxRecDepth 100000 in
end
section
variable {κ:Type} [DecidableEq κ]
noncomputable def ue(kvs:List (κ×V))(k:κ):Option V:=(kvs.find? λkv=>decide (kv.1=k)).map (·.2)
noncomputable def putK(kvs:List (κ×V))(k:κ)(v:V):List (κ×V):=
 if (kvs.any λkv=>decide (kv.1=k))=true then kvs.map (λkv=>if kv.1=k then(kv.1,v)else kv)else kvs++[(k,v)]
def xpM{k:κ}:ue ([]:List (κ×V)) k=none:=rfl
def zU{p:κ×V}{r:List (κ×V)}{k:κ}(e:p.1=k):ue (p::r) k=some p.2:=by simp[ue,cM,e]
def zV{p:κ×V}{r:List (κ×V)}{k:κ}(e:¬p.1=k):ue (p::r) k=ue r k:=by simp[ue,cM,e]
theorem xdS(k:κ):∀kvs:List (κ×V),(kvs.any λkv=>decide (kv.1=k))=(ue kvs k).isSome
 |[]=>rfl
 |p::r=>by
  rw[kh]
  by_cases e:p.1=k
  ·simp only[zU e,decide_eq_true e,ix,Option.isSome_some]
  ·rw[zV e,decide_eq_false e,fU];exact xdS k r
theorem xkk(k j:κ)(y:V):∀kvs:List (κ×V),ue (kvs.map λkv=>if kv.1=k then(kv.1,y)else kv) j=(ue kvs j).map λx=>if j=k then y else x
 |[]=>rfl
 |p::r=>by
  have ih:=xkk k j y r;rw[bO]
  by_cases h:p.1=k
  ·rw[if_pos h]
   by_cases e:p.1=j
   ·rw[zU (p:=(p.1,y)) e,zU e,gu,if_pos (e.symm.trans h)]
   ·rw[zV (p:=(p.1,y)) e,zV e,ih]
  ·rw[if_neg h]
   by_cases e:p.1=j
   ·rw[zU (p:=p) e,zU e,gu,if_neg (λz=>h (e.trans z))]
   ·rw[zV (p:=p) e,zV e,ih]
theorem xjf(k j:κ)(y:V):∀kvs:List (κ×V),ue kvs k=none->ue (kvs++[(k,y)]) j=if j=k then some y else ue kvs j
 |[],_=>by
  by_cases e:k=j
  ·rw[if_pos e.symm];exact zU (p:=(k,y)) e
  ·rw[if_neg (λz=>e z.symm)];exact zV (p:=(k,y)) e
 |p::r,hn=>by
  rw[cU];have hk:¬p.1=k:=λz=>by rw[zU z]at hn;cases hn
  rw[zV hk]at hn;have ih:=xjf k j y r hn
  by_cases e:p.1=j
  ·rw[zU e,zU e,if_neg (λz=>hk (e.trans z))]
  ·rw[zV e,zV e,ih]
theorem xpN(kvs:List (κ×V))(k j:κ)(y:V):ue (putK kvs k y) j=if j=k then some y else ue kvs j:=by
 unfold putK
 by_cases a:(kvs.any λkv=>decide (kv.1=k))=true
 ·rw[if_pos a,xkk];rw[xdS]at a
  by_cases e:j=k
  ·obtain⟨x,hx⟩:=ip.mp a;rw[if_pos e,e,hx,gu,if_pos rfl]
  ·rw[if_neg e];cases ue kvs j with
   |none=>rfl
   |some x=>rw[gu,if_neg e]
 ·rw[if_neg a];refine xjf k j y kvs ?_;rw[xdS]at a;cases q:ue kvs k with
  |none=>rfl
  |some x=>rw[q]at a;exact(a rfl).elim
def xc6(kvs:List (κ×V))(k:κ)(v:V):(putK kvs k v).length<=kvs.length+1:=by
 unfold putK
 split
 ·rw[ag];lia
 ·rw[aC,bD,fq];lia
theorem vk.isSome_eq{u:Option Value}(r:vk o u):o.isSome=u.isSome:=by
 cases o with
 |none=>cases u with
  |none=>rfl
  |some _=>exact(show False from r).elim
 |some _=>cases u with
  |none=>exact(show False from r).elim
  |some _=>rfl
theorem KV.val{kvs:List (κ×V)}{vs:List (κ×Value)}(r:KV kvs vs)(k:κ):vk (ue kvs k) (ie vs k):=by
 unfold KV at r
 induction r with
 |nil=>exact cJ
 | @cons p q ps qs h t ih=>
  obtain⟨h1,h2⟩:=h
  by_cases e:p.1=k
  ·have e':q.1=k:=h1.symm.trans e;have b:ie (q::qs) k=some q.2:=by simp[ie,cM,e']
   rw[zU e,b];exact h2
  ·have e':¬q.1=k:=λz=>e (h1.trans z);have b:ie (q::qs) k=ie qs k:=by simp[ie,cM,e']
   rw[zV e,b];exact ih
theorem KV.any{kvs:List (κ×V)}{vs:List (κ×Value)}(r:KV kvs vs)(k:κ):(kvs.any λkv=>decide (kv.1=k))=vs.any λkv=>decide (kv.1=k):=by
 unfold KV at r
 induction r with
 |nil=>rfl
 |cons h t ih=>rw[kh,kh,ih,h.1]
theorem KV.repl{kvs:List (κ×V)}{vs:List (κ×Value)}(r:KV kvs vs)(k:κ)(ry:RelV y u):
  KV (kvs.map λkv=>if kv.1=k then(kv.1,y)else kv) (vs.map λkv=>if kv.1=k then(kv.1,u)else kv):=by
 unfold KV at r⊢
 induction r with
 |nil=>exact .nil
 | @cons p q ps qs h t ih=>
  rw[bO,bO];refine .cons ?_ ih;obtain⟨h1,h2⟩:=h
  by_cases e:p.1=k
  ·rw[if_pos e,if_pos (h1.symm.trans e)];exact⟨h1,ry⟩
  ·rw[if_neg e,if_neg (λz=>e (h1.trans z))];exact⟨h1,h2⟩
def KV.put{kvs:List (κ×V)}{vs:List (κ×Value)}(r:KV kvs vs)(k:κ)(ry:RelV y u):KV (putK kvs k y) (stored vs k u):=by
 unfold putK stored;rw[r.any k]
 by_cases e:(vs.any λkv=>decide (kv.1=k))=true
 ·rw[if_pos e,if_pos e];exact r.repl k ry
 ·rw[if_neg e,if_neg e];exact Paired.snoc r ⟨rfl,ry⟩
def KV.length{kvs:List (κ×V)}{vs:List (κ×Value)}(r:KV kvs vs):kvs.length=vs.length:=Paired.length r
end
theorem xfJ{k:Key}(r:RelV (kV k) u):(zf P w).is k u=true:=by
 cases k with
 |inl i=>obtain⟨t,e⟩:=(show∃t,u=gI i t from r);subst e;exact xlF P w i t
 |inr x=>obtain⟨t,e⟩:=(show∃t,u=gJ x t from r);subst e;exact xlG P w x t
theorem xjg{P:aH}{w:World}:∀{ks:List Key} {us:List Value},Vals (ks.map kV) us->ItemsAre (zf P w) ks us
 |[],_,r=>by rw[iu]at r;cases r;exact .nil
 |k::ks,_,r=>by
  rw[bO]at r;cases r with
  |cons h t=>exact .cons (xfJ h) (xjg t)
abbrev KT(H:Hp):List (List Key×V)->List (List Key×Addr×Value)->Prop:=Paired λp q=>p.1=q.1/\H q.2.1=some (.tup (p.1.map kV))/\RelV p.2 q.2.2
theorem KT.val{kvs:List (List Key×V)}{xs:List (List Key×Addr×Value)}(r:KT H kvs xs)(k:List Key):vk (ue kvs k) ((atKey xs k).map (·.2)):=by
 induction r with
 |nil=>exact cJ
 | @cons p q ps qs h t ih=>
  obtain⟨h1,_,h2⟩:=h
  by_cases e:p.1=k
  ·have e':q.1=k:=h1.symm.trans e;have b:atKey (q::qs) k=some q.2:=by simp[atKey,cM,e']
   rw[zU e,b];exact h2
  ·have e':¬q.1=k:=λz=>e (h1.trans z);have b:atKey (q::qs) k=atKey qs k:=by simp[atKey,cM,e']
   rw[zV e,b];exact ih
theorem KT.repl{kvs:List (List Key×V)}{xs:List (List Key×Addr×Value)}(r:KT H kvs xs)(k:List Key)(ry:RelV y u):
  KT H (kvs.map λkv=>if kv.1=k then(kv.1,y)else kv) (xs.map (putAt k u)):=by
 induction r with
 |nil=>exact .nil
 | @cons p q ps qs h t ih=>
  rw[bO,bO];refine .cons ?_ ih;obtain⟨h1,h2,h3⟩:=h;unfold putAt
  by_cases e:p.1=k
  ·rw[if_pos e,if_pos (h1.symm.trans e)];exact⟨h1,h2,ry⟩
  ·rw[if_neg e,if_neg (λz=>e (h1.trans z))];exact⟨h1,h2,h3⟩
def KT.put{kvs:List (List Key×V)}{xs:List (List Key×Addr×Value)}(r:KT H kvs xs)(k:List Key){b:Addr}(hb:H b=some (.tup (k.map kV)))(ry:RelV y u):
  KT H (putK kvs k y) (storedH xs k b u):=by
 have e:(kvs.any λkv=>decide (kv.1=k))=(atKey xs k).isSome:=by
  rw[xdS,(r.val k).isSome_eq,gY]
 unfold putK storedH;rw[e]
 by_cases q:(atKey xs k).isSome=true
 ·rw[if_pos q,if_pos q];exact r.repl k ry
 ·rw[if_neg q,if_neg q];exact Paired.snoc r ⟨rfl,hb,ry⟩
def KT.keeps{kvs:List (List Key×V)}{xs:List (List Key×Addr×Value)}(r:KT H kvs xs)(ht:∀b ys,H b=some (.tup ys)->H' b=some (.tup ys)):KT H' kvs xs:=
 Paired.mapP r λ_ _ z=>⟨z.1,ht _ _ z.2.1,z.2.2⟩
section
variable {h:Heap}
def xqL{u:HO}(ok:HOk P w H h)(e:Rd H a u):yl P w H h a u:=e.ok ok
def xgX(ok:HOk P w H h)(e:Rd H a (.dK kvs)):kvs.length<=aU/\(a==d5)=false/\∃vs,KV kvs vs/\h.DictOf (zf P w) a vs:=
 show yl P w H h a (.dK kvs)from xqL ok e
def xqM(ok:HOk P w H h)(e:H a=some (.dK kvs)):kvs.length<=aU/\(a==d5)=false/\∃vs,KV kvs vs/\h.DictOf (zf P w) a vs:=xgX ok (.inl e)
def xeU{ks:List Key}(ok:HOk P w H h)(e:H a=some (.tup (ks.map kV))):(iK (zf P w)).is h ks a:=by
 obtain⟨_,its,r,o,h1,h2,n,h3⟩:=(show yl P w H h a (.tup (ks.map kV))from ok a _ e);exact⟨o,its.toArray,n,h1,h2,h3,by simpa using xjg r⟩
theorem xgY{kvs:List (List Key×V)}(ok:HOk P w H h)(e:Rd H a (.dT kvs)):kvs.length<=aU/\(a==d5)=false/\
  ∃xs,KT H kvs xs/\h.DictOfH (iK (zf P w)) a xs:=by
 obtain⟨z,y,xs,r,o,es,ep,h1,h2,h3,h4,h5⟩:=(show yl P w H h a (.dT kvs)from xqL ok e);refine⟨z,y,xs,r,o,es,ep,h1,h2,h3,h4,λx hx=>?_,h5⟩;have all:∀{l:List (List Key×V)} {m:List (List Key×Addr×Value)},KT H l m->∀x∈m,(iK (zf P w)).is h x.1 x.2.1:=by
  intro l m q
  induction q with
  |nil=>intro x hx;exact nomatch hx
  | @cons p q ps qs hq t ih=>
   intro x hx;rcases av.mp hx with e|hx
   ·subst e;exact xeU ok (by rw[<-hq.1];exact hq.2.1)
   ·exact ih x hx
 exact all r x hx
def xtp{kvs:List (List Key×V)}(ok:HOk P w H h)(e:H a=some (.dT kvs)):kvs.length<=aU/\(a==d5)=false/\
  ∃xs,KT H kvs xs/\h.DictOfH (iK (zf P w)) a xs:=xgY ok (.inl e)
end
def vM(H:Hp)(a:Addr)(y:V)(r:Option V):Prop:=
 (∃kvs k,Rd H a (.dK kvs)/\y=kV k/\r=ue kvs k)\/∃kvs k b,Rd H a (.dT kvs)/\y= .ref b/\H b=some (.tup (k.map kV))/\r=ue kvs k
def xeV(H:Hp)(a:Addr)(y v:V)(H':Hp):Prop:=
 (∃kvs k,H a=some (.dK kvs)/\y=kV k/\kvs.length<aU/\H'=upd H a (.dK (putK kvs k v)))\/
 ∃kvs k b,H a=some (.dT kvs)/\y= .ref b/\H b=some (.tup (k.map kV))/\kvs.length<aU/\H'=upd H a (.dT (putK kvs k v))
theorem vM.k{k:Key}(e:H a=some (.dK kvs)):vM H a (kV k) (ue kvs k):=.inl ⟨kvs,k,.inl e,rfl,rfl⟩
theorem xeV.k{k:Key}{v:V}(e:H a=some (.dK kvs))(hl:kvs.length<aU):xeV H a (kV k) v (upd H a (.dK (putK kvs k v))):=.inl ⟨kvs,k,e,rfl,hl,rfl⟩
section
variable {v:V} {r:Value}
def Inv.big(I:Inv X pins σ H s):d5<s.heap.objs.size:=by
 have h:br<s.heap.objs.size:=(I.mod.glob.keeps I.bk).lt;exact Nat.lt_trans (by decide) h
def xoo(hu:A.units+1<cLine)(I:Inv X pins σ H s)(g:vM H a y (some v))(ry:RelV y u)(h:∀w' s',Inv X pins σ H s'->RelV v w'->Q w' s'):
  wpAny (model X.prog X.w) A (iX (.ref a) u) Q E s:=by
 rcases g with⟨kvs,k,e,ey,l⟩|⟨kvs,k,b,e,ey,eb,l⟩
 ·subst ey;obtain⟨z,hd,vs,rel,dd⟩:=xgX I.hok e;obtain⟨w',hw,kP⟩:=vk.some_of (v:=v) (o:=ie vs k) (by rw[l];exact rel.val k);exact wpAny_getItem_of (xfJ ry) dd.mapOf hw (h w' _ (I.tok _) kP)
 ·subst ey;cases (show u=aG b from ry);obtain⟨z,hd,xs,rel,dd⟩:=xgY I.hok e;obtain⟨w',hw,kP⟩:=vk.some_of (v:=v) (o:=(atKey xs k).map (·.2)) (by rw[l];exact rel.val k);obtain⟨p,hp,kQ⟩:=aO.mp hw;refine wpAny_getItem_heap (fE hu) (xeU I.hok eb) dd hp ?_;rw[kQ];exact h w' _ (I.tok _) kP
def xt7(hu:A.units+1<cLine)(I:Inv X pins σ H s)(g:vM H a y o)(ry:RelV y u)(h:∀s',Inv X pins σ H s'->Q (.bool o.isSome) s'):
  wpAny (model X.prog X.w) A (bF .In u (.ref a)) Q E s:=by
 rcases g with⟨kvs,k,e,ey,l⟩|⟨kvs,k,b,e,ey,eb,l⟩
 ·subst ey;obtain⟨z,hd,vs,rel,dd⟩:=xgX I.hok e;refine wpAny_in_of (xfJ ry) hd dd.mapOf ?_;rw[<-(rel.val k).isSome_eq,<-l];exact h _ (I.tok _)
 ·subst ey;cases (show u=aG b from ry);obtain⟨z,hd,xs,rel,dd⟩:=xgY I.hok e;refine wpAny_in_heap (fE hu) (xeU I.hok eb) hd dd ?_;have q:=(rel.val k).isSome_eq;rw[gY]at q;rw[<-q,<-l];exact h _ (I.tok _)
def xq9(hu:A.units+1<cLine)(I:Inv X pins σ H s)(g:vM H a y o)(ry:RelV y u)(h:∀s',Inv X pins σ H s'->Q (.bool (!o.isSome)) s'):
  wpAny (model X.prog X.w) A (bF .NotIn u (.ref a)) Q E s:=by
 rcases g with⟨kvs,k,e,ey,l⟩|⟨kvs,k,b,e,ey,eb,l⟩
 ·subst ey;obtain⟨z,hd,vs,rel,dd⟩:=xgX I.hok e;refine wpAny_notIn_of (xfJ ry) hd dd.mapOf ?_;rw[<-(rel.val k).isSome_eq,<-l];exact h _ (I.tok _)
 ·subst ey;cases (show u=aG b from ry);obtain⟨z,hd,xs,rel,dd⟩:=xgY I.hok e;refine wpAny_notIn_heap (fE hu) (xeU I.hok eb) hd dd ?_;have q:=(rel.val k).isSome_eq;rw[gY]at q;rw[<-q,<-l];exact h _ (I.tok _)
def xh8{h':Heap}{ob:HO}(I:Inv X pins σ H s)(mu:Mut (H a))(hs:fB a s.heap h')(he:∃q,h'.get? a=some q)(new:yl X.prog X.w (upd H a ob) h' a ob):
  Inv X pins σ (upd H a ob) {s with heap:=h',toks:=t'}:=
 I.write (x:=a) (e:=a) mu (.inl rfl) (λb q hb z=>(hs.2 b hb).trans z) he new
def xop{h':Heap}{vs:List (Key×Value)}(z:kvs.length<=aU)(hd:(a==d5)=false)(rel:KV kvs vs)(dd:h'.DictOf (zf P w) a vs):
  yl P w H' h' a (.dK kvs):=⟨z,hd,vs,rel,dd⟩
def xjh{Q:Unit->ak->Prop}(hu:A.units+1<cLine)(I:Inv X pins σ H s)(g:xeV H a y v H')(ry:RelV y u)(rv:RelV v r)(h:∀s',Inv X pins σ H' s'->Q () s'):
  wpAny (model X.prog X.w) A (setItem (.ref a) u r) Q E s:=by
 rcases g with⟨kvs,k,e,ey,l,eH⟩|⟨kvs,k,b,e,ey,eb,l,eH⟩
 ·subst ey eH;obtain⟨z,hd,vs,rel,dd⟩:=xqM I.hok e;have hz:vs.length<=aU:=by rw[<-rel.length];exact z
  have hl:(putK kvs k v).length<=aU:=by have:=xc6 kvs k v;lia
  refine wpAny_setItem_pairs (hsz:=hz) (xfJ ry) dd λh' kP hs=>h _ ?_;have he:∃q,h'.get? a=some q:=let⟨q,_,_,hq,_⟩:=kP;⟨q,hq⟩
  exact xh8 I (by rw[e];exact cJ) hs he (xop hl hd (rel.put k rv) kP)
 ·subst ey eH;cases (show u=aG b from ry);obtain⟨z,hd,xs,rel,dd⟩:=xtp I.hok e;have hz:xs.length<=aU:=by rw[<-Paired.length rel];exact z
  have hl:(putK kvs k v).length<=aU:=by have:=xc6 kvs k v;lia
  refine wpAny_setItem_heap (hsz:=hz) (fE hu) (xeU I.hok eb) dd λh' kP hs=>h _ ?_;obtain⟨q,es,ep,hq,h2,h3,h4,_,h5⟩:=kP;refine xh8 I (by rw[e];exact cJ) hs ⟨q,hq⟩ ⟨hl,hd,_,(rel.put k eb rv).keeps λc ys ec=>?_,q,es,ep,hq,h2,h3,h4,h5⟩;rw[xm (xcO ec e (λz=>nomatch z))];exact ec
end
section
variable {k:Key}
end
def xsz(i:Expr):Prop:=∀ov iv,iR i false ov iv=operate [ov,iv] (iX ov iv)
theorem xra{prog:aH}{env:Env}{value slice:Expr}{id:String}
  (hl:j0 (.type T) "__getitem__"=pure (some (.builtin id))) (hs:xsz slice)
  (h:wpAny (model prog w) A (eval value env) (λo s₁=>wpAny (model prog w) A (eval slice env) (λi s₂=>s₂.TypeIs o T/\wpAny (model prog w) A (iX o i) Q E s₂) E s₁) E s):
  wpAny (model prog w) A (eval (.Subscript value slice pos) env) Q E s:=by
 refine Subscript_ (aN h (λo s₁ h₁=>aN h₁ (λi s₂ h₂=>?_) λ_ _ x=>x) λ_ _ x=>x);obtain⟨hT,h₂⟩:=h₂;unfold kg;refine af ?_;rw[getitemInPython_of_ne hT.not_modules];refine af (wpAny_specialOf hT hl ?_);have fin:wpAny (model prog w) A (iR slice false o i) (λr s₃=>wpAny (model prog w) A (letTemporaryGo value o r >>= λ_=>pure r) Q E s₃) E s₂:=by
  rw[hs o i];exact wpAny_operating (aN h₂ (λr s₃ h₃=>af (wpAny_letTemporaryGo (aA h₃))) λ_ _ x=>x)
 first
  |exact aA (af fin)
  |exact af (aA (af fin))
  |exact af fin
def xlI(I:Inv X pins σ H s)(g:vM H a y o):s.TypeIs (.ref a) "dict":=by
 rcases g with⟨kvs,k,e,_,_⟩|⟨kvs,k,b,e,_,_,_⟩
 ·obtain⟨_,_,vs,_,dd⟩:=xgX I.hok e;exact dd.typeIs
 ·obtain⟨_,_,xs,_,dd⟩:=xgY I.hok e;exact dd.typeIs
def xtq(td ty:TE):TE:=λσ H Q=>td σ H λx H1=>ty σ H1 λy H2=>Ex2 λa v=>x= .ref a/\vM H2 a y (some v)/\Q v H2
def xt8(ty td:TE):TE:=λσ H Q=>ty σ H λy H1=>td σ H1 λx H2=>Ex2 λa o=>x= .ref a/\vM H2 a y o/\Q (.bl o.isSome) H2
def xrb(ty td:TE):TE:=λσ H Q=>ty σ H λy H1=>td σ H1 λx H2=>Ex2 λa o=>x= .ref a/\vM H2 a y o/\Q (.bl (!o.isSome)) H2
def xtr(td ty tv:TE):TS:=λD σ H=>tv σ H λv H1=>td σ H1 λx H2=>ty σ H2 λy H3=>Ex2 λa H4=>x= .ref a/\xeV H3 a y v H4/\D.nx σ H4
section
variable {o i value:Expr} {pos' tpos:Pos} {td ty tv:TE}
def xdv(hu:X.A.units+1<cLine)(ho:PE X o td)(hi:PE X i ty)(hs:xsz i):PE X (.Subscript o i pos) (xtq td ty):=by
 intro pins s σ H Q I h;refine xra PySem.F.slot_dict_getitem.lookup hs (yg (ho pins s σ H _ I h) λu s1 x H1 I1 rx q1=>yg (hi pins s1 σ H1 _ I1 q1) λiv s2 y H2 I2 ry ⟨a,v,ex,g,q2⟩=>?_);subst ex;obtain rfl:u=aG a:=rx;exact⟨xlI I2 g,xoo hu I2 g ry λw' s3 I3 kP=>⟨v,H2,I3,kP,q2⟩⟩
def xoq(hu:X.A.units+1<cLine)(hi:PE X i ty)(ho:PE X o td):PC X .In i o (xt8 ty td):=by
 intro pins s σ H Q I h;refine yg (hi pins s σ H _ I h) λiv s1 y H1 I1 ry q1=>yg (ho pins s1 σ H1 _ I1 q1) λu s2 x H2 I2 rx ⟨a,ov,ex,g,q2⟩=>?_;subst ex;obtain rfl:u=aG a:=rx;exact xt7 hu I2 g ry λs3 I3=>⟨.bl ov.isSome,H2,I3,rfl,q2⟩
def xos(hu:X.A.units+1<cLine)(hi:PE X i ty)(ho:PE X o td):PC X .NotIn i o (xrb ty td):=by
 intro pins s σ H Q I h;refine yg (hi pins s σ H _ I h) λiv s1 y H1 I1 ry q1=>yg (ho pins s1 σ H1 _ I1 q1) λu s2 x H2 I2 rx ⟨a,ov,ex,g,q2⟩=>?_;subst ex;obtain rfl:u=aG a:=rx;exact xq9 hu I2 g ry λs3 I3=>⟨.bl (!ov.isSome),H2,I3,rfl,q2⟩
def xh9(hu:X.A.units+1<cLine)(ho:PE X o td)(hi:PE X i ty)(hv:PE X value tv)(hs:eO value (some (.Subscript o i pos')) pos.line X.env=pure false):
  PS X (.Assign [.Subscript o i pos'] value pos) (xtr td ty tv):=by
 intro pins s σ H D I h;refine wpAny_Assign_Subscript (yg (hv pins s σ H _ I h) λr s1 v H1 I1 rv q1=>yg (ho pins s1 σ H1 _ I1 q1) λu s2 x H2 I2 rx q2=>yg (hi pins s2 σ H2 _ I2 q2) λiv s3 y H3 I3 ry ⟨a,H4,ex,g,q3⟩=>?_) hs;subst ex;obtain rfl:u=aG a:=rx;exact xjh hu I3 g ry rv λs4 I4=>⟨σ,H4,I4,q3⟩
end
def xkl(h:Heap)(hb:d5<h.objs.size):yl P w H (h.push {cls:=.type "dict",data:=.dict #[]}) h.objs.size (.dK []):=
 ⟨bL _,beq_eq_false_iff_ne.mpr (au (aQ hb)),[],.nil,Heap.DictOf.new h⟩
def xsA:TE:=λ_ H Q=>∀p,H p=none->Q (.ref p) (upd H p (.dK []))
def xgl:PE X (.Dict [] [] pos) xsA:=λpins s σ H Q I h=>
 wpAny_Dict_empty ⟨.ref s.heap.objs.size,_,I.laid (a:=s.heap.objs.size) (o:=.dK []) (t':=s.toks) (λ_ _ q=>ai _ q) (ay _) (xkl s.heap I.big),rfl,h _ (I.hok.fresh (ay _))⟩
def xkm:List (TE×TE)->St->Hp->(List (V×V)->Hp->Prop)->Prop
 |[],_,H,Q=>Q [] H
 |(tk,tv)::r,σ,H,Q=>tk σ H λx H1=>tv σ H1 λy H2=>xkm r σ H2 λps H3=>Q ((x,y)::ps) H3
abbrev VV:List (V×V)->List (Value×Value)->Prop:=Paired λp q=>RelV p.1 q.1/\RelV p.2 q.2
def PPs(X:Cx)(pos:Pos)(keys:List (Option Expr))(values:List Expr)(kP:List (TE×TE)):Prop:=
 ∀(pins:List (Addr×Obj)) (s:ak) (σ:St) (H:Hp) (Q:List (V×V)->Hp->Prop),Inv X pins σ H s->xkm kP σ H Q->
  wpAny (model X.prog X.w) X.A (evalPairs (pairTrees keys values X.env pos)) (λvs s'=>∃ps H',Inv X pins σ H' s'/\VV ps vs/\Q ps H') X.xe s
def xrc:PPs X pos [] [] []:=λpins s σ H Q I h=>pairTrees_nil_walk ⟨[],H,I,.nil,h⟩
def xkn{k v:Expr}{ks:List (Option Expr)}{vs:List Expr}{tk tv:TE}{kP:List (TE×TE)}(hk:PE X k tk)(hv:PE X v tv)(hr:PPs X pos ks vs kP):
  PPs X pos (some k::ks) (v::vs) ((tk,tv)::kP):=λpins s σ H Q I h=>
 pairTrees_cons_walk (yg (hk pins s σ H _ I h) λu s1 x H1 I1 rx q1=>thn (hv pins s1 σ H1 _ I1 q1) λw2 s2 ⟨y,H2,I2,ry,q2⟩=>
  thn (hr pins s2 σ H2 _ I2 q2) λws s3 ⟨ps,H3,I3,rel,q3⟩=>⟨(x,y)::ps,H3,I3,.cons ⟨rx,ry⟩ rel,q3⟩)
def xdw(kvs more:List (Key×V)):List (Key×V):=more.foldl (λacc kv=>putK acc kv.1 kv.2) kvs
theorem KV.merge:∀{more:List (Key×V)} {rs:List (Key×Value)} {kvs:List (Key×V)} {vs:List (Key×Value)},KV more rs->KV kvs vs->KV (xdw kvs more) (merged vs rs):=by
 intro more rs kvs vs r;unfold KV at r
 induction r generalizing kvs vs with
 |nil=>intro q;exact q
 | @cons p q ps qs h t ih=>
  intro r0;have e:KV (putK kvs p.1 p.2) (stored vs q.1 q.2):=by
   have:=r0.put p.1 h.2;rw[<-h.1];exact this
  exact ih e
theorem xeu:∀(more kvs:List (Key×V)),(xdw kvs more).length<=kvs.length+more.length
 |[],kvs=>by show kvs.length<=kvs.length+0;lia
 |p::r,kvs=>by
  have h1:=xeu r (putK kvs p.1 p.2);have h2:=xc6 kvs p.1 p.2;show(xdw (putK kvs p.1 p.2) r).length<=_;rw[bD];lia
theorem xgZ{P:aH}{w:World}:∀{kvs:List (Key×V)} {ws:List (Value×Value)},VV (kvs.map λkv=>(kV kv.1,kv.2)) ws->∃rs,Carries (zf P w) ws rs/\KV kvs rs
 |[],_,r=>by rw[iu]at r;cases r;exact⟨[],cJ,.nil⟩
 |p::kvs,_,r=>by
  rw[bO]at r;cases r with
  | @cons a b as bs h t=>
   obtain⟨rs,c,q⟩:=xgZ (P:=P) (w:=w) t;obtain⟨b1,b2⟩:=b;exact⟨(p.1,b2)::rs,⟨xfJ h.1,rfl,c⟩,.cons ⟨rfl,h.2⟩ q⟩
def xts(kP:List (TE×TE)):TE:=λσ H Q=>∀p,H p=none->xkm kP σ (upd H p (.dK [])) λps H2=>H2 p=some (.dK [])/\∃kvs:List (Key×V),ps=kvs.map (λkv=>(kV kv.1,kv.2))/\kvs.length<=15/\Q (.ref p) (upd H2 p (.dK (xdw [] kvs)))
def xrd{keys:List (Option Expr)}{values:List Expr}{kQ:List (TE×TE)}(h:PPs X pos keys values kQ)(kP:keys.all (·.isSome)=true)(hl:keys.length=values.length)(h0:keys≠[])
  (kS:keys.length<=15):PE X (.Dict keys values pos) (xts kQ):=by
 intro pins s σ H Q I q;have hn:=I.hok.fresh (ay s.heap.objs.size);have I1:=I.laid (a:=s.heap.objs.size) (o:=.dK []) (h':=s.heap.push {cls:=.type "dict",data:=.dict #[]}) (t':=s.toks) (λ_ _ q=>ai _ q) (ay _) (xkl s.heap I.big);refine wpAny_Dict_walk (knd:=zf X.prog X.w) kP hl h0 kS (thn (h pins _ σ _ _ I1 (q _ hn)) λws s2 ⟨ps,H2,I2,rel,e,kvs,ep,lk,q2⟩=>?_);subst ep;obtain⟨rs,c,rk⟩:=xgZ (P:=X.prog) (w:=X.w) rel;obtain⟨z,hd,kT,r0,dd⟩:=xqM I2.hok e;cases r0;refine⟨rs,c,dd,λh' kR hs=>⟨.ref s.heap.objs.size,_,?_,rfl,q2⟩⟩;have hz:(xdw [] kvs).length<=aU:=by
  have h1:=xeu kvs [];rw[fq]at h1;rw[aZ];lia
 have he:∃q,h'.get? s.heap.objs.size=some q:=let⟨q,_,_,hq,_⟩:=kR;⟨q,hq⟩
 exact xh8 I2 (by rw[e];exact cJ) hs he (xop hz hd (rk.merge .nil) kR)
section
variable {d:V} {r:Value}
end
section
variable {o f:Expr} {apos cpos:Pos} {td ty tx:TE}
end
end Internal.L2
namespace Att
open PySem PySem.W PySem.Calls PyProof.Rows
theorem xg0{P:Params}{h:Heap}:∀(ns:List Int) (vs:List Value),WellAll P h vs (ns.map WData.int)->iW vs ns:=by
 intro ns
 induction ns with
 |nil=>
  intro vs w;rw[iu]at w;cases w;exact .nil
 |cons n ns ih=>
  intro vs w;rw[bO]at w;cases w with
  |cons a b=>
   cases a;exact .cons _ _ (ih _ b)
theorem xot{l:OpenLaw}{n:Nat}(hn:l.most=some n){P:Params}{h:Heap}{args:List WData}{vals:List Value}
  (kP:l.row.toRowW.claim.pre args=true) (kR:WellAll P h vals args):
  ∃a vs ns,vals=[aG a]/\args=[WData.list (ns.map WData.int)]/\h.get? a=some {cls:=.type "list",data:=.seq vs.toArray}/\iW vs ns/\ns.length<=n:=by
 have kS:WShape.hasAll [] args [.list .int]=true:=(pre_splitW kP).1;have hc:l.pre.holds [] {args:=args}=true:=(pre_splitW kP).2;obtain⟨d,r,rfl,h1,h2⟩:=hasAllW_cons kS;obtain rfl:=hasAllW_nil h2;obtain⟨xs,rfl,h3⟩:=hasW_list h1;obtain⟨ns,rfl⟩:=items_int h3;have hlen:ns.length<=n:=by
  unfold OpenLaw.pre at hc;have h4:(WTm.not (.lt (.lit (.int (n:Int))) (.len (.arg 0)))).holds [] {args:=[.list (ns.map .int)]}=true:=by
   have h4:=(holds_andW hc).1;rw[hn]at h4;exact h4
  have h5:=condW_of h4 (w_not (w_lt w_lit (w_len_list (w_arg rfl))));rw[ag]at h5;refine Nat.le_of_not_lt λq=>?_;have q':(n:Int)<((ns.length:Nat):Int):=by omega
  first
   |(rw[decide_eq_true q']at h5;exact absurd h5 (by decide))
   |(simp at h5;omega)
 cases kR with
 |cons w1 w2=>
  cases w2;cases w1 with
  |list ho kQ=>exact⟨_,_,ns,rfl,rfl,ho,xg0 ns _ kQ,hlen⟩
def xou(l:OpenLaw)(args:List WData):l.row.toRowW.claim.post args (.bool true) args=true:=
 postW_of (r:=l.row.toRowW) (X:=(true==true))
  (show WShape.has [] (.bool true) .bool=true by first|rfl|decide|simp[WShape.has,WShape.arms,WShape.armsAll])
  (show(WTm.eq .res (.lit (.bool true))).value [] {args:=args,res:=some (.bool true),after:=args}=some (.bool (true==true))from w_eq_bool (w_res rfl) w_lit) rfl
def xlJ{l:OpenLaw}{n:Nat}{q:aH}{loose:List Str}{XP:(Str->Option Value)->Heap->Prop}{YP:World->Heap->Prop}{d:DefRec}
  (hn:l.most=some n) (kW:d.params.defaults=[])
  (call:∀(w:World) (s₀ s₁:ak) (mg mb:Str->Option Value) (fa:Addr) (o:Obj) (pm cd doc:Value) (a:Addr) (vs:List Value) (ns:List Int),
   Ground q loose [] XP w s₀ mg mb s₁.heap->YP w s₁.heap->
   s₁.heap.get? fa=some o->o.data= .func (docDef d.name d.params d.body d.scope pm cd doc)->s₁.heap.CodeRec cd d.name->mg d.name=some (.ref fa)->
   s₁.heap.get? a=some {cls:=.type "list",data:=.seq vs.toArray}->iW vs ns->ns.length<=n->s₁.gens=#[]->
   cP (model l.prog w) ig (.call (.ref fa) ⟨[.ref a],[]⟩) (λr s'=>r= .ok (.ret (.bool true))/\OldK s₁.heap s'.heap/\s'.os=s₁.os/\fJ s'.gens) s₁):
  WalkO q loose XP YP l.row.toRowW d [] (λf vs=>PySem.call f vs):=by
 intro w s₀ s₁ mg mb G Y fa o pm cd doc dV kV ho hd kX hD kS hg args vals as kP kT kY kR kZ;obtain rfl:dV= .none:=Dflts.none hD kW;obtain rfl:kV= .none:=Dflts.noKw hD;obtain⟨a,vs,ns,rfl,rfl,kQ,hints,hlen⟩:=xot hn kP kR;refine enter_call (cE (call w s₀ s₁ mg mb fa o pm cd doc a vs ns G Y ho (fd_plain hd) kX kS kQ hints hlen hg) λr s' hq=>?_);obtain⟨rfl,h2,h3,h4⟩:=hq;exact⟨.inl ⟨.bool true,.bool true,[],rfl,λ_=>rfl,.bool true,xou l _,λ_=>⟨List.Pairwise.nil,λ_ hm=>(nomatch hm)⟩⟩,h2,h3,h4⟩
section
variable {prog:aH} {w:World} {A:bo} {E:Value->ak->Prop} {s:ak} {K:Frag}
end
end Att
namespace Internal.L2
open PySem PySem.Spec PyProof.Rows
theorem xji:∀{vs:List Value} {ns:List Int},iW vs ns->Vals (ns.map V.int) vs
 |_,_,.nil=>.nil
 |_,_,.cons n t h=>.cons ⟨t,rfl⟩ (xji h)
end Internal.L2
namespace Internal.L2
open PySem PySem.Spec PyProof.Rows
variable {H H' H₂:Hp} {X:Cx} {pos p:Pos} {x qual:Str} {σ:St} {scope:Scope} {e a tg c b iter:Expr} {Q:VK} {pins:List (Addr×Obj)} {w:World} {K:aq} {st:Stmt} {env:Env} {s₂:ak} {ta:TA} {P:aH} {f C:Addr} {t:TE} {r:R2} {i:Nat} {y:V} {cap:List Nat} {ys:List Str} {fp:List Addr} {vs:List V} {us:List Value}
def inClass(s:Stmt)(j:Nat):Stmt:=match s with
 | .ClassDef _ _ _ body _ _ _ _ _ _ _=>body.getD j (.Pass ⟨0,0,0,0⟩)
 |_=>.Pass ⟨0,0,0,0⟩
noncomputable def yh(s:Stmt):cZ:=match s with
 | .FunctionDef _ a _ _ _ _ _ _ _ _=>a
 |_=>{posonlyargs:=[],args:=[],vararg:=none,kwonlyargs:=[],kw_defaults:=[],kwarg:=none,defaults:=[]}
def xr(s:Stmt):List Stmt:=match s with
 | .FunctionDef _ _ b _ _ _ _ _ _ _=>b
 |_=>[]
noncomputable def xh(s:Stmt):Scope:=match s with
 | .FunctionDef _ _ _ _ _ _ sc _ _ _=>sc
 |_=>{kind:=.function,names:=[],isGenerator:=false,isCoroutine:=false}
abbrev CX0:CXT:=λ_ _ _ _ _ _=>False
abbrev E0:XK:=λ_ _ _=>False
def xt:Passes CX0 X E0:=λ_ _ _ _ _ _ _ h=>h.elim
structure Fun(K:aq)(x qual:Str)(st:Stmt)(f:Addr)(fd:ax):Prop where
 ex:∃(oc:Value) (od:Option Addr) (kV doc pm:Value) (an:Option Addr) (cdv ct:Value) (osl:Array (Option Value)),
  fd=cq x qual (yh st) (xr st) (xh st) .none kV doc pm an cdv ct/\K.lookup f=some ⟨oc,od,.func fd,osl⟩/\cS K cdv qual=true
 kp:cx K (.ref f)=true
section
variable {mg:Str->Option Value} {base:Heap}
def Fun.ok{fd:ax}{N ps:List Str}{k:Nat}{sp:Sp}(F:Fun K x qual st f fd)(S:xu N ps (xh st))(len:∀vs H Q E,sp vs H Q E->vs.length=ps.length)
  (kP:∀(cdv:Value) (A:bo) (outer:List Env) (s:ak) (H:Hp) (vs:List V) (Q:VK) (E:XK),ya k (A.deeper (cV qual (xh st) s.heap.objs.size f cdv))->sp vs H Q E->
   ∃t,PSs (uQ CX0 P w K mg base N qual (xh st) f cdv A outer s H E).nox (xr st) t/\t {nx:=λ_ H'=>Q .non H',rt:=Q} (start N vs) H):xE P w K mg base CX0 (k+1) f fd ps sp:=by
 obtain⟨oc,od,kV,doc,pm,an,cdv,ct,osl,rfl,lk,kR⟩:=F.ex;refine xj9 lk kR S len λA outer s H vs Q E hr kQ=>?_;obtain⟨t,h,q⟩:=kP cdv A outer s H vs Q E hr kQ;exact⟨t,h.nox,q⟩
def Fun.binds{fd:ax}{ps:List Str}(F:Fun K x qual st f fd)
  (h:∀(kV doc pm:Value) (an:Option Addr) (cdv ct:Value) (us:List Value),us.length=ps.length->dB (cq x qual (yh st) (xr st) (xh st) .none kV doc pm an cdv ct) ⟨us,[]⟩=pure (ps.zip us)):Binds K fd ps []:=by
 obtain⟨oc,od,kV,doc,pm,an,cdv,ct,osl,rfl,lk,kP⟩:=F.ex;exact .all (h kV doc pm an cdv ct)
def jz{oc:Value}{od an:Option Addr}{osl:Array (Option Value)}{kV doc pm cdv ct:Value}(l:K.lookup f=some ⟨oc,od,.func (cq x qual (yh st) (xr st) (xh st) .none kV doc pm an cdv ct),osl⟩)
  (c:cS K cdv qual=true) (k:cx K (.ref f)=true):Fun K x qual st f (cq x qual (yh st) (xr st) (xh st) .none kV doc pm an cdv ct):=⟨⟨oc,od,kV,doc,pm,an,cdv,ct,osl,rfl,l,c⟩,k⟩
end
def jb{A:bo}{k:Nat}(hr:ya k A):A.units+1<cLine:=d8 (Nat.add_le_add_left (by decide:1<=64) _) hr.units
def xj(H H':Hp):Prop:=∀b o,H b=some o->H' b=some o
def xj.refl(H:Hp):xj H H:=λ_ _ h=>h
def xj.trans{H1 H2:Hp}(a:xj H H1)(b:xj H1 H2):xj H H2:=λc o h=>b c o (a c o h)
theorem xj.free(e:xj H H'){l:Addr}(h:H' l=Option.none):H l=Option.none:=by
 cases q:H l with
 |none=>rfl
 |some o=>
  rw[e l o q]at h;cases h
def xj.seq{a:Addr}{xs:List V}(e:xj H H')(h:SqL K H a xs):SqL K H' a xs:=by
 rcases h with(h|⟨o,h⟩)|h
 ·exact .inl (.inl (e _ _ h))
 ·exact .inl (.inr ⟨o,e _ _ h⟩)
 ·exact .inr h
section
variable {κ:Type} [DecidableEq κ]
theorem xmo:∀{l:List κ} {k:κ},l.Nodup->¬k∈l->(l++[k]).Nodup
 |[],k,_,_=>by simp
 |a::r,k,h,hk=>by
  obtain⟨h1,h2⟩:=bA.mp h;show(a::(r++[k])).Nodup;refine bA.mpr ⟨λm=>?_,xmo h2 λm=>hk (av.mpr (cW m))⟩;rcases aW.mp m with q|q
  ·exact h1 q
  ·exact hk (av.mpr (az (aj.mp q).symm))
end
section
variable {X:Cx}
def PE.imp{t':TE}(h:PE X e t)(i:∀σ H Q,t' σ H Q->t σ H Q):PE X e t':=
 λpins s σ H Q I q=>h pins s σ H Q I (i σ H Q q)
def PT.imp{t t':TT}(h:PT X e t)(i:∀σ H Q,t' σ H Q->t σ H Q):PT X e t':=
 λpins s σ H Q I q=>h pins s σ H Q I (i σ H Q q)
def OpR.imp{f:Value->Value->Sem Value}{r':R2}(h:OpR X f r)(i:∀x y H Q,r' x y H Q->r x y H Q):OpR X f r':=
 λpins s σ H x y v u Q I rx ry q=>h pins s σ H x y v u Q I rx ry (i x y H Q q)
def UnR.imp{f:Value->Sem Value}{r r':V->Hp->VK->Prop}(h:UnR X f r)(i:∀x H Q,r' x H Q->r x H Q):UnR X f r':=
 λpins s σ H x v Q I rx q=>h pins s σ H x v Q I rx (i x H Q q)
def zy.imp{f:Value}{r r':List V->Hp->VK->Prop}(h:zy X f r)(i:∀xs H Q,r' xs H Q->r xs H Q):zy X f r':=
 λpins s σ H xs us Q I rv q=>h pins s σ H xs us Q I rv (i xs H Q q)
def xca{u:TE}(h:PE X e t)(k:PE X e u):PE X e (λσ H Q=>t σ H Q\/u σ H Q):=
 λpins s σ H Q I q=>q.elim (λz=>h pins s σ H Q I z) (λz=>k pins s σ H Q I z)
def uR(i:Nat):TE:=λσ H Q=>match σ[i]? with
 |some (some v)=>Q v H
 |_=>False
def xpO(q:uR i σ H Q):xsh i σ H Q:=by
 unfold uR at q
 split at q
 ·rename_i v e;exact⟨v,e,q⟩
 ·exact q.elim
def cv(i:Nat)(hN:autoParam (X.N[i]? =some x) sV)(hv:Vis X.env.scope x:=by first|exact az rfl|exact cW (az rfl)|exact cW (cW rfl))(hd:autoParam ((x==("__debug__":Str))=false) sJ)
  (kP:autoParam ((x==("__classdict__":Str))=false) sJ):PE X (.Name x pos) (uR i):=(xgP hN hv hd kP).imp λ_ _ _ q=>xpO q
def kI(C:Int->Int->Prop)(g:Int->Int->V):R2:=λx y H Q=>match x with
 | .int i=>(match y with
  | .int j=>C i j/\Q (g i j) H
  |_=>False)
 |_=>False
def kI0(g:Int->Int->V):R2:=λx y H Q=>match x with
 | .int i=>(match y with
  | .int j=>Q (g i j) H
  |_=>False)
 |_=>False
theorem xg1{C:Int->Int->Prop}{g:Int->Int->V}{x:V}(q:kI C g x y H Q):rI C g x y H Q:=by
 cases x with
 |int i=>
  cases y with
  |int j=>exact⟨i,j,rfl,rfl,q.1,q.2⟩
  |_=>exact bc q
 |_=>exact bc q
theorem jU{g:Int->Int->V}{x:V}(q:kI0 g x y H Q):rI0 g x y H Q:=by
 cases x with
 |int i=>
  cases y with
  |int j=>exact⟨i,j,rfl,rfl,q⟩
  |_=>exact bc q
 |_=>exact bc q
def ym:OpR X (c8 .Add) (kI0 λi j=>.int (i+j)):=xsm.imp λ_ _ _ _=>jU
def jc:OpR X (c8 .Sub) (kI0 λi j=>.int (i - j)):=xsn.imp λ_ _ _ _=>jU
def xfK:OpR X (c8 .Mult) (kI xm3 λi j=>.int (i*j)):=xso.imp λ_ _ _ _=>xg1
def xqN(_i j:Int):Prop:=0<j/\j.natAbs.log2<9000
def xeW:OpR X (c8 .FloorDiv) (kI xqN λi j=>.int (i / j)):=
 (opI (C:=xqN) (g:=λi j=>i / j) λi j _ _ _ _ _ hc q=>by
  have h0:0<j:=hc.1;rw[<-Int.fdiv_eq_ediv_of_nonneg i (Int.le_of_lt h0)]at q;exact floordiv_int (Int.ne_of_gt h0) q (.inl (iy hc.2))).imp λ_ _ _ _=>xg1
def yU:OpR X (c8 .Mod) (kI (λ_ j=>0<j) λi j=>.int (i%j)):=xsp.imp λ_ _ _ _=>xg1
def xdT:OpR X (c8 .Pow) (kI xsl λi j=>.int (i^j.toNat)):=xsq.imp λ_ _ _ _=>xg1
def xia:OpR X (bF .Lt) (kI0 λi j=>.bl (decide (i<j))):=xtj.imp λ_ _ _ _=>jU
def xpP:OpR X (bF .LtE) (kI0 λi j=>.bl (decide (i<=j))):=xtk.imp λ_ _ _ _=>jU
def xc7:OpR X (bF .Gt) (kI0 λi j=>.bl (decide (j<i))):=xtl.imp λ_ _ _ _=>jU
def xpQ:OpR X (bF .GtE) (kI0 λi j=>.bl (decide (j<=i))):=xtm.imp λ_ _ _ _=>jU
def xka{a b:V}{p:Prop}[Decidable p](h:a=b↔p):decide (a=b)=decide p:=by
 by_cases e:p
 ·rw[decide_eq_true e,decide_eq_true (h.mpr e)]
 ·rw[decide_eq_false e,decide_eq_false (λq=>e (h.mp q))]
def xa5:OpR X (bF .Eq) (kI0 λi j=>.bl (decide (i=j))):=xqI.imp λx y H Q q=>by
 obtain⟨i,j,rfl,rfl,q⟩:=jU q;exact⟨rfl,by rw[xka (p:=i=j) ⟨λe=>V.int.inj e,λe=>by rw[e]⟩];exact q⟩
def xbS:OpR X (bF .NotEq) (kI0 λi j=>.bl (!decide (i=j))):=xqJ.imp λx y H Q q=>by
 obtain⟨i,j,rfl,rfl,q⟩:=jU q;exact⟨rfl,by rw[xka (p:=i=j) ⟨λe=>V.int.inj e,λe=>by rw[e]⟩];exact q⟩
def kS0(g:Str->Str->V):R2:=λx y H Q=>match x with
 | .str i=>(match y with
  | .str j=>Q (g i j) H
  |_=>False)
 |_=>False
theorem xmp{g:Str->Str->V}{x:V}(q:kS0 g x y H Q):∃i j,x= .str i/\y= .str j/\Q (g i j) H:=by
 cases x with
 |str i=>
  cases y with
  |str j=>exact⟨i,j,rfl,rfl,q⟩
  |_=>exact bc q
 |_=>exact bc q
def xbT:OpR X (bF .Eq) (kS0 λi j=>.bl (decide (i=j))):=xqI.imp λx y H Q q=>by
 obtain⟨i,j,rfl,rfl,q⟩:=xmp q;exact⟨rfl,by rw[xka (p:=i=j) ⟨λe=>V.str.inj e,λe=>by rw[e]⟩];exact q⟩
def xdU:OpR X (bF .NotEq) (kS0 λi j=>.bl (!decide (i=j))):=xqJ.imp λx y H Q q=>by
 obtain⟨i,j,rfl,rfl,q⟩:=xmp q;exact⟨rfl,by rw[xka (p:=i=j) ⟨λe=>V.str.inj e,λe=>by rw[e]⟩];exact q⟩
def kU(g:Int->V):V->Hp->VK->Prop:=λx H Q=>match x with
 | .int i=>Q (g i) H
 |_=>False
theorem xqO:UnR X (unaryOp .USub) (kU λi=>.int (-i)):=xsr.imp λx H Q q=>by
 cases x with
 |int i=>exact⟨i,rfl,q⟩
 |_=>exact bc q
def xg2(Q:Bool->Hp->Prop):VK:=λx H1=>match x with
 | .bl k=>Q k H1
 |_=>False
theorem xaP{Q:Bool->Hp->Prop}{x:V}{H1:Hp}(q:xg2 Q x H1):∃k,x= .bl k/\Q k H1:=by
 cases x with
 |bl k=>exact⟨k,rfl,q⟩
 |_=>exact bc q
def cB(t:TE):TT:=λσ H Q=>t σ H (xg2 Q)
variable {a b c:Expr} {ta tb tc:TE} {tA tB':TT} {pos:Pos} {rest:List Expr}
def xN{op:CmpOp}(ho:OpR X (bF op) r)(ha:PE X a ta)(hb:PE X b tb)(hm:autoParam (cR op b=false) tZ):PT X (.Compare a [op] [b] pos) (cB (tOp r ta tb)):=by
 intro pins s σ H Q I h;refine gd (yg (ha pins s σ H _ I h) λv s1 x H1 I1 r1 q1=>thn (hb pins s1 σ H1 _ I1 q1) λu s2 ⟨y,H2,I2,r2,q2⟩=>
  yg (ho pins s2 σ H2 x y v u _ I2 r1 r2 q2) λc s3 z H3 I3 r3 q3=>?_) hm
 obtain⟨k,rfl,q⟩:=xaP q3;cases r3;exact cA ⟨H3,I3,q⟩
def zb{op:CmpOp}(ho:OpR X (bF op) r)(ha:PE X a ta)(hb:PE X b tb)(hm:autoParam (cR op b=false) tZ):PE X (.Compare a [op] [b] pos) (tOp r ta tb):=xq3 ho ha hb hm
def ur(h:PE X e t)(he:autoParam (∀whole,isTrue e X.env whole=(do let v <-whole;ic e.pos;fK [v] (truthy v))) sY):PT X e (cB t):=by
 intro pins s σ H Q I hw;refine isTrue_plain (yg (h pins s σ H _ I hw) λv s1 x H1 I1 r1 q1=>?_) (he _);obtain⟨d,rfl,q⟩:=xaP q1;cases r1;exact cA ⟨H1,I1,q⟩
def xt9(t u:TT):TT:=λσ H Q=>t σ H λc H1=>(c=true->u σ H1 Q)/\(c=false->Q false H1)
def cOr(t u:TT):TT:=λσ H Q=>t σ H λc H1=>(c=true->Q true H1)/\(c=false->u σ H1 Q)
theorem xg3(ha:PT X a tA)(hb:PW X (.BoolOp .And (b::rest) pos) tB'):PW X (.BoolOp .And (a::b::rest) pos) (xt9 tA tB'):=by
 intro wh pins s σ H Q I h;refine isTrue_and (xpB (ha pins s σ H _ I h) λc s1 H1 I1 q1=>?_);cases c with
 |true=>exact hb wh pins s1 σ H1 Q I1 (q1.1 rfl)
 |false=>exact⟨H1,I1,q1.2 rfl⟩
theorem zq(ha:PT X a tA)(hb:PW X (.BoolOp .Or (b::rest) pos) tB'):PW X (.BoolOp .Or (a::b::rest) pos) (cOr tA tB'):=by
 intro wh pins s σ H Q I h;refine isTrue_or (xpB (ha pins s σ H _ I h) λc s1 H1 I1 q1=>?_);cases c with
 |true=>exact⟨H1,I1,q1.1 rfl⟩
 |false=>exact hb wh pins s1 σ H1 Q I1 (q1.2 rfl)
def xtt(ta tb:TE):TE:=λσ H Q=>ta σ H (xg2 λc H1=>(c=true->tb σ H1 Q)/\(c=false->Q (.bl false) H1))
def xua(ta tb:TE):TE:=λσ H Q=>ta σ H (xg2 λc H1=>(c=true->Q (.bl true) H1)/\(c=false->tb σ H1 Q))
def xtu(ta:TE):TE:=λσ H Q=>ta σ H (xg2 λc H1=>Q (.bl (!c)) H1)
theorem uK(ha:PE X a ta)(hb:PE X (.BoolOp .And (b::rest) pos) tb):PE X (.BoolOp .And (a::b::rest) pos) (xtt ta tb):=by
 intro pins s σ H Q I h;refine BoolOp_and (yg (ha pins s σ H _ I h) λv s1 x H1 I1 r1 q1=>?_);obtain⟨c,rfl,q1⟩:=xaP q1;cases r1;refine cA ?_;cases c with
 |true=>exact hb pins s1 σ H1 Q I1 (q1.1 rfl)
 |false=>exact⟨.bl false,H1,I1,rfl,q1.2 rfl⟩
theorem xtv(ha:PE X a ta)(hb:PE X (.BoolOp .Or (b::rest) pos) tb):PE X (.BoolOp .Or (a::b::rest) pos) (xua ta tb):=by
 intro pins s σ H Q I h;refine BoolOp_or (yg (ha pins s σ H _ I h) λv s1 x H1 I1 r1 q1=>?_);obtain⟨c,rfl,q1⟩:=xaP q1;cases r1;refine cA ?_;cases c with
 |false=>exact hb pins s1 σ H1 Q I1 (q1.2 rfl)
 |true=>exact⟨.bl true,H1,I1,rfl,q1.1 rfl⟩
def xsB(ha:PE X a ta):PE X (.UnaryOp .Not a pos) (xtu ta):=by
 intro pins s σ H Q I h;refine UnaryOp_ (yg (ha pins s σ H _ I h) λv s1 x H1 I1 r1 q1=>?_);obtain⟨c,rfl,q1⟩:=xaP q1;cases r1;exact not_of (cA ⟨.bl (!c),H1,I1,rfl,q1⟩)
def xub(c:TT)(t u:TS):TS:=λD σ H=>c σ H λb H1=>(b=true->t D σ H1)/\(b=false->u D σ H1)
theorem xS{c:Expr}{p q:List Stmt}{tc:TT}{t u:TS}(hc:PT X c tc)(ha:PSs X p t)(hb:PSs X q u):PS X (.If c p q pos) (xub tc t u):=by
 intro pins s σ H D I h;refine wpAny_If (xpB (hc pins s σ H _ I h) λd s1 H1 I1 q1=>?_);cases d with
 |true=>exact ha pins s1 σ H1 D I1 (q1.1 rfl)
 |false=>exact hb pins s1 σ H1 D I1 (q1.2 rfl)
@[irreducible] def xum(c:TT)(tb:TS)(D:Ends)(σ:St)(H:Hp):Prop:=∃W:Nat->St->Hp->Prop,(∃m,W m σ H)/\∀m σ H,W m σ H->
 c σ H λb H1=>(b=true->∃N:St->Hp->Prop,(∀σ' H',N σ' H'->∃m',m'<m/\W m' σ' H')/\tb {D with nx:=N,ct:=N,bk:=D.nx} σ H1)/\(b=false->D.nx σ H1)
@[irreducible] def vC(J:It)(g:TG)(tb:TS)(D:Ends)(σ:St)(H1:Hp):Prop:=∃W:Nat->Nat->St->Hp->Prop,(∃m,W 0 m σ H1)/\∀i m σ H,W i m σ H->
 (J.stop i H/\D.nx σ H)\/(J.go i H/\∃N:St->Hp->Prop,(∀σ' H',N σ' H'->∃m',m'<m/\W (i+1) m' σ' H')/\∀x H',J.yld i H x H'->g x σ H' λσ2 H2=>tb {D with nx:=N,ct:=N,bk:=D.nx} σ2 H2)
def xpR(wi:TI)(g:TG)(tb:TS):TS:=λD σ H=>wi σ H λJ H1=>vC J g tb D σ H1
def xre(wi:TI)(g:TG)(tb:TS):xpR wi g tb=xpE wi g tb:=by
 funext D σ H
 unfold xpR xpE
 congr 1
 funext J H1
 unfold vC;rfl
def yT{body:List Stmt}{wi:TI}{g:TG}{tb:TS}(hp:PassesOwn (model X.prog X.w) X.A X.env X.xe)(hc:X.calm=true)(hi:PI X tg iter wi)(hg:PG X tg g)(hb:PSs X body tb)
  (hs:autoParam (∀x,fQ iter X.env x=pure x) sY):PS X (.For tg iter body [] pos) (xpR wi g tb):=by
 rw[xre];exact xsj hp hc hi hg hb hs
def xuc(t:TS):TS:=λD σ H=>∃M:L2.St->Hp->Prop,t {D with nx:=M} σ H/\∀σ' H',M σ' H'->D.nx σ' H'
theorem yD{t:TS}(h:PS X st t):PS X st (xuc t):=by
 intro pins s σ H D I q;obtain⟨M,q1,q2⟩:=q;refine thn (h pins s σ H _ I q1) λf s' z=>?_;cases f with
 |next=>obtain⟨σ',H',I',m⟩:=z;exact⟨σ',H',I',q2 σ' H' m⟩
 |brk=>exact z
 |cont=>exact z
 |ret v=>exact z
def xsC(i:Nat):TG:=λv σ H Q=>∀y,y=v->Q (σ.set i (some y)) H
def xrf(te:TE)(i:Nat):xgj te (xsC i)=xgj te (xgQ i):=by
 funext D σ H
 unfold xgj
 congr 1
 funext x H1
 exact propext ⟨λq=>q x rfl,λq y e=>by rw[e];exact q⟩
def xbc{te:TE}{pos':Pos}(hN:X.N.Nodup)(hi:X.N[i]? =some x)(hx:Loc X.env.scope x)(he:PE X e te)(hs:autoParam (eO e (some (.Name x pos')) pos.line X.env=pure false) sV)
  (hf:autoParam (X.fn x=true\/X.env.scope.names.lookup x=some .local) sZ):PS X (.Assign [.Name x pos'] e pos) (xgj te (xsC i)):=by
 rw[xrf];exact xC hN hi hx he hs hf
def xdx{e:Int}{G:V->Prop}(h:∀i,i=e->G (.int i)):∀y,y=V.int e->G y:=λy q=>by rw[q];exact h e rfl
def xib{v:V}{G:V->Prop}(h:G v):∀y,y=v->G y:=λy q=>by rw[q];exact h
end
noncomputable def zD(cells:List (Str×Addr)):List (Str×c9)->List (Str×Addr)->List (Str×Addr)
 |[],cs=>cs
 |(n,k)::r,cs=>zD cells r (if k== .free then(n,(cells.lookup n).getD 0)::cs else cs)
theorem xdV(h:∀y∈scope.names,y.2= .free->∃c,env.cells.lookup y.1=some c):j4 scope env=pure (zD env.cells scope.names []):=by
 have all:∀(l:List (Str×c9)) (cs:List (Str×Addr)),(∀y∈l,y.2= .free->∃c,env.cells.lookup y.1=some c)->
   (forIn l cs λx r=>match x with
    |(name,kind)=>if (kind==bT)=true then do let a <-cellOf env name;pure (d9 ((name,a)::r))else pure (d9 r):Sem (List (Str×Addr)))=pure (zD env.cells l cs):=by
  intro l
  induction l with
  |nil=>intro cs _;rfl
  |cons y r ih=>
   intro cs hl;obtain⟨n,k⟩:=y;rw[List.forIn_cons]
   by_cases hk:k= .free
   ·subst hk;obtain⟨c,hc⟩:=hl (n,.free) bh rfl;have e:cellOf env n=pure c:=by unfold cellOf;rw[hc]
    simp only[beq_self_eq_true,if_true,e,pure_bind];rw[ih _ λz hz=>hl z (aL _ hz)];simp[zD,hc]
   ·have hb:(k==bT)=false:=by simpa using hk
    simp only[hb,ee,if_false,pure_bind];rw[ih _ λz hz=>hl z (aL _ hz)];simp[zD,hb]
 unfold j4;have:=all scope.names [] h;simp only[bind_pure]at this⊢;exact this
theorem xgm{cells:List (Str×Addr)}:∀{l:List (Str×c9)} {cs:List (Str×Addr)} {x:Str} {c:Addr},(∀y∈l,y.2= .free->∃c,cells.lookup y.1=some c)->(zD cells l cs).lookup x=some c->
  cs.lookup x=some c\/cells.lookup x=some c
 |[],cs,x,c,_,h=>.inl h
 |(n,k)::r,cs,x,c,hl,h=>by
  unfold zD at h;rcases xgm (λz hz=>hl z (aL _ hz)) h with q|q
  ·split at q
   ·rename_i hk;rw[bV]at q
    split at q
    ·rename_i hx;obtain⟨c',hc⟩:=hl (n,k) bh (by simpa using hk);have e:x=n:=by simpa using hx
     subst e;rw[hc]at q
     right
     rw[hc];simpa using q
    ·exact .inl q
   ·exact .inl q
  ·exact .inr q
theorem xdW{cells:List (Str×Addr)}:∀{l:List (Str×c9)} {cs:List (Str×Addr)} {x:Str},(x,bT)∈l\/(∃c,cs.lookup x=some c)->∃c,(zD cells l cs).lookup x=some c
 |[],cs,x,h=>by
  rcases h with h|h
  ·simp at h
  ·exact h
 |(n,k)::r,cs,x,h=>by
  unfold zD;refine xdW ?_;rcases h with h|⟨c,h⟩
  ·rcases av.mp h with h|h
   ·cases h
    right
    simp
   ·exact .inl h
  ·right
   split
   ·rw[bV]
    split
    ·exact⟨_,rfl⟩
    ·exact⟨c,h⟩
   ·exact⟨c,h⟩
def Cx.blk(X:Cx)(scope:Scope)(C:Addr)(Nc:List Str)(s₂:ak)(H₂:Hp)(fp:List Addr):Cx:=
 {X with N:=Nc,s₀:=s₂,H₀:=H₂,env:=compEnvC scope (zD X.env.cells scope.names []) C X.env,outer:=X.stack,stack:=X.stack,ex:=fp,fn:=λ_=>false,pn:=[],xe:=λ_ _=>False,cp:=λ_=>false}
def xg4(X:Cx)(scope:Scope):List Nat->List Str->Prop
 |[],[]=>True
 |j::js,y::ys=>(X.N[j]? =some y/\scope.names.lookup y=some .free/\(X.env.kindOf y=some .cell\/X.env.kindOf y=some .free))/\xg4 X scope js ys
 |_,_=>False
def xcb(σ:St)(cap:List Nat):St:=cap.map λj=>(σ[j]?).getD none
structure vE(X:Cx)(scope:Scope)(x:Str)(cap:List Nat)(ys:List Str):Prop where
 kind:scope.kind= .function
 nocell:∀y∈scope.names,y.2≠.cell
 locs:∀y∈scope.names,y.2= .local->scope.names.lookup y.1=some .local
 lx:scope.names.lookup x=some .local
 fr:∀y∈scope.names,y.2= .free->X.env.kindOf y.1=some .cell\/X.env.kindOf y.1=some .free
 cap:xg4 X scope cap ys
 nd:(x::ys).Nodup
def xae(kind:scope.kind= .function)(h1:(scope.names.all λy=> !(y.2== .cell))=true)(h2:(scope.names.all λy=> !(y.2== .local)||scope.names.lookup y.1==some .local)=true)
  (hx:scope.names.lookup x=some .local) (h3:(scope.names.all λy=> !(y.2== .free)||(X.env.kindOf y.1==some .cell||X.env.kindOf y.1==some .free))=true) (kP:xg4 X scope cap ys) (kQ:(x::ys).Nodup):vE X scope x cap ys:=by
 refine⟨kind,λy hy e=>?_,λy hy e=>?_,hx,λy hy e=>?_,kP,kQ⟩
 ·have:=df.mp h1 y hy;rw[e]at this;exact absurd this (by decide)
 ·have:=df.mp h2 y hy;rw[e]at this;simpa using this
 ·have:=df.mp h3 y hy;rw[e]at this;simpa using this
theorem xeX{X:Cx}{scope:Scope}{σ:St}:∀{cap:List Nat} {ys:List Str} {i:Nat} {y:Str} {v:V},xg4 X scope cap ys->ys[i]? =some y->(xcb σ cap)[i]? =some (some v)->
  ∃j:Nat,X.N[j]? =some y/\σ[j]? =some (some v)/\scope.names.lookup y=some .free/\(X.env.kindOf y=some .cell\/X.env.kindOf y=some .free)
 |[],[],i,y,v,_,h,_=>by simp at h
 |j::js,z::zs,0,y,v,⟨⟨h1,h2,h3⟩,_⟩,e1,e2=>by
  simp at e1;subst e1;refine⟨j,h1,?_,h2,h3⟩;simp only[xcb,bO,List.getElem?_cons_zero,kH]at e2;cases q:σ[j]? with
  |none=>rw[q]at e2;cases e2
  |some w=>rw[q]at e2;simp at e2;rw[e2]
 |j::js,z::zs,i+1,y,v,⟨_,h⟩,e1,e2=>xeX (i:=i) h (by simpa using e1) (by simpa [xcb]using e2)
 |[],_::_,_,_,_,h,_,_=>h.elim
 |_::_,[],_,_,_,h,_,_=>h.elim
theorem xjj{X:Cx}{scope:Scope}:∀{cap:List Nat} {ys:List Str},xg4 X scope cap ys->cap.length=ys.length
 |[],[],_=>rfl
 |_::_,_::_,⟨_,h⟩=>by simp[xjj h]
 |[],_::_,h=>h.elim
 |_::_,[],h=>h.elim
def xgn{l:List (Str×c9)}{y:Str}{k:c9}(h:l.lookup y=some k):(y,k)∈l:=PySem.mem_of_lookup h
theorem xeY{env:Env}:∀{names:List (Str×c9)} {x:Str},names.lookup x=some .free->
  (names.map λ(n,k)=>if (k==bT&&env.scope.kind== .function&&env.kindOf n==some .cell)then(n,ki)else(n,k)).lookup x=some .cell\/
  (names.map λ(n,k)=>if (k==bT&&env.scope.kind== .function&&env.kindOf n==some .cell)then(n,ki)else(n,k)).lookup x=some .free
 |[],_,h=>by simp at h
 |(n,k)::r,x,h=>by
  have ih:= @xeY env r x;rw[bO];rw[bV]at h;cases hx:x==n with
  |true=>
   rw[hx]at h;simp only[kH]at h;subst h;dsimp only
   split
   ·left;rw[bV,hx]
   ·right;rw[bV,hx]
  |false=>
   rw[hx]at h;dsimp only
   split
   ·rw[bV,hx];exact ih h
   ·rw[bV,hx];exact ih h
theorem xbU{env:Env}:∀{names:List (Str×c9)} {x:Str} {k:c9},
  (names.map λ(n,k)=>if (k==bT&&env.scope.kind== .function&&env.kindOf n==some .cell)then(n,ki)else(n,k)).lookup x=some k->(k= .cell\/k= .free)->(∀y∈names,y.2≠.cell)->(x,bT)∈names
 |[],_,_,h,_,_=>by simp at h
 |(n,k')::r,x,k,h,hk,hc=>by
  rw[bO]at h;have kP:∀y∈r,y.2≠.cell:=λy hy=>hc y (aL _ hy);have nk:k'≠.cell:=hc (n,k') bh;dsimp only at h
  split at h
  ·rename_i q;rw[bV]at h
   split at h
   ·rename_i hx;have e:x=n:=by simpa using hx
    have e2:k'= .free:=by
     simp only[fX,beq_iff_eq]at q;exact q.1.1
    rw[e,e2];exact bh
   ·exact aL _ (xbU h hk kP)
  ·rw[bV]at h
   split at h
   ·rename_i hx;have e:x=n:=by simpa using hx
    have e3:k'=k:=by simpa using h
    rcases hk with q|q
    ·exact absurd (e3.trans q) nk
    ·rw[e,e3,q];exact bh
   ·exact aL _ (xbU h hk kP)
def vE.clos(B:vE X scope x cap ys)(ok:X.Ok):∀y∈scope.names,y.2= .free->∃c,X.env.cells.lookup y.1=some c:=λy hy e=>ok.has y.1 (B.fr y hy e)
def vE.sub(B:vE X scope x cap ys)(ok:X.Ok){z:Str}{c:Addr}(h:(zD X.env.cells scope.names []).lookup z=some c):X.env.cells.lookup z=some c:=by
 rcases xgm (B.clos ok) h with q|q
 ·simp at q
 ·exact q
theorem vE.start{h₁:Heap}{tk:Nat}{D:Addr}(B:vE X scope x cap ys)(I:Inv X pins σ H₂ s₂)
  (hf:∀b∈fp,xc3 X pins H₂ b) (hD:s₂.heap.objs.size<=D) (hC:s₂.heap.objs.size<=C) (la:D≠C) (hk:∀b o,s₂.heap.get? b=some o->h₁.get? b=some o)
  (kW:∃m,h₁.Ns C m) (hl:h₁.get? D=some {cls:=.type "list",data:=.seq ([]:List Value).toArray}) (kZ:∀b∈fp,b<s₂.heap.objs.size):
  Inv (X.blk scope C (x::ys) s₂ H₂ fp) [] (none::xcb σ cap) (upd H₂ D (.lst [])) {s₂ with heap:=h₁,toks:=tk}:=by
 have ok:=I.ok;have kP:H₂ C=none:=I.hok.fresh hC;have freshD:H₂ D=none:=I.hok.fresh hD;have lt:∀b o,s₂.heap.get? b=some o->b<s₂.heap.objs.size:=λb o e=>aB e;refine⟨⟨ok.mod,B.kind,ok.glob,ok.blt,hC,λy z c h1 h2=>ok.inj y z c (B.sub ok h1) (B.sub ok h2),λy hy=>?_,λy c h=>(aR h).elim,ok.hd,ok.frames,.inl rfl,λb hb=>⟨?_,λy c h e=>?_⟩,I.bs,bG ok.bsz I.sz,λb o e hb=>?_,λb hb hs=>?_,I.stack,I.stkFree,λy c h=>(aR h).elim,λb hb=>I.hok.fresh hb⟩,
  rfl,I.bare,Un.laid hk hD freshD,?_,λy c h=>?_,?_,λy c h=>?_,λp hp=>?_,?_,?_⟩
 ·have kS:(relabel scope X.env).names.lookup y=some .cell\/(relabel scope X.env).names.lookup y=some .free:=hy;have m:(y,bT)∈scope.names:=by
   rcases kS with q|q
   ·exact xbU q (.inl rfl) B.nocell
   ·exact xbU q (.inr rfl) B.nocell
  exact xdW (.inl m)
 ·exact aQ (aJ (kZ b hb) hC)
 ·exact(hf b hb).2.2.2.2.1 y c (B.sub ok h) e
 ·rcases(hf b hb).2.2.2.1 with q|q
  ·exact ok.noex b o e q
  ·exact absurd (aJ (aB (ok.bs b o e).1) q) (cg _)
 ·rcases av.mp (I.stkSub b hs)with q|q
  ·exact(hf b hb).2.1 q
  ·exact(hf b hb).2.2.1 q
 ·obtain⟨m,hm⟩:=kW;refine⟨m,hm,λi y v e1 e2 e3=>?_⟩;cases i with
  |zero=>simp at e2
  |succ i=>
   obtain⟨j,n1,n2,n3,n4⟩:=xeX (i:=i) B.cap (by simpa [Cx.blk]using e1) (by simpa using e2);obtain⟨m0,lb,kY⟩:=I.loc;have kR:Vis X.env.scope y:=by
    rcases n4 with q|q
    ·exact .inr (.inl q)
    ·exact .inr (.inr q)
   obtain⟨u,ru,l⟩:=kY j y v n1 n2 kR;refine⟨u,ru,.inr ⟨xeY n3,?_⟩⟩;rcases l with⟨k,_⟩|⟨_,c,ec,z⟩
   ·rw[k]at n4;rcases n4 with q|q<;> cases q
   ·obtain⟨c',kQ⟩:=xdW (cells:=X.env.cells) (cs:=[]) (.inl (xgn n3));have:=B.sub ok kQ;rw[ec]at this;cases this;obtain⟨o,ho,hd⟩:=z;exact⟨c,kQ,o,hk c o ho,hd⟩
 ·obtain⟨v,o,ho,hd⟩:=I.cell y c (B.sub ok h);exact⟨v,o,hk c o ho,hd⟩
 ·show upd H₂ D _ C=none;rw[xm (au la)];exact kP
 ·obtain⟨v,o,ho,hd⟩:=I.cell y c (B.sub ok h);rw[xm (aQ (aJ (lt c o ho) hD))];refine(I.freeC y c (B.sub ok h)).imp id λ⟨_,o',kT,kX⟩=>⟨rfl,o',kT,λz i v e1 k e2=>?_⟩;cases i with
  |zero=>simp at e2
  |succ i=>
   obtain⟨j,n1,n2,n3,n4⟩:=xeX (i:=i) B.cap (by simpa [Cx.blk]using e1) (by simpa using e2);exact kX z j v n1 n4 n2
 ·exact absurd (show p∈([]:List (Addr×Obj))from hp) (by simp)
 ·exact I.hok.laid hk hD ⟨bL _,[],0,.nil,hl⟩
 ·simp[Cx.blk,xcb,xjj B.cap]
def vE.back{s':ak}{pl:List (Addr×Obj)}{σ':St}(B:vE X scope x cap ys)(I:Inv X pins σ H₂ s₂)
  (hf:∀b∈fp,xc3 X pins H₂ b) (J:Inv (X.blk scope C (x::ys) s₂ H₂ fp) pl σ' H' s'):Inv X pins σ H' s':=
 I.call' (ch:=fp) J.os J.base J.hok J.bare λb hb=>by
  obtain⟨f0,f1,f2,f3,f4,f5⟩:=hf b hb;refine⟨?_,f1,f4,f5⟩;rcases f3 with q|q
  ·exact .inl q
  ·exact .inr q
def vE.far{s':ak}{pl:List (Addr×Obj)}{σ':St}(I:Inv X pins σ H₂ s₂)
  (hC:s₂.heap.objs.size<=C) (J:Inv (X.blk scope C (x::ys) s₂ H₂ fp) pl σ' H' s'):
  H' C=none/\C≠X.env.locals/\X.s₀.heap.objs.size<=C/\(∀z c,X.env.cells.lookup z=some c->c≠C)/\∀p∈X.pn++pins,p.1≠C:=by
 refine⟨J.free,gr (aJ I.lt hC),bG I.sz hC,λz c e q=>?_,λp hp q=>?_⟩
 ·obtain⟨v,w⟩:=I.cell z c e;exact absurd (aJ w.lt (by rw[q];exact hC)) (cg _)
 ·exact absurd (aJ (aB (I.pin p hp).1) (by rw[q];exact hC)) (cg _)
theorem xm9{prog:aH}{A:bo}{R:ij->ak->Prop}{s:ak}{elt:Expr}{ifs:List Expr}{it acc:Value}(J:Nat->ak->Prop)
  (go:∀n s,J n s->wpAny (model prog w) A (pyNext it) (λr s1=>match r with
   |none=>R (.ok .next) s1
   |some v=>wpAny (model prog w) A (gs tg it v) (λ_ s2=>wpAny (model prog w) A (gK tg env v) (λ_ s3=>
     wpAny (model prog w) A (forIn ifs true λc r=>if r=true then do let ok <-isTrue c env (eval c env);pure (d9 ok)else pure (d9 r)) (λok s4=>
      if ok=true then wpAny (model prog w) A (eval elt env) (λy s5=>wpAny (model prog w) A (call (.builtin "list.append") [acc,y]) (λ_ s6=>∃m,m<n/\J m s6) (λ_ _=>False) s5) (λ_ _=>False) s4
      else∃m,m<n/\J m s4) (λ_ _=>False) s3) (λ_ _=>False) s2) (λ_ _=>False) s1) (λ_ _=>False) s)
  (n:Nat) (h:J n s):cP (model prog w) A (.compLoop (.ListComp elt [⟨tg,iter,ifs,0⟩] scope pos) 0 it acc env) R s:=by
 refine codeAny_loop rfl J (λn s hJ=>?_) n h;show wpAny _ A ((compTurn (.ListComp elt [⟨tg,iter,ifs,0⟩] scope pos) 0 it acc env).onRaise (λx=>do noteFrame x env;theTreesLotGoes x)) _ _ s;refine wpAny_noted ?_;rw[compTurn_list];refine af (ck (af (aN (go n s hJ) (λr s1 h1=>?_) λ_ _ z=>z.elim)));cases r with
 |none=>exact aA h1
 |some v=>
  refine af (aN h1 (λ_ s2 h2=>af (aN h2 (λ_ s3 h3=>af (aN h3 (λok s4 h4=>?_) λ_ _ z=>z.elim)) λ_ _ z=>z.elim)) λ_ _ z=>z.elim);cases ok with
  |false=>exact aA ⟨rfl,h4⟩
  |true=>
   exact af (af (aN h4 (λy s5 h5=>af (aN h5 (λ_ s6 h6=>aA (aA ⟨rfl,h6⟩)) λ_ _ z=>z.elim)) λ_ _ z=>z.elim))
def CTs(Xc:Cx)(ifs:List Expr)(t:TT):Prop:=
 ∀(pins:List (Addr×Obj)) (s:ak) (σ:St) (H:Hp) (Q:Bool->Hp->Prop),Inv Xc pins σ H s->t σ H Q->
  wpAny (model Xc.prog Xc.w) Xc.A (forIn ifs true λc r=>if r=true then do let ok <-isTrue c Xc.env (eval c Xc.env);pure (d9 ok)else pure (d9 r)) (TP Xc pins σ Q) Xc.xe s
def xic:TT:=λ_ H Q=>Q true H
def jV{Xc:Cx}:CTs Xc [] xic:=λ_ _ _ H _ I q=>wpAny_tests_nil ⟨H,I,q⟩
def xrg{Xc:Cx}{t:TT}(h:PT Xc c t):CTs Xc [c] t:=λpins s σ H Q I q=>wpAny_tests_one (h pins s σ H Q I q)
abbrev CW:=Nat->Nat->List V->Hp->Prop
@[irreducible] def zW(J:It)(caps:St)(tt:TT)(te:TE)(Q:VK)(H2:Hp):Prop:=∀D,H2 D=none->∃W:CW,(∃m,W 0 m [] (upd H2 D (.lst [])))/\
 ∀i m acc H3,W i m acc H3->H3 D=some (.lst acc)/\((J.stop i H3/\Q (.ref D) H3)\/(J.go i H3/\acc.length<aU/\∀v H4,J.yld i H3 v H4->tt (some v::caps) H4 λb H5=>
  (b=true->te (some v::caps) H5 λu H6=>H6 D=some (.lst acc)/\∃m',m'<m/\W (i+1) m' (acc++[u]) (upd H6 D (.lst (acc++[u]))))/\(b=false->∃m',m'<m/\W (i+1) m' acc H5)))
def xqP(cap:List Nat)(wi:TI)(tt:TT)(te:TE):TE:=λσ H Q=>wi σ H λJ H2=>zW J (xcb σ cap) tt te Q H2
section
variable {elt:Expr} {ifs:List Expr} {px:Pos} {wi:TI} {tt:TT} {te:TE}
theorem xg5(B:vE X scope x cap ys)(hc:X.calm=true)(he:∀C s H fp,PE (X.blk scope C (x::ys) s H fp) elt te)(ht:∀C s H fp,CTs (X.blk scope C (x::ys) s H fp) ifs tt)
  {RR:Value->Addr->ij->ak->Prop} {lh:Value} {E:Value->ak->Prop}
  (hp:PIE X pins σ (.Name x px) (λJ H2=>zW J (xcb σ cap) tt te Q H2) lh s₂)
  (hR:∀(D C:Addr) (H':Hp) (s':ak),Inv X pins σ H' s'->(∃m,s'.heap.Ns C m)->H' C=none->C≠X.env.locals->X.s₀.heap.objs.size<=C->(∀z c,X.env.cells.lookup z=some c->c≠C)->(∀p∈X.pn++pins,p.1≠C)->Q (.ref D) H'->RR (.ref D) C (.ok .next) s'):
  wpAny (model X.prog X.w) X.A (newList []) (λacc s₃=>wpAny (model X.prog X.w) X.A (newFunctionEnv scope X.env.globals (zD X.env.cells scope.names []) [] X.env.qual none .none (some X.env)) (λkT s₄=>
   cP (model X.prog X.w) X.A (.compStart (.ListComp elt [⟨.Name x px,iter,ifs,0⟩] scope pos) 0 lh acc {kT with scope:=relabel scope X.env}) (RR acc kT.locals) s₄) E s₃) E s₂:=by
 refine L2.oG λ_ Z=>?_;obtain⟨it,fp,tn,J,H2,e,I2,T,lb,f2,hw⟩:=hp;apply Z;subst e;unfold zW at hw;refine eC (wpAny_newFunctionEnv B.nocell (by intro y hy;simp at hy) (λh₁ kQ kP=>?_) B.kind);dsimp only at kQ kP⊢;generalize hG:s₂.heap.push {cls:=.type "list",dict:=none,data:=.seq ([]:List Value).toArray}=G at kQ kP⊢;have hsz:G.objs.size=s₂.heap.objs.size+1:=by rw[<-hG,eI]
 have kR:s₂.heap.objs.size<=G.objs.size:=by lia
 have ll:s₂.heap.objs.size≠G.objs.size:=by lia
 have old:∀b o,s₂.heap.get? b=some o->h₁.get? b=some o:=λb o q=>by
  have lt:=aB q;refine kP.extBut b o (aQ (aJ lt kR)) (ai _ ?_);rw[<-hG];exact ai _ q
 have kW:h₁.get? s₂.heap.objs.size=some {cls:=.type "list",data:=.seq ([]:List Value).toArray}:=by
  refine kP.extBut _ _ ll (ai _ ?_);rw[<-hG];exact aT _ rfl
 have kZ:∀b∈fp,b<s₂.heap.objs.size:=λb hb=>by
  refine L2.oG λ_ Z=>?_;obtain⟨o,ho,_⟩:=T.obj _ _ lb b hb;apply Z;exact aB ho
 refine L2.oG λ_ Z=>?_;obtain⟨W,⟨m0,w0⟩,turn⟩:=hw s₂.heap.objs.size (I2.hok.fresh (ay _));apply Z;generalize lC:s₂.toks+([]:List (Str×Value)).length=tk;have I0:=B.start (tk:=tk) (C:=G.objs.size) I2 f2 (ay _) kR ll old ⟨_,kQ⟩ kW kZ;have lg:tn 0 h₁:=T.keep _ _ _ lb λb hb o q=>old b o q
 -- lq stays true of lB kS objects
 have f3:∀{H':Hp},(∀b∈fp,H' b=none)->∀b∈fp,xc3 (X.blk scope G.objs.size (x::ys) s₂ H2 fp) [] H' b:=λhn b hb=>by
  refine L2.oG λ_ Z=>?_;obtain⟨f0,f1,lA,lE,f4,f5⟩:=f2 b hb;apply Z;refine⟨hn b hb,aQ (aJ (kZ b hb) kR),λhs=>?_,.inl hb,λz c q=>f4 z c (B.sub I2.ok q),λp hp=>absurd (show p∈([]:List (Addr×Obj))from hp) (by simp)⟩;rcases av.mp (I2.stkSub b hs)with q|q
  ·exact f1 q
  ·exact lA q
 have n0:∀b∈fp,upd H2 s₂.heap.objs.size (.lst []) b=none:=λb hb=>by
  rw[xm (aQ (kZ b hb))];exact(f2 b hb).1
 have loop:∀sx:ak,sx={s₂ with heap:=h₁,toks:=tk}->
   cP (model X.prog X.w) X.A (.compLoop (.ListComp elt [⟨.Name x px,iter,ifs,0⟩] scope pos) 0 (.ref it) (.ref s₂.heap.objs.size) (compEnvC scope (zD X.env.cells scope.names []) G.objs.size X.env)) (RR (.ref s₂.heap.objs.size) G.objs.size) sx:=by
  rintro sx rfl;refine xm9 (λn s'=>∃i acc H',Inv (X.blk scope G.objs.size (x::ys) s₂ H2 fp) [] (none::xcb σ cap) H' s'/\tn i s'.heap/\(∀b∈fp,H' b=none)/\W i n acc H') ?_ m0 ⟨0,[],_,I0,lg,n0,w0⟩;rintro n s3 ⟨i,acc,H3,I3,la,lp,w3⟩;obtain⟨lD,alt⟩:=turn i n acc H3 w3;rcases alt with⟨stop,q⟩|⟨go,hlen,step⟩
  ·refine aN (T.done (X.blk scope G.objs.size (x::ys) s₂ H2 fp) rfl rfl rfl hc i [] s3 _ H3 (λ_ _=>False) I3 (f3 lp) la stop) (λr s4 ⟨hr,I4⟩=>?_) λ_ _ z=>z.elim;subst hr;refine L2.oG λ_ Z=>?_;obtain⟨g1,g2,g3,g4,g5⟩:=vE.far I2 kR I4;obtain⟨m4,lr,_⟩:=I4.loc;apply Z;exact hR _ _ H3 s4 (B.back I2 f2 I4) ⟨m4,lr⟩ g1 g2 g3 g4 g5 q
  ·refine aN (T.item (X.blk scope G.objs.size (x::ys) s₂ H2 fp) rfl rfl rfl hc i [] s3 _ H3 (λ_ _=>False) I3 (f3 lp) la go) (λr s4 ⟨u,hr,h4⟩=>?_) λ_ _ z=>z.elim;subst hr;refine aN h4 (λ_ s4 ⟨v,H4,I4,rv,y4,kX,lz⟩=>?_) λ_ _ z=>z.elim;have I4':=I4.pinned (f3 lz) (T.obj _ _ kX);refine gX (xaJ (X:=X.blk scope G.objs.size (x::ys) s₂ H2 fp) (i:=0) I4' B.nd rfl (.inl (lookup_relabel_local B.lx)) rv (λs5 I5=>?_) (.inr (lookup_relabel_local B.lx)));have I5':Inv (X.blk scope G.objs.size (x::ys) s₂ H2 fp) ([]++xb9 fp s4.heap) (some v::xcb σ cap) H4 s5:=I5;refine aN (ht _ _ _ _ _ s5 _ H4 _ I5' (step v H4 y4)) (λok s6 ⟨H6,I6,q6⟩=>?_) λ_ _ z=>z.elim;have pinned:∀{σ7:St} {H7:Hp} {s7:ak},Inv (X.blk scope G.objs.size (x::ys) s₂ H2 fp) ([]++xb9 fp s4.heap) σ7 H7 s7->tn (i+1) s7.heap/\∀b∈fp,H7 b=none:=λ{σ7 H7 s7} I7=>by
    refine⟨T.keep _ _ _ kX λb hb o e=>(I7.pin (b,o) (aI _ (aI _ (xbP hb e)))).1,λb hb=>?_⟩;refine L2.oG λ_ Z=>?_;obtain⟨o,e,d⟩:=T.obj _ _ kX b hb;apply Z;exact(I7.pin (b,o) (aI _ (aI _ (xbP hb e)))).2.1
   have weak:∀{H7:Hp} {s7:ak},Inv (X.blk scope G.objs.size (x::ys) s₂ H2 fp) ([]++xb9 fp s4.heap) (some v::xcb σ cap) H7 s7->Inv (X.blk scope G.objs.size (x::ys) s₂ H2 fp) [] (none::xcb σ cap) H7 s7:=λI7=>
    (I7.unpinned (pins:=[])).weak rfl λj z e=>by
     cases j with
     |zero=>simp at e
     |succ j=>simpa using e
   cases ok with
   |false=>
    rw[if_neg aR];refine L2.oG λ_ Z=>?_;obtain⟨m',kY,w'⟩:=q6.2 rfl;apply Z;exact⟨m',kY,i+1,acc,H6,weak I6,(pinned I6).1,(pinned I6).2,w'⟩
   |true=>
    rw[if_pos rfl];refine aN (he _ _ _ _ _ s6 _ H6 _ I6 (q6.1 rfl)) (λy s7 ⟨z,H7,I7,rz,ly,m',kY,w'⟩=>?_) λ_ _ z=>z.elim;refine aN (uq (X:=X.blk scope G.objs.size (x::ys) s₂ H2 fp) _ s7 _ H7 (.ref s₂.heap.objs.size) [z] (.ref s₂.heap.objs.size) [y] (λ_ H8=>H8=upd H7 s₂.heap.objs.size (.lst (acc++[z]))) I7 rfl (.cons rz .nil) ⟨_,acc,z,rfl,rfl,ly,hlen,rfl⟩) (λ_ s8 ⟨_,H8,I8,_,e8⟩=>?_) λ_ _ z=>z.elim;subst e8;exact⟨m',kY,i+1,_,_,weak I8,(pinned I8).1,(pinned I8).2,w'⟩
 exact codeAny_compStart_list (loop _ rfl) (T.self _ 0 _ _ _ lg (loop _ rfl))
def xb3(B:vE X scope x cap ys)(hc:X.calm=true)(hi:PI X (.Name x px) iter wi)(he:∀C s H fp,PE (X.blk scope C (x::ys) s H fp) elt te)(ht:∀C s H fp,CTs (X.blk scope C (x::ys) s H fp) ifs tt)
  (hs:autoParam (∀x,fQ iter X.env x=pure x) sY):PE X (.ListComp elt [⟨.Name x px,iter,ifs,0⟩] scope pos) (xqP cap wi tt te):=by
 intro pins s σ H Q I h;rw[eval_ListComp];refine iz (use:=none) rfl hs (xdV (B.clos I.ok)) B.kind B.locs ?_;refine thn (hi pins s σ H _ I h) λv s1 h1=>thn h1 λkP s2 h2=>?_;refine xg5 (Q:=Q) (RR:=λacc C=>compPost (model X.prog X.w) X.A X.xe none (EP X pins σ Q) acc C) B hc he ht h2 ?_;rintro D C H' s' J ⟨m,hm⟩ g1 g2 g3 g4 g5 q;exact⟨m,hm,λh' sb=>⟨.ref D,H',J.turned (t':=s'.toks) (λb o hb e=>(sb.2 b hb).trans e) g1 g2 (.inr g3) g4 g5,rfl,q⟩⟩
def xdX{y:Str}{pos' kP:Pos}(B:vE X scope x cap ys)(hc:X.calm=true)(hN:X.N.Nodup)(hi:X.N[i]? =some y)(hy:X.env.scope.names.lookup y=some .local)(hit:PI X (.Name x px) iter wi)
  (he:∀C s H fp,PE (X.blk scope C (x::ys) s H fp) elt te) (ht:∀C s H fp,CTs (X.blk scope C (x::ys) s H fp) ifs tt)
  (kR:autoParam (eO (.ListComp elt [⟨.Name x px,iter,ifs,0⟩] scope pos) (some (.Name y pos')) kP.line X.env=pure true) sV)
  (hs:autoParam (∀x,fQ iter X.env x=pure x) sY):
  PS X (.Assign [.Name y pos'] (.ListComp elt [⟨.Name x px,iter,ifs,0⟩] scope pos) kP) (xgj (xqP cap wi tt te) (xgQ i)):=by
 intro pins s σ H D I h;rw[exec_Assign_Name_used _ _ _ _ kR];refine af (ck (af ?_));show wpAny _ X.A (do let _ <-comprehension (.ListComp elt [⟨.Name x px,iter,ifs,0⟩] scope pos) scope X.env _ (newList []) false (eval iter X.env) (some (gK (.Name y pos') X.env))) _ _ s;refine af (aN (iz (use:=some (gK (.Name y pos') X.env)) (Q:=λ_ s'=>SP X pins D .next s') rfl hs (xdV (B.clos I.ok)) B.kind B.locs
  (thn (hit pins s σ H _ I h) λv s1 h1=>thn h1 λkT s2 h2=>?_)) (λ_ s' hq=>aA (aA hq)) λ_ _ e=>e)
 refine xg5 (Q:=λv H1=>xgQ i v σ H1 D.nx) (RR:=λacc C=>compPost (model X.prog X.w) X.A X.xe (some (gK (.Name y pos') X.env)) (λ_ s'=>SP X pins D .next s') acc C) B hc he ht h2 ?_;rintro Da C H' s' J ⟨m,hm⟩ g1 g2 g3 g4 g5 q;show wpAny _ X.A (gK (.Name y pos') X.env (.ref Da)) _ _ s';refine(gX (xi8 (v:=.ref Da) J hN hi (.inl hy) rfl (λs4 J4 ⟨a,sb,ha⟩=>?_) (.inr hy)));have kS:C≠a:=by
  rcases ha with z|z
  ·rw[z];exact g2
  ·exact λw=>g4 y a z w.symm
 refine⟨m,hm.sameBut sb kS,λh' kQ=>?_⟩;exact⟨_,H',J4.turned (t':=s4.toks) (λb o hb e=>(kQ.2 b hb).trans e) g1 g2 (.inr g3) g4 g5,q⟩
end
def Its(lo st:Int)(n:Nat):It:=⟨λi _=>i<n,λi H x H'=>H'=H/\x= .int (lo+i*st),λi _=>n<=i⟩
def xna(it:Addr)(lo st:Int)(n:Nat):Turn P w K tg (Its lo st n) [it] it (λi h=>IsRangeIter h it (lo+(i:Nat)*st) ((n:Int) - (i:Nat)) st) where
 mem:=by simp
 obj:=λi h q b hb=>by
  have e:b=it:=by simpa using hb
  subst e;exact⟨_,q,λv z=>by
   have z':Data.fields _=Data.cell v:=z;cases z'⟩
 keep:=λi h h' q k=>k it (by simp) _ q
 item:=by
  intro X hP hw hK hc i pins s σ H E I hf q hg;subst hP hw hK;obtain⟨f0,f1,f2,f3,f4,f5⟩:=hf it (by simp);refine(Walks.range (prog:=X.prog) (w:=X.w) (I.ok.hd hc) it lo st n).item i s _ _ hg q λv h' tk hv q' kk=>?_;obtain⟨t,rfl⟩:=hv;have I1:Inv X pins σ H {s with heap:=h',toks:=tk}:=I.turned (λb o hb e=>kk b o (by simpa using hb) e) f0 f1 f3 f4 f5;exact⟨_,rfl,xj8 (s:={s with heap:=h',toks:=tk}) (n:="range_iterator") q' rfl rfl (by decide) ⟨.int (lo+i*st),H,I1,⟨t,rfl⟩,⟨rfl,rfl⟩,q',λb hb=>(hf b hb).1⟩⟩
 done:=by
  intro X hP hw hK hc i pins s σ H E I hf q hg;subst hP hw hK;obtain⟨f0,f1,f2,f3,f4,f5⟩:=hf it (by simp);exact wpAny_pyNext_range_end (I.ok.hd hc) q (by have:n<=i:=hg;lia) λh' eb=>⟨rfl,I.turned (t':=s.toks) (λb o hb e=>eb b o hb e) f0 f1 f3 f4 f5⟩
 self:=λ_ _ _ _ _ q h=>wpAny_pyIter_rangeiter q h
def xov(it:Addr)(lo st:Int)(n:Nat):Turn P w K tg (Its lo st n) [it] it (λi h=>j5 h it (lo+(i:Nat)*st) ((n:Int) - (i:Nat)) st) where
 mem:=by simp
 obj:=λi h q b hb=>by
  have e:b=it:=by simpa using hb
  subst e;exact⟨_,q,λv z=>by
   have z':Data.fields _=Data.cell v:=z;cases z'⟩
 keep:=λi h h' q k=>k it (by simp) _ q
 item:=by
  intro X hP hw hK hc i pins s σ H E I hf q hg;subst hP hw hK;obtain⟨f0,f1,f2,f3,f4,f5⟩:=hf it (by simp);refine(Walks.longrange (prog:=X.prog) (w:=X.w) (I.ok.hd hc) it lo st n).item i s _ _ hg q λv h' tk hv q' kk=>?_;obtain⟨t,rfl⟩:=hv;have I1:Inv X pins σ H {s with heap:=h',toks:=tk}:=I.turned (λb o hb e=>kk b o (by simpa using hb) e) f0 f1 f3 f4 f5;exact⟨_,rfl,xj8 (s:={s with heap:=h',toks:=tk}) (n:="longrange_iterator") q' rfl rfl (by decide) ⟨.int (lo+i*st),H,I1,⟨t,rfl⟩,⟨rfl,rfl⟩,q',λb hb=>(hf b hb).1⟩⟩
 done:=by
  intro X hP hw hK hc i pins s σ H E I hf q hg;subst hP hw hK;obtain⟨f0,f1,f2,f3,f4,f5⟩:=hf it (by simp);exact wpAny_pyNext_long_end (I.ok.hd hc) q (by have:n<=i:=hg;lia) λh' eb=>⟨rfl,I.turned (t':=s.toks) (λb o hb e=>eb b o hb e) f0 f1 f3 f4 f5⟩
 self:=λ_ _ _ _ _ q h=>wpAny_pyIter_longiter q h
def zg(a b c:Int):Nat:=(bq a b c).toNat
def xko(a b c:Int):0<=bq a b c:=by
 unfold bq
 split
 ·split
  ·have:=Int.ediv_nonneg (a:=b - a - 1) (b:=c) (by lia) (by lia);lia
  ·lia
 ·split
  ·have:=Int.ediv_nonneg (a:=a - b - 1) (b:= -c) (by lia) (by lia);lia
  ·lia
def xjk(a b c:Int):((zg a b c:Nat):Int)=bq a b c:=cb (xko a b c)
def uB(a b:Int):zg a b 1=(b - a).toNat:=by
 unfold zg bq;simp only[show(1:Int) > 0 by decide,if_true]
 split<;> simp<;> lia
theorem xow{s:ak}{R:It->Hp->Prop}{E:Value->ak->Prop}{a b c:Int}{t u v:Tok}{r:Addr}(I:Inv X pins σ H s)(hr:IsRange s.heap r a b c t u v)
  (q:R (Its a c (zg a b c)) H):wpAny (model X.prog X.w) X.A (pyIter (.ref r)) (PIE X pins σ tg R) E s:=by
 have e2:bq a b c=((zg a b c:Nat):Int) - ((0:Nat):Int):=by rw[xjk];simp
 have e1:a=a+((0:Nat):Int)*c:=by simp
 have fp:∀b'∈[s.heap.objs.size],xc3 X pins H b':=λb' hb=>by
  have e:b'=s.heap.objs.size:=by simpa using hb
  subst e;exact I.fpOk (ay _) (I.hok.fresh (ay _))
 cases kP:gA a b c with
 |true=>
  refine wpAny_pyIter_range hr kP ⟨s.heap.objs.size,[s.heap.objs.size],_,_,H,rfl,I.kept (t':=s.toks) λb o e=>ai _ e,xna _ a c (zg a b c),?_,fp,q⟩;show IsRangeIter _ _ (a+((0:Nat):Int)*c) (((zg a b c:Nat):Int) - ((0:Nat):Int)) c;rw[<-e1,<-e2];exact aT _ rfl
 |false=>
  refine wpAny_pyIter_longrange hr kP ⟨s.heap.objs.size,[s.heap.objs.size],_,_,H,rfl,I.kept (t':=s.toks) λb o e=>ai _ e,xov _ a c (zg a b c),?_,fp,q⟩;show j5 _ _ (a+((0:Nat):Int)*c) (((zg a b c:Nat):Int) - ((0:Nat):Int)) c;rw[<-e1,<-e2];exact aT _ rfl
def xkp(k:Int->Hp->Prop):List V->Hp->Prop:=λvs H=>match vs with
 |[.int j]=>k j H
 |_=>False
def xg6(k:Int->Int->Hp->Prop):List V->Hp->Prop:=λvs H=>match vs with
 |[.int i,.int j]=>k i j H
 |_=>False
def xnb(k:Int->Int->Int->Hp->Prop):List V->Hp->Prop:=λvs H=>match vs with
 |[.int i,.int j,.int l]=>k i j l H
 |_=>False
def xid{k:Int->Hp->Prop}(h:xkp k vs H):∃j,vs=[.int j]/\k j H:=by
 unfold xkp at h
 split at h
 ·exact⟨_,rfl,h⟩
 ·exact h.elim
def xgo{k:Int->Int->Hp->Prop}(h:xg6 k vs H):∃i j,vs=[.int i,.int j]/\k i j H:=by
 unfold xg6 at h
 split at h
 ·exact⟨_,_,rfl,h⟩
 ·exact h.elim
def xpS{k:Int->Int->Int->Hp->Prop}(h:xnb k vs H):∃i j l,vs=[.int i,.int j,.int l]/\k i j l H:=by
 unfold xnb at h
 split at h
 ·exact⟨_,_,_,rfl,h⟩
 ·exact h.elim
def xmq{i:Int}(r:Vals [.int i] us):∃t,us=[.int i t]:=by
 obtain⟨u,rfl,t,rfl⟩:=Vals.one r;exact⟨t,rfl⟩
def xmr{i j:Int}(r:Vals [.int i,.int j] us):∃t t',us=[.int i t,.int j t']:=by
 obtain⟨u,v,rfl,⟨t,rfl⟩,⟨t',rfl⟩⟩:=Vals.two r;exact⟨t,t',rfl⟩
theorem xrh{i j l:Int}(r:Vals [.int i,.int j,.int l] us):∃t t' kP,us=[.int i t,.int j t',.int l kP]:=by
 cases r with
 |cons r rr=>
  obtain⟨t',kP,rfl⟩:=xmr rr;obtain⟨t,rfl⟩:=r;exact⟨t,t',kP,rfl⟩
def xox(c:Int):Prop:=c≠0/\c.natAbs.log2<9000
def xtw(ta:TA):TI:=λσ H R=>ta σ H (xkp λj H1=>R (Its 0 1 (zg 0 j 1)) H1)
def xtx(ta:TA):TI:=λσ H R=>ta σ H (xnb λi j c H1=>xox c/\R (Its i c (zg i j c)) H1)
def xbd(hg:Gl X "range")(hm:X.mg "range"=none)(ha:PA X [a] ta)(hs:autoParam (aE [a] X.env=[(false,eval a X.env)]) sV):PI X tg (.Call (.Name "range" p) [a] [] pos) (xtw ta):=by
 intro pins s σ H R I h;refine Call_ (vK I hg hm j6 (bW (uJ (ha pos pins s σ H _ I h) λus s1 vs H1 I1 r1 q1=>?_) hs rfl));obtain⟨j,rfl,q⟩:=xid q1;obtain⟨t,rfl⟩:=xmq r1;refine call_range_1 (xow (I1.kept (t':=_) λb o e=>ai _ e) (IsRange.new ..) q)
def xjl(hg:Gl X "range")(hm:X.mg "range"=none)(ha:PA X [a,b,c] ta)(hs:autoParam (aE [a,b,c] X.env=(false,eval a X.env)::aE [b,c] X.env) sV)(kP:autoParam ((bR pos (aE [b,c] X.env)).any (·.1)=false) sV):
  PI X tg (.Call (.Name "range" p) [a,b,c] [] pos) (xtx ta):=by
 intro pins s σ H R I h;refine Call_ (vK I hg hm j6 (bW (uJ (ha pos pins s σ H _ I h) λus s1 vs H1 I1 r1 q1=>?_) hs kP));obtain⟨i,j,l,rfl,⟨h0,hl⟩,q⟩:=xpS q1;obtain⟨t,t',kQ,rfl⟩:=xrh r1;exact call_range_3 h0 (xow (I1.kept (t':=_) λb o e=>ai _ e) (IsRange.new ..) q) (.inl (iy hl))
def xty(ta:TA):TE:=λσ H Q=>ta σ H (xg6 λi j H1=>∀p,H1 p=none->Q (.ref p) (upd H1 p (.rng i j)))
def xsD(ta:TA):TE:=λσ H Q=>ta σ H (xkp λj H1=>∀p,H1 p=none->Q (.ref p) (upd H1 p (.rng 0 j)))
def xcR(hg:Gl X "range")(hm:X.mg "range"=none)(ha:PA X [a,b] ta)(hs:autoParam (aE [a,b] X.env=[(false,eval a X.env),(false,eval b X.env)]) sV)(kP:autoParam (aE [b] X.env=[(false,eval b X.env)]) sV):
  PE X (.Call (.Name "range" p) [a,b] [] pos) (xty ta):=by
 intro pins s σ H Q I h;refine Call_ (vK I hg hm j6 (bW (uJ (ha pos pins s σ H _ I h) λus s1 vs H1 I1 r1 q1=>?_) (by rw[hs,kP]) (by rw[kP];rfl)));obtain⟨i,j,rfl,q⟩:=xgo q1;obtain⟨t,t',rfl⟩:=xmr r1;refine call_range_2 ⟨.ref s1.heap.objs.size,upd H1 s1.heap.objs.size (.rng i j),I1.laid (λb o e=>ai _ e) (ay _) ⟨_,_,_,aT _ rfl⟩,rfl,q _ (I1.hok.fresh (ay _))⟩
def xoy(hg:Gl X "range")(hm:X.mg "range"=none)(ha:PA X [a] ta)(hs:autoParam (aE [a] X.env=[(false,eval a X.env)]) sV):
  PE X (.Call (.Name "range" p) [a] [] pos) (xsD ta):=by
 intro pins s σ H Q I h;refine Call_ (vK I hg hm j6 (bW (uJ (ha pos pins s σ H _ I h) λus s1 vs H1 I1 r1 q1=>?_) hs rfl));obtain⟨j,rfl,q⟩:=xid q1;obtain⟨t,rfl⟩:=xmq r1;refine call_range_1 ⟨.ref s1.heap.objs.size,upd H1 s1.heap.objs.size (.rng 0 j),I1.laid (λb o e=>ai _ e) (ay _) ⟨_,_,_,aT _ rfl⟩,rfl,q _ (I1.hok.fresh (ay _))⟩
end Internal.L2
namespace PySem
open Sem (wp)
section
variable {prog:aH} {w:World} {A:bo} {E:Value->ak->Prop} {s:ak}
def xnc{R:ij->ak->Prop}{r:Addr}{a b c:Int}{t u v:Tok}{k:Nat}(kT:A.handled=none)(hr:IsRange s.heap r a b c t u v)(kQ:gA a b c=false)
  (hk:bq a b c=k) (hle:k<=2^24) (D:Addr) (z:Value) (m₀:Nat) (hD:s.heap.get? D=some {cls:=.type "list",data:=.seq #[] m₀})
  (hR:∀g tk xs m,(∀b o,b≠D->s.heap.get? b=some o->g.get? b=some o)->g.get? D=some {cls:=.type "list",dict:=none,data:=.seq xs m,slots:=#[]}->
   ItemsOf (λi v=>∃t,v= .int (a+i*c) t) xs k->R (.ok (.ret z)) {s with heap:=g,toks:=tk}):
  wpAny (model prog w) A.in1 (cO (.ref D) (.ref r) z)
   (λfin s'=>match fin with| .done f=>R (.ok f) s'| .again d=>d.quiet=true/\cP (model prog w) A d R s') (λe s'=>R (.error e) s') s:=by
 have kR:D≠r:=λe=>by rw[e,hr]at hD;simp at hD
 have kP:D≠s.heap.objs.size:=aQ (aB hD);have kS:D∉[s.heap.objs.size]:=λq=>kP (aj.mp q);have Wk:=(Walks.longrange (prog:=prog) (w:=w) (A:=A.in1) kT s.heap.objs.size a c k).toS;have fin:∀(g:Heap) (m₁ tk:Nat),j5 g s.heap.objs.size (a+((0:Nat):Int)*c) ((k:Int) - ((0:Nat):Int)) c->(∀b o,b≠D->s.heap.get? b=some o->g.get? b=some o)->
   g.get? D=some {cls:=.type "list",data:=.seq #[] m₁}->cP (model prog w) A (.builtin "list.extend.loop" ⟨[.ref D,.ref s.heap.objs.size,z],[]⟩) R {s with heap:=g,toks:=tk}:=by
  intro g m₁ tk q1 q2 q3;refine codeAny_extend_loopS Wk (by rw[aZ];omega) D kS z k 0 _ #[] m₁ rfl (bL _) q1 q3 (ItemsOf.nil _) λs' xs m hm kW hx=>?_;rw[Moved.eq_with hm];refine hR s'.heap s'.toks xs m (λb o hb e=>hm.heap b o (λhq=>?_) (q2 b o hb e)) kW hx;rcases av.mp hq with e'|hq
  ·exact hb e'
  ·exact absurd (aB e) (by rw[aj.mp hq];exact cg _)
 unfold cO;refine af (wpAny_typeOf (T:="range") ⟨_,hr,rfl⟩ ?_);have x1:iA (.ref D) (.ref r)=false:=by simp[iA,kR]
 have x2:(eP "range"==eP "list")=false:=by decide
 have x3:(eP "range"==eP "tuple")=false:=by decide
 simp only[x1,x2,x3,Bool.or_false,ee,if_false];refine af (wpAny_pyIter_longrange hr kQ ?_);refine af (bJ (wpAny_hint_range (n:=k) (ai _ hr) hk hle ?_));generalize hG:s.heap.push {cls:=.type "longrange_iterator",data:=.fields #[bN a,bN (bq a b c),bN c]}=G;have i1:j5 G s.heap.objs.size (a+((0:Nat):Int)*c) ((k:Int) - ((0:Nat):Int)) c:=by
  have q:G.get? s.heap.objs.size=some {cls:=.type "longrange_iterator",data:=.fields #[bN a,bN (bq a b c),bN c]}:=by rw[<-hG];exact aT _ rfl
  rw[hk]at q;show G.get? _=_;rw[q];simp
 have old:∀b o,s.heap.get? b=some o->G.get? b=some o:=λb o e=>by rw[<-hG];exact ai _ e
 have d1:=old D _ hD;refine wpAny_ite_split (λ_=>?_) (λ_=>aA ⟨eY F.plain_extend_loop _,fin _ m₀ _ i1 (λb o _ e=>old b o e) d1⟩);refine af (wpAny_rule ?_);refine af ?_;show wpAny _ _ (iM D (·.push .none) >>= λ_=>iM D (·.pop)) _ _ _;refine af (eg d1 rfl ?_);have d2:=bu (dk (·.push bp)) d1 rfl;refine eg (hz:=by seq_fits) d2 rfl ?_;have d3:=bu (dk (·.pop)) d2 rfl;refine aA ⟨eY F.plain_extend_loop _,fin _ _ _ ?_ (λb o hb e=>?_) d3⟩
 ·exact(bg _ _ kP).trans ((bg _ _ kP).trans i1)
 ·exact(bg _ _ (au hb)).trans ((bg _ _ (au hb)).trans (old b o e))
theorem xnd{R:ij->ak->Prop}{r:Addr}{a b c:Int}{t u v:Tok}{k:Nat}(kP:A.handled=none)(hr:IsRange s.heap r a b c t u v)
  (hk:bq a b c=k) (hle:k<=2^24) (D:Addr) (z:Value) (m₀:Nat) (hD:s.heap.get? D=some {cls:=.type "list",data:=.seq #[] m₀})
  (hR:∀g tk xs m,(∀b o,b≠D->s.heap.get? b=some o->g.get? b=some o)->g.get? D=some {cls:=.type "list",dict:=none,data:=.seq xs m,slots:=#[]}->
   ItemsOf (λi v=>∃t,v= .int (a+i*c) t) xs k->R (.ok (.ret z)) {s with heap:=g,toks:=tk}):
  wpAny (model prog w) A.in1 (cO (.ref D) (.ref r) z)
   (λfin s'=>match fin with| .done f=>R (.ok f) s'| .again d=>d.quiet=true/\cP (model prog w) A d R s') (λe s'=>R (.error e) s') s:=by
 cases hs:gA a b c with
 |true=>exact wpAny_extend_range kP hr hs hk hle D z m₀ hD hR
 |false=>exact xnc kP hr hs hk hle D z m₀ hD hR
def xie{Q:Value->ak->Prop}{r:Addr}{a b c:Int}{t u v:Tok}{k:Nat}(kR:A.handled=none)(hr:IsRange s.heap r a b c t u v)
  (hk:bq a b c=k) (hle:k<=2^24)
  (hQ:∀g tk xs m,(∀b o,s.heap.get? b=some o->g.get? b=some o)->
   g.get? s.heap.objs.size=some {cls:=.type "list",dict:=none,data:=.seq xs m,slots:=#[]}->ItemsOf (λi v=>∃t,v= .int (a+i*c) t) xs k->Q (.ref s.heap.objs.size) {s with heap:=g,toks:=tk}):
  wpAny (model prog w) A (call (.type "list") [.ref r]) Q E s:=by
 refine callType_codes (Q₁:=λobj s₁=>obj= .ref s.heap.objs.size/\s₁={s with heap:=s.heap.push {cls:=.type "list",data:=.seq #[]}}) F.called_list (F.typeCall_list_1 _) F.entry_list_init
  (code_list_new _ ⟨rfl,rfl⟩) λobj s₁ q₁=>?_
 obtain⟨rfl,rfl⟩:=q₁;generalize hG:s.heap.push {cls:=.type "list",data:=.seq #[]}=G;have old:∀b o,s.heap.get? b=some o->G.get? b=some o:=λb o e=>by rw[<-hG];exact ai _ e
 have hD:G.get? s.heap.objs.size=some {cls:=.type "list",data:=.seq #[]}:=by rw[<-hG];exact aT _ rfl
 have kQ:s.heap.objs.size≠r:=λe=>absurd (aB hr) (by rw[<-e];exact cg _);refine⟨⟨_,hD,rfl⟩,F.args_list_init_2 _ _,?_⟩;show wpAny _ _ (do let old <-iS (.ref s.heap.objs.size);Builtin.List.listUpdate (.ref s.heap.objs.size) (λ_=>#[]);letGo old.toList.reverse;cO (.ref s.heap.objs.size) (.ref r) .none) _ _ _;refine af ?_;unfold iS;refine af (fL hD rfl (aA ?_));show wpAny _ _ (iM s.heap.objs.size (λ_=>#[]) >>= λ_=>letGo (#[]:Array Value).toList.reverse >>= λ_=>cO (.ref s.heap.objs.size) (.ref r) .none) _ _ _;refine af (eg hD rfl ?_);have d2:=bu (dk (λ_=>(#[]:Array Value))) hD rfl;have kP:∀b o,b≠s.heap.objs.size->G.get? b=some o->(G.update s.heap.objs.size (dk (λ_=>(#[]:Array Value)))).get? b=some o:=
  λb o hb e=>(bg _ _ (au hb)).trans e
 refine af (gG ?_);refine xnd (A:=A.in1) kR (kP r _ (au kQ) (old r _ hr)) hk hle s.heap.objs.size .none _ d2 λg tk xs m q1 q2 q3=>⟨rfl,?_⟩;exact hQ g tk xs m (λb o e=>q1 b o (aQ (aB e)) (kP b o (aQ (aB e)) (old b o e))) q2 q3
end
end PySem
namespace Internal.L2
open PySem PySem.Spec PyProof.Rows
variable {H H' H0 H2:Hp} {X:Cx} {K:aq} {l p a D f c:Addr} {Q:VK} {n i:Nat} {σ:St} {x qual name:Str} {pos:Pos} {s:ak} {o:HO} {te:TE} {xs:List V} {scope:Scope} {pins:List (Addr×Obj)} {e:Expr} {caps:L2.St} {ps fns:List Str} {CX:CXT} {w:World} {params:cZ} {lo st:Int} {as:List Addr} {xss:List (List Int)} {P:aH} {body:eS} {mg:Str->Option Value} {fv:List (Str×V)} {fd:ax} {sp:Sp} {E:XK} {es:List Expr} {g:TG} {tb:TS} {A:bo} {us:List Value}
def xdY(lo:Int)(n:Nat):List V:=(d7 n).map λ(i:Nat)=>V.int (lo+(i:Int))
def xf2(lo:Int)(n:Nat):(xdY lo n).length=n:=by simp[xdY]
theorem xf3:∀{xs:List V} {us:List Value},xs.length=us.length->(∀(j:Nat) (x:V) (u:Value),xs[j]? =some x->us[j]? =some u->RelV x u)->Vals xs us
 |[],[],_,_=>.nil
 |[],_::_,h,_=>by simp at h
 |_::_,[],h,_=>by simp at h
 |x::xs,u::us,h,k=>.cons (k 0 x u rfl rfl) (xf3 (by simpa using h) λj y v e1 e2=>k (j+1) y v (by simpa using e1) (by simpa using e2))
theorem xne{xs:Array Value}(h:ItemsOf (λi v=>∃t,v= .int (lo+(i:Int)*1) t) xs n):Vals (xdY lo n) xs.toList:=by
 obtain⟨hl,hv⟩:=h;refine xf3 (by rw[xf2];simp[hl]) λj x u e1 e2=>?_;obtain⟨t,rfl⟩:=hv j u (by simpa using e2);unfold xdY at e1;rw[aF]at e1;cases q:(d7 n)[j]? with
 |none=>rw[q]at e1;cases e1
 |some i=>
  rw[q]at e1;have e3:i=j:=by
   obtain⟨h1,h2⟩:=aw.mp q;rw[kB]at h2;exact h2.symm
  subst e3;cases e1;exact⟨t,by rw[Int.mul_one]⟩
def ve(hc:X.calm=true):zy X (.type "list") (λxs H Q=>∃p lo hi,xs=[.ref p]/\H p=some (.rng lo hi)/\zg lo hi 1<=2^24/\∀l,H l=none->Q (.ref l) (upd H l (.lst (xdY lo (zg lo hi 1))))):=by
 intro pins s σ H xs us Q I r h;obtain⟨p,lo,hi,rfl,hp,hz,q⟩:=h;obtain⟨u,rfl,ru⟩:=Vals.one r;cases ru;obtain⟨t,u,v,hr⟩:=I.hok p _ hp;refine xie (I.ok.hd hc) hr (xjk lo hi 1).symm hz λg tk xs m k1 k2 k3=>?_;have fr:H s.heap.objs.size=none:=I.hok.fresh (ay _);refine⟨.ref s.heap.objs.size,upd H s.heap.objs.size (.lst (xdY lo (zg lo hi 1))),I.laid (h':=g) (t':=tk) k1 (ay _) ⟨?_,xs.toList,m,xne k3,by simpa using k2⟩,rfl,q _ fr⟩;rw[xf2,aZ];omega
mutual
inductive Rp(K:aq)(H:Hp):V->fF->Prop
 |non:Rp K H .non .none
 |bl (b:Bool):Rp K H (.bl b) (.bool b)
 |int (i:Int):Rp K H (.int i) (.int i)
 |str (x:Str):Rp K H (.str x) (.str x)
 |lst {a:Addr} {xs:List V} {ds:List fF}:SqL K H a xs->Rps K H xs ds->Rp K H (.ref a) (.list ds)
 |tup {a:Addr} {xs:List V} {ds:List fF}:SqT K H a xs->Rps K H xs ds->Rp K H (.ref a) (.tuple ds)
inductive Rps(K:aq)(H:Hp):List V->List fF->Prop
 |nil:Rps K H [] []
 |cons {x:V} {d:fF} {xs:List V} {ds:List fF}:Rp K H x d->Rps K H xs ds->Rps K H (x::xs) (d::ds)
end
def xj.seqT(e:xj H H')(h:SqT K H a xs):SqT K H' a xs:=by
 rcases h with(h|⟨o,h⟩)|h
 ·exact .inl (.inl (e _ _ h))
 ·exact .inl (.inr ⟨o,e _ _ h⟩)
 ·exact .inr h
theorem Rps.ints{K:aq}{H:Hp}:∀ns:List Int,Rps K H (ns.map V.int) (ns.map fM)
 |[]=>.nil
 |i::r=>.cons (.int i) (Rps.ints r)
def Rp.ints{ns:List Int}(h:SqL K H a (ns.map V.int)):Rp K H (.ref a) (.list (ns.map fM)):=.lst h (.ints ns)
mutual
theorem Rp.reads(I:Inv X pins σ H s):∀{v:V} {d:fF} {u:Value},Rp X.K H v d->RelV v u->∃as,Reads s.heap u d as
 |_,_,u,.non,r=>by cases (show u=bp from r);exact⟨_,.none⟩
 |_,_,u,.bl b,r=>by cases (show u=di b from r);exact⟨_,.bool b⟩
 |_,_,u,.int i,r=>by obtain⟨t,e⟩:=(show∃t,u=gI i t from r);subst e;exact⟨_,.int i t⟩
 |_,_,u,.str x,r=>by obtain⟨t,e⟩:=(show∃t,u=gJ x t from r);subst e;exact⟨_,.str x t⟩
 |_,_,u,.lst (a:=a) q rr,r=>by
  cases (show u=aG a from r);obtain⟨its,rv,p,hz⟩:=I.list q;obtain⟨as,ra⟩:=Rps.reads I rr rv;obtain⟨o,ho,hc,n,hd⟩:=p.isList;exact⟨_,.list ho hc hd (by simpa using ra)⟩
 |_,_,u,.tup (a:=a) q rr,r=>by
  cases (show u=aG a from r);obtain⟨its,rv,p,hz⟩:=I.tuple q;obtain⟨as,ra⟩:=Rps.reads I rr rv;obtain⟨o,ho,hc,n,hd⟩:=p;exact⟨_,.tuple ho hc hd (by simpa using ra)⟩
theorem Rps.reads(I:Inv X pins σ H s):∀{v:List V} {d:List fF} {u:List Value},Rps X.K H v d->Vals v u->∃as,ReadsAll s.heap u d as
 |_,_,_,.nil,.nil=>⟨_,.nil⟩
 |_,_,_,.cons q rr,.cons r t=>by
  obtain⟨as,h1⟩:=Rp.reads I q r;obtain⟨bs,h2⟩:=Rps.reads I rr t;exact⟨_,.cons h1 h2⟩
end
def xif(K:aq)(f:Bool->Bool):R2:=λx y H Q=>Ex2 λda db=>Rp K H x da/\Rp K H y db/\cF da=true/\cF db=true/\Q (.bl (f (eo da db))) H
def xdZ(hu:X.A.units+64<cLine):OpR X (bF .Eq) (xif X.K λb=>b):=by
 intro pins s σ H x y v u Q I rx ry q;obtain⟨da,db,hx,hy,sa,sb,q⟩:=q;obtain⟨as,ra⟩:=hx.reads I rx;obtain⟨bs,rb⟩:=hy.reads I ry;exact eq_dataH ra rb sa sb hu ⟨.bl (eo da db),H,I,rfl,q⟩
def xa6(hu:X.A.units+64<cLine):OpR X (bF .NotEq) (xif X.K λb=> !b):=by
 intro pins s σ H x y v u Q I rx ry q;obtain⟨da,db,hx,hy,sa,sb,q⟩:=q;obtain⟨as,ra⟩:=hx.reads I rx;obtain⟨bs,rb⟩:=hy.reads I ry;exact ne_dataH ra rb sa sb hu ⟨.bl (!PyData.eqv da db),H,I,rfl,q⟩
def xud(K:aq)(f:Bool->Bool):R2:=λx y H Q=>Ex4 λ(a b:Addr) (ns ms:List Int)=>x= .ref a/\y= .ref b/\SqL K H a (ns.map V.int)/\SqL K H b (ms.map V.int)/\Q (.bl (f (decide (ns=ms)))) H
def jW{f:Bool->Bool}{x y:V}(q:xud K f x y H Q):xif K f x y H Q:=by
 obtain⟨a,b,ns,ms,rfl,rfl,ha,hb,q⟩:=q;refine⟨_,_,.ints ha,.ints hb,W.ke_shaped_ints ns,W.ke_shaped_ints ms,?_⟩;have e:eo (.list (ns.map fM)) (.list (ms.map fM))=decide (ns=ms):=W.ked_eqvAll ns ms;rw[e];exact q
def xsE:V->Option Value
 | .ty n=>some (.type n)
 | .ref a=>some (.ref a)
 |_=>none
theorem xpT{c:V}{cv v:Value}(h:xsE c=some cv)(r:RelV c v):v=cv:=by
 cases c with
 |ref a=>cases h;exact r
 |ty n=>cases h;exact r
 |_=>cases h
def xsF(K:aq):List V->Hp->VK->Prop:=λxs H Q=>Ex5 λx c t cv b=>xs=[x,c]/\xsE c=some cv/\uA K H x t/\ik K t cv=some b/\Q (.bl b) H
def vN:zy X (.builtin "isinstance") (xsF X.K):=by
 intro pins s σ H xs us Q I r h;obtain⟨x,c,t,cv,b,rfl,rc,ty,e,q⟩:=h;obtain⟨u,v,rfl,ru,rv⟩:=Vals.two r;have e2:=xpT rc rv;subst e2;exact xol I ru ty e λtk=>⟨.bl b,H,I.tok _,rfl,q⟩
structure xpU(K:aq)(C:Addr)(m:Str)(f:Addr):Prop where
 sp:iQ K (.ref C) "__getattribute__"=some (some (.builtin "type.__getattribute__"))
 rd:W.readsIn K C (.type "type")=true
 fd:W.findCls K (.ref C) (.type "type") m=some (.val (.ref f))
 kp:cx K (.ref f)=true
def xms{m:Str}{C:Addr}{dvs:List V}{ds:List Value}{k:Nat}{p apos:Pos}{t:TA}{pl:Sem Bool}
  (hg:Gl X x) (hm:X.mg x=some (.ref C)) (M:xpU X.K C m f) (F:xE X.prog X.w X.K X.mg X.base CX k f fd ps sp) (hr:ya k X.A) (hb:Binds X.K fd ps ds) (hd:Vals dvs ds) (hx:Passes CX X E) (ha:PA X (e::es) t)
  (kP:autoParam (aE (e::es) X.env=(false,eval e X.env)::aE es X.env) sV) (kQ:autoParam ((bR pos (aE es X.env)).any (·.1)=false) sV) (kR:autoParam ((x==("__debug__":Str))=false) sJ)
  (ht:autoParam (eval (.Call (.Attribute (.Name x p) m apos) (e::es) [] pos) X.env=(do
   let ov <-eval (.Name x p) X.env
   ic apos.atName
   let(f,first) <-fK [ov] (gf ov m pl)
   fD pos f first (bR pos (aE (e::es) X.env)) (il pos (fT [] X.env)))) sV):
  PE X (.Call (.Attribute (.Name x p) m apos) (e::es) [] pos) (xfI sp dvs E t):=by
 intro pins s σ H Q I h;refine fk (pl:=pl) (zR I hg hm ?_ kR) ht;refine W.method_cls I.kIn M.sp (W.cls_value I.kIn M.rd M.fd rfl ?_);have I1:=I.tok (s.toks+1);refine fC (first:=[]) (h₀:=X.base) I.ok.mod.kin M.kp (uJ (ha pos pins _ σ H _ I1 h) λus s2 vs H2 I2 r q2=>⟨I2.kIn,?_⟩) kP kQ;exact xgV F hr hb hd hx I2 r q2
def yu:bM "len"=some (.builtin "len"):=by decide+kernel
def xg7:bM "max"=some (.builtin "max"):=by decide+kernel
def xg8:bM "min"=some (.builtin "min"):=by decide+kernel
def xsG:bM "abs"=some (.builtin "abs"):=by decide+kernel
def zE:bM "isinstance"=some (.builtin "isinstance"):=by decide+kernel
def xeZ:bM "sum"=some (.builtin "sum"):=by decide+kernel
def xsH:bM "all"=some (.builtin "all"):=by decide+kernel
def zS:bM "list"=some (.type "list"):=by decide+kernel
def yP:bM "tuple"=some (.type "tuple"):=by decide+kernel
def xe0:bM "int"=some (.type "int"):=by decide+kernel
def xri:bM "bool"=some (.type "bool"):=by decide+kernel
def xcc:bM "enumerate"=some (.type "enumerate"):=by decide+kernel
def xrj{f:Str}{v:V}{fs:List (Str×V)}(h:fs.length<n):(vm f v fs).length<n+1:=d8 (xc4 f v fs) (by lia)
section
variable {a b c:Expr} {ta tb:TE}
def xkq(hc:X.calm=true):zy X (.builtin "max") (λxs H Q=>xg6 (λi j H1=>Q (.int (max i j)) H1) xs H):=(xoj hc).imp λxs H Q q=>by
 obtain⟨i,j,rfl,q⟩:=xgo q;refine⟨i,j,rfl,?_⟩;have e:(if j > i then j else i)=max i j:=by split<;> lia
 rw[e];exact q
def xg9(hc:X.calm=true):zy X (.builtin "min") (λxs H Q=>xg6 (λi j H1=>Q (.int (min i j)) H1) xs H):=(xok hc).imp λxs H Q q=>by
 obtain⟨i,j,rfl,q⟩:=xgo q;refine⟨i,j,rfl,?_⟩;have e:(if j<i then j else i)=min i j:=by split<;> lia
 rw[e];exact q
def xtz:zy X (.builtin "abs") (λxs H Q=>xkp (λi H1=>Q (.int (i.natAbs:Int)) H1) xs H):=xpH.imp λxs H Q q=>by
 obtain⟨i,rfl,q⟩:=xid q;refine⟨i,rfl,?_⟩;have e:(if i<0 then -i else i)=(i.natAbs:Int):=by split<;> lia
 rw[e];exact q
def isN:V->Bool
 | .non=>true
 |_=>false
def xig(x:V):decide (x= .non)=isN x:=by cases x<;> simp[isN]
def xue(ta:TE):TE:=λσ H Q=>ta σ H λx H1=>Q (.bl (isN x)) H1
def xsI{j pos'}(ha:PE X a ta):PE X (.Compare a [.Is] [.Constant .none j pos'] pos) (xue ta):=(xsi (xod ha)).imp λσ H Q q=>by
 show ta σ H _;have e:(λx H1=>Q (.bl (decide (x=V.non))) H1)=λx H1=>Q (.bl (isN x)) H1:=by funext x H1;rw[xig]
 rw[e];exact q
def xtA(ta:TE):TT:=λσ H Q=>ta σ H λx H1=>Q (isN x) H1
def xsJ(ta:TE):TT:=λσ H Q=>ta σ H λx H1=>Q (!isN x) H1
def xbe{j pos'}(ha:PE X a ta):PT X (.Compare a [.Is] [.Constant .none j pos'] pos) (xtA ta):=(xoe (xod ha)).imp λσ H Q q=>by
 show ta σ H _;have e:(λx H1=>∃c,V.bl (decide (x=V.non))= .bl c/\Q c H1)=λx H1=>Q (isN x) H1:=by
  funext x H1;rw[xig];apply propext;exact⟨λ⟨c,e,q⟩=>by cases e;exact q,λq=>⟨_,rfl,q⟩⟩
 rw[e];exact q
def xfL{j pos'}(ha:PE X a ta):PT X (.Compare a [.IsNot] [.Constant .none j pos'] pos) (xsJ ta):=(xoe (xq0 ha)).imp λσ H Q q=>by
 show ta σ H _;have e:(λx H1=>∃c,V.bl (!decide (x=V.non))= .bl c/\Q c H1)=λx H1=>Q (!isN x) H1:=by
  funext x H1;rw[xig];apply propext;exact⟨λ⟨c,e,q⟩=>by cases e;exact q,λq=>⟨_,rfl,q⟩⟩
 rw[e];exact q
def kB0(g:Bool->Bool->V):R2:=λx y H Q=>match x with
 | .bl i=>(match y with
  | .bl j=>Q (g i j) H
  |_=>False)
 |_=>False
end
def xcS{D:Ends}(Pv:Nat->St->Hp->Prop)(h0:Pv 0 σ H)
  (hs:∀(i:Nat) σ H,i<n->Pv i σ H->g (.int (lo+i*st)) σ H λσ2 H2=>tb {D with nx:=Pv (i+1),ct:=Pv (i+1),bk:=D.nx} σ2 H2) (hd:∀σ H,Pv n σ H->D.nx σ H):vC (Its lo st n) g tb D σ H:=by
 unfold vC;refine⟨λi m σ H=>m=n - i/\i<=n/\Pv i σ H,⟨n,by simp,bL _,h0⟩,?_⟩;rintro i m σ H ⟨rfl,hi,p⟩
 by_cases kP:i<n
 ·refine .inr ⟨kP,Pv (i+1),λσ' H' p'=>⟨n - (i+1),by lia,rfl,kP,p'⟩,λx H' y=>?_⟩;obtain⟨e,y⟩:=y;subst e y;exact hs i σ _ kP p
 ·have e:i=n:=by lia
  subst e;exact .inl ⟨ay _,hd σ H p⟩
def zr{D:Ends}(Pv:Nat->St->Hp->Prop)(h0:Pv 0 σ H)(hl:∀i σ H,i<=xs.length->Pv i σ H->SqL K H l xs)
  (hs:∀i x σ H,xs[i]? =some x->Pv i σ H->g x σ H λσ2 H2=>tb {D with nx:=Pv (i+1),ct:=Pv (i+1),bk:=D.nx} σ2 H2) (hd:∀σ H,Pv xs.length σ H->D.nx σ H):vC (Itl K l) g tb D σ H:=by
 unfold vC;exact xpF Pv h0 hl hs hd
def xjm{D:Ends}(Pv:Nat->St->Hp->Prop)(h0:Pv 0 σ H)(hl:∀i σ H,i<=xs.length->Pv i σ H->SqT K H l xs)
  (hs:∀i x σ H,xs[i]? =some x->Pv i σ H->g x σ H λσ2 H2=>tb {D with nx:=Pv (i+1),ct:=Pv (i+1),bk:=D.nx} σ2 H2) (hd:∀σ H,Pv xs.length σ H->D.nx σ H):vC (Itt K l) g tb D σ H:=by
 unfold vC;exact xq2 Pv h0 hl hs hd
def xj.new(h:H p=none):xj H (upd H p o):=λb u e=>by rw[xm (xG e h)];exact e
def xj.put(e:xj H H')(h:H p=none):xj H (upd H' p o):=λb u q=>by rw[xm (xG q h)];exact e b u q
def xj.at(e:xj H H')(h:H p=some o):H' p=some o:=e p o h
def xj.of_eq(h:H p=none)(e:upd H p o=H'):xj H H':=by rw[<-e];exact xj.new h
def xU(e:upd H p o=H'):H' p=some o:=by rw[<-e];exact xp
def xj.back(e:xj H H')(h:H' p=none):H p=none:=xj.free e h
def xj.wr(s:xj H0 H)(f:H0 p=none)(e:upd H p o=H'):xj H0 H':=by rw[<-e];exact s.put f
structure uS(H0 H:Hp)(l:Addr)(as:List Addr)(xss:List (List Int)):Prop where
 top:H l=some (.lst (as.map V.ref))
 nd:(l::as).Nodup
 len:as.length=xss.length
 each:∀(i:Nat) (a:Addr) (xs:List Int),as[i]? =some a->xss[i]? =some xs->H a=some (.lst (xs.map V.int))
 fr:H0 l=none
 frs:∀a∈as,H0 a=none
def uS.same(L:uS H0 H l as xss)(s:xj H H'):uS H0 H' l as xss:=
 ⟨s.at L.top,L.nd,L.len,λi a xs h1 h2=>s.at (L.each i a xs h1 h2),L.fr,L.frs⟩
def uS.nil{H':Hp}(h:H0 l=none)(e:H l=some (.lst [])):uS H0 H l [] []:=
 ⟨e,by simp,rfl,λi a xs h1 _=>by simp at h1,h,λa ha=>by simp at ha⟩
def uS.tracked(L:uS H0 H l as xss)(ha:a∈as):∃xs:List Int,H a=some (.lst (xs.map V.int)):=by
 obtain⟨i,hi,rfl⟩:=gv.mp ha;have h2:i<xss.length:=by rw[<-L.len];exact hi
 exact⟨xss[i],L.each i _ _ (aD hi) (aD h2)⟩
def uS.apart(L:uS H0 H l as xss)(h:H p=none):p∉l::as:=by
 intro z;rcases av.mp z with rfl|z
 ·rw[L.top]at h;cases h
 ·obtain⟨xs,e⟩:=L.tracked z;rw[e]at h;cases h
theorem uS.push{xs:List Int}(L:uS H0 H l as xss)(hp:H p=some (.lst (xs.map V.int)))(kQ:p∉l::as)(hf:H0 p=none)
  (e:upd H l (.lst (as.map V.ref++[.ref p]))=H'):uS H0 H' l (as++[p]) (xss++[xs]):=by
 subst e;have kP:p≠l:=λz=>kQ (by rw[z];exact bh);have kS:p∉as:=λz=>kQ (aL _ z);obtain⟨n1,n2⟩:=bA.mp L.nd;refine⟨by rw[xp,bH];rfl,?_,by simp[L.len],λi a ys h1 h2=>?_,L.fr,λa ha=>?_⟩
 ·refine bA.mpr ⟨λz=>?_,xmo n2 kS⟩;rcases aW.mp z with z|z
  ·exact n1 z
  ·exact kP (aj.mp z).symm
 ·have kT:a∈as++[p]:=aK h1;have kR:a≠l:=λz=>by
   subst z;rcases aW.mp kT with z|z
   ·exact n1 z
   ·exact kP (aj.mp z).symm
  rw[xm kR]
  by_cases hi:i<as.length
  ·rw[bj hi]at h1;rw[bj (by rw[<-L.len];exact hi)]at h2;exact L.each i a ys h1 h2
  ·rw[bx (by lia)]at h1;rw[bx (by rw[<-L.len];lia)]at h2;have e1:i - as.length=0:=by
    cases hq:i - as.length with
    |zero=>rfl
    |succ k=>rw[hq]at h1;simp at h1
   rw[e1]at h1;rw[<-L.len,e1]at h2;simp at h1 h2;rw[<-h1,<-h2];exact hp
 ·rcases aW.mp ha with z|z
  ·exact L.frs a z
  ·have z':a=p:=by simpa using z
   rw[z'];exact hf
def xha(f:Nat->List Int)(hn:n<=aU)
  (hs:∀(i:Nat) (H3:Hp),i<n->xj H2 H3->∀R:VK,(∀l H6,xj H3 H6->H3 l=none->H6 l=some (.lst ((f i).map V.int))->R (.ref l) H6)->te (some (.int (lo+i*st))::caps) H3 R)
  (hd:∀D H' as,xj H2 H'->uS H2 H' D as ((d7 n).map f)->Q (.ref D) H'):zW (Its lo st n) caps xic te Q H2:=by
 unfold zW;intro D hD;refine⟨λi m acc H3=>m=n - i/\i<=n/\xj H2 H3/\∃as,acc=as.map V.ref/\uS H2 H3 D as ((d7 i).map f),⟨n,by simp,bL _,xj.new hD,[],rfl,uS.nil (H':=H2) hD xp⟩,?_⟩;rintro i m acc H3 ⟨rfl,hi,s3,as,rfl,L⟩;refine⟨L.top,?_⟩
 by_cases kP:i<n
 ·have hl:as.length=i:=by rw[L.len];simp
  refine .inr ⟨kP,by simp[hl];lia,λv H4 y=>?_⟩;obtain⟨e,y⟩:=y;subst e y;refine⟨λ_=>?_,λz=>by cases z⟩;refine hs i _ kP s3 _ λl H6 s6 kQ kR=>⟨s6.at L.top,n - (i+1),by lia,rfl,kP,(s3.trans s6).put hD,as++[l],by rw[bH];rfl,?_⟩;rw[List.range_succ,bH];exact(L.same s6).push kR (L.apart kQ) (s3.back kQ) rfl
 ·have e:i=n:=by lia
  subst e;exact .inl ⟨ay _,hd D H3 as s3 L⟩
abbrev HO.any:HO:=.ext λ_=>True
def yl.anyOf{h:Heap}{o:Obj}(e:h.get? a=some o):yl P w H h a (.frz o HO.any):=⟨e,trivial,⟨o,e⟩,λ_ _ _ _=>trivial⟩
inductive yK(H:Hp)(f:Addr)(nm qual:Str)(params:cZ)(body:eS)(scope:Scope)(fv:List (Str×V)):Prop
 |intro(clos:List (Str×Addr)) (c:Addr) (o:Obj) (u u':HO) (vs:Array Value) (t:Tok) (doc pm ctv:Value)
  (h0:H f=some (.frz {cls:=.type "function",data:=.func {name:=nm,qualname:=qual,params,body,scope,globals:=br,closure:=clos,defaults:=.none,kwdefaults:=.none,doc,pyModule:=pm,annotations:=none,code:=.ref c,closureTuple:=ctv,builtins:=cQ}} u)) (h1:H c=some (.frz o u')) (h2:o.data= .fields vs) (h3:vs[1]? =some (.str qual t)) (h4:(∀x y a,clos.lookup x=some a->clos.lookup y=some a->x=y)) (h5:(∀x,(x,bT)∈scope.names->∃a,clos.lookup x=some a)) (h6:(∀x v,(x,v)∈fv->∃a,clos.lookup x=some a/\H a=some (.cel (some v)))) (h7:∀x a,clos.lookup x=some a->∃v,H a=some (.cel (some v))):yK H f nm qual params body scope fv
theorem xrk{pos':Pos}{c:Value}(l:List Value)(h:iL l):
  fA pos' (l++[bN pos.line,bN pos.col,c])=(match fA pos' l with
   |some d=>some d
   |none=>if ((pos.line:Int)==pos'.line&&(pos.col:Int)==pos'.col)=true then some c else none):=by
 fun_induction iL l with
 |case1=>simp[fA,bN]
 |case2 a t b u x rest ih=>
  simp only[cU,fA]
  split
  ·rfl
  ·exact ih h
 |case3 l h1 h2=>exact h.elim
def uf(K:aq)(c P:Addr):Prop:=∀h:Heap,K.In h->j7 h c P
theorem xjn{cells:List (Str×Addr)}:∀{l:List (Str×c9)} {cs:List (Str×Addr)} {x:Str} {c:Addr},(zD cells l cs).lookup x=some c->(x,bT)∈l\/∃a,cs.lookup x=some a
 |[],cs,x,c,h=>.inr ⟨c,h⟩
 |(n,k)::r,cs,x,c,h=>by
  unfold zD at h;rcases xjn h with q|⟨a,q⟩
  ·exact .inl (aL _ q)
  ·split at q
   ·rename_i hk;rw[bV]at q
    split at q
    ·rename_i hx;have e:x=n:=by simpa using hx
     have e2:k= .free:=by simpa using hk
     subst e;subst e2;exact .inl bh
    ·exact .inr ⟨a,q⟩
   ·exact .inr ⟨a,q⟩
noncomputable abbrev xdy(name qual:Str)(params:cZ)(body:eS)(scope:Scope)(clos:List (Str×Addr))(doc pm cdv ctv:Value):Obj:=
 {cls:=.type "function",data:=.func {name,qualname:=qual,params,body,scope,globals:=br,closure:=clos,defaults:=.none,kwdefaults:=.none,doc,pyModule:=pm,annotations:=none,code:=cdv,closureTuple:=ctv,builtins:=cQ}}
section
variable {M:Model} {E:Value->ak->Prop} {env:Env} {P:Addr} {ps:Array Value} {firstLine:Nat}
 {clos:List (Str×Addr)} {Q:Value->ak->Prop}
theorem xrl(kW:j4 scope env=pure clos)(kQ:env.globals=br)(hg:s.heap.Ns br mg)(kP:env.code= .ref c)(C:j7 s.heap c P)(hP:s.heap.get? P=some (fY ps))(ht:iL ps.toList)
  (kS:fA pos ps.toList=none) (kT:br≠P) (hb:s.heap.BuiltinsAt mg P)
  (h:∀c' kR doc h' tk,kL P s.heap h'->s.heap.objs.size<=c'->c'<h'.objs.size->h'.CodeRec (.ref c') qual->h'.get? P=some (fY (ps++#[bN pos.line,bN pos.col,.ref c']))->
   Q (.ref h'.objs.size) {s with heap:=h'.push (xdy name qual params body scope clos doc ((mg "__name__").getD .none) (.ref c') kR),toks:=tk}):
  wpAny M A (makeFunction name qual params body scope env [] [] [] pos firstLine) Q E s:=by
 cases body with
 |stmts b=>exact W.makeFunction_K kW kQ hg kP C hP ht kS kT hb h
 |expr e=>exact W.kla_makeFunction kW kQ hg kP C hP ht kS kT hb λc' kR h' tk=>h c' kR .none h' tk
theorem xsK{cv:Value}(kS:j4 scope env=pure clos)(kQ:env.globals=br)(hg:s.heap.Ns br mg)(kP:env.code= .ref c)(C:j7 s.heap c P)(hP:s.heap.get? P=some (fY ps))(ht:iL ps.toList)
  (hf:fA pos ps.toList=some cv) (hb:s.heap.BuiltinsAt mg P)
  (h:∀(kR doc:Value) (h':Heap) (tk:Tok),(∀b o,s.heap.get? b=some o->h'.get? b=some o)->s.heap.objs.size<=h'.objs.size->
   Q (.ref h'.objs.size) {s with heap:=h'.push (xdy name qual params body scope clos doc ((mg "__name__").getD .none) cv kR),toks:=tk}):
  wpAny M A (makeFunction name qual params body scope env [] [] [] pos firstLine) Q E s:=by
 cases body with
 |stmts b=>exact W.makeFunction_hit kS kQ hg kP C hP ht hf hb h
 |expr e=>exact W.kla_makeFunctionHit kS kQ hg kP C hP ht hf hb λkR h' tk=>h kR .none h' tk
end
section
variable {P:Addr} {qs:List (Pos×Str)}
def tFn(X:Cx)(P:Addr)(qs:List (Pos×Str))(fns:List Str)(name qual:Str)(params:cZ)(body:eS)(scope:Scope):TE:=λσ H Q=>
 H P=some (.tbl qs)/\∃fv:List (Str×V),fv.map (·.1)=fns/\(∀x v,(x,v)∈fv->∃a,X.env.cells.lookup x=some a/\H a=some (.cel (some v)))/\
  ∀f H',H f=none->xj H H'->yK H' f name qual params body scope fv->Q (.ref f) H'
def xrm(I:Inv X pins σ H s)(kP:X.env.code= .ref c)(T:uf X.K c P)(hq:(pos,qual)∈qs)(hu:(qs.all λp=> !((pos.line==p.1.line)&&(pos.col==p.1.col))||(p.2==qual))=true)
  (lE:(scope.names.filter λy=>y.2== .free).map (·.1)=fns) (h:tFn X P qs fns name qual params body scope σ H Q):
  wpAny (model X.prog X.w) X.A (makeFunction name qual params body scope X.env [] [] [] pos n) (EP X pins σ Q) X.xe s:=by
 refine L2.oG λ_ Z=>?_;obtain⟨hP,fv,hn,hf,h⟩:=h;apply Z;have kS:∀x,(x,bT)∈scope.names↔x∈fns:=λx=>by
  rw[<-lE,bZ];constructor
  ·exact λm=>⟨(x,.free),gn.mpr ⟨m,rfl⟩,rfl⟩
  ·rintro⟨⟨y,k⟩,m,rfl⟩;have m2:=gn.mp m;have e:k= .free:=by simpa using m2.2
   subst e;exact m2.1
 have names:∀x,(x,bT)∈scope.names->∃v a,(x,v)∈fv/\X.env.cells.lookup x=some a/\H a=some (.cel (some v)):=λx hx=>by
  have m:=(kS x).mp hx;rw[<-hn]at m;refine L2.oG λ_ Z=>?_;obtain⟨⟨x',v⟩,hm,rfl⟩:=bZ.mp m;obtain⟨a,h1,h2⟩:=hf _ _ hm;apply Z;exact⟨v,a,hm,h1,h2⟩
 have lr:∀y∈scope.names,y.2= .free->∃c,X.env.cells.lookup y.1=some c:=λy hy e=>by
  obtain⟨y1,y2⟩:=y;have e:y2= .free:=e;subst e;refine L2.oG λ_ Z=>?_;obtain⟨_,a,_,h1,_⟩:=names y1 hy;apply Z;exact⟨a,h1⟩
 have ly:=xdV (scope:=scope) (env:=X.env) lr;have sub:∀{z:Str} {a:Addr},(zD X.env.cells scope.names []).lookup z=some a->X.env.cells.lookup z=some a:=λ{z a} e=>by
  rcases xgm lr e with q|q
  ·cases q
  ·exact q
 have lg:∀{z:Str} {a:Addr},(zD X.env.cells scope.names []).lookup z=some a->(z,bT)∈scope.names:=λ{z a} e=>by
  rcases xjn e with q|⟨_,q⟩
  ·exact q
  ·cases q
 have kY:∀x y a,(zD X.env.cells scope.names []).lookup x=some a->(zD X.env.cells scope.names []).lookup y=some a->x=y:=λx y a e1 e2=>I.ok.inj x y a (sub e1) (sub e2);have kQ:∀x,(x,bT)∈scope.names->∃a,(zD X.env.cells scope.names []).lookup x=some a:=λx m=>xdW (.inl m);have kX:∀x v,(x,v)∈fv->∃a,(zD X.env.cells scope.names []).lookup x=some a/\H a=some (.cel (some v)):=λx v m=>by
  refine L2.oG λ_ Z=>?_;obtain⟨a,e1,e2⟩:=hf x v m;apply Z;obtain⟨a',e3⟩:=kQ x ((kS x).mpr (by rw[<-hn];exact km m));have e4:=sub e3;rw[e1]at e4;cases e4;exact⟨a,e3,e2⟩
 have kZ:∀x a,(zD X.env.cells scope.names []).lookup x=some a->∃v,H a=some (.cel (some v)):=λx a e=>by
  refine L2.oG λ_ Z=>?_;obtain⟨v,a',_,e1,e2⟩:=names x (lg e);apply Z;rw[sub e]at e1;cases e1;exact⟨v,e2⟩
 have hg:s.heap.Ns br X.mg:=I.mod.glob.keeps I.bk;refine L2.oG λ_ Z=>?_;obtain⟨ps,la,ht,kW⟩:=I.hok P _ hP;apply Z;have C:=T s.heap I.kIn;have lD:br≠P:=λq=>by
  refine L2.oG λ_ Z=>?_;obtain⟨o,es,ep,e,hd,_⟩:=hg;apply Z;rw[q,la]at e;cases e;cases hd
 have hB:s.heap.BuiltinsAt X.mg P:=by
  refine L2.oG λ_ Z=>?_;obtain⟨bm,ob,b1,b2,b3,b4,b5,b6⟩:=I.mod.bm;apply Z;have lb:=I.bk _ _ b3;refine⟨bm,ob,b1,b2,λq=>?_,λq=>?_,lb,b4,b5,b6⟩
  ·refine L2.oG λ_ Z=>?_;obtain⟨o,es,ep,e,hd,_⟩:=hg;apply Z;rw[<-q,lb]at e;cases e;rw[b6]at hd;cases hd
  ·rw[q,la]at lb;cases lb;cases b4
 rcases kW pos qual hq with lC|⟨c',o,u,vs,t,hit,lH,hd,hv⟩
 ·refine xrl ly I.ok.glob hg kP C la ht lC lD hB λc' kR doc h' tk hx ll lq lh lp=>?_;refine L2.oG λ_ Z=>?_;obtain⟨c2,oc,vs,t,e2,lB,hd,hv⟩:=lh;apply Z;cases e2;have lG:H c'=none:=I.hok.fresh ll;have hsz:s.heap.objs.size<=h'.objs.size:=eG (d8 ll lq);have kT:H h'.objs.size=none:=I.hok.fresh hsz;have lF:c'≠h'.objs.size:=aQ lq
  let fo:=xdy name qual params body scope (zD X.env.cells scope.names []) doc ((X.mg "__name__").getD .none) (.ref c') kR
  let H':=upd (upd H c' (.frz oc HO.any)) h'.objs.size (.frz fo HO.any)
  have sm:∀b u,H b=some u->H' b=some u:=λb u e=>by
   show upd _ _ _ b=_;rw[xm (xG e kT),xm (xG e lG)];exact e
  have H'c:H' c'=some (.frz oc HO.any):=by
   show upd _ _ _ c'=_;rw[xm lF,xp]
  have H'f:H' h'.objs.size=some (.frz fo HO.any):=xp;have keep:∀b o,b≠P->s.heap.get? b=some o->(h'.push fo).get? b=some o:=λb o hb e=>ai _ (hx b o hb e);have nP:∀b,H b=none->b≠P:=λb e q=>by rw[q,hP]at e;cases e
  refine⟨.ref h'.objs.size,H',I.un ⟨λb o e n _ _=>keep b o (nP b n) e,λb o e n _ _=>⟨o.slots,keep b o (nP b n) e⟩,λb o e n _=>?_,λb o e _=>?_,λb u e _=>sm b u e⟩ λb u e=>?_,rfl,?_⟩
  ·have lt:=aB e;show upd _ _ _ b=_;rw[xm (aQ (aJ lt hsz)),xm (aQ (aJ lt ll))];exact n
  ·by_cases hb:b=P
   ·exact⟨_,ai _ (by rw[hb];exact lp)⟩
   ·exact⟨o,keep b o hb e⟩
  ·by_cases h1:b=h'.objs.size
   ·subst h1;rw[H'f]at e;cases e;exact yl.anyOf (aT _ rfl)
   ·have e1:upd H c' (.frz oc HO.any) b=some u:=(xm h1).symm.trans e
    by_cases h2:b=c'
    ·subst h2;rw[xp]at e1;cases e1;exact yl.anyOf (ai _ lB)
    ·rw[xm h2]at e1
     by_cases hb:b=P
     ·subst hb;rw[hP]at e1;cases e1;refine⟨_,ai _ lp,?_,λpos' q m=>?_⟩
      ·simpa using TriplesOk_snoc (pos.line:Int) (pos.col:Int) (.ref c') ps.toList ht
      ·have e3:(ps++#[bN pos.line,bN pos.col,aG c']).toList=ps.toList++[bN pos.line,bN pos.col,aG c']:=by simp
       rw[e3,xrk _ ht];rcases kW pos' q m with z|⟨d,o,u,lz,t',z1,z2,z3,z4⟩
       ·rw[z]
        by_cases hl:((pos.line:Int)==pos'.line&&(pos.col:Int)==pos'.col)=true
        ·right
         have lA:q=qual:=by
          have:=df.mp hu (pos',q) m;simp only[fX,beq_iff_eq,Int.ofNat_inj,Int.natCast_inj]at hl;have a1:pos.line=pos'.line:=by have:=hl.1;omega
          have a2:pos.col=pos'.col:=by have:=hl.2;omega
          simpa [a1,a2]using this
         subst lA;exact⟨c',oc,HO.any,vs,t,if_pos hl,H'c,hd,hv⟩
        ·exact .inl (if_neg hl)
       ·right
        rw[z1];exact⟨d,o,u,lz,t',rfl,sm _ _ z2,z3,z4⟩
     ·refine(I.hok b u e1).stay (λd v hc q=>keep d v ?_ q) (λd q=>sm _ _ q) λd u q _=>sm _ _ q;rcases hc with rfl|hc
      ·exact hb
      ·intro z;rw[z,hP]at hc;cases hc
  ·exact h h'.objs.size H' kT sm ⟨_,c',oc,HO.any,HO.any,vs,t,doc,_,kR,H'f,H'c,hd,hv,kY,kQ,λx v m=>let⟨a,q1,q2⟩:=kX x v m;⟨a,q1,sm _ _ q2⟩,λx a q=>let⟨v,q2⟩:=kZ x a q;⟨v,sm _ _ q2⟩⟩
 ·refine xsK ly I.ok.glob hg kP C la ht hit hB λkR doc h' tk hk hsz=>?_;have kT:H h'.objs.size=none:=I.hok.fresh hsz;have sm:xj H (upd H h'.objs.size (.frz (xdy name qual params body scope (zD X.env.cells scope.names []) doc ((X.mg "__name__").getD .none) (.ref c') kR) HO.any)):=λb u e=>by
   rw[xm (xG e kT)];exact e
  refine⟨.ref h'.objs.size,_,I.laid (o:=.frz (xdy name qual params body scope (zD X.env.cells scope.names []) doc ((X.mg "__name__").getD .none) (.ref c') kR) HO.any) (λb o e=>ai _ (hk b o e)) hsz (yl.anyOf (aT _ rfl)),rfl,?_⟩;exact h _ _ kT sm ⟨_,c',o,HO.any,u,vs,t,doc,_,kR,xp,sm _ _ lH,hd,hv,kY,kQ,λx v m=>let⟨a,q1,q2⟩:=kX x v m;⟨a,q1,sm _ _ q2⟩,λx a q=>let⟨v,q2⟩:=kZ x a q;⟨v,sm _ _ q2⟩⟩
def xoz(kP:X.env.code= .ref c)(T:uf X.K c P)(hq:(pos,X.env.qual++"<lambda>")∈qs)(hu:(qs.all λp=> !((pos.line==p.1.line)&&(pos.col==p.1.col))||(p.2==X.env.qual++"<lambda>"))=true)
  (kR:(scope.names.filter λy=>y.2== .free).map (·.1)=fns) (kQ:autoParam (defaultsOf params X.env=([],[])) sV):
  PE X (.Lambda params e scope pos) (tFn X P qs fns "<lambda>" (X.env.qual++"<lambda>") params (.expr e) scope):=λ_ _ _ _ _ I h=>
 W.kla_eval kQ (xrm I kP T hq hu kR h)
theorem Inv.track(I:Inv X pins σ H s)(hN:X.N.Nodup)(hi:X.N[i]? =some x)(hk:X.env.kindOf x=some .cell)(kT:X.cp x=true)(kS:X.fn x=false)(ha:X.env.cells.lookup x=some a)(hH:H a=none):
  Inv X pins σ (upd H a (.cel (σ[i]?.join))) s:=by
 have kW:∀b o,X.s₀.heap.get? b=some o->b≠a:=λb o e=>aQ (aJ (aB e) (I.ok.cab2 x a kT ha));obtain⟨v0,kR⟩:=I.cell x a ha;refine⟨I.ok,I.os,I.bare,⟨I.base.keep,I.base.slot,λb o e n hx=>?_,I.base.there,λb u e f=>?_⟩,I.loc,I.cell,?_,λy c e=>?_,λp hp=>?_,λb u e=>?_,I.len⟩
 ·rw[xm (kW b o e)];exact I.base.free b o e n hx
 ·have:=I.base.fix b u e f;rw[xm (xG this hH)];exact this
 ·rw[xm (au (I.cne x a ha))];exact I.free
 ·by_cases hc:c=a
  ·subst hc;obtain rfl:=I.ok.inj _ _ _ e ha;refine .inr ⟨kS,_,xp,λz j v e1 k e2=>?_⟩;have:=xaI hN e1 hi;subst this;rw[e2]at z;cases z
  ·rw[xm hc];exact I.freeC y c e
 ·obtain⟨e,n,ne,nf,d⟩:=I.pin p hp;refine⟨e,?_,ne,nf,d⟩;rw[xm λz=>?_]
  ·exact n
  ·obtain⟨o,q1,q2⟩:=kR;rw[<-z,e]at q1;cases q1;exact d _ q2
 ·by_cases hb:b=a
  ·subst hb;rw[xp]at e;cases e;cases hσ:σ[i]?.join with
   |none=>exact⟨v0,kR,λx z=>by cases z⟩
   |some v=>
    have kQ:σ[i]? =some (some v):=by
     cases q:σ[i]? with
     |none=>rw[q]at hσ;cases hσ
     |some w=>rw[q]at hσ;cases w with
      |none=>cases hσ
      |some w=>cases hσ;rfl
    obtain⟨m,hn,hl⟩:=I.loc;obtain⟨u,r,l⟩:=hl i x v hi kQ (.inr (.inl hk));rcases l with⟨k,_⟩|⟨_,c,hc,kP⟩
    ·rw[hk]at k;cases k
    ·rw[ha]at hc;cases hc;exact⟨_,kP,λy z=>by cases z;exact⟨u,rfl,r⟩⟩
  ·rw[xm hb]at e;exact(I.hok b u e).stay (λ_ _ _ q=>q) (λd q=>by rw[xm (xG q hH)];exact q) λd u q _=>by rw[xm (xG q hH)];exact q
def xsL(X:Cx)(x:Str)(i:Nat)(t:TS):TS:=λD σ H=>∀a,X.env.cells.lookup x=some a->X.H₀ a=none->(∀y b,X.env.cells.lookup y=some b->y≠x->b≠a)->H a=none/\t D σ (upd H a (.cel (σ[i]?.join)))
def yF{b:List Stmt}{t:TS}(hN:X.N.Nodup)(hi:X.N[i]? =some x)(hk:X.env.kindOf x=some .cell)(kP:X.cp x=true)(kQ:X.fn x=false)
  (h:PSs X b t):PSs X b (xsL X x i t):=λpins s σ H D I q=>by
 obtain⟨a,ha⟩:=I.ok.has x (.inl hk);obtain⟨z,q⟩:=q a ha (I.ok.hz a (I.ok.cab2 x a kP ha)) λy b e ne z=>ne (I.ok.inj y x b e (z▸ha));exact h pins s σ _ D (I.track hN hi hk kP kQ ha z) q
def xtB(X:Cx)(x:Str)(i:Nat)(te:TE):TS:=λD σ H=>te σ H λv H1=>∃a,X.env.cells.lookup x=some a/\H1 a=some (.cel none)/\D.nx (σ.set i (some v)) (upd H1 a (.cel (some v)))
def xaQ{pos':Pos}(hN:X.N.Nodup)(hi:X.N[i]? =some x)(hk:X.env.kindOf x=some .cell)(kY:X.cp x=true)(lg:X.fn x=false)(he:PE X e te)(hs:autoParam (eO e (some (.Name x pos')) pos.line X.env=pure false) sV):
  PS X (.Assign [.Name x pos'] e pos) (xtB X x i te):=by
 intro pins s σ H D I h;refine wpAny_Assign_Name (yg (he pins s σ H _ I h) λu s1 v H1 I r q=>?_) hs;obtain⟨a,ha,hH,q⟩:=q;obtain⟨w0,z⟩:=I.cell x a ha;obtain⟨m,hn,hl⟩:=id I.loc;have kT:i<σ.length:=by rw[I.len];exact(aw.mp hi).1
 have kR:∀b o,X.s₀.heap.get? b=some o->b≠a:=λb o e=>aQ (aJ (aB e) (I.ok.cab2 x a kY ha));refine wpAny_storeName_cell I.ok.kind hk ha z λh' kW hs=>?_;refine⟨_,_,⟨I.ok,I.os,I.bare,⟨λb o e n hb hx=>?_,λb o e n hb hx=>?_,λb o e n hx=>?_,λb o e hx=>?_,λb u e f=>?_⟩,⟨m,hn.sameBut hs (au (I.cne x a ha)),λj y v' e1 e2 e3=>?_⟩,λy c' e=>?_,?_,λy c' e=>?_,λp hp=>?_,λb u e=>?_,by simpa using I.len⟩,q⟩
 ·exact(hs.2 b (kR b o e)).trans (I.base.keep b o e n hb hx)
 ·obtain⟨sl,e1⟩:=I.base.slot b o e n hb hx;exact⟨sl,(hs.2 b (kR b o e)).trans e1⟩
 ·rw[xm (kR b o e)];exact I.base.free b o e n hx
 ·obtain⟨o',e1⟩:=I.base.there b o e hx;exact⟨o',(hs.2 b (kR b o e)).trans e1⟩
 ·have h0:=I.ok.hz a (I.ok.cab2 x a kY ha);rw[xm (xG e h0)];exact I.base.fix b u e f
 ·by_cases hj:j=i
  ·subst hj;rw[hi]at e1;cases e1;rw[b9 kT]at e2;cases e2;exact⟨u,r,.inr ⟨.inl hk,a,ha,kW⟩⟩
  ·rw[bK (au hj)]at e2;obtain⟨u',r',q⟩:=hl j y v' e1 e2 e3;refine⟨u',r',?_⟩;rcases q with q|⟨k,c',e,z'⟩
   ·exact .inl q
   ·refine .inr ⟨k,c',e,z'.sameBut hs ?_⟩;rintro rfl;exact hj (xaI hN e1 (I.ok.inj _ _ _ e ha▸hi))
 ·by_cases kP:c'=a
  ·subst kP;exact⟨_,kW⟩
  ·obtain⟨w2,z2⟩:=I.cell y c' e;exact⟨w2,z2.sameBut hs kP⟩
 ·rw[xm (au (I.cne x a ha))];exact I.free
 ·by_cases kP:c'=a
  ·subst kP;obtain rfl:=I.ok.inj _ _ _ e ha;exact .inr ⟨lg,some v,xp,λz=>by cases z⟩
  ·rw[xm kP];refine(I.freeC y c' e).imp id λ⟨lh,o',la,lb⟩=>⟨lh,o',la,λz j v' e1 k e2=>?_⟩
   by_cases hj:j=i
   ·subst hj;rw[hi]at e1;cases e1;rw[ha]at e;cases e;exact kP rfl
   ·rw[bK (au hj)]at e2;exact lb z j v' e1 k e2
 ·obtain⟨e,n,ne,nf,d⟩:=I.pin p hp;have kX:p.1≠a:=λq=>by
   obtain⟨oc,kZ,kS⟩:=z;rw[q,kZ]at e;have q':oc=p.2:=bt e;exact d w0 (by rw[<-q'];exact kS)
  exact⟨(hs.2 p.1 kX).trans e,by rw[xm kX];exact n,ne,nf,d⟩
 ·by_cases hb:b=a
  ·subst hb;rw[xp]at e;cases e;exact⟨_,kW,λy z=>by cases z;exact⟨u,rfl,r⟩⟩
  ·rw[xm hb]at e;have kQ:∀d u',H1 d=some u'->u'≠.cel none->upd H1 a (.cel (some v)) d=some u':=λd u' e' hu=>by
    rw[xm λz=>?_]
    ·exact e'
    ·rw[z,hH]at e';cases e';exact hu rfl
   refine(I.hok b u e).stay (λd w' hc q=>(hs.2 d ?_).trans q) (λd q=>kQ _ _ q (by simp)) λd u' q hf=>kQ _ _ q (by rintro rfl;exact hf);rcases hc with rfl|hc
   ·exact hb
   ·intro z;rw[z,hH]at hc;cases hc
end
theorem xoA{mb:Str->Option Value}{k:Nat}{fa:Addr}{s₁:ak}{vs:List Value}{ns:List Int}{tabs:List (Addr×Addr×List (Pos×Str))}
  (KX:K.In s₁.heap) (kZ:s₁.heap.Ns br mg) (hb:s₁.heap.Ns cQ mb) (lp:∀x:Str,x≠"__name__"->mb x=bM x) (kX:s₁.heap.NoLimit) (ll:∃b o,mg "__builtins__"=some (.ref b)/\b≠cQ/\s₁.heap.get? b=some o/\o.cls= .type "module"/\o.dict=some cQ/\o.data= .plain) (hg:s₁.gens=#[])
  (ha:s₁.heap.get? a=some {cls:=.type "list",data:=.seq vs.toArray}) (hi:iW vs ns) (hl:ns.length<=aU) (hr:ya k ig)
  (hT:∀q∈tabs,j7 s₁.heap q.1 q.2.1/\s₁.heap.get? q.2.1=some (fY #[])) (lh:W.noTabs K=true) (nd:(tabs.map λq=>q.2.1).Nodup)
  (F:∀base:Heap,K.In base->base.Ns br mg->xE P w K mg base CX k fa fd [x] sp) (kR:∀(s:ak) (u:Value),iV s fd ⟨[u],[]⟩ [(x,u)])
  (lg:∀H:Hp,SqL K H a (ns.map V.int)->(∀q∈tabs,H q.2.1=some (.tbl q.2.2))->sp [.ref a] H (λv _=>v= .bl true) λ_ _ _=>False)
  (lq:∀H e s',CX [] H s₁ (λ_ _ _=>False) e s'->False):
  cP (model P w) ig (.call (.ref fa) ⟨[.ref a],[]⟩) (λr s'=>r= .ok (.ret (.bool true))/\OldK s₁.heap s'.heap/\s'.os=s₁.os/\fJ s'.gens) s₁:=by
 have rv:=xji hi;have kW:=hi.length;have aP:∀q∈tabs,q.2.1≠a:=λq hq z=>by
  have e:=(hT q hq).2;rw[z,ha]at e;cases e
 have core:∀H:Hp,SqL K H a (ns.map V.int)->(∀q∈tabs,H q.2.1=some (.tbl q.2.2))->
   (∀b u,H b=some u->(b=a/\K.lookup a=none/\∃xs,u= .frz {cls:=.type "list",data:=.seq vs.toArray} (.lst xs))\/∃q∈tabs,b=q.2.1/\u= .tbl q.2.2)->HOk P w H s₁.heap->
   cP (model P w) ig (.call (.ref fa) ⟨[.ref a],[]⟩) (λr s'=>r= .ok (.ret (.bool true))/\OldK s₁.heap s'.heap/\s'.os=s₁.os/\fJ s'.gens) s₁:=by
  intro H hS hP hA hok;have kP:∀{b:Addr} {o:Obj},s₁.heap.get? b=some o->H b=none->(xdR s₁.heap H).get? b=some o:=λe n=>xpA e n;have kY:∀{b:Addr} {o:Obj},s₁.heap.get? b=some o->o.cls≠.type "list"\/(∀n,o.data≠.seq vs.toArray n)->o≠fY #[]->H b=none:=λ{b o} e d1 d2=>by
   cases q:H b with
   |none=>rfl
   |some u=>
    rcases hA b u q with⟨rfl,_,_⟩|⟨t,ht,rfl,_⟩
    ·rw[ha]at e;cases e;rcases d1 with d1|d1
     ·exact absurd rfl d1
     ·exact absurd rfl (d1 _)
    ·have e2:=(hT t ht).2;rw[e]at e2;cases e2;exact absurd rfl d2
  have kS:∀{b:Addr} {m:Str->Option Value},s₁.heap.Ns b m->(xdR s₁.heap H).Ns b m:=λ{b m} ⟨o,es,ep,e,d,r⟩=>
   ⟨o,es,ep,kP e (kY e (.inr λn z=>by rw[d]at z;cases z) λz=>by rw[z]at d;cases d),d,r⟩
  have la:K.In (xdR s₁.heap H):=λb o e=>kP (KX b o e) (by
   cases q:H b with
   |none=>rfl
   |some u=>
    rcases hA b u q with⟨rfl,z,_⟩|⟨t,ht,rfl,_⟩
    ·rw[z]at e;cases e
    ·have e2:=KX _ _ e;rw[(hT t ht).2]at e2;cases e2;have h2:=df.mp lh _ (W.mem_of_lookupK e);exact absurd (show false=true from h2) aR)
  have hM:Mod K mg (xdR s₁.heap H):=⟨la,kS kZ,⟨mb,kS hb,lp⟩,let⟨mc,h1,h2⟩:=kX;⟨mc,kS h1,h2⟩,let⟨b,o,a1,a2,a3,a4⟩:=ll;⟨b,o,a1,a2,kP a3 (kY a3 (.inl λz=>by rw[a4.1]at z;simp at z) λz=>by rw[z]at a4;cases a4.1),a4⟩⟩;have e0:xaL P w K mg (xdR s₁.heap H) ig [] s₁ H:=⟨rfl,hM,λb o e=>xqZ e,Nat.le_of_eq (xoc _ _),trivial,λb hb=>absurd (show b∈([]:List Addr)from hb) (by simp),hok,.of_eq hg⟩;refine cE ((F _ la (kS kZ)).run ig [] s₁ H ⟨[.ref a],[]⟩ [.ref a] [.ref a] _ _ hr e0 (kR s₁ (.ref a)) (.cons rfl .nil) (lg H hS hP)) λr s' h=>?_;cases r with
  |error e=>exact(lq H e s' h).elim
  |ok fl=>
   cases fl with
   |next=>exact bc h
   |brk=>exact bc h
   |cont=>exact bc h
   |ret u=>
    refine L2.oG λ_ Z=>?_;obtain⟨v,H',os,bare,un,kQ,r',q⟩:=h;apply Z;have q':v= .bl true:=q;subst q';obtain rfl:u=di true:=r';have old:∀b o,s₁.heap.get? b=some o->s'.heap.get? b=some o\/∃t∈tabs,b=t.2.1/\o=fY #[]/\∃ps,s'.heap.get? b=some (fY ps):=λb o e=>by
     cases q:H b with
     |none=>exact .inl (un.keep b o e q (by intro z;exact absurd (show b∈([]:List Addr)from z) (by simp)) (by simp))
     |some u=>
      rcases hA b u q with⟨rfl,_,xs,rfl⟩|⟨t,ht,rfl,rfl⟩
      ·obtain⟨e1,_⟩:=hok _ _ q;obtain⟨e2,_⟩:=kQ _ _ (un.fix _ _ q trivial);rw[e]at e1;cases e1;exact .inl e2
      ·refine L2.oG λ_ Z=>?_;obtain⟨ps,e2,_⟩:=kQ _ _ (un.fix _ _ q trivial);apply Z;have e3:=(hT t ht).2;rw[e]at e3;cases e3;exact .inr ⟨t,ht,rfl,rfl,ps,e2⟩
    refine⟨rfl,⟨λb o e=>?_,λb o e=>?_⟩,os,bare⟩
    ·rcases old b o e with z|⟨t,ht,rfl,rfl,ps,z⟩
     ·exact .inl z
     ·exact .inr (.inl ⟨((hT t ht).1.tab (hT t ht).2).isCodeTable,rfl,#[],ps,rfl,by rw[Array.empty_append];exact z⟩)
    ·rcases old b o e with z|⟨t,ht,rfl,rfl,ps,z⟩
     ·exact⟨o,z⟩
     ·exact⟨_,z⟩
 let Ht:Hp:=λb=>(tabs.find? λq=>q.2.1==b).map λq=>HO.tbl q.2.2
 have lb:∀q∈tabs,Ht q.2.1=some (.tbl q.2.2):=λq hq=>by
  show kN _ (tabs.find? _)=_;cases e:tabs.find? λr=>r.2.1==q.2.1 with
  |none=>
   have:=eu.mp e q hq;simp at this
  |some r=>
   have h1:=List.find?_some e;have h2:=g9 e;have h3:r.2.1=q.2.1:=by simpa using h1
   have:r=q:=by
    obtain⟨i,hi⟩:=bB.mp h2;obtain⟨j,hj⟩:=bB.mp hq;have ei:(tabs.map λq=>q.2.1)[i]? =some r.2.1:=by rw[aF,hi];rfl
    have ej:(tabs.map λq=>q.2.1)[j]? =some r.2.1:=by rw[aF,hj,h3];rfl
    obtain⟨i1,i2⟩:=aw.mp ei;obtain⟨j1,j2⟩:=aw.mp ej;have:=(List.getElem_inj nd).mp (i2.trans j2.symm);subst this;rw[hi]at hj;exact bt hj
   subst this;rfl
 have kT:∀b u,Ht b=some u->∃q∈tabs,b=q.2.1/\u= .tbl q.2.2:=λb u e=>by
  have e:kN (λq=>HO.tbl q.2.2) (tabs.find? λq=>q.2.1==b)=some u:=e;refine L2.oG λ_ Z=>?_;obtain⟨q,hq,rfl⟩:=aO.mp e;apply Z;have h1:=List.find?_some hq;exact⟨q,g9 hq,(show q.2.1=b by simpa using h1).symm,rfl⟩
 have tok:∀{H:Hp} {q},q∈tabs->yl P w H s₁.heap q.2.1 (.tbl q.2.2):=λ{H q} hq=>⟨#[],(hT q hq).2,trivial,λ_ _ _=>.inl rfl⟩;cases hk:K.lookup a with
 |some o=>
  have e:=KX a o hk;rw[ha]at e;cases e;refine core Ht (.inr ⟨_,vs.toArray,_,hk,rfl,rfl,rfl,by rw[aX,kW];exact hl,by simpa using rv⟩) lb (λb u z=>.inr (kT b u z)) λb u z=>?_;refine L2.oG λ_ Z=>?_;obtain⟨q,hq,rfl,rfl⟩:=kT b u z;apply Z;exact tok hq
 |none=>
  refine core (λb=>if b=a then some (.frz {cls:=.type "list",data:=.seq vs.toArray} (.lst (ns.map V.int)))else Ht b) (.inl (.inr ⟨{cls:=.type "list",data:=.seq vs.toArray},if_pos rfl⟩)) (λq hq=>(if_neg (aP q hq)).trans (lb q hq)) (λb u z=>?_) λb u z=>?_
  ·by_cases hb:b=a
   ·have z':=(if_pos hb).symm.trans z;cases z';exact .inl ⟨hb,hk,_,rfl⟩
   ·exact .inr (kT b u ((if_neg hb).symm.trans z))
  ·by_cases hb:b=a
   ·have z':=(if_pos hb).symm.trans z;cases z';subst hb;exact⟨ha,by rw[ag];exact hl,vs,_,rv,ha⟩
   ·refine L2.oG λ_ Z=>?_;obtain⟨q,hq,rfl,rfl⟩:=kT b u ((if_neg hb).symm.trans z);apply Z;exact tok hq
def xpV{l:W.OpenLaw}{k:Nat}{q:aH}{loose:List Str}{XP:(Str->Option Value)->Heap->Prop}{YP:World->Heap->Prop}{d:DefRec}{K:Params->aq}{sp:aq->Sp}{tabs:List (Addr×Addr×List (Pos×Str))}
  (hn:l.most=some n) (kS:n<=aU) (kW:d.params.defaults=[]) (hr:ya k ig)
  (hY:∀(w:World) (h:Heap),YP w h->(K w.params).In h)
  (hT:∀(w:World) (h:Heap),YP w h->(K w.params).In h->∀t∈tabs,j7 h t.1 t.2.1/\h.get? t.2.1=some (fY #[])) (kR:∀w:World,W.noTabs (K w.params)=true) (nd:(tabs.map λq=>q.2.1).Nodup)
  (F:∀(w:World) (mg:Str->Option Value) (fa:Addr) (h:Heap),(K w.params).In h->h.Ns br mg->mg d.name=some (.ref fa)->
   ∃fd:ax,(∀(s:ak) (u:Value),iV s fd ⟨[u],[]⟩ [(x,u)])/\
    ∀base:Heap,(K w.params).In base->base.Ns br mg->xE l.prog w (K w.params) mg base CX k fa fd [x] (sp (K w.params)))
  (kQ:∀(K:aq) (H:Hp) (a:Addr) (ns:List Int),ns.length<=n->SqL K H a (ns.map V.int)->(∀q∈tabs,H q.2.1=some (.tbl q.2.2))->sp K [.ref a] H (λv _=>v= .bl true) λ_ _ _=>False)
  (kX:∀(H:Hp) (s:ak) (e:Value) (s':ak),CX [] H s (λ_ _ _=>False) e s'->False):
  W.WalkO q loose XP YP l.row.toRowW d [] (λf vs=>PySem.call f vs):=by
 refine Att.xlJ hn kW λw s₀ s₁ mg mb fa o pm cd doc a vs ns G Y ho hd kY kT kP hints hlen hg=>?_;have KX:=hY w _ Y;obtain⟨fd,hb,hF⟩:=F w mg fa _ KX G.T.g kT;exact xoA KX G.T.g G.T.b G.T.builtins G.T.nolimit G.T.bmain hg kP hints (bG hlen kS) hr (hT w _ Y KX) (kR w) nd hF hb (λH hS hP=>kQ (K w.params) H a ns hlen hS hP) λH e s'=>kX H s₁ e s'
structure zh(N ps fns:List Str)(sc:Scope):Prop where
 kind:sc.kind= .function
 co:sc.isCoroutine=false
 gen:sc.isGenerator=false
 nd:N.Nodup
 pre:N.take (ps.length+fns.length)=ps++fns
 par:∀x∈ps,sc.names.lookup x=some .local
 fre:∀x∈fns,sc.names.lookup x=some .free
 nocell:∀y∈sc.names,y.2≠.cell
def xdz(N:List Str)(vs:List V)(fv:List (Str×V)):St:=vs.map some++fv.map (λp=>some p.2)++ao (N.length - vs.length - fv.length) none
noncomputable def xd0(CX:CXT)(P:aH)(w:World)(K:aq)(mg:Str->Option Value)(base:Heap)(N:List Str)(qual:Str)(scope:Scope)(f:Addr)(cd:Value)(clos:List (Str×Addr))(A:bo)(outer:List Env)(s:ak)(H:Hp)(E:XK):Cx where
 prog:=P
 w:=w
 K:=K
 mg:=mg
 base:=base
 A:=A.deeper (gN qual scope s.heap.objs.size f cd clos)
 N:=N
 s₀:=s
 H₀:=H
 env:=gN qual scope s.heap.objs.size f cd clos
 outer:=outer
 stack:=gN qual scope s.heap.objs.size f cd clos::outer
 ex:=[]
 calm:=true
 cp:=λ_=>false
 fn:=λ_=>false
 pn:=[]
 xe:=λe s'=>wpAny (model P w) (A.deeper (gN qual scope s.heap.objs.size f cd clos)) (leaving (gN qual scope s.heap.objs.size f cd clos) e) (λ_ kP=>CX outer H s E e kP) (λe' kP=>CX outer H s E e' kP) s'
theorem xjo{α:Type}:∀{l:List (Str×α)} {x:Str} {v:α},(l.map (·.1)).Nodup->(x,v)∈l->l.lookup x=some v
 |[],_,_,_,m=>by simp at m
 |(y,u)::r,x,v,nd,m=>by
  obtain⟨n1,n2⟩:=bA.mp nd;rw[bV];rcases av.mp m with e|m
  ·cases e;simp
  ·have:x≠y:=λe=>n1 (by rw[<-e];exact km (f:=(·.1)) m);rw[beq_false_of_ne this];exact xjo n2 m
theorem xkr:∀{ps:List Str} {us:List Value},us.length=ps.length->(ps.zip us).map (·.1)=ps
 |[],[],_=>rfl
 |p::ps,u::us,h=>by simp[xkr (ps:=ps) (us:=us) (by simpa using h)]
 |[],_::_,h=>by simp at h
 |_::_,[],h=>by simp at h
def xih{u:Value}(hl:us.length=ps.length)(nd:ps.Nodup)(h1:ps[i]? =some x)(h2:us[i]? =some u):(ps.zip us).reverse.lookup x=some u:=by
 refine xjo ?_ (List.mem_reverse.mpr ?_)
 ·rw[List.map_reverse,xkr hl];exact List.pairwise_reverse.mpr (nd.imp λh=>au h)
 ·refine bB.mpr ⟨i,?_⟩;rw[List.getElem?_zip_eq_some];exact⟨h1,h2⟩
def codeOf(body:eS)(env:Env):Code:=match body with
 | .stmts b=>.func b env
 | .expr e=>.expr e env
section
variable {base:Heap} {N:List Str} {nm:Str} {cd:Value} {clos:List (Str×Addr)} {outer:List Env} {vs:List V} {k:Nat}
theorem xnf{h':Heap}{tk:Tok}(S:zh N ps fns scope)(hd:A.handled=none)(e0:xaL P w K mg base A outer s H)(hl:vs.length=ps.length)(r:Vals vs us)(kT:fv.map (·.1)=fns)
  (kZ:∀x y a,clos.lookup x=some a->clos.lookup y=some a->x=y) (kS:∀x,(x,bT)∈scope.names->∃a,clos.lookup x=some a)
  (kR:∀x v,(x,v)∈fv->∃a,clos.lookup x=some a/\H a=some (.cel (some v))) (kP:∀x a,clos.lookup x=some a->∃v,H a=some (.cel (some v)))
  (kY:h'.Ns s.heap.objs.size λx=>(ps.zip us).reverse.lookup x) (hk:∀b o,s.heap.get? b=some o->h'.get? b=some o):
  Inv (xd0 CX P w K mg base N qual scope f cd clos A outer s H E) [] (xdz N vs fv) H {s with heap:=h',toks:=tk}:=by
 have kX:fv.length=fns.length:=by rw[<-kT,ag]
 have la:ps.length+fns.length<=N.length:=by have:=congrArg gF S.pre;rw[bz,aC]at this;lia
 have kQ:∀b:Addr,b∉(xd0 CX P w K mg base N qual scope f cd clos A outer s H E).ex:=λb z=>absurd (show b∈([]:List Addr)from z) (by simp);have lu:us.length=ps.length:=by rw[<-r.length];exact hl
 have kW:(ps++fns).Nodup:=by rw[<-S.pre];exact S.nd.sublist (List.take_sublist _ _)
 refine⟨⟨e0.mod,S.kind,rfl,rfl,ay _,λy z c h1 h2=>kZ y z c h1 h2,λy hy=>?_,λy c h _=>(aR h).elim,λ_=>hd,i9 e0.frames,.inr ⟨rfl,rfl⟩,λb z=>absurd z (kQ b),e0.bs,e0.bsz,λb _ _=>kQ b,λb z=>absurd z (kQ b),e0.funs,e0.frf,λy c h _=>(aR h).elim,λb hb=>e0.hok.fresh hb⟩,
  rfl,e0.bare,Un.kept hk,⟨_,kY,λi y v h1 h2 h3=>?_⟩,λy c h=>?_,e0.hok.fresh (ay _),λy c h=>?_,λp hp=>absurd (show p∈([]:List (Addr×Obj))from hp) (by simp),e0.hok.kept hk,?_⟩
 ·have hy:scope.names.lookup y=some .cell\/scope.names.lookup y=some .free:=hy;rcases hy with hy|hy
  ·exact absurd rfl (S.nocell _ (PySem.mem_of_lookup hy))
  ·exact kS y (PySem.mem_of_lookup hy)
 ·have h1:N[i]? =some y:=h1;unfold xdz at h2
  by_cases hi:i<vs.length
  ·rw[bj (by simp;lia),bj (by simpa using hi),aF]at h2;cases e:vs[i]? with
   |none=>rw[e]at h2;cases h2
   |some a=>
    rw[e]at h2;cases h2;obtain⟨u,hu,rv⟩:=r.get e;have hp:ps[i]? =some y:=by
     have:(N.take (ps.length+fns.length))[i]? =some y:=by rw[dP (by lia)];exact h1
     rw[S.pre,bj (by lia)]at this;exact this
    exact⟨u,rv,.inl ⟨S.par y (aK hp),xih lu (kW.sublist (List.sublist_append_left _ _)) hp hu⟩⟩
  ·by_cases hj:i<vs.length+fv.length
   ·rw[bj (by simp;lia),bx (by simpa using hi),ag,aF]at h2;cases e:fv[i - vs.length]? with
    |none=>rw[e]at h2;cases h2
    |some p=>
     obtain⟨z,v'⟩:=p;rw[e]at h2;cases h2;have hp:fns[i - vs.length]? =some y:=by
      have:(N.take (ps.length+fns.length))[i]? =some y:=by rw[dP (by lia)];exact h1
      rw[S.pre,bx (by lia),<-hl]at this;exact this
     have hz:z=y:=by
      rw[<-kT,aF,e]at hp;exact bt hp
     subst hz;obtain⟨a,q1,q2⟩:=kR _ _ (aK e);obtain⟨u,q3,q4⟩:=e0.hok a _ q2;obtain⟨y',rfl,r'⟩:=q4 v' rfl;exact⟨y',r',.inr ⟨.inr (S.fre z (aK hp)),a,q1,q3.keeps hk⟩⟩
   ·rw[bx (by simp;lia),iI]at h2
    split at h2<;> cases h2
 ·obtain⟨v,q2⟩:=kP y c h;obtain⟨u,q3,_⟩:=e0.hok c _ q2;exact⟨u,q3.keeps hk⟩
 ·obtain⟨v,q2⟩:=kP y c h;exact .inr ⟨rfl,some v,q2,λz=>by cases z⟩
 ·unfold xdz;show _=N.length;simp only[aC,ag,bf];lia
structure yV(P:aH)(w:World)(K:aq)(mg:Str->Option Value)(base:Heap)(CX:CXT)(k:Nat)(nm qual:Str)(params:cZ)(body:eS)(scope:Scope)(ps:List Str)(sp:List (Str×V)->Sp):Prop where
 len:∀fv vs H Q E,sp fv vs H Q E->vs.length=ps.length
 run:∀(A:bo) (outer:List Env) (s:ak) (H:Hp) (f:Addr) (fv:List (Str×V)) (us:List Value) (vs:List V) (Q:VK) (E:XK),ya k A->xaL P w K mg base A outer s H->yK H f nm qual params body scope fv->Vals vs us->sp fv vs H Q E->
  cP (model P w) A (.call (.ref f) ⟨us,[]⟩) (CR CX outer P w H s Q E) s
theorem xjp{sp:List (Str×V)->Sp}(S:zh N ps fns scope)(len:∀fv vs H Q E,sp fv vs H Q E->vs.length=ps.length/\fv.map (·.1)=fns)
  (hb:∀(clos:List (Str×Addr)) (doc pm cdv kP:Value) (us:List Value),us.length=ps.length->
   dB {name:=nm,qualname:=qual,params,body,scope,globals:=br,closure:=clos,defaults:=.none,kwdefaults:=.none,doc,pyModule:=pm,annotations:=none,code:=cdv,closureTuple:=kP,builtins:=cQ} ⟨us,[]⟩=pure (ps.zip us))
  (kW:∀(A:bo) (outer:List Env) (s:ak) (H:Hp) (f:Addr) (clos:List (Str×Addr)) (cdv:Value) (fv:List (Str×V)) (vs:List V) (Q:VK) (E:XK) (s1:ak),ya k (A.deeper (gN qual scope s.heap.objs.size f cdv clos))->sp fv vs H Q E->
   Inv (xd0 CX P w K mg base N qual scope f cdv clos A outer s H E) [] (xdz N vs fv) H s1->
   cP (model P w) A (codeOf body (gN qual scope s.heap.objs.size f cdv clos)) (CR CX outer P w H s Q E) s1):
  yV P w K mg base CX (k+1) nm qual params body scope ps sp:=by
 refine⟨λfv vs H Q E h=>(len fv vs H Q E h).1,λA outer s H f fv us vs Q E hr e0 hc r kR=>?_⟩;obtain⟨clos,c,o,u,u',xs,t,doc,pm,kP,h1,h2,h3,h4,h5,h6,h7,h8⟩:=hc;obtain⟨hl,kX⟩:=len fv vs H Q E kR;have lu:us.length=ps.length:=by rw[<-r.length];exact hl
 obtain⟨hf,_⟩:=e0.hok f _ h1;obtain⟨kY,_⟩:=e0.hok c _ h2;have lim:s.heap.NoLimit:=e0.mod.nolimit.keeps λb o e=>(e0.bs b o e).1;have kQ:∀y∈ps.zip us,scope.names.lookup y.1=some .local:=λ⟨n,v⟩ hy=>S.par n (dy hy).1;have cr:s.heap.CodeRec (.ref c) qual:=⟨c,o,xs,t,rfl,kY,h3,h4⟩;have fin:wpAny (model P w) A.in1 (newFunctionEnv scope br clos (ps.zip us) (qual++".<locals>.") (some f) (.ref c) none cQ)
   (λenv s₂=>s₂.heap.NoLimit/\cP (model P w) A (codeOf body env) (CR CX outer P w H s Q E) s₂) (λe s'=>CR CX outer P w H s Q E (.error e) s') s:=by
  refine wpAny_newFunctionEnv S.nocell kQ (λh' kT kS=>?_) S.kind;have hk:∀b o,s.heap.get? b=some o->h'.get? b=some o:=λb o e=>kS.extBut b o (aQ (aB e)) (ai _ e);exact⟨lim.keeps hk,kW A outer s H f clos (.ref c) fv vs Q E _ (hr.deeper _) kR (xnf S hr.hd e0 hl r kX h5 h6 h7 h8 kT hk)⟩
 cases body with
 |stmts b=>
  refine dz hr.depth hf rfl S.co S.gen rfl cr ?_;rw[hb clos doc pm (.ref c) kP us lu];exact aA fin
 |expr e=>
  refine W.kla_callFunE hr.depth hf rfl S.co S.gen rfl cr ?_;rw[hb clos doc pm (.ref c) kP us lu];exact aA fin
def xaR{sp:List (Str×V)->Sp}(S:zh N ps fns scope)(len:∀fv vs H Q E,sp fv vs H Q E->vs.length=ps.length/\fv.map (·.1)=fns)
  (hb:∀(clos:List (Str×Addr)) (doc pm cdv kR:Value) (us:List Value),us.length=ps.length->
   dB {name:=nm,qualname:=qual,params,body:=.expr e,scope,globals:=br,closure:=clos,defaults:=.none,kwdefaults:=.none,doc,pyModule:=pm,annotations:=none,code:=cdv,closureTuple:=kR,builtins:=cQ} ⟨us,[]⟩=pure (ps.zip us))
  (kP:∀(A:bo) (outer:List Env) (s:ak) (H:Hp) (f:Addr) (clos:List (Str×Addr)) (cdv:Value) (fv:List (Str×V)) (vs:List V) (Q:VK) (E:XK),ya k (A.deeper (gN qual scope s.heap.objs.size f cdv clos))->sp fv vs H Q E->
   ∃te,PE (xd0 CX0 P w K mg base N qual scope f cdv clos A outer s H E).nox e te/\te (xdz N vs fv) H Q):yV P w K mg base CX0 (k+1) nm qual params (.expr e) scope ps sp:=
 xjp S len hb λA outer s H f clos cdv fv vs Q E s1 hr kQ I=>by
  obtain⟨te,ht,hq⟩:=kP A outer s H f clos cdv fv vs Q E hr kQ;refine W.kla_codeExpr (aN (ht [] s1 _ H Q (I.wish _) hq) (λv s' ⟨x,H',J,rv,q⟩=>?_) λ_ _ z=>z.elim);exact⟨x,H',J.os,J.bare,J.base,J.hok,rv,q⟩
end
section
variable {k:Nat} {nm:Str} {sp:List (Str×V)->Sp} {p:Pos} {t:TA}
theorem xmt{vs:List V}(F:yV X.prog X.w X.K X.mg X.base CX k nm qual params body scope ps sp)(hr:ya k X.A)(hx:Passes CX X E)
  (I:Inv X pins σ H s) (hc:yK H f nm qual params body scope fv) (r:Vals vs us) (h:sp fv vs H Q E):wpAny (model X.prog X.w) X.A (call (.ref f) us) (EP X pins σ Q) X.xe s:=by
 refine dH (cE (F.run X.A X.stack s H f fv us vs Q E hr I.env0 hc r h) λr s' hq=>?_);cases r with
 |error e=>exact hx pins σ H s e s' I hq
 |ok fl=>
  cases fl with
  |ret u=>exact I.after hq
  |next=>exact bc hq
  |brk=>exact bc hq
  |cont=>exact bc hq
def yK.fn(hc:yK H f nm qual params body scope fv)(I:Inv X pins σ H s):W.FnAt f s.heap:=by
 obtain⟨clos,c,o,u,u',xs,t,doc,pm,kP,h1,_⟩:=hc;obtain⟨e,_⟩:=I.hok f _ h1;exact⟨_,_,_,_,e⟩
def xsM(nm qual:Str)(params:cZ)(body:eS)(scope:Scope)(sp:List (Str×V)->Sp)(E:XK)(i:Nat)(t:TA):TE:=λσ H Q=>Ex2 λf fv=>σ[i]? =some (some (.ref f))/\yK H f nm qual params body scope fv/\t σ H λvs H1=>yK H1 f nm qual params body scope fv/\sp fv vs H1 Q E
def xpW(i:Nat)(F:yV X.prog X.w X.K X.mg X.base CX k nm qual params body scope ps sp)(hr:ya k X.A)(hx:Passes CX X E)(ha:PA X (e::es) t)(hN:autoParam (X.N[i]? =some x) sV)(hv:Vis X.env.scope x:=by first|exact az rfl|exact cW (az rfl)|exact cW (cW rfl))(hd:autoParam ((x==("__debug__":Str))=false) sJ)
  (kQ:autoParam ((x==("__classdict__":Str))=false) sJ) (he:autoParam (aE (e::es) X.env=(false,eval e X.env)::aE es X.env) sV) (kP:autoParam ((bR pos (aE es X.env)).any (·.1)=false) sV):
  PE X (.Call (.Name x p) (e::es) [] pos) (xsM nm qual params body scope sp E i t):=by
 intro pins s σ H Q I h;obtain⟨f,fv,e1,hc,h⟩:=h;refine bX (yg (xgP (pos:=p) hN hv hd kQ pins s σ H (λv H1=>v= .ref f/\H1=H) I ⟨_,e1,rfl,rfl⟩) λu s1 v H1 I1 r ⟨q1,q2⟩=>?_);subst q1;subst q2;cases (show u=aG f from r);refine W.callWith_F (hc.fn I1) (uJ (ha pos pins s1 σ H1 _ I1 h) λus s2 vs H2 I2 r2 q=>⟨q.1.fn I2,?_⟩) he kP;exact xmt F hr hx I2 q.1 r2 q.2
end
def Inv.capd(kP:∀x,X.fn x=true)(I:Inv X pins σ H s)(g:Str->Bool):Inv {X with fn:=g} pins σ H s:=by
 have ok:=I.ok;refine⟨⟨ok.mod,ok.kind,ok.glob,ok.blt,ok.above,ok.inj,ok.has,λx c _ h=>ok.cab x c (kP x) h,ok.hd,ok.frames,ok.stk,ok.exf,ok.bs,ok.bsz,ok.noex,ok.exfs,ok.funs,ok.frf,ok.cab2,ok.hz⟩,I.os,I.bare,I.base,I.loc,I.cell,I.free,λx c e=>?_,I.pin,I.hok,I.len⟩;rcases I.freeC x c e with z|⟨z,_⟩
 ·exact .inl z
 ·rw[kP x]at z;cases z
abbrev xng(cap:List Str):Str->Bool:=λx=> !(cap.contains x)
abbrev xa7(cap:List Str)(CX:CXT)(P:aH)(w:World)(K:aq)(mg:Str->Option Value)(base:Heap)(N:List Str)(qual:Str)(scope:Scope)(f:Addr)(cd:Value)(A:bo)(outer:List Env)(s:ak)(H:Hp)(E:XK):Cx:=
 {uQ CX P w K mg base N qual scope f cd A outer s H E with fn:=xng cap}
theorem Fun.okC{base:Heap}{st:Stmt}{N:List Str}{k:Nat}(cap:List Str)(F:Fun K x qual st f fd)(hc:fd.code= .ref c)(S:xu N ps (xh st))(len:∀vs H Q E,sp vs H Q E->vs.length=ps.length)
  (kQ:∀(A:bo) (outer:List Env) (s:ak) (H:Hp) (vs:List V) (Q:VK) (E:XK),ya k (A.deeper (cV qual (xh st) s.heap.objs.size f (.ref c)))->sp vs H Q E->
   ∃t,PSs (xa7 cap CX0 P w K mg base N qual (xh st) f (.ref c) A outer s H E).nox (xr st) t/\t {nx:=λ_ H'=>Q .non H',rt:=Q} (start N vs) H):xE P w K mg base CX0 (k+1) f fd ps sp:=by
 obtain⟨oc,od,kV,doc,pm,an,cdv,ct,osl,rfl,lk,kS⟩:=F.ex;obtain rfl:cdv= .ref c:=hc;refine⟨len,λA outer s H args us vs Q E hr e0 hb r kR=>?_⟩;have hl:=len _ _ _ _ kR;have KX:K.In s.heap:=e0.mod.kin.keeps λb o e=>(e0.bs b o e).1;have lim:s.heap.NoLimit:=e0.mod.nolimit.keeps λb o e=>(e0.bs b o e).1;have kP:∀y∈ps.zip us,(xh st).names.lookup y.1=some .local\/((xh st).names.lookup y.1=some .cell/\((gM (s.heap.objs.size+1) (xh st).names []).lookup y.1).isSome=true):=λ⟨n,v⟩ hy=>by
  rcases S.par n (dy hy).1 with q|q
  ·exact .inl q
  ·exact .inr ⟨q,eR _ _ _ (.inl q)⟩
 refine dz hr.depth (KX _ _ lk) rfl S.co S.gen rfl (iq KX kS) (hb _ _ _ _ ?_);refine dC S.kind kP λenv he s1 x=>?_;subst he;refine⟨lim.keeps x.toInCall.keep,ir ?_⟩;obtain⟨t,ht,hq⟩:=kQ A outer s H vs Q E (hr.deeper _) kR;have I:Inv (uQ CX0 P w K mg base N qual (xh st) f (.ref c) A outer s H E) [] (start N vs) H s1:=xcQ S hr.hd e0 hl r x;have I':Inv (xa7 cap CX0 P w K mg base N qual (xh st) f (.ref c) A outer s H E).nox [] (start N vs) H s1:=(I.capd (λ_=>rfl) (xng cap)).wish _;refine aN (ht [] s1 (start N vs) H _ I' hq) (λfl s' hs=>?_) λe s' hs=>hs.elim;have fin:∀{σ':St} {H':Hp} {v:V} {u:Value},Inv (xa7 cap CX0 P w K mg base N qual (xh st) f (.ref c) A outer s H E).nox [] σ' H' s'->RelV v u->Q v H'->CE outer P w H s Q u s':=
  λ{σ' H' v u} J rv q=>⟨v,H',J.os,J.bare,J.base,J.hok,rv,q⟩
 cases fl with
 |ret u=>
  obtain⟨v,σ',H',J,rv,q⟩:=hs;exact fin J rv q
 |next=>
  obtain⟨σ',H',J,q⟩:=hs;exact fin (v:=V.non) (u:=bp) J rfl q
 |brk=>
  obtain⟨_,_,_,q⟩:=hs;exact bc q
 |cont=>
  obtain⟨_,_,_,q⟩:=hs;exact bc q
section
variable {P:Addr} {qs:List (Pos×Str)} {q:Str}
def zP(kP:X.env.code= .ref c)(T:uf X.K c P)(kR:X.env.qual++"<lambda>"=q)(hq:(pos,q)∈qs)(hu:(qs.all λp=> !((pos.line==p.1.line)&&(pos.col==p.1.col))||(p.2==q))=true)
  (kS:(scope.names.filter λy=>y.2== .free).map (·.1)=fns) (kQ:autoParam (defaultsOf params X.env=([],[])) sV):
  PE X (.Lambda params e scope pos) (tFn X P qs fns "<lambda>" q params (.expr e) scope):=by
 subst kR;exact xoz kP T hq hu kS kQ
end
def xrn{P:Addr}(e:W.codeHdIn K c P=true):uf K c P:=λ_ X=>W.codeHd_of_K X e
def xnh{a b:Expr}{op:CmpOp}{t:TE}(h:PC X op a b t)(h1:cR op b=false):PT X (.Compare a [op] [b] pos) (cB t):=by
 intro pins s σ H Q I hw;refine gd (thn (h pins s σ H _ I hw) λv s1 h1=>thn h1 λu s2 h2=>thn h2 λc s3 ⟨x,H1,I1,r1,q1⟩=>?_) h1;obtain⟨d,rfl,q⟩:=xaP q1;cases r1;exact cA ⟨H1,I1,q⟩
def xjq(f:V->V)(hl:SqL K H2 l xs)(hn:xs.length<=aU)
  (hs:∀(x:V) (H3:Hp),x∈xs->xj H2 H3->∀R:VK,(∀H6,xj H3 H6->R (f x) H6)->te (some x::caps) H3 R)
  (hd:∀D H',H2 D=none->xj H2 H'->H' D=some (.lst (xs.map f))->Q (.ref D) H'):zW (Itl K l) caps xic te Q H2:=by
 unfold zW;intro D hD;refine⟨λi m acc H3=>m=xs.length - i/\i<=xs.length/\acc=(xs.take i).map f/\H3 D=some (.lst acc)/\xj H2 H3,⟨xs.length,by simp,bL _,rfl,xp,xj.new hD⟩,?_⟩;rintro i m acc H3 ⟨rfl,hi,rfl,kP,s3⟩;refine⟨kP,?_⟩;have q:=s3.seq hl
 by_cases kQ:i<xs.length
 ·have hx:xs[i]? =some xs[i]:=aD kQ;refine .inr ⟨⟨xs,xs[i],q,hx⟩,by simp;lia,λv H4 y=>?_⟩;obtain⟨e,y⟩:=y;have ev:=y xs q;rw[hx]at ev;cases ev;subst e;refine⟨λ_=>?_,λz=>by cases z⟩;refine hs _ _ (eU kQ) s3 _ λH6 s6=>⟨s6.at kP,xs.length - (i+1),by lia,rfl,kQ,?_,xp,(s3.trans s6).put hD⟩;rw[cu,hx,bH];rfl
 ·have e:i=xs.length:=by lia
  subst e;rw[cy]at kP;exact .inl ⟨⟨xs,q,ay _⟩,hd D H3 hD s3 kP⟩
def xdA{st:Stmt}:PS X st (λ_ _ _=>False):=λ_ _ _ _ _ _ q=>q.elim
theorem xhb:∀{bs:List Bool} {us:List Value},Vals (bs.map V.bl) us->us=bs.map di
 |[],[],_=>rfl
 |[],_::_,h=>by cases h
 |_::_,[],h=>by cases h
 |b::bs,u::us,h=>by
  cases h with
  |cons h1 h2=>
   rw[xhb h2];cases h1;rfl
def range_all(bs:List Bool)(d:Bool):(d7 bs.length).all (λi=>bs.getD i d)=bs.all id:=by
 rw[fj,df,df];constructor
 ·intro h x hx;obtain⟨i,hi,rfl⟩:=gv.mp hx;have:=h i (by simpa using hi);simpa [hi]using this
 ·intro h i hi;have kP:i<bs.length:=by simpa using hi
  have:=h bs[i] (eU kP);simpa [kP]using this
def xtC(K:aq)(f:List Bool->Bool):List V->Hp->VK->Prop:=λxs H Q=>Ex2 λp bs=>xs=[.ref p]/\SqL K H p (bs.map V.bl)/\Q (.bl (f bs)) H
theorem xlK{prog:aH}(bs:List Bool):TruthOf prog w A (λi v=>(bs.map di).toArray[i]? =some v) (λi=>bs.getD i true):=by
 intro i v s Q E hP hQ;have e:v= .bool (bs.getD i true):=by
  simp only[List.getElem?_toArray,aF]at hP;cases q:bs[i]? with
  |none=>rw[q]at hP;cases hP
  |some b=>rw[q]at hP;simp at hP;rw[<-hP];simp[List.getD,q]
 rw[e];exact cA hQ
def xoB(hc:X.calm=true):zy X (.builtin "all") (xtC X.K λbs=>bs.all id):=by
 intro pins s σ H xs us Q I r h;obtain⟨p,bs,rfl,hq,q⟩:=h;obtain⟨u,rfl,rx⟩:=vals1 r;cases rx;obtain⟨its,r',pl,hz⟩:=I.list hq;have e:=xhb r';subst e;have hL:=pl.isList;have kP:p<s.heap.objs.size:=by obtain⟨_,e,_⟩:=hL;exact aB e
 refine call_all_walk (fP hL ⟨_,_,_,_,_,_,λi=>bs.getD i true,rfl,Walks.list (A:=X.A.in1) (I.ok.hd hc) _ p (aQ kP) (bs.map di).toArray,⟨⟨_,aT _ rfl,rfl,rfl⟩,hL.push _⟩,xlK bs,λh' tk hk=>?_⟩);refine⟨.bl (bs.all id),H,I.kept (t':=tk) (λb o e=>hk b o (λhb=>?_) (ai _ e)),?_,q⟩
 ·exact absurd (aB e) (by rw[aj.mp hb];exact cg _)
 ·have e:=range_all bs true;simp only[aX,ag];rw[e];rfl
def xtD(K:aq):List V->Hp->VK->Prop:=λxs H Q=>Ex2 λ(p:Addr) (ns:List Int)=>xs=[.ref p]/\SqL K H p (ns.map V.int)/\Q (.int ns.sum) H
def xbf(hc:X.calm=true):zy X (.builtin "sum") (xtD X.K):=by
 intro pins s σ H xs us Q I r h;obtain⟨p,ns,rfl,hq,q⟩:=h;obtain⟨u,rfl,rx⟩:=vals1 r;cases rx;obtain⟨its,r',pl,hz⟩:=I.list hq;have hi:=intsAre_of r';have hL:=pl.isList;have hn:=hi.numsOf;obtain⟨ys,e⟩:=hi.allInts.items;rw[e]at hL;have e2:numsOf its=numsOf (iB ys).toList:=by rw[<-e]
 rw[e2,nums_intItems]at hn;refine sum_intListG (I.ok.hd hc) hL λh' tk t' hk=>⟨.int ns.sum,H,I.kept (t':=tk) hk,⟨t',?_⟩,q⟩;rw[preSum_eq,cz (by simp),hn]
section
variable {h':Heap}
def Inv.turnLaid{t':Nat}{ch:List Addr}(I:Inv X pins σ H s)(k:∀b u,b∉ch->s.heap.get? b=some u->h'.get? b=some u)(hp:s.heap.objs.size<=a)(new:yl X.prog X.w (upd H a o) h' a o)
  (hn:∀b∈ch,H b=none) (hl:∀b∈ch,b<s.heap.objs.size) (kQ:∀b∈ch,(b∈X.ex\/X.s₀.heap.objs.size<=b)/\b≠X.env.locals/\(∀x c,X.env.cells.lookup x=some c->c≠b)/\∀p∈X.pn++pins,p.1≠b):
  Inv X pins σ (upd H a o) {s with heap:=h',toks:=t'}:=by
 have kP:∀b u,H b=some u->b∉ch:=λb u e z=>by rw[hn b z]at e;cases e
 have fr:=I.hok.fresh hp;refine I.call' (s':={s with heap:=h',toks:=t'}) (ch:=ch) rfl ⟨λb o q _ _ hx=>k b o hx q,λb o q _ _ hx=>⟨o.slots,k b o hx q⟩,λb o q n _=>?_,λb o q hx=>⟨o,k b o hx q⟩,λb u q _=>?_⟩ (λb u e=>?_) I.bare kQ
 ·rw[xm (aQ (aJ (aB q) hp))];exact n
 ·rw[xm (xG q fr)];exact q
 ·by_cases hb:b=a
  ·subst hb;rw[xp]at e;cases e;exact new
  ·rw[xm hb]at e;refine(I.hok b u e).stay (λc v hc q=>k c v ?_ q) (λc q=>by rw[xm (xG q fr)];exact q) λc xs q _=>by rw[xm (xG q fr)];exact q
   rcases hc with z|z
   ·rw[z];exact kP b u e
   ·exact kP c _ z
end
def Ite(K:aq)(a:Addr):It:=
 ⟨λi H=>Ex2 λxs x=>SqL K H a xs/\xs[i]? =some x,λi H v H'=>Ex2 λT x=>v= .ref T/\H T=none/\H'=upd H T (.tup [.int i,x])/\∀xs,SqL K H a xs->xs[i]? =some x,λi H=>∃xs,SqL K H a xs/\xs.length<=i⟩
section
variable {k:Nat} {tp:Pos}
def xtE(K:aq)(ta:TA):TI:=λσ H R=>ta σ H λvs H1=>∃a,vs=[.ref a]/\(∃xs,SqL K H1 a xs)/\R (Ite K a) H1
end
section
variable {x1 x2:Str} {cap:List Nat} {ys:List Str}
end
@[irreducible] def xun(K:aq)(J:It)(caps:St)(tt:TT)(te:TE)(Q:VK)(H2:Hp):Prop:=∀D,H2 D=none->∃W:CW,(∃m,W 0 m [] (upd H2 D (.lst [])))/\
 ∀i m acc H3,W i m acc H3->H3 D=some (.lst acc)/\((J.stop i H3/\Q (.ref D) H3)\/(J.go i H3/\acc.length<aU/\∀v H4,J.yld i H3 v H4->∃T v1 v2,v= .ref T/\SqT K H4 T [v1,v2]/\tt (some v1::some v2::caps) H4 λb H5=>
  (b=true->te (some v1::some v2::caps) H5 λu H6=>H6 D=some (.lst acc)/\∃m',m'<m/\W (i+1) m' (acc++[u]) (upd H6 D (.lst (acc++[u]))))/\(b=false->∃m',m'<m/\W (i+1) m' acc H5)))
section
variable {x1 x2:Str} {cap:List Nat} {ys:List Str} {elt iter:Expr} {ifs:List Expr} {px1 px2 px:Pos} {kx:Nat} {wi:TI} {tt:TT}
end
theorem xc8{α β:Type}{F:α->β->Prop}:∀{as:List α} {bs:List β} {i:Nat} {a:α},Paired F as bs->as[i]? =some a->∃b,bs[i]? =some b/\F a b
 |_,_,i,b,.nil,h=>by simp at h
 |_,_,0,b,.cons x xs,h=>by simp at h;subst h;exact⟨_,rfl,x⟩
 |_,_,i+1,b,.cons x xs,h=>by obtain⟨a,h1,h2⟩:=xc8 (i:=i) xs (by simpa using h);exact⟨a,by simpa using h1,h2⟩
def del(H:Hp)(D:Addr):Hp:=λb=>if b=D then none else H b
def vO:del H D D=none:=by unfold del;rw[if_pos rfl]
def xbg{b:Addr}(h:b≠D):del H D b=H b:=by unfold del;rw[if_neg h]
def vP:xj (del H D) H:=λb u e=>by
 by_cases h:b=D
 ·rw[h,vO]at e;cases e
 ·rw[xbg h]at e;exact e
def ui:del (upd H D o) D=del H D:=by
 funext b
 by_cases h:b=D
 ·rw[h,vO,vO]
 ·rw[xbg h,xbg h,xm h]
def xaS(h:H D=none):del H D=H:=by
 funext b
 by_cases e:b=D
 ·rw[e,vO,h]
 ·rw[xbg e]
def xaT(s:xj H H'):xj (del H D) (del H' D):=λb u e=>by
 by_cases h:b=D
 ·rw[h,vO]at e;cases e
 ·rw[xbg h]at e⊢;exact s b u e
def xoC(Pv:Nat->List V->Hp->Prop)(hn:n<=aU)(h0:Pv 0 [] H2)
  (hs:∀(i:Nat) acc H3 H3',i<n->xj H2 H3->xj H3 H3'->Pv i acc H3->∀R:VK,(∀u H6',xj H3' H6'->(∀H6,xj H3 H6->(∀p o,(H3' p=none\/∀ys,o≠HO.lst ys)->H6' p=some o->H6 p=some o)->Pv (i+1) (acc++[u]) H6)->R u H6')->te (some (.int (lo+i*st))::caps) H3' R)
  (hd:∀D acc H H',H2 D=none->H D=none->xj H2 H->xj H H'->Pv n acc H->acc.length=n->H' D=some (.lst acc)->Q (.ref D) H'):zW (Its lo st n) caps xic te Q H2:=by
 unfold zW;intro D hD;refine⟨λi m acc H3=>m=n - i/\i<=n/\acc.length=i/\H3 D=some (.lst acc)/\xj H2 (del H3 D)/\Pv i acc (del H3 D),⟨n,by simp,bL _,rfl,xp,?_,?_⟩,?_⟩
 ·rw[ui,xaS hD];exact xj.refl _
 ·rw[ui,xaS hD];exact h0
 rintro i m acc H3 ⟨rfl,hi,kP,kQ,s3,p3⟩;refine⟨kQ,?_⟩
 by_cases kR:i<n
 ·refine .inr ⟨kR,by lia,λv H4 y=>?_⟩;obtain⟨e,y⟩:=y;subst e y;refine⟨λ_=>?_,λz=>by cases z⟩;refine hs i acc _ _ kR s3 vP p3 _ λu H6' s6 k=>⟨s6.at kQ,n - (i+1),by lia,rfl,kR,by simp[kP],xp,?_,?_⟩
  ·rw[ui];exact s3.trans (xaT s6)
  ·rw[ui];refine k _ (xaT s6) λp o q1 q2=>?_;rw[xbg (λz=>by
    rcases q1 with q1|q1
    ·rw[z,kQ]at q1;cases q1
    ·rw[z,s6.at kQ]at q2;cases q2;exact q1 _ rfl)]
   exact q2
 ·have e:i=n:=by lia
  subst e;exact .inl ⟨ay _,hd D acc _ H3 hD vO s3 vP p3 kP kQ⟩
def xni(Pv:Nat->List V->Hp->Prop)(hl:SqL K H2 l xs)(hn:xs.length<=aU)(h0:Pv 0 [] H2)
  (hs:∀(i:Nat) x acc H3 H3',xs[i]? =some x->xj H2 H3->xj H3 H3'->Pv i acc H3->∀R:VK,(∀u H6',xj H3' H6'->(∀H6,xj H3 H6->(∀p o,(H3' p=none\/∀ys,o≠HO.lst ys)->H6' p=some o->H6 p=some o)->Pv (i+1) (acc++[u]) H6)->R u H6')->te (some x::caps) H3' R)
  (hd:∀D acc H H',H2 D=none->H D=none->xj H2 H->xj H H'->Pv xs.length acc H->acc.length=xs.length->H' D=some (.lst acc)->Q (.ref D) H'):zW (Itl K l) caps xic te Q H2:=by
 unfold zW;intro D hD;refine⟨λi m acc H3=>m=xs.length - i/\i<=xs.length/\acc.length=i/\H3 D=some (.lst acc)/\xj H2 (del H3 D)/\Pv i acc (del H3 D),⟨xs.length,by simp,bL _,rfl,xp,?_,?_⟩,?_⟩
 ·rw[ui,xaS hD];exact xj.refl _
 ·rw[ui,xaS hD];exact h0
 rintro i m acc H3 ⟨rfl,hi,kP,kQ,s3,p3⟩;refine⟨kQ,?_⟩;have q:=(s3.trans vP).seq hl
 by_cases kR:i<xs.length
 ·have hx:xs[i]? =some xs[i]:=aD kR;refine .inr ⟨⟨xs,xs[i],q,hx⟩,by lia,λv H4 y=>?_⟩;obtain⟨e,y⟩:=y;have ev:=y xs q;rw[hx]at ev;cases ev;subst e;refine⟨λ_=>?_,λz=>by cases z⟩;refine hs i _ acc _ _ hx s3 vP p3 _ λu H6' s6 k=>⟨s6.at kQ,xs.length - (i+1),by lia,rfl,kR,by simp[kP],xp,?_,?_⟩
  ·rw[ui];exact s3.trans (xaT s6)
  ·rw[ui];refine k _ (xaT s6) λp o q1 q2=>?_;rw[xbg (λz=>by
    rcases q1 with q1|q1
    ·rw[z,kQ]at q1;cases q1
    ·rw[z,s6.at kQ]at q2;cases q2;exact q1 _ rfl)]
   exact q2
 ·have e:i=xs.length:=by lia
  subst e;exact .inl ⟨⟨xs,q,ay _⟩,hd D acc _ H3 hD vO s3 vP p3 kP kQ⟩
def xjr(Pv:Nat->List V->Hp->Prop)(hl:SqT K H2 l xs)(hn:xs.length<=aU)(h0:Pv 0 [] H2)
  (hs:∀(i:Nat) x acc H3 H3',xs[i]? =some x->xj H2 H3->xj H3 H3'->Pv i acc H3->∀R:VK,(∀u H6',xj H3' H6'->(∀H6,xj H3 H6->(∀p o,(H3' p=none\/∀ys,o≠HO.lst ys)->H6' p=some o->H6 p=some o)->Pv (i+1) (acc++[u]) H6)->R u H6')->te (some x::caps) H3' R)
  (hd:∀D acc H H',H2 D=none->H D=none->xj H2 H->xj H H'->Pv xs.length acc H->acc.length=xs.length->H' D=some (.lst acc)->Q (.ref D) H'):zW (Itt K l) caps xic te Q H2:=by
 unfold zW;intro D hD;refine⟨λi m acc H3=>m=xs.length - i/\i<=xs.length/\acc.length=i/\H3 D=some (.lst acc)/\xj H2 (del H3 D)/\Pv i acc (del H3 D),⟨xs.length,by simp,bL _,rfl,xp,?_,?_⟩,?_⟩
 ·rw[ui,xaS hD];exact xj.refl _
 ·rw[ui,xaS hD];exact h0
 rintro i m acc H3 ⟨rfl,hi,kP,kQ,s3,p3⟩;refine⟨kQ,?_⟩;have q:=(s3.trans vP).seqT hl
 by_cases kR:i<xs.length
 ·have hx:xs[i]? =some xs[i]:=aD kR;refine .inr ⟨⟨xs,xs[i],q,hx⟩,by lia,λv H4 y=>?_⟩;obtain⟨e,y⟩:=y;have ev:=y xs q;rw[hx]at ev;cases ev;subst e;refine⟨λ_=>?_,λz=>by cases z⟩;refine hs i _ acc _ _ hx s3 vP p3 _ λu H6' s6 k=>⟨s6.at kQ,xs.length - (i+1),by lia,rfl,kR,by simp[kP],xp,?_,?_⟩
  ·rw[ui];exact s3.trans (xaT s6)
  ·rw[ui];refine k _ (xaT s6) λp o q1 q2=>?_;rw[xbg (λz=>by
    rcases q1 with q1|q1
    ·rw[z,kQ]at q1;cases q1
    ·rw[z,s6.at kQ]at q2;cases q2;exact q1 _ rfl)]
   exact q2
 ·have e:i=xs.length:=by lia
  subst e;exact .inl ⟨⟨xs,q,ay _⟩,hd D acc _ H3 hD vO s3 vP p3 kP kQ⟩
def xnj{tt:TT}(p:V->Bool)(f:V->V)(hl:SqL K H2 l xs)(hn:xs.length<aU)
  (ht:∀(x:V) (H3:Hp),x∈xs->xj H2 H3->∀R:Bool->Hp->Prop,(∀H6,xj H3 H6->R (p x) H6)->tt (some x::caps) H3 R)
  (hs:∀(x:V) (H3:Hp),x∈xs->p x=true->xj H2 H3->∀R:VK,(∀H6,xj H3 H6->R (f x) H6)->te (some x::caps) H3 R)
  (hd:∀D H',H2 D=none->xj H2 H'->H' D=some (.lst ((xs.filter p).map f))->Q (.ref D) H'):zW (Itl K l) caps tt te Q H2:=by
 unfold zW;intro D hD;refine⟨λi m acc H3=>m=xs.length - i/\i<=xs.length/\acc=((xs.take i).filter p).map f/\H3 D=some (.lst acc)/\xj H2 H3,⟨xs.length,by simp,bL _,rfl,xp,xj.new hD⟩,?_⟩;rintro i m acc H3 ⟨rfl,hi,rfl,kQ,s3⟩;refine⟨kQ,?_⟩;have q:=s3.seq hl
 by_cases kP:i<xs.length
 ·have hx:xs[i]? =some xs[i]:=aD kP;have hle:(((xs.take i).filter p).map f).length<aU:=by
   rw[ag];refine d8 (List.length_filter_le _ _) ?_;rw[bz];lia
  have et:xs.take (i+1)=xs.take i++[xs[i]]:=by rw[cu,hx];rfl
  refine .inr ⟨⟨xs,xs[i],q,hx⟩,hle,λv H4 y=>?_⟩;obtain⟨e,y⟩:=y;have ev:=y xs q;rw[hx]at ev;cases ev;subst e;refine ht _ _ (eU kP) s3 _ λH5 s5=>⟨λhp=>?_,λhp=>?_⟩
  ·refine hs _ _ (eU kP) hp (s3.trans s5) _ λH6 s6=>⟨s6.at (s5.at kQ),xs.length - (i+1),by lia,rfl,kP,?_,xp,(s3.trans (s5.trans s6)).put hD⟩;rw[et,kC,bH];simp[hp]
  ·refine⟨xs.length - (i+1),by lia,rfl,kP,?_,s5.at kQ,s3.trans s5⟩;rw[et,kC,bH];simp[hp]
 ·have e:i=xs.length:=by lia
  subst e;rw[cy]at kQ⊢;exact .inl ⟨⟨xs,q,ay _⟩,hd D H3 hD s3 kQ⟩
def xd1{f:Bool->Bool}{x y:V}{d:fF}(hx:Rp K H x d)(hy:Rp K H y d)(hd:cF d=true)(q:Q (.bl (f true)) H):xif K f x y H Q:=
 ⟨d,d,hx,hy,hd,hd,by rw[PySem.SeqAt.eqv_refl d (SeqAt.canLay_of_shaped hd)];exact q⟩
def xks(e:X.K=K):IxR X (xsv K):=e▸yx
def xuo(e:X.K=K):IxR X (xsw K):=e▸xT
def xuf(e:X.K=K):SlR X (xsx K):=e▸xaO
def xur(e:X.K=K):zy X (.builtin "isinstance") (xsF K):=e▸vN
def xug(e:X.K=K)(hu:X.A.units+64<cLine):OpR X (bF .Eq) (xif K λb=>b):=e▸xdZ hu
def xus(e:X.K=K)(hu:X.A.units+64<cLine):OpR X (bF .NotEq) (xif K λb=> !b):=e▸xa6 hu
def xoD{d:Nat}{i:Int}(h0:0<=i):HT.sIx n d (some i)=min i.toNat n:=by
 show(if i<0 then(i+(n:Int)).toNat else min i.toNat n)=_;rw[if_neg (by lia)]
def xb4:Stmt->List Stmt
 | .For _ _ b _ _=>b
 |_=>[]
def xoE:Stmt->Expr
 | .Assign _ v _=>v
 |_=>.Constant .none 0 ⟨0,0,0,0⟩
def xsN:Stmt->Expr
 | .Return (some v) _=>v
 |_=>.Constant .none 0 ⟨0,0,0,0⟩
def vi(i:Nat):Expr->Expr
 | .Call _ as _ _=>as.getD i (.Constant .none 0 ⟨0,0,0,0⟩)
 |_=>.Constant .none 0 ⟨0,0,0,0⟩
def uj:Expr->cZ
 | .Lambda a _ _ _=>a
 |_=>yh (.Pass ⟨0,0,0,0⟩)
def uk:Expr->Expr
 | .Lambda _ b _ _=>b
 |e=>e
def yq:Expr->Scope
 | .Lambda _ _ s _=>s
 |_=>xh (.Pass ⟨0,0,0,0⟩)
def xkt{xs:List Int}{x v:Int}(h0:0<=x)(h:xs[x.toNat]? =some v):atI (xs.map V.int) x=some (.int v):=by
 have:=xh7 (xs:=xs.map V.int) (j:=x.toNat) (v:=.int v) (by rw[aF,h];rfl)
 rwa [cb h0]at this
def xhc{x:Int}(h0:0<=x)(h:x<n):ixN n x=some x.toNat:=by
 unfold ixN;rw[if_pos h0,if_pos h]
end Internal.L2
namespace PySem
open Sem (wp)
open PyProof.Rows
namespace F
end F
section
variable {prog:aH} {w:World} {A:bo} {E:Value->ak->Prop} {s:ak}
end
end PySem
namespace Internal.L2
open PySem PySem.Spec PyProof.Rows
variable {X:Cx} {s s':ak} {E:Value->ak->Prop} {w:World} {pos p cpos hp:Pos} {a C f l C' j:Addr} {H:Hp} {K:aq} {A A':bo} {x qual y nm q:Str} {σ:St} {n hdct ab:Bool} {pins qs:List (Addr×Obj)} {prog P:aH} {e:Expr} {fd:ax} {ps N sn:List Str} {M:Model} {Q:Unit->ak->Prop} {dx dd:Option Addr} {es:List Expr} {i:Nat} {mg:Str->Option Value} {st:Stmt} {ds bm:List Value} {sp:Sp} {oe ox:Obj} {EE:EEs} {t:TA} {D:Ends} {base h:Heap} {cls fl v:Value} {ta:TE} {its vs:Array Value} {tb:TS} {suite:List Stmt} {col:Option Bool} {k0 k1 k2 k3 k5:Option Value} {newId:String}
def xgp{kP:List Stmt}:PSs X kP (λ_ _ _=>False):=λ_ _ _ _ _ _ q=>q.elim
open PySem PySem.Spec PyProof.Rows PySem.W
def xsO:Option (Int×Tok)->Array Value
 |none=>#[]
 |some (m,t)=>#[.int m t,.int m t]
def xtF(f:Nat->Int)(j:Nat):Option (Int×Tok)->Prop
 |none=>j=0
 |some (m,_)=>(∃i,i<j/\f i=m)/\∀i,i<j->f i<=m
def xoF(f:Nat->Int)(n:Nat)(d v:Value):Prop:=(n=0->v=d)/\(0<n->∃m t,v= .int m t/\(∃i,i<n/\f i=m)/\∀i,i<n->f i<=m)
def xpX(a v:Value):argsOk "max" ⟨[a],[(bE "default",v)]⟩:=by unfold argsOk;kernel_rfl
section
variable {R:ij->ak->Prop} {I:Addr} {fp wr:List Addr} {n:Nat} {P:Nat->Value->Prop} {St:Nat->Heap->Prop}
theorem xd2(W:Walks prog w A.in1 I fp wr n P St)(f:Nat->Int)(hP:∀i v,P i v->∃t,v= .int (f i) t)(S:Addr)(kZ:S∉fp)(d:Value):∀(k j:Nat) (s:ak) (b:Option (Int×Tok)) (c:Nat),n - j=k->j<=n->St j s.heap->
  s.heap.get? S=some {cls:=.type "list",dict:=none,data:=.seq (xsO b) c,slots:=#[]}->xtF f j b->
  (∀v h' tk,xoF f n d v->(∀b o,b∉wr->b≠S->s.heap.get? b=some o->h'.get? b=some o)->R (.ok (.ret v)) {s with heap:=h',toks:=tk})->
  cP (model prog w) A (.builtin "max.loop" ⟨[.ref I,.none,.ref S],[(bE "default",d)]⟩) R s
 |0,j,s,b,c,hk,hj,lb,hS,hb,hR=>by
  have lp:j=n:=by lia
  subst lp;have ll:S∉wr:=λh=>kZ (W.sub _ h);refine gw F.entry_max_loop ?_;rw[j8 dR _];show wpAny _ A.in1 (iN (.ref S) >>= _) _ _ s;refine af (fL hS rfl ?_);show wpAny _ A.in1 (tryCatch (pyNext (.ref I)) _ >>= _) _ _ s;refine af (iZ (W.done s _ _ lb λh' tk kW=>?_));have kY:=kW S _ ll hS;cases b with
  |none=>
   cases hb;exact af (m:=rule _) (wpAny_rule (aA (hR d _ tk ⟨λ_=>rfl,λq=>absurd q (cg _)⟩ λb o kP _ e=>kW b o kP e)))
  |some p=>
   obtain⟨m,t⟩:=p;show wpAny _ A.in1 (iM S (λ_=>#[]) >>= _) _ _ _;refine af (eg kY rfl (af (gG (aA ?_))) (by show(2:Nat)<=_;decide));refine hR _ _ tk ⟨λq=>?_,λ_=>⟨m,t,rfl,hb⟩⟩ λb o kP kT e=>(bg _ _ (au kT)).trans (kW b o kP e);obtain⟨⟨i,hi,_⟩,_⟩:=hb;lia
 |k+1,j,s,b,c,hk,hj,lb,hS,hb,hR=>by
  have lg:j<n:=by lia
  have ll:S∉wr:=λh=>kZ (W.sub _ h);have kR:(toString "max"++toString ".loop":String)="max.loop":=by decide
  refine gw F.entry_max_loop ?_;rw[j8 dR _];show wpAny _ A.in1 (iN (.ref S) >>= _) _ _ s;refine af (fL hS rfl ?_);show wpAny _ A.in1 (tryCatch (pyNext (.ref I)) _ >>= _) _ _ s;refine af (iZ (W.item j s _ _ lg lb λv h' tk hv kX kW=>?_));have kY:=kW S _ ll hS;obtain⟨t,rfl⟩:=hP _ _ hv;have turned:∀(g:Array Value->Array Value),(∀b∈fp,∀o,h'.get? b=some o->(h'.update S (dk g)).get? b=some o):=λg b lq o e=>(bg _ _ (λh:S=b=>kZ (by rw[h];exact lq))).trans e;cases b with
  |none=>
   cases hb;show wpAny _ A.in1 (iM S (λ_=>#[.int (f 0) t,.int (f 0) t]) >>= _) _ _ _;refine af (eg kY rfl ?_);rw[kR];refine aA ⟨eY dR _,xd2 W f hP S kZ d k 1 _ (some (f 0,t)) (c+1) (by lia) (by lia) (W.frame _ _ _ kX (turned _)) ?_ ⟨⟨0,by lia,rfl⟩,λi hi=>?_⟩ λv' la kQ ho kS=>?_⟩
   ·exact(bu _ kY rfl).trans rfl
   ·rw[show i=0 by lia];exact cI _
   exact hR v' la kQ ho λb o kP kT e=>kS b o kP kT ((bg _ _ (au kT)).trans (kW b o kP e))
  |some p=>
   obtain⟨m,u⟩:=p;obtain⟨⟨i0,lr,e0⟩,hle⟩:=hb;show wpAny _ A.in1 (tryCatch (fK [.int (f j) t,.int (f j) t] (richCompare .Gt (.int (f j) t) (.int m u) >>= _)) _ >>= _) _ _ _;have lh:=CmpOf.ints_gt (prog:=prog) (w:=w) (A:=A.in1) (P:=λi v=>∃t,v= .int (if i=0 then f j else m) t) (λi=>if i=0 then f j else m) (λi v e=>e);refine af (iZ (bJ (af (lh 0 1 _ _ _ _ _ ⟨t,rfl⟩ ⟨u,rfl⟩ ?_))));refine af (bJ (cA ?_));refine af (gG (aA ?_))
   by_cases hb:f j > m
   ·show wpAny _ _ (if decide (f j > m)=true then _ else _) _ _ _;rw[if_pos (decide_eq_true hb)];refine af (eg kY rfl (af (gG ?_)) (by show(2:Nat)<=_;decide));rw[kR];obtain⟨c',e'⟩:∃c',(h'.update S (dk λ_=>#[.int (f j) t,.int (f j) t])).get? S=some {cls:=.type "list",dict:=none,data:=.seq #[.int (f j) t,.int (f j) t] c',slots:=#[]}:=⟨_,bu _ kY rfl⟩;refine aA ⟨eY dR _,xd2 W f hP S kZ d k (j+1) _ (some (f j,t)) c' (by lia) lg (W.frame _ _ _ kX (turned _)) e' ⟨⟨j,by lia,rfl⟩,λi hi=>?_⟩ λv' la kQ ho kS=>?_⟩
    ·by_cases q:i=j
     ·subst q;exact cI _
     ·have:=hle i (by lia);lia
    ·exact hR v' la kQ ho λb o kP kT e=>kS b o kP kT ((bg _ _ (au kT)).trans (kW b o kP e))
   ·show wpAny _ _ (if decide (f j > m)=true then _ else _) _ _ _;rw[if_neg (by rw[decide_eq_false hb];exact aR)];refine af (gG ?_);rw[kR];refine aA ⟨eY dR _,xd2 W f hP S kZ d k (j+1) _ (some (m,u)) c (by lia) lg kX kY ⟨⟨i0,by lia,e0⟩,λi hi=>?_⟩ λv' la kQ ho kS=>hR v' la kQ ho λb o kP kT e=>kS b o kP kT (kW b o kP e)⟩
    by_cases q:i=j
    ·subst q;lia
    ·exact hle i (by lia)
def xpY{xs:Array (Int×Tok)}{d:Value}{Q:Value->ak->Prop}(hh:A.handled=none)(hl:s.heap.IsList l (iB xs))
  (h:∀v h' tk,xoF (numAt xs) xs.size d v->(∀b o,s.heap.get? b=some o->h'.get? b=some o)->Q v {s with heap:=h',toks:=tk}):
  wpAny (model prog w) A (call (.builtin "max") [.ref l] [(bE "default",d)]) Q E s:=by
 have kP:(toString "max"++toString ".loop":String)="max.loop":=by decide
 refine kmk_tree F.kind_max F.plain_max F.entry_max (xpX _ _) ?_;show wpAny _ A.in1 (gO "max" ["key","default"] 0 ⟨[],[(bE "default",d)]⟩ >>= _) _ _ s;refine af (gH (show gO "max" ["key","default"] 0 ⟨[],[(bE "default",d)]⟩=pure [none,some d]from rfl) ?_);refine af (aA (af (iter_intList hl λs₂ e st kR kQ=>?_)));subst e;refine af (eC ?_);rw[kP];have W:=Walks.list (prog:=prog) (w:=w) (A:=A.in1) hh s.heap.objs.size l kQ (iB xs);have hsz:(iB xs).size=xs.size:=by simp[iB]
 refine aA ⟨eY dR _,xd2 W (numAt xs) (λi v e=>intItems_at e) _ (λhm=>cg _ (kR _ hm)) d _ 0 _ none 0 rfl (bL _) (W.frame _ _ _ st λb _ o e=>ai _ e) (aT _ rfl) rfl λv h' tk ho hk=>?_⟩;rw[hsz]at ho;exact h v h' tk ho (old_kept λb o kS e=>hk b o kS (aQ (aB e)) (ai _ e))
end
def xtG(K:aq)(ta:TA)(tf:TE):TE:=λσ H Q=>ta σ H λxs H1=>tf σ H1 λy H2=>
 Ex3 λ(l:Addr) (ns:List Int) (z:Int)=>xs=[.ref l]/\y= .int z/\SqL K H2 l (ns.map V.int)/\∀m,(ns=[]->m=z)->(ns≠[]->m∈ns/\∀a∈ns,a<=m)->Q (.int m) H2
def xro{fe:Expr}{ta:TA}{tf:TE}{kp:Pos}(hc:X.calm=true)(hg:Gl X "max")(hm:X.mg "max"=none)(ha:PA X [e] ta)(hf:PE X fe tf)
  (he:autoParam (bR pos (aE [e] X.env)=(false,eval e X.env)::bR pos (aE [] X.env)) sV):
  PE X (.Call (.Name "max" p) [e] [⟨some "default",fe,kp⟩] pos) (xtG X.K ta tf):=by
 intro pins s σ H Q I h;refine bX (vK I hg hm xg7 ?_ (by decide) (by decide));refine callWith_kw (uJ (ha pos pins s σ H _ I h) λus s1 xs H1 I1 r1 q1=>?_) he (by rw[he];rfl) rfl rfl;refine kws_cons (yg (hf pins s1 σ H1 _ I1 q1) λfu s2 y H2 I2 r2 q2=>kws_nil ?_);obtain⟨l,ns,z,rfl,rfl,hl,q⟩:=q2;obtain⟨u,rfl,ru⟩:=Vals.one r1;cases ru;obtain⟨tz,rfl⟩:=r2;obtain⟨its,r',pl,hz⟩:=I2.list hl;have hi:=intsAre_of r';have hL:=pl.isList;have hn:=hi.numsOf;obtain⟨ys,e⟩:=hi.allInts.items;rw[e]at hL;have e2:numsOf its=numsOf (iB ys).toList:=by rw[<-e]
 rw[e2,nums_intItems]at hn;have hlen:=congrArg gF hn;rw[ag,dU]at hlen;show wpAny _ _ (call (.builtin "max") [.ref l] [(bE "default",.int z tz)]) _ _ s2;refine xpY (I.ok.hd hc) hL λv h' tk ho hk=>?_
 by_cases kP:ns=[]
 ·have h0:ys.size=0:=by rw[hlen,kP];rfl
  have:=ho.1 h0;subst this;exact⟨.int z,H2,I2.kept (t':=tk) hk,⟨tz,rfl⟩,q z (λ_=>rfl) λx=>absurd kP x⟩
 ·have kR:0<ns.length:=dX.mpr kP;obtain⟨m,t,rfl,⟨i,kS,ei⟩,hle⟩:=ho.2 (by omega);refine⟨.int m,H2,I2.kept (t':=tk) hk,⟨t,rfl⟩,q m (λx=>absurd x kP) λ_=>⟨?_,λa kQ=>?_⟩⟩
  ·rw[<-hn,<-ei,numAt_eq];exact getD_mem (by rw[ag,dU];omega)
  ·rw[<-hn]at kQ;obtain⟨j,hj,rfl⟩:=mem_getD kQ;rw[ag,dU]at hj;rw[<-numAt_eq];exact hle j hj
open PySem PySem.Spec PyProof.Rows PySem.W
structure xgq(K:aq)(x qual:Str)(st:Stmt)(f:Addr)(fd:ax)(ds:List Value):Prop where
 ex:∃(oc:Value) (od:Option Addr) (dT:Addr) (o:Obj) (n:Nat) (kV doc pm:Value) (an:Option Addr) (cdv ct:Value) (osl:Array (Option Value)),
  fd=cq x qual (yh st) (xr st) (xh st) (.ref dT) kV doc pm an cdv ct/\K.lookup f=some ⟨oc,od,.func fd,osl⟩/\cS K cdv qual=true/\K.lookup dT=some o/\o.data= .seq ds.toArray n
 kp:cx K (.ref f)=true
def xgq.ok{k:Nat}(F:xgq K x qual st f fd ds)(S:xu N ps (xh st))(len:∀vs H Q E,sp vs H Q E->vs.length=ps.length)
  (kP:∀(cdv:Value) (A:bo) (outer:List Env) (s:ak) (H:Hp) (vs:List V) (Q:VK) (E:XK),ya k (A.deeper (cV qual (xh st) s.heap.objs.size f cdv))->sp vs H Q E->
   ∃t,PSs (uQ CX0 P w K mg base N qual (xh st) f cdv A outer s H E).nox (xr st) t/\t {nx:=λ_ H'=>Q .non H',rt:=Q} (start N vs) H):xE P w K mg base CX0 (k+1) f fd ps sp:=by
 obtain⟨oc,od,dT,o,n,kV,doc,pm,an,cdv,ct,osl,rfl,lk,kR,_⟩:=F.ex;refine xj9 lk kR S len λA outer s H vs Q E hr kQ=>?_;obtain⟨t,h,q⟩:=kP cdv A outer s H vs Q E hr kQ;exact⟨t,h.nox,q⟩
def xgq.binds{es:List Value}(F:xgq K x qual st f fd ds)(n:Nat)(hn:n+es.length=ps.length)
  (h:∀(dT:Addr) (kV doc pm:Value) (an:Option Addr) (cdv ct:Value) (us:List Value),us.length=n->
   ∃k:Option (Array Value)->Sem (List (Str×Value)),dB (cq x qual (yh st) (xr st) (xh st) (.ref dT) kV doc pm an cdv ct) ⟨us,[]⟩=iN (.ref dT) >>= k/\k (some ds.toArray)=pure (ps.zip (us++es))):Binds K fd ps es:=by
 obtain⟨oc,od,dT,o,n,kV,doc,pm,an,cdv,ct,osl,rfl,lk,kP,ho,hs⟩:=F.ex;intro s us X hl;obtain⟨k,h1,h2⟩:=h dT kV doc pm an cdv ct us (by rw[aC]at hl;lia);exact binds_K X rfl ho hs h1 h2
def xmu{dT:Addr}{oc:Value}{od an kQ:Option Addr}{osl kP:Array (Option Value)}{kV doc pm cdv ct dc:Value}{n:Nat}(l:K.lookup f=some ⟨oc,od,.func (cq x qual (yh st) (xr st) (xh st) (.ref dT) kV doc pm an cdv ct),osl⟩)
  (c:cS K cdv qual=true) (k:cx K (.ref f)=true) (d:K.lookup dT=some ⟨dc,kQ,.seq ds.toArray n,kP⟩):xgq K x qual st f (cq x qual (yh st) (xr st) (xh st) (.ref dT) kV doc pm an cdv ct) ds:=
 ⟨⟨oc,od,dT,_,n,kV,doc,pm,an,cdv,ct,osl,rfl,l,c,d,rfl⟩,k⟩
def Nu(X:Cx)(H:Hp)(b:Addr):Prop:=H b=none/\X.s₀.heap.get? b=none/\∀p∈X.pn,p.1≠b
inductive xqQ(n:Bool)(X:Cx)(H:Hp)(h:Heap)(a:Addr)(cls:Value)(dx:Option Addr):Prop
 |intro(oe:Obj) (vs:Array Value) (a0:Value) (e1:h.get? a=some oe) (e2:oe.cls=cls) (e3:oe.dict=dx) (e4:oe.data= .fields vs) (e5:vs[0]? =some a0) (e6:vs[1]? =some .none) (e7:n=true->vs[2]? =some .none) (e8:Nu X H a):xqQ n X H h a cls dx
inductive xbV(n:Bool)(X:Cx)(fl:Value)(H:Hp)(h:Heap)(a:Addr)(cls:Value)(dx:Option Addr):Prop
 |intro(oe:Obj) (vs:Array Value) (a0:Value) (T:Addr) (oT:Obj) (ts:Array Value) (e1:h.get? a=some oe) (e2:oe.cls=cls) (e3:oe.dict=dx) (e4:oe.data= .fields vs) (e5:vs[0]? =some a0) (e6:vs[1]? =some (.ref T)) (e7:n=true->vs[2]? =some .none) (e8:T≠a) (e9:h.get? T=some oT) (ea:oT.data= .fields ts) (eb:ts[3]? =some fl) (ec:Nu X H a) (ed:Nu X H T):xbV n X fl H h a cls dx
def xpZ(n:Bool)(X:Cx)(H:Hp)(h:Heap)(a:Addr)(cls:Value)(dx:Option Addr):Prop:=
 xqQ n X H h a cls dx\/xbV n X .none H h a cls dx\/xbV n X (bN X.env.locals) H h a cls dx
structure Own(X:Cx):Prop where
 ex:X.ex=[]
 st:X.stack=X.env::X.outer
 fr:X.env.frame=some X.env.locals
abbrev EEs:=St->XK
inductive XEG(n:Bool)(X:Cx)(EE:EEs)(e:Value)(s':ak):Prop
 |intro(a:Addr) (cls:Value) (dx:Option Addr) (σ:St) (H:Hp) (e1:e= .ref a) (e2:Inv X [] σ H s') (e3:xpZ n X H s'.heap a cls dx) (e4:EE σ cls dx H):XEG n X EE e s'
def Inv.nopins(I:Inv X pins σ H s):Inv X [] σ H s:=I.pins_of λp hp=>nomatch hp
def Own.mem(o:Own X){b:Addr}:b∈frs X.stack↔b=X.env.locals\/b∈X.fs:=by
 rw[o.st];unfold frs;rw[fg,o.fr];exact av
def Inv.flown{h':Heap}(o:Own X)(I:Inv X [] σ H s)(ch:Addr->Prop)
  (keep:∀b u,¬ch b->b∉frs X.stack->s.heap.get? b=some u->h'.get? b=some u)
  (slot:∀b u,¬ch b->b∈frs X.stack->s.heap.get? b=some u->∃sl,h'.get? b=some {u with slots:=sl})
  (new:∀b,ch b->Nu X H b/\∀u,s.heap.get? b=some u->∃vs,u.data= .fields vs):Inv X [] σ H {s with heap:=h'}:=by
 have any:∀b u,¬ch b->s.heap.get? b=some u->∃sl,h'.get? b=some {u with slots:=sl}:=λb u n e=>by
  by_cases hb:b∈frs X.stack
  ·exact slot b u n hb e
  ·exact⟨u.slots,keep b u n hb e⟩
 have old:∀b u,X.s₀.heap.get? b=some u->¬ch b:=λb u e z=>by
  have:=(new b z).1.2.1;rw[e]at this;cases this
 have kQ:∀b u,X.s₀.heap.get? b=some u->b≠X.env.locals:=λb u e=>aQ (aJ (aB e) I.ok.above);have cel:∀c v,s.heap.IsCell c v->h'.IsCell c v:=λc v ⟨u,e,d⟩=>by
  obtain⟨sl,q⟩:=any c u (λz=>by
   obtain⟨vs,w⟩:=(new c z).2 u e;rw[d]at w;cases w) e
  exact⟨_,q,d⟩
 refine⟨I.ok,I.os,I.bare,⟨λb u e n hb hx=>?_,λb u e n hb hx=>?_,I.base.free,λb u e hx=>?_,I.base.fix⟩,?_,λx c e=>?_,I.free,I.freeC,λp hp=>?_,λb u e=>?_,I.len⟩
 ·exact keep b u (old b u e) (λz=>(o.mem.mp z).elim (kQ b u e) hb) (I.base.keep b u e n hb hx)
 ·obtain⟨sl,e1⟩:=I.base.slot b u e n hb hx;obtain⟨kP,e2⟩:=slot b _ (old b u e) (o.mem.mpr (.inr hb)) e1;exact⟨kP,e2⟩
 ·by_cases hb:b∈X.fs
  ·obtain⟨o',e1⟩:=I.base.there b u e hx;obtain⟨sl,e2⟩:=any b _ (old b u e) e1;exact⟨_,e2⟩
  ·obtain⟨o',e1⟩:=I.base.there b u e hx;obtain⟨sl,e2⟩:=any b _ (old b u e) e1;exact⟨_,e2⟩
 ·obtain⟨m,⟨u,es,ep,e,d⟩,l⟩:=I.loc;obtain⟨sl,q⟩:=any _ u (λz=>by
   obtain⟨vs,w⟩:=(new _ z).2 u e;rw[d.1]at w;cases w) e
  refine⟨m,⟨_,es,ep,q,d⟩,λi x v e1 e2 e3=>?_⟩;obtain⟨y,r,z⟩:=l i x v e1 e2 e3;exact⟨y,r,z.imp id λ⟨k,c,e,z⟩=>⟨k,c,e,cel c _ z⟩⟩
 ·obtain⟨v,z⟩:=I.cell x c e;exact⟨v,cel c v z⟩
 ·obtain⟨e,n,ne,nf,d⟩:=I.pin p hp;have kR:p∈X.pn:=by simpa using hp
  exact⟨keep p.1 p.2 (λz=>(new _ z).1.2.2 p kR rfl) (λz=>(o.mem.mp z).elim ne nf) e,n,ne,nf,d⟩
 ·refine(I.hok b u e).stay (λc v hc q=>?_) (λ_ q=>q) λ_ _ q _=>q;have tr:∃u,H c=some u:=by
   rcases hc with rfl|hc
   ·exact⟨u,e⟩
   ·exact⟨_,hc⟩
  obtain⟨u',tr⟩:=tr;refine keep c v (λz=>?_) (λz=>?_) q
  ·rw[(new c z).1.1]at tr;cases tr
  ·rw[I.stkFree c z]at tr;cases tr
def xhd{a0 head:Value}{kZ:Bool}(o:Own X)(kY:A'.frames=some X.stack)(I:Inv X [] σ H s)
  (he:s.heap.get? a=some oe) (hd:oe.data= .fields vs) (h0:vs[0]? =some a0) (h1:1<vs.size) (h2:n=true->vs[2]? =some .none) (hn:Nu X H a)
  (h:∀s',Inv X [] σ H s'->xbV n X (bN X.env.locals) H s'.heap a oe.cls oe.dict->Q () s'):
  wpAny M A' (do let f <-frameOf X.env;let pl <-entryPlaceOf X.env.locals kZ;let b <-kn head f .none (bN X.env.locals) .none pl;setField (.ref a) 1 b) Q E s:=by
 have kQ:s.heap.FunFrames X.base (X.env::X.outer):=by have:=I.stack;rwa [o.st]at this
 have kP:∀b,b∈(X.env::X.outer).filterMap (·.frame)↔b∈frs X.stack:=λb=>by rw[o.st];rfl
 have kX:a∉frs X.stack:=λz=>by
  refine L2.oG λ_ Z=>?_;obtain⟨_,u,hu,kW⟩:=kQ.mem ((kP a).mpr z);apply Z;rw[he]at hu;injection hu with hu;subst hu;exact kW vs hd
 refine af (wpAny_frameOf_fun (by rw[kY,o.st]) kQ o.fr λg1 so=>?_);refine af (wpAny_entryPlaceOf λpl kT=>?_);unfold kn newFields;refine af (eC ?_ (kT.sizeOk5 _ _ _ _ _));have kS:g1.get? a=some oe:=(so.2.1 a λz=>kX ((kP a).mp z)).trans he;generalize hT:({cls:=.type "traceback",dict:=none,data:=.fields ([head,.ref X.env.locals,.none,bN X.env.locals,.none]++(if pl.isEmpty then ao 6 bp else pl)).toArray}:Obj)=ot;have kR:=ai (h:=g1) ot kS;refine eK kR hd h1 ?_;have neT:g1.objs.size≠a:=gr (aB kS);have d3:=fG hd (·.setIfInBounds 1 (aG g1.objs.size));have a3:=bu (bU (·.setIfInBounds 1 (aG g1.objs.size))) kR (gj d3);have t3:((g1.push ot).update a (bU (·.setIfInBounds 1 (aG g1.objs.size)))).get? g1.objs.size=some ot:=(bg _ _ (au neT)).trans (aT g1 (by rw[<-hT];rfl));have kp:∀b u,b≠a->g1.get? b=some u->((g1.push ot).update a (bU (·.setIfInBounds 1 (aG g1.objs.size)))).get? b=some u:=λb u nb e=>
  (bg _ _ (au nb)).trans (ai _ e)
 have old:∀b u,s.heap.get? b=some u->b≠g1.objs.size:=λb u e=>aQ (by rw[so.1];exact aB e);have nT:Nu X H g1.objs.size:=by
  refine⟨I.hok.fresh (by rw[so.1];exact ay _),?_,λp hp z=>old p.1 p.2 (I.pin p (by simpa using hp)).1 z⟩;exact eQ (by rw[so.1];exact I.sz)
 have J:Inv X [] σ H {s with heap:=(g1.push ot).update a (bU (·.setIfInBounds 1 (aG g1.objs.size)))}:=by
  refine I.flown o (λb=>b=a) (λb u n nf e=>kp b u n ((so.2.1 b λz=>nf ((kP b).mp z)).trans e)) (λb u n _ e=>?_) (λb z=>?_)
  ·obtain⟨sl,e1⟩:=so.2.2 b u e;exact⟨sl,kp b _ n e1⟩
  ·subst z;exact⟨hn,λu e=>⟨vs,by rw[he]at e;cases e;exact hd⟩⟩
 refine h _ J ?_
 ·refine⟨_,_,a0,g1.objs.size,ot,_,a3,Obj.cls_mapFields _ _,?_,d3,by rw[gm (by decide)];exact h0,by simp[h1],λz=>by rw[gm (by decide)];exact h2 z,neT,t3,by rw[<-hT],by simp,hn,nT⟩;refine L2.oG λ_ Z=>?_;obtain⟨c,d,dt,sl⟩:=oe;apply Z;cases dt<;> rfl
def xaU(o:Own X)(kR:A'.frames=some X.stack)(I:Inv X [] σ H s)(F:xpZ n X H s.heap a cls dx)
  (h:∀s',Inv X [] σ H s'->xbV n X (bN X.env.locals) H s'.heap a cls dx->Q () s'):wpAny M A' (noteFrame (.ref a) X.env) Q E s:=by
 unfold noteFrame;simp only[o.fr];rcases F with⟨oe,vs,a0,he,rfl,rfl,hd,h0,h1,h2,hn⟩|⟨oe,vs,a0,T,oT,ts,he,rfl,rfl,hd,h0,h1,h2,nT,hT,kP,h3,hn,kQ⟩|F
 ·refine af (cw he hd h1 ?_);rw[if_neg (by decide)];exact xhd o kR I he hd h0 (dD.mp h1).1 h2 hn h
 ·refine af (cw he hd h1 ?_);rw[if_pos (by simp:(aG T != bp)=true)];refine af (cw hT kP h3 ?_);rw[if_neg (by simp[bN]:¬((bp==bN X.env.locals)=true))];refine af (eK hT kP (dD.mp h3).1 ?_);have ot:∀b,b≠T->(s.heap.update T (bU (·.setIfInBounds 3 bp))).get? b=s.heap.get? b:=λb nb=>bg _ _ (au nb);have I':Inv X [] σ H {s with heap:=s.heap.update T (bU (·.setIfInBounds 3 bp))}:=by
   refine I.flown o (λb=>b=T) (λb u n _ e=>(ot b n).trans e) (λb u n _ e=>⟨u.slots,(ot b n).trans e⟩) (λb z=>?_);subst z;exact⟨kQ,λu e=>⟨ts,by rw[hT]at e;cases e;exact kP⟩⟩
  exact xhd o kR I' ((ot a (au nT)).trans he) hd h0 (dD.mp h1).1 h2 hn h
 ·refine L2.oG λ_ Z=>?_;obtain⟨oe,vs,a0,T,oT,ts,he,hc,hx,hd,h0,h1,h2,nT,hT,kP,h3,hn,kQ⟩:=id F;apply Z;refine af (cw he hd h1 ?_);rw[if_pos (by simp:(aG T != bp)=true)];refine af (cw hT kP h3 ?_);rw[if_pos (by simp:(bN X.env.locals==bN X.env.locals)=true)];exact aA (h s I F)
def zv{to:Option Addr}(o:Own X)(I:Inv X [] σ H s)(F:xbV n X fl H s.heap a cls dx)
  (h:∀s',Inv X [] σ H s'->xbV n X (to.elim .none λf=>bN f) H s'.heap a cls dx->Q () s'):wpAny M A' (setFlight (.ref a) to) Q E s:=by
 obtain⟨oe,vs,a0,T,oT,ts,he,rfl,rfl,hd,h0,h1,h2,nT,hT,kP,h3,hn,kQ⟩:=F;unfold setFlight;refine af (cw he hd h1 ?_);rw[if_pos (by simp:(aG T != bp)=true)];have z3:=(dD.mp h3).1;have ot:∀b,b≠T->(s.heap.update T (bU (·.setIfInBounds 3 (to.elim bp λf=>bN f)))).get? b=s.heap.get? b:=λb nb=>bg _ _ (au nb);have d3:=fG kP (·.setIfInBounds 3 (to.elim bp λf=>bN f));refine eK hT kP z3 (h _ (I.flown o (λb=>b=T) (λb u n _ e=>(ot b n).trans e) (λb u n _ e=>⟨u.slots,(ot b n).trans e⟩) λb z=>?_) ?_)
 ·subst z;exact⟨kQ,λu e=>⟨ts,by rw[hT]at e;cases e;exact kP⟩⟩
 ·exact⟨oe,vs,a0,T,_,_,(ot a (au nT)).trans he,rfl,rfl,hd,h0,h1,h2,nT,bu _ hT (gj d3),d3,by simp[z3],hn,kQ⟩
def xbW(o:Own X)(kP:A'.frames=some X.stack)(I:Inv X [] σ H s)(F:xpZ n X H s.heap a cls dx)
  (h:∀s',Inv X [] σ H s'->xbV n X .none H s'.heap a cls dx->Q () s'):wpAny M A' (leaving X.env (.ref a)) Q E s:=by
 unfold leaving;exact af (xaU o kP I F λs1 I1 F1=>zv (to:=none) o I1 F1 h)
def PassesOwn.xe(o:Own X):PassesOwn (model X.prog X.w) X.A X.env (XEG n X EE):=by
 rintro e s' ⟨a,cls,dx,σ,H,rfl,I,F,q⟩;refine xaU o I.ok.frames I F λs1 I1 F1=>?_;unfold fN;obtain⟨oe,vs,a0,T,oT,ts,he,hc,hx,hd,h0,h1,_⟩:=id F1;refine af (cw he hd h1 ?_);rw[if_neg (by simp)];refine zv (to:=X.env.frame) o I1 F1 λs2 I2 F2=>⟨a,cls,dx,σ,H,rfl,I2,.inr (.inr ?_),q⟩;rw[o.fr]at F2;exact F2
inductive CXG(n:Bool)(P:aH)(w:World)(outer:List Env)(H:Hp)(s:ak)(E:XK)(e:Value)(s':ak):Prop
 |intro(a:Addr) (cls:Value) (dx:Option Addr) (H':Hp) (oe:Obj) (vs:Array Value) (a0:Value) (T:Addr) (oT:Obj) (ts:Array Value) (e1:e= .ref a) (e2:s'.os=s.os) (e3:fJ s'.gens) (e4:Un (frs outer) [] H H' s.heap s'.heap) (e5:HOk P w H' s'.heap)
  (f1:s'.heap.get? a=some oe) (f2:oe.cls=cls) (f3:oe.dict=dx) (f4:oe.data= .fields vs) (f5:vs[0]? =some a0) (f6:vs[1]? =some (.ref T)) (f7:n=true->vs[2]? =some .none) (f8:T≠a) (f9:s'.heap.get? T=some oT) (fa:oT.data= .fields ts) (fb:ts[3]? =some .none)
  (g1:H' a=none) (g2:s.heap.get? a=none) (g3:H' T=none) (g4:s.heap.get? T=none) (g5:E cls dx H'):CXG n P w outer H s E e s'
def xku{CX:CXT}{sc:Scope}{cd:Value}{outer:List Env}{E:XK}:
  Own (uQ CX P w K mg base N qual sc f cd A outer s H E):=⟨rfl,rfl,rfl⟩
def PSs.wished{st:List Stmt}{t:TS}(h:PSs (X.wish E) st t)(hE:∀e s,E e s->X.xe e s):PSs X st t:=λpins s σ H D I hw=>
 aN (h pins s σ H D (I.wish _) hw) (λ_ _ q=>q.unwish) hE
abbrev cxG(n:Bool)(P:aH)(w:World)(K:aq)(mg:Str->Option Value)(base:Heap)(N:List Str)(qual:Str)(sc:Scope)(f:Addr)(cd:Value)(A:bo)(outer:List Env)(s:ak)(H:Hp)(E:XK):Cx:=
 (uQ (CXG n P w) P w K mg base N qual sc f cd A outer s H E).wish (XEG n (uQ (CXG n P w) P w K mg base N qual sc f cd A outer s H E) λ_=>E)
def Fun.okX{k:Nat}(F:Fun K x qual st f fd)(S:xu N ps (xh st))(len:∀vs H Q E,sp vs H Q E->vs.length=ps.length)
  (kP:∀(cdv:Value) (A:bo) (outer:List Env) (s:ak) (H:Hp) (vs:List V) (Q:VK) (E:XK),ya k (A.deeper (cV qual (xh st) s.heap.objs.size f cdv))->sp vs H Q E->
   ∃t,PSs (cxG n P w K mg base N qual (xh st) f cdv A outer s H E) (xr st) t/\t {nx:=λ_ H'=>Q .non H',rt:=Q} (start N vs) H):xE P w K mg base (CXG n P w) (k+1) f fd ps sp:=by
 obtain⟨oc,od,kV,doc,pm,an,cdv,ct,osl,rfl,lk,kT⟩:=F.ex;refine xj9 lk kT S len λA outer s H vs Q E hr kR=>?_;obtain⟨t,h,q⟩:=kP cdv A outer s H vs Q E hr kR;refine⟨t,h.wished λe s' ⟨a,cls,dx,σ,H',he,I,Fl,z⟩=>?_,q⟩;subst he;refine xbW xku I.ok.frames I Fl λs2 I2 F2=>?_;obtain⟨oe,vs,a0,T,oT,ts,he,hc,hx,hd,h0,h1,h2,nT,hT,kS,h3,hn,kQ⟩:=F2;exact⟨a,cls,dx,H',oe,vs,a0,T,oT,ts,rfl,I2.os,I2.bare,I2.base,I2.hok,he,hc,hx,hd,h0,h1,h2,nT,hT,kS,h3,hn.1,hn.2.1,kQ.1,kQ.2.1,z⟩
section
theorem xhe{e:Value}(o:Own X)(I:Inv (X.wish (XEG n X EE)) pins σ H s)(h:CXG n X.prog X.w X.stack H s (EE σ) e s'):XEG n X EE e s':=by
 refine L2.oG λ_ Z=>?_;obtain⟨a,cls,dx,H',oe,vs,a0,T,oT,ts,rfl,os,bare,un,hok,he,hc,hx,hd,h0,h1,h2,nT,hT,kP,h3,n1,n2,n3,n4,q⟩:=h;apply Z;have I0:Inv X pins σ H s:=I.unwish;have I1:Inv X pins σ H' s':=I0.call' os un hok bare λb z=>absurd z (by simp);have nu:∀b,H' b=none->s.heap.get? b=none->Nu X H' b:=λb m1 m2=>by
  refine⟨m1,?_,λp hp z=>?_⟩
  ·cases q:X.s₀.heap.get? b with
   |none=>rfl
   |some u=>
    obtain⟨u',e⟩:=I0.base.there b u q (by rw[o.ex];simp);rw[m2]at e;cases e
  ·have:=(I0.pin p (ba _ hp)).1;rw[z,m2]at this;cases this
 exact⟨a,cls,dx,σ,H',rfl,I1.nopins,.inr (.inl ⟨oe,vs,a0,T,oT,ts,he,hc,hx,hd,h0,h1,h2,nT,hT,kP,h3,nu a n1 n2,nu T n3 n4⟩),q⟩
variable {k:Nat} {dvs:List V} {m:Str} {apos:Pos} {ob:Expr}
theorem xii{Q:VK}{us:List Value}{vs:List V}(o:Own X)(F:xE X.prog X.w X.K X.mg X.base (CXG n X.prog X.w) k f fd ps sp)(hr:ya k X.A)(hb:Binds X.K fd ps ds)(hd:Vals dvs ds)
  (I:Inv (X.wish (XEG n X EE)) pins σ H s) (r:Vals vs us) (h:sp (vs++dvs) H Q (EE σ)):wpAny (model X.prog X.w) X.A (call (.ref f) us) (EP (X.wish (XEG n X EE)) pins σ Q) (XEG n X EE) s:=by
 have r2:Vals (vs++dvs) (us++ds):=r.append hd;have hl:(us++ds).length=ps.length:=r2.length.symm.trans (F.len _ _ _ _ h);refine dH (cE (F.run X.A X.stack s H ⟨us,[]⟩ (us++ds) (vs++dvs) Q (EE σ) hr I.unwish.env0 (hb s us I.unwish.kIn hl) r2 h) λz s' hq=>?_)
 match z,hq with
 | .error e,hq=>exact xhe o I hq
 | .ok (.ret u),hq=>exact I.after hq
 | .ok .next,hq=>exact hq.elim
 | .ok .brk,hq=>exact hq.elim
 | .ok .cont,hq=>exact hq.elim
def xsP(sp:Sp)(dvs:List V)(EE:EEs)(t:TA):TE:=λσ H Q=>t σ H λvs H1=>sp (vs++dvs) H1 Q (EE σ)
def xkv(o:Own X)(F:xE X.prog X.w X.K X.mg X.base (CXG n X.prog X.w) k f fd ps sp)(hr:ya k X.A)(hg:Gl X x)(hm:X.mg x=some (.ref f))(hk:cx X.K (.ref f)=true)(hb:Binds X.K fd ps ds)(hd:Vals dvs ds)
  (ha:PA (X.wish (XEG n X EE)) (e::es) t) (kQ:autoParam ((x==("__debug__":Str))=false) sJ) (he:autoParam (aE (e::es) X.env=(false,eval e X.env)::aE es X.env) sV) (kP:autoParam ((bR pos (aE es X.env)).any (·.1)=false) sV):
  PE (X.wish (XEG n X EE)) (.Call (.Name x p) (e::es) [] pos) (xsP sp dvs EE t):=by
 intro pins s σ H Q I h;refine bX (zR I hg hm ?_ kQ);refine fC (h₀:=X.base) I.ok.mod.kin hk (uJ (ha pos pins s σ H _ I h) λus s1 vs H1 I1 r q=>⟨I1.kIn,xii o F hr hb hd I1 r q⟩) he kP
end
abbrev xnk(X:Cx):=xbV false X
abbrev XE(X:Cx)(EE:EEs):=XEG false X EE
abbrev XEN(X:Cx)(EE:EEs):=XEG true X EE
abbrev CXE(P:aH)(w:World):CXT:=CXG false P w
abbrev CXN(P:aH)(w:World):CXT:=CXG true P w
noncomputable def xnl:List Value:=[.type "ValueError",.type "Exception",.type "BaseException",.type "object"]
def xbX(K:aq)(C:Addr)(r:Option Value):Bool:=match K.lookup C with
 |some ⟨.type "type",_,.cls cd,sl⟩=>(match cd.mro,sl.toList with
  | .ref C'::bm,[_,_,_,_,some (.builtin n),_]=>C'==C&&n=="ValueError.__new__"&& !cd.hasDel&&W.tailIn K xnl bm&&W.nsOkIn K cd.ns&&iC K cd.ns "__init__"==some r
  |_,_=>false)
 |_=>false
def xnm{N:Addr}{n:Str}(X:K.In h)(G:h.Ns N mg)(e:iC K N n=some (some v)):mg n=some v:=by
 obtain⟨o,es,ep,ho,hd,_,hf⟩:=G;unfold iC at e
 split at e
 ·rename_i c d kP n' sl q;have:=X _ _ q;rw[ho]at this;cases this;cases hd
  split at e
  ·rename_i en he;cases e;rw[<-hf];unfold nsFind findBy;rw[<-kr,he];rfl
  ·split at e<;> cases e
 ·cases e
theorem xij{r:Option Value}(q:xbX K C r=true)(X:K.In h):∃bm N nm qn bs hdct sn sub ab col dd k0 k1 k2 k3 k5,
  h.get? C=some (fc nm qn C N bs bm hdct sn sub ab col dd k0 k1 k2 k3 k5 "ValueError.__new__")/\h.Ns N (h.nsMap N)/\h.nsMap N "__init__"=r/\OwnTail h xnl bm:=by
 unfold xbX at q
 split at q
 ·rename_i dd cd sl ho
  split at q
  ·rename_i C' bm k0 k1 k2 k3 n k5 hm hs;simp only[fX,beq_iff_eq,Bool.not_eq_true']at q;refine L2.oG λ_ Z=>?_;obtain⟨⟨⟨⟨⟨rfl,rfl⟩,kP⟩,ht⟩,hok⟩,kQ⟩:=q;obtain⟨nm,bs,mro,ns,qn,hd,sn,sub,ab,col,del⟩:=cd;obtain⟨l⟩:=sl;apply Z;dsimp only at hm kP hok kQ hs;subst hm kP hs;have N1:h.Ns ns (h.nsMap ns):=.of_isNs (W.isNs_of_in X hok);refine⟨bm,ns,nm,qn,bs,hd,sn,sub,ab,col,dd,k0,k1,k2,k3,k5,X _ _ ho,N1,?_,W.tail_of_in X ht⟩;cases r with
   |none=>exact W.nsMap_none_of_in X hok kQ
   |some v=>exact xnm X N1 kQ
  ·cases q
 ·cases q
def xik(K:aq)(C:Addr):Prop:=xbX K C none=true
theorem yl.here{o:HO}(x:yl P w H h a o):∃u,h.get? a=some u:=by
 cases o with
 |lst xs=>obtain⟨_,_,_,_,e⟩:=x;exact⟨_,e⟩
 |tup xs=>obtain⟨_,_,_,u,e,_⟩:=x;exact⟨_,e⟩
 |dK kvs=>obtain⟨_,_,_,_,o,_,_,e,_⟩:=x;exact⟨_,e⟩
 |dT kvs=>obtain⟨_,_,_,_,o,_,_,e,_⟩:=x;exact⟨_,e⟩
 |set S n=>obtain⟨o,_,_,_,e,_⟩:=x;exact⟨_,e⟩
 |ins C dx fs=>obtain⟨_,_,_,e,_⟩:=x;exact⟨_,e⟩
 |own y=>exact x
 |xd fs=>obtain⟨_,⟨_,_,_,e,_⟩,_⟩:=x;exact⟨_,e⟩
 |rng lo hi=>obtain⟨_,_,_,e⟩:=x;exact⟨_,e⟩
 |frz ob u=>obtain⟨e,_⟩:=x;exact⟨_,e⟩
 |tbl qs=>obtain⟨_,e,_⟩:=x;exact⟨_,e⟩
 |cel v=>obtain⟨_,⟨_,e,_⟩,_⟩:=x;exact⟨_,e⟩
 |met f y=>exact⟨_,x⟩
 |ext φ=>exact x.2.1
section
theorem xnn(o:Own X)(I:Inv X pins σ H s){b:Addr}(m:s.heap.get? b=none):Nu X H b:=by
 refine⟨?_,?_,λp hp z=>?_⟩
 ·cases q:H b with
  |none=>rfl
  |some u=>
   obtain⟨v,e⟩:=(I.hok b u q).here;rw[m]at e;cases e
 ·cases q:X.s₀.heap.get? b with
  |none=>rfl
  |some u=>
   obtain⟨u',e⟩:=I.base.there b u q (by rw[o.ex];simp);rw[m]at e;cases e
 ·have:=(I.pin p (ba _ hp)).1;rw[z,m]at this;cases this
def xsQ(C:Addr)(EE:EEs)(t:TA):TS:=λ_ σ H=>t σ H λvs H1=>vs.length<=aU/\EE σ (.ref C) none H1
def xaV{np:Pos}(o:Own X)(hc:X.calm=true)(q:xik X.K C)(hg:Gl X x)(hm:X.mg x=some (.ref C))(ha:PA (X.wish (XEG n X EE)) (e::es) t)
  (kS:autoParam ((x==("__debug__":Str))=false) sJ) (he:autoParam (aE (e::es) X.env=(false,eval e X.env)::aE es X.env) sV) (kQ:autoParam ((bR cpos (aE (e::es) X.env)).any (·.1)=false) sV):
  PS (X.wish (XEG n X EE)) (.Raise (some (.Call (.Name x np) (e::es) [] cpos)) none pos) (xsQ C EE t):=by
 intro pins s σ H D I h;obtain⟨bm,N,nm,qn,bs,hdct,sn,sub,ab,col,dd,k0,k1,k2,k3,k5,hC,hN,kR,TL⟩:=xij q I.ok.mod.kin;refine wpAny_Raise_call_subT (C:=C) (N:=N) (bm:=bm) (nm:=nm) (q:=qn) (bs:=bs) (hdct:=hdct) (sn:=sn) (sub:=sub) (ab:=ab) (col:=col) (dd:=dd) (k0:=k0) (k1:=k1) (k2:=k2) (k3:=k3) (k5:=k5) PySem.F.excBase_ValueError (TL.hasType PySem.F.excBase_ValueError.hasBase) (I.ok.hd hc) kQ kR (zR I hg hm ⟨rfl,?_⟩ kS);have kP:=ha cpos pins s σ H _ I h;rw[he]at kP;show wpAny (model X.prog X.w) X.A (j9 (.ref C) true (bR cpos (aE (e::es) X.env)) []) _ _ s;rw[he];refine PySem.evalArgs_kw (keywords:=[]) rfl ?_;refine thn kP λus s1 ⟨vs,H1,I1,r,z,y⟩=>?_;refine aA ?_;refine⟨rfl,by rw[<-r.length];exact z,I1.bk _ _ hC,hN.keeps I1.bk,TL.keeps I1.bk,λh' a mk=>?_⟩;obtain⟨t0,ea,_,_⟩:=mk.there;have I2:Inv X pins σ H1 {s1 with heap:=h'}:=I1.unwish.kept (t':=s1.toks) mk.keeps;exact⟨a,.ref C,none,σ,H1,rfl,I2.nopins,.inl ⟨_,_,.ref t0,ea,rfl,rfl,rfl,rfl,rfl,λ_=>rfl,xnn o I1.unwish mk.new⟩,y⟩
abbrev Cx.pnd(X:Cx)(ps:List (Addr×Obj)):Cx:={X with pn:=X.pn++ps}
noncomputable abbrev Cx.held(X:Cx)(a:Addr)(ps:List (Addr×Obj)):Cx:={X with A:=X.A.mark (some (.ref a)),calm:=false,xe:=λ_ _=>False,pn:=X.pn++ps}
def Cx.Ok.pnd{ps:List (Addr×Obj)}(ok:X.Ok):(X.pnd ps).Ok:=
 ⟨ok.mod,ok.kind,ok.glob,ok.blt,ok.above,ok.inj,ok.has,ok.cab,ok.hd,ok.frames,ok.stk,ok.exf,ok.bs,ok.bsz,ok.noex,ok.exfs,ok.funs,ok.frf,ok.cab2,ok.hz⟩
def Cx.Ok.held{ps:List (Addr×Obj)}(ok:X.Ok):(X.held a ps).Ok:=
 ⟨ok.mod,ok.kind,ok.glob,ok.blt,ok.above,ok.inj,ok.has,ok.cab,(λz=>by cases z),ok.frames,ok.stk,ok.exf,ok.bs,ok.bsz,ok.noex,ok.exfs,ok.funs,ok.frf,ok.cab2,ok.hz⟩
def Own.pnd{ps:List (Addr×Obj)}(o:Own X):Own (X.pnd ps):=⟨o.ex,o.st,o.fr⟩
section
variable {ps:List (Addr×Obj)}
def Inv.pnd(I:Inv X pins σ H s):Inv (X.pnd pins) [] σ H s:=
 ⟨I.ok.pnd,I.os,I.bare,I.base,I.loc,I.cell,I.free,I.freeC,λp hp=>I.pin p (by simpa using hp),I.hok,I.len⟩
def Inv.unpnd(ok:X.Ok)(I:Inv (X.pnd pins) qs σ H s):Inv X pins σ H s:=
 ⟨ok,I.os,I.bare,I.base,I.loc,I.cell,I.free,I.freeC,λp hp=>I.pin p (ba _ hp),I.hok,I.len⟩
theorem SP.unpnd(ok:X.Ok){f:Flow}(h:SP (X.pnd pins) qs D f s'):SP X pins D f s':=by
 cases f with
 |next=>obtain⟨σ',H',I,q⟩:=h;exact⟨σ',H',I.unpnd ok,q⟩
 |brk=>obtain⟨σ',H',I,q⟩:=h;exact⟨σ',H',I.unpnd ok,q⟩
 |cont=>obtain⟨σ',H',I,q⟩:=h;exact⟨σ',H',I.unpnd ok,q⟩
 |ret u=>obtain⟨v,σ',H',I,r,q⟩:=h;exact⟨v,σ',H',I.unpnd ok,r,q⟩
def Inv.held(I:Inv (X.pnd pins) [] σ H s)(ok:X.Ok)(he:s.heap.get? a=some oe)(hn:H a=none)(hd:oe.data= .fields vs):Inv (X.held a (pins++[(a,oe)])) [] σ H s:=by
 refine⟨ok.held,I.os,I.bare,I.base,I.loc,I.cell,I.free,I.freeC,λp hp=>?_,I.hok,I.len⟩;have kP:p∈X.pn++pins\/p=(a,oe):=by
  have:p∈(X.pn++(pins++[(a,oe)]))++[]:=hp;rw[cC,<-bP]at this;rcases aW.mp this with z|z
  ·exact .inl z
  ·exact .inr (aj.mp z)
 rcases kP with kP|rfl
 ·exact I.pin p (ba _ kP)
 ·refine⟨he,hn,λz=>?_,λz=>?_,λv z=>?_⟩
  ·obtain⟨m,⟨u,es,ep,e,d⟩,_⟩:=I.loc;have z':a=X.env.locals:=z;rw[z']at he;rw[show s.heap.get? X.env.locals=some u from e]at he;cases he;rw[d.1]at hd;cases hd
  ·obtain⟨_,u,hu,kR⟩:=I.funs.mem z;have kQ:s.heap.get? a=some u:=hu;rw[he]at kQ;cases kQ;exact kR vs hd
  ·have z':oe.data= .cell v:=z;rw[hd]at z';cases z'
def Inv.unheld(ok:X.Ok)(I:Inv (X.held a (pins++[(a,oe)])) qs σ H s):Inv X pins σ H s:=
 ⟨ok,I.os,I.bare,I.base,I.loc,I.cell,I.free,I.freeC,λp hp=>I.pin p (by
  show p∈(X.pn++(pins++[(a,oe)]))++qs;rcases aW.mp hp with z|z
  ·exact ba _ (ba _ z)
  ·exact ba _ (aI _ (ba _ z))),I.hok,I.len⟩
theorem SP.unheld(ok:X.Ok){f:Flow}(h:SP (X.held a (pins++[(a,oe)])) qs D f s'):SP X pins D f s':=by
 cases f with
 |next=>obtain⟨σ',H',I,q⟩:=h;exact⟨σ',H',I.unheld ok,q⟩
 |brk=>obtain⟨σ',H',I,q⟩:=h;exact⟨σ',H',I.unheld ok,q⟩
 |cont=>obtain⟨σ',H',I,q⟩:=h;exact⟨σ',H',I.unheld ok,q⟩
 |ret u=>obtain⟨v,σ',H',I,r,q⟩:=h;exact⟨v,σ',H',I.unheld ok,r,q⟩
end
structure xbr(K:aq)(C':Addr):Prop where
 base:gi K C' (.type "BaseException")=some true
theorem xaf{b:Bool}{Q:Bool->ak->Prop}(KX:K.In s.heap)(he:s.heap.get? a=some oe)(kP:oe.cls= .ref C)
  (hk:aM K (.ref C) (.ref C')=some b) (hb:xbr K C') (hq:Q b s):wpAny M A' (excMatches (.ref a) (.ref C')) Q E s:=by
 obtain⟨l1,l2,l3⟩:=W.kit_cls (M:=M) KX hk;have l4:=W.looks_mroIn (M:=M) KX hb.base;have kk:∀b o,s.heap.get? b=some o->s.heap.get? b=some o:=λ_ _ e=>e;unfold excMatches ka;refine af (af (l1 _ _ _ s kk ?_));refine gH tc_notTuple ?_;simp only[ee,if_false];refine af (aA ?_);simp only[List.forIn_cons,List.forIn_nil];unfold isExcClass;refine af (af (af (af (l2 _ _ _ s kk ?_))));simp only[if_true];refine l4 _ _ _ s kk ?_;simp only[Bool.not_true,ee,if_false];refine aA (aA ?_);have lt:wpAny M A' (typeOf (.ref a)) (λv s'=>v=oe.cls/\s'=s) E s:=by
  unfold typeOf;exact af (iT he (aA ⟨rfl,rfl⟩))
 refine af (aN lt (λv s' z=>?_) λ_ _ x=>x);obtain⟨rfl,rfl⟩:=z;rw[kP];refine af (af (af (l3 _ _ _ s' kk ?_)));cases b with
 |true=>exact aA (aA (aA hq))
 |false=>exact aA (aA (aA hq))
theorem xrp{h₀:fV}{hs:List fV}{body:List Stmt}(hx:X.xe=λ_ _=>False)(kP:PSs X body tb):PS X (.Try body (h₀::hs) [] [] pos) tb:=by
 intro pins s σ H D I h;refine fZ (aN (kP pins s σ H D I h) (λf s1 hq=>?_) λe s1 z=>?_)
 ·cases f with
  |next=>exact dw hq
  |brk=>exact hq
  |cont=>exact hq
  |ret u=>exact hq
 ·rw[hx]at z;exact z.elim
end
def xa8:Passes (CXG n P w) X E0:=λ_ _ _ _ _ _ _ h=>by
 obtain⟨_,_,_,_,_,_,_,_,_,_,_,_,_,_,_,_,_,_,_,_,_,_,_,_,_,_,_,_,_,_,z⟩:=h;exact z.elim
def Ends.gone(D:Ends)(i:Nat):Ends:={nx:=λσ H=>D.nx (σ.set i none) H,rt:=D.rt,bk:=λσ H=>D.bk (σ.set i none) H,ct:=λσ H=>D.ct (σ.set i none) H}
def xmv(K:aq)(C':Addr)(i:Nat)(ts:Addr->Value->Option Addr->TS)(D:Ends):EEs:=λσ cls dx H=>∃C,cls= .ref C/\aM K (.ref C) (.ref C')=some true/\∀a,H a=none->ts a cls dx (D.gone i) (σ.set i (some (.ref a))) H
def xsR(K:aq)(C':Addr)(i:Nat)(tb:EEs->TS)(ts:Addr->Value->Option Addr->TS):TS:=λD σ H=>tb (xmv K C' i ts D) D σ H
def jX{n:Str}(I:Inv X pins σ H s)(hN:X.N.Nodup)(hi:X.N[i]? =some n)(hk:X.env.kindOf n=some .local)
  (h:∀s',Inv X pins (σ.set i none) H s'->Q () s'):wpAny M A' (do bindName X.env n .none;gx X.env n pos) Q E s:=by
 obtain⟨m,hn,hl⟩:=id I.loc;refine wpAny_nameGoes_keeps hk hn (by rw[I.ok.kind];rfl) λh' v kT hs=>h _ ?_;have kQ:∀b u,X.s₀.heap.get? b=some u->b≠X.env.locals:=λb u e=>aQ (aJ (aB e) I.ok.above);obtain⟨oL,_,_,kX,_⟩:=id hn;refine⟨I.ok,I.os,I.bare,⟨λb o e n hb hx=>?_,λb o e n hb hx=>?_,I.base.free,λb o e hx=>?_,I.base.fix⟩,⟨_,kT,λj y v' e1 e2 e3=>?_⟩,λy c e=>?_,I.free,λy c e=>?_,λp hp=>?_,λb u e=>?_,by simpa using I.len⟩
 ·exact(hs.2 b (kQ b o e)).trans (I.base.keep b o e n hb hx)
 ·obtain⟨sl,e1⟩:=I.base.slot b o e n hb hx;exact⟨sl,(hs.2 b (kQ b o e)).trans e1⟩
 ·obtain⟨o',e1⟩:=I.base.there b o e hx;exact⟨o',(hs.2 b (kQ b o e)).trans e1⟩
 ·have hj:j≠i:=λz=>by
   rw[z]at e2
   by_cases kP:i<σ.length
   ·rw[b9 kP]at e2;cases e2
   ·rw[bw (by simpa using kP)]at e2;cases e2
  rw[bK (au hj)]at e2;obtain⟨u',r',q⟩:=hl j y v' e1 e2 e3;refine⟨u',r',q.imp (λ⟨k,e⟩=>⟨k,?_⟩) λ⟨k,c,e,z⟩=>⟨k,c,e,z.sameBut hs (I.cne y c e)⟩⟩;have:y≠n:=λe=>hj (xaI hN e1 (e▸hi));simp[this,e]
 ·obtain⟨w',z⟩:=I.cell y c e;exact⟨w',z.sameBut hs (I.cne y c e)⟩
 ·refine(I.freeC y c e).imp id λ⟨kW,o',kR,kS⟩=>⟨kW,o',kR,λz j v' e1 k e2=>?_⟩;have hj:j≠i:=λz=>by
   rw[z]at e2
   by_cases kP:i<σ.length
   ·rw[b9 kP]at e2;cases e2
   ·rw[bw (by simpa using kP)]at e2;cases e2
  rw[bK (au hj)]at e2;exact kS z j v' e1 k e2
 ·obtain⟨e,n,ne,nf,d⟩:=I.pin p hp;exact⟨(hs.2 p.1 ne).trans e,n,ne,nf,d⟩
 ·refine(I.hok b u e).stay (λc w' hc q=>(hs.2 c ?_).trans q) (λ_ q=>q) λ_ _ q _=>q;rintro rfl;rcases hc with rfl|hc
  ·rw[I.free]at e;cases e
  ·rw[I.free]at hc;cases hc
theorem xkw{n:Str}{np:Pos}{body:List Stmt}{b₀:Stmt}{tb:EEs->TS}{ts:Addr->Value->Option Addr->TS}(o:Own X)(hb:xbr X.K C')(hg:Gl X y)(hm:X.mg y=some (.ref C'))(hN:X.N.Nodup)(hi:X.N[i]? =some n)(hk:X.env.kindOf n=some .local)
  (kR:∀(EE:EEs) (ps:List (Addr×Obj)),PSs ((X.pnd ps).wish (XE (X.pnd ps) EE)) body (tb EE)) (kQ:∀(ps:List (Addr×Obj)) (a:Addr) (cls:Value) (dx:Option Addr),(∃oe:Obj,(a,oe)∈ps/\oe.cls=cls/\oe.dict=dx/\∃vs,oe.data= .fields vs)->PSs (X.held a ps) (b₀::suite) (ts a cls dx))
  (lg:autoParam ((y==("__debug__":Str))=false) sJ):PS X (.Try body [.ExceptHandler (some (.Name y np)) (some n) (b₀::suite) hp] [] [] pos) (xsR X.K C' i tb ts):=by
 intro pins s σ H D I h;have ok:=I.ok;refine fZ (aN (kR (xmv X.K C' i ts D) pins [] s σ H D (I.pnd.wish _) h) (λf s1 hq=>?_) λe s1 hx=>?_)
 ·have kP:SP X pins D f s1:=(SP.unwish hq).unpnd ok;cases f with
  |next=>exact dw kP
  |brk=>exact kP
  |cont=>exact kP
  |ret u=>exact kP
 ·refine L2.oG λ_ Z=>?_;obtain⟨a,cls,dx,σ1,H1,rfl,I1,F1,C,rfl,la,q⟩:=hx;apply Z;refine xaU (X:=X.pnd pins) o.pnd ok.frames I1 F1 λs2 I2 F2=>?_;refine zv (X:=X.pnd pins) (to:=none) o.pnd I2 F2 λs3 I3 F3=>?_;refine dY (dA ?_) (by intro z;cases z);refine L2.oG λ_ Z=>?_;obtain⟨oe,vs,a0,T,oT,lq,he,hc,hx,hd,h0,h1,h2,nT,hT,lA,h3,hn,lz⟩:=id F3;apply Z;have J3:=Inv.held I3 ok he hn.1 hd;refine zR J3 hg hm ?_ lg;refine xaf (K:=X.K) I3.kIn he hc la hb ?_;refine fw ?_;refine zv (X:=X.pnd pins) (to:=none) o.pnd I3 F3 λs4 I4 F4=>?_;refine L2.oG λ_ Z=>?_;obtain⟨kS,lp,lG,T',lr,kX,lb,ll,kY,kW,lF,lE,lD,ly,lB,lh,lC,kT,kZ⟩:=id F4;apply Z;have J4:=Inv.held I4 ok lb kT.1 kW;refine xaJ (X:=X.held a (pins++[(a,kS)])) (v:=.ref a) J4 hN hi (.inl hk) rfl (λs5 J5=>?_) (.inr hk);refine aN (kQ (pins++[(a,kS)]) a (.ref C) dx ⟨kS,by simp,ll,kY,_,kW⟩ [] s5 _ H1 (D.gone i) J5 (q a kT.1)) (λf s6 hq=>?_) λ_ _ z=>z.elim;have kP:SP X pins (D.gone i) f s6:=hq.unheld ok;cases f with
  |next=>
   refine L2.oG λ_ Z=>?_;obtain⟨σ',H',J,z⟩:=kP;apply Z;exact jX J hN hi hk λs7 J7=>⟨_,_,J7,z⟩
  |brk=>
   refine L2.oG λ_ Z=>?_;obtain⟨σ',H',J,z⟩:=kP;apply Z;exact jX J hN hi hk λs7 J7=>⟨_,_,J7,z⟩
  |cont=>
   refine L2.oG λ_ Z=>?_;obtain⟨σ',H',J,z⟩:=kP;apply Z;exact jX J hN hi hk λs7 J7=>⟨_,_,J7,z⟩
  |ret u=>
   refine L2.oG λ_ Z=>?_;obtain⟨v,σ',H',J,r,z⟩:=kP;apply Z;exact jX J hN hi hk λs7 J7=>⟨_,_,_,J7,r,z⟩
open PySem PySem.Spec PyProof.Rows PySem.W
structure xil(K:Frag)(D:Addr):Prop where
 ga:findIn K (.ref D) "__getattribute__"=some (some (.builtin "BaseException.__getattribute__"))
 gh:findIn K (.ref D) "__getattr__"=some none
 cl:findIn K (.ref D) "__class__"=some (some (.builtin "object.__class__"))
 gt:specialIn K (.builtin "object.__class__") "__get__"=some (some (.builtin "getset_descriptor.__get__"))
 tk:takesIn K (.builtin "object.__class__")=some true
 ob:mroIn K D (.type "object")=some true
 bs:mroIn K D (.type "BaseException")=some true
 is:(clsIn K D).isSome=true
def xkx:builtinKind "BaseException.__getattribute__"=some .slot:=by kernel_rfl
def xjL:splitId "BaseException.__getattribute__"=some ("BaseException","__getattribute__"):=by kernel_rfl
section
variable {K:Frag} {x D:Addr} {od:Option Obj}
end
def xsS{t:Addr}{x:Value}{Q:Value->ak->Prop}(hj:s.heap.IsTupleIter j t i)(ht:s.heap.IsTuple t its)(hx:its[i]? =some x)
  (q:∀h',h'.IsTupleIter j t (i+1)->fB j s.heap h'->Q x {s with heap:=h'}):wpAny (model prog w) A (dI (.ref j)) Q E s:=by
 obtain⟨oj,ej,cj,dj⟩:=id hj;obtain⟨ot,et,_,nt,dt⟩:=ht;unfold dI;refine af (fO (name:=bE "__next__") hj.typeIs dE (iD dE hj.typeIs gP ?_ (gE _)));show wpAny _ _ (field (.ref j) 0 >>= _) _ _ s;refine af (cw ej dj (x:=.ref t) rfl ?_);show wpAny _ _ (if (aG t==bp)=true then _ else _) _ _ s;rw[if_neg (show¬((aG t==bp)=true)from aR)];show wpAny _ _ (field (.ref j) 1 >>= _) _ _ s;refine af (cw ej dj (x:=.int i 0) rfl ?_);show wpAny _ _ (iN (.ref t) >>= _) _ _ s;refine af (fL et dt ?_);simp only[cL,hx];refine af (eK ej dj (by simp) (aA ⟨x,rfl,aA (q _ ?_ (dZ ..))⟩));exact⟨_,bu _ ej (gj (fG dj _)),(Obj.cls_mapFields ..).trans cj,by rw[fG dj];simp[bN]⟩
def xjs{t:Addr}{Q:Value->ak->Prop}(hh:A.handled=none)(hj:s.heap.IsTupleIter j t i)(ht:s.heap.IsTuple t its)(hx:its[i]? =none)
  (q:∀h' e,kL j s.heap h'->(∃o,h'.get? e=some o/\o.cls= .type "StopIteration")->E (.ref e) {s with heap:=h'}):wpAny (model prog w) A (dI (.ref j)) Q E s:=by
 obtain⟨oj,ej,cj,dj⟩:=id hj;obtain⟨ot,et,_,nt,dt⟩:=ht;unfold dI;refine af (fO (name:=bE "__next__") hj.typeIs dE (iD dE hj.typeIs gP ?_ (gE _)));show wpAny _ _ (field (.ref j) 0 >>= _) _ _ s;refine af (cw ej dj (x:=.ref t) rfl ?_);show wpAny _ _ (if (aG t==bp)=true then _ else _) _ _ s;rw[if_neg (show¬((aG t==bp)=true)from aR)];show wpAny _ _ (field (.ref j) 1 >>= _) _ _ s;refine af (cw ej dj (x:=.int i 0) rfl ?_);show wpAny _ _ (iN (.ref t) >>= _) _ _ s;refine af (fL et dt ?_);simp only[cL,hx];refine af (wpAny_rule (af (eK ej dj (by simp) ?_)));show wpAny _ _ (newExc (.type "StopIteration") [] >>= _) _ _ _;refine af ?_;simp only[newExc,newTuple];refine af (eC ?_ (by size_fits));refine af (m:=firstArgMember _ _) (gH (a:=bp) (by first|rfl|(simp only[firstArgMember];rfl)) ?_);refine eC ?_ (by size_fits);simp only[raiseNew];refine af (wpAny_handled ?_);first|rw[show A.in1.handled=none from hh]|rw[hh]
 refine af (aA (wpAny_throw ?_));exact q _ _ (((dZ ..).extBut.push _).push _) ⟨_,aT _ rfl,rfl⟩
def xoG(hh:A.handled=none)(j t:Addr)(kQ:t≠j)(its:Array Value):Draws prog w A j [j,t] its.size (λi v=>its[i]? =some v) (λi h=>h.IsTupleIter j t i/\h.IsTuple t its) where
 live:=λ_ _ st=>let⟨o,ho,_⟩:=st.1;⟨o,ho⟩
 frame:=λ_ _ _ ⟨⟨o,e,r⟩,o2,e2,r2⟩ hk=>⟨⟨o,hk j (by simp) o e,r⟩,o2,hk t (by simp) o2 e2,r2⟩
 item:=λi s Q E hi st q=>by
  refine xsS st.1 st.2 (x:=its[i]) (by simp[hi]) λh' kR kP=>q _ h' s.toks (by simp[hi]) ⟨kR,?_⟩ kP;obtain⟨o2,e2,r2⟩:=st.2;exact⟨o2,(kP.2 t kQ).trans e2,r2⟩
 done:=λs Q E st q=>xjs hh st.1 st.2 (by simp) q
set_option maxHeartbeats 8000000 in
theorem xoH(l:Addr)(its:Array Value)(n:Nat)(kQ:Option Addr)(sl:Array (Option Value)):
  Meets (i3.«enumerate.__new__» ⟨[.type "enumerate",.ref l],[]⟩) (λ_ R s=>s.heap.get? l=some {cls:=.type "tuple",dict:=kQ,data:=.seq its n,slots:=sl}/\
   R (.ok (.ret (.ref (s.heap.push {cls:=.type "tuple_iterator",data:=.fields #[.ref l,.int 0 0]}).objs.size)))
    {s with heap:=(s.heap.push {cls:=.type "tuple_iterator",data:=.fields #[.ref l,.int 0 0]}).push {cls:=.type "enumerate",data:=.fields #[.none,.bool false,.ref s.heap.objs.size,bN 0,.none,.none]}}):=
 .of_wp λprog w A R s h=>by
  obtain⟨hp,g,d,tk,os⟩:=s;obtain⟨el,h⟩:=h;have kP:=sub_enumerate;have hL:Heap.IsTuple (Shared.heap ⟨hp,g,d,tk,os⟩) l its:=⟨_,el,rfl,n,rfl⟩
  wp_walk using fH el
  refine wpAny_stack_any λst=>aA ?_
  split
  ·rename_i c _ _ _ _ _;cases (c==eP "enumerate")<;> (wp_walk using fH el,gL hL;exact⟨_,rfl,h⟩)
  ·wp_walk using fH el,gL hL;exact⟨_,rfl,h⟩
def xno{Q:Value->ak->Prop}(hL:s.heap.IsTuple l its)
  (q:∀h',iE h' (s.heap.objs.size+1) s.heap.objs.size 0 .none->h'.IsTupleIter s.heap.objs.size l 0->(∀b o,s.heap.get? b=some o->h'.get? b=some o)->Q (.ref (s.heap.objs.size+1)) {s with heap:=h'}):
  wpAny (model prog w) A (call (.type "enumerate") [.ref l]) Q E s:=by
 obtain⟨⟨c,kP,dt,sl⟩,el,hc,n,hd⟩:=hL;cases (show c= .type "tuple" from hc);cases (show dt= .seq its n from hd);refine callType_new F.called_enumerate (by decide) (F.typeCall_enumerate_1 _) (F.newCall_enumerate_1 _) (λobj=>F.args_object_init_2 obj _) i4 (xoH l its n kP sl) ⟨el,?_⟩;generalize hO:({cls:=.type "tuple_iterator",data:=.fields #[.ref l,.int 0 0]}:Obj)=oi;have hz:(s.heap.push oi).objs.size=s.heap.objs.size+1:=eI ..;have f0:oi.isFreed=false:=by rw[<-hO];rfl
 show _/\_;rw[hz];have he:iE ((s.heap.push oi).push {cls:=.type "enumerate",data:=.fields #[.none,.bool false,.ref s.heap.objs.size,bN 0,.none,.none]}) (s.heap.objs.size+1) s.heap.objs.size 0 .none:=by
  have e:=aT (s.heap.push oi) (o:={cls:=.type "enumerate",data:=.fields #[.none,.bool false,.ref s.heap.objs.size,bN 0,.none,.none]}) rfl;rw[hz]at e;exact e
 refine⟨⟨_,he,rfl⟩,q _ he ⟨oi,ai _ (aT _ f0),by rw[<-hO],by rw[<-hO];rfl⟩ λb o x=>ai _ (ai _ x)⟩
def xrq{e t:Addr}{k:Int}{old:Value}{Q:Option Value->ak->Prop}(hh:A.handled=none)(he:iE s.heap e j k old)(hj:s.heap.IsTupleIter j t i)(ht:s.heap.IsTuple t its)(hx:its[i]? =none)
  (q:∀h',kL j s.heap h'->Q none {s with heap:=h'}):wpAny (model prog w) A (pyNext (.ref e)) Q E s:=by
 have hT:s.TypeIs (.ref e) "enumerate":=⟨_,he,rfl⟩;unfold pyNext;refine af (wpAny_attempt (fO (name:=bE "__next__") hT i5 (iD i5 hT F.entry_enumerate_next ?_ (F.args_enumerate_next_1 _))));show wpAny _ _ (field (.ref e) 2 >>= _) _ _ _;refine af (cw he rfl (x:=.ref j) rfl ?_);refine af (xjs hh hj ht hx λh' x eb ⟨o,ho,hc⟩=>?_);refine af (wpAny_isInstance (T:="StopIteration") (b:=true) ⟨o,ho,hc⟩ isSubtype_stop ?_);exact aA (q _ eb)
def xp0(K:aq)(a:Addr):It:=
 ⟨λi H=>Ex2 λxs x=>SqT K H a xs/\xs[i]? =some x,λi H v H'=>Ex2 λT x=>v= .ref T/\H T=none/\H'=upd H T (.tup [.int i,x])/\∀xs,SqT K H a xs->xs[i]? =some x,λi H=>∃xs,SqT K H a xs/\xs.length<=i⟩
def xnp{k:Nat}(a e it:Addr)(kR:e≠it):Turn P w K (.Tuple es k pos) (xp0 K a) [e,it] e (λi h=>(∃old,iE h e it (i:Nat) old)/\h.IsTupleIter it a i) where
 mem:=by simp
 obj:=λi h st b hb=>by
  refine L2.oG λ_ Z=>?_;obtain⟨⟨old,he⟩,⟨o,e1,c,d⟩⟩:=st;apply Z;rcases av.mp hb with z|z
  ·subst z;exact⟨_,he,λv z=>by cases z⟩
  ·rw[aj.mp z];exact⟨o,e1,λv z=>by rw[d]at z;cases z⟩
 keep:=λi h h' st kk=>by
  refine L2.oG λ_ Z=>?_;obtain⟨⟨old,he⟩,⟨o,e1,r⟩⟩:=st;apply Z;exact⟨⟨old,kk e (by simp) _ he⟩,⟨o,kk it (by simp) o e1,r⟩⟩
 item:=by
  intro X hP hw hK hc i pins s σ H E I hf st hg;subst hP hw hK;refine L2.oG λ_ Z=>?_;obtain⟨xs,x,hq,hx⟩:=hg;obtain⟨its,rv,p,hz⟩:=I.tuple hq;obtain⟨u,hu,ru⟩:=rv.get hx;obtain⟨⟨old,he⟩,hit⟩:=st;apply Z;have kS:=aB he;have kT:it<s.heap.objs.size:=by obtain⟨o,q,_⟩:=hit;exact aB q
  have p':s.heap.IsTuple a its.toArray:=p;have la:a≠it:=λz=>by
   refine L2.oG λ_ Z=>?_;obtain⟨o,e1,c,d⟩:=hit;obtain⟨o2,e2,c2,_⟩:=p';apply Z;rw[z,e1]at e2;cases e2;rw[c]at c2;injection c2 with c2;exact absurd c2 (by decide)
  have lb:e≠a:=λz=>by
   refine L2.oG λ_ Z=>?_;obtain⟨o2,e2,c2,_⟩:=p';apply Z;have kP:s.heap.get? e=_:=he;rw[z,e2]at kP;cases kP;injection c2 with c2;exact absurd c2 (by decide)
  have kX:i<its.toArray.size:=by simpa using(aw.mp hu).1
  refine iJ (xoG (A:=X.A.in1) (I.ok.hd hc) it a la its.toArray) he ⟨hit,p'⟩ kX kR (by simp[kR,lb]) λx2 h' tk px kY kW hT hsz hk=>?_;have ex:x2=u:=by
   have:its.toArray[i]? =some u:=by simpa using hu
   rw[this]at px;cases px;rfl
  subst ex;refine⟨_,rfl,gW (s:={s with heap:=h',toks:=tk+1}) kY λh2 kP kQ=>?_⟩;have lg:h2.get? s.heap.objs.size=some {cls:=.type "tuple",data:=.seq #[.int i tk,x2]}:=(kQ.2 _ (gr kS)).trans hT;have I2:Inv X pins σ (upd H s.heap.objs.size (.tup [.int i,x])) {s with heap:=h2,toks:=tk+1}:=by
   refine I.turnLaid (ch:=[e,it]) (λb o hb q=>?_) (ay _) ⟨by simp[aZ],[.int i tk,x2],.cons ⟨_,rfl⟩ (.cons ru .nil),⟨_,lg,rfl,_,rfl⟩⟩ (λb hb=>(hf b hb).1) (λb hb=>?_) λb hb=>?_
   ·have b1:b≠e:=λz=>hb (by simp[z]);have b2:b≠it:=λz=>hb (by simp[z]);exact(kQ.2 b b1).trans (hk b o b1 b2 q)
   ·rcases av.mp hb with z|z
    ·rw[z];exact kS
    ·rw[aj.mp z];exact kT
   ·refine L2.oG λ_ Z=>?_;obtain⟨f0,f1,f2,f3,f4,f5⟩:=hf b hb;apply Z;exact⟨f3,f1,f4,f5⟩
  refine⟨.ref s.heap.objs.size,_,I2,rfl,⟨_,x,rfl,I.hok.fresh (ay _),rfl,λys hy=>by rw[I.tuple_inj hy hq];exact hx⟩,⟨⟨x2,by simpa using kP⟩,?_⟩,λb hb=>?_⟩
  ·refine L2.oG λ_ Z=>?_;obtain⟨⟨o,e1,r⟩,_⟩:=kW;apply Z;exact⟨o,(kQ.2 it (au kR)).trans e1,r⟩
  have kZ:b≠s.heap.objs.size:=by
   rcases av.mp hb with z|z
   ·rw[z];exact aQ kS
   ·rw[aj.mp z];exact aQ kT
  rw[xm kZ];exact(hf b hb).1
 done:=by
  intro X hP hw hK hc i pins s σ H E I hf st hg;subst hP hw hK;refine L2.oG λ_ Z=>?_;obtain⟨xs,hq,hx⟩:=hg;obtain⟨its,rv,p,hz⟩:=I.tuple hq;obtain⟨⟨old,he⟩,hit⟩:=st;obtain⟨f0,f1,f2,f3,f4,f5⟩:=hf it (by simp);apply Z;have hl:=rv.length;exact xrq (I.ok.hd hc) he hit p (by simp;lia) λh' eb=>⟨rfl,I.turned (t':=s.toks) (λb o hb e=>eb b o hb e) f0 f1 f3 f4 f5⟩
 self:=λ_ _ _ _ _ st h=>by
  refine L2.oG λ_ Z=>?_;obtain⟨⟨old,he⟩,_⟩:=st;apply Z;exact eD he h
section
variable {k:Nat} {tp:Pos}
def xsT(K:aq)(ta:TA):TI:=λσ H R=>ta σ H λvs H1=>∃a,vs=[.ref a]/\(∃xs,SqT K H1 a xs)/\R (xp0 K a) H1
def xp1{l:Expr}{ta:TA}(hg:Gl X "enumerate")(hm:X.mg "enumerate"=none)(ha:PA X [l] ta)(hs:autoParam (aE [l] X.env=[(false,eval l X.env)]) sV):PI X (.Tuple es k tp) (.Call (.Name "enumerate" p) [l] [] pos) (xsT X.K ta):=by
 intro pins s σ H R I h;refine Call_ (vK I hg hm xcc (bW (uJ (ha pos pins s σ H _ I h) λus s1 vs H1 I1 r1 q1=>?_) hs rfl));obtain⟨a,e,⟨xs,hq⟩,q⟩:=q1;subst e;obtain⟨u,rfl,ru⟩:=Vals.one r1;cases ru;obtain⟨its,rv,pl,hz⟩:=I1.tuple hq;refine xno (show s1.heap.IsTuple a its.toArray from pl) λh' he hi hk=>eD (s:={s1 with heap:=h'}) he ?_;refine⟨s1.heap.objs.size+1,[s1.heap.objs.size+1,s1.heap.objs.size],_,_,H1,rfl,I1.kept (t':=s1.toks) hk,xnp a _ _ (iF _),⟨⟨.none,by simpa using he⟩,hi⟩,λb hb=>?_,q⟩;rcases av.mp hb with z|z
 ·rw[z];exact I1.fpOk (dN _) (I1.hok.fresh (dN _))
 ·rw[aj.mp z];exact I1.fpOk (ay _) (I1.hok.fresh (ay _))
def xlL{xs:List V}{g:TG}(Pv:Nat->St->Hp->Prop)(h0:Pv 0 σ H)(hl:∀i σ H,i<=xs.length->Pv i σ H->SqT K H l xs)
  (hs:∀i x σ H T,xs[i]? =some x->Pv i σ H->H T=none->g (.ref T) σ (upd H T (.tup [.int i,x])) λσ2 H2=>tb {D with nx:=Pv (i+1),ct:=Pv (i+1),bk:=D.nx} σ2 H2) (hd:∀σ H,Pv xs.length σ H->D.nx σ H):vC (xp0 K l) g tb D σ H:=by
 unfold vC;refine⟨λi m σ H=>m=xs.length - i/\i<=xs.length/\Pv i σ H,⟨xs.length,by simp,bL _,h0⟩,?_⟩;rintro i m σ H ⟨rfl,hi,p⟩;have hq:=hl i σ H hi p
 by_cases kP:i<xs.length
 ·have hx:xs[i]? =some xs[i]:=aD kP;refine .inr ⟨⟨xs,xs[i],hq,hx⟩,Pv (i+1),λσ' H' p'=>⟨xs.length - (i+1),by lia,rfl,kP,p'⟩,λv H' y=>?_⟩;obtain⟨T,x,rfl,hT,rfl,kQ⟩:=y;have:=kQ xs hq;exact hs i x σ H T this p hT
 ·have e:i=xs.length:=by lia
  subst e;exact .inl ⟨⟨xs,hq,ay _⟩,hd σ H p⟩
def xf4{xs:List V}{g:TG}(Pv:Nat->St->Hp->Prop)(h0:Pv 0 σ H)(hl:∀i σ H,i<=xs.length->Pv i σ H->SqL K H l xs)
  (hs:∀i x σ H T,xs[i]? =some x->Pv i σ H->H T=none->g (.ref T) σ (upd H T (.tup [.int i,x])) λσ2 H2=>tb {D with nx:=Pv (i+1),ct:=Pv (i+1),bk:=D.nx} σ2 H2) (hd:∀σ H,Pv xs.length σ H->D.nx σ H):vC (Ite K l) g tb D σ H:=by
 unfold vC;refine⟨λi m σ H=>m=xs.length - i/\i<=xs.length/\Pv i σ H,⟨xs.length,by simp,bL _,h0⟩,?_⟩;rintro i m σ H ⟨rfl,hi,p⟩;have hq:=hl i σ H hi p
 by_cases kP:i<xs.length
 ·have hx:xs[i]? =some xs[i]:=aD kP;refine .inr ⟨⟨xs,xs[i],hq,hx⟩,Pv (i+1),λσ' H' p'=>⟨xs.length - (i+1),by lia,rfl,kP,p'⟩,λv H' y=>?_⟩;obtain⟨T,x,rfl,hT,rfl,kQ⟩:=y;have:=kQ xs hq;exact hs i x σ H T this p hT
 ·have e:i=xs.length:=by lia
  subst e;exact .inl ⟨⟨xs,hq,ay _⟩,hd σ H p⟩
end
def xe1:List Value->List Value
 | .ref _::r=>xe1 r
 |l=>l
structure xc9(K:aq)(C f:Addr):Prop where
 xi:xbX K C (some (.ref f))=true
 fn:W.isFn K (.ref f)=true
 hd:fS K C=true
 mr:(W.clsIn K C).any (λcd=>xe1 cd.mro==xnl)=true
 ob:gi K C (.type "object")=some true
 sa:aS K (.ref C) "__setattr__"=some (some (.builtin "object.__setattr__"))
theorem xe2(self:Value)(kP:Str):∀l:List Value,refuseLoop self kP l=refuseLoop self kP (xe1 l)
 |[]=>rfl
 |v::r=>by
  cases v with
  |ref C=>rw[refuseLoop_ref];exact xe2 self kP r
  |_=>rfl
section
variable {x:Addr} {name:Str}
def xrr{od:Option Obj}{tk:Tok}{R:ij->ak->Prop}(X:K.In s.heap)(I:W.InstAt s.heap x ox C od)(F:xc9 K C f)(n:xJ K C name)
  (h:∀b,wpAny (model prog w) A.in1 (Builtin.ObjectAttr.storeInOwnDict (.ref x) (.ref C) (.str name tk) name v b) (λfin s'=>match fin with| .done f=>R (.ok f) s'| .again c'=>c'.quiet=true/\cP (model prog w) A c' R s') (λe s'=>R (.error e) s') s):
  cP (model prog w) A (.call (.builtin "object.__setattr__") ⟨[.ref x,.str name tk,v],[]⟩) R s:=by
 have SF:=PySem.F.store_object;obtain⟨cd,hc,kP⟩:=W.any_some F.mr;have sub:W.Looks (model prog w) s.heap (ka (.ref x) (.type "object")) true:=I.type.andThen (W.looks_mroIn X F.ob);refine eV SF.slot.plain SF.entry (@W.check_slot (model prog w) _ _ s "object.__setattr__" "object" "__setattr__" (.ref x) [.str name tk,v] [] _ SF.kind SF.split sub (SF.args (.ref x) (.str name tk) v) ?_);have hm:W.Looks (model prog w) s.heap (mroOf (.ref C)) cd.mro:=(kf X hc).andThen .now;have L3:W.Looks (model prog w) s.heap (Builtin.ObjectAttr.storeTaker? none) none:=.now;rw[W.osa_eq,refuse_eq];refine af (af (I.type.here (af (hm.here ?_))));rw[xe2,beq_iff_eq.mp kP,show refuseLoop (aG x) "__setattr__" xnl=pure ()from PySem.F.store_ValueError.passes _];refine aA (af (I.type.here (af ((W.looks_findIn X n).here (af (L3.here ?_))))));exact h _
def xrs(X:K.In s.heap)(I:W.InstAt s.heap x ox C none)(kZ:ox.dict=none)(kQ:ox.data= .fields vs)(F:xc9 K C f)(n:xJ K C name)
  (h:∀h' t',h'.Ns1 s.heap.objs.size (λy=>if y=name then some v else none)->h'.get? x=some {ox with dict:=some s.heap.objs.size}->(∀b o,b≠x->s.heap.get? b=some o->h'.get? b=some o)->Q () {s with heap:=h',toks:=t'}):
  wpAny (model prog w) A (setAttr (.ref x) name v) Q E s:=by
 refine W.set_plain X I F.sa (xrr (s:={s with toks:=s.toks+1}) X I F n λb=>?_);refine L2.oG λ_ Z=>?_;obtain⟨cd,hc,lb⟩:=W.any_some F.hd;apply Z;have hx:=I.at_;refine L2.oG λ_ Z=>?_;obtain⟨c0,d0,lq,kT⟩:=ox;apply Z;cases kZ;cases kQ;cases I.cls;refine af (aA (af (af (iT hx (af (W.Looks.here (s:={s with toks:=s.toks+1}) (kf X hc) ?_))))));rw[lb];have kP:(s.heap.push {cls:=.type "dict",data:=.dict #[]}).get? x=some ⟨.ref C,none,.fields vs,kT⟩:=ai _ hx;have kR:x≠s.heap.objs.size:=aQ (aB hx);refine af (wpAny_alloc' ?_);refine af (wpAny_update' kP ?_);refine aA ?_;have kY:((s.heap.push {cls:=.type "dict",data:=.dict #[]}).update x λo=>{cls:=o.cls,dict:=some s.heap.objs.size,data:=o.data,slots:=o.slots}).get? s.heap.objs.size
   =some {cls:=.type "dict",data:=.dict #[]}:=
  (ko _ _ _ _ kR.symm).trans (Heap.get?_push_at rfl rfl)
 have kX:((s.heap.push {cls:=.type "dict",data:=.dict #[]}).update x λo=>{cls:=o.cls,dict:=some s.heap.objs.size,data:=o.data,slots:=o.slots}).Ns s.heap.objs.size (λ_=>none):=
  ⟨_,#[],_,kY,rfl,λe he=>absurd he (by simp),λ_=>rfl⟩
 show wpAny _ _ (gy s.heap.objs.size (.str name _) name v) _ _ _;unfold gy Builtin.ObjectAttr.newKeyGuard;refine af (aA (af (wpAny_nsSet1 (kF kX) λh' kS hs=>?_)));refine L2.oG λ_ Z=>?_;obtain⟨oD,ll,lp,kW,la,lg⟩:=kS.count (Within.cons name v Within.nil);apply Z;refine af (wpAny_lookBehind kW (by rw[la];exact pastItsLine_dict (bG lg (by rw[bD,fq,aZ];lia))) ?_);refine aA (h h' _ kS ((hs.2 x kR).trans (bu _ kP rfl)) λb ob lh hb=>?_);exact(hs.2 b (aQ (aB hb))).trans ((ko _ _ _ _ lh).trans (ai _ hb))
end
def HO.exc(a C:Addr)(dx:Option Addr):HO:=.ext λh=>∃o t,h.get? a=some o/\o.cls= .ref C/\o.dict=dx/\o.data= .fields #[.ref t,.none,.none,.none,.bool false,.none]
def rem(H:Hp)(a:Addr):Hp:=λb=>if b=a then none else H b
section
variable {fl:Str} {y:V} {u:Value}
def xe3{h1 h2:Heap}(q:∃o t,h1.get? a=some o/\o.cls= .ref C/\o.dict=dx/\o.data= .fields #[.ref t,.none,.none,.none,.bool false,.none])(k:∀o,h1.get? a=some o->h2.get? a=some o):
  ∃o t,h2.get? a=some o/\o.cls= .ref C/\o.dict=dx/\o.data= .fields #[.ref t,.none,.none,.none,.bool false,.none]:=by
 obtain⟨o,t,e,r⟩:=q;exact⟨o,t,k o e,r⟩
def xoI(I:Inv X pins σ H s)(e:H a=some (HO.exc a C none))(F:xc9 X.K C f)(n:xJ X.K C fl)(ry:RelV y u)
  (h:∀d s',H d=none->d≠a->Inv X pins σ (upd (upd H d (.xd [(fl,y)])) a (HO.exc a C (some d))) s'->Q () s'):wpAny (model X.prog X.w) A (setAttr (.ref a) fl u) Q E s:=by
 obtain⟨⟨o,t,ea,hc,hd,kP⟩,_⟩:=I.hok a _ e;have J:W.InstAt s.heap a o C none:=⟨ea,hc,by obtain⟨c1,d1,dt,sl⟩:=o;cases kP;rfl,by rw[hd];trivial⟩;refine xrs I.kIn J hd kP F n λh' t' hn hx kp=>?_;have kQ:H s.heap.objs.size=none:=I.hok.fresh (ay _);have kT:s.heap.objs.size≠a:=λz=>by rw[z,e]at kQ;cases kQ
 have nA:∀b,H b=none->b≠a:=λb n z=>by rw[z,e]at n;cases n
 have kR:∀b,b≠a->b≠s.heap.objs.size->upd (upd H s.heap.objs.size (.xd [(fl,y)])) a (HO.exc a C (some s.heap.objs.size)) b=H b:=λb h1 h2=>by rw[xm h1,xm h2]
 have own:∀b u,H b=some u->u≠HO.exc a C none->upd (upd H s.heap.objs.size (.xd [(fl,y)])) a (HO.exc a C (some s.heap.objs.size)) b=some u:=λb u q nu=>by
  rw[kR b (λz=>by rw[z,e]at q;exact nu (bt q).symm) (xG q kQ)];exact q
 refine h s.heap.objs.size _ kQ kT (I.un ⟨λb o q n _ _=>kp b o (nA b n) q,λb o q n _ _=>⟨o.slots,kp b o (nA b n) q⟩,λb o q n _=>?_,λb o q _=>?_,λb u q f=>own b u q (by rintro rfl;exact f)⟩ λb u q=>?_)
 ·rw[kR b (nA b n) (aQ (aB q))];exact n
 ·by_cases hb:b=a
  ·subst hb;exact⟨_,hx⟩
  ·exact⟨o,kp b o hb q⟩
 ·by_cases hb:b=a
  ·subst hb;rw[xp]at q;cases q;exact⟨⟨_,t,hx,hc,rfl,kP⟩,⟨_,hx⟩,λh1 h2=>xe3⟩
  ·rw[xm hb]at q
   by_cases kS:b=s.heap.objs.size
   ·subst kS;rw[xp]at q;cases q;refine⟨_,hn,λg=>?_⟩;show vk (eB g [(fl,y)]) (if g=fl then some u else none);rw[bV]
    by_cases q:g=fl
    ·subst q;simp;exact ry
    ·rw[beq_false_of_ne q,if_neg q];exact cJ
   ·rw[xm kS]at q;refine(I.hok b u q).stay (λc v hc q'=>kp c v ?_ q') (λc q'=>own _ _ q' (λz=>by cases z)) λc u' q' hf=>own _ _ q' (by rintro rfl;exact hf);rcases hc with rfl|hc
    ·exact hb
    ·intro z;rw[z,e]at hc;cases hc
def Inv.forget(I:Inv X pins σ H s){φ:Heap->Prop}(e:H a=some (.ext φ)):Inv X pins σ (rem H a) s:=by
 have non:∀b,H b=none->rem H a b=none:=λb n=>by unfold rem;split<;> first|rfl|exact n
 have kp:∀b u,H b=some u->(∀φ,u≠.ext φ)->rem H a b=some u:=λb u q n=>by
  unfold rem;rw[if_neg]
  ·exact q
  ·intro z;rw[z,e]at q;exact n φ (bt q).symm
 refine⟨I.ok,I.os,I.bare,⟨I.base.keep,I.base.slot,λb o q n x=>non b (I.base.free b o q n x),I.base.there,λb u q f=>kp b u (I.base.fix b u q f) (by rintro φ rfl;exact f)⟩,I.loc,I.cell,non _ I.free,λx c q=>?_,λp hp=>?_,λb u q=>?_,I.len⟩
 ·rcases I.freeC x c q with z|⟨z1,o,z2,z3⟩
  ·exact .inl (non c z)
  ·exact .inr ⟨z1,o,kp c _ z2 (λφ z=>by cases z),z3⟩
 ·obtain⟨e1,n,r⟩:=I.pin p hp;exact⟨e1,non _ n,r⟩
 ·have q':H b=some u:=by
   unfold rem at q
   split at q
   ·cases q
   ·exact q
  exact(I.hok b u q').stay (λ_ _ _ z=>z) (λc z=>kp c _ z (λφ z=>by cases z)) λc u' z hf=>kp c _ z (by rintro φ rfl;exact hf)
end
def xtH(K:aq)(ta tv:TE)(f:Str):TS:=λD σ H=>tv σ H λy H1=>ta σ H1 λx H2=>Ex3 λa C g=>x= .ref a/\H2 a=some (HO.exc a C none)/\xc9 K C g/\xJ K C f/\
 ∀d,H2 d=none->d≠a->D.nx σ (upd (upd H2 d (.xd [(f,y)])) a (HO.exc a C (some d)))
def xim{o value:Expr}{f:Str}{pos':Pos}{tv:TE}(ha:PE X o ta)(hv:PE X value tv)(hs:eO value (some (.Attribute o f pos')) pos.line X.env=pure false):PS X (.Assign [.Attribute o f pos'] value pos) (xtH X.K ta tv f):=by
 intro pins s σ H D I h;refine gk (yg (hv pins s σ H _ I h) λu s1 y H1 I1 ry q=>yg (ha pins s1 σ H1 _ I1 q) λov s2 x H2 I2 rx ⟨a,C,g,ex,ea,F,n,q2⟩=>?_) hs;subst ex;obtain rfl:ov=aG a:=rx;exact xoI I2 ea F n ry λd s3 n1 n2 I3=>⟨σ,_,I3,q2 d n1 n2⟩
def xcd(C:Addr)(f:Str):Sp:=λvs H Q _=>∃a v,vs=[.ref a,v]/\H a=some (HO.exc a C none)/\∀d,H d=none->d≠a->Q .non (upd (upd H d (.xd [(f,v)])) a (HO.exc a C (some d)))
section
variable {g:Array GenState} {d:Drawn} {t:Nat} {os:OsState}
variable {N:Addr} {bs bmB:List Value} {sub:List Value} {B initId:String}
def xjM(F:ExcBaseFacts B newId initId bmB)(T:OwnTail h bmB bm){mN:Str->Option Value}{rest:List Value}{fI:Addr}{oI:Obj}{Q:Fin->ak->Prop}
  (hC:h.get? C=some (fc nm q C N bs bm hdct sn sub ab col dd k0 k1 k2 k3 k5 newId)) (hn:h.Ns N mN) (hi:mN "__init__"=some (.ref fI))
  (kW:h.get? fI=some oI) (kT:oI.cls= .type "function")
  (hq:∀h' e,Heap.MadeExcOf h h' e (.ref C) rest->h.objs.size<=e->
   wpAny (model prog w) A (call (.ref fI) (.ref e::rest)) (λr s'=>r= .none/\Q (.done (.ret (.ref e))) s') E ⟨h',g,d,t,os⟩) (hrest:autoParam (rest.length<=aU) tJ):
  wpAny (model prog w) A (i3.«type.__call__» ⟨.ref C::rest,[]⟩) Q E ⟨h,g,d,t,os⟩:=by
 repeat (first|with_reducible refine cY hC ?_|with_reducible refine wpAny_madeBy_exc hC ?_|wp_step)
 refine codeAny_call_builtin_code (gQ _ F.quiet) (wpAny_check_new_subT F T hC ?_);refine codeAny_exc_new_subT F T hC ?_ hrest;show wpAny _ _ _ _ _ _;have kP:=ai {cls:=.ref C,data:=.fields #[.ref h.objs.size,.none,.none,.none,.bool false,.none]}
  (ai {cls:=.type "tuple",data:=.seq rest.toArray} hC)
 have kQ:=ai {cls:=.ref C,data:=.fields #[.ref h.objs.size,.none,.none,.none,.bool false,.none]}
  (ai {cls:=.type "tuple",data:=.seq rest.toArray} kW)
 have kR:((h.push {cls:=.type "tuple",data:=.seq rest.toArray}).push {cls:=.ref C,data:=.fields #[.ref h.objs.size,.none,.none,.none,.bool false,.none]}).Ns N mN:=
  let⟨o,es,ep,e,r⟩:=hn;⟨o,es,ep,ai _ (ai _ e),r⟩
 have kS:((h.push {cls:=.type "tuple",data:=.seq rest.toArray}).push
   {cls:=.ref C,data:=.fields #[.ref h.objs.size,.none,.none,.none,.bool false,.none]}).get? (h.objs.size+1)=some
   {cls:=.ref C,data:=.fields #[.ref h.objs.size,.none,.none,.none,.bool false,.none]}:=by heap_get
 have kX:(aG C::bm).contains (.ref C)=true:=by simp
 have T₁:=T.keeps (h':=(h.push {cls:=.type "tuple",data:=.seq rest.toArray}).push {cls:=.ref C,data:=.fields #[.ref h.objs.size,.none,.none,.none,.bool false,.none]})
  λb o e=>ai _ (ai _ e)
 unfold ka
 repeat (first|with_reducible refine cY kS ?_|(with_reducible refine gB kP ?_;rw[kX])|wp_step)
 show wpAny _ _ (j0 (.ref C) _) _ _ _;refine wpAny_typeLookup_tail kP kR T₁ F.mroIs F.init.lookup ?_;rw[hi];refine bJ (af ?_);unfold bindSpecial;refine af (wpAny_typeOf (T:="function") ⟨_,kQ,kT⟩ ?_);rw[if_pos (by decide)];refine aA (af (aN (hq _ (h.objs.size+1) ⟨λb o hb=>ai _ (ai _ hb),eQ (dN _),h.objs.size,kS,eQ (ay _),?_⟩ (dN _)) (λr s' hr=>?_) λ_ _ x=>x))
 ·exact ai _ (Heap.get?_push_at rfl rfl)
 ·obtain⟨rfl,hQ⟩:=hr
  wp_walk
  exact hQ
def xky(F:ExcBaseFacts B newId initId bmB)(T:OwnTail h bmB bm){mN:Str->Option Value}{rest:List Value}{fI:Addr}{oI:Obj}{Q:Value->ak->Prop}
  (hC:h.get? C=some (fc nm q C N bs bm hdct sn sub ab col dd k0 k1 k2 k3 k5 newId)) (hn:h.Ns N mN) (hi:mN "__init__"=some (.ref fI))
  (kQ:h.get? fI=some oI) (kP:oI.cls= .type "function")
  (hq:∀h' e,Heap.MadeExcOf h h' e (.ref C) rest->h.objs.size<=e->
   wpAny (model prog w) (A.under (.builtin "type.__call__" ⟨.ref C::rest,[]⟩)) (call (.ref fI) (.ref e::rest)) (λr s'=>r= .none/\Q (.ref e) s') E ⟨h',g,d,t,os⟩) (hrest:autoParam (rest.length<=aU) tJ):
  wpAny (model prog w) A (call (.ref C) rest) Q E ⟨h,g,d,t,os⟩:=by
 have f1:=tc_lookup;have f2:=tc_bind (.ref C);have hT:(⟨h,g,d,t,os⟩:ak).TypeIs (.ref C) "type":=⟨_,hC,rfl⟩;refine dH (codeAny_of_tree ?_);show wpAny _ _ (callAny (.ref C) _) _ _ _
 repeat (any_goals (first|assumption|with_reducible refine cY hC ?_|wp_step))
 refine⟨rfl,?_⟩;refine codeAny_call_builtin_at (gQ _ (by decide+kernel)) entry_typeCall (wpAny_check_type_call_sub hC (xjM (hrest:=hrest) F T hC hn hi kQ kP λh' e hm hl=>?_));exact hq h' e hm hl
end
section
variable {env:Env}
variable {N:Addr} {bs:List Value} {sub:List Value}
def xhf{x:Sem Value}{Q:Flow->ak->Prop}(kP:bm.contains (.type "BaseException")=true)(hh:A.handled=none)
  (h:wpAny M A x (λv s₁=>∃e t od sl,v= .ref e/\s₁.heap.get? C=some (fc nm q C N bs bm hdct sn sub ab col dd k0 k1 k2 k3 k5 newId)/\
   s₁.heap.get? e=some {cls:=.ref C,dict:=od,data:=.fields #[.ref t,.none,.none,.none,.bool false,.none],slots:=sl}/\E (.ref e) s₁) E s):
  wpAny M A (raiseStmt env (some x) none) Q E s:=by
 have kQ:(aG C::bm).contains (.type "BaseException")=true:=by rw[kD,kP,Bool.or_true]
 unfold raiseStmt;refine af (aN h (λv s₁ h₁=>?_) λ_ _ x=>x);refine L2.oG λ_ Z=>?_;obtain⟨e,t,od,sl,rfl,hC,he,hE⟩:=h₁;obtain⟨hp,g,d,tk,os⟩:=s₁;apply Z
 repeat (first|with_reducible refine cY he ?_|with_reducible refine cY hC ?_|(with_reducible refine gB hC ?_;rw[kQ])|wp_step)
 exact wpAny_raiseNew_none hh hE
end
section
variable {env:Env}
variable {N:Addr} {bs:List Value} {sub:List Value}
theorem xnq{np:Pos}{args:List Expr}{Q:Flow->ak->Prop}
  (kP:bm.contains (.type "BaseException")=true) (hh:A.handled=none) (kQ:(bR cpos (aE args env)).any (·.1)=false)
  (h:wpAny (model prog w) A (eval (.Name x np) env) (λf s₁=>f= .ref C/\wpAny (model prog w) A (j9 (.ref C) true (bR cpos (aE args env)) [])
   (λa s₂=>a.kw=[]/\s₂.heap.get? C=some (fc nm q C N bs bm hdct sn sub ab col dd k0 k1 k2 k3 k5 newId)/\
    wpAny (model prog w) A (call (.ref C) a.pos) (λv s₃=>∃e t od sl,v= .ref e/\s₃.heap.get? C=some (fc nm q C N bs bm hdct sn sub ab col dd k0 k1 k2 k3 k5 newId)/\
     s₃.heap.get? e=some {cls:=.ref C,dict:=od,data:=.fields #[.ref t,.none,.none,.none,.bool false,.none],slots:=sl}/\E (.ref e) s₃) E s₂) E s₁) E s):
  wpAny (model prog w) A (exec (.Raise (some (.Call (.Name x np) args [] cpos)) none pos) env) Q E s:=by
 rw[arm_exec_Raise]
 first
  |refine af (ck (xhf (C:=C) (nm:=nm) (q:=q) (N:=N) (bs:=bs) (bm:=bm) (hdct:=hdct) (sn:=sn) (sub:=sub) (ab:=ab) (col:=col) (dd:=dd) (k0:=k0) (k1:=k1) (k2:=k2) (k3:=k3) (k5:=k5) (newId:=newId) kP hh (af (aN (gZ (aN h (λf s₁ h₁=>?_) λ_ _ x=>x)) (λv s₃ h₃=>af (ck (aA h₃))) λ_ _ x=>x))))
  |(simp only[evalOpt,kN];refine af (ck (xhf (C:=C) (nm:=nm) (q:=q) (N:=N) (bs:=bs) (bm:=bm) (hdct:=hdct) (sn:=sn) (sub:=sub) (ab:=ab) (col:=col) (dd:=dd) (k0:=k0) (k1:=k1) (k2:=k2) (k3:=k3) (k5:=k5) (newId:=newId) kP hh (af (aN (gZ (aN h (λf s₁ h₁=>?_) λ_ _ x=>x)) (λv s₃ h₃=>af (ck (aA h₃))) λ_ _ x=>x)))))
 obtain⟨rfl,h₁⟩:=h₁;unfold fD;refine af (bJ (aN h₁ (λa s₂ h₂=>af (ck ?_)) λ_ _ x=>x));obtain⟨apos,kS⟩:=a;refine L2.oG λ_ Z=>?_;obtain⟨kR,hC,h₂⟩:=h₂;apply Z;obtain rfl:kS=[]:=kR;refine L2.oG λ_ Z=>?_;obtain⟨hp,g,d,tk,os⟩:=s₂;apply Z;simp only[kQ];refine af (wpAny_keeperOf_exc hC ?_);refine af (aN h₂ (λv s₃ h₃=>af (bJ (wpAny_point (aA h₃)))) λ_ _ x=>x)
end
def xrt(C:Addr)(f:Str)(EE:EEs)(t:TA):TS:=λ_ σ H=>t σ H λvs H1=>∃v,vs=[v]/\∀d,H1 d=none->EE σ (.ref C) (some d) (upd H1 d (.xd [(f,v)]))
theorem xjt{g:Addr}{fl:Str}{k:Nat}{np:Pos}(o:Own X)(hc:X.calm=true)(q:xc9 X.K C g)(F:xE X.prog X.w X.K X.mg X.base CX0 k g fd ps (xcd C fl))(hr:ya (k+1) X.A)(hb:Binds X.K fd ps [])
  (hg:Gl X x) (hm:X.mg x=some (.ref C)) (ha:PA (X.wish (XEG n X EE)) [e] t)
  (lg:autoParam ((x==("__debug__":Str))=false) sJ) (he:autoParam (aE [e] X.env=(false,eval e X.env)::aE [] X.env) sV) (kW:autoParam ((bR cpos (aE [e] X.env)).any (·.1)=false) sV):
  PS (X.wish (XEG n X EE)) (.Raise (some (.Call (.Name x np) [e] [] cpos)) none pos) (xrt C fl EE t):=by
 intro pins s σ H D I h;refine L2.oG λ_ Z=>?_;obtain⟨bm,N,nm,qn,bs,hdct,sn,sub,ab,col,dd,k0,k1,k2,k3,k5,hC,hN,kY,TL⟩:=xij q.xi I.ok.mod.kin;apply Z;refine xnq (C:=C) (N:=N) (bm:=bm) (nm:=nm) (q:=qn) (bs:=bs) (hdct:=hdct) (sn:=sn) (sub:=sub) (ab:=ab) (col:=col) (dd:=dd) (k0:=k0) (k1:=k1) (k2:=k2) (k3:=k3) (k5:=k5) (newId:="ValueError.__new__") (TL.hasType PySem.F.excBase_ValueError.hasBase) (I.ok.hd hc) kW (zR I hg hm ⟨rfl,?_⟩ lg);have kS:=ha cpos pins s σ H _ I h;rw[he]at kS;show wpAny (model X.prog X.w) X.A (j9 (.ref C) true (bR cpos (aE [e] X.env)) []) _ _ s;rw[he];refine PySem.evalArgs_kw (keywords:=[]) rfl ?_;refine thn kS λus s1 ⟨vs,H1,I1,r,v,hv,y⟩=>?_;subst hv;have hl:us.length=1:=r.length.symm;refine aA ⟨rfl,I1.bk _ _ hC,?_⟩;refine L2.oG λ_ Z=>?_;obtain⟨hh,gg,dr,tt,lp⟩:=s1;apply Z;have lb:W.typeIn X.K (.ref g)=some (.type "function"):=beq_iff_eq.mp q.fn;refine L2.oG λ_ Z=>?_;obtain⟨og,kX,la⟩:=aO.mp (show(X.K.lookup g).map (·.cls)=_ from lb);apply Z;refine xky PySem.F.excBase_ValueError (TL.keeps I1.bk) (I1.bk _ _ hC) (hN.keeps I1.bk) kY (I1.kIn _ _ kX) la (λh' a mk hsz=>?_) (by show us.length<=aU;rw[hl];decide);refine L2.oG λ_ Z=>?_;obtain⟨t0,ea,_,_⟩:=mk.there;apply Z;have nu:=xnn o I1.unwish mk.new;have I2:=I1.laid (a:=a) (o:=HO.exc a C none) (t':=tt) mk.keeps hsz ⟨⟨_,t0,ea,rfl,rfl,rfl⟩,⟨_,ea⟩,λh1 h2=>xe3⟩;have kZ:(aG a::us++[]).length=ps.length:=by
  have:=F.len [.ref a,v] (upd H1 a (HO.exc a C none)) (λ_ _=>True) E0 ⟨a,v,rfl,xp,λ_ _ _=>trivial⟩;rw[<-this];simp[hl]
 refine dH (cE (F.run _ X.stack _ _ ⟨aG a::us,[]⟩ (aG a::us) [.ref a,v] (λvv H3=>vv= .non/\∃d,H1 d=none/\d≠a/\H3=upd (upd (upd H1 a (HO.exc a C none)) d (.xd [(fl,v)])) a (HO.exc a C (some d))) E0 (hr.make C us [])
  (I2.env0.make C us []) (by have:=hb _ (aG a::us) I2.kIn kZ;rwa [cC]at this) (.cons rfl r) ⟨a,v,rfl,xp,λd n1 n2=>⟨rfl,d,by rwa [xm n2]at n1,n2,rfl⟩⟩) λrr s' kQ=>?_)
 cases rr with
 |error e=>exact bc kQ
 |ok lh=>
  cases lh with
  |ret u=>
   refine L2.oG λ_ Z=>?_;obtain⟨vv,H',I3,rv,rfl,d,n1,n2,rfl⟩:=I2.after kQ;apply Z;obtain rfl:u=bp:=rv;refine L2.oG λ_ Z=>?_;obtain⟨⟨oe,t1,kT,oc,od,kP⟩,_⟩:=I3.hok a _ xp;apply Z;have kR:rem (upd (upd (upd H1 a (HO.exc a C none)) d (.xd [(fl,v)])) a (HO.exc a C (some d))) a=upd H1 d (.xd [(fl,v)]):=by
    funext b
    unfold rem
    by_cases hb:b=a
    ·rw[if_pos hb,hb,xm (au n2)];exact nu.1.symm
    ·rw[if_neg hb,xm hb]
     by_cases hd:b=d
     ·rw[hd,xp,xp]
     ·rw[xm hd,xm hd,xm hb]
   have I4:=I3.unwish.forget (a:=a) xp;rw[kR]at I4;refine⟨rfl,a,t1,some d,oe.slots,rfl,I3.bk _ _ hC,?_,a,.ref C,some d,σ,_,rfl,I4.nopins,.inl ⟨oe,_,.ref t1,kT,oc,od,kP,rfl,rfl,λ_=>rfl,?_⟩,y d n1⟩
   ·refine L2.oG λ_ Z=>?_;obtain⟨c1,d1,lq,ll⟩:=oe;apply Z;cases oc;cases od;cases kP;exact kT
   ·exact⟨by rw[xm (au n2)];exact nu.1,nu.2⟩
  |next=>exact bc kQ
  |brk=>exact bc kQ
  |cont=>exact bc kQ
open PySem PySem.Spec PyProof.Rows PySem.W
section
variable {K:Frag} {x D:Addr} {od:Obj}
def xru{Q:Value->ak->Prop}{expr:Bool}{name:Str}(F:xil K D)(hd:hasDictIn K D=true)(X:K.In s.heap)(I:InstAt s.heap x ox D (some od))(na:findIn K (.ref D) name=some none)(hl:lookIn name od=some (some v))(hv:handedIn v=true)
  (h:Q v {s with toks:=s.toks+1}):wpAny (model prog w) A (getAttr (.ref x) name expr) Q E s:=by
 refine L2.oG λ_ Z=>?_;obtain⟨hh,g,d,t,os⟩:=s;apply Z;have l0:=I.type (M:=model prog w);have l1:=looks_findIn (M:=model prog w) X F.ga;have l2:=looks_findIn (M:=model prog w) X F.gh;have l3:=looks_find (M:=model prog w) X I (findObj_own hd na rfl hl);unfold getAttr getAttrBy;refine af (wpAny_mkText (bJ (af (l0.at (af (l1.at ?_))))));dsimp only;rw[if_neg (by rw[show(kj "BaseException.__getattribute__"==kj "object.__getattribute__")=false by decide,Bool.and_false];exact aR)];unfold getAttrByItsOwn hookBefore;rw[if_pos (show onTheHeap (aG D)=true from rfl)];refine af (l2.at (af (wpAny_attempt (bJ ?_))));unfold callGetattribute boundAndCalled;have kP:(expr&&onTheHeap (kj "BaseException.__getattribute__"))=false:=by cases expr<;> rfl
 rw[if_neg (by rw[kP];exact aR)];refine af (gH (PySem.F.excAttr_ValueError.ga.bind (.ref x)) ?_);have li:Looks (model prog w) hh (ka (.ref x) (.type "BaseException")) true:=l0.andThen (looks_mroIn X F.bs);dsimp only;refine dH ?_;refine eV PySem.F.excAttr_ValueError.ga.plain PySem.F.entry_bexc_ga ?_;have hs:=PySem.F.args_bexc_ga (.ref x) (.str name t);simp only[cU,bY];refine check_slot (M:=model prog w) (A:=A.in1) (i:="BaseException.__getattribute__") (owner:="BaseException") (n:="__getattribute__") (self:=.ref x) (rest:=[.str name t]) (kw:=[]) xkx xjL ?_ ?_ ?_
 ·exact li
 ·exact hs
 unfold i3.«object.__getattribute__» slotArgs;simp only[List.isEmpty_nil,Bool.not_true,ee,if_false,bD,fq,iG,bne_self_eq_false];refine af (aA ?_);dsimp only;unfold Builtin.ObjectAttr.attrName;simp only;refine af (aA ?_);refine af (l0.at ?_);refine af (l3.at ?_);dsimp only;refine aA ?_;exact handed_on hv h
end
def xtI(K:Frag)(a:Addr)(cls:Value)(dx:Option Addr)(ta:TE)(f:Str):TE:=λσ H Q=>ta σ H λx H1=>Ex4 λD d fs v=>x= .ref a/\cls= .ref D/\dx=some d/\H1 d=some (.xd fs)/\xil K D/\hasDictIn K D=true/\xJ K D f/\fs.lookup f=some v/\Q v H1
def xfM{K:Frag}{ps:List (Addr×Obj)}{f:Str}(hK:X.K=K)(hs:∃oe:Obj,(a,oe)∈ps/\oe.cls=cls/\oe.dict=dx/\∃vs,oe.data= .fields vs)(hp:∀p∈ps,p∈X.pn)
  (he:PE X e ta) (hb:gU e f X.env (eval e X.env)=eval e X.env):PE X (.Attribute e f pos) (xtI K a cls dx ta f):=by
 subst hK;intro pins s σ H Q I h;refine xml hb (yg (he pins s σ H _ I h) λu s1 x H1 I1 rx ⟨D,d,fs,v,ex,ec,ed,hx,F,hd,na,l,q⟩=>?_);subst ex;obtain rfl:u=aG a:=rx;obtain⟨oe,kQ,hc,kR,vs,kP⟩:=hs;have hp:=hp _ kQ;have hn:notCls oe=true:=by
  obtain⟨c1,d1,dt,sl⟩:=oe;cases kP;rfl
 obtain⟨mA,N1,r⟩:=I1.hok d _ hx;obtain⟨od,ho,hl⟩:=xi9 N1;obtain⟨u,hu,ru⟩:=vk.some_of (v:=v) (o:=mA f) (by rw[<-l];exact r f);have J:InstAt s1.heap a oe D (some od):=⟨(I1.pin _ (ba _ hp)).1,hc.trans ec,hn,by rw[kR,ed];exact ho⟩;exact xru F hd I1.kIn J na (by rw[hl,hu]) (xja ru) ⟨v,H1,I1.tok _,ru,q⟩
theorem xnr{n:Str}{np:Pos}{b₀:Stmt}{rest:List fV}{ts:Addr->Value->Option Addr->TS}
  (o:Own X) (hb:xbr X.K C') (hg:Gl X y) (hm:X.mg y=some (.ref C')) (hN:X.N.Nodup) (hi:X.N[i]? =some n) (hk:X.env.kindOf n=some .local)
  (kP:∀(ps:List (Addr×Obj)) (a:Addr) (cls:Value) (dx:Option Addr),(∃oe:Obj,(a,oe)∈ps/\oe.cls=cls/\oe.dict=dx/\∃vs,oe.data= .fields vs)->PSs (X.held a ps) (b₀::suite) (ts a cls dx))
  (lb:(y==("__debug__":Str))=false) (ok:X.Ok) (I3:Inv (X.pnd pins) [] σ H s) (F3:xnk (X.pnd pins) fl H s.heap a (.ref C) dx) (kZ:aM X.K (.ref C) (.ref C')=some true) (q:ts a (.ref C) dx (D.gone i) (σ.set i (some (.ref a))) H):
  wpAny (model X.prog X.w) X.A (handleBy (.ref a) X.env (.ExceptHandler (some (.Name y np)) (some n) (b₀::suite) hp::rest)) (SP X pins D) X.xe s:=by
 refine dY (dA ?_) (by intro z;cases z);refine L2.oG λ_ Z=>?_;obtain⟨oe,vs,a0,T,oT,lp,he,hc,hx,hd,h0,h1,h2,nT,hT,lz,h3,hn,ly⟩:=id F3;apply Z;have J3:=Inv.held I3 ok he hn.1 hd;refine zR J3 hg hm ?_ lb;refine xaf (K:=X.K) I3.kIn he hc kZ hb ?_;refine fw ?_;refine zv (X:=X.pnd pins) (to:=none) o.pnd I3 F3 λs4 I4 F4=>?_;refine L2.oG λ_ Z=>?_;obtain⟨kR,ll,lF,T',lq,kT,la,lh,kW,kS,lE,lD,lC,lr,lA,lg,lB,kY,kX⟩:=id F4;apply Z;have J4:=Inv.held I4 ok la kY.1 kS;refine xaJ (X:=X.held a (pins++[(a,kR)])) (v:=.ref a) J4 hN hi (.inl hk) rfl (λs5 J5=>?_) (.inr hk);refine aN (kP (pins++[(a,kR)]) a (.ref C) dx ⟨kR,by simp,lh,kW,_,kS⟩ [] s5 _ H (D.gone i) J5 q) (λf s6 hq=>?_) λ_ _ z=>z.elim;have kQ:SP X pins (D.gone i) f s6:=hq.unheld ok;cases f with
 |next=>
  refine L2.oG λ_ Z=>?_;obtain⟨σ',H',J,z⟩:=kQ;apply Z;exact jX J hN hi hk λs7 J7=>⟨_,_,J7,z⟩
 |brk=>
  refine L2.oG λ_ Z=>?_;obtain⟨σ',H',J,z⟩:=kQ;apply Z;exact jX J hN hi hk λs7 J7=>⟨_,_,J7,z⟩
 |cont=>
  refine L2.oG λ_ Z=>?_;obtain⟨σ',H',J,z⟩:=kQ;apply Z;exact jX J hN hi hk λs7 J7=>⟨_,_,J7,z⟩
 |ret u=>
  refine L2.oG λ_ Z=>?_;obtain⟨v,σ',H',J,r,z⟩:=kQ;apply Z;exact jX J hN hi hk λs7 J7=>⟨_,_,_,J7,r,z⟩
def xlM{n:Option Str}{np:Pos}{rest:List fV}{Q:Flow->ak->Prop}
  (hb:xbr X.K C') (hg:Gl X y) (hm:X.mg y=some (.ref C')) (kQ:(y==("__debug__":Str))=false) (ok:X.Ok) (I3:Inv (X.pnd pins) [] σ H s) (F3:xnk (X.pnd pins) fl H s.heap a (.ref C) dx) (kP:aM X.K (.ref C) (.ref C')=some false)
  (h:wpAny (model X.prog X.w) X.A (handleBy (.ref a) X.env rest) Q X.xe s):
  wpAny (model X.prog X.w) X.A (handleBy (.ref a) X.env (.ExceptHandler (some (.Name y np)) n suite hp::rest)) Q X.xe s:=by
 refine dY (dA ?_) (by intro z;cases z);refine L2.oG λ_ Z=>?_;obtain⟨oe,vs,a0,T,oT,kR,he,hc,hx,hd,h0,h1,h2,nT,hT,kT,h3,hn,kS⟩:=id F3;apply Z;have J3:=Inv.held I3 ok he hn.1 hd;refine zR J3 hg hm ?_ kQ;refine xaf (K:=X.K) I3.kIn he hc kP hb ?_;exact h
def Fun.okXC{c:Addr}{k:Nat}(F:Fun K x qual st f fd)(hc:fd.code= .ref c)(S:xu N ps (xh st))(len:∀vs H Q E,sp vs H Q E->vs.length=ps.length)
  (kP:∀(A:bo) (outer:List Env) (s:ak) (H:Hp) (vs:List V) (Q:VK) (E:XK),ya k (A.deeper (cV qual (xh st) s.heap.objs.size f (.ref c)))->sp vs H Q E->
   ∃t,PSs (cxG n P w K mg base N qual (xh st) f (.ref c) A outer s H E) (xr st) t/\t {nx:=λ_ H'=>Q .non H',rt:=Q} (start N vs) H):xE P w K mg base (CXG n P w) (k+1) f fd ps sp:=by
 obtain⟨oc,od,kV,doc,pm,an,cdv,ct,osl,rfl,lk,kT⟩:=F.ex;obtain rfl:cdv= .ref c:=hc;refine xj9 lk kT S len λA outer s H vs Q E hr kR=>?_;obtain⟨t,h,q⟩:=kP A outer s H vs Q E hr kR;refine⟨t,h.wished λe s' ⟨a,cls,dx,σ,H',he,I,Fl,z⟩=>?_,q⟩;subst he;refine xbW xku I.ok.frames I Fl λs2 I2 F2=>?_;obtain⟨oe,vs,a0,T,oT,ts,he,hc,hx,hd,h0,h1,h2,nT,hT,kS,h3,hn,kQ⟩:=F2;exact⟨a,cls,dx,H',oe,vs,a0,T,oT,ts,rfl,I2.os,I2.bare,I2.base,I2.hok,he,hc,hx,hd,h0,h1,h2,nT,hT,kS,h3,hn.1,hn.2.1,kQ.1,kQ.2.1,z⟩
section
variable {k:Nat} {dvs:List V} {m:Str} {apos:Pos} {o:Expr}
def xoJ(C:Addr)(m:Str)(sp:Sp)(dvs:List V)(EE:EEs)(ta:TE)(t:TA):TE:=λσ H Q=>ta σ H λx H1=>Ex3 λa dx fs=>x= .ref a/\H1 a=some (.ins C dx fs)/\fs.lookup m=none/\
 t σ H1 λvs H2=>sp (x::(vs++dvs)) H2 Q (EE σ)
def ye{pl:Sem Bool}(ow:Own X)(he:PE (X.wish (XEG n X EE)) o ta)(c:Cls X.K C)(hm:Meth X.K C m f)(F:xE X.prog X.w X.K X.mg X.base (CXG n X.prog X.w) k f fd ps sp)(hr:ya k X.A)(hb:Binds X.K fd ps ds)(hd:Vals dvs ds)(ha:PA (X.wish (XEG n X EE)) (e::es) t)
  (kP:autoParam (aE (e::es) X.env=(false,eval e X.env)::aE es X.env) sV) (kQ:autoParam ((bR pos (aE es X.env)).any (·.1)=false) sV)
  (ht:autoParam (eval (.Call (.Attribute o m apos) (e::es) [] pos) X.env=(do
   let ov <-eval o X.env
   ic apos.atName
   let(f,first) <-fK [ov] (gf ov m pl)
   fD pos f first (bR pos (aE (e::es) X.env)) (il pos (fT [] X.env)))) sV):
  PE (X.wish (XEG n X EE)) (.Call (.Attribute o m apos) (e::es) [] pos) (xoJ C m sp dvs EE ta t):=by
 intro pins s σ H Q I h;refine fk (pl:=pl) (yg (he pins s σ H _ I h) λu s1 x H1 I1 rx ⟨a,dx,fs,ex,ea,l,q⟩=>?_) ht;subst ex;obtain rfl:u=aG a:=rx;refine xbQ I1 ea c hm l ?_;refine fC (first:=[.ref a]) (h₀:=X.base) I.ok.mod.kin hm.kp (uJ (ha pos pins s1 σ H1 _ I1 q) λus s2 vs H2 I2 r q2=>⟨I2.kIn,?_⟩) kP kQ;exact xii (us:=.ref a::us) (vs:=.ref a::vs) ow F hr hb hd I2 (.cons rfl r) q2
def xbh{pl:Sem Bool}(ow:Own X)(he:PE (X.wish (XEG n X EE)) o ta)(c:Cls X.K C)(hm:Meth X.K C m f)(F:xE X.prog X.w X.K X.mg X.base (CXG n X.prog X.w) k f fd ps sp)(hr:ya k X.A)(hb:Binds X.K fd ps ds)(hd:Vals dvs ds)
  (ht:autoParam (eval (.Call (.Attribute o m apos) [] [] pos) X.env=(do
   let ov <-eval o X.env
   ic apos.atName
   let(f,first) <-fK [ov] (gf ov m pl)
   fD pos f first (bR pos (aE [] X.env)) (il pos (fT [] X.env)))) sV):
  PE (X.wish (XEG n X EE)) (.Call (.Attribute o m apos) [] [] pos) (xoJ C m sp dvs EE ta jK):=by
 intro pins s σ H Q I h;refine fk (pl:=pl) (yg (he pins s σ H _ I h) λu s1 x H1 I1 rx ⟨a,dx,fs,ex,ea,l,q⟩=>?_) ht;subst ex;obtain rfl:u=aG a:=rx;refine xbQ I1 ea c hm l ?_;exact W.callWith_K0 (first:=[.ref a]) I1.kIn hm.kp (xii (us:=[.ref a]) (vs:=[.ref a]) ow F hr hb hd I1 (.cons rfl .nil) q)
end
def FnV(P:aH)(w:World)(K:aq)(mg:Str->Option Value)(base:Heap)(k:Nat)(H:Hp)(f:Addr)(vs:List V)(Q:VK):Prop:=
 ∃nm qual params body scope ps sp fv,yV P w K mg base CX0 k nm qual params body scope ps sp/\yK H f nm qual params body scope fv/\sp fv vs H Q E0
section
variable {k:Nat}
def xsU(X:Cx)(k:Nat)(i:Nat)(t:TA):TE:=λσ H Q=>∃f,σ[i]? =some (some (.ref f))/\(Ex6 λnm qual params body scope fv=>yK H f nm qual params body scope fv)/\t σ H λvs H1=>FnV X.prog X.w X.K X.mg X.base k H1 f vs Q
def xkz(i:Nat)(hr:ya k X.A)(ha:PA X (e::es) t)(hN:autoParam (X.N[i]? =some x) sV)(hv:Vis X.env.scope x:=by first|exact az rfl|exact cW (az rfl)|exact cW (cW rfl))(hd:autoParam ((x==("__debug__":Str))=false) sJ)
  (kQ:autoParam ((x==("__classdict__":Str))=false) sJ) (he:autoParam (aE (e::es) X.env=(false,eval e X.env)::aE es X.env) sV) (kP:autoParam ((bR pos (aE es X.env)).any (·.1)=false) sV):
  PE X (.Call (.Name x p) (e::es) [] pos) (xsU X k i t):=by
 intro pins s σ H Q I h;obtain⟨f,e1,⟨_,_,_,_,_,_,kR⟩,h⟩:=h;refine bX (yg (xgP (pos:=p) hN hv hd kQ pins s σ H (λv H1=>v= .ref f/\H1=H) I ⟨_,e1,rfl,rfl⟩) λu s1 v H1 I1 r ⟨q1,q2⟩=>?_);subst q1;subst q2;cases (show u=aG f from r);refine W.callWith_F (kR.fn I1) (uJ (ha pos pins s1 σ H1 _ I1 h) λus s2 vs H2 I2 r2 q=>?_) he kP;obtain⟨nm,qual,params,body,scope,ps,sp,fv,F,hc,q⟩:=q;exact⟨hc.fn I2,xmt F hr xt I2 hc r2 q⟩
end
def xkb:Stmt->List Stmt
 | .If _ b _ _=>b
 |_=>[]
end Internal.L2
namespace PySem
open Sem (wp)
open AutoSeq1 (wpAny_loadPart')
abbrev kwS(k:Int)(t:Tok):List (Str×Value):=[(bE "start",.int k t)]
def xrv(a:Value)(k:Int)(t:Tok):checkTypeCall "enumerate" ⟨[a],kwS k t⟩=pure ():=by kernel_rfl
def xsV(a:Value)(k:Int)(t:Tok):checkBuiltinCall "enumerate.__new__" ⟨[.type "enumerate",a],kwS k t⟩=pure ():=by kernel_rfl
def xrw(x a:Value)(k:Int)(t:Tok):argsOk "object.__init__" ⟨[x,a],kwS k t⟩:=by
 unfold argsOk;rw[signature?_of (id:="object.__init__") (n:="__tini__".toList) (o:="tcejbo".toList) (by kernel_rfl) F.owner_object]
 kernel_rfl
def xrx(l:Addr)(items:Array Value)(n:Nat)(kQ:Option Addr)(sl:Array (Option Value))(k:Int)(t:Tok)(hf:eM k=true):
  Meets (i3.«enumerate.__new__» ⟨[.type "enumerate",.ref l],kwS k t⟩) (λ_ R s=>s.heap.get? l=some ⟨.type "list",kQ,.seq items n,sl⟩/\
   R (.ok (.ret (.ref (s.heap.objs.size+1))))
    {s with heap:=(s.heap.push {cls:=.type "list_iterator",data:=.fields #[.ref l,.int 0 0]}).push {cls:=.type "enumerate",data:=.fields #[.none,.bool false,.ref s.heap.objs.size,bN k,.none,.none]}}):=by
 refine .of_wp λprog w A R s h=>?_;obtain⟨hl,h⟩:=h;refine L2.oG λ_ Z=>?_;obtain⟨hp,g,d,tk,os⟩:=s;apply Z;have hz:(hp.push {cls:=.type "list_iterator",data:=.fields #[.ref l,.int 0 0]}).objs.size=hp.objs.size+1:=eI ..;have kP:=sub_enumerate;have hL:Heap.IsList (Shared.heap ⟨hp,g,d,tk,os⟩) l items:=⟨_,hl,rfl,n,rfl⟩
 wp_walk using iO hl
 refine wpAny_stack_any λst=>aA ?_
 split
 ·rename_i c _ _ _ _ _;cases (c==eP "enumerate")<;>
   (wp_walk using iO hl,fP hL;exact⟨_,rfl,by rw[hz];exact h⟩)
 ·wp_walk using iO hl,fP hL
  exact⟨_,rfl,by rw[hz];exact h⟩
def xoK{T newId:String}{x y:Value}{kw:List (Str×Value)}(hl:j0 (.type T) "__init__"=pure (some (.builtin "object.__init__")))(hm:Bind.madeBy (.type T)=pure (some newId))(kP:(some newId != some "object.__new__")=true):
  Meets (i3.«object.__init__» ⟨[x,y],kw⟩) (λ_ R s=>s.TypeIs x T/\R (.ok (.ret .none)) s):=
 .of_wp λprog w A R s h=>by
  obtain⟨hT,h⟩:=h
  repeat (any_goals (first|assumption|wp_step))
  exact⟨_,rfl,h⟩
section
variable {prog:aH} {w:World} {A:bo} {E:Value->ak->Prop} {s:ak}
theorem xns{l:Addr}{items:Array Value}{k:Int}{t:Tok}{Q:Value->ak->Prop}(hL:s.heap.IsList l items)(hf:eM k=true)
  (h:∀h',iE h' (s.heap.objs.size+1) s.heap.objs.size k .none->h'.IsListIter s.heap.objs.size l 0->(∀b o,s.heap.get? b=some o->h'.get? b=some o)->Q (.ref (s.heap.objs.size+1)) {s with heap:=h'}):
  wpAny (model prog w) A (call (.type "enumerate") [.ref l] (kwS k t)) Q E s:=by
 refine L2.oG λ_ Z=>?_;obtain⟨⟨c0,kS,dt,sl⟩,hl,hc,n,hd⟩:=hL;apply Z;obtain rfl:c0= .type "list":=hc;obtain rfl:dt= .seq items n:=hd;have ft:=F.called_enumerate;refine L2.oG λ_ Z=>?_;obtain⟨c,tl,kR⟩:=ft.mro;apply Z;have kW:=xrv (.ref l) k t;have kP:=ft.made;have kQ:=ft.sub;have h1:=ft.notType;have h2:=ft.canCreate;have hz:(s.heap.push {cls:=.type "list_iterator",data:=.fields #[.ref l,.int 0 0]}).objs.size=s.heap.objs.size+1:=eI ..;have he:iE ((s.heap.push {cls:=.type "list_iterator",data:=.fields #[.ref l,.int 0 0]}).push {cls:=.type "enumerate",data:=.fields #[.none,.bool false,.ref s.heap.objs.size,bN k,.none,.none]}) (s.heap.objs.size+1) s.heap.objs.size k .none:=by
  rw[<-hz];exact aT _ rfl
 have fin:=h _ he ⟨_,ai _ (aT _ rfl),rfl,rfl⟩ λb o x=>ai _ (ai _ x);refine dH (codeAny_of_tree (aA ⟨gQ _ (by decide+kernel),gw F.entry_type_call ?_⟩));rw[Around.under_plain (weight_type_call_type "enumerate" [.ref l] (kwS k t)) (units_type_call_type "enumerate" [.ref l] (kwS k t))]
 repeat (any_goals (first|assumption|wp_step))
 refine cE (eV ft.plain i4 (gH (xsV (.ref l) k t) (xrx l items n kS sl k t hf prog w A.in1 (wants (λobj s₁=>s₁.TypeIs obj "enumerate"/\Q obj s₁) E) s ⟨hl,⟨_,he,rfl⟩,fin⟩))) λr s₁ hr=>?_;rcases r with e|fl
 ·exact hr
 cases fl with
 |ret obj=>
  obtain⟨hT,hq⟩:=(show s₁.TypeIs obj "enumerate"/\Q obj s₁ from hr);have kT:=ft.init.lookup;have kX:=ft.init.bind obj
  repeat (any_goals (first|assumption|wp_step))
  refine cE (eV ft.init.plain F.entry_object_init (ft.init.check _ _ _ _ _ _ _ _ hT (xrw obj (.ref l) k t) (xoK (T:="enumerate") (kw:=kwS k t) ft.init.lookup ft.made (by decide) prog w A.in1 (wants (λr s₂=>r= .none/\Q obj s₂) E) s₁ ⟨hT,rfl,hq⟩))) λr₂ s₂ h3=>?_;rcases r₂ with e|f2
  ·exact h3
  cases f2 with
  |ret r=>
   obtain⟨rfl,h4⟩:=(show r= .none/\Q obj s₂ from h3)
   repeat (any_goals (first|assumption|wp_step))
  |_=>exact h3.elim
 |_=>exact hr.elim
end
end PySem
namespace Internal.L2
open PySem PySem.Spec PyProof.Rows
variable {w:World} {X:Cx} {s:ak} {pos p:Pos} {P prog:aH} {K:aq} {A:bo} {H:Hp} {mg:Str->Option Value} {base:Heap} {ps N:List Str} {x qual nm n:Str} {f C:Addr} {fd:ax} {E:Value->ak->Prop} {σ:St} {es:List Expr} {EE:EEs} {e:Expr} {pins:List (Addr×Obj)} {i:Nat}
def xlN{it:Addr}{fp:List Addr}{n:Nat}{Pv:Nat->Value->Prop}{St:Nat->Heap->Prop}(D:Draws prog w A it fp n Pv St)(m:Nat):
  Draws prog w A it fp (m+n) (λi v=>m<=i/\Pv (i - m) v) (λi h=>m<=i/\St (i - m) h) where
 live:=λ_ _ st=>D.live _ _ st.2
 frame:=λ_ _ _ st hk=>⟨st.1,D.frame _ _ _ st.2 hk⟩
 item:=λi s Q E hi st hQ=>D.item (i - m) s Q E (by lia) st.2 λx h' tk hp hs hb=>hQ x h' tk ⟨st.1,hp⟩ ⟨by lia,by rw[show i+1 - m=i - m+1 by lia];exact hs⟩ hb
 done:=λs Q E st hE=>D.done s Q E (by have:=st.2;rwa [show m+n - m=n by lia]at this) hE
section
variable {M:Model}
def xlO{T:String}{args:List (Bool×Sem Value)}{kws:List (Option Str×Sem Value)}{Q:Value->ak->Prop}(hp:args.any (·.1)=false)(hk:kws.any (·.1.isNone)=false)
  (h:wpAny M A (j9 (.type T) true args kws) (λa s₁=>wpAny M A (call (.type T) a.pos a.kw) Q E s₁) E s):wpAny M A (fD pos (.type T) [] args kws) Q E s:=by
 unfold fD;refine af (bJ ?_);refine aN h (λa s₁ h₁=>?_) λ_ _ x=>x;refine af (ck ?_);simp only[hp,hk,Bool.or_false];refine af (aA (af ?_));refine aN h₁ (λr s₂ hr=>?_) λ_ _ x=>x;exact af (bJ (wpAny_point (aA hr)))
end
def xkA(K:aq)(a:Addr)(m:Nat):It:=
 ⟨λi H=>Ex2 λxs x=>SqL K H a xs/\xs[i]? =some x,λi H v H'=>Ex2 λT x=>v= .ref T/\H T=none/\H'=upd H T (.tup [.int ((m+i:Nat):Int),x])/\∀xs,SqL K H a xs->xs[i]? =some x,λi H=>∃xs,SqL K H a xs/\xs.length<=i⟩
def xhg{k:Nat}(a e it:Addr)(m:Nat)(kR:e≠it):Turn P w K (.Tuple es k pos) (xkA K a m) [e,it] e (λi h=>(∃old,iE h e it ((m+i:Nat):Int) old)/\h.IsListIter it a i) where
 mem:=by simp
 obj:=λi h st b hb=>by
  refine L2.oG λ_ Z=>?_;obtain⟨⟨old,he⟩,⟨o,e1,c,d⟩⟩:=st;apply Z;rcases av.mp hb with z|z
  ·subst z;exact⟨_,he,λv z=>by cases z⟩
  ·rw[aj.mp z];exact⟨o,e1,λv z=>by rw[d]at z;cases z⟩
 keep:=λi h h' st kk=>by
  refine L2.oG λ_ Z=>?_;obtain⟨⟨old,he⟩,hit⟩:=st;apply Z;exact⟨⟨old,kk e (by simp) _ he⟩,hit.at λo x=>kk it (by simp) o x⟩
 item:=by
  intro X hP hw hK hc i pins s σ H E I hf st hg;subst hP hw hK;refine L2.oG λ_ Z=>?_;obtain⟨xs,x,hq,hx⟩:=hg;obtain⟨its,rv,p,hz⟩:=I.list hq;obtain⟨u,hu,ru⟩:=rv.get hx;obtain⟨⟨old,he⟩,hit⟩:=st;apply Z;have kS:=aB he;have kT:it<s.heap.objs.size:=by obtain⟨o,q,_⟩:=hit;exact aB q
  have lh:i<its.length:=by
   have:=(aw.mp hu).1;exact this
  have pl:=p.isList;have la:a≠it:=λz=>by
   refine L2.oG λ_ Z=>?_;obtain⟨o1,q1,c1,_⟩:=pl;obtain⟨o2,q2,c2,_⟩:=hit;apply Z;rw[z,q2]at q1;cases q1;rw[c2]at c1;simp at c1
  have lb:e≠a:=λz=>by
   refine L2.oG λ_ Z=>?_;obtain⟨o1,q1,c1,_⟩:=pl;apply Z;rw[<-z,he]at q1;cases q1;simp at c1
  have D:=xlN (Draws.list (prog:=X.prog) (w:=X.w) (A:=X.A.in1) (I.ok.hd hc) it a la its.toArray) m;refine iJ D he ⟨by lia,by rw[show m+i - m=i by lia];exact⟨hit,pl⟩⟩ (by simp;lia) kR (by simp[kR,lb]) λy h' tk hy kX kW hT hsz hk=>?_;have ey:y=u:=by
   have h1:=hy.2;rw[show m+i - m=i by lia]at h1;have h2:its.toArray[i]? =some u:=by simpa using hu
   rw[h2]at h1;exact(bt h1).symm
  subst ey;have kP:=kW.2.1;rw[show m+i+1 - m=i+1 by lia]at kP;refine⟨_,rfl,gW (s:={s with heap:=h',toks:=tk+1}) kX λh2 kY kQ=>?_⟩;have lg:h2.get? s.heap.objs.size=some {cls:=.type "tuple",data:=.seq #[.int ((m+i:Nat):Int) tk,y]}:=(kQ.2 _ (gr kS)).trans hT;have I2:Inv X pins σ (upd H s.heap.objs.size (.tup [.int ((m+i:Nat):Int),x])) {s with heap:=h2,toks:=tk+1}:=by
   refine I.turnLaid (ch:=[e,it]) (λb o hb q=>?_) (ay _) ⟨by simp[aZ],[.int ((m+i:Nat):Int) tk,y],.cons ⟨_,rfl⟩ (.cons ru .nil),⟨_,lg,rfl,_,rfl⟩⟩ (λb hb=>(hf b hb).1) (λb hb=>?_) λb hb=>?_
   ·have b1:b≠e:=λz=>hb (by simp[z]);have b2:b≠it:=λz=>hb (by simp[z]);exact(kQ.2 b b1).trans (hk b o b1 b2 q)
   ·rcases av.mp hb with z|z
    ·rw[z];exact kS
    ·rw[aj.mp z];exact kT
   ·refine L2.oG λ_ Z=>?_;obtain⟨f0,f1,f2,f3,f4,f5⟩:=hf b hb;apply Z;exact⟨f3,f1,f4,f5⟩
  refine⟨.ref s.heap.objs.size,_,I2,rfl,⟨_,x,rfl,I.hok.fresh (ay _),rfl,λys hy=>by rw[I.list_inj hy hq];exact hx⟩,⟨⟨y,by rw[show((m+(i+1):Nat):Int)=((m+i:Nat):Int)+1 by lia];exact kY⟩,kP.extBut kQ.extBut (au kR)⟩,λb hb=>?_⟩;have kZ:b≠s.heap.objs.size:=by
   rcases av.mp hb with z|z
   ·rw[z];exact aQ kS
   ·rw[aj.mp z];exact aQ kT
  rw[xm kZ];exact(hf b hb).1
 done:=by
  intro X hP hw hK hc i pins s σ H E I hf st hg;subst hP hw hK;refine L2.oG λ_ Z=>?_;obtain⟨xs,hq,hx⟩:=hg;obtain⟨its,rv,p,hz⟩:=I.list hq;obtain⟨⟨old,he⟩,hit⟩:=st;obtain⟨f0,f1,f2,f3,f4,f5⟩:=hf it (by simp);apply Z;have hl:=rv.length;have pl:=p.isList;have D:Draws X.prog X.w X.A.in1 it [it,a] 0 (λ_ _=>False) (λ_ h=>h.IsListIter it a i/\h.IsList a its.toArray):={
   live:=λ_ _ st=>let⟨o,ho,_⟩:=st.1;⟨o,ho⟩
   frame:=λ_ _ _ st hk=>⟨st.1.at λo e=>hk it (by simp) o e,st.2.at λo e=>hk a (by simp) o e⟩
   item:=λj s Q E hj=>absurd hj (fx _)
   done:=λs Q E st hE=>wpAny_nextOf_list_end (I.ok.hd hc) st.1 st.2 (by simp;lia) hE}
  exact wpAny_pyNext_enum_endD D he ⟨hit,pl⟩ λh' eb=>⟨rfl,I.turned (t':=s.toks) (λb o hb e=>eb b o hb e) f0 f1 f3 f4 f5⟩
 self:=λ_ _ _ _ _ st h=>by
  refine L2.oG λ_ Z=>?_;obtain⟨⟨old,he⟩,_⟩:=st;apply Z;exact eD he h
section
variable {k:Nat} {tp:Pos}
def xsW(K:aq)(ta:TA)(tf:TE):TI:=λσ H R=>ta σ H λvs H1=>tf σ H1 λy H2=>Ex2 λ(a:Addr) (m:Nat)=>vs=[.ref a]/\y= .int m/\(m:Int)<2^62/\(∃xs,SqL K H2 a xs)/\R (xkA K a m) H2
def xp2{l fe:Expr}{ta:TA}{tf:TE}{kp:Pos}(hg:Gl X "enumerate")(hm:X.mg "enumerate"=none)(ha:PA X [l] ta)(hf:PE X fe tf)
  (he:autoParam (bR pos (aE [l] X.env)=(false,eval l X.env)::bR pos (aE [] X.env)) sV):PI X (.Tuple es k tp) (.Call (.Name "enumerate" p) [l] [⟨some "start",fe,kp⟩] pos) (xsW X.K ta tf):=by
 intro pins s σ H R I h;refine bX (vK I hg hm xcc ?_);refine xlO (by rw[he];rfl) rfl ?_;rw[he];refine evalArgs_kwB rfl ?_;rw[<-he];refine thn (ha pos pins s σ H _ I h) λus s1 h1=>?_;obtain⟨vs,H1,I1,r1,q1⟩:=h1;refine kws_cons (thn (hf pins s1 σ H1 _ I1 q1) λfu s2 h2=>kws_nil ?_);obtain⟨y,H2,I2,r2,a,m,rfl,rfl,kP,⟨xs,hq⟩,q⟩:=h2;obtain⟨u,rfl,ru⟩:=Vals.one r1;cases ru;obtain⟨tz,rfl⟩:=r2;obtain⟨its,rv,pl,hz⟩:=I2.list hq;show wpAny _ _ (call (.type "enumerate") [.ref a] (kwS m tz)) _ _ s2;refine xns pl.isList (by simp[eM];lia) λh' he hi hk=>eD (s:={s2 with heap:=h'}) he ?_;refine⟨s2.heap.objs.size+1,[s2.heap.objs.size+1,s2.heap.objs.size],_,_,H2,rfl,I2.kept (t':=s2.toks) hk,xhg a _ _ m (iF _),⟨⟨.none,by simpa using he⟩,hi⟩,λb hb=>?_,q⟩;rcases av.mp hb with z|z
 ·rw[z];exact I2.fpOk (dN _) (I2.hok.fresh (dN _))
 ·rw[aj.mp z];exact I2.fpOk (ay _) (I2.hok.fresh (ay _))
end
def xlP{l:Addr}{n:Nat}{xs:List V}{g:TG}{tb:TS}{D:Ends}(Pv:Nat->St->Hp->Prop)(h0:Pv 0 σ H)(hl:∀i σ H,i<=xs.length->Pv i σ H->SqL K H l xs)
  (hs:∀i x σ H T,xs[i]? =some x->Pv i σ H->H T=none->g (.ref T) σ (upd H T (.tup [.int ((n+i:Nat):Int),x])) λσ2 H2=>tb {D with nx:=Pv (i+1),ct:=Pv (i+1),bk:=D.nx} σ2 H2) (hd:∀σ H,Pv xs.length σ H->D.nx σ H):vC (xkA K l n) g tb D σ H:=by
 unfold vC;refine⟨λi m σ H=>m=xs.length - i/\i<=xs.length/\Pv i σ H,⟨xs.length,by simp,bL _,h0⟩,?_⟩;rintro i m σ H ⟨rfl,hi,p⟩;have hq:=hl i σ H hi p
 by_cases kP:i<xs.length
 ·have hx:xs[i]? =some xs[i]:=aD kP;refine .inr ⟨⟨xs,xs[i],hq,hx⟩,Pv (i+1),λσ' H' p'=>⟨xs.length - (i+1),by lia,rfl,kP,p'⟩,λv H' y=>?_⟩;obtain⟨T,x,rfl,hT,rfl,kQ⟩:=y;exact hs i x σ H T (kQ xs hq) p hT
 ·obtain rfl:i=xs.length:=by lia
  exact .inl ⟨⟨xs,hq,ay _⟩,hd σ H p⟩
abbrev xuh(n:Bool)(cap:List Str)(P:aH)(w:World)(K:aq)(mg:Str->Option Value)(base:Heap)(N:List Str)(qual:Str)(sc:Scope)(f:Addr)(cd:Value)(A:bo)(outer:List Env)(s:ak)(H:Hp)(E:XK):Cx:=
 (xa7 cap (CXG n P w) P w K mg base N qual sc f cd A outer s H E).wish (XEG n (xa7 cap (CXG n P w) P w K mg base N qual sc f cd A outer s H E) λ_=>E)
theorem Fun.okXK{n:Bool}{st:Stmt}{c:Addr}{k:Nat}{sp:Sp}(cap:List Str)(F:Fun K x qual st f fd)(hc:fd.code= .ref c)(S:xu N ps (xh st))(len:∀vs H Q E,sp vs H Q E->vs.length=ps.length)
  (kQ:∀(A:bo) (outer:List Env) (s:ak) (H:Hp) (vs:List V) (Q:VK) (E:XK),ya k (A.deeper (cV qual (xh st) s.heap.objs.size f (.ref c)))->sp vs H Q E->
   ∃t,PSs (xuh n cap P w K mg base N qual (xh st) f (.ref c) A outer s H E) (xr st) t/\t {nx:=λ_ H'=>Q .non H',rt:=Q} (start N vs) H):xE P w K mg base (CXG n P w) (k+1) f fd ps sp:=by
 refine L2.oG λ_ Z=>?_;obtain⟨oc,od,kV,doc,pm,an,cdv,ct,osl,rfl,lk,kX⟩:=F.ex;apply Z;obtain rfl:cdv= .ref c:=hc;refine⟨len,λA outer s H args us vs Q E hr e0 hb r kR=>?_⟩;have hl:=len _ _ _ _ kR;have KX:K.In s.heap:=e0.mod.kin.keeps λb o e=>(e0.bs b o e).1;have lim:s.heap.NoLimit:=e0.mod.nolimit.keeps λb o e=>(e0.bs b o e).1;have kP:∀y∈ps.zip us,(xh st).names.lookup y.1=some .local\/((xh st).names.lookup y.1=some .cell/\((gM (s.heap.objs.size+1) (xh st).names []).lookup y.1).isSome=true):=λ⟨n,v⟩ hy=>by
  rcases S.par n (dy hy).1 with q|q
  ·exact .inl q
  ·exact .inr ⟨q,eR _ _ _ (.inl q)⟩
 refine dz hr.depth (KX _ _ lk) rfl S.co S.gen rfl (iq KX kX) (hb _ _ _ _ ?_);refine dC S.kind kP λenv he s1 x=>?_;subst he;refine⟨lim.keeps x.toInCall.keep,ir ?_⟩;refine L2.oG λ_ Z=>?_;obtain⟨t,kT,hq⟩:=kQ A outer s H vs Q E (hr.deeper _) kR;apply Z;have ht:PSs (xa7 cap (CXG n P w) P w K mg base N qual (xh st) f (.ref c) A outer s H E) (xr st) t:=kT.wished λe s' ⟨a,cls,dx,σ,H',he,I,Fl,z⟩=>by
  subst he;refine xbW ⟨rfl,rfl,rfl⟩ I.ok.frames I Fl λs2 I2 F2=>?_;refine L2.oG λ_ Z=>?_;obtain⟨oe,vs,a0,T,oT,ts,he,hc,hx,hd,h0,h1,h2,nT,hT,kW,h3,hn,kS⟩:=F2;apply Z;exact⟨a,cls,dx,H',oe,vs,a0,T,oT,ts,rfl,I2.os,I2.bare,I2.base,I2.hok,he,hc,hx,hd,h0,h1,h2,nT,hT,kW,h3,hn.1,hn.2.1,kS.1,kS.2.1,z⟩
 have I:Inv (uQ (CXG n P w) P w K mg base N qual (xh st) f (.ref c) A outer s H E) [] (start N vs) H s1:=xcQ S hr.hd e0 hl r x;have I':Inv (xa7 cap (CXG n P w) P w K mg base N qual (xh st) f (.ref c) A outer s H E) [] (start N vs) H s1:=I.capd (λ_=>rfl) (xng cap);refine aN (ht [] s1 (start N vs) H _ I' hq) (λfl s' hs=>?_) λe s' hs=>hs;have fin:∀{σ':St} {H':Hp} {v:V} {u:Value},Inv (xa7 cap (CXG n P w) P w K mg base N qual (xh st) f (.ref c) A outer s H E) [] σ' H' s'->RelV v u->Q v H'->CE outer P w H s Q u s':=
  λ{σ' H' v u} J rv q=>⟨v,H',J.os,J.bare,J.base,J.hok,rv,q⟩
 cases fl with
 |ret u=>
  refine L2.oG λ_ Z=>?_;obtain⟨v,σ',H',J,rv,q⟩:=hs;apply Z;exact fin J rv q
 |next=>
  refine L2.oG λ_ Z=>?_;obtain⟨σ',H',J,q⟩:=hs;apply Z;exact fin (v:=V.non) (u:=bp) J rfl q
 |brk=>
  refine L2.oG λ_ Z=>?_;obtain⟨_,_,_,q⟩:=hs;apply Z;exact bc q
 |cont=>
  refine L2.oG λ_ Z=>?_;obtain⟨_,_,_,q⟩:=hs;apply Z;exact bc q
section
variable {env:Env}
variable {q:Str} {N:Addr} {bs bm:List Value} {hdct:Bool} {sn:List Str} {sub:List Value} {ab:Bool} {col:Option Bool} {dd:Option Addr} {k0 k1 k2 k3 k5:Option Value} {newId:String}
def xkB{e:Value}{h:Addr}{oh:Obj}{vh:Array Value}{Q:Value->ak->Prop}(he:s.heap.get? h=some oh)(hd:oh.data= .fields vh)(h2:vh[2]? =some .none)(hq:Q .none s):
  wpAny (model prog w) A (runValue (.builtin "proto.unchain" ⟨[e,.ref h,.ref h,.bool false],[]⟩)) Q E s:=by
 refine wpAny_runValue (gw (entryFor_of_fast (by kernel_rfl):entryFor table "proto.unchain"=some i3.«proto.unchain») ?_);show wpAny _ _ (field (.ref h) 2 >>= _) _ _ s;refine af (cw he hd h2 ?_);rw[if_pos (by rfl)];exact aA hq
end
def xsX:V->V->V->Hp->(Hp->Prop)->Prop:=λo i v H Q=>xqK o i v H Q\/Ex2 λa H'=>o= .ref a/\xeV H a i v H'/\Q H'
def xju(hu:X.A.units+1<cLine):xpD X xsX:=by
 intro pins s σ H o i v ov iv u Q I ro ri rv h;rcases h with h|⟨a,H',rfl,g,q⟩
 ·exact set_list pins s σ H o i v ov iv u Q I ro ri rv h
 ·cases (show ov=aG a from ro);exact xjh hu I g ri rv λs' I'=>⟨H',I',q⟩
abbrev xhh(A:bo):bo:={A with handled:=none}
abbrev SpE:=Addr->Value->Option Addr->Sp
structure xnt(P:aH)(w:World)(K:aq)(mg:Str->Option Value)(base:Heap)(k:Nat)(f:Addr)(fd:ax)(ps:List Str)(sp:SpE):Prop where
 len:∀a cls dx vs H Q E,sp a cls dx vs H Q E->vs.length=ps.length
 run:∀(A:bo) (outer:List Env) (s:ak) (H:Hp) (args:Args) (us:List Value) (vs:List V) (Q:VK) (E:XK) (a:Addr) (oe:Obj),ya k (xhh A)->xaL P w K mg base A outer s H->iV s fd args (ps.zip us)->Vals vs us->
  s.heap.get? a=some oe->H a=none->a∉frs outer->(∃vs,oe.data= .fields vs)->sp a oe.cls oe.dict vs H Q E->cP (model P w) A (.call (.ref f) args) (CR CX0 outer P w H s Q E) s
abbrev cxE(P:aH)(w:World)(K:aq)(mg:Str->Option Value)(base:Heap)(N:List Str)(qual:Str)(scope:Scope)(f:Addr)(cd:Value)(A:bo)(outer:List Env)(s:ak)(H:Hp)(E:XK)(qs:List (Addr×Obj)):Cx:=
 {uQ CX0 P w K mg base N qual scope f cd A outer s H E with calm:=false,pn:=qs,xe:=λ_ _=>False}
def xaL.calm{outer:List Env}(e:xaL P w K mg base A outer s H):xaL P w K mg base (xhh A) outer s H:=
 ⟨e.frames,e.mod,e.bs,e.bsz,e.funs,e.frf,e.hok,e.bare⟩
theorem Fun.okE{st:Stmt}{k:Nat}{sp:SpE}(F:Fun K x qual st f fd)(S:xu N ps (xh st))(len:∀a cls dx vs H Q E,sp a cls dx vs H Q E->vs.length=ps.length)
  (kS:∀(cdv:Value) (A:bo) (outer:List Env) (s:ak) (H:Hp) (vs:List V) (Q:VK) (E:XK) (qs:List (Addr×Obj)) (a:Addr) (cls:Value) (dx:Option Addr),(∃oe:Obj,(a,oe)∈qs/\oe.cls=cls/\oe.dict=dx/\∃vs,oe.data= .fields vs)->ya k ((xhh A).deeper (cV qual (xh st) s.heap.objs.size f cdv))->sp a cls dx vs H Q E->
   ∃t,PSs (cxE P w K mg base N qual (xh st) f cdv A outer s H E qs) (xr st) t/\t {nx:=λ_ H'=>Q .non H',rt:=Q} (start N vs) H):xnt P w K mg base (k+1) f fd ps sp:=by
 obtain⟨oc,od,kV,doc,pm,an,cdv,ct,osl,rfl,lk,kW⟩:=F.ex;refine⟨len,λA outer s H args us vs Q E a oe hr e0 hb r ha hn hf kR kT=>?_⟩;have hl:=len _ _ _ _ _ _ _ kT;have KX:K.In s.heap:=e0.mod.kin.keeps λb o e=>(e0.bs b o e).1;have lim:s.heap.NoLimit:=e0.mod.nolimit.keeps λb o e=>(e0.bs b o e).1;have kQ:∀y∈ps.zip us,(xh st).names.lookup y.1=some .local\/((xh st).names.lookup y.1=some .cell/\((gM (s.heap.objs.size+1) (xh st).names []).lookup y.1).isSome=true):=λ⟨n,v⟩ hy=>by
  rcases S.par n (dy hy).1 with q|q
  ·exact .inl q
  ·exact .inr ⟨q,eR _ _ _ (.inl q)⟩
 refine dz (show A.depth<iU from hr.depth) (KX _ _ lk) rfl S.co S.gen rfl (iq KX kW) (hb _ _ _ _ ?_);refine dC S.kind kQ λenv he s1 x=>?_;subst he;refine⟨lim.keeps x.toInCall.keep,ir ?_⟩;obtain⟨t,ht,hq⟩:=kS cdv A outer s H vs Q E [(a,oe)] a oe.cls oe.dict ⟨oe,aj.mpr rfl,rfl,rfl,kR⟩ (hr.deeper _) kT;have I0:Inv (uQ CX0 P w K mg base N qual (xh st) f cdv (xhh A) outer s H E) [] (start N vs) H s1:=xcQ S rfl (e0.calm) hl r x;have kP:=I0.ok;have I:Inv (cxE P w K mg base N qual (xh st) f cdv A outer s H E [(a,oe)]) [] (start N vs) H s1:=by
  refine⟨⟨kP.mod,kP.kind,kP.glob,kP.blt,kP.above,kP.inj,kP.has,kP.cab,(λz=>by cases z),kP.frames,kP.stk,kP.exf,kP.bs,kP.bsz,kP.noex,kP.exfs,kP.funs,kP.frf,kP.cab2,kP.hz⟩,I0.os,I0.bare,I0.base,I0.loc,I0.cell,I0.free,I0.freeC,λp hp=>?_,I0.hok,I0.len⟩;obtain rfl:p=(a,oe):=by simpa using hp
  refine⟨x.toInCall.keep _ _ ha,hn,?_,hf,λv z=>?_⟩
  ·exact aQ (aB ha)
  ·obtain⟨vs,e⟩:=kR;rw[show(a,oe).2.data=oe.data from rfl,e]at z;cases z
 refine aN (ht [] s1 (start N vs) H _ I hq) (λfl s' hs=>?_) λe s' hs=>hs.elim;have fin:∀{σ':St} {H':Hp} {v:V} {u:Value},Inv (cxE P w K mg base N qual (xh st) f cdv A outer s H E [(a,oe)]) [] σ' H' s'->RelV v u->Q v H'->CE outer P w H s Q u s':=
  λ{σ' H' v u} J rv q=>⟨v,H',J.os,J.bare,J.base,J.hok,rv,q⟩
 cases fl with
 |ret u=>
  obtain⟨v,σ',H',J,rv,q⟩:=hs;exact fin J rv q
 |next=>
  obtain⟨σ',H',J,q⟩:=hs;exact fin (v:=V.non) (u:=bp) J rfl q
 |brk=>
  obtain⟨_,_,_,q⟩:=hs;exact bc q
 |cont=>
  obtain⟨_,_,_,q⟩:=hs;exact bc q
section
variable {k:Nat} {sp:SpE} {t:TA}
theorem ya.calm{k:Nat}{m:Option Value}(r:ya k A):ya k (xhh (A.mark m)):=by
 cases m with
 |none=>exact⟨rfl,r.dp,r.un⟩
 |some v=>exact⟨rfl,r.dp,r.un⟩
end
def xry{outer:List Env}{E:XK}{e:Value}{s':ak}(h:CXN P w outer H s E e s'):CXE P w outer H s E e s':=by
 refine L2.oG λ_ Z=>?_;obtain⟨a,cls,dx,H',oe,vs,a0,T,oT,ts,r1,os,bare,un,hok,he,hc,hx,hd,h0,h1,_,nT,hT,kP,h3,n1,n2,n3,n4,q⟩:=h;apply Z;exact⟨a,cls,dx,H',oe,vs,a0,T,oT,ts,r1,os,bare,un,hok,he,hc,hx,hd,h0,h1,(λz=>nomatch z),nT,hT,kP,h3,n1,n2,n3,n4,q⟩
theorem xE.toX{k:Nat}{sp:Sp}(F:xE P w K mg base (CXN P w) k f fd ps sp):xE P w K mg base (CXE P w) k f fd ps sp:=
 ⟨F.len,λA outer s H args us vs Q E hr e0 hb r kP=>cE (F.run A outer s H args us vs Q E hr e0 hb r kP) λz s' hq=>by
  match z,hq with
  | .error e,hq=>exact xry hq
  | .ok (.ret u),hq=>exact hq
  | .ok .next,hq=>exact hq
  | .ok .brk,hq=>exact hq
  | .ok .cont,hq=>exact hq⟩
section
variable {fns:List Str} {params:cZ} {scope:Scope} {k:Nat}
def xe4{sp:List (Str×V)->Sp}(S:zh N ps fns scope)(len:∀fv vs H Q E,sp fv vs H Q E->vs.length=ps.length/\fv.map (·.1)=fns)
  (hb:∀(clos:List (Str×Addr)) (doc pm cdv kT:Value) (us:List Value),us.length=ps.length->
   dB {name:=nm,qualname:=qual,params,body:=.expr e,scope,globals:=br,closure:=clos,defaults:=.none,kwdefaults:=.none,doc,pyModule:=pm,annotations:=none,code:=cdv,closureTuple:=kT,builtins:=cQ} ⟨us,[]⟩=pure (ps.zip us))
  (kP:∀(A:bo) (outer:List Env) (s:ak) (H:Hp) (f:Addr) (clos:List (Str×Addr)) (cdv:Value) (fv:List (Str×V)) (vs:List V) (Q:VK) (E:XK),ya k (A.deeper (gN qual scope s.heap.objs.size f cdv clos))->sp fv vs H Q E->
   ∃te,PE ((xd0 (CXN P w) P w K mg base N qual scope f cdv clos A outer s H E).wish (XEN (xd0 (CXN P w) P w K mg base N qual scope f cdv clos A outer s H E) λ_=>E)) e te/\te (xdz N vs fv) H Q):yV P w K mg base (CXN P w) (k+1) nm qual params (.expr e) scope ps sp:=
 xjp S len hb λA outer s H f clos cdv fv vs Q E s1 hr kR I=>by
  refine L2.oG λ_ Z=>?_;obtain⟨te,ht,hq⟩:=kP A outer s H f clos cdv fv vs Q E hr kR;apply Z;refine W.kla_codeExpr (aN (ht [] s1 _ H Q (I.wish _) hq) (λv s' ⟨x,H',J,rv,q⟩=>?_) λe s' hx=>?_)
  ·exact⟨x,H',J.os,J.bare,J.base,J.hok,rv,q⟩
  ·refine L2.oG λ_ Z=>?_;obtain⟨a,cls,dx,σ,H',rfl,I,Fl,z⟩:=hx;apply Z;refine xbW (X:=xd0 (CXN P w) P w K mg base N qual scope f cdv clos A outer s H E) ⟨rfl,rfl,rfl⟩ I.ok.frames I Fl λs2 I2 F2=>?_;refine L2.oG λ_ Z=>?_;obtain⟨oe,vs,a0,T,oT,ts,he,hc,hx,hd,h0,h1,h2,nT,hT,kS,h3,hn,kQ⟩:=F2;apply Z;exact⟨a,cls,dx,H',oe,vs,a0,T,oT,ts,rfl,I2.os,I2.bare,I2.base,I2.hok,he,hc,hx,hd,h0,h1,h2,nT,hT,kS,h3,hn.1,hn.2.1,kQ.1,kQ.2.1,z⟩
end
def xsY(P:aH)(w:World)(K:aq)(mg:Str->Option Value)(base:Heap)(k:Nat)(H:Hp)(f:Addr)(vs:List V)(Q:VK)(E:XK):Prop:=
 ∃nm qual params body scope ps sp fv,yV P w K mg base (CXN P w) k nm qual params body scope ps sp/\yK H f nm qual params body scope fv/\sp fv vs H Q E
section
variable {k:Nat}
theorem xp3{params:cZ}{body:eS}{scope:Scope}{sp:List (Str×V)->Sp}{Q:VK}{us:List Value}{vs:List V}{fv:List (Str×V)}(o:Own X)(F:yV X.prog X.w X.K X.mg X.base (CXN X.prog X.w) k nm qual params body scope ps sp)(hr:ya k X.A)
  (I:Inv (X.wish (XEN X EE)) pins σ H s) (hc:yK H f nm qual params body scope fv) (r:Vals vs us) (h:sp fv vs H Q (EE σ)):wpAny (model X.prog X.w) X.A (call (.ref f) us) (EP (X.wish (XEN X EE)) pins σ Q) (XEN X EE) s:=by
 refine dH (cE (F.run X.A X.stack s H f fv us vs Q (EE σ) hr I.unwish.env0 hc r h) λz s' hq=>?_)
 match z,hq with
 | .error e,hq=>exact xhe o I hq
 | .ok (.ret u),hq=>exact I.after hq
 | .ok .next,hq=>exact hq.elim
 | .ok .brk,hq=>exact hq.elim
 | .ok .cont,hq=>exact hq.elim
def xp4(P:aH)(w:World)(K:aq)(mg:Str->Option Value)(base:Heap)(k:Nat)(i:Nat)(EE:EEs):TE:=λσ H Q=>∃f,σ[i]? =some (some (.ref f))/\xsY P w K mg base k H f [] Q (EE σ)
def xnu(i:Nat)(o:Own X)(hr:ya k X.A)(hP:X.prog=P)(hw:X.w=w)(hK:X.K=K)(kP:X.mg=mg)(kR:X.base=base)(hN:autoParam (X.N[i]? =some x) sV)(hv:Vis X.env.scope x:=by first|exact az rfl|exact cW (az rfl)|exact cW (cW rfl))(hd:autoParam ((x==("__debug__":Str))=false) sJ)
  (kQ:autoParam ((x==("__classdict__":Str))=false) sJ):PE (X.wish (XEN X EE)) (.Call (.Name x p) [] [] pos) (xp4 P w K mg base k i EE):=by
 subst hP hw hK kP kR;intro pins s σ H Q I h;obtain⟨f,e1,nm,qual,params,body,scope,ps,sp,fv,F,hc,q⟩:=h;refine bX (yg (xgP (X:=X.wish (XEN X EE)) (pos:=p) hN hv hd kQ pins s σ H (λv H1=>v= .ref f/\H1=H) I ⟨_,e1,rfl,rfl⟩) λu s1 v H1 I1 r ⟨q1,q2⟩=>?_);subst q1;subst q2;cases (show u=aG f from r);exact W.callWith_F0 (hc.fn I1) (xp3 o F hr I1 hc .nil q)
end
section
variable {env:Env}
variable {q:Str} {N:Addr} {bs bm:List Value} {hdct:Bool} {sn:List Str} {sub:List Value} {ab:Bool} {col:Option Bool} {dd:Option Addr} {k0 k1 k2 k3 k5:Option Value} {newId:String}
def xlQ{x c:Sem Value}{h:Addr}{Q:Flow->ak->Prop}(kP:bm.contains (.type "BaseException")=true)(hh:A.handled=some (.ref h))
  (hx:wpAny (model prog w) A x (λv s₁=>∃e t od sl,v= .ref e/\s₁.heap.get? C=some (fc nm q C N bs bm hdct sn sub ab col dd k0 k1 k2 k3 k5 newId)/\
   s₁.heap.get? e=some {cls:=.ref C,dict:=od,data:=.fields #[.ref t,.none,.none,.none,.bool false,.none],slots:=sl}/\C≠e/\h≠e/\(∃oh vh,s₁.heap.get? h=some oh/\oh.data= .fields vh/\vh[2]? =some .none)/\
   wpAny (model prog w) A c (λcv s₂=>cv= .none/\s₂=s₁) E s₁/\∀h',fB e s₁.heap h'->h'.get? e=some {cls:=.ref C,dict:=od,data:=.fields #[.ref t,.none,.ref h,.none,.bool true,.none],slots:=sl}->E (.ref e) {s₁ with heap:=h'}) E s):
  wpAny (model prog w) A (raiseStmt env (some x) (some c)) Q E s:=by
 have kR:(aG C::bm).contains (.type "BaseException")=true:=by rw[kD,kP,Bool.or_true]
 unfold raiseStmt;refine af (aN hx (λv s₁ h₁=>?_) λ_ _ z=>z);refine L2.oG λ_ Z=>?_;obtain⟨e,t,od,sl,rfl,hC,he,kS,kQ,⟨oh,vh,eh,dh,h2⟩,hc,hE⟩:=h₁;apply Z;refine af (bJ (aN hc (λcv s₂ z=>?_) λ_ _ z=>z));obtain⟨rfl,rfl⟩:=z;refine af (aA ?_);dsimp only;refine L2.oG λ_ Z=>?_;obtain⟨hp,g,d,tk,os⟩:=s₂;apply Z
 repeat (first|with_reducible refine cY he ?_|with_reducible refine cY hC ?_|(with_reducible refine gB hC ?_;rw[kR])|wp_step)
 have e1:(hp.update e (bU λx=>x.setIfInBounds 3 bp)).get? e=some {cls:=.ref C,dict:=od,data:=.fields #[.ref t,.none,.none,.none,.bool false,.none],slots:=sl}:=bu (bU λx=>x.setIfInBounds 3 bp) he rfl;have e2:((hp.update e (bU λx=>x.setIfInBounds 3 bp)).update e (bU λx=>x.setIfInBounds 4 (di true))).get? e=some {cls:=.ref C,dict:=od,data:=.fields #[.ref t,.none,.none,.none,.bool true,.none],slots:=sl}:=bu (bU λx=>x.setIfInBounds 4 (di true)) e1 rfl;have ot:∀b,b≠e->((hp.update e (bU λx=>x.setIfInBounds 3 bp)).update e (bU λx=>x.setIfInBounds 4 (di true))).get? b=hp.get? b:=λb nb=>(bg _ _ (au nb)).trans (bg _ _ (au nb));unfold raiseNew;refine af (wpAny_handled ?_);rw[hh];dsimp only;rw[if_pos (by simpa using kQ)];refine af (bJ (xkB ((ot h kQ).trans eh) dh h2 ?_));show wpAny _ _ (setField (.ref e) 2 (.ref h) >>= λ_=>throw (.ref e)) _ _ _;refine af (eK e2 rfl (show 2<6 by decide) (wpAny_throw (hE _ ?_ (bu (bU λx=>x.setIfInBounds 2 (aG h)) e2 rfl))));exact((dZ hp e _).trans (dZ _ e _)).trans (dZ _ e _)
end
def xp5{M:Model}{A':bo}{Q:Unit->ak->Prop}(I:Inv X pins σ H s)(hN:X.N.Nodup)(hi:X.N[i]? =some n)(hk:X.env.kindOf n=some .local)
  (h:∀s',Inv X pins (σ.set i none) H s'->(∀b,b≠X.env.locals->s'.heap.get? b=s.heap.get? b)->Q () s'):wpAny M A' (do bindName X.env n .none;gx X.env n pos) Q E s:=by
 obtain⟨m,hn,hl⟩:=id I.loc;refine wpAny_nameGoes_keeps hk hn (by rw[I.ok.kind];rfl) λh' v kT hs=>h _ ?_ (λb nb=>hs.2 b nb);have kQ:∀b u,X.s₀.heap.get? b=some u->b≠X.env.locals:=λb u e=>aQ (aJ (aB e) I.ok.above);obtain⟨oL,_,_,kX,_⟩:=id hn;refine⟨I.ok,I.os,I.bare,⟨λb o e n hb hx=>?_,λb o e n hb hx=>?_,I.base.free,λb o e hx=>?_,I.base.fix⟩,⟨_,kT,λj y v' e1 e2 e3=>?_⟩,λy c e=>?_,I.free,λy c e=>?_,λp hp=>?_,λb u e=>?_,by simpa using I.len⟩
 ·exact(hs.2 b (kQ b o e)).trans (I.base.keep b o e n hb hx)
 ·obtain⟨sl,e1⟩:=I.base.slot b o e n hb hx;exact⟨sl,(hs.2 b (kQ b o e)).trans e1⟩
 ·obtain⟨o',e1⟩:=I.base.there b o e hx;exact⟨o',(hs.2 b (kQ b o e)).trans e1⟩
 ·have hj:j≠i:=λz=>by
   rw[z]at e2
   by_cases kP:i<σ.length
   ·rw[b9 kP]at e2;cases e2
   ·rw[bw (by simpa using kP)]at e2;cases e2
  rw[bK (au hj)]at e2;obtain⟨u',r',q⟩:=hl j y v' e1 e2 e3;refine⟨u',r',q.imp (λ⟨k,e⟩=>⟨k,?_⟩) λ⟨k,c,e,z⟩=>⟨k,c,e,z.sameBut hs (I.cne y c e)⟩⟩;have:y≠n:=λe=>hj (xaI hN e1 (e▸hi));simp[this,e]
 ·obtain⟨w',z⟩:=I.cell y c e;exact⟨w',z.sameBut hs (I.cne y c e)⟩
 ·refine(I.freeC y c e).imp id λ⟨kW,o',kR,kS⟩=>⟨kW,o',kR,λz j v' e1 k e2=>?_⟩;have hj:j≠i:=λz=>by
   rw[z]at e2
   by_cases kP:i<σ.length
   ·rw[b9 kP]at e2;cases e2
   ·rw[bw (by simpa using kP)]at e2;cases e2
  rw[bK (au hj)]at e2;exact kS z j v' e1 k e2
 ·obtain⟨e,n,ne,nf,d⟩:=I.pin p hp;exact⟨(hs.2 p.1 ne).trans e,n,ne,nf,d⟩
 ·refine(I.hok b u e).stay (λc w' hc q=>(hs.2 c ?_).trans q) (λ_ q=>q) λ_ _ q _=>q;rintro rfl;rcases hc with rfl|hc
  ·rw[I.free]at e;cases e
  ·rw[I.free]at hc;cases hc
def xkC(K:aq)(C' C2:Addr)(i:Nat)(fl:Str)(EE:EEs)(t1:Addr->Value->Option Addr->TS)(ta:Addr->Value->Option Addr->TA):EEs:=λσ cls dx H=>∃C,cls= .ref C/\aM K (.ref C) (.ref C')=some true/\∀a,H a=none->
 t1 a cls dx {nx:=λσ2 H2=>ta a cls dx σ2 H2 λvs H3=>∃v,vs=[v]/\∀d,H3 d=none->EE (σ2.set i none) (.ref C2) (some d) (upd H3 d (.xd [(fl,v)])),rt:=λ_ _=>False} (σ.set i (some (.ref a))) H
def xnv(K:aq)(C' C2:Addr)(i:Nat)(fl:Str)(EE:EEs)(tb:EEs->TS)(t1:Addr->Value->Option Addr->TS)(ta:Addr->Value->Option Addr->TA):TS:=λD σ H=>tb (xkC K C' C2 i fl EE t1 ta) D σ H
theorem xkD{C' C2 g:Addr}{qs:List Str}{fl y:Str}{k:Nat}{np hp lH cpos kZ p2:Pos}{n2:Nat}{body:List Stmt}{ly:Stmt}{tb:EEs->TS}{t1:Addr->Value->Option Addr->TS}{ta:Addr->Value->Option Addr->TA}
  (o:Own X) (hb:xbr X.K C') (hg:Gl X y) (hm:X.mg y=some (.ref C')) (q2:xc9 X.K C2 g) (F:xnt X.prog X.w X.K X.mg X.base k g fd qs (λ_ _ _=>xcd C2 fl)) (hr:ya (k+1) X.A) (l9:Binds X.K fd qs []) (lW:Gl X x) (lR:X.mg x=some (.ref C2))
  (hN:X.N.Nodup) (hi:X.N[i]? =some n) (hk:X.env.kindOf n=some .local)
  (kT:∀(EE:EEs) (ps:List (Addr×Obj)),PSs ((X.pnd ps).wish (XEN (X.pnd ps) EE)) body (tb EE))
  (lM:∀(ps:List (Addr×Obj)) (a:Addr) (cls:Value) (dx:Option Addr),(∃oe:Obj,(a,oe)∈ps/\oe.cls=cls/\oe.dict=dx/\∃vs,oe.data= .fields vs)->PS (X.held a ps) ly (t1 a cls dx))
  (ha:∀(ps:List (Addr×Obj)) (a:Addr) (cls:Value) (dx:Option Addr),(∃oe:Obj,(a,oe)∈ps/\oe.cls=cls/\oe.dict=dx/\∃vs,oe.data= .fields vs)->PA (X.held a ps) [e] (ta a cls dx))
  (lZ:autoParam ((y==("__debug__":Str))=false) sJ) (lq:autoParam ((x==("__debug__":Str))=false) sJ) (lA:autoParam (aE [e] X.env=(false,eval e X.env)::aE [] X.env) sV) (lN:autoParam ((bR cpos (aE [e] X.env)).any (·.1)=false) sV):
  PS (X.wish (XE X EE)) (.Try body [.ExceptHandler (some (.Name y np)) (some n) [ly,.Raise (some (.Call (.Name x lH) [e] [] cpos)) (some (.Constant .none n2 p2)) kZ] hp] [] [] pos) (xnv X.K C' C2 i fl EE tb t1 ta):=by
 intro pins s σ H D I h;have ok:=I.unwish.ok;refine fZ (aN (kT (xkC X.K C' C2 i fl EE t1 ta) pins [] s σ H D (I.unwish.pnd.wish _) h) (λf s1 hq=>?_) λe9 s1 hx=>?_)
 ·have kX:SP X pins D f s1:=(SP.unwish hq).unpnd ok;have kQ:SP (X.wish (XE X EE)) pins D f s1:=by
   cases f with
   |next=>obtain⟨σ',H',I,q⟩:=kX;exact⟨σ',H',I.wish _,q⟩
   |brk=>obtain⟨σ',H',I,q⟩:=kX;exact⟨σ',H',I.wish _,q⟩
   |cont=>obtain⟨σ',H',I,q⟩:=kX;exact⟨σ',H',I.wish _,q⟩
   |ret u=>obtain⟨v,σ',H',I,r,q⟩:=kX;exact⟨v,σ',H',I.wish _,r,q⟩
  cases f with
  |next=>exact dw kQ
  |brk=>exact kQ
  |cont=>exact kQ
  |ret u=>exact kQ
 ·refine L2.oG λ_ Z=>?_;obtain⟨a,cls,dx,σ1,H1,rfl,I1,F1,C,rfl,lU,q⟩:=hx;apply Z;refine xaU (X:=X.pnd pins) o.pnd ok.frames I1 F1 λs2 I2 F2=>?_;refine zv (X:=X.pnd pins) (to:=none) o.pnd I2 F2 λs3 I3 F3=>?_;refine dY (dA ?_) (by intro z;cases z);refine L2.oG λ_ Z=>?_;obtain⟨oe,vs,a0,T,oT,mq,he,hc,hx,hd,h0,h1,h2,nT,hT,lr,h3,hn,lB⟩:=id F3;apply Z;have J3:=Inv.held I3 ok he hn.1 hd;refine zR J3 hg hm ?_ lZ;refine xaf (K:=X.K) I3.kIn he hc lU hb ?_;refine fw ?_;refine zv (X:=X.pnd pins) (to:=none) o.pnd I3 F3 λs4 I4 F4=>?_;refine L2.oG λ_ Z=>?_;obtain⟨kP,lE,mI,T',mz,lF,lY,l8,lK,kY,mG,mF,me,mB,mD,l7,mE,lC,lQ⟩:=id F4;apply Z;have J4:=Inv.held I4 ok lY lC.1 kY;refine xaJ (X:=X.held a (pins++[(a,kP)])) (v:=.ref a) J4 hN hi (.inl hk) rfl (λs5 J5=>?_) (.inr hk);have hex:∃kW:Obj,(a,kW)∈pins++[(a,kP)]/\kW.cls= .ref C/\kW.dict=dx/\∃vs,kW.data= .fields vs:=⟨kP,by simp,l8,lK,_,kY⟩;have key:∀e s',XE X EE e s'->notedBy (model X.prog X.w) (X.A.mark (some (.ref a))) X.env (λx s2=>fN (model X.prog X.w) X.A X.env (XE X EE) x s2) e s':=by
   rintro e s' ⟨a9,cls,dx,σ,H,rfl,I,F,q⟩;refine xaU o I.ok.frames I F λs1 I1 F1=>?_;unfold fN;refine L2.oG λ_ Z=>?_;obtain⟨oe,vs,a0,T,oT,ts,he,hc,hx,hd,h0,h1,_⟩:=id F1;apply Z;refine af (cw he hd h1 ?_);rw[if_neg (by simp)];refine zv (to:=X.env.frame) o I1 F1 λs2 I2 F2=>⟨a9,cls,dx,σ,H,rfl,I2,.inr (.inr ?_),q⟩;rw[o.fr]at F2;exact F2
  have out:∀e s',XE X (λσ=>EE (σ.set i none)) e s'->wpAny (model X.prog X.w) (X.A.mark (some (.ref a))) (noteFrame e X.env) (λ_ kS=>wpAny (model X.prog X.w) (X.A.mark (some (.ref a))) (do bindName X.env n .none;gx X.env n hp)
    (λ_ s₄=>wpAny (model X.prog X.w) (X.A.mark (some (.ref a))) (PySem.passOn "try.except-as" e X.env:Sem Flow) (λ_ _=>False) (notedBy (model X.prog X.w) (X.A.mark (some (.ref a))) X.env (λx s2=>fN (model X.prog X.w) X.A X.env (XE X EE) x s2)) s₄)
    (λy s₄=>wpAny (model X.prog X.w) (X.A.mark (some (.ref a))) (setFlight e none) (λ_ s₅=>(notedBy (model X.prog X.w) (X.A.mark (some (.ref a))) X.env (λx s2=>fN (model X.prog X.w) X.A X.env (XE X EE) x s2)) y s₅) (notedBy (model X.prog X.w) (X.A.mark (some (.ref a))) X.env (λx s2=>fN (model X.prog X.w) X.A X.env (XE X EE) x s2)) s₄) kS) (notedBy (model X.prog X.w) (X.A.mark (some (.ref a))) X.env (λx s2=>fN (model X.prog X.w) X.A X.env (XE X EE) x s2)) s':=by
   rintro e s' ⟨a9,cls,dx,σ,H,rfl,I,F,q⟩;refine xaU o I.ok.frames I F λs1 I1 F1=>?_;refine xp5 I1 hN hi hk λs2 I2 lh=>?_;refine L2.oG λ_ Z=>?_;obtain⟨oe,vs,a0,T,oT,ts,he,hc,hx,hd,h0,h1,h2,nT,hT,lr,h3,hn,lB⟩:=id F1;apply Z;have lp:∀b ob vb,s1.heap.get? b=some ob->ob.data= .fields vb->b≠X.env.locals:=λb ob vb e1 e2 z=>by
    refine L2.oG λ_ Z=>?_;obtain⟨m,⟨u,es,ep,e,d⟩,_⟩:=I1.loc;apply Z;rw[z,e]at e1;cases e1;rw[d.1]at e2;cases e2
   have F2:xnk X (bN X.env.locals) H s2.heap a9 cls dx:=⟨oe,vs,a0,T,oT,ts,(lh _ (lp _ _ _ he hd)).trans he,hc,hx,hd,h0,h1,h2,nT,(lh _ (lp _ _ _ hT lr)).trans hT,lr,h3,hn,lB⟩;unfold PySem.passOn;refine af (cw ((lh _ (lp _ _ _ he hd)).trans he) hd h1 ?_);rw[if_neg (by simp)];refine af (zv (to:=X.env.frame) o I2 F2 λs3 I3 F3=>wpAny_throw (key _ _ ⟨a9,cls,dx,_,H,rfl,I3,.inr (.inr ?_),q⟩));rw[o.fr]at F3;exact F3
  refine aN (Q:=λ_ _=>False) (E:=XE X (λσ=>EE (σ.set i none))) ?_ (λ_ _ z=>z.elim) out;refine fW ?_;refine aN (lM (pins++[(a,kP)]) a (.ref C) dx hex [] s5 _ H1 _ J5 (q a lC.1)) (λf s6 hq=>?_) λ_ _ z=>z.elim;cases f with
  |brk=>obtain⟨_,_,_,z⟩:=hq;exact z.elim
  |cont=>obtain⟨_,_,_,z⟩:=hq;exact z.elim
  |ret u=>obtain⟨_,_,_,_,_,z⟩:=hq;exact z.elim
  |next=>
  refine L2.oG λ_ Z=>?_;obtain⟨σ2,H2,J6,q6⟩:=hq;apply Z;refine fW ?_;refine aN (Q:=λ_ _=>False) ?_ (λ_ _ z=>z.elim) λ_ _ z=>z;refine L2.oG λ_ Z=>?_;obtain⟨bm,N,nm,qn,bs,hdct,sn,sub,ab,col,dd,k0,k1,k2,k3,k5,hC,md,lP,TL⟩:=xij q2.xi ok.mod.kin;apply Z;rw[arm_exec_Raise];refine af (ck ?_);refine xlQ (C:=C2) (h:=a) (nm:=nm) (q:=qn) (N:=N) (bs:=bs) (bm:=bm) (hdct:=hdct) (sn:=sn) (sub:=sub) (ab:=ab) (col:=col) (dd:=dd) (k0:=k0) (k1:=k1) (k2:=k2) (k3:=k3) (k5:=k5) (newId:="ValueError.__new__") (TL.hasType PySem.F.excBase_ValueError.hasBase) rfl ?_;refine af (aN (gZ (zR J6 lW lR ?_ lq)) (λv s₃ h₃=>af (ck (aA h₃))) λ_ _ z=>z);have kR:=ha (pins++[(a,kP)]) a (.ref C) dx hex cpos [] s6 σ2 H2 _ J6 q6;rw[show aE [e] (X.held a (pins++[(a,kP)])).env=(false,eval e X.env)::aE [] X.env from lA]at kR;have hA:wpAny (model X.prog X.w) (X.A.mark (some (.ref a))) (j9 (.ref C2) true (bR cpos (aE [e] X.env)) []) (λar s6=>ar.kw=[]/\AP (X.held a (pins++[(a,kP)])) [] σ2 (λvs H3=>∃v,vs=[v]/\∀d,H3 d=none->EE (σ2.set i none) (.ref C2) (some d) (upd H3 d (.xd [(fl,v)]))) ar.pos s6) (XE X (λσ=>EE (σ.set i none))) s6:=by
   rw[lA];refine PySem.evalArgs_kw (keywords:=[]) rfl ?_;refine aN kR (λus s5 h5=>?_) λ_ _ z=>z.elim;exact aA ⟨rfl,h5⟩
  unfold fD;refine af (bJ (aN hA (λar s6 h6=>af (ck ?_)) λ_ _ z=>z));obtain⟨us,kw⟩:=ar;refine L2.oG λ_ Z=>?_;obtain⟨lT,mn,H5,I5,r5,v,lL,y⟩:=h6;apply Z;obtain rfl:kw=[]:=lT;subst lL;have hl:us.length=1:=r5.length.symm;have e5:=(I5.pin (a,kP) (ba _ (aI _ (aI _ (aj.mpr rfl)))));refine L2.oG λ_ Z=>?_;obtain⟨mC,g6,d6,lG,my⟩:=s6;apply Z;simp only[lN];refine af (wpAny_keeperOf_exc (I5.bk _ _ hC) ?_);have lX:W.typeIn X.K (.ref g)=some (.type "function"):=beq_iff_eq.mp q2.fn;refine L2.oG λ_ Z=>?_;obtain⟨og,lO,lV⟩:=aO.mp (show(X.K.lookup g).map (·.cls)=_ from lX);apply Z;refine af (xky PySem.F.excBase_ValueError (TL.keeps I5.bk) (I5.bk _ _ hC) (md.keeps I5.bk) lP (I5.kIn _ _ lO) lV (λh' b mk hsz=>?_) (by show us.length<=aU;rw[hl];decide));refine L2.oG λ_ Z=>?_;obtain⟨t0,ea,_,_⟩:=mk.there;apply Z;have mj:Inv X pins σ2 H5 _:=I5.unheld ok;have nu:=xnn o mj mk.new;have I6:=I5.laid (a:=b) (o:=HO.exc b C2 none) (t':=lG) mk.keeps hsz ⟨⟨_,t0,ea,rfl,rfl,rfl⟩,⟨_,ea⟩,λh1 h2=>xe3⟩;have e6:=(I6.pin (a,kP) (ba _ (aI _ (aI _ (aj.mpr rfl)))));have lS:(aG b::us++[]).length=qs.length:=by
   have:=F.len b (.ref C2) none [.ref b,v] (upd H5 b (HO.exc b C2 none)) (λ_ _=>True) E0 ⟨b,v,rfl,xp,λ_ _ _=>trivial⟩;rw[<-this];simp[hl]
  have lg:a∉frs X.stack:=λz=>by
   rcases o.mem.mp z with z|z
   ·exact e6.2.2.1 z
   ·exact e6.2.2.2.1 z
  refine dH (cE (F.run _ X.stack _ _ ⟨aG b::us,[]⟩ (aG b::us) [.ref b,v] (λvv H3=>vv= .non/\∃d,H5 d=none/\d≠b/\H3=upd (upd (upd H5 b (HO.exc b C2 none)) d (.xd [(fl,v)])) b (HO.exc b C2 (some d))) E0 a kP ((ya.calm hr).make C2 us [])
   (I6.env0.make C2 us []) (by have:=l9 _ (aG b::us) I6.kIn lS;rwa [cC]at this) (.cons rfl r5) e6.1 e6.2.1 lg ⟨_,kY⟩ ⟨b,v,rfl,xp,λd n1 n2=>⟨rfl,d,by rwa [xm n2]at n1,n2,rfl⟩⟩) λrr s' kQ=>?_)
  cases rr with
  |error e=>exact bc kQ
  |ok mf=>
   cases mf with
   |next=>exact bc kQ
   |brk=>exact bc kQ
   |cont=>exact bc kQ
   |ret u=>
    refine L2.oG λ_ Z=>?_;obtain⟨vv,H',I7,rv,rfl,d,n1,n2,rfl⟩:=I6.after kQ;apply Z;obtain rfl:u=bp:=rv;refine L2.oG λ_ Z=>?_;obtain⟨⟨la,t2,mi,oc,od,lb⟩,_⟩:=I7.hok b _ xp;apply Z;have ll:rem (upd (upd (upd H5 b (HO.exc b C2 none)) d (.xd [(fl,v)])) b (HO.exc b C2 (some d))) b=upd H5 d (.xd [(fl,v)]):=by
     funext b'
     unfold rem
     by_cases hb:b'=b
     ·rw[if_pos hb,hb,xm (au n2)];exact nu.1.symm
     ·rw[if_neg hb,xm hb]
      by_cases hd:b'=d
      ·rw[hd,xp,xp]
      ·rw[xm hd,xm hd,xm hb]
    have e7:=(I7.pin (a,kP) (ba _ (aI _ (aI _ (aj.mpr rfl))))).1;have I8:=I7.forget (a:=b) xp;rw[ll]at I8;have IX:Inv X pins σ2 (upd H5 d (.xd [(fl,v)])) s':=I8.unheld ok;have lz:Nu X (upd H5 d (.xd [(fl,v)])) b:=⟨by rw[xm (au n2)];exact nu.1,nu.2⟩;have lI:C2≠b:=λz=>by
     have:=mk.new;rw[<-z]at this;rw[I5.bk _ _ hC]at this;cases this
    have lJ:a≠b:=λz=>by
     have:=mk.new;rw[<-z,e5.1]at this;cases this
    have lD:s'.heap.get? b=some {cls:=.ref C2,dict:=some d,data:=.fields #[.ref t2,.none,.none,.none,.bool false,.none],slots:=la.slots}:=by
     refine L2.oG λ_ Z=>?_;obtain⟨c1,d1,mH,mw⟩:=la;apply Z;cases oc;cases od;cases lb;exact mi
    refine⟨rfl,?_⟩;refine af (bJ (wpAny_point (aA ?_)));refine⟨b,t2,some d,la.slots,rfl,I7.bk _ _ hC,lD,lI,lJ,⟨kP,lE,e7,kY,me rfl⟩,af (gS (af (ck (aA ⟨rfl,rfl⟩)))),λh9 sb mh=>?_⟩;have I9:Inv X [] σ2 (upd H5 d (.xd [(fl,v)])) {s' with heap:=h9}:=IX.nopins.flown o (λc=>c=b) (λc u n _ z=>(sb.2 c n).trans z) (λc u n _ z=>⟨u.slots,(sb.2 c n).trans z⟩) (λc z=>by
     subst z;refine⟨lz,λu z=>?_⟩;rw[lD]at z;cases z;exact⟨_,rfl⟩)
    exact⟨b,.ref C2,some d,σ2,_,rfl,I9,.inl ⟨_,_,.ref t2,mh,rfl,rfl,rfl,rfl,rfl,(λz=>nomatch z),lz⟩,y d n1⟩
def xlR{C':Addr}{y:Str}{np hp:Pos}{suite:List Stmt}{b₀:Stmt}{rest:List fV}{ts:Addr->Value->TS}{D:Ends}{a:Addr}{dx:Option Addr}{fl:Value}
  (o:Own X) (hb:xbr X.K C') (hg:Gl X y) (hm:X.mg y=some (.ref C')) (kP:∀(ps:List (Addr×Obj)) (a:Addr) (cls:Value),PSs (X.held a ps) (b₀::suite) (ts a cls))
  (kY:(y==("__debug__":Str))=false) (ok:X.Ok) (I3:Inv (X.pnd pins) [] σ H s) (F3:xnk (X.pnd pins) fl H s.heap a (.ref C) dx) (kW:aM X.K (.ref C) (.ref C')=some true) (q:ts a (.ref C) D σ H):
  wpAny (model X.prog X.w) X.A (handleBy (.ref a) X.env (.ExceptHandler (some (.Name y np)) none (b₀::suite) hp::rest)) (SP X pins D) X.xe s:=by
 refine dY (dA ?_) (by intro z;cases z);refine L2.oG λ_ Z=>?_;obtain⟨oe,vs,a0,T,oT,lg,he,hc,hx,hd,h0,h1,h2,nT,hT,lr,h3,hn,lq⟩:=id F3;apply Z;have J3:=Inv.held I3 ok he hn.1 hd;refine zR J3 hg hm ?_ kY;refine xaf (K:=X.K) I3.kIn he hc kW hb ?_;refine codeAny_handlers_suite ?_;refine zv (X:=X.pnd pins) (to:=none) o.pnd I3 F3 λs4 I4 F4=>?_;refine L2.oG λ_ Z=>?_;obtain⟨kR,lb,lE,T',lh,kQ,kX,ly,lp,la,lD,lC,lB,ll,lz,kZ,lA,kT,kS⟩:=id F4;apply Z;have J4:=Inv.held I4 ok kX kT.1 la;refine aN (kP (pins++[(a,kR)]) a (.ref C) [] s4 σ H D J4 q) (λf s5 hq=>?_) λ_ _ z=>z.elim;exact hq.unheld ok
def xmw(K:aq)(C1 C2:Addr)(i:Nat)(kQ:Addr->Value->Option Addr->TS)(kP:Addr->Value->TS)(D:Ends):EEs:=λσ cls dx H=>∃C,cls= .ref C/\((aM K (.ref C) (.ref C1)=some true/\∀a,H a=none->kQ a cls dx (D.gone i) (σ.set i (some (.ref a))) H)\/
 (aM K (.ref C) (.ref C1)=some false/\aM K (.ref C) (.ref C2)=some true/\∀a,H a=none->kP a cls D σ H))
def xsZ(K:aq)(C1 C2:Addr)(i:Nat)(tb:EEs->TS)(kQ:Addr->Value->Option Addr->TS)(kP:Addr->Value->TS):TS:=λD σ H=>tb (xmw K C1 C2 i kQ kP D) D σ H
theorem xnw{C1 C2:Addr}{y1 y2:Str}{lp ll lr lq:Pos}{body kQ kP:List Stmt}{b1 b2:Stmt}{tb:EEs->TS}{kZ:Addr->Value->Option Addr->TS}{kY:Addr->Value->TS}(o:Own X)(lh:xbr X.K C1)(lg:Gl X y1)(lb:X.mg y1=some (.ref C1))(lA:xbr X.K C2)(lz:Gl X y2)(ly:X.mg y2=some (.ref C2))(hN:X.N.Nodup)(hi:X.N[i]? =some n)(hk:X.env.kindOf n=some .local)
  (kW:∀(EE:EEs) (ps:List (Addr×Obj)),PSs ((X.pnd ps).wish (XE (X.pnd ps) EE)) body (tb EE))
  (kS:∀(ps:List (Addr×Obj)) (a:Addr) (cls:Value) (dx:Option Addr),(∃oe:Obj,(a,oe)∈ps/\oe.cls=cls/\oe.dict=dx/\∃vs,oe.data= .fields vs)->PSs (X.held a ps) (b1::kQ) (kZ a cls dx))
  (kR:∀(ps:List (Addr×Obj)) (a:Addr) (cls:Value),PSs (X.held a ps) (b2::kP) (kY a cls))
  (kT:autoParam ((y1==("__debug__":Str))=false) sJ) (la:autoParam ((y2==("__debug__":Str))=false) sJ):
  PS X (.Try body [.ExceptHandler (some (.Name y1 lp)) (some n) (b1::kQ) lr,.ExceptHandler (some (.Name y2 ll)) none (b2::kP) lq] [] [] pos) (xsZ X.K C1 C2 i tb kZ kY):=by
 intro pins s σ H D I h;have ok:=I.ok;refine fZ (aN (kW (xmw X.K C1 C2 i kZ kY D) pins [] s σ H D (I.pnd.wish _) h) (λf s1 hq=>?_) λe s1 hx=>?_)
 ·have kX:SP X pins D f s1:=(SP.unwish hq).unpnd ok;cases f with
  |next=>exact dw kX
  |brk=>exact kX
  |cont=>exact kX
  |ret u=>exact kX
 ·refine L2.oG λ_ Z=>?_;obtain⟨a,cls,dx,σ1,H1,rfl,I1,F1,C,rfl,q⟩:=hx;apply Z;refine xaU (X:=X.pnd pins) o.pnd ok.frames I1 F1 λs2 I2 F2=>?_;refine zv (X:=X.pnd pins) (to:=none) o.pnd I2 F2 λs3 I3 F3=>?_;have hn:H1 a=none:=by
   refine L2.oG λ_ Z=>?_;obtain⟨oe,vs,a0,T,oT,lB,he,hc,hx,hd,h0,h1,h2,nT,hT,lD,h3,hn,lC⟩:=id F3;apply Z;exact hn.1
  rcases q with⟨k1,q⟩|⟨k1,k2,q⟩
  ·exact xnr o lh lg lb hN hi hk kS kT ok I3 F3 k1 (q a hn)
  ·exact xlM lh lg lb kT ok I3 F3 k1 (xlR o lA lz ly kR la ok I3 F3 k2 (q a hn))
open PySem PySem.Spec PyProof PyProof.Rows
def xoL:OpR X (bF .IsNot) (λx y H Q=>∃a b,x= .bl a/\y= .bl b/\Q (.bl (!(a==b))) H):=by
 intro pins s σ H x y v u Q I rx ry q;obtain⟨a,b,rfl,rfl,q⟩:=q;cases rx;cases ry;refine wpAny_isNot_plain (by cases a<;> cases b<;> rfl) ?_;exact⟨.bl _,H,I,by cases a<;> cases b<;> rfl,q⟩
def xoM:OpR X (bF .IsNot) (kB0 λi j=>.bl (!(i==j))):=xoL.imp λx y H Q q=>by
 cases x<;> cases y<;> first|exact⟨_,_,rfl,rfl,q⟩|exact q.elim
end Internal.L2
namespace Internal.L2
def xtJ{K:aq}{a:PySem.Addr}:xkA K a 0=Ite K a:=by unfold xkA Ite;simp only[iG]
section
open PySem PySem.Spec PyProof.Rows
def xnx{P:aH}{w:World}{K:aq}{es:List Expr}{k:Nat}{pos:Pos}(a e it:Addr)(kP:e≠it):Turn P w K (.Tuple es k pos) (Ite K a) [e,it] e (λi h=>(∃old,iE h e it (i:Nat) old)/\h.IsListIter it a i):=by
 have:=xhg (P:=P) (w:=w) (K:=K) (es:=es) (k:=k) (pos:=pos) a e it 0 kP;rw[xtJ]at this;simpa only[iG]using this
variable {X:Cx} {es:List Expr} {k:Nat} {tp:Pos}
def xkE{l:Expr}{ta:TA}{p pos:Pos}(hg:Gl X "enumerate")(hm:X.mg "enumerate"=none)(ha:PA X [l] ta)(hs:autoParam (aE [l] X.env=[(false,eval l X.env)]) sV):PI X (.Tuple es k tp) (.Call (.Name "enumerate" p) [l] [] pos) (xtE X.K ta):=by
 intro pins s σ H R I h;refine Call_ (vK I hg hm xcc (bW (uJ (ha pos pins s σ H _ I h) λus s1 vs H1 I1 r1 q1=>?_) hs rfl));obtain⟨a,e,⟨xs,hq⟩,q⟩:=q1;subst e;obtain⟨u,rfl,ru⟩:=Vals.one r1;cases ru;obtain⟨its,rv,pl,hz⟩:=I1.list hq;refine call_enumerate_list pl.isList λh' he hi hsz hk=>eD (s:={s1 with heap:=h'}) he ?_;refine⟨s1.heap.objs.size+1,[s1.heap.objs.size+1,s1.heap.objs.size],_,_,H1,rfl,I1.kept (t':=s1.toks) hk,xnx a _ _ (iF _),⟨⟨.none,by simpa using he⟩,hi⟩,λb hb=>?_,q⟩;rcases av.mp hb with z|z
 ·rw[z];exact I1.fpOk (dN _) (I1.hok.fresh (dN _))
 ·rw[aj.mp z];exact I1.fpOk (ay _) (I1.hok.fresh (ay _))
end
@[elab_as_elim] theorem gnr{α:Type}{p:α->Prop}(x:α)(h:∀y,x=y->p y):p x:=h x rfl
@[elab_as_elim] theorem xw{p:Hp->Prop}{H:Hp}{a:PySem.Addr}{o:HO}(G:Hp)(e:upd H a o=G)(hn:H a=none)(h:∀H',xj H H'->H' a=some o->p H'):p G:=h G (xj.of_eq hn e) (xU e)
structure RD where
 t:TS
 X:Cx
 b:List PySem.Stmt
 h:PSs X b t
end Internal.L2
namespace Internal.K72
open PySem PySem.Spec PyProof.Rows L2
def _root_.Internal.L2.ya.m{j k:Nat}{A:bo}(h:ya k A)(e:autoParam (j<=k) sJ):ya j A:=h.mono e
variable {H H' H1 G H0:Hp} {K:aq} {a:Adr} {F:FM} {s:BdS} {rs:List xq} {w:World} {mg:Str->Option Value} {P:aH} {base:Heap} {r:xq} {n old x o c size v lo tries:Int} {B:BA} {y:Wr} {b:Bool} {p f t g fa u l ar co:Addr} {es C0 cells C cs D:List Int} {i m j d fl e:Nat} {α:Type} {q R:Hp->Prop} {E:XK} {S L:List Addr} {ys:List Wr} {X:List (xq×List Int)} {st:Stmt} {fd:ax} {p1 p2 p3 p4 p5:Str} {Q:VK} {xs:List V} {notes ns:List (Option Int)} {σ:L2.St} {Cs:Nat->List Int} {tf:Int->V} {Pg Pf:List Int->Prop} {Pm:Nat->List Int->Prop}
noncomputable def top(i:Nat):Stmt:=PySem.Challenge.pw_oneroom_k72_updates_gone_on_with.main.body.getD i (.Pass ⟨0,0,0,0⟩)
abbrev xbs:Stmt:=inClass (top 4) 0
abbrev xbt:Stmt:=inClass (top 9) 0
abbrev xd3:Stmt:=inClass (top 13) 0
abbrev xce:Stmt:=inClass (top 13) 1
abbrev xbu:Stmt:=inClass (top 13) 2
abbrev xda:Stmt:=inClass (top 14) 0
abbrev xcf:Stmt:=inClass (top 14) 1
abbrev xcg:Stmt:=inClass (top 14) 2
abbrev xbv:Stmt:=inClass (top 14) 3
abbrev xbw:Stmt:=inClass (top 14) 4
abbrev jo:Stmt:=inClass (top 14) 5
abbrev xag:Stmt:=inClass (top 14) 6
abbrev xf5:Stmt:=inClass (top 14) 8
abbrev xd4:Stmt:=inClass (top 15) 0
abbrev xdb:Stmt:=inClass (top 15) 1
abbrev xch:Stmt:=inClass (top 15) 2
abbrev xci:Stmt:=inClass (top 15) 3
abbrev xaW:Stmt:=inClass (top 15) 4
abbrev xhi:Stmt:=inClass (top 15) 6
abbrev xgr:Stmt:=top 16
abbrev xcj:Stmt:=top 17
abbrev xdc:Stmt:=top 18
abbrev xdd:Stmt:=top 19
abbrev xe5:Stmt:=top 20
abbrev xah:Stmt:=top 21
abbrev xd5:Stmt:=top 22
abbrev xde:Stmt:=top 24
abbrev xin:Stmt:=top 25
abbrev jL:Stmt:=top 26
abbrev xai:Stmt:=top 27
abbrev xaj:Stmt:=top 28
abbrev uT:Stmt:=top 29
abbrev xio:Stmt:=top 32
abbrev xaX:Stmt:=top 33
abbrev xdf:Stmt:=top 34
abbrev jq:Stmt:=top 35
abbrev jM:Stmt:=top 36
abbrev xak:Stmt:=top 37
abbrev xe6:Stmt:=top 38
abbrev xdg:Stmt:=top 39
abbrev xd6:Stmt:=inClass (top 41) 0
abbrev jN:Stmt:=inClass (top 41) 1
abbrev uU:Stmt:=inClass (top 41) 2
abbrev uL:Stmt:=inClass (top 42) 0
abbrev xck:Stmt:=inClass (top 42) 1
abbrev zF:Stmt:=inClass (top 42) 2
abbrev xcl:Stmt:=inClass (top 42) 3
abbrev xbx:Stmt:=inClass (top 42) 4
abbrev xby:Stmt:=inClass (top 42) 5
abbrev xcm:Stmt:=inClass (top 42) 6
abbrev uC:Stmt:=inClass (top 42) 8
abbrev yQ:Stmt:=inClass (top 42) 9
abbrev yS:Stmt:=inClass (top 44) 0
abbrev xbz:Stmt:=inClass (top 44) 1
abbrev zi:Stmt:=inClass (top 44) 2
abbrev zX:Stmt:=inClass (top 44) 3
abbrev yW:Stmt:=inClass (top 44) 4
abbrev xcn:Stmt:=inClass (top 44) 5
abbrev xco:Stmt:=inClass (top 44) 6
abbrev vQ:Stmt:=inClass (top 44) 7
abbrev vn:Stmt:=inClass (top 44) 8
abbrev vo:Stmt:=inClass (top 44) 9
abbrev uV:Stmt:=inClass (top 44) 10
abbrev vp:Stmt:=inClass (top 44) 11
abbrev uW:Stmt:=inClass (top 44) 12
abbrev jr:Stmt:=inClass (top 44) 13
abbrev zj:Stmt:=inClass (top 44) 14
abbrev vq:Stmt:=inClass (top 44) 15
abbrev xe7:Stmt:=top 45
abbrev xe8:Stmt:=top 47
abbrev xip:Stmt:=top 48
abbrev xkF:Stmt:=top 49
abbrev yI:Stmt:=top 50
abbrev xiq:Stmt:=top 51
abbrev xny:Stmt:=top 52
abbrev xe9:Stmt:=top 53
abbrev xbA:Stmt:=top 54
abbrev xZ:Stmt:=top 55
abbrev zQ:Stmt:=top 56
abbrev uM:Stmt:=top 57
abbrev yL:Stmt:=top 58
abbrev q1p:Addr:=418
abbrev uu:Addr:=414
noncomputable def jA:List (Pos×Str):=[(⟨166,45,166,70⟩,"do_piece.<locals>.<lambda>")]
abbrev q0S:Addr:=536
abbrev zG:Addr:=532
noncomputable def jd:List (Pos×Str):=[(⟨261,50,261,69⟩,"Store.write.<locals>.<lambda>")]
abbrev q0r:Addr:=583
abbrev yR:Addr:=579
noncomputable def uv:List (Pos×Str):=[(⟨284,52,284,70⟩,"Store.note_down.<locals>.<lambda>")]
abbrev q0F:Addr:=619
abbrev zk:Addr:=615
noncomputable def vF:List (Pos×Str):=[(⟨307,32,307,78⟩,"Board.update.<locals>.<lambda>")]
abbrev q1a:Addr:=626
abbrev zY:Addr:=622
noncomputable def jE:List (Pos×Str):=[(⟨314,25,314,54⟩,"Board.fine.<locals>.<lambda>")]
abbrev q0D:Addr:=633
abbrev yX:Addr:=629
noncomputable def uX:List (Pos×Str):=[(⟨321,25,321,76⟩,"Board.go_back.<locals>.<lambda>")]
abbrev q0G:Addr:=703
abbrev zm:Addr:=699
noncomputable def vG:List (Pos×Str):=[(⟨388,45,388,63⟩,"Board.change.<locals>.<lambda>")]
abbrev q0T:Addr:=783
abbrev uD:Addr:=781
noncomputable def xal:List (Pos×Str):=[(⟨479,38,479,97⟩,"_law_exchanged.<locals>.<lambda>")]
abbrev q3A:Addr:=804
abbrev xfN:Addr:=800
noncomputable def xkG:List (Pos×Str):=[(⟨527,47,527,134⟩,"law.<locals>.<lambda>")]
set_option genInjectivity false in
set_option genSizeOf false in
set_option genSizeOfSpec false in
structure Adr where
 q1c:Addr
 jG:ax
 q1G:Addr
 xbB:ax
 q2v:Addr
 xd7:ax
 q1b:Addr
 xcp:ax
 q0U:Addr
 xbC:ax
 q2d:Addr
 xdh:ax
 q1T:Addr
 xcq:ax
 q1U:Addr
 xcr:ax
 q1H:Addr
 xbD:ax
 q1I:Addr
 xbE:ax
 q0I:Addr
 jt:ax
 q04:Addr
 xam:ax
 q3y:Addr
 xf6:ax
 q2w:Addr
 xd8:ax
 q2e:Addr
 xdi:ax
 q1V:Addr
 xcs:ax
 q1W:Addr
 xct:ax
 q1l:Addr
 xaY:ax
 q3K:Addr
 xhj:ax
 q3E:Addr
 xgs:ax
 q2j:Addr
 xcu:ax
 q2D:Addr
 xdj:ax
 q2E:Addr
 xdk:ax
 q3f:Addr
 xfa:ax
 q1q:Addr
 xan:ax
 q25:Addr
 xd9:ax
 q2F:Addr
 xdl:ax
 q3S:Addr
 xir:ax
 q1g:Addr
 jO:ax
 q1r:Addr
 xao:ax
 q1s:Addr
 xap:ax
 q2x:Addr
 xbY:ax
 q3T:Addr
 xis:ax
 q1O:Addr
 xaZ:ax
 q2G:Addr
 xdm:ax
 q02:Addr
 ju:ax
 q1h:Addr
 jP:ax
 q1t:Addr
 xaq:ax
 q3g:Addr
 xfb:ax
 q2H:Addr
 xdn:ax
 q2y:Addr
 xea:ax
 q0P:Addr
 jQ:ax
 q0s:Addr
 uY:ax
 q1u:Addr
 xar:ax
 q1X:Addr
 xcv:ax
 q1d:Addr
 jH:ax
 q1Y:Addr
 xcw:ax
 q1J:Addr
 xbF:ax
 q1K:Addr
 xbG:ax
 q1Z:Addr
 xcx:ax
 q0n:Addr
 uE:ax
 q0B:Addr
 uG:ax
 q0Q:Addr
 xas:ax
 q1e:Addr
 jI:ax
 q0W:Addr
 je:ax
 q1v:Addr
 xat:ax
 q0M:Addr
 vH:ax
 q10:Addr
 xcy:ax
 q11:Addr
 xcz:ax
 q0E:Addr
 vR:ax
 q0x:Addr
 vt:ax
 q0y:Addr
 vw:ax
 q0t:Addr
 uZ:ax
 q0z:Addr
 vx:ax
 q0u:Addr
 va:ax
 q0J:Addr
 jv:ax
 q0X:Addr
 jf:ax
 q0A:Addr
 vy:ax
 q3h:Addr
 xfc:ax
 q3i:Addr
 xfd:ax
 q3U:Addr
 xit:ax
 q4s:Addr
 xkH:ax
 q1S:Addr
 xdo:ax
 q3V:Addr
 xiu:ax
 q4K:Addr
 xnz:ax
 q3j:Addr
 xfe:ax
 q17:Addr
 xbH:ax
 q1o:Addr
 xa9:ax
 q2z:Addr
 xff:ax
 q3t:Addr
 xiv:ax
 q36:Addr
 xkc:ax
 q26:Addr
 q0c:Addr
 q0g:Addr
 q0k:Addr
 q0f:Addr
 q0b:Addr
 q1N:Addr
 q0d:Addr
 q0e:Addr
 q0N:Addr
 q0R:Addr
 q0w:Addr
 q0K:Addr
 q0i:Addr
 q48:Tok
structure Txt(K:aq)(mg:Str->Option Value)(a:Adr):Prop where
 q18:Fun K "__init__" "Fallen.__init__" xbs a.q1c a.jG
 xev:Binds K a.jG ["self","count"] []
 q2o:Fun K "__init__" "Faulty.__init__" xbt a.q1G a.xbB
 xjN:Binds K a.xbB ["self","fault"] []
 q3u:Fun K "__init__" "Row.__init__" xd3 a.q2v a.xd7
 xhk:Binds K a.xd7 ["self","to"] []
 q2N:Fun K "covers" "Row.covers" xce a.q1b a.xcp
 xfg:Binds K a.xcp ["self"] []
 q2p:Fun K "covered" "Row.covered" xbu a.q0U a.xbC
 zH:Binds K a.xbC ["self"] []
 q3a:Fun K "__init__" "Take.__init__" xda a.q2d a.xdh
 xlS:Binds K a.xdh ["self","to","start","count"] []
 q2O:Fun K "stays" "Take.stays" xcf a.q1T a.xcq
 xcA:Binds K a.xcq ["self"] []
 q2P:Fun K "reads" "Take.reads" xcg a.q1U a.xcr
 xkI:Binds K a.xcr ["self"] []
 q2q:Fun K "writes" "Take.writes" xbv a.q1H a.xbD
 xjO:Binds K a.xbD ["self"] []
 q2r:Fun K "pieces" "Take.pieces" xbw a.q1I a.xbE
 xjP:Binds K a.xbE ["self"] []
 q1E:Fun K "source_for" "Take.source_for" jo a.q0I a.jt
 xbL:Binds K a.jt ["self","cell"] []
 q14:Fun K "sign_for" "Take.sign_for" xag a.q04 a.xam
 xhl:Binds K a.xam ["self","cell","read"] []
 q3z:Fun K "told" "Take.told" xf5 a.q3y a.xf6
 xtc:Binds K a.xf6 ["self"] []
 q3v:Fun K "__init__" "Put.__init__" xd4 a.q2w a.xd8
 xnA:Binds K a.xd8 ["self","to","signs"] []
 q3b:Fun K "reads" "Put.reads" xdb a.q2e a.xdi
 xlT:Binds K a.xdi ["self"] []
 q2Q:Fun K "writes" "Put.writes" xch a.q1V a.xcs
 xkJ:Binds K a.xcs ["self"] []
 q2R:Fun K "pieces" "Put.pieces" xci a.q1W a.xct
 xkK:Binds K a.xct ["self"] []
 q2g:Fun K "sign_for" "Put.sign_for" xaW a.q1l a.xaY
 xiw:Binds K a.xaY ["self","cell","read"] []
 q3L:Fun K "told" "Put.told" xhi a.q3K a.xhj
 xtK:Binds K a.xhj ["self"] []
 q19:Fun K "row_of" "row_of" xgr a.q3E a.xgs
 xa0:Binds K a.xgs ["told"] []
 xa1:mg "row_of"=some (.ref a.q3E)
 q2k:Fun K "tells_take" "tells_take" xcj a.q2j a.xcu
 xkL:Binds K a.xcu ["told"] []
 xkM:mg "tells_take"=some (.ref a.q2j)
 q2I:Fun K "tells_put" "tells_put" xdc a.q2D a.xdj
 xlU:Binds K a.xdj ["told"] []
 xlV:mg "tells_put"=some (.ref a.q2D)
 q2J:Fun K "are_signs" "are_signs" xdd a.q2E a.xdk
 xlW:Binds K a.xdk ["signs"] []
 xlX:mg "are_signs"=some (.ref a.q2E)
 q3k:Fun K "is_sign" "is_sign" xe5 a.q3f a.xfa
 xoN:Binds K a.xfa ["value"] []
 xoO:mg "is_sign"=some (.ref a.q3f)
 q0v:Fun K "is_whole_from" "is_whole_from" xah a.q1q a.xan
 uw:Binds K a.xan ["least","value"] []
 ux:mg "is_whole_from"=some (.ref a.q1q)
 q2A:Fun K "is_whole" "is_whole" xd5 a.q25 a.xd9
 xhm:Binds K a.xd9 ["value"] []
 xhn:mg "is_whole"=some (.ref a.q25)
 q2K:Fun K "pieces_of" "pieces_of" xde a.q2F a.xdl
 xlY:Binds K a.xdl ["paper"] []
 xlZ:mg "pieces_of"=some (.ref a.q2F)
 q3W:Fun K "go_on" "go_on" xin a.q3S a.xir
 xrz:Binds K a.xir ["store","paper"] []
 xrA:mg "go_on"=some (.ref a.q3S)
 q1i:Fun K "refuse_lengths" "refuse_lengths" jL a.q1g a.jO
 xgt:Binds K a.jO ["size","paper"] []
 xgu:mg "refuse_lengths"=some (.ref a.q1g)
 q1w:Fun K "refuse_beyond" "refuse_beyond" xai a.q1r a.xao
 xho:Binds K a.xao ["size","pieces"] []
 xhp:mg "refuse_beyond"=some (.ref a.q1r)
 q1x:Fun K "places_needed" "places_needed" xaj a.q1s a.xap
 xhq:Binds K a.xap ["row","cells"] []
 xhr:mg "places_needed"=some (.ref a.q1s)
 xau:Fun K "do_piece" "do_piece" uT a.q2x a.xbY
 xnB:Binds K a.xbY ["store","row","cells"] []
 xnC:mg "do_piece"=some (.ref a.q2x)
 q37:uf K q1p uu
 xl0:a.xbY.code= .ref q1p
 q3X:Fun K "judge" "judge" xio a.q3T a.xis
 xrB:Binds K a.xis ["paper"] []
 xrC:mg "judge"=some (.ref a.q3T)
 q1P:Fun K "fits_in_size" "fits_in_size" xaX a.q1O a.xaZ
 xix:Binds K a.xaZ ["paper"] []
 xiy:mg "fits_in_size"=some (.ref a.q1O)
 q2f:Fun K "is_length" "is_length" xdf a.q2G a.xdm
 xf7:Binds K a.xdm ["value"] []
 xf8:mg "is_length"=some (.ref a.q2G)
 q03:Fun K "first_wrong_row" "first_wrong_row" jq a.q02 a.ju
 xfW:Binds K a.ju ["paper"] []
 xfX:mg "first_wrong_row"=some (.ref a.q02)
 q1j:Fun K "is_fitting_row" "is_fitting_row" jM a.q1h a.jP
 xgv:Binds K a.jP ["told","old","new"] []
 xgw:mg "is_fitting_row"=some (.ref a.q1h)
 q1y:Fun K "covered_twice" "covered_twice" xak a.q1t a.xaq
 xhs:Binds K a.xaq ["rows"] []
 xht:mg "covered_twice"=some (.ref a.q1t)
 q3l:Fun K "lacking" "lacking" xe6 a.q3g a.xfb
 xoP:Binds K a.xfb ["rows","new"] []
 xoQ:mg "lacking"=some (.ref a.q3g)
 q2L:Fun K "read_late" "read_late" xdg a.q2H a.xdn
 xl1:Binds K a.xdn ["rows"] []
 xl2:mg "read_late"=some (.ref a.q2H)
 q3w:Fun K "__init__" "Pen.__init__" xd6 a.q2y a.xea
 xhu:Binds K a.xea ["self","fall"] []
 q1Q:Fun K "write_into" "Pen.write_into" jN a.q0P a.jQ
 jR:Binds K a.jQ ["self","kept","at","value","torn"] []
 q0Y:Fun K "answer_of_fall" "Pen.answer_of_fall" uU a.q0s a.uY
 xeb:Binds K a.uY ["self","count"] []
 vS:xgq K "__init__" "Store.__init__" uL a.q1u a.xar [.none]
 xbI:Binds K a.xar ["self","cells","fall"] [.none]
 xfh:Binds K a.xar ["self","cells","fall"] []
 q2S:Fun K "read" "Store.read" xck a.q1X a.xcv
 xkN:Binds K a.xcv ["self","at"] []
 jJ:Fun K "write" "Store.write" zF a.q1d a.jH
 xjQ:Binds K a.jH ["self","at","sign"] []
 q3Y:uf K q0S zG
 xiz:a.jH.code= .ref q0S
 q2T:Fun K "mark" "Store.mark" xcl a.q1Y a.xcw
 xkO:Binds K a.xcw ["self","number"] []
 q2s:Fun K "noted" "Store.noted" xbx a.q1J a.xbF
 xjR:Binds K a.xbF ["self"] []
 q2t:Fun K "begin" "Store.begin" xby a.q1K a.xbG
 xjS:Binds K a.xbG ["self"] []
 q2U:Fun K "told" "Store.told" xcm a.q1Z a.xcx
 xfi:Binds K a.xcx ["self"] []
 q0H:Fun K "refuse_lacking" "Store.refuse_lacking" uC a.q0n a.uE
 jB:Binds K a.uE ["self","at"] []
 uH:Fun K "note_down" "Store.note_down" yQ a.q0B a.uG
 jw:Binds K a.uG ["self","at","number"] []
 q3m:uf K q0r yR
 xfj:a.uG.code= .ref q0r
 vT:xgq K "__init__" "Board.__init__" yS a.q0Q a.xas [.none]
 xew:Binds K a.xas ["self","text","size","fall"] [.none]
 xav:Binds K a.xas ["self","text","size","fall"] []
 q2u:Fun K "start" "Board.start" xbz a.q1e a.jI
 um:Binds K a.jI ["self"] []
 jg:Fun K "update" "Board.update" zi a.q0W a.je
 uN:Binds K a.je ["self","paper","total","tries"] []
 q3M:uf K q0F zk
 xhv:a.je.code= .ref q0F
 xaw:Fun K "fine" "Board.fine" zX a.q1v a.xat
 xkP:Binds K a.xat ["self"] []
 q4g:uf K q1a zY
 xjT:a.xat.code= .ref q1a
 vI:Fun K "go_back" "Board.go_back" yW a.q0M a.vH
 xhw:Binds K a.vH ["self"] []
 q3F:uf K q0D yX
 xgx:a.vH.code= .ref q0D
 q2V:Fun K "text" "Board.text" xcn a.q10 a.xcy
 vU:Binds K a.xcy ["self","bank"] []
 q2W:Fun K "told" "Board.told" xco a.q11 a.xcz
 zZ:Binds K a.xcz ["self"] []
 q1m:Fun K "other_bank" "Board.other_bank" vQ a.q0E a.vR
 zw:Binds K a.vR ["self"] []
 q05:Fun K "bank_to_run" "Board.bank_to_run" vn a.q0x a.vt
 xeQ:Binds K a.vt ["self"] []
 q06:Fun K "refuse_down" "Board.refuse_down" vo a.q0y a.vw
 vz:Binds K a.vw ["self"] []
 q0Z:Fun K "refuse_paper" "Board.refuse_paper" uV a.q0t a.uZ
 xec:Binds K a.uZ ["self","paper"] []
 q07:Fun K "holds_elder" "Board.holds_elder" vp a.q0z a.vx
 xeR:Binds K a.vx ["self","bank","old"] []
 q00:Fun K "put_on_trial" "Board.put_on_trial" uW a.q0u a.va
 xed:Binds K a.va ["self","paper","total","tries"] []
 q1F:Fun K "make_good" "Board.make_good" jr a.q0J a.jv
 xfY:Binds K a.jv ["self","bank"] []
 jh:Fun K "change" "Board.change" zj a.q0X a.jf
 yy:Binds K a.jf ["self","kept","at","value"] []
 q3N:uf K q0G zm
 xhx:a.jf.code= .ref q0G
 q08:Fun K "run_or_fall" "Board.run_or_fall" vq a.q0A a.vy
 vA:Binds K a.vy ["self","deed"] []
 q23:Fun K "bank_of" "bank_of" xe7 a.q3h a.xfc
 xjv:Binds K a.xfc ["cells","pen"] []
 xjw:mg "bank_of"=some (.ref a.q3h)
 q0o:Fun K "_law_cell_at" "_law_cell_at" xe8 a.q3i a.xfd
 yG:Binds K a.xfd ["_law_script","_law_k"] []
 yH:mg "_law_cell_at"=some (.ref a.q3i)
 q15:Fun K "_law_mixed" "_law_mixed" xip a.q3U a.xit
 jY:Binds K a.xit ["_law_cell","_law_k"] []
 jZ:mg "_law_mixed"=some (.ref a.q3U)
 q3n:Fun K "_law_text" "_law_text" xkF a.q4s a.xkH
 xfk:Binds K a.xkH ["_law_cell","_law_size"] []
 xfl:mg "_law_text"=some (.ref a.q4s)
 q2M:Fun K "_law_new_paper" "_law_new_paper" yI a.q1S a.xdo
 xl3:Binds K a.xdo ["_law_old","_law_cell"] []
 xl4:mg "_law_new_paper"=some (.ref a.q1S)
 q3J:Fun K "_law_meant" "_law_meant" xiq a.q3V a.xiu
 xmx:Binds K a.xiu ["_law_paper","_law_elder"] []
 xmy:mg "_law_meant"=some (.ref a.q3V)
 q4L:Fun K "_law_how" "_law_how" xny a.q4K a.xnz
 xtL:Binds K a.xnz ["_law_cell","_law_counts","_law_armed","_law_falls","_law_count"] []
 xtM:mg "_law_how"=some (.ref a.q4K)
 q3o:Fun K "_law_updated" "_law_updated" xe9 a.q3j a.xfe
 xoR:Binds K a.xfe ["_law_board","_law_paper","_law_total","_law_tries","_law_counts"] []
 xoS:mg "_law_updated"=some (.ref a.q3j)
 q2a:Fun K "_law_turned_away" "_law_turned_away" xbA a.q17 a.xbH
 xjU:Binds K a.xbH ["_law_board","_law_size","_law_counts"] []
 xjV:mg "_law_turned_away"=some (.ref a.q17)
 jC:Fun K "_law_exchanged" "_law_exchanged" xZ a.q1o a.xa9
 xl5:Binds K a.xa9 ["_law_script"] []
 xl6:mg "_law_exchanged"=some (.ref a.q1o)
 q4t:uf K q0T uD
 xkQ:a.xa9.code= .ref q0T
 q3p:Fun K "_law_brought" "_law_brought" zQ a.q2z a.xff
 xoT:Binds K a.xff ["_law_board","_law_paper","_law_other","_law_total","_law_tries","_law_counts","_law_size"] []
 xoU:mg "_law_brought"=some (.ref a.q2z)
 q3Z:Fun K "_law_right" "_law_right" uM a.q3t a.xiv
 xrD:Binds K a.xiv ["_law_board","_law_told","_law_marked","_law_elder","_law_total","_law_tries"] []
 xrE:mg "_law_right"=some (.ref a.q3t)
 xkd:Fun K "law" "law" yL a.q36 a.xkc
 xuq:Binds K a.xkc ["_law_script"] []
 q5A:uf K q3A xfN
 xs0:a.xkc.code= .ref q3A
 xqR:mg "Row"=some (.ref a.q26)
 q6w:Cls K a.q26
 q4T:xJ K a.q26 "count"
 q5s:xJ K a.q26 "to"
 xkR:mg "Take"=some (.ref a.q0c)
 q0h:Cls K a.q0c
 q0V:xJ K a.q0c "count"
 q0C:xJ K a.q0c "source"
 q01:xJ K a.q0c "to"
 q5g:Mk K a.q0c a.q2d
 xtN:mg "Put"=some (.ref a.q0g)
 q1L:Cls K a.q0g
 q12:xJ K a.q0g "count"
 q3q:xJ K a.q0g "signs"
 q24:xJ K a.q0g "to"
 q5B:Mk K a.q0g a.q2w
 xqS:mg "Pen"=some (.ref a.q0k)
 q3B:Cls K a.q0k
 q2X:xJ K a.q0k "asked"
 q38:xJ K a.q0k "fall"
 q49:Mk K a.q0k a.q2y
 xrF:mg "Store"=some (.ref a.q0f)
 q0m:Cls K a.q0f
 q1R:xJ K a.q0f "cells"
 q2h:xJ K a.q0f "notes"
 q2l:xJ K a.q0f "pen"
 q44:Mk K a.q0f a.q1u
 xmz:mg "Board"=some (.ref a.q0b)
 q0a:Cls K a.q0b
 q2Y:xJ K a.q0b "banks"
 q1k:xJ K a.q0b "lengths"
 q0j:xJ K a.q0b "marks"
 q2Z:xJ K a.q0b "pen"
 q0q:xJ K a.q0b "running"
 q0l:xJ K a.q0b "settings"
 q3C:xJ K a.q0b "size"
 q4M:Mk K a.q0b a.q0Q
 xs1:mg "Down"=some (.ref a.q1N)
 xcB:mg "Fallen"=some (.ref a.q0d)
 xkS:mg "Faulty"=some (.ref a.q0e)
 xup:mg "NoRow"=some (.ref a.q0N)
 xoV:mg "NoTrial"=some (.ref a.q0R)
 xl7:mg "NoWayBack"=some (.ref a.q0w)
 xoW:mg "OnTrial"=some (.ref a.q0K)
 xiA:mg "Unfit"=some (.ref a.q0i)
 q5C:xik K a.q1N
 q4H:aM K (.ref a.q1N) (.ref a.q0d)=some false
 q4I:aM K (.ref a.q1N) (.ref a.q0e)=some false
 q4P:aM K (.ref a.q1N) (.ref a.q0N)=some false
 q4Q:aM K (.ref a.q1N) (.ref a.q0i)=some false
 q3r:xc9 K a.q0d a.q1c
 xfm:fS K a.q0d=true
 q1z:xJ K a.q0d "count"
 q2m:aM K (.ref a.q0d) (.ref a.q0d)=some true
 q4u:aM K (.ref a.q0d) (.ref a.q0e)=some false
 q4B:aM K (.ref a.q0d) (.ref a.q0N)=some false
 q4C:aM K (.ref a.q0d) (.ref a.q0i)=some false
 q4b:xil K a.q0d
 q4c:xc9 K a.q0e a.q1G
 xoX:fS K a.q0e=true
 q3d:xJ K a.q0e "fault"
 q4v:aM K (.ref a.q0e) (.ref a.q0d)=some false
 q3G:aM K (.ref a.q0e) (.ref a.q0e)=some true
 q4D:aM K (.ref a.q0e) (.ref a.q0N)=some false
 q4E:aM K (.ref a.q0e) (.ref a.q0i)=some false
 q4U:xil K a.q0e
 q4V:xik K a.q0R
 q4o:aM K (.ref a.q0R) (.ref a.q0d)=some false
 q4p:aM K (.ref a.q0R) (.ref a.q0e)=some false
 q4w:aM K (.ref a.q0R) (.ref a.q0N)=some false
 q4x:aM K (.ref a.q0R) (.ref a.q0i)=some false
 q4G:xik K a.q0w
 q3Q:aM K (.ref a.q0w) (.ref a.q0d)=some false
 q3R:aM K (.ref a.q0w) (.ref a.q0e)=some false
 q4d:aM K (.ref a.q0w) (.ref a.q0N)=some false
 q4e:aM K (.ref a.q0w) (.ref a.q0i)=some false
 q4W:xik K a.q0K
 q4q:aM K (.ref a.q0K) (.ref a.q0d)=some false
 q4r:aM K (.ref a.q0K) (.ref a.q0e)=some false
 q4y:aM K (.ref a.q0K) (.ref a.q0N)=some false
 q4z:aM K (.ref a.q0K) (.ref a.q0i)=some false
 q4Y:xik K a.q0i
 q4F:aM K (.ref a.q0i) (.ref a.q0d)=some false
 q3e:aM K (.ref a.q0i) (.ref a.q0e)=some false
 q4J:aM K (.ref a.q0i) (.ref a.q0N)=some false
 q3x:aM K (.ref a.q0i) (.ref a.q0i)=some true
 q4f:xbr K a.q0d
 q4X:xbr K a.q0e
 q5D:xbr K a.q0N
 q45:xbr K a.q0i
 xoY:∀{H:Hp} {o dx:Addr} {fs:List (Str×V)},H o=some (.ins a.q0g dx fs)->uA K H (.ref o) (.ref a.q0g)
 xmA:∀{H:Hp} {o dx:Addr} {fs:List (Str×V)},H o=some (.ins a.q0c dx fs)->uA K H (.ref o) (.ref a.q0c)
 q39:ik K (.ref a.q0g) (.ref a.q0c)=some false
 q3O:ik K (.ref a.q0c) (.ref a.q0c)=some true
 xoZ:mg "MOST"=some (.int 300 a.q48)
 q27:Meth K a.q0b "bank_to_run" a.q0x
 q0p:Meth K a.q0b "change" a.q0X
 q4h:Meth K a.q0b "fine" a.q1v
 q3H:Meth K a.q0b "go_back" a.q0M
 q28:Meth K a.q0b "holds_elder" a.q0z
 q3s:Meth K a.q0b "make_good" a.q0J
 q0L:Meth K a.q0b "other_bank" a.q0E
 q20:Meth K a.q0b "put_on_trial" a.q0u
 q1A:Meth K a.q0b "refuse_down" a.q0y
 q21:Meth K a.q0b "refuse_paper" a.q0t
 q1B:Meth K a.q0b "run_or_fall" a.q0A
 q1n:Meth K a.q0b "start" a.q1e
 q2b:Meth K a.q0b "text" a.q10
 q1f:Meth K a.q0b "told" a.q11
 q1C:Meth K a.q0b "update" a.q0W
 q22:Meth K a.q0k "answer_of_fall" a.q0s
 q2c:Meth K a.q0k "write_into" a.q0P
 q2i:Meth K a.q0g "covered" a.q0U
 q4i:Meth K a.q0g "covers" a.q1b
 q4j:Meth K a.q0g "pieces" a.q1W
 q4A:Meth K a.q0g "reads" a.q2e
 q3P:Meth K a.q0g "sign_for" a.q1l
 q4k:Meth K a.q0g "writes" a.q1V
 q30:Meth K a.q0f "begin" a.q1K
 q4l:Meth K a.q0f "mark" a.q1Y
 q13:Meth K a.q0f "note_down" a.q0B
 q31:Meth K a.q0f "noted" a.q1J
 q4m:Meth K a.q0f "read" a.q1X
 q1M:Meth K a.q0f "refuse_lacking" a.q0n
 q3D:Meth K a.q0f "told" a.q1Z
 q32:Meth K a.q0f "write" a.q1d
 q2B:Meth K a.q0c "covered" a.q0U
 q33:Meth K a.q0c "covers" a.q1b
 q34:Meth K a.q0c "pieces" a.q1I
 q4n:Meth K a.q0c "reads" a.q1U
 q3I:Meth K a.q0c "sign_for" a.q04
 q2C:Meth K a.q0c "source_for" a.q0I
 q29:Meth K a.q0c "stays" a.q1T
 q35:Meth K a.q0c "writes" a.q1H
 q4a:xpU K a.q26 "__init__" a.q2v
 q5Z:mg "abs"=none
 q50:mg "all"=none
 q5E:mg "bool"=none
 q3c:mg "enumerate"=none
 q4N:mg "int"=none
 q1D:mg "isinstance"=none
 q0O:mg "len"=none
 q2n:mg "list"=none
 q4Z:mg "max"=none
 q40:mg "min"=none
 q16:mg "range"=none
 q4O:mg "sum"=none
 q09:mg "tuple"=none
local macro_rules| `(tactic|walk_at"c")=>`(tactic|exact⟨rfl,rfl,rfl,by decide+kernel,rfl,by decide+kernel,by decide+kernel⟩)
local macro_rules| `(tactic|walk_at"d")=>`(tactic|exact⟨rfl,rfl,rfl,by decide+kernel,rfl,by decide+kernel,by decide+kernel,by decide+kernel⟩)
def ji:xu ["self","count"] ["self","count"] (xh xbs):=by walk_at"c"
def xdB:xu ["self","fault"] ["self","fault"] (xh xbt):=by walk_at"c"
def xf9:xu ["self","to"] ["self","to"] (xh xd3):=by walk_at"c"
def xex:xu ["self"] ["self"] (xh xce):=by walk_at"c"
def xdC:xu ["self"] ["self"] (xh xbu):=by walk_at"c"
def xfn:xu ["self","to","start","count"] ["self","to","start","count"] (xh xda):=by walk_at"c"
def xey:xu ["self"] ["self"] (xh xcf):=by walk_at"c"
def xez:xu ["self"] ["self"] (xh xcg):=by walk_at"c"
def xdD:xu ["self"] ["self"] (xh xbv):=by walk_at"c"
def xdE:xu ["self","first","end","step"] ["self"] (xh xbw):=by walk_at"c"
def xbi:xu ["self","cell"] ["self","cell"] (xh jo):=by walk_at"c"
def xcC:xu ["self","cell","read"] ["self","cell","read"] (xh xag):=by walk_at"c"
def xga:xu ["self","to","signs"] ["self","to","signs"] (xh xd4):=by walk_at"c"
def xfo:xu ["self"] ["self"] (xh xdb):=by walk_at"c"
def xeA:xu ["self"] ["self"] (xh xch):=by walk_at"c"
def xeB:xu ["self"] ["self"] (xh xci):=by walk_at"c"
def xcT:xu ["self","cell","read"] ["self","cell","read"] (xh xaW):=by walk_at"c"
def xjx:xu ["told"] ["told"] (xh xgr):=by walk_at"c"
def xeC:xu ["told"] ["told"] (xh xcj):=by walk_at"c"
def xfp:xu ["told"] ["told"] (xh xdc):=by walk_at"c"
def xfq:xu ["signs"] ["signs"] (xh xdd):=by walk_at"c"
def xhy:xu ["value"] ["value"] (xh xe5):=by walk_at"c"
def xcD:xu ["least","value"] ["least","value"] (xh xah):=by walk_at"c"
def xgb:xu ["value"] ["value"] (xh xd5):=by walk_at"c"
def xfr:xu ["paper","pieces","told"] ["paper"] (xh xde):=by walk_at"c"
def xkT:xu ["store","paper","size","pieces","first","left","number","piece"] ["store","paper"] (xh xin):=by walk_at"c"
def xbM:xu ["size","paper","greater"] ["size","paper"] (xh jL):=by walk_at"c"
def xcE:xu ["size","pieces","told","cells","at"] ["size","pieces"] (xh xai):=by walk_at"c"
def xcF:xu ["row","cells","places","cell"] ["row","cells"] (xh xaj):=by walk_at"c"
def xgc:xu ["store","row","cells","cell"] ["store","row","cells"] (xh uT):=by walk_at"c"
def xkU:xu ["paper","wrong","rows","fault"] ["paper"] (xh xio):=by walk_at"c"
def xcU:xu ["paper"] ["paper"] (xh xaX):=by walk_at"c"
def xfs:xu ["value"] ["value"] (xh xdf):=by walk_at"c"
def xbj:xu ["paper","number","told"] ["paper"] (xh jq):=by walk_at"c"
def xbN:xu ["told","old","new","row"] ["told","old","new"] (xh jM):=by walk_at"c"
def xcG:xu ["rows","covered","number","row","cell"] ["rows"] (xh xak):=by walk_at"c"
def xhz:xu ["rows","new","covered","row","cell"] ["rows","new"] (xh xe6):=by walk_at"c"
def xft:xu ["rows","written","number","row","cell"] ["rows"] (xh xdg):=by walk_at"c"
def xgd:xu ["self","fall"] ["self","fall"] (xh xd6):=by walk_at"c"
def xbO:xu ["self","kept","at","value","torn","count","answer"] ["self","kept","at","value","torn"] (xh jN):=by walk_at"c"
def xaa:xu ["self","count","fall"] ["self","count"] (xh uU):=by walk_at"c"
def xeD:xu ["self","cells","fall"] ["self","cells","fall"] (xh uL):=by walk_at"c"
def xeE:xu ["self","at"] ["self","at"] (xh xck):=by walk_at"c"
def xdF:xu ["self","at","sign"] ["self","at","sign"] (xh zF):=by walk_at"c"
def xeF:xu ["self","number"] ["self","number"] (xh xcl):=by walk_at"c"
def xdG:xu ["self"] ["self"] (xh xbx):=by walk_at"c"
def xdH:xu ["self"] ["self"] (xh xby):=by walk_at"c"
def xeG:xu ["self"] ["self"] (xh xcm):=by walk_at"c"
def jl:xu ["self","at"] ["self","at"] (xh uC):=by walk_at"c"
def xbk:xu ["self","at","number"] ["self","at","number"] (xh yQ):=by walk_at"c"
def xeH:xu ["self","text","size","fall"] ["self","text","size","fall"] (xh yS):=by walk_at"c"
def xdI:xu ["self"] ["self"] (xh xbz):=by walk_at"c"
def xcV:xu ["self","paper","total","tries"] ["self","paper","total","tries"] (xh zi):=by walk_at"c"
def xeI:xu ["self","other"] ["self"] (xh zX):=by walk_at"c"
def xcH:xu ["self","other"] ["self"] (xh yW):=by walk_at"c"
def xeJ:xu ["self","bank"] ["self","bank"] (xh xcn):=by walk_at"c"
def xeK:xu ["self","marker","counter"] ["self"] (xh xco):=by walk_at"c"
def xaH:xu ["self"] ["self"] (xh vQ):=by walk_at"c"
def xax:xu ["self","marked","other","counter"] ["self"] (xh vn):=by walk_at"c"
def xay:xu ["self"] ["self"] (xh vo):=by walk_at"c"
def xab:xu ["self","paper","other","fault"] ["self","paper"] (xh uV):=by walk_at"c"
def xaz:xu ["self","bank","old"] ["self","bank","old"] (xh vp):=by walk_at"c"
def xac:xu ["self","paper","total","tries","other","bank"] ["self","paper","total","tries"] (xh uW):=by walk_at"c"
def xbl:xu ["self","bank"] ["self","bank"] (xh jr):=by walk_at"c"
def xcW:xu ["self","kept","at","value"] ["self","kept","at","value"] (xh zj):=by walk_at"c"
def xaA:xu ["self","deed","fallen"] ["self","deed"] (xh vq):=by walk_at"c"
def xhA:xu ["cells","pen","bank"] ["cells","pen"] (xh xe7):=by walk_at"c"
def xhB:xu ["_law_script","_law_k"] ["_law_script","_law_k"] (xh xe8):=by walk_at"c"
def xkV:xu ["_law_cell","_law_k","_law_number"] ["_law_cell","_law_k"] (xh xip):=by walk_at"c"
def xmB:xu ["_law_cell","_law_size","_law_sizes"] ["_law_cell","_law_size"] (xh xkF):=by walk_at"c"
def yY:xu ["_law_old","_law_cell","_law_size","_law_signs","_law_count","_law_rows","_law_start","_law_to"] ["_law_old","_law_cell"] (xh yI):=by walk_at"c"
def xkW:xu ["_law_paper","_law_elder","_law_cells","_law_row","_law_j"] ["_law_paper","_law_elder"] (xh xiq):=by walk_at"c"
def xo0:xu ["_law_cell","_law_counts","_law_armed","_law_falls","_law_count","_law_draw"] ["_law_cell","_law_counts","_law_armed","_law_falls","_law_count"] (xh xny):=by walk_at"c"
def xhC:xu ["_law_board","_law_paper","_law_total","_law_tries","_law_counts","_law_answer","_law_fell","e"] ["_law_board","_law_paper","_law_total","_law_tries","_law_counts"] (xh xe9):=by walk_at"c"
def xdJ:xu ["_law_board","_law_size","_law_counts","_law_ahead","_law_late","_law_kinds","_law_paper","_law_kind","e"] ["_law_board","_law_size","_law_counts"] (xh xbA):=by walk_at"c"
def yi:xu ["_law_script","_law_cell","_law_first","_law_second","_law_third","_law_fourth","_law_size","_law_stop","_law_board","_law_one","_law_other","_law_due","_law_fell","e"] ["_law_script"] (xh xZ):=by walk_at"c"
def xaB:xu ["_law_board","_law_paper","_law_other","_law_total","_law_tries","_law_counts","_law_size","_law_again","_law_answers","_law_mark"] ["_law_board","_law_paper","_law_other","_law_total","_law_tries","_law_counts","_law_size"] (xh zQ):=by walk_at"c"
def vV:xu ["_law_board","_law_told","_law_marked","_law_elder","_law_total","_law_tries","_law_paper","_law_mark","_law_answers","_law_marker","_law_marks","_law_lengths","_law_counter","_law_running","_law_due"] ["_law_board","_law_told","_law_marked","_law_elder","_law_total","_law_tries"] (xh uM):=by walk_at"c"
def yZ:xu ["_law_script","_law_marked","_law_size","_law_counts","_law_armed","_law_falls","_law_cell","_law_board","_law_elder","_law_rows","_law_paper","_law_tries","_law_total","_law_other","_law_known","_law_told"] ["_law_script"] (xh yL):=by walk_at"c"
noncomputable def xcX(to st c:Int):List (Str×V):=[("to",.int to),("count",.int c),("source",.int st)]
def xfO(to:Int)(t:Addr)(n:Int):List (Str×V):=[("to",.int to),("count",.int n),("signs",.ref t)]
noncomputable def xY(lo:Int)(n:Nat):List Int:=(d7 n).map λ(i:Nat)=>lo+(i:Int)
def xfP(lo:Int)(n:Nat):xdY lo n=(xY lo n).map V.int:=by simp[xdY,xY,kJ]
def yJ(lo:Int)(n:Nat):(xY lo n).length=n:=by simp[xY]
def zI{n:Nat}:x∈xY lo n↔lo<=x/\x<lo+n:=by
 unfold xY;rw[bZ];constructor
 ·rintro⟨i,hi,rfl⟩;have:=dO.mp hi;lia
 ·rintro⟨h1,h2⟩;exact⟨(x - lo).toNat,dO.mpr (by lia),by lia⟩
inductive xq where
 |take (to st c:Int)
 |put (to:Int) (sg:List Int)
def xq.isTake:xq->Bool
 | .take .. =>true
 | .put .. =>false
def TupAt(K:aq)(H:Hp)(t:Addr):xq->Prop
 | .take to st c=>H t=some (.tup [.str "take",.int to,.int st,.int c])
 | .put to sg=>∃u,H t=some (.tup [.str "put",.int to,.ref u])/\H u=some (.tup (sg.map V.int))
theorem TupAt.same(h:TupAt K H t r)(s:xj H H'):TupAt K H' t r:=by
 cases r with
 |take to st c=>exact s.at h
 |put to sg=>obtain⟨u,h1,h2⟩:=h;exact⟨u,s.at h1,s.at h2⟩
def zM(K:aq)(a:Adr)(H:Hp)(o:Addr):xq->Prop
 | .take to st c=>∃dx,H o=some (.ins a.q0c dx (xcX to st c))
 | .put to sg=>∃dx u,H o=some (.ins a.q0g dx (xfO to u sg.length))/\H u=some (.tup (sg.map V.int))
theorem zM.same{o:Addr}(h:zM K a H o r)(s:xj H H'):zM K a H' o r:=by
 cases r with
 |take to st c=>obtain⟨dx,h⟩:=h;exact⟨dx,s.at h⟩
 |put to sg=>obtain⟨dx,u,h1,h2⟩:=h;exact⟨dx,u,s.at h1,s.at h2⟩
theorem zM.mv{H6:Hp}{o:Addr}(h:zM K a H' o r)(k:∀p o,(H p=none\/∀ys,o≠HO.lst ys)->H' p=some o->H6 p=some o):zM K a H6 o r:=by
 cases r with
 |take to st c=>obtain⟨dx,h⟩:=h;exact⟨dx,k _ _ (.inr λys z=>by cases z) h⟩
 |put to sg=>obtain⟨dx,u,h1,h2⟩:=h;exact⟨dx,u,k _ _ (.inr λys z=>by cases z) h1,k _ _ (.inr λys z=>by cases z) h2⟩
def xq.ok:xq->Prop
 | .take to st c=>0<=to/\0<=st/\1<=c
 | .put to sg=>0<=to/\sg≠[]/\sg.length<=100000/\∀x∈sg,(x.natAbs:Int)<10^60
def xkX(K:aq)(a:Adr)(H:Hp)(l:Addr)(rs:List xq):Prop:=∃ts:List Addr,SqL K H l (ts.map V.ref)/\Paired (zM K a H) ts rs
def xo1{C dx:Addr}{fs:List (Str×V)}{o:HO}(h:SqT K H t xs)(hp:H p=some (.ins C dx fs)):SqT K (upd H p o) t xs:=by
 rcases h with(h|⟨ob,h⟩)|h
 ·exact .inl (.inl (by rw[xm (xcO h hp (by intro z;cases z))];exact h))
 ·exact .inl (.inr ⟨ob,by rw[xm (xcO h hp (by intro z;cases z))];exact h⟩)
 ·exact .inr h
def xl8(K:aq):Sp:=λvs H Q _=>Ex4 λ(p C dx:Addr) (to:Int)=>vs=[.ref p,.int to]/\H p=some (.ins C dx [])/\Cls K C/\xJ K C "to"/\xJ K C "count"/\Q .non (upd H p (.ins C dx [("to",.int to),("count",.int 0)]))
def xkY(a:Adr):Sp:=λvs H Q _=>Ex5 λ(p dx:Addr) (to st c:Int)=>vs=[.ref p,.int to,.int st,.int c]/\H p=some (.ins a.q0c dx [])/\Q .non (upd H p (.ins a.q0c dx (xcX to st c)))
def xl9(K:aq)(a:Adr):Sp:=λvs H Q _=>Ex5 λ(p dx t:Addr) (to:Int) (xs:List V)=>vs=[.ref p,.int to,.ref t]/\H p=some (.ins a.q0g dx [])/\SqT K H t xs/\Q .non (upd H p (.ins a.q0g dx (xfO to t xs.length)))
def xgy(H:Hp)(Q:VK)(ns:List Int):Prop:=∀(l:Addr) (H':Hp),xj H H'->H l=none->H' l=some (.lst (ns.map V.int))->Q (.ref l) H'
def xp6(a:Adr):Sp:=λvs H Q _=>Ex5 λ(p dx:Addr) (to st c:Int)=>vs=[.ref p]/\H p=some (.ins a.q0c dx (xcX to st c))/\Q (.bl (decide (st=to))) H
def xma:Sp:=λvs H Q _=>∃i:Int,vs=[.int i]/\Q (.bl true) H
def xgz:Sp:=λvs H Q _=>Ex2 λ(l i:Int)=>vs=[.int l,.int i]/\Q (.bl (decide (l<=i))) H
def xnD:Sp:=λvs H Q _=>∃i:Int,vs=[.int i]/\(i.natAbs:Int)<10^60/\Q (.bl true) H
def xkZ(K:aq):Sp:=λvs H Q _=>Ex2 λ(u:Addr) (sg:List Int)=>vs=[.ref u]/\H u=some (.tup (sg.map V.int))/\sg≠[]/\sg.length<=100000/\(∀x∈sg,(x.natAbs:Int)<10^60)/\∀H',xj H H'->Q (.bl true) H'
def xjW(K:aq):Sp:=λvs H Q _=>Ex2 λ(t:Addr) (r:xq)=>vs=[.ref t]/\TupAt K H t r/\r.ok/\Q (.bl r.isTake) H
def xk0(K:aq):Sp:=λvs H Q _=>Ex3 λ(t:Addr) (to:Int) (sg:List Int)=>vs=[.ref t]/\TupAt K H t (.put to sg)/\xq.ok (.put to sg)/\∀H',xj H H'->Q (.bl true) H'
def xbm(K:aq)(a:Adr):Sp:=λvs H Q _=>Ex2 λ(t:Addr) (r:xq)=>vs=[.ref t]/\TupAt K H t r/\r.ok/\∀(o:Addr) (H':Hp),xj H H'->H o=none->zM K a H' o r->Q (.ref o) H'
noncomputable def mixed(c k:Int):Int:=
 let n:=(c%2147483647+7919*k+1)*48271%2147483647
 n*(n / 1009+69621)%2147483647
def cellAt(ns:List Int)(k:Int):Int:=if k<ns.length then ns.getD k.toNat 0 else 0
def xee(K:aq):Sp:=λvs H Q _=>Ex6 λ(p C dx:Addr) (fs:List (Str×V)) (to c:Int)=>vs=[.ref p]/\H p=some (.ins C dx fs)/\Cls K C/\xJ K C "to"/\xJ K C "count"/\fs.lookup ("to":Str)=some (.int to)/\fs.lookup ("count":Str)=some (.int c)/\c.toNat<=2^24/\xgy H Q (xY to c.toNat)
def xnE(K:aq):Sp:=λvs H Q _=>Ex3 λ(l:Addr) (ns:List Int) (k:Int)=>vs=[.ref l,.int k]/\SqL K H l (ns.map V.int)/\0<=k/\Q (.int (cellAt ns k)) H
def xp7:Sp:=λvs H Q _=>Ex2 λ(c k:Int)=>vs=[.int c,.int k]/\Q (.int (mixed c k)) H
def cN(d k:Nat):Nat:=(k+d - 1) / d
def chs(u:Nat->Nat->List Int)(d k:Nat):List (List Int):=(d7 (cN d k)).map (u k)
def xmC(hd:0<d):cN d 0=0:=by unfold cN;exact Nat.div_eq_of_lt (by omega)
def xfQ(hd:0<d)(k:Nat):cN d (k+1)=k / d+1:=by
 unfold cN;rw[show k+1+d - 1=k+d by lia,Nat.add_div_right _ hd]
def uch(to:Int)(d k j:Nat):List Int:=xY (to+((j*d:Nat):Int)) (min d (k - j*d))
def dch(e:Int)(d k j:Nat):List Int:=xY (e - ((min ((j+1)*d) k:Nat):Int)) (min d (k - j*d))
def yM(to st c:Int):List (List Int):=
 if st=to then[]else if to<st then chs (uch to (st - to).toNat) (st - to).toNat c.toNat else chs (dch (to+c) (to - st).toNat) (to - st).toNat c.toNat
theorem xfR(u:Nat->Nat->List Int)(d k:Nat)(hd:0<d):(chs u d k).length<=k:=by
 unfold chs;rw[ag,g7];cases k with
 |zero=>rw[xmC hd];exact ay _
 |succ k=>rw[xfQ hd];have:=Nat.div_le_self k d;lia
def xo2(h0:x≠0)(h:x.natAbs<2^200):xox x:=by
 refine⟨h0,?_⟩;have:x.natAbs.log2<200:=(Nat.log2_lt (by lia)).mpr h;lia
def xrG(to c:Int)(d:Nat)(hc:1<=c)(hd:0<d):zg to (to+c) (d:Int)=cN d c.toNat:=by
 unfold zg bq;rw[if_pos (by lia),if_pos (by lia)];obtain⟨n,rfl⟩:∃n:Nat,c=(n:Int)+1:=⟨(c - 1).toNat,by lia⟩;rw[show((n:Int)+1).toNat=n+1 by lia,xfQ hd,show to+((n:Int)+1) - to - 1=(n:Int)by lia,<-Int.natCast_ediv];generalize n / d=q;lia
def xo3(to c:Int)(d:Nat)(hc:1<=c)(hd:0<d):zg (to+c) to (-(d:Int))=cN d c.toNat:=by
 unfold zg bq;rw[if_neg (by lia),if_pos (by lia)];obtain⟨n,rfl⟩:∃n:Nat,c=(n:Int)+1:=⟨(c - 1).toNat,by lia⟩;rw[show((n:Int)+1).toNat=n+1 by lia,xfQ hd,show to+((n:Int)+1) - to - 1=(n:Int)by lia,Int.neg_neg,<-Int.natCast_ediv];generalize n / d=q;lia
theorem xp8{k:Nat}(hd:0<d)(h:i<cN d k):i*d<=k:=by
 cases k with
 |zero=>rw[xmC hd]at h;lia
 |succ k=>
  rw[xfQ hd]at h;have h1:i<=k / d:=by lia
  have:=bG (gz d h1) (Nat.div_mul_le_self k d);lia
def Kp(S:List Addr)(H H':Hp):Prop:=∀b u,H b=some u->b∉S->H' b=some u
def Kp.of(s:xj H H'):Kp S H H':=λb u e _=>s b u e
def Kp.trans{H2:Hp}(h:Kp S H H1)(g:Kp S H1 H2):Kp S H H2:=λb u e n=>g b u (h b u e n) n
def Kp.mono{S':List Addr}(h:Kp S H H1)(m:∀x∈S,x∈S'):Kp S' H H1:=λb u e n=>h b u e λz=>n (m b z)
def Kp.wr{o:HO}(h:Kp S H H1)(m:p∈S):Kp S H (upd H1 p o):=λb u e n=>by
 rw[xm (λz=>n (by rw[z];exact m))];exact h b u e n
def Kp.mk{o:HO}(h:Kp S H H1)(m:H p=none):Kp S H (upd H1 p o):=λb u e n=>by
 rw[xm (xG e m)];exact h b u e n
def Kp.same{H2:Hp}(h:Kp S H H1)(s:xj H1 H2):Kp S H H2:=h.trans (.of s)
def xaC:HO->Prop
 | .ins _ _ _=>True
 | .lst _=>True
 | .dK _=>True
 |_=>False
def yK.kp{nm qual:Str}{params:cZ}{body:eS}{scope:Scope}{fv:List (Str×V)}(h:yK H f nm qual params body scope fv)(mu:∀x∈S,∃u,H x=some u/\xaC u)(k:Kp S H H'):yK H' f nm qual params body scope fv:=by
 have e:∀b u,H b=some u->¬xaC u->H' b=some u:=λb u q n=>k b u q λz=>by
  obtain⟨u',q',m⟩:=mu b z;rw[q]at q';cases q';exact n m
 obtain⟨clos,c,o,u,u',vs,t,doc,pm,kP,h1,h2,h3,h4,h5,h6,h7,h8⟩:=h;exact⟨clos,c,o,u,u',vs,t,doc,pm,kP,e _ _ h1 (λz=>z),e _ _ h2 (λz=>z),h3,h4,h5,h6,λx v m=>let⟨a,q1,q2⟩:=h7 x v m;⟨a,q1,e _ _ q2 (λz=>z)⟩,λx a q=>let⟨v,q2⟩:=h8 x a q;⟨v,e _ _ q2 (λz=>z)⟩⟩
abbrev zN(n:Int)(fl:V):List (Str×V):=[("asked",.int n),("fall",fl)]
def xmb(a:Adr):Sp:=λvs H Q _=>Ex3 λ(p dp:Addr) (fl:V)=>vs=[.ref p,fl]/\H p=some (.ins a.q0k dp [])/\Q .non (upd H p (.ins a.q0k dp (zN 0 fl)))
def xb5:Stmt->Expr
 | .Expr v _=>v
 |_=>.Constant .none 0 ⟨0,0,0,0⟩
abbrev MuL(H:Hp)(L:List Addr):Prop:=∀x∈L,∃u,H x=some u/\xaC u
structure FM where
 f:Addr
 M:List Addr
 lim:Int
 fo:Nat->Int->Option (Option Int)
 At:Hp->Nat->Int->Prop
 keep:∀{H H':Hp} {L:List Addr} {k:Nat} {n:Int},At H k n->Kp L H H'->MuL H L->(∀x∈L,x∉M)->At H' k n
 mu:∀{H:Hp} {k:Nat} {n:Int},At H k n->MuL H M
def xnF(H:Hp)(v:V):Option (Option Int)->Prop
 |none=>v= .non
 |some none=>∃t,v= .ref t/\H t=some (.tup [])
 |some (some x)=>∃t,v= .ref t/\H t=some (.tup [.int x])
def nf(o:Option (Option Int)):Nat:=if o.isSome then 1 else 0
structure ua(P:aH)(w:World)(K:aq)(mg:Str->Option Value)(base:Heap)(F:FM):Prop where
 run:∀{H:Hp} {k:Nat} {n:Int} {Q:VK},F.At H k n->0<=n/\n<F.lim->(∀v H',Kp F.M H H'->xnF H' v (F.fo k n)->F.At H' (k+nf (F.fo k n)) (n+1)->Q v H')->FnV P w K mg base 3 H F.f [.int n] Q
 clo:∀{H:Hp} {k:Nat} {n:Int},F.At H k n->Ex6 λnm qual params body scope fv=>yK H F.f nm qual params body scope fv
def xcY(P:aH)(w:World)(K:aq)(mg:Str->Option Value)(base:Heap)(H:Hp)(g:Addr)(tf:Int->V):Prop:=∃nm qual params body scope ps sp fv,yV P w K mg base CX0 1 nm qual params body scope ps sp/\yK H g nm qual params body scope fv/\∀(s:Int) (H':Hp) (Q:VK),Q (tf s) H'->sp fv [.int s] H' Q E0
def xcY.fnv{s:Int}(h:xcY P w K mg base H g tf)(q:Q (tf s) H):FnV P w K mg base 1 H g [.int s] Q:=by
 obtain⟨nm,qual,params,body,scope,ps,sp,fv,h1,h2,h3⟩:=h;exact⟨_,_,_,_,_,_,_,_,h1,h2,h3 s H Q q⟩
def xcY.clo(h:xcY P w K mg base H g tf):Ex6 λnm qual params body scope fv=>yK H g nm qual params body scope fv:=by
 obtain⟨nm,qual,params,body,scope,ps,sp,fv,_,h2,_⟩:=h;exact⟨_,_,_,_,_,_,h2⟩
def xcY.kp(h:xcY P w K mg base H g tf)(mu:MuL H S)(k:Kp S H H'):xcY P w K mg base H' g tf:=by
 obtain⟨nm,qual,params,body,scope,ps,sp,fv,h1,h2,h3⟩:=h;exact⟨_,_,_,_,_,_,_,_,h1,yK.kp h2 mu k,h3⟩
inductive Slot:HO->V->(V->HO)->Prop
 |lst (xs:List V) (i:Int):0<=i->i<xs.length->Slot (.lst xs) (.int i) (λv=>.lst (xs.set i.toNat v))
 |dK (k:Key) (kvs:List (Key×V)):kvs.length<100->Slot (.dK kvs) (kV k) (λv=>.dK (putK kvs k v))
theorem Slot.mu{o:HO}{at':V}{st:V->HO}(h:Slot o at' st):xaC o/\(∀v,xaC (st v))/\(∀C dx fs,o≠.ins C dx fs):=by
 cases h with
 |lst xs i _ _=>exact⟨trivial,λ_=>trivial,λ_ _ _ z=>by cases z⟩
 |dK k kvs _=>exact⟨trivial,λ_=>trivial,λ_ _ _ z=>by cases z⟩
def xqT(o:HO)(st:V->HO)(tf:Int->V):Option Int->HO
 |none=>o
 |some x=>st (tf x)
def xjX(P:aH)(w:World)(K:aq)(mg:Str->Option Value)(base:Heap)(a:Adr):Sp:=λvs H Q _=>Ex6 λ(F:FM) (p dp:Addr) (n m:Int) (k:Nat)=>vs=[.ref p,.int n]/\ua P w K mg base F/\H p=some (.ins a.q0k dp (zN m (.ref F.f)))/\F.At H k n/\(0<=n/\n<F.lim)/\
 ∀v H',Kp F.M H H'->xnF H' v (F.fo k n)->F.At H' (k+nf (F.fo k n)) (n+1)->Q v H'
inductive xfu(P:aH)(w:World)(K:aq)(mg:Str->Option Value)(base:Heap)(a:Adr)(vs:List V)(H:Hp)(Q:VK)(E:XK):Prop
 |mk (F:FM) (p dp l g:Addr) (at' val:V) (o:HO) (st:V->HO) (n:Int) (k:Nat) (tf:Int->V):vs=[.ref p,.ref l,at',val,.ref g]->ua P w K mg base F->H p=some (.ins a.q0k dp (zN n (.ref F.f)))->0<=n/\n<F.lim->F.At H k n->p∉F.M->l∉F.M->xcY P w K mg base H g tf->H l=some o->Slot o at' st->
  (F.fo k n=none->∀H',Kp (p::l::F.M) H H'->H' p=some (.ins a.q0k dp (zN (n+1) (.ref F.f)))->F.At H' k (n+1)->H' l=some (st val)->Q .non H')->
  (∀an,F.fo k n=some an->∀d H',Kp (p::l::F.M) H H'->H' p=some (.ins a.q0k dp (zN (n+1) (.ref F.f)))->F.At H' (k+1) (n+1)->H' l=some (xqT o st tf an)->H d=none->H' d=some (.xd [("count",.int n)])->E (.ref a.q0d) (some d) H')->
  xfu P w K mg base a vs H Q E
def xk1(P:aH)(w:World)(K:aq)(mg:Str->Option Value)(base:Heap)(a:Adr):Sp:=xfu P w K mg base a
structure SA where
 st:Addr
 dx:Addr
 ca:Addr
 na:Addr
 p:Addr
 dp:Addr
def nV:Option Int->V
 |none=>.non
 |some i=>.int i
abbrev SS(S:SA):List Addr:=[S.ca,S.na,S.p]
noncomputable abbrev stF(S:SA):List (Str×V):=[("cells",.ref S.ca),("notes",.ref S.na),("pen",.ref S.p)]
structure ug(a:Adr)(H:Hp)(S:SA)(cells:List Int)(notes:List (Option Int))(n:Int)(fl:V):Prop where
 st:H S.st=some (.ins a.q0f S.dx (stF S))
 ca:H S.ca=some (.lst (cells.map V.int))
 na:H S.na=some (.lst (notes.map nV))
 p:H S.p=some (.ins a.q0k S.dp (zN n fl))
 ne:S.ca≠S.na
 np:S.p≠S.st
def ug.mu{S:SA}{fl:V}(h:ug a H S cells notes n fl):∀x∈SS S,∃u,H x=some u/\xaC u:=by
 intro x hx;simp only[av,aV,or_false]at hx;rcases hx with rfl|rfl|rfl
 ·exact⟨_,h.ca,trivial⟩
 ·exact⟨_,h.na,trivial⟩
 ·exact⟨_,h.p,trivial⟩
def ug.kp0{S:SA}{fl:V}(h:ug a H S cells notes n fl)(k:Kp L H H')(d:∀x∈L,x≠S.st/\x≠S.ca/\x≠S.na/\x≠S.p):ug a H' S cells notes n fl:=
 ⟨k _ _ h.st (λz=>(d _ z).1 rfl),k _ _ h.ca (λz=>(d _ z).2.1 rfl),k _ _ h.na (λz=>(d _ z).2.2.1 rfl),k _ _ h.p (λz=>(d _ z).2.2.2 rfl),h.ne,h.np⟩
def ug.same{S:SA}{fl:V}(h:ug a H S cells notes n fl)(s:xj H H'):ug a H' S cells notes n fl:=
 h.kp0 (L:=[]) (Kp.of s) (λ_ z=>nomatch z)
abbrev inR(cells:List Int)(i:Int):Prop:=0<=i/\i<cells.length
def xjY(K:aq)(a:Adr):Sp:=λvs H Q _=>Ex5 λ(st dx l:Addr) (cells:List Int) (fl:V)=>vs=[.ref st,.ref l,fl]/\H st=some (.ins a.q0f dx [])/\H l=some (.lst (cells.map V.int))/\
 ∀(S:SA) (H':Hp),S.st=st->Kp [st] H H'->ug a H' S cells [some 0,some 0] 0 fl->H S.ca=none->H S.na=none->H S.p=none->Q .non H'
def xrH(a:Adr):Sp:=λvs H Q _=>Ex5 λ(S:SA) (cells:List Int) (notes:List (Option Int)) (n:Int) (fl:V)=>vs=[.ref S.st]/\ug a H S cells notes n fl/\∀t c m H',xj H H'->H c=none->H m=none->c≠m->H' t=some (.tup [.ref c,.ref m,.int n])->H' c=some (.lst (cells.map V.int))->H' m=some (.lst (notes.map nV))->Q (.ref t) H'
def uI(notes:List (Option Int))(m:Int):Prop:=(notes.filterMap id=[]->m=0)/\(notes.filterMap id≠[]->m∈notes.filterMap id/\∀x∈notes.filterMap id,x<=m)
def uI.uniq{m m':Int}(h:uI notes m)(h':uI notes m'):m=m':=by
 by_cases e:notes.filterMap id=[]
 ·rw[h.1 e,h'.1 e]
 ·have a:=h.2 e;have b:=h'.2 e;have:=a.2 _ b.1;have:=b.2 _ a.1;lia
def xo4(a:Adr):Sp:=λvs H Q _=>Ex5 λ(S:SA) (cells:List Int) (notes:List (Option Int)) (n:Int) (fl:V)=>vs=[.ref S.st]/\ug a H S cells notes n fl/\notes.length=2/\∀m H',xj H H'->uI notes m->Q (.int m) H'
local macro_rules| `(tactic|walk_at"w")=>`(tactic|(conv=>whnf))
local macro_rules| `(tactic|walk_at"few")=>`(tactic|first|exact Nat.lt_of_lt_of_le (xrj (n:=998) (by simp)) (by decide)|(simp;done))
local macro_rules| `(tactic|walk_at"pos")=>`(tactic|first|(show(0:Int)<_;decide)|(show(0:Int)<_;lia)|assumption)
local macro_rules| `(tactic|walk_at"same")=>`(tactic|first|exact xj.refl _|assumption|(refine' xj.trans ?sa ?sb;(case sb=>assumption);(case sa=>walk_at"same")))
local macro_rules| `(tactic|walk_at"get")=>`(tactic|first|assumption|exact xp|(refine' xj.at ?ga ?gb;(case gb=>assumption);(case ga=>walk_at"same")))
local macro_rules| `(tactic|walk_at"sq")=>`(tactic|first|assumption|(refine' SqL.of ?g;(case g=>walk_at"get"))|(refine' SqT.of ?g;(case g=>walk_at"get"))|(refine' xj.seq ?sa ?sb;(case sb=>assumption);(case sa=>walk_at"same"))|(refine' xj.seqT ?sa ?sb;(case sb=>assumption);(case sa=>walk_at"same"))|(refine' Or.inl ?g;(case g=>walk_at"sq"))|(refine' Or.inr ?g;(case g=>walk_at"sq")))
local macro_rules| `(tactic|walk_at"no")=>`(tactic|(intro z;first|cases z|(simp at z;done)))
local macro_rules| `(tactic|walk_at"mul")=>`(tactic|first|exact Or.inl ⟨by decide,by decide⟩|exact Or.inr ⟨by decide,by decide⟩|exact Or.inl ⟨by lia,by lia⟩|exact Or.inr ⟨by lia,by lia⟩)
local macro_rules| `(tactic|walk_at"side")=>`(tactic|first|exact⟨by decide,by decide⟩|exact⟨by decide,by decide,by decide⟩|walk_at"pos" |walk_at"mul" |(show(_:Nat)<=sizeLine;first|decide|(simp only[List.length_cons,List.length_nil];decide)))
local macro_rules| `(tactic|walk_at"s")=>`(tactic|(refine And.intro (by walk_at"side") ?_;walk_at"w"))
local macro_rules| `(tactic|walk_at"ss")=>`(tactic|(repeat (walk_at"s")))
local macro_rules| `(tactic|walk_at"N")=>`(tactic|refine⟨by walk_at"no",λ_=>?_⟩)
local macro_rules| `(tactic|walk_at"Y")=>`(tactic|refine⟨λ_=>?_,by walk_at"no"⟩)
local macro_rules| `(tactic|walk_at"n")=>`(tactic|(walk_at"N";walk_at"w"))
local macro_rules| `(tactic|walk_at"y")=>`(tactic|(walk_at"Y";walk_at"w"))
local macro_rules| `(tactic|walk_at"W")=>`(tactic|(walk_at"w";walk_at"ss"))
local macro_rules| `(tactic|exists$e:term)=>`(tactic|(refine $e;walk_at"w"))
local macro_rules| `(tactic|left)=>`(tactic|walk_at"w")
local macro_rules| `(tactic|right)=>`(tactic|walk_at"W")
def xiB(T:Txt K mg a):xE P w K mg base CX0 1 a.q1c a.jG ["self","count"] (xcd a.q0d "count"):=by
 refine T.q18.ok ji (λvs H Q E h=>?_) (λcdv A outer s H vs Q E hr h=>?_)
 ·obtain⟨p,v,rfl,_⟩:=h;rfl
 ·refine oG λ_ Z=>?_;obtain⟨p,v,rfl,hp,k⟩:=h;apply Z;have nd:=ji.nd;refine⟨_,(xk (xim (cv 0) (cv 1) rfl)),?_⟩;refine⟨p,_,_,rfl,hp,T.q3r,T.q1z,λd h1 h2=>?_⟩;exact k d h1 h2
def xhD(T:Txt K mg a):xnt P w K mg base 1 a.q1c a.jG ["self","count"] (λ_ _ _=>xcd a.q0d "count"):=by
 refine T.q18.okE ji (λae cls dx vs H Q E h=>?_) (λcdv A outer s H vs Q E qs ae cls dx hs hr h=>?_)
 ·obtain⟨p,v,rfl,_⟩:=h;rfl
 ·refine oG λ_ Z=>?_;obtain⟨p,v,rfl,hp,k⟩:=h;apply Z;have nd:=ji.nd;refine⟨_,(xk (xim (cv 0) (cv 1) rfl)),?_⟩;refine⟨p,_,_,rfl,hp,T.q3r,T.q1z,λd h1 h2=>?_⟩;exact k d h1 h2
def xge(T:Txt K mg a):xE P w K mg base CX0 1 a.q2y a.xea ["self","fall"] (xmb a):=by
 refine T.q3w.ok xgd (λvs H Q E h=>?_) (λcdv A outer s H vs Q E hr h=>?_)
 ·obtain⟨p,dp,fl,rfl,_⟩:=h;rfl
 ·refine oG λ_ Z=>?_;obtain⟨p,dp,fl,rfl,hp,k⟩:=h;apply Z;have nd:=xgd.nd;refine⟨_,(xf (yC (cv 0) xg rfl)
  (xk (yC (cv 0) (cv 1) rfl))),?_⟩
  refine⟨p,_,dp,_,rfl,hp,T.q3B,T.q2X,by walk_at"few",?_⟩;refine⟨p,_,dp,_,rfl,xp,T.q3B,T.q38,by walk_at"few",?_⟩;left;rw[uh];exact k
def xdK(T:Txt K mg a):xE P w K mg base CX0 4 a.q0s a.uY ["self","count"] (xjX P w K mg base a):=by
 refine T.q0Y.ok xaa (λvs H Q E h=>?_) (λcdv A outer s H vs Q E hr h=>?_)
 ·obtain⟨F,p,dp,n,m,k,rfl,_⟩:=h;rfl
 ·refine oG λ_ Z=>?_;obtain⟨F,p,dp,n,m,k,rfl,hF,hp,kP,hn,q⟩:=h;apply Z;have nd:=xaa.nd;refine⟨_,(xf (xC (i:=2) nd rfl (az rfl) (xB (cv 0) rfl))
  (xf (xS (xbe (cv 2)) (xk (xv yO)) xF)
  (xk (xv (xkz (k:=3) 2 hr.m (xa (cv 1) xc)))))),?_⟩
  refine⟨p,_,dp,_,.ref F.f,rfl,hp,T.q3B,T.q38,rfl,?_⟩;walk_at"N";exists⟨F.f,rfl,hF.clo kP,?_⟩;exact hF.run kP hn q
theorem jx(T:Txt K mg a):xE P w K mg base (CXN P w) 5 a.q0P a.jQ ["self","kept","at","value","torn"] (xk1 P w K mg base a):=by
 refine T.q1Q.okX xbO (λvs H Q E h=>?_) (λcdv A outer s H vs Q E hr h=>?_)
 ·obtain⟨F,p,dp,l,g,at',val,o,st,n,k,tf,rfl,_⟩:=h;rfl
 ·refine oG λ_ Z=>?_;obtain⟨F,p,dp,l,g,at',val,o,st,n,k,tf,rfl,hF,hp,hn,lp,lg,la,ht,hl,hs,q1,q2⟩:=h;apply Z;have nd:=xbO.nd;refine⟨_,(xf (xC (i:=5) nd rfl (az rfl) (xB (cv 0) rfl))
  (xf (yC (cv 0) (xx ym (cv 5) xg) rfl)
  (xf (xC (i:=6) nd rfl (az rfl) (za (cv 0) T.q3B T.q22 (xdK T) hr.m T.xeb .nil xt (xa (cv 5) xc)))
  (xf (xS (xbe (cv 6)) (xf (xdu (cv 3) (xgR (cv 1) (cv 2) (xju (jb hr))))
  (xk xq1)) xF)
  (xf (yD (xS (xN xa5 (xI xQ (by rfl) T.q0O yu (xa (cv 6) xc)) xg) (xk (xdu (xkz (k:=1) 4 hr.m (xa (xM xT (cv 6) xg (λ_ _=>rfl)) xc)) (xgR (cv 1) (cv 2) (xju (jb hr))))) xF))
  (xk (xjt (k:=1) ⟨rfl,rfl,rfl⟩ rfl T.q3r (xiB T) hr.m T.xev (by rfl) T.xcB (xa (cv 5) xc)))))))),?_⟩
  have kS:l≠p:=λz=>by
   rw[z,hp]at hl;exact hs.mu.2.2 _ _ _ (bt hl).symm
  have lq:MuL H [p]:=λx hx=>by rw[aj.mp hx];exact⟨_,hp,trivial⟩
  refine⟨p,_,dp,_,.int n,rfl,hp,T.q3B,T.q2X,rfl,?_⟩;refine⟨p,_,dp,_,rfl,hp,T.q3B,T.q2X,by walk_at"few",?_⟩;refine gnr (upd H p _) λH1 hU=>?_;have c1:Kp [p] H H1:=by rw[<-hU];exact(Kp.of (xj.refl _)).wr (by simp)
  have kZ:H1 p=some (.ins a.q0k dp (zN (n+1) (.ref F.f))):=by rw[<-hU,xp];rfl
  have lh:H1 l=some o:=by rw[<-hU,xm kS];exact hl
  clear hU;have kX:=F.keep lp c1 lq (λx hx=>by rw[aj.mp hx];exact lg);refine⟨p,dp,_,rfl,kZ,rfl,?_⟩;refine⟨F,p,dp,n,_,k,rfl,hF,kZ,kX,hn,λv H2 k2 hv kQ=>?_⟩;have lr:MuL H (p::l::F.M):=λx hx=>by
   rcases av.mp hx with rfl|hx
   ·exact⟨_,hp,trivial⟩
   rcases av.mp hx with rfl|hx
   ·exact⟨_,hl,hs.mu.1⟩
   ·exact F.mu lp x hx
  have kk:Kp (p::l::F.M) H H2:=(c1.mono (λx hx=>by rw[aj.mp hx];simp)).trans (k2.mono λx hx=>by simp[hx]);have kT:=k2 _ _ kZ lg;have kR:=k2 _ _ lh la;have lb:=ht.kp lr kk;clear c1 kZ lh k2 kX;cases kW:F.fo k n with
  |none=>
   rw[kW]at hv kQ;obtain rfl:v= .non:=hv;walk_at"y";have kP:∀H3,Kp [l] H2 H3->F.At H3 k (n+1):=λH3 z=>F.keep kQ z (λx hx=>by rw[aj.mp hx];exact⟨_,kR,hs.mu.1⟩) (λx hx=>by rw[aj.mp hx];exact la);cases hs with
   |lst xs i h0 hi=>
    refine .inl ⟨l,xs,i,_,rfl,rfl,kR,xhc h0 hi,?_⟩;exact q1 kW _ (kk.wr (by simp)) (by rw[xm (au kS)];exact kT) (kP _ ((Kp.of (xj.refl _)).wr (by simp))) xp
   |dK ky kvs h0=>
    refine .inr ⟨l,_,rfl,.inl ⟨kvs,ky,kR,rfl,by rw[aZ];lia,rfl⟩,?_⟩;exact q1 kW _ (kk.wr (by simp)) (by rw[xm (au kS)];exact kT) (kP _ ((Kp.of (xj.refl _)).wr (by simp))) xp
  |some an=>
   rw[kW]at hv kQ;have kQ:F.At H2 (k+1) (n+1):=kQ;have q2:=q2 an kW;have back:∀(H3:Hp) (d:Addr),Kp (p::l::F.M) H H3->H3 p=some (.ins a.q0k dp (zN (n+1) (.ref F.f)))->F.At H3 (k+1) (n+1)->(∃u,H3 l=some u)->H3 d=none->H d=none:=λH3 d k3 ly kP lz hd=>by
    cases z:H d with
    |none=>rfl
    |some u=>
     by_cases hm:d∈p::l::F.M
     ·rcases av.mp hm with e|hm
      ·rw[e,ly]at hd;cases hd
      rcases av.mp hm with e|hm
      ·obtain⟨u,hu⟩:=lz;rw[e,hu]at hd;cases hd
      ·obtain⟨u,hu,_⟩:=F.mu kP _ hm;rw[hu]at hd;cases hd
     ·rw[k3 d u z hm]at hd;cases hd
   have fin:∀(H3:Hp),Kp (p::l::F.M) H H3->H3 p=some (.ins a.q0k dp (zN (n+1) (.ref F.f)))->F.At H3 (k+1) (n+1)->H3 l=some (xqT o st tf an)->∀d,H3 d=none->E (.ref a.q0d) (some d) (upd H3 d (.xd [("count",.int n)])):=λH3 z1 z2 z3 z4 d hd=>by
    have ll:=back H3 d z1 z2 z3 ⟨_,z4⟩ hd;exact q2 d _ (z1.mk ll) (by rw[xm (xG z2 hd)];exact z2) (F.keep (L:=[]) z3 (Kp.of (xj.new hd)) (λ_ z=>nomatch z) (λ_ z=>nomatch z)) (by rw[xm (xG z4 hd)];exact z4) ll xp
   cases an with
   |none=>
    refine oG λ_ Z=>?_;obtain⟨ta,rfl,kY⟩:=hv;apply Z;walk_at"N";refine⟨λσ' H'=>σ'=[some (.ref p),some (.ref l),some at',some val,some (.ref g),some (.int n),some (.ref ta)]/\H'=H2,?_,?_⟩
    ·refine⟨ta,_,rfl,.inr (SqT.of kY),?_⟩;refine⟨by walk_at"no",λ_=>⟨rfl,rfl⟩⟩
    ·rintro σ' H' ⟨rfl,rfl⟩;exact⟨.int n,rfl,fin _ kk kT kQ kR⟩
   |some s1=>
    refine oG λ_ Z=>?_;obtain⟨ta,rfl,kY⟩:=hv;apply Z;walk_at"N";refine⟨λσ' H'=>σ'=[some (.ref p),some (.ref l),some at',some val,some (.ref g),some (.int n),some (.ref ta)]/\Kp (p::l::F.M) H H'/\H' p=some (.ins a.q0k dp (zN (n+1) (.ref F.f)))/\F.At H' (k+1) (n+1)/\H' l=some (st (tf s1)),?_,?_⟩
    ·refine⟨ta,_,rfl,.inr (SqT.of kY),?_⟩;walk_at"Y";refine⟨g,rfl,lb.clo,?_⟩;exists⟨ta,_,0,.int s1,rfl,rfl,SqT.of kY,rfl,?_⟩;exists lb.fnv ?_;have kP:∀H3,Kp [l] H2 H3->F.At H3 (k+1) (n+1):=λH3 z=>F.keep kQ z (λx hx=>by rw[aj.mp hx];exact⟨_,kR,hs.mu.1⟩) (λx hx=>by rw[aj.mp hx];exact la);cases hs with
     |lst xs i h0 hi=>
      refine .inl ⟨l,xs,i,_,rfl,rfl,kR,xhc h0 hi,?_⟩;exact⟨rfl,kk.wr (by simp),by rw[xm (au kS)];exact kT,kP _ ((Kp.of (xj.refl _)).wr (by simp)),xp⟩
     |dK ky kvs h0=>
      refine .inr ⟨l,_,rfl,.inl ⟨kvs,ky,kR,rfl,by rw[aZ];lia,rfl⟩,?_⟩;exact⟨rfl,kk.wr (by simp),by rw[xm (au kS)];exact kT,kP _ ((Kp.of (xj.refl _)).wr (by simp)),xp⟩
    ·rintro σ' H' ⟨rfl,z1,z2,z3,z4⟩;exact⟨.int n,rfl,fin _ z1 z2 z3 z4⟩
def xjZ(T:Txt K mg a):xE P w K mg base CX0 3 a.q1u a.xar ["self","cells","fall"] (xjY K a):=by
 refine T.vS.ok xeD (λvs H Q E h=>?_) (λcdv A outer s H vs Q E hr h=>?_)
 ·obtain⟨st,dx,l,cells,fl,rfl,_⟩:=h;rfl
 ·refine oG λ_ Z=>?_;obtain⟨st,dx,l,cells,fl,rfl,kS,hl,k⟩:=h;apply Z;have nd:=xeD.nd;refine⟨_,(xf (yC (cv 0) (xW zu (by rfl) T.q2n zS (xa (cv 1) xc)) rfl)
  (xf (yC (cv 0) (xX (xa xg (xa xg xc))) rfl)
  (xk (yC (cv 0) (xaM T.q49 (xge T) hr.m (by rfl) T.xqS T.xhu .nil xt (xa (cv 2) xc)) rfl)))),?_⟩
  refine⟨l,_,rfl,.inl (SqL.of hl),?_⟩;intro ca kR;refine⟨st,_,dx,_,rfl,by rw[xm (xG kS kR)];exact kS,T.q0m,T.q1R,by walk_at"few",?_⟩;refine gnr (upd (upd H ca _) st _) λH1 kQ=>?_;have k1:Kp [st] H H1:=by rw[<-kQ];exact((Kp.of (xj.refl _)).mk kR).wr (by simp)
  have f1:H1 st=some (.ins a.q0f dx [("cells",.ref ca)]):=by rw[<-kQ,xp];rfl
  have g1:H1 ca=some (.lst (cells.map V.int)):=by rw[<-kQ,xm (au (xG kS kR)),xp]
  have b1:∀b,H1 b=none->H b=none/\b≠st/\b≠ca:=λb hb=>by
   have n1:b≠st:=λz=>by rw[z,f1]at hb;cases hb
   have n2:b≠ca:=λz=>by rw[z,g1]at hb;cases hb
   rw[<-kQ,xm n1,xm n2]at hb;exact⟨hb,n1,n2⟩
  clear kQ;right;intro na kY;refine oG λ_ Z=>?_;obtain⟨kX,kW,kT⟩:=b1 na kY;apply Z;refine⟨st,_,dx,_,rfl,by rw[xm (xG f1 kY)];exact f1,T.q0m,T.q2h,by walk_at"few",?_⟩;refine gnr (upd (upd H1 na _) st _) λH2 kP=>?_;have k2:Kp [st] H H2:=by rw[<-kP];exact(k1.mk kX).wr (by simp)
  have f2:H2 st=some (.ins a.q0f dx [("cells",.ref ca),("notes",.ref na)]):=by rw[<-kP,xp];rfl
  have g2:H2 ca=some (.lst (cells.map V.int)):=by rw[<-kP,xm (xcO g1 f1 (by intro z;cases z)),xm (au kT)];exact g1
  have m2:H2 na=some (.lst ([some 0,some 0].map nV)):=by rw[<-kP,xm kW,xp];rfl
  have b2:∀b,H2 b=none->H b=none/\b≠st/\b≠ca/\b≠na:=λb hb=>by
   have n1:b≠st:=λz=>by rw[z,f2]at hb;cases hb
   have n3:b≠na:=λz=>by rw[z,m2]at hb;cases hb
   rw[<-kP,xm n1,xm n3]at hb;exact⟨(b1 b hb).1,n1,(b1 b hb).2.2,n3⟩
  clear kP b1;left;intro p dp hp kZ la;refine oG λ_ Z=>?_;obtain⟨p0,p1,p2,p3⟩:=b2 p hp;obtain⟨q0,q1,q2,q3⟩:=b2 dp kZ;apply Z;refine⟨p,dp,fl,rfl,xp,?_⟩;exists⟨rfl,?_⟩;rw[uh];have e3:∀b,b≠p->b≠dp->∀o o',upd (upd H2 dp o) p o' b=H2 b:=λb n1 n2 o o'=>by rw[xm n1,xm n2]
  refine⟨st,_,dx,_,rfl,by rw[e3 _ (au p1) (au q1)];exact f2,T.q0m,T.q2l,by walk_at"few",?_⟩;refine k ⟨st,dx,ca,na,p,dp⟩ _ rfl (((k2.mk q0).mk p0).wr (by simp)) ⟨?_,?_,?_,?_,au kT,p1⟩ kR kX p0
  ·rw[xp];rfl
  ·rw[xm (xcO g2 f2 (by intro z;cases z)),e3 _ (au p2) (au q2)];exact g2
  ·rw[xm kW,e3 _ (au p3) (au q3)];exact m2
  ·rw[xm p1,xp]
def xeL(T:Txt K mg a):xE P w K mg base CX0 1 a.q1Z a.xcx ["self"] (xrH a):=by
 refine T.q2U.ok xeG (λvs H Q E h=>?_) (λcdv A outer s H vs Q E hr h=>?_)
 ·obtain⟨S,cells,notes,n,fl,rfl,_⟩:=h;rfl
 ·refine oG λ_ Z=>?_;obtain⟨S,cells,notes,n,fl,rfl,hS,k⟩:=h;apply Z;have nd:=xeG.nd;refine⟨_,(xk (xv (xR (xa (xW zu (by rfl) T.q2n zS (xa (xB (cv 0) rfl) xc)) (xa (xW zu (by rfl) T.q2n zS (xa (xB (cv 0) rfl) xc)) (xa (xB (xB (cv 0) rfl) rfl) xc)))))),?_⟩;refine⟨S.st,_,S.dx,_,.ref S.ca,rfl,hS.st,T.q0m,T.q1R,rfl,?_⟩;refine⟨S.ca,_,rfl,.inl (SqL.of hS.ca),?_⟩;exists λc hc=>xw (upd H c _) rfl hc λH1 kR ec=>?_;have kS:=hS.same kR;refine⟨S.st,_,S.dx,_,.ref S.na,rfl,kS.st,T.q0m,T.q2h,rfl,?_⟩;refine⟨S.na,_,rfl,.inl (SqL.of kS.na),?_⟩;exists λm hm=>xw (upd H1 m _) rfl hm λH2 kQ em=>?_;have kT:=kS.same kQ;refine⟨S.st,_,S.dx,_,.ref S.p,rfl,kT.st,T.q0m,T.q2l,rfl,?_⟩;exists⟨S.p,_,S.dp,_,.int n,rfl,kT.p,T.q3B,T.q2X,rfl,?_⟩;walk_at"ss";exists λt ht=>xw (upd H2 t _) rfl ht λH3 kP et=>?_;exact k t c m H3 (kR.trans (kQ.trans kP)) hc (kR.back hm) (xG ec hm) et (kP.at (kQ.at ec)) (kP.at em)
theorem xef:∀notes:List (Option Int),((notes.map nV).filter λv=> !(isN v)).map (λv=>v)=(notes.filterMap id).map V.int
 |[]=>rfl
 |none::r=>by
  have:=xef r;simpa [nV,isN]using this
 |some i::r=>by
  have:=xef r;simpa [nV,isN]using this
def xiC(T:Txt K mg a):xE P w K mg base CX0 1 a.q1J a.xbF ["self"] (xo4 a):=by
 refine T.q2s.ok xdG (λvs H Q E h=>?_) (λcdv A outer s H vs Q E hr h=>?_)
 ·obtain⟨S,cells,notes,n,fl,rfl,_⟩:=h;rfl
 ·refine oG λ_ Z=>?_;obtain⟨S,cells,notes,n,fl,rfl,hS,h2,k⟩:=h;apply Z;have nd:=xdG.nd;refine⟨_,(xk (xv (xro rfl (by rfl) T.q4Z (xa (xb3 (xae (cap:=[]) (ys:=[]) rfl rfl rfl rfl rfl trivial (by decide+kernel)) rfl (zx (xB (cv 0) rfl)) (λ_ _ _ _=>(cv 0)) (λ_ _ _ _=>(xrg (xfL (cv 0))))) xc) xg))),?_⟩;refine⟨S.st,_,S.dx,_,.ref S.na,rfl,hS.st,T.q0m,T.q2h,rfl,?_⟩;refine⟨S.na,rfl,⟨_,SqL.of hS.na⟩,?_⟩;refine xnj (λv=> !(isN v)) (λv=>v) (SqL.of hS.na) (by rw[ag,h2];decide) (λx H3 hx s3 R hR=>?_) (λx H3 hx hp s3 R hR=>?_) (λD H' hD s' e'=>?_)
  ·exact hR H3 (xj.refl _)
  ·exact hR H3 (xj.refl _)
  ·rw[xef]at e';exact⟨D,_,0,rfl,rfl,SqL.of e',λm h1 h2=>k m H' s' ⟨h1,h2⟩⟩
def xgf(T:Txt K mg a):xE P w K mg base CX0 1 a.q2v a.xd7 ["self","to"] (xl8 K):=by
 refine T.q3u.ok xf9 (λvs H Q E h=>?_) (λcdv A outer s H vs Q E hr h=>?_)
 ·obtain⟨p,C,dx,to,rfl,_⟩:=h;rfl
 ·refine oG λ_ Z=>?_;obtain⟨p,C,dx,to,rfl,hp,c,n1,n2,k⟩:=h;apply Z;have nd:=xf9.nd;refine⟨_,(xf (yC (cv 0) (cv 1) rfl)
  (xk (yC (cv 0) xg rfl))),?_⟩
  refine⟨p,C,dx,_,rfl,hp,c,n1,by walk_at"few",?_⟩;refine⟨p,C,dx,_,rfl,xp,c,n2,by walk_at"few",?_⟩;left;rw[uh];exact k
def xk2(T:Txt K mg a):xE P w K mg base CX0 2 a.q2d a.xdh ["self","to","start","count"] (xkY a):=by
 refine T.q3a.ok xfn (λvs H Q E h=>?_) (λcdv A outer s H vs Q E hr h=>?_)
 ·obtain⟨p,dx,to,st,c,rfl,_⟩:=h;rfl
 ·refine oG λ_ Z=>?_;obtain⟨p,dx,to,st,c,rfl,hp,k⟩:=h;apply Z;have nd:=xfn.nd;refine⟨_,(xf (xK (xms (by rfl) T.xqR T.q4a (xgf T) hr.m T.xhk .nil xt (xa (cv 0) (xa (cv 1) xc))))
  (xf (yC (cv 0) (cv 2) rfl)
  (xk (yC (cv 0) (cv 3) rfl)))),?_⟩
  refine⟨p,_,dx,to,rfl,hp,T.q0h,T.q01,T.q0V,?_⟩;refine⟨p,_,dx,_,rfl,xp,T.q0h,T.q0C,by walk_at"few",?_⟩;refine⟨p,_,dx,_,rfl,xp,T.q0h,T.q0V,by walk_at"few",?_⟩;left;rw[uh,uh];exact k
def xmc(T:Txt K mg a):xE P w K mg base CX0 2 a.q2w a.xd8 ["self","to","signs"] (xl9 K a):=by
 refine T.q3v.ok xga (λvs H Q E h=>?_) (λcdv A outer s H vs Q E hr h=>?_)
 ·obtain⟨p,dx,t,to,xs,rfl,_⟩:=h;rfl
 ·refine oG λ_ Z=>?_;obtain⟨p,dx,t,to,xs,rfl,hp,ht,k⟩:=h;apply Z;have nd:=xga.nd;have kP:∀o,SqT K (upd H p o) t xs:=λo=>xo1 ht hp;refine⟨_,(xf (xK (xms (by rfl) T.xqR T.q4a (xgf T) hr.m T.xhk .nil xt (xa (cv 0) (xa (cv 1) xc))))
  (xf (yC (cv 0) (xW yn (by rfl) T.q09 yP (xa (cv 2) xc)) rfl)
  (xk (yC (cv 0) (xI xQ (by rfl) T.q0O yu (xa (xB (cv 0) rfl) xc)) rfl)))),?_⟩
  refine⟨p,_,dx,to,rfl,hp,T.q1L,T.q24,T.q12,?_⟩;refine⟨t,xs,rfl,.inr ⟨kP _,?_⟩⟩;refine⟨p,_,dx,_,rfl,xp,T.q1L,T.q3q,by walk_at"few",?_⟩;refine⟨p,_,dx,_,.ref t,rfl,xp,T.q1L,T.q3q,rfl,?_⟩;refine⟨t,xs,rfl,.inr (xo1 (kP _) xp),?_⟩;refine⟨p,_,dx,_,rfl,xp,T.q1L,T.q12,by walk_at"few",?_⟩;left;rw[uh,uh];exact k
def zo(T:Txt K mg a):xE P w K mg base CX0 1 a.q0U a.xbC ["self"] (xee K):=by
 refine T.q2p.ok xdC (λvs H Q E h=>?_) (λcdv A outer s H vs Q E hr h=>?_)
 ·obtain⟨p,C,dx,fs,to,c,rfl,_⟩:=h;rfl
 ·refine oG λ_ Z=>?_;obtain⟨p,C,dx,fs,to,c,rfl,hp,cl,n1,n2,l1,l2,hc,k⟩:=h;apply Z;have nd:=xdC.nd;refine⟨_,(xk (xv (xW (ve rfl) (by rfl) T.q2n zS (xa (xcR (by rfl) T.q16 (xa (xB (cv 0) rfl) (xa (xx ym (xB (cv 0) rfl) (xB (cv 0) rfl)) xc))) xc)))),?_⟩;refine⟨p,C,dx,fs,_,rfl,hp,cl,n1,l1,?_⟩;refine⟨p,C,dx,fs,_,rfl,hp,cl,n1,l1,?_⟩;exists⟨p,C,dx,fs,_,rfl,hp,cl,n2,l2,?_⟩;intro r kP;left;have e:zg to (to+c) 1=c.toNat:=by rw[uB];congr 1;lia
  refine⟨r,to,to+c,rfl,xp,by rw[e];exact hc,λl hl=>?_⟩;rw[e,xfP];have kQ:H l=none:=xj.free (xj.new kP) hl;exact k l _ ((xj.new kP).put kQ) kQ xp
def xbJ(T:Txt K mg a):xE P w K mg base CX0 1 a.q1T a.xcq ["self"] (xp6 a):=by
 refine T.q2O.ok xey (λvs H Q E h=>?_) (λcdv A outer s H vs Q E hr h=>?_)
 ·obtain⟨p,dx,to,st,c,rfl,_⟩:=h;rfl
 ·refine oG λ_ Z=>?_;obtain⟨p,dx,to,st,c,rfl,hp,k⟩:=h;apply Z;have nd:=xey.nd;refine⟨_,(xk (xv (zb xa5 (xB (cv 0) rfl) (xB (cv 0) rfl)))),?_⟩;refine⟨p,_,dx,_,.int st,rfl,hp,T.q0h,T.q0C,rfl,?_⟩;refine⟨p,_,dx,_,.int to,rfl,hp,T.q0h,T.q01,rfl,?_⟩;exact k
def yv(T:Txt K mg a):xE P w K mg base CX0 1 a.q3i a.xfd ["_law_script","_law_k"] (xnE K):=by
 refine T.q0o.ok xhB (λvs H Q E h=>?_) (λcdv A outer s H vs Q E hr h=>?_)
 ·obtain⟨l,ns,k,rfl,_⟩:=h;rfl
 ·refine oG λ_ Z=>?_;obtain⟨l,ns,k,rfl,hl,hk,q⟩:=h;apply Z;have nd:=xhB.nd;refine⟨_,(xf (xS (xN xia (cv 1) (xI xQ (by rfl) T.q0O yu (xa (cv 0) xc))) (xk (xv (xM yx (cv 0) (cv 1) (λ_ _=>rfl)))) xF)
  (xk (xv xg))),?_⟩
  refine⟨l,_,rfl,.inl hl,?_⟩;refine⟨λe=>?_,λe=>?_⟩
  ·have e':=of_decide_eq_true e;rw[ag]at e';refine⟨l,_,k,.int (ns.getD k.toNat 0),rfl,rfl,hl,?_,?_⟩
   ·have kP:k.toNat<ns.length:=by lia
    have:=xh7 (xs:=ns.map V.int) (j:=k.toNat) (v:=.int (ns.getD k.toNat 0)) (by simp[kP])
    rwa [cb hk]at this
   ·left;rw[cellAt,if_pos e']at q;exact q
  ·have e':=of_decide_eq_false e;rw[ag]at e';rw[cellAt,if_neg e']at q;exact q
def xnG(x:Int):0<=x%2147483647/\x%2147483647<2147483647:=⟨ez _ (by decide),dn _ (by decide)⟩
def vW(T:Txt K mg a):xE P w K mg base CX0 1 a.q3U a.xit ["_law_cell","_law_k"] xp7:=by
 refine T.q15.ok xkV (λvs H Q E h=>?_) (λcdv A outer s H vs Q E hr h=>?_)
 ·obtain⟨c,k,rfl,_⟩:=h;rfl
 ·refine oG λ_ Z=>?_;obtain⟨c,k,rfl,q⟩:=h;apply Z;have nd:=xkV.nd;refine⟨_,(xf (xC (i:=2) nd rfl (az rfl) (xx yU (xx xfK (xx ym (xx ym (xx yU (cv 0) xg) (xx xfK xg (cv 1))) xg) xg) xg))
  (xk (xv (xx yU (xx xfK (cv 2) (xx ym (xx xeW (cv 2) xg) xg)) xg)))),?_⟩
  have b:=xnG ((c%2147483647+7919*k+1)*48271);refine⟨by walk_at"pos",?_⟩;refine⟨.inl ⟨by decide,by decide⟩,?_⟩;refine⟨.inr ⟨by decide,by decide⟩,?_⟩;refine⟨by walk_at"pos",?_⟩;refine⟨⟨by decide,by decide⟩,?_⟩;refine⟨.inl ⟨by lia,by lia⟩,?_⟩;refine⟨by walk_at"pos",?_⟩;exact q
def xgg(T:Txt K mg a):xE P w K mg base CX0 1 a.q25 a.xd9 ["value"] xma:=by
 refine T.q2A.ok xgb (λvs H Q E h=>?_) (λcdv A outer s H vs Q E hr h=>?_)
 ·obtain⟨i,rfl,_⟩:=h;rfl
 ·refine oG λ_ Z=>?_;obtain⟨i,rfl,q⟩:=h;apply Z;have nd:=xgb.nd;refine⟨_,(xk (xv (uK (xI vN (by rfl) T.q1D zE (xa (cv 0) (xa (xdt (v:=.ty "int") (by rfl) T.q4N xe0 rfl) xc))) (vL (xsB (xI vN (by rfl) T.q1D zE (xa (cv 0) (xa (xdt (v:=.ty "bool") (by rfl) T.q5E xri rfl) xc)))))))),?_⟩;refine⟨_,_,_,_,true,rfl,rfl,uA.int _,rfl,?_⟩;walk_at"Y";refine⟨_,_,_,_,false,rfl,rfl,uA.int _,rfl,?_⟩;exact q
def ub(T:Txt K mg a):xE P w K mg base CX0 2 a.q1q a.xan ["least","value"] xgz:=by
 refine T.q0v.ok xcD (λvs H Q E h=>?_) (λcdv A outer s H vs Q E hr h=>?_)
 ·obtain⟨l,i,rfl,_⟩:=h;rfl
 ·refine oG λ_ Z=>?_;obtain⟨l,i,rfl,q⟩:=h;apply Z;have nd:=xcD.nd;refine⟨_,(xk (xv (uK (xy (xgg T) hr.m (by rfl) T.xhn T.q2A.kp T.xhm .nil xt (xa (cv 1) xc)) (vL (zb xpQ (cv 1) (cv 0)))))),?_⟩;refine⟨i,rfl,?_⟩;exact⟨λ_=>q,by walk_at"no"⟩
def xnH(T:Txt K mg a):xE P w K mg base CX0 2 a.q3f a.xfa ["value"] xnD:=by
 refine T.q3k.ok xhy (λvs H Q E h=>?_) (λcdv A outer s H vs Q E hr h=>?_)
 ·obtain⟨i,rfl,_⟩:=h;rfl
 ·refine oG λ_ Z=>?_;obtain⟨i,rfl,hi,q⟩:=h;apply Z;have nd:=xhy.nd;refine⟨_,(xk (xv (uK (xy (xgg T) hr.m (by rfl) T.xhn T.q2A.kp T.xhm .nil xt (xa (cv 0) xc)) (vL (zb xia (xI xtz (by rfl) T.q5Z xsG (xa (cv 0) xc)) (xx xdT xg xg)))))),?_⟩;refine⟨i,rfl,?_⟩;walk_at"Y";refine⟨⟨by decide,by decide,by decide⟩,?_⟩;left;show Q (.bl (decide ((i.natAbs:Int)<10^(60:Int).toNat))) H;have e:decide ((i.natAbs:Int)<10^(60:Int).toNat)=true:=decide_eq_true hi;rw[e];exact q
theorem xk3(T:Txt K mg a):xE P w K mg base CX0 3 a.q2E a.xdk ["signs"] (xkZ K):=by
 refine T.q2J.ok xfq (λvs H Q E h=>?_) (λcdv A outer s H vs Q E hr h=>?_)
 ·obtain⟨u,sg,rfl,_⟩:=h;rfl
 ·refine oG λ_ Z=>?_;obtain⟨u,sg,rfl,hu,kR,hlen,hs,q⟩:=h;apply Z;have nd:=xfq.nd;refine⟨_,(xk (xv (uK (xI vN (by rfl) T.q1D zE (xa (cv 0) (xa (xdt (v:=.ty "tuple") (by rfl) T.q09 yP rfl) xc))) (uK (zb xc7 (xI xQ (by rfl) T.q0O yu (xa (cv 0) xc)) xg) (vL (xI (xoB rfl) (by rfl) T.q50 xsH (xa (xb3 (xae (cap:=[]) (ys:=[]) rfl rfl rfl rfl rfl trivial (by decide+kernel)) rfl (xgS (cv 0)) (λ_ _ _ _=>(xy (xnH T) hr.m (by rfl) T.xoO T.q3k.kp T.xoN .nil xt (xa (cv 0) xc))) (λ_ _ _ _=>jV)) xc))))))),?_⟩;refine⟨_,_,_,_,true,rfl,rfl,uA.tup hu,rfl,?_⟩;walk_at"Y";exists⟨u,_,rfl,.inr (SqT.of hu),?_⟩;have kQ:0<sg.length:=dX.mpr kR;refine⟨λ_=>?_,λz=>by have:=of_decide_eq_false z;rw[ag]at this;lia⟩;refine⟨u,rfl,⟨_,SqT.of hu⟩,?_⟩;refine xjr (λi acc _=>acc=ao i (V.bl true)) (SqT.of hu) (by rw[ag,aZ];lia) rfl (λi x acc H3 H3' hx s3 kP hp R hR=>?_) (λD acc H3 H3' hD kS s3 kP hp hl hv=>?_)
  ·rw[aF]at hx;cases hy:sg[i]? with
   |none=>rw[hy]at hx;cases hx
   |some y=>
    rw[hy]at hx;cases hx;refine⟨y,rfl,hs y (aK hy),hR _ _ (xj.refl _) λH6 _ _=>?_⟩;rw[hp,List.replicate_succ']
  ·refine⟨D,ao sg.length true,rfl,SqL.of ?_,?_⟩
   ·rw[hv,hp,ag,List.map_replicate]
   ·left;show Q (.bl ((ao sg.length true).all id)) H3';have e:(ao sg.length true).all id=true:=by simp
    rw[e];exact q _ (s3.trans kP)
theorem xj0(T:Txt K mg a):xE P w K mg base CX0 3 a.q2j a.xcu ["told"] (xjW K):=by
 refine T.q2k.ok xeC (λvs H Q E h=>?_) (λcdv A outer s H vs Q E hr h=>?_)
 ·obtain⟨t,r,rfl,_⟩:=h;rfl
 ·refine oG λ_ Z=>?_;obtain⟨t,r,rfl,ht,hk,q⟩:=h;apply Z;have nd:=xeC.nd;refine⟨_,(xf (xS (PW.pt (zq (xb7 (ur (xI vN (by rfl) T.q1D zE (xa (cv 0) (xa (xdt (v:=.ty "tuple") (by rfl) T.q09 yP rfl) xc))))) (zq (xN xbS (xI xQ (by rfl) T.q0O yu (xa (cv 0) xc)) xg) (uo (xN xdU (xM xT (cv 0) xg (λ_ _=>rfl)) xH))))) (xk (xv zL)) xF)
  (xk (xv (uK (xy (ub T) hr.m (by rfl) T.ux T.q0v.kp T.uw .nil xt (xa xg (xa (xM xT (cv 0) xg (λ_ _=>rfl)) xc))) (uK (xy (ub T) hr.m (by rfl) T.ux T.q0v.kp T.uw .nil xt (xa xg (xa (xM xT (cv 0) xg (λ_ _=>rfl)) xc))) (vL (xy (ub T) hr.m (by rfl) T.ux T.q0v.kp T.uw .nil xt (xa xg (xa (xM xT (cv 0) xg (λ_ _=>rfl)) xc))))))))),?_⟩
  cases r with
  |put to sg=>
   refine oG λ_ Z=>?_;obtain⟨u,h1,h2⟩:=ht;apply Z;refine⟨_,_,_,_,true,rfl,rfl,uA.tup h1,rfl,?_⟩;walk_at"N";refine⟨t,_,rfl,.inr (SqT.of h1),?_⟩;walk_at"Y";exact⟨λ_=>q,by walk_at"no"⟩
  |take to st c=>
   refine⟨_,_,_,_,true,rfl,rfl,uA.tup ht,rfl,?_⟩;walk_at"N";refine⟨t,_,rfl,.inr (SqT.of ht),?_⟩;walk_at"N";refine⟨t,_,_,.str "take",rfl,rfl,SqT.of ht,rfl,?_⟩;walk_at"n";refine oG λ_ Z=>?_;obtain⟨k1,k2,k3⟩:=hk;apply Z;refine⟨t,_,_,.int to,rfl,rfl,SqT.of ht,rfl,?_⟩;refine⟨_,_,rfl,?_⟩;refine⟨λ_=>?_,λz=>absurd k1 (of_decide_eq_false z)⟩;refine⟨t,_,_,.int st,rfl,rfl,SqT.of ht,rfl,?_⟩;refine⟨_,_,rfl,?_⟩;refine⟨λ_=>?_,λz=>absurd k2 (of_decide_eq_false z)⟩;refine⟨t,_,_,.int c,rfl,rfl,SqT.of ht,rfl,?_⟩;exists⟨_,_,rfl,?_⟩;rw[decide_eq_true k3];exact q
def xk4(T:Txt K mg a):xE P w K mg base CX0 4 a.q2D a.xdj ["told"] (xk0 K):=by
 refine T.q2I.ok xfp (λvs H Q E h=>?_) (λcdv A outer s H vs Q E hr h=>?_)
 ·obtain⟨t,to,sg,rfl,_⟩:=h;rfl
 ·refine oG λ_ Z=>?_;obtain⟨t,to,sg,rfl,⟨u,h1,h2⟩,⟨k1,k2,k3,k4⟩,q⟩:=h;apply Z;have nd:=xfp.nd;refine⟨_,(xf (xS (PW.pt (zq (xb7 (ur (xI vN (by rfl) T.q1D zE (xa (cv 0) (xa (xdt (v:=.ty "tuple") (by rfl) T.q09 yP rfl) xc))))) (zq (xN xbS (xI xQ (by rfl) T.q0O yu (xa (cv 0) xc)) xg) (uo (xN xdU (xM xT (cv 0) xg (λ_ _=>rfl)) xH))))) (xk (xv zL)) xF)
  (xk (xv (uK (xy (ub T) hr.m (by rfl) T.ux T.q0v.kp T.uw .nil xt (xa xg (xa (xM xT (cv 0) xg (λ_ _=>rfl)) xc))) (vL (xy (xk3 T) hr.m (by rfl) T.xlX T.q2J.kp T.xlW .nil xt (xa (xM xT (cv 0) xg (λ_ _=>rfl)) xc))))))),?_⟩
  refine⟨_,_,_,_,true,rfl,rfl,uA.tup h1,rfl,?_⟩;walk_at"N";refine⟨t,_,rfl,.inr (SqT.of h1),?_⟩;walk_at"N";refine⟨t,_,_,.str "put",rfl,rfl,SqT.of h1,rfl,?_⟩;walk_at"N";refine⟨t,_,_,.int to,rfl,rfl,SqT.of h1,rfl,?_⟩;refine⟨_,_,rfl,?_⟩;refine⟨λ_=>?_,λz=>absurd k1 (of_decide_eq_false z)⟩;refine⟨t,_,_,.ref u,rfl,rfl,SqT.of h1,rfl,?_⟩;exact⟨u,sg,rfl,h2,k2,k3,k4,q⟩
theorem xad(T:Txt K mg a):xE P w K mg base CX0 5 a.q3E a.xgs ["told"] (xbm K a):=by
 refine T.q19.ok xjx (λvs H Q E h=>?_) (λcdv A outer s H vs Q E hr h=>?_)
 ·obtain⟨t,r,rfl,_⟩:=h;rfl
 ·refine oG λ_ Z=>?_;obtain⟨t,r,rfl,ht,hk,q⟩:=h;apply Z;have nd:=xjx.nd;refine⟨_,(xf (xS (ur (xy (xj0 T) hr.m (by rfl) T.xkM T.q2k.kp T.xkL .nil xt (xa (cv 0) xc))) (xk (xv (xaM T.q5g (xk2 T) hr.m (by rfl) T.xkR T.xlS .nil xt (xa (xM xT (cv 0) xg (λ_ _=>rfl)) (xa (xM xT (cv 0) xg (λ_ _=>rfl)) (xa (xM xT (cv 0) xg (λ_ _=>rfl)) xc)))))) xF)
  (xf (xS (ur (xy (xk4 T) hr.m (by rfl) T.xlV T.q2I.kp T.xlU .nil xt (xa (cv 0) xc))) (xk (xv (xaM T.q5B (xmc T) hr.m (by rfl) T.xtN T.xnA .nil xt (xa (xM xT (cv 0) xg (λ_ _=>rfl)) (xa (xM xT (cv 0) xg (λ_ _=>rfl)) xc))))) xF)
  (xk xdA))),?_⟩
  refine⟨t,r,rfl,ht,hk,?_⟩;cases r with
  |take to st c=>
   walk_at"Y";refine⟨t,_,_,.int to,rfl,rfl,SqT.of ht,rfl,?_⟩;refine⟨t,_,_,.int st,rfl,rfl,SqT.of ht,rfl,?_⟩;exists⟨t,_,_,.int c,rfl,rfl,SqT.of ht,rfl,?_⟩;intro x dx hx kS kR;refine gnr (upd H dx (.own x)) λH3 hU=>?_;have kP:=xj.of_eq kS hU;have kQ:H3 x=none:=by rw[<-hU,xm (au kR)];exact hx
   refine⟨x,dx,_,_,_,rfl,xp,?_⟩;rw[uh];exact⟨rfl,q x _ (kP.trans (xj.new kQ)) hx ⟨dx,xp⟩⟩
  |put to sg=>
   walk_at"N";exists⟨t,to,sg,rfl,ht,hk,λH2 s2=>?_⟩;refine oG λ_ Z=>?_;obtain⟨u,h1,h2⟩:=ht;apply Z;walk_at"Y";refine⟨t,_,_,.int to,rfl,rfl,SqT.of (s2.at h1),rfl,?_⟩;exists⟨t,_,_,.ref u,rfl,rfl,SqT.of (s2.at h1),rfl,?_⟩;intro x dx hx kS kR;refine gnr (upd H2 dx (.own x)) λH3 hU=>?_;have kP:=xj.of_eq kS hU;have kQ:H3 x=none:=by rw[<-hU,xm (au kR)];exact hx
   refine⟨x,dx,u,_,_,rfl,xp,(kP.trans (xj.new kQ)).seqT (SqT.of (s2.at h2)),?_⟩;rw[uh];refine⟨rfl,q x _ (s2.trans (kP.trans (xj.new kQ))) (s2.back hx) ⟨dx,u,?_,(s2.trans (kP.trans (xj.new kQ))).at h2⟩⟩;rw[xp,ag]
def xqU(H:Hp)(Q:VK)(xss:List (List Int)):Prop:=∀(l:Addr) (as:List Addr) (H':Hp),xj H H'->uS H H' l as xss->Q (.ref l) H'
def xeg(a:Adr):Sp:=λvs H Q _=>Ex5 λ(p dx:Addr) (to st c:Int)=>vs=[.ref p]/\H p=some (.ins a.q0c dx (xcX to st c))/\1<=c/\c<=1000/\(st - to).natAbs<2^200/\xqU H Q (yM to st c)
def xeh(a:Adr):Sp:=λvs H Q _=>Ex5 λ(p dx t:Addr) (to n:Int)=>vs=[.ref p]/\H p=some (.ins a.q0g dx (xfO to t n))/\n<=1000/\xqU H Q [xY to n.toNat]
def xo5(K:aq):Sp:=λvs H Q _=>Ex6 λ(p C dx:Addr) (fs:List (Str×V)) (to c:Int)=>vs=[.ref p]/\H p=some (.ins C dx fs)/\Cls K C/\xJ K C "to"/\xJ K C "count"/\fs.lookup ("to":Str)=some (.int to)/\fs.lookup ("count":Str)=some (.int c)/\∀t,H t=none->Q (.ref t) (upd H t (.tup [.int to,.int (to+c)]))
theorem TupAt.off{o:HO}(h:TupAt K H t r)(hp:H p=some (.lst xs)):TupAt K (upd H p o) t r:=by
 have ne:∀{q:Addr} {ys:List V},H q=some (.tup ys)->upd H p o q=some (.tup ys):=λ{q ys} e=>by
  rw[xm (λz=>by rw[z,hp]at e;cases e)];exact e
 cases r with
 |take to st c=>exact ne h
 |put to sg=>obtain⟨u,h1,h2⟩:=h;exact⟨u,ne h1,ne h2⟩
def Sm:xq->Prop
 | .take to st c=>to<=100/\st<=100/\c<=9
 | .put to sg=>to<=100/\sg.length<=50
theorem xba{α β:Type}{F:α->β->Prop}{x:α}{y:β}:∀{l₁:List α} {l₂:List β},Paired F l₁ l₂->F x y->Paired F (l₁++[x]) (l₂++[y])
 |_,_,.nil,h=>.cons h .nil
 |_,_,.cons r t,h=>.cons r (xba t h)
def xs2(old new:Int):xq->Prop
 | .take to st c=>st+c<=old/\to+c<=new
 | .put to sg=>to+sg.length<=new
theorem Paired.nth{α β:Type}{F:α->β->Prop}:∀{l₁:List α} {l₂:List β} {i:Nat} {x:α},Paired F l₁ l₂->l₁[i]? =some x->∃y,l₂[i]? =some y/\F x y
 |_,_,_,_,.nil,e=>by simp at e
 |_,_,0,_,.cons r _,e=>by simp at e;subst e;exact⟨_,rfl,r⟩
 |_,_,i+1,_,.cons _ t,e=>by
  obtain⟨y,h1,h2⟩:=Paired.nth (i:=i) t (by simpa using e);exact⟨y,by simpa using h1,h2⟩
def GT(K:aq)(H:Hp)(u:Addr)(r:xq):Prop:=TupAt K H u r/\r.ok/\Sm r
def xq.cv:xq->List Int
 | .take to _ c=>xY to c.toNat
 | .put to sg=>xY to sg.length
def xq.rds:xq->List Int
 | .take to st c=>if st=to then[]else xY st c.toNat
 | .put _ _=>[]
def xq.wrs:xq->List Int
 | .take to st c=>if st=to then[]else xY to c.toNat
 | .put to sg=>xY to sg.length
def num:Nat->List (List Int)->List (Nat×Int)
 |_,[]=>[]
 |k,cs::r=>cs.map (λc=>(k,c))++num (k+1) r
def tw:List (Nat×Int)->List Int->Option (Nat×Int)
 |[],_=>none
 |(k,c)::r,seen=>if c∈seen then some (k,c)else tw r (c::seen)
def jD(rs:List xq):Option (Nat×Int):=tw (num 0 (rs.map xq.cv)) []
def vf(rs:List xq)(new:Nat):Option Int:=((d7 new).map λ(i:Nat)=>(i:Int)).find? λc=> !decide (c∈(rs.map xq.cv).flatten)
noncomputable def jj:Nat->List xq->List Int->Option (Nat×Int)
 |_,[],_=>none
 |k,r::rest,wr=>match r.rds.find? λc=>decide (c∈wr)with
  |some c=>some (k,c)
  |none=>jj (k+1) rest (wr++r.wrs)
def xaD(rs:List xq):Option (Nat×Int):=jj 0 rs []
def xnI(H:Hp)(Q:VK)(w:Str):Option (Nat×Int)->Prop
 |none=>∀H',xj H H'->Q .non H'
 |some (k,c)=>∀t H',xj H H'->H' t=some (.tup [.str w,.int k,.int c])->Q (.ref t) H'
def xs3(H:Hp)(Q:VK)(w:Str):Option Int->Prop
 |none=>∀H',xj H H'->Q .non H'
 |some c=>∀t H',xj H H'->H' t=some (.tup [.str w,.int c])->Q (.ref t) H'
def xhE(rs:List xq):Prop:=rs.length<=300/\∀r∈rs,r.cv.length<=300/\r.rds.length<=300/\r.wrs.length<=300
def xp9(K:aq)(a:Adr):Sp:=λvs H Q _=>Ex2 λ(l:Addr) (rs:List xq)=>vs=[.ref l]/\xkX K a H l rs/\xhE rs/\jD rs=none/\xnI H Q "twice" (jD rs)
def xnJ(K:aq)(a:Adr):Sp:=λvs H Q _=>Ex3 λ(l:Addr) (rs:List xq) (new:Nat)=>vs=[.ref l,.int new]/\xkX K a H l rs/\xhE rs/\new<=300/\xs3 H Q "lacks" (vf rs new)
def xrI(K:aq)(a:Adr):Sp:=λvs H Q _=>Ex2 λ(l:Addr) (rs:List xq)=>vs=[.ref l]/\xkX K a H l rs/\xhE rs/\xnI H Q "late" (xaD rs)
def xq.to:xq->Int
 | .take t _ _=>t
 | .put t _=>t
def xq.cnt:xq->Nat
 | .take _ _ c=>c.toNat
 | .put _ sg=>sg.length
def xq.sg(es:List Int):xq->List Int
 | .take _ st c=>(es.drop st.toNat).take c.toNat
 | .put _ sg=>sg
def xq.fits(es:List Int):xq->Prop
 | .take _ st c=>st+c<=es.length
 | .put _ _=>True
theorem xq.sg_len(ok:r.ok)(f:r.fits es):(r.sg es).length=r.cnt:=by
 cases r with
 |take to st c=>
  obtain⟨k1,k2,k3⟩:=ok;have f':st+c<=es.length:=f;simp only[xq.sg,xq.cnt,bz,cT];lia
 |put to sg=>rfl
theorem xq.ok.to(ok:r.ok):0<=r.to:=by
 cases r with
 |take to st c=>exact ok.1
 |put to sg=>exact ok.1
def Tells(es nw:List Int)(r:xq):Prop:=r.ok/\r.fits es/\r.to+r.cnt<=nw.length/\∀i:Nat,i<r.cnt->nw[(r.to+i).toNat]? =(r.sg es)[i]?
def zc(r:xq)(j:Nat):Prop:=r.to<=j/\(j:Int)<r.to+r.cnt
def yE(K:aq)(H:Hp)(p:Addr)(o n:Int)(rs:List xq):Prop:=∃t ts,H p=some (.tup [.int o,.int n,.ref t])/\H t=some (.tup (ts.map V.ref))/\Paired (TupAt K H) ts rs
def yE.same(h:yE K H p o n rs)(s:xj H H'):yE K H' p o n rs:=by
 obtain⟨t,ts,h1,h2,h3⟩:=h;exact⟨t,ts,s.at h1,s.at h2,L2.Paired.imp' (λ_ _ z=>z.same s) h3⟩
def Fit(old new:Int):xq->Prop
 | .take to st c=>st+c<=old/\to+c<=new
 | .put to sg=>to+sg.length<=new
def xk5:Sp:=λvs H Q _=>∃i:Int,vs=[.int i]/\0<=i/\i<=300/\Q (.bl true) H
inductive xmD(K:aq)(vs:List V)(H:Hp)(Q:VK):Prop
 |mk (p:Addr) (o n:Int) (rs:List xq):(vs=[.ref p])->(yE K H p o n rs)->(0<=o)->(o<=300)->(0<=n)->(n<=300)->(rs.length<=300)->(Q (.bl true) H)->xmD K vs H Q
def xrJ(K:aq):Sp:=λvs H Q _=>xmD K vs H Q
def xnK(K:aq):Sp:=λvs H Q _=>Ex4 λ(t:Addr) (r:xq) (old new:Int)=>vs=[.ref t,.int old,.int new]/\TupAt K H t r/\r.ok/\Fit old new r/\∀H',xj H H'->Q (.bl true) H'
def xqa(K:aq):Sp:=λvs H Q _=>Ex4 λ(p:Addr) (o n:Int) (rs:List xq)=>vs=[.ref p]/\yE K H p o n rs/\(∀r∈rs,r.ok/\Fit o n r)/\rs.length<=300/\∀H',xj H H'->Q .non H'
def xk6(H:Hp)(Q:VK)(rs:List xq)(n:Int):Prop:=match vf rs n.toNat with
 |some c=>xs3 H Q "lacks" (some c)
 |none=>xnI H Q "late" (xaD rs)
inductive xk7(K:aq)(vs:List V)(H:Hp)(Q:VK):Prop
 |mk (p:Addr) (o n:Int) (rs:List xq):(vs=[.ref p])->(yE K H p o n rs)->((0<=o/\o<=300))->((0<=n/\n<=300))->(rs.length<=300)->((∀r∈rs,r.ok/\Fit o n r))->(jD rs=none)->(xk6 H Q rs n)->xk7 K vs H Q
def xqb(K:aq):Sp:=λvs H Q _=>xk7 K vs H Q
def xq.neg(_:xq):Prop:=True
def xq.inO(old:Int):xq->Prop
 | .take _ st c=>st+c<=old
 | .put .. =>True
def Good(old:Int)(r:xq):Prop:=r.ok/\r.neg/\r.inO old
inductive Tl(old:Int):List xq->Int->Prop
 |nil:Tl old [] 0
 |snoc {rs:List xq} {at' n:Int} {r:xq}:Tl old rs at'->Good old r->r.to=at'->(r.cnt:Int)=n->Tl old (rs++[r]) (at'+n)
def pcs:xq->List (List Int)
 | .take to st c=>yM to st c
 | .put to sg=>[xY to sg.length]
def xnL(C:List Int):xq->Int->Option Int
 | .take to st _,j=>C[(st+j - to).toNat]?
 | .put to sg,j=>sg[(j - to).toNat]?
def Part(C:List Int)(r:xq)(D cur:List Int):Prop:=cur.length=C.length/\∀j:Nat,j<C.length->cur[j]? =if (j:Int)∈D then xnL C r j else C[j]?
def xqV(rs:List xq)(C0:List Int)(Cs:Nat->List Int)(k:Nat):Prop:=Cs 0=C0/\(∀j,(Cs j).length=C0.length)/\∀j r,j<k->rs[j]? =some r->Part (Cs j) r (pcs r).flatten (Cs (j+1))
theorem xj1(T:Txt K mg a):xE P w K mg base CX0 2 a.q1W a.xct ["self"] (xeh a):=by
 refine T.q2R.ok xeB (λvs H Q E h=>?_) (λcdv A outer s H vs Q E hr h=>?_)
 ·obtain⟨p,dx,t,to,n,rfl,_⟩:=h;rfl
 ·refine oG λ_ Z=>?_;obtain⟨p,dx,t,to,n,rfl,hp,hn,k⟩:=h;apply Z;have nd:=xeB.nd;refine⟨_,(xk (xv (xX (xa (xO (cv 0) T.q1L T.q2i (zo T) hr.m T.zH .nil xt) xc)))),?_⟩;refine⟨p,dx,_,rfl,hp,rfl,?_⟩;refine⟨p,_,dx,_,to,n,rfl,hp,T.q1L,T.q24,T.q12,rfl,rfl,by lia,λl H1 s1 hl e1=>?_⟩;right;intro D hD;have kP:=s1.back hD;refine k D [l] _ (s1.put kP) ⟨xp,?_,rfl,λi b xs h1 h2=>?_,kP,λb hb=>?_⟩
  ·have:D≠l:=λz=>by rw[z,e1]at hD;cases hD
   simpa using this
  ·cases i with
   |zero=>
    simp at h1 h2;subst h1 h2;rw[xm (xG e1 hD)];exact e1
   |succ i=>simp at h1
  ·rw[aj.mp hb];exact hl
def xiD(T:Txt K mg a):xE P w K mg base CX0 2 a.q1I a.xbE ["self"] (xeg a):=by
 refine T.q2r.ok xdE (λvs H Q E h=>?_) (λcdv A outer s H vs Q E hr h=>?_)
 ·obtain⟨p,dx,to,st,c,rfl,_⟩:=h;rfl
 ·refine oG λ_ Z=>?_;obtain⟨p,dx,to,st,c,rfl,hp,kT,kW,hd,k⟩:=h;apply Z;have nd:=xdE.nd;refine⟨_,(xf (xS (ur (xO (cv 0) T.q0h T.q29 (xbJ T) hr.m T.xcA .nil xt)) (xk (xv (xX xc))) xF)
  (xf (xC (i:=1) nd rfl (cW rfl) (xB (cv 0) rfl))
  (xf (xC (i:=2) nd rfl (cW rfl) (xx ym (xB (cv 0) rfl) (xB (cv 0) rfl)))
  (xf (xS (xN xia (xB (cv 0) rfl) (xB (cv 0) rfl)) (xf (xC (i:=3) nd rfl (cW rfl) (xx jc (xB (cv 0) rfl) (xB (cv 0) rfl)))
  (xk (xv (xb3 (xae (cap:=[2,3]) (ys:=["end","step"]) rfl rfl rfl rfl rfl ⟨⟨rfl,rfl,.inl rfl⟩,⟨⟨rfl,rfl,.inl rfl⟩,trivial⟩⟩ (by decide+kernel)) rfl (xjl (by rfl) T.q16 (xa (cv 1) (xa (cv 2) (xa (cv 3) xc)))) (λ_ _ _ _=>(xW (ve rfl) (by rfl) T.q2n zS (xa (xcR (by rfl) T.q16 (xa (cv 0) (xa (xI (xg9 rfl) (by rfl) T.q40 xg8 (xa (xx ym (cv 0) (cv 2)) (xa (cv 1) xc))) xc))) xc))) (λ_ _ _ _=>jV))))) xF)
  (xf (xC (i:=3) nd rfl (cW rfl) (xx jc (xB (cv 0) rfl) (xB (cv 0) rfl)))
  (xk (xv (xb3 (xae (cap:=[1,3]) (ys:=["first","step"]) rfl rfl rfl rfl rfl ⟨⟨rfl,rfl,.inl rfl⟩,⟨⟨rfl,rfl,.inl rfl⟩,trivial⟩⟩ (by decide+kernel)) rfl (xjl (by rfl) T.q16 (xa (cv 2) (xa (cv 1) (xa (xqH xqO (cv 3)) xc)))) (λ_ _ _ _=>(xW (ve rfl) (by rfl) T.q2n zS (xa (xcR (by rfl) T.q16 (xa (xI (xkq rfl) (by rfl) T.q4Z xg7 (xa (xx jc (cv 0) (cv 2)) (xa (cv 1) xc))) (xa (cv 0) xc))) xc))) (λ_ _ _ _=>jV))))))))),?_⟩
  refine⟨p,dx,_,rfl,hp,rfl,?_⟩;refine⟨p,dx,to,st,c,rfl,hp,?_⟩;refine⟨λe=>?_,λe=>?_⟩
  ·have e':st=to:=of_decide_eq_true e;right;intro l hl;refine k l [] _ (xj.new hl) ?_;rw[yM,if_pos e'];exact uS.nil (H':=H) hl xp
  ·have e':¬st=to:=of_decide_eq_false e;refine⟨p,_,dx,_,.int to,rfl,hp,T.q0h,T.q01,rfl,?_⟩;refine⟨p,_,dx,_,.int to,rfl,hp,T.q0h,T.q01,rfl,?_⟩;refine⟨p,_,dx,_,.int c,rfl,hp,T.q0h,T.q0V,rfl,?_⟩;refine⟨p,_,dx,_,.int to,rfl,hp,T.q0h,T.q01,rfl,?_⟩;refine⟨p,_,dx,_,.int st,rfl,hp,T.q0h,T.q0C,rfl,?_⟩;refine⟨λe2=>?_,λe2=>?_⟩
   ·have e3:to<st:=of_decide_eq_true e2;refine⟨p,_,dx,_,.int st,rfl,hp,T.q0h,T.q0C,rfl,?_⟩;exists⟨p,_,dx,_,.int to,rfl,hp,T.q0h,T.q01,rfl,?_⟩;refine aY (xo2 (by lia) hd) ?_;left;obtain⟨d,kR⟩:∃d:Nat,st - to=(d:Int):=⟨(st - to).toNat,by lia⟩;have kQ:0<d:=by lia
    rw[kR,xrG to c d kT kQ];refine xha (uch to d c.toNat) (bG ?_ (show 1000<=aU by decide)) (λi H3 hi s3 R hR=>?_) (λD H2 as s2 L=>?_)
    ·have:=xfR (uch to d) d c.toNat kQ;unfold chs at this;rw[ag,g7]at this;lia
    ·left;exists λr hr=>xw (upd H3 r _) rfl hr λH4 kP er=>?_;have ep:(i:Int)*(d:Int)=((i*d:Nat):Int):=by rw[Int.natCast_mul]
     have el:zg (to+((i*d:Nat):Int)) (min (to+((i*d:Nat):Int)+(st - to)) (to+c)) 1=min d (c.toNat - i*d):=by
      rw[uB];generalize i*d=q;lia
     rw[ep]at er;refine⟨r,_,_,rfl,er,by rw[el];lia,λl hl=>?_⟩;rw[el,xfP];exact hR l _ (kP.put (kP.back hl)) (kP.back hl) xp
    ·refine k D as H2 s2 ?_;rw[yM,if_neg e',if_pos e3,kR];exact L
   ·have e3:¬to<st:=of_decide_eq_false e2;refine⟨p,_,dx,_,.int to,rfl,hp,T.q0h,T.q01,rfl,?_⟩;exists⟨p,_,dx,_,.int st,rfl,hp,T.q0h,T.q0C,rfl,?_⟩;refine aY (xo2 (by lia) (by lia)) ?_;left;obtain⟨d,kR⟩:∃d:Nat,to - st=(d:Int):=⟨(to - st).toNat,by lia⟩;have kQ:0<d:=by lia
    rw[kR,xo3 to c d kT kQ];refine xha (dch (to+c) d c.toNat) (bG ?_ (show 1000<=aU by decide)) (λi H3 hi s3 R hR=>?_) (λD H2 as s2 L=>?_)
    ·have:=xfR (dch (to+c) d) d c.toNat kQ;unfold chs at this;rw[ag,g7]at this;lia
    ·left;exists λr hr=>xw (upd H3 r _) rfl hr λH4 kP er=>?_;have ep:(i:Int)* -(d:Int)= -((i*d:Nat):Int):=by rw[Int.mul_neg,Int.natCast_mul]
     have kS:i*d<=c.toNat:=xp8 kQ hi;have el:zg (max (to+c+ -((i*d:Nat):Int) - (to - st)) to) (to+c+ -((i*d:Nat):Int)) 1=min d (c.toNat - i*d):=by
      rw[uB];generalize i*d=q at kS;lia
     rw[ep]at er;refine⟨r,_,_,rfl,er,by rw[el];lia,λl hl=>?_⟩;rw[el,xfP];refine hR l _ (kP.put (kP.back hl)) (kP.back hl) ?_;rw[xp];unfold dch;have e5:max (to+c+ -((i*d:Nat):Int) - (to - st)) to=to+c - ((min ((i+1)*d) c.toNat:Nat):Int):=by
      rw[eJ];generalize i*d=q at kS;lia
     rw[e5]
    ·refine k D as H2 s2 ?_;rw[yM,if_neg e',if_neg e3,kR];exact L
def vj:xq->List (List Int)
 | .take to st c=>yM to st c
 | .put to sg=>[xY to sg.length]
theorem xgh(hk:r.ok)(hs:Sm r):(vj r).length<=9:=by
 cases r with
 |take to st c=>
  obtain⟨k1,k2,k3⟩:=hk;obtain⟨s1,s2,s3⟩:=hs;show(yM to st c).length<=9;unfold yM
  split
  ·simp
  ·split
   ·have:=xfR (uch to (st - to).toNat) (st - to).toNat c.toNat (by lia);lia
   ·have:=xfR (dch (to+c) (to - st).toNat) (to - st).toNat c.toNat (by lia);lia
 |put to sg=>show 1<=9;lia
def zT(K:aq)(H0:Hp)(tl:Addr)(G:Hp)(u:Addr)(x:xq×List Int):Prop:=∃t c:Addr,(c≠tl/\H0 c=none)/\G u=some (.tup [.ref t,.ref c])/\TupAt K G t x.1/\G c=some (.lst (x.2.map V.int))
def zT.same{tl:Addr}{G':Hp}{x:xq×List Int}(h:zT K H0 tl G u x)(s:xj G G'):zT K H0 tl G' u x:=by
 obtain⟨t,c,h1,h2,h3,h4⟩:=h;exact⟨t,c,h1,s.at h2,h3.same s,s.at h4⟩
def zT.off{tl:Addr}{x:xq×List Int}{o:HO}(h:zT K H0 tl G u x)(hp:G tl=some (.lst xs)):zT K H0 tl (upd G tl o) u x:=by
 obtain⟨t,c,h1,h2,h3,h4⟩:=h;exact⟨t,c,h1,by rw[xm (λz=>by rw[z,hp]at h2;cases h2)];exact h2,h3.off hp,by rw[xm h1.1];exact h4⟩
def xP(rs:List xq):List (xq×List Int):=rs.flatMap λr=>(vj r).map λc=>(r,c)
theorem xeM{α β:Type}{F:α->β->Prop}:∀{l₁ l₃:List α} {l₂ l₄:List β},Paired F l₁ l₂->Paired F l₃ l₄->Paired F (l₁++l₃) (l₂++l₄)
 |_,_,_,_,.nil,h=>h
 |_,_,_,_,.cons r t,h=>.cons r (xeM t h)
def xk8(K:aq):Sp:=λvs H Q _=>Ex6 λ(p tt:Addr) (o n:V) (us:List Addr) (rs:List xq)=>vs=[.ref p]/\H p=some (.tup [o,n,.ref tt])/\H tt=some (.tup (us.map V.ref))/\Paired (GT K H) us rs/\us.length<=58/\
 ∀(l:Addr) (ws:List Addr) (H':Hp),xj H H'->H l=none->H' l=some (.lst (ws.map V.ref))->Paired (zT K H l H') ws (xP rs)->Q (.ref l) H'
def GT.same(h:GT K H u r)(s:xj H H'):GT K H' u r:=⟨h.1.same s,h.2⟩
theorem xk9{H0:Hp}{tl:Addr}{L0 L G:Hp}{l t:Addr}{as:List Addr}{xss:List (List Int)}{r:xq}(s0:xj H0 L0)(hL:uS L0 L l as xss)(sL:xj L G)(hT:TupAt K G t r)(kP:L0 tl≠none):∀{ws:List Addr} {i:Nat},Paired (λw a=>G w=some (.tup [.ref t,.ref a])) ws (as.drop i)->Paired (zT K H0 tl G) ws ((xss.drop i).map λc=>(r,c))
 |ws,i,h=>by
  have hlen:=hL.len
  by_cases hi:i<as.length
  ·have e1:as.drop i=as[i]::as.drop (i+1):=bQ hi;have kQ:i<xss.length:=by lia
   have e2:xss.drop i=xss[i]::xss.drop (i+1):=bQ kQ;rw[e1]at h;rw[e2,bO];cases h with
   |cons h1 h2=>
    have kR:=hL.frs _ (eU hi);refine .cons ⟨t,as[i],⟨λz=>kP (by rw[<-z];exact kR),s0.back kR⟩,h1,hT,sL.at (hL.each i _ _ (aD hi) (aD kQ))⟩ (xk9 s0 hL sL hT kP h2)
  ·rw[bS (by lia)]at h;rw[bS (by lia)];cases h;exact .nil
 termination_by _ i=>as.length - i
theorem xnM(T:Txt K mg a)(hT:GT K H t r)
  (k:∀l as H1 H2,xj H H1->xj H1 H2->uS H1 H2 l as (vj r)->Q (.ref l) H2) (hσ:autoParam (σ[i]? =some (some (.ref t))) sV):
  ud a.q0g "pieces" (xeh a) [] E0 (xfI (xbm K a) [] E0 (xgU (uR i) jK)) jK σ H Q\/ud a.q0c "pieces" (xeg a) [] E0 (xfI (xbm K a) [] E0 (xgU (uR i) jK)) jK σ H Q:=by
 obtain⟨hT,hk,hs⟩:=hT;have go:∀{R:VK},xbm K a [.ref t] H R E0->xfI (xbm K a) [] E0 (xgU (uR i) jK) σ H R:=λh=>by
  unfold xfI xgU jK uR;rw[hσ];exact h
 cases r with
 |put to sg=>
  apply Or.inl
  unfold ud;refine go ⟨t,_,rfl,hT,hk,λo H1 s1 ho kP=>?_⟩;obtain⟨dx,u,h1,h2⟩:=kP;have h9:sg.length<=50:=hs.2;refine⟨o,dx,_,rfl,h1,rfl,?_⟩;show xeh a [.ref o] H1 Q E0;refine⟨o,dx,u,to,sg.length,rfl,h1,by lia,λl as H2 s2 L=>k l as H1 H2 s1 s2 ?_⟩;rw[show((sg.length:Int)).toNat=sg.length by lia]at L;exact L
 |take to st c=>
  apply Or.inr
  unfold ud;refine go ⟨t,_,rfl,hT,hk,λo H1 s1 ho kP=>?_⟩;obtain⟨dx,h1⟩:=kP;obtain⟨k1,k2,k3⟩:=hk;obtain⟨kS,kR,kQ⟩:=hs;refine⟨o,dx,_,rfl,h1,rfl,?_⟩;show xeg a [.ref o] H1 Q E0;have hb:(st - to).natAbs<2^200:=d8 (show(st - to).natAbs<=1000 by lia) (by decide);exact⟨o,dx,to,st,c,rfl,h1,k3,by lia,hb,λl as H2 s2 L=>k l as H1 H2 s1 s2 L⟩
def xla(T:Txt K mg a):xE P w K mg base CX0 6 a.q2F a.xdl ["paper"] (xk8 K):=by
 refine T.q2K.ok xfr (λvs H Q E h=>?_) (λcdv A outer s H vs Q E hr h=>?_)
 ·obtain⟨p,tt,o,n,us,rs,rfl,_⟩:=h;rfl
 ·refine oG λ_ Z=>?_;obtain⟨p,tt,o,n,us,rs,rfl,hp,ht,kZ,lA,q⟩:=h;apply Z;have nd:=xfr.nd;refine⟨_,(xf (xC (i:=1) nd rfl (az rfl) (xX xc))
  (xf (yT PassesOwn.never rfl (xgS (xM xT (cv 0) xg (λ_ _=>rfl))) (yc (i:=2) nd rfl (cW rfl)) (xk (xK (xbR PySem.F.plainAttrs_list PySem.F.slot_list_extend PySem.F.type_list_extend xom (cv 1) (xa (xb3 (xae (cap:=[2]) (ys:=["told"]) rfl rfl rfl rfl rfl ⟨⟨rfl,rfl,.inl rfl⟩,trivial⟩ (by decide+kernel)) rfl (zx (xca (xO (xy (xad T) hr.m (by rfl) T.xa1 T.q19.kp T.xa0 .nil xt (xa (cv 2) xc)) T.q1L T.q4j (xj1 T) hr.m T.xkK .nil xt) (xO (xy (xad T) hr.m (by rfl) T.xa1 T.q19.kp T.xa0 .nil xt (xa (cv 2) xc)) T.q0h T.q34 (xiD T) hr.m T.xjP .nil xt))) (λ_ _ _ _=>(xR (xa (cv 1) (xa (cv 0) xc)))) (λ_ _ _ _=>jV)) xc)))))
  (xk (xv (cv 1))))),?_⟩
  right;refine λpl kY=>xw (upd H pl _) rfl kY λH1 kW ly=>?_;refine⟨p,_,_,.ref tt,rfl,rfl,SqT.of (kW.at hp),rfl,?_⟩;exists⟨tt,rfl,⟨_,SqT.of (kW.at ht)⟩,?_⟩;refine xjm (xs:=us.map V.ref) (λi σ G=>xj H G/\∃(ws:List Addr) (x2:Option V),σ=[some (.ref p),some (.ref pl),x2]/\G pl=some (.lst (ws.map V.ref))/\Paired (zT K H pl G) ws (xP (rs.take i))/\ws.length<=9*i)
   ⟨kW,[],_,rfl,ly,.nil,by simp⟩ (λi σ G hi hP=>SqT.of (hP.1.at ht)) (λi x σ G hx hP=>?_) (λσ G hP=>?_)
  ·refine oG λ_ Z=>?_;obtain⟨sG,ws,x2,rfl,kP,kT,ll⟩:=hP;apply Z;rw[aF]at hx;refine oG λ_ Z=>?_;obtain⟨t,la,rfl⟩:=aO.mp hx;apply Z;have hi:i<us.length:=(aw.mp la).1;refine oG λ_ Z=>?_;obtain⟨r,lp,hT⟩:=Paired.nth kZ la;apply Z;have lh:=hT.same sG;exists⟨.inl ⟨rfl,_,SqL.of kP⟩,?_⟩;have lb:=xgh hT.2.1 hT.2.2;refine xnM (K:=K) T lh λL as G1 G2 s1 s2 hL=>?_;refine⟨L,rfl,⟨_,SqL.of hL.top⟩,?_⟩;have lB:as.length=(vj r).length:=hL.len;refine xni (λi acc G=>∃kR:List Addr,acc=kR.map V.ref/\Paired (λw a=>G w=some (.tup [.ref t,.ref a])) kR (as.take i)) (SqL.of hL.top) (by rw[ag,aZ];lia) ⟨[],rfl,by rw[eN];exact .nil⟩ (λj x acc H3 H3' hx s3 lz hP R hR=>?_) (λD acc H9 H9' hD lC s9 kX hP lq hv=>?_)
   ·refine oG λ_ Z=>?_;obtain⟨kR,rfl,kQ⟩:=hP;apply Z;rw[aF]at hx;refine oG λ_ Z=>?_;obtain⟨c,hc,rfl⟩:=aO.mp hx;exists Z ?_;walk_at"ss";intro w hw;refine hR _ _ (xj.new hw) λH6 sx kx=>⟨kR++[w],by simp,?_⟩;rw[cu,hc];exact xba (L2.Paired.imp' (λ_ _ (z:H3 _=some _)=>sx.at z) kQ) (kx w _ (.inl hw) xp)
   ·refine oG λ_ Z=>?_;obtain⟨kR,rfl,kQ⟩:=hP;apply Z;rw[ag,cy]at kQ;rw[ag,ag]at lq;have sB:xj G H9':=s1.trans (s2.trans (s9.trans kX));have kS:=sB.at kP;have lr:TupAt K H9' t r:=lh.1.same sB;have lg:=xk9 (K:=K) (H0:=H) (tl:=pl) (G:=H9') (sG.trans s1) hL (s9.trans kX) lr (by rw[s1.at kP];exact λz=>by cases z) (ws:=kR) (i:=0) (by rw[i6];exact L2.Paired.imp' (λ_ _ (z:H9 _=some _)=>kX.at z) kQ);rw[i6]at lg;refine⟨pl,D,_,_,rfl,rfl,kS,hv,by rw[ag,ag,aZ];lia,?_⟩;refine gnr (upd H9' pl _) λG6 hU=>?_;refine⟨xj.wr (sG.trans sB) kY hU,ws++kR,_,rfl,?_,?_,?_⟩
    ·rw[<-hU,xp,bH]
    ·have e:xP (rs.take (i+1))=xP (rs.take i)++(vj r).map λc=>(r,c):=by
      unfold xP;rw[cu,lp,gC];simp
     rw[e,<-hU];exact xeM (L2.Paired.imp' (λ_ _ (z:zT K H pl G _ _)=>(z.same sB).off kS) kT) (L2.Paired.imp' (λ_ _ (z:zT K H pl H9' _ _)=>z.off kS) lg)
    ·rw[aC];lia
  ·refine oG λ_ Z=>?_;obtain⟨sG,ws,x2,rfl,kP,kT,ll⟩:=hP;exists Z ?_;have e:rs.take (us.map V.ref).length=rs:=by rw[ag,kZ.length,cy]
   rw[e]at kT;exact q pl ws G sG kY kP kT
def xnN(a:Adr):Sp:=λvs H Q _=>Ex6 λ(p dx:Addr) (to st c cell:Int)=>vs=[.ref p,.int cell]/\H p=some (.ins a.q0c dx (xcX to st c))/\Q (.int (st+cell - to)) H
def xbn(T:Txt K mg a):xE P w K mg base CX0 1 a.q0I a.jt ["self","cell"] (xnN a):=by
 refine T.q1E.ok xbi (λvs H Q E h=>?_) (λcdv A outer s H vs Q E hr h=>?_)
 ·obtain⟨p,dx,to,st,c,cell,rfl,_⟩:=h;rfl
 ·refine oG λ_ Z=>?_;obtain⟨p,dx,to,st,c,cell,rfl,hp,k⟩:=h;apply Z;have nd:=xbi.nd;refine⟨_,(xk (xv (xx jc (xx ym (xB (cv 0) rfl) (cv 1)) (xB (cv 0) rfl)))),?_⟩;refine⟨p,_,dx,_,.int st,rfl,hp,T.q0h,T.q0C,rfl,?_⟩;refine⟨p,_,dx,_,.int to,rfl,hp,T.q0h,T.q01,rfl,?_⟩;exact k
def plc(r:xq)(c:Int):List Int:=match r with
 | .take to st _=>[st+c - to,c]
 | .put _ _=>[c]
def zz(r:xq)(cs:List Int):List Int:=cs.flatMap (plc r)
def xfv{d:Int}(h:cs[i]? =some d):zz r (cs.take (i+1))=zz r (cs.take i)++plc r d:=by
 unfold zz;rw[cu,h,gC];simp
theorem xdp(r:xq):∀cs:List Int,(zz r cs).length<=2*cs.length
 |[]=>by simp[zz]
 |c::cs=>by
  have:=xdp r cs;have h2:(plc r c).length<=2:=by cases r<;> simp[plc]
  simp only[zz,List.flatMap_cons,aC,bD]at this⊢;lia
def xo6(K:aq)(a:Adr):Sp:=λvs H Q _=>Ex4 λ(o cl:Addr) (r:xq) (cs:List Int)=>vs=[.ref o,.ref cl]/\zM K a H o r/\H cl=some (.lst (cs.map V.int))/\cs.length<=300/\xgy H Q (zz r cs)
theorem xgA(T:Txt K mg a):xE P w K mg base CX0 2 a.q1s a.xap ["row","cells"] (xo6 K a):=by
 refine T.q1x.ok xcF (λvs H Q E h=>?_) (λcdv A outer s H vs Q E hr h=>?_)
 ·obtain⟨o,cl,r,cs,rfl,_⟩:=h;rfl
 ·refine oG λ_ Z=>?_;obtain⟨o,cl,r,cs,rfl,ho,kW,hn,q⟩:=h;apply Z;have nd:=xcF.nd;refine⟨_,(xf (xC (i:=2) nd rfl (az rfl) (xX xc))
  (xf (yT PassesOwn.never rfl (zx (cv 1)) (yc (i:=3) nd rfl (az rfl)) (xf (yD (xS (ur (xI vN (by rfl) T.q1D zE (xa (cv 0) (xa (xfF (v:=.ref a.q0c) (by rfl) T.xkR rfl) xc)))) (xk (xK (xbR PySem.F.plainAttrs_list PySem.F.slot_list_append PySem.F.type_list_append uq (cv 2) (xa (za (cv 0) T.q0h T.q2C (xbn T) hr.m T.xbL .nil xt (xa (cv 3) xc)) xc)))) xF))
  (xk (xK (xbR PySem.F.plainAttrs_list PySem.F.slot_list_append PySem.F.type_list_append uq (cv 2) (xa (cv 3) xc))))))
  (xk (xv (cv 2))))),?_⟩
  right;refine λpl kQ=>xw (upd H pl _) rfl kQ λH1 kR lb=>?_;refine⟨cl,rfl,⟨_,SqL.of (kR.at kW)⟩,?_⟩;refine zr (xs:=cs.map V.int) (λi σ G=>xj H G/\∃(x3:Option V),σ=[some (.ref o),some (.ref cl),some (.ref pl),x3]/\G pl=some (.lst ((zz r (cs.take i)).map V.int)))
   ⟨kR,_,rfl,lb⟩ (λi σ G hi hP=>SqL.of (hP.1.at kW)) (λi x σ G hx hP=>?_) (λσ G hP=>?_)
  ·refine oG λ_ Z=>?_;obtain⟨sG,x3,rfl,kP⟩:=hP;apply Z;rw[aF]at hx;refine oG λ_ Z=>?_;obtain⟨d,hd,rfl⟩:=aO.mp hx;apply Z;have hlen:=xdp r (cs.take i);have hi:i<cs.length:=(aw.mp hd).1;have lg:(cs.take i).length<=cs.length:=by rw[bz];lia
   refine⟨λσ' G'=>xj H G'/\σ'=[some (.ref o),some (.ref cl),some (.ref pl),some (.int d)]/\∃ys:List Int,G' pl=some (.lst (ys.map V.int))/\ys++[d]=zz r (cs.take (i+1)),?_,?_⟩
   ·have kT:=ho.same sG;cases r with
    |take to st c=>
     obtain⟨dx,h1⟩:=kT;refine⟨_,_,_,_,true,rfl,rfl,T.xmA h1,T.q3O,?_⟩;walk_at"Y";refine⟨.inl ⟨rfl,_,SqL.of kP⟩,?_⟩;refine⟨o,dx,_,rfl,h1,rfl,?_⟩;refine⟨o,dx,to,st,c,d,rfl,h1,?_⟩;refine⟨pl,_,_,rfl,rfl,kP,by rw[ag,aZ];lia,?_⟩;refine⟨sG.put kQ,rfl,zz (.take to st c) (cs.take i)++[st+d - to],by rw[xp,bH];rfl,?_⟩;rw[xfv hd];simp[plc]
    |put to sg=>
     refine oG λ_ Z=>?_;obtain⟨dx,u,h1,h2⟩:=kT;apply Z;refine⟨_,_,_,_,false,rfl,rfl,T.xoY h1,T.q39,?_⟩;walk_at"N";refine⟨sG,rfl,_,kP,?_⟩;rw[xfv hd];simp[plc]
   ·rintro σ' G' ⟨kY,rfl,ys,kX,kS⟩;exists⟨.inl ⟨rfl,_,SqL.of kX⟩,?_⟩;have kZ:=congrArg gF kS;have:=xdp r (cs.take (i+1));have la:(cs.take (i+1)).length<=cs.length:=by rw[bz];lia
    rw[aC,iY]at kZ;refine⟨pl,_,_,rfl,rfl,kX,by rw[ag,aZ];lia,?_⟩;refine⟨kY.put kQ,_,rfl,?_⟩;rw[xp,<-kS,bH];rfl
  ·refine oG λ_ Z=>?_;obtain⟨sG,x3,rfl,kP⟩:=hP;apply Z;rw[ag,cy]at kP;left;exact q pl G sG kQ kP
def xo7(K:aq):Sp:=λvs H Q _=>Ex6 λ(size:Int) (H0:Hp) (pl tl:Addr) (ws:List Addr) (xs:List (xq×List Int))=>vs=[.int size,.ref pl]/\H pl=some (.lst (ws.map V.ref))/\Paired (zT K H0 tl H) ws xs/\(∀x∈xs,x.1.ok/\x.2.length<=300/\∀p∈zz x.1 x.2,p<size)/\∀H',xj H H'->Q .non H'
def xgB(T:Txt K mg a):xE P w K mg base CX0 6 a.q1r a.xao ["size","pieces"] (xo7 K):=by
 refine T.q1w.ok xcE (λvs H Q E h=>?_) (λcdv A outer s H vs Q E hr h=>?_)
 ·obtain⟨size,H0,pl,tl,ws,xs,rfl,_⟩:=h;rfl
 ·refine oG λ_ Z=>?_;obtain⟨size,H0,pl,tl,ws,xs,rfl,kQ,kR,hx,q⟩:=h;apply Z;have nd:=xcE.nd;refine⟨_,(xk (yT PassesOwn.never rfl (zx (cv 1)) (xb8 rfl (yB (yc (i:=2) nd rfl (az rfl)) (yB (yc (i:=3) nd rfl (az rfl)) xaK))) (xk (yT PassesOwn.never rfl (zx (xy (xgA T) hr.m (by rfl) T.xhr T.q1x.kp T.xhq .nil xt (xa (xy (xad T) hr.m (by rfl) T.xa1 T.q19.kp T.xa0 .nil xt (xa (cv 2) xc)) (xa (cv 3) xc)))) (yc (i:=4) nd rfl (az rfl)) (xk (xS (xN xpQ (cv 4) (cv 0)) (xk xdA) xF)))))),?_⟩;refine⟨pl,rfl,⟨_,SqL.of kQ⟩,?_⟩;refine zr (xs:=ws.map V.ref) (λi σ G=>xj H G/\∃(x2 x3 x4:Option V),σ=[some (.int size),some (.ref pl),x2,x3,x4])
   ⟨xj.refl _,_,_,_,rfl⟩ (λi σ G hi hP=>SqL.of (hP.1.at kQ)) (λi x σ G kP hP=>?_) (λσ G hP=>?_)
  ·refine oG λ_ Z=>?_;obtain⟨sG,x2,x3,x4,rfl⟩:=hP;apply Z;rw[aF]at kP;refine oG λ_ Z=>?_;obtain⟨u,hu,rfl⟩:=aO.mp kP;obtain⟨⟨r,cs⟩,kS,t,c,nc,h1,h2,h3⟩:=Paired.nth kR hu;obtain⟨hk,kX,kT⟩:=hx _ (aK kS);apply Z;refine⟨u,_,rfl,SqT.of (sG.at h1),rfl,?_⟩;refine⟨_,_,rfl,?_⟩;exists⟨_,_,rfl,?_⟩;refine aY rfl ?_;refine⟨t,r,rfl,h2.same sG,hk,λo H1 s1 ho kW=>?_⟩;refine⟨o,c,r,cs,rfl,kW,s1.at (sG.at h3),kX,λl H2 s2 hl el=>?_⟩;have sA:xj H H2:=sG.trans (s1.trans s2);refine⟨l,rfl,⟨_,SqL.of el⟩,?_⟩;refine zr (xs:=(zz r cs).map V.int) (λi σ G=>H2=G/\∃(x4:Option V),σ=[some (.int size),some (.ref pl),some (.ref t),some (.ref c),x4])
    ⟨rfl,_,rfl⟩ (λi σ G hi hP=>by rw[<-hP.1];exact SqL.of el) (λi x σ G kP hP=>?_) (λσ G hP=>?_)
   ·refine oG λ_ Z=>?_;obtain⟨rfl,x4,rfl⟩:=hP;apply Z;rw[aF]at kP;refine oG λ_ Z=>?_;obtain⟨p,hp,rfl⟩:=aO.mp kP;apply Z;have kY:=kT p (aK hp);refine⟨λe=>absurd (of_decide_eq_true e) (by show¬size<=p;lia),λ_=>?_⟩;exact⟨rfl,_,rfl⟩
   ·refine oG λ_ Z=>?_;obtain⟨rfl,x4,rfl⟩:=hP;apply Z;exact⟨sA,_,_,_,rfl⟩
  ·refine oG λ_ Z=>?_;obtain⟨sG,x2,x3,x4,rfl⟩:=hP;apply Z;exact q _ sG
def xnO:Sp:=λvs H Q _=>Ex5 λ(size o n:Int) (p:Addr) (x:V)=>vs=[.int size,.ref p]/\H p=some (.tup [.int o,.int n,x])/\max o n<=size/\Q .non H
def xfZ(T:Txt K mg a):xE P w K mg base CX0 1 a.q1g a.jO ["size","paper"] xnO:=by
 refine T.q1i.ok xbM (λvs H Q E h=>?_) (λcdv A outer s H vs Q E hr h=>?_)
 ·obtain⟨size,o,n,p,x,rfl,_⟩:=h;rfl
 ·refine oG λ_ Z=>?_;obtain⟨size,o,n,p,x,rfl,hp,hle,k1⟩:=h;apply Z;have nd:=xbM.nd;refine⟨_,(xf (xC (i:=2) nd rfl (az rfl) (xI (xkq rfl) (by rfl) T.q4Z xg7 (xa (xM xT (cv 1) xg (λ_ _=>rfl)) (xa (xM xT (cv 1) xg (λ_ _=>rfl)) xc))))
  (xk (xS (xN xia (cv 0) (cv 2)) (xk xdA) xF))),?_⟩
  refine⟨p,_,_,.int o,rfl,rfl,SqT.of hp,rfl,?_⟩;refine⟨p,_,_,.int n,rfl,rfl,SqT.of hp,rfl,?_⟩;refine⟨λe=>absurd (of_decide_eq_true e) (by show¬size<max o n;lia),λe=>?_⟩;exact k1
def xeN(T:Txt K mg a):xE P w K mg base CX0 1 a.q1b a.xcp ["self"] (xo5 K):=by
 refine T.q2N.ok xex (λvs H Q E h=>?_) (λcdv A outer s H vs Q E hr h=>?_)
 ·obtain⟨p,C,dx,fs,to,c,rfl,_⟩:=h;rfl
 ·refine oG λ_ Z=>?_;obtain⟨p,C,dx,fs,to,c,rfl,hp,cl,n1,n2,l1,l2,k⟩:=h;apply Z;have nd:=xex.nd;refine⟨_,(xk (xv (xR (xa (xB (cv 0) rfl) (xa (xx ym (xB (cv 0) rfl) (xB (cv 0) rfl)) xc))))),?_⟩;refine⟨p,C,dx,fs,_,rfl,hp,cl,n1,l1,?_⟩;refine⟨p,C,dx,fs,_,rfl,hp,cl,n1,l1,?_⟩;refine⟨p,C,dx,fs,_,rfl,hp,cl,n2,l2,?_⟩;exact⟨by walk_at"side",k⟩
def xlb(to st c:Int):List Int:=if st=to then[]else xY st c.toNat
def xiE(to st c:Int):List Int:=if st=to then[]else xY to c.toNat
def xjy(a:Adr):Sp:=λvs H Q _=>Ex5 λ(p dx:Addr) (to st c:Int)=>vs=[.ref p]/\H p=some (.ins a.q0c dx (xcX to st c))/\c.toNat<=2^24/\xgy H Q (xlb to st c)
def xhF(a:Adr):Sp:=λvs H Q _=>Ex5 λ(p dx:Addr) (to st c:Int)=>vs=[.ref p]/\H p=some (.ins a.q0c dx (xcX to st c))/\c.toNat<=2^24/\xgy H Q (xiE to st c)
def xjz(a:Adr):Sp:=λvs H Q _=>Ex5 λ(p dx t:Addr) (to n:Int)=>vs=[.ref p]/\H p=some (.ins a.q0g dx (xfO to t n))/\xgy H Q []
def xhG(a:Adr):Sp:=λvs H Q _=>Ex5 λ(p dx t:Addr) (to n:Int)=>vs=[.ref p]/\H p=some (.ins a.q0g dx (xfO to t n))/\n.toNat<=2^24/\xgy H Q (xY to n.toNat)
def xj2(T:Txt K mg a):xE P w K mg base CX0 2 a.q1U a.xcr ["self"] (xjy a):=by
 refine T.q2P.ok xez (λvs H Q E h=>?_) (λcdv A outer s H vs Q E hr h=>?_)
 ·obtain⟨p,dx,to,st,c,rfl,_⟩:=h;rfl
 ·refine oG λ_ Z=>?_;obtain⟨p,dx,to,st,c,rfl,hp,hc,k⟩:=h;apply Z;have nd:=xez.nd;refine⟨_,(xf (xS (ur (xO (cv 0) T.q0h T.q29 (xbJ T) hr.m T.xcA .nil xt)) (xk (xv (xX xc))) xF)
  (xk (xv (xW (ve rfl) (by rfl) T.q2n zS (xa (xcR (by rfl) T.q16 (xa (xB (cv 0) rfl) (xa (xx ym (xB (cv 0) rfl) (xB (cv 0) rfl)) xc))) xc))))),?_⟩
  refine⟨p,dx,_,rfl,hp,rfl,?_⟩;refine⟨p,dx,to,st,c,rfl,hp,?_⟩;refine⟨λe=>?_,λe=>?_⟩
  ·refine⟨by decide,λl hl=>?_⟩;have e':st=to:=of_decide_eq_true e;exact k l _ (xj.new hl) hl (by rw[xp,xlb,if_pos e'];rfl)
  ·have e':¬st=to:=of_decide_eq_false e;refine⟨p,_,dx,_,.int st,rfl,hp,T.q0h,T.q0C,rfl,?_⟩;refine⟨p,_,dx,_,.int st,rfl,hp,T.q0h,T.q0C,rfl,?_⟩;exists⟨p,_,dx,_,.int c,rfl,hp,T.q0h,T.q0V,rfl,?_⟩;intro r kP;left;have e2:zg st (st+c) 1=c.toNat:=by rw[uB];congr 1;lia
   refine⟨r,st,st+c,rfl,xp,by rw[e2];exact hc,λl hl=>?_⟩;rw[e2,xfP];have kQ:H l=none:=xj.free (xj.new kP) hl;exact k l _ ((xj.new kP).put kQ) kQ (by rw[xp,xlb,if_neg e'])
def xiF(T:Txt K mg a):xE P w K mg base CX0 2 a.q1H a.xbD ["self"] (xhF a):=by
 refine T.q2q.ok xdD (λvs H Q E h=>?_) (λcdv A outer s H vs Q E hr h=>?_)
 ·obtain⟨p,dx,to,st,c,rfl,_⟩:=h;rfl
 ·refine oG λ_ Z=>?_;obtain⟨p,dx,to,st,c,rfl,hp,hc,k⟩:=h;apply Z;have nd:=xdD.nd;refine⟨_,(xf (xS (ur (xO (cv 0) T.q0h T.q29 (xbJ T) hr.m T.xcA .nil xt)) (xk (xv (xX xc))) xF)
  (xk (xv (xO (cv 0) T.q0h T.q2B (zo T) hr.m T.zH .nil xt)))),?_⟩
  refine⟨p,dx,_,rfl,hp,rfl,?_⟩;refine⟨p,dx,to,st,c,rfl,hp,?_⟩;refine⟨λe=>?_,λe=>?_⟩
  ·refine⟨by decide,λl hl=>?_⟩;have e':st=to:=of_decide_eq_true e;exact k l _ (xj.new hl) hl (by rw[xp,xiE,if_pos e'];rfl)
  ·have e':¬st=to:=of_decide_eq_false e;refine⟨p,dx,_,rfl,hp,rfl,?_⟩;refine⟨p,_,dx,_,to,c,rfl,hp,T.q0h,T.q01,T.q0V,rfl,rfl,hc,λl H' s1 hl hv=>?_⟩;exact k l H' s1 hl (by rw[hv,xiE,if_neg e'])
def xlc(T:Txt K mg a):xE P w K mg base CX0 1 a.q2e a.xdi ["self"] (xjz a):=by
 refine T.q3b.ok xfo (λvs H Q E h=>?_) (λcdv A outer s H vs Q E hr h=>?_)
 ·obtain⟨p,dx,t,to,n,rfl,_⟩:=h;rfl
 ·refine oG λ_ Z=>?_;obtain⟨p,dx,t,to,n,rfl,hp,k⟩:=h;apply Z;have nd:=xfo.nd;refine⟨_,(xk (xv (xX xc))),?_⟩;exact⟨by decide,λl hl=>k l _ (xj.new hl) hl (by rw[xp];rfl)⟩
def xj3(T:Txt K mg a):xE P w K mg base CX0 2 a.q1V a.xcs ["self"] (xhG a):=by
 refine T.q2Q.ok xeA (λvs H Q E h=>?_) (λcdv A outer s H vs Q E hr h=>?_)
 ·obtain⟨p,dx,t,to,n,rfl,_⟩:=h;rfl
 ·refine oG λ_ Z=>?_;obtain⟨p,dx,t,to,n,rfl,hp,hn,k⟩:=h;apply Z;have nd:=xeA.nd;refine⟨_,(xk (xv (xO (cv 0) T.q1L T.q2i (zo T) hr.m T.zH .nil xt))),?_⟩;refine⟨p,dx,_,rfl,hp,rfl,?_⟩;exact⟨p,_,dx,_,to,n,rfl,hp,T.q1L,T.q24,T.q12,rfl,rfl,hn,k⟩
def InD(kvs:List (Key×V))(seen:List Int):Prop:=∀c:Int,(ue kvs (.inl c)).isSome=decide (c∈seen)
def InD.nil:InD [] []:=λc=>by simp[xpM]
def InD.put{kvs:List (Key×V)}{seen:List Int}(h:InD kvs seen)(c:Int)(v:V):InD (putK kvs (.inl c) v) (c::seen):=by
 intro x;rw[xpN]
 by_cases e:x=c
 ·subst e;rw[if_pos rfl];simp
 ·rw[if_neg (λz=>e (by cases z;rfl)),h x]
  congr 1
  exact propext ⟨λz=>aL _ z,λz=>(av.mp z).resolve_left e⟩
def xgC(kvs:List (Key×V))(k:Key)(v:V):(putK kvs k v).length<=kvs.length+1:=by
 unfold putK
 split
 ·rw[ag];lia
 ·rw[aC];simp
theorem xmE(T:Txt K mg a){o:Addr}(ho:zM K a H o r)(hl:r.cv.length<=300)
  (k:∀l H',xj H H'->H l=none->H' l=some (.lst (r.cv.map V.int))->Q (.ref l) H') (hσ:autoParam (σ[i]? =some (some (.ref o))) sV):
  ud a.q0g "covered" (xee K) [] E0 (uR i) jK σ H Q\/ud a.q0c "covered" (xee K) [] E0 (uR i) jK σ H Q:=by
 cases r with
 |put to sg=>
  obtain⟨dx,u,h1,h2⟩:=ho
  apply Or.inl
  unfold ud uR;rw[hσ];have e:(sg.length:Int).toNat=sg.length:=by simp
  have kP:sg.length<=300:=by rw[show xq.cv (.put to sg)=xY to sg.length from rfl,yJ]at hl;exact hl
  refine⟨o,dx,_,rfl,h1,rfl,o,a.q0g,dx,_,to,sg.length,rfl,h1,T.q1L,T.q24,T.q12,rfl,rfl,by rw[e];exact bG kP (by decide),λl H' s n eL=>k l H' s n ?_⟩;rw[e]at eL;exact eL
 |take to st c=>
  obtain⟨dx,h1⟩:=ho
  apply Or.inr
  unfold ud uR;rw[hσ];have kP:c.toNat<=300:=by rw[show xq.cv (.take to st c)=xY to c.toNat from rfl,yJ]at hl;exact hl
  exact⟨o,dx,_,rfl,h1,rfl,o,a.q0c,dx,_,to,c,rfl,h1,T.q0h,T.q01,T.q0V,rfl,rfl,bG kP (by decide),λl H' s n eL=>k l H' s n eL⟩
theorem xqc(k:Nat)(all:List (List Int))(cs:List Int)(h:all[0]? =some cs):num k all=cs.map (λc=>(k,c))++num (k+1) (all.drop 1):=by
 cases all with
 |nil=>simp at h
 |cons x r=>simp at h;subst h;rfl
def xgD(T:Txt K mg a):xE P w K mg base CX0 2 a.q1t a.xaq ["rows"] (xp9 K a):=by
 refine T.q1y.ok xcG (λvs H Q E h=>?_) (λcdv A outer s H vs Q E hr h=>?_)
 ·obtain⟨l,rs,rfl,_⟩:=h;rfl
 ·refine oG λ_ Z=>?_;obtain⟨l,rs,rfl,⟨ts,hl,hp⟩,⟨lF,kY⟩,hN,q⟩:=h;apply Z;have nd:=xcG.nd;refine⟨_,(xf (xC (i:=1) nd rfl (az rfl) xgl)
  (xf (yT PassesOwn.never rfl (xkE (by rfl) T.q3c (xa (cv 0) xc)) (xb8 rfl (yB (yc (i:=2) nd rfl (az rfl)) (yB (yc (i:=3) nd rfl (az rfl)) xaK))) (xk (yT PassesOwn.never rfl (zx (xca (xO (cv 3) T.q1L T.q2i (zo T) hr.m T.zH .nil xt) (xO (cv 3) T.q0h T.q2B (zo T) hr.m T.zH .nil xt))) (yc (i:=4) nd rfl (az rfl)) (xf (xS (xnh (xoq (jb hr) (cv 4) (cv 1)) (by rfl)) xgp xF)
  (xk (xh9 (jb hr) (cv 1) (cv 4) zL rfl))))))
  (xk (xv yO)))),?_⟩
  left;intro d lp;refine gnr (upd H d _) λH1 kZ=>?_;have lb:=xj.of_eq lp kZ;have ed:=xU kZ;clear kZ;left;have ly:ts.length=rs.length:=hp.length;exists⟨l,rfl,⟨_,lb.seq hl⟩,?_⟩;refine xf4 (xs:=ts.map V.ref) (λi σ G=>xj H G/\(∃kvs seen,G d=some (.dK kvs)/\InD kvs seen/\kvs.length<=i*300/\jD rs=tw (num i ((rs.map xq.cv).drop i)) seen)/\∃x2 x3 x4,σ=[some (.ref l),some (.ref d),x2,x3,x4]) ⟨lb,⟨[],[],ed,InD.nil,by simp,rfl⟩,_,_,_,rfl⟩ (λi σ G hi hP=>hP.1.seq hl) (λi x σ G T0 hx hP lD=>?_) (λσ G hP=>?_)
  ·refine oG λ_ Z=>?_;obtain⟨s1,⟨kvs,seen,hd,lh,lA,kT⟩,x2,x3,x4,rfl⟩:=hP;apply Z;rw[aF]at hx;refine oG λ_ Z=>?_;obtain⟨o,ho,rfl⟩:=aO.mp hx;apply Z;have hi:i<ts.length:=(aw.mp ho).1;refine oG λ_ Z=>?_;obtain⟨r,hr,lz⟩:=Paired.nth hp ho;apply Z;refine gnr (upd G T0 _) λG2 hU=>?_;have s2:=xj.of_eq lD hU;have eT:=xU hU;clear hU;refine⟨T0,_,rfl,SqT.of eT,rfl,?_⟩;refine⟨_,_,rfl,?_⟩;exists⟨_,_,rfl,?_⟩;exists aY rfl ?_;have kX:r∈rs:=aK hr;refine xmE (K:=K) T (r:=r) (lz.same (s1.trans s2)) (kY r kX).1 λL G3 s3 hL eL=>?_;exists⟨L,rfl,⟨_,SqL.of eL⟩,?_⟩;have ll:G3 d=some (.dK kvs):=s3.at (s2.at hd)
   have lr:L≠d:=xcO eL ll (λz=>by cases z);have lB:((rs.map xq.cv).drop i)[0]? =some r.cv:=by rw[cG,Nat.add_zero,aF,hr];rfl
   rw[xqc i _ _ lB,List.drop_drop]at kT;refine zr (xs:=r.cv.map V.int) (λj σ G4=>xj H G4/\G4 L=some (.lst (r.cv.map V.int))/\(∃kvs seen,G4 d=some (.dK kvs)/\InD kvs seen/\kvs.length<=i*300+j/\jD rs=tw ((r.cv.drop j).map (λc=>(i,c))++num (i+1) ((rs.map xq.cv).drop (i+1))) seen)/\∃x4,σ=[some (.ref l),some (.ref d),some (.int i),some (.ref o),x4])
    ⟨s1.trans (s2.trans s3),eL,⟨kvs,seen,ll,lh,by lia,by rw[i6];exact kT⟩,_,rfl⟩ (λj σ G4 hj hQ=>SqL.of hQ.2.1) (λj x σ G4 hx hQ=>?_) (λσ G4 hQ=>?_)
   ·refine oG λ_ Z=>?_;obtain⟨s4,lq,⟨kS,kR,kW,kQ,lg,kP⟩,x4,rfl⟩:=hQ;apply Z;rw[aF]at hx;refine oG λ_ Z=>?_;obtain⟨c,hc,rfl⟩:=aO.mp hx;apply Z;have hj:j<r.cv.length:=(aw.mp hc).1;have hb:=(kY r kX).1;have la:r.cv.drop j=c::r.cv.drop (j+1):=by
     rw[bQ hj,(aw.mp hc).2]
    rw[la,bO,cU,tw]at kP;exists⟨d,_,rfl,vM.k (k:=c7 c) kW,?_⟩;rw[kQ c];refine⟨λe=>?_,λe=>?_⟩
    ·have e':=of_decide_eq_true e;rw[if_pos e']at kP;rw[kP]at hN;cases hN
    ·have e':=of_decide_eq_false e;rw[if_neg e']at kP;refine⟨d,_,rfl,xeV.k (k:=c7 c) kW (by rw[aZ];lia),?_⟩;refine gnr (upd G4 d _) λG5 hV=>?_;have s5:xj H G5:=xj.wr s4 lp hV;have lE:G5 L=some (.lst (r.cv.map V.int)):=by rw[<-hV,xm lr];exact lq
     have lC:=xU hV;clear hV;have:=xgC kS (c7 c) (.bl true);exact⟨s5,lE,⟨_,_,lC,kQ.put c _,by lia,kP⟩,_,rfl⟩
   ·refine oG λ_ Z=>?_;obtain⟨s4,lq,⟨kS,kR,kW,kQ,lg,kP⟩,x4,rfl⟩:=hQ;apply Z;rw[ag]at lg kP;rw[gc]at kP;have hb:=(kY r kX).1;exact⟨s4,⟨kS,kR,kW,kQ,by lia,kP⟩,_,_,_,rfl⟩
  ·refine oG λ_ Z=>?_;obtain⟨s1,⟨kvs,seen,hd,lh,lA,kT⟩,x2,x3,x4,rfl⟩:=hP;apply Z;have e0:(rs.map xq.cv).drop (ts.map V.ref).length=[]:=by
    rw[ag,ly];exact bS (by rw[ag];exact ay _)
   rw[e0]at kT;have e1:jD rs=none:=kT;rw[e1]at q;exact q G s1
theorem xrK(T:Txt K mg a){o:Addr}(ho:zM K a H o r)(hc:r.cv.length<=300)
  (k:∀l H',xj H H'->H l=none->H' l=some (.lst (r.rds.map V.int))->Q (.ref l) H') (hσ:autoParam (σ[i]? =some (some (.ref o))) sV):
  ud a.q0g "reads" (xjz a) [] E0 (uR i) jK σ H Q\/ud a.q0c "reads" (xjy a) [] E0 (uR i) jK σ H Q:=by
 cases r with
 |put to sg=>
  obtain⟨dx,u,h1,h2⟩:=ho
  apply Or.inl
  unfold ud uR;rw[hσ];exact⟨o,dx,_,rfl,h1,rfl,o,dx,u,to,sg.length,rfl,h1,λl H' s n eL=>k l H' s n eL⟩
 |take to st c=>
  obtain⟨dx,h1⟩:=ho
  apply Or.inr
  unfold ud uR;rw[hσ];have kP:c.toNat<=300:=by rw[show xq.cv (.take to st c)=xY to c.toNat from rfl,yJ]at hc;exact hc
  exact⟨o,dx,_,rfl,h1,rfl,o,dx,to,st,c,rfl,h1,bG kP (by decide),λl H' s n eL=>k l H' s n eL⟩
theorem xrL(T:Txt K mg a){o:Addr}(ho:zM K a H o r)(hc:r.cv.length<=300)
  (k:∀l H',xj H H'->H l=none->H' l=some (.lst (r.wrs.map V.int))->Q (.ref l) H') (hσ:autoParam (σ[i]? =some (some (.ref o))) sV):
  ud a.q0g "writes" (xhG a) [] E0 (uR i) jK σ H Q\/ud a.q0c "writes" (xhF a) [] E0 (uR i) jK σ H Q:=by
 cases r with
 |put to sg=>
  obtain⟨dx,u,h1,h2⟩:=ho
  apply Or.inl
  unfold ud uR;rw[hσ];have e:(sg.length:Int).toNat=sg.length:=by simp
  have kP:sg.length<=300:=by rw[show xq.cv (.put to sg)=xY to sg.length from rfl,yJ]at hc;exact hc
  refine⟨o,dx,_,rfl,h1,rfl,o,dx,u,to,sg.length,rfl,h1,by rw[e];exact bG kP (by decide),λl H' s n eL=>k l H' s n ?_⟩;rw[e]at eL;exact eL
 |take to st c=>
  obtain⟨dx,h1⟩:=ho
  apply Or.inr
  unfold ud uR;rw[hσ];have kP:c.toNat<=300:=by rw[show xq.cv (.take to st c)=xY to c.toNat from rfl,yJ]at hc;exact hc
  exact⟨o,dx,_,rfl,h1,rfl,o,dx,to,st,c,rfl,h1,bG kP (by decide),λl H' s n eL=>k l H' s n eL⟩
theorem xfw{ls:List Int}{p:Int->Bool}(h:∀i,i<j->∀c,ls[i]? =some c->p c=false):ls.find? p=(ls.drop j).find? p:=by
 induction j with
 |zero=>rfl
 |succ j ih=>
  rw[ih λi hi=>h i (by lia)]
  by_cases hj:j<ls.length
  ·have hc:ls[j]? =some ls[j]:=aD hj;rw[bQ hj,cM,h j (by lia) _ hc]
  ·rw[bS (by lia),bS (by lia)]
def xnP(T:Txt K mg a):xE P w K mg base CX0 2 a.q3g a.xfb ["rows","new"] (xnJ K a):=by
 refine T.q3l.ok xhz (λvs H Q E h=>?_) (λcdv A outer s H vs Q E hr h=>?_)
 ·obtain⟨l,rs,new,rfl,_⟩:=h;rfl
 ·refine oG λ_ Z=>?_;obtain⟨l,rs,new,rfl,⟨ts,hl,hp⟩,⟨lG,kZ⟩,lB,q⟩:=h;apply Z;have nd:=xhz.nd;refine⟨_,(xf (xC (i:=2) nd rfl (az rfl) xgl)
  (xf (yT PassesOwn.never rfl (zx (cv 0)) (yc (i:=3) nd rfl (az rfl)) (xk (yT PassesOwn.never rfl (zx (xca (xO (cv 3) T.q1L T.q2i (zo T) hr.m T.zH .nil xt) (xO (cv 3) T.q0h T.q2B (zo T) hr.m T.zH .nil xt))) (yc (i:=4) nd rfl (az rfl)) (xk (xh9 (jb hr) (cv 2) (cv 4) zL rfl)))))
  (xf (yT PassesOwn.never rfl (xbd (by rfl) T.q16 (xa (cv 1) xc)) (yc (i:=4) nd rfl (az rfl)) (xk (xS (xnh (xos (jb hr) (cv 4) (cv 2)) (by rfl)) (xk (xv (xR (xa xH (xa (cv 4) xc))))) xF)))
  (xk (xv yO))))),?_⟩
  left;intro d lq;refine gnr (upd H d _) λH1 lg=>?_;have lh:=xj.of_eq lq lg;have ed:=xU lg;clear lg;left;have lz:ts.length=rs.length:=hp.length;exists⟨l,rfl,⟨_,lh.seq hl⟩,?_⟩;refine zr (xs:=ts.map V.ref) (λi σ G=>xj H G/\(∃kvs seen,G d=some (.dK kvs)/\InD kvs seen/\kvs.length<=i*300/\∀c,c∈seen↔c∈((rs.map xq.cv).take i).flatten)/\∃x3 x4,σ=[some (.ref l),some (.int new),some (.ref d),x3,x4]) ⟨lh,⟨[],[],ed,InD.nil,by simp,λc=>by simp⟩,_,_,rfl⟩ (λi σ G hi hP=>hP.1.seq hl) (λi x σ G hx hP=>?_) (λσ G hP=>?_)
  ·refine oG λ_ Z=>?_;obtain⟨s1,⟨kvs,seen,hd,la,lC,kX⟩,x3,x4,rfl⟩:=hP;apply Z;rw[aF]at hx;refine oG λ_ Z=>?_;obtain⟨o,ho,rfl⟩:=aO.mp hx;obtain⟨r,hr,lA⟩:=Paired.nth hp ho;apply Z;have kY:r∈rs:=aK hr;have hi:i<ts.length:=(aw.mp ho).1;left;refine xmE (K:=K) T (r:=r) (lA.same s1) (kZ r kY).1 λL G3 s3 hL eL=>?_;exists⟨L,rfl,⟨_,SqL.of eL⟩,?_⟩;have lp:G3 d=some (.dK kvs):=s3.at hd;have ly:L≠d:=xcO eL lp (λz=>by cases z);refine zr (xs:=r.cv.map V.int) (λj σ G4=>xj H G4/\G4 L=some (.lst (r.cv.map V.int))/\(∃kvs seen,G4 d=some (.dK kvs)/\InD kvs seen/\kvs.length<=i*300+j/\∀c,c∈seen↔c∈((rs.map xq.cv).take i).flatten++r.cv.take j)/\∃x4,σ=[some (.ref l),some (.int new),some (.ref d),some (.ref o),x4])
    ⟨s1.trans s3,eL,⟨kvs,seen,lp,la,by lia,λc=>by rw[eN,cC];exact kX c⟩,_,rfl⟩ (λj σ G4 hj hQ=>SqL.of hQ.2.1) (λj x σ G4 hx hQ=>?_) (λσ G4 hQ=>?_)
   ·refine oG λ_ Z=>?_;obtain⟨s4,lr,⟨kS,kR,lb,kT,ll,kP⟩,x4,rfl⟩:=hQ;apply Z;rw[aF]at hx;refine oG λ_ Z=>?_;obtain⟨c,hc,rfl⟩:=aO.mp hx;apply Z;have hj:j<r.cv.length:=(aw.mp hc).1;have hb:=(kZ r kY).1;refine⟨d,_,rfl,xeV.k (k:=c7 c) lb (by rw[aZ];lia),?_⟩;refine gnr (upd G4 d _) λG5 hV=>?_;have s5:xj H G5:=xj.wr s4 lq hV;have lF:G5 L=some (.lst (r.cv.map V.int)):=by rw[<-hV,xm ly];exact lr
    have lE:=xU hV;clear hV;have:=xgC kS (c7 c) (.bl true);refine⟨s5,lF,⟨_,_,lE,kT.put c _,by lia,λy=>?_⟩,_,rfl⟩;rw[cu,hc,<-bP,aW,av,kP y];simp[or_comm]
   ·refine oG λ_ Z=>?_;obtain⟨s4,lr,⟨kS,kR,lb,kT,ll,kP⟩,x4,rfl⟩:=hQ;apply Z;rw[ag]at ll kP;rw[cy]at kP;have hb:=(kZ r kY).1;refine⟨s4,⟨kS,kR,lb,kT,by lia,λc=>?_⟩,_,_,rfl⟩;rw[kP c,cu,aF,hr,List.flatten_append];simp
  ·refine oG λ_ Z=>?_;obtain⟨s1,⟨kvs,seen,hd,la,lC,kX⟩,x3,x4,rfl⟩:=hP;apply Z;rw[ag]at kX;have kW:∀c,c∈seen↔c∈(rs.map xq.cv).flatten:=λc=>by
    rw[kX c,lz];rw[cz (by rw[ag];exact ay _)]
   left;have en:zg 0 ((new:Nat):Int) 1=new:=by rw[uB];lia
   rw[en];refine xcS (λi σ G2=>G2=G/\(∀j,j<i->((j:Nat):Int)∈(rs.map xq.cv).flatten)/\∃x4,σ=[some (.ref l),some (.int new),some (.ref d),x3,x4]) ⟨rfl,λj hj=>absurd hj (fx _),_,rfl⟩ (λi σ G2 hi hQ=>?_) (λσ G2 hQ=>?_)
   ·refine oG λ_ Z=>?_;obtain⟨rfl,kQ,x4,rfl⟩:=hQ;apply Z;have ei:(0+(i:Int)*1)=(i:Int):=by lia
    rw[ei];exists⟨d,_,rfl,vM.k (k:=c7 (i:Int)) hd,?_⟩;rw[la];refine⟨λe=>?_,λe=>?_⟩
    ·have e':¬(i:Int)∈seen:=by simpa using e
     have ef:vf rs new=some (i:Int):=by
      unfold vf;rw[xfw (j:=i) (λj hj c hc=>?_),bQ (by simp;exact hi),cM]
      ·simp only[List.getElem_map,kB];have:¬(i:Int)∈(rs.map xq.cv).flatten:=λz=>e' ((kW _).mpr z);simp only[decide_eq_false this];rfl
      ·rw[aF,gD (by lia)]at hc;cases hc;simp only[decide_eq_true (kQ j hj)];rfl
     rw[ef]at q;right;intro t ht;exact q t _ (s1.trans (xj.new ht)) xp
    ·have e':(i:Int)∈seen:=by simpa using e
     refine⟨rfl,λj hj=>?_,_,rfl⟩
     by_cases lD:j=i
     ·rw[lD];exact(kW _).mp e'
     ·exact kQ j (by lia)
   ·refine oG λ_ Z=>?_;obtain⟨rfl,kQ,x4,rfl⟩:=hQ;apply Z;have ef:vf rs new=none:=by
     unfold vf;rw[eu];intro c hc;refine oG λ_ Z=>?_;obtain⟨j,hj,rfl⟩:=bZ.mp hc;apply Z;simp[kQ j (dO.mp hj)]
    rw[ef]at q;exact q G2 s1
theorem xnQ(k:Nat)(rs:List xq)(r:xq)(wr:List Int)(h:rs[0]? =some r):jj k rs wr=match r.rds.find? λc=>decide (c∈wr)with
  |some c=>some (k,c)
  |none=>jj (k+1) (rs.drop 1) (wr++r.wrs):=by
 cases rs with
 |nil=>simp at h
 |cons x t=>simp at h;subst h;rfl
theorem xjA:∀(k:Nat) (rs:List xq) (w1 w2:List Int),(∀c,c∈w1↔c∈w2)->jj k rs w1=jj k rs w2
 |_,[],_,_,_=>rfl
 |k,r::t,w1,w2,h=>by
  unfold jj;have e:(λc=>decide (c∈w1))=λc=>decide (c∈w2):=funext λc=>by congr 1;exact propext (h c)
  rw[e];cases r.rds.find? λc=>decide (c∈w2)with
  |some c=>rfl
  |none=>exact xjA (k+1) t _ _ λc=>by rw[aW,aW,h c]
def xld(T:Txt K mg a):xE P w K mg base CX0 3 a.q2H a.xdn ["rows"] (xrI K a):=by
 refine T.q2L.ok xft (λvs H Q E h=>?_) (λcdv A outer s H vs Q E hr h=>?_)
 ·obtain⟨l,rs,rfl,_⟩:=h;rfl
 ·refine oG λ_ Z=>?_;obtain⟨l,rs,rfl,⟨ts,hl,hp⟩,⟨lN,lb⟩,q⟩:=h;apply Z;have nd:=xft.nd;refine⟨_,(xf (xC (i:=1) nd rfl (az rfl) xgl)
  (xf (yT PassesOwn.never rfl (xkE (by rfl) T.q3c (xa (cv 0) xc)) (xb8 rfl (yB (yc (i:=2) nd rfl (az rfl)) (yB (yc (i:=3) nd rfl (az rfl)) xaK))) (xf (yT PassesOwn.never rfl (zx (xca (xO (cv 3) T.q1L T.q4A (xlc T) hr.m T.xlT .nil xt) (xO (cv 3) T.q0h T.q4n (xj2 T) hr.m T.xkI .nil xt))) (yc (i:=4) nd rfl (az rfl)) (xk (xS (xnh (xoq (jb hr) (cv 4) (cv 1)) (by rfl)) (xk (xv (xR (xa xH (xa (cv 2) (xa (cv 4) xc)))))) xF)))
  (xk (yT PassesOwn.never rfl (zx (xca (xO (cv 3) T.q1L T.q4k (xj3 T) hr.m T.xkJ .nil xt) (xO (cv 3) T.q0h T.q35 (xiF T) hr.m T.xjO .nil xt))) (yc (i:=4) nd rfl (az rfl)) (xk (xh9 (jb hr) (cv 1) (cv 4) zL rfl))))))
  (xk (xv yO)))),?_⟩
  left;intro d lC;refine gnr (upd H d _) λH1 lp=>?_;have lr:=xj.of_eq lC lp;have ed:=xU lp;clear lp;left;have lF:ts.length=rs.length:=hp.length;exists⟨l,rfl,⟨_,lr.seq hl⟩,?_⟩;refine xf4 (xs:=ts.map V.ref) (λi σ G=>xj H G/\(∃kvs seen,G d=some (.dK kvs)/\InD kvs seen/\kvs.length<=i*300/\xaD rs=jj i (rs.drop i) seen)/\∃x2 x3 x4,σ=[some (.ref l),some (.ref d),x2,x3,x4]) ⟨lr,⟨[],[],ed,InD.nil,by simp,rfl⟩,_,_,_,rfl⟩ (λi σ G hi hP=>hP.1.seq hl) (λi x σ G T0 hx hP lK=>?_) (λσ G hP=>?_)
  ·refine oG λ_ Z=>?_;obtain⟨s1,⟨kvs,seen,hd,lg,lG,kS⟩,x2,x3,x4,rfl⟩:=hP;apply Z;rw[aF]at hx;refine oG λ_ Z=>?_;obtain⟨o,ho,rfl⟩:=aO.mp hx;obtain⟨r,hr,ly⟩:=Paired.nth hp ho;apply Z;have la:r∈rs:=aK hr;refine gnr (upd G T0 _) λG2 hU=>?_;have s2:=xj.of_eq lK hU;have eT:=xU hU;clear hU;have lI:(rs.drop i)[0]? =some r:=by rw[cG,Nat.add_zero];exact hr
   rw[xnQ i _ r seen lI,List.drop_drop]at kS;refine⟨T0,_,rfl,SqT.of eT,rfl,?_⟩;refine⟨_,_,rfl,?_⟩;exists⟨_,_,rfl,?_⟩;exists aY rfl ?_;refine xrK (K:=K) T (r:=r) (ly.same (s1.trans s2)) (lb r la).1 λL G3 s3 hL eL=>?_;exists⟨L,rfl,⟨_,SqL.of eL⟩,?_⟩;have lB:G3 d=some (.dK kvs):=s3.at (s2.at hd)
   have kZ:xj H G3:=s1.trans (s2.trans s3);refine zr (xs:=r.rds.map V.int) (λj σ G4=>G4=G3/\(∀i',i'<j->∀c,r.rds[i']? =some c->decide (c∈seen)=false)/\∃x4,σ=[some (.ref l),some (.ref d),some (.int i),some (.ref o),x4])
    ⟨rfl,λj hj=>absurd hj (fx _),_,rfl⟩ (λj σ G4 hj hQ=>by rw[hQ.1];exact SqL.of eL) (λj x σ G4 hx hQ=>?_) (λσ G4 hQ=>?_)
   ·refine oG λ_ Z=>?_;obtain⟨rfl,kY,x4,rfl⟩:=hQ;apply Z;rw[aF]at hx;refine oG λ_ Z=>?_;obtain⟨c,hc,rfl⟩:=aO.mp hx;apply Z;have hj:j<r.rds.length:=(aw.mp hc).1;exists⟨d,_,rfl,vM.k (k:=c7 c) lB,?_⟩;rw[lg c];refine⟨λe=>?_,λe=>?_⟩
    ·have ef:r.rds.find? (λc=>decide (c∈seen))=some c:=by
      rw[xfw (j:=j) kY,bQ hj,cM,(aw.mp hc).2,e]
     rw[ef]at kS;rw[kS]at q;right;intro t ht;exact q t _ (kZ.trans (xj.new ht)) xp
    ·refine⟨rfl,λi' lO c' ll=>?_,_,rfl⟩
     by_cases lH:i'=j
     ·rw[lH,hc]at ll;cases ll;exact e
     ·exact kY i' (by lia) c' ll
   ·refine oG λ_ Z=>?_;obtain⟨rfl,kY,x4,rfl⟩:=hQ;apply Z;rw[ag]at kY;have ef:r.rds.find? (λc=>decide (c∈seen))=none:=by
     rw[xfw (j:=r.rds.length) kY,gc];rfl
    rw[ef]at kS;left;refine xrL (K:=K) T (r:=r) (ly.same kZ) (lb r la).1 λL2 G5 s5 lP lq=>?_;exists⟨L2,rfl,⟨_,SqL.of lq⟩,?_⟩;have lA:G5 d=some (.dK kvs):=s5.at lB;have lE:L2≠d:=xcO lq lA (λz=>by cases z);have lM:=(lb r la).2.2;refine zr (xs:=r.wrs.map V.int) (λj σ G6=>xj H G6/\G6 L2=some (.lst (r.wrs.map V.int))/\(∃kW kR,G6 d=some (.dK kW)/\InD kW kR/\kW.length<=i*300+j/\∀c,c∈kR↔c∈seen++r.wrs.take j)/\∃x4,σ=[some (.ref l),some (.ref d),some (.int i),some (.ref o),x4])
     ⟨kZ.trans s5,lq,⟨kvs,seen,lA,lg,by lia,λc=>by rw[eN,cC]⟩,_,rfl⟩ (λj σ G6 hj hQ=>SqL.of hQ.2.1) (λj x σ G6 hx hQ=>?_) (λσ G6 hQ=>?_)
    ·refine oG λ_ Z=>?_;obtain⟨s6,lD,⟨kT,kQ,lh,kX,lz,kP⟩,x4,rfl⟩:=hQ;apply Z;rw[aF]at hx;refine oG λ_ Z=>?_;obtain⟨c,hc,rfl⟩:=aO.mp hx;apply Z;have hj:j<r.wrs.length:=(aw.mp hc).1;have hi:i<ts.length:=(aw.mp ho).1;refine⟨d,_,rfl,xeV.k (k:=c7 c) lh (by rw[aZ];lia),?_⟩;refine gnr (upd G6 d _) λG7 hV=>?_;have s7:xj H G7:=xj.wr s6 lC hV;have lL:G7 L2=some (.lst (r.wrs.map V.int)):=by rw[<-hV,xm lE];exact lD
     have lJ:=xU hV;clear hV;have:=xgC kT (c7 c) (.bl true);refine⟨s7,lL,⟨_,_,lJ,kX.put c _,by lia,λy=>?_⟩,_,rfl⟩;rw[cu,hc,<-bP,aW,av,kP y];simp[or_comm]
    ·refine oG λ_ Z=>?_;obtain⟨s6,lD,⟨kT,kQ,lh,kX,lz,kP⟩,x4,rfl⟩:=hQ;apply Z;rw[ag]at lz kP;rw[cy]at kP;refine⟨s6,⟨kT,kQ,lh,kX,by lia,?_⟩,_,_,_,rfl⟩;rw[kS];exact xjA _ _ _ _ λc=>(kP c).symm
  ·refine oG λ_ Z=>?_;obtain⟨s1,⟨kvs,seen,hd,lg,lG,kS⟩,x2,x3,x4,rfl⟩:=hP;apply Z;have e0:rs.drop (ts.map V.ref).length=[]:=by
    rw[ag,lF];exact gc
   rw[e0]at kS;have e1:xaD rs=none:=kS;rw[e1]at q;exact q G s1
def xfx(T:Txt K mg a):xE P w K mg base CX0 3 a.q2G a.xdm ["value"] xk5:=by
 refine T.q2f.ok xfs (λvs H Q E h=>?_) (λcdv A outer s H vs Q E hr h=>?_)
 ·obtain⟨i,rfl,_⟩:=h;rfl
 ·refine oG λ_ Z=>?_;obtain⟨i,rfl,h0,h3,q⟩:=h;apply Z;have nd:=xfs.nd;refine⟨_,(xk (xv (uK (xy (ub T) hr.m (by rfl) T.ux T.q0v.kp T.uw .nil xt (xa xg (xa (cv 0) xc))) (vL (zb xpP (cv 0) (xfF (v:=.int 300) (by rfl) T.xoZ ⟨_,rfl⟩)))))),?_⟩;refine⟨_,i,rfl,?_⟩;rw[decide_eq_true h0];walk_at"Y";show Q (.bl (decide (i<=300))) H;rw[decide_eq_true h3];exact q
def xhH(T:Txt K mg a):xE P w K mg base CX0 4 a.q1O a.xaZ ["paper"] (xrJ K):=by
 refine T.q1P.ok xcU (λvs H Q E h=>?_) (λcdv A outer s H vs Q E hr h=>?_)
 ·obtain⟨p,o,n,rs,rfl,_⟩:=h;rfl
 ·refine oG λ_ Z=>?_;obtain⟨p,o,n,rs,rfl,⟨tt,ts,hp,ht,kP⟩,kR,kQ,kT,kS,hl,q⟩:=h;apply Z;have nd:=xcU.nd;refine⟨_,(xk (xv (uK (xy (xfx T) hr.m (by rfl) T.xf8 T.q2f.kp T.xf7 .nil xt (xa (xM xT (cv 0) xg (λ_ _=>rfl)) xc)) (uK (xy (xfx T) hr.m (by rfl) T.xf8 T.q2f.kp T.xf7 .nil xt (xa (xM xT (cv 0) xg (λ_ _=>rfl)) xc)) (vL (zb xpP (xI xQ (by rfl) T.q0O yu (xa (xM xT (cv 0) xg (λ_ _=>rfl)) xc)) (xfF (v:=.int 300) (by rfl) T.xoZ ⟨_,rfl⟩))))))),?_⟩;refine⟨p,_,_,.int o,rfl,rfl,SqT.of hp,rfl,?_⟩;refine⟨o,rfl,kR,kQ,?_⟩;walk_at"Y";refine⟨p,_,_,.int n,rfl,rfl,SqT.of hp,rfl,?_⟩;refine⟨n,rfl,kT,kS,?_⟩;walk_at"Y";refine⟨p,_,_,.ref tt,rfl,rfl,SqT.of hp,rfl,?_⟩;refine⟨tt,_,rfl,.inr (SqT.of ht),?_⟩;rw[ag,kP.length];show Q (.bl (decide ((rs.length:Int)<=300))) H;rw[decide_eq_true (by lia)];exact q
theorem xf0(T:Txt K mg a):xE P w K mg base CX0 6 a.q1h a.jP ["told","old","new"] (xnK K):=by
 refine T.q1j.ok xbN (λvs H Q E h=>?_) (λcdv A outer s H vs Q E hr h=>?_)
 ·obtain⟨t,r,old,new,rfl,_⟩:=h;rfl
 ·refine oG λ_ Z=>?_;obtain⟨t,r,old,new,rfl,ht,hk,hf,q⟩:=h;apply Z;have nd:=xbN.nd;refine⟨_,(xf (xrp rfl (xk (xC (i:=3) nd rfl (az rfl) (xy (xad (P:=P) (w:=w) (base:=base) T) hr.m (by rfl) T.xa1 T.q19.kp T.xa0 .nil xt (xa (cv 0) xc)))))
  (xf (xS (PW.pt (xg3 (ur (xI vN (by rfl) T.q1D zE (xa (cv 3) (xa (xfF (v:=.ref a.q0c) (by rfl) T.xkR rfl) xc)))) (xfG (xN xc7 (xx ym (xB (cv 3) rfl) (xB (cv 3) rfl)) (cv 1))))) (xk (xv zL)) xF)
  (xk (xv (zb xpP (xM xT (xca (xO (cv 3) T.q1L T.q4i (xeN (P:=P) (w:=w) (base:=base) T) hr.m T.xfg .nil xt) (xO (cv 3) T.q0h T.q33 (xeN (P:=P) (w:=w) (base:=base) T) hr.m T.xfg .nil xt)) xg (λ_ _=>rfl)) (cv 2)))))),?_⟩
  refine⟨t,r,rfl,ht,hk,λo H1 s1 _ ho=>?_⟩;cases r with
  |take to st c=>
   obtain⟨dx,ho⟩:=ho;refine⟨_,_,_,_,true,rfl,rfl,T.xmA ho,T.q3O,?_⟩;walk_at"Y";refine⟨o,_,dx,_,.int st,rfl,ho,T.q0h,T.q0C,rfl,?_⟩;exists⟨o,_,dx,_,.int c,rfl,ho,T.q0h,T.q0V,rfl,?_⟩;rw[decide_eq_false (show¬old<st+c from by have:=hf.1;lia)];walk_at"n";refine cW ?_;refine⟨o,dx,_,rfl,ho,rfl,?_⟩;refine⟨o,a.q0c,dx,_,to,c,rfl,ho,T.q0h,T.q01,T.q0V,rfl,rfl,?_⟩;refine λt3 kQ=>xw (upd H1 t3 _) rfl kQ λH3 kP kR=>?_;refine⟨t3,_,_,.int (to+c),rfl,rfl,SqT.of kR,rfl,?_⟩;show Q (.bl (decide (to+c<=new))) H3;rw[decide_eq_true hf.2];exact q H3 (s1.trans kP)
  |put to sg=>
   refine oG λ_ Z=>?_;obtain⟨dx,u,ho,hu⟩:=ho;apply Z;refine⟨_,_,_,_,false,rfl,rfl,T.xoY ho,T.q39,?_⟩;walk_at"N";walk_at"n";refine az ?_;refine⟨o,dx,_,rfl,ho,rfl,?_⟩;refine⟨o,a.q0g,dx,_,to,sg.length,rfl,ho,T.q1L,T.q24,T.q12,rfl,rfl,?_⟩;refine λt3 kQ=>xw (upd H1 t3 _) rfl kQ λH3 kP kR=>?_;refine⟨t3,_,_,.int (to+sg.length),rfl,rfl,SqT.of kR,rfl,?_⟩;show Q (.bl (decide (to+(sg.length:Int)<=new))) H3;rw[decide_eq_true (show to+(sg.length:Int)<=new from hf)];exact q H3 (s1.trans kP)
def xfy(T:Txt K mg a):xE P w K mg base CX0 7 a.q02 a.ju ["paper"] (xqa K):=by
 refine T.q03.ok xbj (λvs H Q E h=>?_) (λcdv A outer s H vs Q E hr h=>?_)
 ·obtain⟨p,o,n,rs,rfl,_⟩:=h;rfl
 ·refine oG λ_ Z=>?_;obtain⟨p,o,n,rs,rfl,⟨tt,ts,hp,ht,kQ⟩,hk,hl,q⟩:=h;apply Z;have nd:=xbj.nd;refine⟨_,(xf (yT PassesOwn.never rfl (xp1 (by rfl) T.q3c (xa (xM xT (cv 0) xg (λ_ _=>rfl)) xc)) (xb8 rfl (yB (yc (i:=1) nd rfl (az rfl)) (yB (yc (i:=2) nd rfl (az rfl)) xaK))) (xk (xS (xb7 (ur (xy (xf0 T) hr.m (by rfl) T.xgw T.q1j.kp T.xgv .nil xt (xa (cv 2) (xa (xM xT (cv 0) xg (λ_ _=>rfl)) (xa (xM xT (cv 0) xg (λ_ _=>rfl)) xc)))))) (xk (xv (cv 1))) xF)))
  (xk (xv yO))),?_⟩
  refine⟨p,_,_,.ref tt,rfl,rfl,SqT.of hp,rfl,?_⟩;exists⟨tt,rfl,⟨_,SqT.of ht⟩,?_⟩;refine xlL (xs:=ts.map V.ref) (λi σ H1=>xj H H1/\∃x1 x2,σ=[some (.ref p),x1,x2]) ⟨xj.refl _,_,_,rfl⟩ (λi σ H1 hi hP=>hP.1.seqT (SqT.of ht)) (λi x σ H1 T0 hx hP kT=>?_) (λσ H1 hP=>?_)
  ·refine oG λ_ Z=>?_;obtain⟨s1,x1,x2,rfl⟩:=hP;apply Z;rw[aF]at hx;refine oG λ_ Z=>?_;obtain⟨t0,kR,rfl⟩:=aO.mp hx;obtain⟨r,kS,pr⟩:=xc8 kQ kR;obtain⟨k1,k2⟩:=hk r (aK kS);apply Z;refine gnr (upd H1 T0 _) λH2 hU=>?_;have s2:=xj.of_eq kT hU;have eT:=xU hU;clear hU;have kP:=s1.trans s2;refine⟨T0,_,rfl,SqT.of eT,rfl,?_⟩;refine⟨_,_,rfl,?_⟩;exists⟨_,_,rfl,?_⟩;refine aY rfl ?_;refine⟨p,_,_,.int o,rfl,rfl,SqT.of (kP.at hp),rfl,?_⟩;refine⟨p,_,_,.int n,rfl,rfl,SqT.of (kP.at hp),rfl,?_⟩;refine⟨t0,r,o,n,rfl,pr.same kP,k1,k2,λH3 s3=>?_⟩;walk_at"N";exact⟨kP.trans s3,_,_,rfl⟩
  ·refine oG λ_ Z=>?_;obtain⟨s1,x1,x2,rfl⟩:=hP;apply Z;exact q H1 s1
theorem xqd{new:Int}(hk:r.ok)(hn:new<=300)(h:Fit old new r):r.cv.length<=300/\r.rds.length<=300/\r.wrs.length<=300:=by
 cases r with
 |take to st c=>
  obtain⟨k1,k2,k3⟩:=hk;have h2:=h.2;refine⟨by simp only[xq.cv,yJ];lia,?_,?_⟩
  ·simp only[xq.rds];split
   ·simp
   ·rw[yJ];lia
  ·simp only[xq.wrs];split
   ·simp
   ·rw[yJ];lia
 |put to sg=>
  have h2:to+(sg.length:Int)<=new:=h;have k1:=hk.1;refine⟨by simp only[xq.cv,yJ];lia,by simp[xq.rds],by simp only[xq.wrs,yJ];lia⟩
theorem xqe(T:Txt K mg a):xE P w K mg base CX0 8 a.q3T a.xis ["paper"] (xqb K):=by
 refine T.q3X.ok xkU (λvs H Q E h=>?_) (λcdv A outer s H vs Q E hr h=>?_)
 ·obtain⟨p,o,n,rs,rfl,_⟩:=h;rfl
 ·refine oG λ_ Z=>?_;obtain⟨p,o,n,rs,rfl,hP,ho,hn,hl,hk,h1,q⟩:=h;apply Z;have nd:=xkU.nd;refine⟨_,(xf (xS (xb7 (ur (xy (xhH T) hr.m (by rfl) T.xiy T.q1P.kp T.xix .nil xt (xa (cv 0) xc)))) xgp xF)
  (xf (xC (i:=1) nd rfl (az rfl) (xy (xfy T) hr.m (by rfl) T.xfX T.q03.kp T.xfW .nil xt (xa (cv 0) xc)))
  (xf (xS (xfL (cv 1)) xgp xF)
  (xf (xdX (i:=2) (xae (cap:=[]) (ys:=[]) rfl rfl rfl rfl rfl trivial (by decide+kernel)) rfl nd rfl rfl (xgS (xM xT (cv 0) xg (λ_ _=>rfl))) (λ_ _ _ _=>(xy (xad T) hr.m (by rfl) T.xa1 T.q19.kp T.xa0 .nil xt (xa (cv 0) xc))) (λ_ _ _ _=>jV))
  (xf (xC (i:=3) nd rfl (az rfl) (xy (xgD T) hr.m (by rfl) T.xht T.q1y.kp T.xhs .nil xt (xa (cv 2) xc)))
  (xf (yD (xS (xbe (cv 3)) (xk (xC (i:=3) nd rfl (az rfl) (xy (xnP T) hr.m (by rfl) T.xoQ T.q3l.kp T.xoP .nil xt (xa (cv 2) (xa (xM xT (cv 0) xg (λ_ _=>rfl)) xc))))) xF))
  (xf (yD (xS (xbe (cv 3)) (xk (xC (i:=3) nd rfl (az rfl) (xy (xld T) hr.m (by rfl) T.xl2 T.q2L.kp T.xl1 .nil xt (xa (cv 2) xc)))) xF))
  (xk (xv (cv 3)))))))))),?_⟩
  refine⟨p,o,n,rs,rfl,hP,ho.1,ho.2,hn.1,hn.2,hl,?_⟩;walk_at"N";refine⟨p,o,n,rs,rfl,hP,hk,hl,λH1 s1=>?_⟩;walk_at"N";refine oG λ_ Z=>?_;obtain⟨tt,ts,hp,ht,kT⟩:=hP.same s1;apply Z;refine⟨p,_,_,.ref tt,rfl,rfl,SqT.of hp,rfl,?_⟩;refine⟨tt,rfl,⟨_,SqT.of ht⟩,?_⟩;refine xjr (λi acc G=>∃(os:List Addr),acc=os.map V.ref/\Paired (zM K a G) os (rs.take i)) (SqT.of ht) (by rw[ag,kT.length,aZ];lia) ⟨[],rfl,.nil⟩ (λi x acc H3 H3' hx s3 kR hP R hR=>?_) (λD acc H3 H3' hD ll s3 kR hP lh he=>?_)
  ·refine oG λ_ Z=>?_;obtain⟨os,rfl,kS⟩:=hP;apply Z;rw[aF]at hx;refine oG λ_ Z=>?_;obtain⟨t0,la,rfl⟩:=aO.mp hx;obtain⟨r,kY,pr⟩:=xc8 kT la;apply Z;refine⟨t0,r,rfl,pr.same (s3.trans kR),(hk r (aK kY)).1,λo H6' s6 lp lg=>hR _ _ s6 λH6 sx kx=>⟨os++[o],by simp,?_⟩⟩;rw[cu,kY];exact xba (L2.Paired.imp' (λ_ _ z=>z.same sx) kS) (lg.mv kx)
  refine oG λ_ Z=>?_;obtain⟨os,rfl,kS⟩:=hP;apply Z;rw[ag,kT.length,cy]at kS;have kQ:=L2.Paired.imp' (λ_ _ (z:zM K a H3 _ _)=>z.same kR) kS;have sA:xj H H3':=s1.trans (s3.trans kR);have kP:xhE rs:=⟨hl,λr kX=>xqd (hk r kX).1 hn.2 (hk r kX).2⟩;have lb:=(s3.trans kR).at hp;clear lh ll s3 kR kS kT ht hp;refine⟨D,rs,rfl,⟨os,SqL.of he,kQ⟩,kP,h1,?_⟩;rw[h1];intro H4 s4;refine⟨λσ' G=>(vf rs n.toNat=none/\σ'=[some (.ref p),some .non,some (.ref D),some .non]/\xj H3' G)\/∃t,σ'=[some (.ref p),some .non,some (.ref D),some (.ref t)]/\Q (.ref t) G,?_,?_⟩
  ·walk_at"Y";refine⟨p,_,_,.int n,rfl,rfl,SqT.of (s4.at lb),rfl,?_⟩;refine⟨D,rs,n.toNat,by rw[cb hn.1];rfl,⟨os,SqL.of (s4.at he),L2.Paired.imp' (λ_ _ z=>z.same s4) kQ⟩,kP,by lia,?_⟩;unfold xk6 at q;cases kW:vf rs n.toNat with
   |none=>intro H5 s5;exact .inl ⟨rfl,rfl,s4.trans s5⟩
   |some c=>rw[kW]at q;intro t H5 s5 et;exact .inr ⟨t,rfl,q t H5 (sA.trans (s4.trans s5)) et⟩
  rintro σ' G (⟨kW,rfl,sG⟩|⟨t,rfl,qt⟩)
  ·unfold xk6 at q;rw[kW]at q;refine⟨λσ' G2=>∃v,σ'=[some (.ref p),some .non,some (.ref D),some v]/\Q v G2,?_,?_⟩
   ·walk_at"Y";refine⟨D,rs,rfl,⟨os,SqL.of (sG.at he),L2.Paired.imp' (λ_ _ z=>z.same sG) kQ⟩,kP,?_⟩;cases kZ:xaD rs with
    |none=>
     rw[kZ]at q;intro H5 s5;exact⟨_,rfl,q H5 (sA.trans (sG.trans s5))⟩
    |some kc=>
     rw[kZ]at q;intro t H5 s5 e5;exact⟨_,rfl,q t H5 (sA.trans (sG.trans s5)) e5⟩
   rintro σ' G2 ⟨v,rfl,qv⟩;exact qv
  ·refine⟨λσ' G2=>∃v,σ'=[some (.ref p),some .non,some (.ref D),some v]/\Q v G2,?_,?_⟩
   ·walk_at"N";exact⟨_,rfl,qt⟩
   rintro σ' G2 ⟨v,rfl,qv⟩;left;exact qv
noncomputable abbrev bI(b:Bool):Int:=if b then 1 else 0
structure BA where
 bd:Addr
 dx:Addr
 p:Addr
 dp:Addr
 bl:Addr
 le:Addr
 ma:Addr
 se:Addr
 S:Bool->SA
structure BdS where
 size:Int
 cells:Bool->List Int
 notes:Bool->List (Option Int)
 len:Bool->Int
 mark:Bool->Str
 mr:Bool
 ct:Int
 run:Option Bool
 cnt:Int
 fl:Nat
def vX:Option Bool->V
 |none=>.non
 |some b=>.int (bI b)
noncomputable abbrev bdF(B:BA)(size:Int)(run:V):List (Str×V):=[("pen",.ref B.p),("size",.int size),("banks",.ref B.bl),("lengths",.ref B.le),("marks",.ref B.ma),("settings",.ref B.se),("running",run)]
abbrev xgE(mk:Bool)(ct:Int):List (Key×V):=[(.inr "marker",.int (bI mk)),(.inr "counter",.int ct)]
noncomputable abbrev BS(B:BA):List Addr:=[B.bd,B.le,B.ma,B.se,B.p,(B.S false).ca,(B.S false).na,(B.S true).ca,(B.S true).na]
abbrev BF(F:FM)(B:BA):List Addr:=BS B++F.M
structure xA(a:Adr)(F:FM)(H:Hp)(B:BA)(s:BdS):Prop where
 bd:H B.bd=some (.ins a.q0b B.dx (bdF B s.size (vX s.run)))
 bl:H B.bl=some (.lst [.ref (B.S false).st,.ref (B.S true).st])
 le:H B.le=some (.lst [.int (s.len false),.int (s.len true)])
 ma:H B.ma=some (.lst [.str (s.mark false),.str (s.mark true)])
 se:H B.se=some (.dK (xgE s.mr s.ct))
 st:∀b,ug a H (B.S b) (s.cells b) (s.notes b) s.cnt (.ref F.f)
 sp:∀b,(B.S b).p=B.p/\(B.S b).dp=B.dp
 nl:[B.bl,B.le,B.ma,(B.S false).ca,(B.S false).na,(B.S true).ca,(B.S true).na].Nodup
 ni:[B.bd,(B.S false).st,(B.S true).st,B.p].Nodup
 fm:F.At H s.fl s.cnt
 off:∀x∈F.M,x∉BS B/\x≠B.bl/\∀b,x≠(B.S b).st
 c0:0<=s.cnt
def xA.pen(h:xA a F H B s):H B.p=some (.ins a.q0k B.dp (zN s.cnt (.ref F.f))):=by
 have:=(h.st false).p;rw[(h.sp false).1,(h.sp false).2]at this;exact this
def xA.same(h:xA a F H B s)(e:xj H H'):xA a F H' B s:=
 ⟨e.at h.bd,e.at h.bl,e.at h.le,e.at h.ma,e.at h.se,λb=>(h.st b).same e,h.sp,h.nl,h.ni,F.keep (L:=[]) h.fm (Kp.of e) (λ_ z=>nomatch z) (λ_ z=>nomatch z),h.off,h.c0⟩
def xqf(a:Adr):Sp:=λvs H Q _=>Ex3 λ(F:FM) (B:BA) (s:BdS)=>vs=[.ref B.bd]/\xA a F H B s/\Q (.int (bI (!s.mr))) H
def xqg(a:Adr):Sp:=λvs H Q _=>Ex5 λ(F:FM) (B:BA) (s:BdS) (b:Bool) (old:Int)=>vs=[.ref B.bd,.int (bI b),.int old]/\xA a F H B s/\Q (.bl (decide (s.mark b=("open":Str))||decide (old=0)||(decide (s.mark b=("good":Str))&&decide (s.len b=old)))) H
def xqh(a:Adr):Sp:=λvs H Q _=>Ex3 λ(F:FM) (B:BA) (s:BdS)=>vs=[.ref B.bd]/\xA a F H B s/\∀(t m l:Addr) (H':Hp),xj H H'->H m=none->H l=none->m≠l->H' t=some (.tup [.int (bI s.mr),.ref m,.ref l,.int s.ct,vX s.run])->H' m=some (.lst [.str (s.mark false),.str (s.mark true)])->H' l=some (.lst [.int (s.len false),.int (s.len true)])->Q (.ref t) H'
def xqi(a:Adr):Sp:=λvs H Q _=>Ex4 λ(F:FM) (B:BA) (s:BdS) (b:Bool)=>vs=[.ref B.bd,.int (bI b)]/\xA a F H B s/\0<=s.len b/\∀(t:Addr) (H':Hp),xj H H'->H t=none->H' t=some (.lst (((s.cells b).take (s.len b).toNat).map V.int))->Q (.ref t) H'
inductive Wr
 |mark (b:Bool) (v:Str)
 |leng (b:Bool) (v:Int)
 |cter (v:Int)
 |mrk (b:Bool)
 |note (b:Bool) (i:Nat) (m:Int)
 |cell (b:Bool) (i:Nat) (v:Int)
noncomputable def upB(f:Bool->α)(b:Bool)(v:α):Bool->α:=λc=>if c=b then v else f c
def Wr.up:Wr->BdS->BdS
 | .mark b v,s=>{s with mark:=upB s.mark b v}
 | .leng b v,s=>{s with len:=upB s.len b v}
 | .cter v,s=>{s with ct:=v}
 | .mrk b,s=>{s with mr:=b}
 | .note b i m,s=>{s with notes:=upB s.notes b ((s.notes b).set i (some m))}
 | .cell b i v,s=>{s with cells:=upB s.cells b ((s.cells b).set i v)}
def Wr.tn(x:Int):Wr->BdS->BdS
 | .note b i _,s=>{s with notes:=upB s.notes b ((s.notes b).set i none)}
 | .cell b i _,s=>{s with cells:=upB s.cells b ((s.cells b).set i x)}
 |y,s=>y.up s
def w1(F:FM)(s:BdS)(y:Wr):BdS:=match F.fo s.fl s.cnt with
 |none=>{y.up s with cnt:=s.cnt+1,fl:=s.fl}
 |some none=>{s with cnt:=s.cnt+1,fl:=s.fl+1}
 |some (some x)=>{y.tn x s with cnt:=s.cnt+1,fl:=s.fl+1}
def xD(F:FM):BdS->List Wr->BdS×Option Int
 |s,[]=>(s,none)
 |s,y::ys=>if F.fo s.fl s.cnt=none then xD F (w1 F s y) ys else(w1 F s y,some s.cnt)
structure xV(a:Adr)(F:FM)(H:Hp)(B:BA)(r:BdS×Option Int)(q:Hp->Prop)(E:XK):Prop where
 ends:r.2=none->∀H',Kp (BF F B) H H'->xA a F H' B r.1->q H'
 falls:∀c,r.2=some c->∀d H',Kp (BF F B) H H'->xA a F H' B r.1->H' d=some (.xd [("count",.int c)])->E (.ref a.q0d) (some d) H'
 lim:r.1.cnt<=F.lim
def xcZ{q C dx:Addr}{fs:List (Str×V)}{o:HO}(h1:H p=some (.ins C dx fs))(h2:H q=some o)(n:∀C dx fs,o≠.ins C dx fs):q≠p:=λz=>by
 rw[z,h1]at h2;exact n _ _ _ (bt h2).symm
def xA.np(h:xA a F H B s):B.bd≠B.p/\B.bl≠B.p/\B.le≠B.p/\B.ma≠B.p/\B.se≠B.p/\∀b,(B.S b).st≠B.p/\(B.S b).ca≠B.p/\(B.S b).na≠B.p:=by
 have hp:=h.pen;have ni:=h.ni;simp only[bA,av,aV,or_false,not_or,not_false_eq_true,dg,and_true]at ni;refine⟨ni.1.2.2,xcZ hp h.bl (λ_ _ _ z=>by cases z),xcZ hp h.le (λ_ _ _ z=>by cases z),xcZ hp h.ma (λ_ _ _ z=>by cases z),xcZ hp h.se (λ_ _ _ z=>by cases z),λb=>⟨?_,xcZ hp (h.st b).ca (λ_ _ _ z=>by cases z),xcZ hp (h.st b).na (λ_ _ _ z=>by cases z)⟩⟩;cases b
 ·exact ni.2.1.2
 ·exact ni.2.2
def xA.nb(h:xA a F H B s){x:Addr}{o:HO}(e:H x=some o)(n:∀C dx fs,o≠.ins C dx fs):x≠B.bd/\∀b,x≠(B.S b).st:=⟨xcZ h.bd e n,λb=>xcZ (h.st b).st e n⟩
def xA.mu(h:xA a F H B s):∀x∈BS B,∃u,H x=some u/\xaC u:=by
 intro x hx;simp only[av,aV,or_false]at hx;rcases hx with rfl|rfl|rfl|rfl|rfl|rfl|rfl|rfl|rfl
 ·exact⟨_,h.bd,trivial⟩
 ·exact⟨_,h.le,trivial⟩
 ·exact⟨_,h.ma,trivial⟩
 ·exact⟨_,h.se,trivial⟩
 ·exact⟨_,h.pen,trivial⟩
 ·exact⟨_,(h.st false).ca,trivial⟩
 ·exact⟨_,(h.st false).na,trivial⟩
 ·exact⟨_,(h.st true).ca,trivial⟩
 ·exact⟨_,(h.st true).na,trivial⟩
def xA.nM(h:xA a F H B s){y:Addr}(hy:y∈BS B\/y=B.bl\/∃b,y=(B.S b).st):y∉F.M:=λz=>by
 obtain⟨z1,z2,z3⟩:=h.off y z;rcases hy with hy|hy|⟨b,hy⟩
 ·exact z1 hy
 ·exact z2 hy
 ·exact z3 b hy
def xA.muF(h:xA a F H B s):MuL H (BF F B):=λx hx=>by
 rcases aW.mp hx with hx|hx
 ·exact h.mu x hx
 ·exact F.mu h.fm x hx
def xA.sM(h:xA a F H B s)(b:Bool):(B.S b).st∉F.M/\(B.S b).ca∉F.M/\(B.S b).na∉F.M:=⟨h.nM (.inr (.inr ⟨b,rfl⟩)),h.nM (.inl (by cases b<;> simp)),h.nM (.inl (by cases b<;> simp))⟩
def xA.chg(h:xA a F H B s){x:Addr}(k:Kp (B.p::x::F.M) H H')(hp:H' B.p=some (.ins a.q0k B.dp (zN (s.cnt+1) (.ref F.f))))(hx:x=B.le\/x=B.ma\/x=B.se):
  H' B.bd=some (.ins a.q0b B.dx (bdF B s.size (vX s.run)))/\H' B.bl=some (.lst [.ref (B.S false).st,.ref (B.S true).st])/\(x≠B.le->H' B.le=some (.lst [.int (s.len false),.int (s.len true)]))/\(x≠B.ma->H' B.ma=some (.lst [.str (s.mark false),.str (s.mark true)]))/\
  (x≠B.se->H' B.se=some (.dK (xgE s.mr s.ct)))/\∀b,ug a H' (B.S b) (s.cells b) (s.notes b) (s.cnt+1) (.ref F.f):=by
 obtain⟨n1,n2,n3,n4,n5,n6⟩:=h.np;have nl:=h.nl;simp only[bA,av,aV,or_false,not_or,not_false_eq_true,dg,and_true]at nl;obtain⟨⟨l1,l2,l3,l4,l5,l6⟩,⟨m1,m2,m3,m4,m5⟩,⟨k1,k2,k3,k4⟩,_⟩:=nl;have xo:∃o,H x=some o/\∀C dx fs,o≠.ins C dx fs:=by
  rcases hx with rfl|rfl|rfl
  ·exact⟨_,h.le,λ_ _ _ z=>by cases z⟩
  ·exact⟨_,h.ma,λ_ _ _ z=>by cases z⟩
  ·exact⟨_,h.se,λ_ _ _ z=>by cases z⟩
 obtain⟨o,xe,xn⟩:=xo;obtain⟨xb,xs⟩:=h.nb xe xn;have two:∀{y:Addr} {u:HO},H y=some u->y≠B.p->y≠x->y∉F.M->H' y=some u:=λe a b c=>k _ _ e (by simp[a,b,c]);have ld:∀{y:Addr} {ys:List V},H y=some (.lst ys)->y≠B.se:=λe z=>by rw[z,h.se]at e;cases e
 have lx:∀{y:Addr} {ys:List V},H y=some (.lst ys)->y≠B.le->y≠B.ma->y≠x:=λe a b=>by
  rcases hx with rfl|rfl|rfl
  ·exact a
  ·exact b
  ·exact ld e
 refine⟨two h.bd n1 (au xb) (h.nM (.inl (by simp))),two h.bl n2 (lx h.bl l1 l2) (h.nM (.inr (.inl rfl))),λz=>two h.le n3 (au z) (h.nM (.inl (by simp))),λz=>two h.ma n4 (au z) (h.nM (.inl (by simp))),λz=>two h.se n5 (au z) (h.nM (.inl (by simp))),λb=>?_⟩;have S:=h.st b;have sp:=h.sp b;refine⟨two S.st (n6 b).1 (au (xs b)) (h.sM b).1,two S.ca (n6 b).2.1 (lx S.ca ?_ ?_) (h.sM b).2.1,two S.na (n6 b).2.2 (lx S.na ?_ ?_) (h.sM b).2.2,by rw[sp.1,sp.2];exact hp,S.ne,S.np⟩
 ·cases b
  ·exact au m2
  ·exact au m4
 ·cases b
  ·exact au k1
  ·exact au k3
 ·cases b
  ·exact au m3
  ·exact au m5
 ·cases b
  ·exact au k2
  ·exact au k4
def xA.nlm(h:xA a F H B s):B.le≠B.ma/\B.le≠B.se/\B.ma≠B.se:=by
 have nl:=h.nl;simp only[bA,av,aV,or_false,not_or,not_false_eq_true,dg,and_true]at nl;exact⟨nl.2.1.1,λz=>(by have:=h.le;rw[z,h.se]at this;cases this),λz=>(by have:=h.ma;rw[z,h.se]at this;cases this)⟩
theorem xA.mark(h:xA a F H B s){v:Str}(k:Kp (B.p::B.ma::F.M) H H')(hp:H' B.p=some (.ins a.q0k B.dp (zN (s.cnt+1) (.ref F.f))))(kP:F.At H' fl (s.cnt+1))(e:H' B.ma=some (.lst ([V.str (s.mark false),V.str (s.mark true)].set (bI b).toNat (.str v)))):
  xA a F H' B {s with mark:=upB s.mark b v,cnt:=s.cnt+1,fl:=fl}:=by
 obtain⟨h1,h2,h3,_,h5,h6⟩:=h.chg k hp (.inr (.inl rfl));obtain⟨n1,n2,n3⟩:=h.nlm;exact⟨h1,h2,h3 (au n1),by rw[e];cases b<;> rfl,h5 n3,h6,h.sp,h.nl,h.ni,kP,h.off,by have:=h.c0;show 0<=s.cnt+1;lia⟩
def xA.leng(h:xA a F H B s)(k:Kp (B.p::B.le::F.M) H H')(hp:H' B.p=some (.ins a.q0k B.dp (zN (s.cnt+1) (.ref F.f))))(kP:F.At H' fl (s.cnt+1))(e:H' B.le=some (.lst ([V.int (s.len false),V.int (s.len true)].set (bI b).toNat (.int v)))):
  xA a F H' B {s with len:=upB s.len b v,cnt:=s.cnt+1,fl:=fl}:=by
 obtain⟨h1,h2,_,h4,h5,h6⟩:=h.chg k hp (.inl rfl);obtain⟨n1,n2,n3⟩:=h.nlm;exact⟨h1,h2,by rw[e];cases b<;> rfl,h4 n1,h5 n2,h6,h.sp,h.nl,h.ni,kP,h.off,by have:=h.c0;show 0<=s.cnt+1;lia⟩
def xA.cter(h:xA a F H B s)(k:Kp (B.p::B.se::F.M) H H')(hp:H' B.p=some (.ins a.q0k B.dp (zN (s.cnt+1) (.ref F.f))))(kP:F.At H' fl (s.cnt+1))(e:H' B.se=some (.dK (putK (xgE s.mr s.ct) (.inr "counter") (.int v)))):
  xA a F H' B {s with ct:=v,cnt:=s.cnt+1,fl:=fl}:=by
 obtain⟨h1,h2,h3,h4,_,h6⟩:=h.chg k hp (.inr (.inr rfl));obtain⟨n1,n2,n3⟩:=h.nlm;exact⟨h1,h2,h3 (au n2),h4 (au n3),by rw[e];rfl,h6,h.sp,h.nl,h.ni,kP,h.off,by have:=h.c0;show 0<=s.cnt+1;lia⟩
def xA.mrk(h:xA a F H B s)(k:Kp (B.p::B.se::F.M) H H')(hp:H' B.p=some (.ins a.q0k B.dp (zN (s.cnt+1) (.ref F.f))))(kP:F.At H' fl (s.cnt+1))(e:H' B.se=some (.dK (putK (xgE s.mr s.ct) (.inr "marker") (.int (bI b))))):
  xA a F H' B {s with mr:=b,cnt:=s.cnt+1,fl:=fl}:=by
 obtain⟨h1,h2,h3,h4,_,h6⟩:=h.chg k hp (.inr (.inr rfl));obtain⟨n1,n2,n3⟩:=h.nlm;exact⟨h1,h2,h3 (au n2),h4 (au n3),by rw[e];rfl,h6,h.sp,h.nl,h.ni,kP,h.off,by have:=h.c0;show 0<=s.cnt+1;lia⟩
def xA.ahead(h:xA a F H B s)(k:Kp (B.p::F.M) H H')(hp:H' B.p=some (.ins a.q0k B.dp (zN (s.cnt+1) (.ref F.f))))(kP:F.At H' fl (s.cnt+1)):xA a F H' B {s with cnt:=s.cnt+1,fl:=fl}:=by
 obtain⟨n1,n2,n3,n4,n5,n6⟩:=h.np;have two:∀{y:Addr} {u:HO},H y=some u->y≠B.p->y∉F.M->H' y=some u:=λe a c=>k _ _ e (by simp[a,c]);refine⟨two h.bd n1 (h.nM (.inl (by simp))),two h.bl n2 (h.nM (.inr (.inl rfl))),two h.le n3 (h.nM (.inl (by simp))),two h.ma n4 (h.nM (.inl (by simp))),two h.se n5 (h.nM (.inl (by simp))),λb=>?_,h.sp,h.nl,h.ni,kP,h.off,by have:=h.c0;show 0<=s.cnt+1;lia⟩;have S:=h.st b;exact⟨two S.st (n6 b).1 (h.sM b).1,two S.ca (n6 b).2.1 (h.sM b).2.1,two S.na (n6 b).2.2 (h.sM b).2.2,by rw[(h.sp b).1,(h.sp b).2];exact hp,S.ne,S.np⟩
def xA.bank(h:xA a F H B s)(k:Kp (F.M++SS (B.S b)) H H')(e:ug a H' (B.S b) cs ns n (.ref F.f))(kQ:F.At H' fl n)(hn:0<=n):xA a F H' B {s with cells:=upB s.cells b cs,notes:=upB s.notes b ns,cnt:=n,fl:=fl}:=by
 obtain⟨n1,n2,n3,n4,n5,n6⟩:=h.np;have nl:=h.nl;have sp:=h.sp b;simp only[bA,av,aV,or_false,not_or,not_false_eq_true,dg,and_true]at nl;obtain⟨⟨l1,l2,l3,l4,l5,l6⟩,⟨m1,m2,m3,m4,m5⟩,⟨k1,k2,k3,k4⟩,⟨c1,c2,c3⟩,⟨d1,d2⟩,q1⟩:=nl;have lst:∀{y:Addr} {u:HO},H y=some u->y≠(B.S b).ca->y≠(B.S b).na->y≠B.p->y∉F.M->H' y=some u:=λe a b c d=>k _ _ e (by simp[a,b,sp.1,c,d]);obtain⟨xb,xs⟩:=h.nb (h.st b).ca (λ_ _ _ z=>by cases z);obtain⟨yb,ys⟩:=h.nb (h.st b).na (λ_ _ _ z=>by cases z);have de:∀{y:Addr} {zs:List V},H y=some (.lst zs)->B.se≠y:=λe z=>by rw[<-z,h.se]at e;cases e
 refine⟨lst h.bd (au xb) (au yb) n1 (h.nM (.inl (by simp))),lst h.bl ?_ ?_ n2 (h.nM (.inr (.inl rfl))),lst h.le ?_ ?_ n3 (h.nM (.inl (by simp))),lst h.ma ?_ ?_ n4 (h.nM (.inl (by simp))),lst h.se (de (h.st b).ca) (de (h.st b).na) n5 (h.nM (.inl (by simp))),λc=>?_,h.sp,h.nl,h.ni,kQ,h.off,hn⟩
 ·cases b<;> assumption
 ·cases b<;> assumption
 ·cases b<;> assumption
 ·cases b<;> assumption
 ·cases b<;> assumption
 ·cases b<;> assumption
 ·by_cases hc:c=b
  ·subst hc;show ug a H' (B.S c) (upB s.cells c cs c) (upB s.notes c ns c) n (.ref F.f);unfold upB;rw[if_pos rfl,if_pos rfl];exact e
  ·show ug a H' (B.S c) (upB s.cells b cs c) (upB s.notes b ns c) n (.ref F.f);unfold upB;rw[if_neg hc,if_neg hc];have C:=h.st c;have kP:=h.sp c;refine⟨lst C.st (au (xs c)) (au (ys c)) (n6 c).1 (h.sM c).1,lst C.ca ?_ ?_ (n6 c).2.1 (h.sM c).2.1,lst C.na ?_ ?_ (n6 c).2.2 (h.sM c).2.2,by rw[kP.1,kP.2,<-sp.1,<-sp.2];exact e.p,C.ne,C.np⟩
   ·cases b<;> cases c<;> first|exact absurd rfl hc|assumption|(apply au;assumption)
   ·cases b<;> cases c<;> first|exact absurd rfl hc|assumption|(apply au;assumption)
   ·cases b<;> cases c<;> first|exact absurd rfl hc|assumption|(apply au;assumption)
   ·cases b<;> cases c<;> first|exact absurd rfl hc|assumption|(apply au;assumption)
def xA.rune(h:xA a F H B s){r:Option Bool}:xA a F (upd H B.bd (.ins a.q0b B.dx (bdF B s.size (vX r)))) B {s with run:=r}:=by
 obtain⟨n1,n2,n3,n4,n5,n6⟩:=h.np;have ni:=h.ni;simp only[bA,av,aV,or_false,not_or,not_false_eq_true,dg,and_true]at ni;have o:∀{y:Addr} {u:HO} (_:∀C dx fs,u≠.ins C dx fs),H y=some u->upd H B.bd (.ins a.q0b B.dx (bdF B s.size (vX r))) y=some u:=λn e=>by rw[xm (h.nb e n).1];exact e
 refine⟨xp,o (λ_ _ _ z=>by cases z) h.bl,o (λ_ _ _ z=>by cases z) h.le,o (λ_ _ _ z=>by cases z) h.ma,o (λ_ _ _ z=>by cases z) h.se,λb=>?_,h.sp,h.nl,h.ni,F.keep (L:=[B.bd]) h.fm ((Kp.of (xj.refl _)).wr (by simp)) (λx hx=>by rw[aj.mp hx];exact⟨_,h.bd,trivial⟩) (λx hx=>by rw[aj.mp hx];exact h.nM (.inl (by simp))),h.off,h.c0⟩;have S:=h.st b;refine⟨?_,o (λ_ _ _ z=>by cases z) S.ca,o (λ_ _ _ z=>by cases z) S.na,?_,S.ne,S.np⟩
 ·rw[xm (by cases b;exact au ni.1.1;exact au ni.1.2.1)];exact S.st
 ·rw[(h.sp b).1,xm (au n1),<-(h.sp b).1];exact S.p
def Tbs(H:Hp):Prop:=H uu=some (.tbl jA)/\H zG=some (.tbl jd)/\H yR=some (.tbl uv)/\H zm=some (.tbl vG)/\H zk=some (.tbl vF)/\H zY=some (.tbl jE)/\H yX=some (.tbl uX)
def Tbs.kp(t:Tbs H)(k:Kp L H H')(mu:∀x∈L,∃u,H x=some u/\xaC u):Tbs H':=by
 have one:∀{p:Addr} {q:List (Pos×Str)},H p=some (.tbl q)->H' p=some (.tbl q):=λ{p q} e=>k _ _ e λz=>by
  obtain⟨u,e',m⟩:=mu p z;rw[e]at e';cases e';exact m
 obtain⟨t1,t2,t3,t4,t5,t6,t7⟩:=t;exact⟨one t1,one t2,one t3,one t4,one t5,one t6,one t7⟩
def Tbs.same(t:Tbs H)(e:xj H H'):Tbs H':=t.kp (L:=[]) (Kp.of e) (λ_ z=>nomatch z)
def xnR{x:Addr}(k:Kp (B.p::x::F.M) H H')(hx:x∈BS B):Kp (BF F B) H H':=k.mono λy hy=>by
 rcases av.mp hy with rfl|hy
 ·simp
 rcases av.mp hy with rfl|hy
 ·exact ba _ hx
 ·exact aI _ hy
def xei:xD F s []=(s,none):=rfl
def yz(h:F.fo s.fl s.cnt=none):xD F s (y::ys)=xD F (w1 F s y) ys:=if_pos h
def yo(h:¬F.fo s.fl s.cnt=none):xD F s (y::ys)=(w1 F s y,some s.cnt):=if_neg h
def xcI:(w1 F s y).cnt=s.cnt+1:=by
 unfold w1
 split<;> rfl
theorem xej{F:FM}:∀(ys:List Wr) (s:BdS),s.cnt<=(xD F s ys).1.cnt/\∀c,(xD F s ys).2=some c->s.cnt<=c/\c<(xD F s ys).1.cnt
 |[],s=>⟨cI _,λc e=>by cases e⟩
 |y::ys,s=>by
  by_cases e:F.fo s.fl s.cnt=none
  ·rw[yz e];obtain⟨h1,h2⟩:=xej (F:=F) ys (w1 F s y);rw[xcI]at h1 h2;exact⟨by lia,λc ec=>by have:=h2 c ec;lia⟩
  ·rw[yo e];refine⟨by show s.cnt<=(w1 F s y).cnt;rw[xcI];lia,λc ec=>?_⟩;cases ec;exact⟨cI _,by show s.cnt<(w1 F s y).cnt;rw[xcI];lia⟩
def xV.lt(h:xV a F H B (xD F s [y]) q E):s.cnt<F.lim:=by
 have h3:=h.lim
 by_cases e:F.fo s.fl s.cnt=none
 ·rw[yz e]at h3;have h3:(w1 F s y).cnt<=F.lim:=h3;rw[xcI]at h3;lia
 ·rw[yo e]at h3;have h3:(w1 F s y).cnt<=F.lim:=h3;rw[xcI]at h3;lia
def xV.step(h:xV a F H B (xD F s (y::ys)) q E):xV a F H B (xD F s [y]) (λH1=>Kp (BF F B) H H1->xV a F H1 B (xD F (w1 F s y) ys) q E) E:=by
 by_cases e:F.fo s.fl s.cnt=none
 ·rw[yz e]at h;rw[yz e,xei];refine⟨λ_ H1 k1 _ kP=>⟨λe2 H2 k2 h2=>h.1 e2 H2 (k1.trans k2) h2,λc e2 d H2 k2 h2 hd=>h.2 c e2 d H2 (k1.trans k2) h2 hd,h.3⟩,(λc z=>by cases z),Int.le_trans (xej ys (w1 F s y)).1 h.3⟩
 ·rw[yo e]at h;rw[yo e];exact⟨(λz=>by cases z),h.2,h.3⟩
def Wr.loc(B:BA):Wr->Option (Addr×V×V)
 | .mark b v=>some (B.ma,.int (bI b),.str v)
 | .leng b v=>some (B.le,.int (bI b),.int v)
 | .cter v=>some (B.se,.str "counter",.int v)
 | .mrk b=>some (B.se,.str "marker",.int (bI b))
 |_=>none
def xek(h:F.fo s.fl s.cnt=none):xD F s [y]=({y.up s with cnt:=s.cnt+1,fl:=s.fl},none):=by
 rw[yz h,xei];unfold w1;rw[h]
def xdq(h:F.fo s.fl s.cnt=some none):xD F s [y]=({s with cnt:=s.cnt+1,fl:=s.fl+1},some s.cnt):=by
 rw[yo (by rw[h];simp)];unfold w1;rw[h]
def xel(h:F.fo s.fl s.cnt=some (some x)):xD F s [y]=({y.tn x s with cnt:=s.cnt+1,fl:=s.fl+1},some s.cnt):=by
 rw[yo (by rw[h];simp)];unfold w1;rw[h]
theorem xA.slot(h:xA a F H B s){at' val:V}(hy:y.loc B=some (l,at',val)):∃o st,H l=some o/\Slot o at' st/\l∈BS B/\(∀x,y.tn x s=y.up s)/\
  ∀H' fl,Kp (B.p::l::F.M) H H'->H' B.p=some (.ins a.q0k B.dp (zN (s.cnt+1) (.ref F.f)))->F.At H' fl (s.cnt+1)->H' l=some (st val)->xA a F H' B {y.up s with cnt:=s.cnt+1,fl:=fl}:=by
 have b2:∀b:Bool,0<=bI b/\bI b<2:=by intro b;cases b<;> decide
 cases y with
 |mark b v=>
  cases hy;exact⟨_,_,h.ma,.lst _ _ (b2 b).1 (b2 b).2,by simp,λ_=>rfl,λH' fl k hp kP e=>h.mark k hp kP e⟩
 |leng b v=>
  cases hy;exact⟨_,_,h.le,.lst _ _ (b2 b).1 (b2 b).2,by simp,λ_=>rfl,λH' fl k hp kP e=>h.leng k hp kP e⟩
 |cter v=>
  cases hy;exact⟨_,_,h.se,.dK (.inr "counter") _ (show 2<100 by decide),by simp,λ_=>rfl,λH' fl k hp kP e=>h.cter k hp kP e⟩
 |mrk b=>
  cases hy;exact⟨_,_,h.se,.dK (.inr "marker") _ (show 2<100 by decide),by simp,λ_=>rfl,λH' fl k hp kP e=>h.mrk k hp kP e⟩
 |note b i m=>cases hy
 |cell b i v=>cases hy
def xqW(h:xA a F H B s){x:Addr}(hx:x∈[(B.S b).ca,(B.S b).na])(k:Kp (B.p::x::F.M) H H'):Kp (F.M++SS (B.S b)) H H':=k.mono λy hy=>by
 rcases av.mp hy with rfl|hy
 ·rw[<-(h.sp b).1];simp
 rcases av.mp hy with rfl|hy
 ·simp only[av,aV,or_false]at hx;rcases hx with rfl|rfl<;> simp
 ·exact ba _ hy
def xfz(f:Bool->α)(b:Bool):upB f b (f b)=f:=by
 funext c;unfold upB;split
 ·rename_i e;rw[e]
 ·rfl
def xA.noted(h:xA a F H B s){v:Option Int}(k:Kp (B.p::(B.S b).na::F.M) H H')(hp:H' B.p=some (.ins a.q0k B.dp (zN (s.cnt+1) (.ref F.f))))(kP:F.At H' fl (s.cnt+1))(e:H' (B.S b).na=some (.lst (((s.notes b).map nV).set i (nV v)))):
  xA a F H' B {s with notes:=upB s.notes b ((s.notes b).set i v),cnt:=s.cnt+1,fl:=fl}:=by
 have S:=h.st b;obtain⟨_,_,_,_,_,n6⟩:=h.np;have two:∀{y:Addr} {u:HO},H y=some u->y≠B.p->y≠(B.S b).na->y∉F.M->H' y=some u:=λe a b c=>k _ _ e (by simp[a,b,c]);have St:ug a H' (B.S b) (s.cells b) ((s.notes b).set i v) (s.cnt+1) (.ref F.f):=
  ⟨two S.st (n6 b).1 (λz=>by have:=S.st;rw[z,S.na]at this;cases this) (h.sM b).1,two S.ca (n6 b).2.1 S.ne (h.sM b).2.1,by rw[e,List.map_set],by rw[(h.sp b).1,(h.sp b).2];exact hp,S.ne,S.np⟩
 have:=h.bank (xqW h (by simp) k) St kP (by have:=h.c0;lia);rw[xfz]at this;exact this
def xA.celled(h:xA a F H B s)(k:Kp (B.p::(B.S b).ca::F.M) H H')(hp:H' B.p=some (.ins a.q0k B.dp (zN (s.cnt+1) (.ref F.f))))(kP:F.At H' fl (s.cnt+1))(e:H' (B.S b).ca=some (.lst (((s.cells b).map V.int).set i (.int v)))):
  xA a F H' B {s with cells:=upB s.cells b ((s.cells b).set i v),cnt:=s.cnt+1,fl:=fl}:=by
 have S:=h.st b;obtain⟨_,_,_,_,_,n6⟩:=h.np;have two:∀{y:Addr} {u:HO},H y=some u->y≠B.p->y≠(B.S b).ca->y∉F.M->H' y=some u:=λe a b c=>k _ _ e (by simp[a,b,c]);have St:ug a H' (B.S b) ((s.cells b).set i v) (s.notes b) (s.cnt+1) (.ref F.f):=
  ⟨two S.st (n6 b).1 (λz=>by have:=S.st;rw[z,S.ca]at this;cases this) (h.sM b).1,by rw[e,List.map_set],two S.na (n6 b).2.2 (au S.ne) (h.sM b).2.2,by rw[(h.sp b).1,(h.sp b).2];exact hp,S.ne,S.np⟩
 have:=h.bank (xqW h (by simp) k) St kP (by have:=h.c0;lia);rw[xfz]at this;exact this
def xrM:List (Str×V)->Sp:=λfv vs H Q _=>Ex2 λ(v x:V)=>fv=([("value",v)]:List (Str×V))/\vs=[x]/\Q v H
def xrN:List (Str×V)->Sp:=λfv vs H Q _=>∃v:V,fv=([]:List (Str×V))/\vs=[v]/\Q .non H
abbrev xhI:Expr:=vi 3 (xb5 ((xr zj).getD 0 (.Pass ⟨0,0,0,0⟩)))
abbrev xhJ:Expr:=vi 3 (xb5 ((xr yQ).getD 0 (.Pass ⟨0,0,0,0⟩)))
def xmF:zh ["sign","value"] ["sign"] ["value"] (yq xhI):=by walk_at"d"
def xmG:zh ["other"] ["other"] [] (yq xhJ):=by walk_at"d"
def xo8(P:aH)(w:World)(K:aq)(mg:Str->Option Value)(base:Heap)(a:Adr):Sp:=λvs H Q E=>Ex7 λ(F:FM) (B:BA) (s:BdS) (y:Wr) (l:Addr) (at' val:V)=>vs=[.ref B.bd,.ref l,at',val]/\ua P w K mg base F/\xA a F H B s/\Tbs H/\y.loc B=some (l,at',val)/\xV a F H B (xD F s [y]) (Q .non) E
def xrO(P:aH)(w:World)(K:aq)(mg:Str->Option Value)(base:Heap)(a:Adr):Sp:=λvs H Q E=>Ex6 λ(F:FM) (B:BA) (s:BdS) (b:Bool) (i:Nat) (m:Int)=>vs=[.ref (B.S b).st,.int i,.int m]/\ua P w K mg base F/\xA a F H B s/\Tbs H/\i<(s.notes b).length/\xV a F H B (xD F s [.note b i m]) (Q .non) E
def xqj(P:aH)(w:World)(K:aq)(mg:Str->Option Value)(base:Heap)(a:Adr):Sp:=λvs H Q E=>Ex4 λ(F:FM) (B:BA) (s:BdS) (b:Bool)=>vs=[.ref (B.S b).st]/\ua P w K mg base F/\xA a F H B s/\Tbs H/\(s.notes b).length=2/\xV a F H B (xD F s [.note b 0 0,.note b 1 0]) (Q .non) E
def zd(T:Txt K mg a):xE P w K mg base CX0 1 a.q0E a.vR ["self"] (xqf a):=by
 refine T.q1m.ok xaH (λvs H Q E h=>?_) (λcdv A outer s H vs Q E hr h=>?_)
 ·obtain⟨F,B,s,rfl,_⟩:=h;rfl
 ·refine oG λ_ Z=>?_;obtain⟨F,B,st,rfl,hB,q⟩:=h;apply Z;have nd:=xaH.nd;refine⟨_,(xk (xv (xx jc xg (xdv (jb hr) (xB (cv 0) rfl) xH (λ_ _=>rfl))))),?_⟩;refine⟨B.bd,_,B.dx,_,.ref B.se,rfl,hB.bd,T.q0a,T.q0l,rfl,?_⟩;exists⟨B.se,.int (bI st.mr),rfl,vM.k (k:=.inr "marker") hB.se,?_⟩;have e:(1:Int) - bI st.mr=bI (!st.mr):=by cases st.mr<;> rfl
  rw[<-e]at q;exact q
def xem(T:Txt K mg a):xE P w K mg base CX0 1 a.q0z a.vx ["self","bank","old"] (xqg a):=by
 refine T.q07.ok xaz (λvs H Q E h=>?_) (λcdv A outer s H vs Q E hr h=>?_)
 ·obtain⟨F,B,s,b,old,rfl,_⟩:=h;rfl
 ·refine oG λ_ Z=>?_;obtain⟨F,B,st,b,old,rfl,hB,q⟩:=h;apply Z;have nd:=xaz.nd;refine⟨_,(xf (xS (PW.pt (zq (xN xbT (xM yx (xB (cv 0) rfl) (cv 1) (λ_ _=>rfl)) xH) (uo (xN xa5 (cv 2) xg)))) (xk (xv zL)) xF)
  (xk (xv (uK (zb xbT (xM yx (xB (cv 0) rfl) (cv 1) (λ_ _=>rfl)) xH) (vL (zb xa5 (xM yx (xB (cv 0) rfl) (cv 1) (λ_ _=>rfl)) (cv 2))))))),?_⟩
  have kP:atI [V.str (st.mark false),V.str (st.mark true)] (bI b)=some (.str (st.mark b)):=by cases b<;> rfl
  have kQ:atI [V.int (st.len false),V.int (st.len true)] (bI b)=some (.int (st.len b)):=by cases b<;> rfl
  refine⟨B.bd,_,B.dx,_,.ref B.ma,rfl,hB.bd,T.q0a,T.q0j,rfl,?_⟩;refine⟨B.ma,_,_,_,rfl,rfl,SqL.of hB.ma,kP,?_⟩;refine⟨λc=>?_,λc=>?_⟩
  ·rw[show decide (st.mark b=("open":Str))=true from c,ix,ix]at q;left
   first|exact q|(walk_at"y";exact q)
  rw[show decide (st.mark b=("open":Str))=false from c,fU]at q;refine⟨λc=>?_,λc=>?_⟩
  ·left;rw[show decide (old=0)=true from c,ix]at q;exact q
  ·rw[show decide (old=0)=false from c,fU]at q;refine⟨B.bd,_,B.dx,_,.ref B.ma,rfl,hB.bd,T.q0a,T.q0j,rfl,?_⟩;refine⟨B.ma,_,_,_,rfl,rfl,SqL.of hB.ma,kP,?_⟩;refine⟨λc2=>?_,λc2=>?_⟩
   ·rw[show decide (st.mark b=("good":Str))=true from c2,Bool.true_and]at q;refine⟨B.bd,_,B.dx,_,.ref B.le,rfl,hB.bd,T.q0a,T.q1k,rfl,?_⟩;exists⟨B.le,_,_,_,rfl,rfl,SqL.of hB.le,kQ,?_⟩;exact q
   ·rw[show decide (st.mark b=("good":Str))=false from c2,Bool.false_and]at q;left;have e:decide (st.mark b=bE "good")=false:=c2;exact e▸q
def zJ(T:Txt K mg a):xE P w K mg base CX0 1 a.q11 a.xcz ["self"] (xqh a):=by
 refine T.q2W.ok xeK (λvs H Q E h=>?_) (λcdv A outer s H vs Q E hr h=>?_)
 ·obtain⟨F,B,s,rfl,_⟩:=h;rfl
 ·refine oG λ_ Z=>?_;obtain⟨F,B,st,rfl,hB,q⟩:=h;apply Z;have nd:=xeK.nd;refine⟨_,(xf (xC (i:=1) nd rfl (az rfl) (xdv (jb hr) (xB (cv 0) rfl) xH (λ_ _=>rfl)))
  (xf (xC (i:=2) nd rfl (az rfl) (xdv (jb hr) (xB (cv 0) rfl) xH (λ_ _=>rfl)))
  (xk (xv (xR (xa (cv 1) (xa (xW zu (by rfl) T.q2n zS (xa (xB (cv 0) rfl) xc)) (xa (xW zu (by rfl) T.q2n zS (xa (xB (cv 0) rfl) xc)) (xa (cv 2) (xa (xB (cv 0) rfl) xc)))))))))),?_⟩
  refine⟨B.bd,_,B.dx,_,.ref B.se,rfl,hB.bd,T.q0a,T.q0l,rfl,?_⟩;refine⟨B.se,.int (bI st.mr),rfl,vM.k (k:=.inr "marker") hB.se,?_⟩;refine⟨B.bd,_,B.dx,_,.ref B.se,rfl,hB.bd,T.q0a,T.q0l,rfl,?_⟩;refine⟨B.se,.int st.ct,rfl,vM.k (k:=.inr "counter") hB.se,?_⟩;refine⟨B.bd,_,B.dx,_,.ref B.ma,rfl,hB.bd,T.q0a,T.q0j,rfl,?_⟩;refine⟨B.ma,_,rfl,.inl (SqL.of hB.ma),?_⟩;refine λm hm=>xw (upd H m _) rfl hm λH1 kP em=>?_;refine⟨B.bd,_,B.dx,_,.ref B.le,rfl,kP.at hB.bd,T.q0a,T.q1k,rfl,?_⟩;refine⟨B.le,_,rfl,.inl (SqL.of (kP.at hB.le)),?_⟩;refine λl hl=>xw (upd H1 l _) rfl hl λH2 kR el=>?_;exists⟨B.bd,_,B.dx,_,vX st.run,rfl,(kP.trans kR).at hB.bd,T.q0a,T.q0q,rfl,?_⟩;walk_at"ss";exists λt ht=>xw (upd H2 t _) rfl ht λH3 kQ et=>?_;exact q t m l H3 (kP.trans (kR.trans kQ)) hm (kP.back hl) (λz=>by rw[z,hl]at em;cases em) et ((kR.trans kQ).at em) (kQ.at el)
def xfS(xs:List V)(i:Nat):xc5 xs none (some (i:Int))=xs.take i:=by
 unfold xc5;rw[xoD (by lia),HT.xkh,cL];simp[<-List.take_eq_take_min]
def vg(T:Txt K mg a):xE P w K mg base CX0 2 a.q10 a.xcy ["self","bank"] (xqi a):=by
 refine T.q2V.ok xeJ (λvs H Q E h=>?_) (λcdv A outer s H vs Q E hr h=>?_)
 ·obtain⟨F,B,s,b,rfl,_⟩:=h;rfl
 ·refine oG λ_ Z=>?_;obtain⟨F,B,st,b,rfl,hB,kS,q⟩:=h;apply Z;have nd:=xeJ.nd;refine⟨_,(xk (xv (xaN xaO (xM xT (xO (xM yx (xB (cv 0) rfl) (cv 1) (λ_ _=>rfl)) T.q0m T.q3D (xeL T) hr.m T.xfi .nil xt) xg (λ_ _=>rfl)) xb1 (xb2 (xM yx (xB (cv 0) rfl) (cv 1) (λ_ _=>rfl)))))),?_⟩;have kR:atI [V.ref (B.S false).st,V.ref (B.S true).st] (bI b)=some (.ref (B.S b).st):=by cases b<;> rfl
  have kQ:atI [V.int (st.len false),V.int (st.len true)] (bI b)=some (.int (st.len b)):=by cases b<;> rfl
  refine⟨B.bd,_,B.dx,_,.ref B.bl,rfl,hB.bd,T.q0a,T.q2Y,rfl,?_⟩;refine⟨B.bl,_,_,_,rfl,rfl,SqL.of hB.bl,kR,?_⟩;refine⟨(B.S b).st,(B.S b).dx,_,rfl,(hB.st b).st,rfl,?_⟩;refine⟨B.S b,_,_,_,_,rfl,hB.st b,λt c m H1 s1 _ _ _ et ec _=>?_⟩;refine⟨t,_,_,.ref c,rfl,rfl,SqT.of et,rfl,?_⟩;refine⟨B.bd,_,B.dx,_,.ref B.le,rfl,s1.at hB.bd,T.q0a,T.q1k,rfl,?_⟩;refine⟨B.le,_,_,_,rfl,rfl,SqL.of (s1.at hB.le),kQ,?_⟩;refine⟨_,rfl,?_⟩;refine⟨c,_,rfl,SqL.of ec,?_⟩;rw[show st.len b=((st.len b).toNat:Int)by lia,xfS,<-List.map_take];exists λy hy=>xw (upd H1 y _) rfl hy λH2 kP ey=>?_;exact q y H2 (s1.trans kP) (s1.back hy) ey
def xeS(T:Txt K mg a):yV P w K mg base CX0 1 "<lambda>" "Board.change.<locals>.<lambda>" (uj xhI) (.expr (uk xhI)) (yq xhI) ["sign"] xrM:=by
 refine xaR xmF (λfv vs H Q E h=>?_) (λ_ _ _ _ _ us hl=>match us,hl with|[_],_=>rfl) (λA outer s H f clos cdv fv vs Q E hr h=>?_)
 ·obtain⟨v,x,rfl,rfl,_⟩:=h;exact⟨rfl,rfl⟩
 ·refine oG λ_ Z=>?_;obtain⟨v,x,rfl,rfl,k⟩:=h;apply Z;have nd:=xmF.nd;exists⟨_,(cv 1),?_⟩;exact k
def xdr(T:Txt K mg a):yV P w K mg base CX0 1 "<lambda>" "Store.note_down.<locals>.<lambda>" (uj xhJ) (.expr (uk xhJ)) (yq xhJ) ["other"] xrN:=by
 refine xaR xmG (λfv vs H Q E h=>?_) (λ_ _ _ _ _ us hl=>match us,hl with|[_],_=>rfl) (λA outer s H f clos cdv fv vs Q E hr h=>?_)
 ·obtain⟨v,rfl,rfl,_⟩:=h;exact⟨rfl,rfl⟩
 ·refine oG λ_ Z=>?_;obtain⟨v,rfl,rfl,k⟩:=h;apply Z;have nd:=xmG.nd;refine⟨_,yO,?_⟩;exact k
theorem yt(T:Txt K mg a):xE P w K mg base (CXN P w) 6 a.q0X a.jf ["self","kept","at","value"] (xo8 P w K mg base a):=by
 refine T.jh.okXK ["value"] T.xhx xcW (λvs H Q E h=>?_) (λA outer s H vs Q E hr h=>?_)
 ·obtain⟨F,B,s,y,l,at',val,rfl,_⟩:=h;rfl
 ·refine oG λ_ Z=>?_;obtain⟨F,B,st,y,l,at',val,rfl,hF,hB,hT,hy,q⟩:=h;apply Z;have nd:=xcW.nd;refine⟨_,(yF (x:="value") (i:=3) nd rfl rfl rfl (by kernel_rfl) (xk (xK (ye ⟨rfl,rfl,rfl⟩ (xB (cv 0) rfl) T.q3B T.q2c (jx T) hr.m T.jR .nil (xa (cv 1) (xa (cv 2) (xa (cv 3) (xa (zP (c:=q0G) (P:=zm) (qs:=vG) (fns:=["value"]) rfl T.q3N (q:="Board.change.<locals>.<lambda>") (by kernel_rfl) (.head _) (by kernel_rfl) (by kernel_rfl)) xc)))))))),?_⟩;left;intro a1 e1 z1 d1;refine aY z1 ?_;refine gnr (upd H a1 _) λH1 kW=>?_;have s1:=xj.of_eq z1 kW;have c1:=xU kW;clear kW;have kZ:=hB.same s1;refine⟨B.bd,_,B.dx,_,.ref B.p,rfl,kZ.bd,T.q0a,T.q2Z,rfl,?_⟩;refine⟨B.p,B.dp,_,rfl,kZ.pen,rfl,?_⟩;refine⟨(hT.same s1).2.2.2.1,[("value",val)],rfl,(λx v m=>?_),λg H2 hg s2 hc=>?_⟩
  ·simp only[aj,dF]at m;obtain⟨rfl,rfl⟩:=m;exact⟨a1,e1,c1⟩
  left;have kX:=s1.trans s2;have kQ:=hB.same kX;refine oG λ_ Z=>?_;obtain⟨o,sl,hl,hs,hm,la,kY⟩:=kQ.slot hy;apply Z;have kt:∀{H':Hp},Kp (B.p::l::F.M) H2 H'->Kp (BF F B) H H':=λk=>(Kp.of kX).trans (xnR k hm);refine⟨F,B.p,B.dp,l,g,at',val,o,sl,st.cnt,st.fl,λ_=>val,rfl,hF,kQ.pen,⟨kQ.c0,q.lt⟩,kQ.fm,kQ.nM (.inl (by simp)),kQ.nM (.inl hm),⟨_,_,_,_,_,_,_,_,xeS T,hc,λs' H' Q' q'=>⟨val,.int s',rfl,rfl,q'⟩⟩,hl,hs,λkT H' k' kR kP kS=>?_,λan kT d H' k' kR kP kS _ hd=>?_⟩
  ·have:=kY H' st.fl k' kR kP kS;rw[xek kT]at q;exact q.1 rfl H' (kt k') this
  ·cases an with
   |none=>
    rw[xdq kT]at q;refine q.2 _ rfl d H' (kt k') (kQ.ahead (λb u e n=>?_) kR kP) hd
    by_cases hb:b=l
    ·rw[hb]at e⊢;rw[hl]at e;rw[kS];exact e
    ·exact k' b u e (by simp only[av,not_or]at n⊢;exact⟨n.1,hb,n.2⟩)
   |some x=>
    rw[xel kT,la]at q;exact q.2 _ rfl d H' (kt k') (kY H' (st.fl+1) k' kR kP kS) hd
theorem vY(T:Txt K mg a):xE P w K mg base (CXN P w) 6 a.q0B a.uG ["self","at","number"] (xrO P w K mg base a):=by
 refine T.uH.okXC T.xfj xbk (λvs H Q E h=>?_) (λA outer s H vs Q E hr h=>?_)
 ·obtain⟨F,B,s,b,i,m,rfl,_⟩:=h;rfl
 ·refine oG λ_ Z=>?_;obtain⟨F,B,st,b,i,m,rfl,hF,hB,hT,hi,q⟩:=h;apply Z;have nd:=xbk.nd;refine⟨_,(xk (xK (ye ⟨rfl,rfl,rfl⟩ (xB (cv 0) rfl) T.q3B T.q2c (jx T) hr.m T.jR .nil (xa (xB (cv 0) rfl) (xa (cv 1) (xa (cv 2) (xa (zP (c:=q0r) (P:=yR) (qs:=uv) (fns:=[]) rfl T.q3m (q:="Store.note_down.<locals>.<lambda>") (by kernel_rfl) (.head _) (by kernel_rfl) (by kernel_rfl)) xc))))))),?_⟩;have S:=hB.st b;have kW:H (B.S b).p=some (.ins a.q0k (B.S b).dp (zN st.cnt (.ref F.f))):=S.p;refine⟨(B.S b).st,_,(B.S b).dx,_,.ref (B.S b).p,rfl,S.st,T.q0m,T.q2l,rfl,?_⟩;refine⟨(B.S b).p,(B.S b).dp,_,rfl,S.p,rfl,?_⟩;refine⟨(B.S b).st,_,(B.S b).dx,_,.ref (B.S b).na,rfl,S.st,T.q0m,T.q2h,rfl,?_⟩;exists⟨hT.2.2.1,[],rfl,(λx v m=>nomatch m),λg H2 hg s2 hc=>?_⟩;have kQ:=hB.same s2;have S2:=kQ.st b;have hm:(B.S b).na∈BS B:=by cases b<;> simp
  have kt:∀{H':Hp},Kp (B.p::(B.S b).na::F.M) H2 H'->Kp (BF F B) H H':=λk=>(Kp.of s2).trans (xnR k hm);rw[(hB.sp b).1];refine⟨F,B.p,B.dp,(B.S b).na,g,.int i,.int m,_,_,st.cnt,st.fl,λ_=>.non,rfl,hF,kQ.pen,⟨kQ.c0,q.lt⟩,kQ.fm,kQ.nM (.inl (by simp)),kQ.nM (.inl hm),⟨_,_,_,_,_,_,_,_,xdr T,hc,λs' H' Q' q'=>⟨.int s',rfl,rfl,q'⟩⟩,S2.na,.lst _ (i:Int) (by lia) (by rw[ag];lia),λkT H' k' kR kP kS=>?_,λan kT d H' k' kR kP kS _ hd=>?_⟩
  ·rw[xek kT]at q;exact q.1 rfl H' (kt k') (kQ.noted (v:=some m) k' kR kP kS)
  ·cases an with
   |none=>
    rw[xdq kT]at q;refine q.2 _ rfl d H' (kt k') (kQ.ahead (λc u e n=>?_) kR kP) hd
    by_cases hb:c=(B.S b).na
    ·rw[hb]at e⊢;rw[S2.na]at e;rw[kS];exact e
    ·exact k' c u e (by simp only[av,not_or]at n⊢;exact⟨n.1,hb,n.2⟩)
   |some x=>
    rw[xel kT]at q;exact q.2 _ rfl d H' (kt k') (kQ.noted (v:=none) k' kR kP kS) hd
def xiG(T:Txt K mg a):xE P w K mg base (CXN P w) 7 a.q1K a.xbG ["self"] (xqj P w K mg base a):=by
 refine T.q2t.okX xdH (λvs H Q E h=>?_) (λcdv A outer s H vs Q E hr h=>?_)
 ·obtain⟨F,B,s,b,rfl,_⟩:=h;rfl
 ·refine oG λ_ Z=>?_;obtain⟨F,B,st,b,rfl,hF,hB,hT,h2,q⟩:=h;apply Z;have nd:=xdH.nd;refine⟨_,(xf (xK (ye ⟨rfl,rfl,rfl⟩ (cv 0) T.q0m T.q13 (vY T) hr.m T.jw .nil (xa xg (xa xg xc))))
  (xk (xK (ye ⟨rfl,rfl,rfl⟩ (cv 0) T.q0m T.q13 (vY T) hr.m T.jw .nil (xa xg (xa xg xc)))))),?_⟩
  exists⟨(B.S b).st,(B.S b).dx,_,rfl,(hB.st b).st,rfl,?_⟩;have q1:=q.step
  by_cases kQ:F.fo st.fl st.cnt=none
  ·refine⟨F,B,st,b,0,0,rfl,hF,hB,hT,by lia,?_⟩;refine⟨λe H1 k1 kP=>?_,q1.2,q1.3⟩;have q2:=q1.1 e H1 k1 kP k1;rw[yz kQ,xei]at kP;have kR:=hT.kp k1 hB.muF;refine⟨(B.S b).st,(B.S b).dx,_,rfl,(kP.st b).st,rfl,?_⟩;refine⟨F,B,_,b,1,0,rfl,hF,kP,kR,?_,q2⟩;unfold w1;rw[kQ];show 1<(upB st.notes b ((st.notes b).set 0 (some 0)) b).length;rw[show upB st.notes b ((st.notes b).set 0 (some 0)) b=(st.notes b).set 0 (some 0)from if_pos rfl,cD];lia
  ·refine⟨F,B,st,b,0,0,rfl,hF,hB,hT,by lia,?_⟩;refine⟨λe=>?_,q1.2,q1.3⟩;rw[yo kQ]at e;cases e
def zA(h:F.fo s.fl s.cnt=none):w1 F s y={y.up s with cnt:=s.cnt+1,fl:=s.fl}:=by unfold w1;rw[h]
def xV.chg(h:xV a F H B (xD F s (y::ys)) q E)
  (c:F.fo s.fl s.cnt=none->∀H1,Kp (BF F B) H H1->xA a F H1 B {y.up s with cnt:=s.cnt+1,fl:=s.fl}->xV a F H1 B (xD F {y.up s with cnt:=s.cnt+1,fl:=s.fl} ys) q E->R H1):xV a F H B (xD F s [y]) R E:=by
 have h1:=h.step
 by_cases kP:F.fo s.fl s.cnt=none
 ·rw[zA kP]at h1;refine⟨λe H1 k1 kQ=>?_,h1.2,h1.3⟩;have q1:=h1.1 e H1 k1 kQ k1;rw[yz kP,xei,zA kP]at kQ;exact c kP H1 k1 kQ q1
 ·refine⟨λe=>?_,h1.2,h1.3⟩;rw[yo kP]at e;cases e
def xV.two{z:Wr}(h:xV a F H B (xD F s (y::z::ys)) q E)
  (c:∀H1 s1,s1={z.up {y.up s with cnt:=s.cnt+1,fl:=s.fl}with cnt:=s.cnt+1+1,fl:=s.fl}->Kp (BF F B) H H1->xA a F H1 B s1->xV a F H1 B (xD F s1 ys) q E->R H1):xV a F H B (xD F s [y,z]) R E:=by
 by_cases kP:F.fo s.fl s.cnt=none
 ·rw[yz kP,zA kP]at h;rw[yz kP,zA kP];exact h.chg λkQ H1 k1 kR q1=>c H1 _ rfl k1 kR q1
 ·rw[yo kP]at h;rw[yo kP];exact⟨(λe=>by cases e),h.2,h.3⟩
def xV.kp{r:BdS×Option Int}(h:xV a F H B r q E)(k:Kp (BF F B) H H1):xV a F H1 B r q E:=
 ⟨λe H2 k2 hB=>h.1 e H2 (k.trans k2) hB,λc e d H2 k2 hB hd=>h.2 c e d H2 (k.trans k2) hB hd,h.3⟩
def xV.same{r:BdS×Option Int}(h:xV a F H B r q E)(k:xj H H1):xV a F H1 B r q E:=h.kp (Kp.of k)
def xV.done(h:xV a F H B (xD F s []) q E)(hB:xA a F H B s):q H:=h.1 rfl H (Kp.of (xj.refl _)) hB
noncomputable def startB(s:BdS):Bool:=if s.mark (!s.mr)=("trial":Str)/\s.ct≠0 then !s.mr else s.mr
noncomputable def xaE(s:BdS):List Wr:=if s.mark (!s.mr)=("trial":Str)then(if s.ct=0 then[.mark (!s.mr) "bad"]else[.cter (s.ct - 1)])else[]
noncomputable def xaF(b:Option Bool)(r:BdS×Option Int):BdS×Option Int:=match r.2 with
 |none=>({r.1 with run:=b},none)
 |some c=>({r.1 with run:=none},some c)
def xqk(P:aH)(w:World)(K:aq)(mg:Str->Option Value)(base:Heap)(a:Adr):Sp:=λvs H Q E=>Ex3 λ(F:FM) (B:BA) (s:BdS)=>vs=[.ref B.bd]/\ua P w K mg base F/\xA a F H B s/\Tbs H/\xV a F H B (xD F s (xaE s)) (Q (.int (bI (startB s)))) E
def vZ(F:FM)(s:BdS):BdS×Option Int:=xaF (some (startB s)) (xD F {s with run:=none} (xaE s))
def xle(P:aH)(w:World)(K:aq)(mg:Str->Option Value)(base:Heap)(a:Adr):Sp:=λvs H Q E=>Ex3 λ(F:FM) (B:BA) (s:BdS)=>vs=[.ref B.bd]/\ua P w K mg base F/\xA a F H B s/\Tbs H/\xV a F H B (vZ F s) (Q (.int (bI (startB s)))) E
def xmH(P:aH)(w:World)(K:aq)(mg:Str->Option Value)(base:Heap)(a:Adr):Sp:=λvs H Q E=>Ex4 λ(F:FM) (B:BA) (s:BdS) (b:Bool)=>vs=[.ref B.bd,.int (bI b)]/\ua P w K mg base F/\xA a F H B s/\Tbs H/\xV a F H B (xD F s [.mark b "good",.mrk b]) (Q .non) E
def xrP:(y.up s).size=s.size/\(y.up s).run=s.run:=by cases y<;> exact⟨rfl,rfl⟩
def xrQ:(y.tn x s).size=s.size/\(y.tn x s).run=s.run:=by cases y<;> exact⟨rfl,rfl⟩
theorem xen{F:FM}:∀(ys:List Wr) (s:BdS),(xD F s ys).1.size=s.size/\(xD F s ys).1.run=s.run
 |[],_=>⟨rfl,rfl⟩
 |y::ys,s=>by
  have h1:(w1 F s y).size=s.size/\(w1 F s y).run=s.run:=by
   unfold w1
   split
   ·exact xrP
   ·exact⟨rfl,rfl⟩
   ·exact xrQ
  by_cases e:F.fo s.fl s.cnt=none
  ·rw[yz e];have:=xen (F:=F) ys (w1 F s y);exact⟨this.1.trans h1.1,this.2.trans h1.2⟩
  ·rw[yo e];exact h1
def xeo(T:Txt K mg a):xE P w K mg base (CXN P w) 7 a.q0x a.vt ["self"] (xqk P w K mg base a):=by
 refine T.q05.okX xax (λvs H Q E h=>?_) (λcdv A outer s H vs Q E hr h=>?_)
 ·obtain⟨F,B,s,rfl,_⟩:=h;rfl
 ·refine oG λ_ Z=>?_;obtain⟨F,B,st,rfl,hF,hB,hT,q⟩:=h;apply Z;have nd:=xax.nd;refine⟨_,(xf (xC (i:=1) nd rfl (az rfl) (xdv (jb hr) (xB (cv 0) rfl) xH (λ_ _=>rfl)))
  (xf (xC (i:=2) nd rfl (az rfl) (xO (cv 0) T.q0a T.q0L (zd T) hr.m T.zw .nil xt))
  (xf (xS (xN xdU (xM yx (xB (cv 0) rfl) (cv 2) (λ_ _=>rfl)) xH) (xk (xv (cv 1))) xF)
  (xf (xC (i:=3) nd rfl (az rfl) (xdv (jb hr) (xB (cv 0) rfl) xH (λ_ _=>rfl)))
  (xf (xS (xN xa5 (cv 3) xg) (xf (xK (ye ⟨rfl,rfl,rfl⟩ (cv 0) T.q0a T.q0p (yt T) hr.m T.yy .nil (xa (xB (cv 0) rfl) (xa (cv 2) (xa xH xc)))))
  (xk (xv (cv 1)))) xF)
  (xf (xK (ye ⟨rfl,rfl,rfl⟩ (cv 0) T.q0a T.q0p (yt T) hr.m T.yy .nil (xa (xB (cv 0) rfl) (xa xH (xa (xx jc (cv 3) xg) xc)))))
  (xk (xv (cv 2))))))))),?_⟩
  have kQ:atI [V.str (st.mark false),V.str (st.mark true)] (bI (!st.mr))=some (.str (st.mark (!st.mr))):=by cases st.mr<;> rfl
  unfold xaE startB at q;refine⟨B.bd,_,B.dx,_,.ref B.se,rfl,hB.bd,T.q0a,T.q0l,rfl,?_⟩;refine⟨B.se,.int (bI st.mr),rfl,vM.k (k:=.inr "marker") hB.se,?_⟩;refine⟨B.bd,B.dx,_,rfl,hB.bd,rfl,?_⟩;refine⟨F,B,st,rfl,hB,?_⟩;refine⟨B.bd,_,B.dx,_,.ref B.ma,rfl,hB.bd,T.q0a,T.q0j,rfl,?_⟩;refine⟨B.ma,_,_,_,rfl,rfl,SqL.of hB.ma,kQ,?_⟩;refine⟨λc=>?_,λc=>?_⟩
  ·left;have e:¬st.mark (!st.mr)=("trial":Str):=λe=>by
    rw[show bE "trial"=("trial":Str)from rfl,decide_eq_true e]at c;cases c
   rw[if_neg e,if_neg (λz=>e z.1)]at q;exact q.done hB
  have e:st.mark (!st.mr)=("trial":Str):=of_decide_eq_true (p:=st.mark (!st.mr)=bE "trial") (by rw[<-dq];exact c);rw[if_pos e]at q;refine⟨B.bd,_,B.dx,_,.ref B.se,rfl,hB.bd,T.q0a,T.q0l,rfl,?_⟩;refine⟨B.se,.int st.ct,rfl,vM.k (k:=.inr "counter") hB.se,?_⟩;refine⟨λc2=>?_,λc2=>?_⟩
  ·have c2:st.ct=0:=of_decide_eq_true c2;rw[if_pos c2,if_neg (λz=>z.2 c2)]at q;refine⟨B.bd,B.dx,_,rfl,hB.bd,rfl,?_⟩;refine⟨B.bd,_,B.dx,_,.ref B.ma,rfl,hB.bd,T.q0a,T.q0j,rfl,?_⟩;exists⟨F,B,st,.mark (!st.mr) "bad",B.ma,_,_,rfl,hF,hB,hT,rfl,q.chg λ_ H1 k1 kP q1=>?_⟩;exact q1.done kP
  ·have c2:¬st.ct=0:=of_decide_eq_false c2;rw[if_neg c2,if_pos ⟨e,c2⟩]at q;refine⟨B.bd,B.dx,_,rfl,hB.bd,rfl,?_⟩;refine⟨B.bd,_,B.dx,_,.ref B.se,rfl,hB.bd,T.q0a,T.q0l,rfl,?_⟩;exists⟨F,B,st,.cter (st.ct - 1),B.se,_,_,rfl,hF,hB,hT,rfl,q.chg λ_ H1 k1 kP q1=>?_⟩;exact q1.done kP
def xnS(B:BA)(n:Int)(r v:V):vm (bE "running") v (bdF B n r)=bdF B n v:=rfl
def xhK{o:HO}(k:Kp (BF F B) H H1):Kp (BF F B) H (upd H1 B.bd o):=k.wr (by simp)
theorem xiH(T:Txt K mg a):xE P w K mg base (CXN P w) 8 a.q1e a.jI ["self"] (xle P w K mg base a):=by
 refine T.q2u.okX xdI (λvs H Q E h=>?_) (λcdv A outer s H vs Q E hr h=>?_)
 ·obtain⟨F,B,s,rfl,_⟩:=h;rfl
 ·refine oG λ_ Z=>?_;obtain⟨F,B,st,rfl,hF,hB,hT,q⟩:=h;apply Z;have nd:=xdI.nd;refine⟨_,(xf (yC (cv 0) yO rfl)
  (xf (yC (cv 0) (xbh ⟨rfl,rfl,rfl⟩ (cv 0) T.q0a T.q27 (xeo T) hr.m T.xeQ .nil) rfl)
  (xk (xv (xB (cv 0) rfl))))),?_⟩
  refine⟨B.bd,_,B.dx,_,rfl,hB.bd,T.q0a,T.q0q,by walk_at"few",?_⟩;rw[xnS];have kQ:=hB.rune (r:=none);have k0:Kp (BF F B) H (upd H B.bd (.ins a.q0b B.dx (bdF B st.size (vX none)))):=xhK (Kp.of (xj.refl _));have t0:=hT.kp k0 hB.muF;rw[show(V.non)=vX none from rfl];generalize upd H B.bd (.ins a.q0b B.dx (bdF B st.size (vX none)))=H0 at kQ k0 t0;exists⟨B.bd,B.dx,_,rfl,kQ.bd,rfl,?_⟩;unfold vZ xaF at q;have kR:=xen (F:=F) (xaE st) {st with run:=none};generalize kS:xD F {st with run:=none} (xaE st)=r at q kR;refine⟨F,B,_,rfl,hF,kQ,t0,?_⟩;rw[show xD F {st with run:=none} (xaE {st with run:=none})=r from kS];obtain⟨s1,rc⟩:=r;cases rc with
  |some c=>
   refine⟨(λz=>by cases z),λc' e d H1 k1 kP hd=>?_,q.3⟩;have:({s1 with run:=none}:BdS)=s1:=by rw[show(none:Option Bool)=s1.run from kR.2.symm]
   rw[this]at q;exact q.2 c' e d H1 (k0.trans k1) kP hd
  |none=>
   refine⟨λ_ H1 k1 kP=>?_,(λc e=>by cases e),q.3⟩;refine⟨B.bd,_,B.dx,_,rfl,kP.bd,T.q0a,T.q0q,by walk_at"few",?_⟩;rw[xnS];refine⟨B.bd,_,B.dx,_,_,rfl,xp,T.q0a,T.q0q,rfl,?_⟩;exact q.1 rfl _ (xhK (k0.trans k1)) (kP.rune (r:=some (startB st)))
def xfA(T:Txt K mg a):xE P w K mg base (CXN P w) 7 a.q0J a.jv ["self","bank"] (xmH P w K mg base a):=by
 refine T.q1F.okX xbl (λvs H Q E h=>?_) (λcdv A outer s H vs Q E hr h=>?_)
 ·obtain⟨F,B,s,b,rfl,_⟩:=h;rfl
 ·refine oG λ_ Z=>?_;obtain⟨F,B,st,b,rfl,hF,hB,hT,q⟩:=h;apply Z;have nd:=xbl.nd;refine⟨_,(xf (xK (ye ⟨rfl,rfl,rfl⟩ (cv 0) T.q0a T.q0p (yt T) hr.m T.yy .nil (xa (xB (cv 0) rfl) (xa (cv 1) (xa xH xc)))))
  (xk (xK (ye ⟨rfl,rfl,rfl⟩ (cv 0) T.q0a T.q0p (yt T) hr.m T.yy .nil (xa (xB (cv 0) rfl) (xa xH (xa (cv 1) xc))))))),?_⟩
  refine⟨B.bd,B.dx,_,rfl,hB.bd,rfl,?_⟩;refine⟨B.bd,_,B.dx,_,.ref B.ma,rfl,hB.bd,T.q0a,T.q0j,rfl,?_⟩;refine⟨F,B,st,.mark b "good",B.ma,_,_,rfl,hF,hB,hT,rfl,q.chg λ_ H1 k1 kP q1=>?_⟩;have t1:=hT.kp k1 hB.muF;refine⟨B.bd,B.dx,_,rfl,kP.bd,rfl,?_⟩;refine⟨B.bd,_,B.dx,_,.ref B.se,rfl,kP.bd,T.q0a,T.q0l,rfl,?_⟩;refine⟨F,B,_,.mrk b,B.se,_,_,rfl,hF,kP,t1,rfl,q1.chg λ_ H2 k2 kQ q2=>?_⟩;exact q2.done kQ
def xhL(a:Adr):Sp:=λvs H Q _=>Ex6 λ(S:SA) (cells:List Int) (notes:List (Option Int)) (n i:Int) (fl:V)=>vs=[.ref S.st,.int i]/\ug a H S cells notes n fl/\inR cells i/\Q .non H
def xj4(a:Adr):Sp:=λvs H Q _=>Ex7 λ(S:SA) (cells:List Int) (notes:List (Option Int)) (n i v:Int) (fl:V)=>vs=[.ref S.st,.int i]/\ug a H S cells notes n fl/\inR cells i/\cells[i.toNat]? =some v/\Q (.int v) H
def xrR:List (Str×V)->Sp:=λfv vs H Q _=>∃v:V,fv=([]:List (Str×V))/\vs=[v]/\Q v H
abbrev xhM:Expr:=vi 3 (xb5 ((xr zF).getD 1 (.Pass ⟨0,0,0,0⟩)))
def xmI:zh ["other"] ["other"] [] (yq xhM):=by walk_at"d"
def xlf(P:aH)(w:World)(K:aq)(mg:Str->Option Value)(base:Heap)(a:Adr):Sp:=λvs H Q E=>Ex6 λ(F:FM) (B:BA) (s:BdS) (b:Bool) (i:Nat) (v:Int)=>vs=[.ref (B.S b).st,.int i,.int v]/\ua P w K mg base F/\xA a F H B s/\Tbs H/\i<(s.cells b).length/\xV a F H B (xD F s [.cell b i v]) (Q .non) E
def xrS(P:aH)(w:World)(K:aq)(mg:Str->Option Value)(base:Heap)(a:Adr):Sp:=λvs H Q E=>Ex5 λ(F:FM) (B:BA) (s:BdS) (b:Bool) (m:Nat)=>vs=[.ref (B.S b).st,.int m]/\ua P w K mg base F/\xA a F H B s/\Tbs H/\(s.notes b).length=2/\xV a F H B (xD F s [.note b (m%2) m]) (Q .non) E
def jm(T:Txt K mg a):xE P w K mg base CX0 1 a.q0n a.uE ["self","at"] (xhL a):=by
 refine T.q0H.ok jl (λvs H Q E h=>?_) (λcdv A outer s H vs Q E hr h=>?_)
 ·obtain⟨S,cells,notes,n,i,fl,rfl,_⟩:=h;rfl
 ·refine oG λ_ Z=>?_;obtain⟨S,cells,notes,n,i,fl,rfl,hS,hi,k⟩:=h;apply Z;have nd:=jl.nd;refine⟨_,(xk (xS (PW.pt (zq (xN xia (cv 1) xg) (uo (xN xpQ (cv 1) (xI xQ (by rfl) T.q0O yu (xa (xB (cv 0) rfl) xc)))))) (xk xdA) xF)),?_⟩;refine⟨λe=>absurd (of_decide_eq_true e) (by have:=hi.1;omega),λe=>?_⟩;refine⟨S.st,_,S.dx,_,.ref S.ca,rfl,hS.st,T.q0m,T.q1R,rfl,?_⟩;exists⟨S.ca,_,rfl,.inl (SqL.of hS.ca),?_⟩;rw[ag];refine⟨λe1=>absurd (of_decide_eq_true e1) (by have:=hi.2;omega),λe1=>?_⟩;exact k
def xj5(T:Txt K mg a):xE P w K mg base CX0 2 a.q1X a.xcv ["self","at"] (xj4 a):=by
 refine T.q2S.ok xeE (λvs H Q E h=>?_) (λcdv A outer s H vs Q E hr h=>?_)
 ·obtain⟨S,cells,notes,n,i,v,fl,rfl,_⟩:=h;rfl
 ·refine oG λ_ Z=>?_;obtain⟨S,cells,notes,n,i,v,fl,rfl,hS,hi,hv,k⟩:=h;apply Z;have nd:=xeE.nd;refine⟨_,(xf (xK (za (cv 0) T.q0m T.q1M (jm T) hr.m T.jB .nil xt (xa (cv 1) xc)))
  (xk (xv (xM yx (xB (cv 0) rfl) (cv 1) (λ_ _=>rfl))))),?_⟩
  refine⟨S.st,S.dx,_,rfl,hS.st,rfl,?_⟩;refine⟨S,cells,notes,n,i,fl,rfl,hS,hi,?_⟩;refine⟨S.st,_,S.dx,_,.ref S.ca,rfl,hS.st,T.q0m,T.q1R,rfl,?_⟩;refine⟨S.ca,_,i,.int v,rfl,rfl,SqL.of hS.ca,xkt hi.1 hv,?_⟩;exact k
def xfB(T:Txt K mg a):yV P w K mg base CX0 1 "<lambda>" "Store.write.<locals>.<lambda>" (uj xhM) (.expr (uk xhM)) (yq xhM) ["other"] xrR:=by
 refine xaR xmI (λfv vs H Q E h=>?_) (λ_ _ _ _ _ us hl=>match us,hl with|[_],_=>rfl) (λA outer s H f clos cdv fv vs Q E hr h=>?_)
 ·obtain⟨v,rfl,rfl,_⟩:=h;exact⟨rfl,rfl⟩
 ·refine oG λ_ Z=>?_;obtain⟨v,rfl,rfl,k⟩:=h;apply Z;have nd:=xmI.nd;exists⟨_,(cv 0),?_⟩;exact k
theorem xiI(T:Txt K mg a):xE P w K mg base (CXN P w) 6 a.q1d a.jH ["self","at","sign"] (xlf P w K mg base a):=by
 refine T.jJ.okXC T.xiz xdF (λvs H Q E h=>?_) (λA outer s H vs Q E hr h=>?_)
 ·obtain⟨F,B,s,b,i,v,rfl,_⟩:=h;rfl
 ·refine oG λ_ Z=>?_;obtain⟨F,B,st,b,i,v,rfl,hF,hB,hT,hi,q⟩:=h;apply Z;have nd:=xdF.nd;refine⟨_,(xf (xK (za (cv 0) T.q0m T.q1M (jm T) hr.m T.jB .nil xt (xa (cv 1) xc)))
  (xk (xK (ye ⟨rfl,rfl,rfl⟩ (xB (cv 0) rfl) T.q3B T.q2c (jx T) hr.m T.jR .nil (xa (xB (cv 0) rfl) (xa (cv 1) (xa (cv 2) (xa (zP (c:=q0S) (P:=zG) (qs:=jd) (fns:=[]) rfl T.q3Y (q:="Store.write.<locals>.<lambda>") (by kernel_rfl) (.head _) (by kernel_rfl) (by kernel_rfl)) xc)))))))),?_⟩
  have S:=hB.st b;refine⟨(B.S b).st,(B.S b).dx,_,rfl,S.st,rfl,?_⟩;refine⟨B.S b,_,_,_,i,_,rfl,S,⟨by lia,by lia⟩,?_⟩;refine⟨(B.S b).st,_,(B.S b).dx,_,.ref (B.S b).p,rfl,S.st,T.q0m,T.q2l,rfl,?_⟩;refine⟨(B.S b).p,(B.S b).dp,_,rfl,S.p,rfl,?_⟩;refine⟨(B.S b).st,_,(B.S b).dx,_,.ref (B.S b).ca,rfl,S.st,T.q0m,T.q1R,rfl,?_⟩;exists⟨hT.2.1,[],rfl,(λx v m=>nomatch m),λg H2 hg s2 hc=>?_⟩;have kQ:=hB.same s2;have S2:=kQ.st b;have hm:(B.S b).ca∈BS B:=by cases b<;> simp
  have kt:∀{H':Hp},Kp (B.p::(B.S b).ca::F.M) H2 H'->Kp (BF F B) H H':=λk=>(Kp.of s2).trans (xnR k hm);rw[(hB.sp b).1];refine⟨F,B.p,B.dp,(B.S b).ca,g,.int i,.int v,_,_,st.cnt,st.fl,λx=>.int x,rfl,hF,kQ.pen,⟨kQ.c0,q.lt⟩,kQ.fm,kQ.nM (.inl (by simp)),kQ.nM (.inl hm),⟨_,_,_,_,_,_,_,_,xfB T,hc,λs' H' Q' q'=>⟨.int s',rfl,rfl,q'⟩⟩,S2.ca,.lst _ (i:Int) (by lia) (by rw[ag];lia),λkT H' k' kR kP kS=>?_,λan kT d H' k' kR kP kS _ hd=>?_⟩
  ·rw[xek kT]at q;exact q.1 rfl H' (kt k') (kQ.celled k' kR kP kS)
  ·cases an with
   |none=>
    rw[xdq kT]at q;refine q.2 _ rfl d H' (kt k') (kQ.ahead (λc u e n=>?_) kR kP) hd
    by_cases hb:c=(B.S b).ca
    ·rw[hb]at e⊢;rw[S2.ca]at e;rw[kS];exact e
    ·exact k' c u e (by simp only[av,not_or]at n⊢;exact⟨n.1,hb,n.2⟩)
   |some x=>
    rw[xel kT]at q;exact q.2 _ rfl d H' (kt k') (kQ.celled k' kR kP kS) hd
def xj6(T:Txt K mg a):xE P w K mg base (CXN P w) 7 a.q1Y a.xcw ["self","number"] (xrS P w K mg base a):=by
 refine T.q2T.okX xeF (λvs H Q E h=>?_) (λcdv A outer s H vs Q E hr h=>?_)
 ·obtain⟨F,B,s,b,m,rfl,_⟩:=h;rfl
 ·refine oG λ_ Z=>?_;obtain⟨F,B,st,b,m,rfl,hF,hB,hT,h2,q⟩:=h;apply Z;have nd:=xeF.nd;refine⟨_,(xk (xK (ye ⟨rfl,rfl,rfl⟩ (cv 0) T.q0m T.q13 (vY T) hr.m T.jw .nil (xa (xx yU (cv 1) xg) (xa (cv 1) xc))))),?_⟩;exists⟨(B.S b).st,(B.S b).dx,_,rfl,(hB.st b).st,rfl,?_⟩;walk_at"ss";exact⟨F,B,st,b,m%2,m,rfl,hF,hB,hT,by lia,q⟩
noncomputable def zt(r:xq)(C:List Int)(d:Int):List Int:=match r with
 | .take to st _=>C.set d.toNat (C.getD (st+d - to).toNat 0)
 | .put to sg=>C.set d.toNat (sg.getD (d - to).toNat 0)
def doP(r:xq)(C cs:List Int):List Int:=cs.foldl (zt r) C
def xo9(r:xq)(C:List Int)(d:Int):(zt r C d).length=C.length:=by cases r<;> simp[zt]
theorem xiJ(r:xq):∀(cs C:List Int),(doP r C cs).length=C.length
 |[],_=>rfl
 |d::cs,C=>by
  show(doP r (zt r C d) cs).length=_;rw[xiJ r cs,xo9]
abbrev xcJ:Expr:=vi 1 (vi 1 (xb5 ((xb4 ((xr uT).getD 0 (.Pass ⟨0,0,0,0⟩))).getD 0 (.Pass ⟨0,0,0,0⟩))))
def xmJ:zh ["at","store"] ["at"] ["store"] (yq xcJ):=by walk_at"d"
abbrev xui(H:Hp)(f:Addr)(fv:List (Str×V)):Prop:=yK H f "<lambda>" "do_piece.<locals>.<lambda>" (uj xcJ) (.expr (uk xcJ)) (yq xcJ) fv
def xmK(a:Adr):List (Str×V)->Sp:=λfv vs H Q _=>Ex7 λ(S:SA) (cells:List Int) (notes:List (Option Int)) (n i v:Int) (fl:V)=>fv=([("store",.ref S.st)]:List (Str×V))/\vs=[.int i]/\ug a H S cells notes n fl/\inR cells i/\cells[i.toNat]? =some v/\Q (.int v) H
def xhN(T:Txt K mg a):yV P w K mg base CX0 3 "<lambda>" "do_piece.<locals>.<lambda>" (uj xcJ) (.expr (uk xcJ)) (yq xcJ) ["at"] (xmK a):=by
 refine xaR xmJ (λfv vs H Q E h=>?_) (λ_ _ _ _ _ us hl=>match us,hl with|[_],_=>rfl) (λA outer s H f clos cdv fv vs Q E hr h=>?_)
 ·obtain⟨S,cells,notes,n,i,v,fl,rfl,rfl,_⟩:=h;exact⟨rfl,rfl⟩
 ·refine oG λ_ Z=>?_;obtain⟨S,cells,notes,n,i,v,fl,rfl,rfl,hS,hi,hv,k⟩:=h;apply Z;have nd:=xmJ.nd;refine⟨_,(za (cv 1) T.q0m T.q4m (xj5 T) hr.m T.xkN .nil xt (xa (cv 0) xc)),?_⟩;refine⟨S.st,S.dx,_,rfl,hS.st,rfl,?_⟩;exact⟨S,cells,notes,n,i,v,fl,rfl,hS,hi,hv,k⟩
def xql(a:Adr):Sp:=λvs H Q E=>Ex9 λ(p dx u:Addr) (to n cell v:Int) (f:V) (sg:List Int)=>vs=[.ref p,.int cell,f]/\H p=some (.ins a.q0g dx (xfO to u n))/\H u=some (.tup (sg.map V.int))/\0<=cell - to/\sg[(cell - to).toNat]? =some v/\Q (.int v) H
def xqm(a:Adr):Sp:=λvs H Q _=>Ex8 λ(p dx:Addr) (to st c cell:Int) (f:Addr) (fv:List (Str×V))=>vs=[.ref p,.int cell,.ref f]/\H p=some (.ins a.q0c dx (xcX to st c))/\xui H f fv/\xmK a fv [.int (st+cell - to)] H Q E0
def xgF(T:Txt K mg a):xE P w K mg base CX0 4 a.q04 a.xam ["self","cell","read"] (xqm a):=by
 refine T.q14.ok xcC (λvs H Q E h=>?_) (λcdv A outer s H vs Q E hr h=>?_)
 ·obtain⟨p,dx,to,st,c,cell,f,fv,rfl,_⟩:=h;rfl
 ·refine oG λ_ Z=>?_;obtain⟨p,dx,to,st,c,cell,f,fv,rfl,hp,hf,k⟩:=h;apply Z;have nd:=xcC.nd;refine⟨_,(xk (xv (xpW 2 (xhN T) hr.m xt (xa (za (cv 0) T.q0h T.q2C (xbn T) hr.m T.xbL .nil xt (xa (cv 1) xc)) xc)))),?_⟩;refine⟨f,fv,rfl,hf,?_⟩;refine⟨p,dx,_,rfl,hp,rfl,?_⟩;refine⟨p,dx,to,st,c,cell,rfl,hp,?_⟩;exact⟨hf,k⟩
def xhO(T:Txt K mg a):xE P w K mg base CX0 1 a.q1l a.xaY ["self","cell","read"] (xql a):=by
 refine T.q2g.ok xcT (λvs H Q E h=>?_) (λcdv A outer s H vs Q E hr h=>?_)
 ·obtain⟨p,dx,u,to,n,cell,v,f,sg,rfl,_⟩:=h;rfl
 ·refine oG λ_ Z=>?_;obtain⟨p,dx,u,to,n,cell,v,f,sg,rfl,hp,hu,hi,hv,k⟩:=h;apply Z;have nd:=xcT.nd;refine⟨_,(xk (xv (xM xT (xB (cv 0) rfl) (xx jc (cv 1) (xB (cv 0) rfl)) (λ_ _=>rfl)))),?_⟩;refine⟨p,_,dx,_,.ref u,rfl,hp,T.q1L,T.q3q,rfl,?_⟩;refine⟨p,_,dx,_,.int to,rfl,hp,T.q1L,T.q24,rfl,?_⟩;exact⟨u,_,_,.int v,rfl,rfl,SqT.of hu,xkt hi hv,k⟩
def xdL(r:xq)(L:Nat)(d:Int):Prop:=0<=d/\d<L/\match r with
 | .take to st _=>0<=st+d - to/\st+d - to<L
 | .put to sg=>0<=d - to/\d - to<sg.length
theorem zM.kpB{o:Addr}(h:zM K a H o r)(hB:xA a F H B s)(hn:o∉BF F B)(k:Kp (BF F B) H H'):zM K a H' o r:=by
 cases r with
 |take to st c=>obtain⟨dx,h⟩:=h;exact⟨dx,k _ _ h hn⟩
 |put to sg=>obtain⟨dx,u,h1,h2⟩:=h;exact⟨dx,u,k _ _ h1 hn,k _ _ h2 λz=>by
   obtain⟨u',q',m'⟩:=hB.muF u z;rw[h2]at q';cases q';exact m'⟩
def jy(r:xq)(C:List Int)(d:Int):Int:=match r with
 | .take to st _=>C.getD (st+d - to).toNat 0
 | .put to sg=>sg.getD (d - to).toNat 0
def xc0(r:xq)(C:List Int)(d:Int):zt r C d=C.set d.toNat (jy r C d):=by cases r<;> rfl
def pcW(b:Bool)(r:xq):List Int->List Int->List Wr
 |_,[]=>[]
 |C,d::ds=>.cell b d.toNat (jy r C d)::pcW b r (zt r C d) ds
def xmd(P:aH)(w:World)(K:aq)(mg:Str->Option Value)(base:Heap)(a:Adr):Sp:=λvs H Q E=>Ex8 λ(F:FM) (B:BA) (s:BdS) (b:Bool) (o c:Addr) (r:xq) (cs:List Int)=>vs=[.ref (B.S b).st,.ref o,.ref c]/\ua P w K mg base F/\xA a F H B s/\Tbs H/\zM K a H o r/\o∉BF F B/\H c=some (.lst (cs.map V.int))/\c∉BF F B/\(∀d∈cs,xdL r (s.cells b).length d)/\xV a F H B (xD F s (pcW b r (s.cells b) cs)) (Q .non) E
theorem xme(T:Txt K mg a):xE P w K mg base (CXN P w) 7 a.q2x a.xbY ["store","row","cells"] (xmd P w K mg base a):=by
 refine T.xau.okXK ["store"] T.xl0 xgc (λvs H Q E h=>?_) (λA outer s H vs Q E hr h=>?_)
 ·obtain⟨F,B,s,b,o,c,r,cs,rfl,_⟩:=h;rfl
 ·refine oG λ_ Z=>?_;obtain⟨F,B,s0,b,o,c,r,cs,rfl,hF,hB,hT,ho,kZ,hc,ll,la,q⟩:=h;apply Z;have nd:=xgc.nd;refine⟨_,(yF (x:="store") (i:=0) nd rfl rfl rfl (by kernel_rfl) (xk (yT (PassesOwn.xe ⟨rfl,rfl,rfl⟩) rfl (zx (cv 2)) (yc (i:=3) nd rfl (az rfl)) (xk (xK (ye ⟨rfl,rfl,rfl⟩ (cv 0) T.q0m T.q32 (xiI T) hr.m T.xjQ .nil (xa (cv 3) (xa (xca (za (cv 1) T.q1L T.q3P (xhO T) hr.m T.xiw .nil xt (xa (cv 3) (xa (zP (c:=q1p) (P:=uu) (qs:=jA) (fns:=["store"]) rfl T.q37 (q:="do_piece.<locals>.<lambda>") (by kernel_rfl) (.head _) (by kernel_rfl) (by kernel_rfl)) xc))) (za (cv 1) T.q0h T.q3I (xgF T) hr.m T.xhl .nil xt (xa (cv 3) (xa (zP (c:=q1p) (P:=uu) (qs:=jA) (fns:=["store"]) rfl T.q37 (q:="do_piece.<locals>.<lambda>") (by kernel_rfl) (.head _) (by kernel_rfl) (by kernel_rfl)) xc)))) xc)))))))),?_⟩;left;intro a1 e1 z1 d1;refine aY z1 ?_;refine gnr (upd H a1 _) λH1 kS=>?_;have s1:=xj.of_eq z1 kS;have c1:=xU kS;clear kS;have kR:=hB.same s1;have lp:=hT.same s1;have q1:=q.same s1;have c1:H1 a1=some (.cel (some (.ref (B.S b).st))):=c1;have n1:a1∉BF F B:=λz=>by
   refine oG λ_ Z=>?_;obtain⟨u',q',m'⟩:=kR.muF a1 z;apply Z;rw[c1]at q';cases q';exact m'
  refine⟨c,rfl,⟨_,SqL.of (s1.at hc)⟩,?_⟩;refine zr (xs:=cs.map V.int) (λi σ G=>Kp (BF F B) H1 G/\(∃s:BdS,xA a F G B s/\(s.cells b).length=(s0.cells b).length/\xV a F G B (xD F s (pcW b r (s.cells b) (cs.drop i))) (Q .non) E)/\∃(x3:Option V),σ=[some (.ref (B.S b).st),some (.ref o),some (.ref c),x3])
   ⟨Kp.of (xj.refl _),⟨s0,kR,rfl,q1⟩,_,rfl⟩ (λi σ G hi hP=>SqL.of (hP.1 _ _ (s1.at hc) ll)) (λi x σ G hx hP=>?_) (λσ G hP=>?_)
  ·refine oG λ_ Z=>?_;obtain⟨kp,⟨st,kQ,hlen,qG⟩,x3,rfl⟩:=hP;apply Z;rw[aF]at hx;refine oG λ_ Z=>?_;obtain⟨d,hd,rfl⟩:=aO.mp hx;obtain⟨lb,lg⟩:=aw.mp hd;obtain⟨lh,ly,hd2⟩:=la d (aK hd);apply Z;have kX:zM K a G o r:=(ho.same s1).kpB kR kZ kp;have kY:G a1=some (.cel (some (.ref (B.S b).st))):=kp _ _ c1 n1;have kT:=lp.kp kp kR.muF;have kW:=kQ.st b;rw[bQ lb,lg]at qG;have fin:∀(G5:Hp) (v:Int),xj G G5->jy r (st.cells b) d=v->xlf P w K mg base a [.ref (B.S b).st,.int d,.int v] G5 (λv' H'=>Kp (BF F B) H1 H'/\(∃s:BdS,xA a F H' B s/\(s.cells b).length=(s0.cells b).length/\xV a F H' B (xD F s (pcW b r (s.cells b) (cs.drop (i+1)))) (Q .non) E)/\∃(x3:Option V),[some (V.ref (B.S b).st),some (.ref o),some (.ref c),some (.int d)]=[some (.ref (B.S b).st),some (.ref o),some (.ref c),x3]) E:=λG5 v s5 e=>by
    have q5:=qG.same s5;refine⟨F,B,st,b,d.toNat,v,by rw[cb lh],hF,kQ.same s5,kT.same s5,by omega,?_⟩;have q5:xV a F G5 B (xD F st (.cell b d.toNat v::pcW b r (zt r (st.cells b) d) (cs.drop (i+1)))) (Q .non) E:=by rw[<-e];exact q5
    refine q5.chg λlr G6 k6 lq q6=>⟨(kp.same s5).trans k6,⟨_,lq,?_,?_⟩,_,rfl⟩
    ·show(upB st.cells b ((st.cells b).set d.toNat v) b).length=_;rw[show upB st.cells b ((st.cells b).set d.toNat v) b=(st.cells b).set d.toNat v from if_pos rfl,cD];exact hlen
    ·have e6:upB st.cells b ((st.cells b).set d.toNat v) b=zt r (st.cells b) d:=by
      rw[xc0,e];exact if_pos rfl
     show xV a F G6 B (xD F _ (pcW b r (upB st.cells b ((st.cells b).set d.toNat v) b) (cs.drop (i+1)))) (Q .non) E;rw[e6];exact q6
   exists⟨(B.S b).st,(B.S b).dx,_,rfl,kW.st,rfl,?_⟩;cases r with
   |put to sg=>
    refine oG λ_ Z=>?_;obtain⟨dx,u,q1,q2⟩:=kX;apply Z;have hd2:0<=d - to/\d - to<sg.length:=hd2;obtain⟨v,hv⟩:∃v,sg[(d - to).toNat]? =some v:=⟨_,aD (by omega)⟩
    apply Or.inl
    refine⟨o,dx,_,rfl,q1,rfl,?_⟩;refine⟨kT.1,[("store",.ref (B.S b).st)],rfl,λx v m=>?_,λf G5 hf s5 hc=>?_⟩
    ·simp only[av,dF,aV,or_false]at m;obtain⟨rfl,rfl⟩:=m;exact⟨a1,e1,kY⟩
    exists⟨o,dx,u,to,_,d,v,_,sg,rfl,s5.at q1,s5.at q2,hd2.1,hv,?_⟩;exact fin G5 v s5 (by simp[jy,dG,hv])
   |take to kP cn=>
    obtain⟨dx,q1⟩:=kX;have hd2:0<=kP+d - to/\kP+d - to<(s0.cells b).length:=hd2;obtain⟨v,hv⟩:∃v,(st.cells b)[(kP+d - to).toNat]? =some v:=⟨_,aD (by omega)⟩
    apply Or.inr
    refine⟨o,dx,_,rfl,q1,rfl,?_⟩;refine⟨kT.1,[("store",.ref (B.S b).st)],rfl,λx v m=>?_,λf G5 hf s5 hc=>?_⟩
    ·simp only[av,dF,aV,or_false]at m;obtain⟨rfl,rfl⟩:=m;exact⟨a1,e1,kY⟩
    refine⟨o,dx,to,kP,cn,d,f,_,rfl,s5.at q1,hc,B.S b,_,_,_,_,v,.ref F.f,rfl,rfl,kW.same s5,⟨hd2.1,by omega⟩,hv,?_⟩;left;exact fin G5 v s5 (by simp[jy,dG,hv])
  ·refine oG λ_ Z=>?_;obtain⟨kp,⟨st,kQ,hlen,qG⟩,x3,rfl⟩:=hP;apply Z;rw[ag,gc]at qG;left;exact qG.done kQ
def doL(C:List Int)(xs:List (xq×List Int)):List Int:=xs.foldl (λC x=>doP x.1 C x.2) C
theorem uO:∀(xs:List (xq×List Int)) (C:List Int),(doL C xs).length=C.length
 |[],_=>rfl
 |x::xs,C=>by
  show(doL (doP x.1 C x.2) xs).length=_;rw[uO xs,xiJ]
def xqn{xs:List (xq×List Int)}{x:xq×List Int}(h:xs[i]? =some x):doL C (xs.take (i+1))=doP x.1 (doL C (xs.take i)) x.2:=by
 unfold doL;rw[cu,h];simp[eE]
def yA(L:Nat)(x:xq×List Int):Prop:=x.1.ok/\x.2.length<=300/\∀d∈x.2,xdL x.1 L d
def xjB(xs:List V)(i:Nat):xc5 xs (some (i:Int)) none=xs.drop i:=by
 unfold xc5;rw[xoD (by lia),HT.xkh,cL]
 by_cases h:i<=xs.length
 ·rw[Nat.min_eq_left h];exact cz (by rw[cT];lia)
 ·rw[Nat.min_eq_right (by lia),bS (ay _),bS (by lia)];simp
theorem xgi{α β:Type}{F:α->β->Prop}:∀{l₁:List α} {l₂:List β} (n:Nat),Paired F l₁ l₂->Paired F (l₁.drop n) (l₂.drop n)
 |_,_,0,h=>h
 |_,_,n+1,.nil=>.nil
 |_,_,n+1,.cons _ t=>xgi n t
theorem xpa{L:Nat}(h:∀d∈cs,xdL r L d):∀p∈zz r cs,p<(L:Int):=by
 intro p hp;unfold zz at hp;obtain⟨d,hd,hp⟩:=eW.mp hp;have h1:=h d hd;cases r with
 |take to st c=>
  have h2:0<=st+d - to/\st+d - to<L:=h1.2.2;simp only[plc,av,aV,or_false]at hp;rcases hp with rfl|rfl
  ·exact h2.2
  ·exact h1.2.1
 |put to sg=>
  simp only[plc,aj]at hp;rw[hp];exact h1.2.1
theorem TupAt.kpS(h:TupAt K H t r)(k:∀b u,H b=some u->¬xaC u->H' b=some u):TupAt K H' t r:=by
 cases r with
 |take to st c=>exact k _ _ h (λz=>z)
 |put to sg=>obtain⟨u,h1,h2⟩:=h;exact⟨u,k _ _ h1 (λz=>z),k _ _ h2 (λz=>z)⟩
def xA.nin(h:xA a F H B s){x:Addr}(e:H x=none):x∉BF F B:=λz=>by
 obtain⟨u,q,_⟩:=h.muF x z;rw[e]at q;cases q
def xA.noMu(h:xA a F H B s){x:Addr}{u:HO}(e:H x=some u)(m:¬xaC u):x∉BF F B:=λz=>by
 obtain⟨u',q',m'⟩:=h.muF x z;rw[e]at q';cases q';exact m m'
def goW(b:Bool):List Int->Nat->List (xq×List Int)->List Wr
 |_,_,[]=>[]
 |C,m,x::xs=>pcW b x.1 C x.2++(.note b ((m+1)%2) ((m+1:Nat):Int)::goW b (doP x.1 C x.2) (m+1) xs)
theorem xgG{F:FM}:∀(ys:List Wr) (s:BdS) (zs:List Wr),xD F s (ys++zs)=match (xD F s ys).2 with
  |none=>xD F (xD F s ys).1 zs
  |some c=>((xD F s ys).1,some c)
 |[],_,_=>rfl
 |y::ys,s,zs=>by
  by_cases e:F.fo s.fl s.cnt=none
  ·rw[cU,yz e,yz e];exact xgG ys _ zs
  ·rw[cU,yo e,yo e]
theorem xV.app{zs:List Wr}(h:xV a F H B (xD F s (ys++zs)) q E)
  (c:(xD F s ys).2=none->∀H1,Kp (BF F B) H H1->xA a F H1 B (xD F s ys).1->xV a F H1 B (xD F (xD F s ys).1 zs) q E->R H1):xV a F H B (xD F s ys) R E:=by
 rw[xgG]at h;refine⟨λe H1 k1 kP=>?_,λx e d H1 k1 kP hd=>?_,?_⟩
 ·rw[e]at h;exact c e H1 k1 kP (h.kp k1)
 ·rw[e]at h;exact h.2 x rfl d H1 k1 kP hd
 ·cases e:(xD F s ys).2 with
  |none=>rw[e]at h;exact Int.le_trans (xej zs (xD F s ys).1).1 h.3
  |some x=>rw[e]at h;exact h.3
def xa2{f:Bool->α}{v:α}:upB f b v b=v:=if_pos rfl
theorem xiK{F:FM}{b:Bool}{r:xq}:∀(cs:List Int) (s:BdS),(xD F s (pcW b r (s.cells b) cs)).2=none->(xD F s (pcW b r (s.cells b) cs)).1.cells b=doP r (s.cells b) cs/\(xD F s (pcW b r (s.cells b) cs)).1.notes=s.notes
 |[],_,_=>⟨rfl,rfl⟩
 |d::cs,s,h=>by
  by_cases e:F.fo s.fl s.cnt=none
  ·have e1:xD F s (pcW b r (s.cells b) (d::cs))=xD F (w1 F s (.cell b d.toNat (jy r (s.cells b) d))) (pcW b r (zt r (s.cells b) d) cs):=yz e;have e2:(w1 F s (.cell b d.toNat (jy r (s.cells b) d))).cells b=zt r (s.cells b) d:=by
    rw[zA e,xc0];exact xa2
   have e3:(w1 F s (.cell b d.toNat (jy r (s.cells b) d))).notes=s.notes:=by rw[zA e];rfl
   rw[e1,<-e2]at h⊢;have:=xiK (F:=F) cs _ h;rw[e3,e2]at this;exact⟨by rw[e2];exact this.1,by rw[e2];exact this.2⟩
  ·have e1:xD F s (pcW b r (s.cells b) (d::cs))=(w1 F s (.cell b d.toNat (jy r (s.cells b) d)),some s.cnt):=yo e;rw[e1]at h;cases h
def xqo(P:aH)(w:World)(K:aq)(mg:Str->Option Value)(base:Heap)(a:Adr):Sp:=λvs H Q E=>xsb λ(F:FM) (B:BA) (s:BdS) (b:Bool) (p tt:Addr) (o n:Int) (us:List Addr) (rs:List xq) (first:Nat)=>vs=[.ref (B.S b).st,.ref p]/\ua P w K mg base F/\xA a F H B s/\Tbs H/\H p=some (.tup [.int o,.int n,.ref tt])/\H tt=some (.tup (us.map V.ref))/\Paired (GT K H) us rs/\us.length<=58/\(s.notes b).length=2/\uI (s.notes b) first/\first<=10000/\
 max o n<=(s.cells b).length/\(∀x∈xP rs,yA (s.cells b).length x)/\xV a F H B (xD F s (goW b (s.cells b) first ((xP rs).drop first))) (λH'=>∀v,Q v H') E
def xqp(T:Txt K mg a):xE P w K mg base (CXN P w) 8 a.q3S a.xir ["store","paper"] (xqo P w K mg base a):=by
 refine T.q3W.okX xkT (λvs H Q E h=>?_) (λcdv A outer s H vs Q E hr h=>?_)
 ·obtain⟨F,B,s,b,p,tt,o,n,us,rs,first,rfl,_⟩:=h;rfl
 ·refine oG λ_ Z=>?_;obtain⟨F,B,s0,b,p,tt,o,n,us,rs,m,rfl,hF,hB,hT,hp,ht,lM,lN,lE,lR,md,hle,hok,q⟩:=h;apply Z;have nd:=xkT.nd;refine⟨_,(xf (xC (i:=2) nd rfl (az rfl) (xI xQ (by rfl) T.q0O yu (xa (xM xT (xO (cv 0) T.q0m T.q3D (xeL T) hr.m T.xfi .nil xt) xg (λ_ _=>rfl)) xc)))
  (xf (xK (xy (xfZ T) hr.m (by rfl) T.xgu T.q1i.kp T.xgt .nil xt (xa (cv 2) (xa (cv 1) xc))))
  (xf (xC (i:=3) nd rfl (az rfl) (xy (xla T) hr.m (by rfl) T.xlZ T.q2K.kp T.xlY .nil xt (xa (cv 1) xc)))
  (xf (xC (i:=4) nd rfl (az rfl) (xO (cv 0) T.q0m T.q31 (xiC T) hr.m T.xjR .nil xt))
  (xf (xC (i:=5) nd rfl (az rfl) (xaN xaO (cv 3) (xb2 (cv 4)) xb1))
  (xf (xK (xy (xgB T) hr.m (by rfl) T.xhp T.q1w.kp T.xho .nil xt (xa (cv 2) (xa (cv 5) xc))))
  (xf (yT (PassesOwn.xe ⟨rfl,rfl,rfl⟩) rfl (xp2 (by rfl) T.q3c (xa (cv 5) xc) (cv 4)) (xb8 rfl (yB (yc (i:=6) nd rfl (az rfl)) (yB (yc (i:=7) nd rfl (az rfl)) xaK))) (xf (xK (xkv ⟨rfl,rfl,rfl⟩ (xme T) hr.m (by rfl) T.xnC T.xau.kp T.xnB .nil (xa (cv 0) (xa (xy (xad T) hr.m (by rfl) T.xa1 T.q19.kp T.xa0 .nil xt (xa (xM xT (cv 7) xg (λ_ _=>rfl)) xc)) (xa (xM xT (cv 7) xg (λ_ _=>rfl)) xc)))))
  (xk (xK (ye ⟨rfl,rfl,rfl⟩ (cv 0) T.q0m T.q4l (xj6 T) hr.m T.xkO .nil (xa (xx ym (cv 6) xg) xc))))))
  (xk (xv (xI xQ (by rfl) T.q0O yu (xa (cv 5) xc))))))))))),?_⟩
  have hS:=hB.st b;refine⟨(B.S b).st,(B.S b).dx,_,rfl,hS.st,rfl,?_⟩;refine⟨B.S b,_,_,_,_,rfl,hS,λt c m' H1 s1 hc me l8 et ec em=>?_⟩;refine⟨t,_,_,.ref c,rfl,rfl,SqT.of et,rfl,?_⟩;refine⟨c,_,rfl,.inl (SqL.of ec),?_⟩;refine⟨_,o,n,p,_,rfl,s1.at hp,by rw[ag];exact hle,?_⟩;have lp:=hB.same s1;have lZ:=hS.same s1;refine⟨p,tt,.int o,.int n,us,rs,rfl,s1.at hp,s1.at ht,L2.Paired.imp' (λ_ _ z=>z.same s1) lM,lN,λl ws H2 s2 hl el lK=>?_⟩;have lg:=lZ.same s2;refine⟨(B.S b).st,(B.S b).dx,_,rfl,lg.st,rfl,?_⟩;refine⟨B.S b,_,_,_,_,rfl,lg,lE,λm2 H3 s3 la=>?_⟩;obtain rfl:=uI.uniq la lR;have mh:=lg.same s3;refine⟨(m:Int),rfl,?_⟩;refine⟨l,_,rfl,SqL.of (s3.at el),?_⟩;exists λlf lF=>xw (upd H3 lf _) rfl lF λH4 lq kT=>?_;rw[xjB,<-List.map_drop]at kT;have kP:Paired (zT K H1 l H4) (ws.drop m) ((xP rs).drop m):=xgi m (L2.Paired.imp' (λ_ _ z=>(z.same s3).same lq) lK);obtain⟨X,hX⟩:∃X,X=xP rs:=⟨_,rfl⟩;rw[<-hX]at kP q hok;have lL:(ws.drop m).length=X.length - m:=by rw[kP.length,cT]
  refine⟨_,H1,lf,l,ws.drop m,X.drop m,rfl,kT,kP,λx hx=>⟨(hok x (cK hx)).1,(hok x (cK hx)).2.1,by rw[ag];exact xpa (hok x (cK hx)).2.2⟩,λH5 s5=>?_⟩;have ly:xj H1 H5:=s2.trans (s3.trans (lq.trans s5));have lh:=lp.same ly;have lz:xj H H5:=s1.trans ly;have lY:=hT.same lz;have lA:lf∉BF F B:=(lp.same (s2.trans s3)).nin lF;have q5:=q.same lz;refine⟨lf,m,rfl,rfl,by lia,⟨_,SqL.of (s5.at kT)⟩,?_⟩;refine xlP (xs:=(ws.drop m).map V.ref) (λi σ G=>Kp (BF F B) H5 G/\(∃st:BdS,xA a F G B st/\(st.cells b).length=(s0.cells b).length/\(st.notes b).length=2/\xV a F G B (xD F st (goW b (st.cells b) (m+i) (X.drop (m+i)))) (λH'=>∀v,Q v H') E)/\∃(x6 x7:Option V),σ=[some (.ref (B.S b).st),some (.ref p),some (.int (((s0.cells b).map V.int).length:Nat)),some (.ref l),some (.int m),some (.ref lf),x6,x7])
   ⟨Kp.of (xj.refl _),⟨s0,lh,rfl,lE,q5⟩,_,_,rfl⟩ (λi σ G hi hP=>SqL.of (hP.1 _ _ (s5.at kT) lA)) (λi x σ G Tt hx hP lX=>?_) (λσ G hP=>?_)
  ·refine oG λ_ Z=>?_;obtain⟨kp,⟨st,kS,lb,kZ,qG⟩,x6,x7,rfl⟩:=hP;apply Z;rw[aF]at hx;refine oG λ_ Z=>?_;obtain⟨u,hu,rfl⟩:=aO.mp hx;obtain⟨⟨r,cs⟩,kY,t',c',⟨l9,lI⟩,h1,h2,h3⟩:=Paired.nth kP hu;apply Z;rw[cG]at kY;refine oG λ_ Z=>?_;obtain⟨lS,lV,kR⟩:=hok _ (aK kY);obtain⟨lT,lU⟩:=aw.mp kY;apply Z;have kG:∀b u,H5 b=some u->¬xaC u->G b=some u:=λb u e mm=>kp b u e (lh.noMu e mm);have lB:c'∉BF F B:=lp.nin lI;have lW:G c'=some (.lst (cs.map V.int)):=kp _ _ (s5.at h3) lB;have lD:=kG _ _ (s5.at h1) (λz=>z);have lO:TupAt K G t' r:=TupAt.kpS (h2.same s5) kG;have lG:=lY.kp kp lh.muF;rw[bQ lT,lU]at qG;refine gnr (upd G Tt _) λG1 hU=>?_;have sT:=xj.of_eq lX hU;have eT:=xU hU;clear hU;refine⟨Tt,_,rfl,SqT.of eT,rfl,?_⟩;refine⟨_,_,rfl,?_⟩;exists⟨_,_,rfl,?_⟩;refine aY rfl ?_;refine⟨u,_,_,.ref t',rfl,rfl,SqT.of (sT.at lD),rfl,?_⟩;refine⟨t',r,rfl,lO.same sT,lS,λob G2 lr lP hO=>?_⟩;exists⟨u,_,_,.ref c',rfl,rfl,SqT.of (lr.at (sT.at lD)),rfl,?_⟩;have kQ:=sT.trans lr;refine⟨F,B,st,b,ob,c',r,cs,rfl,hF,kS.same kQ,lG.same kQ,hO,(kS.same sT).nin lP,kQ.at lW,lB,(λd hd=>by rw[lb];exact kR d hd),?_⟩;have lH:xV a F G2 B (xD F st (pcW b r (st.cells b) cs++(.note b ((m+i+1)%2) ((m+i+1:Nat):Int)::goW b (doP r (st.cells b) cs) (m+i+1) (X.drop (m+i+1))))) (λH'=>∀v,Q v H') E:=qG.same kQ;refine lH.app λlQ G3 lC ll q3=>?_;obtain⟨kX,kW⟩:=xiK cs st lQ;generalize xD F st (pcW b r (st.cells b) cs)=z3 at ll q3 kX kW;refine⟨(B.S b).st,(B.S b).dx,_,rfl,(ll.st b).st,rfl,?_⟩;refine⟨F,B,z3.1,b,m+i+1,rfl,hF,ll,(lG.same kQ).kp lC (kS.same kQ).muF,by rw[kW];exact kZ,?_⟩;refine q3.chg λmf G4 lJ l7 q4=>?_;refine⟨((kp.same kQ).trans lC).trans lJ,⟨_,l7,?_,?_,?_⟩,_,_,rfl⟩
   ·show(z3.1.cells b).length=_;rw[kX,xiJ];exact lb
   ·show(upB z3.1.notes b ((z3.1.notes b).set _ _) b).length=2;rw[xa2,cD,kW];exact kZ
   ·show xV a F G4 B (xD F _ (goW b (z3.1.cells b) (m+i+1) (X.drop (m+i+1)))) _ E;rw[kX];exact q4
  ·refine oG λ_ Z=>?_;obtain⟨kp,⟨st,kS,lb,kZ,qG⟩,x6,x7,rfl⟩:=hP;apply Z;rw[ag,lL,bS (show X.length<=m+(X.length - m)by lia)]at qG;exists⟨lf,_,rfl,.inl (SqL.of (kp _ _ (s5.at kT) lA)),?_⟩;exact qG.done kS _
def ja(s:BdS)(rs:List xq)(first:Nat):List Int:=doL (s.cells (!s.mr)) ((xP rs).drop first)
def xcK(s:BdS)(rs:List xq)(first:Nat)(n total tries:Int):List Wr:=.leng (!s.mr) n::(if ((ja s rs first).take n.toNat).sum=total then[.cter tries,.mark (!s.mr) "trial"]else[.mark (!s.mr) "bad"])
def yr(s:BdS)(rs:List xq)(first:Nat)(n total tries:Int):List Wr:=(if s.mark (!s.mr)=("open":Str)then[]else[.note (!s.mr) 0 0,.note (!s.mr) 1 0,.mark (!s.mr) "open"])++(goW (!s.mr) (s.cells (!s.mr)) first ((xP rs).drop first)++xcK s rs first n total tries)
def zB(s:BdS)(first:Nat):Prop:=(s.notes (!s.mr)).length=2/\first<=10000/\if s.mark (!s.mr)=("open":Str)then uI (s.notes (!s.mr)) first else first=0
def xds(K:aq)(H:Hp)(p:Addr)(o n:Int)(rs:List xq):Prop:=∃tt us,H p=some (.tup [.int o,.int n,.ref tt])/\H tt=some (.tup (us.map V.ref))/\Paired (GT K H) us rs/\us.length<=58
def uy{q:Addr}{ys:List V}(k:Kp L H H')(mu:∀x∈L,∃u,H x=some u/\xaC u)(e:H q=some (.tup ys)):H' q=some (.tup ys):=k _ _ e λz=>by
 obtain⟨u,e',m⟩:=mu q z;rw[e]at e';cases e';exact m
theorem xds.kp(h:xds K H p o n rs)(k:Kp L H H')(mu:∀x∈L,∃u,H x=some u/\xaC u):xds K H' p o n rs:=by
 obtain⟨tt,us,h1,h2,h3,h4⟩:=h;refine⟨tt,us,uy k mu h1,uy k mu h2,L2.Paired.imp' (λt r z=>⟨?_,z.2⟩) h3,h4⟩;cases r with
 |take to st c=>exact uy k mu z.1
 |put to sg=>obtain⟨u,q1,q2⟩:=z.1;exact⟨u,uy k mu q1,uy k mu q2⟩
inductive xlg(P:aH)(w:World)(K:aq)(mg:Str->Option Value)(base:Heap)(a:Adr)(vs:List V)(H:Hp)(Q:VK)(E:XK):Prop
 |mk (F:FM) (B:BA) (s:BdS) (p:Addr) (o n:Int) (rs:List xq) (total tries:Int) (first:Nat):vs=[.ref B.bd,.ref p,.int total,.int tries]->ua P w K mg base F->xA a F H B s->Tbs H->zB s first->xds K H p o n rs->(∀x∈xP rs,yA (s.cells (!s.mr)).length x)->max o n<=(s.cells (!s.mr)).length->0<=n->
  xV a F H B (xD F s (yr s rs first n total tries)) (Q (.bl (decide (((ja s rs first).take n.toNat).sum=total)))) E->xlg P w K mg base a vs H Q E
def xlh(P:aH)(w:World)(K:aq)(mg:Str->Option Value)(base:Heap)(a:Adr):Sp:=xlg P w K mg base a
def xb6(f:Bool->α)(b:Bool)(v w:α):upB (upB f b v) b w=upB f b w:=by
 funext c;unfold upB;split<;> rfl
theorem xli{F:FM}{b:Bool}:∀(xs:List (xq×List Int)) (m:Nat) (s:BdS),(xD F s (goW b (s.cells b) m xs)).2=none->(xD F s (goW b (s.cells b) m xs)).1.cells b=doL (s.cells b) xs
 |[],_,_,_=>rfl
 |x::xs,m,s,h=>by
  have e0:xD F s (goW b (s.cells b) m (x::xs))=xD F s (pcW b x.1 (s.cells b) x.2++(.note b ((m+1)%2) ((m+1:Nat):Int)::goW b (doP x.1 (s.cells b) x.2) (m+1) xs)):=rfl;rw[e0,xgG]at h⊢;cases hp:(xD F s (pcW b x.1 (s.cells b) x.2)).2 with
  |some c=>rw[hp]at h;cases h
  |none=>
   rw[hp]at h;obtain⟨kP,_⟩:=xiK x.2 s hp;generalize xD F s (pcW b x.1 (s.cells b) x.2)=z at h kP;show(xD F z.1 (.note b ((m+1)%2) ((m+1:Nat):Int)::goW b (doP x.1 (s.cells b) x.2) (m+1) xs)).1.cells b=_;have h:(xD F z.1 (.note b ((m+1)%2) ((m+1:Nat):Int)::goW b (doP x.1 (s.cells b) x.2) (m+1) xs)).2=none:=h
   by_cases e:F.fo z.1.fl z.1.cnt=none
   ·rw[yz e,zA e,<-kP]at h;rw[yz e,zA e,<-kP];have:=xli (F:=F) xs (m+1) _ h;refine this.trans ?_;show doL (z.1.cells b) xs=_;rw[kP];rfl
   ·rw[yo e]at h;cases h
theorem xdM(T:Txt K mg a):xE P w K mg base (CXN P w) 9 a.q0u a.va ["self","paper","total","tries"] (xlh P w K mg base a):=by
 refine T.q00.okX xac (λvs H Q E h=>?_) (λcdv A outer s H vs Q E hr h=>?_)
 ·obtain⟨F,B,s,p,o,n,rs,total,tries,first,rfl,_⟩:=h;rfl
 ·refine oG λ_ Z=>?_;obtain⟨F,B,st,p,o,n,rs,total,tries,first,rfl,hF,hB,hT,kP,kT,kZ,kY,lz,q⟩:=h;apply Z;have nd:=xac.nd;refine⟨_,(xf (xC (i:=4) nd rfl (az rfl) (xO (cv 0) T.q0a T.q0L (zd T) hr.m T.zw .nil xt))
  (xf (xC (i:=5) nd rfl (az rfl) (xM yx (xB (cv 0) rfl) (cv 4) (λ_ _=>rfl)))
  (xf (yD (xS (xN xdU (xM yx (xB (cv 0) rfl) (cv 4) (λ_ _=>rfl)) xH) (xf (xK (xbh ⟨rfl,rfl,rfl⟩ (cv 5) T.q0m T.q30 (xiG T) hr.m T.xjS .nil))
  (xk (xK (ye ⟨rfl,rfl,rfl⟩ (cv 0) T.q0a T.q0p (yt T) hr.m T.yy .nil (xa (xB (cv 0) rfl) (xa (cv 4) (xa xH xc))))))) xF))
  (xf (xK (xkv ⟨rfl,rfl,rfl⟩ (xqp T) hr.m (by rfl) T.xrA T.q3W.kp T.xrz .nil (xa (cv 5) (xa (cv 1) xc))))
  (xf (xK (ye ⟨rfl,rfl,rfl⟩ (cv 0) T.q0a T.q0p (yt T) hr.m T.yy .nil (xa (xB (cv 0) rfl) (xa (cv 4) (xa (xM xT (cv 1) xg (λ_ _=>rfl)) xc)))))
  (xf (xS (xN xbS (xI (xbf rfl) (by rfl) T.q4O xeZ (xa (za (cv 0) T.q0a T.q2b (vg T) hr.m T.vU .nil xt (xa (cv 4) xc)) xc)) (cv 2)) (xf (xK (ye ⟨rfl,rfl,rfl⟩ (cv 0) T.q0a T.q0p (yt T) hr.m T.yy .nil (xa (xB (cv 0) rfl) (xa (cv 4) (xa xH xc)))))
  (xk (xv zL))) xF)
  (xf (xK (ye ⟨rfl,rfl,rfl⟩ (cv 0) T.q0a T.q0p (yt T) hr.m T.yy .nil (xa (xB (cv 0) rfl) (xa xH (xa (cv 3) xc)))))
  (xf (xK (ye ⟨rfl,rfl,rfl⟩ (cv 0) T.q0a T.q0p (yt T) hr.m T.yy .nil (xa (xB (cv 0) rfl) (xa (cv 4) (xa xH xc)))))
  (xk (xv zL)))))))))),?_⟩
  unfold zB at kP;unfold yr xcK at q;generalize hE:ja st rs first=C9 at*;have hE:doL (st.cells (!st.mr)) ((xP rs).drop first)=C9:=hE;generalize hb:(!st.mr)=b at*;refine oG λ_ Z=>?_;obtain⟨kX,lA,kP⟩:=kP;apply Z;have lF:atI [V.ref (B.S false).st,V.ref (B.S true).st] (bI b)=some (.ref (B.S b).st):=by cases b<;> rfl
  have lE:atI [V.str (st.mark false),V.str (st.mark true)] (bI b)=some (.str (st.mark b)):=by cases b<;> rfl
  refine⟨B.bd,B.dx,_,rfl,hB.bd,rfl,?_⟩;refine⟨F,B,st,rfl,hB,?_⟩;rw[hb];refine⟨B.bd,_,B.dx,_,.ref B.bl,rfl,hB.bd,T.q0a,T.q2Y,rfl,?_⟩;exists⟨B.bl,_,_,_,rfl,rfl,SqL.of hB.bl,lF,?_⟩;generalize lr:(Wr.leng b n::(if (C9.take n.toNat).sum=total then[Wr.cter tries,.mark b "trial"]else[Wr.mark b "bad"]))=ys at q;refine⟨λσ' G=>σ'=[some (.ref B.bd),some (.ref p),some (.int total),some (.int tries),some (.int (bI b)),some (.ref (B.S b).st)]/\∃s1:BdS,Kp (BF F B) H G/\xA a F G B s1/\s1.cells=st.cells/\((s1.notes b).length=2/\uI (s1.notes b) first)/\xV a F G B (xD F s1 (goW b (st.cells b) first ((xP rs).drop first)++ys)) (Q (.bl (decide ((C9.take n.toNat).sum=total)))) E,?_,?_⟩
  ·refine⟨B.bd,_,B.dx,_,.ref B.ma,rfl,hB.bd,T.q0a,T.q0j,rfl,?_⟩;refine⟨B.ma,_,_,_,rfl,rfl,SqL.of hB.ma,lE,?_⟩;refine⟨λc=>?_,λc=>?_⟩
   ·have kW:¬st.mark b=("open":Str):=λe=>by
     rw[show bE "open"=("open":Str)from rfl,decide_eq_true e]at c;cases c
    rw[if_neg kW]at q kP;refine⟨(B.S b).st,(B.S b).dx,_,rfl,(hB.st b).st,rfl,?_⟩;refine⟨F,B,st,b,rfl,hF,hB,hT,kX,q.two λH1 s1 lg k1 lb q1=>?_⟩;have lB:=hT.kp k1 hB.muF;have en:s1.notes b=[some 0,some 0]:=by
     rw[lg];show upB (upB st.notes b ((st.notes b).set 0 (some 0))) b ((upB st.notes b ((st.notes b).set 0 (some 0)) b).set 1 (some 0)) b=_;rw[xa2,xa2]
     match st.notes b,kX with
     |[x,y],_=>rfl
    have ec:s1.cells=st.cells:=by rw[lg];rfl
    clear lg;refine⟨B.bd,B.dx,_,rfl,lb.bd,rfl,?_⟩;refine⟨B.bd,_,B.dx,_,.ref B.ma,rfl,lb.bd,T.q0a,T.q0j,rfl,?_⟩;refine⟨F,B,s1,.mark b "open",B.ma,_,_,rfl,hF,lb,lB,rfl,q1.chg λ_ H2 k2 lD q2=>?_⟩;exact⟨rfl,_,k1.trans k2,lD,ec,(by show(s1.notes b).length=2/\uI (s1.notes b) first;rw[en,kP];exact⟨rfl,by simp[uI]⟩),q2⟩
   ·have ho:st.mark b=("open":Str):=of_decide_eq_true (p:=st.mark b=bE "open") (by rw[<-dq];exact c);rw[if_pos ho]at q kP;exact⟨rfl,st,Kp.of (xj.refl _),hB,rfl,⟨kX,kP⟩,q⟩
  rintro σ' G ⟨rfl,s1,kG,hG,ec,hz,q⟩;have tG:=hT.kp kG hB.muF;have pG:=kT.kp kG hB.muF;refine oG λ_ Z=>?_;obtain⟨tt,us,p1,p2,p3,p4⟩:=id pG;exists Z ?_;rw[<-ec]at q;refine⟨F,B,s1,b,p,tt,o,n,us,rs,first,rfl,hF,hG,tG,p1,p2,p3,p4,hz.1,hz.2,lA,by rw[ec];exact kY,by rw[ec];exact kZ,q.app λkW H3 k3 kS q3 v3=>?_⟩;have e9:=xli _ _ s1 kW;generalize xD F s1 (goW b (s1.cells b) first ((xP rs).drop first))=z9 at kS q3 e9;rw[ec,hE]at e9;have t3:=tG.kp k3 hG.muF;have lq:=uy k3 hG.muF p1;rw[<-lr]at q3;refine⟨B.bd,B.dx,_,rfl,kS.bd,rfl,?_⟩;refine⟨B.bd,_,B.dx,_,.ref B.le,rfl,kS.bd,T.q0a,T.q1k,rfl,?_⟩;refine⟨p,_,_,.int n,rfl,rfl,SqT.of lq,rfl,?_⟩;refine⟨F,B,z9.1,.leng b n,B.le,_,_,rfl,hF,kS,t3,rfl,q3.chg λ_ H4 k4 la q4=>?_⟩;have t4:=t3.kp k4 kS.muF;refine⟨B.bd,B.dx,_,rfl,la.bd,rfl,?_⟩;refine⟨F,B,_,b,rfl,la,by show 0<=upB z9.1.len b n b;rw[xa2];exact lz,λtx H5 s5 _ et=>?_⟩;have lp:H5 tx=some (.lst ((C9.take n.toNat).map V.int)):=by
   have e2:upB z9.1.len b n b=n:=xa2;rw[<-e9,<-e2];exact et
  have kQ:=la.same s5;have t5:=t4.same s5;have q5:=q4.same s5;generalize ly:C9.take n.toNat=ll at q5 lp;refine⟨tx,_,rfl,SqL.of lp,?_⟩;refine⟨λc=>?_,λc=>?_⟩
  ·have ns:¬ll.sum=total:=λz=>by
    rw[decide_eq_true z]at c;cases c
   rw[if_neg ns,decide_eq_false ns]at q5;refine⟨B.bd,B.dx,_,rfl,kQ.bd,rfl,?_⟩;refine⟨B.bd,_,B.dx,_,.ref B.ma,rfl,kQ.bd,T.q0a,T.q0j,rfl,?_⟩;exists⟨F,B,_,.mark b "bad",B.ma,_,_,rfl,hF,kQ,t5,rfl,q5.chg λ_ H6 k6 kR q6=>?_⟩;exact q6.done kR
  ·have lh:ll.sum=total:=of_decide_eq_true (by rw[<-dq];exact c);rw[if_pos lh,decide_eq_true lh]at q5;refine⟨B.bd,B.dx,_,rfl,kQ.bd,rfl,?_⟩;refine⟨B.bd,_,B.dx,_,.ref B.se,rfl,kQ.bd,T.q0a,T.q0l,rfl,?_⟩;refine⟨F,B,_,.cter tries,B.se,_,_,rfl,hF,kQ,t5,rfl,q5.chg λ_ H6 k6 kR q6=>?_⟩;have t6:=t5.kp k6 kQ.muF;refine⟨B.bd,B.dx,_,rfl,kR.bd,rfl,?_⟩;refine⟨B.bd,_,B.dx,_,.ref B.ma,rfl,kR.bd,T.q0a,T.q0j,rfl,?_⟩;exists⟨F,B,_,.mark b "trial",B.ma,_,_,rfl,hF,kR,t6,rfl,q6.chg λ_ H7 k7 lC q7=>?_⟩;exact q7.done lC
abbrev xhP:Expr:=vi 0 (xsN ((xr zi).getD 2 (.Pass ⟨0,0,0,0⟩)))
def xmL:zh ["paper","self","total","tries"] [] ["paper","self","total","tries"] (yq xhP):=by walk_at"d"
abbrev xhQ:Expr:=vi 0 (xb5 ((xr zX).getD 3 (.Pass ⟨0,0,0,0⟩)))
def xmM:zh ["other","self"] [] ["other","self"] (yq xhQ):=by walk_at"d"
abbrev xhR:Expr:=vi 0 (xb5 ((xr yW).getD 3 (.Pass ⟨0,0,0,0⟩)))
def xmN:zh ["other","self"] [] ["other","self"] (yq xhR):=by walk_at"d"
def xrT(P:aH)(w:World)(K:aq)(mg:Str->Option Value)(base:Heap)(a:Adr):List (Str×V)->Sp:=λfv vs H Q E=>Ex4 λ(bd p:Addr) (total tries:Int)=>fv=([("paper",.ref p),("self",.ref bd),("total",.int total),("tries",.int tries)]:List (Str×V))/\vs=[]/\xlh P w K mg base a [.ref bd,.ref p,.int total,.int tries] H Q E
def xrU(P:aH)(w:World)(K:aq)(mg:Str->Option Value)(base:Heap)(a:Adr):List (Str×V)->Sp:=λfv vs H Q E=>Ex2 λ(bd:Addr) (i:Int)=>fv=([("other",.int i),("self",.ref bd)]:List (Str×V))/\vs=[]/\xmH P w K mg base a [.ref bd,.int i] H Q E
def xrV(P:aH)(w:World)(K:aq)(mg:Str->Option Value)(base:Heap)(a:Adr):List (Str×V)->Sp:=λfv vs H Q E=>Ex4 λ(F:FM) (B:BA) (s:BdS) (b:Bool)=>fv=([("other",.int (bI b)),("self",.ref B.bd)]:List (Str×V))/\vs=[]/\ua P w K mg base F/\xA a F H B s/\Tbs H/\xV a F H B (xD F s [.mrk b]) (Q .non) E
def xqX(a:Adr)(B:BA)(E:XK):XK:=λcls dx H1=>∃(F:FM) (s:BdS) (d:Addr) (c:Int),cls= .ref a.q0d/\dx=some d/\H1 d=some (.xd [("count",.int c)])/\xA a F H1 B s/\∀d' H2,Kp (BF F B) H1 H2->xA a F H2 B {s with run:=none}->H2 d'=some (.xd [("count",.int c)])->E (.ref a.q0d) (some d') H2
def xs4(P:aH)(w:World)(K:aq)(mg:Str->Option Value)(base:Heap)(a:Adr):Sp:=λvs H Q E=>Ex2 λ(B:BA) (f:Addr)=>vs=[.ref B.bd,.ref f]/\∀E':XK,(∀cls dx H1,xqX a B E cls dx H1->E' cls dx H1)->xsY P w K mg base 10 H f [] Q E'
def xrW(a:Adr):Sp:=λvs H Q E=>Ex3 λ(F:FM) (B:BA) (s:BdS)=>vs=[.ref B.bd]/\xA a F H B s/\(s.run≠none->Q .non H)/\(s.run=none->∀H',xj H H'->E (.ref a.q1N) none H')
theorem xV.rof{r:BdS×Option Int}{b:Option Bool}(h:xV a F H B (xaF b r) q E):xV a F H B r (λH1=>∀H2,r.2=none->Kp (BF F B) H H2->xA a F H2 B {r.1 with run:=b}->q H2) (xqX a B E):=by
 obtain⟨s1,rc⟩:=r;cases rc with
 |none=>exact⟨λ_ H1 k1 kQ H2 _ k2 kP=>h.1 rfl H2 k2 kP,(λc e=>by cases e),h.3⟩
 |some c0=>
  refine⟨(λe=>by cases e),λc e d H1 k1 kQ hd=>?_,h.3⟩;cases e;exact⟨F,s1,d,c0,rfl,rfl,hd,kQ,λd' H2 k2 kP hd2=>h.2 c0 rfl d' H2 (k1.trans k2) kP hd2⟩
def xV.imp{r:BdS×Option Int}{q':Hp->Prop}{E':XK}(h:xV a F H B r q E)(hq:∀H1,xA a F H1 B r.1->Kp (BF F B) H H1->r.2=none->q H1->q' H1)(hE:∀cls dx H1,E cls dx H1->E' cls dx H1):xV a F H B r q' E':=
 ⟨λe H1 k1 hB=>hq H1 hB k1 e (h.1 e H1 k1 hB),λc e d H1 k1 hB hd=>hE _ _ _ (h.2 c e d H1 k1 hB hd),h.3⟩
def xrX{X:Cx}{o value:Expr}{f:Str}{pos pos':Pos}{ta tv:TE}(e:X.K=K)(ha:PE X o ta)(hv:PE X value tv)(hs:eO value (some (.Attribute o f pos')) pos.line X.env=pure false):PS X (.Assign [.Attribute o f pos'] value pos) (xsu K ta tv f):=e▸yC ha hv hs
def yV.mono{CX:CXT}{k:Nat}{nm qual:Str}{params:cZ}{body:eS}{scope:Scope}{ps:List Str}{sp:List (Str×V)->Sp}(F:yV P w K mg base CX j nm qual params body scope ps sp)(h:j<=k):yV P w K mg base CX k nm qual params body scope ps sp:=
 ⟨F.len,λA outer s H f fv us vs Q E hr=>F.run A outer s H f fv us vs Q E (hr.mono h)⟩
def xrY(T:Txt K mg a):yV P w K mg base (CXN P w) 10 "<lambda>" "Board.update.<locals>.<lambda>" (uj xhP) (.expr (uk xhP)) (yq xhP) [] (xrT P w K mg base a):=by
 refine xe4 xmL (λfv vs H Q E h=>?_) (λ_ _ _ _ _ us hl=>match us,hl with|[],_=>rfl) (λA outer s H f clos cdv fv vs Q E hr h=>?_)
 ·obtain⟨bd,p,total,tries,rfl,rfl,_⟩:=h;exact⟨rfl,rfl⟩
 ·refine oG λ_ Z=>?_;obtain⟨bd,p,total,tries,rfl,rfl,h⟩:=h;apply Z;have nd:=xmL.nd;exists⟨_,(ye ⟨rfl,rfl,rfl⟩ (cv 1) T.q0a T.q20 (xdM T) hr.m T.xed .nil (xa (cv 0) (xa (cv 2) (xa (cv 3) xc)))),?_⟩;have h0:=h;refine oG λ_ Z=>?_;obtain⟨F,B,s,p',o,n,rs,t',r',fi,e,hF,hB,_⟩:=h;apply Z;have eb:bd=B.bd:=by injection e with e _;injection e
  refine⟨bd,B.dx,_,rfl,by rw[eb];exact hB.bd,rfl,?_⟩;exact h0
def xrZ(T:Txt K mg a):yV P w K mg base (CXN P w) 8 "<lambda>" "Board.fine.<locals>.<lambda>" (uj xhQ) (.expr (uk xhQ)) (yq xhQ) [] (xrU P w K mg base a):=by
 refine xe4 xmM (λfv vs H Q E h=>?_) (λ_ _ _ _ _ us hl=>match us,hl with|[],_=>rfl) (λA outer s H f clos cdv fv vs Q E hr h=>?_)
 ·obtain⟨bd,i,rfl,rfl,_⟩:=h;exact⟨rfl,rfl⟩
 ·refine oG λ_ Z=>?_;obtain⟨bd,i,rfl,rfl,h⟩:=h;apply Z;have nd:=xmM.nd;exists⟨_,(ye ⟨rfl,rfl,rfl⟩ (cv 1) T.q0a T.q3s (xfA T) hr.m T.xfY .nil (xa (cv 0) xc)),?_⟩;have h0:=h;refine oG λ_ Z=>?_;obtain⟨F,B,s,b,e,hF,hB,_⟩:=h;apply Z;have eb:bd=B.bd:=by injection e with e _;injection e
  refine⟨bd,B.dx,_,rfl,by rw[eb];exact hB.bd,rfl,?_⟩;exact h0
def xr0(T:Txt K mg a):yV P w K mg base (CXN P w) 7 "<lambda>" "Board.go_back.<locals>.<lambda>" (uj xhR) (.expr (uk xhR)) (yq xhR) [] (xrV P w K mg base a):=by
 refine xe4 xmN (λfv vs H Q E h=>?_) (λ_ _ _ _ _ us hl=>match us,hl with|[],_=>rfl) (λA outer s H f clos cdv fv vs Q E hr h=>?_)
 ·obtain⟨F,B,s,b,rfl,rfl,_⟩:=h;exact⟨rfl,rfl⟩
 ·refine oG λ_ Z=>?_;obtain⟨F,B,st,b,rfl,rfl,hF,hB,hT,q⟩:=h;apply Z;have nd:=xmN.nd;refine⟨_,(ye ⟨rfl,rfl,rfl⟩ (cv 1) T.q0a T.q0p (yt T) hr.m T.yy .nil (xa (xB (cv 1) rfl) (xa xH (xa (cv 0) xc)))),?_⟩;refine⟨B.bd,B.dx,_,rfl,hB.bd,rfl,?_⟩;refine⟨B.bd,_,B.dx,_,.ref B.se,rfl,hB.bd,T.q0a,T.q0l,rfl,?_⟩;exact⟨F,B,_,.mrk b,B.se,_,_,rfl,hF,hB,hT,rfl,q⟩
def vc(T:Txt K mg a):xE P w K mg base (CXE P w) 11 a.q0A a.vy ["self","deed"] (xs4 P w K mg base a):=by
 refine T.q08.okX xaA (λvs H Q E h=>?_) (λcdv A outer s H vs Q E hr h=>?_)
 ·obtain⟨B,f,rfl,_⟩:=h;rfl
 ·refine oG λ_ Z=>?_;obtain⟨B,f,rfl,h⟩:=h;apply Z;have nd:=xaA.nd;refine⟨_,(xk (xkD (i:=2) ⟨rfl,rfl,rfl⟩ T.q4f (by rfl) T.xcB T.q3r (xhD T) hr.m T.xev (by rfl) T.xcB nd rfl rfl (λ_ _=>(xk (xv (xnu (P:=P) (w:=w) (K:=K) (mg:=mg) (base:=base) (k:=10) 1 ⟨rfl,rfl,rfl⟩ hr.m rfl rfl rfl rfl rfl)))) (λ_ _ _ _ ep=>(xrX (K:=K) rfl (cv 0) yO rfl)) (λ_ _ _ _ ep=>(xa (xfM (K:=K) rfl ep (by exact λ_ z=>aI _ z) (cv 2) rfl) xc)))),?_⟩;refine⟨f,rfl,?_⟩;refine h _ λcls dx H1 hf=>?_;refine oG λ_ Z=>?_;obtain⟨F,s1,d,c,rfl,rfl,hd,kP,k⟩:=hf;apply Z;refine⟨a.q0d,rfl,T.q2m,λae kT=>?_⟩;refine⟨B.bd,_,B.dx,_,rfl,kP.bd,T.q0a,T.q0q,by walk_at"few",?_⟩;rw[xnS];have kR:d≠B.bd:=λz=>by rw[z,kP.bd]at hd;cases hd
  have hd2:upd H1 B.bd (.ins a.q0b B.dx (bdF B s1.size .non)) d=some (.xd [("count",.int c)]):=by rw[xm kR];exact hd
  have kS:=kP.rune (r:=none);have k2:Kp (BF F B) H1 (upd H1 B.bd (.ins a.q0b B.dx (bdF B s1.size (vX none)))):=xhK (Kp.of (xj.refl _));refine⟨_,d,_,.int c,rfl,rfl,rfl,hd2,T.q4b,T.xfm,T.q1z,rfl,?_⟩;refine⟨.int c,rfl,λd' kQ=>?_⟩;exact k d' _ (k2.trans (Kp.of (xj.new kQ))) (kS.same (xj.new kQ)) xp
theorem vd(T:Txt K mg a):xE P w K mg base (CXE P w) 1 a.q0y a.vw ["self"] (xrW a):=by
 refine T.q06.okX xay (λvs H Q E h=>?_) (λcdv A outer s H vs Q E hr h=>?_)
 ·obtain⟨F,B,s,rfl,_⟩:=h;rfl
 ·refine oG λ_ Z=>?_;obtain⟨F,B,st,rfl,hB,q1,q2⟩:=h;apply Z;have nd:=xay.nd;refine⟨_,(xk (xS (xbe (xB (cv 0) rfl)) (xk (xaV ⟨rfl,rfl,rfl⟩ rfl T.q5C (by rfl) T.xs1 (xa xH xc))) xF)),?_⟩;exists⟨B.bd,_,B.dx,_,vX st.run,rfl,hB.bd,T.q0a,T.q0q,rfl,?_⟩;cases kP:st.run with
  |none=>
   walk_at"Y";exact⟨by decide,q2 kP _ (xj.refl _)⟩
  |some b=>
   walk_at"N";exact q1 (by rw[kP];simp)
structure PJ(K:aq)(H:Hp)(p:Addr)(o n:Int)(rs:List xq):Prop where
 at':yE K H p o n rs
 ho:0<=o/\o<=300
 hn:0<=n/\n<=300
 few:rs.length<=300
 ok:∀r∈rs,r.ok/\Fit o n r
 tw:jD rs=none
def jF(rs:List xq)(n:Int):Option (List V):=match vf rs n.toNat with
 |some c=>some [.str "lacks",.int c]
 |none=>match xaD rs with
  |some (k,c)=>some [.str "late",.int k,.int c]
  |none=>none
theorem xr1(h1:jF rs n=none->∀H',xj H H'->Q .non H')(h2:∀xs,jF rs n=some xs->∀t H',xj H H'->H' t=some (.tup xs)->Q (.ref t) H'):xk6 H Q rs n:=by
 unfold jF at h1 h2;unfold xk6;cases hl:vf rs n.toNat with
 |some c=>
  rw[hl]at h2;exact λt H' s e=>h2 _ rfl t H' s e
 |none=>
  rw[hl]at h1 h2;cases ht:xaD rs with
  |none=>rw[ht]at h1;exact λH' s=>h1 rfl H' s
  |some kc=>rw[ht]at h2;exact λt H' s e=>h2 _ rfl t H' s e
noncomputable def xdN(s:BdS)(o:Int):Bool:=decide (s.mark (!s.mr)=("open":Str))||decide (o=0)||(decide (s.mark (!s.mr)=("good":Str))&&decide (s.len (!s.mr)=o))
def vB(s:BdS)(o n:Int):Bool:=decide (s.size<max o n)|| !xdN s o
def xpb(K:aq)(a:Adr):Sp:=λvs H Q E=>Ex7 λ(F:FM) (B:BA) (s:BdS) (p:Addr) (o n:Int) (rs:List xq)=>vs=[.ref B.bd,.ref p]/\xA a F H B s/\PJ K H p o n rs/\
 (s.mark (!s.mr)=("trial":Str)->∀H',xj H H'->E (.ref a.q0K) none H')/\
 (s.mark (!s.mr)≠("trial":Str)->(∀xs,jF rs n=some xs->∀(d t:Addr) (H':Hp),xj H H'->H' d=some (.xd [("fault",.ref t)])->H' t=some (.tup xs)->E (.ref a.q0e) (some d) H')/\
  (jF rs n=none->(vB s o n=true->∀H',xj H H'->E (.ref a.q0i) none H')/\(vB s o n=false->∀H',xj H H'->Q .non H')))
inductive xjC(P:aH)(w:World)(K:aq)(mg:Str->Option Value)(base:Heap)(a:Adr)(vs:List V)(H:Hp)(Q:VK)(E:XK):Prop
 |mk (F:FM) (B:BA) (s:BdS) (p:Addr) (o n:Int) (rs:List xq) (total tries:Int):(vs=[.ref B.bd,.ref p,.int total,.int tries])->ua P w K mg base F->(xA a F H B s)->(Tbs H)->(PJ K H p o n rs)->
  (s.run=none->∀H',xj H H'->E (.ref a.q1N) none H')->(s.run≠none->s.mark (!s.mr)=("trial":Str)->∀H',xj H H'->E (.ref a.q0K) none H')->
  (s.run≠none->s.mark (!s.mr)≠("trial":Str)->∀xs,jF rs n=some xs->∀(d t:Addr) (H':Hp),xj H H'->H' d=some (.xd [("fault",.ref t)])->H' t=some (.tup xs)->E (.ref a.q0e) (some d) H')->
  (s.run≠none->s.mark (!s.mr)≠("trial":Str)->jF rs n=none->vB s o n=true->∀H',xj H H'->E (.ref a.q0i) none H')->
  (s.run≠none->s.mark (!s.mr)≠("trial":Str)->jF rs n=none->vB s o n=false->∃first,zB s first/\xds K H p o n rs/\(∀x∈xP rs,yA (s.cells (!s.mr)).length x)/\(s.cells (!s.mr)).length=s.size/\xV a F H B (xaF s.run (xD F s (yr s rs first n total tries))) (Q (.bl (decide (((ja s rs first).take n.toNat).sum=total)))) E)->xjC P w K mg base a vs H Q E
def xpc(P:aH)(w:World)(K:aq)(mg:Str->Option Value)(base:Heap)(a:Adr):Sp:=xjC P w K mg base a
def xr2(P:aH)(w:World)(K:aq)(mg:Str->Option Value)(base:Heap)(a:Adr):Sp:=λvs H Q E=>Ex3 λ(F:FM) (B:BA) (s:BdS)=>vs=[.ref B.bd]/\ua P w K mg base F/\xA a F H B s/\Tbs H/\(s.run=none->∀H',xj H H'->E (.ref a.q1N) none H')/\
 (s.run≠none->¬(s.run=some (!s.mr)/\s.mark (!s.mr)=("trial":Str))->∀H',xj H H'->E (.ref a.q0R) none H')/\
 (s.run=some (!s.mr)->s.mark (!s.mr)=("trial":Str)->xV a F H B (xaF s.run (xD F s [.mark (!s.mr) "good",.mrk (!s.mr)])) (Q .non) E)
def xpd(P:aH)(w:World)(K:aq)(mg:Str->Option Value)(base:Heap)(a:Adr):Sp:=λvs H Q E=>Ex3 λ(F:FM) (B:BA) (s:BdS)=>vs=[.ref B.bd]/\ua P w K mg base F/\xA a F H B s/\Tbs H/\(s.run=none->∀H',xj H H'->E (.ref a.q1N) none H')/\
 (s.run≠none->s.mark (!s.mr)≠("good":Str)->∀H',xj H H'->E (.ref a.q0w) none H')/\
 (s.run≠none->s.mark (!s.mr)=("good":Str)->xV a F H B (xaF none (xD F s [.mrk (!s.mr)])) (Q .non) E)
def xjD:({(xD F s ys).1 with run:=s.run}:BdS)=(xD F s ys).1:=by
 rw[<-(xen (F:=F) ys s).2]
def xiL(T:Txt K mg a):xE P w K mg base CX0 1 a.q1G a.xbB ["self","fault"] (xcd a.q0e "fault"):=by
 refine T.q2o.ok xdB (λvs H Q E h=>?_) (λcdv A outer s H vs Q E hr h=>?_)
 ·obtain⟨p,v,rfl,_⟩:=h;rfl
 ·refine oG λ_ Z=>?_;obtain⟨p,v,rfl,hp,k⟩:=h;apply Z;have nd:=xdB.nd;refine⟨_,(xk (xim (cv 0) (cv 1) rfl)),?_⟩;refine⟨p,_,_,rfl,hp,T.q4c,T.q3d,λd h1 h2=>?_⟩;exact k d h1 h2
theorem xdO(T:Txt K mg a):xE P w K mg base (CXE P w) 9 a.q0t a.uZ ["self","paper"] (xpb K a):=by
 refine T.q0Z.okX xab (λvs H Q E h=>?_) (λcdv A outer s H vs Q E hr h=>?_)
 ·obtain⟨F,B,s,p,o,n,rs,rfl,_⟩:=h;rfl
 ·refine oG λ_ Z=>?_;obtain⟨F,B,st,p,o,n,rs,rfl,hB,hJ,q1,q2⟩:=h;apply Z;have nd:=xab.nd;refine⟨_,(xf (xC (i:=2) nd rfl (az rfl) (xO (cv 0) T.q0a T.q0L (zd T) hr.m T.zw .nil xt))
  (xf (xS (xN xbT (xM yx (xB (cv 0) rfl) (cv 2) (λ_ _=>rfl)) xH) (xk (xaV ⟨rfl,rfl,rfl⟩ rfl T.q4W (by rfl) T.xoW (xa xH xc))) xF)
  (xf (xC (i:=3) nd rfl (az rfl) (xy (xqe T) hr.m (by rfl) T.xrC T.q3X.kp T.xrB .nil xt (xa (cv 1) xc)))
  (xf (xS (xfL (cv 3)) (xk (xjt (k:=1) ⟨rfl,rfl,rfl⟩ rfl T.q4c (xiL T) hr.m T.xjN (by rfl) T.xkS (xa (cv 3) xc))) xF)
  (xf (xS (xN xc7 (xI (xkq rfl) (by rfl) T.q4Z xg7 (xa (xM xT (cv 1) xg (λ_ _=>rfl)) (xa (xM xT (cv 1) xg (λ_ _=>rfl)) xc))) (xB (cv 0) rfl)) (xk (xaV ⟨rfl,rfl,rfl⟩ rfl T.q4Y (by rfl) T.xiA (xa xH xc))) xF)
  (xk (xS (xb7 (ur (za (cv 0) T.q0a T.q28 (xem T) hr.m T.xeR .nil xt (xa (cv 2) (xa (xM xT (cv 1) xg (λ_ _=>rfl)) xc))))) (xk (xaV ⟨rfl,rfl,rfl⟩ rfl T.q4Y (by rfl) T.xiA (xa xH xc))) xF))))))),?_⟩
  have kQ:atI [V.str (st.mark false),V.str (st.mark true)] (bI (!st.mr))=some (.str (st.mark (!st.mr))):=by cases st.mr<;> rfl
  refine⟨B.bd,B.dx,_,rfl,hB.bd,rfl,?_⟩;refine⟨F,B,st,rfl,hB,?_⟩;refine⟨B.bd,_,B.dx,_,.ref B.ma,rfl,hB.bd,T.q0a,T.q0j,rfl,?_⟩;refine⟨B.ma,_,_,_,rfl,rfl,SqL.of hB.ma,kQ,?_⟩;refine⟨λc=>?_,λc=>?_⟩
  ·exact⟨by decide,q1 (of_decide_eq_true c) H (xj.refl _)⟩
  obtain⟨q6,q7⟩:=q2 (of_decide_eq_false c);refine⟨p,o,n,rs,rfl,hJ.at',hJ.ho,hJ.hn,hJ.few,hJ.ok,hJ.tw,xr1 (λhj H1 s1=>?_) (λxs hj t H1 s1 et=>?_)⟩
  rotate_left
  ·walk_at"Y";refine⟨_,rfl,λd hd=>?_⟩;exact q6 xs hj d t _ (s1.trans (xj.new hd)) xp ((xj.new hd).at et)
  obtain⟨q4,q5⟩:=q7 hj;walk_at"N";refine oG λ_ Z=>?_;obtain⟨tt,us,hp,_⟩:=hJ.at'.same s1;apply Z;have kP:=hB.same s1;refine⟨p,_,_,.int o,rfl,rfl,SqT.of hp,rfl,?_⟩;refine⟨p,_,_,.int n,rfl,rfl,SqT.of hp,rfl,?_⟩;refine⟨B.bd,_,B.dx,_,.int st.size,rfl,kP.bd,T.q0a,T.q3C,rfl,?_⟩;refine⟨λc=>?_,λc=>?_⟩
  ·refine⟨by decide,q4 ?_ H1 s1⟩;unfold vB;rw[show decide (st.size<max o n)=true from c];rfl
  have c:decide (st.size<max o n)=false:=c;refine⟨B.bd,B.dx,_,rfl,kP.bd,rfl,?_⟩;refine⟨p,_,_,.int o,rfl,rfl,SqT.of hp,rfl,?_⟩;refine⟨F,B,st,(!st.mr),o,rfl,kP,?_⟩;unfold vB xdN at q4 q5;rw[c,fU]at q4 q5;generalize (decide (st.mark (!st.mr)=("open":Str))||decide (o=0)||(decide (st.mark (!st.mr)=("good":Str))&&decide (st.len (!st.mr)=o)))=bb at q4 q5;cases bb with
  |true=>
   walk_at"N";exact q5 rfl H1 s1
  |false=>
   walk_at"Y";exact⟨by decide,q4 rfl H1 s1⟩
def uz(T:Txt K mg a):xE P w K mg base (CXE P w) 12 a.q0W a.je ["self","paper","total","tries"] (xpc P w K mg base a):=by
 refine T.jg.okXK ["paper","self","total","tries"] T.xhv xcV (λvs H Q E h=>?_) (λA outer s H vs Q E hr h=>?_)
 ·obtain⟨F,B,s,p,o,n,rs,total,tries,rfl,_⟩:=h;rfl
 ·refine oG λ_ Z=>?_;obtain⟨F,B,st,p,o,n,rs,total,tries,rfl,hF,hB,hT,hJ,q1,q2,q6,q4,q5⟩:=h;apply Z;have nd:=xcV.nd;refine⟨_,(yF (x:="paper") (i:=1) nd rfl rfl rfl (by kernel_rfl) (yF (x:="self") (i:=0) nd rfl rfl rfl (by kernel_rfl) (yF (x:="total") (i:=2) nd rfl rfl rfl (by kernel_rfl) (yF (x:="tries") (i:=3) nd rfl rfl rfl (by kernel_rfl) (xf (xK (xbh ⟨rfl,rfl,rfl⟩ (cv 0) T.q0a T.q1A (vd T) hr.m T.vz .nil))
  (xf (xK (ye ⟨rfl,rfl,rfl⟩ (cv 0) T.q0a T.q21 (xdO T) hr.m T.xec .nil (xa (cv 1) xc)))
  (xk (xv (ye ⟨rfl,rfl,rfl⟩ (cv 0) T.q0a T.q1B (vc T) hr.m T.vA .nil (xa (zP (c:=q0F) (P:=zk) (qs:=vF) (fns:=["paper","self","total","tries"]) rfl T.q3M (q:="Board.update.<locals>.<lambda>") (by kernel_rfl) (.head _) (by kernel_rfl) (by kernel_rfl)) xc)))))))))),?_⟩
  left;intro a1 e1 z1 d1;refine aY z1 ?_;refine gnr (upd H a1 _) λH1 kR=>?_;have s1:=xj.of_eq z1 kR;have c1:=xU kR;left;intro a2 e2 z2 d2;have lr:a1≠a2:=d2 _ _ e1 (by decide);have y2:H1 a2=none:=by rw[<-kR,xm (au lr)];exact z2
  refine aY y2 ?_;refine gnr (upd H1 a2 _) λH2 kS=>?_;have s2:=xj.of_eq y2 kS;have c2:=xU kS;left;intro a3 e3 z3 d3;have lq:a1≠a3:=d3 _ _ e1 (by decide);have ll:a2≠a3:=d3 _ _ e2 (by decide);have y3:H2 a3=none:=by rw[<-kS,xm (au ll),<-kR,xm (au lq)];exact z3
  refine aY y3 ?_;refine gnr (upd H2 a3 _) λH3 kX=>?_;have s3:=xj.of_eq y3 kX;have c3:=xU kX;left;intro a4 e4 z4 d4;have lp:a1≠a4:=d4 _ _ e1 (by decide);have lh:a2≠a4:=d4 _ _ e2 (by decide);have lg:a3≠a4:=d4 _ _ e3 (by decide);have y4:H3 a4=none:=by rw[<-kX,xm (au lg),<-kS,xm (au lh),<-kR,xm (au lp)];exact z4
  refine aY y4 ?_;refine gnr (upd H3 a4 _) λH4 kZ=>?_;have s4:=xj.of_eq y4 kZ;have c4:=xU kZ;clear kR kS kX kZ;have kQ:=s1.trans (s2.trans (s3.trans s4));have kT:=hB.same kQ;have lA:PJ K H4 p o n rs:=⟨hJ.at'.same kQ,hJ.ho,hJ.hn,hJ.few,hJ.ok,hJ.tw⟩;refine⟨B.bd,B.dx,_,rfl,kT.bd,rfl,?_⟩;refine⟨F,B,st,rfl,kT,λkP=>?_,λkP H' s'=>?_⟩
  rotate_left
  ·exact q1 kP H' (kQ.trans s')
  refine⟨B.bd,B.dx,_,rfl,kT.bd,rfl,?_⟩;refine⟨F,B,st,p,o,n,rs,rfl,kT,lA,λht H' s'=>q2 kP ht H' (kQ.trans s'),λht=>⟨λxs hx d t H' s' ed et=>q6 kP ht xs hx d t H' (kQ.trans s') ed et,λhj=>⟨λhf H' s'=>q4 kP ht hj hf H' (kQ.trans s'),λhf H5 s5=>?_⟩⟩⟩;refine oG λ_ Z=>?_;obtain⟨first,lz,pg,kY,hsz,q⟩:=q5 kP ht hj hf;apply Z;have lC:max o n<=st.size:=by
   unfold vB at hf;have:=of_decide_eq_false (Bool.or_eq_false_iff.mp hf).1;lia
  have lb:=kQ.trans s5;have la:=s3.trans (s4.trans s5);refine⟨B.bd,B.dx,_,rfl,s5.at kT.bd,rfl,?_⟩;refine⟨(hT.same lb).2.2.2.2.1,[("paper",.ref p),("self",.ref B.bd),("total",.int total),("tries",.int tries)],rfl,(λx v m=>?_),λg H6 hg s6 hc=>?_⟩
  ·simp only[av,dF,aV,or_false]at m;rcases m with⟨rfl,rfl⟩|⟨rfl,rfl⟩|⟨rfl,rfl⟩|⟨rfl,rfl⟩
   ·exact⟨a1,e1,(s2.trans la).at c1⟩
   ·exact⟨a2,e2,la.at c2⟩
   ·exact⟨a3,e3,(s4.trans s5).at c3⟩
   ·exact⟨a4,e4,s5.at c4⟩
  left;have kW:=lb.trans s6;have ly:xds K H6 p o n rs:=pg.kp (L:=[]) (Kp.of kW) (λ_ z=>nomatch z);refine⟨B,g,rfl,λE' hE=>⟨_,_,_,_,_,_,_,_,xrY T,hc,B.bd,p,total,tries,rfl,rfl,F,B,st,p,o,n,rs,total,tries,first,rfl,hF,hB.same kW,hT.same kW,lz,ly,kY,by lia,hJ.hn.1,?_⟩⟩;have q9:=(q.same kW).rof;rw[xjD]at q9;exact q9.imp (λH1 lB k1 e z=>z H1 e k1 lB) hE
theorem xj7(T:Txt K mg a):xE P w K mg base (CXE P w) 12 a.q1v a.xat ["self"] (xr2 P w K mg base a):=by
 refine T.xaw.okXK ["other","self"] T.xjT xeI (λvs H Q E h=>?_) (λA outer s H vs Q E hr h=>?_)
 ·obtain⟨F,B,s,rfl,_⟩:=h;rfl
 ·refine oG λ_ Z=>?_;obtain⟨F,B,st,rfl,hF,hB,hT,q1,q2,q3⟩:=h;apply Z;have nd:=xeI.nd;refine⟨_,(yF (x:="other") (i:=1) nd rfl rfl rfl (by kernel_rfl) (yF (x:="self") (i:=0) nd rfl rfl rfl (by kernel_rfl) (xf (xK (xbh ⟨rfl,rfl,rfl⟩ (cv 0) T.q0a T.q1A (vd T) hr.m T.vz .nil))
  (xf (xaQ (i:=1) nd rfl rfl rfl (by kernel_rfl) (xO (cv 0) T.q0a T.q0L (zd T) hr.m T.zw .nil xt))
  (xf (xS (PW.pt (zq (xN xbS (xB (cv 0) rfl) (cv 1)) (uo (xN xdU (xM yx (xB (cv 0) rfl) (cv 1) (λ_ _=>rfl)) xH)))) (xk (xaV ⟨rfl,rfl,rfl⟩ rfl T.q4V (by rfl) T.xoV (xa xH xc))) xF)
  (xk (xK (ye ⟨rfl,rfl,rfl⟩ (cv 0) T.q0a T.q1B (vc T) hr.m T.vA .nil (xa (zP (c:=q1a) (P:=zY) (qs:=jE) (fns:=["other","self"]) rfl T.q4g (q:="Board.fine.<locals>.<lambda>") (by kernel_rfl) (.head _) (by kernel_rfl) (by kernel_rfl)) xc))))))))),?_⟩
  have lr:atI [V.str (st.mark false),V.str (st.mark true)] (bI (!st.mr))=some (.str (st.mark (!st.mr))):=by cases st.mr<;> rfl
  left;intro a1 e1 z1 d1;refine aY z1 ?_;refine gnr (upd H a1 _) λH1 kS=>?_;have s1:=xj.of_eq z1 kS;have c1:=xU kS;left;intro a2 e2 z2 d2;have lb:a1≠a2:=d2 _ _ e1 (by decide);have y2:H1 a2=none:=by rw[<-kS,xm (au lb)];exact z2
  refine aY y2 ?_;refine gnr (upd H1 a2 _) λH2 la=>?_;have s2:=xj.of_eq y2 la;have c2:=xU la;clear kS la;have kY:=s1.trans s2;have kW:=hB.same kY;refine⟨B.bd,B.dx,_,rfl,kW.bd,rfl,?_⟩;refine⟨F,B,st,rfl,kW,λkP=>?_,λkP H' s'=>?_⟩
  rotate_left
  ·exact q1 kP H' (kY.trans s')
  refine⟨B.bd,B.dx,_,rfl,kW.bd,rfl,?_⟩;refine⟨F,B,st,rfl,kW,?_⟩;refine⟨a1,e1,s2.at c1,?_⟩;refine gnr (upd H2 a1 _) λH3 kR=>?_;have kQ:xj H H3:=by rw[<-kR];exact kY.put z1
  have lq:H3 a1=some (.cel (some (.int (bI (!st.mr))))):=xU kR;have lp:H3 a2=some (.cel (some (.ref B.bd))):=by rw[<-kR,xm (au lb)];exact c2
  clear kR;have kT:=hB.same kQ;obtain⟨r,kZ⟩:∃r,st.run=some r:=by
   cases h:st.run with
   |none=>exact absurd h kP
   |some r=>exact⟨r,rfl⟩
  have lh:H3 B.bd=some (.ins a.q0b B.dx (bdF B st.size (.int (bI r)))):=by have:=kT.bd;rw[kZ]at this;exact this
  have lg:∀x y:Bool,bI x=bI y↔x=y:=by intro x y;cases x<;> cases y<;> decide
  refine⟨B.bd,_,B.dx,_,.int (bI r),rfl,lh,T.q0a,T.q0q,rfl,?_⟩;refine⟨λc=>?_,λc=>?_⟩
  ·walk_at"Y";refine⟨by decide,q2 kP (λz=>?_) H3 kQ⟩;rw[kZ]at z;have e:=(lg r (!st.mr)).mpr (bt z.1);rw[decide_eq_true e]at c;cases c
  have er:r= !st.mr:=(lg _ _).mp (of_decide_eq_true (p:=bI r=bI (!st.mr)) (by rw[<-dq];exact c));refine⟨B.bd,_,B.dx,_,.ref B.ma,rfl,kT.bd,T.q0a,T.q0j,rfl,?_⟩;refine⟨B.ma,_,_,_,rfl,rfl,SqL.of kT.ma,lr,?_⟩;refine⟨λc2=>?_,λc2=>?_⟩
  ·refine⟨by decide,q2 kP (λz=>?_) H3 kQ⟩;rw[show bE "trial"=("trial":Str)from rfl,decide_eq_true z.2]at c2;cases c2
  have et:st.mark (!st.mr)=("trial":Str):=of_decide_eq_true (p:=st.mark (!st.mr)=bE "trial") (by rw[<-dq];exact c2);refine⟨B.bd,B.dx,_,rfl,kT.bd,rfl,?_⟩;refine⟨(hT.same kQ).2.2.2.2.2.1,[("other",.int (bI (!st.mr))),("self",.ref B.bd)],rfl,(λx v m=>?_),λg H6 hg s6 hc=>?_⟩
  ·simp only[av,dF,aV,or_false]at m;rcases m with⟨rfl,rfl⟩|⟨rfl,rfl⟩
   ·exact⟨a1,e1,lq⟩
   ·exact⟨a2,e2,lp⟩
  left;have kX:=kQ.trans s6;refine⟨B,g,rfl,λE' hE=>⟨_,_,_,_,_,_,_,_,yV.mono (xrZ T) (by decide),hc,B.bd,bI (!st.mr),rfl,rfl,F,B,st,(!st.mr),rfl,hF,hB.same kX,hT.same kX,?_⟩⟩;have q9:=((q3 (by rw[kZ,er]) et).same kX).rof;rw[xjD]at q9;exact q9.imp (λH1 ll k1 e z=>z H1 e k1 ll) hE
def xgH(T:Txt K mg a):xE P w K mg base (CXE P w) 12 a.q0M a.vH ["self"] (xpd P w K mg base a):=by
 refine T.vI.okXK ["other","self"] T.xgx xcH (λvs H Q E h=>?_) (λA outer s H vs Q E hr h=>?_)
 ·obtain⟨F,B,s,rfl,_⟩:=h;rfl
 ·refine oG λ_ Z=>?_;obtain⟨F,B,st,rfl,hF,hB,hT,q1,q2,q3⟩:=h;apply Z;have nd:=xcH.nd;refine⟨_,(yF (x:="other") (i:=1) nd rfl rfl rfl (by kernel_rfl) (yF (x:="self") (i:=0) nd rfl rfl rfl (by kernel_rfl) (xf (xK (xbh ⟨rfl,rfl,rfl⟩ (cv 0) T.q0a T.q1A (vd T) hr.m T.vz .nil))
  (xf (xaQ (i:=1) nd rfl rfl rfl (by kernel_rfl) (xO (cv 0) T.q0a T.q0L (zd T) hr.m T.zw .nil xt))
  (xf (xS (xN xdU (xM yx (xB (cv 0) rfl) (cv 1) (λ_ _=>rfl)) xH) (xk (xaV ⟨rfl,rfl,rfl⟩ rfl T.q4G (by rfl) T.xl7 (xa xH xc))) xF)
  (xf (xK (ye ⟨rfl,rfl,rfl⟩ (cv 0) T.q0a T.q1B (vc T) hr.m T.vA .nil (xa (zP (c:=q0D) (P:=yX) (qs:=uX) (fns:=["other","self"]) rfl T.q3F (q:="Board.go_back.<locals>.<lambda>") (by kernel_rfl) (.head _) (by kernel_rfl) (by kernel_rfl)) xc)))
  (xk (yC (cv 0) yO rfl)))))))),?_⟩
  have ll:atI [V.str (st.mark false),V.str (st.mark true)] (bI (!st.mr))=some (.str (st.mark (!st.mr))):=by cases st.mr<;> rfl
  left;intro a1 e1 z1 d1;refine aY z1 ?_;refine gnr (upd H a1 _) λH1 kS=>?_;have s1:=xj.of_eq z1 kS;have c1:=xU kS;left;intro a2 e2 z2 d2;have la:a1≠a2:=d2 _ _ e1 (by decide);have y2:H1 a2=none:=by rw[<-kS,xm (au la)];exact z2
  refine aY y2 ?_;refine gnr (upd H1 a2 _) λH2 kY=>?_;have s2:=xj.of_eq y2 kY;have c2:=xU kY;clear kS kY;have kX:=s1.trans s2;have kT:=hB.same kX;refine⟨B.bd,B.dx,_,rfl,kT.bd,rfl,?_⟩;refine⟨F,B,st,rfl,kT,λkP=>?_,λkP H' s'=>?_⟩
  rotate_left
  ·exact q1 kP H' (kX.trans s')
  refine⟨B.bd,B.dx,_,rfl,kT.bd,rfl,?_⟩;refine⟨F,B,st,rfl,kT,?_⟩;refine⟨a1,e1,s2.at c1,?_⟩;refine gnr (upd H2 a1 _) λH3 kR=>?_;have kQ:xj H H3:=by rw[<-kR];exact kX.put z1
  have lh:H3 a1=some (.cel (some (.int (bI (!st.mr))))):=xU kR;have lg:H3 a2=some (.cel (some (.ref B.bd))):=by rw[<-kR,xm (au la)];exact c2
  clear kR;have kZ:=hB.same kQ;refine⟨B.bd,_,B.dx,_,.ref B.ma,rfl,kZ.bd,T.q0a,T.q0j,rfl,?_⟩;refine⟨B.ma,_,_,_,rfl,rfl,SqL.of kZ.ma,ll,?_⟩;refine⟨λc=>?_,λc=>?_⟩
  ·refine⟨by decide,q2 kP (λz=>?_) H3 kQ⟩;rw[show bE "good"=("good":Str)from rfl,decide_eq_true z]at c;cases c
  have et:st.mark (!st.mr)=("good":Str):=of_decide_eq_true (p:=st.mark (!st.mr)=bE "good") (by rw[<-dq];exact c);refine⟨B.bd,B.dx,_,rfl,kZ.bd,rfl,?_⟩;refine⟨(hT.same kQ).2.2.2.2.2.2,[("other",.int (bI (!st.mr))),("self",.ref B.bd)],rfl,(λx v m=>?_),λg H6 hg s6 hc=>?_⟩
  ·simp only[av,dF,aV,or_false]at m;rcases m with⟨rfl,rfl⟩|⟨rfl,rfl⟩
   ·exact⟨a1,e1,lh⟩
   ·exact⟨a2,e2,lg⟩
  left;have kW:=kQ.trans s6;refine⟨B,g,rfl,λE' hE=>⟨_,_,_,_,_,_,_,_,yV.mono (xr0 T) (by decide),hc,F,B,st,(!st.mr),rfl,rfl,hF,hB.same kW,hT.same kW,?_⟩⟩;have q9:=((q3 kP et).same kW).rof;refine q9.imp (λH1 lb k1 e z=>?_) hE;refine⟨B.bd,_,B.dx,_,rfl,lb.bd,T.q0a,T.q0q,by walk_at"few",?_⟩;rw[xnS];exact z _ e (xhK k1) (lb.rune (r:=none))
section
def xnT(a:Adr):Sp:=λvs H Q _=>Ex6 λ(l p dp:Addr) (cells:List Int) (n:Int) (fl:V)=>vs=[.ref l,.ref p]/\H l=some (.lst (cells.map V.int))/\H p=some (.ins a.q0k dp (zN n fl))/\
 ∀(S:SA) (H':Hp),S.p=p->S.dp=dp->xj H H'->H S.st=none->H S.ca=none->H S.na=none->ug a H' S cells [some 0,some 0] n fl->Q (.ref S.st) H'
def xc1{x y z:Addr}{o o':HO}(h:upd (upd H x o) y o' z=none):z≠y/\z≠x/\H z=none:=by
 have n1:z≠y:=λe=>by rw[e,xp]at h;cases h
 rw[xm n1]at h;have n2:z≠x:=λe=>by rw[e,xp]at h;cases h
 rw[xm n2]at h;exact⟨n1,n2,h⟩
def xhS(T:Txt K mg a):xE P w K mg base CX0 5 a.q3h a.xfc ["cells","pen"] (xnT a):=by
 refine T.q23.ok xhA (λvs H Q E h=>?_) (λcdv A outer s H vs Q E hr h=>?_)
 ·obtain⟨l,p,dp,cells,n,fl,rfl,_⟩:=h;rfl
 ·refine oG λ_ Z=>?_;obtain⟨l,p,dp,cells,n,fl,rfl,hl,hp,q⟩:=h;apply Z;have nd:=xhA.nd;refine⟨_,(xf (xC (i:=2) nd rfl (az rfl) (xaM (dvs:=[.non]) T.q44 (xjZ T) hr.m (by rfl) T.xrF T.xbI (.cons rfl .nil) xt (xa (cv 0) xc)))
  (xf (yC (cv 2) (cv 1) rfl)
  (xk (xv (cv 2))))),?_⟩
  left;intro st dx kP kR ne;have up:∀{b:Addr} {u:HO},H b=some u->upd (upd H dx (.own st)) st (.ins a.q0f dx []) b=some u:=λe=>by rw[xm (xG e kP),xm (xG e kR)];exact e
  refine⟨st,dx,l,cells,.non,rfl,xp,up hl,λS H1 e1 k1 hS f1 f2 f3=>⟨rfl,?_⟩⟩;have s1:xj H H1:=λb u e=>k1 b u (up e) (by simp;exact xG e kP);refine oG λ_ Z=>?_;obtain⟨g1,g2,g3⟩:=xc1 f1;obtain⟨g4,g5,g6⟩:=xc1 f2;apply Z;refine⟨st,_,S.dx,_,rfl,by rw[<-e1];exact hS.st,T.q0m,T.q2l,by walk_at"few",?_⟩;left;have kQ:p≠st:=xG hp kP;refine q ⟨st,S.dx,S.ca,S.na,p,dp⟩ _ rfl rfl (s1.put kP) kP g3 g6 ⟨?_,?_,?_,?_,hS.ne,kQ⟩
  ·rw[xp];rfl
  ·show upd H1 st _ S.ca=_;rw[xm g1];exact hS.ca
  ·show upd H1 st _ S.na=_;rw[xm g4];exact hS.na
  ·show upd H1 st _ p=_;rw[xm kQ];exact s1.at hp
noncomputable def bd0(text:List Int)(size:Int)(k:Int):BdS where
 size:=size
 cells:=λb=>if b then ao size.toNat 0 else text++ao (size - text.length).toNat 0
 notes:=λ_=>[some 0,some 0]
 len:=λb=>if b then 0 else text.length
 mark:=λb=>if b then"bad" else"good"
 mr:=false
 ct:=0
 run:=none
 cnt:=k
 fl:=0
def xqq(K:aq)(a:Adr):Sp:=λvs H Q E=>Ex6 λ(F:FM) (bd dx l:Addr) (text:List Int) (size:Int)=>vs=[.ref bd,.ref l,.int size,.ref F.f]/\H bd=some (.ins a.q0b dx [])/\H l=some (.lst (text.map V.int))/\text.length<=1000/\size<=1000/\text.length<=size/\F.At H 0 0/\bd∉F.M/\
 ∀(B:BA) (H':Hp),B.bd=bd->Kp [bd] H H'->(∀y∈BS B,y=bd\/H y=none)->xA a F H' B (bd0 text size 0)->Q .non H'
noncomputable section
abbrev xeO(P:aH)(w:World)(K:aq)(mg:Str->Option Value)(base:Heap)(a:Adr)(A:bo)(outer:List Env)(s:ak)(H:Hp)(E:XK)(cdv:Value):Cx:=(uQ CX0 P w K mg base ["self","text","size","fall"] "Board.__init__" (xh yS) a.q0Q cdv A outer s H E).nox
variable (T:Txt K mg a) (A:bo) (outer:List Env) (s:ak) (H:Hp) (E:XK) (cdv:Value) (hr:ya 5 (A.deeper (cV "Board.__init__" (xh yS) s.heap.objs.size a.q0Q cdv)))
def xhT:RD:=⟨_,xeO P w K mg base a A outer s H E cdv,(xr yS).drop 3,(xf (yC (cv 0) (xX (xa (xy (xhS T) hr.m (by rfl) T.xjw T.q23.kp T.xjv .nil xt (xa (xx xon (xW zu (by rfl) T.q2n zS (xa (cv 1) xc)) (xx xgW (xX (xa xg xc)) (xx jc (cv 2) (xI xQ (by rfl) T.q0O yu (xa (cv 1) xc))))) (xa (xB (cv 0) rfl) xc))) (xa (xy (xhS T) hr.m (by rfl) T.xjw T.q23.kp T.xjv .nil xt (xa (xx xgW (xX (xa xg xc)) (cv 2)) (xa (xB (cv 0) rfl) xc))) xc))) rfl)
  (xf (yC (cv 0) (xX (xa (xI xQ (by rfl) T.q0O yu (xa (cv 1) xc)) (xa xg xc))) rfl)
  (xf (yC (cv 0) (xX (xa xH (xa xH xc))) rfl)
  (xf (yC (cv 0) (xrd (xkn xH xg (xkn xH xg xrc)) rfl rfl (by simp) (by decide)) rfl)
  (xk (yC (cv 0) yO rfl))))))⟩
def xhU:RD:=⟨_,xeO P w K mg base a A outer s H E cdv,(xr yS).drop 1,(xf (yC (cv 0) (xaM T.q49 (xge T) hr.m (by rfl) T.xqS T.xhu .nil xt (xa (cv 3) xc)) rfl)
  (xf (yC (cv 0) (cv 2) rfl)
  (RD.h (xhT T _ _ _ _ _ _ hr))))⟩
end
theorem xeP(T:Txt K mg a):xE P w K mg base CX0 6 a.q0Q a.xas ["self","text","size","fall"] (xqq K a):=by
 refine T.vT.ok xeH (λvs H Q E h=>?_) (λcdv A outer s H vs Q E hr h=>?_)
 ·obtain⟨F,bd,dx,l,text,size,rfl,_⟩:=h;rfl
 ·refine oG λ_ Z=>?_;obtain⟨F,bd,dx,l,text,size,rfl,lZ,hl,ht,hs,nB,mL,mK,q2⟩:=h;apply Z;have nd:=xeH.nd;refine⟨_,(xf (xS (xN xc7 (xI xQ (by rfl) T.q0O yu (xa (cv 1) xc)) (cv 2)) (xk xdA) xF)
  (RD.h (xhU T _ _ _ _ _ _ hr))),?_⟩
  refine⟨l,_,rfl,.inl (SqL.of hl),?_⟩;rw[ag];refine⟨λc=>absurd (of_decide_eq_true c) (by show¬size<(text.length:Int);lia),λc=>?_⟩;left;intro pp pd lY mJ nz;have up:∀{b:Addr} {u:HO},H b=some u->upd (upd H pd (.own pp)) pp (.ins a.q0k pd []) b=some u:=λe=>by rw[xm (xG e lY),xm (xG e mJ)];exact e
  refine⟨pp,pd,.ref F.f,rfl,xp,rfl,?_⟩;rw[uh];refine gnr (upd (upd H pd (.own pp)) pp _) λH1 mz=>?_;have s1:xj H H1:=by
   rw[<-mz];exact λb u e=>by rw[xm (xG e lY),xm (xG e mJ)];exact e
  have m7:H1 pp=some (.ins a.q0k pd (zN 0 (.ref F.f))):=by rw[<-mz,xp]
  clear mz up;refine⟨bd,_,dx,_,rfl,s1.at lZ,T.q0a,T.q2Z,by walk_at"few",?_⟩;refine⟨bd,_,dx,_,rfl,xp,T.q0a,T.q3C,by walk_at"few",?_⟩;rw[uh];have lR:bd≠pp:=xG lZ lY;refine gnr (upd H1 bd _) λH2 l7=>?_;have k2:Kp [bd] H H2:=by rw[<-l7];exact(Kp.of s1).wr (by simp)
  have kT:H2 bd=some (.ins a.q0b dx [("pen",.ref pp),("size",.int size)]):=by rw[<-l7,xp];rfl
  have l9:H2 pp=some (.ins a.q0k pd (zN 0 (.ref F.f))):=by rw[<-l7,xm (au lR)];exact m7
  clear l7;have mI:l≠bd:=λz=>by rw[z,lZ]at hl;cases hl
  have mq:H2 l=some (.lst (text.map V.int)):=k2 _ _ hl (by simp[mI]);refine⟨l,_,rfl,.inl (SqL.of mq),?_⟩;exists λc1 mY=>xw (upd H2 c1 _) rfl mY λH3 mG nv=>?_;walk_at"ss";refine λc2 mX=>xw (upd H3 c2 _) rfl mX λH4 mh nr=>?_;refine⟨l,_,rfl,.inl (SqL.of ((mG.trans mh).at mq)),?_⟩;rw[ag];refine⟨c2,size - text.length,_,rfl,rfl,nr,by lia,by lia,(by show 1*_<=_;rw[aZ];lia),?_⟩;refine λc3 mW=>xw (upd H4 c3 _) rfl mW λH5 mF nq=>?_;refine⟨c1,c3,_,_,rfl,rfl,(mh.trans mF).at nv,nq,(by simp[aZ];lia),?_⟩;exists λc4 mV=>xw (upd H5 c4 _) rfl mV λH6 mS nj=>?_;have lb:=mG.trans (mh.trans (mF.trans mS));exists⟨bd,_,dx,_,.ref pp,rfl,lb.at kT,T.q0a,T.q2Z,rfl,?_⟩;have mC:H6 c4=some (.lst ((text++ao (size - text.length).toNat 0).map V.int)):=by rw[nj];simp
  exists⟨c4,pp,pd,_,0,_,rfl,mC,lb.at l9,λS0 H7 e1 e2 s7 f1 f2 f3 lC=>?_⟩;walk_at"ss";refine λc5 mU=>xw (upd H7 c5 _) rfl mU λH8 lA nh=>?_;refine⟨c5,size,_,rfl,rfl,nh,by lia,by lia,(by show 1*_<=_;rw[aZ];lia),?_⟩;exists λc6 mT=>xw (upd H8 c6 _) rfl mT λH9 lz ng=>?_;have kZ:=lb.trans (s7.trans (lA.trans lz));exists⟨bd,_,dx,_,.ref pp,rfl,kZ.at kT,T.q0a,T.q2Z,rfl,?_⟩;have mB:H9 c6=some (.lst ((ao size.toNat (0:Int)).map V.int)):=by rw[ng];simp
  exists⟨c6,pp,pd,_,0,_,rfl,mB,kZ.at l9,λS1 ny g1 g2 lQ h1 h2 h3 l8=>?_⟩;walk_at"ss";exists λbl lB=>xw (upd ny bl _) rfl lB λlP lh md=>?_;have kP:=kZ.trans (lQ.trans lh);have kR:=lC.same (lA.trans (lz.trans (lQ.trans lh)));have kQ:=l8.same lh;refine⟨bd,_,dx,_,rfl,kP.at kT,T.q0a,T.q2Y,by walk_at"few",?_⟩;refine gnr (upd lP bd _) λlE ly=>?_;have lX:Kp [bd] lP lE:=by rw[<-ly];exact(Kp.of (xj.refl _)).wr (by simp)
  have lN:lE bd=some (.ins a.q0b dx [("pen",.ref pp),("size",.int size),("banks",.ref bl)]):=by rw[<-ly,xp];rfl
  clear ly;have mw:lE l=some (.lst (text.map V.int)):=lX _ _ (kP.at mq) (by simp[mI]);refine⟨l,_,rfl,.inl (SqL.of mw),?_⟩;rw[ag];right;refine λle hle=>xw (upd lE le _) rfl hle λmR kY m9=>?_;refine⟨bd,_,dx,_,rfl,kY.at lN,T.q0a,T.q1k,by walk_at"few",?_⟩;refine gnr (upd mR bd _) λlD lr=>?_;have lW:Kp [bd] mR lD:=by rw[<-lr];exact(Kp.of (xj.refl _)).wr (by simp)
  have lM:lD bd=some (.ins a.q0b dx [("pen",.ref pp),("size",.int size),("banks",.ref bl),("lengths",.ref le)]):=by rw[<-lr,xp];rfl
  clear lr;right;refine λma la=>xw (upd lD ma _) rfl la λmQ kX m8=>?_;refine⟨bd,_,dx,_,rfl,kX.at lM,T.q0a,T.q0j,by walk_at"few",?_⟩;refine gnr (upd mQ bd _) λmf lq=>?_;have lV:Kp [bd] mQ mf:=by rw[<-lq];exact(Kp.of (xj.refl _)).wr (by simp)
  have lL:mf bd=some (.ins a.q0b dx [("pen",.ref pp),("size",.int size),("banks",.ref bl),("lengths",.ref le),("marks",.ref ma)]):=by rw[<-lq,xp];rfl
  clear lq;left;intro se mn;left;refine aY xp ⟨xgE false 0,rfl,by decide,?_⟩;rw[uh,show xdw [] (xgE false 0)=xgE false 0 from by decide];refine gnr (upd mf se _) λmP my=>?_;have kW:=xj.of_eq mn my;have mZ:=xU my;clear my;refine⟨bd,_,dx,_,rfl,kW.at lL,T.q0a,T.q0l,by walk_at"few",?_⟩;refine gnr (upd mP bd _) λme lp=>?_;have lU:Kp [bd] mP me:=by rw[<-lp];exact(Kp.of (xj.refl _)).wr (by simp)
  have mE:me bd=some (.ins a.q0b dx [("pen",.ref pp),("size",.int size),("banks",.ref bl),("lengths",.ref le),("marks",.ref ma),("settings",.ref se)]):=by rw[<-lp,xp];rfl
  clear lp;refine⟨bd,_,dx,_,rfl,mE,T.q0a,T.q0q,by walk_at"few",?_⟩;refine gnr (upd me bd _) λlO ll=>?_;have lT:Kp [bd] me lO:=by rw[<-ll];exact(Kp.of (xj.refl _)).wr (by simp)
  have mD:lO bd=some (.ins a.q0b dx [("pen",.ref pp),("size",.int size),("banks",.ref bl),("lengths",.ref le),("marks",.ref ma),("settings",.ref se),("running",.non)]):=by rw[<-ll,xp];rfl
  clear ll;have nn:∀{G:Hp} {x y:Addr} {u:HO},G x=none->G y=some u->x≠y:=λh1 h2 z=>by rw[z,h2]at h1;cases h1
  have kS:Kp [bd] lP lO:=lX.trans ((Kp.of kY).trans (lW.trans ((Kp.of kX).trans (lV.trans ((Kp.of kW).trans (lU.trans lT))))));have lG:Kp [bd] H2 lO:=(Kp.of kP).trans kS;have n0:S0.st≠bd:=nn f1 (lb.at kT);have n1:S1.st≠bd:=nn h1 (kZ.at kT);have b0:∀{G:Hp} {x:Addr} {xs:List V},G bd=some (.ins a.q0b dx [("pen",.ref pp),("size",.int size)])->G x=some (.lst xs)->x≠bd:=λe1 e2 z=>by rw[z,e1]at e2;cases e2
  have m0:=b0 (kP.at kT) kR.ca;have m1:=b0 (kP.at kT) kR.na;have m2:=b0 (kP.at kT) kQ.ca;have m3:=b0 (kP.at kT) kQ.na;have m4:=b0 (kP.at kT) md;have d0:∀x∈[bd],x≠S0.st/\x≠S0.ca/\x≠S0.na/\x≠S0.p:=λx hx=>by
   rw[aj.mp hx,e1];exact⟨au n0,au m0,au m1,lR⟩
  have d1:∀x∈[bd],x≠S1.st/\x≠S1.ca/\x≠S1.na/\x≠S1.p:=λx hx=>by
   rw[aj.mp hx,g1];exact⟨au n1,au m2,au m3,lR⟩
  have kk:∀{x:Addr} {u:HO},lP x=some u->x≠bd->lE x=some u:=λe n=>lX _ _ e (by simp[n]);have lF:∀{x:Addr} {u:HO},lP x=some u->x≠bd->lD x=some u:=λe n=>lW _ _ (kY.at (kk e n)) (by simp[n]);have lS:le≠bd:=nn hle lN;have mi:ma≠bd:=nn la lM;have mH:se≠bd:=nn mn lL;have lg:lD le=some (.lst [.int text.length,.int 0]):=lW _ _ m9 (by simp[lS]);have lK:=lV _ _ (kX.at lg) (by simp[lS]);have lJ:=lV _ _ m8 (by simp[mi]);have mM:H9 S0.ca=some _:=(lA.trans lz).at lC.ca;have mO:H9 S0.na=some _:=(lA.trans lz).at lC.na;have kb:∀{G:Hp} {y:Addr},Kp [bd] H G->G y=none->y=bd\/H y=none:=λ{G y} k e=>by
   by_cases z:y=bd
   ·exact .inl z
   ·apply Or.inr
    cases hh:H y with
    |none=>rfl
    |some u=>rw[k _ _ hh (by simp[z])]at e;cases e
  have lI:Kp [bd] H lE:=(k2.trans (Kp.of kP)).trans lX;have lH:Kp [bd] H lD:=(lI.trans (Kp.of kY)).trans lW;have mj:Kp [bd] H mf:=(lH.trans (Kp.of kX)).trans lV;have fr:∀y∈[bd,le,ma,se,pp,S0.ca,S0.na,S1.ca,S1.na],y=bd\/H y=none:=λy hy=>by
   simp only[av,aV,or_false]at hy;rcases hy with rfl|rfl|rfl|rfl|rfl|rfl|rfl|rfl|rfl
   ·exact .inl rfl
   ·exact kb lI hle
   ·exact kb lH la
   ·exact kb mj mn
   ·exact .inr lY
   ·exact kb (k2.trans (Kp.of lb)) f2
   ·exact kb (k2.trans (Kp.of lb)) f3
   ·exact kb (k2.trans (Kp.of kZ)) h2
   ·exact kb (k2.trans (Kp.of kZ)) h3
  refine q2 ⟨bd,dx,pp,pd,bl,le,ma,se,λb=>match b with|false=>S0|true=>S1⟩ lO rfl (k2.trans lG) fr ⟨mD,?_,?_,?_,?_,?_,?_,?_,?_,F.keep mL (k2.trans lG) (λx hx=>by rw[aj.mp hx];exact⟨_,lZ,trivial⟩) (λx hx=>by rw[aj.mp hx];exact mK),λx hx=>?_,cI _⟩
  rotate_right
  ·refine oG λ_ Z=>?_;obtain⟨u,hu,_⟩:=F.mu mL x hx;apply Z;have xn:∀{y:Addr},y=bd\/H y=none->x≠y:=λh z=>by
    rcases h with h|h
    ·exact mK (by rw[<-h,<-z];exact hx)
    ·rw[<-z,hu]at h;cases h
   refine⟨λz=>xn (fr x z) rfl,xn (kb (k2.trans (Kp.of (kZ.trans lQ))) lB),λb=>?_⟩;cases b
   ·exact xn (kb (k2.trans (Kp.of lb)) f1)
   ·exact xn (kb (k2.trans (Kp.of kZ)) h1)
  ·exact kS _ _ md (by simp[m4])
  ·exact lT _ _ (lU _ _ (kW.at lK) (by simp[lS])) (by simp[lS])
  ·exact lT _ _ (lU _ _ (kW.at lJ) (by simp[mi])) (by simp[mi])
  ·exact lT _ _ (lU _ _ mZ (by simp[mH])) (by simp[mH])
  ·intro b;cases b
   ·exact kR.kp0 kS d0
   ·exact kQ.kp0 kS d1
  ·intro b;cases b
   ·exact⟨e1,e2⟩
   ·exact⟨g1,g2⟩
  ·simp only[bA,av,aV,or_false,not_or,not_false_eq_true,dg,and_true];have q0:=lC.same (lA.trans (lz.trans lQ));exact⟨⟨au (nn hle (kk md m4)),au (nn la (lF md m4)),nn lB q0.ca,nn lB q0.na,nn lB l8.ca,nn lB l8.na⟩,⟨au (nn la lg),nn hle (kk kR.ca m0),nn hle (kk kR.na m1),nn hle (kk kQ.ca m2),nn hle (kk kQ.na m3)⟩,⟨nn la (lF kR.ca m0),nn la (lF kR.na m1),nn la (lF kQ.ca m2),nn la (lF kQ.na m3)⟩,⟨lC.ne,au (nn h2 mM),au (nn h3 mM)⟩,⟨au (nn h2 mO),au (nn h3 mO)⟩,l8.ne⟩
  ·simp only[bA,av,aV,or_false,not_or,not_false_eq_true,dg,and_true];exact⟨⟨au n0,au n1,lR⟩,⟨au (nn h1 ((lA.trans lz).at lC.st)),nn f1 (lb.at l9)⟩,nn h1 (kZ.at l9)⟩
end
def Sg(x:Int):Prop:=(x.natAbs:Int)<=2*10^50
def xr3:Sp:=λvs H Q _=>Ex2 λ(c n:Int)=>vs=[.int c,.int n]/\0<=n/\n<=100/\∀(l:Addr) (xs:List Int) (H':Hp),xj H H'->H l=none->H' l=some (.lst (xs.map V.int))->xs.length=n.toNat->(∀x∈xs,Sg x)->Q (.ref l) H'
theorem xdP(T:Txt K mg a):xE P w K mg base CX0 2 a.q4s a.xkH ["_law_cell","_law_size"] xr3:=by
 refine T.q3n.ok xmB (λvs H Q E h=>?_) (λcdv A outer s H vs Q E hr h=>?_)
 ·obtain⟨c,n,rfl,_⟩:=h;rfl
 ·refine oG λ_ Z=>?_;obtain⟨c,n,rfl,h0,h1,q⟩:=h;apply Z;have nd:=xmB.nd;refine⟨_,(xf (xC (i:=2) nd rfl (cW rfl) (xX (xa xg (xa (xx xdT xg xg) (xa (xx xdT xg xg) (xa (xx xdT xg xg) xc))))))
  (xk (xv (xb3 (xae (cap:=[0,2]) (ys:=["_law_cell","_law_sizes"]) rfl rfl rfl rfl rfl ⟨⟨rfl,rfl,.inl rfl⟩,⟨⟨rfl,rfl,.inl rfl⟩,trivial⟩⟩ (by decide+kernel)) rfl (xbd (by rfl) T.q16 (xa (cv 1) xc)) (λ_ _ _ _=>(xx xfK (xx jc (xx yU (xy (vW T) hr.m (by rfl) T.jZ T.q15.kp T.jY .nil xt (xa (cv 1) (xa (cv 0) xc))) xg) xg) (xM (xks (K:=K) rfl) (cv 2) (xx yU (xy (vW T) hr.m (by rfl) T.jZ T.q15.kp T.jY .nil xt (xa (cv 1) (xa (xx ym (cv 0) xg) xc))) xg) (λ_ _=>rfl)))) (λ_ _ _ _=>jV))))),?_⟩
  left;refine aY ⟨by decide,by decide,by decide⟩ ?_;left;refine aY ⟨by decide,by decide,by decide⟩ ?_;left;refine aY ⟨by decide,by decide,by decide⟩ ?_;right;exists λzl kR=>xw (upd H zl _) rfl kR λH1 kQ kW=>?_;have en:zg 0 n 1=n.toNat:=by rw[uB];lia
  rw[en];refine xoC (λi acc _=>∃xs:List Int,acc=xs.map V.int/\xs.length=i/\∀x∈xs,Sg x) (by rw[aZ];lia) ⟨[],rfl,rfl,by simp⟩ (λi acc H3 H3' hi s3 kP hP R hR=>?_) (λD acc H3 H3' hD kZ s3 kP hP kT hv=>?_)
  ·refine oG λ_ Z=>?_;obtain⟨xs,rfl,hl,hx⟩:=hP;apply Z;generalize 0+(i:Int)*1=k;exists⟨c,k,rfl,?_⟩;walk_at"ss";exists⟨c,k+50,rfl,?_⟩;walk_at"ss";obtain⟨j,ej,hj⟩:∃j:Nat,mixed c (k+50)%4=(j:Int)/\j<4:=⟨(mixed c (k+50)%4).toNat,by lia,by lia⟩;obtain⟨z,hz,kY,kX⟩:∃z:Int,atI [V.int 1,V.int (10^(gR 9)),V.int (10^(gR 30)),V.int (10^(gR 50))] (mixed c (k+50)%4)=some (.int z)/\0<=z/\z<=10^50:=by
    rw[ej]
    match j,hj with
    |0,_=>exact⟨_,rfl,by decide,by decide⟩
    |1,_=>exact⟨_,rfl,by decide,by decide⟩
    |2,_=>exact⟨_,rfl,by decide,by decide⟩
    |3,_=>exact⟨_,rfl,by decide,by decide⟩
   exists⟨zl,_,_,.int z,rfl,rfl,SqL.of ((s3.trans kP).at kW),hz,?_⟩;have hm: -2<=mixed c k%5 - 2/\mixed c k%5 - 2<=2:=by lia
   generalize mixed c k%5 - 2=m at hm;refine aY (.inl ⟨by lia,by lia⟩) ?_;refine hR _ H3' (xj.refl _) λH6 _ _=>⟨xs++[m*z],by rw[bH];rfl,by simp[hl],λx kS=>?_⟩;rcases aW.mp kS with h|h
   ·exact hx x h
   ·rw[aj.mp h];unfold Sg;rw[Int.natAbs_mul];have e1:m.natAbs<=2:=by lia
    have e2:z.natAbs<=10^50:=by lia
    have:=Nat.mul_le_mul e1 e2;lia
  ·refine oG λ_ Z=>?_;obtain⟨xs,rfl,hl,hx⟩:=hP;apply Z;exact q D xs H3' (kQ.trans (s3.trans kP)) (kQ.back hD) hv hl hx
section
inductive NP(old:Int):Int->Int->List xq->Prop
 |no (o:Int) (ho:o=0\/o=old):NP old o 0 []
 |put (o:Int) (sg:List Int) (ho:o=0\/o=old) (h1:1<=sg.length) (h8:sg.length<=8) (hs:∀x∈sg,Sg x):NP old o sg.length [.put 0 sg]
 |take (to st c:Int) (sg:List Int) (h8:sg.length<=8) (hs:∀x∈sg,Sg x) (h0:0<=to) (h1:0<=st) (h2:1<=c) (h3:st+c<=old) (h4:to+c<=sg.length):
   NP old old sg.length (.take to st c::((if 0<to then[.put 0 (sg.take to.toNat)]else[])++(if to+c<sg.length then[.put (to+c) (sg.drop (to+c).toNat)]else[])))
def xlj(K:aq):Sp:=λvs H Q _=>Ex2 λ(old cell:Int)=>vs=[.int old,.int cell]/\0<=old/\old<=100/\∀(p:Addr) (o n:Int) (rs:List xq) (H':Hp),xj H H'->yE K H' p o n rs->NP old o n rs->Q (.ref p) H'
noncomputable section
abbrev uc(P:aH)(w:World)(K:aq)(mg:Str->Option Value)(base:Heap)(a:Adr)(A:bo)(outer:List Env)(s:ak)(H:Hp)(E:XK)(cdv:Value):Cx:=(uQ CX0 P w K mg base ["_law_old","_law_cell","_law_size","_law_signs","_law_count","_law_rows","_law_start","_law_to"] "_law_new_paper" (xh yI) a.q1S cdv A outer s H E).nox
variable (T:Txt K mg a) (A:bo) (outer:List Env) (s:ak) (H:Hp) (E:XK) (cdv:Value) (hr:ya 2 (A.deeper (cV "_law_new_paper" (xh yI) s.heap.objs.size a.q1S cdv)))
def xiM:RD:=⟨_,uc P w K mg base a A outer s H E cdv,(xr yI).drop 6,(xf (xbc (i:=7) yY.nd rfl (az rfl) (xx yU (xy (vW T) hr.m (by rfl) T.jZ T.q15.kp T.jY .nil xt (xa (cv 1) (xa xg xc))) (xx ym (xx jc (cv 2) (cv 4)) xg)))
  (xf (xbc (i:=5) yY.nd rfl (az rfl) (xX (xa (xR (xa xH (xa (cv 7) (xa (cv 6) (xa (cv 4) xc))))) xc)))
  (xf (yD (xS (xN xc7 (cv 7) xg) (xk (xK (xbR PySem.F.plainAttrs_list PySem.F.slot_list_append PySem.F.type_list_append uq (cv 5) (xa (xR (xa xH (xa xg (xa (xW yn (by rfl) T.q09 yP (xa (xaN xaO (cv 3) xb1 (xb2 (cv 7))) xc)) xc)))) xc)))) xF))
  (xf (yD (xS (xN xia (xx ym (cv 7) (cv 4)) (cv 2)) (xk (xK (xbR PySem.F.plainAttrs_list PySem.F.slot_list_append PySem.F.type_list_append uq (cv 5) (xa (xR (xa xH (xa (xx ym (cv 7) (cv 4)) (xa (xW yn (by rfl) T.q09 yP (xa (xaN xaO (cv 3) (xb2 (xx ym (cv 7) (cv 4))) xb1) xc)) xc)))) xc)))) xF))
  (xk (xv (xR (xa (cv 0) (xa (cv 2) (xa (xW yn (by rfl) T.q09 yP (xa (cv 5) xc)) xc))))))))))⟩
def xiN:RD:=⟨_,uc P w K mg base a A outer s H E cdv,(xr yI).drop 5,(xf (xbc (i:=6) yY.nd rfl (az rfl) (xx yU (xy (vW T) hr.m (by rfl) T.jZ T.q15.kp T.jY .nil xt (xa (cv 1) (xa xg xc))) (xx ym (xx jc (cv 0) (cv 4)) xg)))
  (RD.h (xiM T _ _ _ _ _ _ hr)))⟩
def xiO:RD:=⟨_,uc P w K mg base a A outer s H E cdv,(xkb ((xr yI).getD 4 (.Pass ⟨0,0,0,0⟩))).drop 1,(xk (xv (xR (xa (xx xfK (cv 0) (xx yU (xy (vW T) hr.m (by rfl) T.jZ T.q15.kp T.jY .nil xt (xa (cv 1) (xa xg xc))) xg)) (xa (cv 2) (xa (xW yn (by rfl) T.q09 yP (xa (cv 5) xc)) xc))))))⟩
def xiP:RD:=⟨_,uc P w K mg base a A outer s H E cdv,xkb ((xr yI).getD 4 (.Pass ⟨0,0,0,0⟩)),(xf (xbc (i:=5) yY.nd rfl (az rfl) (xaN xaO (xX (xa (xR (xa xH (xa xg (xa (xW yn (by rfl) T.q09 yP (xa (cv 3) xc)) xc)))) xc)) xb1 (xb2 (xI (xg9 rfl) (by rfl) T.q40 xg8 (xa xg (xa (cv 2) xc))))))
  (RD.h (xiO T _ _ _ _ _ _ hr)))⟩
def xiQ:RD:=⟨_,uc P w K mg base a A outer s H E cdv,xkb ((xr yI).getD 3 (.Pass ⟨0,0,0,0⟩)),(xk (xbc (i:=4) yY.nd rfl (az rfl) (xx yU (xy (vW T) hr.m (by rfl) T.jZ T.q15.kp T.jY .nil xt (xa (cv 1) (xa xg xc))) (xx ym (xI (xg9 rfl) (by rfl) T.q40 xg8 (xa (cv 0) (xa (cv 2) xc))) xg))))⟩
def xiR:RD:=⟨_,uc P w K mg base a A outer s H E cdv,(xr yI).drop 3,(xf (yD (xS (PW.pt (xg3 (xN xc7 (cv 0) xg) (xfG (xN xc7 (cv 2) xg)))) (RD.h (xiQ T _ _ _ _ _ _ hr)) xF))
  (xf (xS (xN xa5 (cv 4) xg) (RD.h (xiP T _ _ _ _ _ _ hr)) xF)
  (RD.h (xiN T _ _ _ _ _ _ hr))))⟩
def xiS:RD:=⟨_,uc P w K mg base a A outer s H E cdv,(xr yI).drop 1,(xf (xbc (i:=3) yY.nd rfl (az rfl) (xy (xdP T) hr.m (by rfl) T.xfl T.q3n.kp T.xfk .nil xt (xa (cv 1) (xa (cv 2) xc))))
  (xf (xbc (i:=4) yY.nd rfl (az rfl) xg)
  (RD.h (xiR T _ _ _ _ _ _ hr))))⟩
end
def xlk(T:Txt K mg a):xE P w K mg base CX0 3 a.q1S a.xdo ["_law_old","_law_cell"] (xlj K):=by
 refine T.q2M.ok yY (λvs H Q E h=>?_) (λcdv A outer s H vs Q E hr h=>?_)
 ·obtain⟨old,cell,rfl,_⟩:=h;rfl
 ·refine oG λ_ Z=>?_;obtain⟨old,c,rfl,h0,h1,q⟩:=h;apply Z;have nd:=yY.nd;refine⟨_,(xf (xbc (i:=2) nd rfl (az rfl) (xx yU (xy (vW T) hr.m (by rfl) T.jZ T.q15.kp T.jY .nil xt (xa (cv 1) (xa xg xc))) xg))
  (RD.h (xiS T _ _ _ _ _ _ hr))),?_⟩
  exists⟨c,1,rfl,?_⟩;walk_at"ss";exists xdx λn hn=>?_;have lU:0<=n/\n<=8:=by lia
  clear hn;refine⟨c,n,rfl,lU.1,by lia,λsl sg H1 s1 l9 lY hlen lK=>?_⟩;exists xib ?_;exists xdx λk0 lV=>?_;subst lV;refine⟨λσ' G=>∃k:Int,σ'=[some (.int old),some (.int c),some (.int n),some (.ref sl),some (.int k),none,none,none]/\xj H1 G/\0<=k/\k<=old/\k<=n,?_,?_⟩
  ·refine⟨λb=>?_,λb=>?_⟩
   ·have b:=of_decide_eq_true b;refine⟨λb2=>?_,λb2=>?_⟩
    ·have b2:=of_decide_eq_true b2;exists⟨c,2,rfl,?_⟩;refine aY (show(0:Int)<min old n+1 by lia) ?_;exists xdx λk hk=>?_;have e1:=ez (mixed c 2) (b:=min old n+1) (by lia);have e2:=dn (mixed c 2) (b:=min old n+1) (by lia);exact⟨k,rfl,xj.refl _,by lia,by lia,by lia⟩
    ·exact⟨0,rfl,xj.refl _,by lia,by lia,by lia⟩
   ·left
    first|exact⟨0,rfl,xj.refl _,by lia,by lia,by lia⟩|(walk_at"N";exact⟨0,rfl,xj.refl _,by lia,by lia,by lia⟩)
  rintro σ' G ⟨k,rfl,sG,k0,k1,k2⟩;have es:=sG.at lY;have lG:=s1.trans sG;refine⟨λb=>?_,λb=>?_⟩
  ·have b:=of_decide_eq_true b;refine⟨sl,_,rfl,.inl ⟨SqL.of es,?_⟩⟩;exists λtu lS=>xw (upd G tu _) rfl lS λG1 lh lX=>?_;walk_at"ss";exists λt0 lq=>xw (upd G1 t0 _) rfl lq λG2 kT lg=>?_;walk_at"ss";refine λrl kY=>xw (upd G2 rl _) rfl kY λG3 kS kZ=>?_;refine⟨_,rfl,?_⟩;refine⟨rl,_,rfl,SqL.of kZ,?_⟩;rw[show min (1:Int) n=((min 1 n.toNat:Nat):Int)by lia,xfS];exists λr2 lT=>xw (upd G3 r2 _) rfl lT λG4 kQ lZ=>?_;refine xib ?_;exists⟨c,3,rfl,?_⟩;walk_at"ss";have hm:mixed c 3%2=0\/mixed c 3%2=1:=by lia
   refine⟨r2,_,rfl,.inl ⟨SqL.of lZ,?_⟩⟩;exists λtt lp=>xw (upd G4 tt _) rfl lp λG5 kP lA=>?_;walk_at"ss";exists λp hp=>xw (upd G5 p _) rfl hp λG6 kR ep=>?_;have lE:G6 p=some (.tup [.int (old*(mixed c 3%2)),.int n,.ref tt]):=ep;generalize mixed c 3%2=m at hm lE;have lL:old*m=0\/old*m=old:=by rcases hm with rfl|rfl<;> simp
   have sA:xj H G6:=lG.trans (lh.trans (kT.trans (kS.trans (kQ.trans (kP.trans kR)))));have ll:=kR.at lA;have lD:=(kS.trans (kQ.trans (kP.trans kR))).at lg;have lz:=(kT.trans (kS.trans (kQ.trans (kP.trans kR)))).at lX
   by_cases z:n=0
   ·subst z;exact q p (old*m) 0 [] G6 sA ⟨tt,[],lE,by rw[ll];rfl,.nil⟩ (.no _ lL)
   ·have en:n=(sg.length:Int):=by lia
    refine q p (old*m) n [.put 0 sg] G6 sA ⟨tt,[t0],lE,by rw[ll,show min 1 n.toNat=1 by lia];rfl,.cons ⟨tu,lD,lz⟩ .nil⟩ ?_;rw[en];exact .put _ sg lL (by lia) (by lia) lK
  have b:=of_decide_eq_false b;exists⟨c,4,rfl,?_⟩;refine aY (show(0:Int)<old - k+1 by lia) ?_;exists xdx λst lJ=>?_;have lP:=ez (mixed c 4) (b:=old - k+1) (by lia);have lO:=dn (mixed c 4) (b:=old - k+1) (by lia);rw[<-lJ]at lP lO;clear lJ;exists⟨c,5,rfl,?_⟩;refine aY (show(0:Int)<n - k+1 by lia) ?_;exists xdx λto lI=>?_;have lN:=ez (mixed c 5) (b:=n - k+1) (by lia);have lM:=dn (mixed c 5) (b:=n - k+1) (by lia);rw[<-lI]at lN lM;clear lI;walk_at"ss";exists λt0 lq=>xw (upd G t0 _) rfl lq λG1 lh lg=>?_;walk_at"ss";exists λrl kY=>xw (upd G1 rl _) rfl kY λG2 kT kZ=>?_;refine xib ?_;refine⟨λσ' G'=>σ'=[some (.int old),some (.int c),some (.int n),some (.ref sl),some (.int k),some (.ref rl),some (.int st),some (.int to)]/\xj G1 G'/\∃ts,G' rl=some (.lst (ts.map V.ref))/\ts.length<=2/\Paired (TupAt K G') ts (.take to st k::(if 0<to then[.put 0 (sg.take to.toNat)]else[])),?_,?_⟩
  ·refine⟨λc1=>?_,λc1=>?_⟩
   ·have c1:=of_decide_eq_true c1;have la:xc5 (sg.map V.int) none (some to)=(sg.take to.toNat).map V.int:=by
     have e:to=(to.toNat:Int):=by lia
     rw[e,xfS,<-List.map_take,<-e]
    left;refine aY (.inl ⟨rfl,_,SqL.of kZ⟩) ?_;refine⟨_,rfl,?_⟩;refine⟨sl,_,rfl,SqL.of ((lh.trans kT).at es),?_⟩;rw[la];refine λcl lr=>xw (upd G2 cl _) rfl lr λG3 kS lF=>?_;refine⟨cl,_,rfl,.inl ⟨SqL.of lF,?_⟩⟩;exists λu1 kW=>xw (upd G3 u1 _) rfl kW λG4 kQ ly=>?_;walk_at"ss";exists λt1 kX=>xw (upd G4 t1 _) rfl kX λG5 kP lC=>?_;have sA:=kS.trans (kQ.trans kP);refine⟨rl,_,_,rfl,rfl,sA.at kZ,by simp[aZ],?_⟩;have n1:t0≠rl:=λz=>by rw[z]at lg;rw[lg]at kY;cases kY
    have n2:t1≠rl:=λz=>by rw[z,(kS.trans kQ).at kZ]at kX;cases kX
    have n3:u1≠rl:=λz=>by rw[z,kS.at kZ]at kW;cases kW
    refine⟨rfl,(kT.trans sA).put kY,[t0,t1],by rw[xp];rfl,by simp,?_⟩;rw[if_pos c1];exact .cons (by show upd _ rl _ t0=_;rw[xm n1];exact(kT.trans sA).at lg) (.cons ⟨u1,by rw[xm n2];exact lC,by rw[xm n3];exact kP.at ly⟩ .nil)
   ·have c1:=of_decide_eq_false c1;refine⟨rfl,kT,[t0],kZ,by simp,?_⟩;rw[if_neg c1];exact .cons (kT.at lg) .nil
  rintro σ' G3 ⟨rfl,kS,ts,lb,l8,lH⟩;have en:n=(sg.length:Int):=by lia
  have lQ:G3 sl=some (.lst (sg.map V.int)):=(lh.trans kS).at es;refine⟨λσ' G'=>σ'=[some (.int old),some (.int c),some (.int n),some (.ref sl),some (.int k),some (.ref rl),some (.int st),some (.int to)]/\xj G1 G'/\∃ts,G' rl=some (.lst (ts.map V.ref))/\ts.length<=3/\Paired (TupAt K G') ts (.take to st k::((if 0<to then[.put 0 (sg.take to.toNat)]else[])++(if to+k<sg.length then[.put (to+k) (sg.drop (to+k).toNat)]else[]))),?_,?_⟩
  ·refine⟨λc1=>?_,λc1=>?_⟩
   ·have c1:to+k<n:=of_decide_eq_true c1;have la:xc5 (sg.map V.int) (some (to+k)) none=(sg.drop (to+k).toNat).map V.int:=by
     have e:to+k=((to+k).toNat:Int):=by lia
     rw[e,xjB,<-List.map_drop,<-e]
    left;refine aY (.inl ⟨rfl,_,SqL.of lb⟩) ?_;refine⟨to+k,rfl,?_⟩;refine⟨sl,_,rfl,SqL.of lQ,?_⟩;rw[la];refine λcl lr=>xw (upd G3 cl _) rfl lr λG4 kQ lF=>?_;refine⟨cl,_,rfl,.inl ⟨SqL.of lF,?_⟩⟩;exists λu1 kW=>xw (upd G4 u1 _) rfl kW λG5 kP ly=>?_;walk_at"ss";exists λt1 kX=>xw (upd G5 t1 _) rfl kX λG6 kR lC=>?_;have sA:=kQ.trans (kP.trans kR);refine⟨rl,_,_,rfl,rfl,sA.at lb,by rw[ag,aZ];lia,?_⟩;have n2:t1≠rl:=λz=>by rw[z,(kQ.trans kP).at lb]at kX;cases kX
    have n3:u1≠rl:=λz=>by rw[z,kQ.at lb]at kW;cases kW
    have lB:G6 t1=some (.tup [.str "put",.int (to+k),.ref u1]):=lC;refine⟨rfl,(kS.trans sA).put kY,ts++[t1],by rw[xp,bH];rfl,by simp;lia,?_⟩;rw[if_pos (show to+k<(sg.length:Int)by lia),<-cU];exact xba (L2.Paired.imp' (λ_ _ z=>(z.same sA).off (sA.at lb)) lH) ⟨u1,by rw[xm n2];exact lB,by rw[xm n3];exact kR.at ly⟩
   ·have c1:¬to+k<n:=of_decide_eq_false c1;refine⟨rfl,kS,ts,lb,by lia,?_⟩;rw[if_neg (show¬to+k<(sg.length:Int)by lia),cC];exact lH
  rintro σ' G4 ⟨rfl,kQ,us,lW,l7,lR⟩;refine⟨rl,_,rfl,.inl ⟨SqL.of lW,?_⟩⟩;exists λtt lp=>xw (upd G4 tt _) rfl lp λG5 kP lA=>?_;walk_at"ss";exists λp hp=>xw (upd G5 p _) rfl hp λG6 kR ep=>?_;have sA:xj H G6:=lG.trans (lh.trans (kQ.trans (kP.trans kR)));refine q p old n _ G6 sA ⟨tt,us,ep,kR.at lA,L2.Paired.imp' (λ_ _ z=>z.same (kP.trans kR)) lR⟩ ?_;rw[en];exact .take to st k sg (by lia) lK (by lia) (by lia) (by lia) (by lia) (by lia)
end
theorem Paired.mem2{α β:Type}{F:α->β->Prop}:∀{l₁:List α} {l₂:List β} {y:β},Paired F l₁ l₂->y∈l₂->∃x∈l₁,F x y
 |_,_,_,.cons h t,m=>by
  rcases av.mp m with rfl|m
  ·exact⟨_,bh,h⟩
  ·obtain⟨x,h1,h2⟩:=Paired.mem2 t m;exact⟨x,aL _ h1,h2⟩
def jk{u:Nat->Nat->List Int}{k:Nat}{p:List Int}(h:(chs u d k)[j]? =some p):j<cN d k/\p=u k j:=by
 unfold chs at h;rw[aF]at h;obtain⟨i,hi,rfl⟩:=aO.mp h;have hj:j<cN d k:=by
  have:=(aw.mp hi).1;simpa using this
 rw[gD hj]at hi;cases hi;exact⟨hj,rfl⟩
def jS{n:Nat}{d:Int}(h:(xY lo n)[i]? =some d):i<n/\d=lo+i:=by
 unfold xY at h;rw[aF]at h;obtain⟨j,hj,rfl⟩:=aO.mp h;have hi:i<n:=by
  have:=(aw.mp hj).1;simpa using this
 rw[gD hi]at hj;cases hj;exact⟨hi,rfl⟩
def xjE{n:Nat}(h:x∈(xY lo n).take i):lo<=x/\x<lo+i:=by
 obtain⟨j,hj⟩:=bB.mp h;rw[dv]at hj
 split at hj
 ·have:=jS hj;lia
 ·cases hj
def xep{to:Int}{k:Nat}(h:x∈uch to d k j):to+(j*d:Nat)<=x/\x<to+(j*d:Nat)+d/\x<to+k:=by
 unfold uch at h;have:=zI.mp h;omega
def xbZ{e:Int}{k:Nat}(h:x∈dch e d k j):e - ((j+1)*d:Nat)<=x/\x<e - (j*d:Nat)/\e - k<=x:=by
 unfold dch at h;have:=zI.mp h;have e1:(j+1)*d=j*d+d:=eJ j d;omega
def xjF{xss:List (List Int)}{k:Nat}(h:x∈(xss.take k).flatten):∃j p,j<k/\xss[j]? =some p/\x∈p:=by
 obtain⟨p,hp,hx⟩:=dS.mp h;obtain⟨j,hj⟩:=bB.mp hp;rw[dv]at hj
 split at hj
 ·rename_i kP;exact⟨j,p,kP,hj,hx⟩
 ·cases hj
def xnU{to st:Int}(hc:1<=c){k:Nat}{p:List Int}{d:Int}(hp:(yM to st c)[k]? =some p)(hd:p[i]? =some d)(hx:x∈((yM to st c).take k).flatten++p.take i):x≠st+d - to:=by
 unfold yM at hp hx
 split at hp
 ·simp at hp
 rename_i kR;rw[if_neg kR]at hx
 split at hp
 ·rename_i kQ;rw[if_pos kQ]at hx;obtain⟨hk,rfl⟩:=jk hp;unfold uch at hd;have h1:=jS hd;rcases aW.mp hx with hx|hx
  ·obtain⟨j,q,hj,hq,kP⟩:=xjF hx;obtain⟨_,rfl⟩:=jk hq;have h2:=xep kP;have h3:(j+1)*(st - to).toNat<=k*(st - to).toNat:=gz _ hj;have e1:(j+1)*(st - to).toNat=j*(st - to).toNat+(st - to).toNat:=eJ _ _;omega
  ·have h2:=xjE hx;omega
 ·rename_i kQ;rw[if_neg kQ]at hx;obtain⟨hk,rfl⟩:=jk hp;unfold dch at hd;have h1:=jS hd;have ek:(k+1)*(to - st).toNat=k*(to - st).toNat+(to - st).toNat:=eJ _ _;rcases aW.mp hx with hx|hx
  ·obtain⟨j,q,hj,hq,kP⟩:=xjF hx;obtain⟨_,rfl⟩:=jk hq;have h2:=xbZ kP;have h3:(j+1)*(to - st).toNat<=k*(to - st).toNat:=gz _ hj;omega
  ·unfold dch at hx;have h2:=xjE hx;omega
def xmO{u:Nat->Nat->List Int}{k:Nat}(h:j<cN d k):u k j∈chs u d k:=bZ.mpr ⟨j,dO.mpr h,rfl⟩
def xqY{k:Nat}(hd:0<d)(h:m<k):m / d<cN d k:=by
 unfold cN;rw[Nat.div_lt_iff_lt_mul hd];have h1:=iP (k+d - 1) d;have h2:=Nat.mod_lt (k+d - 1) hd;have e1:(k+d - 1) / d*d=d*((k+d - 1) / d):=iw _ _;omega
def xhV{to st:Int}(hc:1<=c):x∈(yM to st c).flatten↔st≠to/\to<=x/\x<to+c:=by
 unfold yM
 by_cases kP:st=to
 ·rw[if_pos kP];simp[kP]
 rw[if_neg kP]
 by_cases kQ:to<st
 ·rw[if_pos kQ,dS];constructor
  ·rintro⟨p,hp,hx⟩;obtain⟨j,hj⟩:=bB.mp hp;obtain⟨_,rfl⟩:=jk hj;have:=xep hx;exact⟨kP,by omega,by omega⟩
  ·rintro⟨_,h1,h2⟩;have hd:0<(st - to).toNat:=by omega
   generalize (st - to).toNat=d at hd;have hm:=iP (x - to).toNat d;have hr:=Nat.mod_lt (x - to).toNat hd;have ec:(x - to).toNat / d*d=d*((x - to).toNat / d):=iw _ _;refine⟨_,xmO (xqY hd (show(x - to).toNat<c.toNat by omega)),?_⟩;unfold uch;rw[zI];omega
 ·rw[if_neg kQ,dS];constructor
  ·rintro⟨p,hp,hx⟩;obtain⟨j,hj⟩:=bB.mp hp;obtain⟨_,rfl⟩:=jk hj;have:=xbZ hx;exact⟨kP,by omega,by omega⟩
  ·rintro⟨_,h1,h2⟩;have hd:0<(to - st).toNat:=by omega
   generalize (to - st).toNat=d at hd;have hm:=iP (to+c - 1 - x).toNat d;have hr:=Nat.mod_lt (to+c - 1 - x).toNat hd;have ec:(to+c - 1 - x).toNat / d*d=d*((to+c - 1 - x).toNat / d):=iw _ _;have ed:((to+c - 1 - x).toNat / d+1)*d=(to+c - 1 - x).toNat / d*d+d:=eJ _ _;refine⟨_,xmO (xqY hd (show(to+c - 1 - x).toNat<c.toNat by omega)),?_⟩;unfold dch;rw[zI];omega
def xll{to st:Int}{p:List Int}(hp:p∈yM to st c):p.length<=(st - to).natAbs:=by
 unfold yM at hp
 split at hp
 ·simp at hp
 split at hp
 all_goals
  obtain⟨j,hj⟩:=bB.mp hp;obtain⟨_,rfl⟩:=jk hj
  first|unfold uch|unfold dch
  rw[yJ];lia
theorem xlm{new:Int}{L:Nat}{c:List Int}(hk:r.ok)(hs:Sm r)(hf:xs2 old new r)(h1:old<=L)(h2:new<=L)(hc:c∈vj r):yA L (r,c):=by
 cases r with
 |take to st n=>
  obtain⟨k1,k2,k3⟩:=hk;obtain⟨s1,s2,s3⟩:=hs;obtain⟨f1,f2⟩:=hf;have hc:c∈yM to st n:=hc;have hl:=xll hc;refine⟨⟨k1,k2,k3⟩,by show c.length<=300;lia,λd hd=>?_⟩;have hm:=(xhV k3).mp (dS.mpr ⟨c,hc,hd⟩);exact⟨by lia,by lia,by lia,by lia⟩
 |put to sg=>
  have kP:=hk;obtain⟨k1,k2,k3,k4⟩:=hk;have s2:sg.length<=50:=hs.2;have f1:to+sg.length<=new:=hf;have hc:c∈[xY to sg.length]:=hc;rw[aj.mp hc];refine⟨kP,by show(xY to sg.length).length<=300;rw[yJ];lia,λd hd=>?_⟩;have hm:=zI.mp hd;exact⟨by lia,by lia,by lia,by lia⟩
def xpe{us:List Addr}{new:Int}{L:Nat}(hp:Paired (GT K H) us rs)(hf:∀r∈rs,xs2 old new r)(h1:old<=L)(h2:new<=L):∀x∈xP rs,yA L x:=by
 intro x hx;unfold xP at hx;obtain⟨r,hr,hx⟩:=eW.mp hx;obtain⟨c,hc,rfl⟩:=bZ.mp hx;obtain⟨u,_,hg⟩:=Paired.mem2 hp hr;exact xlm hg.2.1 hg.2.2 (hf r hr) h1 h2 hc
def xr4(lo:Int)(n:Nat):(xY lo n).Pairwise (· < ·):=by
 rw[hZ];intro i j hi hj kP;have h1:=jS (aD hi);have h2:=jS (aD hj);lia
theorem xln:c∈r.cv↔r.to<=c/\c<r.to+r.cnt:=by
 cases r with
 |take to st n=>exact zI
 |put to sg=>exact zI
theorem xlo(h:c∈r.wrs):c∈r.cv:=by
 cases r with
 |take to st n=>
  simp only[xq.wrs]at h
  split at h
  ·cases h
  ·exact h
 |put to sg=>exact h
theorem xtO(r:xq):r.cv.Nodup:=by
 have h:∀lo n,(xY lo n).Nodup:=λlo n=>(xr4 lo n).imp (λh=>by lia);cases r with
 |take to st n=>exact h _ _
 |put to sg=>exact h _ _
theorem Tl.facts{at':Int}(h:Tl old rs at'):0<=at'/\(rs.map xq.cv).flatten.Nodup/\(∀x,x∈(rs.map xq.cv).flatten↔0<=x/\x<at')/\∀r∈rs,Good old r/\r.to+r.cnt<=at':=by
 induction h with
 |nil=>exact⟨cI _,dg,λx=>⟨λz=>by simp at z,λz=>by lia⟩,λr z=>by cases z⟩
 | @snoc rs at' n r _ hg ht hn ih=>
  obtain⟨h1,h2,h3,h4⟩:=ih;have e:((rs++[r]).map xq.cv).flatten=(rs.map xq.cv).flatten++r.cv:=by simp
  have hc:∀x,x∈r.cv↔at'<=x/\x<at'+n:=λx=>by rw[xln,ht,hn]
  refine⟨by lia,?_,λx=>?_,λs hs=>?_⟩
  ·rw[e,List.nodup_append];exact⟨h2,xtO r,λx hx y hy=>by have:=(h3 x).mp hx;have:=(hc y).mp hy;lia⟩
  ·rw[e,aW,h3,hc];lia
  ·rcases aW.mp hs with hs|hs
   ·obtain⟨z1,z2⟩:=h4 s hs;exact⟨z1,by lia⟩
   ·rw[aj.mp hs];exact⟨hg,by lia⟩
theorem xmP:∀(l:List (Nat×Int)) (seen:List Int),(l.map kd).Nodup->(∀x∈l.map kd,x∉seen)->tw l seen=none
 |[],_,_,_=>rfl
 |(k,c)::r,seen,h1,h2=>by
  have h3:c∉r.map kd/\(r.map kd).Nodup:=bA.mp h1;have h4:c∉seen:=h2 c (by simp);show(if c∈seen then some (k,c)else tw r (c::seen))=none;rw[if_neg h4];refine xmP r (c::seen) h3.2 λx hx z=>?_;rcases av.mp z with rfl|z
  ·exact h3.1 hx
  ·exact h2 x (aL _ hx) z
theorem xmQ:∀(k:Nat) (xss:List (List Int)),(num k xss).map kd=xss.flatten
 |_,[]=>rfl
 |k,cs::r=>by simp[num,xmQ (k+1) r,kJ]
def Dis(rs:List xq):Prop:=∀(i j:Nat) (r s:xq),rs[i]? =some r->rs[j]? =some s->∀c,c∈r.cv->c∈s.cv->i=j
def xs5(h:(rs.map xq.cv).flatten.Nodup):Dis rs:=by
 have h1:=(List.pairwise_flatten.mp h).2;rw[List.pairwise_map,hZ]at h1;have key:∀(i j:Nat) (r s:xq),rs[i]? =some r->rs[j]? =some s->∀c,c∈r.cv->c∈s.cv->¬i<j:=by
  intro i j r s hi hj c kQ kP kR;obtain⟨li,ei⟩:=aw.mp hi;obtain⟨lj,ej⟩:=aw.mp hj;exact h1 i j li lj kR c (by rw[ei];exact kQ) c (by rw[ej];exact kP) rfl
 intro i j r s hi hj c kQ kP;have h2:=key i j r s hi hj c kQ kP;have h3:=key j i s r hj hi c kP kQ;lia
def Wrt(wr:List Int)(rs:List xq)(k:Nat)(x:Int):Prop:=x∈wr\/∃j r,j<k/\rs[j]? =some r/\x∈r.wrs
theorem Wrt.step{wr:List Int}{k:Nat}:Wrt wr (r::rs) (k+1) x↔Wrt (wr++r.wrs) rs k x:=by
 unfold Wrt;constructor
 ·rintro(h|⟨j,s,h1,h2,h3⟩)
  ·exact .inl (ba _ h)
  ·cases j with
   |zero=>cases h2;exact .inl (aI _ h3)
   |succ j=>exact .inr ⟨j,s,by lia,h2,h3⟩
 ·rintro(h|⟨j,s,h1,h2,h3⟩)
  ·rcases aW.mp h with h|h
   ·exact .inl h
   ·exact .inr ⟨0,r,by lia,rfl,h⟩
  ·exact .inr ⟨j+1,s,by lia,h2,h3⟩
def Wrt.zero{wr:List Int}:Wrt wr rs 0 x↔x∈wr:=⟨λh=>h.elim id λ⟨_,_,z,_⟩=>absurd z (fx _),.inl⟩
theorem xhW:∀{rs:List xq} {n:Nat} {wr:List Int},jj n rs wr=none->∀k r,rs[k]? =some r->∀x∈r.rds,¬Wrt wr rs k x
 |[],_,_,_,_,_,h,_,_=>by simp at h
 |r0::rs,n,wr,h,k,r,hr,x,hx=>by
  simp only[jj]at h
  split at h
  ·cases h
  ·rename_i hf;cases k with
   |zero=>
    cases hr;rw[Wrt.zero];simpa using eu.mp hf x hx
   |succ k=>
    rw[Wrt.step];exact xhW h k r hr x hx
theorem xiT(ok:r.ok):x∈(pcs r).flatten↔x∈r.wrs:=by
 cases r with
 |take to st c=>
  obtain⟨k1,k2,k3⟩:=ok;show x∈(yM to st c).flatten↔_;rw[xhV k3];simp only[xq.wrs]
  split
  ·rename_i h;simp[h]
  ·rename_i h;rw[zI,cb (by lia)];exact⟨λz=>z.2,λz=>⟨h,z⟩⟩
 |put to sg=>simp[pcs,xq.wrs]
structure xb0(es C0:List Int)(rs:List xq)(Cs:Nat->List Int):Prop where
 z:∃z:List Int,C0=es++z
 run:xqV rs C0 Cs rs.length
 good:∀r∈rs,Good es.length r/\r.to+r.cnt<=C0.length
 dis:Dis rs
theorem xb0.keep(h:xb0 es C0 rs Cs){x:Nat}(hx:x<C0.length):∀{k:Nat},k<=rs.length->¬Wrt [] rs k x->(Cs k)[x]? =C0[x]?
 |0,_,_=>by rw[h.run.1]
 |k+1,hk,hw=>by
  obtain⟨r,hr⟩:∃r,rs[k]? =some r:=⟨_,aD (by lia)⟩;have ok:=(h.good r (aK hr)).1.1;have h1:=(h.run.2.2 k r (by lia) hr).2 x (by rw[h.run.2.1];exact hx);rw[h1,if_neg (λz=>hw (.inr ⟨k,r,by lia,hr,(xiT ok).mp z⟩))];refine h.keep hx (by lia) λz=>hw ?_;rcases z with z|⟨j,s,z1,z2,z3⟩
  ·cases z
  ·exact .inr ⟨j,s,by lia,z2,z3⟩
theorem xb0.wrote(h:xb0 es C0 rs Cs){x:Nat}(hx:x<C0.length)(hr:rs[j]? =some r)(hw:(x:Int)∈r.wrs):∀{k:Nat},j<k->k<=rs.length->(Cs k)[x]? =xnL (Cs j) r x
 |0,z,_=>absurd z (fx _)
 |k+1,hj,hk=>by
  obtain⟨s,hs⟩:∃r,rs[k]? =some r:=⟨_,aD (by lia)⟩;have ok:=(h.good s (aK hs)).1.1;have h1:=(h.run.2.2 k s (by lia) hs).2 x (by rw[h.run.2.1];exact hx)
  by_cases e:j=k
  ·subst e;rw[hr]at hs;cases hs;rw[h1,if_pos ((xiT ok).mpr hw)]
  ·rw[h1,if_neg (λz=>e (h.dis j k r s hr hs x (xlo hw) (xlo ((xiT ok).mp z))))];exact h.wrote hx hr hw (by lia) (by lia)
theorem xb0.told(h:xb0 es C0 rs Cs){x:Nat}(hr:rs[j]? =some r)(hw:(x:Int)∈r.wrs)(kQ:∀y∈r.rds,¬Wrt [] rs j y):xnL (Cs j) r x=(r.sg es)[((x:Int) - r.to).toNat]? :=by
 obtain⟨⟨ok,_,kP⟩,kS⟩:=h.good r (aK hr);obtain⟨z,hz⟩:=h.z;have hj:j<rs.length:=(aw.mp hr).1;cases r with
 |put to sg=>rfl
 |take to st c=>
  obtain⟨k1,k2,k3⟩:=ok;have kP:st+c<=es.length:=kP;simp only[xq.wrs]at hw
  split at hw
  ·cases hw
  rename_i kR;have hx:=zI.mp hw;have hy:st+x - to∈xq.rds (.take to st c):=by
   simp only[xq.rds];rw[if_neg kR];exact zI.mpr (by lia)
  have e1:((st+x - to).toNat:Int)=st+x - to:=by lia
  have h1:=h.keep (x:=(st+x - to).toNat) (by rw[hz,aC];lia) (eG hj) (by rw[e1];exact kQ _ hy);show(Cs j)[(st+x - to).toNat]? =((es.drop st.toNat).take c.toNat)[((x:Int) - to).toNat]?;rw[h1,hz,bj (by lia),dv,if_pos (by lia),cG]
  congr 1;lia
theorem xb0.fine{nw:List Int}(h:xb0 es C0 rs Cs)(hl:xaD rs=none)(hC:nw.length<=C0.length)(ht:∀r∈rs,Tells es nw r)(hc:∀j,j<nw.length->∃r∈rs,zc r j):(Cs rs.length).take nw.length=nw:=by
 have kR:=xhW (n:=0) (wr:=[]) hl;obtain⟨z,hz⟩:=h.z;have kW:C0.length=es.length+z.length:=by rw[hz,aC]
 apply eF;intro j;rw[dv]
 by_cases hj:j<nw.length
 ·rw[if_pos hj];obtain⟨r,hr,kP⟩:=hc j hj;obtain⟨i,hi⟩:=bB.mp hr;have kS:i<rs.length:=(aw.mp hi).1;obtain⟨t1,t2,t3,t4⟩:=ht r hr;have kQ:=t1.to;have e2:=t4 ((j:Int) - r.to).toNat (by have:=kP.1;have:=kP.2;lia);rw[show(r.to+(((j:Int) - r.to).toNat:Nat)).toNat=j by have:=kP.1;lia]at e2;rw[e2]
  by_cases hw:(j:Int)∈r.wrs
  ·rw[h.wrote (by lia) hi hw kS (ay _),h.told hi hw (kR i r hi)]
  ·have hn:¬Wrt [] rs rs.length (j:Int):=by
    rintro(z|⟨i',s,_,h2,h3⟩)
    ·cases z
    have:=h.dis i i' r s hi h2 j (xln.mpr kP) (xlo h3);subst this;rw[hi]at h2;cases h2;exact hw h3
   rw[h.keep (by lia) (ay _) hn];cases r with
   |put to sg=>exact absurd (zI.mpr kP) hw
   |take to st c=>
    simp only[xq.wrs]at hw
    split at hw
    ·rename_i kT;subst kT;obtain⟨c1,c2⟩:=kP;have c1:st<=(j:Int):=c1;have c2:(j:Int)<st+(c.toNat:Nat):=c2;have t2:st+c<=es.length:=t2;have kQ:0<=st:=kQ;show _=((es.drop st.toNat).take c.toNat)[((j:Int) - st).toNat]?;rw[hz,bj (by lia),dv,if_pos (by lia),cG]
     congr 1;lia
    ·exact absurd (zI.mpr kP) hw
 ·rw[if_neg hj,bw (by lia)]
theorem Tl.nw{at':Int}(h:Tl old rs at')(he:(es.length:Int)=old):∃nw:List Int,(nw.length:Int)=at'/\∀r∈rs,Tells es nw r:=by
 induction h with
 |nil=>exact⟨[],rfl,λr z=>by cases z⟩
 | @snoc rs at' n r h1 hg ht hn ih=>
  obtain⟨nw,i1,i2⟩:=ih;have fit:r.fits es:=by
   cases r with
   |put to sg=>trivial
   |take to st c=>have:=hg.2.2;have:st+c<=old:=this;show st+c<=_;lia
  have kP:=xq.sg_len hg.1 fit;refine⟨nw++r.sg es,by rw[aC];lia,λs hs=>?_⟩;rcases aW.mp hs with hs|hs
  ·obtain⟨t1,t2,t3,t4⟩:=i2 s hs;refine⟨t1,t2,by rw[aC];lia,λi hi=>?_⟩;have:=t1.to;rw[bj (by lia)];exact t4 i hi
  ·rw[aj.mp hs];refine⟨hg.1,fit,by rw[aC];lia,λi hi=>?_⟩;have h0:(r.to+i).toNat=nw.length+i:=by lia
   rw[h0,bx (by lia)]
   congr 1;lia
def xhX{new:Int}{kP:List xq}(hp:rs.Perm kP)(h:Tl old kP new)(he:(es.length:Int)=old):∃nw:List Int,(nw.length:Int)=new/\(∀r∈rs,Tells es nw r)/\(∀j,j<nw.length->∃r∈rs,zc r j)/\(∀r∈rs,Good old r/\r.to+r.cnt<=new)/\Dis rs/\jD rs=none/\vf rs new.toNat=none:=by
 obtain⟨nw,h1,h2⟩:=h.nw he;obtain⟨f1,f2,f3,f4⟩:=h.facts;have kQ:((rs.map xq.cv).flatten).Perm ((kP.map xq.cv).flatten):=(hp.map xq.cv).flatten;have kR:(rs.map xq.cv).flatten.Nodup:=kQ.nodup_iff.mpr f2;have hm:∀x,x∈(rs.map xq.cv).flatten↔0<=x/\x<new:=λx=>by rw[kQ.mem_iff,f3]
 refine⟨nw,h1,λr hr=>h2 r (hp.mem_iff.mp hr),λj hj=>?_,λr hr=>f4 r (hp.mem_iff.mp hr),xs5 kR,?_,?_⟩
 ·have:=(hm j).mpr ⟨by lia,by lia⟩;obtain⟨cs,kT,kS⟩:=dS.mp this;obtain⟨r,hr,rfl⟩:=bZ.mp kT;exact⟨r,hr,xln.mp kS⟩
 ·exact xmP _ _ (by rw[xmQ];exact kR) λx _ z=>by cases z
 ·unfold vf;rw[eu];intro c hc;obtain⟨i,hi,rfl⟩:=bZ.mp hc;have:=dO.mp hi;simp only[Bool.not_eq_true',decide_eq_false_iff_not,Classical.not_not];exact(hm _).mpr (by lia)
theorem xpf{cur:List Int}{d:Int}(h:Part C r D cur)(hc:xdL r C.length d)(hs:∀to st c,r= .take to st c->st+d - to∉D):Part C r (D++[d]) (zt r cur d):=by
 obtain⟨hl,hv⟩:=h;obtain⟨h0,h1,h2⟩:=hc;have key:∀v:Int,xnL C r d=some v->zt r cur d=cur.set d.toNat v->Part C r (D++[d]) (zt r cur d):=λv e1 e2=>by
  rw[e2];refine⟨by rw[cD];exact hl,λj hj=>?_⟩;rw[g8]
  by_cases e:d.toNat=j
  ·have ej:(j:Int)=d:=by lia
   rw[if_pos e,if_pos (by lia),if_pos (aI _ (by simp[ej])),ej,e1]
  ·rw[if_neg e,hv j hj]
   by_cases hm:(j:Int)∈D
   ·rw[if_pos hm,if_pos (ba _ hm)]
   ·rw[if_neg hm,if_neg];intro z;rcases aW.mp z with z|z
    ·exact hm z
    ·have:=aj.mp z;lia
 cases r with
 |take to st c=>
  obtain⟨h3,h4⟩:=h2;have kP:(st+d - to).toNat<C.length:=by lia
  have e:=hv (st+d - to).toNat kP;rw[cb h3,if_neg (hs to st c rfl),aD kP]at e;refine key C[(st+d - to).toNat] (aD kP) ?_;show cur.set d.toNat (cur.getD (st+d - to).toNat 0)=_;rw[dG,e];rfl
 |put to sg=>
  obtain⟨h3,h4⟩:=h2;have kP:(d - to).toNat<sg.length:=by lia
  refine key sg[(d - to).toNat] (aD kP) ?_;show cur.set d.toNat (sg.getD (d - to).toNat 0)=_;rw[dG,aD kP];rfl
theorem xfC{C:List Int}{r:xq}:∀(ds:List Int) {D cur:List Int},Part C r D cur->(∀d∈ds,xdL r C.length d)->(∀(i:Nat) (d:Int),ds[i]? =some d->∀to st c,r= .take to st c->st+d - to∉D++ds.take i)->Part C r (D++ds) (doP r cur ds)
 |[],D,cur,h,_,_=>by rw[cC];exact h
 |d::ds,D,cur,h,hc,ho=>by
  have h1:=xpf h (hc d bh) λto st c e=>by
   have:=ho 0 d rfl to st c e;simpa using this
  have h2:=xfC ds h1 (λx hx=>hc x (aL _ hx)) λi x hx to st c e=>by
   have:=ho (i+1) x hx to st c e;simpa using this
  rw[bP]at h2;exact h2
theorem xmR:∀{xss:List (List Int)} {i:Nat} {d:Int},xss.flatten[i]? =some d->∃(k m:Nat) (p:List Int),xss[k]? =some p/\p[m]? =some d/\xss.flatten.take i=(xss.take k).flatten++p.take m
 |[],i,d,h=>by simp at h
 |p::xss,i,d,h=>by
  rw[cX]at h⊢
  by_cases hi:i<p.length
  ·rw[bj hi]at h;exact⟨0,i,p,rfl,h,by rw[List.take_append_of_le_length (eG hi)];rfl⟩
  ·rw[bx (by lia)]at h;obtain⟨k,m,q,h1,h2,h3⟩:=xmR h;refine⟨k+1,m,q,h1,h2,?_⟩;rw[List.take_append,h3,cz (by lia),List.take_succ_cons,cX,bP]
theorem xmS(r:xq):∀(cs:List (List Int)) (C:List Int),doL C (cs.map λc=>(r,c))=doP r C cs.flatten
 |[],_=>rfl
 |c::cs,C=>by
  rw[cX];show doL (doP r C c) (cs.map λc=>(r,c))=(c++cs.flatten).foldl (zt r) C;rw[eE,xmS r cs];rfl
def xnV(C:List Int)(xs ys:List (xq×List Int)):doL C (xs++ys)=doL (doL C xs) ys:=by
 unfold doL;rw[eE]
def xpg(r:xq):vj r=pcs r:=by cases r<;> rfl
def xqr(hk:r.ok)(hc:∀c∈vj r,yA C.length (r,c)):Part C r (pcs r).flatten (doL C ((vj r).map λc=>(r,c))):=by
 rw[xmS,xpg];have:=xfC (C:=C) (r:=r) (pcs r).flatten (D:=[]) (cur:=C) ⟨rfl,λj hj=>by simp⟩ (λd hd=>by
  obtain⟨p,hp,hd⟩:=dS.mp hd;exact(hc p (by rw[xpg];exact hp)).2.2 d hd) λi d hd to st c e=>by
   subst e;obtain⟨k,m,p,h1,h2,h3⟩:=xmR hd;rw[bY,h3];intro z;exact xnU hk.2.2 h1 h2 z rfl
 rw[bY]at this;exact this
def xqs(h:rs[j]? =some r):xP (rs.take (j+1))=xP (rs.take j)++(vj r).map λc=>(r,c):=by
 unfold xP;rw[cu,h,gC];simp
def xs6(hk:∀r∈rs,r.ok)(hc:∀x∈xP rs,yA C0.length x):xqV rs C0 (λk=>doL C0 (xP (rs.take k))) rs.length:=by
 refine⟨rfl,λj=>uO _ _,λj r _ hr=>?_⟩;show Part (doL C0 (xP (rs.take j))) r _ (doL C0 (xP (rs.take (j+1))));rw[xqs hr,xnV];have hm:=aK hr;refine xqr (hk r hm) λc h=>?_;rw[uO];exact hc (r,c) (eW.mpr ⟨r,hm,bZ.mpr ⟨c,h,rfl⟩⟩)
def uP(S:Nat->Prop)(ys:List V)(nw:List Int):Prop:=ys.length=nw.length/\∀j,S j->ys[j]? =(nw.map V.int)[j]?
def uP.set{S S':Nat->Prop}{ys:List V}{nw:List Int}{c:Nat}(h:uP S ys nw)(hv:nw[c]? =some v)(hS:∀j,S' j->S j\/j=c):uP S' (ys.set c (.int v)) nw:=by
 refine⟨by rw[cD];exact h.1,λj hj=>?_⟩;have hc:c<nw.length:=(aw.mp hv).1;rw[g8]
 by_cases e:c=j
 ·subst e;rw[if_pos rfl,if_pos (by rw[h.1];exact hc),aF,hv];rfl
 ·rw[if_neg e];rcases hS j hj with z|z
  ·exact h.2 j z
  ·exact absurd z.symm e
def uP.all{S:Nat->Prop}{ys:List V}{nw:List Int}(h:uP S ys nw)(k:∀j,j<nw.length->S j):ys=nw.map V.int:=by
 apply eF;intro j
 by_cases hj:j<nw.length
 ·exact h.2 j (k j hj)
 ·rw[bw (by rw[h.1];lia),bw (by rw[ag];lia)]
def xph(K:aq):Sp:=λvs H Q _=>Ex6 λ(p e:Addr) (o:Int) (rs:List xq) (es nw:List Int)=>vs=[.ref p,.ref e]/\yE K H p o nw.length rs/\H e=some (.lst (es.map V.int))/\(∀r∈rs,Tells es nw r)/\(∀j,j<nw.length->∃r∈rs,zc r j)/\nw.length<=1000/\xgy H Q nw
theorem xlp(T:Txt K mg a):xE P w K mg base CX0 1 a.q3V a.xiu ["_law_paper","_law_elder"] (xph K):=by
 refine T.q3J.ok xkW (λvs H Q E h=>?_) (λcdv A outer s H vs Q E hr h=>?_)
 ·obtain⟨p,e,o,rs,es,nw,rfl,_⟩:=h;rfl
 ·refine oG λ_ Z=>?_;obtain⟨p,e,o,rs,es,nw,rfl,⟨t,ts,hp,ht,lg⟩,he,lA,lF,lI,k⟩:=h;apply Z;have nd:=xkW.nd;refine⟨_,(xf (xC (i:=2) nd rfl (az rfl) (xx xgW (xX (xa yO xc)) (xM xT (cv 0) xg (λ_ _=>rfl))))
  (xf (yT PassesOwn.never rfl (xgS (xM xT (cv 0) xg (λ_ _=>rfl))) (yc (i:=3) nd rfl (az rfl)) (xk (xS (xN xbT (xM xT (cv 3) xg (λ_ _=>rfl)) xH) (xk (yT PassesOwn.never rfl (xbd (by rfl) T.q16 (xa (xM xT (cv 3) xg (λ_ _=>rfl)) xc)) (yc (i:=4) nd rfl (az rfl)) (xk (xdu (xM yx (cv 1) (xx ym (xM xT (cv 3) xg (λ_ _=>rfl)) (cv 4)) (λ_ _=>rfl)) (xgR (cv 2) (xx ym (xM xT (cv 3) xg (λ_ _=>rfl)) (cv 4)) set_list))))) (xk (yT PassesOwn.never rfl (xbd (by rfl) T.q16 (xa (xI xQ (by rfl) T.q0O yu (xa (xM xT (cv 3) xg (λ_ _=>rfl)) xc)) xc)) (yc (i:=4) nd rfl (az rfl)) (xk (xdu (xM xT (xM xT (cv 3) xg (λ_ _=>rfl)) (cv 4) (λ_ _=>rfl)) (xgR (cv 2) (xx ym (xM xT (cv 3) xg (λ_ _=>rfl)) (cv 4)) set_list))))))))
  (xk (xv (cv 2))))),?_⟩
  have tl:ts.length=rs.length:=lg.length;right;refine λl0 lD=>xw (upd H l0 _) rfl lD λH1 la lH=>?_;refine⟨p,_,_,.int nw.length,rfl,rfl,SqT.of (la.at hp),rfl,?_⟩;refine⟨l0,_,_,rfl,rfl,lH,by lia,by lia,by simp[aZ];lia,?_⟩;exists λnl lp=>xw (upd H1 nl _) rfl lp λH2 ly lr=>?_;have ef:(ao ((nw.length:Nat):Int).toNat [V.non]).flatten=ao nw.length V.non:=by
   rw[List.flatten_replicate_singleton,cL]
  rw[ef]at lr;have s2:xj H H2:=la.trans ly;have kW:H nl=none:=la.back lp;refine⟨p,_,_,.ref t,rfl,rfl,SqT.of (s2.at hp),rfl,?_⟩;refine⟨t,rfl,⟨_,SqT.of (s2.at ht)⟩,?_⟩;refine xjm (xs:=ts.map V.ref) (λk σ G=>xj H G/\∃ys x3 x4,σ=[some (.ref p),some (.ref e),some (.ref nl),x3,x4]/\G nl=some (.lst ys)/\uP (λj=>∃r∈rs.take k,zc r j) ys nw) ⟨s2,_,_,_,rfl,lr,by simp,λj hj=>?_⟩ (λi σ G hi kX=>?_) (λk0 x σ G hx kX=>?_) (λσ G kX=>?_)
  ·obtain⟨r,lB,_⟩:=hj;simp at lB
  ·exact SqT.of (kX.1.at ht)
  ·refine oG λ_ Z=>?_;obtain⟨sG,ys,x3,x4,rfl,kS,kZ⟩:=kX;apply Z;rw[aF]at hx;refine oG λ_ Z=>?_;obtain⟨t0,hb,rfl⟩:=aO.mp hx;obtain⟨r,lh,pr⟩:=Paired.nth lg hb;obtain⟨g1,g2,g3,g4⟩:=lA r (aK lh);apply Z;have lG:=g1.to;have tk:rs.take (k0+1)=rs.take k0++[r]:=by rw[cu,lh];rfl
   have lb:∀{G5:Hp} {kR:List V} {i:Nat},xj H G5->G5 nl=some (.lst kR)->uP (λj=>(∃r∈rs.take k0,zc r j)\/(r.to<=j/\(j:Int)<r.to+i)) kR nw->∀v,(r.sg es)[i]? =some v->i<r.cnt->∀G6,upd G5 nl (.lst (kR.set (r.to+i).toNat (.int v)))=G6->
     xj H G6/\G6 nl=some (.lst (kR.set (r.to+i).toNat (.int v)))/\uP (λj=>(∃r∈rs.take k0,zc r j)\/(r.to<=j/\(j:Int)<r.to+((i+1:Nat):Int))) (kR.set (r.to+i).toNat (.int v)) nw:=λ{G5 kR i} s5 e5 kP v hv lE G6 hU=>by
    refine⟨xj.wr s5 kW hU,by rw[<-hU,xp],kP.set ((g4 i lE).trans hv) λj hj=>?_⟩;rcases hj with z|z
    ·exact .inl (.inl z)
    ·by_cases lC:(j:Int)<r.to+i
     ·exact .inl (.inr ⟨z.1,lC⟩)
     ·exact .inr (by lia)
   have fin:∀{G5:Hp} {kR:List V},xj H G5->G5 nl=some (.lst kR)->uP (λj=>(∃r∈rs.take k0,zc r j)\/(r.to<=j/\(j:Int)<r.to+r.cnt)) kR nw->uP (λj=>∃r∈rs.take (k0+1),zc r j) kR nw:=λ{G5 kR} s5 e5 kP=>by
    refine⟨kP.1,λj hj=>?_⟩;refine oG λ_ Z=>?_;obtain⟨r',ll,kY⟩:=hj;apply Z;rw[tk]at ll;rcases aW.mp ll with z|z
    ·exact kP.2 j (.inl ⟨r',z,kY⟩)
    ·rw[aj.mp z]at kY;exact kP.2 j (.inr ⟨kY.1,kY.2⟩)
   have lq:uP (λj=>(∃r∈rs.take k0,zc r j)\/(r.to<=j/\(j:Int)<r.to+((0:Nat):Int))) ys nw:=⟨kZ.1,λj hj=>by
    rcases hj with z|z
    ·exact kZ.2 j z
    ·lia⟩
   left;cases r with
   |put to sg=>
    refine oG λ_ Z=>?_;obtain⟨u,q1,q2⟩:=pr;apply Z;refine⟨t0,_,_,.str "put",rfl,rfl,SqT.of (sG.at q1),rfl,?_⟩;walk_at"N";refine⟨t0,_,_,.ref u,rfl,rfl,SqT.of (sG.at q1),rfl,?_⟩;exists⟨u,_,rfl,.inr (SqT.of (sG.at q2)),?_⟩;have er:zg 0 (((sg.map V.int).length:Nat):Int) 1=sg.length:=by rw[uB,ag];lia
    rw[er];refine xcS (λi σ G=>xj H G/\∃ys x4,σ=[some (.ref p),some (.ref e),some (.ref nl),some (.ref t0),x4]/\G nl=some (.lst ys)/\uP (λj=>(∃r∈rs.take k0,zc r j)\/(to<=j/\(j:Int)<to+i)) ys nw)
     ⟨sG,ys,_,rfl,kS,lq⟩ (λi σ G5 hi kT=>?_) (λσ G5 kT=>?_)
    ·refine oG λ_ Z=>?_;obtain⟨s5,kR,y4,rfl,kQ,kP⟩:=kT;apply Z;have ei:(0:Int)+(i:Int)*1=(i:Int):=by lia
     obtain⟨v,hv⟩:∃v,sg[i]? =some v:=⟨_,aD hi⟩;left;rw[ei];refine⟨t0,_,_,.ref u,rfl,rfl,SqT.of (s5.at q1),rfl,?_⟩;refine⟨u,_,_,.int v,rfl,rfl,SqT.of (s5.at q2),xh7 (by rw[aF,hv];rfl),?_⟩;refine⟨t0,_,_,.int to,rfl,rfl,SqT.of (s5.at q1),rfl,?_⟩;refine⟨nl,_,_,(to+i).toNat,rfl,rfl,kQ,xhc (by have:0<=to:=lG;lia) (by rw[kP.1];have:to+(sg.length:Nat)<=nw.length:=g3;lia),?_⟩;refine gnr (upd G5 nl _) λG6 hU=>?_;refine oG λ_ Z=>?_;obtain⟨k1,k2,k3⟩:=lb s5 kQ kP v hv hi G6 hU;apply Z;exact⟨k1,_,_,rfl,k2,k3⟩
    ·refine oG λ_ Z=>?_;obtain⟨s5,kR,y4,rfl,kQ,kP⟩:=kT;apply Z;exact⟨s5,_,_,_,rfl,kQ,fin s5 kQ kP⟩
   |take to st c=>
    refine oG λ_ Z=>?_;obtain⟨b1,b2,b3⟩:=g1;apply Z;have q1:H t0=some (.tup [.str "take",.int to,.int st,.int c]):=pr;refine⟨t0,_,_,.str "take",rfl,rfl,SqT.of (sG.at q1),rfl,?_⟩;walk_at"Y";exists⟨t0,_,_,.int c,rfl,rfl,SqT.of (sG.at q1),rfl,?_⟩;have er:zg 0 c 1=c.toNat:=by rw[uB];lia
    rw[er];refine xcS (λi σ G=>xj H G/\∃ys x4,σ=[some (.ref p),some (.ref e),some (.ref nl),some (.ref t0),x4]/\G nl=some (.lst ys)/\uP (λj=>(∃r∈rs.take k0,zc r j)\/(to<=j/\(j:Int)<to+i)) ys nw)
     ⟨sG,ys,_,rfl,kS,lq⟩ (λi σ G5 hi kT=>?_) (λσ G5 kT=>?_)
    ·refine oG λ_ Z=>?_;obtain⟨s5,kR,y4,rfl,kQ,kP⟩:=kT;apply Z;have ei:(0:Int)+(i:Int)*1=(i:Int):=by lia
     obtain⟨v,hv⟩:∃v,(xq.sg es (.take to st c))[i]? =some v:=⟨_,aD (by rw[xq.sg_len (r:=.take to st c) ⟨b1,b2,b3⟩ g2];exact hi)⟩;have lz:es[(st+i).toNat]? =some v:=by
      have hv:((es.drop st.toNat).take c.toNat)[i]? =some v:=hv;rw[dP hi,cG]at hv;rw[<-hv];congr 1;lia
     left;rw[ei];refine⟨t0,_,_,.int st,rfl,rfl,SqT.of (s5.at q1),rfl,?_⟩;refine⟨e,_,_,.int v,rfl,rfl,SqL.of (s5.at he),xkt (by lia) lz,?_⟩;refine⟨t0,_,_,.int to,rfl,rfl,SqT.of (s5.at q1),rfl,?_⟩;refine⟨nl,_,_,(to+i).toNat,rfl,rfl,kQ,xhc (by lia) (by rw[kP.1];have:to+(c.toNat:Nat)<=nw.length:=g3;lia),?_⟩;refine gnr (upd G5 nl _) λG6 hU=>?_;refine oG λ_ Z=>?_;obtain⟨k1,k2,k3⟩:=lb s5 kQ kP v hv hi G6 hU;apply Z;exact⟨k1,_,_,rfl,k2,k3⟩
    ·refine oG λ_ Z=>?_;obtain⟨s5,kR,y4,rfl,kQ,kP⟩:=kT;apply Z;exact⟨s5,_,_,_,rfl,kQ,fin s5 kQ kP⟩
  ·refine oG λ_ Z=>?_;obtain⟨sG,ys,x3,x4,rfl,kS,kZ⟩:=kX;apply Z;have e:ys=nw.map V.int:=kZ.all λj hj=>by
    refine oG λ_ Z=>?_;obtain⟨r,h1,h2⟩:=lF j hj;apply Z;refine⟨r,?_,h2⟩;rw[cz (by simp;lia)];exact h1
   rw[e]at kS;exact k nl G sG kW kS
def xgI{to:Int}{sg:List Int}(h0:0<=to)(h1:sg≠[])(h8:sg.length<=8)(hs:∀x∈sg,Sg x):Good old (.put to sg):=⟨⟨h0,h1,by lia,λx hx=>Int.lt_of_le_of_lt (hs x hx) (by decide)⟩,trivial,trivial⟩
theorem NP.tl(h:NP old o n rs):∃kQ,rs.Perm kQ/\Tl old kQ n:=by
 cases h with
 |no o ho=>exact⟨[],.refl _,.nil⟩
 |put o sg ho h1 h8 hs=>
  refine⟨[.put 0 sg],.refl _,?_⟩;have:=Tl.snoc (old:=old) (r:=.put 0 sg) (n:=sg.length) .nil (xgI (by decide) (by intro z;rw[z]at h1;cases h1) h8 hs) rfl rfl;rw[iH]at this;exact this
 |take to st c sg h8 hs h0 h1 h2 h3 h4=>
  have tk:∀{kR:List xq},Tl old kR to->Tl old (kR++[.take to st c]) (to+c):=λh=>Tl.snoc (r:=.take to st c) h ⟨⟨h0,h1,h2⟩,trivial,h3⟩ rfl (show((c.toNat:Nat):Int)=c by lia);have fst:∃a,(if 0<to then[xq.put 0 (sg.take to.toNat)]else[])=a/\Tl old a to:=by
   by_cases z:0<to
   ·rw[if_pos z];refine⟨_,rfl,?_⟩;have hl:(sg.take to.toNat).length=to.toNat:=by rw[bz];lia
    have:=Tl.snoc (old:=old) (r:=.put 0 (sg.take to.toNat)) (n:=to) .nil (xgI (by decide) (by intro e;rw[e]at hl;simp at hl;lia) (by lia) (λx hx=>hs x (eX hx))) rfl (show((sg.take to.toNat).length:Int)=to by lia);rw[iH]at this;exact this
   ·rw[if_neg z];obtain rfl:to=0:=by lia
    exact⟨_,rfl,.nil⟩
  obtain⟨a,ea,ha⟩:=fst;rw[ea];have kP:=tk ha
  by_cases z:to+c<(sg.length:Int)
  ·rw[if_pos z];refine⟨a++[.take to st c]++[.put (to+c) (sg.drop (to+c).toNat)],?_,?_⟩
   ·rw[bP];exact(List.perm_middle (a:=xq.take to st c) (l₁:=a) (l₂:=[.put (to+c) (sg.drop (to+c).toNat)])).symm
   ·have hl:(sg.drop (to+c).toNat).length=sg.length - (to+c).toNat:=cT;have:=Tl.snoc (r:=.put (to+c) (sg.drop (to+c).toNat)) (n:=(sg.length:Int) - (to+c)) kP (xgI (by lia) (by intro e;rw[e]at hl;simp at hl;lia) (by lia) (λx hx=>hs x (cK hx))) rfl (show((sg.drop (to+c).toNat).length:Int)=_ by lia);rw[show to+c+((sg.length:Int) - (to+c))=sg.length by lia]at this;exact this
  ·rw[if_neg z,cC];refine⟨a++[xq.take to st c],(List.perm_append_comm (l₁:=a) (l₂:=[xq.take to st c])).symm,?_⟩;rw[show to+c=(sg.length:Int)by lia]at kP;exact kP
theorem xc2:∀(n:Nat) (rs:List xq) (wr:List Int),(∀r∈rs,r.rds=[])->jj n rs wr=none
 |_,[],_,_=>rfl
 |n,r::rs,wr,h=>by
  rw[jj,h r bh];exact xc2 (n+1) rs _ λx hx=>h x (aL _ hx)
theorem NP.late(h:NP old o n rs):xaD rs=none:=by
 cases h with
 |no o ho=>rfl
 |put o sg ho h1 h8 hs=>exact xc2 0 _ [] λr hr=>by rw[aj.mp hr];rfl
 |take to st c sg h8 hs h0 h1 h2 h3 h4=>
  unfold xaD;rw[jj];rw[show(xq.take to st c).rds.find? (λc=>decide (c∈([]:List Int)))=none by rw[eu];intro x _;simp];refine xc2 1 _ _ λr hr=>?_;rcases aW.mp hr with hr|hr
  ·split at hr
   ·rw[aj.mp hr];rfl
   ·cases hr
  ·split at hr
   ·rw[aj.mp hr];rfl
   ·cases hr
theorem NP.fine(h:NP old o n rs)(h0:0<=old):jF rs n=none/\jD rs=none/\0<=n/\n<=8/\rs.length<=3/\(o=0\/o=old):=by
 obtain⟨kP,hp,ht⟩:=h.tl;obtain⟨nw,e,_,_,_,_,tw,lk⟩:=xhX (es:=ao old.toNat 0) hp ht (by rw[bf];lia);refine⟨by unfold jF;rw[lk,h.late],tw,?_⟩;cases h with
 |no o ho=>exact⟨by decide,by decide,by decide,ho⟩
 |put o sg ho h1 h8 hs=>exact⟨by lia,by lia,by simp,ho⟩
 |take to st c sg h8 hs h0 h1 h2 h3 h4=>
  refine⟨by lia,by lia,?_,.inr rfl⟩;rw[bD,aC]
  split<;> split<;> simp
def xeq(am:Bool)(c:Int)(k:Nat)(n:Int):Option (Option Int):=if am=false\/29<k\/0<mixed c n%3 then none else if mixed c n / 64%3=0 then some none else if mixed c n / 64%3=1 then some (some (mixed c n / 8%9 - 4))else some (some (mixed c n*10^(gR 30)))
def xnW(am:Bool):List Int:=if am then[1]else[]
def xpi(K:aq):Sp:=λvs H Q _=>Ex8 λ(c n:Int) (co ar fa:Addr) (am:Bool) (cs ys:List V)=>vs=[.int c,.ref co,.ref ar,.ref fa,.int n]/\H co=some (.lst cs)/\H ar=some (.lst ((xnW am).map V.int))/\H fa=some (.lst ys)/\cs.length<=9000000/\ys.length<=30/\co≠ar/\co≠fa/\ar≠fa/\
 ∀v H',Kp [co,fa] H H'->H' co=some (.lst (cs++[.int n]))->(∃kP,H' fa=some (.lst kP)/\kP.length=ys.length+nf (xeq am c ys.length n))->xnF H' v (xeq am c ys.length n)->Q v H'
abbrev xcL:Expr:=vi 2 (xoE ((xr yL).getD 6 (.Pass ⟨0,0,0,0⟩)))
def xmT:zh ["_law_count","_law_armed","_law_cell","_law_counts","_law_falls"] ["_law_count"] ["_law_armed","_law_cell","_law_counts","_law_falls"] (yq xcL):=by walk_at"d"
noncomputable abbrev fvL(ar co fa:Addr)(c:Int):List (Str×V):=[("_law_armed",.ref ar),("_law_cell",.int c),("_law_counts",.ref co),("_law_falls",.ref fa)]
abbrev xuj(H:Hp)(f ar co fa:Addr)(c:Int):Prop:=yK H f "<lambda>" "law.<locals>.<lambda>" (uj xcL) (.expr (uk xcL)) (yq xcL) (fvL ar co fa c)
def xr5(K:aq):List (Str×V)->Sp:=λfv vs H Q E=>Ex5 λ(ar co fa:Addr) (c n:Int)=>fv=fvL ar co fa c/\vs=[.int n]/\xpi K [.int c,.ref co,.ref ar,.ref fa,.int n] H Q E
abbrev xcM:Expr:=vi 2 (xoE ((xr xZ).getD 7 (.Pass ⟨0,0,0,0⟩)))
def xmU:zh ["_law_count","_law_stop"] ["_law_count"] ["_law_stop"] (yq xcM):=by walk_at"d"
abbrev xs7(H:Hp)(f:Addr)(st:Int):Prop:=yK H f "<lambda>" "_law_exchanged.<locals>.<lambda>" (uj xcM) (.expr (uk xcM)) (yq xcM) [("_law_stop",.int st)]
noncomputable def exF(st n:Int):Option (Option Int):=if n=st then some none else none
def xr6:List (Str×V)->Sp:=λfv vs H Q _=>Ex2 λ(st n:Int)=>fv=([("_law_stop",.int st)]:List (Str×V))/\vs=[.int n]/\∀v H',xj H H'->xnF H' v (exF st n)->Q v H'
def jT(n:Int):List Int:=xY 0 n.toNat
def zK(f ar co fa:Addr)(c:Int)(am:Bool):FM where
 f:=f
 M:=[co,ar,fa]
 lim:=9000000
 fo:=λk n=>xeq am c k n
 At:=λH k n=>xuj H f ar co fa c/\H co=some (.lst ((jT n).map V.int))/\H ar=some (.lst ((xnW am).map V.int))/\(∃ys,H fa=some (.lst ys)/\ys.length=k)/\k<=30/\co≠ar/\co≠fa/\ar≠fa
 keep:=λh kp mu hn=>⟨yK.kp h.1 mu kp,kp _ _ h.2.1 (λz=>hn _ z (by simp)),kp _ _ h.2.2.1 (λz=>hn _ z (by simp)),let⟨ys,q1,q2⟩:=h.2.2.2.1;⟨ys,kp _ _ q1 (λz=>hn _ z (by simp)),q2⟩,h.2.2.2.2⟩
 mu:=λh x hx=>by
  simp only[av,aV,or_false]at hx;rcases hx with rfl|rfl|rfl
  ·exact⟨_,h.2.1,trivial⟩
  ·exact⟨_,h.2.2.1,trivial⟩
  ·obtain⟨ys,q1,_⟩:=h.2.2.2.1;exact⟨_,q1,trivial⟩
def FEx(f:Addr)(st:Int):FM where
 f:=f
 M:=[]
 lim:=9000000
 fo:=λ_ n=>exF st n
 At:=λH _ _=>xs7 H f st
 keep:=λh kp mu _=>yK.kp h mu kp
 mu:=λ_ x hx=>by cases hx
def xqt(c n:Int):0<=mixed c n/\mixed c n<2147483647:=by
 unfold mixed;exact⟨ez _ (by decide),dn _ (by decide)⟩
theorem xs8(T:Txt K mg a):xE P w K mg base CX0 2 a.q4K a.xnz ["_law_cell","_law_counts","_law_armed","_law_falls","_law_count"] (xpi K):=by
 refine T.q4L.ok xo0 (λvs H Q E h=>?_) (λcdv A outer s H vs Q E hr h=>?_)
 ·obtain⟨c,n,co,ar,fa,am,cs,ys,rfl,_⟩:=h;rfl
 ·refine oG λ_ Z=>?_;obtain⟨c,n,co,ar,fa,am,cs,ys,rfl,lb,lA,lz,lG,lF,n1,n2,n3,q⟩:=h;apply Z;have nd:=xo0.nd;refine⟨_,(xf (xK (xbR PySem.F.plainAttrs_list PySem.F.slot_list_append PySem.F.type_list_append uq (cv 1) (xa (cv 4) xc)))
  (xf (xC (i:=5) nd rfl (az rfl) (xy (vW T) hr.m (by rfl) T.jZ T.q15.kp T.jY .nil xt (xa (cv 0) (xa (cv 4) xc))))
  (xf (xS (PW.pt (zq (xN (xdZ hr.units) (cv 2) (xX xc)) (zq (xN xc7 (xI xQ (by rfl) T.q0O yu (xa (cv 3) xc)) xg) (uo (xN xc7 (xx yU (cv 5) xg) xg))))) (xk (xv yO)) xF)
  (xf (xK (xbR PySem.F.plainAttrs_list PySem.F.slot_list_append PySem.F.type_list_append uq (cv 3) (xa (cv 4) xc)))
  (xk (xv (xM yx (xX (xa (xR xc) (xa (xR (xa (xx jc (xx yU (xx xeW (cv 5) xg) xg) xg) xc)) (xa (xR (xa (xx xfK (cv 5) (xx xdT xg xg)) xc)) xc)))) (xx yU (xx xeW (cv 5) xg) xg) (λ_ _=>rfl)))))))),?_⟩
  left;refine aY (.inl ⟨rfl,_,SqL.of lb⟩) ?_;refine⟨co,_,_,rfl,rfl,lb,(by rw[aZ];lia),?_⟩;refine gnr (upd H co _) λH1 hU=>?_;have k1:Kp [co,fa] H H1:=by rw[<-hU];exact(Kp.of (xj.refl _)).wr (by simp)
  have e1:H1 co=some (.lst (cs++[.int n])):=by rw[<-hU,xp]
  have e2:H1 ar=some (.lst ((xnW am).map V.int)):=by rw[<-hU,xm (au n1)];exact lA
  have e3:H1 fa=some (.lst ys):=by rw[<-hU,xm (au n2)];exact lz
  clear hU;refine⟨c,n,rfl,?_⟩;unfold xeq at q;have ly:=xqt c n;generalize mixed c n=dr at q ly;right;exists λz0 lh=>xw (upd H1 z0 _) rfl lh λH2 kP lB=>?_;refine jW (f:=λb=>b) ⟨ar,z0,xnW am,[],rfl,rfl,SqL.of (kP.at e2),SqL.of lB,?_⟩;have kA:Kp [co,fa] H H2:=k1.trans (Kp.of kP);have no:(am=false\/29<ys.length\/0<dr%3)->∀G,xj H2 G->Q .non G:=λhc G sG=>by
   rw[if_pos hc]at q;exact q .non G (kA.trans (Kp.of sG)) ((kP.trans sG).at e1) ⟨ys,(kP.trans sG).at e3,rfl⟩ rfl
  cases am with
  |false=>
   walk_at"Y";walk_at"y";exact no (.inl rfl) H2 (xj.refl _)
  |true=>
   walk_at"N";refine⟨fa,_,rfl,.inl (SqL.of (kP.at e3)),?_⟩;refine⟨λb=>?_,λb=>?_⟩
   ·have b:(29:Int)<ys.length:=of_decide_eq_true b;walk_at"y";exact no (.inr (.inl (by lia))) H2 (xj.refl _)
   have b:¬(29:Int)<ys.length:=of_decide_eq_false b;right;refine⟨λb2=>?_,λb2=>?_⟩
   ·have b2:0<dr%3:=of_decide_eq_true b2;left;exact no (.inr (.inr b2)) H2 (xj.refl _)
   have b2:¬0<dr%3:=of_decide_eq_false b2;rw[if_neg (by rintro(z|z|z)<;> first|cases z|lia)]at q;left;refine aY (.inl ⟨rfl,_,SqL.of (kP.at e3)⟩) ?_;refine⟨fa,_,_,rfl,rfl,kP.at e3,(by rw[aZ];lia),?_⟩;refine gnr (upd H2 fa _) λH3 hU=>?_;have k3:Kp [co,fa] H H3:=by rw[<-hU];exact kA.wr (by simp)
   have f1:H3 co=some (.lst (cs++[.int n])):=by rw[<-hU,xm n2];exact kP.at e1
   have f3:H3 fa=some (.lst (ys++[.int n])):=by rw[<-hU,xp]
   clear hU;right;exists λt1 lq=>xw (upd H3 t1 _) rfl lq λH4 lg lE=>?_;walk_at"ss";exists λt2 lp=>xw (upd H4 t2 _) rfl lp λH5 la lD=>?_;refine aY ⟨by decide,by decide,by decide⟩ ?_;left;refine aY (.inl ⟨by lia,by lia⟩) ?_;right;exists λt3 ll=>xw (upd H5 t3 _) rfl ll λH6 kR lC=>?_;walk_at"ss";exists λso lr=>xw (upd H6 so _) rfl lr λH7 kQ kY=>?_;walk_at"ss";have kS:=lg.trans (la.trans (kR.trans kQ));have k7:Kp [co,fa] H H7:=k3.trans (Kp.of kS);have kX:=kS.at f1;have kW:∀o:Option Int,∃kZ,H7 fa=some (.lst kZ)/\kZ.length=ys.length+nf (some o):=λo=>⟨_,kS.at f3,by rw[aC];rfl⟩
   by_cases hz:dr / 64%3=0
   ·rw[if_pos hz]at q;refine⟨so,_,_,.ref t1,rfl,rfl,SqL.of kY,by rw[hz];rfl,?_⟩;exact q _ H7 k7 kX (kW _) ⟨t1,rfl,(la.trans (kR.trans kQ)).at lE⟩
   rw[if_neg hz]at q
   by_cases kT:dr / 64%3=1
   ·rw[if_pos kT]at q;refine⟨so,_,_,.ref t2,rfl,rfl,SqL.of kY,by rw[kT];rfl,?_⟩;exact q _ H7 k7 kX (kW _) ⟨t2,rfl,(kR.trans kQ).at lD⟩
   ·rw[if_neg kT]at q;have h2:dr / 64%3=2:=by lia
    refine⟨so,_,_,.ref t3,rfl,rfl,SqL.of kY,by rw[h2];rfl,?_⟩;exact q _ H7 k7 kX (kW _) ⟨t3,rfl,kQ.at lC⟩
def xnX(T:Txt K mg a):yV P w K mg base CX0 3 "<lambda>" "law.<locals>.<lambda>" (uj xcL) (.expr (uk xcL)) (yq xcL) ["_law_count"] (xr5 K):=by
 refine xaR xmT (λfv vs H Q E h=>?_) (λ_ _ _ _ _ us hl=>match us,hl with|[_],_=>rfl) (λA outer s H f clos cdv fv vs Q E hr h=>?_)
 ·obtain⟨ar,co,fa,c,n,rfl,rfl,_⟩:=h;exact⟨rfl,rfl⟩
 ·refine oG λ_ Z=>?_;obtain⟨ar,co,fa,c,n,rfl,rfl,q⟩:=h;apply Z;have nd:=xmT.nd;refine⟨_,(xy (xs8 T) hr.m (by rfl) T.xtM T.q4L.kp T.xtL .nil xt (xa (cv 2) (xa (cv 3) (xa (cv 1) (xa (cv 4) (xa (cv 0) xc)))))),?_⟩;left;exact q
def xmf(T:Txt K mg a):yV P w K mg base CX0 3 "<lambda>" "_law_exchanged.<locals>.<lambda>" (uj xcM) (.expr (uk xcM)) (yq xcM) ["_law_count"] xr6:=by
 refine xaR xmU (λfv vs H Q E h=>?_) (λ_ _ _ _ _ us hl=>match us,hl with|[_],_=>rfl) (λA outer s H f clos cdv fv vs Q E hr h=>?_)
 ·obtain⟨st,n,rfl,rfl,_⟩:=h;exact⟨rfl,rfl⟩
 ·refine oG λ_ Z=>?_;obtain⟨st,n,rfl,rfl,q⟩:=h;apply Z;have nd:=xmU.nd;refine⟨_,(xM yx (xX (xa yO (xa (xR xc) xc))) (xW xcP (by rfl) T.q4N xe0 (xa (zb xa5 (cv 0) (cv 1)) xc)) (λ_ _=>rfl)),?_⟩;unfold exF at q;right;exists λt1 kS=>xw (upd H t1 _) rfl kS λH1 kQ kW=>?_;walk_at"ss";exists λso kT=>xw (upd H1 so _) rfl kT λH2 kP kR=>?_;walk_at"ss";exists .inr ⟨decide (n=st),rfl,?_⟩
  by_cases hz:n=st
  ·rw[if_pos hz]at q;refine⟨so,_,_,.ref t1,rfl,rfl,SqL.of kR,by rw[decide_eq_true hz];rfl,?_⟩;exact q _ H2 (kQ.trans kP) ⟨t1,rfl,kP.at kW⟩
  ·rw[if_neg hz]at q;refine⟨so,_,_,.non,rfl,rfl,SqL.of kR,by rw[decide_eq_false hz];rfl,?_⟩;exact q _ H2 (kQ.trans kP) rfl
def xjG(h:0<=n):(jT (n+1)).map V.int=(jT n).map V.int++[.int n]:=by
 unfold jT xY;rw[show(n+1).toNat=n.toNat+1 by lia,List.range_succ,bH,bH];simp;lia
def xgJ(n:Int):(jT n).length=n.toNat:=by unfold jT xY;simp
def xfT(T:Txt K mg a)(f ar co fa:Addr)(c:Int)(am:Bool):ua P w K mg base (zK f ar co fa c am) where
 run:=λ{H k n Q} h hn q=>by
  obtain⟨h1,h2,h3,⟨ys,h4,h5⟩,h6,n1,n2,n3⟩:=id h;have hn:0<=n/\n<9000000:=hn;refine⟨_,_,_,_,_,_,_,_,xnX T,h1,ar,co,fa,c,n,rfl,rfl,c,n,co,ar,fa,am,_,ys,rfl,h2,h3,h4,?_,by lia,n1,n2,n3,λv H' kp e1 e2 hv=>?_⟩
  ·rw[ag,xgJ];lia
  ·rw[h5]at e2 hv;have mu:MuL H [co,fa]:=λx hx=>by
    simp only[av,aV,or_false]at hx;rcases hx with rfl|rfl
    ·exact⟨_,h2,trivial⟩
    ·exact⟨_,h4,trivial⟩
   refine q v H' (kp.mono λx hx=>by
    simp only[av,aV,or_false]at hx;rcases hx with rfl|rfl
    ·exact bh ..
    ·exact aL _ (aL _ (bh ..))) hv ⟨yK.kp h1 mu kp,by rw[xjG hn.1];exact e1,kp _ _ h3 (by simp[au n1,n3]),e2,?_,n1,n2,n3⟩
   show k+nf (xeq am c k n)<=30
   by_cases hk:29<k
   ·have:xeq am c k n=none:=if_pos (.inr (.inl hk));rw[this];show k+0<=30;lia
   ·have:nf (xeq am c k n)<=1:=by unfold nf;split<;> lia
    lia
 clo:=λh=>⟨_,_,_,_,_,_,h.1⟩
def xhY(T:Txt K mg a)(f:Addr)(st:Int):ua P w K mg base (FEx f st) where
 run:=λ{H k n Q} h _ q=>⟨_,_,_,_,_,_,_,_,xmf T,h,st,n,rfl,rfl,λv H' s hv=>q v H' (Kp.of s) hv ((FEx f st).keep (L:=[]) (k:=k) (n:=n) h (Kp.of s) (λ_ z=>nomatch z) (λ_ z=>nomatch z))⟩
 clo:=λh=>⟨_,_,_,_,_,_,h⟩
theorem Tl.mono{kP:Int}(hl:old<=kP)(h:Tl old rs n):Tl kP rs n:=by
 induction h with
 |nil=>exact .nil
 | @snoc rs at' n r h1 hg ht hn ih=>
  refine .snoc ih ⟨hg.1,hg.2.1,?_⟩ ht hn;cases r with
  |put to sg=>trivial
  |take to st c=>have:st+c<=old:=hg.2.2;show st+c<=kP;lia
theorem NP.sm(h:NP old o n rs)(ho:old<=100):∀r∈rs,Sm r:=by
 cases h with
 |no=>intro r z;cases z
 |put o sg _ h1 h8 hs=>intro r hr;rw[aj.mp hr];exact⟨by lia,by lia⟩
 |take to st c sg h8 hs h0 h1 h2 h3 h4=>
  intro r hr;rcases av.mp hr with rfl|hr
  ·exact⟨by lia,by lia,by lia⟩
  rcases aW.mp hr with hr|hr
  ·split at hr
   ·rw[aj.mp hr];exact⟨by lia,by rw[bz];lia⟩
   ·cases hr
  ·split at hr
   ·rw[aj.mp hr];exact⟨by lia,by rw[cT];lia⟩
   ·cases hr
theorem NP.ok(h:NP old o n rs)(h0:0<=old):∀r∈rs,r.ok/\Fit o n r:=by
 obtain⟨kP,hp,ht⟩:=h.tl;obtain⟨nw,e,_,_,g,_⟩:=xhX (es:=ao old.toNat 0) hp ht (by rw[bf];lia);intro r hr;obtain⟨g1,g2⟩:=g r hr;refine⟨g1.1,?_⟩;cases r with
 |put to sg=>exact g2
 |take to st c=>
  have g3:st+c<=old:=g1.2.2;have g2:to+(c.toNat:Nat)<=n:=g2;have g4:=g1.1.2.2;refine⟨?_,by lia⟩;cases h with
  |no=>cases hr
  |put=>cases aj.mp hr
  |take=>exact g3
theorem NP.run{tx:List Int}{ln:Nat}(h:NP old o n rs)(h0:0<=old)(ho:old<=100)(he:tx=C0.take ln)(hl:old<=tx.length)(hn:n<=C0.length):
  ∃nw:List Int,(nw.length:Int)=n/\(∀r∈rs,Tells tx nw r)/\(∀j,j<nw.length->∃r∈rs,zc r j)/\(∀y∈xP rs,yA C0.length y)/\(doL C0 (xP rs)).take n.toNat=nw:=by
 obtain⟨kQ,hp,ht⟩:=h.tl;obtain⟨nw,e1,e2,e3,e4,e5,_,_⟩:=xhX (es:=tx) hp (ht.mono hl) rfl;have kR:tx.length<=C0.length:=by rw[he,bz];lia
 have kP:∀y∈xP rs,yA C0.length y:=by
  intro x hx;unfold xP at hx;obtain⟨r,hr,hx⟩:=eW.mp hx;obtain⟨c,hc,rfl⟩:=bZ.mp hx;have hk:=(h.ok h0 r hr).1;have g:=e4 r hr;refine xlm (old:=old) (new:=n) hk (h.sm ho r hr) ?_ (by lia) (by lia) hc;have hf:=(h.ok h0 r hr).2;cases r with
  |put to sg=>exact hf
  |take to st c=>
   refine⟨?_,hf.2⟩;cases h with
   |no=>cases hr
   |put=>cases aj.mp hr
   |take=>exact hf.1
 refine⟨nw,e1,e2,e3,kP,?_⟩;have sc:xb0 tx C0 rs (λk=>doL C0 (xP (rs.take k))):=⟨⟨C0.drop ln,by rw[he,List.take_append_drop]⟩,xs6 (λr hr=>(h.ok h0 r hr).1) kP,λr hr=>⟨(e4 r hr).1,by have:=(e4 r hr).2;lia⟩,e5⟩;have:=sc.fine h.late (nw:=nw) (by lia) e2 e3;rw[cy]at this;rw[<-e1,cL];exact this
def xgK(h:F.fo s.fl s.cnt=some none):w1 F s y={s with cnt:=s.cnt+1,fl:=s.fl+1}:=by unfold w1;rw[h]
def xmV(h:F.fo s.fl s.cnt=some (some x)):w1 F s y={y.tn x s with cnt:=s.cnt+1,fl:=s.fl+1}:=by unfold w1;rw[h]
def xgL{b:Option Bool}{r:BdS×Option Int}:(xaF b r).2=r.2:=by
 obtain⟨s,c⟩:=r;cases c<;> rfl
theorem xmW{us:List Addr}(h:Paired (GT K H) us rs):(xP rs).length<=9*us.length:=by
 induction h with
 |nil=>simp[xP]
 |cons hg t ih=>
  have:=xgh hg.2.1 hg.2.2;unfold xP at ih⊢;rw[List.flatMap_cons,aC,ag,bD];lia
section
def uF(I:BdS->Prop):List Wr->BdS->Prop
 |[],s=>I s
 |y::ys,s=>I s/\(∀x,I (y.tn x s))/\uF I ys (y.up s)
def yf(s:BdS)(ys:List Wr):BdS:=ys.foldl (λs y=>y.up s) s
theorem uF.app{I:BdS->Prop}{zs:List Wr}:∀{ys:List Wr} {s:BdS},uF I ys s->uF I zs (yf s ys)->uF I (ys++zs) s
 |[],_,_,h=>h
 |_::_,_,h,h2=>⟨h.1,h.2.1,uF.app h.2.2 h2⟩
def xnY{f:Nat}:y.up {s with cnt:=c,fl:=f}={y.up s with cnt:=c,fl:=f}:=by cases y<;> rfl
def xtP{f:Nat}:y.tn x {s with cnt:=c,fl:=f}={y.tn x s with cnt:=c,fl:=f}:=by cases y<;> rfl
theorem uF.cf{I:BdS->Prop}(hI:∀s c f,I s->I {s with cnt:=c,fl:=f}):∀{ys:List Wr} {s:BdS} {c:Int} {f:Nat},uF I ys s->uF I ys {s with cnt:=c,fl:=f}
 |[],_,_,_,h=>hI _ _ _ h
 |_::_,_,_,_,h=>⟨hI _ _ _ h.1,λx=>by rw[xtP];exact hI _ _ _ (h.2.1 x),by rw[xnY];exact uF.cf hI h.2.2⟩
theorem uF.all{F:FM}{I:BdS->Prop}(hI:∀s c f,I s->I {s with cnt:=c,fl:=f}):∀{ys:List Wr} {s:BdS},uF I ys s->I (xD F s ys).1
 |[],_,h=>h
 |y::ys,s,h=>by
  cases e:F.fo s.fl s.cnt with
  |none=>
   rw[yz e,zA e];exact uF.all hI (uF.cf hI h.2.2)
  |some z=>
   rw[yo (by rw[e];simp)];cases z with
   |none=>rw[xgK e];exact hI _ _ _ h.1
   |some x=>rw[xmV e];exact hI _ _ _ (h.2.1 x)
def yw{f:Bool->α}{v:α}:upB f b v b=v:=if_pos rfl
def xbo{f:Bool->α}{c:Bool}{v:α}(h:c≠b):upB f b v c=f c:=if_neg h
def xbK(ns:List (Option Int))(m:Nat):Prop:=ns.length=2/\ns[m%2]? =some (some (m:Int))/\∀v,some v∈ns->v<=(m:Int)
def xbK.next(h:xbK ns m):xbK (ns.set ((m+1)%2) (some ((m+1:Nat):Int))) (m+1):=by
 refine⟨by rw[cD];exact h.1,?_,λv hv=>?_⟩
 ·rw[b9 (by have:=h.1;lia)]
 ·rcases ia hv with z|z
  ·have:=h.2.2 v z;lia
  ·cases z;lia
def xbK.torn(h:xbK ns m):xbK (ns.set ((m+1)%2) none) m:=by
 refine⟨by rw[cD];exact h.1,?_,λv hv=>?_⟩
 ·rw[bK (by lia)];exact h.2.1
 ·rcases ia hv with z|z
  ·exact h.2.2 v z
  ·cases z
def xiU(cs D cells:List Int):Prop:=cells.length=D.length/\∀j:Nat,j<D.length->(j:Int)∉cs->cells[j]? =D[j]?
def xiU.set{d:Int}(h:xiU cs D cells)(hd:d∈cs)(h0:0<=d):xiU cs D (cells.set d.toNat v):=by
 refine⟨by rw[cD];exact h.1,λj hj hn=>?_⟩;rw[g8,if_neg (λz=>hn (by rw[<-z,cb h0];exact hd))];exact h.2 j hj hn
def Apart(x:xq×List Int):Prop:=∀d∈x.2,∀to st c,x.1= .take to st c->st+d - to∉x.2
def xpj:∀x∈xP rs,Apart x:=by
 intro x hx d hd to st c e hs;unfold xP at hx;obtain⟨r,hr,hx⟩:=eW.mp hx;obtain⟨p,hp,rfl⟩:=bZ.mp hx;have e:r= .take to st c:=e;subst e;have hd:d∈p:=hd;have hs:st+d - to∈p:=hs;have hp:p∈yM to st c:=hp;unfold yM at hp
 split at hp
 ·cases hp
 rename_i kP;obtain⟨j,hj⟩:=bB.mp hp
 split at hj
 ·obtain⟨_,rfl⟩:=jk hj;have h1:=xep hd;have h2:=xep hs;omega
 ·obtain⟨_,rfl⟩:=jk hj;have h1:=xbZ hd;have h2:=xbZ hs;have e1:(j+1)*(to - st).toNat=j*(to - st).toNat+(to - st).toNat:=eJ _ _;omega
def xer{A:List Int}{x:xq×List Int}(hp:yA A.length x)(ha:Apart x):Part A x.1 x.2 (doP x.1 A x.2):=by
 have:=xfC (C:=A) (r:=x.1) x.2 (D:=[]) (cur:=A) ⟨rfl,λj hj=>by simp⟩ hp.2.2 λi d hd to st c e z=>by
  rw[bY]at z;exact ha d (aK hd) to st c e (eX z)
 rw[bY]at this;exact this
theorem xmg{x:xq×List Int}(h:xiU x.2 D cells)(hp:yA D.length x)(ha:Apart x):doP x.1 cells x.2=doP x.1 D x.2:=by
 have h1:=xer hp ha;have h2:=xer (A:=cells) (x:=x) (by rw[h.1];exact hp) ha;apply eF;intro j
 by_cases hj:j<D.length
 ·rw[h1.2 j hj,h2.2 j (by rw[h.1];exact hj)]
  by_cases hm:(j:Int)∈x.2
  ·rw[if_pos hm,if_pos hm];obtain⟨r,cs⟩:=x;cases r with
   |put to sg=>rfl
   |take to st c=>
    obtain⟨_,_,c1,c2⟩:=hp.2.2 j hm;show cells[(st+(j:Int) - to).toNat]? =D[(st+(j:Int) - to).toNat]?;refine h.2 _ (by lia) ?_;rw[cb c1];exact ha j hm to st c rfl
  ·rw[if_neg hm,if_neg hm];exact h.2 j hj hm
 ·rw[bw (by rw[h2.1,h.1];lia),bw (by rw[h1.1];lia)]
def vJ(X:List (xq×List Int))(m:Nat)(C0 cells:List Int):Prop:=cells.length=C0.length/\∀j:Nat,j<C0.length->(∀x,X[m]? =some x->(j:Int)∉x.2)->cells[j]? =(doL C0 (X.take m))[j]?
def vJ.near{x:xq×List Int}(h:vJ X m C0 cells)(hx:X[m]? =some x):xiU x.2 (doL C0 (X.take m)) cells:=
 ⟨by rw[h.1,uO],λj hj hn=>h.2 j (by rw[uO]at hj;exact hj) λy hy=>by rw[hx]at hy;cases hy;exact hn⟩
def vJ.of{x:xq×List Int}(h:xiU x.2 (doL C0 (X.take m)) cells)(hx:X[m]? =some x):vJ X m C0 cells:=
 ⟨by rw[h.1,uO],λj hj hn=>h.2 j (by rw[uO];exact hj) (hn x hx)⟩
def vJ.refl(X:List (xq×List Int))(m:Nat)(C0:List Int):vJ X m C0 (doL C0 (X.take m)):=⟨uO _ _,λ_ _ _=>rfl⟩
def vJ.all(h:vJ X X.length C0 cells):cells=doL C0 X:=by
 have e:X.take X.length=X:=cy;apply eF;intro j
 by_cases hj:j<C0.length
 ·rw[h.2 j hj λx hx=>by simp at hx,e]
 ·rw[bw (by rw[h.1];lia),bw (by rw[uO];lia)]
def vJ.next{x:xq×List Int}(h:vJ X m C0 cells)(hx:X[m]? =some x)(hp:yA C0.length x)(ha:Apart x):doP x.1 cells x.2=doL C0 (X.take (m+1)):=by
 rw[xqn hx];exact xmg (h.near hx) (by rw[uO];exact hp) ha
structure Pcs(X:List (xq×List Int))(Pg Pf:List Int->Prop)(Pm:Nat->List Int->Prop):Prop where
 start:∀C,Pg C->Pm 0 C
 wr:∀(m:Nat) x C (d v:Int),X[m]? =some x->d∈x.2->Pm m C->Pm m (C.set d.toNat v)
 next:∀(m:Nat) x C,X[m]? =some x->Pm m C->Pm (m+1) (doP x.1 C x.2)
 fin:∀(m:Nat) C,X.length<=m->Pm m C->Pf C
def PmN(X:List (xq×List Int))(C0:List Int)(m:Nat)(C:List Int):Prop:=m<=X.length/\vJ X m C0 C
def xlq(hp:∀x∈xP rs,yA C0.length x):Pcs (xP rs) (λC=>C=C0) (λC=>C=doL C0 (xP rs)) (PmN (xP rs) C0) where
 start:=λC e=>by rw[e];exact⟨bL _,vJ.refl _ 0 C0⟩
 wr:=λm x C d v hx hd h=>⟨h.1,vJ.of ((h.2.near hx).set hd ((hp x (aK hx)).2.2 d hd).1) hx⟩
 next:=λm x C hx h=>by
  have hl:m<(xP rs).length:=(aw.mp hx).1;refine⟨by lia,?_⟩;rw[h.2.next hx (hp x (aK hx)) (xpj x (aK hx))];exact vJ.refl _ _ _
 fin:=λm C hl h=>by
  have e:m=(xP rs).length:=by have:=h.1;lia
  subst e;exact h.2.all
structure Sc where
 size:Int
 M0:List Int
 L0:Int
 n:Int
 total:Int
 tries:Int
 Lg:Int
 g:Str
structure Bro(S:Sc)(Pg Pf:List Int->Prop)(Pm:Nat->List Int->Prop)(s:BdS):Prop where
 sz:s.size=S.size
 mr:s.mr=false
 mg:s.mark false=("good":Str)
 c0:s.cells false=S.M0
 l0:s.len false=S.L0
 cl:((s.cells true).length:Int)=S.size
 nl:(s.notes true).length=2
 ph:(s.mark true=S.g/\Pg (s.cells true)/\s.len true=S.Lg)\/(s.mark true=("open":Str)/\∃m:Nat,m<=600/\xbK (s.notes true) m/\Pm m (s.cells true))\/
  (s.mark true=("trial":Str)/\s.len true=S.n/\s.ct=S.tries/\Pf (s.cells true)/\((s.cells true).take S.n.toNat).sum=S.total)\/(s.mark true=("bad":Str)/\s.len true=S.n/\Pf (s.cells true)/\((s.cells true).take S.n.toNat).sum≠S.total)
section
variable {S:Sc}
def Bro.cf(s:BdS)(c:Int)(f:Nat)(h:Bro S Pg Pf Pm s):Bro S Pg Pf Pm {s with cnt:=c,fl:=f}:=⟨h.sz,h.mr,h.mg,h.c0,h.l0,h.cl,h.nl,h.ph⟩
def Bro.setrun(r:Option Bool)(h:Bro S Pg Pf Pm s):Bro S Pg Pf Pm {s with run:=r}:=⟨h.sz,h.mr,h.mg,h.c0,h.l0,h.cl,h.nl,h.ph⟩
structure Opn(S:Sc)(Pm:Nat->List Int->Prop)(m:Nat)(s:BdS):Prop where
 sz:s.size=S.size
 mr:s.mr=false
 mg:s.mark false=("good":Str)
 c0:s.cells false=S.M0
 l0:s.len false=S.L0
 cl:((s.cells true).length:Int)=S.size
 op:s.mark true=("open":Str)
 m6:m<=600
 nt:xbK (s.notes true) m
 pm:Pm m (s.cells true)
def Opn.bro(h:Opn S Pm m s):Bro S Pg Pf Pm s:=⟨h.sz,h.mr,h.mg,h.c0,h.l0,h.cl,h.nt.1,.inr (.inl ⟨h.op,m,h.m6,h.nt,h.pm⟩)⟩
def Opn.cell(h:Opn S Pm m s)(hl:(cs.length:Int)=S.size)(hp:Pm m cs):Opn S Pm m {s with cells:=upB s.cells true cs}:=
 ⟨h.sz,h.mr,h.mg,by show upB s.cells true cs false=_;rw[xbo (by decide)];exact h.c0,h.l0,by show((upB s.cells true cs true).length:Int)=_;rw[yw];exact hl,h.op,h.m6,h.nt,by show Pm m (upB s.cells true cs true);rw[yw];exact hp⟩
def Opn.note{m':Nat}(h:Opn S Pm m s)(h6:m'<=600)(hn:xbK ns m')(hp:Pm m' (s.cells true)):Opn S Pm m' {s with notes:=upB s.notes true ns}:=
 ⟨h.sz,h.mr,h.mg,h.c0,h.l0,h.cl,h.op,h6,by show xbK (upB s.notes true ns true) m';rw[yw];exact hn,hp⟩
theorem Opn.pc{X:List (xq×List Int)}(hX:Pcs X Pg Pf Pm){m:Nat}{x:xq×List Int}(hx:X[m]? =some x):∀(ds:List Int) (s:BdS),(∀d∈ds,d∈x.2)->Opn S Pm m s->
  uF (Bro S Pg Pf Pm) (pcW true x.1 (s.cells true) ds) s/\yf s (pcW true x.1 (s.cells true) ds)={s with cells:=upB s.cells true (doP x.1 (s.cells true) ds)}/\Opn S Pm m (yf s (pcW true x.1 (s.cells true) ds))
 |[],s,_,h=>⟨h.bro,by show s={s with cells:=upB s.cells true (s.cells true)};rw[xfz],h⟩
 |d::ds,s,hd,h=>by
  have kQ:=hd d (bh ..);have one:∀v:Int,Opn S Pm m {s with cells:=upB s.cells true ((s.cells true).set d.toNat v)}:=λv=>h.cell (by rw[cD];exact h.cl) (hX.wr m x _ d v hx kQ h.pm);have e0:pcW true x.1 (s.cells true) (d::ds)= .cell true d.toNat (jy x.1 (s.cells true) d)::pcW true x.1 (zt x.1 (s.cells true) d) ds:=rfl;generalize kP:({s with cells:=upB s.cells true ((s.cells true).set d.toNat (jy x.1 (s.cells true) d))}:BdS)=s1;have e1:(Wr.cell true d.toNat (jy x.1 (s.cells true) d)).up s=s1:=kP;have e2:s1.cells true=zt x.1 (s.cells true) d:=by rw[<-kP,xc0];show upB s.cells true _ true=_;exact yw
  have h1:Opn S Pm m s1:=by rw[<-kP];exact one _
  obtain⟨g1,g2,g3⟩:=Opn.pc hX hx ds s1 (λz hz=>hd z (aL _ hz)) h1;rw[e2]at g1 g2 g3;have e3:yf s (pcW true x.1 (s.cells true) (d::ds))=yf s1 (pcW true x.1 (zt x.1 (s.cells true) d) ds):=by
   rw[e0,<-e1];rfl
  rw[e3];refine⟨?_,?_,g3⟩
  ·rw[e0];exact⟨h.bro,λv=>(one v).bro,by rw[e1];exact g1⟩
  ·rw[g2,<-kP];show({s with cells:=upB (upB s.cells true _) true _}:BdS)=_;rw[xb6];rfl
theorem Opn.go{X:List (xq×List Int)}(hX:Pcs X Pg Pf Pm)(h6:X.length<=600):∀(xs:List (xq×List Int)) (m:Nat) (s:BdS),xs=X.drop m->Opn S Pm m s->
  uF (Bro S Pg Pf Pm) (goW true (s.cells true) m xs) s/\∃m',X.length<=m'/\Opn S Pm m' (yf s (goW true (s.cells true) m xs))/\(yf s (goW true (s.cells true) m xs)).cells true=doL (s.cells true) xs
 |[],m,s,e,h=>by
  refine⟨h.bro,m,?_,h,rfl⟩;have:(X.drop m).length=0:=by rw[<-e];rfl
  rw[cT]at this;lia
 |x::xs,m,s,e,h=>by
  have hx:X[m]? =some x:=by
   have:(X.drop m)[0]? =some x:=by rw[<-e];rfl
   rw[cG]at this;exact this
  have hl:m<X.length:=(aw.mp hx).1;have e':xs=X.drop (m+1):=by
   rw[List.drop_add_one_eq_tail_drop,<-e];rfl
  obtain⟨g1,g2,g3⟩:=Opn.pc hX hx x.2 s (λ_ z=>z) h;generalize kP:yf s (pcW true x.1 (s.cells true) x.2)=s1 at g2 g3;have c1:s1.cells true=doP x.1 (s.cells true) x.2:=by rw[g2];show upB s.cells true _ true=_;exact yw
  have kQ:Pm (m+1) (s1.cells true):=by rw[c1];exact hX.next m x _ hx h.pm
  have h2:=g3.note (by lia) g3.nt.next kQ;have h3:=g3.note (by lia) g3.nt.torn g3.pm;obtain⟨k1,m',k2,k3,k4⟩:=Opn.go hX h6 xs (m+1) _ e' h2;have k1:uF (Bro S Pg Pf Pm) (goW true (s1.cells true) (m+1) xs) _:=k1;rw[c1]at k1;have e0:goW true (s.cells true) m (x::xs)=pcW true x.1 (s.cells true) x.2++(.note true ((m+1)%2) ((m+1:Nat):Int)::goW true (doP x.1 (s.cells true) x.2) (m+1) xs):=rfl;have e2:yf s (goW true (s.cells true) m (x::xs))=yf {s1 with notes:=upB s1.notes true ((s1.notes true).set ((m+1)%2) (some ((m+1:Nat):Int)))} (goW true (s1.cells true) (m+1) xs):=by
   rw[e0,c1];unfold yf at kP⊢;rw[eE,kP];rfl
  rw[e2,e0];refine⟨g1.app ?_,m',k2,k3,?_⟩
  ·rw[kP];exact⟨g3.bro,λ_=>h3.bro,k1⟩
  ·refine k4.trans ?_;show doL (s1.cells true) xs=doL (s.cells true) (x::xs);rw[c1];rfl
def Opn.tail(hX:Pcs X Pg Pf Pm)(hm:X.length<=m)(h:Opn S Pm m s)(hC:s.cells true=C):
  uF (Bro S Pg Pf Pm) (.leng true S.n::(if (C.take S.n.toNat).sum=S.total then[.cter S.tries,.mark true "trial"]else[.mark true "bad"])) s:=by
 subst hC;have hf:=hX.fin m _ hm h.pm;have h1:Opn S Pm m {s with len:=upB s.len true S.n}:=⟨h.sz,h.mr,h.mg,h.c0,by show upB s.len true S.n false=_;rw[xbo (by decide)];exact h.l0,h.cl,h.op,h.m6,h.nt,h.pm⟩;have ln:upB s.len true S.n true=S.n:=yw;refine⟨h.bro,λ_=>h1.bro,?_⟩
 split
 ·rename_i e;have h2:Opn S Pm m {s with len:=upB s.len true S.n,ct:=S.tries}:=⟨h1.sz,h1.mr,h1.mg,h1.c0,h1.l0,h1.cl,h1.op,h1.m6,h1.nt,h1.pm⟩;have h3:Bro S Pg Pf Pm {s with len:=upB s.len true S.n,ct:=S.tries,mark:=upB s.mark true "trial"}:=⟨h1.sz,h1.mr,by show upB s.mark true "trial" false=_;rw[xbo (by decide)];exact h.mg,h1.c0,h1.l0,h1.cl,h1.nt.1,.inr (.inr (.inl ⟨(by show upB s.mark true _ true=_;exact yw),ln,rfl,hf,e⟩))⟩;exact⟨h1.bro,λ_=>h2.bro,h2.bro,λ_=>h3,h3⟩
 ·rename_i e;have h3:Bro S Pg Pf Pm {s with len:=upB s.len true S.n,mark:=upB s.mark true "bad"}:=⟨h1.sz,h1.mr,by show upB s.mark true "bad" false=_;rw[xbo (by decide)];exact h.mg,h1.c0,h1.l0,h1.cl,h1.nt.1,.inr (.inr (.inr ⟨(by show upB s.mark true _ true=_;exact yw),ln,hf,e⟩))⟩;exact⟨h1.bro,λ_=>h3,h3⟩
end
end
section
theorem xbp{F:FM}:∀(ys:List Wr) (s:BdS),(xD F s ys).2=none->(xD F s ys).1={yf s ys with cnt:=s.cnt+ys.length,fl:=s.fl}
 |[],s,_=>by
  show s={s with cnt:=s.cnt+((0:Nat):Int),fl:=s.fl};rw[show s.cnt+((0:Nat):Int)=s.cnt by lia]
 |y::ys,s,h=>by
  by_cases e:F.fo s.fl s.cnt=none
  ·rw[yz e]at h⊢;rw[xbp ys _ h,zA e];have:∀(zs:List Wr) (t:BdS) (c:Int) (f:Nat),yf {t with cnt:=c,fl:=f} zs={yf t zs with cnt:=c,fl:=f}:=by
    intro zs
    induction zs with
    |nil=>intro t c f;rfl
    |cons z zs ih=>intro t c f;show yf (z.up {t with cnt:=c,fl:=f}) zs={yf (z.up t) zs with cnt:=c,fl:=f};rw[xnY,ih]
   rw[this];show({yf (y.up s) ys with cnt:=s.cnt+1+(ys.length:Int),fl:=s.fl}:BdS)={yf (y.up s) ys with cnt:=s.cnt+((ys.length+1:Nat):Int),fl:=s.fl};rw[show s.cnt+1+(ys.length:Int)=s.cnt+((ys.length+1:Nat):Int)by lia]
  ·rw[yo e]at h;cases h
theorem xtQ(h:¬F.fo s.fl s.cnt=none):(w1 F s y).fl=s.fl+1:=by
 cases e:F.fo s.fl s.cnt with
 |none=>exact absurd e h
 |some z=>
  cases z with
  |none=>rw[xgK e]
  |some x=>rw[xmV e]
theorem xdQ{F:FM}:∀(ys:List Wr) (s:BdS),((xD F s ys).2=none->(xD F s ys).1.fl=s.fl)/\(∀c,(xD F s ys).2=some c->(xD F s ys).1.fl=s.fl+1/\(xD F s ys).1.cnt=c+1)/\(xD F s ys).1.cnt<=s.cnt+ys.length
 |[],s=>⟨λ_=>rfl,(λc z=>by cases z),by show s.cnt<=s.cnt+((0:Nat):Int);lia⟩
 |y::ys,s=>by
  by_cases e:F.fo s.fl s.cnt=none
  ·rw[yz e];obtain⟨h1,h2,h3⟩:=xdQ (F:=F) ys (w1 F s y);rw[zA e]at h1 h2 h3⊢;refine⟨h1,h2,?_⟩;have h3:_<=s.cnt+1+(ys.length:Int):=h3;show _<=s.cnt+((ys.length+1:Nat):Int);lia
  ·rw[yo e];refine⟨(λz=>by cases z),λc z=>?_,?_⟩
   ·cases z;exact⟨xtQ e,xcI⟩
   ·show(w1 F s y).cnt<=s.cnt+((ys.length+1:Nat):Int);rw[xcI];lia
theorem xes{F:FM}:∀(ys:List Wr) (s:BdS),(∀n,F.fo s.fl n=none)->(xD F s ys).2=none
 |[],_,_=>rfl
 |y::ys,s,h=>by
  rw[yz (h _)];refine xes ys _ ?_;rw[zA (h _)];exact h
theorem xfU{b:Bool}{r:xq}:∀(ds C:List Int),(pcW b r C ds).length=ds.length
 |[],_=>rfl
 |d::ds,C=>by show(pcW b r (zt r C d) ds).length+1=ds.length+1;rw[xfU ds]
theorem xmX{b:Bool}:∀(xs:List (xq×List Int)) (C:List Int) (m:Nat),(∀x∈xs,x.2.length<=300)->(goW b C m xs).length<=301*xs.length
 |[],_,_,_=>bL _
 |x::xs,C,m,h=>by
  show(pcW b x.1 C x.2++(_::goW b (doP x.1 C x.2) (m+1) xs)).length<=301*(xs.length+1);rw[aC,bD,xfU];have h1:=xmX (b:=b) xs (doP x.1 C x.2) (m+1) (λy z=>h y (aL _ z));have h2:=h x (bh ..);lia
def xgM{first:Nat}{total:Int}{L:Nat}(hp:∀x∈xP rs,yA L x):(yr s rs first n total tries).length<=6+301*(xP rs).length:=by
 unfold yr;have h1:=xmX (b:= !s.mr) ((xP rs).drop first) (s.cells (!s.mr)) first (λx z=>(hp x (cK z)).2.1);rw[cT]at h1;have h2:(xcK s rs first n total tries).length<=3:=by unfold xcK;split<;> simp
 have h3:(if s.mark (!s.mr)=("open":Str)then([]:List Wr)else[.note (!s.mr) 0 0,.note (!s.mr) 1 0,.mark (!s.mr) "open"]).length<=3:=by split<;> simp
 rw[aC,aC];lia
def xbq(s:BdS)(ys zs:List Wr):yf s (ys++zs)=yf (yf s ys) zs:=eE ..
def xjH{first:Nat}{total:Int}(hm:s.mr=false):(yf s (yr s rs first n total tries)).mark true=if ((ja s rs first).take n.toNat).sum=total then("trial":Str)else"bad":=by
 unfold yr xcK;rw[<-bP,xbq];generalize yf s _=s1;rw[hm]
 split
 ·exact yw (f:=s1.mark) (b:=true)
 ·exact yw (f:=s1.mark) (b:=true)
section
variable {S:Sc}
theorem Bro.upd(hX:Pcs (xP rs) Pg Pf Pm)(h6:(xP rs).length<=600)(hg:S.g≠("open":Str)){first:Nat}(h:Bro S Pg Pf Pm s)(hf:zB s first)(hm:s.mark true=S.g/\Pg (s.cells true)/\s.len true=S.Lg\/s.mark true=("open":Str)):uF (Bro S Pg Pf Pm) (yr s rs first S.n S.total S.tries) s:=by
 have kP:=h.mr;have fin:∀(s1:BdS),s1.cells=s.cells->Opn S Pm first s1->uF (Bro S Pg Pf Pm) (goW true (s.cells true) first ((xP rs).drop first)++xcK s rs first S.n S.total S.tries) s1:=λs1 e1 h1=>by
  obtain⟨g1,m',g2,g3,g4⟩:=Opn.go hX h6 _ first s1 rfl h1;rw[e1]at g1 g3 g4;refine g1.app ?_;unfold xcK;rw[kP];exact g3.tail hX g2 (by rw[g4];unfold ja;rw[kP];rfl)
 unfold yr;rw[kP];show uF _ ((if s.mark true=("open":Str)then[]else[.note true 0 0,.note true 1 0,.mark true "open"])++(goW true (s.cells true) first ((xP rs).drop first)++xcK s rs first S.n S.total S.tries)) s;unfold zB at hf;rw[kP]at hf;obtain⟨f1,f2,f3⟩:=hf;rcases hm with⟨m1,m2,m3⟩|m1
 ·have no:¬s.mark true=("open":Str):=by rw[m1];exact hg
  rw[if_neg no];have f0:first=0:=by
   have f3:(if s.mark true=("open":Str)then uI (s.notes true) first else first=0):=f3;rw[if_neg no]at f3;exact f3
  subst f0;obtain⟨x,y,kW⟩:∃x y,s.notes true=[x,y]:=by
   have:=h.nl
   match hh:s.notes true,this with
   |[x,y],_=>exact⟨x,y,rfl⟩
  have an:∀ns:List (Option Int),ns.length=2->Bro S Pg Pf Pm {s with notes:=upB s.notes true ns}:=λns hl=>⟨h.sz,h.mr,h.mg,h.c0,h.l0,h.cl,by show(upB s.notes true ns true).length=2;rw[yw];exact hl,.inl ⟨m1,m2,m3⟩⟩;have kT:xbK [some 0,some 0] 0:=⟨rfl,rfl,λv hv=>by
   rcases av.mp hv with z|z
   ·cases z;exact cI _
   ·cases aj.mp z;exact cI _⟩
  have a3:Opn S Pm 0 {s with notes:=upB s.notes true [some 0,some 0],mark:=upB s.mark true "open"}:=⟨h.sz,h.mr,by show upB s.mark true "open" false=_;rw[xbo (by decide)];exact h.mg,h.c0,h.l0,h.cl,(by show upB s.mark true _ true=_;exact yw),by decide,by show xbK (upB s.notes true [some 0,some 0] true) 0;rw[yw];exact kT,hX.start _ m2⟩;have u1:∀z,({s with notes:=upB s.notes true ((s.notes true).set 0 z)}:BdS)={s with notes:=upB s.notes true [z,y]}:=λz=>by rw[kW];rfl
  have u2:∀z,({s with notes:=upB (upB s.notes true [some 0,y]) true ((upB s.notes true [some 0,y] true).set 1 z)}:BdS)={s with notes:=upB s.notes true [some 0,z]}:=λz=>by rw[xb6,yw];rfl
  refine⟨h,λ_=>?_,?_⟩
  ·show Bro S Pg Pf Pm {s with notes:=upB s.notes true ((s.notes true).set 0 none)};rw[u1];exact an _ rfl
  have e1:(Wr.note true 0 0).up s={s with notes:=upB s.notes true [some 0,y]}:=u1 (some 0);rw[e1];refine⟨an _ rfl,λ_=>?_,?_⟩
  ·show Bro S Pg Pf Pm {s with notes:=upB (upB s.notes true [some 0,y]) true ((upB s.notes true [some 0,y] true).set 1 none)};rw[u2];exact an _ rfl
  have e2:(Wr.note true 1 0).up {s with notes:=upB s.notes true [some 0,y]}={s with notes:=upB s.notes true [some 0,some 0]}:=u2 (some 0);rw[e2];exact⟨an _ rfl,λ_=>a3.bro,fin _ rfl a3⟩
 ·rw[if_pos m1,bY];have f3:uI (s.notes true) first:=by
   have f3:(if s.mark true=("open":Str)then uI (s.notes true) first else first=0):=f3;rw[if_pos m1]at f3;exact f3
  rcases h.ph with z|z|z|z
  ·exact absurd (z.1.symm.trans m1) hg
  ·obtain⟨_,m,m6,n2,pm⟩:=z;have kR:some (m:Int)∈s.notes true:=aK n2.2.1;have kS:(m:Int)∈(s.notes true).filterMap id:=dm.mpr ⟨_,kR,rfl⟩;obtain⟨k1,k2⟩:=f3.2 (kE kS);obtain⟨o,kX,kQ⟩:=dm.mp k1;have kQ:o=some (first:Int):=kQ;have z1:=k2 _ kS;have z2:=n2.2.2 first (by rw[<-kQ];exact kX);have e:first=m:=by lia
   subst e;exact fin s rfl ⟨h.sz,h.mr,h.mg,h.c0,h.l0,h.cl,m1,m6,n2,pm⟩
  ·rw[z.1]at m1;exact absurd m1 (by decide)
  ·rw[z.1]at m1;exact absurd m1 (by decide)
theorem Bro.first(h:Bro S Pg Pf Pm s)(hg:S.g≠("open":Str))(hm:s.mark true=S.g\/s.mark true=("open":Str)):∃first,zB s first:=by
 unfold zB;rw[h.mr];show∃first:Nat,(s.notes true).length=2/\first<=10000/\if s.mark true=("open":Str)then uI (s.notes true) first else first=0
 by_cases ho:s.mark true=("open":Str)
 ·rcases h.ph with z|z|z|z
  ·exact absurd (z.1.symm.trans ho) hg
  ·obtain⟨_,m,m6,n2,_⟩:=z;refine⟨m,h.nl,by lia,?_⟩;rw[if_pos ho];have kQ:(m:Int)∈(s.notes true).filterMap id:=dm.mpr ⟨_,aK n2.2.1,rfl⟩;refine⟨λz=>absurd z (kE kQ),λ_=>⟨kQ,λx hx=>?_⟩⟩;obtain⟨o,kR,kP⟩:=dm.mp hx;have kP:o=some x:=kP;exact n2.2.2 x (by rw[<-kP];exact kR)
  ·rw[z.1]at ho;exact absurd ho (by decide)
  ·rw[z.1]at ho;exact absurd ho (by decide)
 ·exact⟨0,h.nl,by lia,by rw[if_neg ho]⟩
end
end
def xpk{b:Option Bool}{r:BdS×Option Int}(h:r.2=some c):(xaF b r).1={r.1 with run:=none}:=by
 obtain⟨s,x⟩:=r;cases h;rfl
def xfD{b:Option Bool}{r:BdS×Option Int}(h:r.2=none):(xaF b r).1={r.1 with run:=b}:=by
 obtain⟨s,x⟩:=r;cases h;rfl
def xgN{b:Option Bool}{r:BdS×Option Int}:(xaF b r).1.cnt=r.1.cnt:=by
 obtain⟨s,x⟩:=r;cases x<;> rfl
def xet{am:Bool}(e:F=zK f ar co fa c am){k:Nat}(h:F.At H k n):H co=some (.lst ((jT n).map V.int)):=by
 subst e;exact h.2.1
def xpl(h:0<=x):atI ((jT (x+1)).map V.int) (-1)=some (.int x):=by
 rw[xjG h];exact xpL _ _
inductive xhZ(P:aH)(w:World)(K:aq)(mg:Str->Option Value)(base:Heap)(a:Adr)(vs:List V)(H:Hp)(Q:VK):Prop
 |mk (F:FM) (f ar co fa:Addr) (c:Int) (am:Bool) (B:BA) (s:BdS) (p:Addr) (o n:Int) (rs:List xq) (first:Nat) (total tries:Int):vs=[.ref B.bd,.ref p,.int total,.int tries,.ref co]->F=zK f ar co fa c am->xA a F H B s->Tbs H->PJ K H p o n rs->jF rs n=none->s.run≠none->s.mark (!s.mr)≠("trial":Str)->vB s o n=false->zB s first->xds K H p o n rs->(∀x∈xP rs,yA (s.cells (!s.mr)).length x)->(s.cells (!s.mr)).length=s.size->s.cnt+((yr s rs first n total tries).length:Int)<=9000000->
  ((xD F s (yr s rs first n total tries)).2=none->∀(l:Addr) (H':Hp),Kp (BF F B) H H'->xA a F H' B {(xD F s (yr s rs first n total tries)).1 with run:=s.run}->l∉BF F B->H' l=some (.lst [.bl (decide (((ja s rs first).take n.toNat).sum=total))])->Q (.ref l) H')->
  (∀x,(xD F s (yr s rs first n total tries)).2=some x->∀(l:Addr) (H':Hp),Kp (BF F B) H H'->xA a F H' B {(xD F s (yr s rs first n total tries)).1 with run:=none}->l∉BF F B->H' l=some (.lst [])->Q (.ref l) H')->xhZ P w K mg base a vs H Q
def xnZ(P:aH)(w:World)(K:aq)(mg:Str->Option Value)(base:Heap)(a:Adr):Sp:=λvs H Q _=>xhZ P w K mg base a vs H Q
def xn0(T:Txt K mg a):xE P w K mg base CX0 13 a.q3j a.xfe ["_law_board","_law_paper","_law_total","_law_tries","_law_counts"] (xnZ P w K mg base a):=by
 refine T.q3o.ok xhC (λvs H Q E h=>?_) (λcdv A outer s H vs Q E hr h=>?_)
 ·obtain⟨F,f,ar,co,fa,c,am,B,s,p,o,n,rs,first,total,tries,rfl,_⟩:=h;rfl
 ·refine oG λ_ Z=>?_;obtain⟨F,f,ar,co,fa,c,am,B,st,p,o,n,rs,first,total,tries,rfl,kW,hB,hT,hJ,hj,kS,lp,lg,ly,ll,lh,lB,lq,q1,q2⟩:=h;apply Z;have nd:=xhC.nd;refine⟨_,(xf (xC (i:=5) nd rfl (az rfl) yO)
  (xf (xC (i:=6) nd rfl (az rfl) yO)
  (xf (xkw (i:=7) ⟨rfl,rfl,rfl⟩ T.q4f (by rfl) T.xcB nd rfl rfl (λ_ _=>(xk (xC (i:=5) nd rfl (az rfl) (ye ⟨rfl,rfl,rfl⟩ (cv 0) T.q0a T.q1C (uz (P:=P) (w:=w) (base:=base) T) hr.m T.uN .nil (xa (cv 1) (xa (cv 2) (xa (cv 3) xc))))))) (λ_ _ _ _ ep=>(xk (xC (i:=6) nd rfl (az rfl) (xfM (K:=K) rfl ep (by exact λ_ z=>aI _ z) (cv 7) rfl)))))
  (xf (xS (xbe (cv 6)) (xk (xv (xX (xa (cv 5) xc)))) xF)
  (xf (xS (PW.pt (zq (xfL (xM xT (xO (cv 0) T.q0a T.q1f (zJ (P:=P) (w:=w) (base:=base) T) hr.m T.zZ .nil xt) xg (λ_ _=>rfl))) (zq (xN (xdZ hr.units) (cv 4) (xX xc)) (uo (xN xbS (cv 6) (xM yx (cv 4) (xqH xqO xg) (λ_ _=>rfl))))))) (xk (xv yO)) xF)
  (xk (xv (xX xc)))))))),?_⟩
  left;have hF:ua P w K mg base F:=by rw[kW];exact xfT T f ar co fa c am
  have lr:F.lim=9000000:=by rw[kW];rfl
  refine oG λ_ Z=>?_;obtain⟨_,w2,w3⟩:=xdQ (F:=F) (yr st rs first n total tries) st;apply Z;refine⟨B.bd,B.dx,_,rfl,hB.bd,rfl,?_⟩;refine⟨F,B,st,p,o,n,rs,total,tries,rfl,hF,hB,hT,hJ,λz=>absurd z kS,λ_ z=>absurd z lp,λ_ _ xs z=>(by rw[hj]at z;cases z),λ_ _ _ z=>(by rw[lg]at z;cases z),λ_ _ _ _=>⟨first,ly,ll,lh,lB,⟨λe H2 k2 kP=>?_,λx ex dd H2 k2 kP lz=>?_,?_⟩⟩⟩
  ·rw[xgL]at e;rw[xfD e]at kP;walk_at"y";walk_at"ss";exists λl hl=>xw (upd H2 l _) rfl hl λH3 kX el=>?_;exact q1 e l H3 (k2.trans (Kp.of kX)) (kP.same kX) (kP.nin hl) el
  ·rw[xgL]at ex;rw[xpk ex]at kP;refine⟨a.q0d,rfl,T.q2m,λae lG=>?_⟩;refine⟨_,dd,_,.int x,rfl,rfl,rfl,lz,T.q4b,T.xfm,T.q1z,rfl,?_⟩;walk_at"N";refine⟨B.bd,B.dx,_,rfl,kP.bd,rfl,?_⟩;refine⟨F,B,_,rfl,kP,λt1 m1 l1 H3 s3 lE lF lD g1 g2 g3=>?_⟩;refine⟨t1,_,_,.non,rfl,rfl,SqT.of g1,rfl,?_⟩;walk_at"n";walk_at"ss";exists λz0 la=>xw (upd H3 z0 _) rfl la λH4 kR lC=>?_;have kT:=xet kW kP.fm;have lb:0<=x:=by have:=((xej (F:=F) (yr st rs first n total tries) st).2 x ex).1;have:=hB.c0;lia
   have lA:(xD F st (yr st rs first n total tries)).1.cnt=x+1:=(w2 x ex).2;have kT:H2 co=some (.lst ((jT (x+1)).map V.int)):=by rw[<-lA];exact kT
   have kQ:=(s3.trans kR).at kT;refine jW (f:=λb=>b) ⟨co,z0,jT (x+1),[],rfl,rfl,SqL.of kQ,SqL.of lC,?_⟩;rw[decide_eq_false (λz=>by have:=xgJ (x+1);rw[z]at this;simp at this;lia)];walk_at"N";exists⟨co,_,_,.int x,rfl,rfl,SqL.of kQ,xpl lb,?_⟩;walk_at"ss";refine⟨λz=>absurd z (by simp),λ_=>?_⟩;right;exists λl hl=>xw (upd H4 l _) rfl hl λH5 kZ el=>?_;have kY:=s3.trans (kR.trans kZ);exact q2 x ex l H5 (k2.trans (Kp.of kY)) (kP.same kY) ((kP.same (s3.trans kR)).nin hl) el
  ·rw[xgN,lr];lia
def shp{d:fF}(h1:bC d=true)(h2:cH d<=64):cF d=true:=by
 unfold cF;rw[h1,decide_eq_true h2];rfl
def vD:V->fF
 | .int i=>.int i
 | .str x=>.str x
 | .bl b=>.bool b
 |_=>.none
inductive Pl:V->Prop
 |non:Pl .non
 |bl (b:Bool):Pl (.bl b)
 |int (i:Int):Pl (.int i)
 |str (x:Str) (h:bC (.str x)=true):Pl (.str x)
theorem Pl.rp{v:V}(h:Pl v):Rp K H v (vD v):=by
 cases h with
 |non=>exact .non
 |bl b=>exact .bl b
 |int i=>exact .int i
 |str x _=>exact .str x
theorem Pl.can{v:V}(h:Pl v):bC (vD v)=true:=by
 cases h with
 |non=>simp[vD,bC]
 |bl b=>simp[vD,bC]
 |int i=>simp[vD,bC]
 |str x h=>exact h
def Pl.dep{v:V}(h:Pl v):cH (vD v)<=0:=by
 cases h<;> simp[vD,cH]
def xbb(s:BdS):fF:=.tuple [.int (bI s.mr),.list [.str (s.mark false),.str (s.mark true)],.list [.int (s.len false),.int (s.len true)],.int s.ct,vD (vX s.run)]
def xh0(r:Option Bool):Pl (vX r):=by cases r with|none=>exact .non|some b=>exact .int _
def xfV{m:Addr}(h1:H t=some (.tup [.int (bI s.mr),.ref m,.ref l,.int s.ct,vX s.run]))(h2:H m=some (.lst [.str (s.mark false),.str (s.mark true)]))(h3:H l=some (.lst [.int (s.len false),.int (s.len true)])):Rp K H (.ref t) (xbb s):=
 .tup (SqT.of h1) (.cons (.int _) (.cons (.lst (SqL.of h2) (.cons (.str _) (.cons (.str _) .nil))) (.cons (.lst (SqL.of h3) (.cons (.int _) (.cons (.int _) .nil))) (.cons (.int _) (.cons (xh0 s.run).rp .nil)))))
def Mk4(m:Str):Prop:=m=("good":Str)\/m=("bad":Str)\/m=("trial":Str)\/m=("open":Str)
def xiV{m:Str}(h:Mk4 m):bC (.str m)=true:=by
 rcases h with rfl|rfl|rfl|rfl<;> decide+kernel
def xr7(h:∀b,Mk4 (s.mark b)):cF (xbb s)=true:=by
 refine shp ?_ ?_
 ·have e1:=xiV (h false);have e2:=xiV (h true);have e3:=(xh0 s.run).can;simp only[bC]at e1 e2;simp[xbb,bC,fR,e1,e2,e3]
 ·have:=(xh0 s.run).dep;simp[xbb,cH,fy];lia
def xr8(xs:List Int):cF (.list (xs.map fM))=true:=by
 refine shp ?_ ?_
 ·simp[bC,W.ke_canLayAll0]
 ·simp[cH,W.ke_depthAll]
def xA.kp1(h:xA a F H B s){x:Addr}(k:Kp [x] H H')(hx:x∉BF F B)(kQ:x≠B.bl)(kP:∀b,x≠(B.S b).st)(mu:∃u,H x=some u/\xaC u):xA a F H' B s:=by
 have two:∀{y:Addr} {u:HO},H y=some u->y≠x->H' y=some u:=λe n=>k _ _ e (by simp[n]);have nb:∀{y:Addr},y∈BS B->y≠x:=λhy z=>hx (by rw[<-z];exact ba _ hy);refine⟨two h.bd (nb (by simp)),two h.bl (au kQ),two h.le (nb (by simp)),two h.ma (nb (by simp)),two h.se (nb (by simp)),λb=>?_,h.sp,h.nl,h.ni,F.keep h.fm k (λy hy=>by rw[aj.mp hy];exact mu) (λy hy z=>by rw[aj.mp hy]at z;exact hx (aI _ z)),h.off,h.c0⟩;have S:=h.st b;exact⟨two S.st (au (kP b)),two S.ca (nb (by cases b<;> simp)),two S.na (nb (by cases b<;> simp)),two S.p (by rw[(h.sp b).1];exact nb (by simp)),S.ne,S.np⟩
theorem yE.kp(h:yE K H p o n rs)(k:Kp L H H')(mu:MuL H L):yE K H' p o n rs:=by
 obtain⟨tt,us,h1,h2,h3⟩:=h;refine⟨tt,us,uy k mu h1,uy k mu h2,L2.Paired.imp' (λt r z=>?_) h3⟩;cases r with
 |take to st c=>exact uy k mu z
 |put to sg=>obtain⟨u,q1,q2⟩:=z;exact⟨u,uy k mu q1,uy k mu q2⟩
def xlr(h:∀r∈rs,r.rds=[]):xaD rs=none:=xc2 _ _ _ h
def xqu{kP:List xq}(hp:rs.Perm kP)(ht:Tl 0 kP n)(h:∀r∈rs,r.rds=[]):jF rs n=none/\jD rs=none:=by
 obtain⟨nw,e,_,_,_,_,tw,lk⟩:=xhX (es:=[]) hp ht rfl;exact⟨by unfold jF;rw[lk,xlr h],tw⟩
def xpm(a:Adr):Sp:=λvs H Q _=>xsa λ(F:FM) (f ar co fa:Addr) (c:Int) (am:Bool) (B:BA) (s:BdS) (size:Int)=>vs=[.ref B.bd,.int size,.ref co]/\F=zK f ar co fa c am/\xA a F H B s/\Tbs H/\s.run≠none/\s.mr=false/\s.mark true=("open":Str)/\s.mark false=("good":Str)/\s.size=size/\2<=size/\size<=20/\0<=s.cnt/\s.cnt<=9000000/\∀H',xj H H'->Q (.bl true) H'
def xiW(T:Txt K mg a):xE P w K mg base CX0 13 a.q17 a.xbH ["_law_board","_law_size","_law_counts"] (xpm a):=by
 refine T.q2a.ok xdJ (λvs H Q E h=>?_) (λcdv A outer s H vs Q E hr h=>?_)
 ·obtain⟨F,f,ar,co,fa,c,am,B,s,size,rfl,_⟩:=h;rfl
 ·refine oG λ_ Z=>?_;obtain⟨F,f,ar,co,fa,c,am,B,st,size,rfl,lV,hB,hT,lA,lS,lM,mX,hsz,oq,mF,oC,oB,q⟩:=h;apply Z;have nd:=xdJ.nd;refine⟨_,(xf (xC (i:=3) nd rfl (az rfl) (xR (xa (xO (cv 0) T.q0a T.q1f (zJ (P:=P) (w:=w) (base:=base) T) hr.m T.zZ .nil xt) (xa (xW zu (by rfl) T.q2n zS (xa (cv 2) xc)) xc)))) (@xf _ _ _ _ _ (@xC _ _ 4 _ _ _ _ nd rfl (az rfl) (@xR _ _ _ _ _ (@xa _ _ _ _ _ (@xg _ _ _ _) (@xa _ _ _ _ _ (@xg _ _ _ _) (@xa _ _ _ _ _ (@xR _ _ _ _ _ (@xa _ _ _ _ _ (@xR _ _ _ _ _ (@xa _ _ _ _ _ (@xH _ _ _ _) (@xa _ _ _ _ _ (@xg _ _ _ _) (@xa _ _ _ _ _ (@xR _ _ _ _ _ (@xa _ _ _ _ _ (@xg _ _ _ _) (@xc _) rfl)) (@xc _) rfl) rfl) rfl)) (@xa _ _ _ _ _ (@xR _ _ _ _ _ (@xa _ _ _ _ _ (@xH _ _ _ _) (@xa _ _ _ _ _ (@xg _ _ _ _) (@xa _ _ _ _ _ (@xg _ _ _ _) (@xa _ _ _ _ _ (@xg _ _ _ _) (@xc _) rfl) rfl) rfl) rfl)) (@xa _ _ _ _ _ (@xR _ _ _ _ _ (@xa _ _ _ _ _ (@xH _ _ _ _) (@xa _ _ _ _ _ (@xg _ _ _ _) (@xa _ _ _ _ _ (@xR _ _ _ _ _ (@xa _ _ _ _ _ (@xg _ _ _ _) (@xc _) rfl)) (@xc _) rfl) rfl) rfl)) (@xc _) rfl) rfl) rfl)) (@xc _) rfl) rfl) rfl)) rfl (.inl rfl)) (xf (xC (i:=5) nd rfl (az rfl) (xX xc)) (xf (yT PassesOwn.never rfl (zx (xX (xa (cv 4) (xa (xR (xa xg (xa (xx ym (cv 1) xg) (xa (xR (xa (xR (xa xH (xa xg (xa (xW yn (by rfl) T.q09 yP (xa (xx xgW (xX (xa xg xc)) (xx ym (cv 1) xg)) xc)) xc)))) xc)) xc)))) (xa (xR (xa (xx ym (cv 1) xg) (xa xg (xa (xR xc) xc)))) xc))))) (yc (i:=6) nd rfl (az rfl)) (xf (xC (i:=7) nd rfl (az rfl) xg) (xf (xnw (i:=8) ⟨rfl,rfl,rfl⟩ T.q4X (by rfl) T.xkS T.q45 (by rfl) T.xiA nd rfl rfl (λ_ _=>(xk (xK (ye ⟨rfl,rfl,rfl⟩ (cv 0) T.q0a T.q1C (uz (P:=P) (w:=w) (base:=base) T) hr.m T.uN .nil (xa (cv 6) (xa xg (xa xg xc))))))) (λ_ _ _ _ ep=>(xk (xC (i:=7) nd rfl (az rfl) (xM (xks (K:=K) rfl) (xX (xa xg (xa xg xc))) (xW xcP (by rfl) T.q4N xe0 (xa (zb (xug (K:=K) rfl hr.units) (xfM (K:=K) rfl ep (by exact λ_ z=>aI _ z) (cv 8) rfl) (xR (xa xH (xa xg (xa xg xc))))) xc)) (λ_ _=>rfl))))) (λ_ _ _=>(xk (xC (i:=7) nd rfl (az rfl) xg)))) (xk (xK (xbR PySem.F.plainAttrs_list PySem.F.slot_list_append PySem.F.type_list_append uq (cv 5) (xa (cv 7) xc))))))) (xk (xv (uK (zb (xdZ hr.units) (cv 5) (xX (xa xg (xa xg (xa xg xc))))) (vL (zb (xdZ hr.units) (xR (xa (xO (cv 0) T.q0a T.q1f (zJ (P:=P) (w:=w) (base:=base) T) hr.m T.zZ .nil xt) (xa (xW zu (by rfl) T.q2n zS (xa (cv 2) xc)) xc))) (cv 3)))))))))),?_⟩;have hF:ua P w K mg base F:=by rw[lV];exact xfT T f ar co fa c am
  have mR:∀b,Mk4 (st.mark b):=λb=>by
   cases b
   ·rw[mX];exact .inl rfl
   ·rw[lM];exact .inr (.inr (.inr rfl))
  refine⟨B.bd,B.dx,_,rfl,hB.bd,rfl,?_⟩;exists⟨F,B,st,rfl,hB,λt0 m0 l0 H1 s1 oy oA mq g1 g2 g3=>?_⟩;have mZ:=xet lV hB.fm;refine⟨co,_,rfl,.inl (SqL.of (s1.at mZ)),?_⟩;exists λcl m8=>xw (upd H1 cl _) rfl m8 λH2 lK nQ=>?_;walk_at"ss";exists λah m9=>xw (upd H2 ah _) rfl m9 λH3 lE nR=>?_;walk_at"ss";exists λu1 mD=>xw (upd H3 u1 _) rfl mD λH4 l8 nv=>?_;walk_at"ss";exists λr1 mJ=>xw (upd H4 r1 _) rfl mJ λH5 lN nC=>?_;walk_at"ss";exists λr2 mI=>xw (upd H5 r2 _) rfl mI λH6 lJ nB=>?_;walk_at"ss";exists λu3 mC=>xw (upd H6 u3 _) rfl mC λH7 lD nr=>?_;walk_at"ss";exists λr3 mH=>xw (upd H7 r3 _) rfl mH λH8 lB nz=>?_;walk_at"ss";exists λrt mG=>xw (upd H8 rt _) rfl mG λH9 lq ny=>?_;walk_at"ss";exists λlt mT=>xw (upd H9 lt _) rfl mT λlZ kT elt=>?_;walk_at"ss";exists λkl lI=>xw (upd lZ kl _) rfl lI λoo lO mf=>?_;walk_at"ss";refine λon mP=>xw (upd oo on _) rfl mP λom lz nI=>?_;refine⟨on,size+1,_,rfl,rfl,nI,by lia,by lia,(by show 1*_<=_;rw[aZ];lia),?_⟩;refine λol mQ=>xw (upd om ol _) rfl mQ λoa ly nJ=>?_;refine⟨ol,_,rfl,.inl ⟨SqL.of nJ,?_⟩⟩;exists λot lR=>xw (upd oa ot _) rfl lR λmh lr nH=>?_;walk_at"ss";exists λpr mL=>xw (upd mh pr _) rfl mL λnZ la nE=>?_;walk_at"ss";exists λpt mK=>xw (upd nZ pt _) rfl mK λnY kY nD=>?_;walk_at"ss";exists λp2 mO=>xw (upd nY p2 _) rfl mO λnX kX nG=>?_;walk_at"ss";exists λe0 mY=>xw (upd nX e0 _) rfl mY λnW kW nN=>?_;walk_at"ss";exists λp3 mM=>xw (upd nW p3 _) rfl mM λnU kS nF=>?_;walk_at"ss";exists λpl lL=>xw (upd nU pl _) rfl lL λlC kR me=>?_;have lR:mh ot=some (.tup ((ao (size+1).toNat (1:Int)).map V.int)):=by rw[nH];simp
  have kP:=lO.trans (lz.trans (ly.trans (lr.trans (la.trans (kY.trans (kX.trans (kW.trans (kS.trans kR))))))));have kZ:=s1.trans (lK.trans (lE.trans (l8.trans (lN.trans (lJ.trans (lD.trans (lB.trans (lq.trans kT))))))));have lH:=kZ.trans kP;have lW:=hB.same lH;have lp:=(lz.trans (ly.trans (lr.trans (la.trans (kY.trans (kX.trans (kW.trans (kS.trans kR)))))))).at mf;have my:kl∉BF F B:=(hB.same kZ).nin lI;have mz:kl≠B.bl:=λz=>by have:=(hB.same kZ).bl;rw[<-z,lI]at this;cases this
  have mw:∀b,kl≠(B.S b).st:=λb z=>by have:=((hB.same kZ).st b).st;rw[<-z,lI]at this;cases this
  have mj:pl≠kl:=λz=>by rw[z]at lL;rw[(lz.trans (ly.trans (lr.trans (la.trans (kY.trans (kX.trans (kW.trans kS))))))).at mf]at lL;cases lL
  have nq:yE K lC lt 2 3 [.put 1 [4],.take 2 1 1,.put 0 [6]]:=⟨rt,[r1,r2,r3],kP.at elt,(kT.trans kP).at ny,.cons ⟨u1,(lJ.trans (lD.trans (lB.trans (lq.trans (kT.trans kP))))).at nC,(lN.trans (lJ.trans (lD.trans (lB.trans (lq.trans (kT.trans kP)))))).at nv⟩ (.cons ((lD.trans (lB.trans (lq.trans (kT.trans kP)))).at nB) (.cons ⟨u3,(lq.trans (kT.trans kP)).at nz,(lB.trans (lq.trans (kT.trans kP))).at nr⟩ .nil))⟩;have lG:=la.trans (kY.trans (kX.trans (kW.trans (kS.trans kR))));have nj:yE K lC p2 0 (size+1) [.put 0 (ao (size+1).toNat 1)]:=⟨pt,[pr],(kW.trans (kS.trans kR)).at nG,(kX.trans (kW.trans (kS.trans kR))).at nD,.cons ⟨ot,(kY.trans (kX.trans (kW.trans (kS.trans kR)))).at nE,lG.at lR⟩ .nil⟩;have nh:yE K lC p3 (size+1) 0 []:=⟨e0,[],kR.at nF,(kS.trans kR).at nN,.nil⟩;have l9:(xq.put 0 (ao (size+1).toNat (1:Int))).ok:=⟨by decide,(λz=>by have:=congrArg gF z;rw[bf]at this;simp at this;lia),by rw[bf];lia,λx hx=>by rw[List.eq_of_mem_replicate hx];decide⟩;have mi:Tl 0 [.put 0 (ao (size+1).toNat (1:Int))] (size+1):=by
   have:=Tl.snoc (rs:=[]) (at':=0) (n:=size+1) (r:=.put 0 (ao (size+1).toNat (1:Int))) (.nil (old:=0)) ⟨l9,trivial,trivial⟩ rfl (by show(((ao (size+1).toNat (1:Int)).length:Nat):Int)=size+1;rw[bf];lia);rw[iH]at this;exact this
  obtain⟨mV,mE⟩:=xqu (kO _) mi (λr hr=>by rw[aj.mp hr];rfl);refine⟨pl,rfl,⟨_,SqL.of me⟩,?_⟩;refine zr (xs:=[.ref lt,.ref p2,.ref p3]) (λi σ G=>Kp [kl] lC G/\xA a F G B st/\G kl=some (.lst ((([1,3,3]:List Int).take i).map V.int))/\∃(x6 x7:Option V),σ=[some (.ref B.bd),some (.int size),some (.ref co),some (.ref ah),some (.ref lt),some (.ref kl),x6,x7,none])
   ⟨Kp.of (xj.refl _),lW,lp,_,_,rfl⟩ (λi σ G hi hP=>SqL.of (hP.1 _ _ me (by simp[mj]))) (λi x σ G hx hP=>?_) (λσ G hP=>?_)
  ·refine oG λ_ Z=>?_;obtain⟨kG,lh,kQ,x6,x7,rfl⟩:=hP;apply Z;have lg:MuL lC [kl]:=λz hz=>by rw[aj.mp hz];exact⟨_,lp,trivial⟩
   have lU:Tbs G:=(hT.same lH).kp kG lg;have A1:=nq.kp kG lg;have A2:=nj.kp kG lg;have A3:=nh.kp kG lg;have fin:∀(G2:Hp),xj G G2->∀(v:Int) (l7:V),(([1,3,3]:List Int).take i++[v])=([1,3,3]:List Int).take (i+1)->Kp [kl] lC (upd G2 kl (.lst ((([1,3,3]:List Int).take i).map V.int++[.int v])))/\xA a F (upd G2 kl (.lst ((([1,3,3]:List Int).take i).map V.int++[.int v]))) B st/\(upd G2 kl (.lst ((([1,3,3]:List Int).take i).map V.int++[.int v]))) kl=some (.lst ((([1,3,3]:List Int).take (i+1)).map V.int))/\∃(y6 y7:Option V),[some (.ref B.bd),some (.int size),some (.ref co),some (.ref ah),some (.ref lt),some (.ref kl),some l7,some (.int v),none]=[some (.ref B.bd),some (.int size),some (.ref co),some (.ref ah),some (.ref lt),some (.ref kl),y6,y7,none]:=λG2 s2 v l7 hv=>by
    have k2:Kp [kl] G2 (upd G2 kl (.lst ((([1,3,3]:List Int).take i).map V.int++[.int v]))):=(Kp.of (xj.refl _)).wr (by simp);refine⟨(kG.trans (Kp.of s2)).trans k2,(lh.same s2).kp1 k2 my mz mw ⟨_,s2.at kQ,trivial⟩,?_,_,_,rfl⟩;rw[xp,<-hv,bH];rfl
   have mW:i=0\/i=1\/i=2:=by have:=(aw.mp hx).1;simp at this;lia
   rcases mW with rfl|rfl|rfl
   ·cases hx;exists⟨B.bd,B.dx,_,rfl,lh.bd,rfl,?_⟩;have lT:jF [.put 1 [4],.take 2 1 1,.put 0 [6]] 3=some [.str "late",.int 1,.int 1]:=by decide+kernel
    refine⟨F,B,st,lt,2,3,_,1,1,rfl,hF,lh,lU,⟨A1,by decide,by decide,by decide,?_,by decide+kernel⟩,λz=>absurd z lA,λ_ z=>(by rw[lS]at z;exact absurd (lM.symm.trans z) (by decide)),λ_ _ xs hx d ft G2 s2 ed et=>?_,λ_ _ z=>(by rw[lT]at z;cases z),λ_ _ z=>(by rw[lT]at z;cases z)⟩
    ·intro r hr;simp only[av,aV,or_false]at hr;rcases hr with rfl|rfl|rfl
     ·exact⟨⟨by decide,by decide,by decide,λx hx=>by rw[aj.mp hx];decide⟩,by show(1:Int)+((1:Nat):Int)<=3;decide⟩
     ·exact⟨⟨by decide,by decide,by decide⟩,by decide,by decide⟩
     ·exact⟨⟨by decide,by decide,by decide,λx hx=>by rw[aj.mp hx];decide⟩,by show(0:Int)+((1:Nat):Int)<=3;decide⟩
    ·rw[lT]at hx;cases hx;exists⟨a.q0e,rfl,.inl ⟨T.q3G,λae md=>?_⟩⟩;walk_at"ss";refine λkk mU=>xw (upd G2 kk _) rfl mU λG3 ll nL=>?_;exists⟨_,d,_,.ref ft,rfl,rfl,rfl,ll.at ed,T.q4U,T.xoX,T.q3d,rfl,?_⟩;walk_at"ss";exists λlv mS=>xw (upd G3 lv _) rfl mS λG4 lb nK=>?_;have dt:cF (.tuple [.str "late",.int 1,.int 1])=true:=by decide+kernel
     refine⟨_,_,.tup (SqT.of ((ll.trans lb).at et)) (.cons (.str _) (.cons (.int _) (.cons (.int _) .nil))),.tup (SqT.of nK) (.cons (.str _) (.cons (.int _) (.cons (.int _) .nil))),dt,dt,?_⟩;rw[show eo (.tuple [.str "late",.int 1,.int 1]) (.tuple [.str "late",.int 1,.int 1])=true from by decide+kernel];left;refine .inr ⟨true,rfl,?_⟩;exists⟨kk,_,_,.int 1,rfl,rfl,SqL.of (lb.at nL),rfl,?_⟩;have s4:=s2.trans (ll.trans lb);refine aY (.inl ⟨rfl,_,SqL.of (s4.at kQ)⟩) ?_;refine⟨kl,_,_,rfl,rfl,s4.at kQ,(by rw[aZ];decide),?_⟩;exact fin _ s4 1 (.ref lt) rfl
   ·cases hx;exists⟨B.bd,B.dx,_,rfl,lh.bd,rfl,?_⟩;have hu:vB st 0 (size+1)=true:=by unfold vB;rw[decide_eq_true (show st.size<max 0 (size+1)by lia)];rfl
    refine⟨F,B,st,p2,0,(size+1),_,1,1,rfl,hF,lh,lU,⟨A2,by lia,by lia,by simp,?_,mE⟩,λz=>absurd z lA,λ_ z=>(by rw[lS]at z;exact absurd (lM.symm.trans z) (by decide)),λ_ _ xs hx=>(by rw[mV]at hx;cases hx),λ_ _ _ _ G2 s2=>?_,λ_ _ _ z=>(by rw[hu]at z;cases z)⟩
    ·exact λr hr=>by rw[aj.mp hr];exact⟨l9,by show(0:Int)+(((ao (size+1).toNat (1:Int)).length:Nat):Int)<=size+1;rw[bf];lia⟩
    ·exists⟨a.q0i,rfl,.inr ⟨T.q3e,T.q3x,λae md=>?_⟩⟩;refine aY (.inl ⟨rfl,_,SqL.of (s2.at kQ)⟩) ?_;refine⟨kl,_,_,rfl,rfl,s2.at kQ,(by rw[aZ];decide),?_⟩;exact fin _ s2 3 (.ref p2) rfl
   ·cases hx;exists⟨B.bd,B.dx,_,rfl,lh.bd,rfl,?_⟩;have hu:vB st (size+1) 0=true:=by unfold vB;rw[decide_eq_true (show st.size<max (size+1) 0 by lia)];rfl
    refine⟨F,B,st,p3,(size+1),0,_,1,1,rfl,hF,lh,lU,⟨A3,by lia,by lia,by simp,?_,rfl⟩,λz=>absurd z lA,λ_ z=>(by rw[lS]at z;exact absurd (lM.symm.trans z) (by decide)),λ_ _ xs hx=>(by rw[show jF [] 0=none from by decide]at hx;cases hx),λ_ _ _ _ G2 s2=>?_,λ_ _ _ z=>(by rw[hu]at z;cases z)⟩
    ·exact λr hr=>nomatch hr
    ·exists⟨a.q0i,rfl,.inr ⟨T.q3e,T.q3x,λae md=>?_⟩⟩;refine aY (.inl ⟨rfl,_,SqL.of (s2.at kQ)⟩) ?_;refine⟨kl,_,_,rfl,rfl,s2.at kQ,(by rw[aZ];decide),?_⟩;exact fin _ s2 3 (.ref p3) rfl
  ·refine oG λ_ Z=>?_;obtain⟨kG,lh,kQ,x6,x7,rfl⟩:=hP;exists Z ?_;walk_at"ss";exists λz3 mB=>xw (upd G z3 _) rfl mB λG1 lP lY=>?_;have kQ:G kl=some (.lst (([1,3,3]:List Int).map V.int)):=kQ;have lY:G1 z3=some (.lst (([1,3,3]:List Int).map V.int)):=lY;refine jW (f:=λb=>b) ⟨kl,z3,[1,3,3],[1,3,3],rfl,rfl,SqL.of (lP.at kQ),SqL.of lY,?_⟩;walk_at"y";have lX:=lh.same lP;refine⟨B.bd,B.dx,_,rfl,lX.bd,rfl,?_⟩;refine⟨F,B,st,rfl,lX,λt2 m2 l2 G2 s2 ou oz mn k1 k2 k3=>?_⟩;refine⟨co,_,rfl,.inl (SqL.of (s2.at (xet lV lX.fm))),?_⟩;exists λcm m7=>xw (upd G2 cm _) rfl m7 λG3 ll nO=>?_;walk_at"ss";exists λaa ng=>xw (upd G3 aa _) rfl ng λG4 lb nS=>?_;have kA:Kp [kl] lZ G4:=(Kp.of kP).trans (kG.trans (Kp.of (lP.trans (s2.trans (ll.trans lb)))));have sA:xj lZ G4:=λb u e=>kA b u e (by simp;exact xG e lI);have lQ:=l8.trans (lN.trans (lJ.trans (lD.trans (lB.trans (lq.trans kT)))));have lF:=lQ.trans sA;have hd:cF (.tuple [xbb st,.list ((jT st.cnt).map fM)])=true:=by
    have h1:=xr7 mR;have h2:=xr8 (jT st.cnt);unfold cF at h1 h2;rw[fX]at h1 h2;have h3:=of_decide_eq_true h1.2;have h4:=of_decide_eq_true h2.2;refine shp (by simp only[bC,fR]at h1 h2⊢;simp[h1.1,h2.1]) ?_;have h5:cH (xbb st)<=10:=by have:=(xh0 st.run).dep;simp[xbb,cH,fy];lia
    have h6:cH (.list ((jT st.cnt).map fM))<=10:=by simp[cH,W.ke_depthAll]
    simp only[cH,fy]at h5 h6⊢;lia
   refine xd1 (f:=λb=>b) (.tup (SqT.of nS) (.cons (xfV ((ll.trans lb).at k1) ((ll.trans lb).at k2) ((ll.trans lb).at k3)) (.cons (.ints (SqL.of (lb.at nO))) .nil))) (.tup (SqT.of (lF.at nR)) (.cons (xfV ((lK.trans (lE.trans lF)).at g1) ((lK.trans (lE.trans lF)).at g2) ((lK.trans (lE.trans lF)).at g3)) (.cons (.ints (SqL.of ((lE.trans lF).at nQ))) .nil))) hd ?_;exact q G4 (kZ.trans sA)
section
def zC(T:Txt K mg a):xE P w K mg base (CXE P w) 8 a.q1e a.jI ["self"] (xle P w K mg base a):=(xiH T).toX
structure Fnl(S:Sc)(Pf:List Int->Prop)(s:BdS):Prop where
 sz:s.size=S.size
 mr:s.mr=false
 mg:s.mark false=("good":Str)
 c0:s.cells false=S.M0
 l0:s.len false=S.L0
 cl:((s.cells true).length:Int)=S.size
 ln:s.len true=S.n
 pf:Pf (s.cells true)
 mkd:(s.mark true=("trial":Str)/\s.ct=S.tries/\((s.cells true).take S.n.toNat).sum=S.total)\/(s.mark true=("bad":Str)/\((s.cells true).take S.n.toNat).sum≠S.total)
def Bro.fin{S:Sc}(h:Bro S Pg Pf Pm s)(hg:S.g≠("trial":Str)/\S.g≠("bad":Str))(hm:s.mark true=("trial":Str)\/s.mark true=("bad":Str)):Fnl S Pf s:=by
 rcases h.ph with z|z|z|z
 ·rcases hm with y|y
  ·exact absurd (z.1.symm.trans y) hg.1
  ·exact absurd (z.1.symm.trans y) hg.2
 ·rcases hm with y|y<;> exact absurd (z.1.symm.trans y) (by decide)
 ·exact⟨h.sz,h.mr,h.mg,h.c0,h.l0,h.cl,z.2.1,z.2.2.2.1,.inl ⟨z.1,z.2.2.1,z.2.2.2.2⟩⟩
 ·exact⟨h.sz,h.mr,h.mg,h.c0,h.l0,h.cl,z.2.1,z.2.2.1,.inr ⟨z.1,z.2.2.2⟩⟩
structure zO(K:aq)(H:Hp)(p:Addr)(o n:Int)(rs:List xq)(size:Int):Prop where
 pj:PJ K H p o n rs
 jn:jF rs n=none
 pg:xds K H p o n rs
 pk:∀x∈xP rs,yA size.toNat x
 mx:max o n<=size
 few:(xP rs).length<=30
def zO.kp(h:zO K H p o n rs size)(k:Kp L H H')(mu:MuL H L):zO K H' p o n rs size:=
 ⟨⟨h.pj.at'.kp k mu,h.pj.ho,h.pj.hn,h.pj.few,h.pj.ok,h.pj.tw⟩,h.jn,h.pg.kp k mu,h.pk,h.mx,h.few⟩
def zO.same(h:zO K H p o n rs size)(e:xj H H'):zO K H' p o n rs size:=h.kp (L:=[]) (Kp.of e) (λ_ z=>nomatch z)
structure Way where
 S:Sc
 Pg:List Int->Prop
 Pf:List Int->Prop
 Pm:Nat->List Int->Prop
 p:Addr
 o:Int
 rs:List xq
abbrev Way.bro(W:Way)(s:BdS):Prop:=Bro W.S W.Pg W.Pf W.Pm s
structure Way.ok(W:Way)(size total tries:Int):Prop where
 X:Pcs (xP W.rs) W.Pg W.Pf W.Pm
 g:W.S.g=("good":Str)
 sz:W.S.size=size
 t:W.S.total=total
 ts:W.S.tries=tries
inductive xh1(P:aH)(w:World)(K:aq)(mg:Str->Option Value)(base:Heap)(a:Adr)(vs:List V)(H:Hp)(Q:VK):Prop
 |mk (F:FM) (f ar co fa:Addr) (c:Int) (am:Bool) (B:BA) (s:BdS) (W1 W2:Way) (size total tries:Int):vs=[.ref B.bd,.ref W1.p,.ref W2.p,.int total,.int tries,.ref co,.int size]->F=zK f ar co fa c am->xA a F H B s->Tbs H->s.run=some false->W1.bro s->s.mark true=("good":Str)->W1.Pg (s.cells true)->s.len true=W1.S.Lg->(W1.o=0\/W1.o=W1.S.Lg)->
  W1.ok size total tries->W2.ok size total tries->zO K H W1.p W1.o W1.S.n W1.rs size->zO K H W2.p W2.o W2.S.n W2.rs size->(W1.S.M0=W2.S.M0/\W1.S.L0=W2.S.L0)->(∀m C,W1.Pm m C->W2.Pm m C)->(∀C,¬W2.Pg C)->2<=size->size<=20->s.cnt<=100000->
  (∀(t al pp:Addr) (s':BdS) (ys:List V) (H':Hp),Kp (BF F B) H H'->xA a F H' B s'->H' t=some (.tup [.ref pp,.str (s'.mark true),.ref al])->H' al=some (.lst ys)->(ys=[]\/ys=[.bl (decide (s'.mark true=("trial":Str)))])->(pp=W1.p/\Fnl W1.S W1.Pf s'\/pp=W2.p/\Fnl W2.S W2.Pf s')->s'.cnt<=9000000->Q (.ref t) H')->xh1 P w K mg base a vs H Q
def xn1(P:aH)(w:World)(K:aq)(mg:Str->Option Value)(base:Heap)(a:Adr):Sp:=λvs H Q _=>xh1 P w K mg base a vs H Q
def xmY{am:Bool}(e:F=zK f ar co fa c am){k:Nat}(h:F.At H k n):k<=30/\F.lim=9000000/\∀n,k=30->F.fo k n=none:=by
 subst e;refine⟨h.2.2.2.2.1,rfl,λn hk=>?_⟩;show xeq am c k n=none;exact if_pos (.inr (.inl (by lia)))
noncomputable section
abbrev xaG(P:aH)(w:World)(K:aq)(mg:Str->Option Value)(base:Heap)(a:Adr)(A:bo)(outer:List Env)(s:ak)(H:Hp)(E:XK)(cdv:Value):Cx:=(uQ CX0 P w K mg base ["_law_board","_law_paper","_law_other","_law_total","_law_tries","_law_counts","_law_size","_law_again","_law_answers","_law_mark"] "_law_brought" (xh zQ) a.q2z cdv A outer s H E).nox
variable (T:Txt K mg a) (A:bo) (outer:List Env) (s:ak) (H:Hp) (E:XK) (cdv:Value) (hr:ya 13 (A.deeper (cV "_law_brought" (xh zQ) s.heap.objs.size a.q2z cdv)))
def xls:RD:=⟨_,xaG P w K mg base a A outer s H E cdv,(xkb ((xb4 ((xr zQ).getD 0 (.Pass ⟨0,0,0,0⟩))).getD 5 (.Pass ⟨0,0,0,0⟩))).drop 1,(xk (xS (xb7 (ur (xy (xiW T) hr.m (by rfl) T.xjV T.q2a.kp T.xjU .nil xt (xa (cv 0) (xa (cv 6) (xa (cv 5) xc)))))) (xk (xv yO)) xF))⟩
def xlt:RD:=⟨_,xaG P w K mg base a A outer s H E cdv,(xb4 ((xr zQ).getD 0 (.Pass ⟨0,0,0,0⟩))).drop 4,(xf (xK (xO (cv 0) T.q0a T.q1n (zC T) hr.m T.um .nil xa8))
  (xk (xS (xN xbT (cv 9) xH) (xf (xC (i:=1) xaB.nd rfl (az rfl) (cv 2))
  (RD.h (xls T _ _ _ _ _ _ hr))) xF)))⟩
def xlu:RD:=⟨_,xaG P w K mg base a A outer s H E cdv,(xb4 ((xr zQ).getD 0 (.Pass ⟨0,0,0,0⟩))).drop 3,(xf (xS (PW.pt (zq (xN (xa6 hr.units) (cv 8) (xX xc)) (zq (xN xbT (cv 9) xH) (uo (xN xbT (cv 9) xH))))) (xk (xv (xR (xa (cv 1) (xa (cv 9) (xa (cv 8) xc)))))) xF)
  (RD.h (xlt T _ _ _ _ _ _ hr)))⟩
def xlv:RD:=⟨_,xaG P w K mg base a A outer s H E cdv,(xb4 ((xr zQ).getD 0 (.Pass ⟨0,0,0,0⟩))).drop 2,(xf (xC (i:=9) xaB.nd rfl (az rfl) (xM yx (xM xT (xO (cv 0) T.q0a T.q1f (zJ T) hr.m T.zZ .nil xt) xg (λ_ _=>rfl)) xg (λ_ _=>rfl)))
  (RD.h (xlu T _ _ _ _ _ _ hr)))⟩
def xlw:RD:=⟨_,xaG P w K mg base a A outer s H E cdv,xb4 ((xr zQ).getD 0 (.Pass ⟨0,0,0,0⟩)),(xf (xC (i:=8) xaB.nd rfl (az rfl) (xy (xn0 T) hr.m (by rfl) T.xoS T.q3o.kp T.xoR .nil xt (xa (cv 0) (xa (cv 1) (xa (cv 3) (xa (cv 4) (xa (cv 5) xc)))))))
  (xf (xS (xbe (cv 8)) (xk (xv yO)) xF)
  (RD.h (xlv T _ _ _ _ _ _ hr))))⟩
end
def xn2(T:Txt K mg a):xE P w K mg base CX0 14 a.q2z a.xff ["_law_board","_law_paper","_law_other","_law_total","_law_tries","_law_counts","_law_size"] (xn1 P w K mg base a):=by
 refine T.q3p.ok xaB (λvs H Q E h=>?_) (λcdv A outer s H vs Q E hr h=>?_)
 ·obtain⟨F,f,ar,co,fa,c,am,B,s,W1,W2,size,total,tries,rfl,_⟩:=h;rfl
 ·refine oG λ_ Z=>?_;obtain⟨F,f,ar,co,fa,c,am,B,s0,W1,W2,size,total,tries,rfl,lB,mf,mQ,ly,mO,lP,lN,lQ,mn,lq,lL,mE,mD,me,mR,lT,mz,lM,l7,q⟩:=h;apply Z;have nd:=xaB.nd;refine⟨_,(xf (yT PassesOwn.never rfl (xbd (by rfl) T.q16 (xa xg xc)) (yc (i:=7) nd rfl (az rfl)) (RD.h (xlw T _ _ _ _ _ _ hr)))
  (xk (xv yO))),?_⟩
  left;rw[show zg 0 31 1=31 from by decide];refine xcS (λi σ G=>∃(s:BdS) (pv:Addr) (y7 y8 y9:Option V),σ=[some (.ref B.bd),some (.ref pv),some (.ref W2.p),some (.int total),some (.int tries),some (.ref co),some (.int size),y7,y8,y9]/\Kp (BF F B) H G/\xA a F G B s/\s.run=some false/\i<=s.fl/\s.cnt<=100000+10000*(i:Int)/\
    (pv=W1.p/\W1.bro s/\s.mark true=("good":Str)/\W1.Pg (s.cells true)/\s.len true=W1.S.Lg\/pv=W2.p/\W2.bro s/\s.mark true=("open":Str)))
   ⟨s0,W1.p,_,_,_,rfl,Kp.of (xj.refl _),mf,ly,bL _,by lia,.inl ⟨rfl,mO,lP,lN,lQ⟩⟩ (λi σ G hi hP=>?_) (λσ G hP=>?_)
  rotate_left
  ·refine oG λ_ Z=>?_;obtain⟨s,pv,y7,y8,y9,rfl,kG,lH,lz,mH,_⟩:=hP;apply Z;exact absurd (xmY lB lH.fm).1 (by lia)
  refine oG λ_ Z=>?_;obtain⟨st,pv,y7,y8,y9,rfl,kG,lH,lz,mH,mJ,mC⟩:=hP;apply Z;have lJ:=mf.muF;have l9:=mQ.kp kG lJ
  -- mS way mh is gone now
  obtain⟨W,hW,mB,kQ,lD,kP,lb,mw⟩:∃W:Way,(W=W1\/W=W2)/\pv=W.p/\W.bro st/\(st.mark true=W.S.g/\W.Pg (st.cells true)/\st.len true=W.S.Lg/\(W.o=0\/W.o=W.S.Lg)\/st.mark true=("open":Str))/\W.ok size total tries/\zO K G W.p W.o W.S.n W.rs size/\(∀s':BdS,W.bro s'->s'.mark true=("open":Str)->W2.bro s'):=by
   rcases mC with⟨e1,e2,e3,e4,e5⟩|⟨e1,e2,e3⟩
   ·refine⟨W1,.inl rfl,e1,e2,.inl ⟨by rw[lq.g];exact e3,e4,e5,mn⟩,lq,mE.kp kG lJ,λs' hb ho=>?_⟩;rcases hb.ph with z|z|z|z
    ·rw[lq.g]at z;exact absurd (z.1.symm.trans ho) (by decide)
    ·refine oG λ_ Z=>?_;obtain⟨_,m,m6,n2,pm⟩:=z;apply Z;exact⟨by rw[lL.sz,<-lq.sz];exact hb.sz,hb.mr,hb.mg,by rw[<-me.1];exact hb.c0,by rw[<-me.2];exact hb.l0,by rw[lL.sz,<-lq.sz];exact hb.cl,hb.nl,.inr (.inl ⟨ho,m,m6,n2,mR m _ pm⟩)⟩
    ·exact absurd (z.1.symm.trans ho) (by decide)
    ·exact absurd (z.1.symm.trans ho) (by decide)
   ·exact⟨W2,.inr rfl,e1,e2,.inr e3,lL,mD.kp kG lJ,λs' hb _=>hb⟩
  subst mB;have lY:W.S.g≠("open":Str):=by rw[kP.g];decide
  have lG:W.S.g≠("trial":Str)/\W.S.g≠("bad":Str):=by rw[kP.g];exact⟨by decide,by decide⟩
  have lO:st.mark (!st.mr)≠("trial":Str):=by
   rw[kQ.mr];rcases lD with z|z
   ·show st.mark true≠_;rw[z.1];exact lG.1
   ·show st.mark true≠_;rw[z];decide
  obtain⟨first,lZ⟩:=kQ.first lY (lD.elim (λz=>.inl z.1) .inr);have mq:vB st W.o W.S.n=false:=by
   unfold vB xdN;rw[kQ.mr,decide_eq_false (show¬st.size<max W.o W.S.n by have:=lb.mx;have:=kQ.sz;have:=kP.sz;lia),fU];show(!(decide (st.mark true=("open":Str))||decide (W.o=0)||(decide (st.mark true=("good":Str))&&decide (st.len true=W.o))))=false;rcases lD with⟨z1,z2,z3,z4⟩|z
   ·rcases z4 with z4|z4
    ·rw[decide_eq_true z4];simp
    ·rw[decide_eq_true (show st.len true=W.o by rw[z3,z4]),decide_eq_true (show st.mark true=("good":Str)by rw[z1];exact kP.g)];simp
   ·rw[decide_eq_true z];simp
  have mK:((st.cells (!st.mr)).length:Int)=st.size:=by rw[kQ.mr,kQ.sz];exact kQ.cl
  have lW:∀x∈xP W.rs,yA (st.cells (!st.mr)).length x:=by
   have e:(st.cells (!st.mr)).length=size.toNat:=by have:=kQ.sz;have:=kP.sz;lia
   rw[e];exact lb.pk
  have hlen:=xgM (s:=st) (first:=first) (n:=W.S.n) (total:=total) (tries:=tries) lW;have mI:=lb.few;have kY:=kQ.upd kP.X (by lia) lY lZ (lD.elim (λz=>.inl ⟨z.1,z.2.1,z.2.2.1⟩) .inr);rw[kP.t,kP.ts]at kY;have l8:=kY.all (F:=F) Bro.cf;refine oG λ_ Z=>?_;obtain⟨v1,v2,v3⟩:=xdQ (F:=F) (yr st W.rs first W.S.n total tries) st;apply Z;refine⟨F,f,ar,co,fa,c,am,B,st,W.p,W.o,W.S.n,W.rs,first,total,tries,rfl,lB,lH,l9,lb.pj,lb.jn,by rw[lz];simp,lO,mq,lZ,lb.pg,lW,mK,by lia,λmF al G1 k1 kS mj kZ=>?_,λx hx al G1 k1 kS mj kZ=>?_⟩
  ·generalize la:({(xD F st (yr st W.rs first W.S.n total tries)).1 with run:=st.run}:BdS)=s1 at kS;have mL:s1.cnt<=st.cnt+((yr st W.rs first W.S.n total tries).length:Int):=by rw[<-la];exact v3
   have lF:s1.mark true=if ((ja st W.rs first).take W.S.n.toNat).sum=total then("trial":Str)else"bad":=by
    rw[<-la];show(xD F st (yr st W.rs first W.S.n total tries)).1.mark true=_;rw[xbp _ _ mF];exact xjH kQ.mr
   have kR:W.bro s1:=by rw[<-la];exact l8.setrun _
   have kX:Fnl W.S W.Pf s1->W.p=W1.p/\Fnl W1.S W1.Pf s1\/W.p=W2.p/\Fnl W2.S W2.Pf s1:=λz=>by
    rcases hW with rfl|rfl
    ·exact .inl ⟨rfl,z⟩
    ·exact .inr ⟨rfl,z⟩
   have lR:Fnl W.S W.Pf s1:=kR.fin lG (by rw[lF];split<;> simp);have lS:decide (((ja st W.rs first).take W.S.n.toNat).sum=total)=decide (s1.mark true=("trial":Str)):=by
    rw[lF]
    by_cases z:((ja st W.rs first).take W.S.n.toNat).sum=total
    ·rw[if_pos z,decide_eq_true z];decide
    ·rw[if_neg z,decide_eq_false z];decide
   rw[lS]at kZ;walk_at"N";refine⟨B.bd,B.dx,_,rfl,kS.bd,rfl,?_⟩;refine⟨F,B,_,rfl,kS,λt1 m1 l1 G2 s2 lF mG mi g1 g2 g3=>?_⟩;refine⟨t1,_,_,.ref m1,rfl,rfl,SqT.of g1,rfl,?_⟩;exists⟨m1,_,_,.str (s1.mark true),rfl,rfl,SqL.of g2,rfl,?_⟩;walk_at"ss";exists λz0 lK=>xw (upd G2 z0 _) rfl lK λG3 lI lV=>?_;have kW:=s2.trans lI;generalize mM:decide (s1.mark true=("trial":Str))=bb at kZ;refine⟨.list [.bool bb],.list [],.lst (SqL.of (kW.at kZ)) (.cons (.bl _) .nil),.lst (SqL.of lV) .nil,(by cases bb<;> decide+kernel),by decide+kernel,?_⟩;rw[show eo (.list [.bool bb]) (.list [])=false from by cases bb<;> decide+kernel];walk_at"Y";walk_at"y";walk_at"ss";exists λtt lr=>xw (upd G3 tt _) rfl lr λG4 ll lC=>?_;have kT:=kW.trans ll;exact q tt al W.p s1 _ G4 ((kG.trans k1).trans (Kp.of kT)) (kS.same kT) lC (kT.at kZ) (.inr (by rw[mM])) (kX lR) (by lia)
  ·generalize la:({(xD F st (yr st W.rs first W.S.n total tries)).1 with run:=none}:BdS)=s1 at kS;have mL:s1.cnt<=st.cnt+((yr st W.rs first W.S.n total tries).length:Int):=by rw[<-la];exact v3
   have mT:s1.fl=st.fl+1:=by rw[<-la];exact(v2 x hx).1
   have kR:W.bro s1:=by rw[<-la];exact l8.setrun _
   have kX:Fnl W.S W.Pf s1->W.p=W1.p/\Fnl W1.S W1.Pf s1\/W.p=W2.p/\Fnl W2.S W2.Pf s1:=λz=>by
    rcases hW with rfl|rfl
    ·exact .inl ⟨rfl,z⟩
    ·exact .inr ⟨rfl,z⟩
   walk_at"N";refine⟨B.bd,B.dx,_,rfl,kS.bd,rfl,?_⟩;refine⟨F,B,_,rfl,kS,λt1 m1 l1 G2 s2 lF mG mi g1 g2 g3=>?_⟩;refine⟨t1,_,_,.ref m1,rfl,rfl,SqT.of g1,rfl,?_⟩;exists⟨m1,_,_,.str (s1.mark true),rfl,rfl,SqL.of g2,rfl,?_⟩;walk_at"ss";exists λz0 lK=>xw (upd G2 z0 _) rfl lK λG3 lI lV=>?_;have kW:=s2.trans lI;refine⟨.list [],.list [],.lst (SqL.of (kW.at kZ)) .nil,.lst (SqL.of lV) .nil,by decide+kernel,by decide+kernel,?_⟩;rw[show eo (.list []) (.list [])=true from by decide+kernel];walk_at"n"
   by_cases lA:s1.mark true=("trial":Str)
   ·rw[decide_eq_true lA];walk_at"Y";walk_at"y";walk_at"ss";exists λtt lr=>xw (upd G3 tt _) rfl lr λG4 ll lC=>?_;have kT:=kW.trans ll;exact q tt al W.p s1 _ G4 ((kG.trans k1).trans (Kp.of kT)) (kS.same kT) lC (kT.at kZ) (.inl rfl) (kX (kR.fin lG (.inl lA))) (by lia)
   rw[decide_eq_false lA];walk_at"n"
   by_cases lE:s1.mark true=("bad":Str)
   ·rw[decide_eq_true lE];walk_at"y";walk_at"ss";exists λtt lr=>xw (upd G3 tt _) rfl lr λG4 ll lC=>?_;have kT:=kW.trans ll;exact q tt al W.p s1 _ G4 ((kG.trans k1).trans (Kp.of kT)) (kS.same kT) lC (kT.at kZ) (.inl rfl) (kX (kR.fin lG (.inr lE))) (by lia)
   rw[decide_eq_false lE];walk_at"n";have lU:=kS.same kW;have md:Tbs G3:=(l9.kp k1 lH.muF).same kW;exists⟨B.bd,B.dx,_,rfl,lU.bd,rfl,?_⟩;have hF:ua P w K mg base F:=by rw[lB];exact xfT T f ar co fa c am
   have lX:s1.mark (!s1.mr)≠("trial":Str):=by rw[kR.mr];exact lA
   have my:vZ F s1=({s1 with run:=some false},none):=by
    unfold vZ xaE startB;rw[if_neg lX,if_neg (λz=>lX z.1),kR.mr];rfl
   refine⟨F,B,s1,rfl,hF,lU,md,?_⟩;rw[my];refine⟨λ_ G4 k4 lh=>?_,(λc z=>by cases z),by rw[(xmY lB kS.fm).2.1];show s1.cnt<=9000000;lia⟩;have lp:Kp (BF F B) H G4:=((kG.trans k1).trans (Kp.of kW)).trans k4;have lh:xA a F G4 B {s1 with run:=some false}:=lh;left
   by_cases lg:s1.mark true=("open":Str)
   ·rw[decide_eq_true lg];walk_at"y";have mP:Tbs G4:=md.kp k4 lU.muF;refine⟨F,f,ar,co,fa,c,am,B,_,size,rfl,lB,lh,mP,(by show some false≠none;simp),kR.mr,lg,kR.mg,(by show s1.size=size;rw[kR.sz,kP.sz]),mz,lM,lh.c0,(by show s1.cnt<=9000000;lia),λG5 s5=>?_⟩;walk_at"N";exact⟨_,W2.p,_,_,_,rfl,lp.trans (Kp.of s5),lh.same s5,rfl,(by show i+1<=s1.fl;lia),(by show s1.cnt<=_;lia),.inr ⟨rfl,(mw s1 kR lg).setrun _,lg⟩⟩
   ·rw[decide_eq_false lg];walk_at"N";rcases kR.ph with z|z|z|z
    ·rcases hW with rfl|rfl
     ·exact⟨_,W.p,_,_,_,rfl,lp,lh,rfl,(by show i+1<=s1.fl;lia),(by show s1.cnt<=_;lia),.inl ⟨rfl,kR.setrun _,by show s1.mark true=_;rw[z.1,kP.g],z.2.1,z.2.2⟩⟩
     ·exact absurd z.2.1 (lT _)
    ·exact absurd z.1 lg
    ·exact absurd z.1 lA
    ·exact absurd z.1 lE
end
section
inductive xlx(K:aq)(a:Adr)(vs:List V)(H:Hp)(Q:VK):Prop
 |mk (F:FM) (B:BA) (s:BdS) (t al pp ml:Addr) (ev:V) (ys:List V) (S:Sc) (Pf:List Int->Prop) (tx:List Int) (o:Int) (rs:List xq) (total tries:Int):vs=[.ref B.bd,.ref t,.ref ml,ev,.int total,.int tries]->xA a F H B s->H t=some (.tup [.ref pp,.str (s.mark true),.ref al])->H al=some (.lst ys)->(ys=[]\/ys=[.bl (decide (s.mark true=("trial":Str)))])->Fnl S Pf s->S.total=total->S.tries=tries->0<=S.n->H ml=some (.lst (tx.map V.int))->S.L0=tx.length->S.M0.take tx.length=tx->yE K H pp o S.n rs->
  (ev= .non\/∃(el:Addr) (es nw:List Int),ev= .ref el/\H el=some (.lst (es.map V.int))/\(nw.length:Int)=S.n/\(∀r∈rs,Tells es nw r)/\(∀j,j<nw.length->∃r∈rs,zc r j)/\nw.length<=1000/\(s.cells true).take S.n.toNat=nw)->
  (∀H',xj H H'->Q (.bl true) H')->xlx K a vs H Q
def xpn(K:aq)(a:Adr):Sp:=λvs H Q _=>xlx K a vs H Q
noncomputable section
abbrev xa3(P:aH)(w:World)(K:aq)(mg:Str->Option Value)(base:Heap)(a:Adr)(A:bo)(outer:List Env)(s:ak)(H:Hp)(E:XK)(cdv:Value):Cx:=(uQ CX0 P w K mg base ["_law_board","_law_told","_law_marked","_law_elder","_law_total","_law_tries","_law_paper","_law_mark","_law_answers","_law_marker","_law_marks","_law_lengths","_law_counter","_law_running","_law_due"] "_law_right" (xh uM) a.q3t cdv A outer s H E).nox
variable (T:Txt K mg a) (A:bo) (outer:List Env) (s:ak) (H:Hp) (E:XK) (cdv:Value) (hr:ya 2 (A.deeper (cV "_law_right" (xh uM) s.heap.objs.size a.q3t cdv)))
def xn3:RD:=⟨_,xa3 P w K mg base a A outer s H E cdv,(xr uM).drop 6,(xk (xv (xtv (xsI (cv 3)) (vL (zb (xdZ hr.units) (za (cv 0) T.q0a T.q2b (vg T) hr.m T.vU .nil xt (xa xg xc)) (xy (xlp T) hr.m (by rfl) T.xmy T.q3J.kp T.xmx .nil xt (xa (cv 6) (xa (cv 3) xc))))))))⟩
def xn4:RD:=⟨_,xa3 P w K mg base a A outer s H E cdv,(xr uM).drop 5,(xf (yD (xS (PW.pt (zq (xN (xa6 hr.units) (za (cv 0) T.q0a T.q2b (vg T) hr.m T.vU .nil xt (xa xg xc)) (cv 2)) (uo (PW.pt (xg3 (xN xbT (cv 14) xH) (xfG (xN xbS (cv 12) (cv 5)))))))) (xk (xv zL)) xF))
  (RD.h (xn3 T _ _ _ _ _ _ hr)))⟩
def xn5:RD:=⟨_,xa3 P w K mg base a A outer s H E cdv,(xr uM).drop 4,(xf (yD (xS (PW.pt (xg3 (xN (xa6 hr.units) (cv 8) (xX xc)) (xfG (xN (xa6 hr.units) (cv 8) (xX (xa (zb xbT (cv 14) xH) xc)))))) (xk (xv zL)) xF))
  (RD.h (xn4 T _ _ _ _ _ _ hr)))⟩
def xn6:RD:=⟨_,xa3 P w K mg base a A outer s H E cdv,(xr uM).drop 3,(xf (yD (xS (PW.pt (zq (xN xdU (cv 7) (cv 14)) (zq (xN (xa6 hr.units) (cv 10) (xX (xa xH (xa (cv 14) xc)))) (zq (xN (xa6 hr.units) (cv 11) (xX (xa (xI xQ (by rfl) T.q0O yu (xa (cv 2) xc)) (xa (xM xT (cv 6) xg (λ_ _=>rfl)) xc)))) (uo (xN xbS (cv 9) xg)))))) (xk (xv zL)) xF))
  (RD.h (xn5 T _ _ _ _ _ _ hr)))⟩
def xn7:RD:=⟨_,xa3 P w K mg base a A outer s H E cdv,(xr uM).drop 2,(xf (xC (i:=14) vV.nd rfl (az rfl) (xM yx (xX (xa xH (xa xH xc))) (xW xcP (by rfl) T.q4N xe0 (xa (zb xa5 (xI (xbf rfl) (by rfl) T.q4O xeZ (xa (za (cv 0) T.q0a T.q2b (vg T) hr.m T.vU .nil xt (xa xg xc)) xc)) (cv 4)) xc)) (λ_ _=>rfl)))
  (RD.h (xn6 T _ _ _ _ _ _ hr)))⟩
def xn8:RD:=⟨_,xa3 P w K mg base a A outer s H E cdv,(xr uM).drop 1,(xf (xdu (xO (cv 0) T.q0a T.q1f (zJ T) hr.m T.zZ .nil xt) (xb8 rfl (yB (yc (i:=9) vV.nd rfl (az rfl)) (yB (yc (i:=10) vV.nd rfl (az rfl)) (yB (yc (i:=11) vV.nd rfl (az rfl)) (yB (yc (i:=12) vV.nd rfl (az rfl)) (yB (yc (i:=13) vV.nd rfl (az rfl)) xaK)))))))
  (RD.h (xn7 T _ _ _ _ _ _ hr)))⟩
end
def xqv(T:Txt K mg a):xE P w K mg base CX0 3 a.q3t a.xiv ["_law_board","_law_told","_law_marked","_law_elder","_law_total","_law_tries"] (xpn K a):=by
 refine T.q3Z.ok vV (λvs H Q E h=>?_) (λcdv A outer s H vs Q E hr h=>?_)
 ·obtain⟨F,B,s,t,al,pp,ml,ev,ys,S,Pf,tx,o,rs,total,tries,rfl,_⟩:=h;rfl
 ·refine oG λ_ Z=>?_;obtain⟨F,B,st,t,al,pp,ml,ev,ys,S,Pf,tx,o,rs,total,tries,rfl,hB,ht,kY,lI,kP,lJ,lV,lL,lM,lp,me,lK,l7,q⟩:=h;apply Z;have nd:=vV.nd;refine⟨_,(xf (xdu (cv 1) (xb8 rfl (yB (yc (i:=6) nd rfl (az rfl)) (yB (yc (i:=7) nd rfl (az rfl)) (yB (yc (i:=8) nd rfl (az rfl)) xaK)))))
  (RD.h (xn8 T _ _ _ _ _ _ hr))),?_⟩
  refine⟨t,_,rfl,SqT.of ht,rfl,?_⟩;refine⟨_,_,rfl,?_⟩;refine⟨_,_,rfl,?_⟩;exists⟨_,_,rfl,?_⟩;refine aY rfl ?_;refine⟨B.bd,B.dx,_,rfl,hB.bd,rfl,?_⟩;refine⟨F,B,st,rfl,hB,λtt m l H1 s1 hm hl my e1 e2 e3=>?_⟩;refine⟨tt,_,rfl,SqT.of e1,rfl,?_⟩;refine⟨_,_,rfl,?_⟩;refine⟨_,_,rfl,?_⟩;refine⟨_,_,rfl,?_⟩;refine⟨_,_,rfl,?_⟩;exists⟨_,_,rfl,?_⟩;exists aY rfl ?_;walk_at"ss";exists λdl l9=>xw (upd H1 dl _) rfl l9 λH2 kZ lR=>?_;have lP:=hB.same (s1.trans kZ);refine⟨B.bd,B.dx,_,rfl,lP.bd,rfl,?_⟩;refine⟨F,B,st,true,rfl,lP,by rw[kP.ln];exact lL,λt1 H3 s3 mD lz=>?_⟩;rw[kP.ln]at lz;exists⟨t1,_,rfl,SqL.of lz,?_⟩;walk_at"ss";refine .inr ⟨decide (((st.cells true).take S.n.toNat).sum=total),rfl,?_⟩;generalize kR:decide (((st.cells true).take S.n.toNat).sum=total)=dd;have lh:st.mark true=if dd then("trial":Str)else"bad":=by
   rcases kP.mkd with⟨z1,_,z3⟩|⟨z1,z3⟩
   ·rw[<-kR,decide_eq_true (by rw[<-lJ];exact z3),z1];rfl
   ·rw[<-kR,decide_eq_false (by rw[<-lJ];exact z3),z1];rfl
  left;have kX:atI [V.str "bad",V.str "trial"] (if dd=true then 1 else 0)=some (.str (st.mark true)):=by rw[lh];cases dd<;> rfl
  exists⟨dl,_,_,.str (st.mark true),rfl,rfl,SqL.of (s3.at lR),kX,?_⟩;have kW:Mk4 (st.mark true):=by rw[lh];cases dd;exact .inr (.inl rfl);exact .inr (.inr (.inl rfl))
  have lb:=s1.trans (kZ.trans s3);have lC:=(kZ.trans s3).at e2;have lB:=(kZ.trans s3).at e3;rw[kP.mg]at lC;rw[kP.l0,kP.ln,lp]at lB;clear e1 e2 e3 lz lR kX kR lh;refine⟨λσ' G=>σ'=[some (.ref B.bd),some (.ref t),some (.ref ml),some ev,some (.int total),some (.int tries),some (.ref pp),some (.str (st.mark true)),some (.ref al),some (.int (bI st.mr)),some (.ref m),some (.ref l),some (.int st.ct),some (vX st.run),some (.str (st.mark true))]/\xj H3 G,?_,?_⟩
  ·refine⟨λz=>absurd z (by simp),λ_=>?_⟩;right;exists λgl lZ=>xw (upd H3 gl _) rfl lZ λH4 kS mj=>?_;have lY:cF (.list [.str "good",.str (st.mark true)])=true:=by
    have e1:=xiV kW;have e0:bC (.str "good")=true:=by decide+kernel
    refine shp ?_ ?_
    ·simp only[bC]at e0 e1;simp[bC,fR,e0,e1]
    ·simp[cH,fy]
   refine xd1 (f:=λb=> !b) (.lst (SqL.of (kS.at lC)) (.cons (.str _) (.cons (.str _) .nil))) (.lst (SqL.of mj) (.cons (.str _) (.cons (.str _) .nil))) lY ?_;walk_at"N";refine⟨ml,_,rfl,.inl (SqL.of ((lb.trans kS).at lM)),?_⟩;rw[ag];left;refine oG λ_ Z=>?_;obtain⟨mw,mq,lW,_⟩:=id (lK.same (lb.trans kS));apply Z;exists⟨pp,_,_,.int S.n,rfl,rfl,SqT.of lW,rfl,?_⟩;walk_at"ss";exists λnl lX=>xw (upd H4 nl _) rfl lX λH5 lE lA=>?_;have mn:H3 l=some (.lst (([(tx.length:Int),S.n]:List Int).map V.int)):=lB;have lA:H5 nl=some (.lst (([(tx.length:Int),S.n]:List Int).map V.int)):=lA;refine jW (f:=λb=> !b) ⟨l,nl,_,_,rfl,rfl,SqL.of ((kS.trans lE).at mn),SqL.of lA,?_⟩;rw[decide_eq_true rfl];walk_at"N";rw[kP.mr];walk_at"N";exact⟨rfl,kS.trans lE⟩
  rintro σ' H5 ⟨rfl,lG⟩;have lH:=lb.trans lG;clear lC lB lG kW;refine⟨λσ' G=>σ'=[some (.ref B.bd),some (.ref t),some (.ref ml),some ev,some (.int total),some (.int tries),some (.ref pp),some (.str (st.mark true)),some (.ref al),some (.int (bI st.mr)),some (.ref m),some (.ref l),some (.int st.ct),some (vX st.run),some (.str (st.mark true))]/\xj H5 G,?_,?_⟩
  ·right;exists λz0 lU=>xw (upd H5 z0 _) rfl lU λH6 la lQ=>?_;have kQ:=lH.trans la;rcases lI with rfl|rfl
   ·refine⟨.list [],.list [],.lst (SqL.of (kQ.at kY)) .nil,.lst (SqL.of lQ) .nil,by decide+kernel,by decide+kernel,?_⟩;rw[show eo (.list []) (.list [])=true from by decide+kernel];walk_at"N";walk_at"N";exact⟨rfl,la⟩
   ·generalize md:decide (st.mark true=("trial":Str))=bb at kY;refine⟨.list [.bool bb],.list [],.lst (SqL.of (kQ.at kY)) (.cons (.bl _) .nil),.lst (SqL.of lQ) .nil,(by cases bb<;> decide+kernel),by decide+kernel,?_⟩;rw[show eo (.list [.bool bb]) (.list [])=false from by cases bb<;> decide+kernel];walk_at"y";walk_at"ss";exists λz1 lT=>xw (upd H6 z1 _) rfl lT λH7 lD lq=>?_;have lq:H7 z1=some (.lst [.bl bb]):=by rw[lq];show some (HO.lst [V.bl (decide (st.mark true=("trial":Str)))])=_;rw[md]
    refine⟨.list [.bool bb],.list [.bool bb],.lst (SqL.of ((kQ.trans lD).at kY)) (.cons (.bl _) .nil),.lst (SqL.of lq) (.cons (.bl _) .nil),(by cases bb<;> decide+kernel),(by cases bb<;> decide+kernel),?_⟩;rw[show eo (.list [.bool bb]) (.list [.bool bb])=true from by cases bb<;> decide+kernel];walk_at"N";exact⟨rfl,la.trans lD⟩
  rintro σ' H6 ⟨rfl,lF⟩;have kQ:=lH.trans lF;clear lF lI kY;refine⟨λσ' G=>σ'=[some (.ref B.bd),some (.ref t),some (.ref ml),some ev,some (.int total),some (.int tries),some (.ref pp),some (.str (st.mark true)),some (.ref al),some (.int (bI st.mr)),some (.ref m),some (.ref l),some (.int st.ct),some (vX st.run),some (.str (st.mark true))]/\xj H6 G,?_,?_⟩
  ·have lO:=hB.same kQ;refine⟨B.bd,B.dx,_,rfl,lO.bd,rfl,?_⟩;refine⟨F,B,st,false,rfl,lO,by rw[kP.l0,lp];lia,λt2 H7 s7 mC mi=>?_⟩;left;have ly:H7 t2=some (.lst (tx.map V.int)):=by rw[mi,kP.c0,kP.l0,lp,cL,me]
   refine jW (f:=λb=> !b) ⟨t2,ml,tx,tx,rfl,rfl,SqL.of ly,SqL.of ((kQ.trans s7).at lM),?_⟩;rw[decide_eq_true rfl];walk_at"n";have ll:st.mark true=("trial":Str)->st.ct=tries:=λz=>by
    rcases kP.mkd with⟨_,z2,_⟩|⟨z1,_⟩
    ·rw[z2,lV]
    ·rw[z1]at z;exact absurd z (by decide)
   by_cases lg:st.mark true=("trial":Str)
   ·rw[decide_eq_true lg];walk_at"Y";rw[ll lg];refine⟨λz=>absurd z (by simp),λ_=>?_⟩;exact⟨rfl,s7⟩
   rw[decide_eq_false lg];walk_at"N";walk_at"N";exact⟨rfl,s7⟩
  rintro σ' H7 ⟨rfl,lS⟩;have kT:=kQ.trans lS;rcases l7 with rfl|⟨el,es,nw,rfl,l8,n1,n2,n3,n4,n5⟩
  ·walk_at"Y";exact q H7 kT
  ·walk_at"n";have lN:=hB.same kT;refine⟨B.bd,B.dx,_,rfl,lN.bd,rfl,?_⟩;refine⟨F,B,st,true,rfl,lN,by rw[kP.ln];exact lL,λt3 H8 s8 mB mh=>?_⟩;refine⟨pp,el,o,rs,es,nw,rfl,by rw[n1];exact lK.same (kT.trans s8),(kT.trans s8).at l8,n2,n3,n4,λt4 H9 s9 mz mf=>?_⟩;have lr:H8 t3=some (.lst (nw.map V.int)):=by rw[mh,kP.ln,n5]
   refine jW (f:=λb=>b) ⟨t3,t4,nw,nw,rfl,rfl,SqL.of (s9.at lr),SqL.of mf,?_⟩;rw[decide_eq_true rfl];exact q H9 (kT.trans (s8.trans s9))
end
theorem zO.puts(h:yE K H p 0 n rs)(ht:Tl 0 rs n)(hr:∀r∈rs,r.rds=[]/\Sm r)(hn:n<=size)(kP:n<=300)(h3:rs.length<=3):zO K H p 0 n rs size:=by
 obtain⟨nw,e,_,_,g,_,tw,lk⟩:=xhX (es:=[]) (kO rs) ht rfl;have hok:∀r∈rs,r.ok/\Fit 0 n r:=λr z=>by
  obtain⟨g1,g2⟩:=g r z;refine⟨g1.1,?_⟩;cases r with
  |put to sg=>exact g2
  |take to st c=>exact⟨g1.2.2,by have:=g1.1.2.2;have g2:to+(c.toNat:Nat)<=n:=g2;lia⟩
 have hg:xds K H p 0 n rs:=by
  obtain⟨tt,us,q1,q2,q3⟩:=h;have hl:=q3.length;refine⟨tt,us,q1,q2,?_,by lia⟩;have:∀{us:List Addr} {rs:List xq},Paired (TupAt K H) us rs->(∀r∈rs,r.ok/\Sm r)->Paired (GT K H) us rs:=by
   intro us rs h
   induction h with
   |nil=>intro _;exact .nil
   |cons z t ih=>exact λk=>.cons ⟨z,k _ (bh ..)⟩ (ih λr hr=>k r (aL _ hr))
  exact this q3 (λr z=>⟨(hok r z).1,(hr r z).2⟩)
 have kQ:0<=n:=by lia
 refine⟨⟨h,by lia,by lia,by lia,hok,tw⟩,by unfold jF;rw[lk,xlr λr z=>(hr r z).1],hg,?_,by lia,?_⟩
 ·obtain⟨_,us,_,_,q3,q4⟩:=hg;refine xpe (old:=0) (new:=n) q3 (λr z=>?_) (by lia) (by lia);have:=(hok r z).2;cases r with
  |take to st c=>exact this
  |put to sg=>exact this
 ·obtain⟨_,us,_,_,q3,q4⟩:=hg;have:=xmW q3;have:=q3.length;lia
def xly{sg:List Int}(h:(xq.put 0 sg).ok):Tl 0 [.put 0 sg] sg.length:=by
 have:=Tl.snoc (rs:=[]) (at':=0) (n:=sg.length) (r:=.put 0 sg) (.nil (old:=0)) ⟨h,trivial,trivial⟩ rfl rfl;rw[iH]at this;exact this
def xpo{sg sg2:List Int}(h:(xq.put 0 sg).ok)(h2:(xq.put sg.length sg2).ok):Tl 0 [.put 0 sg,.put sg.length sg2] (sg.length+sg2.length):=
 Tl.snoc (rs:=[.put 0 sg]) (at':=sg.length) (n:=sg2.length) (r:=.put sg.length sg2) (xly h) ⟨h2,trivial,trivial⟩ rfl rfl
def xh2{sg:List Int}{to:Nat}(h:to+sg.length<=C.length)(hk:(xq.put to sg).ok)(hl:sg.length<=300):doP (.put to sg) C (xY to sg.length)=C.take to++sg++C.drop (to+sg.length):=by
 have hp:yA C.length (.put to sg,xY to sg.length):=by
  refine⟨hk,by unfold xY;simp;exact hl,λd hd=>?_⟩;obtain⟨i,hi⟩:=bB.mp hd;obtain⟨h1,h2⟩:=jS hi;exact⟨by lia,by lia,by lia,by lia⟩
 have h1:=xer hp (λd _ kQ st c e=>by cases e);apply eF;intro j
 by_cases hj:j<C.length
 ·rw[h1.2 j hj]
  by_cases hm:(j:Int)∈xY (to:Int) sg.length
  ·obtain⟨i,hi⟩:=bB.mp hm;obtain⟨i1,i2⟩:=jS hi;rw[if_pos hm];show sg[((j:Int) - to).toNat]? =_;rw[bP,bx (by rw[bz];lia),bj (by rw[bz];lia)]
   congr 1
   rw[bz];lia
  ·rw[if_neg hm];have kP:j<to\/to+sg.length<=j:=by
    refine Decidable.byContradiction λz=>hm ?_;unfold xY;exact bZ.mpr ⟨j - to,dO.mpr (by lia),by lia⟩
   rcases kP with z|z
   ·rw[bP,bj (by rw[bz];lia),dv,if_pos z]
   ·rw[bx (by rw[aC,bz];lia),cG]
    congr 1
    rw[aC,bz];lia
 ·rw[bw (by rw[h1.1];lia),bw (by simp;lia)]
theorem xjI{F:FM}:∀(ys:List Wr) (s:BdS) (j:Nat),j<ys.length->(∀i:Nat,i<j->F.fo s.fl (s.cnt+i)=none)->F.fo s.fl (s.cnt+j)=some none->xD F s ys=({yf s (ys.take j)with cnt:=s.cnt+j+1,fl:=s.fl+1},some (s.cnt+j))
 |[],_,_,h,_,_=>absurd h (by simp)
 |y::ys,s,0,_,_,h=>by
  have h:F.fo s.fl s.cnt=some none:=by rw[<-h];congr 1;lia
  rw[yo (by rw[h];simp),xgK h];show(({s with cnt:=s.cnt+1,fl:=s.fl+1}:BdS),some s.cnt)=({s with cnt:=s.cnt+((0:Nat):Int)+1,fl:=s.fl+1},some (s.cnt+((0:Nat):Int)));rw[show s.cnt+((0:Nat):Int)=s.cnt by lia]
 |y::ys,s,j+1,hj,hn,h=>by
  have h0:F.fo s.fl s.cnt=none:=by have:=hn 0 (by lia);rw[show s.cnt+((0:Nat):Int)=s.cnt by lia]at this;exact this
  rw[yz h0,zA h0];rw[xjI ys {y.up s with cnt:=s.cnt+1,fl:=s.fl} j (by simp at hj;lia) (λi hi=>by
   have:=hn (i+1) (by lia);show F.fo s.fl (s.cnt+1+(i:Int))=none;rw[<-this];congr 1;lia) (by show F.fo s.fl (s.cnt+1+(j:Int))=some none;rw[<-h];congr 1;lia)]
  have up:∀(zs:List Wr) (t:BdS) (c:Int) (f:Nat),yf {t with cnt:=c,fl:=f} zs={yf t zs with cnt:=c,fl:=f}:=by
   intro zs
   induction zs with
   |nil=>intro t c f;rfl
   |cons z zs ih=>intro t c f;show yf (z.up {t with cnt:=c,fl:=f}) zs={yf (z.up t) zs with cnt:=c,fl:=f};rw[xnY,ih]
  rw[up];show(({yf (y.up s) (ys.take j)with cnt:=s.cnt+1+(j:Int)+1,fl:=s.fl+1}:BdS),some (s.cnt+1+(j:Int)))=({yf (y.up s) (ys.take j)with cnt:=s.cnt+((j+1:Nat):Int)+1,fl:=s.fl+1},some (s.cnt+((j+1:Nat):Int)));rw[show s.cnt+1+(j:Int)=s.cnt+((j+1:Nat):Int)by lia]
theorem xjJ{F:FM}:∀(ys:List Wr) (s:BdS),(∀n,s.cnt<=n->F.fo s.fl n=none)->(xD F s ys).2=none
 |[],_,_=>rfl
 |y::ys,s,h=>by
  rw[yz (h _ (cI _))];refine xjJ ys _ ?_;rw[zA (h _ (cI _))];exact λn hn=>h n (by have hn:s.cnt+1<=n:=hn;lia)
theorem xgO{r:xq}:∀(ds:List Int) (s:BdS),yf s (pcW true r (s.cells true) ds)={s with cells:=upB s.cells true (doP r (s.cells true) ds)}
 |[],s=>by show s={s with cells:=upB s.cells true (s.cells true)};rw[xfz]
 |d::ds,s=>by
  have e0:pcW true r (s.cells true) (d::ds)= .cell true d.toNat (jy r (s.cells true) d)::pcW true r (zt r (s.cells true) d) ds:=rfl;generalize kP:({s with cells:=upB s.cells true ((s.cells true).set d.toNat (jy r (s.cells true) d))}:BdS)=s1;have e1:(Wr.cell true d.toNat (jy r (s.cells true) d)).up s=s1:=kP;have e2:s1.cells true=zt r (s.cells true) d:=by rw[<-kP,xc0];show upB s.cells true _ true=_;exact yw
  have ih:=xgO (r:=r) ds s1;rw[e2]at ih;rw[e0];show yf ((Wr.cell true d.toNat (jy r (s.cells true) d)).up s) (pcW true r (zt r (s.cells true) d) ds)=_;rw[e1,ih,<-kP];show({s with cells:=upB (upB s.cells true _) true _}:BdS)=_;rw[xb6];rfl
def xlz(lo:Int)(n:Nat):(xY lo n).length=n:=by unfold xY;simp
def xmZ(fs ss:List Int)(x:Int):xP [.put 0 fs,.put x ss]=[(.put 0 fs,xY 0 fs.length),(.put x ss,xY x ss.length)]:=rfl
def yj(size:Int):BdS:={bd0 [] size 0 with run:=some false}
def exN(e:Nat):List (Option Int):=[some 0,if e=0 then some 0 else some 1]
def xiX(fs:List Int)(b:Nat)(size:Int)(e:Nat)(c:Int)(r:Option Bool):BdS:={yj size with notes:=upB (yj size).notes true (exN e),mark:=upB (yj size).mark true "open",cells:=upB (yj size).cells true (fs++ao b 0),cnt:=c,fl:=1,run:=r}
def xn9{fs ss:List Int}(hs:size=fs.length+ss.length)(he:e=0\/e=1)(hb:1<=ss.length)(hk:(xq.put 0 fs).ok)(h5:fs.length<=5):
  xD (FEx g (fs.length+3+e)) (yj size) (yr (yj size) [.put 0 fs,.put fs.length ss] 0 size 5 1)=(xiX fs ss.length size e (fs.length+3+e+1) (some false),some (fs.length+3+e:Int)):=by
 have hA:yr (yj size) [.put 0 fs,.put fs.length ss] 0 size 5 1=[.note true 0 0,.note true 1 0,.mark true "open"]++(pcW true (.put 0 fs) (ao size.toNat 0) (xY 0 fs.length)++(.note true 1 1::(pcW true (.put fs.length ss) (doP (.put 0 fs) (ao size.toNat 0) (xY 0 fs.length)) (xY fs.length ss.length)++(.note true 0 2::xcK (yj size) [.put 0 fs,.put fs.length ss] 0 size 5 1)))):=by
  unfold yr;rw[if_neg (show¬(yj size).mark (!(yj size).mr)=("open":Str)from by show¬("bad":Str)="open";decide),xmZ];show _++(goW true (ao size.toNat 0) 0 [(.put 0 fs,xY 0 fs.length),(.put fs.length ss,xY fs.length ss.length)]++_)=_;show _++((pcW true (.put 0 fs) (ao size.toNat 0) (xY 0 fs.length)++(.note true 1 1::(pcW true (.put fs.length ss) (doP (.put 0 fs) (ao size.toNat 0) (xY 0 fs.length)) (xY fs.length ss.length)++(.note true 0 2::[]))))++_)=_;simp only[bP,cU,bY];rfl
 rw[hA];generalize kS:(pcW true (.put fs.length ss) (doP (.put 0 fs) (ao size.toNat 0) (xY 0 fs.length)) (xY fs.length ss.length)++(.note true 0 2::xcK (yj size) [.put 0 fs,.put fs.length ss] 0 size 5 1))=R;have hR:1<=R.length:=by rw[<-kS,aC,xfU,xlz];lia
 clear hA kS;have kP:(pcW true (.put 0 fs) (ao size.toNat 0) (xY 0 fs.length)).length=fs.length:=by rw[xfU,xlz]
 have kW:doP (.put 0 fs) (ao size.toNat (0:Int)) (xY 0 fs.length)=fs++ao ss.length 0:=by
  have:=xh2 (C:=ao size.toNat (0:Int)) (sg:=fs) (to:=0) (by rw[bf];lia) hk (by lia);rw[show((0:Nat):Int)=0 from rfl]at this;rw[this,eN,bY,List.drop_replicate]
  congr 2
  lia
 generalize kR:yf (yj size) [.note true 0 0,.note true 1 0,.mark true "open"]=sA;have eA:sA={yj size with notes:=upB (yj size).notes true [some 0,some 0],mark:=upB (yj size).mark true "open"}:=by
  rw[<-kR];show({yj size with notes:=upB (upB (yj size).notes true [some 0,some 0]) true ((upB (yj size).notes true [some 0,some 0] true).set 1 (some 0)),mark:=upB (yj size).mark true "open"}:BdS)=_;rw[xb6,yw];rfl
 have kQ:yf (yj size) ([.note true 0 0,.note true 1 0,.mark true "open"]++pcW true (.put 0 fs) (ao size.toNat 0) (xY 0 fs.length))={yj size with notes:=upB (yj size).notes true [some 0,some 0],mark:=upB (yj size).mark true "open",cells:=upB (yj size).cells true (fs++ao ss.length 0)}:=by
  rw[xbq,kR];have:=xgO (r:=.put 0 fs) (xY 0 fs.length) sA;rw[show sA.cells true=ao size.toNat 0 from by rw[eA];rfl]at this;rw[this,kW,eA]
 have hj:∀i:Nat,i<3+fs.length+e->(FEx g (fs.length+3+e)).fo (yj size).fl ((yj size).cnt+i)=none:=λi hi=>if_neg (by show¬(0:Int)+(i:Int)=fs.length+3+e;lia);have kT:(FEx g (fs.length+3+e)).fo (yj size).fl ((yj size).cnt+((3+fs.length+e:Nat):Int))=some none:=if_pos (by show(0:Int)+((3+fs.length+e:Nat):Int)=fs.length+3+e;lia);rw[xjI _ _ (3+fs.length+e) (by simp only[aC,bD,fq,kP];lia) hj kT];have kX:(yj size).cnt+((3+fs.length+e:Nat):Int)=fs.length+3+e:=by show(0:Int)+((3+fs.length+e:Nat):Int)=_;lia
 rw[kX]
 congr 1
 rcases he with rfl|rfl
 ·rw[<-bP,List.take_left' (by rw[aC,kP];simp),kQ];rfl
 ·have:([.note true 0 0,.note true 1 0,.mark true "open"]++(pcW true (.put 0 fs) (ao size.toNat 0) (xY 0 fs.length)++(Wr.note true 1 1::R)))=(([.note true 0 0,.note true 1 0,.mark true "open"]++pcW true (.put 0 fs) (ao size.toNat 0) (xY 0 fs.length))++[.note true 1 1])++R:=by simp
  rw[this,List.take_left' (by rw[aC,aC,kP];simp),xbq,kQ];show({yj size with notes:=upB (upB (yj size).notes true [some 0,some 0]) true ((upB (yj size).notes true [some 0,some 0] true).set 1 (some 1)),mark:=_,cells:=_,cnt:=_,fl:=_}:BdS)=_;rw[xb6,yw];rfl
theorem xlA:∀(xs:List (xq×List Int)) (m:Nat) (s:BdS),∃ns,yf s (goW true (s.cells true) m xs)={s with cells:=upB s.cells true (doL (s.cells true) xs),notes:=ns}
 |[],m,s=>⟨s.notes,by show s={s with cells:=upB s.cells true (s.cells true),notes:=s.notes};rw[xfz]⟩
 |x::xs,m,s=>by
  have e0:goW true (s.cells true) m (x::xs)=pcW true x.1 (s.cells true) x.2++(.note true ((m+1)%2) ((m+1:Nat):Int)::goW true (doP x.1 (s.cells true) x.2) (m+1) xs):=rfl;rw[e0,xbq,xgO];generalize kP:(Wr.note true ((m+1)%2) ((m+1:Nat):Int)).up {s with cells:=upB s.cells true (doP x.1 (s.cells true) x.2)}=s1;have e1:s1.cells true=doP x.1 (s.cells true) x.2:=by rw[<-kP];show upB s.cells true _ true=_;exact yw
  obtain⟨ns,h⟩:=xlA xs (m+1) s1;rw[e1]at h;refine⟨ns,?_⟩;show yf ((Wr.note true ((m+1)%2) ((m+1:Nat):Int)).up {s with cells:=upB s.cells true (doP x.1 (s.cells true) x.2)}) (goW true (doP x.1 (s.cells true) x.2) (m+1) xs)=_;rw[kP,h,<-kP];show({s with cells:=upB (upB s.cells true _) true _,notes:=ns}:BdS)=_;rw[xb6];rfl
def xlB{fs ts qs:List Int}(he:e=0\/e=1)(hl:ts.length=fs.length)(kQ:(xq.put 0 ts).ok)(kP:(xq.put fs.length qs).ok)(h5:fs.length<=5)(kR:qs.length<=5):
  doL (fs++ao qs.length 0) ((xP [.put 0 ts,.put fs.length qs]).drop e)=(if e=0 then ts else fs)++qs:=by
 have two:∀zs:List Int,zs.length=fs.length->doP (.put fs.length qs) (zs++ao qs.length 0) (xY fs.length qs.length)=zs++qs:=λzs hz=>by
  rw[xh2 (by rw[aC,bf,hz];lia) kP (by lia),<-hz,i7,bS (by rw[aC,bf];lia),cC]
 rw[xmZ];rcases he with rfl|rfl
 ·show doP (.put fs.length qs) (doP (.put 0 ts) (fs++ao qs.length 0) (xY 0 ts.length)) (xY fs.length qs.length)=ts++qs;have:=xh2 (C:=fs++ao qs.length 0) (sg:=ts) (to:=0) (by rw[aC,bf];lia) kQ (by lia);rw[show((0:Nat):Int)=0 from rfl]at this;rw[this,eN,bY,iG,hl,List.drop_left];exact two ts hl
 ·show doP (.put fs.length qs) (fs++ao qs.length 0) (xY fs.length qs.length)=fs++qs;exact two fs rfl
def xmh{fs ts qs:List Int}{stop:Int}(hs:size=fs.length+qs.length)(he:e=0\/e=1)(hl:ts.length=fs.length)(kX:(xq.put 0 ts).ok)(kW:(xq.put fs.length qs).ok)(h5:fs.length<=5)(kZ:qs.length<=5)(kP:s=xiX fs qs.length size e (stop+1) (some false)):
  zB s e/\ja s [.put 0 ts,.put fs.length qs] e=(if e=0 then ts else fs)++qs/\(xD (FEx g stop) s (yr s [.put 0 ts,.put fs.length qs] e size ((if e=0 then ts else fs)++qs).sum 4)).2=none/\
  ∃ns c f,(xD (FEx g stop) s (yr s [.put 0 ts,.put fs.length qs] e size ((if e=0 then ts else fs)++qs).sum 4)).1={s with cells:=upB s.cells true ((if e=0 then ts else fs)++qs),notes:=ns,len:=upB s.len true size,ct:=4,mark:=upB s.mark true "trial",cnt:=c,fl:=f}:=by
 have kR:s.mr=false:=by rw[kP];rfl
 have kS:s.mark true=("open":Str):=by rw[kP];exact yw (f:=(yj size).mark) (b:=true)
 have la:s.notes true=exN e:=by rw[kP];exact yw (f:=(yj size).notes) (b:=true)
 have kY:s.cells true=fs++ao qs.length 0:=by rw[kP];exact yw (f:=(yj size).cells) (b:=true)
 have lg:zB s e:=by
  unfold zB;rw[kR];show(s.notes true).length=2/\e<=10000/\if s.mark true=("open":Str)then uI (s.notes true) e else e=0;rw[if_pos kS,la];rcases he with rfl|rfl<;> simp[exN,uI]
 have kQ:ja s [.put 0 ts,.put fs.length qs] e=(if e=0 then ts else fs)++qs:=by
  unfold ja;rw[kR];show doL (s.cells true) _=_;rw[kY];exact xlB he hl kX kW h5 kZ
 have kT:(xD (FEx g stop) s (yr s [.put 0 ts,.put fs.length qs] e size ((if e=0 then ts else fs)++qs).sum 4)).2=none:=xjJ _ _ λn hn=>by
  have hc:s.cnt=stop+1:=by rw[kP];rfl
  exact if_neg (by lia)
 refine⟨lg,kQ,kT,?_⟩;rw[xbp _ _ kT];generalize hW:yr s [.put 0 ts,.put fs.length qs] e size ((if e=0 then ts else fs)++qs).sum 4=Y;have hY:Y=goW true (s.cells true) e ((xP [.put 0 ts,.put fs.length qs]).drop e)++[.leng true size,.cter 4,.mark true "trial"]:=by
  rw[<-hW];unfold yr xcK;rw[kQ,kR];show(if s.mark true=("open":Str)then[]else _)++_=_;rw[if_pos kS,bY,if_pos ?_]
  ·rfl
  ·rw[cz];rw[aC];rcases he with rfl|rfl
   ·show ts.length+_<=_;lia
   ·show fs.length+_<=_;lia
 obtain⟨ns,lb⟩:=xlA ((xP [.put 0 ts,.put fs.length qs]).drop e) e s;refine⟨ns,s.cnt+(Y.length:Int),s.fl,?_⟩;have hu:yf s Y={s with cells:=upB s.cells true ((if e=0 then ts else fs)++qs),notes:=ns,len:=upB s.len true size,ct:=4,mark:=upB s.mark true "trial"}:=by
  rw[hY,xbq,lb,kY,xlB he hl kX kW h5 kZ];rfl
 rw[hu]
section
def Kp.fresh(h:Kp L H G)(f:∀y∈L,H y=none):xj H G:=λb u e=>h b u e λz=>by rw[f b z]at e;cases e
def xr9(K:aq):Sp:=λvs H Q _=>Ex2 λ(l:Addr) (ns:List Int)=>vs=[.ref l]/\SqL K H l (ns.map V.int)/\Tbs H/\H uD=some (.tbl xal)/\∀H',xj H H'->Q (.bl true) H'
noncomputable def yN(i:Int):Int:=i+10^(gR 59)
def xqw:V->V
 | .int i=>.int (yN i)
 |v=>v
def xlC(xs:List Int):(xs.map V.int).map xqw=(xs.map yN).map V.int:=by
 rw[List.map_map,List.map_map];rfl
def xcN{to:Int}{sg:List Int}(h0:0<=to)(h1:1<=sg.length)(h2:sg.length<=100)(hs:∀x∈sg,(x.natAbs:Int)<10^60):(xq.put to sg).ok:=⟨h0,(λz=>by rw[z]at h1;simp at h1),by lia,hs⟩
def xm0{xs:List Int}(h:∀x∈xs,Sg x):∀x∈xs.map yN,(x.natAbs:Int)<10^60:=λx hx=>by
 obtain⟨y,hy,rfl⟩:=bZ.mp hx;have:=h y hy;unfold Sg at this;unfold yN;have e:(10:Int)^(gR 59)=10^59:=rfl;rw[e];lia
def xke{xs:List Int}(h:∀x∈xs,Sg x):∀x∈xs,(x.natAbs:Int)<10^60:=λx hx=>Int.lt_of_le_of_lt (h x hx) (by decide)
noncomputable section
abbrev yp(P:aH)(w:World)(K:aq)(mg:Str->Option Value)(base:Heap)(a:Adr)(A:bo)(outer:List Env)(s:ak)(H:Hp)(E:XK):Cx:=(xa7 ["_law_stop"] CX0 P w K mg base ["_law_script","_law_cell","_law_first","_law_second","_law_third","_law_fourth","_law_size","_law_stop","_law_board","_law_one","_law_other","_law_due","_law_fell","e"] "_law_exchanged" (xh xZ) a.q1o (.ref q0T) A outer s H E).nox
variable (T:Txt K mg a) (A:bo) (outer:List Env) (s:ak) (H:Hp) (E:XK) (hr:ya 12 (A.deeper (cV "_law_exchanged" (xh xZ) s.heap.objs.size a.q1o (.ref q0T))))
def xiY:RD:=⟨_,yp P w K mg base a A outer s H E,(xr xZ).drop 17,(xk (xv (zb (xdZ hr.units) (xO (cv 8) T.q0a T.q1f (zJ T) hr.m T.zZ .nil xt) (xR (xa xg (xa (xX (xa xH (xa xH xc))) (xa (xX (xa xg (xa (cv 6) xc))) (xa xg (xa xg xc)))))))))⟩
def xiZ:RD:=⟨_,yp P w K mg base a A outer s H E,(xr xZ).drop 16,(xf (yD (xS (PW.pt (zq (xN xoM (za (cv 8) T.q0a T.q1C (uz T) hr.m T.uN .nil xa8 (xa (cv 10) (xa (xI (xbf rfl) (by rfl) T.q4O xeZ (xa (cv 11) xc)) (xa xg xc)))) zL) (uo (xN (xa6 hr.units) (za (cv 8) T.q0a T.q2b (vg T) hr.m T.vU .nil xt (xa xg xc)) (cv 11))))) (xk (xv zL)) xF))
  (RD.h (xiY T _ _ _ _ _ hr)))⟩
def xi0:RD:=⟨_,yp P w K mg base a A outer s H E,(xr xZ).drop 14,(xf (yD (xS (PW.pt (zq (xN xbS (cv 12) (cv 7)) (uo (xN (xa6 hr.units) (xO (cv 8) T.q0a T.q1f (zJ T) hr.m T.zZ .nil xt) (xR (xa xg (xa (xX (xa xH (xa xH xc))) (xa (xX (xa xg (xa xg xc))) (xa xg (xa yO xc)))))))))) (xk (xv zL)) xF))
  (xf (xK (xO (cv 8) T.q0a T.q1n (zC T) hr.m T.um .nil xa8))
  (RD.h (xiZ T _ _ _ _ _ hr))))⟩
def xi1:RD:=⟨_,yp P w K mg base a A outer s H E,(xr xZ).drop 13,(xf (yD (xkw (i:=13) ⟨rfl,rfl,rfl⟩ T.q4f (by rfl) T.xcB yi.nd rfl rfl (λ_ _=>(xk (xK (ye ⟨rfl,rfl,rfl⟩ (cv 8) T.q0a T.q1C (uz (P:=P) (w:=w) (base:=base) T) hr.m T.uN .nil (xa (cv 9) (xa xg (xa xg xc))))))) (λ_ _ _ _ ep=>(xk (xC (i:=12) yi.nd rfl (az rfl) (xfM (K:=K) rfl ep (by exact λ_ z=>aI _ z) (cv 13) rfl))))))
  (RD.h (xi0 T _ _ _ _ _ hr)))⟩
def xi2:RD:=⟨_,yp P w K mg base a A outer s H E,(xr xZ).drop 11,(xf (xC (i:=11) yi.nd rfl (az rfl) (xx xon (xM yx (xX (xa (cv 4) (xa (cv 2) xc))) (xx yU (cv 1) xg) (λ_ _=>rfl)) (cv 5)))
  (xf (yD (xC (i:=12) yi.nd rfl (az rfl) yO))
  (RD.h (xi1 T _ _ _ _ _ hr))))⟩
def xi3:RD:=⟨_,yp P w K mg base a A outer s H E,(xr xZ).drop 10,(xf (xC (i:=10) yi.nd rfl (az rfl) (xR (xa xg (xa (cv 6) (xa (xR (xa (xR (xa xH (xa xg (xa (xW yn (by rfl) T.q09 yP (xa (cv 4) xc)) xc)))) (xa (xR (xa xH (xa (xI xQ (by rfl) T.q0O yu (xa (cv 2) xc)) (xa (xW yn (by rfl) T.q09 yP (xa (cv 5) xc)) xc)))) xc))) xc)))))
  (RD.h (xi2 T _ _ _ _ _ hr)))⟩
def xi4:RD:=⟨_,yp P w K mg base a A outer s H E,(xr xZ).drop 9,(xf (xC (i:=9) yi.nd rfl (az rfl) (xR (xa xg (xa (cv 6) (xa (xR (xa (xR (xa xH (xa xg (xa (xW yn (by rfl) T.q09 yP (xa (cv 2) xc)) xc)))) (xa (xR (xa xH (xa (xI xQ (by rfl) T.q0O yu (xa (cv 2) xc)) (xa (xW yn (by rfl) T.q09 yP (xa (cv 3) xc)) xc)))) xc))) xc)))))
  (RD.h (xi3 T _ _ _ _ _ hr)))⟩
def xi5:RD:=⟨_,yp P w K mg base a A outer s H E,(xr xZ).drop 7,(xf (xC (i:=8) yi.nd rfl (az rfl) (xaM T.q4M (xeP T) hr.m (by rfl) T.xmz T.xav .nil xt (xa (xX xc) (xa (cv 6) (xa (zP (c:=q0T) (P:=uD) (qs:=xal) (fns:=["_law_stop"]) rfl T.q4t (q:="_law_exchanged.<locals>.<lambda>") (by kernel_rfl) (.head _) (by kernel_rfl) (by kernel_rfl)) xc)))))
  (xf (xK (xO (cv 8) T.q0a T.q1n (zC T) hr.m T.um .nil xa8))
  (RD.h (xi4 T _ _ _ _ _ hr))))⟩
def xi6:RD:=⟨_,yp P w K mg base a A outer s H E,(xr xZ).drop 6,(xf (xaQ (i:=7) yi.nd rfl rfl rfl (by kernel_rfl) (xx ym (xx ym (xI xQ (by rfl) T.q0O yu (xa (cv 2) xc)) xg) (xx yU (cv 1) xg)))
  (RD.h (xi5 T _ _ _ _ _ hr)))⟩
def xi7:RD:=⟨_,yp P w K mg base a A outer s H E,(xr xZ).drop 5,(xf (xC (i:=6) yi.nd rfl (az rfl) (xx ym (xI xQ (by rfl) T.q0O yu (xa (cv 2) xc)) (xI xQ (by rfl) T.q0O yu (xa (cv 3) xc))))
  (RD.h (xi6 T _ _ _ _ _ hr)))⟩
def xh3:RD:=⟨_,yp P w K mg base a A outer s H E,(xr xZ).drop 4,(xf (xdX (i:=5) (xae (cap:=[]) (ys:=[]) rfl rfl rfl rfl rfl trivial (by decide+kernel)) rfl yi.nd rfl rfl (zx (cv 3)) (λ_ _ _ _=>(xx ym (cv 0) (xx xdT xg xg))) (λ_ _ _ _=>jV))
  (RD.h (xi7 T _ _ _ _ _ hr)))⟩
def xh4:RD:=⟨_,yp P w K mg base a A outer s H E,(xr xZ).drop 3,(xf (xdX (i:=4) (xae (cap:=[]) (ys:=[]) rfl rfl rfl rfl rfl trivial (by decide+kernel)) rfl yi.nd rfl rfl (zx (cv 2)) (λ_ _ _ _=>(xx ym (cv 0) (xx xdT xg xg))) (λ_ _ _ _=>jV))
  (RD.h (xh3 T _ _ _ _ _ hr)))⟩
def xh5:RD:=⟨_,yp P w K mg base a A outer s H E,(xr xZ).drop 2,(xf (xC (i:=3) yi.nd rfl (az rfl) (xy (xdP T) hr.m (by rfl) T.xfl T.q3n.kp T.xfk .nil xt (xa (xy (yv T) hr.m (by rfl) T.yH T.q0o.kp T.yG .nil xt (xa (cv 0) (xa xg xc))) (xa (xx ym xg (xx yU (xy (yv T) hr.m (by rfl) T.yH T.q0o.kp T.yG .nil xt (xa (cv 0) (xa xg xc))) xg)) xc))))
  (RD.h (xh4 T _ _ _ _ _ hr)))⟩
def xh6:RD:=⟨_,yp P w K mg base a A outer s H E,(xr xZ).drop 1,(xf (xC (i:=2) yi.nd rfl (az rfl) (xy (xdP T) hr.m (by rfl) T.xfl T.q3n.kp T.xfk .nil xt (xa (xy (yv T) hr.m (by rfl) T.yH T.q0o.kp T.yG .nil xt (xa (cv 0) (xa xg xc))) (xa (xx ym xg (xx yU (xy (yv T) hr.m (by rfl) T.yH T.q0o.kp T.yG .nil xt (xa (cv 0) (xa xg xc))) xg)) xc))))
  (RD.h (xh5 T _ _ _ _ _ hr)))⟩
end
def xlD(T:Txt K mg a):xE P w K mg base CX0 13 a.q1o a.xa9 ["_law_script"] (xr9 K):=by
 refine T.jC.okC ["_law_stop"] T.xkQ yi (λvs H Q E h=>?_) (λA outer s H vs Q E hr h=>?_)
 ·obtain⟨l,ns,rfl,_⟩:=h;rfl
 ·refine oG λ_ Z=>?_;obtain⟨l,ns,rfl,hl,hT,qq,q⟩:=h;apply Z;have nd:=yi.nd;refine⟨_,(yF (x:="_law_stop") (i:=7) nd rfl rfl rfl (by kernel_rfl) (xf (xC (i:=1) nd rfl (az rfl) (xy (yv T) hr.m (by rfl) T.yH T.q0o.kp T.yG .nil xt (xa (cv 0) (xa xg xc))))
  (RD.h (xh6 T _ _ _ _ _ hr)))),?_⟩
  left;intro f1 e1 z1 d1;refine aY z1 ?_;refine gnr (upd H f1 _) λH1 nF=>?_;have s1:=xj.of_eq z1 nF;have c1:H1 f1=some (.cel none):=xU nF;clear nF;refine⟨l,ns,8,rfl,s1.seq hl,by decide,?_⟩;refine⟨l,ns,6,rfl,s1.seq hl,by decide,?_⟩;refine⟨l,ns,6,rfl,s1.seq hl,by decide,?_⟩;right;refine⟨cellAt ns 6,_,rfl,by lia,by lia,λfl fs H2 s2 qQ o8 qe oM=>?_⟩;have mw:1<=fs.length/\fs.length<=5:=by lia
  have m8:=s1.trans s2;refine⟨l,ns,7,rfl,m8.seq hl,by decide,?_⟩;refine⟨l,ns,7,rfl,m8.seq hl,by decide,?_⟩;right;refine⟨cellAt ns 7,_,rfl,by lia,by lia,λsl ss H3 s3 qN nR pY oH=>?_⟩;have nv:1<=ss.length/\ss.length<=5:=by lia
  have pI:=m8.trans s3;have lG:=s3.at o8;clear qe pY;refine⟨fl,rfl,⟨_,SqL.of lG⟩,?_⟩;refine xjq xqw (SqL.of lG) (by rw[ag,aZ];lia) (λv G hv sG R hR=>?_) (λtl G4 qL s4 nO=>?_)
  ·refine oG λ_ Z=>?_;obtain⟨i,_,rfl⟩:=bZ.mp hv;exists Z ?_;refine aY ⟨by decide,by decide,by decide⟩ ?_;exact hR G (xj.refl _)
  rw[xlC]at nO;have lX:=s4.at nR;refine⟨sl,rfl,⟨_,SqL.of lX⟩,?_⟩;refine xjq xqw (SqL.of lX) (by rw[ag,aZ];lia) (λv G hv sG R hR=>?_) (λql G5 qO s5 nS=>?_)
  ·refine oG λ_ Z=>?_;obtain⟨i,_,rfl⟩:=bZ.mp hv;exists Z ?_;refine aY ⟨by decide,by decide,by decide⟩ ?_;exact hR G (xj.refl _)
  rw[xlC]at nS;have mM:=s4.trans s5;have lF:=mM.at lG;have lW:=mM.at nR;have mE:=s5.at nO;have pH:=pI.trans mM;refine⟨fl,_,rfl,.inl (SqL.of lF),?_⟩;refine⟨sl,_,rfl,.inl (SqL.of lW),?_⟩;rw[ag,ag];refine⟨fl,_,rfl,.inl (SqL.of lF),?_⟩;rw[ag];right;obtain⟨e,he,mQ⟩:∃e:Nat,cellAt ns 8%2=(e:Int)/\(e=0\/e=1):=⟨(cellAt ns 8%2).toNat,by lia,by lia⟩;generalize oF:(λ(i j:Int)=>V.int (i+j)) (fs.length:Int) (ss.length:Int)=sv;obtain⟨size,rfl,hsz⟩:∃size:Int,sv= .int size/\size=fs.length+ss.length:=⟨_,oF.symm,rfl⟩;clear oF;generalize oE:(λ(i j:Int)=>V.int (i+j)) ((fs.length:Int)+3) (cellAt ns 8%2)=tv;obtain⟨stop,rfl,mf⟩:∃stop:Int,tv= .int stop/\stop=fs.length+3+e:=⟨_,oE.symm,by rw[he]⟩;clear oE;have c5:=(s2.trans (s3.trans mM)).at c1;refine⟨f1,e1,c5,?_⟩;refine gnr (upd G5 f1 _) λH6 mR=>?_;have m7:xj H H6:=by rw[<-mR];exact pH.put z1
  have cf:H6 f1=some (.cel (some (.int stop))):=xU mR;have keep:∀{x:Addr} {xs:List V},G5 x=some (.lst xs)->H6 x=some (.lst xs):=λ{x xs} ex=>by
   rw[<-mR,xm (λz=>by rw[z,c5]at ex;cases ex)];exact ex
  have lZ:=keep lF;have lV:=keep lW;have lU:=keep mE;have lY:=keep nS;clear mR keep lF lW mE nS lG nR lX nO o8 c5 c1;right;refine λn0 qb=>xw (upd H6 n0 _) rfl qb λH7 mL nU=>?_;refine⟨(m7.trans mL).at qq,[("_law_stop",.int stop)],rfl,(λx v m=>?_),λg H8 hg s8 hc=>?_⟩
  ·simp only[aj,dF]at m;obtain⟨rfl,rfl⟩:=m;exact⟨f1,e1,mL.at cf⟩
  left;intro bd dx hb qf ne;have up:∀{b:Addr} {u:HO},H8 b=some u->upd (upd H8 dx (.own bd)) bd (.ins a.q0b dx []) b=some u:=λe=>by rw[xm (xG e hb),xm (xG e qf)];exact e
  have oO:xs7 (upd (upd H8 dx (.own bd)) bd (.ins a.q0b dx [])) g stop:=yK.kp (S:=[]) hc (λ_ z=>nomatch z) (Kp.of λb u e=>up e);have nU:H7 n0=some (.lst (([]:List Int).map V.int)):=nU;refine⟨FEx g stop,bd,dx,n0,[],size,rfl,xp,up (s8.at nU),by simp,by lia,by simp;lia,oO,(λz=>nomatch z),λB H9 eb kp fr hB=>⟨rfl,?_⟩⟩;have nJ:∀y∈BF (FEx g stop) B,H8 y=none:=λy hy=>by
   rcases aW.mp hy with hy|hy
   ·rcases fr y hy with rfl|h
    ·exact hb
    ·exact(xc1 h).2.2
   ·cases hy
  have om:xj H8 H9:=λb u e=>kp b u (up e) (by simp;exact xG e hb);have off:∀{y:Addr} {u:HO},H8 y=some u->y∉BF (FEx g stop) B:=λe z=>by rw[nJ _ z]at e;cases e
  rw[<-eb];clear eb kp fr up oO;have lM:=mL.trans s8;have pO:=off (lM.at lZ);have pL:=off (lM.at lV);have pK:=off (lM.at lU);have pM:=off (lM.at lY);have l8:=lM.trans om;have mZ:=m7.trans l8;have oV:∀y∈BF (FEx g stop) B,H y=none:=λy hy=>(m7.trans lM).back (nJ y hy);have mI:=l8.at lZ;have mF:=l8.at lV;have mD:=l8.at lU;have mH:=l8.at lY;have nG:=hT.same mZ;clear lZ lV lU lY hc s8 mL lM nJ om off cf;exists⟨B.bd,B.dx,_,rfl,hB.bd,rfl,?_⟩;have p8:vZ (FEx g stop) (bd0 [] size 0)=(yj size,none):=rfl;refine⟨FEx g stop,B,_,rfl,xhY T g stop,hB,nG,?_⟩;rw[p8];refine⟨λ_ nY lP lq=>?_,(λc z=>by cases z),by show(0:Int)<=9000000;decide⟩;have lq:xA a (FEx g stop) nY B (yj size):=lq;have oy:=hB.muF;have kX:=lP _ _ mI pO;have mG:=lP _ _ mF pL;have lI:=lP _ _ mD pK;have lJ:=lP _ _ mH pM;have mz:=nG.kp lP oy;have m9:xj H nY:=Kp.fresh ((Kp.of mZ).trans lP) oV;clear mI mF mD mH nG mZ hB lP oy l8;refine⟨fl,_,rfl,.inl ⟨SqL.of kX,?_⟩⟩;exists λv1 pX=>xw (upd nY v1 _) rfl pX λqH lB o5=>?_;walk_at"ss";refine λa1 qo=>xw (upd qH a1 _) rfl qo λqF ll pA=>?_;refine⟨fl,_,rfl,.inl (SqL.of ((lB.trans ll).at kX)),?_⟩;rw[ag];refine⟨sl,_,rfl,.inl ⟨SqL.of ((lB.trans ll).at mG),?_⟩⟩;exists λv2 pW=>xw (upd qF v2 _) rfl pW λqE lA o4=>?_;walk_at"ss";exists λa2 qm=>xw (upd qE a2 _) rfl qm λqD lh pz=>?_;walk_at"ss";exists λb1 qi=>xw (upd qD b1 _) rfl qi λqC kZ pe=>?_;walk_at"ss";exists λp1 qa=>xw (upd qC p1 _) rfl qa λqB kW o7=>?_;have mY:=lB.trans (ll.trans (lA.trans (lh.trans (kZ.trans kW))));refine⟨tl,_,rfl,.inl ⟨SqL.of (mY.at lI),?_⟩⟩;exists λv3 pV=>xw (upd qB v3 _) rfl pV λqA lK oZ=>?_;walk_at"ss";exists λa3 qk=>xw (upd qA a3 _) rfl qk λqz lz pw=>?_;have mO:=mY.trans (lK.trans lz);refine⟨fl,_,rfl,.inl (SqL.of (mO.at kX)),?_⟩;rw[ag];refine⟨ql,_,rfl,.inl ⟨SqL.of (mO.at lJ),?_⟩⟩;exists λv4 pU=>xw (upd qz v4 _) rfl pU λqy lg oY=>?_;walk_at"ss";exists λa4 qj=>xw (upd qy a4 _) rfl qj λqx kY pq=>?_;walk_at"ss";exists λb2 qh=>xw (upd qx b2 _) rfl qh λqw kT pb=>?_;walk_at"ss";exists λp2 p9=>xw (upd qw p2 _) rfl p9 λqu kS o6=>?_;walk_at"ss";exists λdd qg=>xw (upd qu dd _) rfl qg λpC ly o9=>?_;have me:=mO.trans (lg.trans (kY.trans (kT.trans (kS.trans ly))));generalize oC:(if e=0 then tl else fl)=xl;generalize ng:(if e=0 then fs.map yN else fs)=xs;have my:atI [V.ref tl,V.ref fl] (cellAt ns 8%2)=some (.ref xl):=by
   rw[he,<-oC];rcases mQ with rfl|rfl<;> rfl
  have oX:pC xl=some (.lst (xs.map V.int)):=by
   rw[<-oC,<-ng];rcases mQ with rfl|rfl
   ·exact me.at lI
   ·exact me.at kX
  walk_at"ss";exists⟨dd,_,_,.ref xl,rfl,rfl,SqL.of o9,my,?_⟩;have pS:xs.length=fs.length:=by rw[<-ng];split<;> simp
  refine⟨xl,ql,_,_,rfl,rfl,oX,me.at lJ,(by simp[aZ,pS];lia),?_⟩;exists λdu oN=>xw (upd pC du _) rfl oN λl7 lr mT=>?_;have mT:l7 du=some (.lst ((xs++ss.map yN).map V.int)):=by rw[mT,bH]
  have mX:=me.trans lr;have lE:=lq.same mX;have lR:=mz.same mX;have ou:(xq.put 0 fs).ok:=xcN (by decide) (by lia) (by lia) (xke oM);have pJ:(xq.put fs.length ss).ok:=xcN (by lia) (by lia) (by lia) (xke oH);have oq:(xq.put 0 (fs.map yN)).ok:=xcN (by decide) (by rw[ag];lia) (by rw[ag];lia) (xm0 oM);have oo:(xq.put fs.length (ss.map yN)).ok:=xcN (by lia) (by rw[ag];lia) (by rw[ag];lia) (xm0 oH);have kR:=lK.trans (lz.trans (lg.trans (kY.trans (kT.trans (kS.trans (ly.trans lr))))));have oU:yE K l7 p1 0 size [.put 0 fs,.put fs.length ss]:=⟨b1,[a1,a2],kR.at o7,(kW.trans kR).at pe,.cons ⟨v1,(lA.trans (lh.trans (kZ.trans (kW.trans kR)))).at pA,(ll.trans (lA.trans (lh.trans (kZ.trans (kW.trans kR))))).at o5⟩ (.cons ⟨v2,(kZ.trans (kW.trans kR)).at pz,(lh.trans (kZ.trans (kW.trans kR))).at o4⟩ .nil)⟩;have kQ:=ly.trans lr;have oS:yE K l7 p2 0 size [.put 0 (fs.map yN),.put fs.length (ss.map yN)]:=⟨b2,[a3,a4],kQ.at o6,(kS.trans kQ).at pb,.cons ⟨v3,(lg.trans (kY.trans (kT.trans (kS.trans kQ)))).at pw,(lz.trans (lg.trans (kY.trans (kT.trans (kS.trans kQ))))).at oZ⟩ (.cons ⟨v4,(kT.trans (kS.trans kQ)).at pq,(kY.trans (kT.trans (kS.trans kQ))).at oY⟩ .nil)⟩;have two:∀r∈([.put 0 fs,.put fs.length ss]:List xq),r.rds=[]/\Sm r:=λr hr=>by
   simp only[av,aV,or_false]at hr;rcases hr with rfl|rfl
   ·exact⟨rfl,by decide,by lia⟩
   ·exact⟨rfl,by lia,by lia⟩
  have mU:∀r∈([.put 0 (fs.map yN),.put fs.length (ss.map yN)]:List xq),r.rds=[]/\Sm r:=λr hr=>by
   simp only[av,aV,or_false]at hr;rcases hr with rfl|rfl
   ·exact⟨rfl,by decide,by rw[ag];lia⟩
   ·exact⟨rfl,by lia,by rw[ag];lia⟩
  have mC:zO K l7 p1 0 size [.put 0 fs,.put fs.length ss] size:=zO.puts oU (by rw[hsz];exact xpo ou pJ) two (cI _) (by lia) (by simp);have oR:zO K l7 p2 0 size [.put 0 (fs.map yN),.put fs.length (ss.map yN)] size:=by
   refine zO.puts oS ?_ mU (cI _) (by lia) (by simp);have:=xpo oq (sg2:=ss.map yN) (by rw[ag];exact oo);rw[ag,ag,<-hsz]at this;exact this
  clear oU oS o5 pA o4 pz pe o7 oZ pw oY pq pb o6 o9 my kR kQ mY mO lB ll lA lh kZ kW lK lz lg kY kT kS ly lr;refine⟨λσ' G'=>σ'=[some (.ref l),some (.int (cellAt ns 8)),some (.ref fl),some (.ref sl),some (.ref tl),some (.ref ql),some (.int size),some (.int stop),some (.ref B.bd),some (.ref p1),some (.ref p2),some (.ref du),some .non,none]/\l7=G',⟨rfl,rfl⟩,?_⟩;rintro σ' _ ⟨rfl,rfl⟩;have lQ:=xn9 (g:=g) (ss:=ss) hsz mQ (by lia) ou mw.2;rw[<-mf]at lQ;have pB:(((yj size).cells (!(yj size).mr)).length:Int)=(yj size).size:=by
   show((ao size.toNat (0:Int)).length:Int)=size;rw[bf];lia
  have oW:zB (yj size) 0:=⟨rfl,by decide,by rw[if_neg (show¬(yj size).mark (!(yj size).mr)=("open":Str)from by show¬("bad":Str)="open";decide)]⟩;refine⟨λσ' G'=>σ'=[some (.ref l),some (.int (cellAt ns 8)),some (.ref fl),some (.ref sl),some (.ref tl),some (.ref ql),some (.int size),some (.int stop),some (.ref B.bd),some (.ref p1),some (.ref p2),some (.ref du),some (.int stop),none]/\Kp (BF (FEx g stop) B) l7 G'/\xA a (FEx g stop) G' B (xiX fs ss.length size e (stop+1) none),?_,?_⟩
  ·refine⟨B.bd,B.dx,_,rfl,lE.bd,rfl,?_⟩;refine⟨FEx g stop,B,yj size,p1,0,size,_,5,1,rfl,xhY T g stop,lE,lR,mC.pj,(λz=>by cases z),λ_ z=>absurd (show("bad":Str)="trial" from z) (by decide),λ_ _ xs z=>(by rw[mC.jn]at z;cases z),λ_ _ _ z=>?_,λ_ _ _ _=>⟨0,oW,mC.pg,?_,pB,?_⟩⟩
   ·exact absurd z (by unfold vB xdN;rw[decide_eq_false (show¬(yj size).size<max 0 size from by show¬size<max 0 size;lia)];simp)
   ·rw[show((yj size).cells (!(yj size).mr)).length=size.toNat from by show(ao size.toNat (0:Int)).length=_;rw[bf]];exact mC.pk
   ·rw[lQ];refine⟨(λz=>by cases z),λc ec d2 G1 k1 lT hd=>?_,by show stop+1<=9000000;lia⟩;cases ec;refine⟨a.q0d,rfl,T.q2m,λae qS=>?_⟩;refine⟨_,d2,_,.int stop,rfl,rfl,rfl,hd,T.q4b,T.xfm,T.q1z,rfl,?_⟩;exact⟨rfl,k1,lT⟩
  rintro σ' G1 ⟨rfl,k1,lT⟩;generalize ny:xiX fs ss.length size e (stop+1) none=nZ at lT;have lO:=lE.muF;have oQ:=lR.kp k1 lO;have lN:=(lq.same me).nin oN;have mK:=k1 _ _ mT lN;have mB:=oR.kp k1 lO;have oA:Kp (BF (FEx g stop) B) H G1:=(Kp.of (m9.trans mX)).trans k1;clear lE lR mC oR lq mz mT oX lO k1 lQ pB oW;refine⟨λσ' G'=>σ'=[some (.ref l),some (.int (cellAt ns 8)),some (.ref fl),some (.ref sl),some (.ref tl),some (.ref ql),some (.int size),some (.int stop),some (.ref B.bd),some (.ref p1),some (.ref p2),some (.ref du),some (.int stop),none]/\xj G1 G',?_,?_⟩
  ·refine⟨λz=>absurd z (by simp),λ_=>?_⟩;refine⟨B.bd,B.dx,_,rfl,lT.bd,rfl,?_⟩;exists⟨FEx g stop,B,_,rfl,lT,λt1 m1 l1 G2 pF qc qd pN g1 g2 g3=>?_⟩;walk_at"ss";exists λx1 lQ=>xw (upd G2 x1 _) rfl lQ λG3 pE nN=>?_;walk_at"ss";exists λx2 l9=>xw (upd G3 x2 _) rfl l9 λG4 oa nL=>?_;walk_at"ss";exists λx3 nh=>xw (upd G4 x3 _) rfl nh λG6 mV nK=>?_;have lC:=pE.trans (oa.trans mV);have mj:=xfV (K:=K) (lC.at g1) (lC.at g2) (lC.at g3);rw[show xbb nZ= .tuple [.int 0,.list [.str "good",.str "open"],.list [.int 0,.int 0],.int 0,.none]from by rw[<-ny];rfl]at mj;have nz:Rp K G6 (.ref x3) (.tuple [.int 0,.list [.str "good",.str "open"],.list [.int 0,.int 0],.int 0,.none]):=.tup (SqT.of nK) (.cons (.int _) (.cons (.lst (SqL.of ((oa.trans mV).at nN)) (.cons (.str _) (.cons (.str _) .nil))) (.cons (.lst (SqL.of (mV.at nL)) (.cons (.int _) (.cons (.int _) .nil))) (.cons (.int _) (.cons .non .nil)))));refine xd1 (f:=λb=> !b) mj nz (by decide+kernel) ?_;walk_at"N";exact⟨rfl,pF.trans lC⟩
  rintro σ' G6 ⟨rfl,la⟩;have nI:=lT.same la;have oP:=oQ.same la;have nX:=la.at mK;have nH:=mB.same la;have pR:Kp (BF (FEx g stop) B) H G6:=oA.trans (Kp.of la);clear lT oQ mK mB oA la;exists⟨B.bd,B.dx,_,rfl,nI.bd,rfl,?_⟩;generalize lD:xiX fs ss.length size e (stop+1) (some false)=kP;have mh:vZ (FEx g stop) nZ=(kP,none):=by rw[<-ny,<-lD];rfl
  have qR:kP.cnt=stop+1:=by rw[<-lD];rfl
  refine⟨FEx g stop,B,_,rfl,xhY T g stop,nI,oP,?_⟩;rw[mh];refine⟨λ_ G7 k7 mS=>?_,(λc z=>by cases z),by show kP.cnt<=9000000;lia⟩;have mS:xA a (FEx g stop) G7 B kP:=mS;have oz:=nI.muF;have mJ:=k7 _ _ nX lN;have qp:=oP.kp k7 oz;have lp:=nH.kp k7 oz;have pQ:=pR.trans k7;have nr:size=(fs.length:Int)+((ss.map yN).length:Int):=by rw[ag];exact hsz
  have nB:(ss.map yN).length<=5:=by rw[ag];exact nv.2
  have nj:(fs.map yN).length=fs.length:=by rw[ag]
  have mi:kP=xiX fs (ss.map yN).length size e (stop+1) (some false):=by rw[ag,lD]
  have nE:((kP.cells (!kP.mr)).length:Int)=kP.size:=by
   rw[<-lD];show((fs++ao ss.length (0:Int)).length:Int)=size;rw[aC,bf];lia
  have mq:kP.mark (!kP.mr)=("open":Str):=by rw[<-lD];rfl
  have lH:kP.run=some false:=by rw[<-lD];rfl
  have nq:kP.size=size:=by rw[<-lD];rfl
  have nC:kP.mr=false/\kP.mark false=("good":Str)/\kP.len false=0:=by rw[<-lD];exact⟨rfl,rfl,rfl⟩
  clear lD ny mh;have l9:=xmh (g:=g) nr mQ nj oq oo mw.2 nB mi;rw[ng]at l9;refine oG λ_ Z=>?_;obtain⟨y1,y2,y3,nn,cc,ff,y4⟩:=l9;apply Z;clear mi;left;have qK:(xs++ss.map yN).length=size.toNat:=by rw[aC,ag];lia
  have oB:(xs++ss.map yN).take size.toNat=xs++ss.map yN:=cz (by lia);have mn:∀x∈xP [.put 0 (fs.map yN),.put fs.length (ss.map yN)],yA (kP.cells (!kP.mr)).length x:=by
   rw[show(kP.cells (!kP.mr)).length=size.toNat by lia];exact lp.pk
  have oK:=xgM (s:=kP) (first:=e) (n:=size) (total:=(xs++ss.map yN).sum) (tries:=4) mn;have qP:=lp.few;have nD:=(xdQ (F:=FEx g stop) (yr kP [.put 0 (fs.map yN),.put fs.length (ss.map yN)] e size (xs++ss.map yN).sum 4) kP).2.2;generalize pT:xD (FEx g stop) kP (yr kP [.put 0 (fs.map yN),.put fs.length (ss.map yN)] e size (xs++ss.map yN).sum 4)=wr at y3 y4 nD;generalize oJ:({wr.1 with run:=some false}:BdS)=lb;have f4:lb.mr=false/\lb.mark false=("good":Str)/\lb.mark true=("trial":Str)/\lb.len false=0/\lb.len true=size/\lb.ct=4/\lb.run=some false/\lb.cells true=xs++ss.map yN:=by
   rw[<-oJ,y4];refine⟨nC.1,?_,?_,?_,?_,rfl,rfl,?_⟩
   ·show upB kP.mark true "trial" false=_;rw[xbo (by decide)];exact nC.2.1
   ·exact yw (f:=kP.mark) (b:=true)
   ·show upB kP.len true size false=_;rw[xbo (by decide)];exact nC.2.2
   ·exact yw (f:=kP.len) (b:=true)
   ·exact yw (f:=kP.cells) (b:=true)
  refine⟨λσ' G'=>σ'=[some (.ref l),some (.int (cellAt ns 8)),some (.ref fl),some (.ref sl),some (.ref tl),some (.ref ql),some (.int size),some (.int stop),some (.ref B.bd),some (.ref p1),some (.ref p2),some (.ref du),some (.int stop),none]/\Kp (BF (FEx g stop) B) H G'/\xA a (FEx g stop) G' B lb,?_,?_⟩
  ·refine⟨B.bd,B.dx,_,rfl,mS.bd,rfl,?_⟩;refine⟨du,_,rfl,SqL.of mJ,?_⟩;refine⟨FEx g stop,B,kP,p2,0,size,_,(xs++ss.map yN).sum,4,rfl,xhY T g stop,mS,qp,lp.pj,λz=>absurd (lH.symm.trans z) (by simp),λ_ z=>absurd (mq.symm.trans z) (by decide),λ_ _ ys z=>(by rw[lp.jn]at z;cases z),λ_ _ _ z=>?_,λ_ _ _ _=>⟨e,y1,lp.pg,mn,nE,?_⟩⟩
   ·exact absurd z (by unfold vB xdN;rw[mq,nq,decide_eq_false (show¬size<max 0 size from by lia)];simp)
   ·rw[pT];refine⟨λe8 G8 k8 lS=>?_,λc ec=>?_,?_⟩
    ·rw[xfD y3,lH,oJ]at lS;rw[y2,oB,decide_eq_true rfl];walk_at"N";refine⟨B.bd,B.dx,_,rfl,lS.bd,rfl,?_⟩;refine⟨FEx g stop,B,lb,true,rfl,lS,by rw[f4.2.2.2.2.1];lia,λt1 G9 s9 qM qr=>?_⟩;left;have nQ:G9 t1=some (.lst ((xs++ss.map yN).map V.int)):=by rw[qr,f4.2.2.2.2.1,f4.2.2.2.2.2.2.2,oB]
     have nW:=s9.at (k8 _ _ mJ lN)
     refine jW (f:=λb=> !b) ⟨t1,du,_,_,rfl,rfl,SqL.of nQ,SqL.of nW,?_⟩;rw[decide_eq_true rfl];walk_at"N";exact⟨rfl,(pQ.trans k8).trans (Kp.of s9),lS.same s9⟩
    ·rw[xgL,y3]at ec;cases ec
    ·rw[xgN];show wr.1.cnt<=9000000;lia
  rintro σ' G8 ⟨rfl,pP,lS⟩;refine⟨B.bd,B.dx,_,rfl,lS.bd,rfl,?_⟩;exists⟨FEx g stop,B,_,rfl,lS,λt1 m1 l1 G9 s9 qc qd pN g1 g2 g3=>?_⟩;walk_at"ss";exists λx1 lQ=>xw (upd G9 x1 _) rfl lQ λqJ mW nN=>?_;walk_at"ss";exists λx2 l9=>xw (upd qJ x2 _) rfl l9 λqI md nL=>?_;walk_at"ss";exists λx3 nh=>xw (upd qI x3 _) rfl nh λpD lL nK=>?_;have mP:=mW.trans (md.trans lL);have mj:=xfV (K:=K) (mP.at g1) (mP.at g2) (mP.at g3);rw[show xbb lb= .tuple [.int 0,.list [.str "good",.str "trial"],.list [.int 0,.int size],.int 4,.int 0]from by unfold xbb;rw[f4.1,f4.2.1,f4.2.2.1,f4.2.2.2.1,f4.2.2.2.2.1,f4.2.2.2.2.2.1,f4.2.2.2.2.2.2.1];rfl]at mj;have nz:Rp K pD (.ref x3) (.tuple [.int 0,.list [.str "good",.str "trial"],.list [.int 0,.int size],.int 4,.int 0]):=.tup (SqT.of nK) (.cons (.int _) (.cons (.lst (SqL.of ((md.trans lL).at nN)) (.cons (.str _) (.cons (.str _) .nil))) (.cons (.lst (SqL.of (lL.at nL)) (.cons (.int _) (.cons (.int _) .nil))) (.cons (.int _) (.cons (.int _) .nil)))));have pZ:cF (.tuple [.int 0,.list [.str "good",.str "trial"],.list [.int 0,.int size],.int 4,.int 0])=true:=by
   have e1:bC (.str "good")=true:=by decide+kernel
   have e2:bC (.str "trial")=true:=by decide+kernel
   refine shp ?_ ?_
   ·simp only[bC]at e1 e2;simp[bC,fR,e1,e2]
   ·simp[cH,fy]
  refine xd1 (f:=λb=>b) mj nz pZ ?_;exact q pD (Kp.fresh (pP.trans (Kp.of (s9.trans mP))) oV)
end
section
def quiet(hq:∀k n,F.fo k n=none)(ys:List Wr)(s:BdS):xD F s ys=({yf s ys with cnt:=s.cnt+ys.length,fl:=s.fl},none):=by
 have h2:=xes (F:=F) ys s (λn=>hq _ n);have h1:=xbp ys s h2;rw[<-h1,<-h2]
structure Rdy(size:Int)(M0:List Int)(L0:Int)(C1:List Int)(le:Int)(mr:Bool)(mk:Str)(ct n:Int)(s:BdS):Prop where
 sz:s.size=size
 mr:s.mr=mr
 mg:s.mark false=("good":Str)
 c0:s.cells false=M0
 l0:s.len false=L0
 ce:s.cells true=C1
 ln:s.len true=le
 nl:(s.notes true).length=2
 mkd:s.mark true=mk
 ct:s.ct=ct
 fl:s.fl=0
 cn:s.cnt<=n
section
variable {L0 le ct:Int} {M0 C1:List Int}
def Rdy.start1(hq:∀k n,F.fo k n=none)(h:Rdy size M0 L0 C1 le false "trial" 1 n s):∃s',vZ F s=(s',none)/\s'.run=some true/\Rdy size M0 L0 C1 le false "trial" 0 (n+1) s'/\startB s=true:=by
 have e1:s.mark (!s.mr)=("trial":Str):=by rw[h.mr];exact h.mkd
 have e2:s.ct≠0:=by rw[h.ct];decide
 have eb:startB s=true:=by unfold startB;rw[if_pos ⟨e1,e2⟩,h.mr];rfl
 refine⟨{s with ct:=0,run:=some true,cnt:=s.cnt+1},?_,rfl,⟨h.sz,h.mr,h.mg,h.c0,h.l0,h.ce,h.ln,h.nl,h.mkd,rfl,h.fl,by have:=h.cn;show s.cnt+1<=n+1;lia⟩,eb⟩;unfold vZ;rw[eb];unfold xaE;rw[if_pos e1,if_neg e2,quiet hq,h.ct];rfl
def Rdy.fine(hq:∀k n,F.fo k n=none)(h:Rdy size M0 L0 C1 le false "trial" ct n s)(hr:s.run=some true):∃s',xaF s.run (xD F s [.mark (!s.mr) "good",.mrk (!s.mr)])=(s',none)/\s'.run=some true/\Rdy size M0 L0 C1 le true "good" ct (n+2) s':=by
 refine⟨{s with mark:=upB s.mark true "good",mr:=true,cnt:=s.cnt+2},?_,hr,⟨h.sz,rfl,by show upB s.mark true "good" false=_;rw[xbo (by decide)];exact h.mg,h.c0,h.l0,h.ce,h.ln,h.nl,yw (f:=s.mark) (b:=true),h.ct,h.fl,by have:=h.cn;show s.cnt+2<=n+2;lia⟩⟩;rw[quiet hq,h.mr];unfold xaF;rfl
def Rdy.back(hq:∀k n,F.fo k n=none)(h:Rdy size M0 L0 C1 le true "good" ct n s):∃s',xaF none (xD F s [.mrk (!s.mr)])=(s',none)/\s'.run=none/\Rdy size M0 L0 C1 le false "good" ct (n+1) s':=by
 refine⟨{s with mr:=false,cnt:=s.cnt+1,run:=none},?_,rfl,⟨h.sz,rfl,h.mg,h.c0,h.l0,h.ce,h.ln,h.nl,h.mkd,h.ct,h.fl,by have:=h.cn;show s.cnt+1<=n+1;lia⟩⟩;rw[quiet hq,h.mr];unfold xaF;rfl
def Rdy.start2(h:Rdy size M0 L0 C1 le false "good" ct n s):vZ F s=({s with run:=some false},none):=by
 have e1:¬s.mark (!s.mr)=("trial":Str):=by rw[h.mr];show¬s.mark true=_;rw[h.mkd];decide
 unfold vZ xaE startB;rw[if_neg e1,if_neg (λz=>e1 z.1),h.mr];rfl
def Rdy.setrun(h:Rdy size M0 L0 C1 le false "good" ct n s)(r:Option Bool):Rdy size M0 L0 C1 le false "good" ct n {s with run:=r}:=⟨h.sz,h.mr,h.mg,h.c0,h.l0,h.ce,h.ln,h.nl,h.mkd,h.ct,h.fl,h.cn⟩
end
def elR(es:List Int):List xq:=if es=[]then[]else[.put 0 es]
def xpp(h:es.length<=C.length)(hs:∀x∈es,(x.natAbs:Int)<10^60)(hl:es.length<=100):(doL C (xP (elR es))).take es.length=es:=by
 unfold elR
 by_cases e:es=[]
 ·rw[e];rfl
 ·rw[if_neg e];show(doP (.put 0 es) C (xY 0 es.length)).take es.length=es;have hk:(xq.put 0 es).ok:=xcN (by decide) (by have:=dX.mpr e;lia) hl hs;have:=xh2 (C:=C) (sg:=es) (to:=0) (by lia) hk (by lia);rw[show((0:Nat):Int)=0 from rfl]at this;rw[this,eN,bY,i7]
def xs9(hs:∀x∈es,(x.natAbs:Int)<10^60)(hl:es.length<=100):Tl 0 (elR es) es.length:=by
 unfold elR
 by_cases e:es=[]
 ·rw[e];exact .nil
 ·rw[if_neg e];exact xly (xcN (by decide) (by have:=dX.mpr e;lia) hl hs)
def xpq(hl:es.length<=50):(∀r∈elR es,r.rds=[]/\Sm r)/\(elR es).length<=3:=by
 unfold elR
 by_cases e:es=[]
 ·rw[if_pos e];exact⟨(λr hr=>nomatch hr),by decide⟩
 ·rw[if_neg e];refine⟨λr hr=>?_,by show 1<=3;decide⟩;rw[aj.mp hr];exact⟨rfl,by decide,hl⟩
def xuk(hq:∀k n,F.fo k n=none){tx:List Int}(hle:(es.length:Int)<=size)(lb:∀x∈xP (elR es),yA size.toNat x)(lz:(xP (elR es)).length<=30)(hs:∀x∈es,(x.natAbs:Int)<10^60)(hl:es.length<=100)(e0:s={bd0 tx size 0 with run:=some false}):
  zB s 0/\((ja s (elR es) 0).take (es.length:Int).toNat).sum=es.sum/\vB s 0 es.length=false/\(((s.cells (!s.mr)).length:Int)=s.size)/\
  ∃s',xD F s (yr s (elR es) 0 es.length es.sum 1)=(s',none)/\s'.run=some false/\Rdy size (s.cells false) tx.length (doL (ao size.toNat 0) (xP (elR es))) es.length false "trial" 1 10000 s':=by
 have kT:s.mr=false:=by rw[e0];rfl
 have kZ:s.mark true=("bad":Str):=by rw[e0];rfl
 have kX:s.cells true=ao size.toNat 0:=by rw[e0];rfl
 have hsz:s.size=size:=by rw[e0];rfl
 have lg:s.notes true=[some 0,some 0]:=by rw[e0];rfl
 have hC:(ao size.toNat (0:Int)).length=size.toNat:=bf;have lq:¬s.mark (!s.mr)=("open":Str):=by rw[kT];show¬s.mark true=_;rw[kZ];decide
 have ll:zB s 0:=⟨by rw[kT];show(s.notes true).length=2;rw[lg];rfl,by decide,by rw[if_neg lq]⟩;have la:ja s (elR es) 0=doL (ao size.toNat 0) (xP (elR es)):=by
  unfold ja;rw[kT];show doL (s.cells true) _=_;rw[kX];rfl
 have kW:((ja s (elR es) 0).take (es.length:Int).toNat).sum=es.sum:=by
  rw[la,cL,xpp (by rw[hC];lia) hs hl]
 have ly:((s.cells (!s.mr)).length:Int)=s.size:=by rw[kT];show((s.cells true).length:Int)=_;rw[kX,hC,hsz];lia
 refine⟨ll,kW,?_,ly,?_⟩
 ·unfold vB xdN;rw[hsz,decide_eq_false (show¬size<max 0 (es.length:Int)by lia)];simp
 generalize hS:({size:=size,M0:=s.cells false,L0:=tx.length,n:=es.length,total:=es.sum,tries:=1,Lg:=0,g:="bad"}:Sc)=S;have hX:=xlq (rs:=elR es) (C0:=ao size.toNat 0) (by rw[hC];exact lb);have hb:Bro S (λC=>C=ao size.toNat 0) (λC=>C=doL (ao size.toNat 0) (xP (elR es))) (PmN (xP (elR es)) (ao size.toNat 0)) s:=by
  rw[<-hS];exact⟨hsz,kT,by rw[e0];rfl,rfl,by rw[e0];rfl,by rw[kX,hC];show((size.toNat:Nat):Int)=size;lia,by rw[lg];rfl,.inl ⟨kZ,kX,by rw[e0];rfl⟩⟩
 have hg:S.g=("bad":Str):=by rw[<-hS]
 have kR:=hb.upd hX (by lia) (by rw[hg];decide) ll (.inl ⟨by rw[hg];exact kZ,kX,by rw[<-hS,e0];rfl⟩);have kS:S.n=es.length/\S.total=es.sum/\S.tries=1/\S.size=size/\S.M0=s.cells false/\S.L0=tx.length:=by rw[<-hS];exact⟨rfl,rfl,rfl,rfl,rfl,rfl⟩
 rw[kS.1,kS.2.1,kS.2.2.1]at kR;have kP:=kR.all (F:=F) Bro.cf;have hlen:=xgM (s:=s) (rs:=elR es) (first:=0) (n:=es.length) (total:=es.sum) (tries:=1) lb;have kY:=xes (F:=F) (yr s (elR es) 0 es.length es.sum 1) s (λn=>hq _ n);have lh:=(xdQ (F:=F) (yr s (elR es) 0 es.length es.sum 1) s);have lp:=(xen (F:=F) (yr s (elR es) 0 es.length es.sum 1) s).2;have kQ:(xD F s (yr s (elR es) 0 es.length es.sum 1)).1.mark true=("trial":Str):=by
  rw[xbp _ _ kY];show(yf s (yr s (elR es) 0 es.length es.sum 1)).mark true=_;rw[xjH kT,if_pos kW]
 have lA:s.cnt=0:=by rw[e0];rfl
 have lr:s.fl=0:=by rw[e0];rfl
 refine⟨(xD F s (yr s (elR es) 0 es.length es.sum 1)).1,by rw[<-kY],by rw[lp,e0],?_⟩;generalize xD F s (yr s (elR es) 0 es.length es.sum 1)=wr at*;rcases kP.ph with z|z|z|z
 ·rw[hg,kQ]at z;exact absurd z.1 (by decide)
 ·rw[kQ]at z;exact absurd z.1 (by decide)
 ·exact⟨by rw[<-kS.2.2.2.1];exact kP.sz,kP.mr,kP.mg,by rw[<-kS.2.2.2.2.1];exact kP.c0,by rw[<-kS.2.2.2.2.2];exact kP.l0,z.2.2.2.1,by rw[<-kS.1];exact z.2.1,kP.nl,kQ,by rw[<-kS.2.2.1];exact z.2.2.1,by rw[lh.1 kY,lr],by have:=lh.2.2;lia⟩
 ·rw[kQ]at z;exact absurd z.1 (by decide)
theorem zO.np(h:yE K H p o n rs)(hN:NP old o n rs)(h0:0<=old)(h1:old<=size)(hs:size<=100)(hn:n<=size):zO K H p o n rs size:=by
 obtain⟨f1,f2,f3,f4,f5,f6⟩:=hN.fine h0;have hg:xds K H p o n rs:=by
  obtain⟨tt,us,q1,q2,q3⟩:=h;have hl:=q3.length;refine⟨tt,us,q1,q2,?_,by lia⟩;have:∀{us:List Addr} {rs:List xq},Paired (TupAt K H) us rs->(∀r∈rs,r.ok/\Sm r)->Paired (GT K H) us rs:=by
   intro us rs h
   induction h with
   |nil=>intro _;exact .nil
   |cons z t ih=>exact λk=>.cons ⟨z,k _ (bh ..)⟩ (ih λr hr=>k r (aL _ hr))
  exact this q3 (λr z=>⟨(hN.ok h0 r z).1,hN.sm (by lia) r z⟩)
 refine⟨⟨h,by lia,by lia,by lia,hN.ok h0,f2⟩,f1,hg,?_,by lia,?_⟩
 ·obtain⟨_,us,_,_,q3,q4⟩:=hg;refine xpe (old:=o) (new:=n) q3 (λr z=>?_) (by lia) (by lia);have:=(hN.ok h0 r z).2;cases r with
  |take to st c=>exact this
  |put to sg=>exact this
 ·obtain⟨_,us,_,_,q3,q4⟩:=hg;have:=xmW q3;have:=q3.length;lia
theorem NP.sg(h:NP old o n rs):∀r∈rs,∀to sg,r= .put to sg->∀x∈sg,Sg x:=by
 cases h with
 |no=>intro r z;cases z
 |put o sg _ h1 h8 hs=>
  intro r hr to kP e;rw[aj.mp hr]at e;cases e;exact hs
 |take to st c sg h8 hs h0 h1 h2 h3 h4=>
  intro r hr kQ kP e;rcases av.mp hr with rfl|hr
  ·cases e
  rcases aW.mp hr with hr|hr
  ·split at hr
   ·rw[aj.mp hr]at e;cases e;exact λx hx=>hs x (eX hx)
   ·cases hr
  ·split at hr
   ·rw[aj.mp hr]at e;cases e;exact λx hx=>hs x (cK hx)
   ·cases hr
theorem xtR{nw:List Int}(h:NP old o n rs)(ht:∀r∈rs,Tells es nw r)(hc:∀j,j<nw.length->∃r∈rs,zc r j)(he:∀x∈es,Sg x):∀x∈nw,Sg x:=by
 intro x hx;obtain⟨j,hj,rfl⟩:=gv.mp hx;obtain⟨r,hr,c1,c2⟩:=hc j hj;obtain⟨_,_,_,t4⟩:=ht r hr;have hi:=t4 ((j:Int) - r.to).toNat (by lia);rw[show(r.to+(((j:Int) - r.to).toNat:Int)).toNat=j by lia,aD hj]at hi;have hm:=aK hi.symm;cases r with
 |put to sg=>exact h.sg _ hr to sg rfl _ hm
 |take to st c=>exact he _ (cK (eX hm))
theorem xpr:∀{xs:List Int},(∀x∈xs,Sg x)->(xs.sum.natAbs:Int)<=xs.length*(2*10^50)
 |[],_=>by simp
 |x::xs,h=>by
  have h1:=h x (bh ..);have h2:=xpr (xs:=xs) (λy z=>h y (aL _ z));unfold Sg at h1;rw[List.sum_cons,bD];have e:((xs.length+1:Nat):Int)*(2*10^50)=(xs.length:Int)*(2*10^50)+2*10^50:=by lia
  rw[e];lia
def xul{op el:Addr}{kv:V}{kP L0 n9:Int}{nw M0 C1:List Int}(hp:yE K H p o n rs)(hN:NP es.length o n rs)(hle:(es.length:Int)<=size)(hsz:size<=14)(h2:2<=size)(hn:n<=size)(lb:(kP.natAbs:Int)<=10^52)(la:C1.length=size.toNat)
  (m1:(nw.length:Int)=n) (m2:∀r∈rs,Tells es nw r) (m3:∀j,j<nw.length->∃r∈rs,zc r j) (m5:(doL C1 (xP rs)).take n.toNat=nw) (hR:Rdy size M0 L0 C1 es.length false "good" 0 n9 s)
  (kZ:(op=p/\kv= .ref el)\/(kv= .non/\yE K H op 0 2 [.put 0 [kP - 3,3]])):
  ∃W1 W2:Way,W1.p=p/\W2.p=op/\W1.ok size kP tries/\W2.ok size kP tries/\W1.bro s/\W1.Pg (s.cells true)/\s.len true=W1.S.Lg/\(W1.o=0\/W1.o=W1.S.Lg)/\zO K H W1.p W1.o W1.S.n W1.rs size/\zO K H W2.p W2.o W2.S.n W2.rs size/\(W1.S.M0=W2.S.M0/\W1.S.L0=W2.S.L0)/\(∀m C,W1.Pm m C->W2.Pm m C)/\(∀C,¬W2.Pg C)/\
   ∀(s':BdS) (pp:Addr),(pp=W1.p/\Fnl W1.S W1.Pf s'\/pp=W2.p/\Fnl W2.S W2.Pf s')->∃(S:Sc) (Pf:List Int->Prop) (o':Int) (kQ:List xq),Fnl S Pf s'/\S.total=kP/\S.tries=tries/\0<=S.n/\S.L0=L0/\S.M0=M0/\yE K H pp o' S.n kQ/\(kv= .non\/(kv= .ref el/\(nw.length:Int)=S.n/\(∀r∈kQ,Tells es nw r)/\(∀j,j<nw.length->∃r∈kQ,zc r j)/\nw.length<=1000/\(s'.cells true).take S.n.toNat=nw)):=by
 have kT:=zO.np hp hN (by lia) hle (by lia) hn;have f6:=(hN.fine (by lia)).2.2.2.2.2;have n0:=(hN.fine (by lia)).2.2.1;have hX:=xlq (rs:=rs) (C0:=C1) (by rw[la];exact kT.pk);have kR:∀(s':BdS) (S:Sc),S.n=n->S.total=kP->S.tries=tries->S.L0=L0->S.M0=M0->Fnl S (λC=>C=doL C1 (xP rs)) s'->(kv= .non\/kv= .ref el)->∃(S:Sc) (Pf:List Int->Prop) (o':Int) (kQ:List xq),Fnl S Pf s'/\S.total=kP/\S.tries=tries/\0<=S.n/\S.L0=L0/\S.M0=M0/\yE K H p o' S.n kQ/\(kv= .non\/(kv= .ref el/\(nw.length:Int)=S.n/\(∀r∈kQ,Tells es nw r)/\(∀j,j<nw.length->∃r∈kQ,zc r j)/\nw.length<=1000/\(s'.cells true).take S.n.toNat=nw)):=λs' S e1 e2 e3 e4 e5 hf hk=>by
  refine⟨S,_,o,rs,hf,e2,e3,by lia,e4,e5,by rw[e1];exact hp,?_⟩;rcases hk with z|z
  ·exact .inl z
  ·exact .inr ⟨z,by lia,m2,m3,by lia,by rw[e1,hf.pf];exact m5⟩
 have kW:kv= .non\/kv= .ref el:=kZ.elim (λz=>.inr z.2) (λz=>.inl z.1);have kS:Bro {size:=size,M0:=M0,L0:=L0,n:=n,total:=kP,tries:=tries,Lg:=es.length,g:="good"} (λC=>C=C1) (λC=>C=doL C1 (xP rs)) (PmN (xP rs) C1) s:=⟨hR.sz,hR.mr,hR.mg,hR.c0,hR.l0,by rw[hR.ce,la];show((size.toNat:Nat):Int)=size;lia,hR.nl,.inl ⟨hR.mkd,hR.ce,hR.ln⟩⟩;rcases kZ with⟨rfl,hk⟩|⟨hk,kY⟩
 ·refine⟨⟨{size:=size,M0:=M0,L0:=L0,n:=n,total:=kP,tries:=tries,Lg:=es.length,g:="good"},λC=>C=C1,λC=>C=doL C1 (xP rs),PmN (xP rs) C1,op,o,rs⟩,⟨{size:=size,M0:=M0,L0:=L0,n:=n,total:=kP,tries:=tries,Lg:=es.length,g:="good"},λ_=>False,λC=>C=doL C1 (xP rs),PmN (xP rs) C1,op,o,rs⟩,rfl,rfl,⟨hX,rfl,rfl,rfl,rfl⟩,⟨⟨λ_ z=>z.elim,hX.wr,hX.next,hX.fin⟩,rfl,rfl,rfl,rfl⟩,kS,hR.ce,hR.ln,f6,kT,kT,⟨rfl,rfl⟩,λ_ _ z=>z,λ_ z=>z,λs' pp hf=>?_⟩;rcases hf with⟨rfl,z⟩|⟨rfl,z⟩
  ·exact kR s' _ rfl rfl rfl rfl rfl z kW
  ·exact kR s' _ rfl rfl rfl rfl rfl z kW
 ·have hok:(xq.put 0 [kP - 3,3]).ok:=xcN (by decide) (by show 1<=2;decide) (by show 2<=100;decide) (λx hx=>by
   simp only[av,aV,or_false]at hx;rcases hx with rfl|rfl
   ·lia
   ·decide)
  have kX:zO K H op 0 2 [.put 0 [kP - 3,3]] size:=zO.puts kY (xly hok) (λr hr=>by rw[aj.mp hr];exact⟨rfl,by decide,by show 2<=50;decide⟩) h2 (by decide) (by show 1<=3;decide);refine⟨⟨{size:=size,M0:=M0,L0:=L0,n:=n,total:=kP,tries:=tries,Lg:=es.length,g:="good"},λC=>C=C1,λC=>C=doL C1 (xP rs),PmN (xP rs) C1,p,o,rs⟩,⟨{size:=size,M0:=M0,L0:=L0,n:=2,total:=kP,tries:=tries,Lg:=es.length,g:="good"},λ_=>False,λ_=>True,λ_ _=>True,op,0,[.put 0 [kP - 3,3]]⟩,rfl,rfl,⟨hX,rfl,rfl,rfl,rfl⟩,⟨⟨λ_ z=>z.elim,λ_ _ _ _ _ _ _ _=>trivial,λ_ _ _ _ _=>trivial,λ_ _ _ _=>trivial⟩,rfl,rfl,rfl,rfl⟩,kS,hR.ce,hR.ln,f6,kT,kX,⟨rfl,rfl⟩,λ_ _ _=>trivial,λ_ z=>z,λs' pp hf=>?_⟩;rcases hf with⟨rfl,z⟩|⟨rfl,z⟩
  ·exact kR s' _ rfl rfl rfl rfl rfl z kW
  ·exact⟨_,_,0,_,z,rfl,rfl,(by show(0:Int)<=2;decide),rfl,rfl,kY,.inl hk⟩
end
section
def NC(u:HO):Prop:=∀c,u≠.cel c
def Sk(H H':Hp):Prop:=∀b u,H b=some u->NC u->H' b=some u
def Sk.wr{c:Option V}{o:HO}(hf:H f=some (.cel c))(hU:upd H f o=H'):Sk H H':=λb u e n=>by
 rw[<-hU,xm (λz=>by rw[z,hf]at e;cases e;exact n _ rfl)];exact e
def Sk.lst(s:Sk H H'){b:Addr}(e:H b=some (.lst xs)):H' b=some (.lst xs):=s b _ e (λc z=>by cases z)
def xA.arm(h:xA a (zK f ar co fa c false) H B s):xA a (zK f ar co fa c true) (upd H ar (.lst [.int 1])) B s:=by
 obtain⟨o1,o2,o3⟩:=h.off ar (by show ar∈[co,ar,fa];simp);have two:∀{y:Addr} {u:HO},H y=some u->y≠ar->upd H ar (.lst [.int 1]) y=some u:=λe n=>by rw[xm n];exact e
 have nb:∀{y:Addr},y∈BS B->y≠ar:=λhy z=>o1 (by rw[<-z];exact hy);obtain⟨h1,h2,h3,h4,h5,n1,n2,n3⟩:=id h.fm;have k1:Kp [ar] H (upd H ar (.lst [.int 1])):=(Kp.of (xj.refl _)).wr (by simp);have mu:MuL H [ar]:=λx hx=>by rw[aj.mp hx];exact⟨_,h3,trivial⟩
 refine⟨two h.bd (nb (by simp)),two h.bl (au o2),two h.le (nb (by simp)),two h.ma (nb (by simp)),two h.se (nb (by simp)),λb=>?_,h.sp,h.nl,h.ni,?_,h.off,h.c0⟩
 ·have S:=h.st b;exact⟨two S.st (au (o3 b)),two S.ca (nb (by cases b<;> simp)),two S.na (nb (by cases b<;> simp)),two S.p (by rw[(h.sp b).1];exact nb (by simp)),S.ne,S.np⟩
 ·obtain⟨ys,q1,q2⟩:=h4;exact⟨yK.kp h1 mu k1,two h2 n1,xp,⟨ys,two q1 (au n3),q2⟩,h5,n1,n2,n3⟩
def xlE(K:aq):Sp:=λvs H Q _=>Ex2 λ(l:Addr) (ns:List Int)=>vs=[.ref l]/\SqL K H l (ns.map V.int)/\ns.length<=63/\H uu=some (.tbl jA)/\H zG=some (.tbl jd)/\H yR=some (.tbl uv)/\H zk=some (.tbl vF)/\H zY=some (.tbl jE)/\H yX=some (.tbl uX)/\H zm=some (.tbl vG)/\H uD=some (.tbl xal)/\H xfN=some (.tbl xkG)/\∀H',Q (.bl true) H'
noncomputable section
abbrev ze(P:aH)(w:World)(K:aq)(mg:Str->Option Value)(base:Heap)(a:Adr)(A:bo)(outer:List Env)(s:ak)(H:Hp)(E:XK):Cx:=(xa7 ["_law_armed","_law_cell","_law_counts","_law_falls"] CX0 P w K mg base ["_law_script","_law_marked","_law_size","_law_counts","_law_armed","_law_falls","_law_cell","_law_board","_law_elder","_law_rows","_law_paper","_law_tries","_law_total","_law_other","_law_known","_law_told"] "law" (xh yL) a.q36 (.ref q3A) A outer s H E).nox
variable (T:Txt K mg a) (A:bo) (outer:List Env) (s:ak) (H:Hp) (E:XK) (hr:ya 14 (A.deeper (cV "law" (xh yL) s.heap.objs.size a.q36 (.ref q3A))))
def xqx:RD:=⟨_,ze P w K mg base a A outer s H E,(xr yL).drop 25,(xk (xv (xy (xqv T) hr.m (by rfl) T.xrE T.q3Z.kp T.xrD .nil xt (xa (cv 7) (xa (cv 15) (xa (cv 1) (xa (cv 14) (xa (cv 12) (xa (cv 11) xc)))))))))⟩
def xqy:RD:=⟨_,ze P w K mg base a A outer s H E,(xr yL).drop 24,(xf (xS (xb7 (ur (xy (xlD T) hr.m (by rfl) T.xl6 T.jC.kp T.xl5 .nil xt (xa (cv 0) xc)))) (xk (xv zL)) xF)
  (RD.h (xqx T _ _ _ _ _ hr)))⟩
def xqz:RD:=⟨_,ze P w K mg base a A outer s H E,(xr yL).drop 23,(xf (yD (xS (PW.pt (zq (xbe (cv 15)) (uo (xN (xa6 hr.units) (cv 3) (xW (ve rfl) (by rfl) T.q2n zS (xa (xoy (by rfl) T.q16 (xa (xI xQ (by rfl) T.q0O yu (xa (cv 3) xc)) xc)) xc)))))) (xk (xv zL)) xF))
  (RD.h (xqy T _ _ _ _ _ hr)))⟩
def xqA:RD:=⟨_,ze P w K mg base a A outer s H E,(xr yL).drop 22,(xf (xC (i:=15) yZ.nd rfl (az rfl) (xy (xn2 T) hr.m (by rfl) T.xoU T.q3p.kp T.xoT .nil xt (xa (cv 7) (xa (cv 10) (xa (cv 13) (xa (cv 12) (xa (cv 11) (xa (cv 3) (xa (cv 2) xc)))))))))
  (RD.h (xqz T _ _ _ _ _ hr)))⟩
def xqB:RD:=⟨_,ze P w K mg base a A outer s H E,(xr yL).drop 21,(xf (xK (xbR PySem.F.plainAttrs_list PySem.F.slot_list_append PySem.F.type_list_append uq (cv 4) (xa xg xc)))
  (RD.h (xqA T _ _ _ _ _ hr)))⟩
def xqC:RD:=⟨_,ze P w K mg base a A outer s H E,(xr yL).drop 20,(@xf _ _ _ _ _ (yD (@xS _ _ _ _ _ _ _ _ (xN xa5 (xx yU (xx xeW (xy (yv T) hr.m (by rfl) T.yH T.q0o.kp T.yG .nil xt (xa (cv 0) (xa xg xc))) xg) xg) xg) (@xf _ _ _ _ _ (@xC _ _ 13 _ _ _ _ yZ.nd rfl (az rfl) (@xR _ _ _ _ _ (@xa _ _ _ _ _ (@xg _ _ _ _) (@xa _ _ _ _ _ (@xg _ _ _ _) (@xa _ _ _ _ _ (@xR _ _ _ _ _ (@xa _ _ _ _ _ (@xR _ _ _ _ _ (@xa _ _ _ _ _ (@xH _ _ _ _) (@xa _ _ _ _ _ (@xg _ _ _ _) (@xa _ _ _ _ _ (@xR _ _ _ _ _ (@xa _ _ _ _ _ (@xx _ _ _ _ _ _ _ _ jc (cv 12) (@xg _ _ _ _)) (@xa _ _ _ _ _ (@xg _ _ _ _) (@xc _) rfl) rfl)) (@xc _) rfl) rfl) rfl)) (@xc _) rfl)) (@xc _) rfl) rfl) rfl)) rfl (.inl rfl)) (@xk _ _ _ (@xC _ _ 14 _ _ _ _ yZ.nd rfl (az rfl) (@yO _ _ _) rfl (.inl rfl)))) (@xF _))) (RD.h (xqB T _ _ _ _ _ hr)))⟩
def xqD:RD:=⟨_,ze P w K mg base a A outer s H E,(xr yL).drop 17,(xf (xC (i:=12) yZ.nd rfl (az rfl) (xx ym (xI (xbf rfl) (by rfl) T.q4O xeZ (xa (xy (xlp T) hr.m (by rfl) T.xmy T.q3J.kp T.xmx .nil xt (xa (cv 10) (xa (cv 8) xc))) xc)) (xW xcP (by rfl) T.q4N xe0 (xa (zb xa5 (xx yU (xx xeW (xy (yv T) hr.m (by rfl) T.yH T.q0o.kp T.yG .nil xt (xa (cv 0) (xa xg xc))) xg) xg) xg) xc))))
  (xf (xC (i:=13) yZ.nd rfl (az rfl) (cv 10))
  (xf (yD (xC (i:=14) yZ.nd rfl (az rfl) (cv 8)))
  (RD.h (xqC T _ _ _ _ _ hr)))))⟩
def xqE:RD:=⟨_,ze P w K mg base a A outer s H E,(xr yL).drop 16,(xf (xC (i:=11) yZ.nd rfl (az rfl) (xx yU (xy (yv T) hr.m (by rfl) T.yH T.q0o.kp T.yG .nil xt (xa (cv 0) (xa xg xc))) xg))
  (RD.h (xqD T _ _ _ _ _ hr)))⟩
def xqF:RD:=⟨_,ze P w K mg base a A outer s H E,(xr yL).drop 15,(@xf _ _ _ _ _ (yD (@xS _ _ _ _ _ _ _ _ (xN xc7 (xM xT (cv 10) xg (λ_ _=>rfl)) (cv 2)) (@xk _ _ _ (@xC _ _ 10 _ _ _ _ yZ.nd rfl (az rfl) (@xR _ _ _ _ _ (@xa _ _ _ _ _ (@xg _ _ _ _) (@xa _ _ _ _ _ (@xg _ _ _ _) (@xa _ _ _ _ _ (@xR _ _ _ _ _ (@xa _ _ _ _ _ (@xR _ _ _ _ _ (@xa _ _ _ _ _ (@xH _ _ _ _) (@xa _ _ _ _ _ (@xg _ _ _ _) (@xa _ _ _ _ _ (@xR _ _ _ _ _ (@xa _ _ _ _ _ (@xg _ _ _ _) (@xc _) rfl)) (@xc _) rfl) rfl) rfl)) (@xc _) rfl)) (@xc _) rfl) rfl) rfl)) rfl (.inl rfl))) (@xF _))) (RD.h (xqE T _ _ _ _ _ hr)))⟩
def xqG:RD:=⟨_,ze P w K mg base a A outer s H E,(xr yL).drop 14,(xf (xC (i:=10) yZ.nd rfl (az rfl) (xy (xlk T) hr.m (by rfl) T.xl4 T.q2M.kp T.xl3 .nil xt (xa (xI xQ (by rfl) T.q0O yu (xa (cv 8) xc)) (xa (xy (yv T) hr.m (by rfl) T.yH T.q0o.kp T.yG .nil xt (xa (cv 0) (xa xg xc))) xc))))
  (RD.h (xqF T _ _ _ _ _ hr)))⟩
def xps:RD:=⟨_,ze P w K mg base a A outer s H E,(xr yL).drop 12,(xf (xK (xO (cv 7) T.q0a T.q3H (xgH T) hr.m T.xhw .nil xa8))
  (xf (yD (xK (xO (cv 7) T.q0a T.q1n (zC T) hr.m T.um .nil xa8)))
  (RD.h (xqG T _ _ _ _ _ hr))))⟩
def xpt:RD:=⟨_,ze P w K mg base a A outer s H E,(xr yL).drop 10,(xf (yD (xS (PW.pt (zq (xN xoM (za (cv 7) T.q0a T.q1C (uz T) hr.m T.uN .nil xa8 (xa (xR (xa xg (xa (xI xQ (by rfl) T.q0O yu (xa (cv 8) xc)) (xa (xW yn (by rfl) T.q09 yP (xa (cv 9) xc)) xc)))) (xa (xI (xbf rfl) (by rfl) T.q4O xeZ (xa (cv 8) xc)) (xa xg xc)))) zL) (uo (xN xbS (xO (cv 7) T.q0a T.q1n (zC T) hr.m T.um .nil xa8) xg)))) (xk (xv zL)) xF))
  (xf (xK (xO (cv 7) T.q0a T.q4h (xj7 T) hr.m T.xkP .nil xa8))
  (RD.h (xps T _ _ _ _ _ hr))))⟩
def xpu:RD:=⟨_,ze P w K mg base a A outer s H E,(xr yL).drop 8,(xf (yD (xC (i:=9) yZ.nd rfl (az rfl) (xaN xaO (xX (xa (xR (xa xH (xa xg (xa (xW yn (by rfl) T.q09 yP (xa (cv 8) xc)) xc)))) xc)) xb1 (xb2 (xI (xg9 rfl) (by rfl) T.q40 xg8 (xa xg (xa (xI xQ (by rfl) T.q0O yu (xa (cv 8) xc)) xc)))))))
  (xf (yD (xK (xO (cv 7) T.q0a T.q1n (zC T) hr.m T.um .nil xa8)))
  (RD.h (xpt T _ _ _ _ _ hr))))⟩
def xpv:RD:=⟨_,ze P w K mg base a A outer s H E,(xr yL).drop 7,(xf (xC (i:=8) yZ.nd rfl (az rfl) (xy (xdP T) hr.m (by rfl) T.xfl T.q3n.kp T.xfk .nil xt (xa (xy (yv T) hr.m (by rfl) T.yH T.q0o.kp T.yG .nil xt (xa (cv 0) (xa xg xc))) (xa (xx yU (xy (yv T) hr.m (by rfl) T.yH T.q0o.kp T.yG .nil xt (xa (cv 0) (xa xg xc))) (xx ym (cv 2) xg)) xc))))
  (RD.h (xpu T _ _ _ _ _ hr)))⟩
def xpw:RD:=⟨_,ze P w K mg base a A outer s H E,(xr yL).drop 6,(xf (yD (xC (i:=7) yZ.nd rfl (az rfl) (xaM T.q4M (xeP T) hr.m (by rfl) T.xmz T.xav .nil xt (xa (cv 1) (xa (cv 2) (xa (zP (c:=q3A) (P:=xfN) (qs:=xkG) (fns:=["_law_armed","_law_cell","_law_counts","_law_falls"]) rfl T.q5A (q:="law.<locals>.<lambda>") (by kernel_rfl) (.head _) (by kernel_rfl) (by kernel_rfl)) xc))))))
  (RD.h (xpv T _ _ _ _ _ hr)))⟩
def xpx:RD:=⟨_,ze P w K mg base a A outer s H E,(xr yL).drop 5,(xf (xaQ (i:=6) yZ.nd rfl rfl rfl (by kernel_rfl) (xy (yv T) hr.m (by rfl) T.yH T.q0o.kp T.yG .nil xt (xa (cv 0) (xa xg xc))))
  (RD.h (xpw T _ _ _ _ _ hr)))⟩
def xpy:RD:=⟨_,ze P w K mg base a A outer s H E,(xr yL).drop 3,(xf (xaQ (i:=4) yZ.nd rfl rfl rfl (by kernel_rfl) (xX xc))
  (xf (xaQ (i:=5) yZ.nd rfl rfl rfl (by kernel_rfl) (xX xc))
  (RD.h (xpx T _ _ _ _ _ hr))))⟩
def xpz:RD:=⟨_,ze P w K mg base a A outer s H E,(xr yL).drop 1,(xf (xC (i:=2) yZ.nd rfl (az rfl) (xx ym (xx ym (xI xQ (by rfl) T.q0O yu (xa (cv 1) xc)) xg) (xx yU (xy (yv T) hr.m (by rfl) T.yH T.q0o.kp T.yG .nil xt (xa (cv 0) (xa xg xc))) xg)))
  (xf (xaQ (i:=3) yZ.nd rfl rfl rfl (by kernel_rfl) (xX xc))
  (RD.h (xpy T _ _ _ _ _ hr))))⟩
end
theorem xta(T:Txt K mg a):xE P w K mg base CX0 15 a.q36 a.xkc ["_law_script"] (xlE K):=by
 refine T.xkd.okC ["_law_armed","_law_cell","_law_counts","_law_falls"] T.xs0 yZ (λvs H Q E h=>?_) (λA outer s H vs Q E hr h=>?_)
 ·obtain⟨l,ns,rfl,_⟩:=h;rfl
 ·refine oG λ_ Z=>?_;obtain⟨l,ns,rfl,hl,sr,rM,rL,rK,rJ,rH,rG,rF,rD,rE,q⟩:=h;apply Z;have nd:=yZ.nd;have hT:Tbs H:=⟨rM,rL,rK,rF,rJ,rH,rG⟩;refine⟨_,(yF (x:="_law_armed") (i:=4) nd rfl rfl rfl (by kernel_rfl) (yF (x:="_law_cell") (i:=6) nd rfl rfl rfl (by kernel_rfl) (yF (x:="_law_counts") (i:=3) nd rfl rfl rfl (by kernel_rfl) (yF (x:="_law_falls") (i:=5) nd rfl rfl rfl (by kernel_rfl) (xf (xC (i:=1) nd rfl (az rfl) (xy (xdP T) hr.m (by rfl) T.xfl T.q3n.kp T.xfk .nil xt (xa (xy (yv T) hr.m (by rfl) T.yH T.q0o.kp T.yG .nil xt (xa (cv 0) (xa xg xc))) (xa (xx yU (xy (yv T) hr.m (by rfl) T.yH T.q0o.kp T.yG .nil xt (xa (cv 0) (xa xg xc))) xg) xc))))
  (RD.h (xpz T _ _ _ _ _ hr))))))),?_⟩
  left;intro f1 e1 z1 d1;refine aY z1 ?_;refine gnr (upd H f1 _) λH1 mj=>?_;have s1:=xj.of_eq z1 mj;have c1:H1 f1=some (.cel none):=xU mj;left;intro f2 e2 z2 d2;have oK:f1≠f2:=d2 _ _ e1 (by decide);have y2:H1 f2=none:=by rw[<-mj,xm (au oK)];exact z2
  refine aY y2 ?_;refine gnr (upd H1 f2 _) λH2 nC=>?_;have s2:=xj.of_eq y2 nC;have c2:H2 f2=some (.cel none):=xU nC;left;intro f3 e3 z3 d3;have oJ:f1≠f3:=d3 _ _ e1 (by decide);have oF:f2≠f3:=d3 _ _ e2 (by decide);have y3:H2 f3=none:=by rw[<-nC,xm (au oF),<-mj,xm (au oJ)];exact z3
  refine aY y3 ?_;refine gnr (upd H2 f3 _) λH3 oN=>?_;have s3:=xj.of_eq y3 oN;have c3:H3 f3=some (.cel none):=xU oN;left;intro f4 e4 z4 d4;have oH:f1≠f4:=d4 _ _ e1 (by decide);have oE:f2≠f4:=d4 _ _ e2 (by decide);have oC:f3≠f4:=d4 _ _ e3 (by decide);have y4:H3 f4=none:=by rw[<-oN,xm (au oC),<-nC,xm (au oE),<-mj,xm (au oH)];exact z4
  refine aY y4 ?_;refine gnr (upd H3 f4 _) λH4 pI=>?_;have s4:=xj.of_eq y4 pI;have c4:H4 f4=some (.cel none):=xU pI;clear mj nC oN pI;have oB:=s1.trans (s2.trans (s3.trans s4));have c1:=(s2.trans (s3.trans s4)).at c1;have c2:=(s3.trans s4).at c2;have c3:=s4.at c3;clear s1 s2 s3 s4 y2 y3 y4 d1 d2 d3 d4;refine⟨l,ns,0,rfl,oB.seq hl,by decide,?_⟩;refine⟨l,ns,0,rfl,oB.seq hl,by decide,?_⟩;right;refine⟨cellAt ns 0,_,rfl,by lia,by lia,λml tx H5 s5 su kR hlen sk=>?_⟩;have qQ:tx.length<=6:=by lia
  have oA:=oB.trans s5;refine⟨ml,_,rfl,.inl (SqL.of kR),?_⟩;rw[ag];right;refine⟨l,ns,1,rfl,oA.seq hl,by decide,?_⟩;right;generalize qf:(λ(i j:Int)=>V.int (i+j)) ((tx.length:Int)+2) (cellAt ns 1%7)=sv;obtain⟨size,rfl,pz,pw,mT⟩:∃size:Int,sv= .int size/\tx.length<=size/\size<=14/\2<=size:=⟨_,qf.symm,by lia,by lia,by lia⟩;clear qf;have c1:=s5.at c1;have c2:=s5.at c2;have c3:=s5.at c3;have c4:=s5.at c4;exists λco oM=>xw (upd H5 co _) rfl oM λH6 lI lg=>?_;have nr:H co=none:=oA.back oM;have mK:ml≠co:=λz=>by rw[<-z,kR]at oM;cases oM
  refine⟨f3,e3,lI.at c3,?_⟩;refine gnr (upd H6 f3 _) λH7 hU=>?_;have k7:Sk H6 H7:=Sk.wr (lI.at c3) hU;have b3:H7 f3=some (.cel (some (.ref co))):=xU hU;have c1:H7 f1=some (.cel none):=by rw[<-hU,xm oJ];exact lI.at c1
  have c2:H7 f2=some (.cel none):=by rw[<-hU,xm oF];exact lI.at c2
  have c4:H7 f4=some (.cel none):=by rw[<-hU,xm (au oC)];exact lI.at c4
  have o4:xj H H7:=by rw[<-hU];exact(oA.trans lI).put z3
  have lg:=k7.lst lg;have kR:=(k7.lst (lI.at kR));clear hU c3;right;exists λar mi=>xw (upd H7 ar _) rfl mi λH8 lq lH=>?_;have nz:H ar=none:=o4.back mi;have mL:ml≠ar:=λz=>by rw[<-z,kR]at mi;cases mi
  refine⟨f1,e1,lq.at c1,?_⟩;refine gnr (upd H8 f1 _) λH9 hU=>?_;have k9:Sk H8 H9:=Sk.wr (lq.at c1) hU;have b1:H9 f1=some (.cel (some (.ref ar))):=xU hU;have b3:H9 f3=some (.cel (some (.ref co))):=by rw[<-hU,xm (au oJ)];exact lq.at b3
  have c2:H9 f2=some (.cel none):=by rw[<-hU,xm (au oK)];exact lq.at c2
  have c4:H9 f4=some (.cel none):=by rw[<-hU,xm (au oH)];exact lq.at c4
  have lL:xj H H9:=by rw[<-hU];exact(o4.trans lq).put z1
  have lH:=k9.lst lH;have pS:=lq.at lg;have qJ:co≠ar:=λz=>by rw[<-z,lg]at mi;cases mi
  have lg:=k9.lst pS;have kR:=k9.lst (lq.at kR);clear hU c1;right;exists λfa lN=>xw (upd H9 fa _) rfl lN λqC kP mz=>?_;have qI:co≠fa:=λz=>by rw[<-z,lg]at lN;cases lN
  have qL:ar≠fa:=λz=>by rw[<-z,lH]at lN;cases lN
  have nj:H fa=none:=lL.back lN;have mJ:ml≠fa:=λz=>by rw[<-z,kR]at lN;cases lN
  refine⟨f4,e4,kP.at c4,?_⟩;refine gnr (upd qC f4 _) λlT hU=>?_;have mR:Sk qC lT:=Sk.wr (kP.at c4) hU;have b4:lT f4=some (.cel (some (.ref fa))):=xU hU;have b1:lT f1=some (.cel (some (.ref ar))):=by rw[<-hU,xm oH];exact kP.at b1
  have b3:lT f3=some (.cel (some (.ref co))):=by rw[<-hU,xm oC];exact kP.at b3
  have c2:lT f2=some (.cel none):=by rw[<-hU,xm oE];exact kP.at c2
  have lW:xj H lT:=by rw[<-hU];exact(lL.trans kP).put z4
  have mz:=mR.lst mz;have lg:=mR.lst (kP.at lg);have lH:=mR.lst (kP.at lH);have kR:=mR.lst (kP.at kR);clear hU c4;refine⟨l,ns,2,rfl,lW.seq hl,by decide,?_⟩;generalize ny:cellAt ns 2=c;refine⟨f2,e2,c2,?_⟩;refine gnr (upd lT f2 _) λme hU=>?_;have mQ:Sk lT me:=Sk.wr c2 hU;have b2:me f2=some (.cel (some (.int c))):=xU hU;have b1:me f1=some (.cel (some (.ref ar))):=by rw[<-hU,xm oK];exact b1
  have b3:me f3=some (.cel (some (.ref co))):=by rw[<-hU,xm (au oF)];exact b3
  have b4:me f4=some (.cel (some (.ref fa))):=by rw[<-hU,xm (au oE)];exact b4
  have lz:xj H me:=by rw[<-hU];exact lW.put z2
  have mz:=mQ.lst mz;have lg:=mQ.lst lg;have lH:=mQ.lst lH;have kR:=mQ.lst kR;clear hU c2 k7 k9 mR mQ ny lW lL o4 oA oB lI lq kP s5;have qr:∀{y:Addr},me y=none->H y=none:=λh=>lz.back h;have nv:H co=none:=nr;have nB:H ar=none:=nz;have nq:H fa=none:=nj;refine⟨λσ' G=>∃(B:BA) (g:Addr),σ'=[some (.ref l),some (.ref ml),some (.int size),some (.ref co),some (.ref ar),some (.ref fa),some (.int c),some (.ref B.bd),none,none,none,none,none,none,none,none]/\xj H G/\xA a (zK g ar co fa c false) G B (bd0 tx size 0)/\G ml=some (.lst (tx.map V.int))/\ml∉BF (zK g ar co fa c false) B/\(∀y∈BF (zK g ar co fa c false) B,H y=none),?_,?_⟩
  ·refine⟨lz.at rE,fvL ar co fa c,rfl,(λx v m=>?_),λg oq hg lV hc=>?_⟩
   ·simp only[av,dF,aV,or_false]at m;rcases m with⟨rfl,rfl⟩|⟨rfl,rfl⟩|⟨rfl,rfl⟩|⟨rfl,rfl⟩
    ·exact⟨f1,e1,b1⟩
    ·exact⟨f2,e2,b2⟩
    ·exact⟨f3,e3,b3⟩
    ·exact⟨f4,e4,b4⟩
   left;intro bd dx hb rn ne;have up:∀{b:Addr} {u:HO},oq b=some u->upd (upd oq dx (.own bd)) bd (.ins a.q0b dx []) b=some u:=λe=>by rw[xm (xG e hb),xm (xG e rn)];exact e
   have qo:((zK g ar co fa c false)).At oq 0 0:=⟨hc,lV.at lg,lV.at lH,⟨[],lV.at mz,rfl⟩,by decide,qJ,qI,qL⟩;have rP:=((zK g ar co fa c false)).keep (L:=[]) qo (Kp.of λb u e=>up e) (λ_ z=>nomatch z) (λ_ z=>nomatch z);have qK:bd∉((zK g ar co fa c false)).M:=λz=>by
    refine oG λ_ Z=>?_;obtain⟨u,hu,_⟩:=((zK g ar co fa c false)).mu qo bd z;apply Z;rw[hb]at hu;cases hu
   refine⟨(zK g ar co fa c false),bd,dx,ml,tx,size,rfl,xp,up (lV.at kR),by lia,by lia,pz,rP,qK,λB r8 eb kp fr hB=>⟨rfl,?_⟩⟩;have nI:∀y∈BS B,oq y=none:=λy hy=>by
    rcases fr y hy with rfl|h
    ·exact hb
    ·exact(xc1 h).2.2
   have mF:xj oq r8:=λb u e=>kp b u (up e) (by simp;exact xG e hb);rw[<-eb];have lK:=lV.trans mF;refine⟨B,g,rfl,lz.trans lK,hB,lK.at kR,λz=>?_,λy hy=>?_⟩
   ·rcases aW.mp z with z|z
    ·have:=lV.at kR;rw[nI _ z]at this;cases this
    ·have z:ml∈[co,ar,fa]:=z;simp only[av,aV,or_false]at z;rcases z with rfl|rfl|rfl
     ·exact mK rfl
     ·exact mL rfl
     ·exact mJ rfl
   ·rcases aW.mp hy with hy|hy
    ·exact qr (lV.back (nI y hy))
    ·have hy:y∈[co,ar,fa]:=hy;simp only[av,aV,or_false]at hy;rcases hy with rfl|rfl|rfl
     ·exact nv
     ·exact nB
     ·exact nq
  rintro σ' G1 ⟨B,g,rfl,o7,hB,kR,lp,nJ⟩;clear nv nB nq nr nz nj qr mK mL mJ lg lH mz b1 b2 b3 b4 e1 e2 e3 e4 z1 z2 z3 z4 oK oJ oH oF oE oC lz;refine⟨l,ns,3,rfl,o7.seq hl,by decide,?_⟩;refine⟨l,ns,3,rfl,o7.seq hl,by decide,?_⟩;left;refine aY (show(0:Int)<size+1 by lia) ?_;left;have qw:=ez (cellAt ns 3) (b:=size+1) (by lia);have rX:=dn (cellAt ns 3) (b:=size+1) (by lia);refine⟨cellAt ns 3,_,rfl,qw,by lia,λel es G2 s2 rm oU rf pH=>?_⟩;have hle:(es.length:Int)<=size:=by lia
  have qm:es.length<=14:=by lia
  clear qw rX rf;generalize oP:zK g ar co fa c false=F at hB lp nJ;have hF:ua P w K mg base F:=by rw[<-oP];exact xfT T g ar co fa c false
  have hq:∀k n,F.fo k n=none:=λk n=>by rw[<-oP];exact(if_pos (az rfl):xeq false c k n=none)
  have lZ:F.lim=9000000:=by rw[<-oP];rfl
  have o5:=o7.trans s2;have pN:=hB.same s2;have nU:=s2.at kR;have lA:el∉BF F B:=hB.nin rm;clear hB kR;refine⟨λσ' G=>∃(rl:Addr) (us:List Addr),σ'=[some (.ref l),some (.ref ml),some (.int size),some (.ref co),some (.ref ar),some (.ref fa),some (.int c),some (.ref B.bd),some (.ref el),some (.ref rl),none,none,none,none,none,none]/\xj G2 G/\G rl=some (.lst (us.map V.ref))/\Paired (TupAt K G) us (elR es)/\G2 rl=none,?_,?_⟩
  ·refine⟨el,_,rfl,.inl ⟨SqL.of oU,?_⟩⟩;exists λtu qO=>xw (upd G2 tu _) rfl qO λG3 oW rQ=>?_;walk_at"ss";exists λt0 qS=>xw (upd G3 t0 _) rfl qS λG4 oy rS=>?_;walk_at"ss";refine λl0 rh=>xw (upd G4 l0 _) rfl rh λG5 lJ rY=>?_;refine⟨el,_,rfl,.inl (SqL.of ((oW.trans (oy.trans lJ)).at oU)),?_⟩;rw[ag];refine⟨_,rfl,?_⟩;refine⟨l0,_,rfl,SqL.of rY,?_⟩;rw[show min (1:Int) (es.length:Int)=((min 1 es.length:Nat):Int)by lia,xfS];exists λrl qh=>xw (upd G5 rl _) rfl qh λG6 lU oS=>?_;have qE:=oW.trans (oy.trans (lJ.trans lU));refine⟨rl,if es=[]then[]else[t0],rfl,qE,?_,?_,(oW.trans (oy.trans lJ)).back qh⟩
   ·rw[oS]
    by_cases z:es=[]
    ·rw[if_pos z,z];rfl
    ·rw[if_neg z];have:=dX.mpr z;rw[show min 1 es.length=1 by lia];rfl
   ·unfold elR
    by_cases z:es=[]
    ·rw[if_pos z,if_pos z];exact .nil
    ·rw[if_neg z,if_neg z];exact .cons ⟨tu,(lJ.trans lU).at rS,(oy.trans (lJ.trans lU)).at rQ⟩ .nil
  rintro σ' G3 ⟨rl,us,rfl,s3,oS,qd,lC⟩;have oR:=pN.same s3;have pL:=hT.same (o5.trans s3);have pW:rl∉BF F B:=pN.nin lC;have nS:=s3.at nU;have om:=s3.at oU;have pV:=o5.trans s3;clear pN nU oU o5 s2 lC s3;left;generalize kT:({bd0 tx size 0 with run:=some false}:BdS)=kQ;have mU:vZ F (bd0 tx size 0)=(kQ,none):=by rw[<-kT];rfl
  have rB:kQ.cnt=0:=by rw[<-kT];rfl
  have mW:kQ.run=some false:=by rw[<-kT]
  refine⟨λσ' G=>σ'=[some (.ref l),some (.ref ml),some (.int size),some (.ref co),some (.ref ar),some (.ref fa),some (.int c),some (.ref B.bd),some (.ref el),some (.ref rl),none,none,none,none,none,none]/\Kp (BF F B) G3 G/\xA a F G B kQ,?_,?_⟩
  ·refine⟨B.bd,B.dx,_,rfl,oR.bd,rfl,?_⟩;refine⟨F,B,_,rfl,hF,oR,pL,?_⟩;rw[mU];exact⟨λ_ G4 k4 my=>⟨rfl,k4,my⟩,(λc z=>by cases z),by rw[lZ];show kQ.cnt<=_;lia⟩
  rintro σ' G4 ⟨rfl,k4,my⟩;have mM:=oR.muF;have pK:=pL.kp k4 mM;have nR:=k4 _ _ nS lp;have lG:=k4 _ _ om lA;have nK:=k4 _ _ oS pW;have mS:Paired (TupAt K G4) us (elR es):=L2.Paired.imp' (λt r z=>by
   cases r with
   |take to st c=>exact uy k4 mM z
   |put to sg=>obtain⟨u,q1,q2⟩:=z;exact⟨u,uy k4 mM q1,uy k4 mM q2⟩) qd
  have qc:Kp (BF F B) H G4:=(Kp.of pV).trans k4;clear oR pL nS om oS qd mM k4 pV mU;refine⟨λσ' G=>σ'=[some (.ref l),some (.ref ml),some (.int size),some (.ref co),some (.ref ar),some (.ref fa),some (.int c),some (.ref B.bd),some (.ref el),some (.ref rl),none,none,none,none,none,none]/\Kp (BF F B) G4 G/\∃st:BdS,xA a F G B st/\st.run=some true/\Rdy size (kQ.cells false) tx.length (doL (ao size.toNat 0) (xP (elR es))) es.length false "trial" 0 10001 st,?_,?_⟩
  ·refine⟨B.bd,B.dx,_,rfl,my.bd,rfl,?_⟩;refine⟨el,_,rfl,.inl (SqL.of lG),?_⟩;rw[ag];refine⟨rl,_,rfl,.inl ⟨SqL.of nK,?_⟩⟩;exists λrt qV=>xw (upd G4 rt _) rfl qV λG5 lJ rT=>?_;walk_at"ss";refine λpp qX=>xw (upd G5 pp _) rfl qX λG6 lU rW=>?_;exists⟨el,_,rfl,SqL.of ((lJ.trans lU).at lG),?_⟩;have oz:=lJ.trans lU;have pe:Paired (TupAt K G6) us (elR es):=L2.Paired.imp' (λ_ _ z=>z.same oz) mS;have hA:yE K G6 pp 0 es.length (elR es):=⟨rt,us,rW,lU.at rT,pe⟩;have qg:∀x∈es,(x.natAbs:Int)<10^60:=xke pH;have mq:zO K G6 pp 0 es.length (elR es) size:=zO.puts hA (xs9 qg (by lia)) (xpq (by lia)).1 hle (by lia) (xpq (by lia)).2;refine oG λ_ Z=>?_;obtain⟨y1,y2,y3,y4,s1,y5,y6,y7⟩:=xuk (F:=F) hq (tx:=tx) hle mq.pk mq.few qg (by lia) kT.symm;apply Z;have qY:∀x∈xP (elR es),yA (kQ.cells (!kQ.mr)).length x:=by
    have qT:(kQ.cells (!kQ.mr)).length=size.toNat:=by
     have:kQ.size=size:=by rw[<-kT];rfl
     lia
    rw[qT];exact mq.pk
   have lD:=my.same oz;have mn:=pK.same oz;have q8:kQ.mark (!kQ.mr)=("bad":Str):=by rw[<-kT];rfl
   refine⟨F,B,kQ,pp,0,es.length,elR es,es.sum,1,rfl,hF,lD,mn,mq.pj,λz=>absurd (mW.symm.trans z) (by simp),λ_ z=>absurd (q8.symm.trans z) (by decide),λ_ _ xs z=>(by rw[mq.jn]at z;cases z),λ_ _ _ z=>(by rw[y3]at z;cases z),λ_ _ _ _=>⟨0,y1,mq.pg,qY,y4,?_⟩⟩;rw[y5];refine⟨λ_ G7 k7 la=>?_,(λc z=>by cases z),?_⟩
   ·rw[xfD rfl]at la;rw[decide_eq_true y2];walk_at"n";have qq:Rdy size (kQ.cells false) tx.length (doL (ao size.toNat 0) (xP (elR es))) es.length false "trial" 1 10000 {s1 with run:=kQ.run}:=⟨y7.sz,y7.mr,y7.mg,y7.c0,y7.l0,y7.ce,y7.ln,y7.nl,y7.mkd,y7.ct,y7.fl,y7.cn⟩;have la:xA a F G7 B {s1 with run:=kQ.run}:=la;generalize ({s1 with run:=kQ.run}:BdS)=si at qq la;refine oG λ_ Z=>?_;obtain⟨s2,w1,w2,w3,w4⟩:=qq.start1 hq;apply Z;have nD:=mn.kp k7 lD.muF;refine⟨B.bd,B.dx,_,rfl,la.bd,rfl,?_⟩;refine⟨F,B,_,rfl,hF,la,nD,?_⟩;rw[w1,w4];refine⟨λ_ G8 k8 mw=>?_,(λc z=>by cases z),by rw[lZ];have:=w3.cn;show s2.cnt<=9000000;lia⟩;walk_at"N";exact⟨rfl,((Kp.of oz).trans k7).trans k8,s2,mw,w2,w3⟩
   ·rw[xgN,lZ];have:=y7.cn;show s1.cnt<=9000000;lia
  rintro σ' G5 ⟨rfl,k5,st,oQ,kW,nF⟩;have p8:=my.muF;have pJ:=pK.kp k5 p8;have nQ:=k5 _ _ nR lp;have oa:=k5 _ _ lG lA;have qb:=qc.trans k5;clear my pK nR lG nK mS qc p8 k5 pW;exists⟨B.bd,B.dx,_,rfl,oQ.bd,rfl,?_⟩;have m9:st.mark (!st.mr)=("trial":Str):=by rw[nF.mr];exact nF.mkd
  have mX:st.run=some (!st.mr):=by rw[nF.mr];exact kW
  refine oG λ_ Z=>?_;obtain⟨mD,w1,w2,w3⟩:=nF.fine hq kW;apply Z;refine⟨F,B,st,rfl,hF,oQ,pJ,λz=>absurd (kW.symm.trans z) (by simp),λ_ z=>absurd ⟨mX,m9⟩ z,λ_ _=>?_⟩;rw[w1];refine⟨λ_ G6 k6 lD=>?_,(λc z=>by cases z),by rw[lZ];have:=w3.cn;show mD.cnt<=9000000;lia⟩;have pZ:=oQ.muF;have mn:=pJ.kp k6 pZ;have nO:=k6 _ _ nQ lp;have nZ:=k6 _ _ oa lA;have qa:=qb.trans k6;have lD:xA a F G6 B mD:=lD;clear oQ pJ nQ oa qb pZ k6 w1 m9 mX nF kW;exists⟨B.bd,B.dx,_,rfl,lD.bd,rfl,?_⟩;have ng:mD.mark (!mD.mr)=("good":Str):=by rw[w3.mr];exact w3.mg
  refine oG λ_ Z=>?_;obtain⟨mC,v1,v2,v3⟩:=w3.back hq;apply Z;refine⟨F,B,mD,rfl,hF,lD,mn,λz=>absurd (w2.symm.trans z) (by simp),λ_ z=>absurd ng z,λ_ _=>?_⟩;rw[v1];refine⟨λ_ G7 k7 la=>?_,(λc z=>by cases z),by rw[lZ];have:=v3.cn;show mC.cnt<=9000000;lia⟩;have pY:=lD.muF;have nD:=mn.kp k7 pY;have nN:=k7 _ _ nO lp;have nY:=k7 _ _ nZ lA;have p9:=qa.trans k7;have la:xA a F G7 B mC:=la;clear lD mn nO nZ qa pY k7 v1 ng w3 w2;refine⟨λσ' G=>σ'=[some (.ref l),some (.ref ml),some (.int size),some (.ref co),some (.ref ar),some (.ref fa),some (.int c),some (.ref B.bd),some (.ref el),some (.ref rl),none,none,none,none,none,none]/\Kp (BF F B) G7 G/\∃st:BdS,xA a F G B st/\st.run=some false/\Rdy size (kQ.cells false) tx.length (doL (ao size.toNat 0) (xP (elR es))) es.length false "good" 0 20000 st,?_,?_⟩
  ·refine⟨B.bd,B.dx,_,rfl,la.bd,rfl,?_⟩;refine⟨F,B,_,rfl,hF,la,nD,?_⟩;rw[v3.start2 (F:=F)];refine⟨λ_ G8 k8 mw=>⟨rfl,k8,_,mw,rfl,?_⟩,(λc z=>by cases z),by rw[lZ];have:=v3.cn;show mC.cnt<=9000000;lia⟩;have v4:=v3.setrun (some false);exact⟨v4.sz,v4.mr,v4.mg,v4.c0,v4.l0,v4.ce,v4.ln,v4.nl,v4.mkd,v4.ct,v4.fl,by have:mC.cnt<=_:=v4.cn;show mC.cnt<=20000;lia⟩
  rintro σ' G8 ⟨rfl,k8,qD,mw,mV,oO⟩;have pX:=la.muF;have qp:=nD.kp k8 pX;have nL:=k8 _ _ nN lp;have lF:=k8 _ _ nY lA;have pb:=p9.trans k8;have oZ:xj H G8:=Kp.fresh pb nJ;clear la nD nN nY p9 pX k8 v3 v2;refine⟨el,_,rfl,.inl (SqL.of lF),?_⟩;rw[ag];refine⟨l,ns,4,rfl,oZ.seq hl,by decide,?_⟩;refine⟨es.length,cellAt ns 4,rfl,by lia,by lia,λp0 o0 n0 qH G9 s9 qi rN=>?_⟩;refine⟨λσ' G=>∃(p:Addr) (o n:Int) (rs:List xq),σ'=[some (.ref l),some (.ref ml),some (.int size),some (.ref co),some (.ref ar),some (.ref fa),some (.int c),some (.ref B.bd),some (.ref el),some (.ref rl),some (.ref p),none,none,none,none,none]/\xj G8 G/\yE K G p o n rs/\NP es.length o n rs/\n<=size,?_,?_⟩
  ·refine oG λ_ Z=>?_;obtain⟨sf,sd,pD,_⟩:=id qi;apply Z;exists⟨p0,_,_,.int n0,rfl,rfl,SqT.of pD,rfl,?_⟩;walk_at"ss";refine⟨λb=>?_,λb=>?_⟩
   ·right;exists λu1 pq=>xw (upd G9 u1 _) rfl pq λou oX pO=>?_;walk_at"ss";exists λr1 pC=>xw (upd ou r1 _) rfl pC λll ly pR=>?_;walk_at"ss";exists λr2 pB=>xw (upd ll r2 _) rfl pB λoV kX pQ=>?_;walk_at"ss";refine λr3 pA=>xw (upd oV r3 _) rfl pA λmB kS pP=>?_;refine⟨r3,0,1,[.put 0 [7]],rfl,s9.trans (oX.trans (ly.trans (kX.trans kS))),⟨r2,[r1],pP,kS.at pQ,.cons ⟨u1,(kX.trans kS).at pR,(ly.trans (kX.trans kS)).at pO⟩ .nil⟩,?_,by lia⟩;exact NP.put 0 [7] (.inl rfl) (by decide) (by decide) (λx hx=>by rw[aj.mp hx];unfold Sg;decide)
   ·have b:¬size<n0:=of_decide_eq_false b;exact⟨p0,o0,n0,qH,rfl,s9,qi,rN,by lia⟩
  rintro σ' G9 ⟨p,o,n,rs,rfl,s9,hp,hN,pE⟩;left;have lL:=oZ.trans s9;refine⟨l,ns,5,rfl,lL.seq hl,by decide,?_⟩;right;generalize rC:cellAt ns 5=c5;generalize qe:(λ(i j:Int)=>V.int (i%j)) c5 5=tv;obtain⟨tries,rfl⟩:∃tries:Int,tv= .int tries:=⟨_,qe.symm⟩;clear qe;have nH:(doL (ao size.toNat (0:Int)) (xP (elR es))).length=size.toNat:=by rw[uO,bf]
  have nG:es=(doL (ao size.toNat (0:Int)) (xP (elR es))).take es.length:=(xpp (by rw[bf];lia) (xke pH) (by lia)).symm;generalize sC:doL (ao size.toNat (0:Int)) (xP (elR es))=C1 at oO nH nG;refine oG λ_ Z=>?_;obtain⟨nw,m1,m2,m3,m4,m5⟩:=hN.run (C0:=C1) (by lia) (by lia) nG (cI _) (by lia);apply Z;have n8:=(hN.fine (by lia)).2.2.2.1;have sj:=(hN.fine (by lia)).2.2.1;have nX:=s9.at lF;refine⟨p,el,o,rs,es,nw,rfl,by rw[m1];exact hp,nX,m2,m3,by lia,λwl ou mG qN qu=>?_⟩;refine⟨wl,nw,rfl,SqL.of qu,?_⟩;refine⟨l,ns,5,rfl,(lL.trans mG).seq hl,by decide,?_⟩;rw[rC];right;exists .inr ⟨decide (c5 / 5%4=0),rfl,?_⟩;generalize qj:(λ(i j:Int)=>V.int (i+j)) nw.sum (if decide (c5 / 5%4=0)=true then 1 else 0)=ov;obtain⟨lb,rfl,qP⟩:∃lb:Int,ov= .int lb/\(lb=nw.sum\/lb=nw.sum+1):=⟨_,qj.symm,by split;exact .inr rfl;exact .inl (Int.add_zero _)⟩;clear qj;have qU:=xpr (xtR hN m2 m3 pH);have qZ:nw.length<=8:=by lia
  have qR:(lb.natAbs:Int)<=10^52:=by
   have:(nw.length:Int)*(2*10^50)<=8*(2*10^50):=Int.mul_le_mul_of_nonneg_right (by lia) (by decide);lia
  clear qU;have s8:=s9.trans mG;have m8:=hp.same mG;have mI:=lL.trans mG;clear qu qN s9 mG nX hp lL;refine⟨λσ' G=>σ'=[some (.ref l),some (.ref ml),some (.int size),some (.ref co),some (.ref ar),some (.ref fa),some (.int c),some (.ref B.bd),some (.ref el),some (.ref rl),some (.ref p),some (.int tries),some (.int lb),some (.ref p),some (.ref el),none]/\ou=G,⟨rfl,rfl⟩,?_⟩;rintro σ' _ ⟨rfl,rfl⟩;refine⟨λσ' G=>∃(op:Addr) (kv:V),σ'=[some (.ref l),some (.ref ml),some (.int size),some (.ref co),some (.ref ar),some (.ref fa),some (.int c),some (.ref B.bd),some (.ref el),some (.ref rl),some (.ref p),some (.int tries),some (.int lb),some (.ref op),some kv,none]/\xj ou G/\((op=p/\kv= .ref el)\/(kv= .non/\yE K G op 0 2 [.put 0 [lb - 3,3]])),?_,?_⟩
  ·refine⟨l,ns,5,rfl,mI.seq hl,by decide,?_⟩;right;refine⟨λb=>?_,λb=>?_⟩
   ·right;exists λu1 pq=>xw (upd ou u1 _) rfl pq λll ly pO=>?_;walk_at"ss";exists λr1 pC=>xw (upd ll r1 _) rfl pC λoV kX pR=>?_;walk_at"ss";exists λr2 pB=>xw (upd oV r2 _) rfl pB λmB kS pQ=>?_;walk_at"ss";refine λr3 pA=>xw (upd mB r3 _) rfl pA λpU lr pP=>?_;exact⟨r3,.non,rfl,ly.trans (kX.trans (kS.trans lr)),.inr ⟨rfl,r2,[r1],pP,lr.at pQ,.cons ⟨u1,(kS.trans lr).at pR,(kX.trans (kS.trans lr)).at pO⟩ .nil⟩⟩
   ·exact⟨p,.ref el,rfl,xj.refl _,.inl ⟨rfl,rfl⟩⟩
  rintro σ' ll ⟨op,kv,rfl,oY,qk⟩;have kY:=s8.trans oY;have lE:=mw.same kY;have nE:=qp.same kY;have lQ:=kY.at nL;have lS:=kY.at lF;have m7:=m8.same oY;have mP:=pb.trans (Kp.of kY);clear mw qp nL lF m8 pb kY s8 oY mI oZ;subst oP;have lh:ll ar=some (.lst []):=lE.fm.2.2.1;left;refine aY (.inl ⟨rfl,_,SqL.of lh⟩) ?_;refine⟨ar,_,_,rfl,rfl,lh,(by rw[aZ];decide),?_⟩;have l9:=lE.arm;have lY:Kp (BF (zK g ar co fa c true) B) ll (upd ll ar (.lst [.int 1])):=(Kp.of (xj.refl _)).wr (aI _ (by show ar∈[co,ar,fa];simp));have lB:MuL ll (BF (zK g ar co fa c true) B):=lE.muF;have lp:ml∉BF (zK g ar co fa c true) B:=lp;have lA:el∉BF (zK g ar co fa c true) B:=lA;have nJ:∀y∈BF (zK g ar co fa c true) B,H y=none:=nJ;have mO:Kp (BF (zK g ar co fa c true) B) H (upd ll ar (.lst [.int 1])):=Kp.trans mP lY;have l7:=nE.kp lY lB;have lP:=lY _ _ lQ lp;have lR:=lY _ _ lS lA;have mZ:=m7.kp lY lB;have lM:(op=p/\kv= .ref el)\/(kv= .non/\yE K (upd ll ar (.lst [.int 1])) op 0 2 [.put 0 [lb - 3,3]]):=by
   rcases qk with z|⟨z1,z2⟩
   ·exact .inl z
   ·exact .inr ⟨z1,z2.kp lY lB⟩
  rw[show([]:List V)++[V.int 1]=[.int 1]from rfl];generalize upd ll ar (.lst [.int 1])=oV at*;clear lE nE lQ lS m7 mP lY lB qk lh hF hq lZ;left;refine oG λ_ Z=>?_;obtain⟨W1,W2,a1,a2,a3,a4,a5,a6,a7,a8,a9,qB,qA,qz,qy,qx⟩:=xul (kv:=kv) (op:=op) (tries:=tries) mZ hN hle pw mT pE qR nH m1 m2 m3 m5 oO lM;apply Z;have pF:=oO.mkd;have rA:=oO.cn;refine⟨zK g ar co fa c true,g,ar,co,fa,c,true,B,qD,W1,W2,size,lb,tries,by rw[a1,a2];rfl,rfl,l9,l7,mV,a5,pF,a6,a7,a8,a3,a4,a9,qB,qA,qz,qy,mT,by lia,by lia,λtt al pp s9 ys mB mh l8 rR rZ qM nh rq=>?_⟩;refine oG λ_ Z=>?_;obtain⟨S,Pf,o',o8,b1,b2,b3,b4,b5,b6,b7,b8⟩:=qx s9 pp nh;apply Z;have lX:=l9.muF;have pM:=l7.kp mh lX;have nW:=mh _ _ lP lp;have oo:=mh _ _ lR lA;have mY:=b7.kp mh lX;have o6:xj H mB:=Kp.fresh (mO.trans mh) nJ;have lO:=xet rfl l8.fm;have sy:=l8.c0;clear a1 a2 a3 a4 a5 a6 a7 a8 a9 qB qA qz qy qx l9 l7 lP lR mZ lM mh lX mO nh b7;refine⟨λσ' G=>σ'=[some (.ref l),some (.ref ml),some (.int size),some (.ref co),some (.ref ar),some (.ref fa),some (.int c),some (.ref B.bd),some (.ref el),some (.ref rl),some (.ref p),some (.int tries),some (.int lb),some (.ref op),some kv,some (.ref tt)]/\xj mB G,?_,?_⟩
  ·walk_at"N";refine⟨co,_,rfl,.inl (SqL.of lO),?_⟩;rw[ag,xgJ];left;intro rg qW;refine gnr (upd mB rg _) λpU hU=>?_;have mf:=xj.of_eq qW hU;have rV:=xU hU;clear hU;refine⟨rg,_,_,rfl,rV,by rw[uB];lia,?_⟩;exists λo9 lC=>xw (upd pU o9 _) rfl lC λpT mE md=>?_;have md:pT o9=some (.lst ((jT s9.cnt).map V.int)):=by rw[md];congr 1;congr 1;rw[uB];unfold jT xY xdY;simp;rw[show(max s9.cnt 0).toNat=s9.cnt.toNat from by lia];rfl
   refine jW (f:=λb=> !b) ⟨co,o9,_,_,rfl,rfl,SqL.of ((mf.trans mE).at lO),SqL.of md,?_⟩;rw[decide_eq_true rfl];walk_at"N";exact⟨rfl,mf.trans mE⟩
  rintro σ' pU ⟨rfl,mf⟩;have mH:=o6.trans mf;refine⟨l,ns,rfl,mH.seq hl,pM.same mf,mH.at rD,λpT qF=>?_⟩;have kZ:=mf.trans qF;walk_at"n";have rj:kv= .non\/∃(el:Addr) (es nw:List Int),kv= .ref el/\pT el=some (.lst (es.map V.int))/\(nw.length:Int)=S.n/\(∀r∈o8,Tells es nw r)/\(∀j,j<nw.length->∃r∈o8,zc r j)/\nw.length<=1000/\(s9.cells true).take S.n.toNat=nw:=by
   rcases b8 with z|⟨z1,z2,z3,z4,z5,z6⟩
   ·exact .inl z
   ·exact .inr ⟨el,es,nw,z1,kZ.at oo,z2,z3,z4,z5,z6⟩
  have rO:S.M0.take tx.length=tx:=by
   rw[b6,<-kT];show(tx++ao (size - tx.length).toNat 0).take tx.length=tx;rw[i7]
  exact⟨zK g ar co fa c true,B,s9,tt,al,pp,ml,kv,ys,S,Pf,tx,o',o8,lb,tries,rfl,l8.same kZ,kZ.at rR,kZ.at rZ,qM,b1,b2,b3,b4,kZ.at nW,b5,rO,mY.same kZ,rj,λr9 sh=>q r9⟩
end
abbrev NI(K:aq)(x:Str)(f:Addr):Prop:=iC K br x=some (some (.ref f))
abbrev NN(K:aq)(x:Str):Prop:=iC K br x=some none
def FL(K:aq)(x q:Str)(st:Stmt)(f:Addr):Prop:=∃fd,Fun K x q st f fd
theorem yd{n:Nat}{us:List Value}(h:us.length=n+1):∃u r,us=u::r/\r.length=n:=by
 cases us with
 |nil=>cases h
 |cons u r=>exact⟨u,r,rfl,Nat.succ.inj h⟩
def xa4{us:List Value}(h:us.length=0):us=[]:=List.length_eq_zero_iff.mp h
def bn1{x q:Str}(F:Fun K x q st f fd)(h:autoParam (∀(kV doc pm:Value) (an:Option Addr) (cdv ct u1:Value),dB (cq x q (yh st) (xr st) (xh st) .none kV doc pm an cdv ct) ⟨[u1],[]⟩=pure [(p1,u1)]) tV):Binds K fd [p1] []:=by
 refine F.binds λkV doc pm an cdv ct us hl=>?_;obtain⟨u1,r1,rfl,k1⟩:=yd hl;obtain rfl:=xa4 k1;exact h kV doc pm an cdv ct u1
def bn2{x q:Str}(F:Fun K x q st f fd)(h:autoParam (∀(kV doc pm:Value) (an:Option Addr) (cdv ct u1 u2:Value),dB (cq x q (yh st) (xr st) (xh st) .none kV doc pm an cdv ct) ⟨[u1,u2],[]⟩=pure [(p1,u1),(p2,u2)]) tV):Binds K fd [p1,p2] []:=by
 refine F.binds λkV doc pm an cdv ct us hl=>?_;obtain⟨u1,r1,rfl,k1⟩:=yd hl;obtain⟨u2,r2,rfl,k2⟩:=yd k1;obtain rfl:=xa4 k2;exact h kV doc pm an cdv ct u1 u2
def bn3{x q:Str}(F:Fun K x q st f fd)(h:autoParam (∀(kV doc pm:Value) (an:Option Addr) (cdv ct u1 u2 u3:Value),dB (cq x q (yh st) (xr st) (xh st) .none kV doc pm an cdv ct) ⟨[u1,u2,u3],[]⟩=pure [(p1,u1),(p2,u2),(p3,u3)]) tV):Binds K fd [p1,p2,p3] []:=by
 refine F.binds λkV doc pm an cdv ct us hl=>?_;obtain⟨u1,r1,rfl,k1⟩:=yd hl;obtain⟨u2,r2,rfl,k2⟩:=yd k1;obtain⟨u3,r3,rfl,k3⟩:=yd k2;obtain rfl:=xa4 k3;exact h kV doc pm an cdv ct u1 u2 u3
def bn4{x q:Str}(F:Fun K x q st f fd)(h:autoParam (∀(kV doc pm:Value) (an:Option Addr) (cdv ct u1 u2 u3 u4:Value),dB (cq x q (yh st) (xr st) (xh st) .none kV doc pm an cdv ct) ⟨[u1,u2,u3,u4],[]⟩=pure [(p1,u1),(p2,u2),(p3,u3),(p4,u4)]) tV):Binds K fd [p1,p2,p3,p4] []:=by
 refine F.binds λkV doc pm an cdv ct us hl=>?_;obtain⟨u1,r1,rfl,k1⟩:=yd hl;obtain⟨u2,r2,rfl,k2⟩:=yd k1;obtain⟨u3,r3,rfl,k3⟩:=yd k2;obtain⟨u4,r4,rfl,k4⟩:=yd k3;obtain rfl:=xa4 k4;exact h kV doc pm an cdv ct u1 u2 u3 u4
def bn5{x q:Str}(F:Fun K x q st f fd)(h:autoParam (∀(kV doc pm:Value) (an:Option Addr) (cdv ct u1 u2 u3 u4 u5:Value),dB (cq x q (yh st) (xr st) (xh st) .none kV doc pm an cdv ct) ⟨[u1,u2,u3,u4,u5],[]⟩=pure [(p1,u1),(p2,u2),(p3,u3),(p4,u4),(p5,u5)]) tV):Binds K fd [p1,p2,p3,p4,p5] []:=by
 refine F.binds λkV doc pm an cdv ct us hl=>?_;obtain⟨u1,r1,rfl,k1⟩:=yd hl;obtain⟨u2,r2,rfl,k2⟩:=yd k1;obtain⟨u3,r3,rfl,k3⟩:=yd k2;obtain⟨u4,r4,rfl,k4⟩:=yd k3;obtain⟨u5,r5,rfl,k5⟩:=yd k4;obtain rfl:=xa4 k5;exact h kV doc pm an cdv ct u1 u2 u3 u4 u5
def bn6{x q:Str}{p6:Str}(F:Fun K x q st f fd)(h:autoParam (∀(kV doc pm:Value) (an:Option Addr) (cdv ct u1 u2 u3 u4 u5 u6:Value),dB (cq x q (yh st) (xr st) (xh st) .none kV doc pm an cdv ct) ⟨[u1,u2,u3,u4,u5,u6],[]⟩=pure [(p1,u1),(p2,u2),(p3,u3),(p4,u4),(p5,u5),(p6,u6)]) tV):Binds K fd [p1,p2,p3,p4,p5,p6] []:=by
 refine F.binds λkV doc pm an cdv ct us hl=>?_;obtain⟨u1,r1,rfl,k1⟩:=yd hl;obtain⟨u2,r2,rfl,k2⟩:=yd k1;obtain⟨u3,r3,rfl,k3⟩:=yd k2;obtain⟨u4,r4,rfl,k4⟩:=yd k3;obtain⟨u5,r5,rfl,k5⟩:=yd k4;obtain⟨u6,r6,rfl,k6⟩:=yd k5;obtain rfl:=xa4 k6;exact h kV doc pm an cdv ct u1 u2 u3 u4 u5 u6
def bn7{x q:Str}{p6 p7:Str}(F:Fun K x q st f fd)(h:autoParam (∀(kV doc pm:Value) (an:Option Addr) (cdv ct u1 u2 u3 u4 u5 u6 u7:Value),dB (cq x q (yh st) (xr st) (xh st) .none kV doc pm an cdv ct) ⟨[u1,u2,u3,u4,u5,u6,u7],[]⟩=pure [(p1,u1),(p2,u2),(p3,u3),(p4,u4),(p5,u5),(p6,u6),(p7,u7)]) tV):Binds K fd [p1,p2,p3,p4,p5,p6,p7] []:=by
 refine F.binds λkV doc pm an cdv ct us hl=>?_;obtain⟨u1,r1,rfl,k1⟩:=yd hl;obtain⟨u2,r2,rfl,k2⟩:=yd k1;obtain⟨u3,r3,rfl,k3⟩:=yd k2;obtain⟨u4,r4,rfl,k4⟩:=yd k3;obtain⟨u5,r5,rfl,k5⟩:=yd k4;obtain⟨u6,r6,rfl,k6⟩:=yd k5;obtain⟨u7,r7,rfl,k7⟩:=yd k6;obtain rfl:=xa4 k7;exact h kV doc pm an cdv ct u1 u2 u3 u4 u5 u6 u7
def xtb{l:W.OpenLaw}{h:Heap}{q1c q1G q2v q1b q0U q2d q1T q1U q1H q1I q0I q04 q3y q2w q2e q1V q1W q1l q3K q3E q2j q2D q2E q3f q1q q25 q2F q3S q1g q1r q1s q2x q3T q1O q2G q02 q1h q1t q3g q2H q2y q0P q0s q1u q1X q1d q1Y q1J q1K q1Z q0n q0B q0Q q1e q0W q1v q0M q10 q11 q0E q0x q0y q0t q0z q0u q0J q0X q0A q3h q3i q3U q4s q1S q3V q4K q3j q17 q1o q2z q3t q36 q26 q0c q0g q0k q0f q0b q1N q0d q0e q0N q0R q0w q0K q0i:Addr}{q48:Tok}{kS:Addr}{o7:Option Addr}{oR:Nat}{o6:Array (Option Value)}{o5:Value}{kR:Addr}{o4:Option Addr}{oQ:Nat}{oZ:Array (Option Value)}{oY:Value}{mq mn mj mi mh nr nq nj nh ng m9 m8 m7 mZ mY mX mW mV mU mT mS mR:Option Addr}{mQ mP mO mM mL mK mJ mI mH nH nG:Array (Option Value)}{nF nE nD nC nB nz ny nv lK kQ lJ lI lH lG lF lE lD lC lB lA lz ly lr lq lp kP ll lh lg lb la kZ kY kX kW kT mf me md l9 l8 l7 lZ lY lX lW lV lU lT lS lR lQ lP lO lN lM lL:Value}(X:K.In h)(G:h.Ns br mg)(qc:mg "law"=some (.ref fa))
  (oa:NI K "Row" q26)
  (nI:NI K "Take" q0c)
  (oJ:NI K "Put" q0g)
  (oH:NI K "Pen" q0k)
  (nO:NI K "Store" q0f)
  (nN:NI K "Board" q0b)
  (oF:NI K "Down" q1N)
  (nZ:NI K "Fallen" q0d)
  (nY:NI K "Faulty" q0e)
  (nL:NI K "NoRow" q0N)
  (pY:NI K "NoTrial" q0R)
  (pS:NI K "NoWayBack" q0w)
  (pX:NI K "OnTrial" q0K)
  (nK:NI K "Unfit" q0i)
  (q5C:L2.xbX K q1N none=true)
  (q4H:aM K (.ref q1N) (.ref q0d)=some false)
  (q4I:aM K (.ref q1N) (.ref q0e)=some false)
  (q4P:aM K (.ref q1N) (.ref q0N)=some false)
  (q4Q:aM K (.ref q1N) (.ref q0i)=some false)
  (q3r:xc9 K q0d q1c)
  (q1z:xJ K q0d "count")
  (q2m:aM K (.ref q0d) (.ref q0d)=some true)
  (q4u:aM K (.ref q0d) (.ref q0e)=some false)
  (q4B:aM K (.ref q0d) (.ref q0N)=some false)
  (q4C:aM K (.ref q0d) (.ref q0i)=some false)
  (q4b:xil K q0d)
  (q4c:xc9 K q0e q1G)
  (q3d:xJ K q0e "fault")
  (q4v:aM K (.ref q0e) (.ref q0d)=some false)
  (q3G:aM K (.ref q0e) (.ref q0e)=some true)
  (q4D:aM K (.ref q0e) (.ref q0N)=some false)
  (q4E:aM K (.ref q0e) (.ref q0i)=some false)
  (q4U:xil K q0e)
  (q4V:L2.xbX K q0R none=true)
  (q4o:aM K (.ref q0R) (.ref q0d)=some false)
  (q4p:aM K (.ref q0R) (.ref q0e)=some false)
  (q4w:aM K (.ref q0R) (.ref q0N)=some false)
  (q4x:aM K (.ref q0R) (.ref q0i)=some false)
  (q4G:L2.xbX K q0w none=true)
  (q3Q:aM K (.ref q0w) (.ref q0d)=some false)
  (q3R:aM K (.ref q0w) (.ref q0e)=some false)
  (q4d:aM K (.ref q0w) (.ref q0N)=some false)
  (q4e:aM K (.ref q0w) (.ref q0i)=some false)
  (q4W:L2.xbX K q0K none=true)
  (q4q:aM K (.ref q0K) (.ref q0d)=some false)
  (q4r:aM K (.ref q0K) (.ref q0e)=some false)
  (q4y:aM K (.ref q0K) (.ref q0N)=some false)
  (q4z:aM K (.ref q0K) (.ref q0i)=some false)
  (q4Y:L2.xbX K q0i none=true)
  (q4F:aM K (.ref q0i) (.ref q0d)=some false)
  (q3e:aM K (.ref q0i) (.ref q0e)=some false)
  (q4J:aM K (.ref q0i) (.ref q0N)=some false)
  (q3x:aM K (.ref q0i) (.ref q0i)=some true)
  (q4f:gi K q0d (.type "BaseException")=some true)
  (q4X:gi K q0e (.type "BaseException")=some true)
  (q5D:gi K q0N (.type "BaseException")=some true)
  (q45:gi K q0i (.type "BaseException")=some true)
  (qO:aS K (.ref q0d) "__init__"=some (some (.ref q1c)))
  (q18:FL K "__init__" "Fallen.__init__" xbs q1c)
  (qN:aS K (.ref q0e) "__init__"=some (some (.ref q1G)))
  (q2o:FL K "__init__" "Faulty.__init__" xbt q1G)
  (qg:aS K (.ref q26) "__init__"=some (some (.ref q2v)))
  (q3u:FL K "__init__" "Row.__init__" xd3 q2v)
  (qZ:aS K (.ref q26) "covers"=some (some (.ref q1b)))
  (q2N:FL K "covers" "Row.covers" xce q1b)
  (qM:aS K (.ref q26) "covered"=some (some (.ref q0U)))
  (q2p:FL K "covered" "Row.covered" xbu q0U)
  (qj:aS K (.ref q0c) "__init__"=some (some (.ref q2d)))
  (q3a:FL K "__init__" "Take.__init__" xda q2d)
  (qY:aS K (.ref q0c) "stays"=some (some (.ref q1T)))
  (q2O:FL K "stays" "Take.stays" xcf q1T)
  (qX:aS K (.ref q0c) "reads"=some (some (.ref q1U)))
  (q2P:FL K "reads" "Take.reads" xcg q1U)
  (qL:aS K (.ref q0c) "writes"=some (some (.ref q1H)))
  (q2q:FL K "writes" "Take.writes" xbv q1H)
  (qK:aS K (.ref q0c) "pieces"=some (some (.ref q1I)))
  (q2r:FL K "pieces" "Take.pieces" xbw q1I)
  (qz:aS K (.ref q0c) "source_for"=some (some (.ref q0I)))
  (q1E:FL K "source_for" "Take.source_for" jo q0I)
  (qu:aS K (.ref q0c) "sign_for"=some (some (.ref q04)))
  (q14:FL K "sign_for" "Take.sign_for" xag q04)
  (qi:aS K (.ref q0c) "told"=some (some (.ref q3y)))
  (q3z:FL K "told" "Take.told" xf5 q3y)
  (qf:aS K (.ref q0g) "__init__"=some (some (.ref q2w)))
  (q3v:FL K "__init__" "Put.__init__" xd4 q2w)
  (qh:aS K (.ref q0g) "reads"=some (some (.ref q2e)))
  (q3b:FL K "reads" "Put.reads" xdb q2e)
  (qW:aS K (.ref q0g) "writes"=some (some (.ref q1V)))
  (q2Q:FL K "writes" "Put.writes" xch q1V)
  (qV:aS K (.ref q0g) "pieces"=some (some (.ref q1W)))
  (q2R:FL K "pieces" "Put.pieces" xci q1W)
  (qR:aS K (.ref q0g) "sign_for"=some (some (.ref q1l)))
  (q2g:FL K "sign_for" "Put.sign_for" xaW q1l)
  (qe:aS K (.ref q0g) "told"=some (some (.ref q3K)))
  (q3L:FL K "told" "Put.told" xhi q3K)
  (nJ:NI K "row_of" q3E)
  (q19:FL K "row_of" "row_of" xgr q3E)
  (pR:NI K "tells_take" q2j)
  (q2k:FL K "tells_take" "tells_take" xcj q2j)
  (pI:NI K "tells_put" q2D)
  (q2I:FL K "tells_put" "tells_put" xdc q2D)
  (pH:NI K "are_signs" q2E)
  (q2J:FL K "are_signs" "are_signs" xdd q2E)
  (nX:NI K "is_sign" q3f)
  (q3k:FL K "is_sign" "is_sign" xe5 q3f)
  (pw:NI K "is_whole_from" q1q)
  (q0v:FL K "is_whole_from" "is_whole_from" xah q1q)
  (pW:NI K "is_whole" q25)
  (q2A:FL K "is_whole" "is_whole" xd5 q25)
  (pF:NI K "pieces_of" q2F)
  (q2K:FL K "pieces_of" "pieces_of" xde q2F)
  (oE:NI K "go_on" q3S)
  (q3W:FL K "go_on" "go_on" xin q3S)
  (p8:NI K "refuse_lengths" q1g)
  (q1i:FL K "refuse_lengths" "refuse_lengths" jL q1g)
  (pq:NI K "refuse_beyond" q1r)
  (q1w:FL K "refuse_beyond" "refuse_beyond" xai q1r)
  (pe:NI K "places_needed" q1s)
  (q1x:FL K "places_needed" "places_needed" xaj q1s)
  (pV:NI K "do_piece" q2x)
  (q37:uf K q1p uu)
  (pU:K.lookup q2x=some ⟨nF,mq,.func (cq "do_piece" "do_piece" (yh uT) (xr uT) (xh uT) .none nE nD nC mn (.ref q1p) nB),mQ⟩)
  (q1p:cS K (.ref q1p) "do_piece"=true)
  (pT:cx K (.ref q2x)=true)
  (oC:NI K "judge" q3T)
  (q3X:FL K "judge" "judge" xio q3T)
  (oX:NI K "fits_in_size" q1O)
  (q1P:FL K "fits_in_size" "fits_in_size" xaX q1O)
  (pE:NI K "is_length" q2G)
  (q2f:FL K "is_length" "is_length" xdf q2G)
  (qb:NI K "first_wrong_row" q02)
  (q03:FL K "first_wrong_row" "first_wrong_row" jq q02)
  (pZ:NI K "is_fitting_row" q1h)
  (q1j:FL K "is_fitting_row" "is_fitting_row" jM q1h)
  (pb:NI K "covered_twice" q1t)
  (q1y:FL K "covered_twice" "covered_twice" xak q1t)
  (nW:NI K "lacking" q3g)
  (q3l:FL K "lacking" "lacking" xe6 q3g)
  (pD:NI K "read_late" q2H)
  (q2L:FL K "read_late" "read_late" xdg q2H)
  (qd:aS K (.ref q0k) "__init__"=some (some (.ref q2y)))
  (q3w:FL K "__init__" "Pen.__init__" xd6 q2y)
  (qw:aS K (.ref q0k) "write_into"=some (some (.ref q0P)))
  (q1Q:FL K "write_into" "Pen.write_into" jN q0P)
  (rj:aS K (.ref q0k) "answer_of_fall"=some (some (.ref q0s)))
  (q0Y:FL K "answer_of_fall" "Pen.answer_of_fall" uU q0s)
  (qU:aS K (.ref q0f) "__init__"=some (some (.ref q1u)))
  (pQ:K.lookup q1u=some ⟨nz,mj,.func (cq "__init__" "Store.__init__" (yh uL) (xr uL) (xh uL) (.ref kS) ny nv lK mi kQ lJ),mP⟩)
  (oP:K.lookup kS=some ⟨o5,o7,.seq #[.none] oR,o6⟩)
  (pP:cS K kQ "Store.__init__"=true)
  (pO:cx K (.ref q1u)=true)
  (qT:aS K (.ref q0f) "read"=some (some (.ref q1X)))
  (q2S:FL K "read" "Store.read" xck q1X)
  (qJ:aS K (.ref q0f) "write"=some (some (.ref q1d)))
  (q3Y:uf K q0S zG)
  (oO:K.lookup q1d=some ⟨lI,mh,.func (cq "write" "Store.write" (yh zF) (xr zF) (xh zF) .none lH lG lF nr (.ref q0S) lE),mO⟩)
  (q0S:cS K (.ref q0S) "Store.write"=true)
  (oN:cx K (.ref q1d)=true)
  (qS:aS K (.ref q0f) "mark"=some (some (.ref q1Y)))
  (q2T:FL K "mark" "Store.mark" xcl q1Y)
  (qI:aS K (.ref q0f) "noted"=some (some (.ref q1J)))
  (q2s:FL K "noted" "Store.noted" xbx q1J)
  (qH:aS K (.ref q0f) "begin"=some (some (.ref q1K)))
  (q2t:FL K "begin" "Store.begin" xby q1K)
  (qq:aS K (.ref q0f) "told"=some (some (.ref q1Z)))
  (q2U:FL K "told" "Store.told" xcm q1Z)
  (q8:aS K (.ref q0f) "refuse_lacking"=some (some (.ref q0n)))
  (q0H:FL K "refuse_lacking" "Store.refuse_lacking" uC q0n)
  (qy:aS K (.ref q0f) "note_down"=some (some (.ref q0B)))
  (q3m:uf K q0r yR)
  (qa:K.lookup q0B=some ⟨lD,nq,.func (cq "note_down" "Store.note_down" (yh yQ) (xr yQ) (xh yQ) .none lC lB lA nj (.ref q0r) lz),mM⟩)
  (q0r:cS K (.ref q0r) "Store.note_down"=true)
  (p9:cx K (.ref q0B)=true)
  (qp:aS K (.ref q0b) "__init__"=some (some (.ref q0Q)))
  (pN:K.lookup q0Q=some ⟨ly,nh,.func (cq "__init__" "Board.__init__" (yh yS) (xr yS) (xh yS) (.ref kR) lr lq lp ng kP ll),mL⟩)
  (oM:K.lookup kR=some ⟨oY,o4,.seq #[.none] oQ,oZ⟩)
  (pM:cS K kP "Board.__init__"=true)
  (pL:cx K (.ref q0Q)=true)
  (qF:aS K (.ref q0b) "start"=some (some (.ref q1e)))
  (q2u:FL K "start" "Board.start" xbz q1e)
  (qQ:aS K (.ref q0b) "update"=some (some (.ref q0W)))
  (q3M:uf K q0F zk)
  (oW:K.lookup q0W=some ⟨lh,m9,.func (cq "update" "Board.update" (yh zi) (xr zi) (xh zi) .none lg lb la m8 (.ref q0F) kZ),mK⟩)
  (q0F:cS K (.ref q0F) "Board.update"=true)
  (oV:cx K (.ref q0W)=true)
  (qo:aS K (.ref q0b) "fine"=some (some (.ref q1v)))
  (q4g:uf K q1a zY)
  (pK:K.lookup q1v=some ⟨kY,m7,.func (cq "fine" "Board.fine" (yh zX) (xr zX) (xh zX) .none kX kW kT mZ (.ref q1a) mf),mJ⟩)
  (q1a:cS K (.ref q1a) "Board.fine"=true)
  (pJ:cx K (.ref q1v)=true)
  (qr:aS K (.ref q0b) "go_back"=some (some (.ref q0M)))
  (q3F:uf K q0D yX)
  (o9:K.lookup q0M=some ⟨me,mY,.func (cq "go_back" "Board.go_back" (yh yW) (xr yW) (xh yW) .none md l9 l8 mX (.ref q0D) l7),mI⟩)
  (q0D:cS K (.ref q0D) "Board.go_back"=true)
  (o8:cx K (.ref q0M)=true)
  (qm:aS K (.ref q0b) "text"=some (some (.ref q10)))
  (q2V:FL K "text" "Board.text" xcn q10)
  (qk:aS K (.ref q0b) "told"=some (some (.ref q11)))
  (q2W:FL K "told" "Board.told" xco q11)
  (qA:aS K (.ref q0b) "other_bank"=some (some (.ref q0E)))
  (q1m:FL K "other_bank" "Board.other_bank" vQ q0E)
  (qE:aS K (.ref q0b) "bank_to_run"=some (some (.ref q0x)))
  (q05:FL K "bank_to_run" "Board.bank_to_run" vn q0x)
  (qD:aS K (.ref q0b) "refuse_down"=some (some (.ref q0y)))
  (q06:FL K "refuse_down" "Board.refuse_down" vo q0y)
  (rh:aS K (.ref q0b) "refuse_paper"=some (some (.ref q0t)))
  (q0Z:FL K "refuse_paper" "Board.refuse_paper" uV q0t)
  (qC:aS K (.ref q0b) "holds_elder"=some (some (.ref q0z)))
  (q07:FL K "holds_elder" "Board.holds_elder" vp q0z)
  (rf:aS K (.ref q0b) "put_on_trial"=some (some (.ref q0u)))
  (q00:FL K "put_on_trial" "Board.put_on_trial" uW q0u)
  (qx:aS K (.ref q0b) "make_good"=some (some (.ref q0J)))
  (q1F:FL K "make_good" "Board.make_good" jr q0J)
  (qP:aS K (.ref q0b) "change"=some (some (.ref q0X)))
  (q3N:uf K q0G zm)
  (oU:K.lookup q0X=some ⟨lZ,mW,.func (cq "change" "Board.change" (yh zj) (xr zj) (xh zj) .none lY lX lW mV (.ref q0G) lV),mH⟩)
  (q0G:cS K (.ref q0G) "Board.change"=true)
  (oS:cx K (.ref q0X)=true)
  (qB:aS K (.ref q0b) "run_or_fall"=some (some (.ref q0A)))
  (q08:FL K "run_or_fall" "Board.run_or_fall" vq q0A)
  (nU:NI K "bank_of" q3h)
  (q23:FL K "bank_of" "bank_of" xe7 q3h)
  (nS:NI K "_law_cell_at" q3i)
  (q0o:FL K "_law_cell_at" "_law_cell_at" xe8 q3i)
  (oB:NI K "_law_mixed" q3U)
  (q15:FL K "_law_mixed" "_law_mixed" xip q3U)
  (mG:NI K "_law_text" q4s)
  (q3n:FL K "_law_text" "_law_text" xkF q4s)
  (pC:NI K "_law_new_paper" q1S)
  (q2M:FL K "_law_new_paper" "_law_new_paper" yI q1S)
  (oA:NI K "_law_meant" q3V)
  (q3J:FL K "_law_meant" "_law_meant" xiq q3V)
  (mB:NI K "_law_how" q4K)
  (q4L:FL K "_law_how" "_law_how" xny q4K)
  (nR:NI K "_law_updated" q3j)
  (q3o:FL K "_law_updated" "_law_updated" xe9 q3j)
  (oK:NI K "_law_turned_away" q17)
  (q2a:FL K "_law_turned_away" "_law_turned_away" xbA q17)
  (pB:NI K "_law_exchanged" q1o)
  (q4t:uf K q0T uD)
  (pA:K.lookup q1o=some ⟨lU,mU,.func (cq "_law_exchanged" "_law_exchanged" (yh xZ) (xr xZ) (xh xZ) .none lT lS lR mT (.ref q0T) lQ),nH⟩)
  (q0T:cS K (.ref q0T) "_law_exchanged"=true)
  (pz:cx K (.ref q1o)=true)
  (nQ:NI K "_law_brought" q2z)
  (q3p:FL K "_law_brought" "_law_brought" zQ q2z)
  (oz:NI K "_law_right" q3t)
  (q3Z:FL K "_law_right" "_law_right" uM q3t)
  (mz:NI K "law" q36)
  (q5A:uf K q3A xfN)
  (my:K.lookup q36=some ⟨lP,mS,.func (cq "law" "law" (yh yL) (xr yL) (xh yL) .none lO lN lM mR (.ref q3A) lL),nG⟩)
  (q3A:cS K (.ref q3A) "law"=true)
  (mw:cx K (.ref q36)=true)
  (q6w:Cls K q26)
  (q4T:xJ K q26 "count")
  (q5s:xJ K q26 "to")
  (q0h:Cls K q0c)
  (q0V:xJ K q0c "count")
  (q0C:xJ K q0c "source")
  (q01:xJ K q0c "to")
  (q5g:Mk K q0c q2d)
  (q1L:Cls K q0g)
  (q12:xJ K q0g "count")
  (q3q:xJ K q0g "signs")
  (q24:xJ K q0g "to")
  (q5B:Mk K q0g q2w)
  (q3B:Cls K q0k)
  (q2X:xJ K q0k "asked")
  (q38:xJ K q0k "fall")
  (q49:Mk K q0k q2y)
  (q0m:Cls K q0f)
  (q1R:xJ K q0f "cells")
  (q2h:xJ K q0f "notes")
  (q2l:xJ K q0f "pen")
  (q44:Mk K q0f q1u)
  (q0a:Cls K q0b)
  (q2Y:xJ K q0b "banks")
  (q1k:xJ K q0b "lengths")
  (q0j:xJ K q0b "marks")
  (q2Z:xJ K q0b "pen")
  (q0q:xJ K q0b "running")
  (q0l:xJ K q0b "settings")
  (q3C:xJ K q0b "size")
  (q4M:Mk K q0b q0Q)
  (q27:Meth K q0b "bank_to_run" q0x)
  (q0p:Meth K q0b "change" q0X)
  (q4h:Meth K q0b "fine" q1v)
  (q3H:Meth K q0b "go_back" q0M)
  (q28:Meth K q0b "holds_elder" q0z)
  (q3s:Meth K q0b "make_good" q0J)
  (q0L:Meth K q0b "other_bank" q0E)
  (q20:Meth K q0b "put_on_trial" q0u)
  (q1A:Meth K q0b "refuse_down" q0y)
  (q21:Meth K q0b "refuse_paper" q0t)
  (q1B:Meth K q0b "run_or_fall" q0A)
  (q1n:Meth K q0b "start" q1e)
  (q2b:Meth K q0b "text" q10)
  (q1f:Meth K q0b "told" q11)
  (q1C:Meth K q0b "update" q0W)
  (q22:Meth K q0k "answer_of_fall" q0s)
  (q2c:Meth K q0k "write_into" q0P)
  (q2i:Meth K q0g "covered" q0U)
  (q4i:Meth K q0g "covers" q1b)
  (q4j:Meth K q0g "pieces" q1W)
  (q4A:Meth K q0g "reads" q2e)
  (q3P:Meth K q0g "sign_for" q1l)
  (q4k:Meth K q0g "writes" q1V)
  (q30:Meth K q0f "begin" q1K)
  (q4l:Meth K q0f "mark" q1Y)
  (q13:Meth K q0f "note_down" q0B)
  (q31:Meth K q0f "noted" q1J)
  (q4m:Meth K q0f "read" q1X)
  (q1M:Meth K q0f "refuse_lacking" q0n)
  (q3D:Meth K q0f "told" q1Z)
  (q32:Meth K q0f "write" q1d)
  (q2B:Meth K q0c "covered" q0U)
  (q33:Meth K q0c "covers" q1b)
  (q34:Meth K q0c "pieces" q1I)
  (q4n:Meth K q0c "reads" q1U)
  (q3I:Meth K q0c "sign_for" q04)
  (q2C:Meth K q0c "source_for" q0I)
  (q29:Meth K q0c "stays" q1T)
  (q35:Meth K q0c "writes" q1H)
  (q4a:xpU K q26 "__init__" q2v)
  (mF:aS K (.ref q0g) "__class__"=some (some (.builtin "object.__class__")))
  (mE:iQ K (.builtin "object.__class__") "__get__"=some (some (.builtin "getset_descriptor.__get__")))
  (mD:W.takesIn K (.builtin "object.__class__")=some true)
  (mC:gi K q0g (.type "object")=some true)
  (oy:aS K (.ref q0c) "__class__"=some (some (.builtin "object.__class__")))
  (ou:iQ K (.builtin "object.__class__") "__get__"=some (some (.builtin "getset_descriptor.__get__")))
  (oq:W.takesIn K (.builtin "object.__class__")=some true)
  (oo:gi K q0c (.type "object")=some true)
  (q39:ik K (.ref q0g) (.ref q0c)=some false)
  (q3O:ik K (.ref q0c) (.ref q0c)=some true)
  (om:iC K br "MOST"=some (some (.int 300 q48)))
  (q5Z:NN K "abs")
  (q50:NN K "all")
  (q5E:NN K "bool")
  (q3c:NN K "enumerate")
  (q4N:NN K "int")
  (q1D:NN K "isinstance")
  (q0O:NN K "len")
  (q2n:NN K "list")
  (q4Z:NN K "max")
  (q40:NN K "min")
  (q16:NN K "range")
  (q4O:NN K "sum")
  (q09:NN K "tuple")
  :∃fd:ax,(∀(s:ak) (v:Value),iV s fd ⟨[v],[]⟩ [("_law_script",v)])/\∀base:Heap,K.In base->base.Ns br mg->xE l.prog w K mg base CX0 15 fa fd ["_law_script"] (xlE K):=by
 have e:=qc.symm.trans (W.mg_of X G mz);have e2:q36=fa:=by injection e with e;injection e with e;exact e.symm
 subst e2;obtain⟨_,q18⟩:=q18;obtain⟨_,q2o⟩:=q2o;obtain⟨_,q3u⟩:=q3u;obtain⟨_,q2N⟩:=q2N;obtain⟨_,q2p⟩:=q2p;obtain⟨_,q3a⟩:=q3a;obtain⟨_,q2O⟩:=q2O;obtain⟨_,q2P⟩:=q2P;obtain⟨_,q2q⟩:=q2q;obtain⟨_,q2r⟩:=q2r;obtain⟨_,q1E⟩:=q1E;obtain⟨_,q14⟩:=q14;obtain⟨_,q3z⟩:=q3z;obtain⟨_,q3v⟩:=q3v;obtain⟨_,q3b⟩:=q3b;obtain⟨_,q2Q⟩:=q2Q;obtain⟨_,q2R⟩:=q2R;obtain⟨_,q2g⟩:=q2g;obtain⟨_,q3L⟩:=q3L;obtain⟨_,q19⟩:=q19;obtain⟨_,q2k⟩:=q2k;obtain⟨_,q2I⟩:=q2I;obtain⟨_,q2J⟩:=q2J;obtain⟨_,q3k⟩:=q3k;obtain⟨_,q0v⟩:=q0v;obtain⟨_,q2A⟩:=q2A;obtain⟨_,q2K⟩:=q2K;obtain⟨_,q3W⟩:=q3W;obtain⟨_,q1i⟩:=q1i;obtain⟨_,q1w⟩:=q1w;obtain⟨_,q1x⟩:=q1x;have xau:=jz (st:=uT) pU q1p pT;obtain⟨_,q3X⟩:=q3X;obtain⟨_,q1P⟩:=q1P;obtain⟨_,q2f⟩:=q2f;obtain⟨_,q03⟩:=q03;obtain⟨_,q1j⟩:=q1j;obtain⟨_,q1y⟩:=q1y;obtain⟨_,q3l⟩:=q3l;obtain⟨_,q2L⟩:=q2L;obtain⟨_,q3w⟩:=q3w;obtain⟨_,q1Q⟩:=q1Q;obtain⟨_,q0Y⟩:=q0Y;have vS:=xmu (st:=uL) (ds:=[.none]) pQ pP pO oP;have xfh:=vS.binds (ps:=["self","cells","fall"]) (es:=[]) 3 rfl λ_ _ _ _ _ _ _ us hl=>match us,hl with|[_,_,_],_=>⟨_,rfl,rfl⟩
 have xbI:=vS.binds (ps:=["self","cells","fall"]) (es:=[.none]) 2 rfl λ_ _ _ _ _ _ _ us hl=>match us,hl with|[_,_],_=>⟨_,rfl,rfl⟩
 obtain⟨_,q2S⟩:=q2S;have jJ:=jz (st:=zF) oO q0S oN;obtain⟨_,q2T⟩:=q2T;obtain⟨_,q2s⟩:=q2s;obtain⟨_,q2t⟩:=q2t;obtain⟨_,q2U⟩:=q2U;obtain⟨_,q0H⟩:=q0H;have uH:=jz (st:=yQ) qa q0r p9;have vT:=xmu (st:=yS) (ds:=[.none]) pN pM pL oM;have xav:=vT.binds (ps:=["self","text","size","fall"]) (es:=[]) 4 rfl λ_ _ _ _ _ _ _ us hl=>match us,hl with|[_,_,_,_],_=>⟨_,rfl,rfl⟩
 have xew:=vT.binds (ps:=["self","text","size","fall"]) (es:=[.none]) 3 rfl λ_ _ _ _ _ _ _ us hl=>match us,hl with|[_,_,_],_=>⟨_,rfl,rfl⟩
 obtain⟨_,q2u⟩:=q2u;have jg:=jz (st:=zi) oW q0F oV;have xaw:=jz (st:=zX) pK q1a pJ;have vI:=jz (st:=yW) o9 q0D o8;obtain⟨_,q2V⟩:=q2V;obtain⟨_,q2W⟩:=q2W;obtain⟨_,q1m⟩:=q1m;obtain⟨_,q05⟩:=q05;obtain⟨_,q06⟩:=q06;obtain⟨_,q0Z⟩:=q0Z;obtain⟨_,q07⟩:=q07;obtain⟨_,q00⟩:=q00;obtain⟨_,q1F⟩:=q1F;have jh:=jz (st:=zj) oU q0G oS;obtain⟨_,q08⟩:=q08;obtain⟨_,q23⟩:=q23;obtain⟨_,q0o⟩:=q0o;obtain⟨_,q15⟩:=q15;obtain⟨_,q3n⟩:=q3n;obtain⟨_,q2M⟩:=q2M;obtain⟨_,q3J⟩:=q3J;obtain⟨_,q4L⟩:=q4L;obtain⟨_,q3o⟩:=q3o;obtain⟨_,q2a⟩:=q2a;have jC:=jz (st:=xZ) pA q0T pz;obtain⟨_,q3p⟩:=q3p;obtain⟨_,q3Z⟩:=q3Z;have xkd:=jz (st:=yL) my q3A mw;have g {x v} (q:iC K br x=some (some v)):=W.mg_of X G q;have g0 {x} (q:iC K br x=some none):=W.mg_none_of X G q;have T:Txt K mg ⟨q1c,_,q1G,_,q2v,_,q1b,_,q0U,_,q2d,_,q1T,_,q1U,_,q1H,_,q1I,_,q0I,_,q04,_,q3y,_,q2w,_,q2e,_,q1V,_,q1W,_,q1l,_,q3K,_,q3E,_,q2j,_,q2D,_,q2E,_,q3f,_,q1q,_,q25,_,q2F,_,q3S,_,q1g,_,q1r,_,q1s,_,q2x,_,q3T,_,q1O,_,q2G,_,q02,_,q1h,_,q1t,_,q3g,_,q2H,_,q2y,_,q0P,_,q0s,_,q1u,_,q1X,_,q1d,_,q1Y,_,q1J,_,q1K,_,q1Z,_,q0n,_,q0B,_,q0Q,_,q1e,_,q0W,_,q1v,_,q0M,_,q10,_,q11,_,q0E,_,q0x,_,q0y,_,q0t,_,q0z,_,q0u,_,q0J,_,q0X,_,q0A,_,q3h,_,q3i,_,q3U,_,q4s,_,q1S,_,q3V,_,q4K,_,q3j,_,q17,_,q1o,_,q2z,_,q3t,_,q36,_,q26,q0c,q0g,q0k,q0f,q0b,q1N,q0d,q0e,q0N,q0R,q0w,q0K,q0i,q48⟩:=⟨q18,bn2 q18,q2o,bn2 q2o,q3u,bn2 q3u,q2N,bn1 q2N,q2p,bn1 q2p,q3a,bn4 q3a,q2O,bn1 q2O,q2P,bn1 q2P,q2q,bn1 q2q,q2r,bn1 q2r,q1E,bn2 q1E,q14,bn3 q14,q3z,bn1 q3z,q3v,bn3 q3v,q3b,bn1 q3b,q2Q,bn1 q2Q,q2R,bn1 q2R,q2g,bn3 q2g,q3L,bn1 q3L,q19,bn1 q19,g nJ,q2k,bn1 q2k,g pR,q2I,bn1 q2I,g pI,q2J,bn1 q2J,g pH,q3k,bn1 q3k,g nX,q0v,bn2 q0v,g pw,q2A,bn1 q2A,g pW,q2K,bn1 q2K,g pF,q3W,bn2 q3W,g oE,q1i,bn2 q1i,g p8,q1w,bn2 q1w,g pq,q1x,bn2 q1x,g pe,xau,bn3 xau,g pV,q37,rfl,q3X,bn1 q3X,g oC,q1P,bn1 q1P,g oX,q2f,bn1 q2f,g pE,q03,bn1 q03,g qb,q1j,bn3 q1j,g pZ,q1y,bn1 q1y,g pb,q3l,bn2 q3l,g nW,q2L,bn1 q2L,g pD,q3w,bn2 q3w,q1Q,bn5 q1Q,q0Y,bn2 q0Y,vS,xbI,xfh,q2S,bn2 q2S,jJ,bn3 jJ,q3Y,rfl,q2T,bn2 q2T,q2s,bn1 q2s,q2t,bn1 q2t,q2U,bn1 q2U,q0H,bn2 q0H,uH,bn3 uH,q3m,rfl,vT,xew,xav,q2u,bn1 q2u,jg,bn4 jg,q3M,rfl,xaw,bn1 xaw,q4g,rfl,vI,bn1 vI,q3F,rfl,q2V,bn2 q2V,q2W,bn1 q2W,q1m,bn1 q1m,q05,bn1 q05,q06,bn1 q06,q0Z,bn2 q0Z,q07,bn3 q07,q00,bn4 q00,q1F,bn2 q1F,jh,bn4 jh,q3N,rfl,q08,bn2 q08,q23,bn2 q23,g nU,q0o,bn2 q0o,g nS,q15,bn2 q15,g oB,q3n,bn2 q3n,g mG,q2M,bn2 q2M,g pC,q3J,bn2 q3J,g oA,q4L,bn5 q4L,g mB,q3o,bn5 q3o,g nR,q2a,bn3 q2a,g oK,jC,bn1 jC,g pB,q4t,rfl,q3p,bn7 q3p,g nQ,q3Z,bn6 q3Z,g oz,xkd,bn1 xkd,q5A,rfl,g oa,q6w,q4T,q5s,g nI,q0h,q0V,q0C,q01,q5g,g oJ,q1L,q12,q3q,q24,q5B,g oH,q3B,q2X,q38,q49,g nO,q0m,q1R,q2h,q2l,q44,g nN,q0a,q2Y,q1k,q0j,q2Z,q0q,q0l,q3C,q4M,g oF,g nZ,g nY,g nL,g pY,g pS,g pX,g nK,q5C,q4H,q4I,q4P,q4Q,q3r,q3r.hd,q1z,q2m,q4u,q4B,q4C,q4b,q4c,q4c.hd,q3d,q4v,q3G,q4D,q4E,q4U,q4V,q4o,q4p,q4w,q4x,q4G,q3Q,q3R,q4d,q4e,q4W,q4q,q4r,q4y,q4z,q4Y,q4F,q3e,q4J,q3x,⟨q4f⟩,⟨q4X⟩,⟨q5D⟩,⟨q45⟩,λe=>.ins e q1L mF mE mD mC,λe=>.ins e q0h oy ou oq oo,q39,q3O,g om,q27,q0p,q4h,q3H,q28,q3s,q0L,q20,q1A,q21,q1B,q1n,q2b,q1f,q1C,q22,q2c,q2i,q4i,q4j,q4A,q3P,q4k,q30,q4l,q13,q31,q4m,q1M,q3D,q32,q2B,q33,q34,q4n,q3I,q2C,q29,q35,q4a,g0 q5Z,g0 q50,g0 q5E,g0 q3c,g0 q4N,g0 q1D,g0 q0O,g0 q2n,g0 q4Z,g0 q40,g0 q16,g0 q4O,g0 q09⟩;exact⟨_,λs v=>.of_eq rfl,λbase _ _=>xta T⟩
end Internal.K72
open PySem PySem.W PyProof.Rows
structure PySem.W.Fast:Prop where
 (tw5461894941753685248 tw5163597963682065344 tw9527785942670002210 tw12266845550641559619 tw6661504887987401733 tw15994697715280976325 tw11809577666335797221 tw14226132546613805031 tw15212292514877357128 tw15853059087708556808 tw2019245894403976872 tw8493416854343526088 tw12741598049579705353 tw11592368964941960363 tw16455914390627576619 tw13556525497906545772 tw12511925714067835180 tw11169398432763514412 tw13323354543616015725 tw3819030540532694509 tw6907093666396622062 tw10897438410178826511 tw12573961284185244912 tw15721671901296524176 tw12830121683217519313 tw7561344451837097713 tw2420526627333617425 tw8299963243403316594 tw9185114279510709875 tw8999088203288068148 tw8528186353305808692 tw15441897361254677813 tw15822886336660228533 tw6735612830703301429 tw11972413061109459062 tw16851925357342494902 tw12164106904977630518 tw835373682771548790 tw4139605976874019511 tw16075574563748779767 tw16958601742926719513 tw6487763265004666553 tw13858515039343992601 tw10777332031243877915 tw11188582890085909565 tw12237400183188565501 tw11968921402569490814 tw18251763333893095423 tw5623224802831533339 tw5313220094136711529 tw7782905621974919904 tw1307369706196145167 tw18435744890654527735 tw18355988666288002549 tw1070242835507012397 tw2184385203365714510 tw12411721386493067013 tw2660086251054277274 tw12660249609816061956 tw3420796953810634584 tw10219139642313063445 tw116494215088661561 tw1579271404985882026 tw17956422399080523248 tw105790805677479088 tw2921107737813276912 tw16641181559413052091 tw9899133396331095217 tw7182276980634566463 tw15592738849040218388 tw2764579807377763515 tw785142874182233153 tw6690093525333020875 tw8627837978841886665 tw9710633990523304537 tw4022413450147145362 tw973657586276431254 tw14093664653114244415 tw8625583498042316516 tw18097130697271363751 tw14523428397255711290 tw13620311862779808466 tw3261219345280156029 tw544150890916253525 tw122796207158837675 tw3944746710937377839 tw11976370430373022568 tw11026881595825746339 tw7497409217500424199 tw12534370420442183678 tw14455368229195966814 tw10003632839999846709 tw6278331839506714790 tw1268183169694603483 tw4754499821175444543 tw662718105777247267 tw18357069580910430540 tw15926125624149987285 tw2093367269805432666 tw16888743831943425214 tw11704937252546761820 tw12398394938608030942 tw6874678520508655919 tw17776811342044615080 tw2872017043270206616 tw5585473511854539616 tw10015291191197976443 tw9514975237118948315 tw10256671910739141314 tw3632423032234775175 tw3306633577049601255 tw5006068232600209535 tw2449223907826164890 tw2468024347659367410 tw15135799594031994710 tw9481379388622271557 tw6329992981577540889 tw15439371894314852118 tw14944556297412095874 tw17098501618984618700 tw1022622949628176479 tw5868196214776476704 tw10019970788853314508 tw15009171111006099052 tw13235659941248789362 tw3010837744874209927 tw1069415461272738563 tw3506365579120291672 tw11449909521569741128 tw17564582317653294153 tw5789384142011279504 tw7966039302204184071 tw1881693919246827441 tw899372208895563538 tw7993246644900589304 tw13009875009280008731 tw7160787067707568566 tw1397600694053464811 tw5568085079773996847 tw17617277631012144888 tw17681417525617109123 tw2925545261074475462 tw4971663753200015572 tw6503083430138798655 tw16408389810396601285 tw12686236505122631973 tw4806465316470039011 tw11620147178471028144 tw251854785452509020 tw16127479487945452066 tw1185885896496705491 tw7977439486874070786 tw6304865299153966717 tw343664029196683520 tw7908130327365460140 tw14064963423447539707 tw8628904974528692816 tw1219751619043200647 tw15509050676687648947 tw1352068734929640338 tw15099042807953865531 tw455742210354306480 tw13872360063986077794 tw10422782136302949690 tw8158476414521806048 tw570161949808753085 tw2782553968405925175 tw3204828883623739705 tw13913336246195342506 tw4902362391749311192 tw3209809888098174397 tw5641260110193007495 tw14918080623428979191 tw12300809008039293788 tw10895066500123075427 tw11206950932516464852 tw6804017505501600033 tw17042917595839953055 tw5672812632741562114 tw5560200756939618594 tw12323918713981653473 tw8722968857727262210 tw6585988405234142391 tw5088809182379228403 tw3957536127625884145 tw5445317383686116045 tw4056556495831138603 tw8494124567588043216 tw11888990962141913450 tw8794784047844842196 tw12906662691313638924 tw2485781693914147503 tw14494160191043954407 tw5030810347324481998 tw11556161397632680738 tw14290967923807922068 tw10938488971142407623 tw7028900205343539431 tw6022069463573459198 tw9743546110819903 tw11751510409471037008 tw8764034540331130167 tw5016434255308091549 tw951473375883609050 tw12196554388794695553 tw17852628207646503185 tw4776989031860509632 tw15992992363527326677 tw1867901522039571964 tw16333508049243043976 tw7386267958620630193 tw12734891882135027470 tw11426566336698288775 tw8444383319766585354 tw1234714573689335926 tw9162121893277606741 tw3748632770356753598 tw2733926624777909906 tw17490520773788939496 tw3314174003145314877 tw6265775163288875972 tw4157864473241332713 tw1632842545065839297 tw14414829292299590271 tw2976782585500152683 tw17088167664090408439 tw12854448175378900717 tw9128971121021258529 tw11881028186119456169 tw7508473149412106773 tw16069211755659514913 tw6716159287571064814 tw17571314974268542794 tw1168642704396521914 tw18010143859440188160 tw12732732532600825696 tw10952205966823196011 tw17159525951468026869 tw8268176666121784688 tw14656002136279531380 tw14783217462234731485 tw4390216106062510688 tw830452524089385269 tw4468241559836507867 tw14454447872931872905 tw16900983707473792220 tw11013990922602294395 tw6670393531602554591 tw6059785586209176108 tw16747794789540739992 tw8662289411205986001 tw18025015422705614626 tw5539804647697353525 tw2582302354263333982 tw10845953956758181838 tw17747423486549414457 tw3069690592257915963 tw3254711524155698788 tw4803734983439441167 tw4949601281268775413 tw5676582007449054435 tw7455272961827179194 tw8603912170333779031 tw12812394970446777323 tw5093238754242023718 tw14041735647298593233 tw15084035724207123820 tw12810455250375551356 tw15716253731867585793 tw2245461803872892882 tw2648987625162033892 tw1033358004810715419 tw15904278164885438933 tw6760836124135455293 tw12873223585564713523 tw1495552946067203110 tw5563519296018738237 tw4719985943393089956 tw15618682775744464642 tw18034468554939700957 tw18438324328006994183 tw5287451325877008342 tw7537489248549578787 tw4097141344209825089 tw3871539340368185451 tw3383715600240462988 tw191961029702084961 tw9155343695820376915 tw12442880041880029900 tw14353967372049836292 tw17079159766800119720 tw3217394456543452220 tw4229290661774968266 tw10883834660563239151 tw4371910644591538922 tw9843469713965404295 tw11531581776506308137 tw1464122371970494956 tw8175118893514955743 tw10669395279741644224 tw7025954908584637976 tw8769587846270924903 tw17358124270498148466 tw7367101633492025497 tw15075511700233702140 tw5830920172928561100 tw11914209397826043173 tw1386828703929235563 tw7100000868590277541 tw15926498570094461930 tw10700556004470588136 tw12782665987856856032 tw6500675017309415139 tw15666667283316949575 tw15776097076772721944 tw2758718373028055492 tw13469207262775054581 tw15215375080386896432 tw2504616134883623888 tw6737260395575952850 tw8785792065068666190 tw4434509801114989734 tw8760080449147770453 tw11832867752451378474 tw16892236785087954233 tw2032883085763391776 tw11230154612658362654 tw15517821604718971199 tw8180053259631481696 tw10622966733734349467 tw11138880207738753616 tw11369761722994916645 tw11382650718751706672 tw11589294608450993628 tw11609680054955479444 tw11918246568086030402 tw12325758581101803086 tw12355958919717466375 tw12881963823416964679 tw13302447683891178141 tw13986620550711613319 tw14967435338760164630 tw15098859824043439697 tw15376675699905836536 tw15681936741345882594 tw16123337173689228988 tw16462072149424670315 tw1654500422554320461 tw16629087712689097272 tw16914012707107840983 tw17231466682805713507 tw17833342697174038808 tw17963702501457627183 tw2011395792366066757 tw2077815471660617108 tw2105259237323440465 tw2467921607908415179 tw3015529139685280157 tw3054225564721404519 tw3940061032181049627 tw4347204335353764756 tw4409467203592138533 tw466612980458569687 tw4861461280833453720 tw5036628548627419991 tw6352377158445694996 tw6863153986228510771 tw7527380977991432330 tw7919241346197481892 tw7943260780510714495 tw817936775285371426 tw8326259816550646138 tw8897746708320246780 tw9073522060883732388 tw9186736886781269711 tw9288300029363207618 tw9405268408155123379 tw9736734049852011220 tw9995644926981394240 tw10192136679610292905 tw11832319851146601632 tw9146462712575405976 tw11060109214523990114 tw11154722273443254618 tw11211550918879424009 tw12543076252194505784 tw12767476328971267840:True)
set_option maxRecDepth 100000 in
set_option maxHeartbeats 0 in
theorem PySem.Challenge.cw_oneroom_k72_updates_gone_on_with_holds : PySem.Challenge.rw_oneroom_k72_updates_gone_on_with.Holds := by
 w_on;o_law;k_head;(case hw=>w_witness2)
 k_fill
 refine L2.xpV (l:=PySem.Challenge.rw_oneroom_k72_updates_gone_on_with) (n:=63) (k:=15) (x:="_law_script") (CX:=L2.CX0) (sp:=K72.xlE) (tabs:=[(K72.q1p,K72.uu,K72.jA),(K72.q0S,K72.zG,K72.jd),(K72.q0r,K72.yR,K72.uv),(K72.q0F,K72.zk,K72.vF),(K72.q1a,K72.zY,K72.jE),(K72.q0D,K72.yX,K72.uX),(K72.q0G,K72.zm,K72.vG),(K72.q0T,K72.uD,K72.xal),(K72.q3A,K72.xfN,K72.xkG)]) rfl (by decide) rfl ⟨rfl,by decide,by decide⟩ (fun w h Y=>PySem.W.km_in_of Y) (fun w h Y KX=>(List.forall_mem_cons.mpr ⟨⟨PySem.W.codeHd_of_K (c:=K72.q1p) (P:=K72.uu) KX (by kernel_rfl),PySem.W.km_tabs_of Y _ (by decide)⟩,(List.forall_mem_cons.mpr ⟨⟨PySem.W.codeHd_of_K (c:=K72.q0S) (P:=K72.zG) KX (by kernel_rfl),PySem.W.km_tabs_of Y _ (by decide)⟩,(List.forall_mem_cons.mpr ⟨⟨PySem.W.codeHd_of_K (c:=K72.q0r) (P:=K72.yR) KX (by kernel_rfl),PySem.W.km_tabs_of Y _ (by decide)⟩,(List.forall_mem_cons.mpr ⟨⟨PySem.W.codeHd_of_K (c:=K72.q0F) (P:=K72.zk) KX (by kernel_rfl),PySem.W.km_tabs_of Y _ (by decide)⟩,(List.forall_mem_cons.mpr ⟨⟨PySem.W.codeHd_of_K (c:=K72.q1a) (P:=K72.zY) KX (by kernel_rfl),PySem.W.km_tabs_of Y _ (by decide)⟩,(List.forall_mem_cons.mpr ⟨⟨PySem.W.codeHd_of_K (c:=K72.q0D) (P:=K72.yX) KX (by kernel_rfl),PySem.W.km_tabs_of Y _ (by decide)⟩,(List.forall_mem_cons.mpr ⟨⟨PySem.W.codeHd_of_K (c:=K72.q0G) (P:=K72.zm) KX (by kernel_rfl),PySem.W.km_tabs_of Y _ (by decide)⟩,(List.forall_mem_cons.mpr ⟨⟨PySem.W.codeHd_of_K (c:=K72.q0T) (P:=K72.uD) KX (by kernel_rfl),PySem.W.km_tabs_of Y _ (by decide)⟩,(List.forall_mem_cons.mpr ⟨⟨PySem.W.codeHd_of_K (c:=K72.q3A) (P:=K72.xfN) KX (by kernel_rfl),PySem.W.km_tabs_of Y _ (by decide)⟩,(fun _ z=>nomatch z)⟩)⟩)⟩)⟩)⟩)⟩)⟩)⟩)⟩)) (fun w=>by kernel_rfl) (by decide) ?F ?S ?C
 case F=>
  intro w mg fa h KX G hmg
  refine' K72.xtb KX G hmg ?_ ?_ ?_ ?_ ?_ ?_ ?_ ?_ ?_ ?_ ?_ ?_ ?_ ?_ ?_ ?_ ?_ ?_ ?_ ?_ ?_ ?_ ?_ ?_ ?_ ?_ ?_ ?_ ?_ ?_ ?_ ?_ ?_ ?_ ?_ ?_ ?_ ?_ ?_ ?_ ?_ ?_ ?_ ?_ ?_ ?_ ?_ ?_ ?_ ?_ ?_ ?_ ?_ ?_ ?_ ?_ ?_ ?_ ?_ ?_ ?_ ?_ ?_ ?_ ?_ ?_ ?_ ?_ ?_ ?_ ?_ ?_ ?_ ?_ ?_ ?_ ?_ ?_ ?_ ?_ ?_ ?_ ?_ ?_ ?_ ?_ ?_ ?_ ?_ ?_ ?_ ?_ ?_ ?_ ?_ ?_ ?_ ?_ ?_ ?_ ?_ ?_ ?_ ?_ ?_ ?_ ?_ ?_ ?_ ?_ ?_ ?_ ?_ ?_ ?_ ?_ ?_ ?_ ?_ ?_ ?_ ?_ ?_ ?_ ?_ ?_ ?_ ?_ ?_ ?_ ?_ ?_ ?_ ?_ ?_ ?_ ?_ ?_ ?_ ?_ ?_ ?_ ?_ ?_ ?_ ?_ ?_ ?_ ?_ ?_ ?_ ?_ ?_ ?_ ?_ ?_ ?_ ?_ ?_ ?_ ?_ ?_ ?_ ?_ ?_ ?_ ?_ ?_ ?_ ?_ ?_ ?_ ?_ ?_ ?_ ?_ ?_ ?_ ?_ ?_ ?_ ?_ ?_ ?_ ?_ ?_ ?_ ?_ ?_ ?_ ?_ ?_ ?_ ?_ ?_ ?_ ?_ ?_ ?_ ?_ ?_ ?_ ?_ ?_ ?_ ?_ ?_ ?_ ?_ ?_ ?_ ?_ ?_ ?_ ?_ ?_ ?_ ?_ ?_ ?_ ?_ ?_ ?_ ?_ ?_ ?_ ?_ ?_ ?_ ?_ ?_ ?_ ?_ ?_ ?_ ?_ ?_ ?_ ?_ ?_ ?_ ?_ ?_ ?_ ?_ ?_ ?_ ?_ ?_ ?_ ?_ ?_ ?_ ?_ ?_ ?_ ?_ ?_ ?_ ?_ ?_ ?_ ?_ ?_ ?_ ?_ ?_ ?_ ?_ ?_ ?_ ?_ ?_ ?_ ?_ ?_ ?_ ?_ ?_ ?_ ?_ ?_ ?_ ?_ ?_ ?_ ?_ ?_ ?_ ?_ ?_ ?_ ?_ ?_ ?_ ?_ ?_ ?_ ?_ ?_ ?_ ?_ ?_ ?_ ?_ ?_ ?_ ?_ ?_ ?_ ?_ ?_ ?_ ?_ ?_ ?_ ?_ ?_ ?_ ?_ ?_ ?_ ?_ ?_ ?_ ?_ ?_ ?_ ?_ ?_ ?_ ?_ ?_ ?_ ?_ ?_ ?_ ?_ ?_ ?_ ?_ ?_ ?_ ?_ ?_ ?_ ?_
  iterate 2 all_goals first|(show(_:Prop);first|exact⟨_,L2.jz (by k_is) (by k_is) (by k_is)⟩|exact L2.xrn (by kernel_rfl)|exact⟨by k_is,by k_is,by k_is⟩|exact⟨by k_is,by k_is,by k_is,by k_is⟩|exact⟨by kernel_rfl,by kernel_rfl,by kernel_rfl,by kernel_rfl,by kernel_rfl,by kernel_rfl⟩|exact⟨by kernel_rfl,by kernel_rfl,by kernel_rfl,by kernel_rfl,by kernel_rfl,by kernel_rfl,by kernel_rfl,by kernel_rfl⟩|k_is|(show _=_;k_is)|kernel_rfl)|skip
 case S=>exact fun K H a ns hl hS hT=>⟨a,ns,rfl,hS,hl,hT _ (.head _),hT _ (.tail _ (.head _)),hT _ (.tail _ (.tail _ (.head _))),hT _ (.tail _ (.tail _ (.tail _ (.head _)))),hT _ (.tail _ (.tail _ (.tail _ (.tail _ (.head _))))),hT _ (.tail _ (.tail _ (.tail _ (.tail _ (.tail _ (.head _)))))),hT _ (.tail _ (.tail _ (.tail _ (.tail _ (.tail _ (.tail _ (.head _))))))),hT _ (.tail _ (.tail _ (.tail _ (.tail _ (.tail _ (.tail _ (.tail _ (.head _)))))))),hT _ (.tail _ (.tail _ (.tail _ (.tail _ (.tail _ (.tail _ (.tail _ (.tail _ (.head _))))))))),fun _=>rfl⟩
 case C=>exact fun _ _ _ _ z=>z
#print axioms PySem.Challenge.cw_oneroom_k72_updates_gone_on_with_holds
