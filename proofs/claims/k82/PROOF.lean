import PyProof.Rows.All
import Wide.All
import OpenK.AllK
import Wide.FinOn
import Lean
import PyProof.EqAt
import PyProof.EqKinds
import PyProof.TupleCall
import PySem.Challenge.RW_oneroom_k82_lines_that_are_none
set_option Elab.async false
set_option linter.all false
set_option maxRecDepth 100000
set_option maxHeartbeats 4000000
open And renaming intro->bf
open Array renaming length_toList->bP,getElem?_eq_some_iff->cD,getElem?_setIfInBounds_ne->fi,size_append->gf,toArray_toList->iu,find?_toList->iR
open Bool renaming false_ne_true->aB,and_eq_true->bx,eq_iff_iff->cW,false_eq_true->c8,not_eq_true'->eO,and_false->fE,or_false->fY,or_eq_false_iff->ix,not_eq_false'->i5
open False renaming elim->aS
open ForInStep renaming yield->c7
open Int renaming toNat_of_nonneg->fB,toNat->i4
open List renaming length_map->ag,mem_cons->ah,mem_singleton->ao,mem_of_getElem?->aw,getElem?_map->az,size_toArray->aC,mem_cons_of_mem->aH,replicate->aK,getElem?_eq_some_iff->aR,length_cons->aU,not_mem_nil->aW,length_append->aZ,mem_append_left->a8,mem_cons_self->ba,mem_append_right->bb,all_eq_true->bh,take_succ->bj,take_length->bo,map_append->bt,length_take->bw,mem_map->bA,lookup_cons->bF,getElem?_eq_getElem->bG,map_cons->bI,mem_append->bL,getElem?_set_ne->bN,replicate_succ->bR,getElem?_append_left->b0,getElem?_set_self->cn,of_mem_zip->cw,getElem?_append_right->cz,any_cons->cC,forall_mem_cons->cJ,range->cT,append_nil->cY,find?_cons->c5,lookup->c9,flatten_cons->dh,map_map->dy,length_drop->dF,getElem_mem->dH,filterMap_cons->dP,length_pos_iff->dQ,nodup_cons->dU,getElem?_take_of_lt->eg,contains_cons->eC,append_assoc->eM,take_of_length_le->eU,length_singleton->fc,mem_iff_getElem?->ff,mem_filter->fj,length->fG,mem_of_find?_eq_some->gi,cons_append->gy,any_map->gG,getElem?_replicate->gH,length_eq_zero_iff->gJ,getElem?_cons_succ->gK,foldl_cons->gN,length_nil->gO,length_replicate->gY,getElem?_eq_none->hI,drop_zero->h9,mem_iff_getElem->il,mem_map_of_mem->iG,map_eq_nil_iff->iL,getElem?_range->iM,flatMap_append->iN,mem_filterMap->iQ,filterMap_map->iU,map_nil->iV,filter_append->iX,map_replicate->i3
open Nat renaming le_refl->aq,lt_of_lt_of_le->aA,ne_of_lt->aJ,le_trans->aO,zero_le->bu,lt_irrefl->bH,mul_le_mul_right->cf,le_succ->cM,le_of_ble_eq_true->dz,le_of_lt->d8,lt_of_le_of_lt->eh,ne_of_gt->fq,zero_add->gC,succ_ne_self->gE,succ_mul->iW
open Ne renaming symm->aL
open Option renaming map_eq_some_iff->aE,isSome_iff_exists->d9,map_some->fz,isSome_map->gc,getD_none->j4,bind_some->j5,map->j6
open Option.some renaming inj->aQ,injEq->i8
open Or renaming inl->aG,inr->g8
open Prod.mk renaming injEq->f7
open PyProof.Rows renaming callWith_type1->bV,slot_tuple_getitem->cP,envOfC->cZ,AllBare->eE,IntsAre->gZ,Constant_none->iy,subscriptTail->iC
open PySem renaming wpAny_bind->aa,Shared->ai,wpAny_pure->ak,sizeLine_eq->ar,FuncData->av,sizeLine->ax,starEach->aD,wpAny_mono->aN,Program->aX,mainGlobals->aY,Around->bc,compareOp->bg,bootBuiltins->bp,rawInt->bz,backTo->bB,wpAny_Call_Name_kw->bC,wpAny_holding->bD,wpAny_truthy_bool->bK,wpAny_field->bM,wpAny_newObj_type->bO,binaryOp->bQ,codeAny->bX,behindInMarks->bY,builtinsNs->b7,codeAny_mono->b9,wpAny_standAt->cg,NameKind->ck,sysModules->cm,codeAny_call_function->cx,wpAny_updateSeq->cy,wpAny_newFunctionEnv_cells->cA,wpAny_call->cF,call_meets->cH,wpAny_callSpecial?_slot->cQ,wpAny_execs_nil->cV,Arguments->c4,keywordEach->de,wpAny_pyIter_list->dg,wpAny_pyIter_enum->di,wpAny_loadPart_at->dm,wpAny_isTrue_Compare1->dn,wpAny_execs_cons->dC,bindArgs->dD,typeIs_str->dG,codeAny_call_builtin->dI,attributeBase->dJ,plainId_quiet->dM,sliceBounds->dN,excClassObj->dO,wpAny_passesOwn->dR,wpAny_loadPart'->dX,codeAmong->d7,holding->eF,wpAny_seqItems->eI,wpAny_setField->eJ,foldedSetIterable->eK,strIterType->eV,callWith->eW,backToKw->eX,wpAny_call_entry->eY,FuncBody->eZ,swapsWith->e9,getMethod->fb,plainObj_wpAny_Assign_Attribute->fh,assignEach->fm,letOwnedTupleGo->fw,wpAny_loadPart->fD,wpAny_letGo->fH,wpAny_of_eq->fJ,assign->fL,wpAny_pyIter_tuple->fM,cellsFrom->fO,tupleKind_room_in1->fP,PyData->fQ,wpAny_letOwnedTupleGo_enum->fZ,wpAny_assign_Name->f9,standAt->gk,Keyword->gn,getItem->gp,callerA->gr,Result->gs,codeAny_func->gv,noFill_tuple_add->gw,IsPart->gx,wpAny_comprehension_free->gz,IsEnum->gD,wpAny_pyNext_enum_itemD->gI,tupleKind->gL,TriplesOk->gM,updateSeq->gP,codeAny_builtin->gQ,seqItems?->gR,subscripted->gS,recursionLimit->gW,BindsTo->gX,valueAt->g6,wpAny_notIn_of->g7,wpAny_tryCatch->g9,Builtin->hV,typeLookup->ic,closureFor->ig,IsLongIter->ij,intItems->iq,isInstance->ir,strKind_is->iw,seq_tuple_add->iB,wpAny_attempt->iE,wpAny_toks_of->iF
open PySem.Around renaming frames_deeper->ib,under_plainId->ip,under->iS
open PySem.AutoSeq1 renaming wpAny_loadPart'->eB
open PySem.Builtin.Builtins renaming bindParams->fR
open PySem.Builtin.List renaming listTooLong->bS,listExtendWith->bW,listSameRef->gA,listItems->gU
open PySem.Builtin.ObjectAttr renaming storeInDict->fA
open PySem.Builtin.Range renaming rangeSize->a9,small->fC
open PySem.Builtin.Slice renaming slicePlaces->cG,sliceAdjust->dW,sliceApplied->fX
open PySem.Builtin.SmallTypes renaming nextOf->cI,fitsIndex->dw
open PySem.Builtin.Str renaming occurrences->bT,strKind->iK,subAt->i9
open PySem.Builtin.Tuple renaming tupleExact->cN
open PySem.Calls renaming Constant_str->cU,spliced_cons->fN,Name_function_global->fV,callWith_builtin->gT,evalArgs_plain->ie,spliced_nil->i7
open PySem.Code renaming quiet_builtin->fT,isFrame->iT
open PySem.EntryCells renaming newEntry->iH
open PySem.F renaming slot_tuple_iterator_next->cE,plain_max_loop->cO,args_tuple_iterator_next_1->fF,entry_tuple_iterator_next->fS,args_str_split_2->fU,entry_str_split->gd,slot_str_split->gF,entry_enumerate_new->hW,slot_enumerate_next->hZ
open PySem.Heap renaming get?_push_of_some->af,lt_size->au,get?_push_size->aI,get?_update_other->aV,get?_update_self->br,size_push->dq,get?_none_of_le->dB,SameBut->fk,get?_update_ne->iJ,ExtBut->j3
open PySem.Heap.Ns1 renaming of_empty->i6
open PySem.Heap.SameBut renaming update->iI
open PySem.NameKind renaming free->bE,cell->iD
open PySem.Obj renaming mapSeq->cb,mapFields->cR,data_mapFields->eo,isFreed_of_fields->fg
open PySem.PyData renaming strOk->bJ
open PySem.SeqAt renaming shaped->ek
open PySem.SeqAt.EqAt renaming int_str->iO,str_int->iP
open PySem.Str renaming ofString->aM,join->a5,length->cq,empty->cX
open PySem.StrLaws renaming join_split->iZ
open PySem.Value renaming ref->aF,none->a7,bool->cS,type->dA,str->dY,int->fK,float->j0
open PySem.W renaming kitOne->aj,Frag->ay,findIn->aT,kitCls->a6,nsIn->bq,keepIn->bU,fnOf->bZ,emptyDict->cK,kia_one->cL,codeIn->df,callWith_K->du,cellsFrom_some->dE,methodCall_KW->dS,instObj->dZ,hasDictIn->eQ,tabObj->e6,callWith_K0->fW,mroIn->gm,codeRec_of->gu,envX->gB,plainGet->ia,CodeHd->ik,plainGet_of->iz,looks_clsIn->iA,KeysLit->iY
open PySem.Walks renaming list->j7
open Sum renaming inl->cu,inr->gj
open True renaming intro->b8
namespace L2
open PySem PySem.Spec PyProof.Rows
variable {H H':Hp} {X:Cx} {s s':ai} {x m:Str} {σ:St} {pins:List (Addr×Obj)} {A:bc} {u:Value} {a C b dx f:Addr} {K:ay} {w:World} {h h' base:Heap} {E Q:Value->ai->Prop} {e tg:Expr} {o:HO} {P:aX} {us:List Value} {t' i:Nat} {v y:V} {ta te tb:TE} {es:List Expr} {ps N:List Str} {xs vs:List V} {M:Model} {op:CmpOp} {g:TG} {pl:Sem Bool} {t:TA} {CX:CXT} {α:Type} {ch fp:List Addr} {D:Ends} {mA mg:Str->Option Value} {kw:List (Str×Value)} {fd:av} {sp:Sp} {p:Pos}
def oG{R:Prop}(h:∀G:Prop,(R->G)->G):R:=h R id
abbrev Key:=Sum Int Str
def xc8:Key->Value->Bool
 | .inl k,v=>Value.isInt k v
 | .inr x,v=>Value.isStrOf x v
def xqF(w:World):Key->Int
 | .inl k=>hashInt k
 | .inr x=>hashStr w x
theorem yp:∀{k:Key} {v:Value},xc8 k v=true->(∃i t,k=cu i/\v=fK i t)\/(∃x t,k=gj x/\v=dY x t)
 | .inl i,v,h=>by
  obtain⟨t,e⟩:=Value.isInt_shape (k:=i) (v:=v) h;exact .inl ⟨i,t,rfl,e⟩
 | .inr x,v,h=>by
  obtain⟨t,e⟩:=Value.isStrOf_shape (x:=x) (v:=v) h;exact .inr ⟨x,t,rfl,e⟩
def xkE(i:Int)(t:Tok):xc8 (.inl i) (.int i t)=true:=by simp[xc8,Value.isInt]
def xkF(x:Str)(t:Tok):xc8 (.inr x) (.str x t)=true:=by simp[xc8,Value.isStrOf]
def xoF(a b:Int):decide ((cu a:Key)=cu b)=(a==b):=by
 by_cases e:a=b
 ·subst e;simp
 ·have h:¬(cu a:Key)=cu b:=fun q=>e (Sum.inl.inj q);rw[decide_eq_false h];exact(beq_eq_false_iff_ne.mpr e).symm
def xoG(a b:Str):decide ((gj a:Key)=gj b)=decide (a=b):=by
 by_cases e:a=b
 ·subst e;simp
 ·have h:¬(gj a:Key)=gj b:=fun q=>e (Sum.inr.inj q);rw[decide_eq_false h,decide_eq_false e]
def xoH(a:Int)(b:Str):decide ((cu a:Key)=gj b)=false:=decide_eq_false (fun q=>nomatch q)
def xoI(a:Str)(b:Int):decide ((gj a:Key)=cu b)=false:=decide_eq_false (fun q=>nomatch q)
def yF(prog:aX)(w:World):PySem.KeyKind prog w Key where
 is:=xc8
 hash:=xqF w
 inj:=fun v a b ha hb=>by
  rcases yp ha with⟨i,t,rfl,rfl⟩|⟨x,t,rfl,rfl⟩
  ·rcases yp hb with⟨j,u,rfl,e⟩|⟨y,u,rfl,e⟩
   ·injection e with e1 _;rw[e1]
   ·exact nomatch e
  ·rcases yp hb with⟨j,u,rfl,e⟩|⟨y,u,rfl,e⟩
   ·exact nomatch e
   ·injection e with e1 _;rw[e1]
 byValue:=fun k v h=>by
  rcases yp h with⟨i,t,rfl,rfl⟩|⟨x,t,rfl,rfl⟩<;> rfl
 pyHash:=fun hv h=>by
  rcases yp hv with⟨i,t,rfl,rfl⟩|⟨x,t,rfl,rfl⟩
  ·exact wpAny_pyHash_int h
  ·exact wpAny_pyHash_str h
 eqBool:=fun hu hv h=>by
  rcases yp hu with⟨i,t,rfl,rfl⟩|⟨x,t,rfl,rfl⟩
  ·rcases yp hv with⟨j,u,rfl,rfl⟩|⟨y,u,rfl,rfl⟩
   ·rw[xoF]at h;exact wpAny_eqBool_int h
   ·rw[xoH]at h;exact iO i t y u _ _ _ _ h
  ·rcases yp hv with⟨j,u,rfl,rfl⟩|⟨y,u,rfl,rfl⟩
   ·rw[xoI]at h;exact iP x t j u _ _ _ _ h
   ·rw[xoG]at h;exact wpAny_eqBool_str h
 «strs»:=fun k x t v h=>by
  rcases yp h with⟨i,u,rfl,e⟩|⟨y,u,rfl,e⟩
  ·exact nomatch e
  ·injection e with e1 _;subst e1;cases v<;> rfl
def xij(prog:aX)(w:World)(i:Int)(t:Tok):(yF prog w).is (.inl i) (.int i t)=true:=xkE i t
def xik(prog:aX)(w:World)(x:Str)(t:Tok):(yF prog w).is (.inr x) (.str x t)=true:=xkF x t
inductive V where
 |non|bl (b:Bool)|int (i:Int)|str (x:Str)|byt (b:Array UInt8)|flt (b:UInt64)|ref (a:Addr)|ty (n:String)
 deriving DecidableEq
def RelV:V->Value->Prop
 | .non,u=>u=a7
 | .bl b,u=>u=cS b
 | .int i,u=>∃t,u=fK i t
 | .str x,u=>∃t,u=dY x t
 | .byt b,u=>∃t,u=Value.bytes b t
 | .flt b,u=>∃t,u=j0 b t
 | .ref a,u=>u=aF a
 | .ty n,u=>u=dA n
def RelV.fn{x:V}(a:RelV x u)(b:RelV y u):x=y:=by
 cases x<;> simp only[RelV]at a<;> (first|subst a|(obtain⟨_,rfl⟩:=a))<;> cases y<;> simp only[RelV]at b<;> first|rfl|(cases b;done)|(cases b;rfl)|(obtain⟨_,b⟩:=b;cases b;done)|(obtain⟨_,b⟩:=b;cases b;rfl)
abbrev Vals:List V->List Value->Prop:=Paired RelV
def Vals.length(r:Vals xs us):xs.length=us.length:=Paired.length r
theorem Vals.get:∀{xs:List V} {us:List Value} {i:Nat} {x:V},Vals xs us->xs[i]? =some x->∃u,us[i]? =some u/\RelV x u
 |_,_,_,_,.nil,e=>by simp at e
 |_,_,0,_,.cons r _,e=>by simp at e;subst e;exact⟨_,rfl,r⟩
 |_,_,i+1,x,.cons _ t,e=>by
  obtain⟨u,h1,h2⟩:=Vals.get (i:=i) (x:=x) t (by simpa using e);exact⟨u,by simpa using h1,h2⟩
theorem Vals.set{x:V}{u:Value}(r:RelV x u):∀{xs:List V} {us:List Value} (i:Nat),Vals xs us->Vals (xs.set i x) (us.set i u)
 |_,_,_,.nil=>.nil
 |_,_,0,.cons _ t=>.cons r t
 |_,_,i+1,.cons q t=>.cons q (Vals.set r i t)
theorem Vals.append:∀{xs ys:List V} {us ws:List Value},Vals xs us->Vals ys ws->Vals (xs++ys) (us++ws)
 |_,_,_,_,.nil,s=>s
 |_,_,_,_,.cons r t,s=>.cons r (Vals.append t s)
theorem Vals.take:∀{xs:List V} {us:List Value} (n:Nat),Vals xs us->Vals (xs.take n) (us.take n)
 |_,_,0,_=>.nil
 |_,_,_+1,.nil=>.nil
 |_,_,n+1,.cons r t=>.cons r (Vals.take n t)
theorem Vals.drop:∀{xs:List V} {us:List Value} (n:Nat),Vals xs us->Vals (xs.drop n) (us.drop n)
 |_,_,0,r=>r
 |_,_,_+1,.nil=>.nil
 |_,_,n+1,.cons _ t=>Vals.drop n t
def uI:Option V->Option Value->Prop
 |some v,some u=>RelV v u
 |none,none=>True
 |_,_=>False
def KV{κ:Type}:List (κ×V)->List (κ×Value)->Prop:=Paired fun(p:κ×V) (q:κ×Value)=>p.1=q.1/\RelV p.2 q.2
def kV:Key->V
 | .inl i=>.int i
 | .inr x=>.str x
inductive HO where
 |lst (xs:List V)
 |tup (xs:List V)
 |dK (kvs:List (Key×V))|dT (kvs:List (List Key×V))
 |set (S:Int->Bool) (n:Nat)
 |ins (C dx:Addr) (fs:List (Str×V))
 |own (x:Addr)
 |xd (fs:List (Str×V))
 |met (f x:Addr)
 |rng (lo hi:Int)
 |frz (o:Obj) (u:HO)
 |tbl (qs:List (Pos×Str))
 |cel (v:Option V)
 |ext (φ:Heap->Prop)
abbrev Hp:=Addr->Option HO
def upd(H:Hp)(a:Addr)(o:HO):Hp:=fun b=>if b=a then some o else H b
def xl:upd H a o a=some o:=by unfold upd;rw[if_pos rfl]
def xm(h:b≠a):upd H a o b=H b:=by unfold upd;rw[if_neg h]
def zl{u:HO}:upd (upd H a o) a u=upd H a u:=by
 funext b;unfold upd;split<;> rfl
def zt{u:HO}(h:H a=some o)(h':H b=some u)(d:o≠u):a≠b:=by
 intro e;subst e;rw[h]at h';exact d (aQ h')
def xD(h:H a=some o)(h':H b=none):a≠b:=by
 intro e;subst e;rw[h]at h';cases h'
section
variable (P:aX) (w:World)
def xR(H:Hp)(h:Heap)(a:Addr):HO->Prop
 | .lst xs=>xs.length<=ax/\∃(its:List Value) (n:Nat),Vals xs its/\h.get? a=some {cls:=.type "list",data:=.seq its.toArray n}
 | .tup xs=>xs.length<=ax/\∃its:List Value,Vals xs its/\IsTup h a its.toArray
 | .dK kvs=>kvs.length<=ax/\(a==cm)=false/\∃vs,KV kvs vs/\h.DictOf (yF P w) a vs
 | .dT kvs=>kvs.length<=ax/\(a==cm)=false/\∃xs:List (List Key×Addr×Value),
   Paired (fun(p:List Key×V) (q:List Key×Addr×Value)=>p.1=q.1/\H q.2.1=some (.tup (p.1.map kV))/\RelV p.2 q.2.2) kvs xs/\
   ∃o es ep,h.get? a=some o/\o.ExactDict/\o.data= .dict es ep/\es.toList=xs.map (entryOfKey (gL (yF P w)))/\(xs.map (·.1)).Nodup
 | .set S n=>h.SetOf (intKind P w) a S n
 | .ins C dx fs=>H dx=some (.own a)/\fs.length<=1000/\dx≠a/\h.get? a=some (dZ C dx)/\
   ∃mA,h.Ns1 dx mA/\(∀f,uI (fs.lookup f) (mA f))/\PySem.Within mA (fs.map (·.1))
 | .own _=>∃o,h.get? a=some o
 | .xd fs=>∃mA,h.Ns1 a mA/\∀f,uI (fs.lookup f) (mA f)
 | .rng lo hi=>∃t u v,h.get? a=some {cls:=.type "range",data:=.fields #[.int lo t,.int hi u,.int 1 v]}
 | .frz o u=>h.get? a=some o/\xR H h a u
 | .tbl qs=>∃ps:Array Value,h.get? a=some {cls:=.none,data:=.fields ps}/\gM ps.toList/\∀pos q,(pos,q)∈qs->
   d7 pos ps.toList=none\/∃c o u vs t,d7 pos ps.toList=some (.ref c)/\H c=some (.frz o u)/\o.data= .fields vs/\vs[1]? =some (.str q t)
 | .cel v=>∃u,h.IsCell a u/\∀x,v=some x->∃y,u=some y/\RelV x y
 | .met f x=>h.get? a=some (W.methodObj (.ref f) (.ref x))
 | .ext φ=>φ h/\(∃o,h.get? a=some o)/\∀h1 h2:Heap,φ h1->(∀o,h1.get? a=some o->h2.get? a=some o)->φ h2
def HOk(H:Hp)(h:Heap):Prop:=∀a o,H a=some o->xR P w H h a o
end
def xoJ:HO->Prop
 | .tup _=>True
 | .frz _ _=>True
 |_=>False
def Fix:HO->Prop
 | .tup _=>True
 | .frz _ _=>True
 | .tbl _=>True
 | .cel _=>True
 |_=>False
theorem xR.lt(x:xR P w H h a o):a<h.objs.size:=by
 cases o with
 |lst xs=>obtain⟨_,_,_,_,e⟩:=x;exact au e
 |tup xs=>obtain⟨_,_,_,p⟩:=x;exact p.lt
 |dK kvs=>obtain⟨_,_,_,_,o,_,_,e,_⟩:=x;exact au e
 |dT kvs=>obtain⟨_,_,_,_,o,_,_,e,_⟩:=x;exact au e
 |set S n=>obtain⟨o,_,_,_,e,_⟩:=x;exact au e
 |ins C dx fs=>obtain⟨_,_,_,e,_⟩:=x;exact au e
 |own y=>obtain⟨_,e⟩:=x;exact au e
 |xd fs=>obtain⟨_,⟨_,_,_,e,_⟩,_⟩:=x;exact au e
 |rng lo hi=>obtain⟨_,_,_,e⟩:=x;exact au e
 |frz ob u=>obtain⟨e,_⟩:=x;exact au e
 |tbl qs=>obtain⟨_,e,_⟩:=x;exact au e
 |cel v=>obtain⟨_,⟨_,e,_⟩,_⟩:=x;exact au e
 |met f y=>exact au (show h.get? a=some _ from x)
 |ext φ=>obtain⟨_,⟨_,e⟩,_⟩:=x;exact au e
theorem Paired.mapP{α β:Type}{F G:α->β->Prop}:∀{l₁:List α} {l₂:List β},Paired F l₁ l₂->(∀a b,F a b->G a b)->Paired G l₁ l₂
 |_,_,.nil,_=>.nil
 |_,_,.cons r t,f=>.cons (f _ _ r) (Paired.mapP t f)
def Paired.imp'{β:Type}{F G:α->β->Prop}(f:∀a b,F a b->G a b){l₁:List α}{l₂:List β}(r:Paired F l₁ l₂):Paired G l₁ l₂:=Paired.mapP r f
theorem xR.stay(x:xR P w H h a o)(k:∀b u,(b=a\/H b=some (.own a))->h.get? b=some u->h'.get? b=some u)
  (ho:∀b,H b=some (.own a)->H' b=some (.own a)) (ht:∀b u,H b=some u->xoJ u->H' b=some u):xR P w H' h' a o:=by
 induction o with
 |lst xs=>obtain⟨z,its,n,r,e⟩:=x;exact⟨z,its,n,r,k _ _ (.inl rfl) e⟩
 |tup xs=>obtain⟨z,its,r,ob,e,c⟩:=x;exact⟨z,its,r,ob,k _ _ (.inl rfl) e,c⟩
 |dK kvs=>obtain⟨z,y,vs,r,ob,es,ep,e,c⟩:=x;exact⟨z,y,vs,r,ob,es,ep,k _ _ (.inl rfl) e,c⟩
 |dT kvs=>
  refine L2.oG fun gq kq=>?_;obtain⟨z,y,xs,r,ob,es,ep,e,c⟩:=x;refine kq ?_;exact⟨z,y,xs,Paired.mapP r fun p q z=>⟨z.1,ht _ _ z.2.1 trivial,z.2.2⟩,ob,es,ep,k _ _ (.inl rfl) e,c⟩
 |set S n=>obtain⟨ob,es,ep,t,e,c⟩:=x;exact⟨ob,es,ep,t,k _ _ (.inl rfl) e,c⟩
 |ins C dx fs=>
  refine L2.oG fun gq kq=>?_;obtain⟨d,z,ne,e,mA,⟨od,es,ep,e2,c⟩,r⟩:=x;refine kq ?_;exact⟨ho _ d,z,ne,k _ _ (.inl rfl) e,mA,⟨od,es,ep,k _ _ (.inr d) e2,c⟩,r⟩
 |own y=>obtain⟨ob,e⟩:=x;exact⟨ob,k _ _ (.inl rfl) e⟩
 |xd fs=>obtain⟨mA,⟨od,es,ep,e,c⟩,r⟩:=x;exact⟨mA,⟨od,es,ep,k _ _ (.inl rfl) e,c⟩,r⟩
 |rng lo hi=>obtain⟨t,u,v,e⟩:=x;exact⟨t,u,v,k _ _ (.inl rfl) e⟩
 |frz ob u ih=>obtain⟨e,q⟩:=x;exact⟨k _ _ (.inl rfl) e,ih q⟩
 |tbl qs=>
  refine L2.oG fun gq kq=>?_;obtain⟨ps,e,tr,r⟩:=x;refine kq ?_;refine⟨ps,k _ _ (.inl rfl) e,tr,fun pos q m=>?_⟩;rcases r pos q m with z|⟨c,ob,u,vs,t,z1,z2,z3⟩
  ·exact .inl z
  ·exact .inr ⟨c,ob,u,vs,t,z1,ht _ _ z2 trivial,z3⟩
 |cel v=>obtain⟨u,⟨ob,e,d⟩,r⟩:=x;exact⟨u,⟨ob,k _ _ (.inl rfl) e,d⟩,r⟩
 |met f y=>
  have e:h.get? a=some (W.methodObj (.ref f) (.ref y)):=x;show h'.get? a=some (W.methodObj (.ref f) (.ref y));exact k a _ (.inl rfl) e
 |ext φ=>obtain⟨p,⟨o,e⟩,st⟩:=x;exact⟨st _ _ p fun o q=>k _ _ (.inl rfl) q,⟨o,k _ _ (.inl rfl) e⟩,st⟩
def HOk.lt(x:HOk P w H h)(e:H a=some o):a<h.objs.size:=(x a o e).lt
theorem HOk.fresh(x:HOk P w H h)(e:h.objs.size<=a):H a=none:=by
 cases q:H a with
 |none=>rfl
 |some u=>exact absurd (aA (x.lt q) e) (bH _)
def HOk.kept(x:HOk P w H h)(k:∀b u,h.get? b=some u->h'.get? b=some u):HOk P w H h':=fun a o e=>
 (x a o e).stay (fun b u _ q=>k b u q) (fun _ q=>q) fun _ _ q _=>q
def HOk.laid(x:HOk P w H h)(k:∀b u,h.get? b=some u->h'.get? b=some u)(hp:h.objs.size<=a)(new:xR P w (upd H a o) h' a o):HOk P w (upd H a o) h':=fun b u e=>by
 have hn:=x.fresh hp
 by_cases hb:b=a
 ·subst hb;rw[xl]at e;cases e;exact new
 ·rw[xm hb]at e;exact(x b u e).stay (fun c v _ q=>k c v q) (fun c q=>by rw[xm (xD q hn)];exact q) fun c xs q _=>by rw[xm (xD q hn)];exact q
def Rd(H:Hp)(a:Addr)(u:HO):Prop:=H a=some u\/∃o,H a=some (.frz o u)
def Rd.ok{u:HO}(r:Rd H a u)(x:HOk P w H h):xR P w H h a u:=by
 rcases r with r|⟨o,r⟩
 ·exact x a u r
 ·obtain⟨_,q⟩:=x a _ r;exact q
def Mut:Option HO->Prop
 |some (.lst _)=>True
 |some (.dK _)=>True
 |some (.dT _)=>True
 |some (.set _ _)=>True
 |some (.ins _ _ _)=>True
 |some (.ext _)=>True
 |_=>False
section
variable {x e:Addr} {o':HO}
def HOk.write(ok:HOk P w H h)(mu:Mut (H x))(he:e=x\/H e=some (.own x))(k:∀b u,b≠e->h.get? b=some u->h'.get? b=some u)(kb:∃u,h'.get? e=some u)
  (new:xR P w (upd H x o') h' x o'):HOk P w (upd H x o') h':=fun b u q=>by
 have j8:∀c y,H c=some (.own y)->c≠x:=fun c y r z=>by subst z;rw[r]at mu;exact mu
 have ka:∀c u,H c=some u->xoJ u->c≠x:=fun c u r hf z=>by
  subst z;rw[r]at mu;cases u<;> first|exact mu|exact hf
 by_cases hb:b=x
 ·subst hb;rw[xl]at q;cases q;exact new
 ·rw[xm hb]at q
  by_cases j9:b=e
  ·have q':H b=some (.own x):=by
    rcases he with z|z
    ·exact absurd (j9.trans z) hb
    ·rw[j9];exact z
   rw[q]at q';cases q';obtain⟨v,hv⟩:=kb;exact⟨v,by rw[j9];exact hv⟩
  ·refine(ok b u q).stay (fun c v hc r=>k c v ?_ r) (fun c r=>by rw[xm (j8 c b r)];exact r) fun c xs r hf=>by rw[xm (ka c xs r hf)];exact r
   rcases hc with rfl|hc
   ·exact j9
   ·rintro rfl;rcases he with z|z
    ·exact j8 c b hc z
    ·rw[hc]at z;cases z;exact hb rfl
end
structure Un(fs ex:List Addr)(H H':Hp)(h h':Heap):Prop where
 keep:∀b o,h.get? b=some o->H b=none->b∉fs->b∉ex->h'.get? b=some o
 slot:∀b o,h.get? b=some o->H b=none->b∈fs->b∉ex->∃sl,h'.get? b=some {o with slots:=sl}
 free:∀b o,h.get? b=some o->H b=none->b∉ex->H' b=none
 there:∀b o,h.get? b=some o->b∉ex->∃o',h'.get? b=some o'
 fix:∀b u,H b=some u->Fix u->H' b=some u
section
variable {fs fs' ex ex':List Addr} {H1 H2:Hp} {h1 h2:Heap} {x e:Addr}
def Un.any(u:Un fs ex H H1 h h1){ob:Obj}(q:h.get? b=some ob)(n:H b=none)(hx:b∉ex):∃sl,h1.get? b=some {ob with slots:=sl}:=by
 by_cases hb:b∈fs
 ·exact u.slot b ob q n hb hx
 ·exact⟨ob.slots,u.keep b ob q n hb hx⟩
def Un.kept(k:∀b u,h.get? b=some u->h'.get? b=some u):Un fs ex H H h h':=
 ⟨fun b ob q _ _ _=>k b ob q,fun b ob q _ _ _=>⟨ob.slots,k b ob q⟩,fun _ _ _ n _=>n,fun b ob q _=>⟨ob,k b ob q⟩,fun _ _ q _=>q⟩
def Un.refl:Un fs ex H H h h:=Un.kept fun _ _ q=>q
def Un.laid(k:∀b u,h.get? b=some u->h'.get? b=some u)(hp:h.objs.size<=a)(hn:H a=none):Un fs ex H (upd H a o) h h' where
 keep:=fun b u q _ _ _=>k b u q
 slot:=fun b u q _ _ _=>⟨u.slots,k b u q⟩
 free:=fun b u q n _=>by rw[xm (aJ (aA (au q) hp))];exact n
 there:=fun b u q _=>⟨u,k b u q⟩
 fix:=fun b u q _=>by rw[xm (xD q hn)];exact q
def Un.write(mu:Mut (H x))(he:e=x\/H e=some (.own x))(k:∀b u,b≠e->h.get? b=some u->h'.get? b=some u)(j9:∃u,h'.get? e=some u):Un fs ex H (upd H x o) h h':=by
 have hx:∀b,H b=none->b≠x:=fun b n z=>by subst z;rw[n]at mu;exact mu
 have hb:∀b,H b=none->b≠e:=fun b n z=>by
  subst z;rcases he with r|r
  ·exact hx b n r
  ·rw[n]at r;cases r
 have hm:∀b u,H b=some u->¬Mut (some u)->b≠x:=fun b u q nm z=>by subst z;rw[q]at mu;exact nm mu
 refine⟨fun b u q n _ _=>k b u (hb b n) q,fun b u q n _ _=>⟨u.slots,k b u (hb b n) q⟩,fun b u q n _=>by rw[xm (hx b n)];exact n,fun b u q _=>?_,
  fun b u q hf=>by rw[xm (hm b _ q fun z=>by cases u<;> first|exact z|exact hf)];exact q⟩
 by_cases j8:b=e
 ·subst j8;exact j9
 ·exact⟨u,k b u j8 q⟩
end
def trk(h:Heap)(H:Hp):List Addr:=(cT h.objs.size).filter fun a=>(H a).isSome
def xby(h:Heap)(H:Hp):Heap:=W.hideAll h (trk h H)
def xkG(h:Heap)(H:Hp):(xby h H).objs.size=h.objs.size:=W.hideAll_size _ _
def xl3{o:Obj}(e:h.get? b=some o)(n:H b=none):(xby h H).get? b=some o:=
 W.hideAll_get _ e fun hm=>by
  have q:(H b).isSome=true:=(fj.mp hm).2;rw[n]at q;simp at q
theorem xns{o:Obj}(e:(xby h H).get? b=some o):h.get? b=some o/\H b=none:=by
 have e':h.get? b=some o:=W.of_hideAll (trk h H) e;refine⟨e',?_⟩;cases q:H b with
 |none=>rfl
 |some x=>
  have hm:b∈trk h H:=fj.mpr ⟨List.mem_range.mpr (au e'),by simp[q]⟩;have z:(xby h H).get? b=none:=W.hideAll_none (trk h H) hm;rw[z]at e;cases e
structure Mod(K:ay)(mg:Str->Option Value)(base:Heap):Prop where
 kin:K.In base
 glob:base.Ns aY mg
 blt:∃mb,base.Ns b7 mb/\∀x:Str,x≠"__name__"->mb x=bp x
 nolimit:base.NoLimit
 bm:∃b o,mg "__builtins__"=some (.ref b)/\b≠b7/\base.get? b=some o/\o.cls= .type "module"/\o.dict=some b7/\o.data= .plain
structure Cx where
 prog:aX
 w:World
 K:ay
 mg:Str->Option Value
 base:Heap
 A:bc
 N:List Str
 s₀:ai
 H₀:Hp
 env:Env
 outer:List Env
 stack:List Env
 ex:List Addr
 fn:Str->Bool
 calm:Bool
 pn:List (Addr×Obj)
 xe:Value->ai->Prop
 cp:Str->Bool
def frs(l:List Env):List Addr:=l.filterMap (·.frame)
abbrev Cx.fs(X:Cx):List Addr:=frs X.outer
def Vis(sc:Scope)(x:Str):Prop:=sc.names.lookup x=some .local\/sc.names.lookup x=some .cell\/sc.names.lookup x=some .free
def Loc(sc:Scope)(x:Str):Prop:=sc.names.lookup x=some .local\/sc.names.lookup x=some .cell
def Look(env:Env)(h:Heap)(m:Str->Option Value)(x:Str)(u:Value):Prop:=
 (env.kindOf x=some .local/\m x=some u)\/((env.kindOf x=some .cell\/env.kindOf x=some .free)/\∃c,env.cells.lookup x=some c/\h.IsCell c (some u))
structure Cx.Ok(X:Cx):Prop where
 mod:Mod X.K X.mg X.base
 kind:X.env.scope.kind= .function
 glob:X.env.globals=aY
 blt:X.env.builtins=b7
 above:X.s₀.heap.objs.size<=X.env.locals
 inj:∀x y c,X.env.cells.lookup x=some c->X.env.cells.lookup y=some c->x=y
 has:∀x,(X.env.kindOf x=some .cell\/X.env.kindOf x=some .free)->∃c,X.env.cells.lookup x=some c
 cab:∀x c,X.fn x=true->X.env.cells.lookup x=some c->X.s₀.heap.objs.size<=c
 hd:X.calm=true->X.A.handled=none
 frames:X.A.frames=some X.stack
 stk:X.stack=X.outer\/(X.stack=X.env::X.outer/\X.env.frame=some X.env.locals)
 exf:∀b∈X.ex,b≠X.env.locals/\∀x c,X.env.cells.lookup x=some c->c≠b
 bs:∀b o,X.base.get? b=some o->X.s₀.heap.get? b=some o/\X.H₀ b=none
 bsz:X.base.objs.size<=X.s₀.heap.objs.size
 noex:∀b o,X.base.get? b=some o->b∉X.ex
 exfs:∀b∈X.ex,b∉X.fs
 funs:X.s₀.heap.FunFrames X.base X.outer
 frf:∀b∈X.fs,X.H₀ b=none
 cab2:∀x c,X.cp x=true->X.env.cells.lookup x=some c->X.s₀.heap.objs.size<=c
 hz:∀b,X.s₀.heap.objs.size<=b->X.H₀ b=none
structure Inv(X:Cx)(pins:List (Addr×Obj))(σ:List (Option V))(H:Hp)(s:ai):Prop where
 ok:X.Ok
 os:s.os=X.s₀.os
 bare:eE s.gens
 base:Un X.fs X.ex X.H₀ H X.s₀.heap s.heap
 loc:∃m,s.heap.Ns X.env.locals m/\∀(i:Nat) (x:Str) (v:V),X.N[i]? =some x->σ[i]? =some (some v)->Vis X.env.scope x->∃u,RelV v u/\Look X.env s.heap m x u
 cell:∀x c,X.env.cells.lookup x=some c->∃v,s.heap.IsCell c v
 free:H X.env.locals=none
 freeC:∀x c,X.env.cells.lookup x=some c->H c=none\/(X.fn x=false/\∃o,H c=some (.cel o)/\(o=none->∀(i:Nat) v,X.N[i]? =some x->(X.env.kindOf x=some .cell\/X.env.kindOf x=some .free)->σ[i]?≠some (some v)))
 pin:∀p∈X.pn++pins,s.heap.get? p.1=some p.2/\H p.1=none/\p.1≠X.env.locals/\p.1∉X.fs/\∀v,p.2.data≠.cell v
 hok:HOk X.prog X.w H s.heap
 len:σ.length=X.N.length
section
variable {σ:List (Option V)}
def Cx.Ok.nofr(ok:X.Ok){o:Obj}(e:X.base.get? b=some o):b∉X.fs:=fun hb=>by
 have:=(ok.funs.mem hb).1;rw[e]at this;cases this
def Inv.bs(I:Inv X pins σ H s):∀b o,X.base.get? b=some o->s.heap.get? b=some o/\H b=none:=fun b o e=>
 ⟨I.base.keep b o (I.ok.bs b o e).1 (I.ok.bs b o e).2 (I.ok.nofr e) (I.ok.noex b o e),I.base.free b o (I.ok.bs b o e).1 (I.ok.bs b o e).2 (I.ok.noex b o e)⟩
def Inv.bk(I:Inv X pins σ H s):∀b o,X.base.get? b=some o->s.heap.get? b=some o:=fun b o e=>(I.bs b o e).1
def Inv.mod(I:Inv X pins σ H s):Mod X.K X.mg X.base:=I.ok.mod
def Inv.kIn(I:Inv X pins σ H s):X.K.In s.heap:=I.ok.mod.kin.keeps I.bk
def Inv.lt(I:Inv X pins σ H s):X.env.locals<s.heap.objs.size:=let⟨_,hn,_⟩:=I.loc;hn.lt
def Inv.sz(I:Inv X pins σ H s):X.s₀.heap.objs.size<=s.heap.objs.size:=aO I.ok.above (d8 I.lt)
def Inv.nofs(I:Inv X pins σ H s)(h:s.heap.objs.size<=a):a∉X.fs:=fun hb=>by
 obtain⟨_,o,ho,_⟩:=I.ok.funs.mem hb;exact absurd (aA (au ho) (aO I.sz h)) (bH _)
def Inv.cne(I:Inv X pins σ H s):∀x c,X.env.cells.lookup x=some c->c≠X.env.locals:=fun x c e z=>by
 obtain⟨v,o,ho,hd⟩:=I.cell x c e;obtain⟨m,⟨o',es,ep,j8,j9,_⟩,_⟩:=I.loc;rw[z,j8]at ho;cases ho;rw[j9]at hd;cases hd
theorem Inv.funs(I:Inv X pins σ H s):s.heap.FunFrames X.base X.outer:=by
 have all:∀(l:List Env),(∀b∈frs l,b∈X.fs)->X.s₀.heap.FunFrames X.base l->s.heap.FunFrames X.base l:=by
  intro l
  induction l with
  |nil=>intro _ _;trivial
  |cons env r ih=>
   intro hs hl;obtain⟨hk,⟨L,o,hf,hn,ho,hd⟩,hr⟩:=hl;have hL:L∈X.fs:=hs L (by unfold frs;rw[dP,hf];exact ba);obtain⟨sl,e⟩:=I.base.slot L o ho (I.ok.frf L hL) hL fun z=>I.ok.exfs L z hL;exact⟨hk,⟨L,_,hf,hn,e,hd⟩,ih (fun b hb=>hs b (by unfold frs;rw[dP,hf];exact aH _ hb)) hr⟩
 exact all X.outer (fun _ hb=>hb) I.ok.funs
def Inv.stack(I:Inv X pins σ H s):s.heap.FunFrames X.base X.stack:=by
 rcases I.ok.stk with e|⟨e,hf⟩
 ·rw[e];exact I.funs
 ·rw[e];obtain⟨m,hn,_⟩:=I.loc;refine .cons (by rw[I.ok.kind];decide) hf hn ?_ I.funs;exact dB (aO I.ok.bsz I.ok.above)
def Inv.stkSub(I:Inv X pins σ H s):∀b∈frs X.stack,b∈X.env.locals::X.fs:=fun b hb=>by
 rcases I.ok.stk with e|⟨e,hf⟩
 ·rw[e]at hb;exact aH _ hb
 ·rw[e]at hb;unfold frs at hb;rw[dP,hf]at hb;exact hb
def Inv.stkFree(I:Inv X pins σ H s):∀b∈frs X.stack,H b=none:=fun b hb=>by
 rcases ah.mp (I.stkSub b hb)with e|hb
 ·rw[e];exact I.free
 ·obtain⟨_,o,ho,_⟩:=I.ok.funs.mem hb;exact I.base.free b o ho (I.ok.frf b hb) fun z=>I.ok.exfs b z hb
theorem Inv.step{g':Array GenState}{d':Drawn}(I:Inv X pins σ H s)
  (ka:∀b∈ch,(b∈X.ex\/X.s₀.heap.objs.size<=b)/\b≠X.env.locals/\(∀x c,X.env.cells.lookup x=some c->c≠b)/\∀p∈X.pn++pins,p.1≠b)
  (keep:∀b o,b≠X.env.locals->b∉X.fs->b∉ch->s.heap.get? b=some o->H b=none->h'.get? b=some o)
  (slot:∀b o,b≠X.env.locals->b∈X.fs->b∉ch->s.heap.get? b=some o->H b=none->∃sl,h'.get? b=some {o with slots:=sl}) (free:∀b o,b∉ch->s.heap.get? b=some o->H b=none->H' b=none)
  (there:∀b o,b∉ch->s.heap.get? b=some o->∃o',h'.get? b=some o')
  (fix:∀b u,H b=some u->Fix u->H' b=some u)
  (ns:∀m,s.heap.Ns X.env.locals m->h'.Ns X.env.locals m) (hok:HOk X.prog X.w H' h') (hg:eE g'):
  Inv X pins σ H' {s with heap:=h',gens:=g',drawn:=d',toks:=t'}:=by
 have ke:∀b o,X.s₀.heap.get? b=some o->b≠X.env.locals:=fun b o e=>aJ (aA (au e) I.ok.above);have kb:∀b o,X.s₀.heap.get? b=some o->b∉X.ex->b∉ch:=fun b o e hx hb=>by
  rcases(ka b hb).1 with z|z
  ·exact hx z
  ·exact absurd (aA (au e) z) (bH _)
 have cellK:∀x c,X.env.cells.lookup x=some c->H c=none->∀v,s.heap.IsCell c v->h'.IsCell c v:=fun x c e hn v ⟨o,ho,hd⟩=>by
  have j8:c∉ch:=fun z=>(ka c z).2.2.1 x c e rfl
  by_cases hc:c∈X.fs
  ·obtain⟨sl,q⟩:=slot c o (I.cne x c e) hc j8 ho hn;exact⟨_,q,hd⟩
  ·exact⟨o,keep c o (I.cne x c e) hc j8 ho hn,hd⟩
 refine⟨I.ok,I.os,hg,⟨fun b o e n hb hx=>?_,fun b o e n hb hx=>?_,fun b o e n hx=>?_,fun b o e hx=>?_,fun b u e f=>fix b u (I.base.fix b u e f) f⟩,?_,fun x c e=>?_,?_,fun x c e=>?_,fun p hp=>?_,hok,I.len⟩
 ·exact keep b o (ke b o e) hb (kb b o e hx) (I.base.keep b o e n hb hx) (I.base.free b o e n hx)
 ·obtain⟨sl,e1⟩:=I.base.slot b o e n hb hx;obtain⟨kf,e2⟩:=slot b _ (ke b o e) hb (kb b o e hx) e1 (I.base.free b o e n hx);exact⟨kf,e2⟩
 ·obtain⟨o',e1⟩:=I.base.there b o e hx;exact free b o' (kb b o e hx) e1 (I.base.free b o e n hx)
 ·obtain⟨o',e1⟩:=I.base.there b o e hx;exact there b o' (kb b o e hx) e1
 ·obtain⟨m,hn,hl⟩:=I.loc;refine⟨m,ns m hn,fun i x v e1 e2 e3=>?_⟩;obtain⟨u,r,l⟩:=hl i x v e1 e2 e3;rcases l with l|⟨k,c,e,z⟩
  ·exact⟨u,r,.inl l⟩
  ·rcases I.freeC x c e with j9|⟨_,o,ho,kd⟩
   ·exact⟨u,r,.inr ⟨k,c,e,cellK x c e j9 _ z⟩⟩
   ·cases o with
    |none=>exact absurd e2 (kd rfl i v e1 k)
    |some v'=>
     obtain⟨y,hy,hr⟩:=I.hok c _ ho;obtain⟨y',kc,kg⟩:=hok c _ (fix c _ ho trivial);obtain⟨y2,rfl,r2⟩:=hr v' rfl;obtain⟨y3,rfl,r3⟩:=kg v' rfl;have:v=v':=RelV.fn r (by
      obtain⟨o1,q1,q2⟩:=z;obtain⟨o2,q3,q4⟩:=hy;rw[q1]at q3;cases q3;rw[q2]at q4;cases q4;exact r2)
     subst this;exact⟨y3,r3,.inr ⟨k,c,e,kc⟩⟩
 ·rcases I.freeC x c e with j9|⟨_,o,ho,_⟩
  ·obtain⟨v,z⟩:=I.cell x c e;exact⟨v,cellK x c e j9 v z⟩
  ·obtain⟨y',kc,_⟩:=hok c _ (fix c _ ho trivial);exact⟨y',kc⟩
 ·obtain⟨m,⟨o,_,_,ho,_⟩,_⟩:=I.loc;exact free _ o (fun z=>(ka _ z).2.1 rfl) ho I.free
 ·rcases I.freeC x c e with j9|⟨hf,o,ho,kd⟩
  ·obtain⟨v,o,ho,hd⟩:=I.cell x c e;exact .inl (free c o (fun z=>(ka c z).2.2.1 x c e rfl) ho j9)
  ·exact .inr ⟨hf,o,fix c _ ho trivial,kd⟩
 ·obtain⟨e,n,ne,nf,d⟩:=I.pin p hp;have j8:p.1∉ch:=fun z=>(ka p.1 z).2.2.2 p hp rfl;exact⟨keep p.1 p.2 ne nf j8 e n,free p.1 p.2 j8 e n,ne,nf,d⟩
def Inv.un(I:Inv X pins σ H s)(u:Un X.fs [] H H' s.heap h')(hok:HOk X.prog X.w H' h'):Inv X pins σ H' {s with heap:=h',toks:=t'}:=by
 obtain⟨m,⟨o,es,ep,ho,r⟩,_⟩:=id I.loc;obtain⟨sl,hL⟩:=u.any ho I.free (by simp);exact I.step (g':=s.gens) (d':=s.drawn) (ch:=[]) (fun _ z=>nomatch z) (fun b o _ hb _ e n=>u.keep b o e n hb (by simp)) (fun b o _ hb _ e n=>u.slot b o e n hb (by simp)) (fun b o _ e n=>u.free b o e n (by simp)) (fun b o _ e=>u.there b o e (by simp)) u.fix (fun m' hm=>by
  obtain⟨o',j9,ka,j8,r'⟩:=hm;rw[ho]at j8;cases j8;exact⟨_,j9,ka,hL,r'⟩) hok I.bare
def Inv.call{g':Array GenState}{d':Drawn}(I:Inv X pins σ H s)(u:Un (frs X.stack) ch H H' s.heap h')(hok:HOk X.prog X.w H' h')(hg:eE g')
  (j9:∀b∈ch,(b∈X.ex\/X.s₀.heap.objs.size<=b)/\b≠X.env.locals/\(∀x c,X.env.cells.lookup x=some c->c≠b)/\∀p∈X.pn++pins,p.1≠b):
  Inv X pins σ H' {s with heap:=h',gens:=g',drawn:=d',toks:=t'}:=by
 obtain⟨m,⟨o,es,ep,ho,r⟩,_⟩:=id I.loc;obtain⟨sl,hL⟩:=u.any ho I.free fun z=>(j9 _ z).2.1 rfl;exact I.step (ch:=ch) j9 (fun b o hL hb hc e n=>u.keep b o e n (fun z=>(ah.mp (I.stkSub b z)).elim hL hb) hc) (fun b o _ _ hc e n=>u.any e n hc) (fun b o hc e n=>u.free b o e n hc) (fun b o hc e=>u.there b o e hc) u.fix (fun m' hm=>by
  obtain⟨o',ka,kb,j8,r'⟩:=hm;rw[ho]at j8;cases j8;exact⟨_,ka,kb,hL,r'⟩) hok hg
def Inv.turned{it:Addr}(I:Inv X pins σ H s)(k:∀b o,b≠it->s.heap.get? b=some o->h'.get? b=some o)(hn:H it=none)(hL:it≠X.env.locals)
  (h1:it∈X.ex\/X.s₀.heap.objs.size<=it) (h2:∀x c,X.env.cells.lookup x=some c->c≠it) (h3:∀p∈X.pn++pins,p.1≠it):Inv X pins σ H {s with heap:=h',toks:=t'}:=by
 have j8:∀b u,H b=some u->b≠it:=fun b u e z=>by rw[z,hn]at e;cases e
 refine I.step (g':=s.gens) (d':=s.drawn) (ch:=[it]) (fun b hb=>?_) (fun b o _ _ hc e _=>k b o (fun z=>hc (by simp[z])) e) (fun b o _ _ hc e _=>⟨o.slots,k b o (fun z=>hc (by simp[z])) e⟩) (fun _ _ _ _ n=>n)
  (fun b o hc e=>⟨o,k b o (fun z=>hc (by simp[z])) e⟩) (fun _ _ e _=>e) (fun m hm=>?_) (fun b u e=>?_) I.bare
 ·have e:b=it:=by simpa using hb
  subst e;exact⟨h1,hL,h2,h3⟩
 ·obtain⟨o,es,ep,ho,r⟩:=hm;exact⟨o,es,ep,k _ o (aL hL) ho,r⟩
 ·refine(I.hok b u e).stay (fun c v hc q=>k c v ?_ q) (fun _ q=>q) fun _ _ q _=>q;rcases hc with z|z
  ·rw[z];exact j8 b u e
  ·exact j8 c _ z
def Inv.tok(I:Inv X pins σ H s)(t:Nat):Inv X pins σ H {s with toks:=t}:=I.un (h':=s.heap) (t':=t) Un.refl I.hok
def Inv.kept(I:Inv X pins σ H s)(k:∀b u,s.heap.get? b=some u->h'.get? b=some u):Inv X pins σ H {s with heap:=h',toks:=t'}:=I.un (Un.kept k) (I.hok.kept k)
def Inv.laid(I:Inv X pins σ H s)(k:∀b u,s.heap.get? b=some u->h'.get? b=some u)(hp:s.heap.objs.size<=a)(new:xR X.prog X.w (upd H a o) h' a o):
  Inv X pins σ (upd H a o) {s with heap:=h',toks:=t'}:=I.un (Un.laid k hp (I.hok.fresh hp)) (I.hok.laid k hp new)
def Inv.write{x e:Addr}(I:Inv X pins σ H s)(mu:Mut (H x))(he:e=x\/H e=some (.own x))(k:∀b u,b≠e->s.heap.get? b=some u->h'.get? b=some u)(j8:∃u,h'.get? e=some u)
  (new:xR X.prog X.w (upd H x o) h' x o):Inv X pins σ (upd H x o) {s with heap:=h',toks:=t'}:=I.un (Un.write mu he k j8) (I.hok.write mu he k j8 new)
def Inv.weak{σ':List (Option V)}(I:Inv X pins σ H s)(hl:σ'.length=σ.length)(w:∀(i:Nat) v,σ'[i]? =some (some v)->σ[i]? =some (some v)):Inv X pins σ' H s:=
 ⟨I.ok,I.os,I.bare,I.base,let⟨m,hn,j9⟩:=I.loc;⟨m,hn,fun i x v e1 e2 e3=>j9 i x v e1 (w i v e2) e3⟩,I.cell,I.free,fun x c e=>(I.freeC x c e).imp id fun⟨hf,o,ho,j8⟩=>⟨hf,o,ho,fun z i v e1 k e2=>j8 z i v e1 k (w i v e2)⟩,I.pin,I.hok,hl.trans I.len⟩
def Inv.pins_of{j8:List (Addr×Obj)}(I:Inv X pins σ H s)(h:∀p∈j8,s.heap.get? p.1=some p.2/\H p.1=none/\p.1≠X.env.locals/\p.1∉X.fs/\∀v,p.2.data≠.cell v):Inv X j8 σ H s:=
 ⟨I.ok,I.os,I.bare,I.base,I.loc,I.cell,I.free,I.freeC,fun p hp=>(bL.mp hp).elim (fun z=>I.pin p (a8 _ z)) (h p),I.hok,I.len⟩
def jL(hN:N.Nodup){j:Nat}(a:N[i]? =some x)(b:N[j]? =some x):i=j:=by
 obtain⟨h1,e1⟩:=aR.mp a;obtain⟨h2,e2⟩:=aR.mp b;exact(List.getElem_inj hN).mp (e1.trans e2.symm)
def xfN{Q:Unit->ai->Prop}(I:Inv X pins σ H s)(hN:X.N.Nodup)(hi:X.N[i]? =some x)(hx:Loc X.env.scope x)(r:RelV v u)
  (h:∀s',Inv X pins (σ.set i (some v)) H s'->(∃a,fk a s.heap s'.heap/\(a=X.env.locals\/X.env.cells.lookup x=some a))->Q () s') (hf:X.fn x=true\/X.env.scope.names.lookup x=some .local:=by first|exact .inl rfl|exact .inr rfl|assumption):wpAny M A (storeName X.env x u) Q E s:=by
 refine L2.oG fun gq kq=>?_;obtain⟨m,hn,hl⟩:=id I.loc;refine kq ?_;have kf:(X.env.scope.kind== .class||(X.env.scope.kind== .module&&X.env.locals != X.env.globals))=false:=by rw[I.ok.kind];rfl
 have j9:i<σ.length:=by rw[I.len];exact(aR.mp hi).1
 have cne:=I.cne;have tracked:∀{a:Addr} {h':Heap},(∃o,s.heap.get? a=some o/\H a=none)->fk a s.heap h'->HOk X.prog X.w H h':=fun{a h'} ha hs b ob e=>by
  refine L2.oG fun gq kq=>?_;obtain⟨_,_,j8⟩:=ha;refine kq ?_;refine(I.hok b ob e).stay (fun c w' hc q=>(hs.2 c ?_).trans q) (fun _ q=>q) fun _ _ q _=>q;rintro rfl;rcases hc with rfl|hc
  ·rw[j8]at e;cases e
  ·rw[j8]at hc;cases hc
 rcases hx with hk|hk
 ·refine wpAny_storeName_local hk hn (fun h' km hs=>?_) kf;refine L2.oG fun gq kq=>?_;obtain⟨oL,_,_,kj,_⟩:=id hn;refine kq ?_;refine h _ ⟨I.ok,I.os,I.bare,⟨fun b o e n hb hx=>?_,fun b o e n hb hx=>?_,I.base.free,fun b o e hx=>?_,I.base.fix⟩,⟨_,km,fun j y v' e1 e2 e3=>?_⟩,fun y c e=>?_,I.free,fun y c e=>?_,fun p hp=>?_,tracked ⟨oL,kj,I.free⟩ hs,by simpa using I.len⟩ ⟨_,hs,.inl rfl⟩
  ·exact(hs.2 b (aJ (aA (au e) I.ok.above))).trans (I.base.keep b o e n hb hx)
  ·obtain⟨sl,e1⟩:=I.base.slot b o e n hb hx;exact⟨sl,(hs.2 b (aJ (aA (au e) I.ok.above))).trans e1⟩
  ·obtain⟨o',e1⟩:=I.base.there b o e hx;exact⟨o',(hs.2 b (aJ (aA (au e) I.ok.above))).trans e1⟩
  ·by_cases hj:j=i
   ·subst hj;rw[hi]at e1;cases e1;rw[cn j9]at e2;cases e2;exact⟨u,r,.inl ⟨hk,by simp⟩⟩
   ·rw[bN (aL hj)]at e2;refine L2.oG fun gq kq=>?_;obtain⟨u',r',q⟩:=hl j y v' e1 e2 e3;refine kq ?_;refine⟨u',r',?_⟩;rcases q with⟨k,e⟩|⟨k,c,e,z⟩
    ·refine .inl ⟨k,?_⟩;have:y≠x:=fun e=>hj (jL hN e1 (e▸hi));simp[this,e]
    ·exact .inr ⟨k,c,e,z.sameBut hs (cne y c e)⟩
  ·obtain⟨w',z⟩:=I.cell y c e;exact⟨w',z.sameBut hs (cne y c e)⟩
  ·refine(I.freeC y c e).imp id fun⟨kb,o',kd,ke⟩=>⟨kb,o',kd,fun z j v' e1 k e2=>?_⟩
   by_cases hj:j=i
   ·subst hj;rw[hi]at e1;cases e1;have kn:X.env.kindOf x=some .local:=hk;rw[kn]at k;rcases k with k|k<;> cases k
   ·rw[bN (aL hj)]at e2;exact ke z j v' e1 k e2
  ·refine L2.oG fun gq kq=>?_;obtain⟨e,n,ne,nf,d⟩:=I.pin p hp;refine kq ?_;exact⟨(hs.2 p.1 ne).trans e,n,ne,nf,d⟩
 ·have ka:X.fn x=true:=by
   rcases hf with z|z
   ·exact z
   ·rw[z]at hk;cases hk
  obtain⟨c,hc⟩:=I.ok.has x (.inl hk);have ko:H c=none:=by
   rcases I.freeC x c hc with z|⟨z,_⟩
   ·exact z
   ·rw[ka]at z;cases z
  obtain⟨w',z⟩:=I.cell x c hc;refine wpAny_storeName_cell I.ok.kind hk hc z (fun h' ki hs=>?_);refine L2.oG fun gq kq=>?_;obtain⟨oc,kg,kc⟩:=id z;refine kq ?_;refine h {s with heap:=h'} ⟨I.ok,I.os,I.bare,⟨fun b o e n hb hx=>?_,fun b o e n hb hx=>?_,I.base.free,fun b o e hx=>?_,I.base.fix⟩,⟨m,hn.sameBut hs (aL (cne x c hc)),fun j y v' e1 e2 e3=>?_⟩,fun y c' e=>?_,I.free,fun y c' e=>?_,fun p hp=>?_,tracked ⟨oc,kg,ko⟩ hs,by simpa using I.len⟩ ⟨c,hs,.inr hc⟩
  ·exact(hs.2 b (aJ (aA (au e) (I.ok.cab x c ka hc)))).trans (I.base.keep b o e n hb hx)
  ·obtain⟨sl,e1⟩:=I.base.slot b o e n hb hx;exact⟨sl,(hs.2 b (aJ (aA (au e) (I.ok.cab x c ka hc)))).trans e1⟩
  ·obtain⟨o',e1⟩:=I.base.there b o e hx;exact⟨o',(hs.2 b (aJ (aA (au e) (I.ok.cab x c ka hc)))).trans e1⟩
  ·by_cases hj:j=i
   ·subst hj;rw[hi]at e1;cases e1;rw[cn j9]at e2;cases e2;exact⟨u,r,.inr ⟨.inl hk,c,hc,ki⟩⟩
   ·rw[bN (aL hj)]at e2;refine L2.oG fun gq kq=>?_;obtain⟨u',r',q⟩:=hl j y v' e1 e2 e3;refine kq ?_;refine⟨u',r',?_⟩;rcases q with q|⟨k,c',e,z'⟩
    ·exact .inl q
    ·refine .inr ⟨k,c',e,z'.sameBut hs ?_⟩;rintro rfl;exact hj (jL hN e1 (I.ok.inj _ _ _ e hc▸hi))
  ·by_cases kh:c'=c
   ·subst kh;exact⟨_,ki⟩
   ·obtain⟨w2,z2⟩:=I.cell y c' e;exact⟨w2,z2.sameBut hs kh⟩
  ·refine(I.freeC y c' e).imp id fun⟨kb,o',kd,ke⟩=>⟨kb,o',kd,fun z j v' e1 k e2=>?_⟩
   by_cases hj:j=i
   ·subst hj;rw[hi]at e1;cases e1;rw[ka]at kb;cases kb
   ·rw[bN (aL hj)]at e2;exact ke z j v' e1 k e2
  ·refine L2.oG fun gq kq=>?_;obtain⟨e,n,ne,nf,d⟩:=I.pin p hp;refine kq ?_;refine⟨(hs.2 p.1 ?_).trans e,n,ne,nf,d⟩;intro q;rw[q,kg]at e;have q':oc=p.2:=aQ e;exact d w' (by rw[<-q'];exact kc)
def xbz{Q:Unit->ai->Prop}(I:Inv X pins σ H s)(hN:X.N.Nodup)(hi:X.N[i]? =some x)(hx:Loc X.env.scope x)(r:RelV v u)
  (h:∀s',Inv X pins (σ.set i (some v)) H s'->Q () s') (hf:X.fn x=true\/X.env.scope.names.lookup x=some .local:=by first|exact .inl rfl|exact .inr rfl|assumption):wpAny M A (storeName X.env x u) Q E s:=
 xfN I hN hi hx r (fun s' I' _=>h s' I') hf
def Inv.call'(I:Inv X pins σ H s)(ho:s'.os=s.os)(u:Un (frs X.stack) ch H H' s.heap s'.heap)(hok:HOk X.prog X.w H' s'.heap)(hg:eE s'.gens)
  (j8:∀b∈ch,(b∈X.ex\/X.s₀.heap.objs.size<=b)/\b≠X.env.locals/\(∀x c,X.env.cells.lookup x=some c->c≠b)/\∀p∈X.pn++pins,p.1≠b):Inv X pins σ H' s':=by
 obtain⟨h',g',d',t',o'⟩:=s';have e:o'=s.os:=ho;subst e;exact I.call (g':=g') (t':=t') (d':=d') u hok hg j8
end
abbrev XK:=Value->Option Addr->Hp->Prop
abbrev St:=List (Option V)
abbrev VK:=V->Hp->Prop
abbrev TE:=St->Hp->VK->Prop
abbrev TT:=St->Hp->(Bool->Hp->Prop)->Prop
abbrev TA:=St->Hp->(List V->Hp->Prop)->Prop
structure Ends where
 nx:St->Hp->Prop
 rt:VK
 bk:St->Hp->Prop:=fun _ _=>False
 ct:St->Hp->Prop:=fun _ _=>False
abbrev TS:=Ends->St->Hp->Prop
def EP(X:Cx)(pins:List (Addr×Obj))(σ:St)(Q:VK)(u:Value)(s':ai):Prop:=∃v H',Inv X pins σ H' s'/\RelV v u/\Q v H'
def TP(X:Cx)(pins:List (Addr×Obj))(σ:St)(Q:Bool->Hp->Prop)(b:Bool)(s':ai):Prop:=∃H',Inv X pins σ H' s'/\Q b H'
def AP(X:Cx)(pins:List (Addr×Obj))(σ:St)(Q:List V->Hp->Prop)(us:List Value)(s':ai):Prop:=∃vs H',Inv X pins σ H' s'/\Vals vs us/\Q vs H'
def SP(X:Cx)(pins:List (Addr×Obj))(D:Ends)(f:Flow)(s':ai):Prop:=
 match f with
 | .next=>∃σ' H',Inv X pins σ' H' s'/\D.nx σ' H'
 | .brk=>∃σ' H',Inv X pins σ' H' s'/\D.bk σ' H'
 | .cont=>∃σ' H',Inv X pins σ' H' s'/\D.ct σ' H'
 | .ret u=>∃v σ' H',Inv X pins σ' H' s'/\RelV v u/\D.rt v H'
def PE(X:Cx)(e:Expr)(t:TE):Prop:=
 ∀(pins:List (Addr×Obj)) (s:ai) (σ:St) (H:Hp) (Q:VK),Inv X pins σ H s->t σ H Q->wpAny (model X.prog X.w) X.A (eval e X.env) (EP X pins σ Q) X.xe s
def PT(X:Cx)(e:Expr)(t:TT):Prop:=
 ∀(pins:List (Addr×Obj)) (s:ai) (σ:St) (H:Hp) (Q:Bool->Hp->Prop),Inv X pins σ H s->t σ H Q->wpAny (model X.prog X.w) X.A (isTrue e X.env (eval e X.env)) (TP X pins σ Q) X.xe s
def PW(X:Cx)(e:Expr)(t:TT):Prop:=
 ∀(whole:Sem Value) (pins:List (Addr×Obj)) (s:ai) (σ:St) (H:Hp) (Q:Bool->Hp->Prop),Inv X pins σ H s->t σ H Q->wpAny (model X.prog X.w) X.A (isTrue e X.env whole) (TP X pins σ Q) X.xe s
def PW.pt{t:TT}(h:PW X e t):PT X e t:=h _
def PA(X:Cx)(es:List Expr)(t:TA):Prop:=
 ∀(pos:Pos) (pins:List (Addr×Obj)) (s:ai) (σ:St) (H:Hp) (Q:List V->Hp->Prop),Inv X pins σ H s->t σ H Q->wpAny (model X.prog X.w) X.A (spliced (bB pos (aD es X.env))) (AP X pins σ Q) X.xe s
def PS(X:Cx)(st:Stmt)(t:TS):Prop:=
 ∀(pins:List (Addr×Obj)) (s:ai) (σ:St) (H:Hp) (D:Ends),Inv X pins σ H s->t D σ H->wpAny (model X.prog X.w) X.A (exec st X.env) (SP X pins D) X.xe s
def PSs(X:Cx)(st:List Stmt)(t:TS):Prop:=
 ∀(pins:List (Addr×Obj)) (s:ai) (σ:St) (H:Hp) (D:Ends),Inv X pins σ H s->t D σ H->wpAny (model X.prog X.w) X.A (execs st X.env) (SP X pins D) X.xe s
def thn{t:Sem α}{Q Q':α->ai->Prop}(h:wpAny M A t Q E s)(hQ:∀a s,Q a s->Q' a s):wpAny M A t Q' E s:=aN h hQ fun _ _ x=>x
section
variable {X:Cx}
def xoK(i:Nat):TE:=fun σ H Q=>∃v,σ[i]? =some (some v)/\Q v H
def tC(v:V):TE:=fun _ H Q=>Q v H
def xkH{pos:Pos}(hN:X.N[i]? =some x)(hv:Vis X.env.scope x)(hd:(x==("__debug__":Str))=false:=by decide)(j9:(x==("__classdict__":Str))=false:=by decide):PE X (.Name x pos) (xoK i):=by
 intro pins s σ H Q I h;obtain⟨v,e,h⟩:=h;obtain⟨m,hn,hl⟩:=I.loc;obtain⟨u,r,l⟩:=hl i x v hN e hv;have fin:EP X pins σ Q u s:=⟨v,H,I,r,h⟩;rcases l with⟨hk,hm⟩|⟨hk,c,hc,j8⟩
 ·exact wpAny_Name (wpAny_loadName_local I.ok.kind hk hn hm fin) hd
 ·rcases hk with hk|hk
  ·exact wpAny_Name (wpAny_loadName_cell I.ok.kind hk hc j8 fin) hd
  ·exact wpAny_Name (wpAny_loadName_free I.ok.kind hk hc j8 fin j9) hd
def xk{i j pos}:PE X (.Constant (.int i) j pos) (tC (.int i)):=fun _ _ _ H _ I h=>wpAny_Constant_int ⟨.int i,H,I.tok _,⟨_,rfl⟩,h⟩
def yf{b j pos}:PE X (.Constant (.bool b) j pos) (tC (.bl b)):=fun _ _ _ H _ I h=>Constant_bool ⟨.bl b,H,I,rfl,h⟩
def yW{j pos}:PE X (.Constant .none j pos) (tC .non):=fun _ _ _ H _ I h=>iy ⟨.non,H,I,rfl,h⟩
def xj{x j pos}:PE X (.Constant (.str x) j pos) (tC (.str x)):=fun _ _ _ H _ I h=>cU ⟨.str x,H,I.tok _,⟨_,rfl⟩,h⟩
def Gl(X:Cx)(x:Str):Prop:=X.env.kindOf x=some .globalImplicit
def yR{pos:Pos}(I:Inv X pins σ H s)(hg:Gl X x)(hm:X.mg x=some u)(h:Q u s)
  (hd:(x==("__debug__":Str))=false:=by decide):wpAny (model X.prog X.w) X.A (eval (.Name x pos) X.env) Q E s:=
 fV I.ok.kind hg (Calls.loadGlobal_global (by rw[I.ok.glob];exact I.mod.glob.keeps I.bk) hm h) hd
def ve{pos:Pos}(I:Inv X pins σ H s)(hg:Gl X x)(hm:X.mg x=none)(hv:bp x=some u)(h:Q u s)
  (hn:x≠"__name__":=by decide) (hd:(x==("__debug__":Str))=false:=by decide):wpAny (model X.prog X.w) X.A (eval (.Name x pos) X.env) Q E s:=by
 obtain⟨mb,h1,h2⟩:=I.mod.blt;exact fV I.ok.kind hg (Calls.loadGlobal_builtin (by rw[I.ok.glob];exact I.mod.glob.keeps I.bk) hm (by rw[I.ok.blt];exact h1.keeps I.bk) ((h2 x hn).trans hv) h) hd
def xZ{pos:Pos}(hg:Gl X x)(hm:X.mg x=some u)(r:RelV v u)(hd:(x==("__debug__":Str))=false:=by decide):PE X (.Name x pos) (tC v):=
 fun _ _ _ H _ I h=>yR I hg hm ⟨v,H,I,r,h⟩ hd
def vE{pos:Pos}(hg:Gl X x)(hm:X.mg x=none)(hv:bp x=some u)(r:RelV v u)(hn:x≠"__name__":=by decide)(hd:(x==("__debug__":Str))=false:=by decide):PE X (.Name x pos) (tC v):=
 fun _ _ _ H _ I h=>ve I hg hm hv ⟨v,H,I,r,h⟩ hn hd
variable {a b:Expr} {ta tb:TE} {pos:Pos}
def PC(X:Cx)(op:CmpOp)(a b:Expr)(t:TE):Prop:=
 ∀(pins:List (Addr×Obj)) (s:ai) (σ:St) (H:Hp) (Q:VK),Inv X pins σ H s->t σ H Q->
  wpAny (model X.prog X.w) X.A (eval a X.env) (fun v s₁=>wpAny (model X.prog X.w) X.A (eval b X.env) (fun u s₂=>wpAny (model X.prog X.w) X.A (bg op v u) (EP X pins σ Q) X.xe s₂) X.xe s₁) X.xe s
def xl4(b:Expr)(h:op≠.In)(h2:op≠.NotIn):bY op b=false:=by
 have e1:(op==CmpOp.In)=false:=by cases op<;> first|rfl|exact absurd rfl h
 have e2:(op==CmpOp.NotIn)=false:=by cases op<;> first|rfl|exact absurd rfl h2
 cases b<;> simp[bY,e1,e2]
def xqG(ta:TE):TE:=fun σ H Q=>ta σ H fun x H1=>Q (.bl (decide (x= .non))) H1
def xpW(ta:TE):TE:=fun σ H Q=>ta σ H fun x H1=>Q (.bl (!decide (x= .non))) H1
theorem RelV.none_iff{x:V}{v:Value}(r:RelV x v):(v==a7)=decide (x= .non):=by
 cases x with
 |non=>cases r;rfl
 |bl _=>cases r;rfl
 |int _=>obtain⟨t,rfl⟩:=r;rfl
 |str _=>obtain⟨t,rfl⟩:=r;rfl
 |byt _=>obtain⟨t,rfl⟩:=r;rfl
 |flt _=>obtain⟨t,rfl⟩:=r;rfl
 |ref _=>cases r;rfl
 |ty _=>cases r;rfl
def xoL{j pos'}(ha:PE X a ta):PC X .Is a (.Constant .none j pos') (xqG ta):=by
 intro pins s σ H Q I h;refine thn (ha pins s σ H _ I h) fun v s1 ⟨x,H1,I1,r1,q1⟩=>?_;exact iy (is_none_gen ⟨.bl _,H1,I1,by rw[r1.none_iff];rfl,q1⟩)
def xnt{j pos'}(ha:PE X a ta):PC X .IsNot a (.Constant .none j pos') (xpW ta):=by
 intro pins s σ H Q I h;refine thn (ha pins s σ H _ I h) fun v s1 ⟨x,H1,I1,r1,q1⟩=>?_;exact iy (isnot_none_gen ⟨.bl _,H1,I1,by rw[r1.none_iff];rfl,q1⟩)
def tB(t:TE):TT:=fun σ H Q=>t σ H fun x H1=>∃c,x= .bl c/\Q c H1
def xkI{t:TE}(h:PC X op a b t)(h1:bY op b=false:=by first|exact xl4 _ (by decide) (by decide)|rfl):PT X (.Compare a [op] [b] pos) (tB t):=by
 intro pins s σ H Q I hw;refine dn (thn (h pins s σ H _ I hw) fun v s1 h1=>thn h1 fun u s2 h2=>thn h2 fun c s3 ⟨x,H1,I1,r1,q1⟩=>?_) h1;obtain⟨d,rfl,q⟩:=q1;cases r1;exact bK ⟨H1,I1,q⟩
variable {tA tB':TT} {rest:List Expr}
def xqH(t:TT):TT:=fun σ H Q=>t σ H fun c H1=>Q (!c) H1
theorem xc9(ha:PT X a tA):PW X (.BoolOp .And [a] pos) tA:=by
 intro wh pins s σ H Q I h;refine isTrue_and (thn (ha pins s σ H Q I h) fun c s1 e=>?_);cases c with
 |true=>exact isTrue_and_nil e
 |false=>exact e
theorem zM(ha:PT X a tA):PW X (.BoolOp .Or [a] pos) tA:=by
 intro wh pins s σ H Q I h;refine isTrue_or (thn (ha pins s σ H Q I h) fun c s1 e=>?_);cases c with
 |false=>exact isTrue_or_nil e
 |true=>exact e
def uy(ha:PT X a tA):PT X (.UnaryOp .Not a pos) (xqH tA):=by
 intro pins s σ H Q I h;exact isTrue_not (ha pins s σ H (fun c H1=>Q (!c) H1) I h)
def yX{op}{t:TE}(h:PE X a t):PE X (.BoolOp op [a] pos) t:=fun pins s σ H Q I hw=>BoolOp_one (h pins s σ H Q I hw)
end
def SqL(K:ay)(H:Hp)(a:Addr)(xs:List V):Prop:=
 Rd H a (.lst xs)\/
  ∃(o:Obj) (its:Array Value) (n:Nat),K.lookup a=some o/\o.cls= .type "list"/\o.dict=none/\o.data= .seq its n/\its.size<=ax/\Vals xs its.toList
def SqT(K:ay)(H:Hp)(a:Addr)(xs:List V):Prop:=
 Rd H a (.tup xs)\/
  ∃(o:Obj) (its:Array Value) (n:Nat),K.lookup a=some o/\o.cls= .type "tuple"/\o.data= .seq its n/\its.size<=ax/\Vals xs its.toList
def xqI:Value->Option V
 | .none=>some .non
 | .bool b=>some (.bl b)
 | .int i _=>some (.int i)
 | .str x _=>some (.str x)
 | .bytes b _=>some (.byt b)
 | .float b _=>some (.flt b)
 | .ref a=>some (.ref a)
 | .type n=>some (.ty n)
 |_=>none
theorem RelV.abs{x:V}(r:RelV x u):xqI u=some x:=by
 cases x with
 |non=>cases r;rfl
 |bl _=>cases r;rfl
 |int _=>obtain⟨t,rfl⟩:=r;rfl
 |str _=>obtain⟨t,rfl⟩:=r;rfl
 |byt _=>obtain⟨t,rfl⟩:=r;rfl
 |flt _=>obtain⟨t,rfl⟩:=r;rfl
 |ref _=>cases r;rfl
 |ty _=>cases r;rfl
def RelV.inj{x:V}(r:RelV x u)(q:RelV y u):x=y:=aQ (r.abs.symm.trans q.abs)
theorem Vals.inj:∀{xs ys:List V} {us:List Value},Vals xs us->Vals ys us->xs=ys
 |_,_,_,.nil,.nil=>rfl
 |_,_,_,.cons r t,.cons r' t'=>by rw[r.inj r',Vals.inj t t']
section
variable {ys:List V}
def SqL.of(h:H a=some (.lst xs)):SqL K H a xs:=.inl (.inl h)
def SqT.of(h:H a=some (.tup xs)):SqT K H a xs:=.inl (.inl h)
def Inv.list(I:Inv X pins σ H s)(h:SqL X.K H a xs):∃its:List Value,Vals xs its/\PlainL s.heap a its.toArray/\xs.length<=ax:=by
 rcases h with h|⟨o,its,n,hk,hc,hd,hs,hz,r⟩
 ·obtain⟨z,its,n,r,e⟩:=h.ok I.hok;exact⟨its,r,⟨_,n,e,rfl,rfl,rfl⟩,z⟩
 ·refine⟨its.toList,r,⟨o,n,I.kIn a o hk,hc,hd,by simpa using hs⟩,?_⟩;have e:=r.length;simp only[bP]at e;lia
def Inv.tuple(I:Inv X pins σ H s)(h:SqT X.K H a xs):∃its:List Value,Vals xs its/\IsTup s.heap a its.toArray/\xs.length<=ax:=by
 rcases h with h|⟨o,its,n,hk,hc,hs,hz,r⟩
 ·obtain⟨z,its,r,p⟩:=h.ok I.hok;exact⟨its,r,p,z⟩
 ·refine⟨its.toList,r,⟨o,I.kIn a o hk,hc,n,by simpa using hs⟩,?_⟩;have e:=r.length;simp only[bP]at e;lia
def Inv.list_inj(I:Inv X pins σ H s)(h:SqL X.K H a xs)(h':SqL X.K H a ys):xs=ys:=by
 obtain⟨its,r,⟨o,n,e,_,_,d⟩,_⟩:=I.list h;obtain⟨its',r',⟨o',n',e',_,_,d'⟩,_⟩:=I.list h';rw[e]at e';cases e';rw[d]at d';injection d' with d1 _;have:its=its':=by simpa using congrArg Array.toList d1
 subst this;exact r.inj r'
def Inv.tuple_inj(I:Inv X pins σ H s)(h:SqT X.K H a xs)(h':SqT X.K H a ys):xs=ys:=by
 obtain⟨its,r,⟨o,e,_,n,d⟩,_⟩:=I.tuple h;obtain⟨its',r',⟨o',e',_,n',d'⟩,_⟩:=I.tuple h';rw[e]at e';cases e';rw[d]at d';injection d' with d1 _;have:its=its':=by simpa using congrArg Array.toList d1
 subst this;exact r.inj r'
end
abbrev Cx.wish(X:Cx)(E:Value->ai->Prop):Cx:={X with xe:=E}
abbrev Cx.nox(X:Cx):Cx:=X.wish fun _ _=>False
def Cx.Ok.wish(ok:X.Ok)(E:Value->ai->Prop):(X.wish E).Ok:=
 ⟨ok.mod,ok.kind,ok.glob,ok.blt,ok.above,ok.inj,ok.has,ok.cab,ok.hd,ok.frames,ok.stk,ok.exf,ok.bs,ok.bsz,ok.noex,ok.exfs,ok.funs,ok.frf,ok.cab2,ok.hz⟩
def Cx.Ok.unwish(ok:(X.wish E).Ok):X.Ok:=
 ⟨ok.mod,ok.kind,ok.glob,ok.blt,ok.above,ok.inj,ok.has,ok.cab,ok.hd,ok.frames,ok.stk,ok.exf,ok.bs,ok.bsz,ok.noex,ok.exfs,ok.funs,ok.frf,ok.cab2,ok.hz⟩
def Inv.wish(I:Inv X pins σ H s)(E:Value->ai->Prop):Inv (X.wish E) pins σ H s:=⟨I.ok.wish E,I.os,I.bare,I.base,I.loc,I.cell,I.free,I.freeC,I.pin,I.hok,I.len⟩
def Inv.unwish(I:Inv (X.wish E) pins σ H s):Inv X pins σ H s:=⟨I.ok.unwish,I.os,I.bare,I.base,I.loc,I.cell,I.free,I.freeC,I.pin,I.hok,I.len⟩
theorem SP.unwish{f:Flow}(h:SP (X.wish E) pins D f s'):SP X pins D f s':=by
 cases f with
 |next=>obtain⟨σ',H',I,q⟩:=h;exact⟨σ',H',I.unwish,q⟩
 |brk=>obtain⟨σ',H',I,q⟩:=h;exact⟨σ',H',I.unwish,q⟩
 |cont=>obtain⟨σ',H',I,q⟩:=h;exact⟨σ',H',I.unwish,q⟩
 |ret u=>obtain⟨v,σ',H',I,r,q⟩:=h;exact⟨v,σ',H',I.unwish,r,q⟩
def PSs.nox{st:List Stmt}{t:TS}(h:PSs X.nox st t):PSs X st t:=fun pins s σ H D I hw=>
 aN (h pins s σ H D (I.wish _) hw) (fun _ _ q=>q.unwish) fun _ _ z=>aS z
section
variable {X:Cx} {st:Stmt} {rest:List Stmt} {t u:TS} {e:Expr} {te:TE} {pos:Pos}
def xpX:TS:=fun D σ H=>D.nx σ H
def xl5(t u:TS):TS:=fun D σ H=>t {D with nx:=u D} σ H
def xq:PSs X [] xpX:=fun _ _ σ H _ I h=>cV ⟨σ,H,I,h⟩
theorem xc(h1:PS X st t)(h2:PSs X rest u):PSs X (st::rest) (xl5 t u):=by
 intro pins s σ H D I h;refine dC (thn (h1 pins s σ H {D with nx:=u D} I h) fun f s1 q=>?_);cases f with
 |next=>
  obtain⟨σ',H',I',q⟩:=q;exact h2 pins s1 σ' H' D I' q
 |ret v=>exact q
 |brk=>exact q
 |cont=>exact q
theorem xh(h1:PS X st t):PSs X [st] t:=by
 intro pins s σ H D I h;refine dC (thn (h1 pins s σ H D I h) fun f s1 q=>?_);cases f with
 |next=>exact cV q
 |ret v=>exact q
 |brk=>exact q
 |cont=>exact q
def Inv.quiet(I:Inv X pins σ H s):interactive X.env=false:=by simp[interactive,I.ok.kind]
def xpY(te:TE):TS:=fun D σ H=>te σ H fun _ H1=>D.nx σ H1
def xN(he:PE X e te)(hs:e9 e none pos.line X.env=pure false:=by rfl):PS X (.Expr e pos) (xpY te):=by
 intro pins s σ H D I h;exact wpAny_Expr_any (thn (he pins s σ H _ I h) fun v s1 ⟨x,H1,I1,r1,q1⟩=>⟨σ,H1,I1,q1⟩) I.quiet hs
def xoM(te:TE):TS:=fun D σ H=>te σ H D.rt
def xp(he:PE X e te):PS X (.Return (some e) pos) (xoM te):=by
 intro pins s σ H D I h;exact wpAny_Return_some (thn (he pins s σ H _ I h) fun v s1 ⟨x,H1,I1,r1,q1⟩=>⟨x,σ,H1,I1,r1,q1⟩)
def xpZ:TS:=fun D _ H=>D.rt .non H
def xnu:PS X (.Return none pos) xpZ:=fun _ _ σ H _ I h=>wpAny_Return_none ⟨.non,σ,H,I,rfl,h⟩
end
abbrev TG:=V->St->Hp->(St->Hp->Prop)->Prop
abbrev TGs:=List V->St->Hp->(St->Hp->Prop)->Prop
def PG(X:Cx)(target:Expr)(t:TG):Prop:=
 ∀(pins:List (Addr×Obj)) (s:ai) (σ:St) (H:Hp) (v:V) (u:Value) (Q:St->Hp->Prop),Inv X pins σ H s->RelV v u->t v σ H Q->
  wpAny (model X.prog X.w) X.A (fL target X.env u) (fun _ s'=>∃σ' H',Inv X pins σ' H' s'/\Q σ' H') X.xe s
def PGs(X:Cx)(ts:List Expr)(t:TGs):Prop:=
 ∀(pins:List (Addr×Obj)) (s:ai) (σ:St) (H:Hp) (vs:List V) (us:List Value) (Q:St->Hp->Prop),Inv X pins σ H s->Vals vs us->t vs σ H Q->
  wpAny (model X.prog X.w) X.A (assignInOrder ((fm ts X.env).map (·.2)) us) (fun _ s'=>∃σ' H',Inv X pins σ' H' s'/\Q σ' H') X.xe s
abbrev xl6:=V->V->V->Hp->(Hp->Prop)->Prop
def xoN(X:Cx)(t:xl6):Prop:=
 ∀(pins:List (Addr×Obj)) (s:ai) (σ:St) (H:Hp) (o i v:V) (ov iv u:Value) (Q:Hp->Prop),Inv X pins σ H s->RelV o ov->RelV i iv->RelV v u->t o i v H Q->
  wpAny (model X.prog X.w) X.A (setItem ov iv u) (fun _ s'=>∃H',Inv X pins σ H' s'/\Q H') X.xe s
section
variable {X:Cx} {pos:Pos}
def xgN(i:Nat):TG:=fun v σ H Q=>Q (σ.set i (some v)) H
def xP(hN:X.N.Nodup)(hi:X.N[i]? =some x)(hx:Loc X.env.scope x)(hf:X.fn x=true\/X.env.scope.names.lookup x=some .local:=by first|exact .inl rfl|exact .inr rfl|assumption):PG X (.Name x pos) (xgN i):=by
 intro pins s σ H v u Q I r h;exact f9 (xbz I hN hi hx r (fun s' I'=>⟨_,H,I',h⟩) hf)
def xqJ:TGs:=fun vs σ H Q=>vs=[]/\Q σ H
def xp0(t:TG)(u:TGs):TGs:=fun vs σ H Q=>∃v r,vs=v::r/\t v σ H fun σ' H'=>u r σ' H' Q
def jJ:PGs X [] xqJ:=by
 intro pins s σ H vs us Q I r h;obtain⟨e,h⟩:=h;subst e;cases r;exact assignInOrder_nil ⟨σ,H,I,h⟩
theorem yt{t:TG}{u:TGs}(h1:PG X e t)(h2:PGs X es u)
  (hs:(fm (e::es) X.env).map (·.2)=fL e X.env::(fm es X.env).map (·.2):=by rfl):PGs X (e::es) (xp0 t u):=by
 intro pins s σ H vs us Q I r h;obtain⟨v,vr,e1,h⟩:=h;subst e1;cases r with
 |cons r rr=>
  rw[hs];refine assignInOrder_cons (thn (h1 pins s σ H _ _ _ I r h) fun _ s1 ⟨σ1,H1,I1,q1⟩=>?_);exact h2 pins s1 σ1 H1 _ _ Q I1 rr q1
def xqK(K:ay)(n:Nat)(t:TGs):TG:=fun v σ H Q=>∃a xs,v= .ref a/\SqT K H a xs/\xs.length=n/\t xs σ H Q
def xbd{k:Nat}{t:TGs}{n:Nat}(hc:X.calm=true)(h:PGs X es t)
  (hn:(fm es X.env).length=n:=by rfl) (j8:(fm es X.env).findIdx? (·.1)=none:=by rfl):PG X (.Tuple es k pos) (xqK X.K n t):=by
 intro pins s σ H v u Q I r hw;obtain⟨a,xs,e1,hq,hl,hw⟩:=hw;subst e1;cases r;obtain⟨its,rv,ht,hz⟩:=I.tuple hq;refine assign_Tuple_tuple (I.ok.hd hc) ht (by simp[hn,<-hl,rv.length]) j8 fun h' hx=>?_;have I1:Inv X pins σ H {s with heap:=h'}:=I.kept (t':=s.toks) fun b o e=>hx b o (aJ (au e)) e;exact h pins _ σ H xs _ Q I1 (by simpa using rv) hw
def xqL(to ti:TE)(t:xl6):TG:=fun v σ H Q=>to σ H fun o H1=>ti σ H1 fun i H2=>t o i v H2 fun H3=>Q σ H3
def xoO{o i:Expr}{to ti:TE}{t:xl6}(ho:PE X o to)(hi:PE X i ti)(hs:xoN X t)
  (ha:∀v,fL (.Subscript o i pos) X.env v=(do
   let ov <-eF [v] (eval o X.env)
   let iv <-eF [v,ov] (eval i X.env)
   gk pos
   eF [v,ov,iv] (setItem ov iv v)
   release [v,ov,iv] []):=by intro _;rfl):PG X (.Subscript o i pos) (xqL to ti t):=by
 intro pins s σ H v u Q I r h;rw[ha];refine aa (bD (thn (ho pins s σ H _ I h) fun ov s1 ⟨x,H1,I1,r1,q1⟩=>?_));refine aa (bD (thn (hi pins s1 σ H1 _ I1 q1) fun iv s2 ⟨y,H2,I2,r2,q2⟩=>?_));refine aa (cg (aa (bD (thn (hs pins s2 σ H2 x y v ov iv u _ I2 r1 r2 r q2) fun _ s3 ⟨H3,I3,q3⟩=>?_))));exact wpAny_release ⟨σ,H3,I3,q3⟩
def xl7(te:TE)(g:TG):TS:=fun D σ H=>te σ H fun x H1=>g x σ H1 D.nx
def xkJ(he:PE X e te)(hg:PG X tg g)(hs:swapsWithSole [tg] e pos.line X.env=pure false:=by rfl)(hw:swappedStores [tg] e X.env=pure none:=by rfl)
  (h1:(fm [tg] X.env).map (·.2)=[fL tg X.env]:=by rfl):PS X (.Assign [tg] e pos) (xl7 te g):=by
 intro pins s σ H D I h;refine wpAny_Assign_stores (thn (he pins s σ H _ I h) fun v s1 ⟨x,H1,I1,r1,q1⟩=>?_) hs hw;rw[h1];exact thn (hg pins s1 σ H1 x v _ I1 r1 q1) fun _ s2 q=>q
def xv{i:Nat}{x:Str}{e:Expr}{te:TE}{pos':Pos}(hN:X.N.Nodup)(hi:X.N[i]? =some x)(hx:Loc X.env.scope x)(he:PE X e te)(hs:e9 e (some (.Name x pos')) pos.line X.env=pure false:=by rfl)(hf:X.fn x=true\/X.env.scope.names.lookup x=some .local:=by first|exact .inl rfl|exact .inr rfl|assumption):
  PS X (.Assign [.Name x pos'] e pos) (xl7 te (xgN i)):=by
 intro pins s σ H D I h;refine wpAny_Assign_Name (thn (he pins s σ H _ I h) fun v s1 ⟨y,H1,I1,r1,q1⟩=>?_) hs;exact xbz I1 hN hi hx r1 (fun s2 I2=>⟨_,H1,I2,q1⟩) hf
end
section
variable {pos:Pos}
end
structure It where
 go:Nat->Hp->Prop
 yld:Nat->Hp->V->Hp->Prop
 stop:Nat->Hp->Prop
def xaS(X:Cx)(pins:List (Addr×Obj))(H:Hp)(b:Addr):Prop:=
 H b=none/\b≠X.env.locals/\b∉X.fs/\(b∈X.ex\/X.s₀.heap.objs.size<=b)/\(∀x c,X.env.cells.lookup x=some c->c≠b)/\∀p∈X.pn++pins,p.1≠b
def Inv.fpOk(I:Inv X pins σ H s)(hb:s.heap.objs.size<=b)(hn:H' b=none):xaS X pins H' b:=by
 refine⟨hn,fq (aA I.lt hb),I.nofs hb,.inr (aO I.sz hb),fun x c e z=>?_,fun p hp z=>?_⟩
 ·obtain⟨v,q⟩:=I.cell x c e;exact absurd (aA q.lt (by rw[z];exact hb)) (bH _)
 ·exact absurd (aA (au (I.pin p hp).1) (by rw[z];exact hb)) (bH _)
structure Turn(P:aX)(w:World)(K:ay)(tg:Expr)(J:It)(fp:List Addr)(it:Addr)(tn:Nat->Heap->Prop):Prop where
 mem:it∈fp
 obj:∀i h,tn i h->∀b∈fp,∃o,h.get? b=some o/\∀v,o.data≠.cell v
 keep:∀i h h',tn i h->(∀b∈fp,∀o,h.get? b=some o->h'.get? b=some o)->tn i h'
 item:∀(X:Cx),X.prog=P->X.w=w->X.K=K->X.calm=true->∀(i:Nat) (pins:List (Addr×Obj)) (s:ai) (σ:St) (H:Hp) (E:Value->ai->Prop),Inv X pins σ H s->(∀b∈fp,xaS X pins H b)->tn i s.heap->J.go i H->
  wpAny (model P w) X.A (pyNext (.ref it)) (fun r s1=>∃u,r=some u/\
   wpAny (model P w) X.A (fw tg (.ref it) u) (fun _ s2=>∃x H',Inv X pins σ H' s2/\RelV x u/\J.yld i H x H'/\tn (i+1) s2.heap/\∀b∈fp,H' b=none) E s1) E s
 done:∀(X:Cx),X.prog=P->X.w=w->X.K=K->X.calm=true->∀(i:Nat) (pins:List (Addr×Obj)) (s:ai) (σ:St) (H:Hp) (E:Value->ai->Prop),Inv X pins σ H s->(∀b∈fp,xaS X pins H b)->tn i s.heap->J.stop i H->
  wpAny (model P w) X.A (pyNext (.ref it)) (fun r s1=>r=none/\Inv X pins σ H s1) E s
 self:∀(A:bc) (i:Nat) (s:ai) (Q:Value->ai->Prop) (E:Value->ai->Prop),tn i s.heap->Q (.ref it) s->wpAny (model P w) A (pyIter (.ref it)) Q E s
abbrev TI:=St->Hp->(It->Hp->Prop)->Prop
def PIE(X:Cx)(pins:List (Addr×Obj))(σ:St)(tg:Expr)(R:It->Hp->Prop)(j8:Value)(s2:ai):Prop:=
 ∃(it:Addr) (fp:List Addr) (tn:Nat->Heap->Prop) (J:It) (H':Hp),j8= .ref it/\Inv X pins σ H' s2/\Turn X.prog X.w X.K tg J fp it tn/\tn 0 s2.heap/\(∀b∈fp,xaS X pins H' b)/\R J H'
def PI(X:Cx)(tg iter:Expr)(wi:TI):Prop:=
 ∀(pins:List (Addr×Obj)) (s:ai) (σ:St) (H:Hp) (R:It->Hp->Prop),Inv X pins σ H s->wi σ H R->
  wpAny (model X.prog X.w) X.A (eval iter X.env) (fun v s1=>wpAny (model X.prog X.w) X.A (pyIter v) (PIE X pins σ tg R) X.xe s1) X.xe s
theorem xem{it:Addr}{o:Obj}{n:String}{vs:Array Value}{Q:Unit->ai->Prop}(ho:s.heap.get? it=some o)(hc:o.cls= .type n)(hd:o.data= .fields vs)
  (hn:["enumerate","zip","dict_itemiterator","dict_reverseitemiterator","odict_iterator","itertools.zip_longest","itertools.pairwise"].contains n=false) (hQ:Q () s):wpAny M A (fw tg (.ref it) u) Q E s:=by
 unfold fw;cases tg<;> first
  |exact ak hQ
  |(cases u<;> first
    |exact ak hQ
    |(refine aa (wpAny_load ho ?_)
      rw[hc,hd];show wpAny M A (if (["enumerate","zip","dict_itemiterator","dict_reverseitemiterator","odict_iterator","itertools.zip_longest","itertools.pairwise"].contains n&&vs[0]? ==some (bz _))=true then _ else _) Q E s;rw[if_neg (by intro h;rw[hn,Bool.false_and]at h;cases h)];exact ak hQ))
def Itl(K:ay)(a:Addr):It:=
 ⟨fun i H=>∃xs x,SqL K H a xs/\xs[i]? =some x,fun i H x H'=>H'=H/\∀xs,SqL K H a xs->xs[i]? =some x,fun i H=>∃xs,SqL K H a xs/\xs.length<=i⟩
def Itt(K:ay)(a:Addr):It:=
 ⟨fun i H=>∃xs x,SqT K H a xs/\xs[i]? =some x,fun i H x H'=>H'=H/\∀xs,SqT K H a xs->xs[i]? =some x,fun i H=>∃xs,SqT K H a xs/\xs.length<=i⟩
def xkK(a it:Addr):Turn P w K tg (Itl K a) [it] it (fun i h=>h.IsListIter it a i) where
 mem:=by simp
 obj:=fun i h st b hb=>by
  have e:b=it:=by simpa using hb
  subst e;refine L2.oG fun gq kq=>?_;obtain⟨o,e,c,d⟩:=st;refine kq ?_;exact⟨o,e,fun v z=>by rw[d]at z;cases z⟩
 keep:=fun i h h' st k=>st.at fun o e=>k it (by simp) o e
 item:=by
  intro X hP hw hK hc i pins s σ H E I hf st hg;subst hP hw hK;refine L2.oG fun gq kq=>?_;obtain⟨xs,x,hq,hx⟩:=hg;obtain⟨its,rv,p,hz⟩:=I.list hq;obtain⟨u,hu,ru⟩:=rv.get hx;obtain⟨f0,f1,f2,f3,f4,f5⟩:=hf it (by simp);refine kq ?_;refine wpAny_pyNext_list_item st p.isList (x:=u) (by simpa using hu) fun h' j8 sb=>?_;have I1:Inv X pins σ H {s with heap:=h'}:=I.turned (t':=s.toks) (fun b o hb e=>(sb.2 b hb).trans e) f0 f1 f3 f4 f5;refine L2.oG fun gq kq=>?_;obtain⟨o,e,c,d⟩:=id j8;refine kq ?_;exact⟨u,rfl,xem (s:={s with heap:=h'}) e c d (by decide) ⟨x,H,I1,ru,⟨rfl,fun ys hy=>by rw[I.list_inj hy hq];exact hx⟩,j8,fun b hb=>(hf b hb).1⟩⟩
 done:=by
  intro X hP hw hK hc i pins s σ H E I hf st hg;subst hP hw hK;refine L2.oG fun gq kq=>?_;obtain⟨xs,hq,hx⟩:=hg;obtain⟨its,rv,p,hz⟩:=I.list hq;obtain⟨f0,f1,f2,f3,f4,f5⟩:=hf it (by simp);refine kq ?_;have hl:=rv.length;exact wpAny_pyNext_list_end (I.ok.hd hc) st p.isList (by simp;lia) fun h' eb=>⟨rfl,I.turned (t':=s.toks) (fun b o hb e=>eb b o hb e) f0 f1 f3 f4 f5⟩
 self:=fun _ _ _ _ _ st h=>wpAny_pyIter_listiter st h
def xjx(a it:Addr):Turn P w K tg (Itt K a) [it] it (fun i h=>h.IsTupleIter it a i) where
 mem:=by simp
 obj:=fun i h st b hb=>by
  have e:b=it:=by simpa using hb
  subst e;refine L2.oG fun gq kq=>?_;obtain⟨o,e,c,d⟩:=st;refine kq ?_;exact⟨o,e,fun v z=>by rw[d]at z;cases z⟩
 keep:=fun i h h' st k=>st.at fun o e=>k it (by simp) o e
 item:=by
  intro X hP hw hK hc i pins s σ H E I hf st hg;subst hP hw hK;refine L2.oG fun gq kq=>?_;obtain⟨xs,x,hq,hx⟩:=hg;obtain⟨its,rv,p,hz⟩:=I.tuple hq;obtain⟨u,hu,ru⟩:=rv.get hx;obtain⟨f0,f1,f2,f3,f4,f5⟩:=hf it (by simp);refine kq ?_;refine wpAny_pyNext_tuple_item st (show s.heap.IsTuple a its.toArray from p) (x:=u) (by simpa using hu) fun h' j8 sb=>?_;have I1:Inv X pins σ H {s with heap:=h'}:=I.turned (t':=s.toks) (fun b o hb e=>(sb.2 b hb).trans e) f0 f1 f3 f4 f5;refine L2.oG fun gq kq=>?_;obtain⟨o,e,c,d⟩:=id j8;refine kq ?_;exact⟨u,rfl,xem (s:={s with heap:=h'}) e c d (by decide) ⟨x,H,I1,ru,⟨rfl,fun ys hy=>by rw[I.tuple_inj hy hq];exact hx⟩,j8,fun b hb=>(hf b hb).1⟩⟩
 done:=by
  intro X hP hw hK hc i pins s σ H E I hf st hg;subst hP hw hK;refine L2.oG fun gq kq=>?_;obtain⟨xs,hq,hx⟩:=hg;obtain⟨its,rv,p,hz⟩:=I.tuple hq;obtain⟨f0,f1,f2,f3,f4,f5⟩:=hf it (by simp);refine kq ?_;have hl:=rv.length;exact wpAny_pyNext_tuple_end (I.ok.hd hc) st (show s.heap.IsTuple a its.toArray from p) (by simp;lia) fun h' eb=>⟨rfl,I.turned (t':=s.toks) (fun b o hb e=>eb b o hb e) f0 f1 f3 f4 f5⟩
 self:=fun _ _ _ _ _ st h=>wpAny_pyIter_tupleiter st h
def xp1(K:ay)(tl:TE):TI:=fun σ H R=>tl σ H fun x H1=>∃a,x= .ref a/\(∃xs,SqL K H1 a xs)/\R (Itl K a) H1
def xoP(K:ay)(tl:TE):TI:=fun σ H R=>tl σ H fun x H1=>∃a,x= .ref a/\(∃xs,SqT K H1 a xs)/\R (Itt K a) H1
def ya{l:Expr}{tl:TE}(hl:PE X l tl):PI X tg l (xp1 X.K tl):=by
 intro pins s σ H R I h;refine thn (hl pins s σ H _ I h) fun v s1 ⟨x,H1,I1,r1,q1⟩=>?_;obtain⟨a,e,⟨xs,hq⟩,q⟩:=q1;subst e;cases r1;obtain⟨its,rv,p,hz⟩:=I1.list hq;refine dg p.isList ?_;refine⟨s1.heap.objs.size,[s1.heap.objs.size],_,_,H1,rfl,I1.kept (t':=s1.toks) fun b o e=>af _ e,xkK a _,⟨_,aI _ rfl,rfl,rfl⟩,fun b hb=>?_,q⟩;have e:b=s1.heap.objs.size:=by simpa using hb
 subst e;exact I1.fpOk (aq _) (I1.hok.fresh (aq _))
def xcm{l:Expr}{tl:TE}(hl:PE X l tl):PI X tg l (xoP X.K tl):=by
 intro pins s σ H R I h;refine thn (hl pins s σ H _ I h) fun v s1 ⟨x,H1,I1,r1,q1⟩=>?_;obtain⟨a,e,⟨xs,hq⟩,q⟩:=q1;subst e;cases r1;obtain⟨its,rv,p,hz⟩:=I1.tuple hq;refine fM (show s1.heap.IsTuple a its.toArray from p) ?_;refine⟨s1.heap.objs.size,[s1.heap.objs.size],_,_,H1,rfl,I1.kept (t':=s1.toks) fun b o e=>af _ e,xjx a _,⟨_,aI _ rfl,rfl,rfl⟩,fun b hb=>?_,q⟩;have e:b=s1.heap.objs.size:=by simpa using hb
 subst e;exact I1.fpOk (aq _) (I1.hok.fresh (aq _))
def xl8(wi:TI)(g:TG)(tb:TS):TS:=fun D σ H=>wi σ H fun J H1=>∃W:Nat->Nat->St->Hp->Prop,(∃m,W 0 m σ H1)/\∀i m σ H,W i m σ H->
 (J.stop i H/\D.nx σ H)\/(J.go i H/\∃N:St->Hp->Prop,(∀σ' H',N σ' H'->∃m',m'<m/\W (i+1) m' σ' H')/\∀x H',J.yld i H x H'->g x σ H' fun σ2 H2=>tb {D with nx:=N,ct:=N,bk:=D.nx} σ2 H2)
def jM(fp:List Addr)(h:Heap):List (Addr×Obj):=fp.filterMap fun b=>(h.get? b).map fun o=>(b,o)
def jC{o:Obj}(hb:b∈fp)(e:h.get? b=some o):(b,o)∈jM fp h:=iQ.mpr ⟨b,hb,by rw[e];rfl⟩
theorem xkL{p:Addr×Obj}(hp:p∈jM fp h):p.1∈fp/\h.get? p.1=some p.2:=by
 obtain⟨b,hb,e⟩:=iQ.mp hp;cases q:h.get? b with
 |none=>rw[q]at e;cases e
 |some o=>
  rw[q]at e;have e':(b,o)=p:=aQ e;subst e';exact⟨hb,q⟩
def Inv.pinned(I:Inv X pins σ H s)(hf:∀b∈fp,xaS X pins H b)(ho:∀b∈fp,∃o,s.heap.get? b=some o/\∀v,o.data≠.cell v):Inv X (pins++jM fp s.heap) σ H s:=
 I.pins_of fun p hp=>(bL.mp hp).elim (fun z=>I.pin p (bb _ z)) fun z=>by
  obtain⟨hb,e⟩:=xkL z;obtain⟨f0,f1,f2,_⟩:=hf p.1 hb;obtain⟨o,e',d⟩:=ho p.1 hb;rw[e]at e';cases e';exact⟨e,f0,f1,f2,d⟩
def Inv.unpinned{pl:List (Addr×Obj)}(I:Inv X (pins++pl) σ H s):Inv X pins σ H s:=I.pins_of fun p hp=>I.pin p (bb _ (a8 _ hp))
theorem xoQ{iter:Expr}{body:List Stmt}{wi:TI}{tb:TS}{pos:Pos}(hp:PassesOwn (model X.prog X.w) X.A X.env X.xe)(hc:X.calm=true)(hi:PI X tg iter wi)(hg:PG X tg g)(hb:PSs X body tb)
  (hs:∀x,eK iter X.env x=pure x:=by intro _;rfl):PS X (.For tg iter body [] pos) (xl8 wi g tb):=by
 intro pins s σ H D I h;refine wpAny_For (thn (hi pins s σ H _ I h) fun v s1 h1=>thn h1 fun kh s2 h2=>?_) hs;refine L2.oG fun gq kq=>?_;obtain⟨it,fp,tn,J,H2,e,I2,T,kf,f2,W,⟨m0,w0⟩,turn⟩:=h2;refine kq ?_;subst e
 -- kd stays true of ke j9 objects through ke loop
 have j8:∀{H':Hp},(∀b∈fp,H' b=none)->∀b∈fp,xaS X pins H' b:=fun hn b hb=>⟨hn b hb,(f2 b hb).2⟩;refine codeAny_forLoop_any (fun n s'=>∃i σ' H',Inv X pins σ' H' s'/\tn i s'.heap/\(∀b∈fp,H' b=none)/\W i n σ' H') ?_ m0 ⟨0,σ,H2,I2,kf,fun b hb=>(f2 b hb).1,w0⟩;rintro n s3 ⟨i,σ3,H3,I3,kb,kc,w3⟩;rcases turn i n σ3 H3 w3 with⟨stop,qn⟩|⟨go,N,hN,step⟩
 ·refine dR hp (thn (T.done X rfl rfl rfl hc i pins s3 σ3 H3 X.xe I3 (j8 kc) kb stop) fun r s4 ⟨hr,I4⟩=>?_);subst hr;exact cV ⟨σ3,H3,I4,qn⟩
 ·refine dR hp (thn (T.item X rfl rfl rfl hc i pins s3 σ3 H3 X.xe I3 (j8 kc) kb go) fun r s4 ⟨u,hr,h4⟩=>?_);subst hr;refine dR hp (thn h4 fun _ s5 ⟨x,H5,I5,r5,y5,ka,kg⟩=>?_);have I5':=I5.pinned (j8 kg) (T.obj _ _ ka);refine dR hp (thn (hg _ s5 σ3 H5 x u _ I5' r5 (step x H5 y5)) fun _ s6 ⟨σ6,H6,I6,q6⟩=>?_);refine dR hp (thn (hb _ s6 σ6 H6 _ I6 q6) fun f s7 q7=>?_);have again:∀{σ7:St} {H7:Hp},Inv X (pins++jM fp s5.heap) σ7 H7 s7->N σ7 H7->∃m,m<n/\∃i σ' H',Inv X pins σ' H' s7/\tn i s7.heap/\(∀b∈fp,H' b=none)/\W i m σ' H':=fun{σ7 H7} I7 n7=>by
   refine L2.oG fun gq kq=>?_;obtain⟨m',hm,w7⟩:=hN σ7 H7 n7;refine kq ?_;refine⟨m',hm,i+1,σ7,H7,I7.unpinned,T.keep _ _ _ ka fun b hb o e=>(I7.pin (b,o) (bb _ (bb _ (jC hb e)))).1,fun b hb=>?_,w7⟩;refine L2.oG fun gq kq=>?_;obtain⟨o,e,d⟩:=T.obj _ _ ka b hb;refine kq ?_;exact(I7.pin (b,o) (bb _ (bb _ (jC hb e)))).2.1
  cases f with
  |next=>obtain⟨σ7,H7,I7,n7⟩:=q7;exact again I7 n7
  |cont=>obtain⟨σ7,H7,I7,n7⟩:=q7;exact again I7 n7
  |brk=>obtain⟨σ7,H7,I7,q7⟩:=q7;exact⟨σ7,H7,I7.unpinned,q7⟩
  |ret v=>obtain⟨x7,σ7,H7,I7,r7,q7⟩:=q7;exact⟨x7,σ7,H7,I7.unpinned,r7,q7⟩
def xl9{tb:TS}(Pv:Nat->St->Hp->Prop)(h0:Pv 0 σ H)(hl:∀i σ H,i<=xs.length->Pv i σ H->SqL K H a xs)
  (hs:∀i x σ H,xs[i]? =some x->Pv i σ H->g x σ H fun σ2 H2=>tb {D with nx:=Pv (i+1),ct:=Pv (i+1),bk:=D.nx} σ2 H2) (hd:∀σ H,Pv xs.length σ H->D.nx σ H):
  ∃W:Nat->Nat->St->Hp->Prop,(∃m,W 0 m σ H)/\∀i m σ H,W i m σ H->
   ((Itl K a).stop i H/\D.nx σ H)\/((Itl K a).go i H/\∃N:St->Hp->Prop,(∀σ' H',N σ' H'->∃m',m'<m/\W (i+1) m' σ' H')/\∀x H',(Itl K a).yld i H x H'->g x σ H' fun σ2 H2=>tb {D with nx:=N,ct:=N,bk:=D.nx} σ2 H2):=by
 refine⟨fun i m σ H=>m=xs.length - i/\i<=xs.length/\Pv i σ H,⟨xs.length,by simp,bu _,h0⟩,?_⟩;rintro i m σ H ⟨rfl,hi,p⟩;have q:=hl i σ H hi p
 by_cases j8:i<xs.length
 ·refine .inr ⟨⟨xs,xs[i],q,by simp[j8]⟩,Pv (i+1),fun σ' H' p'=>⟨xs.length - (i+1),by lia,rfl,j8,p'⟩,fun x H' y=>?_⟩;obtain⟨e,y⟩:=y;subst e;exact hs i x σ _ (y xs q) p
 ·have e:i=xs.length:=by lia
  subst e;exact .inl ⟨⟨xs,q,aq _⟩,hd σ H p⟩
def xnv{tb:TS}(Pv:Nat->St->Hp->Prop)(h0:Pv 0 σ H)(hl:∀i σ H,i<=xs.length->Pv i σ H->SqT K H a xs)
  (hs:∀i x σ H,xs[i]? =some x->Pv i σ H->g x σ H fun σ2 H2=>tb {D with nx:=Pv (i+1),ct:=Pv (i+1),bk:=D.nx} σ2 H2) (hd:∀σ H,Pv xs.length σ H->D.nx σ H):
  ∃W:Nat->Nat->St->Hp->Prop,(∃m,W 0 m σ H)/\∀i m σ H,W i m σ H->
   ((Itt K a).stop i H/\D.nx σ H)\/((Itt K a).go i H/\∃N:St->Hp->Prop,(∀σ' H',N σ' H'->∃m',m'<m/\W (i+1) m' σ' H')/\∀x H',(Itt K a).yld i H x H'->g x σ H' fun σ2 H2=>tb {D with nx:=N,ct:=N,bk:=D.nx} σ2 H2):=by
 refine⟨fun i m σ H=>m=xs.length - i/\i<=xs.length/\Pv i σ H,⟨xs.length,by simp,bu _,h0⟩,?_⟩;rintro i m σ H ⟨rfl,hi,p⟩;have q:=hl i σ H hi p
 by_cases j8:i<xs.length
 ·refine .inr ⟨⟨xs,xs[i],q,by simp[j8]⟩,Pv (i+1),fun σ' H' p'=>⟨xs.length - (i+1),by lia,rfl,j8,p'⟩,fun x H' y=>?_⟩;obtain⟨e,y⟩:=y;subst e;exact hs i x σ _ (y xs q) p
 ·have e:i=xs.length:=by lia
  subst e;exact .inl ⟨⟨xs,q,aq _⟩,hd σ H p⟩
abbrev R2:=V->V->Hp->VK->Prop
def OpR(X:Cx)(f:Value->Value->Sem Value)(r:R2):Prop:=
 ∀(pins:List (Addr×Obj)) (s:ai) (σ:St) (H:Hp) (x y:V) (v u:Value) (Q:VK),Inv X pins σ H s->RelV x v->RelV y u->r x y H Q->
  wpAny (model X.prog X.w) X.A (f v u) (EP X pins σ Q) X.xe s
def yq(X:Cx)(f:Value)(r:List V->Hp->VK->Prop):Prop:=
 ∀(pins:List (Addr×Obj)) (s:ai) (σ:St) (H:Hp) (xs:List V) (us:List Value) (Q:VK),Inv X pins σ H s->Vals xs us->r xs H Q->
  wpAny (model X.prog X.w) X.A (call f us) (EP X pins σ Q) X.xe s
def tOp(r:R2)(ta tb:TE):TE:=fun σ H Q=>ta σ H fun x H1=>tb σ H1 fun y H2=>r x y H2 Q
def rI(C:Int->Int->Prop)(g:Int->Int->V):R2:=fun x y H Q=>∃i j,x= .int i/\y= .int j/\C i j/\Q (g i j) H
def rI0(g:Int->Int->V):R2:=fun x y H Q=>∃i j,x= .int i/\y= .int j/\Q (g i j) H
section
variable {X:Cx} {a b c:Expr} {ta tb tc:TE} {pos:Pos}
def xma(ha:PE X a ta)(hb:PE X b tb){R:V->V->Hp->Prop}(I:Inv X pins σ H s)
  (h:ta σ H fun x H1=>tb σ H1 fun y H2=>R x y H2) {f:Value->Value->Sem Value}
  (hf:∀v u s2 x y H2,Inv X pins σ H2 s2->RelV x v->RelV y u->R x y H2->wpAny (model X.prog X.w) X.A (f v u) Q X.xe s2):
  wpAny (model X.prog X.w) X.A (eval a X.env) (fun v s₁=>wpAny (model X.prog X.w) X.A (eval b X.env) (fun u s₂=>wpAny (model X.prog X.w) X.A (f v u) Q X.xe s₂) X.xe s₁) X.xe s:=by
 refine thn (ha pins s σ H _ I h) fun v s1 ⟨x,H1,I1,r1,q1⟩=>?_;refine thn (hb pins s1 σ H1 _ I1 q1) fun u s2 ⟨y,H2,I2,r2,q2⟩=>?_;exact hf v u s2 x y H2 I2 r1 r2 q2
def xy{op:Operator}{r:R2}(ho:OpR X (bQ op) r)(ha:PE X a ta)(hb:PE X b tb):PE X (.BinOp a op b pos) (tOp r ta tb):=by
 intro pins s σ H Q I h;exact wpAny_BinOp (xma ha hb I h fun v u s2 x y H2 I2 rx ry q=>ho pins s2 σ H2 x y v u Q I2 rx ry q)
def opI{f:Value->Value->Sem Value}{C:Int->Int->Prop}{g:Int->Int->Int}
  (rule:∀(i j:Int) (t u:Tok) (s:ai) (Q:Value->ai->Prop) (E:Value->ai->Prop),C i j->Q (.int (g i j) s.toks) {s with toks:=s.toks+1}->wpAny (model X.prog X.w) X.A (f (.int i t) (.int j u)) Q E s):
  OpR X f (rI C fun i j=>.int (g i j)):=by
 intro pins s σ H x y v u Q I rx ry h;obtain⟨i,j,rfl,rfl,hc,q⟩:=h;obtain⟨t,rfl⟩:=rx;obtain⟨t',rfl⟩:=ry;exact rule i j t t' s _ _ hc ⟨.int (g i j),H,I.tok _,⟨_,rfl⟩,q⟩
def xoR{f:Value->Value->Sem Value}{g:Int->Int->Int}
  (rule:∀(i j:Int) (t u:Tok) (s:ai) (Q:Value->ai->Prop) (E:Value->ai->Prop),Q (.int (g i j) s.toks) {s with toks:=s.toks+1}->wpAny (model X.prog X.w) X.A (f (.int i t) (.int j u)) Q E s):
  OpR X f (rI0 fun i j=>.int (g i j)):=by
 intro pins s σ H x y v u Q I rx ry h;obtain⟨i,j,rfl,rfl,q⟩:=h;obtain⟨t,rfl⟩:=rx;obtain⟨t',rfl⟩:=ry;exact rule i j t t' s _ _ ⟨.int (g i j),H,I.tok _,⟨_,rfl⟩,q⟩
def xjy{f:Value->Value->Sem Value}{g:Int->Int->Bool}
  (rule:∀(i j:Int) (t u:Tok) (s:ai) (Q:Value->ai->Prop) (E:Value->ai->Prop),Q (.bool (g i j)) s->wpAny (model X.prog X.w) X.A (f (.int i t) (.int j u)) Q E s):
  OpR X f (rI0 fun i j=>.bl (g i j)):=by
 intro pins s σ H x y v u Q I rx ry h;obtain⟨i,j,rfl,rfl,q⟩:=h;obtain⟨t,rfl⟩:=rx;obtain⟨t',rfl⟩:=ry;exact rule i j t t' s _ _ ⟨.bl (g i j),H,I,rfl,q⟩
def xoS(i j:Int):Prop:=0<=j/\j<=1000000/\i.natAbs<2^64
def xjz(i j:Int):Prop:=(-(2^64)<i/\i<2^64)\/(-(2^64)<j/\j<2^64)
def xjz.ok{i j:Int}(h:xjz i j):IntMulOk i j:=by
 rcases h with⟨h1,h2⟩|⟨h1,h2⟩
 ·exact .of_left (intBits_le_64 h1 h2)
 ·exact .of_right (intBits_le_64 h1 h2)
def xoT:OpR X (bQ .Add) (rI0 fun i j=>.int (i+j)):=xoR fun _ _ _ _ _ _ _ q=>add_int q
def xoU:OpR X (bQ .Sub) (rI0 fun i j=>.int (i - j)):=xoR fun _ _ _ _ _ _ _ q=>sub_int q
def xoV:OpR X (bQ .Mult) (rI xjz fun i j=>.int (i*j)):=opI fun _ _ _ _ _ _ _ hc q=>mul_int q hc.ok
def xoW:OpR X (bQ .Mod) (rI (fun _ j=>0<j) fun i j=>.int (i%j)):=opI fun i j _ _ _ _ _ hc q=>by
 have h1:(0:Int)<j:=hc;exact mod_int' (by lia) (by rw[Int.fmod_eq_emod_of_nonneg i (by lia)];exact q)
def xoX:OpR X (bQ .Pow) (rI xoS fun i j=>.int (i^j.toNat)):=opI fun _ _ _ _ _ _ _ hc q=>pow_int_small hc.1 hc.2.1 hc.2.2 q
end
def xoY:V->V->Bool
 | .non,.non=>true| .non,.int _=>true| .int _,.non=>true| .non,.bl _=>true| .bl _,.non=>true| .non,.str _=>true| .str _,.non=>true
 | .int _,.int _=>true| .bl _,.bl _=>true| .str _,.str _=>true| .byt _,.byt _=>true
 | .int _,.str _=>true| .str _,.int _=>true| .bl _,.str _=>true| .str _,.bl _=>true
 |_,_=>false
def rEq:R2:=fun x y H Q=>xoY x y=true/\Q (.bl (decide (x=y))) H
def rNe:R2:=fun x y H Q=>xoY x y=true/\Q (.bl (!decide (x=y))) H
def xiW{i j:Int}:decide (V.int i=V.int j)=(i==j):=by
 rw[cW];simp
def xkM{i j:Bool}:decide (V.bl i=V.bl j)=(i==j):=by
 rw[cW];simp
def xiX{i j:Str}:decide (V.str i=V.str j)=(i==j):=by
 rw[cW];simp
def xiY{i j:Array UInt8}:decide (V.byt i=V.byt j)=(i.toList==j.toList):=by
 rw[cW];cases i;cases j;simp
section
variable {a b c:Expr} {tc:TE} {pos:Pos}
def xO{Q:VK}{k k':Bool}(I:Inv X pins σ H s)(q:Q (.bl k) H)(e:k=k'):EP X pins σ Q (.bool k') s:=by
 subst e;exact⟨.bl k,H,I,rfl,q⟩
theorem xne:OpR X (bg .Eq) rEq:=by
 intro pins s σ H x y v u Q I rx ry h;obtain⟨hs,q⟩:=h;cases x with
 |non=>
  cases rx;cases y with
  |non=>cases ry;exact PySem.EqNone.eq_none_none (xO I q (by simp))
  |bl j=>cases ry;exact PySem.EqNone.eq_none_bool (xO I q (by simp))
  |int j=>obtain⟨t',rfl⟩:=ry;exact PySem.EqNone.eq_none_int (xO I q (by simp))
  |str j=>obtain⟨t',rfl⟩:=ry;exact PySem.EqNone.eq_none_str (xO I q (by simp))
  |_=>exact absurd (show false=true from hs) aB
 |bl i=>
  cases rx;cases y with
  |non=>cases ry;exact PySem.EqNone.eq_bool_none (xO I q (by simp))
  |bl j=>cases ry;exact eq_bool (xO I q xkM)
  |str j=>obtain⟨t',rfl⟩:=ry;exact PySem.EqMixed.eq_bool_str (xO I q (by simp))
  |_=>exact absurd (show false=true from hs) aB
 |int i=>
  obtain⟨t,rfl⟩:=rx;cases y with
  |non=>cases ry;exact PySem.EqNone.eq_int_none (xO I q (by simp))
  |int j=>obtain⟨t',rfl⟩:=ry;exact eq_int (xO I q xiW)
  |str j=>obtain⟨t',rfl⟩:=ry;exact PySem.EqMixed.eq_int_str (xO I q (by simp))
  |_=>exact absurd (show false=true from hs) aB
 |str i=>
  obtain⟨t,rfl⟩:=rx;cases y with
  |non=>cases ry;exact PySem.EqNone.eq_str_none (xO I q (by simp))
  |bl j=>cases ry;exact PySem.EqMixed.eq_str_bool (xO I q (by simp))
  |int j=>obtain⟨t',rfl⟩:=ry;exact PySem.EqMixed.eq_str_int (xO I q (by simp))
  |str j=>obtain⟨t',rfl⟩:=ry;exact eq_str (xO I q xiX)
  |_=>exact absurd (show false=true from hs) aB
 |byt i=>
  obtain⟨t,rfl⟩:=rx;cases y with
  |byt j=>obtain⟨t',rfl⟩:=ry;exact W.eq_bytes (xO I q xiY)
  |_=>exact absurd (show false=true from hs) aB
 |_=>cases y<;> exact absurd (show false=true from hs) aB
theorem xnf:OpR X (bg .NotEq) rNe:=by
 intro pins s σ H x y v u Q I rx ry h;obtain⟨hs,q⟩:=h;cases x with
 |non=>
  cases rx;cases y with
  |non=>cases ry;exact PySem.EqNone.ne_none_none (xO I q (by simp))
  |bl j=>cases ry;exact PySem.EqNone.ne_none_bool (xO I q (by simp))
  |int j=>obtain⟨t',rfl⟩:=ry;exact PySem.EqNone.ne_none_int (xO I q (by simp))
  |str j=>obtain⟨t',rfl⟩:=ry;exact PySem.EqNone.ne_none_str (xO I q (by simp))
  |_=>exact absurd (show false=true from hs) aB
 |bl i=>
  cases rx;cases y with
  |non=>cases ry;exact PySem.EqNone.ne_bool_none (xO I q (by simp))
  |bl j=>cases ry;exact ne_bool (xO I q (congrArg not xkM))
  |str j=>obtain⟨t',rfl⟩:=ry;exact PySem.EqMixed.ne_bool_str (xO I q (by simp))
  |_=>exact absurd (show false=true from hs) aB
 |int i=>
  obtain⟨t,rfl⟩:=rx;cases y with
  |non=>cases ry;exact PySem.EqNone.ne_int_none (xO I q (by simp))
  |int j=>obtain⟨t',rfl⟩:=ry;exact ne_int (xO I q (congrArg not xiW))
  |str j=>obtain⟨t',rfl⟩:=ry;exact PySem.EqMixed.ne_int_str (xO I q (by simp))
  |_=>exact absurd (show false=true from hs) aB
 |str i=>
  obtain⟨t,rfl⟩:=rx;cases y with
  |non=>cases ry;exact PySem.EqNone.ne_str_none (xO I q (by simp))
  |bl j=>cases ry;exact PySem.EqMixed.ne_str_bool (xO I q (by simp))
  |int j=>obtain⟨t',rfl⟩:=ry;exact PySem.EqMixed.ne_str_int (xO I q (by simp))
  |str j=>obtain⟨t',rfl⟩:=ry;exact ne_str (xO I q (congrArg not xiX))
  |_=>exact absurd (show false=true from hs) aB
 |byt i=>
  obtain⟨t,rfl⟩:=rx;cases y with
  |byt j=>obtain⟨t',rfl⟩:=ry;exact W.ne_bytes (xO I q (congrArg not xiY))
  |_=>exact absurd (show false=true from hs) aB
 |_=>cases y<;> exact absurd (show false=true from hs) aB
def xp2:OpR X (bg .Lt) (rI0 fun i j=>.bl (decide (i<j))):=xjy fun _ _ _ _ _ _ _ q=>lt_int q
def xp3:OpR X (bg .LtE) (rI0 fun i j=>.bl (decide (i<=j))):=xjy fun _ _ _ _ _ _ _ q=>le_int q
def xp4:OpR X (bg .Gt) (rI0 fun i j=>.bl (decide (j<i))):=xjy fun _ _ _ _ _ _ _ q=>gt_int q
def xp5:OpR X (bg .GtE) (rI0 fun i j=>.bl (decide (j<=i))):=xjy fun _ _ _ _ _ _ _ q=>ge_int q
def xkN:OpR X (bg .In) (fun x y H Q=>∃i j,x= .str i/\y= .str j/\Q (.bl (!(bT j i 0 j.length 1).isEmpty)) H):=by
 intro pins s σ H x y v u Q I rx ry h;obtain⟨i,j,rfl,rfl,q⟩:=h;obtain⟨t,rfl⟩:=rx;obtain⟨t',rfl⟩:=ry;exact in_str (xO I q rfl)
def xg0(b:Expr)(h:op≠.In:=by decide)(h2:op≠.NotIn:=by decide):bY op b=false:=by
 have e1:(op==CmpOp.In)=false:=by cases op<;> first|rfl|exact absurd rfl h
 have e2:(op==CmpOp.NotIn)=false:=by cases op<;> first|rfl|exact absurd rfl h2
 cases b<;> simp[bY,e1,e2]
def xnw{r:R2}(ho:OpR X (bg op) r)(ha:PE X a ta)(hb:PE X b tb)(hm:bY op b=false):PE X (.Compare a [op] [b] pos) (tOp r ta tb):=by
 intro pins s σ H Q I h;exact wpAny_Compare1 (xma ha hb I h fun v u s2 x y H2 I2 rx ry q=>ho pins s2 σ H2 x y v u Q I2 rx ry q) hm
def xcn:(ax:Nat)<2^63:=by rw[ar];decide
def yj:OpR X (bQ .Add) (fun x y H Q=>∃i j,x= .str i/\y= .str j/\i.length+j.length<=ax/\Q (.str (i++j)) H):=by
 intro pins s σ H x y v u Q I rx ry h;obtain⟨i,j,rfl,rfl,hz,q⟩:=h;obtain⟨t,rfl⟩:=rx;obtain⟨t',rfl⟩:=ry;exact add_str (fun t' tk=>⟨.str (i++j),H,I.tok _,⟨_,rfl⟩,q⟩) hz
theorem vals1{x:V}(r:Vals [x] us):∃u,us=[u]/\RelV x u:=by
 cases r with
 |cons r1 r2=>cases r2;exact⟨_,rfl,r1⟩
theorem vals2{x:V}(r:Vals [x,y] us):∃u w',us=[u,w']/\RelV x u/\RelV y w':=by
 cases r with
 |cons r1 r2=>
  cases r2 with
  |cons r3 r4=>cases r4;exact⟨_,_,rfl,r1,r3⟩
def xmb:yq X (.builtin "abs") (fun xs H Q=>∃i,xs=[.int i]/\Q (.int (if i<0 then -i else i)) H):=by
 intro pins s σ H xs us Q I r h;obtain⟨i,rfl,q⟩:=h;obtain⟨u,rfl,t,rfl⟩:=vals1 r;exact call_abs_int fun u tk=>⟨.int (if i<0 then -i else i),H,I.tok _,⟨_,rfl⟩,q⟩
def xkO(hc:X.calm=true):yq X (.builtin "max") (fun xs H Q=>∃i j,xs=[.int i,.int j]/\Q (.int (if j > i then j else i)) H):=by
 intro pins s σ H xs us Q I r h;obtain⟨i,j,rfl,q⟩:=h;obtain⟨u,w',rfl,⟨t,rfl⟩,⟨t',rfl⟩⟩:=vals2 r;refine max_two_ints (I.ok.hd hc) fun h' tk k=>⟨_,H,I.kept k,?_,q⟩
 by_cases hj:j > i
 ·rw[if_pos hj,if_pos hj];exact⟨_,rfl⟩
 ·rw[if_neg hj,if_neg hj];exact⟨_,rfl⟩
end
structure xdO(h:Heap)(x dx C:Addr)(mA:Str->Option Value):Prop where
 obj:h.get? x=some (dZ C dx)
 ns:h.Ns1 dx mA
 ne:dx≠x
def xkP(n:h.Ns1 dx mA):∃od,h.get? dx=some od/\∀name,W.lookIn name od=some (mA name):=by
 obtain⟨o,es,ep,ho,hd,hk,_,hm⟩:=n;refine⟨o,ho,fun name=>?_⟩;have e:=hm name;unfold nsFind findBy at e;rw[<-iR]at e;unfold W.lookIn;rw[hd];dsimp only
 split
 ·rename_i y q;rw[q]at e;exact congrArg some e
 ·rename_i q;rw[q]at e;have a:es.toList.any (·.refKey)=false:=by
   rw[List.any_eq_false];intro y hy;obtain⟨z,t,j8⟩:=hk y (Array.mem_toList_iff.mp hy);simp[DictEntry.refKey,j8]
  have a':¬es.toList.any (·.refKey)=true:=by rw[a];exact aB
  rw[if_neg a'];exact congrArg some e
def xdO.look{x:Addr}(I:xdO h x dx C mA):∃od,W.InstAt h x (dZ C dx) C (some od)/\∀name,W.lookIn name od=some (mA name):=
 let⟨od,ho,hl⟩:=xkP I.ns
 ⟨od,⟨I.obj,rfl,rfl,ho⟩,hl⟩
section
variable {prog:aX} {x:Addr} {name:Str} {v:Value}
def get_map{expr:Bool}(X:K.In s.heap)(I:xdO s.heap x dx C mA)(hg:ia K C name=true)(hh:eQ K C=true)
  (ha:aT K (.ref C) name=some none) (hv:mA name=some v) (j8:W.handedIn v=true) (h:Q v {s with toks:=s.toks+1}):
  wpAny (model prog w) A (getAttr (.ref x) name expr) Q E s:=by
 obtain⟨od,J,hl⟩:=I.look;exact W.get_value X J (iz hg).1 (W.findObj_own hh ha rfl (by rw[hl,hv])) j8 h
def xmc{Q:Value×List Value->ai->Prop}(X:K.In s.heap)(I:xdO s.heap x dx C mA)(hg:ia K C name=true)
  (hf:aT K (.ref C) name=some (some (.ref f))) (ht:W.isFn K (.ref f)=true) (hv:mA name=none) (h:Q (.ref f,[.ref x]) s):
  wpAny (model prog w) A (fb (.ref x) name pl) Q E s:=by
 obtain⟨od,J,hl⟩:=I.look;exact W.method_fn X J (iz hg).1 (iz hg).2 hf (beq_iff_eq.mp ht) (by show(W.lookIn name od).map (·.isSome)=some false;rw[hl,hv];rfl) h
def xnx{ns:List Str}{Q:Unit->ai->Prop}(X:K.In s.heap)(I:xdO s.heap x dx C mA)
  (hs:aT K (.ref C) "__setattr__"=some (some (.builtin "object.__setattr__"))) (hp:W.plainOver K C=true) (ht:W.takerIn K C name=some none) (hh:eQ K C=true)
  (hw:PySem.Within mA ns) (hsz:ns.length<=ax)
  (h:∀h',xdO h' x dx C (fun y=>if y=name then some v else mA y)->fk dx s.heap h'->Q () {s with heap:=h',toks:=s.toks+2}):
  wpAny (model prog w) A (setAttr (.ref x) name v) Q E s:=by
 obtain⟨od,J,hl⟩:=I.look;refine W.set_plain X J hs (W.osa_open (s:={s with toks:=s.toks+1}) (r:=none) X J hp ht fun b=>?_);obtain⟨cd,hc,kc⟩:=W.any_some hh;have hx:s.heap.get? x=some ⟨.ref C,some dx,.plain,#[]⟩:=I.obj;refine aa (ak (aa (aa (fD hx (aa (W.Looks.here (s:={s with toks:=s.toks+1}) (iA X hc) ?_))))));rw[kc];refine ak (a:=some dx) (aa (ak (aa ?_)));refine wpAny_nsSet1 (s:={s with toks:=s.toks+1}) I.ns fun h' j9 j8=>?_;obtain⟨oD,ke,kf,ka,kb,kd⟩:=j9.count (PySem.Within.cons name v hw);refine aa (wpAny_lookBehind ka (by rw[kb];exact pastItsLine_dict (aO kd (by rw[aU];lia))) ?_);exact ak (h _ ⟨(j8.2 _ (aL I.ne)).trans I.obj,j9,I.ne⟩ j8)
def xmd{R:gs->ai->Prop}{vs:List Value}(X:K.In s.heap)(hm:W.makesIn K C=true)
  (hi:aT K (.ref C) "__init__"=some (some (.ref f))) (hf:W.typeIn K (.ref f)=some (.type "function"))
  (h:bX (model prog w) (A.under (.builtin "type.__call__" ⟨.ref C::vs,kw⟩)) (.call (.ref f) ⟨.ref (s.heap.objs.size+1)::vs,kw⟩) (W.InitBack (s.heap.objs.size+1) R)
   {s with heap:=(s.heap.push cK).push (dZ C s.heap.objs.size)}):
  bX (model prog w) A (.call (.ref C) ⟨vs,kw⟩) R s:=by
 obtain⟨hh,g,d,t,os⟩:=s;exact W.make_core (W.makes_of X hm) (W.looks_findIn X hi) (fun self=>W.bind_fn X self hf) (.inl rfl) h
end
def zN(f:Str)(v:V):List (Str×V)->List (Str×V)
 |[]=>[(f,v)]
 |(g,x)::r=>if g=f then(g,v)::r else(g,x)::zN f v r
theorem xdt(f g:Str)(v:V):∀fs:List (Str×V),(zN f v fs).lookup g=if g=f then some v else fs.lookup g
 |[]=>by
  show c9 g [(f,v)]=_
  by_cases h:g=f
  ·have hb:(g==f)=true:=beq_iff_eq.mpr h;simp only[c9,hb,if_pos h]
  ·have hb:(g==f)=false:=beq_eq_false_iff_ne.mpr h;simp only[c9,hb,if_neg h]
 |(k,x)::r=>by
  have ih:=xdt f g v r;rw[show zN f v ((k,x)::r)=(if k=f then(k,v)::r else(k,x)::zN f v r)from rfl]
  by_cases hk:k=f
  ·rw[if_pos hk]
   by_cases h:g=k
   ·have hb:(g==k)=true:=beq_iff_eq.mpr h;simp only[c9,hb,if_pos (h.trans hk)]
   ·have hb:(g==k)=false:=beq_eq_false_iff_ne.mpr h;simp only[c9,hb,if_neg (fun e:g=f=>h (e.trans hk.symm))]
  ·rw[if_neg hk]
   by_cases h:g=k
   ·have hb:(g==k)=true:=beq_iff_eq.mpr h;simp only[c9,hb,if_neg (fun e:g=f=>hk (h.symm.trans e))]
   ·have hb:(g==k)=false:=beq_eq_false_iff_ne.mpr h;simp only[c9,hb];exact ih
theorem xco(f:Str)(v:V):∀fs:List (Str×V),f∈(zN f v fs).map (·.1)/\∀g,g∈fs.map (·.1)->g∈(zN f v fs).map (·.1)
 |[]=>⟨by simp[zN],fun g h=>by simp at h⟩
 |(k,x)::r=>by
  obtain⟨i1,i2⟩:=xco f v r;rw[show zN f v ((k,x)::r)=(if k=f then(k,v)::r else(k,x)::zN f v r)from rfl]
  by_cases hk:k=f
  ·rw[if_pos hk];subst hk;exact⟨by simp,fun g h=>by simpa using h⟩
  ·rw[if_neg hk];refine⟨?_,fun g h=>?_⟩
   ·rw[bI];exact aH _ i1
   ·rw[bI]at h⊢;rcases ah.mp h with e|e
    ·exact ah.mpr (.inl e)
    ·exact aH _ (i2 g e)
theorem xaT(f:Str)(v:V):∀fs:List (Str×V),(zN f v fs).length<=fs.length+1
 |[]=>by simp[zN]
 |(k,x)::r=>by
  have ih:=xaT f v r;rw[show zN f v ((k,x)::r)=(if k=f then(k,v)::r else(k,x)::zN f v r)from rfl]
  by_cases hk:k=f
  ·rw[if_pos hk,aU,aU];lia
  ·rw[if_neg hk,aU,aU];lia
theorem uI.some_of{o:Option Value}(r:uI (some v) o):∃u,o=some u/\RelV v u:=by
 cases o with
 |none=>exact(show False from r).elim
 |some u=>exact⟨u,rfl,r⟩
theorem uI.none_of{o:Option Value}(r:uI none o):o=none:=by
 cases o with
 |none=>rfl
 |some u=>exact(show False from r).elim
theorem xkQ(r:RelV v u):W.handedIn u=true:=by
 cases v with
 |non=>cases (show u=a7 from r);rfl
 |bl b=>cases (show u=cS b from r);rfl
 |int i=>obtain⟨t,e⟩:=(show∃t,u=fK i t from r);cases e;rfl
 |str x=>obtain⟨t,e⟩:=(show∃t,u=dY x t from r);cases e;rfl
 |byt b=>obtain⟨t,e⟩:=(show∃t,u=Value.bytes b t from r);cases e;rfl
 |flt b=>obtain⟨t,e⟩:=(show∃t,u=j0 b t from r);cases e;rfl
 |ref a=>cases (show u=aF a from r);rfl
 |ty n=>cases (show u=dA n from r);rfl
section
variable {fs fs':List (Str×V)}
def xda(hok:HOk P w H h)(e:H a=some (.ins C dx fs)):∃mA,xdO h a dx C mA/\(∀f,uI (fs.lookup f) (mA f))/\PySem.Within mA (fs.map (·.1))/\fs.length<=1000/\H dx=some (.own a):=by
 obtain⟨d,z,ne,ob,mA,n,r,q⟩:=(show xR P w H h a (.ins C dx fs)from hok a _ e);exact⟨mA,⟨ob,n,ne⟩,r,q,z,d⟩
end
structure Cls(K:ay)(C:Addr):Prop where
 pg:ia K C cX=true
 hd:eQ K C=true
 po:W.plainOver K C=true
 sa:aT K (.ref C) "__setattr__"=some (some (.builtin "object.__setattr__"))
def Cls.get(c:Cls K C)(f:Str):ia K C f=true:=c.pg
def xB(K:ay)(C:Addr)(f:Str):Prop:=aT K (.ref C) f=some none
def xB.taker{f:Str}(n:xB K C f):W.takerIn K C f=some none:=by
 unfold W.takerIn;rw[show aT K (.ref C) f=some none from n];rfl
structure Meth(K:ay)(C:Addr)(m:Str)(f:Addr):Prop where
 at_:aT K (.ref C) m=some (some (.ref f))
 fn:W.isFn K (.ref f)=true
 kp:bU K (.ref f)=true
section
variable {fs:List (Str×V)} {f:Str}
def xjA{b:Bool}(I:Inv X pins σ H s)(e:H a=some (.ins C dx fs))(c:Cls X.K C)(n:xB X.K C f)(l:fs.lookup f=some v)
  (h:∀u s',Inv X pins σ H s'->RelV v u->Q u s'):wpAny (model X.prog X.w) A (getAttr (.ref a) f b) Q E s:=by
 obtain⟨mA,O,r,_,_,_⟩:=xda I.hok e;obtain⟨u,hu,ru⟩:=uI.some_of (v:=v) (o:=mA f) (by rw[<-l];exact r f);exact get_map I.kIn O (c.get f) c.hd n hu (xkQ ru) (h u _ (I.tok _) ru)
def jD{g:Addr}{Q:Value×List Value->ai->Prop}(I:Inv X pins σ H s)(e:H a=some (.ins C dx fs))(c:Cls X.K C)(k:Meth X.K C m g)(l:fs.lookup m=none)
  (h:Q (.ref g,[.ref a]) s):wpAny (model X.prog X.w) A (fb (.ref a) m pl) Q E s:=by
 obtain⟨mA,O,r,_,_,_⟩:=xda I.hok e;have hn:mA m=none:=uI.none_of (by rw[<-l];exact r m);exact xmc I.kIn O (c.get m) k.at_ k.fn hn h
def xjB{Q:Unit->ai->Prop}(I:Inv X pins σ H s)(e:H a=some (.ins C dx fs))(c:Cls X.K C)(n:xB X.K C f)(hl:fs.length<1000)(ry:RelV y u)
  (h:∀s',Inv X pins σ (upd H a (.ins C dx (zN f y fs))) s'->Q () s'):wpAny (model X.prog X.w) A (setAttr (.ref a) f u) Q E s:=by
 obtain⟨mA,O,r,wi,_,ho⟩:=xda I.hok e;have hz:(fs.map (·.1)).length<=ax:=by rw[ag,ar];lia
 refine xnx I.kIn O c.sa c.po n.taker c.hd wi hz fun h' O' sb=>h _ ?_;have hd:∃o,h'.get? dx=some o:=let⟨o,_,_,e',_⟩:=O'.ns;⟨o,e'⟩
 refine I.write (x:=a) (e:=dx) (by rw[e];exact b8) (.inr ho) (fun b q hb z=>(sb.2 b hb).trans z) hd ?_;refine⟨by rw[xm O.ne];exact ho,?_,O.ne,O'.obj,_,O'.ns,fun g=>?_,fun g hg=>?_⟩
 ·have:=xaT f y fs;lia
 ·show uI ((zN f y fs).lookup g) (if g=f then some u else mA g);rw[xdt]
  by_cases q:g=f
  ·rw[if_pos q,if_pos q];exact ry
  ·rw[if_neg q,if_neg q];exact r g
 ·by_cases q:g=f
  ·rw[q];exact(xco f y fs).1
  ·refine(xco f y fs).2 g (wi g fun z=>hg ?_);show(if g=f then some u else mA g)=none;rw[if_neg q];exact z
def Inv.made(I:Inv X pins σ H s):Inv X pins σ (upd (upd H s.heap.objs.size (.own (s.heap.objs.size+1))) (s.heap.objs.size+1) (.ins C s.heap.objs.size []))
  {s with heap:=(s.heap.push cK).push (dZ C s.heap.objs.size)}:=by
 have e1:(s.heap.push cK).get? s.heap.objs.size=some cK:=aI s.heap rfl;have e2:((s.heap.push cK).push (dZ C s.heap.objs.size)).get? (s.heap.objs.size+1)=some (dZ C s.heap.objs.size):=by
  have:=aI (s.heap.push cK) (o:=dZ C s.heap.objs.size) rfl
  rwa [dq]at this
 have e3:(s.heap.push cK).Ns s.heap.objs.size (fun _=>none):=⟨cK,#[],_,e1,rfl,(fun e he=>absurd he (by simp)),fun _=>rfl⟩;have I1:=I.laid (a:=s.heap.objs.size) (o:=.own (s.heap.objs.size+1)) (h':=s.heap.push cK) (t':=s.toks) (fun b u q=>af _ q) (aq _) ⟨_,e1⟩;refine I1.laid (a:=s.heap.objs.size+1) (o:=.ins C s.heap.objs.size []) (t':=s.toks) (fun b u q=>af _ q) (Nat.le_of_eq (dq _ _)) ?_;have ne:s.heap.objs.size≠s.heap.objs.size+1:=aJ (Nat.lt_succ_self _);refine⟨by rw[xm ne,xl],bu _,ne,e2,fun _=>none,(i6 e3).at fun o q=>af _ q,fun _=>b8,fun y hy=>absurd rfl hy⟩
def xny{prog:aX}{env:Env}{f:Str}{pos:Pos}(hb:dJ e f env (eval e env)=eval e env)
  (h:wpAny (model prog w) A (eval e env) (fun o s₁=>wpAny (model prog w) A (getAttr o f true) Q E s₁) E s):wpAny (model prog w) A (eval (.Attribute e f pos) env) Q E s:=
 Attribute_any_ h (by rw[arm_eval_Attribute,hb])
end
def xoZ(K:ay)(ta:TE)(f:Str):TE:=fun σ H Q=>ta σ H fun x H1=>∃a C dx fs v,x= .ref a/\H1 a=some (.ins C dx fs)/\Cls K C/\xB K C f/\fs.lookup f=some v/\Q v H1
def xqM(K:ay)(ta tv:TE)(f:Str):TS:=fun D σ H=>tv σ H fun y H1=>ta σ H1 fun x H2=>∃a C dx fs,x= .ref a/\H2 a=some (.ins C dx fs)/\Cls K C/\xB K C f/\fs.length<1000/\
 D.nx σ (upd H2 a (.ins C dx (zN f y fs)))
section
variable {o value:Expr} {f:Str} {pos pos' tpos:Pos} {tv:TE}
def xE(he:PE X e ta)(hb:dJ e f X.env (eval e X.env)=eval e X.env):PE X (.Attribute e f pos) (xoZ X.K ta f):=by
 intro pins s σ H Q I h;refine xny hb (thn (he pins s σ H _ I h) fun u s1 ⟨x,H1,I1,rx,a,C,dx,fs,v,ex,ea,c,n,l,q⟩=>?_);subst ex;obtain rfl:u=aF a:=rx;exact xjA I1 ea c n l fun u' s2 I2 ru=>⟨v,H1,I2,ru,q⟩
def xY(ha:PE X o ta)(hv:PE X value tv)(hs:e9 value (some (.Attribute o f pos')) pos.line X.env=pure false):PS X (.Assign [.Attribute o f pos'] value pos) (xqM X.K ta tv f):=by
 intro pins s σ H D I h;refine fh (thn (hv pins s σ H _ I h) fun u s1 ⟨y,H1,I1,ry,q⟩=>thn (ha pins s1 σ H1 _ I1 q) fun ov s2 ⟨x,H2,I2,rx,a,C,dx,fs,ex,ea,c,n,l,q2⟩=>?_) hs;subst ex;obtain rfl:ov=aF a:=rx;exact xjB I2 ea c n l ry fun s3 I3=>⟨σ,_,I3,q2⟩
end
section
variable {c:Value} {b:Bool}
inductive yh(K:ay)(H:Hp):V->Value->Prop where
 |non:yh K H .non (.type "NoneType")
 |bl (x:Bool):yh K H (.bl x) (.type "bool")
 |int (i:Int):yh K H (.int i) (.type "int")
 |str (x:Str):yh K H (.str x) (.type "str")
 |flt (x:UInt64):yh K H (.flt x) (.type "float")
 |lst {a:Addr} {xs:List V} (e:H a=some (.lst xs)):yh K H (.ref a) (.type "list")
 |frz {a:Addr} {o:Obj} {xs:List V} (e:H a=some (.frz o (.lst xs))):yh K H (.ref a) (.type "list")
 |tup {a:Addr} {xs:List V} (e:H a=some (.tup xs)):yh K H (.ref a) (.type "tuple")
 |dK {a:Addr} {kvs:List (Key×V)} (e:H a=some (.dK kvs)):yh K H (.ref a) (.type "dict")
 |dT {a:Addr} {kvs:List (List Key×V)} (e:H a=some (.dT kvs)):yh K H (.ref a) (.type "dict")
 |ins {a C dx:Addr} {fs:List (Str×V)} (e:H a=some (.ins C dx fs)) (cl:Cls K C) (ha:aT K (.ref C) "__class__"=some (some (.builtin "object.__class__")))
   (hn:W.specialIn K (.builtin "object.__class__") "__get__"=some (some (.builtin "getset_descriptor.__get__"))) (htk:W.takesIn K (.builtin "object.__class__")=some true)
   (hm:gm K C (.type "object")=some true):yh K H (.ref a) (.ref C)
theorem xkR{x:V}{t:Value}(I:Inv X pins σ H s)(rx:RelV x u)(ty:yh X.K H x t)(e:aj X.K t c=some b)(h:∀tk,Q (.bool b) {s with toks:=tk}):
  wpAny (model X.prog X.w) A (call (.builtin "isinstance") [u,c]) Q E s:=by
 cases ty with
 |non=>cases (show u=a7 from rx);exact cL W.kitx_none I.kIn b8 e (fun z=>nomatch z) h
 |bl y=>cases (show u=cS y from rx);exact cL W.kitx_bool I.kIn b8 e (fun z=>nomatch z) h
 |int i=>obtain⟨t,q⟩:=(show∃t,u=fK i t from rx);cases q;exact cL W.kitx_int I.kIn b8 e (fun z=>nomatch z) h
 |str y=>obtain⟨t,q⟩:=(show∃t,u=dY y t from rx);cases q;exact cL W.kitx_str I.kIn b8 e (fun z=>nomatch z) h
 |flt y=>obtain⟨t,q⟩:=(show∃t,u=j0 y t from rx);cases q;exact cL W.kitx_float I.kIn b8 e (fun z=>nomatch z) h
 | @lst a xs ea=>
  cases (show u=aF a from rx);obtain⟨_,_,n,_,h1⟩:=(show xR X.prog X.w H s.heap a (.lst xs)from I.hok a _ ea);exact cL W.kitx_list I.kIn ⟨_,h1,rfl⟩ e (fun z=>nomatch z) h
 | @frz a ob xs ea=>
  cases (show u=aF a from rx);obtain⟨_,_,_,n,_,h1⟩:=(show xR X.prog X.w H s.heap a (.frz ob (.lst xs))from I.hok a _ ea);exact cL W.kitx_list I.kIn ⟨_,h1,rfl⟩ e (fun z=>nomatch z) h
 | @tup a xs ea=>
  cases (show u=aF a from rx);obtain⟨_,_,_,p⟩:=(show xR X.prog X.w H s.heap a (.tup xs)from I.hok a _ ea);obtain⟨o,h1,h2,_⟩:=p;exact cL W.kitx_tuple I.kIn ⟨o,h1,h2⟩ e (fun z=>nomatch z) h
 | @dK a kvs ea=>
  cases (show u=aF a from rx);obtain⟨_,_,vs,_,p⟩:=(show xR X.prog X.w H s.heap a (.dK kvs)from I.hok a _ ea);obtain⟨o,es,ep,h1,h2,_⟩:=p;exact cL W.kitx_dict I.kIn ⟨o,h1,h2.1⟩ e (fun z=>nomatch z) h
 | @dT a kvs ea=>
  cases (show u=aF a from rx);obtain⟨_,_,xs,_,o,es,ep,h1,h2,_⟩:=(show xR X.prog X.w H s.heap a (.dT kvs)from I.hok a _ ea);exact cL W.kitx_dict I.kIn ⟨o,h1,h2.1⟩ e (fun z=>nomatch z) h
 | @ins a C dx fs ea cl ha hn j8 hm=>
  cases (show u=aF a from rx);obtain⟨mA,O,_⟩:=xda I.hok ea;obtain⟨od,J,_⟩:=O.look;exact cL (W.kitx_own (cl.get _) cl.hd ha hn j8 hm) I.kIn J e (fun z=>nomatch z) h
end
structure xI(k:Nat)(A:bc):Prop where
 hd:A.handled=none
 dp:A.depth+3*k+5<gW
 un:A.units+16*k+200<cLine
def xI.mono{j k:Nat}(r:xI k A)(h:j<=k):xI j A:=⟨r.hd,by have:=r.dp;lia,by have:=r.un;lia⟩
def xI.deeper{k:Nat}(r:xI (k+1) A)(env:Env):xI k (A.deeper env):=
 ⟨r.hd,by have:=r.dp;show A.depth+1+3*k+5<_;lia,by have:=r.un;show A.units+3+16*k+200<_;lia⟩
def xjC:(A.under (.builtin "type.__call__" ⟨.ref C::us,kw⟩)).depth=A.depth+1:=by
 first|rfl|simp[iS,Code.weight,Code.isCreation,Code.isGuard,Code.isCaller,Code.frames,iT,guardIds]
def xjD:(A.under (.builtin "type.__call__" ⟨.ref C::us,kw⟩)).units=A.units+1:=by
 first|rfl|simp[iS,Code.cUnits,Code.frames,iT]
def xI.make{k:Nat}(r:xI (k+1) A)(C:Addr)(us:List Value)(kw:List (Str×Value)):xI k (A.under (.builtin "type.__call__" ⟨.ref C::us,kw⟩)):=
 ⟨r.hd,by have:=r.dp;rw[xjC];lia,by have:=r.un;rw[xjD];lia⟩
def xI.depth{k:Nat}(r:xI k A):A.depth<gW:=by have:=r.dp;lia
def xI.units{k:Nat}(r:xI k A):A.units+64<cLine:=by have:=r.un;lia
def xg1:TA:=fun _ H Q=>Q [] H
def xp6(ta:TE)(tr:TA):TA:=fun σ H Q=>ta σ H fun x H1=>tr σ H1 fun xs H2=>Q (x::xs) H2
section
variable {X:Cx} {e:Expr} {es:List Expr} {te:TE} {t:TA} {pos:Pos}
def xb:PA X [] xg1:=fun _ _ _ _ H Q I h=>i7 ⟨[],H,I,.nil,h⟩
def xa(ha:PE X e te)(hr:PA X es t)(hs:aD (e::es) X.env=(false,eval e X.env)::aD es X.env:=by rfl):PA X (e::es) (xp6 te t):=by
 intro pos pins s σ H Q I h;rw[hs];show wpAny _ _ (spliced ((false,eval e X.env)::bB pos (aD es X.env))) _ _ s;refine fN (thn (ha pins s σ H _ I h) fun u s1 ⟨x,H1,I1,r1,q1⟩=>?_);exact thn (hr pos pins s1 σ H1 _ I1 q1) fun us s2 ⟨xs,H2,I2,r2,q2⟩=>⟨x::xs,H2,I2,.cons r1 r2,q2⟩
def xqN(t:TA):TE:=fun σ H Q=>t σ H fun xs H1=>xs.length<=ax/\∀p,H1 p=none->Q (.ref p) (upd H1 p (.tup xs))
def xqO(t:TA):TE:=fun σ H Q=>t σ H fun xs H1=>xs.length<=ax/\∀p,H1 p=none->Q (.ref p) (upd H1 p (.lst xs))
def yA{x1}(h:PA X es t):PE X (.Tuple es x1 pos) (xqN t):=by
 intro pins s σ H Q I hq;refine wpAny_Tuple_spliced (thn (h pos pins s σ H _ I hq) fun us s1 ⟨xs,H1,I1,r,z,q⟩=>⟨by rw[<-r.length];exact z,?_⟩);have hf:H1 s1.heap.objs.size=none:=I1.hok.fresh (aq _);refine⟨.ref s1.heap.objs.size,upd H1 s1.heap.objs.size (.tup xs),I1.laid (t':=s1.toks) (fun b u e=>af _ e) (aq _) ?_,rfl,q _ hf⟩;exact⟨z,us,r,⟨_,aI _ rfl,rfl,_,rfl⟩⟩
def xK(h:PA X es t):PE X (.List es pos) (xqO t):=by
 intro pins s σ H Q I hq;refine wpAny_List_spliced (thn (h pos pins s σ H _ I hq) fun us s1 ⟨xs,H1,I1,r,z,q⟩=>⟨by rw[<-r.length];exact z,?_⟩);have hf:H1 s1.heap.objs.size=none:=I1.hok.fresh (aq _);refine⟨.ref s1.heap.objs.size,upd H1 s1.heap.objs.size (.lst xs),I1.laid (t':=s1.toks) (fun b u e=>af _ e) (aq _) ?_,rfl,q _ hf⟩;exact⟨z,us,0,r,aI _ rfl⟩
end
abbrev Sp:=List V->Hp->VK->XK->Prop
abbrev CXT:=List Env->Hp->ai->XK->Value->ai->Prop
structure vF(P:aX)(w:World)(K:ay)(mg:Str->Option Value)(base:Heap)(A:bc)(outer:List Env)(s:ai)(H:Hp):Prop where
 frames:A.frames=some outer
 mod:Mod K mg base
 bs:∀b o,base.get? b=some o->s.heap.get? b=some o/\H b=none
 bsz:base.objs.size<=s.heap.objs.size
 funs:s.heap.FunFrames base outer
 frf:∀b∈frs outer,H b=none
 hok:HOk P w H s.heap
 bare:eE s.gens
def CE(outer:List Env)(P:aX)(w:World)(H:Hp)(s:ai)(Q:VK)(u:Value)(s':ai):Prop:=
 ∃v H',s'.os=s.os/\eE s'.gens/\Un (frs outer) [] H H' s.heap s'.heap/\HOk P w H' s'.heap/\RelV v u/\Q v H'
def CR(CX:CXT)(outer:List Env)(P:aX)(w:World)(H:Hp)(s:ai)(Q:VK)(E:XK)(r:gs)(s':ai):Prop:=
 match r with
 | .ok (.ret u)=>CE outer P w H s Q u s'
 | .ok _=>False
 | .error e=>CX outer H s E e s'
structure xt(P:aX)(w:World)(K:ay)(mg:Str->Option Value)(base:Heap)(CX:CXT)(k:Nat)(f:Addr)(fd:av)(ps:List Str)(sp:Sp):Prop where
 len:∀vs H Q E,sp vs H Q E->vs.length=ps.length
 run:∀(A:bc) (outer:List Env) (s:ai) (H:Hp) (args:Args) (us:List Value) (vs:List V) (Q:VK) (E:XK),xI k A->vF P w K mg base A outer s H->gX s fd args (ps.zip us)->Vals vs us->sp vs H Q E->
  bX (model P w) A (.call (.ref f) args) (CR CX outer P w H s Q E) s
def vF.make{outer:List Env}(e:vF P w K mg base A outer s H)(C:Addr)(us:List Value)(kw:List (Str×Value)):
  vF P w K mg base (A.under (.builtin "type.__call__" ⟨.ref C::us,kw⟩)) outer s H:=⟨by first|exact e.frames|(simpa [iS,Code.envs,iT,pushEnvs]using e.frames),e.mod,e.bs,e.bsz,e.funs,e.frf,e.hok,e.bare⟩
def Inv.env0(I:Inv X pins σ H s):vF X.prog X.w X.K X.mg X.base X.A X.stack s H:=
 ⟨I.ok.frames,I.ok.mod,I.bs,aO I.ok.bsz I.sz,I.stack,I.stkFree,I.hok,I.bare⟩
def Inv.after{Q:VK}(I:Inv X pins σ H s)(h:CE X.stack X.prog X.w H s Q u s'):EP X pins σ Q u s':=by
 obtain⟨v,H',os,bare,un,hok,r,q⟩:=h;obtain⟨hh,g,d,t,j8⟩:=s';obtain rfl:j8=s.os:=os;exact⟨v,H',I.call (h':=hh) (g':=g) (d':=d) (t':=t) (ch:=[]) un hok bare (fun b z=>absurd z (by simp)),r,q⟩
def xjE(sp:Sp)(dvs:List V)(E:XK)(t:TA):TE:=fun σ H Q=>t σ H fun vs H1=>sp (vs++dvs) H1 Q E
def xng(C:Addr)(m:Str)(sp:Sp)(dvs:List V)(E:XK)(ta:TE)(t:TA):TE:=fun σ H Q=>ta σ H fun x H1=>∃a dx fs,x= .ref a/\H1 a=some (.ins C dx fs)/\fs.lookup m=none/\
 t σ H1 fun vs H2=>sp (x::(vs++dvs)) H2 Q E
def xnh(C:Addr)(sp:Sp)(dvs:List V)(E:XK)(t:TA):TE:=fun σ H Q=>t σ H fun vs H1=>∀x dx,H1 x=none->H1 dx=none->dx≠x->
 sp (.ref x::(vs++dvs)) (upd (upd H1 dx (.own x)) x (.ins C dx [])) (fun v H2=>v= .non/\Q (.ref x) H2) E
def Binds(K:ay)(fd:av)(ps:List Str)(ds:List Value):Prop:=
 ∀(s:ai) (us:List Value),K.In s.heap->(us++ds).length=ps.length->gX s fd ⟨us,[]⟩ (ps.zip (us++ds))
def Binds.all(h:∀us:List Value,us.length=ps.length->dD fd ⟨us,[]⟩=pure (ps.zip us)):Binds K fd ps []:=fun s us _ hl=>by
 rw[cY]at hl⊢;exact .of_eq (h us hl)
def Passes(CX:CXT)(X:Cx)(E:XK):Prop:=∀(pins:List (Addr×Obj)) (σ:St) (H:Hp) (s:ai) (e:Value) (s':ai),Inv X pins σ H s->CX X.stack H s E e s'->X.xe e s'
section
variable {k:Nat} {dvs:List V} {ds:List Value} {E:XK} {pos apos:Pos} {o:Expr}
theorem xcp{Q:VK}(F:xt X.prog X.w X.K X.mg X.base CX k f fd ps sp)(hr:xI k X.A)(hb:Binds X.K fd ps ds)(hd:Vals dvs ds)(hx:Passes CX X E)
  (I:Inv X pins σ H s) (r:Vals vs us) (h:sp (vs++dvs) H Q E):wpAny (model X.prog X.w) X.A (call (.ref f) us) (EP X pins σ Q) X.xe s:=by
 have r2:Vals (vs++dvs) (us++ds):=r.append hd;have hl:(us++ds).length=ps.length:=by rw[<-r2.length];exact F.len _ _ _ _ h
 refine cF (b9 (F.run X.A X.stack s H ⟨us,[]⟩ (us++ds) (vs++dvs) Q E hr I.env0 (hb s us I.kIn hl) r2 h) fun r s' hq=>?_);cases r with
 |error e=>exact hx pins σ H s e s' I hq
 |ok fl=>
  cases fl with
  |ret u=>exact I.after hq
  |next=>exact aS hq
  |brk=>exact aS hq
  |cont=>exact aS hq
def xu(F:xt X.prog X.w X.K X.mg X.base CX k f fd ps sp)(hr:xI k X.A)(hg:Gl X x)(hm:X.mg x=some (.ref f))(hk:bU X.K (.ref f)=true)(hb:Binds X.K fd ps ds)(hd:Vals dvs ds)(hx:Passes CX X E)
  (ha:PA X (e::es) t) (j9:(x==("__debug__":Str))=false:=by decide) (he:aD (e::es) X.env=(false,eval e X.env)::aD es X.env:=by rfl) (j8:(bB pos (aD es X.env)).any (·.1)=false:=by rfl):
  PE X (.Call (.Name x p) (e::es) [] pos) (xjE sp dvs E t):=by
 intro pins s σ H Q I h;refine bC (yR I hg hm ?_ j9);refine du (h₀:=X.base) I.ok.mod.kin hk (thn (ha pos pins s σ H _ I h) fun us s1 ⟨vs,H1,I1,r,q⟩=>⟨I1.kIn,?_⟩) he j8;exact xcp F hr hb hd hx I1 r q
def xme(F:xt X.prog X.w X.K X.mg X.base CX k f fd ps sp)(hr:xI k X.A)(hg:Gl X x)(hm:X.mg x=some (.ref f))(hk:bU X.K (.ref f)=true)(hb:Binds X.K fd ps ds)(hd:Vals dvs ds)(hx:Passes CX X E)
  (j8:(x==("__debug__":Str))=false:=by decide):PE X (.Call (.Name x p) [] [] pos) (xjE sp dvs E xg1):=by
 intro pins s σ H Q I h;refine bC (yR I hg hm ?_ j8);exact fW I.kIn hk (xcp (us:=[]) F hr hb hd hx I .nil h)
def xS(he:PE X o ta)(c:Cls X.K C)(hm:Meth X.K C m f)(F:xt X.prog X.w X.K X.mg X.base CX k f fd ps sp)(hr:xI k X.A)(hb:Binds X.K fd ps ds)(hd:Vals dvs ds)(hx:Passes CX X E)(ha:PA X (e::es) t)
  (j8:aD (e::es) X.env=(false,eval e X.env)::aD es X.env:=by rfl) (j9:(bB pos (aD es X.env)).any (·.1)=false:=by rfl)
  (ht:eval (.Call (.Attribute o m apos) (e::es) [] pos) X.env=(do
   let ov <-eval o X.env
   gk apos.atName
   let(f,first) <-eF [ov] (fb ov m pl)
   eW pos f first (bB pos (aD (e::es) X.env)) (eX pos (de [] X.env))):=by rfl):
  PE X (.Call (.Attribute o m apos) (e::es) [] pos) (xng C m sp dvs E ta t):=by
 intro pins s σ H Q I h;refine dS (pl:=pl) (thn (he pins s σ H _ I h) fun u s1 ⟨x,H1,I1,rx,a,dx,fs,ex,ea,l,q⟩=>?_) ht;subst ex;obtain rfl:u=aF a:=rx;refine jD I1 ea c hm l ?_;refine du (first:=[.ref a]) (h₀:=X.base) I.ok.mod.kin hm.kp (thn (ha pos pins s1 σ H1 _ I1 q) fun us s2 ⟨vs,H2,I2,r,q2⟩=>⟨I2.kIn,?_⟩) j8 j9;exact xcp (us:=.ref a::us) (vs:=.ref a::vs) F hr hb hd hx I2 (.cons rfl r) q2
def yd(he:PE X o ta)(c:Cls X.K C)(hm:Meth X.K C m f)(F:xt X.prog X.w X.K X.mg X.base CX k f fd ps sp)(hr:xI k X.A)(hb:Binds X.K fd ps ds)(hd:Vals dvs ds)(hx:Passes CX X E)
  (ht:eval (.Call (.Attribute o m apos) [] [] pos) X.env=(do
   let ov <-eval o X.env
   gk apos.atName
   let(f,first) <-eF [ov] (fb ov m pl)
   eW pos f first (bB pos (aD [] X.env)) (eX pos (de [] X.env))):=by rfl):
  PE X (.Call (.Attribute o m apos) [] [] pos) (xng C m sp dvs E ta xg1):=by
 intro pins s σ H Q I h;refine dS (pl:=pl) (thn (he pins s σ H _ I h) fun u s1 ⟨x,H1,I1,rx,a,dx,fs,ex,ea,l,q⟩=>?_) ht;subst ex;obtain rfl:u=aF a:=rx;refine jD I1 ea c hm l ?_;exact fW (first:=[.ref a]) I1.kIn hm.kp (xcp (us:=[.ref a]) (vs:=[.ref a]) F hr hb hd hx I1 (.cons rfl .nil) q)
structure Mk(K:ay)(C f:Addr):Prop where
 makes:W.makesIn K C=true
 init:aT K (.ref C) "__init__"=some (some (.ref f))
 fn:W.isFn K (.ref f)=true
 kp:bU K (.ref C)=true
theorem xg2{Q:VK}(M:Mk X.K C f)(F:xt X.prog X.w X.K X.mg X.base CX k f fd ps sp)(hr:xI (k+1) X.A)(hb:Binds X.K fd ps ds)(hd:Vals dvs ds)
  (hx:Passes CX X E) (I:Inv X pins σ H s) (r:Vals vs us)
  (h:∀x dx,H x=none->H dx=none->dx≠x->sp (.ref x::(vs++dvs)) (upd (upd H dx (.own x)) x (.ins C dx [])) (fun v H2=>v= .non/\Q (.ref x) H2) E):
  wpAny (model X.prog X.w) X.A (call (.ref C) us) (EP X pins σ Q) X.xe s:=by
 have hq:=h (s.heap.objs.size+1) s.heap.objs.size (I.hok.fresh (cM _)) (I.hok.fresh (aq _)) (aJ (Nat.lt_succ_self _));have I2:=Inv.made (C:=C) I;have r2:Vals (V.ref (s.heap.objs.size+1)::(vs++dvs)) (aF (s.heap.objs.size+1)::(us++ds)):=.cons rfl (r.append hd);have hl:(aF (s.heap.objs.size+1)::us++ds).length=ps.length:=by
  have e:=r2.length;rw[F.len _ _ _ _ hq]at e;exact e.symm
 refine cF (xmd (f:=f) I.kIn M.makes M.init (beq_iff_eq.mp M.fn) (b9 (F.run _ X.stack _ _ ⟨aF (s.heap.objs.size+1)::us,[]⟩ (aF (s.heap.objs.size+1)::(us++ds)) _ _ E (hr.make C us [])
  (I2.env0.make C us []) (hb _ (aF (s.heap.objs.size+1)::us) I2.kIn hl) r2 hq) fun r s' j8=>?_))
 cases r with
 |error e=>exact hx pins σ _ _ e s' I2 j8
 |ok fl=>
  cases fl with
  |ret u=>
   obtain⟨v,H',I3,rv,ev,q3⟩:=I2.after j8;subst ev;exact⟨rv,⟨V.ref (s.heap.objs.size+1),H',I3,rfl,q3⟩⟩
  |next=>exact aS j8
  |brk=>exact aS j8
  |cont=>exact aS j8
def xe1(M:Mk X.K C f)(F:xt X.prog X.w X.K X.mg X.base CX k f fd ps sp)(hr:xI (k+1) X.A)(hg:Gl X x)(hm:X.mg x=some (.ref C))(hb:Binds X.K fd ps ds)(hd:Vals dvs ds)(hx:Passes CX X E)
  (ha:PA X (e::es) t) (j9:(x==("__debug__":Str))=false:=by decide) (he:aD (e::es) X.env=(false,eval e X.env)::aD es X.env:=by rfl) (j8:(bB pos (aD es X.env)).any (·.1)=false:=by rfl):
  PE X (.Call (.Name x p) (e::es) [] pos) (xnh C sp dvs E t):=by
 intro pins s σ H Q I h;refine bC (yR I hg hm ?_ j9);refine du (h₀:=X.base) I.ok.mod.kin M.kp (thn (ha pos pins s σ H _ I h) fun us s1 ⟨vs,H1,I1,r,q⟩=>⟨I1.kIn,?_⟩) he j8;exact xg2 M F hr hb hd hx I1 r q
def xg3(M:Mk X.K C f)(F:xt X.prog X.w X.K X.mg X.base CX k f fd ps sp)(hr:xI (k+1) X.A)(hg:Gl X x)(hm:X.mg x=some (.ref C))(hb:Binds X.K fd ps ds)(hd:Vals dvs ds)(hx:Passes CX X E)
  (j8:(x==("__debug__":Str))=false:=by decide):PE X (.Call (.Name x p) [] [] pos) (xnh C sp dvs E xg1):=by
 intro pins s σ H Q I h;refine bC (yR I hg hm ?_ j8);exact fW I.kIn M.kp (xg2 (us:=[]) M F hr hb hd hx I .nil h)
end
section
variable {k:Nat} {ks:List Str} {E:XK} {pos apos kpos:Pos} {o:Expr} {kws:List gn} {tk:TA} {nm:Option Str}
variable {g:List Value->List Value->List Value} {gV:List V->List V->List V}
end
structure xo(N P:List Str)(sc:Scope):Prop where
 kind:sc.kind= .function
 co:sc.isCoroutine=false
 gen:sc.isGenerator=false
 nd:N.Nodup
 pre:N.take P.length=P
 par:∀x∈P,sc.names.lookup x=some .local\/sc.names.lookup x=some .cell
 nofree:∀y∈sc.names,y.2≠.free
theorem xfO{kindOf:Str->Option ck}{x:Str}:∀{binds:List (Str×Value)} {m:Str->Option Value},(∀v,(x,v)∉binds)->bindL kindOf binds m x=m x
 |[],_,_=>rfl
 |(n,v)::r,m,h=>by
  unfold bindL;rw[xfO fun w hw=>h w (aH _ hw)]
  split
  ·have:x≠n:=by rintro rfl;exact h v ba
   simp[this]
  ·rfl
theorem xfP{kindOf:Str->Option ck}{x:Str}:∀{binds:List (Str×Value)} {m:Str->Option Value},(∀v,(x,v)∉binds)->bindC kindOf binds m x=m x
 |[],_,_=>rfl
 |(n,v)::r,m,h=>by
  unfold bindC;rw[xfP fun w hw=>h w (aH _ hw)]
  split
  ·rfl
  ·have:x≠n:=by rintro rfl;exact h v ba
   simp[this]
theorem xfQ{kindOf:Str->Option ck}{x:Str}{v:Value}:∀{P:List Str} {vs:List Value} {i:Nat} {m:Str->Option Value},P.Nodup->P[i]? =some x->vs[i]? =some v->kindOf x=some .local->
  bindL kindOf (P.zip vs) m x=some v
 |[],_,_,_,_,h,_,_=>by simp at h
 |_::_,[],_,_,_,_,h,_=>by simp at h
 |p::P,w::vs,0,m,nd,h1,h2,hk=>by
  simp at h1 h2;subst h1;subst h2;show bindL kindOf ((p,w)::P.zip vs) m p=_;unfold bindL;rw[xfO fun v hv=>(dU.mp nd).1 (cw hv).1,if_pos hk];simp
 |p::P,w::vs,i+1,m,nd,h1,h2,hk=>by
  show bindL kindOf ((p,w)::P.zip vs) m x=_;unfold bindL;exact xfQ (i:=i) (dU.mp nd).2 (by simpa using h1) (by simpa using h2) hk
theorem xfR{kindOf:Str->Option ck}{x:Str}{v:Value}:∀{P:List Str} {vs:List Value} {i:Nat} {m:Str->Option Value},P.Nodup->P[i]? =some x->vs[i]? =some v->kindOf x≠some .local->
  bindC kindOf (P.zip vs) m x=some v
 |[],_,_,_,_,h,_,_=>by simp at h
 |_::_,[],_,_,_,_,h,_=>by simp at h
 |p::P,w::vs,0,m,nd,h1,h2,hk=>by
  simp at h1 h2;subst h1;subst h2;show bindC kindOf ((p,w)::P.zip vs) m p=_;unfold bindC;rw[xfP fun v hv=>(dU.mp nd).1 (cw hv).1,if_neg hk];simp
 |p::P,w::vs,i+1,m,nd,h1,h2,hk=>by
  show bindC kindOf ((p,w)::P.zip vs) m x=_;unfold bindC;exact xfR (i:=i) (dU.mp nd).2 (by simpa using h1) (by simpa using h2) hk
def start(N:List Str)(vs:List V):St:=vs.map some++aK (N.length - vs.length) none
def uJ(CX:CXT)(P:aX)(w:World)(K:ay)(mg:Str->Option Value)(base:Heap)(N:List Str)(qual:Str)(scope:Scope)(f:Addr)(cd:Value)(A:bc)(outer:List Env)(s:ai)(H:Hp)(E:XK):Cx where
 prog:=P
 w:=w
 K:=K
 mg:=mg
 base:=base
 A:=A.deeper (cZ qual scope s.heap.objs.size f cd)
 N:=N
 s₀:=s
 H₀:=H
 env:=cZ qual scope s.heap.objs.size f cd
 outer:=outer
 stack:=cZ qual scope s.heap.objs.size f cd::outer
 ex:=[]
 calm:=true
 cp:=fun _=>true
 fn:=fun _=>true
 pn:=[]
 xe:=fun e s'=>wpAny (model P w) (A.deeper (cZ qual scope s.heap.objs.size f cd)) (leaving (cZ qual scope s.heap.objs.size f cd) e) (fun _ j8=>CX outer H s E e j8) (fun e' j8=>CX outer H s E e' j8) s'
def xg4{sc:Scope}{n:Nat}(h:sc.names.lookup x=some .cell):∃c,(fO n sc.names []).lookup x=some c:=by
 have q:=dE sc.names n [] (.inl h);exact d9.mp q
theorem xaF{qual:Str}{scope:Scope}{cd:Value}{outer:List Env}{s1:ai}{E:XK}
  (S:xo N ps scope) (hd:A.handled=none) (e0:vF P w K mg base A outer s H) (hl:vs.length=ps.length) (r:Vals vs us)
  (x:InCallC s s.heap.objs.size (bindL (cZ qual scope s.heap.objs.size f cd).kindOf (ps.zip us) fun _=>none) (fO (s.heap.objs.size+1) scope.names []) (bindC (cZ qual scope s.heap.objs.size f cd).kindOf (ps.zip us) fun _=>none) s1):
  Inv (uJ CX P w K mg base N qual scope f cd A outer s H E) [] (start N vs) H s1:=by
 have ka:ps.length<=N.length:=by have:=congrArg fG S.pre;rw[bw]at this;lia
 obtain⟨h1,tk,rfl,hk⟩:=x.done;have j8:∀b:Addr,b∉(uJ CX P w K mg base N qual scope f cd A outer s H E).ex:=fun b z=>absurd (show b∈([]:List Addr)from z) (by simp);refine⟨⟨e0.mod,S.kind,rfl,rfl,aq _,fun y z c h1 h2=>?_,fun y hy=>?_,fun y c _ h=>?_,fun _=>hd,ib e0.frames,.inr ⟨rfl,rfl⟩,fun b z=>absurd z (j8 b),e0.bs,e0.bsz,fun b _ _=>j8 b,fun b z=>absurd z (j8 b),e0.funs,e0.frf,fun y c _ h=>d8 (x.above y c (PySem.mem_of_lookup h)),fun b hb=>e0.hok.fresh hb⟩,
  rfl,e0.bare,Un.kept hk,⟨_,x.toInCall.ns,fun i y v h1 h2 h3=>?_⟩,fun y c h=>⟨_,x.cell y c h⟩,e0.hok.fresh (aq _),fun y c h=>.inl ?_,fun p hp=>absurd (show p∈([]:List (Addr×Obj))from hp) (by simp),e0.hok.kept hk,?_⟩
 ·exact name_of_addr x.apart (PySem.mem_of_lookup h1) (PySem.mem_of_lookup h2)
 ·have hy:scope.names.lookup y=some .cell\/scope.names.lookup y=some .free:=hy;rcases hy with hy|hy
  ·exact xg4 hy
  ·exact absurd rfl (S.nofree _ (PySem.mem_of_lookup hy))
 ·exact d8 (x.above y c (PySem.mem_of_lookup h))
 ·have hi:i<vs.length:=by
   unfold start at h2
   by_cases hi:i<vs.length
   ·exact hi
   ·rw[cz (by simpa using hi)]at h2;rw[gH]at h2
    split at h2<;> cases h2
  have ha:vs[i]? =some v:=by
   unfold start at h2;rw[b0 (by simpa using hi),az]at h2;cases e:vs[i]? with
   |none=>rw[e]at h2;cases h2
   |some a=>rw[e]at h2;cases h2;rfl
  obtain⟨u,hu,rv⟩:=r.get ha;have hp:ps[i]? =some y:=by
   rw[<-S.pre,eg (by lia)];exact h1
  have j9:ps.Nodup:=by rw[<-S.pre];exact S.nd.sublist (List.take_sublist _ _)
  refine⟨u,rv,?_⟩;rcases S.par y (aw hp)with k|k
  ·exact .inl ⟨k,xfQ j9 hp hu k⟩
  ·obtain⟨c,e⟩:=xg4 (n:=s.heap.objs.size+1) k;refine .inr ⟨.inl k,c,e,?_⟩;have q:=x.cell y c e;rw[xfR j9 hp hu (by show scope.names.lookup y≠_;rw[k];decide)]at q;exact q
 ·exact e0.hok.fresh (d8 (x.above y c (PySem.mem_of_lookup h)))
 ·unfold start;show _=N.length;rw[aZ,ag,gY];lia
theorem xgO{k:Nat}{name qual:Str}{params:c4}{body:List Stmt}{scope:Scope}{dV kV doc pm j8 ct oc:Value}{an od:Option Addr}
  {osl:Array (Option Value)} (lk:K.lookup f=some ⟨oc,od,.func (bZ name qual params body scope dV kV doc pm an j8 ct),osl⟩) (kc:df K j8 qual=true) (S:xo N ps scope)
  (len:∀vs H Q E,sp vs H Q E->vs.length=ps.length)
  (ka:∀(A:bc) (outer:List Env) (s:ai) (H:Hp) (vs:List V) (Q:VK) (E:XK),xI k (A.deeper (cZ qual scope s.heap.objs.size f j8))->sp vs H Q E->
   ∃t,PSs (uJ CX P w K mg base N qual scope f j8 A outer s H E) body t/\t {nx:=fun _ H'=>Q .non H',rt:=Q} (start N vs) H):
  xt P w K mg base CX (k+1) f (bZ name qual params body scope dV kV doc pm an j8 ct) ps sp:=by
 refine⟨len,fun A outer s H args us vs Q E hr e0 hb r kb=>?_⟩;have hl:=len _ _ _ _ kb;have KX:K.In s.heap:=e0.mod.kin.keeps fun b o e=>(e0.bs b o e).1;have lim:s.heap.NoLimit:=e0.mod.nolimit.keeps fun b o e=>(e0.bs b o e).1;have j9:∀y∈ps.zip us,scope.names.lookup y.1=some .local\/(scope.names.lookup y.1=some .cell/\((fO (s.heap.objs.size+1) scope.names []).lookup y.1).isSome=true):=fun⟨n,v⟩ hy=>by
  rcases S.par n (cw hy).1 with q|q
  ·exact .inl q
  ·exact .inr ⟨q,dE _ _ _ (.inl q)⟩
 refine cx hr.depth (KX _ _ lk) rfl S.co S.gen rfl (gu KX kc) (hb _ _ _ _ ?_);refine cA S.kind j9 fun env he s1 x=>?_;subst he;refine⟨lim.keeps x.toInCall.keep,gv ?_⟩;obtain⟨t,ht,hq⟩:=ka A outer s H vs Q E (hr.deeper _) kb;have I:Inv (uJ CX P w K mg base N qual scope f j8 A outer s H E) [] (start N vs) H s1:=xaF S hr.hd e0 hl r x;refine aN (ht [] s1 (start N vs) H _ I hq) (fun fl s' hs=>?_) fun e s' hs=>hs;have fin:∀{σ':St} {H':Hp} {v:V} {u:Value},Inv (uJ CX P w K mg base N qual scope f j8 A outer s H E) [] σ' H' s'->RelV v u->Q v H'->CE outer P w H s Q u s':=
  fun{σ' H' v u} J rv q=>⟨v,H',J.os,J.bare,J.base,J.hok,rv,q⟩
 cases fl with
 |ret u=>
  obtain⟨v,σ',H',J,rv,q⟩:=hs;exact fin J rv q
 |next=>
  obtain⟨σ',H',J,q⟩:=hs;exact fin (v:=V.non) (u:=a7) J rfl q
 |brk=>
  obtain⟨_,_,_,q⟩:=hs;exact aS q
 |cont=>
  obtain⟨_,_,_,q⟩:=hs;exact aS q
section
variable {X:Cx} {x:Str} {p pos:Pos} {e:Expr} {es:List Expr} {t:TA} {id T:String} {r:List V->Hp->VK->Prop}
def tCB(r:List V->Hp->VK->Prop)(t:TA):TE:=fun σ H Q=>t σ H fun vs H1=>r vs H1 Q
def xw(hc:yq X (.builtin id) r)(hg:Gl X x)(hm:X.mg x=none)(hv:bp x=some (.builtin id))(ha:PA X (e::es) t)(hn:x≠"__name__":=by decide)(j9:(x==("__debug__":Str))=false:=by decide)
  (he:aD (e::es) X.env=(false,eval e X.env)::aD es X.env:=by rfl) (j8:(bB pos (aD es X.env)).any (·.1)=false:=by rfl):PE X (.Call (.Name x p) (e::es) [] pos) (tCB r t):=by
 intro pins s σ H Q I h;refine bC (ve I hg hm hv ?_ hn j9);exact PyProof.Rows.callWith_builtin1 (thn (ha pos pins s σ H _ I h) fun us s1 ⟨vs,H1,I1,r1,q1⟩=>hc pins s1 σ H1 vs us Q I1 r1 q1) he j8
def xU(hc:yq X (.type T) r)(hg:Gl X x)(hm:X.mg x=none)(hv:bp x=some (.type T))(ha:PA X (e::es) t)(hn:x≠"__name__":=by decide)(j9:(x==("__debug__":Str))=false:=by decide)
  (he:aD (e::es) X.env=(false,eval e X.env)::aD es X.env:=by rfl) (j8:(bB pos (aD es X.env)).any (·.1)=false:=by rfl):PE X (.Call (.Name x p) (e::es) [] pos) (tCB r t):=by
 intro pins s σ H Q I h;refine bC (ve I hg hm hv ?_ hn j9);exact bV (thn (ha pos pins s σ H _ I h) fun us s1 ⟨vs,H1,I1,r1,q1⟩=>hc pins s1 σ H1 vs us Q I1 r1 q1) he j8
end
end L2
namespace HT
open PySem PyProof.Rows
section
open PySem.SeqAt
open PySem.AutoSeq1 (wpAny_loadPart')
open PySem.MeetsSeq PySem.MeetsSeq2 PySem.MeetsSeq3
end
section
variable {prog:aX} {w:World} {A:bc} {E:Value->ai->Prop} {s:ai}
def xnz{t b:Addr}{vs ws:List Value}{Q:Value->ai->Prop}(ht:IsTup s.heap t vs.toArray)(hb:IsTup s.heap b ws.toArray)(hv:vs≠[])
  (h1:ws=[]->Q (.ref t) s) (h2:ws≠[]->Q (.ref s.heap.objs.size) {s with heap:=s.heap.push {cls:=.type "tuple",data:=.seq (vs++ws).toArray}})
  (hsz:vs.length+ws.length<=ax):wpAny (model prog w) A (bQ .Add (.ref t) (.ref b)) Q E s:=by
 obtain⟨⟨cls,dd,data,sl⟩,ho,hc,n,hd⟩:=id ht;obtain⟨⟨kc,kb,data2,j9⟩,j8,ka,n2,hd2⟩:=id hb;simp only at hc hd ka hd2;subst hc hd ka hd2;have e:vs.toArray++ws.toArray=(vs++ws).toArray:=by simp
 by_cases hw:ws=[]
 ·exact concat_meets ⟨_,ho,rfl⟩ ⟨_,j8,rfl⟩ gw iB PySem.F.slot_tuple_add PySem.F.entry_tuple_add (PySem.F.args_tuple_add_2 _ _)
   (tuple_addW1 t b vs.toArray ws.toArray n n2 dd kb sl j9 (by simpa using hv) (by simp[hw])) ⟨ho,j8,h1 hw⟩
 ·refine concat_meets ⟨_,ho,rfl⟩ ⟨_,j8,rfl⟩ gw iB PySem.F.slot_tuple_add PySem.F.entry_tuple_add (PySem.F.args_tuple_add_2 _ _)
   (tuple_addW2 t b vs.toArray ws.toArray n n2 dd kb sl j9 (by simpa using hv) (by simpa using hw) (by rw[aC,aC];exact hsz)) ⟨ho,j8,?_⟩
  rw[e];exact h2 hw
def sIx(n d:Nat):Option Int->Nat
 |none=>d
 |some v=>if v<0 then(v+(n:Int)).toNat else min v.toNat n
def xmf(n d:Nat):sIx n d none=d:=rfl
theorem xkS(n d:Nat)(hd:d<=n)(o:Option Int):sIx n d o<=n:=by
 cases o with
 |none=>exact hd
 |some v=>
  show(if v<0 then(v+(n:Int)).toNat else min v.toNat n)<=n
  by_cases hv:v<0
  ·rw[if_pos hv];lia
  ·rw[if_neg hv];exact Nat.min_le_right _ _
def xiZ(v:Int)(n d:Nat):(if v<0 then max (v+(n:Int)) 0 else min v (n:Int))=((sIx n d (some v):Nat):Int):=by
 show(if v<0 then max (v+(n:Int)) 0 else min v (n:Int))=(((if v<0 then(v+(n:Int)).toNat else min v.toNat n):Nat):Int)
 by_cases hv:v<0
 ·simp only[if_pos hv];lia
 ·simp only[if_neg hv];lia
theorem xjF(lo hi:Option Int)(n:Nat):dW lo hi 1 (n:Int)=(((sIx n 0 lo:Nat):Int),((sIx n n hi:Nat):Int)):=by
 have h1:¬((1:Int)<0):=by lia
 unfold dW;simp only[h1,if_false];refine Prod.ext ?_ ?_
 ·cases lo with
  |none=>rfl
  |some v=>exact xiZ v n 0
 ·cases hi with
  |none=>rfl
  |some v=>exact xiZ v n n
def xjG(i j:Nat):cG (i:Int) (j:Int) 1=j - i:=by
 unfold cG;have h1:(1:Int) > 0:=by lia
 simp only[h1,if_true,Int.ediv_one]
 split<;> lia
theorem xen{v:Value}{o:Option Int}{Q:Option Int->ai->Prop}(p:gx v o)(h:Q o s):wpAny (model prog w) A (Builtin.Slice.slicePartIndex v) Q E s:=by
 cases p with
 |none=>exact slicePart_none h
 |int i t=>exact slicePart_int h
def xdP{sl:Addr}{vl vu:Value}{lo hi:Option Int}{n:Nat}{Q:Int×Int×Nat->ai->Prop}(hs:s.heap.IsSliceOf sl vl vu .none)(pl:gx vl lo)(pu:gx vu hi)
  (h:Q (((sIx n 0 lo:Nat):Int),1,sIx n n hi - sIx n 0 lo) s):wpAny (model prog w) A (fX (.ref sl) (pure (n:Int))) Q E s:=by
 obtain⟨os,j8,ka,j9⟩:=id hs;unfold fX Builtin.Slice.sliceFields;refine aa (aa (bM j8 j9 (x:=vl) rfl (aa (bM j8 j9 (x:=vu) rfl (aa (bM j8 j9 (x:=.none) rfl (ak ?_)))))));refine aa (slicePart_none ?_);show wpAny _ _ (if ((1:Int)==0)=true then _ else _) _ _ s;rw[if_neg (by decide)];refine aa (xen pl (aa (xen pu (aa (ak ?_)))));show wpAny _ _ (match dW lo hi 1 (n:Int)with|(lo,hi)=>pure (lo,(1:Int),cG lo hi 1)) _ _ s;rw[xjF lo hi n];show wpAny _ _ (pure (((sIx n 0 lo:Nat):Int),(1:Int),cG ((sIx n 0 lo:Nat):Int) ((sIx n n hi:Nat):Int) 1)) _ _ s;rw[xjG];exact ak h
def xmg(xs:Array Value)(i k:Nat):((cT k).filterMap fun(m:Nat)=>xs[((i:Int)+(m:Int)*1).toNat]?).toArray=((xs.toList.drop i).take k).toArray:=by
 have e:(fun(m:Nat)=>xs[((i:Int)+(m:Int)*1).toNat]?)=fun m=>xs[i+m]? :=by
  funext m
  have:((i:Int)+(m:Int)*1).toNat=i+m:=by lia
  rw[this]
 rw[e];have:=pick_run xs i k;rw[iU]at this;have e2:((fun x=>xs[x]?)∘fun x=>i+x)=fun m=>xs[i+m]? :=rfl;rw[e2]at this;rw[this]
theorem xdm{t sl:Addr}{items:Array Value}{vl vu:Value}{lo hi:Option Int}{Q:Value->ai->Prop}(ht:IsTup s.heap t items)(hs:s.heap.IsSliceOf sl vl vu .none)(pl:gx vl lo)(pu:gx vu hi)
  (hw:¬(sIx items.size 0 lo=0/\sIx items.size items.size hi=items.size))
  (h:Q (.ref s.heap.objs.size) {s with heap:=s.heap.push {cls:=.type "tuple",data:=.seq ((items.toList.drop (sIx items.size 0 lo)).take (sIx items.size items.size hi - sIx items.size 0 lo)).toArray}})
  (hsz:items.size<=ax):wpAny (model prog w) A (gp (.ref t) (.ref sl)) Q E s:=by
 have j8:sizeOk (.seq ((items.toList.drop (sIx items.size 0 lo)).take (sIx items.size items.size hi - sIx items.size 0 lo)).toArray):=by
  show((items.toList.drop (sIx items.size 0 lo)).take (sIx items.size items.size hi - sIx items.size 0 lo)).toArray.size<=ax;rw[aC,bw,dF,bP];lia
 have hj:sIx items.size items.size hi<=items.size:=xkS _ _ (aq _) hi;obtain⟨os,j9,kb,kd⟩:=id hs;have kc:s.TypeIs (.ref sl) "slice":=⟨os,j9,kb⟩;unfold gp
 try with_reducible refine bD ?_
 first|refine aa (ak ?_)|skip
 refine aa (wpAny_sequenceKey ht.typeIs (by decide) ?_);refine aa (cQ (name:=aM "__getitem__") ht.typeIs cP
  (eY cP ht.typeIs entry_tuple_getitem ?_ (args_tuple_getitem _ _)))
 show wpAny _ _ (Builtin.Tuple.tupleItemsOf (.ref t) >>= _) _ _ s;refine aa (tupleItemsOf_ ht ?_);refine aa (wpAny_typeOf kc ?_);rw[if_pos (by decide)];refine aa (xdP hs pl pu ?_);have ka:¬((((sIx items.size 0 lo:Nat):Int)==0&&(1:Int)==1&&(sIx items.size items.size hi - sIx items.size 0 lo)==items.size)=true):=by
  intro q;rw[bx,bx]at q;have q1:((sIx items.size 0 lo:Nat):Int)=0:=eq_of_beq q.1.1;have q2:sIx items.size items.size hi - sIx items.size 0 lo=items.size:=eq_of_beq q.2;exact hw ⟨by lia,by lia⟩
 show wpAny _ _ (if (((sIx items.size 0 lo:Nat):Int)==0&&(1:Int)==1&&(sIx items.size items.size hi - sIx items.size 0 lo)==items.size)=true then _ else _) _ _ s;rw[if_neg ka,xmg]
 first
  |exact aa (m:=cN _) (bO (ak ⟨_,rfl,ak h⟩) j8)
  |exact aa (m:=cN _) (bO (aa (ak (ak ⟨_,rfl,ak h⟩))) j8)
  |exact aa (aa (m:=cN _) (bO (ak (ak ⟨_,rfl,ak h⟩)) j8))
  |exact aa (aa (m:=cN _) (bO (ak ⟨_,rfl,ak h⟩) j8))
end
end HT
namespace L2
open PySem PySem.Spec PyProof.Rows
variable {H H':Hp} {X:Cx} {s:ai} {u v:Value} {pins:List (Addr×Obj)} {σ:St} {A:bc} {y x:V} {a:Addr} {w:World} {E Q:Value->ai->Prop} {kvs:List (Key×V)} {xs:List V} {P:aX} {e o:Expr} {α:Type} {n t':Nat} {its:List Value} {T:String}
abbrev TO:=St->Hp->(Option Int->Hp->Prop)->Prop
def PO(X:Cx)(e:Option Expr)(t:TO):Prop:=
 ∀(pins:List (Addr×Obj)) (s:ai) (σ:St) (H:Hp) (Q:Option Int->Hp->Prop),Inv X pins σ H s->t σ H Q->
  wpAny (model X.prog X.w) X.A (evalPart e X.env) (fun u s'=>∃o H',Inv X pins σ H' s'/\gx u o/\Q o H') X.xe s
def xnA:TO:=fun _ H Q=>Q none H
def xp7(t:TE):TO:=fun σ H Q=>t σ H fun x H1=>∃i,x= .int i/\Q (some i) H1
theorem intsAre_of{ns:List Int}:∀{us:List Value},Vals (ns.map V.int) us->gZ us ns:=by
 induction ns with
 |nil=>intro us r;rw[iV]at r;cases r;exact .nil
 |cons n ns ih=>
  intro us r;rw[bI]at r;cases r with
  |cons r1 r2=>
   obtain⟨t,e⟩:=r1;subst e;exact .cons n t (ih r2)
section
variable {te:TE} {lo hi:Option Expr} {tl th:TO} {pos p2:Pos}
def zF:PO X none xnA:=by
 intro pins s σ H Q I h;rw[evalPart_none];exact ak ⟨none,H,I,.none,h⟩
def yS(h:PE X e te):PO X (some e) (xp7 te):=by
 intro pins s σ H Q I hw;rw[evalPart_some];refine thn (h pins s σ H _ I hw) fun u s1 ⟨x,H1,I1,r1,q1⟩=>?_;obtain⟨i,rfl,q⟩:=q1;obtain⟨t,rfl⟩:=r1;exact⟨some i,H1,I1,.int i t,q⟩
def SlR(X:Cx)(r:V->Option Int->Option Int->Hp->VK->Prop):Prop:=
 ∀(pins:List (Addr×Obj)) (s:ai) (σ:St) (H:Hp) (x:V) (v vl vu:Value) (lo hi:Option Int) (sl:Addr) (Q:VK),Inv X pins σ H s->RelV x v->s.heap.IsSliceOf sl vl vu .none->gx vl lo->gx vu hi->r x lo hi H Q->
  ∃T id,ic (.type T) "__getitem__"=pure (some (.builtin id))/\s.TypeIs v T/\wpAny (model X.prog X.w) X.A (gp v (.ref sl)) (EP X pins σ Q) X.xe s
def tSl(r:V->Option Int->Option Int->Hp->VK->Prop)(te:TE)(tl th:TO):TE:=fun σ H Q=>te σ H fun x H1=>tl σ H1 fun l H2=>th σ H2 fun u H3=>r x l u H3 Q
def yG{r:V->Option Int->Option Int->Hp->VK->Prop}(hr:SlR X r)(he:PE X e te)(hl:PO X lo tl)(hu:PO X hi th):PE X (.Subscript e (.Slice lo hi none p2) pos) (tSl r te tl th):=by
 intro pins s σ H Q I h;refine Subscript_ (thn (he pins s σ H _ I h) fun v s1 ⟨x,H1,I1,r1,q1⟩=>?_);refine wpAny_Slice (thn (hl pins s1 σ H1 _ I1 q1) fun vl s2 ⟨l,H2,I2,pl,q2⟩=>thn (hu pins s2 σ H2 _ I2 q2) fun vu s3 ⟨u,H3,I3,pu,q3⟩=>?_);rw[evalPart_none];refine ak ?_;have I4:Inv X pins σ H3 {s3 with heap:=s3.heap.push {cls:=.type "slice",data:=.fields #[vl,vu,.none]}}:=I3.kept (t':=s3.toks) fun b ob q=>af _ q;obtain⟨T,id,hT,ht,hg⟩:=hr pins {s3 with heap:=s3.heap.push {cls:=.type "slice",data:=.fields #[vl,vu,.none]}} σ H3 x v vl vu l u s3.heap.objs.size Q I4 r1 (Heap.IsSliceOf.new ..) pl pu q3;show wpAny (model X.prog X.w) X.A (iC e (.Slice lo hi none p2) v (.ref s3.heap.objs.size)) (EP X pins σ Q) X.xe {s3 with heap:=s3.heap.push {cls:=.type "slice",data:=.fields #[vl,vu,.none]}};exact tail_any (ops:=[.ref s3.heap.objs.size,v]) ht hT hg (by with_unfolding_all rfl)
def uo(xs:List V)(lo hi:Option Int):List V:=(xs.drop (HT.sIx xs.length 0 lo)).take (HT.sIx xs.length xs.length hi - HT.sIx xs.length 0 lo)
def xdu(xs:List V)(lo hi:Option Int):(uo xs lo hi).length<=xs.length:=by
 unfold uo;rw[bw,dF];lia
def xqP(K:ay):V->Option Int->Option Int->Hp->VK->Prop:=fun x lo hi H Q=>∃a xs,x= .ref a/\SqT K H a xs/\
 ¬(HT.sIx xs.length 0 lo=0/\HT.sIx xs.length xs.length hi=xs.length)/\∀p,H p=none->Q (.ref p) (upd H p (.tup (uo xs lo hi)))
def xkT:SlR X (xqP X.K):=by
 intro pins s σ H x v vl vu lo hi sl Q I rx hs pl pu h;obtain⟨a,xs,rfl,hx,hw,q⟩:=h;cases rx;obtain⟨its,r,ht,hz⟩:=I.tuple hx;have hlen:its.toArray.size=xs.length:=by rw[aC];exact r.length.symm
 refine⟨"tuple",_,cP.lookup,ht.typeIs,?_⟩;refine HT.xdm ht hs pl pu (by rw[hlen];exact hw) ?_ (by rw[hlen];exact hz);rw[hlen];refine⟨.ref s.heap.objs.size,_,I.laid (t':=s.toks) (o:=.tup (uo xs lo hi)) (fun b ob q=>af _ q) (aq _) ?_,rfl,q _ (I.hok.fresh (aq _))⟩;exact⟨aO (xdu xs lo hi) hz,_,(r.drop (HT.sIx xs.length 0 lo)).take (HT.sIx xs.length xs.length hi - HT.sIx xs.length 0 lo),IsTup.new _ _⟩
def xp8(K:ay):R2:=fun x y H Q=>∃a b xs ys,x= .ref a/\y= .ref b/\SqT K H a xs/\SqT K H b ys/\xs≠[]/\xs.length+ys.length<=ax/\
 (ys=[]->Q (.ref a) H)/\(ys≠[]->∀p,H p=none->Q (.ref p) (upd H p (.tup (xs++ys))))
theorem Vals.nil_iff{us:List Value}(r:Vals xs us):us=[]↔xs=[]:=by
 cases r with
 |nil=>simp
 |cons _ _=>simp
def xi0:OpR X (bQ .Add) (xp8 X.K):=by
 intro pins s σ H x y v u Q I rx ry h;obtain⟨a,b,xs,ys,rfl,rfl,ha,hb,hx,hz,q1,q2⟩:=h;cases rx;cases ry;obtain⟨its,r1,p1,_⟩:=I.tuple ha;obtain⟨j8,r2,p2,_⟩:=I.tuple hb;refine HT.xnz p1 p2 (fun z=>hx (r1.nil_iff.mp z)) (fun z=>⟨.ref a,H,I,rfl,q1 (r2.nil_iff.mp z)⟩) (fun z=>?_) (by rw[<-r1.length,<-r2.length];exact hz);refine⟨.ref s.heap.objs.size,_,I.laid (t':=s.toks) (o:=.tup (xs++ys)) (fun b ob q=>af _ q) (aq _) ?_,rfl,q2 (fun w=>z (r2.nil_iff.mpr w)) _ (I.hok.fresh (aq _))⟩;exact⟨by rw[aZ];exact hz,_,r1.append r2,IsTup.new _ _⟩
end
def ixN(n:Nat)(i:Int):Option Nat:=if 0<=i then(if i<n then some i.toNat else none)else if -(n:Int)<=i then some (i+n).toNat else none
def atI(xs:List α)(i:Int):Option α:=(ixN xs.length i).bind fun j=>xs[j]?
def xi1{i:Int}{j:Nat}(h:ixN n i=some j):seqIndex? i n=some j/\j<n/\-(n:Int)<=i/\i<n:=by
 unfold ixN at h
 by_cases h0:0<=i
 ·rw[if_pos h0]at h
  by_cases h1:i<n
  ·rw[if_pos h1]at h;have e:i.toNat=j:=aQ h;exact⟨by rw[seqIndex_of h0 h1,e],by lia,by lia,h1⟩
  ·rw[if_neg h1]at h;cases h
 ·rw[if_neg h0]at h
  by_cases h1: -(n:Int)<=i
  ·rw[if_pos h1]at h;have e:(i+n).toNat=j:=aQ h;exact⟨by rw[seqIndex_neg (by lia) h1,e],by lia,h1,by lia⟩
  ·rw[if_neg h1]at h;cases h
theorem xi2{xs:List α}{i:Int}{v:α}(h:atI xs i=some v):∃j,seqIndex? i xs.length=some j/\xs[j]? =some v/\j<xs.length/\-(xs.length:Int)<=i/\i<xs.length:=by
 unfold atI at h;cases e:ixN xs.length i with
 |none=>rw[e]at h;cases h
 |some j=>
  rw[e]at h;obtain⟨h1,h2,h3,h4⟩:=xi1 e;exact⟨j,h1,h,h2,h3,h4⟩
def ua{xs:List α}{j:Nat}{v:α}(h:xs[j]? =some v):atI xs (j:Int)=some v:=by
 have hj:j<xs.length:=(aR.mp h).1;have e:ixN xs.length (j:Int)=some j:=by
  unfold ixN;rw[if_pos (by lia),if_pos (by lia)];simp
 unfold atI;rw[e];exact h
def xnB(b:Expr):Prop:=∀o i,gS b false o i=operate [o,i] (gp o i)
def IxR(X:Cx)(r:R2):Prop:=
 ∀(value slice:Expr) (pins:List (Addr×Obj)) (s:ai) (σ:St) (H:Hp) (x y:V) (v u:Value) (Q:VK),Inv X pins σ H s->RelV x v->RelV y u->r x y H Q->
  gS slice false v u=operate [v,u] (gp v u)->wpAny (model X.prog X.w) X.A (iC value slice v u) (EP X pins σ Q) X.xe s
def MtR(X:Cx)(id:String)(r:V->List V->Hp->VK->Prop):Prop:=
 ∀(pins:List (Addr×Obj)) (s:ai) (σ:St) (H:Hp) (x:V) (xs:List V) (v:Value) (us:List Value) (Q:VK),Inv X pins σ H s->RelV x v->Vals xs us->r x xs H Q->
  wpAny (model X.prog X.w) X.A (call (.builtin id) (v::us)) (EP X pins σ Q) X.xe s
section
variable {X:Cx} {a b:Expr} {ta tb:TE} {pos:Pos}
def xA{r:R2}(hr:IxR X r)(ha:PE X a ta)(hb:PE X b tb)(hs:xnB b):PE X (.Subscript a b pos) (tOp r ta tb):=by
 intro pins s σ H Q I h;exact Subscript_ (xma ha hb I h fun v u s2 x y H2 I2 rx ry q=>hr a b pins s2 σ H2 x y v u Q I2 rx ry q (hs _ _))
def xo0(K:ay):R2:=fun x y H Q=>∃p xs i v,x= .ref p/\y= .int i/\SqL K H p xs/\atI xs i=some v/\Q v H
def xo1(K:ay):R2:=fun x y H Q=>∃p xs i v,x= .ref p/\y= .int i/\SqT K H p xs/\atI xs i=some v/\Q v H
def yb:IxR X (xo0 X.K):=by
 intro value slice pins s σ H x y v u Q I rx ry h hs;obtain⟨p,xs,i,z,rfl,rfl,hq,he,q⟩:=h;cases rx;obtain⟨t,rfl⟩:=ry;obtain⟨its,r,pl,hz⟩:=I.list hq;obtain⟨j,h1,h2,h3,h4,h5⟩:=xi2 he;obtain⟨w,ew,j8⟩:=r.get h2;have hl:=r.length;have hn:=xcn;have fin:EP X pins σ Q w s:=⟨z,H,I,j8,q⟩
 by_cases h0:0<=i
 ·have hj:i.toNat=j:=by
   rw[seqIndex_of h0 h5]at h1;exact aQ h1
  exact item_listR pl.isList h0 (by lia) (by rw[hj];simpa using ew) fin hs
 ·have hj:(i+(its.toArray.size:Int)).toNat=j:=by
   rw[seqIndex_neg (by lia) h4]at h1;rw[aC,<-hl];exact aQ h1
  exact subscriptTail_builtinR (x:=w) pl.isList.typeIs slot_list_getitem.lookup
   (wpAny_getItem_list_neg (Q:=fun r s'=>r=w/\EP X pins σ Q r s') pl.isList (by lia) (by rw[aC]<;> lia) (by lia) (by rw[hj];simpa using ew) ⟨rfl,fin⟩) hs
def xF:IxR X (xo1 X.K):=by
 intro value slice pins s σ H x y v u Q I rx ry h hs;obtain⟨p,xs,i,z,rfl,rfl,hq,he,q⟩:=h;cases rx;obtain⟨t,rfl⟩:=ry;obtain⟨its,r,pl,hz⟩:=I.tuple hq;obtain⟨j,h1,h2,h3,h4,h5⟩:=xi2 he;obtain⟨w,ew,j8⟩:=r.get h2;have hl:=r.length;have hn:=xcn;have fin:EP X pins σ Q w s:=⟨z,H,I,j8,q⟩;exact subscriptTail_builtinR (x:=w) pl.typeIs slot_tuple_getitem.lookup
  (getItem_tuple (j:=j) (Q:=fun r s'=>r=w/\EP X pins σ Q r s') pl (by lia) (by lia) (by rw[aC,<-hl];exact h1) (by simpa using ew) ⟨rfl,fin⟩) hs
def xjH(its:List Value)(n j:Nat)(u:Value):cb (·.setIfInBounds j u) {cls:=.type "list",data:=.seq its.toArray n}={cls:=.type "list",data:=.seq (its.set j u).toArray n}:=by
 simp[cb]
def Inv.lst{p:Addr}(I:Inv X pins σ H s)(h:H p=some (.lst xs)):
  ∃(its:List Value) (n:Nat),Vals xs its/\s.heap.get? p=some {cls:=.type "list",data:=.seq its.toArray n}/\xs.length<=ax:=by
 obtain⟨z,its,n,r,e⟩:=I.hok p _ h;exact⟨its,n,r,e,z⟩
def Inv.lstUpd{p:Addr}{ys:List V}{its':List Value}{n':Nat}{f:Obj->Obj}(I:Inv X pins σ H s)(h:H p=some (.lst xs))
  (ho:s.heap.get? p=some {cls:=.type "list",data:=.seq its.toArray n}) (hf:f {cls:=.type "list",data:=.seq its.toArray n}={cls:=.type "list",data:=.seq its'.toArray n'}) (r:Vals ys its') (hz:ys.length<=ax) (t:Nat):
  Inv X pins σ (upd H p (.lst ys)) {s with heap:=s.heap.update p f,toks:=t}:=by
 have e:(s.heap.update p f).get? p=some {cls:=.type "list",data:=.seq its'.toArray n'}:=by
  rw[br f ho (by rw[hf]<;> rfl),hf]
 refine I.write (x:=p) (e:=p) (by rw[h];trivial) (.inl rfl) (fun b u hb q=>(aV _ _ (aL hb)).trans q) ⟨_,e⟩ ?_;exact⟨hz,its',n',r,e⟩
def xp9:V->V->V->Hp->(Hp->Prop)->Prop:=fun o i v H Q=>∃p xs k j,o= .ref p/\i= .int k/\H p=some (.lst xs)/\ixN xs.length k=some j/\Q (upd H p (.lst (xs.set j v)))
def set_list:xoN X xp9:=by
 intro pins s σ H o i v ov iv u Q I ro ri rv h;obtain⟨p,xs,k,j,rfl,rfl,hp,hj,q⟩:=h;cases ro;obtain⟨t,rfl⟩:=ri;obtain⟨its,n,r,ho,hz⟩:=I.lst hp;obtain⟨h1,h2,h3,h4⟩:=xi1 hj;have hl:=r.length;have hn:=xcn;have I':Inv X pins σ (upd H p (.lst (xs.set j v))) {s with heap:=s.heap.update p (cb (·.setIfInBounds j u))}:=
  I.lstUpd hp ho (xjH its n j u) (r.set rv j) (by rw[List.length_set];exact hz) s.toks
 by_cases h0:0<=k
 ·have hk:k.toNat=j:=by
   rw[seqIndex_of h0 h4]at h1;exact aQ h1
  exact W.ki_setAt ho h0 (by lia) (by rw[aC,<-hl];exact h4) (by rw[hk];exact⟨_,I',q⟩)
 ·have hk:(k+(its.toArray.size:Int)).toNat=j:=by
   rw[seqIndex_neg (by lia) h3]at h1;rw[aC,<-hl];exact aQ h1
  exact W.ki_setBack ho (by lia) (by rw[aC,<-hl];exact h3) (by lia) (by rw[hk];exact⟨_,I',q⟩)
theorem xcq(lo hi:Option Int)(n:Nat):(dN lo hi none n).1=((HT.sIx n 0 lo:Nat):Int)/\(dN lo hi none n).2.1=((HT.sIx n n hi:Nat):Int)/\(dN lo hi none n).2.2=1:=by
 refine⟨?_,?_,rfl⟩
 ·cases lo with
  |none=>simp[dN,HT.sIx]
  |some i=>
   simp only[dN,HT.sIx,j4,show(1:Int) > 0 by decide,if_true]
   by_cases h:i<0
   ·simp only[h,if_true]<;> lia
   ·simp only[h,if_false]<;> lia
 ·cases hi with
  |none=>simp[dN,HT.sIx]
  |some i=>
   simp only[dN,HT.sIx,j4,show(1:Int) > 0 by decide,if_true]
   by_cases h:i<0
   ·simp only[h,if_true]<;> lia
   ·simp only[h,if_false]<;> lia
def xgj(its:List Value)(lo hi:Option Int):slicePick its.toArray lo hi none=((its.drop (HT.sIx its.length 0 lo)).take (HT.sIx its.length its.length hi - HT.sIx its.length 0 lo)).toArray:=by
 obtain⟨h1,h2,h3⟩:=xcq lo hi its.toArray.size;unfold slicePick;rw[h1,h2,h3];simp only[sliceRange_one,pick_run,aC]<;> rfl
def xo2(K:ay):V->Option Int->Option Int->Hp->VK->Prop:=fun x lo hi H Q=>∃a xs,x= .ref a/\SqL K H a xs/\∀p,H p=none->Q (.ref p) (upd H p (.lst (uo xs lo hi)))
def ub:SlR X (xo2 X.K):=by
 intro pins s σ H x v vl vu lo hi sl Q I rx hs pl pu h;obtain⟨a,xs,rfl,hx,q⟩:=h;cases rx;obtain⟨its,r,ht,hz⟩:=I.list hx;have hlen:=r.length;refine⟨"list",_,slot_list_getitem.lookup,ht.isList.typeIs,?_⟩;refine wpAny_getItem_list_slice ht.isList hs pl pu .none (by simp) ?_ (by rw[aC]<;> lia);rw[xgj,<-hlen];refine⟨.ref s.heap.objs.size,_,I.laid (t':=s.toks) (o:=.lst (uo xs lo hi)) (fun b ob q=>af _ q) (aq _) ?_,rfl,q _ (I.hok.fresh (aq _))⟩;exact⟨aO (xdu xs lo hi) hz,_,0,(r.drop (HT.sIx xs.length 0 lo)).take (HT.sIx xs.length xs.length hi - HT.sIx xs.length 0 lo),aI _ rfl⟩
def jE:V->Bool
 | .non=>true
 | .bl _=>true
 | .int _=>true
 | .str _=>true
 |_=>false
def eqV:V->V->Bool
 | .non,.non=>true
 | .bl a,.bl b=>a==b
 | .bl a,.int b=>(if a then 1 else 0)==b
 | .int a,.bl b=>a==(if b then 1 else 0)
 | .int a,.int b=>a==b
 | .str a,.str b=>a==b
 |_,_=>false
theorem xo3(ry:RelV y u)(rx:RelV x v)(fy:jE y=true)(fx:jE x=true):SeqAt.EqAt A s u v (eqV y x):=by
 cases y with
 |non=>
  cases ry;cases x with
  |non=>cases rx;exact SeqAt.EqAt.same _
  |bl b=>cases rx;exact SeqAt.EqAt.none_bool b
  |int b=>obtain⟨t,rfl⟩:=rx;exact SeqAt.EqAt.none_int b t
  |str b=>obtain⟨t,rfl⟩:=rx;exact SeqAt.EqAt.none_str b t
  |_=>exact absurd (show false=true from fx) aB
 |bl a=>
  cases ry;cases x with
  |non=>cases rx;exact SeqAt.EqAt.bool_none a
  |bl b=>cases rx;exact SeqAt.EqAt.bool_bool a b
  |int b=>obtain⟨t,rfl⟩:=rx;exact SeqAt.EqAt.bool_int a b t
  |str b=>obtain⟨t,rfl⟩:=rx;exact SeqAt.EqAt.bool_str a b t
  |_=>exact absurd (show false=true from fx) aB
 |int a=>
  obtain⟨t',rfl⟩:=ry;cases x with
  |non=>cases rx;exact SeqAt.EqAt.int_none a t'
  |bl b=>cases rx;exact SeqAt.EqAt.int_bool a t' b
  |int b=>obtain⟨t,rfl⟩:=rx;exact SeqAt.EqAt.int_int a t' b t
  |str b=>obtain⟨t,rfl⟩:=rx;exact iO a t' b t
  |_=>exact absurd (show false=true from fx) aB
 |str a=>
  obtain⟨t',rfl⟩:=ry;cases x with
  |non=>cases rx;exact SeqAt.EqAt.str_none a t'
  |bl b=>cases rx;exact SeqAt.EqAt.str_bool a t' b
  |int b=>obtain⟨t,rfl⟩:=rx;exact iP a t' b t
  |str b=>obtain⟨t,rfl⟩:=rx;exact SeqAt.EqAt.str_str a t' b t
  |_=>exact absurd (show false=true from fx) aB
 |_=>exact absurd (show false=true from fy) aB
def eqU(x:V)(u:Value):Bool:=match u with
 | .none=>eqV .non x
 | .bool b=>eqV (.bl b) x
 | .int i _=>eqV (.int i) x
 | .str z _=>eqV (.str z) x
 |_=>false
theorem xkU(r:RelV y u)(f:jE y=true):eqU x u=eqV y x:=by
 cases y with
 |non=>cases r;rfl
 |bl b=>cases r;rfl
 |int i=>obtain⟨t,rfl⟩:=r;rfl
 |str z=>obtain⟨t,rfl⟩:=r;rfl
 |_=>exact absurd (show false=true from f) aB
theorem xe2{x:V}:∀{xs:List V} {us:List Value},Vals xs us->xs.all jE=true->us.any (eqU x)=xs.any fun y=>eqV y x
 |_,_,.nil,_=>rfl
 |y::xs,u::us,.cons r t,f=>by
  rw[List.all_cons,bx]at f;rw[cC,cC,xkU r f.1,xe2 t f.2]
theorem xdQ{A:bc}{s:ai}{x:V}{v:Value}(rx:RelV x v)(fx:jE x=true):∀{xs:List V} {us:List Value},Vals xs us->xs.all jE=true->∀u∈us,SeqAt.EqAt A s u v (eqU x u)
 |_,_,.nil,_=>fun u hu=>by cases hu
 |y::xs,u::us,.cons r t,f=>fun u' hu=>by
  rw[List.all_cons,bx]at f;rcases ah.mp hu with rfl|hu
  ·rw[xkU r f.1];exact xo3 r rx f.1 fx
  ·exact xdQ rx fx t f.2 u' hu
def inV(x:V)(xs:List V):Bool:=xs.any fun y=>eqV y x
def rIn(K:ay)(neg:Bool):R2:=fun x y H Q=>∃p xs,y= .ref p/\(SqL K H p xs\/SqT K H p xs)/\jE x=true/\xs.all jE=true/\Q (.bl (if neg then !inV x xs else inV x xs)) H
def xcr:OpR X (bg .In) (rIn X.K false):=by
 intro pins s σ H x y v u Q I rx ry h;obtain⟨p,xs,rfl,hq,fx,fs,q⟩:=h;cases ry;rcases hq with hq|hq
 ·obtain⟨its,r,pl,hz⟩:=I.list hq;refine SeqAt.in_listAt (eqU x) pl.isList (fun w hw=>xdQ rx fx r fs w (by simpa using hw)) ⟨.bl _,H,I,rfl,?_⟩;rw[show its.toArray.any (eqU x)=its.any (eqU x)by simp,xe2 r fs];exact q
 ·obtain⟨its,r,pl,hz⟩:=I.tuple hq;refine SeqAt.in_tupleAt (eqU x) pl (fun w hw=>xdQ rx fx r fs w (by simpa using hw)) ⟨.bl _,H,I,rfl,?_⟩;rw[show its.toArray.any (eqU x)=its.any (eqU x)by simp,xe2 r fs];exact q
def xJ:yq X (.builtin "len") (fun xs H Q=>∃p ys,xs=[.ref p]/\(SqL X.K H p ys\/SqT X.K H p ys)/\Q (.int ys.length) H):=by
 intro pins s σ H xs us Q I r h;obtain⟨p,ys,rfl,hq,q⟩:=h;obtain⟨u,rfl,rx⟩:=vals1 r;cases rx;have hn:=xcn;rcases hq with hq|hq
 ·obtain⟨its,r',pl,hz⟩:=I.list hq;have hlen:=r'.length;exact Calls.call_len_list pl.isList (by simp only[aC]<;> lia) ⟨.int ys.length,H,I.tok _,⟨s.toks+1,by rw[aC,hlen]⟩,q⟩
 ·obtain⟨its,r',pl,hz⟩:=I.tuple hq;have hlen:=r'.length;exact len_tuple pl (by simp only[aC]<;> lia) ⟨.int ys.length,H,I.tok _,⟨s.toks+1,by rw[aC,hlen]⟩,q⟩
def xcs:yq X (.builtin "len") (fun xs H Q=>∃z,xs=[.str z]/\z.length<=ax/\Q (.int z.length) H):=by
 intro pins s σ H xs us Q I r h;obtain⟨z,rfl,hz,q⟩:=h;obtain⟨u,rfl,t,rfl⟩:=vals1 r;have hn:=xcn;exact len_str (by lia) ⟨.int z.length,H,I.tok _,⟨_,rfl⟩,q⟩
def jN:yq X (.type "list") (fun xs H Q=>∃p ys,xs=[.ref p]/\(SqL X.K H p ys\/SqT X.K H p ys)/\∀l,H l=none->Q (.ref l) (upd H l (.lst ys))):=by
 intro pins s σ H xs us Q I r h;obtain⟨p,ys,rfl,hq,q⟩:=h;obtain⟨u,rfl,rx⟩:=vals1 r;cases rx;have fin:∀(its:List Value),Vals ys its->ys.length<=ax->∀(h':Heap) (c':Nat),(∀b o',s.heap.get? b=some o'->h'.get? b=some o')->
   h'.get? s.heap.objs.size=some {cls:=.type "list",dict:=none,data:=.seq its.toArray c',slots:=#[]}->EP X pins σ Q (.ref s.heap.objs.size) {s with heap:=h'}:=fun its r' hz h' c' kp e=>
  ⟨.ref s.heap.objs.size,_,I.laid (t':=s.toks) kp (aq _) (show xR X.prog X.w _ h' _ (.lst ys)from⟨hz,its,c',r',e⟩),rfl,q _ (I.hok.fresh (aq _))⟩
 rcases hq with hq|hq
 ·obtain⟨its,r',pl,hz⟩:=I.list hq;have hlen:=r'.length;obtain⟨o,ho,hc,n,hd⟩:=pl.isList;exact call_list_seq p (.inl rfl) ho hc hd (fun h' c' kp e=>fin its r' hz h' c' kp e) (by simp only[aC]<;> lia)
 ·obtain⟨its,r',pl,hz⟩:=I.tuple hq;have hlen:=r'.length;obtain⟨o,ho,hc,n,hd⟩:=pl;exact call_list_seq p (.inr rfl) ho hc hd (fun h' c' kp e=>fin its r' hz h' c' kp e) (by simp only[aC]<;> lia)
def vY:yq X (.type "tuple") (fun xs H Q=>∃p ys,xs=[.ref p]/\((SqL X.K H p ys/\∀l,H l=none->Q (.ref l) (upd H l (.tup ys)))\/(SqT X.K H p ys/\Q (.ref p) H))):=by
 intro pins s σ H xs us Q I r h;obtain⟨p,ys,rfl,h⟩:=h;obtain⟨u,rfl,rx⟩:=vals1 r;cases rx;rcases h with⟨hq,q⟩|⟨hq,q⟩
 ·obtain⟨its,r',pl,hz⟩:=I.list hq;have hlen:=r'.length;refine call_tuple_list pl.isList (fun h' kp=>?_) (by simp only[aC]<;> lia);have I1:Inv X pins σ H {s with heap:=h'}:=I.kept (t':=s.toks) kp;have I2:Inv X pins σ (upd H h'.objs.size (.tup ys)) {s with heap:=h'.push {cls:=.type "tuple",data:=.seq its.toArray}}:=
   I1.laid (t':=s.toks) (fun b o e=>af _ e) (aq _) (show xR X.prog X.w _ _ _ (.tup ys)from⟨hz,its,r',IsTup.new _ _⟩)
  exact⟨.ref h'.objs.size,_,I2,rfl,q _ (I1.hok.fresh (aq _))⟩
 ·obtain⟨its,r',pl,hz⟩:=I.tuple hq;exact call_tuple_same pl ⟨.ref p,H,I,rfl,q⟩
def tyV(K:ay)(T:String)(x:V)(H:Hp):Prop:=match x with
 | .str _=>T="str"
 | .int _=>T="int"
 | .ref p=>(T="list"/\∃xs,SqL K H p xs)\/(T="tuple"/\∃o,K.lookup p=some o/\o.cls= .type "tuple"/\o.dict=none)\/
   (T="dict"/\((∃kvs,H p=some (.dK kvs))\/∃kvs,H p=some (.dT kvs)))\/(T="set"/\∃S n,H p=some (.set S n))
 |_=>False
theorem xo4(I:Inv X pins σ H s)(r:RelV x v)(ty:tyV X.K T x H):
  s.TypeIs v T/\∀a,v= .ref a->∃ob,s.heap.get? a=some ob/\ob.dict=none:=by
 cases x with
 |str z=>
  obtain⟨t,rfl⟩:=r;cases (show T="str" from ty);exact⟨dG s z t,fun _ e=>nomatch e⟩
 |int i=>
  obtain⟨t,rfl⟩:=r;cases (show T="int" from ty);exact⟨typeIs_int s i t,fun _ e=>nomatch e⟩
 |ref p=>
  cases r;rcases ty with⟨rfl,xs,hq⟩|⟨rfl,o,hk,hc,hd⟩|⟨rfl,hk⟩|⟨rfl,S,n,hk⟩
  ·obtain⟨its,_,pl,_⟩:=I.list hq;refine⟨pl.isList.typeIs,fun a e=>?_⟩;cases e;obtain⟨o,n,e,c,hd,_⟩:=pl;exact⟨o,e,hd⟩
  ·refine⟨⟨o,I.kIn p o hk,hc⟩,fun a e=>?_⟩;cases e;exact⟨o,I.kIn _ o hk,hd⟩
  ·have z:∃o,s.heap.get? p=some o/\o.ExactDict:=by
    rcases hk with⟨kvs,hk⟩|⟨kvs,hk⟩
    ·obtain⟨_,_,_,_,o,_,_,e,ex,_⟩:=I.hok p _ hk;exact⟨o,e,ex⟩
    ·obtain⟨_,_,_,_,o,_,_,e,ex,_⟩:=I.hok p _ hk;exact⟨o,e,ex⟩
   obtain⟨o,e,ex⟩:=z;refine⟨⟨o,e,ex.1⟩,fun a e2=>?_⟩;cases e2;exact⟨o,e,ex.2.1⟩
  ·obtain⟨o,_,_,_,e,ex,_⟩:=I.hok p _ hk;refine⟨⟨o,e,ex.1⟩,fun a e2=>?_⟩;cases e2;exact⟨o,e,ex.2.1⟩
 |_=>exact aS ty
def tBM(K:ay)(T:String)(r:V->List V->Hp->VK->Prop)(to:TE)(t:TA):TE:=fun σ H Q=>to σ H fun x H1=>tyV K T x H1/\t σ H1 fun xs H2=>r x xs H2 Q
variable {o e:Expr} {es:List Expr} {to:TE} {t:TA} {name:Str} {apos cpos:Pos} {T id:String} {r:V->List V->Hp->VK->Prop}
def zh(pa:PlainAttrs T)(slot:Slot T name id)(kc:typeOf (.builtin id)=pure (.type "method_descriptor"))(hm:MtR X id r)(ho:PE X o to)(ha:PA X (e::es) t)
  (ka:dJ o name X.env (eval o X.env)=eval o X.env:=by rfl)
  (kb:((bB cpos (aD (e::es) X.env)).all (fun x=> !x.1)&&(eX cpos (de [] X.env)).all (fun x=>x.1.isSome)
   &&decide ((e::es).length+([]:List gn).length+(if ([]:List gn).isEmpty then 0 else 1)<30))=true:=by rfl)
  (j9:(apos.endLine==cpos.line)=true:=by rfl) (hs:aD (e::es) X.env=(false,eval e X.env)::aD es X.env:=by rfl) (j8:(bB cpos (aD es X.env)).any (·.1)=false:=by rfl):
  PE X (.Call (.Attribute o name apos) (e::es) [] cpos) (tBM X.K T r to t):=by
 intro pins s σ H Q I h;refine wpAny_Call_method_late ka kb j9 rfl (thn (ho pins s σ H _ I h) fun v s1 ⟨x,H1,I1,r1,ty,q1⟩=>?_);obtain⟨h1,h2⟩:=xo4 I1 r1 ty;refine⟨T,id,pa,slot,kc,h1,h2,?_⟩;have hA:=ha cpos pins s1 σ H1 _ I1 q1;rw[hs]at hA⊢;refine gT (by show(false||(bB cpos (aD es X.env)).any (·.1))=false;rw[j8]<;> rfl) (ie ?_);exact thn hA fun us s2 ⟨vs,H2,I2,r2,q2⟩=>hm pins s2 σ H2 x vs v us Q I2 r1 r2 q2
end
def MtM(X:Cx)(id:String)(r:V->List V->Hp->VK->Prop):Prop:=
 ∀(pins:List (Addr×Obj)) (s:ai) (σ:St) (H:Hp) (x:V) (xs:List V) (v:Value) (us:List Value) (Q:VK),Inv X pins σ H s->RelV x v->Vals xs us->r x xs H Q->
  wpAny (model X.prog X.w) X.A (call (.builtin id) (v::us)) (EP X pins σ Q) X.xe s
theorem Vals.one:∀{x:V} {us:List Value},Vals [x] us->∃u,us=[u]/\RelV x u
 |_,_,.cons r .nil=>⟨_,rfl,r⟩
theorem Vals.two:∀{x y:V} {us:List Value},Vals [x,y] us->∃u v,us=[u,v]/\RelV x u/\RelV y v
 |_,_,_,.cons r (.cons q .nil)=>⟨_,_,rfl,r,q⟩
theorem Vals.rep{xs:List V}{us:List Value}(h:Vals xs us):∀k:Nat,Vals (aK k xs).flatten (aK k us).flatten
 |0=>.nil
 |k+1=>by
  rw[bR,bR,dh,dh];exact Vals.append h (Vals.rep h k)
theorem foldl_rep(its:List Value):∀(k:Nat) (acc:List Value),
  List.foldl (fun x1 x2=>x1++x2) acc.toArray (aK k its.toArray)=(acc++(aK k its).flatten).toArray
 |0,acc=>by simp
 |k+1,acc=>by
  have e:acc.toArray++its.toArray=(acc++its).toArray:=by simp
  have e2:(acc++its)++(aK k its).flatten=acc++(aK (k+1) its).flatten:=by
   rw[bR,dh,eM]
  rw[<-e2,<-foldl_rep its k (acc++its),<-e,bR,gN]
section
variable {l b:Addr} {ys zs:List V}
def Inv.lset{its':List Value}{f:Array Value->Array Value}(I:Inv X pins σ H s)(hH:H l=some (.lst xs))
  (e:s.heap.get? l=some {cls:=.type "list",data:=.seq its.toArray n}) (hf:f its.toArray=its'.toArray) (hv:Vals ys its') (hz:ys.length<=ax):
  Inv X pins σ (upd H l (.lst ys)) {s with heap:=s.heap.update l (cb f),toks:=t'}:=by
 have q:=PySem.IsL.update e f;rw[hf]at q;refine I.write (x:=l) (e:=l) (by rw[hH];exact trivial) (.inl rfl) (fun b' u hb hu=>(aV s.heap (cb f) (aL hb)).trans hu) ⟨_,q⟩ ?_;exact⟨hz,its',_,hv,q⟩
def Inv.lnew(I:Inv X pins σ H s)(hv:Vals ys its)(hz:ys.length<=ax):
  Inv X pins σ (upd H s.heap.objs.size (.lst ys)) {s with heap:=s.heap.push {cls:=.type "list",data:=.seq its.toArray},toks:=t'}:=
 I.laid (fun _ _ q=>af _ q) (aq _) ⟨hz,its,0,hv,aI _ rfl⟩
def Inv.fresh(I:Inv X pins σ H s):H s.heap.objs.size=none:=I.hok.fresh (aq _)
def Inv.lstM(I:Inv X pins σ H s)(hH:H l=some (.lst xs)):xs.length<=ax/\∃(its:List Value) (n:Nat),Vals xs its/\xs.length=its.length/\s.heap.get? l=some {cls:=.type "list",data:=.seq its.toArray n}:=by
 obtain⟨z,its,n,r,e⟩:=I.hok l _ hH;exact⟨z,its,n,r,r.length,e⟩
def xdR(h:n<=ax):bS n=false:=by
 unfold bS;exact decide_eq_false (by lia)
end
def xnC:V->List V->Hp->VK->Prop:=fun x vs H Q=>∃l xs y,x= .ref l/\vs=[y]/\H l=some (.lst xs)/\xs.length<ax/\Q .non (upd H l (.lst (xs++[y])))
def zq:MtM X "list.append" xnC:=by
 intro pins s σ H x vs v us Q I rx rv h;obtain⟨l,xs,y,rfl,rfl,hH,hz,q⟩:=h;cases rx;obtain⟨u,rfl,ru⟩:=rv.one;obtain⟨z,its,n,r,hl,e⟩:=I.lstM hH;refine cH F.slot_list_append ⟨_,e,rfl⟩ F.entry_list_append (F.args_list_append_2 _ _) (PySem.list_append l its.toArray n u (by rw[aC];lia)) ⟨e,?_⟩;refine⟨.non,_,I.lset (its':=its++[u]) hH e (by simp) (r.append (.cons ru .nil)) ?_,rfl,q⟩;rw[aZ,fc];lia
def xnD:V->List V->Hp->VK->Prop:=fun x vs H Q=>∃l b xs zs,x= .ref l/\vs=[.ref b]/\H l=some (.lst xs)/\H b=some (.lst zs)/\xs.length+zs.length<=ax/\Q .non (upd H l (.lst (xs++zs)))
def xfS:MtM X "list.extend" xnD:=by
 intro pins s σ H x vs v us Q I rx rv h;obtain⟨l,b,xs,zs,rfl,rfl,hH,hB,hz,q⟩:=h;cases rx;obtain⟨u,rfl,ru⟩:=rv.one;cases ru;obtain⟨z,its,n,r,hl,e⟩:=I.lstM hH;obtain⟨z2,j8,n2,r2,ka,e2⟩:=I.lstM hB;have hsz:its.toArray.size+j8.toArray.size<=ax:=by rw[aC,aC];lia
 have j9:¬(!its.toArray.isEmpty&&bS (its.toArray.size+j8.toArray.size))=true:=by
  rw[xdR hsz,fE];exact aB
 refine cH F.slot_list_extend ⟨_,e,rfl⟩ F.entry_list_extend (F.args_list_extend_2 _ _)
  (AutoSeq1.list_extend_list_list_0 l its.toArray n b j8.toArray n2 j9 (by rw[aC];lia) (by lia)) ⟨e,e2,?_⟩
 refine⟨.non,_,I.lset (its':=its++j8) hH e (by simp) (r.append r2) ?_,rfl,q⟩;rw[aZ];lia
def xqQ:R2:=fun x y H Q=>∃l b xs zs,x= .ref l/\y= .ref b/\H l=some (.lst xs)/\H b=some (.lst zs)/\xs.length+zs.length<=ax/\∀p,H p=none->Q (.ref p) (upd H p (.lst (xs++zs)))
def jO:OpR X (bQ .Add) xqQ:=by
 intro pins s σ H x y v u Q I rx ry h;obtain⟨l,b,xs,zs,rfl,rfl,hH,hB,hz,q⟩:=h;cases rx;cases ry;obtain⟨z,its,n,r,hl,e⟩:=I.lstM hH;obtain⟨z2,j8,n2,r2,j9,e2⟩:=I.lstM hB;refine PySem.P.add_list e e2 ?_ (by rw[aC,aC];lia);have ea:its.toArray++j8.toArray=(its++j8).toArray:=by simp
 rw[ea];exact⟨.ref _,_,I.lnew (t':=s.toks) (r.append r2) (by rw[aZ];lia),rfl,q _ I.fresh⟩
def xqR:R2:=fun x y H Q=>∃l k xs,x= .ref l/\y= .int k/\H l=some (.lst xs)/\-(2^63)<=k/\k<2^63/\xs.length*k.toNat<=ax/\
 ∀p,H p=none->Q (.ref p) (upd H p (.lst (aK k.toNat xs).flatten))
theorem len_rep(xs:List α)(k:Nat):(aK k xs).flatten.length=k*xs.length:=by
 induction k with
 |zero=>simp
 |succ k ih=>rw[bR,dh,aZ,ih,iW,Nat.add_comm]
theorem xo5:OpR X (bQ .Mult) xqR:=by
 intro pins s σ H x y v u Q I rx ry h;obtain⟨l,k,xs,rfl,rfl,hH,h1,h2,hz,q⟩:=h;cases rx;obtain⟨t,rfl⟩:=ry;obtain⟨z,its,n,r,hl,e⟩:=I.lstM hH;have hlen:its.toArray.size*k.toNat<=ax:=by rw[aC,<-hl];exact hz
 have kb:¬its.toArray.size*k.toNat > (2^63 - 1) / 8:=by
  have:(ax:Nat)<=(2^63 - 1) / 8:=by decide
  lia
 have ka:¬(!Builtin.List.listFitsIndex k)=true:=by
  rw[fitsIndex_both h1 h2];exact aB
 have j8:¬bS (its.toArray.size*k.toNat)=true:=by
  rw[xdR hlen];exact aB
 have j9:List.foldl (fun x1 x2=>x1++x2) #[] (aK (if its.toArray.isEmpty=true then 0 else k.toNat) its.toArray)=(aK k.toNat its).flatten.toArray:=by
  have f0:∀m:Nat,List.foldl (fun x1 x2=>x1++x2) #[] (aK m its.toArray)=(aK m its).flatten.toArray:=fun m=>by
   have:=foldl_rep its m [];rw[List.nil_append]at this;exact this
  rw[f0];cases its with
  |nil=>simp
  |cons a r'=>rw[if_neg (by simp)]
 refine wpAny_binaryOp_repeat_ref (T:="list") (U:="int") (by decide) ⟨_,e,rfl⟩ (fun s'=>typeIs_int s' k t) noFill_list_mul F.fills_int_mul F.slot_int_rmul repeat_list F.slot_int_index.lookup
  (cH F.slot_int_rmul (typeIs_int s k t) F.entry_int_rmul (F.args_int_rmul_2 _ _) (int___rmul___int_list k t l its.toArray n)
   ⟨e,rfl,⟨_,e,rfl⟩,cH F.slot_list_mul ⟨_,e,rfl⟩ F.entry_list_mul (F.args_list_mul_2 _ _) (AutoListH.list___mul___list_int_3 l its.toArray n k t ka kb j8) ⟨e,?_⟩⟩)
 rw[j9];exact⟨.ref _,_,I.lnew (t':=s.toks) (r.rep k.toNat) (by rw[len_rep,Nat.mul_comm];exact hz),rfl,q _ I.fresh⟩
section
variable {prog:aX}
set_option maxRecDepth 100000 in
end
section
variable {κ:Type} [DecidableEq κ]
def yO(kvs:List (κ×V))(k:κ):Option V:=(kvs.find? fun kv=>decide (kv.1=k)).map (·.2)
def putK(kvs:List (κ×V))(k:κ)(v:V):List (κ×V):=
 if (kvs.any fun kv=>decide (kv.1=k))=true then kvs.map (fun kv=>if kv.1=k then(kv.1,v)else kv)else kvs++[(k,v)]
def xmh{k:κ}:yO ([]:List (κ×V)) k=none:=rfl
def yH{p:κ×V}{r:List (κ×V)}{k:κ}(e:p.1=k):yO (p::r) k=some p.2:=by simp[yO,c5,e]
def yI{p:κ×V}{r:List (κ×V)}{k:κ}(e:¬p.1=k):yO (p::r) k=yO r k:=by simp[yO,c5,e]
theorem xbA(k:κ):∀kvs:List (κ×V),(kvs.any fun kv=>decide (kv.1=k))=(yO kvs k).isSome
 |[]=>rfl
 |p::r=>by
  rw[cC]
  by_cases e:p.1=k
  ·simp only[yH e,decide_eq_true e,Bool.true_or,Option.isSome_some]
  ·rw[yI e,decide_eq_false e,Bool.false_or];exact xbA k r
theorem xg5(k j:κ)(y:V):∀kvs:List (κ×V),yO (kvs.map fun kv=>if kv.1=k then(kv.1,y)else kv) j=(yO kvs j).map fun x=>if j=k then y else x
 |[]=>rfl
 |p::r=>by
  have ih:=xg5 k j y r;rw[bI]
  by_cases h:p.1=k
  ·rw[if_pos h]
   by_cases e:p.1=j
   ·rw[yH (p:=(p.1,y)) e,yH e,fz,if_pos (e.symm.trans h)]
   ·rw[yI (p:=(p.1,y)) e,yI e,ih]
  ·rw[if_neg h]
   by_cases e:p.1=j
   ·rw[yH (p:=p) e,yH e,fz,if_neg (fun z=>h (e.trans z))]
   ·rw[yI (p:=p) e,yI e,ih]
theorem xfT(k j:κ)(y:V):∀kvs:List (κ×V),yO kvs k=none->yO (kvs++[(k,y)]) j=if j=k then some y else yO kvs j
 |[],_=>by
  by_cases e:k=j
  ·rw[if_pos e.symm];exact yH (p:=(k,y)) e
  ·rw[if_neg (fun z=>e z.symm)];exact yI (p:=(k,y)) e
 |p::r,hn=>by
  rw[gy];have hk:¬p.1=k:=fun z=>by rw[yH z]at hn;cases hn
  rw[yI hk]at hn;have ih:=xfT k j y r hn
  by_cases e:p.1=j
  ·rw[yH e,yH e,if_neg (fun z=>hk (e.trans z))]
  ·rw[yI e,yI e,ih]
theorem xmi(kvs:List (κ×V))(k j:κ)(y:V):yO (putK kvs k y) j=if j=k then some y else yO kvs j:=by
 unfold putK
 by_cases a:(kvs.any fun kv=>decide (kv.1=k))=true
 ·rw[if_pos a,xg5];rw[xbA]at a
  by_cases e:j=k
  ·obtain⟨x,hx⟩:=d9.mp a;rw[if_pos e,e,hx,fz,if_pos rfl]
  ·rw[if_neg e];cases yO kvs j with
   |none=>rfl
   |some x=>rw[fz,if_neg e]
 ·rw[if_neg a];refine xfT k j y kvs ?_;rw[xbA]at a;cases q:yO kvs k with
  |none=>rfl
  |some x=>rw[q]at a;exact(a rfl).elim
def xdv(kvs:List (κ×V))(k:κ)(v:V):(putK kvs k v).length<=kvs.length+1:=by
 unfold putK
 split
 ·rw[ag];lia
 ·rw[aZ,aU,gO];lia
theorem uI.isSome_eq{o:Option V}{u:Option Value}(r:uI o u):o.isSome=u.isSome:=by
 cases o with
 |none=>cases u with
  |none=>rfl
  |some _=>exact(show False from r).elim
 |some _=>cases u with
  |none=>exact(show False from r).elim
  |some _=>rfl
theorem KV.val{kvs:List (κ×V)}{vs:List (κ×Value)}(r:KV kvs vs)(k:κ):uI (yO kvs k) (g6 vs k):=by
 unfold KV at r
 induction r with
 |nil=>exact b8
 | @cons p q ps qs h t ih=>
  obtain⟨h1,h2⟩:=h
  by_cases e:p.1=k
  ·have e':q.1=k:=h1.symm.trans e;have b:g6 (q::qs) k=some q.2:=by simp[g6,c5,e']
   rw[yH e,b];exact h2
  ·have e':¬q.1=k:=fun z=>e (h1.trans z);have b:g6 (q::qs) k=g6 qs k:=by simp[g6,c5,e']
   rw[yI e,b];exact ih
theorem KV.any{kvs:List (κ×V)}{vs:List (κ×Value)}(r:KV kvs vs)(k:κ):(kvs.any fun kv=>decide (kv.1=k))=vs.any fun kv=>decide (kv.1=k):=by
 unfold KV at r
 induction r with
 |nil=>rfl
 |cons h t ih=>rw[cC,cC,ih,h.1]
theorem KV.repl{kvs:List (κ×V)}{vs:List (κ×Value)}(r:KV kvs vs)(k:κ)(ry:RelV y u):
  KV (kvs.map fun kv=>if kv.1=k then(kv.1,y)else kv) (vs.map fun kv=>if kv.1=k then(kv.1,u)else kv):=by
 unfold KV at r⊢
 induction r with
 |nil=>exact .nil
 | @cons p q ps qs h t ih=>
  rw[bI,bI];refine .cons ?_ ih;obtain⟨h1,h2⟩:=h
  by_cases e:p.1=k
  ·rw[if_pos e,if_pos (h1.symm.trans e)];exact⟨h1,ry⟩
  ·rw[if_neg e,if_neg (fun z=>e (h1.trans z))];exact⟨h1,h2⟩
def KV.put{kvs:List (κ×V)}{vs:List (κ×Value)}(r:KV kvs vs)(k:κ)(ry:RelV y u):KV (putK kvs k y) (stored vs k u):=by
 unfold putK stored;rw[r.any k]
 by_cases e:(vs.any fun kv=>decide (kv.1=k))=true
 ·rw[if_pos e,if_pos e];exact r.repl k ry
 ·rw[if_neg e,if_neg e];exact Paired.snoc r ⟨rfl,ry⟩
def KV.length{kvs:List (κ×V)}{vs:List (κ×Value)}(r:KV kvs vs):kvs.length=vs.length:=Paired.length r
end
theorem xgP{k:Key}(r:RelV (kV k) u):(yF P w).is k u=true:=by
 cases k with
 |inl i=>obtain⟨t,e⟩:=(show∃t,u=fK i t from r);subst e;exact xij P w i t
 |inr x=>obtain⟨t,e⟩:=(show∃t,u=dY x t from r);subst e;exact xik P w x t
theorem xfU{P:aX}{w:World}:∀{ks:List Key} {us:List Value},Vals (ks.map kV) us->ItemsAre (yF P w) ks us
 |[],_,r=>by rw[iV]at r;cases r;exact .nil
 |k::ks,_,r=>by
  rw[bI]at r;cases r with
  |cons h t=>exact .cons (xgP h) (xfU t)
abbrev KT(H:Hp):List (List Key×V)->List (List Key×Addr×Value)->Prop:=Paired fun p q=>p.1=q.1/\H q.2.1=some (.tup (p.1.map kV))/\RelV p.2 q.2.2
theorem KT.val{kvs:List (List Key×V)}{xs:List (List Key×Addr×Value)}(r:KT H kvs xs)(k:List Key):uI (yO kvs k) ((atKey xs k).map (·.2)):=by
 induction r with
 |nil=>exact b8
 | @cons p q ps qs h t ih=>
  obtain⟨h1,_,h2⟩:=h
  by_cases e:p.1=k
  ·have e':q.1=k:=h1.symm.trans e;have b:atKey (q::qs) k=some q.2:=by simp[atKey,c5,e']
   rw[yH e,b];exact h2
  ·have e':¬q.1=k:=fun z=>e (h1.trans z);have b:atKey (q::qs) k=atKey qs k:=by simp[atKey,c5,e']
   rw[yI e,b];exact ih
theorem KT.repl{kvs:List (List Key×V)}{xs:List (List Key×Addr×Value)}(r:KT H kvs xs)(k:List Key)(ry:RelV y u):
  KT H (kvs.map fun kv=>if kv.1=k then(kv.1,y)else kv) (xs.map (putAt k u)):=by
 induction r with
 |nil=>exact .nil
 | @cons p q ps qs h t ih=>
  rw[bI,bI];refine .cons ?_ ih;obtain⟨h1,h2,h3⟩:=h;unfold putAt
  by_cases e:p.1=k
  ·rw[if_pos e,if_pos (h1.symm.trans e)];exact⟨h1,h2,ry⟩
  ·rw[if_neg e,if_neg (fun z=>e (h1.trans z))];exact⟨h1,h2,h3⟩
def KT.put{kvs:List (List Key×V)}{xs:List (List Key×Addr×Value)}(r:KT H kvs xs)(k:List Key){b:Addr}(hb:H b=some (.tup (k.map kV)))(ry:RelV y u):
  KT H (putK kvs k y) (storedH xs k b u):=by
 have e:(kvs.any fun kv=>decide (kv.1=k))=(atKey xs k).isSome:=by
  rw[xbA,(r.val k).isSome_eq,gc]
 unfold putK storedH;rw[e]
 by_cases q:(atKey xs k).isSome=true
 ·rw[if_pos q,if_pos q];exact r.repl k ry
 ·rw[if_neg q,if_neg q];exact Paired.snoc r ⟨rfl,hb,ry⟩
def KT.keeps{kvs:List (List Key×V)}{xs:List (List Key×Addr×Value)}(r:KT H kvs xs)(ht:∀b ys,H b=some (.tup ys)->H' b=some (.tup ys)):KT H' kvs xs:=
 Paired.mapP r fun _ _ z=>⟨z.1,ht _ _ z.2.1,z.2.2⟩
section
variable {h:Heap}
def xni{u:HO}(ok:HOk P w H h)(e:Rd H a u):xR P w H h a u:=e.ok ok
def xjI(ok:HOk P w H h)(e:Rd H a (.dK kvs)):kvs.length<=ax/\(a==cm)=false/\∃vs,KV kvs vs/\h.DictOf (yF P w) a vs:=
 show xR P w H h a (.dK kvs)from xni ok e
def xqa(ok:HOk P w H h)(e:H a=some (.dK kvs)):kvs.length<=ax/\(a==cm)=false/\∃vs,KV kvs vs/\h.DictOf (yF P w) a vs:=xjI ok (.inl e)
def xeo{ks:List Key}(ok:HOk P w H h)(e:H a=some (.tup (ks.map kV))):(gL (yF P w)).is h ks a:=by
 obtain⟨_,its,r,o,h1,h2,n,h3⟩:=(show xR P w H h a (.tup (ks.map kV))from ok a _ e);exact⟨o,its.toArray,n,h1,h2,h3,by simpa using xfU r⟩
theorem xjJ{kvs:List (List Key×V)}(ok:HOk P w H h)(e:Rd H a (.dT kvs)):kvs.length<=ax/\(a==cm)=false/\
  ∃xs,KT H kvs xs/\h.DictOfH (gL (yF P w)) a xs:=by
 obtain⟨z,y,xs,r,o,es,ep,h1,h2,h3,h4,h5⟩:=(show xR P w H h a (.dT kvs)from xni ok e);refine⟨z,y,xs,r,o,es,ep,h1,h2,h3,h4,fun x hx=>?_,h5⟩;have all:∀{l:List (List Key×V)} {m:List (List Key×Addr×Value)},KT H l m->∀x∈m,(gL (yF P w)).is h x.1 x.2.1:=by
  intro l m q
  induction q with
  |nil=>intro x hx;exact nomatch hx
  | @cons p q ps qs hq t ih=>
   intro x hx;rcases ah.mp hx with e|hx
   ·subst e;exact xeo ok (by rw[<-hq.1];exact hq.2.1)
   ·exact ih x hx
 exact all r x hx
def xqb{kvs:List (List Key×V)}(ok:HOk P w H h)(e:H a=some (.dT kvs)):kvs.length<=ax/\(a==cm)=false/\
  ∃xs,KT H kvs xs/\h.DictOfH (gL (yF P w)) a xs:=xjJ ok (.inl e)
end
def xct(H:Hp)(a:Addr)(y:V)(r:Option V):Prop:=
 (∃kvs k,Rd H a (.dK kvs)/\y=kV k/\r=yO kvs k)\/∃kvs k b,Rd H a (.dT kvs)/\y= .ref b/\H b=some (.tup (k.map kV))/\r=yO kvs k
def xdS(H:Hp)(a:Addr)(y v:V)(H':Hp):Prop:=
 (∃kvs k,H a=some (.dK kvs)/\y=kV k/\kvs.length<ax/\H'=upd H a (.dK (putK kvs k v)))\/
 ∃kvs k b,H a=some (.dT kvs)/\y= .ref b/\H b=some (.tup (k.map kV))/\kvs.length<ax/\H'=upd H a (.dT (putK kvs k v))
theorem xct.k{k:Key}(e:H a=some (.dK kvs)):xct H a (kV k) (yO kvs k):=.inl ⟨kvs,k,.inl e,rfl,rfl⟩
theorem xdS.k{k:Key}{v:V}(e:H a=some (.dK kvs))(hl:kvs.length<ax):xdS H a (kV k) v (upd H a (.dK (putK kvs k v))):=.inl ⟨kvs,k,e,rfl,hl,rfl⟩
section
variable {v:V} {r:Value} {o:Option V}
def Inv.big(I:Inv X pins σ H s):cm<s.heap.objs.size:=by
 have h:aY<s.heap.objs.size:=(I.mod.glob.keeps I.bk).lt;exact Nat.lt_trans (by decide) h
def xqS(hu:A.units+1<cLine)(I:Inv X pins σ H s)(g:xct H a y o)(ry:RelV y u)(h:∀s',Inv X pins σ H s'->Q (.bool o.isSome) s'):
  wpAny (model X.prog X.w) A (bg .In u (.ref a)) Q E s:=by
 rcases g with⟨kvs,k,e,ey,l⟩|⟨kvs,k,b,e,ey,eb,l⟩
 ·subst ey;obtain⟨z,hd,vs,rel,dd⟩:=xjI I.hok e;refine wpAny_in_of (xgP ry) hd dd.mapOf ?_;rw[<-(rel.val k).isSome_eq,<-l];exact h _ (I.tok _)
 ·subst ey;cases (show u=aF b from ry);obtain⟨z,hd,xs,rel,dd⟩:=xjJ I.hok e;refine wpAny_in_heap (fP hu) (xeo I.hok eb) hd dd ?_;have q:=(rel.val k).isSome_eq;rw[gc]at q;rw[<-q,<-l];exact h _ (I.tok _)
def xnE(hu:A.units+1<cLine)(I:Inv X pins σ H s)(g:xct H a y o)(ry:RelV y u)(h:∀s',Inv X pins σ H s'->Q (.bool (!o.isSome)) s'):
  wpAny (model X.prog X.w) A (bg .NotIn u (.ref a)) Q E s:=by
 rcases g with⟨kvs,k,e,ey,l⟩|⟨kvs,k,b,e,ey,eb,l⟩
 ·subst ey;obtain⟨z,hd,vs,rel,dd⟩:=xjI I.hok e;refine g7 (xgP ry) hd dd.mapOf ?_;rw[<-(rel.val k).isSome_eq,<-l];exact h _ (I.tok _)
 ·subst ey;cases (show u=aF b from ry);obtain⟨z,hd,xs,rel,dd⟩:=xjJ I.hok e;refine wpAny_notIn_heap (fP hu) (xeo I.hok eb) hd dd ?_;have q:=(rel.val k).isSome_eq;rw[gc]at q;rw[<-q,<-l];exact h _ (I.tok _)
def xi3{h':Heap}{ob:HO}(I:Inv X pins σ H s)(mu:Mut (H a))(hs:fk a s.heap h')(he:∃q,h'.get? a=some q)(new:xR X.prog X.w (upd H a ob) h' a ob):
  Inv X pins σ (upd H a ob) {s with heap:=h',toks:=t'}:=
 I.write (x:=a) (e:=a) mu (.inl rfl) (fun b q hb z=>(hs.2 b hb).trans z) he new
def xo6{h':Heap}{vs:List (Key×Value)}(z:kvs.length<=ax)(hd:(a==cm)=false)(rel:KV kvs vs)(dd:h'.DictOf (yF P w) a vs):
  xR P w H' h' a (.dK kvs):=⟨z,hd,vs,rel,dd⟩
def xkV{Q:Unit->ai->Prop}(hu:A.units+1<cLine)(I:Inv X pins σ H s)(g:xdS H a y v H')(ry:RelV y u)(rv:RelV v r)(h:∀s',Inv X pins σ H' s'->Q () s'):
  wpAny (model X.prog X.w) A (setItem (.ref a) u r) Q E s:=by
 rcases g with⟨kvs,k,e,ey,l,eH⟩|⟨kvs,k,b,e,ey,eb,l,eH⟩
 ·subst ey eH;obtain⟨z,hd,vs,rel,dd⟩:=xqa I.hok e;have hz:vs.length<=ax:=by rw[<-rel.length];exact z
  have hl:(putK kvs k v).length<=ax:=by have:=xdv kvs k v;lia
  refine wpAny_setItem_pairs (hsz:=hz) (xgP ry) dd fun h' j8 hs=>h _ ?_;have he:∃q,h'.get? a=some q:=let⟨q,_,_,hq,_⟩:=j8;⟨q,hq⟩
  exact xi3 I (by rw[e];exact b8) hs he (xo6 hl hd (rel.put k rv) j8)
 ·subst ey eH;cases (show u=aF b from ry);obtain⟨z,hd,xs,rel,dd⟩:=xqb I.hok e;have hz:xs.length<=ax:=by rw[<-Paired.length rel];exact z
  have hl:(putK kvs k v).length<=ax:=by have:=xdv kvs k v;lia
  refine wpAny_setItem_heap (hsz:=hz) (fP hu) (xeo I.hok eb) dd fun h' j8 hs=>h _ ?_;obtain⟨q,es,ep,hq,h2,h3,h4,_,h5⟩:=j8;refine xi3 I (by rw[e];exact b8) hs ⟨q,hq⟩ ⟨hl,hd,_,(rel.put k eb rv).keeps fun c ys ec=>?_,q,es,ep,hq,h2,h3,h4,h5⟩;rw[xm (zt ec e (fun z=>nomatch z))];exact ec
end
section
variable {k:Key}
end
def xmj(i:Expr):Prop:=∀ov iv,gS i false ov iv=operate [ov,iv] (gp ov iv)
theorem xi4{prog:aX}{env:Env}{value slice:Expr}{pos:Pos}{id:String}
  (hl:ic (.type T) "__getitem__"=pure (some (.builtin id))) (hs:xmj slice)
  (h:wpAny (model prog w) A (eval value env) (fun o s₁=>wpAny (model prog w) A (eval slice env) (fun i s₂=>s₂.TypeIs o T/\wpAny (model prog w) A (gp o i) Q E s₂) E s₁) E s):
  wpAny (model prog w) A (eval (.Subscript value slice pos) env) Q E s:=by
 refine Subscript_ (aN h (fun o s₁ h₁=>aN h₁ (fun i s₂ h₂=>?_) fun _ _ x=>x) fun _ _ x=>x);obtain⟨hT,h₂⟩:=h₂;unfold iC;refine aa ?_;rw[getitemInPython_of_ne hT.not_modules];refine aa (wpAny_specialOf hT hl ?_);have fin:wpAny (model prog w) A (gS slice false o i) (fun r s₃=>wpAny (model prog w) A (letTemporaryGo value o r >>= fun _=>pure r) Q E s₃) E s₂:=by
  rw[hs o i];exact wpAny_operating (aN h₂ (fun r s₃ h₃=>aa (wpAny_letTemporaryGo (ak h₃))) fun _ _ x=>x)
 first
  |exact ak (aa fin)
  |exact aa (ak (aa fin))
  |exact aa fin
def xqT(ty td:TE):TE:=fun σ H Q=>ty σ H fun y H1=>td σ H1 fun x H2=>∃a o,x= .ref a/\xct H2 a y o/\Q (.bl o.isSome) H2
def xnF(ty td:TE):TE:=fun σ H Q=>ty σ H fun y H1=>td σ H1 fun x H2=>∃a o,x= .ref a/\xct H2 a y o/\Q (.bl (!o.isSome)) H2
def xqc(td ty tv:TE):TS:=fun D σ H=>tv σ H fun v H1=>td σ H1 fun x H2=>ty σ H2 fun y H3=>∃a H4,x= .ref a/\xdS H3 a y v H4/\D.nx σ H4
section
variable {i value:Expr} {pos pos' tpos:Pos} {td ty tv:TE}
def xo7(hu:X.A.units+1<cLine)(hi:PE X i ty)(ho:PE X o td):PC X .In i o (xqT ty td):=by
 intro pins s σ H Q I h;refine thn (hi pins s σ H _ I h) fun iv s1 ⟨y,H1,I1,ry,q1⟩=>thn (ho pins s1 σ H1 _ I1 q1) fun u s2 ⟨x,H2,I2,rx,a,ov,ex,g,q2⟩=>?_;subst ex;obtain rfl:u=aF a:=rx;exact xqS hu I2 g ry fun s3 I3=>⟨.bl ov.isSome,H2,I3,rfl,q2⟩
def xkW(hu:X.A.units+1<cLine)(hi:PE X i ty)(ho:PE X o td):PC X .NotIn i o (xnF ty td):=by
 intro pins s σ H Q I h;refine thn (hi pins s σ H _ I h) fun iv s1 ⟨y,H1,I1,ry,q1⟩=>thn (ho pins s1 σ H1 _ I1 q1) fun u s2 ⟨x,H2,I2,rx,a,ov,ex,g,q2⟩=>?_;subst ex;obtain rfl:u=aF a:=rx;exact xnE hu I2 g ry fun s3 I3=>⟨.bl (!ov.isSome),H2,I3,rfl,q2⟩
def xe3(hu:X.A.units+1<cLine)(ho:PE X o td)(hi:PE X i ty)(hv:PE X value tv)(hs:e9 value (some (.Subscript o i pos')) pos.line X.env=pure false):
  PS X (.Assign [.Subscript o i pos'] value pos) (xqc td ty tv):=by
 intro pins s σ H D I h;refine wpAny_Assign_Subscript (thn (hv pins s σ H _ I h) fun r s1 ⟨v,H1,I1,rv,q1⟩=>thn (ho pins s1 σ H1 _ I1 q1) fun u s2 ⟨x,H2,I2,rx,q2⟩=>thn (hi pins s2 σ H2 _ I2 q2) fun iv s3 ⟨y,H3,I3,ry,a,H4,ex,g,q3⟩=>?_) hs;subst ex;obtain rfl:u=aF a:=rx;exact xkV hu I3 g ry rv fun s4 I4=>⟨σ,H4,I4,q3⟩
end
def xmk(h:Heap)(hb:cm<h.objs.size):xR P w H (h.push {cls:=.type "dict",data:=.dict #[]}) h.objs.size (.dK []):=
 ⟨bu _,beq_eq_false_iff_ne.mpr (aL (aJ hb)),[],.nil,Heap.DictOf.new h⟩
def xo8:TE:=fun _ H Q=>∀p,H p=none->Q (.ref p) (upd H p (.dK []))
section
variable {pos:Pos}
def xbB:PE X (.Dict [] [] pos) xo8:=fun pins s σ H Q I h=>
 wpAny_Dict_empty ⟨.ref s.heap.objs.size,_,I.laid (a:=s.heap.objs.size) (o:=.dK []) (t':=s.toks) (fun _ _ q=>af _ q) (aq _) (xmk s.heap I.big),rfl,h _ (I.hok.fresh (aq _))⟩
end
section
variable {d:V} {r:Value} {o:Option V}
end
section
variable {f:Expr} {apos cpos:Pos} {td ty tx:TE}
end
end L2
namespace Att
open PySem PySem.W PySem.Calls PyProof.Rows
theorem xep{P:Params}{h:Heap}:∀(ns:List Int) (vs:List Value),WellAll P h vs (ns.map WData.int)->gZ vs ns:=by
 intro ns
 induction ns with
 |nil=>
  intro vs w;rw[iV]at w;cases w;exact .nil
 |cons n ns ih=>
  intro vs w;rw[bI]at w;cases w with
  |cons a b=>
   cases a;exact .cons _ _ (ih _ b)
theorem xkX{l:OpenLaw}{n:Nat}(hn:l.most=some n){P:Params}{h:Heap}{args:List WData}{vals:List Value}
  (j8:l.row.toRowW.claim.pre args=true) (ka:WellAll P h vals args):
  ∃a vs ns,vals=[aF a]/\args=[WData.list (ns.map WData.int)]/\h.get? a=some {cls:=.type "list",data:=.seq vs.toArray}/\gZ vs ns/\ns.length<=n:=by
 have kb:WShape.hasAll [] args [.list .int]=true:=(pre_splitW j8).1;have hc:l.pre.holds [] {args:=args}=true:=(pre_splitW j8).2;obtain⟨d,r,rfl,h1,h2⟩:=hasAllW_cons kb;obtain rfl:=hasAllW_nil h2;obtain⟨xs,rfl,h3⟩:=hasW_list h1;obtain⟨ns,rfl⟩:=items_int h3;have hlen:ns.length<=n:=by
  unfold OpenLaw.pre at hc;have h4:(WTm.not (.lt (.lit (.int (n:Int))) (.len (.arg 0)))).holds [] {args:=[.list (ns.map .int)]}=true:=by
   have h4:=(holds_andW hc).1;rw[hn]at h4;exact h4
  have h5:=condW_of h4 (w_not (w_lt w_lit (w_len_list (w_arg rfl))));rw[ag]at h5;refine Nat.le_of_not_lt fun q=>?_;have q':(n:Int)<((ns.length:Nat):Int):=by omega
  first
   |(rw[decide_eq_true q']at h5;exact absurd h5 (by decide))
   |(simp at h5;omega)
 cases ka with
 |cons w1 w2=>
  cases w2;cases w1 with
  |list ho j9=>exact⟨_,_,ns,rfl,rfl,ho,xep ns _ j9,hlen⟩
def xkY(l:OpenLaw)(args:List WData):l.row.toRowW.claim.post args (.bool true) args=true:=
 postW_of (r:=l.row.toRowW) (X:=(true==true))
  (show WShape.has [] (.bool true) .bool=true by first|rfl|decide|simp[WShape.has,WShape.arms,WShape.armsAll])
  (show(WTm.eq .res (.lit (.bool true))).value [] {args:=args,res:=some (.bool true),after:=args}=some (.bool (true==true))from w_eq_bool (w_res rfl) w_lit) rfl
def xil{l:OpenLaw}{n:Nat}{q:aX}{loose:List Str}{XP:(Str->Option Value)->Heap->Prop}{YP:World->Heap->Prop}{d:DefRec}
  (hn:l.most=some n) (kd:d.params.defaults=[])
  (call:∀(w:World) (s₀ s₁:ai) (mg mb:Str->Option Value) (fa:Addr) (o:Obj) (pm cd doc:Value) (a:Addr) (vs:List Value) (ns:List Int),
   Ground q loose [] XP w s₀ mg mb s₁.heap->YP w s₁.heap->
   s₁.heap.get? fa=some o->o.data= .func (docDef d.name d.params d.body d.scope pm cd doc)->s₁.heap.CodeRec cd d.name->mg d.name=some (.ref fa)->
   s₁.heap.get? a=some {cls:=.type "list",data:=.seq vs.toArray}->gZ vs ns->ns.length<=n->s₁.gens=#[]->
   bX (model l.prog w) gr (.call (.ref fa) ⟨[.ref a],[]⟩) (fun r s'=>r= .ok (.ret (.bool true))/\OldK s₁.heap s'.heap/\s'.os=s₁.os/\eE s'.gens) s₁):
  WalkO q loose XP YP l.row.toRowW d [] (fun f vs=>PySem.call f vs):=by
 intro w s₀ s₁ mg mb G Y fa o pm cd doc dV kV ho hd ke hD kb hg args vals as j8 kc kf ka kg;obtain rfl:dV= .none:=Dflts.none hD kd;obtain rfl:kV= .none:=Dflts.noKw hD;obtain⟨a,vs,ns,rfl,rfl,j9,hints,hlen⟩:=xkX hn j8 ka;refine enter_call (b9 (call w s₀ s₁ mg mb fa o pm cd doc a vs ns G Y ho (fd_plain hd) ke kb j9 hints hlen hg) fun r s' hq=>?_);obtain⟨rfl,h2,h3,h4⟩:=hq;exact⟨.inl ⟨.bool true,.bool true,[],rfl,fun _=>rfl,.bool true,xkY l _,fun _=>⟨List.Pairwise.nil,fun _ hm=>(nomatch hm)⟩⟩,h2,h3,h4⟩
section
variable {prog:aX} {w:World} {A:bc} {E:Value->ai->Prop} {s:ai} {K:Frag}
end
end Att
namespace L2
open PySem PySem.Spec PyProof.Rows
theorem xfV:∀{vs:List Value} {ns:List Int},gZ vs ns->Vals (ns.map V.int) vs
 |_,_,.nil=>.nil
 |_,_,.cons n t h=>.cons ⟨t,rfl⟩ (xfV h)
end L2
namespace L2
open PySem PySem.Spec PyProof.Rows
variable {X:Cx} {H H' H₂:Hp} {x qual:Str} {σ:St} {scope:Scope} {Q:VK} {tg c e a iter:Expr} {pins:List (Addr×Obj)} {w:World} {K:ay} {st:Stmt} {env:Env} {s₂:ai} {P:aX} {f C:Addr} {r:R2} {y:V} {cap:List Nat} {ys:List Str} {fp:List Addr}
def inClass(s:Stmt)(j:Nat):Stmt:=match s with
 | .ClassDef _ _ _ body _ _ _ _ _ _ _=>body.getD j (.Pass ⟨0,0,0,0⟩)
 |_=>.Pass ⟨0,0,0,0⟩
def xX(s:Stmt):c4:=match s with
 | .FunctionDef _ a _ _ _ _ _ _ _ _=>a
 |_=>{posonlyargs:=[],args:=[],vararg:=none,kwonlyargs:=[],kw_defaults:=[],kwarg:=none,defaults:=[]}
def xM(s:Stmt):List Stmt:=match s with
 | .FunctionDef _ _ b _ _ _ _ _ _ _=>b
 |_=>[]
def xg(s:Stmt):Scope:=match s with
 | .FunctionDef _ _ _ _ _ _ sc _ _ _=>sc
 |_=>{kind:=.function,names:=[],isGenerator:=false,isCoroutine:=false}
abbrev CX0:CXT:=fun _ _ _ _ _ _=>False
abbrev E0:XK:=fun _ _ _=>False
def xr:Passes CX0 X E0:=fun _ _ _ _ _ _ _ h=>h.elim
structure Fun(K:ay)(x qual:Str)(st:Stmt)(f:Addr)(fd:av):Prop where
 ex:∃(oc:Value) (od:Option Addr) (kV doc pm:Value) (an:Option Addr) (cdv ct:Value) (osl:Array (Option Value)),
  fd=bZ x qual (xX st) (xM st) (xg st) .none kV doc pm an cdv ct/\K.lookup f=some ⟨oc,od,.func fd,osl⟩/\df K cdv qual=true
 kp:bU K (.ref f)=true
section
variable {mg:Str->Option Value} {base:Heap}
def Fun.ok{fd:av}{N ps:List Str}{k:Nat}{sp:Sp}(F:Fun K x qual st f fd)(S:xo N ps (xg st))(len:∀vs H Q E,sp vs H Q E->vs.length=ps.length)
  (j8:∀(j9:Value) (A:bc) (outer:List Env) (s:ai) (H:Hp) (vs:List V) (Q:VK) (E:XK),xI k (A.deeper (cZ qual (xg st) s.heap.objs.size f j9))->sp vs H Q E->
   ∃t,PSs (uJ CX0 P w K mg base N qual (xg st) f j9 A outer s H E).nox (xM st) t/\t {nx:=fun _ H'=>Q .non H',rt:=Q} (start N vs) H):xt P w K mg base CX0 (k+1) f fd ps sp:=by
 obtain⟨oc,od,kV,doc,pm,an,j9,ct,osl,rfl,lk,kb⟩:=F.ex;refine xgO lk kb S len fun A outer s H vs Q E hr ka=>?_;obtain⟨t,h,q⟩:=j8 j9 A outer s H vs Q E hr ka;exact⟨t,h.nox,q⟩
def Fun.binds{fd:av}{ps:List Str}(F:Fun K x qual st f fd)
  (h:∀(kV doc pm:Value) (an:Option Addr) (j8 ct:Value) (us:List Value),us.length=ps.length->dD (bZ x qual (xX st) (xM st) (xg st) .none kV doc pm an j8 ct) ⟨us,[]⟩=pure (ps.zip us)):Binds K fd ps []:=by
 obtain⟨oc,od,kV,doc,pm,an,j8,ct,osl,rfl,lk,j9⟩:=F.ex;exact .all (h kV doc pm an j8 ct)
def xbe{oc:Value}{od an:Option Addr}{osl:Array (Option Value)}{kV doc pm j8 ct:Value}(l:K.lookup f=some ⟨oc,od,.func (bZ x qual (xX st) (xM st) (xg st) .none kV doc pm an j8 ct),osl⟩)
  (c:df K j8 qual=true) (k:bU K (.ref f)=true):Fun K x qual st f (bZ x qual (xX st) (xM st) (xg st) .none kV doc pm an j8 ct):=⟨⟨oc,od,kV,doc,pm,an,j8,ct,osl,rfl,l,c⟩,k⟩
end
def xeq{A:bc}{k:Nat}(hr:xI k A):A.units+1<cLine:=eh (Nat.add_le_add_left (by decide:1<=64) _) hr.units
def xf(H H':Hp):Prop:=∀b o,H b=some o->H' b=some o
def xf.refl(H:Hp):xf H H:=fun _ _ h=>h
def xf.trans{H1 H2:Hp}(a:xf H H1)(b:xf H1 H2):xf H H2:=fun c o h=>b c o (a c o h)
theorem xf.free(e:xf H H'){l:Addr}(h:H' l=Option.none):H l=Option.none:=by
 cases q:H l with
 |none=>rfl
 |some o=>
  rw[e l o q]at h;cases h
def xf.seq{a:Addr}{xs:List V}(e:xf H H')(h:SqL K H a xs):SqL K H' a xs:=by
 rcases h with(h|⟨o,h⟩)|h
 ·exact .inl (.inl (e _ _ h))
 ·exact .inl (.inr ⟨o,e _ _ h⟩)
 ·exact .inr h
section
variable {κ:Type} [DecidableEq κ]
end
section
variable {X:Cx}
def PE.imp{t t':TE}(h:PE X e t)(i:∀σ H Q,t' σ H Q->t σ H Q):PE X e t':=
 fun pins s σ H Q I q=>h pins s σ H Q I (i σ H Q q)
def PT.imp{t t':TT}(h:PT X e t)(i:∀σ H Q,t' σ H Q->t σ H Q):PT X e t':=
 fun pins s σ H Q I q=>h pins s σ H Q I (i σ H Q q)
def OpR.imp{f:Value->Value->Sem Value}{r':R2}(h:OpR X f r)(i:∀x y H Q,r' x y H Q->r x y H Q):OpR X f r':=
 fun pins s σ H x y v u Q I rx ry q=>h pins s σ H x y v u Q I rx ry (i x y H Q q)
def yq.imp{f:Value}{r r':List V->Hp->VK->Prop}(h:yq X f r)(i:∀xs H Q,r' xs H Q->r xs H Q):yq X f r':=
 fun pins s σ H xs us Q I rv q=>h pins s σ H xs us Q I rv (i xs H Q q)
def xml(i:Nat):TE:=fun σ H Q=>match σ[i]? with
 |some (some v)=>Q v H
 |_=>False
def xmm{i:Nat}(q:xml i σ H Q):xoK i σ H Q:=by
 unfold xml at q
 split at q
 ·rename_i v e;exact⟨v,e,q⟩
 ·exact q.elim
def cv(i:Nat){pos:Pos}(hN:X.N[i]? =some x:=by rfl)(hv:Vis X.env.scope x:=by first|exact aG rfl|exact g8 (aG rfl)|exact g8 (g8 rfl))(hd:(x==("__debug__":Str))=false:=by decide)
  (j8:(x==("__classdict__":Str))=false:=by decide):PE X (.Name x pos) (xml i):=(xkH hN hv hd j8).imp fun _ _ _ q=>xmm q
def kI(C:Int->Int->Prop)(g:Int->Int->V):R2:=fun x y H Q=>match x with
 | .int i=>(match y with
  | .int j=>C i j/\Q (g i j) H
  |_=>False)
 |_=>False
def kI0(g:Int->Int->V):R2:=fun x y H Q=>match x with
 | .int i=>(match y with
  | .int j=>Q (g i j) H
  |_=>False)
 |_=>False
theorem xer{C:Int->Int->Prop}{g:Int->Int->V}{x:V}(q:kI C g x y H Q):rI C g x y H Q:=by
 cases x with
 |int i=>
  cases y with
  |int j=>exact⟨i,j,rfl,rfl,q.1,q.2⟩
  |_=>exact aS q
 |_=>exact aS q
theorem va{g:Int->Int->V}{x:V}(q:kI0 g x y H Q):rI0 g x y H Q:=by
 cases x with
 |int i=>
  cases y with
  |int j=>exact⟨i,j,rfl,rfl,q⟩
  |_=>exact aS q
 |_=>exact aS q
def vf:OpR X (bQ .Add) (kI0 fun i j=>.int (i+j)):=xoT.imp fun _ _ _ _=>va
def xgQ:OpR X (bQ .Sub) (kI0 fun i j=>.int (i - j)):=xoU.imp fun _ _ _ _=>va
def xqd:OpR X (bQ .Mult) (kI xjz fun i j=>.int (i*j)):=xoV.imp fun _ _ _ _=>xer
def xnj(_i j:Int):Prop:=0<j/\j.natAbs.log2<9000
def xbf:OpR X (bQ .FloorDiv) (kI xnj fun i j=>.int (i / j)):=
 (opI (C:=xnj) (g:=fun i j=>i / j) fun i j _ _ _ _ _ hc q=>by
  have h0:0<j:=hc.1;rw[<-Int.fdiv_eq_ediv_of_nonneg i (Int.le_of_lt h0)]at q;exact floordiv_int (Int.ne_of_gt h0) q (.inl (PyProof.noPylong_of_log2 hc.2))).imp fun _ _ _ _=>xer
def uc:OpR X (bQ .Mod) (kI (fun _ j=>0<j) fun i j=>.int (i%j)):=xoW.imp fun _ _ _ _=>xer
def xjK:OpR X (bQ .Pow) (kI xoS fun i j=>.int (i^j.toNat)):=xoX.imp fun _ _ _ _=>xer
def xdT:OpR X (bg .Lt) (kI0 fun i j=>.bl (decide (i<j))):=xp2.imp fun _ _ _ _=>va
def xg6:OpR X (bg .LtE) (kI0 fun i j=>.bl (decide (i<=j))):=xp3.imp fun _ _ _ _=>va
def xg7:OpR X (bg .Gt) (kI0 fun i j=>.bl (decide (j<i))):=xp4.imp fun _ _ _ _=>va
def xjL:OpR X (bg .GtE) (kI0 fun i j=>.bl (decide (j<=i))):=xp5.imp fun _ _ _ _=>va
def xgR{a b:V}{p:Prop}[Decidable p](h:a=b↔p):decide (a=b)=decide p:=by
 by_cases e:p
 ·rw[decide_eq_true e,decide_eq_true (h.mpr e)]
 ·rw[decide_eq_false e,decide_eq_false (fun q=>e (h.mp q))]
def xgS:OpR X (bg .Eq) (kI0 fun i j=>.bl (decide (i=j))):=xne.imp fun x y H Q q=>by
 obtain⟨i,j,rfl,rfl,q⟩:=va q;exact⟨rfl,by rw[xgR (p:=i=j) ⟨fun e=>V.int.inj e,fun e=>by rw[e]⟩];exact q⟩
def xjM:OpR X (bg .NotEq) (kI0 fun i j=>.bl (!decide (i=j))):=xnf.imp fun x y H Q q=>by
 obtain⟨i,j,rfl,rfl,q⟩:=va q;exact⟨rfl,by rw[xgR (p:=i=j) ⟨fun e=>V.int.inj e,fun e=>by rw[e]⟩];exact q⟩
def kS0(g:Str->Str->V):R2:=fun x y H Q=>match x with
 | .str i=>(match y with
  | .str j=>Q (g i j) H
  |_=>False)
 |_=>False
theorem xi5{g:Str->Str->V}{x:V}(q:kS0 g x y H Q):∃i j,x= .str i/\y= .str j/\Q (g i j) H:=by
 cases x with
 |str i=>
  cases y with
  |str j=>exact⟨i,j,rfl,rfl,q⟩
  |_=>exact aS q
 |_=>exact aS q
def zu:OpR X (bg .Eq) (kS0 fun i j=>.bl (decide (i=j))):=xne.imp fun x y H Q q=>by
 obtain⟨i,j,rfl,rfl,q⟩:=xi5 q;exact⟨rfl,by rw[xgR (p:=i=j) ⟨fun e=>V.str.inj e,fun e=>by rw[e]⟩];exact q⟩
def vQ:OpR X (bg .NotEq) (kS0 fun i j=>.bl (!decide (i=j))):=xnf.imp fun x y H Q q=>by
 obtain⟨i,j,rfl,rfl,q⟩:=xi5 q;exact⟨rfl,by rw[xgR (p:=i=j) ⟨fun e=>V.str.inj e,fun e=>by rw[e]⟩];exact q⟩
def xes(Q:Bool->Hp->Prop):VK:=fun x H1=>match x with
 | .bl k=>Q k H1
 |_=>False
theorem uK{Q:Bool->Hp->Prop}{x:V}{H1:Hp}(q:xes Q x H1):∃k,x= .bl k/\Q k H1:=by
 cases x with
 |bl k=>exact⟨k,rfl,q⟩
 |_=>exact aS q
def cB(t:TE):TT:=fun σ H Q=>t σ H (xes Q)
variable {a b c:Expr} {ta tb tc:TE} {tA tB':TT} {pos:Pos} {rest:List Expr}
def xG{op:CmpOp}(ho:OpR X (bg op) r)(ha:PE X a ta)(hb:PE X b tb)(hm:bY op b=false:=by exact xg0 _):PT X (.Compare a [op] [b] pos) (cB (tOp r ta tb)):=by
 intro pins s σ H Q I h;refine dn (thn (ha pins s σ H _ I h) fun v s1 ⟨x,H1,I1,r1,q1⟩=>thn (hb pins s1 σ H1 _ I1 q1) fun u s2 ⟨y,H2,I2,r2,q2⟩=>
  thn (ho pins s2 σ H2 x y v u _ I2 r1 r2 q2) fun c s3 ⟨z,H3,I3,r3,q3⟩=>?_) hm
 obtain⟨k,rfl,q⟩:=uK q3;cases r3;exact bK ⟨H3,I3,q⟩
def yn{op:CmpOp}(ho:OpR X (bg op) r)(ha:PE X a ta)(hb:PE X b tb)(hm:bY op b=false:=by exact xg0 _):PE X (.Compare a [op] [b] pos) (tOp r ta tb):=xnw ho ha hb hm
def xW{t:TE}(h:PE X e t)(he:∀whole,isTrue e X.env whole=(do let v <-whole;gk e.pos;eF [v] (truthy v)):=by intro _;rfl):PT X e (cB t):=by
 intro pins s σ H Q I hw;refine isTrue_plain (thn (h pins s σ H _ I hw) fun v s1 ⟨x,H1,I1,r1,q1⟩=>?_) (he _);obtain⟨d,rfl,q⟩:=uK q1;cases r1;exact bK ⟨H1,I1,q⟩
def xqU(t u:TT):TT:=fun σ H Q=>t σ H fun c H1=>(c=true->u σ H1 Q)/\(c=false->Q false H1)
def cOr(t u:TT):TT:=fun σ H Q=>t σ H fun c H1=>(c=true->Q true H1)/\(c=false->u σ H1 Q)
theorem xet(ha:PT X a tA)(hb:PW X (.BoolOp .And (b::rest) pos) tB'):PW X (.BoolOp .And (a::b::rest) pos) (xqU tA tB'):=by
 intro wh pins s σ H Q I h;refine isTrue_and (thn (ha pins s σ H _ I h) fun c s1 ⟨H1,I1,q1⟩=>?_);cases c with
 |true=>exact hb wh pins s1 σ H1 Q I1 (q1.1 rfl)
 |false=>exact⟨H1,I1,q1.2 rfl⟩
theorem zi(ha:PT X a tA)(hb:PW X (.BoolOp .Or (b::rest) pos) tB'):PW X (.BoolOp .Or (a::b::rest) pos) (cOr tA tB'):=by
 intro wh pins s σ H Q I h;refine isTrue_or (thn (ha pins s σ H _ I h) fun c s1 ⟨H1,I1,q1⟩=>?_);cases c with
 |true=>exact⟨H1,I1,q1.1 rfl⟩
 |false=>exact hb wh pins s1 σ H1 Q I1 (q1.2 rfl)
def xqe(ta tb:TE):TE:=fun σ H Q=>ta σ H (xes fun c H1=>(c=true->tb σ H1 Q)/\(c=false->Q (.bl false) H1))
def xqV(ta tb:TE):TE:=fun σ H Q=>ta σ H (xes fun c H1=>(c=true->Q (.bl true) H1)/\(c=false->tb σ H1 Q))
def xqf(ta:TE):TE:=fun σ H Q=>ta σ H (xes fun c H1=>Q (.bl (!c)) H1)
theorem yJ(ha:PE X a ta)(hb:PE X (.BoolOp .And (b::rest) pos) tb):PE X (.BoolOp .And (a::b::rest) pos) (xqe ta tb):=by
 intro pins s σ H Q I h;refine BoolOp_and (thn (ha pins s σ H _ I h) fun v s1 ⟨x,H1,I1,r1,q1⟩=>?_);obtain⟨c,rfl,q1⟩:=uK q1;cases r1;refine bK ?_;cases c with
 |true=>exact hb pins s1 σ H1 Q I1 (q1.1 rfl)
 |false=>exact⟨.bl false,H1,I1,rfl,q1.2 rfl⟩
theorem xnk(ha:PE X a ta)(hb:PE X (.BoolOp .Or (b::rest) pos) tb):PE X (.BoolOp .Or (a::b::rest) pos) (xqV ta tb):=by
 intro pins s σ H Q I h;refine BoolOp_or (thn (ha pins s σ H _ I h) fun v s1 ⟨x,H1,I1,r1,q1⟩=>?_);obtain⟨c,rfl,q1⟩:=uK q1;cases r1;refine bK ?_;cases c with
 |false=>exact hb pins s1 σ H1 Q I1 (q1.2 rfl)
 |true=>exact⟨.bl true,H1,I1,rfl,q1.1 rfl⟩
def xo9(ha:PE X a ta):PE X (.UnaryOp .Not a pos) (xqf ta):=by
 intro pins s σ H Q I h;refine UnaryOp_ (thn (ha pins s σ H _ I h) fun v s1 ⟨x,H1,I1,r1,q1⟩=>?_);obtain⟨c,rfl,q1⟩:=uK q1;cases r1;exact not_of (bK ⟨.bl (!c),H1,I1,rfl,q1⟩)
def cIf(t:TT)(ta tb:TE):TE:=fun σ H Q=>t σ H fun c H1=>(c=true->ta σ H1 Q)/\(c=false->tb σ H1 Q)
theorem xnl(hc:PT X c tA)(ha:PE X a ta)(hb:PE X b tb):PE X (.IfExp c a b pos) (cIf tA ta tb):=by
 intro pins s σ H Q I h;refine wpAny_IfExp (thn (hc pins s σ H _ I h) fun d s1 ⟨H1,I1,q1⟩=>?_);cases d with
 |true=>exact ha pins s1 σ H1 Q I1 (q1.1 rfl)
 |false=>exact hb pins s1 σ H1 Q I1 (q1.2 rfl)
def xpa(c:TT)(t u:TS):TS:=fun D σ H=>c σ H fun b H1=>(b=true->t D σ H1)/\(b=false->u D σ H1)
theorem xC{c:Expr}{p q:List Stmt}{tc:TT}{t u:TS}(hc:PT X c tc)(ha:PSs X p t)(hb:PSs X q u):PS X (.If c p q pos) (xpa tc t u):=by
 intro pins s σ H D I h;refine wpAny_If (thn (hc pins s σ H _ I h) fun d s1 ⟨H1,I1,q1⟩=>?_);cases d with
 |true=>exact ha pins s1 σ H1 D I1 (q1.1 rfl)
 |false=>exact hb pins s1 σ H1 D I1 (q1.2 rfl)
@[irreducible] def xq8(c:TT)(tb:TS)(D:Ends)(σ:St)(H:Hp):Prop:=∃W:Nat->St->Hp->Prop,(∃m,W m σ H)/\∀m σ H,W m σ H->
 c σ H fun b H1=>(b=true->∃N:St->Hp->Prop,(∀σ' H',N σ' H'->∃m',m'<m/\W m' σ' H')/\tb {D with nx:=N,ct:=N,bk:=D.nx} σ H1)/\(b=false->D.nx σ H1)
@[irreducible] def zJ(J:It)(g:TG)(tb:TS)(D:Ends)(σ:St)(H1:Hp):Prop:=∃W:Nat->Nat->St->Hp->Prop,(∃m,W 0 m σ H1)/\∀i m σ H,W i m σ H->
 (J.stop i H/\D.nx σ H)\/(J.go i H/\∃N:St->Hp->Prop,(∀σ' H',N σ' H'->∃m',m'<m/\W (i+1) m' σ' H')/\∀x H',J.yld i H x H'->g x σ H' fun σ2 H2=>tb {D with nx:=N,ct:=N,bk:=D.nx} σ2 H2)
def xmn(wi:TI)(g:TG)(tb:TS):TS:=fun D σ H=>wi σ H fun J H1=>zJ J g tb D σ H1
def xnG(wi:TI)(g:TG)(tb:TS):xmn wi g tb=xl8 wi g tb:=by
 funext D σ H
 unfold xmn xl8
 congr 1
 funext J H1
 unfold zJ;rfl
def yk{body:List Stmt}{wi:TI}{g:TG}{tb:TS}{pos:Pos}(hp:PassesOwn (model X.prog X.w) X.A X.env X.xe)(hc:X.calm=true)(hi:PI X tg iter wi)(hg:PG X tg g)(hb:PSs X body tb)
  (hs:∀x,eK iter X.env x=pure x:=by intro _;rfl):PS X (.For tg iter body [] pos) (xmn wi g tb):=by
 rw[xnG];exact xoQ hp hc hi hg hb hs
def xqW(t:TS):TS:=fun D σ H=>∃M:L2.St->Hp->Prop,t {D with nx:=M} σ H/\∀σ' H',M σ' H'->D.nx σ' H'
theorem zA{t:TS}(h:PS X st t):PS X st (xqW t):=by
 intro pins s σ H D I q;obtain⟨M,q1,q2⟩:=q;refine thn (h pins s σ H _ I q1) fun f s' z=>?_;cases f with
 |next=>obtain⟨σ',H',I',m⟩:=z;exact⟨σ',H',I',q2 σ' H' m⟩
 |brk=>exact z
 |cont=>exact z
 |ret v=>exact z
end
def yu(cells:List (Str×Addr)):List (Str×ck)->List (Str×Addr)->List (Str×Addr)
 |[],cs=>cs
 |(n,k)::r,cs=>yu cells r (if k== .free then(n,(cells.lookup n).getD 0)::cs else cs)
theorem xbC(h:∀y∈scope.names,y.2= .free->∃c,env.cells.lookup y.1=some c):ig scope env=pure (yu env.cells scope.names []):=by
 have all:∀(l:List (Str×ck)) (cs:List (Str×Addr)),(∀y∈l,y.2= .free->∃c,env.cells.lookup y.1=some c)->
   (forIn l cs fun x r=>match x with
    |(name,kind)=>if (kind==bE)=true then do let a <-cellOf env name;pure (c7 ((name,a)::r))else pure (c7 r):Sem (List (Str×Addr)))=pure (yu env.cells l cs):=by
  intro l
  induction l with
  |nil=>intro cs _;rfl
  |cons y r ih=>
   intro cs hl;obtain⟨n,k⟩:=y;rw[List.forIn_cons]
   by_cases hk:k= .free
   ·subst hk;obtain⟨c,hc⟩:=hl (n,.free) ba rfl;have e:cellOf env n=pure c:=by unfold cellOf;rw[hc]
    simp only[beq_self_eq_true,if_true,e,pure_bind];rw[ih _ fun z hz=>hl z (aH _ hz)];simp[yu,hc]
   ·have hb:(k==bE)=false:=by simpa using hk
    simp only[hb,c8,if_false,pure_bind];rw[ih _ fun z hz=>hl z (aH _ hz)];simp[yu,hb]
 unfold ig;have:=all scope.names [] h;simp only[bind_pure]at this⊢;exact this
theorem xdU{cells:List (Str×Addr)}:∀{l:List (Str×ck)} {cs:List (Str×Addr)} {x:Str} {c:Addr},(∀y∈l,y.2= .free->∃c,cells.lookup y.1=some c)->(yu cells l cs).lookup x=some c->
  cs.lookup x=some c\/cells.lookup x=some c
 |[],cs,x,c,_,h=>.inl h
 |(n,k)::r,cs,x,c,hl,h=>by
  unfold yu at h;rcases xdU (fun z hz=>hl z (aH _ hz)) h with q|q
  ·split at q
   ·rename_i hk;rw[bF]at q
    split at q
    ·rename_i hx;obtain⟨c',hc⟩:=hl (n,k) ba (by simpa using hk);have e:x=n:=by simpa using hx
     subst e;rw[hc]at q
     right
     rw[hc];simpa using q
    ·exact .inl q
   ·exact .inl q
  ·exact .inr q
theorem xbD{cells:List (Str×Addr)}:∀{l:List (Str×ck)} {cs:List (Str×Addr)} {x:Str},(x,bE)∈l\/(∃c,cs.lookup x=some c)->∃c,(yu cells l cs).lookup x=some c
 |[],cs,x,h=>by
  rcases h with h|h
  ·simp at h
  ·exact h
 |(n,k)::r,cs,x,h=>by
  unfold yu;refine xbD ?_;rcases h with h|⟨c,h⟩
  ·rcases ah.mp h with h|h
   ·cases h
    right
    simp
   ·exact .inl h
  ·right
   split
   ·rw[bF]
    split
    ·exact⟨_,rfl⟩
    ·exact⟨c,h⟩
   ·exact⟨c,h⟩
def Cx.blk(X:Cx)(scope:Scope)(C:Addr)(Nc:List Str)(s₂:ai)(H₂:Hp)(fp:List Addr):Cx:=
 {X with N:=Nc,s₀:=s₂,H₀:=H₂,env:=compEnvC scope (yu X.env.cells scope.names []) C X.env,outer:=X.stack,stack:=X.stack,ex:=fp,fn:=fun _=>false,pn:=[],xe:=fun _ _=>False,cp:=fun _=>false}
def xeu(X:Cx)(scope:Scope):List Nat->List Str->Prop
 |[],[]=>True
 |j::js,y::ys=>(X.N[j]? =some y/\scope.names.lookup y=some .free/\(X.env.kindOf y=some .cell\/X.env.kindOf y=some .free))/\xeu X scope js ys
 |_,_=>False
def jP(σ:St)(cap:List Nat):St:=cap.map fun j=>(σ[j]?).getD none
structure zK(X:Cx)(scope:Scope)(x:Str)(cap:List Nat)(ys:List Str):Prop where
 kind:scope.kind= .function
 nocell:∀y∈scope.names,y.2≠.cell
 locs:∀y∈scope.names,y.2= .local->scope.names.lookup y.1=some .local
 lx:scope.names.lookup x=some .local
 fr:∀y∈scope.names,y.2= .free->X.env.kindOf y.1=some .cell\/X.env.kindOf y.1=some .free
 cap:xeu X scope cap ys
 nd:(x::ys).Nodup
def zB(kind:scope.kind= .function)(h1:(scope.names.all fun y=> !(y.2== .cell))=true)(h2:(scope.names.all fun y=> !(y.2== .local)||scope.names.lookup y.1==some .local)=true)
  (hx:scope.names.lookup x=some .local) (h3:(scope.names.all fun y=> !(y.2== .free)||(X.env.kindOf y.1==some .cell||X.env.kindOf y.1==some .free))=true) (j8:xeu X scope cap ys) (j9:(x::ys).Nodup):zK X scope x cap ys:=by
 refine⟨kind,fun y hy e=>?_,fun y hy e=>?_,hx,fun y hy e=>?_,j8,j9⟩
 ·have:=bh.mp h1 y hy;rw[e]at this;exact absurd this (by decide)
 ·have:=bh.mp h2 y hy;rw[e]at this;simpa using this
 ·have:=bh.mp h3 y hy;rw[e]at this;simpa using this
theorem xcu{X:Cx}{scope:Scope}{σ:St}:∀{cap:List Nat} {ys:List Str} {i:Nat} {y:Str} {v:V},xeu X scope cap ys->ys[i]? =some y->(jP σ cap)[i]? =some (some v)->
  ∃j:Nat,X.N[j]? =some y/\σ[j]? =some (some v)/\scope.names.lookup y=some .free/\(X.env.kindOf y=some .cell\/X.env.kindOf y=some .free)
 |[],[],i,y,v,_,h,_=>by simp at h
 |j::js,z::zs,0,y,v,⟨⟨h1,h2,h3⟩,_⟩,e1,e2=>by
  simp at e1;subst e1;refine⟨j,h1,?_,h2,h3⟩;simp only[jP,bI,List.getElem?_cons_zero,i8]at e2;cases q:σ[j]? with
  |none=>rw[q]at e2;cases e2
  |some w=>rw[q]at e2;simp at e2;rw[e2]
 |j::js,z::zs,i+1,y,v,⟨_,h⟩,e1,e2=>xcu (i:=i) h (by simpa using e1) (by simpa [jP]using e2)
 |[],_::_,_,_,_,h,_,_=>h.elim
 |_::_,[],_,_,_,h,_,_=>h.elim
theorem xfW{X:Cx}{scope:Scope}:∀{cap:List Nat} {ys:List Str},xeu X scope cap ys->cap.length=ys.length
 |[],[],_=>rfl
 |_::_,_::_,⟨_,h⟩=>by simp[xfW h]
 |[],_::_,h=>h.elim
 |_::_,[],h=>h.elim
def xdV{l:List (Str×ck)}{y:Str}{k:ck}(h:l.lookup y=some k):(y,k)∈l:=PySem.mem_of_lookup h
theorem xcv{env:Env}:∀{names:List (Str×ck)} {x:Str},names.lookup x=some .free->
  (names.map fun(n,k)=>if (k==bE&&env.scope.kind== .function&&env.kindOf n==some .cell)then(n,iD)else(n,k)).lookup x=some .cell\/
  (names.map fun(n,k)=>if (k==bE&&env.scope.kind== .function&&env.kindOf n==some .cell)then(n,iD)else(n,k)).lookup x=some .free
 |[],_,h=>by simp at h
 |(n,k)::r,x,h=>by
  have ih:= @xcv env r x;rw[bI];rw[bF]at h;cases hx:x==n with
  |true=>
   rw[hx]at h;simp only[i8]at h;subst h;dsimp only
   split
   ·left;rw[bF,hx]
   ·right;rw[bF,hx]
  |false=>
   rw[hx]at h;dsimp only
   split
   ·rw[bF,hx];exact ih h
   ·rw[bF,hx];exact ih h
theorem jF{env:Env}:∀{names:List (Str×ck)} {x:Str} {k:ck},
  (names.map fun(n,k)=>if (k==bE&&env.scope.kind== .function&&env.kindOf n==some .cell)then(n,iD)else(n,k)).lookup x=some k->(k= .cell\/k= .free)->(∀y∈names,y.2≠.cell)->(x,bE)∈names
 |[],_,_,h,_,_=>by simp at h
 |(n,k')::r,x,k,h,hk,hc=>by
  rw[bI]at h;have j8:∀y∈r,y.2≠.cell:=fun y hy=>hc y (aH _ hy);have nk:k'≠.cell:=hc (n,k') ba;dsimp only at h
  split at h
  ·rename_i q;rw[bF]at h
   split at h
   ·rename_i hx;have e:x=n:=by simpa using hx
    have e2:k'= .free:=by
     simp only[bx,beq_iff_eq]at q;exact q.1.1
    rw[e,e2];exact ba
   ·exact aH _ (jF h hk j8)
  ·rw[bF]at h
   split at h
   ·rename_i hx;have e:x=n:=by simpa using hx
    have e3:k'=k:=by simpa using h
    rcases hk with q|q
    ·exact absurd (e3.trans q) nk
    ·rw[e,e3,q];exact ba
   ·exact aH _ (jF h hk j8)
def zK.clos(B:zK X scope x cap ys)(ok:X.Ok):∀y∈scope.names,y.2= .free->∃c,X.env.cells.lookup y.1=some c:=fun y hy e=>ok.has y.1 (B.fr y hy e)
def zK.sub(B:zK X scope x cap ys)(ok:X.Ok){z:Str}{c:Addr}(h:(yu X.env.cells scope.names []).lookup z=some c):X.env.cells.lookup z=some c:=by
 rcases xdU (B.clos ok) h with q|q
 ·simp at q
 ·exact q
theorem zK.start{h₁:Heap}{tk:Nat}{D:Addr}(B:zK X scope x cap ys)(I:Inv X pins σ H₂ s₂)
  (hf:∀b∈fp,xaS X pins H₂ b) (hD:s₂.heap.objs.size<=D) (hC:s₂.heap.objs.size<=C) (kh:D≠C) (hk:∀b o,s₂.heap.get? b=some o->h₁.get? b=some o)
  (kd:∃m,h₁.Ns C m) (hl:h₁.get? D=some {cls:=.type "list",data:=.seq ([]:List Value).toArray}) (kg:∀b∈fp,b<s₂.heap.objs.size):
  Inv (X.blk scope C (x::ys) s₂ H₂ fp) [] (none::jP σ cap) (upd H₂ D (.lst [])) {s₂ with heap:=h₁,toks:=tk}:=by
 have ok:=I.ok;have j8:H₂ C=none:=I.hok.fresh hC;have freshD:H₂ D=none:=I.hok.fresh hD;have lt:∀b o,s₂.heap.get? b=some o->b<s₂.heap.objs.size:=fun b o e=>au e;refine⟨⟨ok.mod,B.kind,ok.glob,ok.blt,hC,fun y z c h1 h2=>ok.inj y z c (B.sub ok h1) (B.sub ok h2),fun y hy=>?_,fun y c h=>(aB h).elim,ok.hd,ok.frames,.inl rfl,fun b hb=>⟨?_,fun y c h e=>?_⟩,I.bs,aO ok.bsz I.sz,fun b o e hb=>?_,fun b hb hs=>?_,I.stack,I.stkFree,fun y c h=>(aB h).elim,fun b hb=>I.hok.fresh hb⟩,
  rfl,I.bare,Un.laid hk hD freshD,?_,fun y c h=>?_,?_,fun y c h=>?_,fun p hp=>?_,?_,?_⟩
 ·have kb:(relabel scope X.env).names.lookup y=some .cell\/(relabel scope X.env).names.lookup y=some .free:=hy;have m:(y,bE)∈scope.names:=by
   rcases kb with q|q
   ·exact jF q (.inl rfl) B.nocell
   ·exact jF q (.inr rfl) B.nocell
  exact xbD (.inl m)
 ·exact aJ (aA (kg b hb) hC)
 ·exact(hf b hb).2.2.2.2.1 y c (B.sub ok h) e
 ·rcases(hf b hb).2.2.2.1 with q|q
  ·exact ok.noex b o e q
  ·exact absurd (aA (au (ok.bs b o e).1) q) (bH _)
 ·rcases ah.mp (I.stkSub b hs)with q|q
  ·exact(hf b hb).2.1 q
  ·exact(hf b hb).2.2.1 q
 ·obtain⟨m,hm⟩:=kd;refine⟨m,hm,fun i y v e1 e2 e3=>?_⟩;cases i with
  |zero=>simp at e2
  |succ i=>
   obtain⟨j,n1,n2,n3,n4⟩:=xcu (i:=i) B.cap (by simpa [Cx.blk]using e1) (by simpa using e2);obtain⟨m0,ki,kf⟩:=I.loc;have ka:Vis X.env.scope y:=by
    rcases n4 with q|q
    ·exact .inr (.inl q)
    ·exact .inr (.inr q)
   obtain⟨u,ru,l⟩:=kf j y v n1 n2 ka;refine⟨u,ru,.inr ⟨xcv n3,?_⟩⟩;rcases l with⟨k,_⟩|⟨_,c,ec,z⟩
   ·rw[k]at n4;rcases n4 with q|q<;> cases q
   ·obtain⟨c',j9⟩:=xbD (cells:=X.env.cells) (cs:=[]) (.inl (xdV n3));have:=B.sub ok j9;rw[ec]at this;cases this;obtain⟨o,ho,hd⟩:=z;exact⟨c,j9,o,hk c o ho,hd⟩
 ·obtain⟨v,o,ho,hd⟩:=I.cell y c (B.sub ok h);exact⟨v,o,hk c o ho,hd⟩
 ·show upd H₂ D _ C=none;rw[xm (aL kh)];exact j8
 ·obtain⟨v,o,ho,hd⟩:=I.cell y c (B.sub ok h);rw[xm (aJ (aA (lt c o ho) hD))];refine(I.freeC y c (B.sub ok h)).imp id fun⟨_,o',kc,ke⟩=>⟨rfl,o',kc,fun z i v e1 k e2=>?_⟩;cases i with
  |zero=>simp at e2
  |succ i=>
   obtain⟨j,n1,n2,n3,n4⟩:=xcu (i:=i) B.cap (by simpa [Cx.blk]using e1) (by simpa using e2);exact ke z j v n1 n4 n2
 ·exact absurd (show p∈([]:List (Addr×Obj))from hp) (by simp)
 ·exact I.hok.laid hk hD ⟨bu _,[],0,.nil,hl⟩
 ·simp[Cx.blk,jP,xfW B.cap]
def zK.back{s':ai}{pl:List (Addr×Obj)}{σ':St}(B:zK X scope x cap ys)(I:Inv X pins σ H₂ s₂)
  (hf:∀b∈fp,xaS X pins H₂ b) (J:Inv (X.blk scope C (x::ys) s₂ H₂ fp) pl σ' H' s'):Inv X pins σ H' s':=
 I.call' (ch:=fp) J.os J.base J.hok J.bare fun b hb=>by
  obtain⟨f0,f1,f2,f3,f4,f5⟩:=hf b hb;refine⟨?_,f1,f4,f5⟩;rcases f3 with q|q
  ·exact .inl q
  ·exact .inr q
def zK.far{s':ai}{pl:List (Addr×Obj)}{σ':St}(I:Inv X pins σ H₂ s₂)
  (hC:s₂.heap.objs.size<=C) (J:Inv (X.blk scope C (x::ys) s₂ H₂ fp) pl σ' H' s'):
  H' C=none/\C≠X.env.locals/\X.s₀.heap.objs.size<=C/\(∀z c,X.env.cells.lookup z=some c->c≠C)/\∀p∈X.pn++pins,p.1≠C:=by
 refine⟨J.free,fq (aA I.lt hC),aO I.sz hC,fun z c e q=>?_,fun p hp q=>?_⟩
 ·obtain⟨v,w⟩:=I.cell z c e;exact absurd (aA w.lt (by rw[q];exact hC)) (bH _)
 ·exact absurd (aA (au (I.pin p hp).1) (by rw[q];exact hC)) (bH _)
theorem xjN{prog:aX}{A:bc}{R:gs->ai->Prop}{s:ai}{elt:Expr}{ifs:List Expr}{pos:Pos}{it acc:Value}(J:Nat->ai->Prop)
  (go:∀n s,J n s->wpAny (model prog w) A (pyNext it) (fun r s1=>match r with
   |none=>R (.ok .next) s1
   |some v=>wpAny (model prog w) A (fw tg it v) (fun _ s2=>wpAny (model prog w) A (fL tg env v) (fun _ s3=>
     wpAny (model prog w) A (forIn ifs true fun c r=>if r=true then do let ok <-isTrue c env (eval c env);pure (c7 ok)else pure (c7 r)) (fun ok s4=>
      if ok=true then wpAny (model prog w) A (eval elt env) (fun y s5=>wpAny (model prog w) A (call (.builtin "list.append") [acc,y]) (fun _ s6=>∃m,m<n/\J m s6) (fun _ _=>False) s5) (fun _ _=>False) s4
      else∃m,m<n/\J m s4) (fun _ _=>False) s3) (fun _ _=>False) s2) (fun _ _=>False) s1) (fun _ _=>False) s)
  (n:Nat) (h:J n s):bX (model prog w) A (.compLoop (.ListComp elt [⟨tg,iter,ifs,0⟩] scope pos) 0 it acc env) R s:=by
 refine codeAny_loop rfl J (fun n s hJ=>?_) n h;show wpAny _ A ((compTurn (.ListComp elt [⟨tg,iter,ifs,0⟩] scope pos) 0 it acc env).onRaise (fun x=>do noteFrame x env;theTreesLotGoes x)) _ _ s;refine wpAny_noted ?_;rw[compTurn_list];refine aa (cg (aa (aN (go n s hJ) (fun r s1 h1=>?_) fun _ _ z=>z.elim)));cases r with
 |none=>exact ak h1
 |some v=>
  refine aa (aN h1 (fun _ s2 h2=>aa (aN h2 (fun _ s3 h3=>aa (aN h3 (fun ok s4 h4=>?_) fun _ _ z=>z.elim)) fun _ _ z=>z.elim)) fun _ _ z=>z.elim);cases ok with
  |false=>exact ak ⟨rfl,h4⟩
  |true=>
   exact aa (aa (aN h4 (fun y s5 h5=>aa (aN h5 (fun _ s6 h6=>ak (ak ⟨rfl,h6⟩)) fun _ _ z=>z.elim)) fun _ _ z=>z.elim))
def CTs(Xc:Cx)(ifs:List Expr)(t:TT):Prop:=
 ∀(pins:List (Addr×Obj)) (s:ai) (σ:St) (H:Hp) (Q:Bool->Hp->Prop),Inv Xc pins σ H s->t σ H Q->
  wpAny (model Xc.prog Xc.w) Xc.A (forIn ifs true fun c r=>if r=true then do let ok <-isTrue c Xc.env (eval c Xc.env);pure (c7 ok)else pure (c7 r)) (TP Xc pins σ Q) Xc.xe s
def xg8:TT:=fun _ H Q=>Q true H
def zm{Xc:Cx}:CTs Xc [] xg8:=fun _ _ _ H _ I q=>wpAny_tests_nil ⟨H,I,q⟩
def xnH{Xc:Cx}{t:TT}(h:PT Xc c t):CTs Xc [c] t:=fun pins s σ H Q I q=>wpAny_tests_one (h pins s σ H Q I q)
abbrev CW:=Nat->Nat->List V->Hp->Prop
@[irreducible] def zo(J:It)(caps:St)(tt:TT)(te:TE)(Q:VK)(H2:Hp):Prop:=∀D,H2 D=none->∃W:CW,(∃m,W 0 m [] (upd H2 D (.lst [])))/\
 ∀i m acc H3,W i m acc H3->H3 D=some (.lst acc)/\((J.stop i H3/\Q (.ref D) H3)\/(J.go i H3/\acc.length<ax/\∀v H4,J.yld i H3 v H4->tt (some v::caps) H4 fun b H5=>
  (b=true->te (some v::caps) H5 fun u H6=>H6 D=some (.lst acc)/\∃m',m'<m/\W (i+1) m' (acc++[u]) (upd H6 D (.lst (acc++[u]))))/\(b=false->∃m',m'<m/\W (i+1) m' acc H5)))
def xnm(cap:List Nat)(wi:TI)(tt:TT)(te:TE):TE:=fun σ H Q=>wi σ H fun J H2=>zo J (jP σ cap) tt te Q H2
section
variable {elt:Expr} {ifs:List Expr} {px pos:Pos} {wi:TI} {tt:TT} {te:TE}
theorem xev(B:zK X scope x cap ys)(hc:X.calm=true)(he:∀C s H fp,PE (X.blk scope C (x::ys) s H fp) elt te)(ht:∀C s H fp,CTs (X.blk scope C (x::ys) s H fp) ifs tt)
  {RR:Value->Addr->gs->ai->Prop} {km:Value} {E:Value->ai->Prop}
  (hp:PIE X pins σ (.Name x px) (fun J H2=>zo J (jP σ cap) tt te Q H2) km s₂)
  (hR:∀(D C:Addr) (H':Hp) (s':ai),Inv X pins σ H' s'->(∃m,s'.heap.Ns C m)->H' C=none->C≠X.env.locals->X.s₀.heap.objs.size<=C->(∀z c,X.env.cells.lookup z=some c->c≠C)->(∀p∈X.pn++pins,p.1≠C)->Q (.ref D) H'->RR (.ref D) C (.ok .next) s'):
  wpAny (model X.prog X.w) X.A (newList []) (fun acc s₃=>wpAny (model X.prog X.w) X.A (newFunctionEnv scope X.env.globals (yu X.env.cells scope.names []) [] X.env.qual none .none (some X.env)) (fun kc s₄=>
   bX (model X.prog X.w) X.A (.compStart (.ListComp elt [⟨.Name x px,iter,ifs,0⟩] scope pos) 0 km acc {kc with scope:=relabel scope X.env}) (RR acc kc.locals) s₄) E s₃) E s₂:=by
 refine L2.oG fun gq kq=>?_;obtain⟨it,fp,tn,J,H2,e,I2,T,ki,f2,hw⟩:=hp;refine kq ?_;subst e;unfold zo at hw;refine bO (wpAny_newFunctionEnv B.nocell (by intro y hy;simp at hy) (fun h₁ j9 j8=>?_) B.kind);dsimp only at j9 j8⊢;generalize hG:s₂.heap.push {cls:=.type "list",dict:=none,data:=.seq ([]:List Value).toArray}=G at j9 j8⊢;have hsz:G.objs.size=s₂.heap.objs.size+1:=by rw[<-hG,dq]
 have ka:s₂.heap.objs.size<=G.objs.size:=by lia
 have kn:s₂.heap.objs.size≠G.objs.size:=by lia
 have old:∀b o,s₂.heap.get? b=some o->h₁.get? b=some o:=fun b o q=>by
  have lt:=au q;refine j8.extBut b o (aJ (aA lt ka)) (af _ ?_);rw[<-hG];exact af _ q
 have kd:h₁.get? s₂.heap.objs.size=some {cls:=.type "list",data:=.seq ([]:List Value).toArray}:=by
  refine j8.extBut _ _ kn (af _ ?_);rw[<-hG];exact aI _ rfl
 have kg:∀b∈fp,b<s₂.heap.objs.size:=fun b hb=>by
  refine L2.oG fun gq kq=>?_;obtain⟨o,ho,_⟩:=T.obj _ _ ki b hb;refine kq ?_;exact au ho
 refine L2.oG fun gq kq=>?_;obtain⟨W,⟨m0,w0⟩,turn⟩:=hw s₂.heap.objs.size (I2.hok.fresh (aq _));refine kq ?_;generalize kC:s₂.toks+([]:List (Str×Value)).length=tk;have I0:=B.start (tk:=tk) (C:=G.objs.size) I2 f2 (aq _) ka kn old ⟨_,j9⟩ kd kg;have kj:tn 0 h₁:=T.keep _ _ _ ki fun b hb o q=>old b o q
 -- kr stays true of kB kb objects
 have f3:∀{H':Hp},(∀b∈fp,H' b=none)->∀b∈fp,xaS (X.blk scope G.objs.size (x::ys) s₂ H2 fp) [] H' b:=fun hn b hb=>by
  refine L2.oG fun gq kq=>?_;obtain⟨f0,f1,kA,kE,f4,f5⟩:=f2 b hb;refine kq ?_;refine⟨hn b hb,aJ (aA (kg b hb) ka),fun hs=>?_,.inl hb,fun z c q=>f4 z c (B.sub I2.ok q),fun p hp=>absurd (show p∈([]:List (Addr×Obj))from hp) (by simp)⟩;rcases ah.mp (I2.stkSub b hs)with q|q
  ·exact f1 q
  ·exact kA q
 have n0:∀b∈fp,upd H2 s₂.heap.objs.size (.lst []) b=none:=fun b hb=>by
  rw[xm (aJ (kg b hb))];exact(f2 b hb).1
 have loop:∀sx:ai,sx={s₂ with heap:=h₁,toks:=tk}->
   bX (model X.prog X.w) X.A (.compLoop (.ListComp elt [⟨.Name x px,iter,ifs,0⟩] scope pos) 0 (.ref it) (.ref s₂.heap.objs.size) (compEnvC scope (yu X.env.cells scope.names []) G.objs.size X.env)) (RR (.ref s₂.heap.objs.size) G.objs.size) sx:=by
  rintro sx rfl;refine xjN (fun n s'=>∃i acc H',Inv (X.blk scope G.objs.size (x::ys) s₂ H2 fp) [] (none::jP σ cap) H' s'/\tn i s'.heap/\(∀b∈fp,H' b=none)/\W i n acc H') ?_ m0 ⟨0,[],_,I0,kj,n0,w0⟩;rintro n s3 ⟨i,acc,H3,I3,kh,ko,w3⟩;obtain⟨kD,alt⟩:=turn i n acc H3 w3;rcases alt with⟨stop,q⟩|⟨go,hlen,step⟩
  ·refine aN (T.done (X.blk scope G.objs.size (x::ys) s₂ H2 fp) rfl rfl rfl hc i [] s3 _ H3 (fun _ _=>False) I3 (f3 ko) kh stop) (fun r s4 ⟨hr,I4⟩=>?_) fun _ _ z=>z.elim;subst hr;refine L2.oG fun gq kq=>?_;obtain⟨g1,g2,g3,g4,g5⟩:=zK.far I2 ka I4;obtain⟨m4,ku,_⟩:=I4.loc;refine kq ?_;exact hR _ _ H3 s4 (B.back I2 f2 I4) ⟨m4,ku⟩ g1 g2 g3 g4 g5 q
  ·refine aN (T.item (X.blk scope G.objs.size (x::ys) s₂ H2 fp) rfl rfl rfl hc i [] s3 _ H3 (fun _ _=>False) I3 (f3 ko) kh go) (fun r s4 ⟨u,hr,h4⟩=>?_) fun _ _ z=>z.elim;subst hr;refine aN h4 (fun _ s4 ⟨v,H4,I4,rv,y4,ke,kz⟩=>?_) fun _ _ z=>z.elim;have I4':=I4.pinned (f3 kz) (T.obj _ _ ke);refine f9 (xbz (X:=X.blk scope G.objs.size (x::ys) s₂ H2 fp) (i:=0) I4' B.nd rfl (.inl (lookup_relabel_local B.lx)) rv (fun s5 I5=>?_) (.inr (lookup_relabel_local B.lx)));have I5':Inv (X.blk scope G.objs.size (x::ys) s₂ H2 fp) ([]++jM fp s4.heap) (some v::jP σ cap) H4 s5:=I5;refine aN (ht _ _ _ _ _ s5 _ H4 _ I5' (step v H4 y4)) (fun ok s6 ⟨H6,I6,q6⟩=>?_) fun _ _ z=>z.elim;have pinned:∀{σ7:St} {H7:Hp} {s7:ai},Inv (X.blk scope G.objs.size (x::ys) s₂ H2 fp) ([]++jM fp s4.heap) σ7 H7 s7->tn (i+1) s7.heap/\∀b∈fp,H7 b=none:=fun{σ7 H7 s7} I7=>by
    refine⟨T.keep _ _ _ ke fun b hb o e=>(I7.pin (b,o) (bb _ (bb _ (jC hb e)))).1,fun b hb=>?_⟩;refine L2.oG fun gq kq=>?_;obtain⟨o,e,d⟩:=T.obj _ _ ke b hb;refine kq ?_;exact(I7.pin (b,o) (bb _ (bb _ (jC hb e)))).2.1
   have weak:∀{H7:Hp} {s7:ai},Inv (X.blk scope G.objs.size (x::ys) s₂ H2 fp) ([]++jM fp s4.heap) (some v::jP σ cap) H7 s7->Inv (X.blk scope G.objs.size (x::ys) s₂ H2 fp) [] (none::jP σ cap) H7 s7:=fun I7=>
    (I7.unpinned (pins:=[])).weak rfl fun j z e=>by
     cases j with
     |zero=>simp at e
     |succ j=>simpa using e
   cases ok with
   |false=>
    rw[if_neg aB];refine L2.oG fun gq kq=>?_;obtain⟨m',kf,w'⟩:=q6.2 rfl;refine kq ?_;exact⟨m',kf,i+1,acc,H6,weak I6,(pinned I6).1,(pinned I6).2,w'⟩
   |true=>
    rw[if_pos rfl];refine aN (he _ _ _ _ _ s6 _ H6 _ I6 (q6.1 rfl)) (fun y s7 ⟨z,H7,I7,rz,ky,m',kf,w'⟩=>?_) fun _ _ z=>z.elim;refine aN (zq (X:=X.blk scope G.objs.size (x::ys) s₂ H2 fp) _ s7 _ H7 (.ref s₂.heap.objs.size) [z] (.ref s₂.heap.objs.size) [y] (fun _ H8=>H8=upd H7 s₂.heap.objs.size (.lst (acc++[z]))) I7 rfl (.cons rz .nil) ⟨_,acc,z,rfl,rfl,ky,hlen,rfl⟩) (fun _ s8 ⟨_,H8,I8,_,e8⟩=>?_) fun _ _ z=>z.elim;subst e8;exact⟨m',kf,i+1,_,_,weak I8,(pinned I8).1,(pinned I8).2,w'⟩
 exact codeAny_compStart_list (loop _ rfl) (T.self _ 0 _ _ _ kj (loop _ rfl))
def ud(B:zK X scope x cap ys)(hc:X.calm=true)(hi:PI X (.Name x px) iter wi)(he:∀C s H fp,PE (X.blk scope C (x::ys) s H fp) elt te)(ht:∀C s H fp,CTs (X.blk scope C (x::ys) s H fp) ifs tt)
  (hs:∀x,eK iter X.env x=pure x:=by intro _;rfl):PE X (.ListComp elt [⟨.Name x px,iter,ifs,0⟩] scope pos) (xnm cap wi tt te):=by
 intro pins s σ H Q I h;rw[eval_ListComp];refine gz (use:=none) rfl hs (xbC (B.clos I.ok)) B.kind B.locs ?_;refine thn (hi pins s σ H _ I h) fun v s1 h1=>thn h1 fun j8 s2 h2=>?_;refine xev (Q:=Q) (RR:=fun acc C=>compPost (model X.prog X.w) X.A X.xe none (EP X pins σ Q) acc C) B hc he ht h2 ?_;rintro D C H' s' J ⟨m,hm⟩ g1 g2 g3 g4 g5 q;exact⟨m,hm,fun h' sb=>⟨.ref D,H',J.turned (t':=s'.toks) (fun b o hb e=>(sb.2 b hb).trans e) g1 g2 (.inr g3) g4 g5,rfl,q⟩⟩
def xbE{i:Nat}{y:Str}{pos' j8:Pos}(B:zK X scope x cap ys)(hc:X.calm=true)(hN:X.N.Nodup)(hi:X.N[i]? =some y)(hy:X.env.scope.names.lookup y=some .local)(hit:PI X (.Name x px) iter wi)
  (he:∀C s H fp,PE (X.blk scope C (x::ys) s H fp) elt te) (ht:∀C s H fp,CTs (X.blk scope C (x::ys) s H fp) ifs tt)
  (ka:e9 (.ListComp elt [⟨.Name x px,iter,ifs,0⟩] scope pos) (some (.Name y pos')) j8.line X.env=pure true:=by rfl)
  (hs:∀x,eK iter X.env x=pure x:=by intro _;rfl):
  PS X (.Assign [.Name y pos'] (.ListComp elt [⟨.Name x px,iter,ifs,0⟩] scope pos) j8) (xl7 (xnm cap wi tt te) (xgN i)):=by
 intro pins s σ H D I h;rw[exec_Assign_Name_used _ _ _ _ ka];refine aa (cg (aa ?_));show wpAny _ X.A (do let _ <-comprehension (.ListComp elt [⟨.Name x px,iter,ifs,0⟩] scope pos) scope X.env _ (newList []) false (eval iter X.env) (some (fL (.Name y pos') X.env))) _ _ s;refine aa (aN (gz (use:=some (fL (.Name y pos') X.env)) (Q:=fun _ s'=>SP X pins D .next s') rfl hs (xbC (B.clos I.ok)) B.kind B.locs
  (thn (hit pins s σ H _ I h) fun v s1 h1=>thn h1 fun kc s2 h2=>?_)) (fun _ s' hq=>ak (ak hq)) fun _ _ e=>e)
 refine xev (Q:=fun v H1=>xgN i v σ H1 D.nx) (RR:=fun acc C=>compPost (model X.prog X.w) X.A X.xe (some (fL (.Name y pos') X.env)) (fun _ s'=>SP X pins D .next s') acc C) B hc he ht h2 ?_;rintro Da C H' s' J ⟨m,hm⟩ g1 g2 g3 g4 g5 q;show wpAny _ X.A (fL (.Name y pos') X.env (.ref Da)) _ _ s';refine(f9 (xfN (v:=.ref Da) J hN hi (.inl hy) rfl (fun s4 J4 ⟨a,sb,ha⟩=>?_) (.inr hy)));have kb:C≠a:=by
  rcases ha with z|z
  ·rw[z];exact g2
  ·exact fun w=>g4 y a z w.symm
 refine⟨m,hm.sameBut sb kb,fun h' j9=>?_⟩;exact⟨_,H',J4.turned (t':=s4.toks) (fun b o hb e=>(j9.2 b hb).trans e) g1 g2 (.inr g3) g4 g5,q⟩
end
def Its(lo st:Int)(n:Nat):It:=⟨fun i _=>i<n,fun i H x H'=>H'=H/\x= .int (lo+i*st),fun i _=>n<=i⟩
def xjO(it:Addr)(lo st:Int)(n:Nat):Turn P w K tg (Its lo st n) [it] it (fun i h=>IsRangeIter h it (lo+(i:Nat)*st) ((n:Int) - (i:Nat)) st) where
 mem:=by simp
 obj:=fun i h q b hb=>by
  have e:b=it:=by simpa using hb
  subst e;exact⟨_,q,fun v z=>by
   have z':Data.fields _=Data.cell v:=z;cases z'⟩
 keep:=fun i h h' q k=>k it (by simp) _ q
 item:=by
  intro X hP hw hK hc i pins s σ H E I hf q hg;subst hP hw hK;obtain⟨f0,f1,f2,f3,f4,f5⟩:=hf it (by simp);refine(Walks.range (prog:=X.prog) (w:=X.w) (I.ok.hd hc) it lo st n).item i s _ _ hg q fun v h' tk hv q' kk=>?_;obtain⟨t,rfl⟩:=hv;have I1:Inv X pins σ H {s with heap:=h',toks:=tk}:=I.turned (fun b o hb e=>kk b o (by simpa using hb) e) f0 f1 f3 f4 f5;exact⟨_,rfl,xem (s:={s with heap:=h',toks:=tk}) (n:="range_iterator") q' rfl rfl (by decide) ⟨.int (lo+i*st),H,I1,⟨t,rfl⟩,⟨rfl,rfl⟩,q',fun b hb=>(hf b hb).1⟩⟩
 done:=by
  intro X hP hw hK hc i pins s σ H E I hf q hg;subst hP hw hK;obtain⟨f0,f1,f2,f3,f4,f5⟩:=hf it (by simp);exact wpAny_pyNext_range_end (I.ok.hd hc) q (by have:n<=i:=hg;lia) fun h' eb=>⟨rfl,I.turned (t':=s.toks) (fun b o hb e=>eb b o hb e) f0 f1 f3 f4 f5⟩
 self:=fun _ _ _ _ _ q h=>wpAny_pyIter_rangeiter q h
def xkZ(it:Addr)(lo st:Int)(n:Nat):Turn P w K tg (Its lo st n) [it] it (fun i h=>ij h it (lo+(i:Nat)*st) ((n:Int) - (i:Nat)) st) where
 mem:=by simp
 obj:=fun i h q b hb=>by
  have e:b=it:=by simpa using hb
  subst e;exact⟨_,q,fun v z=>by
   have z':Data.fields _=Data.cell v:=z;cases z'⟩
 keep:=fun i h h' q k=>k it (by simp) _ q
 item:=by
  intro X hP hw hK hc i pins s σ H E I hf q hg;subst hP hw hK;obtain⟨f0,f1,f2,f3,f4,f5⟩:=hf it (by simp);refine(Walks.longrange (prog:=X.prog) (w:=X.w) (I.ok.hd hc) it lo st n).item i s _ _ hg q fun v h' tk hv q' kk=>?_;obtain⟨t,rfl⟩:=hv;have I1:Inv X pins σ H {s with heap:=h',toks:=tk}:=I.turned (fun b o hb e=>kk b o (by simpa using hb) e) f0 f1 f3 f4 f5;exact⟨_,rfl,xem (s:={s with heap:=h',toks:=tk}) (n:="longrange_iterator") q' rfl rfl (by decide) ⟨.int (lo+i*st),H,I1,⟨t,rfl⟩,⟨rfl,rfl⟩,q',fun b hb=>(hf b hb).1⟩⟩
 done:=by
  intro X hP hw hK hc i pins s σ H E I hf q hg;subst hP hw hK;obtain⟨f0,f1,f2,f3,f4,f5⟩:=hf it (by simp);exact wpAny_pyNext_long_end (I.ok.hd hc) q (by have:n<=i:=hg;lia) fun h' eb=>⟨rfl,I.turned (t':=s.toks) (fun b o hb e=>eb b o hb e) f0 f1 f3 f4 f5⟩
 self:=fun _ _ _ _ _ q h=>wpAny_pyIter_longiter q h
def uq(a b c:Int):Nat:=(a9 a b c).toNat
def xg9(a b c:Int):0<=a9 a b c:=by
 unfold a9
 split
 ·split
  ·have:=Int.ediv_nonneg (a:=b - a - 1) (b:=c) (by lia) (by lia);lia
  ·lia
 ·split
  ·have:=Int.ediv_nonneg (a:=a - b - 1) (b:= -c) (by lia) (by lia);lia
  ·lia
def xfX(a b c:Int):((uq a b c:Nat):Int)=a9 a b c:=fB (xg9 a b c)
def xdW(a b:Int):uq a b 1=(b - a).toNat:=by
 unfold uq a9;simp only[show(1:Int) > 0 by decide,if_true]
 split<;> simp<;> lia
theorem xpb{s:ai}{R:It->Hp->Prop}{E:Value->ai->Prop}{a b c:Int}{t u v:Tok}{r:Addr}(I:Inv X pins σ H s)(hr:IsRange s.heap r a b c t u v)
  (q:R (Its a c (uq a b c)) H):wpAny (model X.prog X.w) X.A (pyIter (.ref r)) (PIE X pins σ tg R) E s:=by
 have e2:a9 a b c=((uq a b c:Nat):Int) - ((0:Nat):Int):=by rw[xfX];simp
 have e1:a=a+((0:Nat):Int)*c:=by simp
 have fp:∀b'∈[s.heap.objs.size],xaS X pins H b':=fun b' hb=>by
  have e:b'=s.heap.objs.size:=by simpa using hb
  subst e;exact I.fpOk (aq _) (I.hok.fresh (aq _))
 cases j8:fC a b c with
 |true=>
  refine wpAny_pyIter_range hr j8 ⟨s.heap.objs.size,[s.heap.objs.size],_,_,H,rfl,I.kept (t':=s.toks) fun b o e=>af _ e,xjO _ a c (uq a b c),?_,fp,q⟩;show IsRangeIter _ _ (a+((0:Nat):Int)*c) (((uq a b c:Nat):Int) - ((0:Nat):Int)) c;rw[<-e1,<-e2];exact aI _ rfl
 |false=>
  refine wpAny_pyIter_longrange hr j8 ⟨s.heap.objs.size,[s.heap.objs.size],_,_,H,rfl,I.kept (t':=s.toks) fun b o e=>af _ e,xkZ _ a c (uq a b c),?_,fp,q⟩;show ij _ _ (a+((0:Nat):Int)*c) (((uq a b c:Nat):Int) - ((0:Nat):Int)) c;rw[<-e1,<-e2];exact aI _ rfl
def xjP(k:Int->Hp->Prop):List V->Hp->Prop:=fun vs H=>match vs with
 |[.int j]=>k j H
 |_=>False
def xgT(k:Int->Int->Hp->Prop):List V->Hp->Prop:=fun vs H=>match vs with
 |[.int i,.int j]=>k i j H
 |_=>False
def xi6{k:Int->Hp->Prop}{vs:List V}(h:xjP k vs H):∃j,vs=[.int j]/\k j H:=by
 unfold xjP at h
 split at h
 ·exact⟨_,rfl,h⟩
 ·exact h.elim
def xha{k:Int->Int->Hp->Prop}{vs:List V}(h:xgT k vs H):∃i j,vs=[.int i,.int j]/\k i j H:=by
 unfold xgT at h
 split at h
 ·exact⟨_,_,rfl,h⟩
 ·exact h.elim
def xnI{us:List Value}{i:Int}(r:Vals [.int i] us):∃t,us=[.int i t]:=by
 obtain⟨u,rfl,t,rfl⟩:=Vals.one r;exact⟨t,rfl⟩
def xnJ{us:List Value}{i j:Int}(r:Vals [.int i,.int j] us):∃t t',us=[.int i t,.int j t']:=by
 obtain⟨u,v,rfl,⟨t,rfl⟩,⟨t',rfl⟩⟩:=Vals.two r;exact⟨t,t',rfl⟩
def xqg(ta:TA):TI:=fun σ H R=>ta σ H (xjP fun j H1=>R (Its 0 1 (uq 0 j 1)) H1)
def xfY{ta:TA}{p pos:Pos}(hg:Gl X "range")(hm:X.mg "range"=none)(ha:PA X [a] ta)(hs:aD [a] X.env=[(false,eval a X.env)]:=by rfl):PI X tg (.Call (.Name "range" p) [a] [] pos) (xqg ta):=by
 intro pins s σ H R I h;refine Call_ (ve I hg hm boot_range (bV (thn (ha pos pins s σ H _ I h) fun us s1 ⟨vs,H1,I1,r1,q1⟩=>?_) hs rfl));obtain⟨j,rfl,q⟩:=xi6 q1;obtain⟨t,rfl⟩:=xnI r1;refine call_range_1 (xpb (I1.kept (t':=_) fun b o e=>af _ e) (IsRange.new ..) q)
def xqh(ta:TA):TE:=fun σ H Q=>ta σ H (xgT fun i j H1=>∀p,H1 p=none->Q (.ref p) (upd H1 p (.rng i j)))
def xk0{b:Expr}{ta:TA}{p pos:Pos}(hg:Gl X "range")(hm:X.mg "range"=none)(ha:PA X [a,b] ta)(hs:aD [a,b] X.env=[(false,eval a X.env),(false,eval b X.env)]:=by rfl)(j8:aD [b] X.env=[(false,eval b X.env)]:=by rfl):
  PE X (.Call (.Name "range" p) [a,b] [] pos) (xqh ta):=by
 intro pins s σ H Q I h;refine Call_ (ve I hg hm boot_range (bV (thn (ha pos pins s σ H _ I h) fun us s1 ⟨vs,H1,I1,r1,q1⟩=>?_) (by rw[hs,j8]) (by rw[j8];rfl)));obtain⟨i,j,rfl,q⟩:=xha q1;obtain⟨t,t',rfl⟩:=xnJ r1;refine call_range_2 ⟨.ref s1.heap.objs.size,upd H1 s1.heap.objs.size (.rng i j),I1.laid (fun b o e=>af _ e) (aq _) ⟨_,_,_,aI _ rfl⟩,rfl,q _ (I1.hok.fresh (aq _))⟩
end L2
namespace PySem
open Sem (wp)
section
variable {prog:aX} {w:World} {A:bc} {E:Value->ai->Prop} {s:ai}
def xjQ{R:gs->ai->Prop}{r:Addr}{a b c:Int}{t u v:Tok}{k:Nat}(kc:A.handled=none)(hr:IsRange s.heap r a b c t u v)(j9:fC a b c=false)
  (hk:a9 a b c=k) (hle:k<=2^24) (D:Addr) (z:Value) (m₀:Nat) (hD:s.heap.get? D=some {cls:=.type "list",data:=.seq #[] m₀})
  (hR:∀g tk xs m,(∀b o,b≠D->s.heap.get? b=some o->g.get? b=some o)->g.get? D=some {cls:=.type "list",dict:=none,data:=.seq xs m,slots:=#[]}->
   ItemsOf (fun i v=>∃t,v= .int (a+i*c) t) xs k->R (.ok (.ret z)) {s with heap:=g,toks:=tk}):
  wpAny (model prog w) A.in1 (bW (.ref D) (.ref r) z)
   (fun fin s'=>match fin with| .done f=>R (.ok f) s'| .again d=>d.quiet=true/\bX (model prog w) A d R s') (fun e s'=>R (.error e) s') s:=by
 have ka:D≠r:=fun e=>by rw[e,hr]at hD;simp at hD
 have j8:D≠s.heap.objs.size:=aJ (au hD);have kb:D∉[s.heap.objs.size]:=fun q=>j8 (ao.mp q);have Wk:=(Walks.longrange (prog:=prog) (w:=w) (A:=A.in1) kc s.heap.objs.size a c k).toS;have fin:∀(g:Heap) (m₁ tk:Nat),ij g s.heap.objs.size (a+((0:Nat):Int)*c) ((k:Int) - ((0:Nat):Int)) c->(∀b o,b≠D->s.heap.get? b=some o->g.get? b=some o)->
   g.get? D=some {cls:=.type "list",data:=.seq #[] m₁}->bX (model prog w) A (.builtin "list.extend.loop" ⟨[.ref D,.ref s.heap.objs.size,z],[]⟩) R {s with heap:=g,toks:=tk}:=by
  intro g m₁ tk q1 q2 q3;refine codeAny_extend_loopS Wk (by rw[ar];omega) D kb z k 0 _ #[] m₁ rfl (bu _) q1 q3 (ItemsOf.nil _) fun s' xs m hm kd hx=>?_;rw[Moved.eq_with hm];refine hR s'.heap s'.toks xs m (fun b o hb e=>hm.heap b o (fun hq=>?_) (q2 b o hb e)) kd hx;rcases ah.mp hq with e'|hq
  ·exact hb e'
  ·exact absurd (au e) (by rw[ao.mp hq];exact bH _)
 unfold bW;refine aa (wpAny_typeOf (T:="range") ⟨_,hr,rfl⟩ ?_);have x1:gA (.ref D) (.ref r)=false:=by simp[gA,ka]
 have x2:(dA "range"==dA "list")=false:=by decide
 have x3:(dA "range"==dA "tuple")=false:=by decide
 simp only[x1,x2,x3,fY,c8,if_false];refine aa (wpAny_pyIter_longrange hr j9 ?_);refine aa (bD (wpAny_hint_range (n:=k) (af _ hr) hk hle ?_));generalize hG:s.heap.push {cls:=.type "longrange_iterator",data:=.fields #[bz a,bz (a9 a b c),bz c]}=G;have i1:ij G s.heap.objs.size (a+((0:Nat):Int)*c) ((k:Int) - ((0:Nat):Int)) c:=by
  have q:G.get? s.heap.objs.size=some {cls:=.type "longrange_iterator",data:=.fields #[bz a,bz (a9 a b c),bz c]}:=by rw[<-hG];exact aI _ rfl
  rw[hk]at q;show G.get? _=_;rw[q];simp
 have old:∀b o,s.heap.get? b=some o->G.get? b=some o:=fun b o e=>by rw[<-hG];exact af _ e
 have d1:=old D _ hD;refine wpAny_ite_split (fun _=>?_) (fun _=>ak ⟨dM F.plain_extend_loop _,fin _ m₀ _ i1 (fun b o _ e=>old b o e) d1⟩);refine aa (wpAny_rule ?_);refine aa ?_;show wpAny _ _ (gP D (·.push .none) >>= fun _=>gP D (·.pop)) _ _ _;refine aa (cy d1 rfl ?_);have d2:=br (cb (·.push a7)) d1 rfl;refine cy (hz:=by seq_fits) d2 rfl ?_;have d3:=br (cb (·.pop)) d2 rfl;refine ak ⟨dM F.plain_extend_loop _,fin _ _ _ ?_ (fun b o hb e=>?_) d3⟩
 ·exact(aV _ _ j8).trans ((aV _ _ j8).trans i1)
 ·exact(aV _ _ (aL hb)).trans ((aV _ _ (aL hb)).trans (old b o e))
theorem xjR{R:gs->ai->Prop}{r:Addr}{a b c:Int}{t u v:Tok}{k:Nat}(j8:A.handled=none)(hr:IsRange s.heap r a b c t u v)
  (hk:a9 a b c=k) (hle:k<=2^24) (D:Addr) (z:Value) (m₀:Nat) (hD:s.heap.get? D=some {cls:=.type "list",data:=.seq #[] m₀})
  (hR:∀g tk xs m,(∀b o,b≠D->s.heap.get? b=some o->g.get? b=some o)->g.get? D=some {cls:=.type "list",dict:=none,data:=.seq xs m,slots:=#[]}->
   ItemsOf (fun i v=>∃t,v= .int (a+i*c) t) xs k->R (.ok (.ret z)) {s with heap:=g,toks:=tk}):
  wpAny (model prog w) A.in1 (bW (.ref D) (.ref r) z)
   (fun fin s'=>match fin with| .done f=>R (.ok f) s'| .again d=>d.quiet=true/\bX (model prog w) A d R s') (fun e s'=>R (.error e) s') s:=by
 cases hs:fC a b c with
 |true=>exact wpAny_extend_range j8 hr hs hk hle D z m₀ hD hR
 |false=>exact xjQ j8 hr hs hk hle D z m₀ hD hR
def xe4{Q:Value->ai->Prop}{r:Addr}{a b c:Int}{t u v:Tok}{k:Nat}(ka:A.handled=none)(hr:IsRange s.heap r a b c t u v)
  (hk:a9 a b c=k) (hle:k<=2^24)
  (hQ:∀g tk xs m,(∀b o,s.heap.get? b=some o->g.get? b=some o)->
   g.get? s.heap.objs.size=some {cls:=.type "list",dict:=none,data:=.seq xs m,slots:=#[]}->ItemsOf (fun i v=>∃t,v= .int (a+i*c) t) xs k->Q (.ref s.heap.objs.size) {s with heap:=g,toks:=tk}):
  wpAny (model prog w) A (call (.type "list") [.ref r]) Q E s:=by
 refine callType_codes (Q₁:=fun obj s₁=>obj= .ref s.heap.objs.size/\s₁={s with heap:=s.heap.push {cls:=.type "list",data:=.seq #[]}}) F.called_list (F.typeCall_list_1 _) F.entry_list_init
  (code_list_new _ ⟨rfl,rfl⟩) fun obj s₁ q₁=>?_
 obtain⟨rfl,rfl⟩:=q₁;generalize hG:s.heap.push {cls:=.type "list",data:=.seq #[]}=G;have old:∀b o,s.heap.get? b=some o->G.get? b=some o:=fun b o e=>by rw[<-hG];exact af _ e
 have hD:G.get? s.heap.objs.size=some {cls:=.type "list",data:=.seq #[]}:=by rw[<-hG];exact aI _ rfl
 have j9:s.heap.objs.size≠r:=fun e=>absurd (au hr) (by rw[<-e];exact bH _);refine⟨⟨_,hD,rfl⟩,F.args_list_init_2 _ _,?_⟩;show wpAny _ _ (do let old <-gU (.ref s.heap.objs.size);Builtin.List.listUpdate (.ref s.heap.objs.size) (fun _=>#[]);letGo old.toList.reverse;bW (.ref s.heap.objs.size) (.ref r) .none) _ _ _;refine aa ?_;unfold gU;refine aa (eI hD rfl (ak ?_));show wpAny _ _ (gP s.heap.objs.size (fun _=>#[]) >>= fun _=>letGo (#[]:Array Value).toList.reverse >>= fun _=>bW (.ref s.heap.objs.size) (.ref r) .none) _ _ _;refine aa (cy hD rfl ?_);have d2:=br (cb (fun _=>(#[]:Array Value))) hD rfl;have j8:∀b o,b≠s.heap.objs.size->G.get? b=some o->(G.update s.heap.objs.size (cb (fun _=>(#[]:Array Value)))).get? b=some o:=
  fun b o hb e=>(aV _ _ (aL hb)).trans e
 refine aa (fH ?_);refine xjR (A:=A.in1) ka (j8 r _ (aL j9) (old r _ hr)) hk hle s.heap.objs.size .none _ d2 fun g tk xs m q1 q2 q3=>⟨rfl,?_⟩;exact hQ g tk xs m (fun b o e=>q1 b o (aJ (au e)) (j8 b o (aJ (au e)) (old b o e))) q2 q3
end
end PySem
namespace L2
open PySem PySem.Spec PyProof.Rows
variable {H H' H2:Hp} {X:Cx} {K:ay} {σ:St} {x qual name:Str} {n i:Nat} {s:ai} {o:HO} {p D a f l c:Addr} {scope:Scope} {Q:VK} {xs:List V} {pins:List (Addr×Obj)} {e:Expr} {te:TE} {ps fns:List Str} {CX:CXT} {w:World} {params:c4} {P:aX} {body:eZ} {mg:Str->Option Value} {fv:List (Str×V)} {caps:L2.St} {lo:Int} {fd:av} {sp:Sp} {E:XK} {es:List Expr} {g:TG} {tb:TS} {A:bc} {us:List Value}
def xcw(lo:Int)(n:Nat):List V:=(cT n).map fun(i:Nat)=>V.int (lo+(i:Int))
def xdw(lo:Int)(n:Nat):(xcw lo n).length=n:=by simp[xcw]
theorem xdx:∀{xs:List V} {us:List Value},xs.length=us.length->(∀(j:Nat) (x:V) (u:Value),xs[j]? =some x->us[j]? =some u->RelV x u)->Vals xs us
 |[],[],_,_=>.nil
 |[],_::_,h,_=>by simp at h
 |_::_,[],h,_=>by simp at h
 |x::xs,u::us,h,k=>.cons (k 0 x u rfl rfl) (xdx (by simpa using h) fun j y v e1 e2=>k (j+1) y v (by simpa using e1) (by simpa using e2))
theorem xjS{xs:Array Value}(h:ItemsOf (fun i v=>∃t,v= .int (lo+(i:Int)*1) t) xs n):Vals (xcw lo n) xs.toList:=by
 obtain⟨hl,hv⟩:=h;refine xdx (by rw[xdw];simp[hl]) fun j x u e1 e2=>?_;obtain⟨t,rfl⟩:=hv j u (by simpa using e2);unfold xcw at e1;rw[az]at e1;cases q:(cT n)[j]? with
 |none=>rw[q]at e1;cases e1
 |some i=>
  rw[q]at e1;have e3:i=j:=by
   obtain⟨h1,h2⟩:=aR.mp q;rw[List.getElem_range]at h2;exact h2.symm
  subst e3;cases e1;exact⟨t,by rw[Int.mul_one]⟩
def xgk(hc:X.calm=true):yq X (.type "list") (fun xs H Q=>∃p lo hi,xs=[.ref p]/\H p=some (.rng lo hi)/\uq lo hi 1<=2^24/\∀l,H l=none->Q (.ref l) (upd H l (.lst (xcw lo (uq lo hi 1))))):=by
 intro pins s σ H xs us Q I r h;obtain⟨p,lo,hi,rfl,hp,hz,q⟩:=h;obtain⟨u,rfl,ru⟩:=Vals.one r;cases ru;obtain⟨t,u,v,hr⟩:=I.hok p _ hp;refine xe4 (I.ok.hd hc) hr (xfX lo hi 1).symm hz fun g tk xs m k1 k2 k3=>?_;have fr:H s.heap.objs.size=none:=I.hok.fresh (aq _);refine⟨.ref s.heap.objs.size,upd H s.heap.objs.size (.lst (xcw lo (uq lo hi 1))),I.laid (h':=g) (t':=tk) k1 (aq _) ⟨?_,xs.toList,m,xjS k3,by simpa using k2⟩,rfl,q _ fr⟩;rw[xdw,ar];omega
mutual
inductive Rp(K:ay)(H:Hp):V->fQ->Prop
 |non:Rp K H .non .none
 |bl (b:Bool):Rp K H (.bl b) (.bool b)
 |int (i:Int):Rp K H (.int i) (.int i)
 |str (x:Str):Rp K H (.str x) (.str x)
 |lst {a:Addr} {xs:List V} {ds:List fQ}:SqL K H a xs->Rps K H xs ds->Rp K H (.ref a) (.list ds)
 |tup {a:Addr} {xs:List V} {ds:List fQ}:SqT K H a xs->Rps K H xs ds->Rp K H (.ref a) (.tuple ds)
inductive Rps(K:ay)(H:Hp):List V->List fQ->Prop
 |nil:Rps K H [] []
 |cons {x:V} {d:fQ} {xs:List V} {ds:List fQ}:Rp K H x d->Rps K H xs ds->Rps K H (x::xs) (d::ds)
end
def xf.seqT(e:xf H H')(h:SqT K H a xs):SqT K H' a xs:=by
 rcases h with(h|⟨o,h⟩)|h
 ·exact .inl (.inl (e _ _ h))
 ·exact .inl (.inr ⟨o,e _ _ h⟩)
 ·exact .inr h
mutual
theorem Rp.reads(I:Inv X pins σ H s):∀{v:V} {d:fQ} {u:Value},Rp X.K H v d->RelV v u->∃as,Reads s.heap u d as
 |_,_,u,.non,r=>by cases (show u=a7 from r);exact⟨_,.none⟩
 |_,_,u,.bl b,r=>by cases (show u=cS b from r);exact⟨_,.bool b⟩
 |_,_,u,.int i,r=>by obtain⟨t,e⟩:=(show∃t,u=fK i t from r);subst e;exact⟨_,.int i t⟩
 |_,_,u,.str x,r=>by obtain⟨t,e⟩:=(show∃t,u=dY x t from r);subst e;exact⟨_,.str x t⟩
 |_,_,u,.lst (a:=a) q rr,r=>by
  cases (show u=aF a from r);obtain⟨its,rv,p,hz⟩:=I.list q;obtain⟨as,ra⟩:=Rps.reads I rr rv;obtain⟨o,ho,hc,n,hd⟩:=p.isList;exact⟨_,.list ho hc hd (by simpa using ra)⟩
 |_,_,u,.tup (a:=a) q rr,r=>by
  cases (show u=aF a from r);obtain⟨its,rv,p,hz⟩:=I.tuple q;obtain⟨as,ra⟩:=Rps.reads I rr rv;obtain⟨o,ho,hc,n,hd⟩:=p;exact⟨_,.tuple ho hc hd (by simpa using ra)⟩
theorem Rps.reads(I:Inv X pins σ H s):∀{v:List V} {d:List fQ} {u:List Value},Rps X.K H v d->Vals v u->∃as,ReadsAll s.heap u d as
 |_,_,_,.nil,.nil=>⟨_,.nil⟩
 |_,_,_,.cons q rr,.cons r t=>by
  obtain⟨as,h1⟩:=Rp.reads I q r;obtain⟨bs,h2⟩:=Rps.reads I rr t;exact⟨_,.cons h1 h2⟩
end
def xmo(K:ay)(f:Bool->Bool):R2:=fun x y H Q=>∃da db,Rp K H x da/\Rp K H y db/\ek da=true/\ek db=true/\Q (.bl (f (PyData.eqv da db))) H
def xaG(hu:X.A.units+64<cLine):OpR X (bg .NotEq) (xmo X.K fun b=> !b):=by
 intro pins s σ H x y v u Q I rx ry q;obtain⟨da,db,hx,hy,sa,sb,q⟩:=q;obtain⟨as,ra⟩:=hx.reads I rx;obtain⟨bs,rb⟩:=hy.reads I ry;exact ne_dataH ra rb sa sb hu ⟨.bl (!PyData.eqv da db),H,I,rfl,q⟩
def xmp:V->Option Value
 | .ty n=>some (.type n)
 | .ref a=>some (.ref a)
 |_=>none
theorem xhb{c:V}{cv v:Value}(h:xmp c=some cv)(r:RelV c v):v=cv:=by
 cases c with
 |ref a=>cases h;exact r
 |ty n=>cases h;exact r
 |_=>cases h
def xpc(K:ay):List V->Hp->VK->Prop:=fun xs H Q=>∃x c t cv b,xs=[x,c]/\xmp c=some cv/\yh K H x t/\aj K t cv=some b/\Q (.bl b) H
def zv:yq X (.builtin "isinstance") (xpc X.K):=by
 intro pins s σ H xs us Q I r h;obtain⟨x,c,t,cv,b,rfl,rc,ty,e,q⟩:=h;obtain⟨u,v,rfl,ru,rv⟩:=Vals.two r;have e2:=xhb rc rv;subst e2;exact xkR I ru ty e fun tk=>⟨.bl b,H,I.tok _,rfl,q⟩
structure xmq(K:ay)(C:Addr)(m:Str)(f:Addr):Prop where
 sp:W.specialIn K (.ref C) "__getattribute__"=some (some (.builtin "type.__getattribute__"))
 rd:W.readsIn K C (.type "type")=true
 fd:W.findCls K (.ref C) (.type "type") m=some (.val (.ref f))
 kp:bU K (.ref f)=true
def xnK{m:Str}{C:Addr}{dvs:List V}{ds:List Value}{k:Nat}{p apos pos:Pos}{t:TA}{pl:Sem Bool}
  (hg:Gl X x) (hm:X.mg x=some (.ref C)) (M:xmq X.K C m f) (F:xt X.prog X.w X.K X.mg X.base CX k f fd ps sp) (hr:xI k X.A) (hb:Binds X.K fd ps ds) (hd:Vals dvs ds) (hx:Passes CX X E) (ha:PA X (e::es) t)
  (j8:aD (e::es) X.env=(false,eval e X.env)::aD es X.env:=by rfl) (j9:(bB pos (aD es X.env)).any (·.1)=false:=by rfl) (ka:(x==("__debug__":Str))=false:=by decide)
  (ht:eval (.Call (.Attribute (.Name x p) m apos) (e::es) [] pos) X.env=(do
   let ov <-eval (.Name x p) X.env
   gk apos.atName
   let(f,first) <-eF [ov] (fb ov m pl)
   eW pos f first (bB pos (aD (e::es) X.env)) (eX pos (de [] X.env))):=by rfl):
  PE X (.Call (.Attribute (.Name x p) m apos) (e::es) [] pos) (xjE sp dvs E t):=by
 intro pins s σ H Q I h;refine dS (pl:=pl) (yR I hg hm ?_ ka) ht;refine W.method_cls I.kIn M.sp (W.cls_value I.kIn M.rd M.fd rfl ?_);have I1:=I.tok (s.toks+1);refine du (first:=[]) (h₀:=X.base) I.ok.mod.kin M.kp (thn (ha pos pins _ σ H _ I1 h) fun us s2 ⟨vs,H2,I2,r,q2⟩=>⟨I2.kIn,?_⟩) j8 j9;exact xcp F hr hb hd hx I2 r q2
def yl:bp "len"=some (.builtin "len"):=by decide+kernel
def xk1:bp "max"=some (.builtin "max"):=by decide+kernel
def xpd:bp "abs"=some (.builtin "abs"):=by decide+kernel
def xH:bp "isinstance"=some (.builtin "isinstance"):=by decide+kernel
def xpe:bp "any"=some (.builtin "any"):=by decide+kernel
def xk2:bp "all"=some (.builtin "all"):=by decide+kernel
def xdb:bp "list"=some (.type "list"):=by decide+kernel
def vG:bp "tuple"=some (.type "tuple"):=by decide+kernel
def xk3:bp "int"=some (.type "int"):=by decide+kernel
def xnL:bp "bool"=some (.type "bool"):=by decide+kernel
def uz:bp "str"=some (.type "str"):=by decide+kernel
def jQ:bp "enumerate"=some (.type "enumerate"):=by decide+kernel
def xnM{f:Str}{v:V}{fs:List (Str×V)}(h:fs.length<n):(zN f v fs).length<n+1:=eh (xaT f v fs) (by lia)
section
variable {a b c:Expr} {ta tb:TE} {pos:Pos}
def xpf(hc:X.calm=true):yq X (.builtin "max") (fun xs H Q=>xgT (fun i j H1=>Q (.int (max i j)) H1) xs H):=(xkO hc).imp fun xs H Q q=>by
 obtain⟨i,j,rfl,q⟩:=xha q;refine⟨i,j,rfl,?_⟩;have e:(if j > i then j else i)=max i j:=by split<;> lia
 rw[e];exact q
def xqi:yq X (.builtin "abs") (fun xs H Q=>xjP (fun i H1=>Q (.int (i.natAbs:Int)) H1) xs H):=xmb.imp fun xs H Q q=>by
 obtain⟨i,rfl,q⟩:=xi6 q;refine⟨i,rfl,?_⟩;have e:(if i<0 then -i else i)=(i.natAbs:Int):=by split<;> lia
 rw[e];exact q
def isN:V->Bool
 | .non=>true
 |_=>false
def xi7(x:V):decide (x= .non)=isN x:=by cases x<;> simp[isN]
def xqj(ta:TE):TT:=fun σ H Q=>ta σ H fun x H1=>Q (isN x) H1
def xpg(ta:TE):TT:=fun σ H Q=>ta σ H fun x H1=>Q (!isN x) H1
def jS{j pos'}(ha:PE X a ta):PT X (.Compare a [.Is] [.Constant .none j pos'] pos) (xqj ta):=(xkI (xoL ha)).imp fun σ H Q q=>by
 show ta σ H _;have e:(fun x H1=>∃c,V.bl (decide (x=V.non))= .bl c/\Q c H1)=fun x H1=>Q (isN x) H1:=by
  funext x H1;rw[xi7];apply propext;exact⟨fun⟨c,e,q⟩=>by cases e;exact q,fun q=>⟨_,rfl,q⟩⟩
 rw[e];exact q
def xdc{j pos'}(ha:PE X a ta):PT X (.Compare a [.IsNot] [.Constant .none j pos'] pos) (xpg ta):=(xkI (xnt ha)).imp fun σ H Q q=>by
 show ta σ H _;have e:(fun x H1=>∃c,V.bl (!decide (x=V.non))= .bl c/\Q c H1)=fun x H1=>Q (!isN x) H1:=by
  funext x H1;rw[xi7];apply propext;exact⟨fun⟨c,e,q⟩=>by cases e;exact q,fun q=>⟨_,rfl,q⟩⟩
 rw[e];exact q
end
def xk4{st:Int}{D:Ends}(Pv:Nat->St->Hp->Prop)(h0:Pv 0 σ H)
  (hs:∀(i:Nat) σ H,i<n->Pv i σ H->g (.int (lo+i*st)) σ H fun σ2 H2=>tb {D with nx:=Pv (i+1),ct:=Pv (i+1),bk:=D.nx} σ2 H2) (hd:∀σ H,Pv n σ H->D.nx σ H):zJ (Its lo st n) g tb D σ H:=by
 unfold zJ;refine⟨fun i m σ H=>m=n - i/\i<=n/\Pv i σ H,⟨n,by simp,bu _,h0⟩,?_⟩;rintro i m σ H ⟨rfl,hi,p⟩
 by_cases j8:i<n
 ·refine .inr ⟨j8,Pv (i+1),fun σ' H' p'=>⟨n - (i+1),by lia,rfl,j8,p'⟩,fun x H' y=>?_⟩;obtain⟨e,y⟩:=y;subst e y;exact hs i σ _ j8 p
 ·have e:i=n:=by lia
  subst e;exact .inl ⟨aq _,hd σ H p⟩
def yc{D:Ends}(Pv:Nat->St->Hp->Prop)(h0:Pv 0 σ H)(hl:∀i σ H,i<=xs.length->Pv i σ H->SqL K H l xs)
  (hs:∀i x σ H,xs[i]? =some x->Pv i σ H->g x σ H fun σ2 H2=>tb {D with nx:=Pv (i+1),ct:=Pv (i+1),bk:=D.nx} σ2 H2) (hd:∀σ H,Pv xs.length σ H->D.nx σ H):zJ (Itl K l) g tb D σ H:=by
 unfold zJ;exact xl9 Pv h0 hl hs hd
def xk5{D:Ends}(Pv:Nat->St->Hp->Prop)(h0:Pv 0 σ H)(hl:∀i σ H,i<=xs.length->Pv i σ H->SqT K H l xs)
  (hs:∀i x σ H,xs[i]? =some x->Pv i σ H->g x σ H fun σ2 H2=>tb {D with nx:=Pv (i+1),ct:=Pv (i+1),bk:=D.nx} σ2 H2) (hd:∀σ H,Pv xs.length σ H->D.nx σ H):zJ (Itt K l) g tb D σ H:=by
 unfold zJ;exact xnv Pv h0 hl hs hd
def xf.new(h:H p=none):xf H (upd H p o):=fun b u e=>by rw[xm (xD e h)];exact e
def xf.put(e:xf H H')(h:H p=none):xf H (upd H' p o):=fun b u q=>by rw[xm (xD q h)];exact e b u q
def xf.at(e:xf H H')(h:H p=some o):H' p=some o:=e p o h
def xf.of_eq(h:H p=none)(e:upd H p o=H'):xf H H':=by rw[<-e];exact xf.new h
def xn(e:upd H p o=H'):H' p=some o:=by rw[<-e];exact xl
def xf.back(e:xf H H')(h:H' p=none):H p=none:=xf.free e h
def xf.wr{H0:Hp}(s:xf H0 H)(f:H0 p=none)(e:upd H p o=H'):xf H0 H':=by rw[<-e];exact s.put f
abbrev HO.any:HO:=.ext fun _=>True
def xR.anyOf{h:Heap}{o:Obj}(e:h.get? a=some o):xR P w H h a (.frz o HO.any):=⟨e,trivial,⟨o,e⟩,fun _ _ _ _=>trivial⟩
def uA(H:Hp)(f:Addr)(nm qual:Str)(params:c4)(body:eZ)(scope:Scope)(fv:List (Str×V)):Prop:=
 ∃(clos:List (Str×Addr)) (c:Addr) (o:Obj) (u u':HO) (vs:Array Value) (t:Tok) (doc pm j8:Value),
  H f=some (.frz {cls:=.type "function",data:=.func {name:=nm,qualname:=qual,params,body,scope,globals:=aY,closure:=clos,defaults:=.none,kwdefaults:=.none,doc,pyModule:=pm,annotations:=none,code:=.ref c,closureTuple:=j8,builtins:=b7}} u)/\
  H c=some (.frz o u')/\o.data= .fields vs/\vs[1]? =some (.str qual t)/\
  (∀x y a,clos.lookup x=some a->clos.lookup y=some a->x=y)/\(∀x,(x,bE)∈scope.names->∃a,clos.lookup x=some a)/\
  (∀x v,(x,v)∈fv->∃a,clos.lookup x=some a/\H a=some (.cel (some v)))/\∀x a,clos.lookup x=some a->∃v,H a=some (.cel (some v))
theorem xnN{pos pos':Pos}{c:Value}(l:List Value)(h:gM l):
  d7 pos' (l++[bz pos.line,bz pos.col,c])=(match d7 pos' l with
   |some d=>some d
   |none=>if ((pos.line:Int)==pos'.line&&(pos.col:Int)==pos'.col)=true then some c else none):=by
 fun_induction gM l with
 |case1=>simp[d7,bz]
 |case2 a t b u x rest ih=>
  simp only[gy,d7]
  split
  ·rfl
  ·exact ih h
 |case3 l h1 h2=>exact h.elim
def vZ(K:ay)(c P:Addr):Prop:=∀h:Heap,K.In h->ik h c P
theorem xfZ{cells:List (Str×Addr)}:∀{l:List (Str×ck)} {cs:List (Str×Addr)} {x:Str} {c:Addr},(yu cells l cs).lookup x=some c->(x,bE)∈l\/∃a,cs.lookup x=some a
 |[],cs,x,c,h=>.inr ⟨c,h⟩
 |(n,k)::r,cs,x,c,h=>by
  unfold yu at h;rcases xfZ h with q|⟨a,q⟩
  ·exact .inl (aH _ q)
  ·split at q
   ·rename_i hk;rw[bF]at q
    split at q
    ·rename_i hx;have e:x=n:=by simpa using hx
     have e2:k= .free:=by simpa using hk
     subst e;subst e2;exact .inl ba
    ·exact .inr ⟨a,q⟩
   ·exact .inr ⟨a,q⟩
abbrev xbg(name qual:Str)(params:c4)(body:eZ)(scope:Scope)(clos:List (Str×Addr))(doc pm cdv ctv:Value):Obj:=
 {cls:=.type "function",data:=.func {name,qualname:=qual,params,body,scope,globals:=aY,closure:=clos,defaults:=.none,kwdefaults:=.none,doc,pyModule:=pm,annotations:=none,code:=cdv,closureTuple:=ctv,builtins:=b7}}
section
variable {M:Model} {E:Value->ai->Prop} {env:Env} {P:Addr} {ps:Array Value} {pos:Pos} {firstLine:Nat}
 {clos:List (Str×Addr)} {Q:Value->ai->Prop}
theorem xnO(kd:ig scope env=pure clos)(j9:env.globals=aY)(hg:s.heap.Ns aY mg)(j8:env.code= .ref c)(C:ik s.heap c P)(hP:s.heap.get? P=some (e6 ps))(ht:gM ps.toList)
  (kb:d7 pos ps.toList=none) (kc:aY≠P) (hb:s.heap.BuiltinsAt mg P)
  (h:∀c' ka doc h' tk,j3 P s.heap h'->s.heap.objs.size<=c'->c'<h'.objs.size->h'.CodeRec (.ref c') qual->h'.get? P=some (e6 (ps++#[bz pos.line,bz pos.col,.ref c']))->
   Q (.ref h'.objs.size) {s with heap:=h'.push (xbg name qual params body scope clos doc ((mg "__name__").getD .none) (.ref c') ka),toks:=tk}):
  wpAny M A (makeFunction name qual params body scope env [] [] [] pos firstLine) Q E s:=by
 cases body with
 |stmts b=>exact W.makeFunction_K kd j9 hg j8 C hP ht kb kc hb h
 |expr e=>exact W.kla_makeFunction kd j9 hg j8 C hP ht kb kc hb fun c' ka h' tk=>h c' ka .none h' tk
theorem xph{cv:Value}(kb:ig scope env=pure clos)(j9:env.globals=aY)(hg:s.heap.Ns aY mg)(j8:env.code= .ref c)(C:ik s.heap c P)(hP:s.heap.get? P=some (e6 ps))(ht:gM ps.toList)
  (hf:d7 pos ps.toList=some cv) (hb:s.heap.BuiltinsAt mg P)
  (h:∀(ka doc:Value) (h':Heap) (tk:Tok),(∀b o,s.heap.get? b=some o->h'.get? b=some o)->s.heap.objs.size<=h'.objs.size->
   Q (.ref h'.objs.size) {s with heap:=h'.push (xbg name qual params body scope clos doc ((mg "__name__").getD .none) cv ka),toks:=tk}):
  wpAny M A (makeFunction name qual params body scope env [] [] [] pos firstLine) Q E s:=by
 cases body with
 |stmts b=>exact W.makeFunction_hit kb j9 hg j8 C hP ht hf hb h
 |expr e=>exact W.kla_makeFunctionHit kb j9 hg j8 C hP ht hf hb fun ka h' tk=>h ka .none h' tk
end
section
variable {P:Addr} {qs:List (Pos×Str)} {pos:Pos}
def tFn(X:Cx)(P:Addr)(qs:List (Pos×Str))(fns:List Str)(name qual:Str)(params:c4)(body:eZ)(scope:Scope):TE:=fun σ H Q=>
 H P=some (.tbl qs)/\∃fv:List (Str×V),fv.map (·.1)=fns/\(∀x v,(x,v)∈fv->∃a,X.env.cells.lookup x=some a/\H a=some (.cel (some v)))/\
  ∀f H',H f=none->xf H H'->uA H' f name qual params body scope fv->Q (.ref f) H'
def xnP(I:Inv X pins σ H s)(j8:X.env.code= .ref c)(T:vZ X.K c P)(hq:(pos,qual)∈qs)(hu:(qs.all fun p=> !((pos.line==p.1.line)&&(pos.col==p.1.col))||(p.2==qual))=true)
  (kE:(scope.names.filter fun y=>y.2== .free).map (·.1)=fns) (h:tFn X P qs fns name qual params body scope σ H Q):
  wpAny (model X.prog X.w) X.A (makeFunction name qual params body scope X.env [] [] [] pos n) (EP X pins σ Q) X.xe s:=by
 refine L2.oG fun gq kq=>?_;obtain⟨hP,fv,hn,hf,h⟩:=h;refine kq ?_;have kb:∀x,(x,bE)∈scope.names↔x∈fns:=fun x=>by
  rw[<-kE,bA];constructor
  ·exact fun m=>⟨(x,.free),fj.mpr ⟨m,rfl⟩,rfl⟩
  ·rintro⟨⟨y,k⟩,m,rfl⟩;have m2:=fj.mp m;have e:k= .free:=by simpa using m2.2
   subst e;exact m2.1
 have names:∀x,(x,bE)∈scope.names->∃v a,(x,v)∈fv/\X.env.cells.lookup x=some a/\H a=some (.cel (some v)):=fun x hx=>by
  have m:=(kb x).mp hx;rw[<-hn]at m;refine L2.oG fun gq kq=>?_;obtain⟨⟨x',v⟩,hm,rfl⟩:=bA.mp m;obtain⟨a,h1,h2⟩:=hf _ _ hm;refine kq ?_;exact⟨v,a,hm,h1,h2⟩
 have ku:∀y∈scope.names,y.2= .free->∃c,X.env.cells.lookup y.1=some c:=fun y hy e=>by
  obtain⟨y1,y2⟩:=y;have e:y2= .free:=e;subst e;refine L2.oG fun gq kq=>?_;obtain⟨_,a,_,h1,_⟩:=names y1 hy;refine kq ?_;exact⟨a,h1⟩
 have ky:=xbC (scope:=scope) (env:=X.env) ku;have sub:∀{z:Str} {a:Addr},(yu X.env.cells scope.names []).lookup z=some a->X.env.cells.lookup z=some a:=fun{z a} e=>by
  rcases xdU ku e with q|q
  ·cases q
  ·exact q
 have kj:∀{z:Str} {a:Addr},(yu X.env.cells scope.names []).lookup z=some a->(z,bE)∈scope.names:=fun{z a} e=>by
  rcases xfZ e with q|⟨_,q⟩
  ·exact q
  ·cases q
 have kf:∀x y a,(yu X.env.cells scope.names []).lookup x=some a->(yu X.env.cells scope.names []).lookup y=some a->x=y:=fun x y a e1 e2=>I.ok.inj x y a (sub e1) (sub e2);have j9:∀x,(x,bE)∈scope.names->∃a,(yu X.env.cells scope.names []).lookup x=some a:=fun x m=>xbD (.inl m);have ke:∀x v,(x,v)∈fv->∃a,(yu X.env.cells scope.names []).lookup x=some a/\H a=some (.cel (some v)):=fun x v m=>by
  refine L2.oG fun gq kq=>?_;obtain⟨a,e1,e2⟩:=hf x v m;refine kq ?_;obtain⟨a',e3⟩:=j9 x ((kb x).mpr (by rw[<-hn];exact iG m));have e4:=sub e3;rw[e1]at e4;cases e4;exact⟨a,e3,e2⟩
 have kg:∀x a,(yu X.env.cells scope.names []).lookup x=some a->∃v,H a=some (.cel (some v)):=fun x a e=>by
  refine L2.oG fun gq kq=>?_;obtain⟨v,a',_,e1,e2⟩:=names x (kj e);refine kq ?_;rw[sub e]at e1;cases e1;exact⟨v,e2⟩
 have hg:s.heap.Ns aY X.mg:=I.mod.glob.keeps I.bk;refine L2.oG fun gq kq=>?_;obtain⟨ps,kh,ht,kd⟩:=I.hok P _ hP;refine kq ?_;have C:=T s.heap I.kIn;have kD:aY≠P:=fun q=>by
  refine L2.oG fun gq kq=>?_;obtain⟨o,es,ep,e,hd,_⟩:=hg;refine kq ?_;rw[q,kh]at e;cases e;cases hd
 have hB:s.heap.BuiltinsAt X.mg P:=by
  refine L2.oG fun gq kq=>?_;obtain⟨bm,ob,b1,b2,b3,b4,b5,b6⟩:=I.mod.bm;refine kq ?_;have ki:=I.bk _ _ b3;refine⟨bm,ob,b1,b2,fun q=>?_,fun q=>?_,ki,b4,b5,b6⟩
  ·refine L2.oG fun gq kq=>?_;obtain⟨o,es,ep,e,hd,_⟩:=hg;refine kq ?_;rw[<-q,ki]at e;cases e;rw[b6]at hd;cases hd
  ·rw[q,kh]at ki;cases ki;cases b4
 rcases kd pos qual hq with kC|⟨c',o,u,vs,t,hit,kJ,hd,hv⟩
 ·refine xnO ky I.ok.glob hg j8 C kh ht kC kD hB fun c' ka doc h' tk hx kn kr km ko=>?_;refine L2.oG fun gq kq=>?_;obtain⟨c2,oc,vs,t,e2,kB,hd,hv⟩:=km;refine kq ?_;cases e2;have kH:H c'=none:=I.hok.fresh kn;have hsz:s.heap.objs.size<=h'.objs.size:=d8 (eh kn kr);have kc:H h'.objs.size=none:=I.hok.fresh hsz;have kF:c'≠h'.objs.size:=aJ kr
  let fo:=xbg name qual params body scope (yu X.env.cells scope.names []) doc ((X.mg "__name__").getD .none) (.ref c') ka
  let H':=upd (upd H c' (.frz oc HO.any)) h'.objs.size (.frz fo HO.any)
  have sm:∀b u,H b=some u->H' b=some u:=fun b u e=>by
   show upd _ _ _ b=_;rw[xm (xD e kc),xm (xD e kH)];exact e
  have H'c:H' c'=some (.frz oc HO.any):=by
   show upd _ _ _ c'=_;rw[xm kF,xl]
  have H'f:H' h'.objs.size=some (.frz fo HO.any):=xl;have keep:∀b o,b≠P->s.heap.get? b=some o->(h'.push fo).get? b=some o:=fun b o hb e=>af _ (hx b o hb e);have nP:∀b,H b=none->b≠P:=fun b e q=>by rw[q,hP]at e;cases e
  refine⟨.ref h'.objs.size,H',I.un ⟨fun b o e n _ _=>keep b o (nP b n) e,fun b o e n _ _=>⟨o.slots,keep b o (nP b n) e⟩,fun b o e n _=>?_,fun b o e _=>?_,fun b u e _=>sm b u e⟩ fun b u e=>?_,rfl,?_⟩
  ·have lt:=au e;show upd _ _ _ b=_;rw[xm (aJ (aA lt hsz)),xm (aJ (aA lt kn))];exact n
  ·by_cases hb:b=P
   ·exact⟨_,af _ (by rw[hb];exact ko)⟩
   ·exact⟨o,keep b o hb e⟩
  ·by_cases h1:b=h'.objs.size
   ·subst h1;rw[H'f]at e;cases e;exact xR.anyOf (aI _ rfl)
   ·have e1:upd H c' (.frz oc HO.any) b=some u:=(xm h1).symm.trans e
    by_cases h2:b=c'
    ·subst h2;rw[xl]at e1;cases e1;exact xR.anyOf (af _ kB)
    ·rw[xm h2]at e1
     by_cases hb:b=P
     ·subst hb;rw[hP]at e1;cases e1;refine⟨_,af _ ko,?_,fun pos' q m=>?_⟩
      ·simpa using TriplesOk_snoc (pos.line:Int) (pos.col:Int) (.ref c') ps.toList ht
      ·have e3:(ps++#[bz pos.line,bz pos.col,aF c']).toList=ps.toList++[bz pos.line,bz pos.col,aF c']:=by simp
       rw[e3,xnN _ ht];rcases kd pos' q m with z|⟨d,o,u,kz,t',z1,z2,z3,z4⟩
       ·rw[z]
        by_cases hl:((pos.line:Int)==pos'.line&&(pos.col:Int)==pos'.col)=true
        ·right
         have kA:q=qual:=by
          have:=bh.mp hu (pos',q) m;simp only[bx,beq_iff_eq,Int.ofNat_inj,Int.natCast_inj]at hl;have a1:pos.line=pos'.line:=by have:=hl.1;omega
          have a2:pos.col=pos'.col:=by have:=hl.2;omega
          simpa [a1,a2]using this
         subst kA;exact⟨c',oc,HO.any,vs,t,if_pos hl,H'c,hd,hv⟩
        ·exact .inl (if_neg hl)
       ·right
        rw[z1];exact⟨d,o,u,kz,t',rfl,sm _ _ z2,z3,z4⟩
     ·refine(I.hok b u e1).stay (fun d v hc q=>keep d v ?_ q) (fun d q=>sm _ _ q) fun d u q _=>sm _ _ q;rcases hc with rfl|hc
      ·exact hb
      ·intro z;rw[z,hP]at hc;cases hc
  ·exact h h'.objs.size H' kc sm ⟨_,c',oc,HO.any,HO.any,vs,t,doc,_,ka,H'f,H'c,hd,hv,kf,j9,fun x v m=>let⟨a,q1,q2⟩:=ke x v m;⟨a,q1,sm _ _ q2⟩,fun x a q=>let⟨v,q2⟩:=kg x a q;⟨v,sm _ _ q2⟩⟩
 ·refine xph ky I.ok.glob hg j8 C kh ht hit hB fun ka doc h' tk hk hsz=>?_;have kc:H h'.objs.size=none:=I.hok.fresh hsz;have sm:xf H (upd H h'.objs.size (.frz (xbg name qual params body scope (yu X.env.cells scope.names []) doc ((X.mg "__name__").getD .none) (.ref c') ka) HO.any)):=fun b u e=>by
   rw[xm (xD e kc)];exact e
  refine⟨.ref h'.objs.size,_,I.laid (o:=.frz (xbg name qual params body scope (yu X.env.cells scope.names []) doc ((X.mg "__name__").getD .none) (.ref c') ka) HO.any) (fun b o e=>af _ (hk b o e)) hsz (xR.anyOf (aI _ rfl)),rfl,?_⟩;exact h _ _ kc sm ⟨_,c',o,HO.any,u,vs,t,doc,_,ka,xl,sm _ _ kJ,hd,hv,kf,j9,fun x v m=>let⟨a,q1,q2⟩:=ke x v m;⟨a,q1,sm _ _ q2⟩,fun x a q=>let⟨v,q2⟩:=kg x a q;⟨v,sm _ _ q2⟩⟩
def xk6(j8:X.env.code= .ref c)(T:vZ X.K c P)(hq:(pos,X.env.qual++"<lambda>")∈qs)(hu:(qs.all fun p=> !((pos.line==p.1.line)&&(pos.col==p.1.col))||(p.2==X.env.qual++"<lambda>"))=true)
  (ka:(scope.names.filter fun y=>y.2== .free).map (·.1)=fns) (j9:defaultsOf params X.env=([],[]):=by rfl):
  PE X (.Lambda params e scope pos) (tFn X P qs fns "<lambda>" (X.env.qual++"<lambda>") params (.expr e) scope):=fun _ _ _ _ _ I h=>
 W.kla_eval j9 (xnP I j8 T hq hu ka h)
theorem Inv.track(I:Inv X pins σ H s)(hN:X.N.Nodup)(hi:X.N[i]? =some x)(hk:X.env.kindOf x=some .cell)(kc:X.cp x=true)(kb:X.fn x=false)(ha:X.env.cells.lookup x=some a)(hH:H a=none):
  Inv X pins σ (upd H a (.cel (σ[i]?.join))) s:=by
 have kd:∀b o,X.s₀.heap.get? b=some o->b≠a:=fun b o e=>aJ (aA (au e) (I.ok.cab2 x a kc ha));obtain⟨v0,ka⟩:=I.cell x a ha;refine⟨I.ok,I.os,I.bare,⟨I.base.keep,I.base.slot,fun b o e n hx=>?_,I.base.there,fun b u e f=>?_⟩,I.loc,I.cell,?_,fun y c e=>?_,fun p hp=>?_,fun b u e=>?_,I.len⟩
 ·rw[xm (kd b o e)];exact I.base.free b o e n hx
 ·have:=I.base.fix b u e f;rw[xm (xD this hH)];exact this
 ·rw[xm (aL (I.cne x a ha))];exact I.free
 ·by_cases hc:c=a
  ·subst hc;obtain rfl:=I.ok.inj _ _ _ e ha;refine .inr ⟨kb,_,xl,fun z j v e1 k e2=>?_⟩;have:=jL hN e1 hi;subst this;rw[e2]at z;cases z
  ·rw[xm hc];exact I.freeC y c e
 ·obtain⟨e,n,ne,nf,d⟩:=I.pin p hp;refine⟨e,?_,ne,nf,d⟩;rw[xm fun z=>?_]
  ·exact n
  ·obtain⟨o,q1,q2⟩:=ka;rw[<-z,e]at q1;cases q1;exact d _ q2
 ·by_cases hb:b=a
  ·subst hb;rw[xl]at e;cases e;cases hσ:σ[i]?.join with
   |none=>exact⟨v0,ka,fun x z=>by cases z⟩
   |some v=>
    have j9:σ[i]? =some (some v):=by
     cases q:σ[i]? with
     |none=>rw[q]at hσ;cases hσ
     |some w=>rw[q]at hσ;cases w with
      |none=>cases hσ
      |some w=>cases hσ;rfl
    obtain⟨m,hn,hl⟩:=I.loc;obtain⟨u,r,l⟩:=hl i x v hi j9 (.inr (.inl hk));rcases l with⟨k,_⟩|⟨_,c,hc,j8⟩
    ·rw[hk]at k;cases k
    ·rw[ha]at hc;cases hc;exact⟨_,j8,fun y z=>by cases z;exact⟨u,rfl,r⟩⟩
  ·rw[xm hb]at e;exact(I.hok b u e).stay (fun _ _ _ q=>q) (fun d q=>by rw[xm (xD q hH)];exact q) fun d u q _=>by rw[xm (xD q hH)];exact q
def xpi(X:Cx)(x:Str)(i:Nat)(t:TS):TS:=fun D σ H=>∀a,X.env.cells.lookup x=some a->X.H₀ a=none->(∀y b,X.env.cells.lookup y=some b->y≠x->b≠a)->H a=none/\t D σ (upd H a (.cel (σ[i]?.join)))
def xcx{b:List Stmt}{t:TS}(hN:X.N.Nodup)(hi:X.N[i]? =some x)(hk:X.env.kindOf x=some .cell)(j8:X.cp x=true)(j9:X.fn x=false)
  (h:PSs X b t):PSs X b (xpi X x i t):=fun pins s σ H D I q=>by
 obtain⟨a,ha⟩:=I.ok.has x (.inl hk);obtain⟨z,q⟩:=q a ha (I.ok.hz a (I.ok.cab2 x a j8 ha)) fun y b e ne z=>ne (I.ok.inj y x b e (z▸ha));exact h pins s σ _ D (I.track hN hi hk j8 j9 ha z) q
def xqk(X:Cx)(x:Str)(i:Nat)(te:TE):TS:=fun D σ H=>te σ H fun v H1=>∃a,X.env.cells.lookup x=some a/\H1 a=some (.cel none)/\D.nx (σ.set i (some v)) (upd H1 a (.cel (some v)))
def xi8{pos':Pos}(hN:X.N.Nodup)(hi:X.N[i]? =some x)(hk:X.env.kindOf x=some .cell)(kf:X.cp x=true)(kj:X.fn x=false)(he:PE X e te)(hs:e9 e (some (.Name x pos')) pos.line X.env=pure false:=by rfl):
  PS X (.Assign [.Name x pos'] e pos) (xqk X x i te):=by
 intro pins s σ H D I h;refine wpAny_Assign_Name (thn (he pins s σ H _ I h) fun u s1 ⟨v,H1,I,r,q⟩=>?_) hs;obtain⟨a,ha,hH,q⟩:=q;obtain⟨w0,z⟩:=I.cell x a ha;obtain⟨m,hn,hl⟩:=id I.loc;have kc:i<σ.length:=by rw[I.len];exact(aR.mp hi).1
 have ka:∀b o,X.s₀.heap.get? b=some o->b≠a:=fun b o e=>aJ (aA (au e) (I.ok.cab2 x a kf ha));refine wpAny_storeName_cell I.ok.kind hk ha z fun h' kd hs=>?_;refine⟨_,_,⟨I.ok,I.os,I.bare,⟨fun b o e n hb hx=>?_,fun b o e n hb hx=>?_,fun b o e n hx=>?_,fun b o e hx=>?_,fun b u e f=>?_⟩,⟨m,hn.sameBut hs (aL (I.cne x a ha)),fun j y v' e1 e2 e3=>?_⟩,fun y c' e=>?_,?_,fun y c' e=>?_,fun p hp=>?_,fun b u e=>?_,by simpa using I.len⟩,q⟩
 ·exact(hs.2 b (ka b o e)).trans (I.base.keep b o e n hb hx)
 ·obtain⟨sl,e1⟩:=I.base.slot b o e n hb hx;exact⟨sl,(hs.2 b (ka b o e)).trans e1⟩
 ·rw[xm (ka b o e)];exact I.base.free b o e n hx
 ·obtain⟨o',e1⟩:=I.base.there b o e hx;exact⟨o',(hs.2 b (ka b o e)).trans e1⟩
 ·have h0:=I.ok.hz a (I.ok.cab2 x a kf ha);rw[xm (xD e h0)];exact I.base.fix b u e f
 ·by_cases hj:j=i
  ·subst hj;rw[hi]at e1;cases e1;rw[cn kc]at e2;cases e2;exact⟨u,r,.inr ⟨.inl hk,a,ha,kd⟩⟩
  ·rw[bN (aL hj)]at e2;obtain⟨u',r',q⟩:=hl j y v' e1 e2 e3;refine⟨u',r',?_⟩;rcases q with q|⟨k,c',e,z'⟩
   ·exact .inl q
   ·refine .inr ⟨k,c',e,z'.sameBut hs ?_⟩;rintro rfl;exact hj (jL hN e1 (I.ok.inj _ _ _ e ha▸hi))
 ·by_cases j8:c'=a
  ·subst j8;exact⟨_,kd⟩
  ·obtain⟨w2,z2⟩:=I.cell y c' e;exact⟨w2,z2.sameBut hs j8⟩
 ·rw[xm (aL (I.cne x a ha))];exact I.free
 ·by_cases j8:c'=a
  ·subst j8;obtain rfl:=I.ok.inj _ _ _ e ha;exact .inr ⟨kj,some v,xl,fun z=>by cases z⟩
  ·rw[xm j8];refine(I.freeC y c' e).imp id fun⟨km,o',kh,ki⟩=>⟨km,o',kh,fun z j v' e1 k e2=>?_⟩
   by_cases hj:j=i
   ·subst hj;rw[hi]at e1;cases e1;rw[ha]at e;cases e;exact j8 rfl
   ·rw[bN (aL hj)]at e2;exact ki z j v' e1 k e2
 ·obtain⟨e,n,ne,nf,d⟩:=I.pin p hp;have ke:p.1≠a:=fun q=>by
   obtain⟨oc,kg,kb⟩:=z;rw[q,kg]at e;have q':oc=p.2:=aQ e;exact d w0 (by rw[<-q'];exact kb)
  exact⟨(hs.2 p.1 ke).trans e,by rw[xm ke];exact n,ne,nf,d⟩
 ·by_cases hb:b=a
  ·subst hb;rw[xl]at e;cases e;exact⟨_,kd,fun y z=>by cases z;exact⟨u,rfl,r⟩⟩
  ·rw[xm hb]at e;have j9:∀d u',H1 d=some u'->u'≠.cel none->upd H1 a (.cel (some v)) d=some u':=fun d u' e' hu=>by
    rw[xm fun z=>?_]
    ·exact e'
    ·rw[z,hH]at e';cases e';exact hu rfl
   refine(I.hok b u e).stay (fun d w' hc q=>(hs.2 d ?_).trans q) (fun d q=>j9 _ _ q (by simp)) fun d u' q hf=>j9 _ _ q (by rintro rfl;exact hf);rcases hc with rfl|hc
   ·exact hb
   ·intro z;rw[z,hH]at hc;cases hc
end
theorem xk7{mb:Str->Option Value}{k:Nat}{fa:Addr}{s₁:ai}{vs:List Value}{ns:List Int}{tabs:List (Addr×Addr×List (Pos×Str))}
  (KX:K.In s₁.heap) (kg:s₁.heap.Ns aY mg) (hb:s₁.heap.Ns b7 mb) (ko:∀x:Str,x≠"__name__"->mb x=bp x) (ke:s₁.heap.NoLimit) (kn:∃b o,mg "__builtins__"=some (.ref b)/\b≠b7/\s₁.heap.get? b=some o/\o.cls= .type "module"/\o.dict=some b7/\o.data= .plain) (hg:s₁.gens=#[])
  (ha:s₁.heap.get? a=some {cls:=.type "list",data:=.seq vs.toArray}) (hi:gZ vs ns) (hl:ns.length<=ax) (hr:xI k gr)
  (hT:∀q∈tabs,ik s₁.heap q.1 q.2.1/\s₁.heap.get? q.2.1=some (e6 #[])) (km:W.noTabs K=true) (nd:(tabs.map fun q=>q.2.1).Nodup)
  (F:∀base:Heap,K.In base->base.Ns aY mg->xt P w K mg base CX k fa fd [x] sp) (ka:∀(s:ai) (u:Value),gX s fd ⟨[u],[]⟩ [(x,u)])
  (kj:∀H:Hp,SqL K H a (ns.map V.int)->(∀q∈tabs,H q.2.1=some (.tbl q.2.2))->sp [.ref a] H (fun v _=>v= .bl true) fun _ _ _=>False)
  (kr:∀H e s',CX [] H s₁ (fun _ _ _=>False) e s'->False):
  bX (model P w) gr (.call (.ref fa) ⟨[.ref a],[]⟩) (fun r s'=>r= .ok (.ret (.bool true))/\OldK s₁.heap s'.heap/\s'.os=s₁.os/\eE s'.gens) s₁:=by
 have rv:=xfV hi;have kd:=hi.length;have aP:∀q∈tabs,q.2.1≠a:=fun q hq z=>by
  have e:=(hT q hq).2;rw[z,ha]at e;cases e
 have core:∀H:Hp,SqL K H a (ns.map V.int)->(∀q∈tabs,H q.2.1=some (.tbl q.2.2))->
   (∀b u,H b=some u->(b=a/\K.lookup a=none/\∃xs,u= .frz {cls:=.type "list",data:=.seq vs.toArray} (.lst xs))\/∃q∈tabs,b=q.2.1/\u= .tbl q.2.2)->HOk P w H s₁.heap->
   bX (model P w) gr (.call (.ref fa) ⟨[.ref a],[]⟩) (fun r s'=>r= .ok (.ret (.bool true))/\OldK s₁.heap s'.heap/\s'.os=s₁.os/\eE s'.gens) s₁:=by
  intro H hS hP hA hok;have j8:∀{b:Addr} {o:Obj},s₁.heap.get? b=some o->H b=none->(xby s₁.heap H).get? b=some o:=fun e n=>xl3 e n;have kf:∀{b:Addr} {o:Obj},s₁.heap.get? b=some o->o.cls≠.type "list"\/(∀n,o.data≠.seq vs.toArray n)->o≠e6 #[]->H b=none:=fun{b o} e d1 d2=>by
   cases q:H b with
   |none=>rfl
   |some u=>
    rcases hA b u q with⟨rfl,_,_⟩|⟨t,ht,rfl,_⟩
    ·rw[ha]at e;cases e;rcases d1 with d1|d1
     ·exact absurd rfl d1
     ·exact absurd rfl (d1 _)
    ·have e2:=(hT t ht).2;rw[e]at e2;cases e2;exact absurd rfl d2
  have kb:∀{b:Addr} {m:Str->Option Value},s₁.heap.Ns b m->(xby s₁.heap H).Ns b m:=fun{b m} ⟨o,es,ep,e,d,r⟩=>
   ⟨o,es,ep,j8 e (kf e (.inr fun n z=>by rw[d]at z;cases z) fun z=>by rw[z]at d;cases d),d,r⟩
  have kh:K.In (xby s₁.heap H):=fun b o e=>j8 (KX b o e) (by
   cases q:H b with
   |none=>rfl
   |some u=>
    rcases hA b u q with⟨rfl,z,_⟩|⟨t,ht,rfl,_⟩
    ·rw[z]at e;cases e
    ·have e2:=KX _ _ e;rw[(hT t ht).2]at e2;cases e2;have h2:=bh.mp km _ (W.mem_of_lookupK e);exact absurd (show false=true from h2) aB)
  have hM:Mod K mg (xby s₁.heap H):=⟨kh,kb kg,⟨mb,kb hb,ko⟩,let⟨mc,h1,h2⟩:=ke;⟨mc,kb h1,h2⟩,let⟨b,o,a1,a2,a3,a4⟩:=kn;⟨b,o,a1,a2,j8 a3 (kf a3 (.inl fun z=>by rw[a4.1]at z;simp at z) fun z=>by rw[z]at a4;cases a4.1),a4⟩⟩;have e0:vF P w K mg (xby s₁.heap H) gr [] s₁ H:=⟨rfl,hM,fun b o e=>xns e,Nat.le_of_eq (xkG _ _),trivial,fun b hb=>absurd (show b∈([]:List Addr)from hb) (by simp),hok,.of_eq hg⟩;refine b9 ((F _ kh (kb kg)).run gr [] s₁ H ⟨[.ref a],[]⟩ [.ref a] [.ref a] _ _ hr e0 (ka s₁ (.ref a)) (.cons rfl .nil) (kj H hS hP)) fun r s' h=>?_;cases r with
  |error e=>exact(kr H e s' h).elim
  |ok fl=>
   cases fl with
   |next=>exact aS h
   |brk=>exact aS h
   |cont=>exact aS h
   |ret u=>
    refine L2.oG fun gq kq=>?_;obtain⟨v,H',os,bare,un,j9,r',q⟩:=h;refine kq ?_;have q':v= .bl true:=q;subst q';obtain rfl:u=cS true:=r';have old:∀b o,s₁.heap.get? b=some o->s'.heap.get? b=some o\/∃t∈tabs,b=t.2.1/\o=e6 #[]/\∃ps,s'.heap.get? b=some (e6 ps):=fun b o e=>by
     cases q:H b with
     |none=>exact .inl (un.keep b o e q (by intro z;exact absurd (show b∈([]:List Addr)from z) (by simp)) (by simp))
     |some u=>
      rcases hA b u q with⟨rfl,_,xs,rfl⟩|⟨t,ht,rfl,rfl⟩
      ·obtain⟨e1,_⟩:=hok _ _ q;obtain⟨e2,_⟩:=j9 _ _ (un.fix _ _ q trivial);rw[e]at e1;cases e1;exact .inl e2
      ·refine L2.oG fun gq kq=>?_;obtain⟨ps,e2,_⟩:=j9 _ _ (un.fix _ _ q trivial);refine kq ?_;have e3:=(hT t ht).2;rw[e]at e3;cases e3;exact .inr ⟨t,ht,rfl,rfl,ps,e2⟩
    refine⟨rfl,⟨fun b o e=>?_,fun b o e=>?_⟩,os,bare⟩
    ·rcases old b o e with z|⟨t,ht,rfl,rfl,ps,z⟩
     ·exact .inl z
     ·exact .inr (.inl ⟨((hT t ht).1.tab (hT t ht).2).isCodeTable,rfl,#[],ps,rfl,by rw[Array.empty_append];exact z⟩)
    ·rcases old b o e with z|⟨t,ht,rfl,rfl,ps,z⟩
     ·exact⟨o,z⟩
     ·exact⟨_,z⟩
 let Ht:Hp:=fun b=>(tabs.find? fun q=>q.2.1==b).map fun q=>HO.tbl q.2.2
 have ki:∀q∈tabs,Ht q.2.1=some (.tbl q.2.2):=fun q hq=>by
  show j6 _ (tabs.find? _)=_;cases e:tabs.find? fun r=>r.2.1==q.2.1 with
  |none=>
   have:=List.find?_eq_none.mp e q hq;simp at this
  |some r=>
   have h1:=List.find?_some e;have h2:=gi e;have h3:r.2.1=q.2.1:=by simpa using h1
   have:r=q:=by
    obtain⟨i,hi⟩:=ff.mp h2;obtain⟨j,hj⟩:=ff.mp hq;have ei:(tabs.map fun q=>q.2.1)[i]? =some r.2.1:=by rw[az,hi];rfl
    have ej:(tabs.map fun q=>q.2.1)[j]? =some r.2.1:=by rw[az,hj,h3];rfl
    obtain⟨i1,i2⟩:=aR.mp ei;obtain⟨j1,j2⟩:=aR.mp ej;have:=(List.getElem_inj nd).mp (i2.trans j2.symm);subst this;rw[hi]at hj;exact aQ hj
   subst this;rfl
 have kc:∀b u,Ht b=some u->∃q∈tabs,b=q.2.1/\u= .tbl q.2.2:=fun b u e=>by
  have e:j6 (fun q=>HO.tbl q.2.2) (tabs.find? fun q=>q.2.1==b)=some u:=e;refine L2.oG fun gq kq=>?_;obtain⟨q,hq,rfl⟩:=aE.mp e;refine kq ?_;have h1:=List.find?_some hq;exact⟨q,gi hq,(show q.2.1=b by simpa using h1).symm,rfl⟩
 have tok:∀{H:Hp} {q},q∈tabs->xR P w H s₁.heap q.2.1 (.tbl q.2.2):=fun{H q} hq=>⟨#[],(hT q hq).2,trivial,fun _ _ _=>.inl rfl⟩;cases hk:K.lookup a with
 |some o=>
  have e:=KX a o hk;rw[ha]at e;cases e;refine core Ht (.inr ⟨_,vs.toArray,_,hk,rfl,rfl,rfl,by rw[aC,kd];exact hl,by simpa using rv⟩) ki (fun b u z=>.inr (kc b u z)) fun b u z=>?_;refine L2.oG fun gq kq=>?_;obtain⟨q,hq,rfl,rfl⟩:=kc b u z;refine kq ?_;exact tok hq
 |none=>
  refine core (fun b=>if b=a then some (.frz {cls:=.type "list",data:=.seq vs.toArray} (.lst (ns.map V.int)))else Ht b) (.inl (.inr ⟨{cls:=.type "list",data:=.seq vs.toArray},if_pos rfl⟩)) (fun q hq=>(if_neg (aP q hq)).trans (ki q hq)) (fun b u z=>?_) fun b u z=>?_
  ·by_cases hb:b=a
   ·have z':=(if_pos hb).symm.trans z;cases z';exact .inl ⟨hb,hk,_,rfl⟩
   ·exact .inr (kc b u ((if_neg hb).symm.trans z))
  ·by_cases hb:b=a
   ·have z':=(if_pos hb).symm.trans z;cases z';subst hb;exact⟨ha,by rw[ag];exact hl,vs,_,rv,ha⟩
   ·refine L2.oG fun gq kq=>?_;obtain⟨q,hq,rfl,rfl⟩:=kc b u ((if_neg hb).symm.trans z);refine kq ?_;exact tok hq
def xmr{l:W.OpenLaw}{k:Nat}{q:aX}{loose:List Str}{XP:(Str->Option Value)->Heap->Prop}{YP:World->Heap->Prop}{d:DefRec}{K:Params->ay}{sp:ay->Sp}{tabs:List (Addr×Addr×List (Pos×Str))}
  (hn:l.most=some n) (kb:n<=ax) (kd:d.params.defaults=[]) (hr:xI k gr)
  (hY:∀(w:World) (h:Heap),YP w h->(K w.params).In h)
  (hT:∀(w:World) (h:Heap),YP w h->(K w.params).In h->∀t∈tabs,ik h t.1 t.2.1/\h.get? t.2.1=some (e6 #[])) (ka:∀w:World,W.noTabs (K w.params)=true) (nd:(tabs.map fun q=>q.2.1).Nodup)
  (F:∀(w:World) (mg:Str->Option Value) (fa:Addr) (h:Heap),(K w.params).In h->h.Ns aY mg->mg d.name=some (.ref fa)->
   ∃fd:av,(∀(s:ai) (u:Value),gX s fd ⟨[u],[]⟩ [(x,u)])/\
    ∀base:Heap,(K w.params).In base->base.Ns aY mg->xt l.prog w (K w.params) mg base CX k fa fd [x] (sp (K w.params)))
  (j9:∀(K:ay) (H:Hp) (a:Addr) (ns:List Int),ns.length<=n->SqL K H a (ns.map V.int)->(∀q∈tabs,H q.2.1=some (.tbl q.2.2))->sp K [.ref a] H (fun v _=>v= .bl true) fun _ _ _=>False)
  (ke:∀(H:Hp) (s:ai) (e:Value) (s':ai),CX [] H s (fun _ _ _=>False) e s'->False):
  W.WalkO q loose XP YP l.row.toRowW d [] (fun f vs=>PySem.call f vs):=by
 refine Att.xil hn kd fun w s₀ s₁ mg mb fa o pm cd doc a vs ns G Y ho hd kf kc j8 hints hlen hg=>?_;have KX:=hY w _ Y;obtain⟨fd,hb,hF⟩:=F w mg fa _ KX G.T.g kc;exact xk7 KX G.T.g G.T.b G.T.builtins G.T.nolimit G.T.bmain hg j8 hints (aO hlen kb) hr (hT w _ Y KX) (ka w) nd hF hb (fun H hS hP=>j9 (K w.params) H a ns hlen hS hP) fun H e s'=>ke H s₁ e s'
structure xbF(N ps fns:List Str)(sc:Scope):Prop where
 kind:sc.kind= .function
 co:sc.isCoroutine=false
 gen:sc.isGenerator=false
 nd:N.Nodup
 pre:N.take (ps.length+fns.length)=ps++fns
 par:∀x∈ps,sc.names.lookup x=some .local
 fre:∀x∈fns,sc.names.lookup x=some .free
 nocell:∀y∈sc.names,y.2≠.cell
def xcy(N:List Str)(vs:List V)(fv:List (Str×V)):St:=vs.map some++fv.map (fun p=>some p.2)++aK (N.length - vs.length - fv.length) none
def xgU(CX:CXT)(P:aX)(w:World)(K:ay)(mg:Str->Option Value)(base:Heap)(N:List Str)(qual:Str)(scope:Scope)(f:Addr)(cd:Value)(clos:List (Str×Addr))(A:bc)(outer:List Env)(s:ai)(H:Hp)(E:XK):Cx where
 prog:=P
 w:=w
 K:=K
 mg:=mg
 base:=base
 A:=A.deeper (gB qual scope s.heap.objs.size f cd clos)
 N:=N
 s₀:=s
 H₀:=H
 env:=gB qual scope s.heap.objs.size f cd clos
 outer:=outer
 stack:=gB qual scope s.heap.objs.size f cd clos::outer
 ex:=[]
 calm:=true
 cp:=fun _=>false
 fn:=fun _=>false
 pn:=[]
 xe:=fun e s'=>wpAny (model P w) (A.deeper (gB qual scope s.heap.objs.size f cd clos)) (leaving (gB qual scope s.heap.objs.size f cd clos) e) (fun _ j8=>CX outer H s E e j8) (fun e' j8=>CX outer H s E e' j8) s'
theorem xf0{α:Type}:∀{l:List (Str×α)} {x:Str} {v:α},(l.map (·.1)).Nodup->(x,v)∈l->l.lookup x=some v
 |[],_,_,_,m=>by simp at m
 |(y,u)::r,x,v,nd,m=>by
  obtain⟨n1,n2⟩:=dU.mp nd;rw[bF];rcases ah.mp m with e|m
  ·cases e;simp
  ·have:x≠y:=fun e=>n1 (by rw[<-e];exact iG (f:=(·.1)) m);rw[beq_false_of_ne this];exact xf0 n2 m
theorem xhc:∀{ps:List Str} {us:List Value},us.length=ps.length->(ps.zip us).map (·.1)=ps
 |[],[],_=>rfl
 |p::ps,u::us,h=>by simp[xhc (ps:=ps) (us:=us) (by simpa using h)]
 |[],_::_,h=>by simp at h
 |_::_,[],h=>by simp at h
def xe5{u:Value}(hl:us.length=ps.length)(nd:ps.Nodup)(h1:ps[i]? =some x)(h2:us[i]? =some u):(ps.zip us).reverse.lookup x=some u:=by
 refine xf0 ?_ (List.mem_reverse.mpr ?_)
 ·rw[List.map_reverse,xhc hl];exact List.pairwise_reverse.mpr (nd.imp fun h=>aL h)
 ·refine ff.mpr ⟨i,?_⟩;rw[List.getElem?_zip_eq_some];exact⟨h1,h2⟩
def codeOf(body:eZ)(env:Env):Code:=match body with
 | .stmts b=>.func b env
 | .expr e=>.expr e env
section
variable {base:Heap} {N:List Str} {nm:Str} {cd:Value} {clos:List (Str×Addr)} {outer:List Env} {vs:List V} {k:Nat}
theorem xjT{h':Heap}{tk:Tok}(S:xbF N ps fns scope)(hd:A.handled=none)(e0:vF P w K mg base A outer s H)(hl:vs.length=ps.length)(r:Vals vs us)(kc:fv.map (·.1)=fns)
  (kg:∀x y a,clos.lookup x=some a->clos.lookup y=some a->x=y) (kb:∀x,(x,bE)∈scope.names->∃a,clos.lookup x=some a)
  (ka:∀x v,(x,v)∈fv->∃a,clos.lookup x=some a/\H a=some (.cel (some v))) (j8:∀x a,clos.lookup x=some a->∃v,H a=some (.cel (some v)))
  (kf:h'.Ns s.heap.objs.size fun x=>(ps.zip us).reverse.lookup x) (hk:∀b o,s.heap.get? b=some o->h'.get? b=some o):
  Inv (xgU CX P w K mg base N qual scope f cd clos A outer s H E) [] (xcy N vs fv) H {s with heap:=h',toks:=tk}:=by
 have ke:fv.length=fns.length:=by rw[<-kc,ag]
 have kh:ps.length+fns.length<=N.length:=by have:=congrArg fG S.pre;rw[bw,aZ]at this;lia
 have j9:∀b:Addr,b∉(xgU CX P w K mg base N qual scope f cd clos A outer s H E).ex:=fun b z=>absurd (show b∈([]:List Addr)from z) (by simp);have lu:us.length=ps.length:=by rw[<-r.length];exact hl
 have kd:(ps++fns).Nodup:=by rw[<-S.pre];exact S.nd.sublist (List.take_sublist _ _)
 refine⟨⟨e0.mod,S.kind,rfl,rfl,aq _,fun y z c h1 h2=>kg y z c h1 h2,fun y hy=>?_,fun y c h _=>(aB h).elim,fun _=>hd,ib e0.frames,.inr ⟨rfl,rfl⟩,fun b z=>absurd z (j9 b),e0.bs,e0.bsz,fun b _ _=>j9 b,fun b z=>absurd z (j9 b),e0.funs,e0.frf,fun y c h _=>(aB h).elim,fun b hb=>e0.hok.fresh hb⟩,
  rfl,e0.bare,Un.kept hk,⟨_,kf,fun i y v h1 h2 h3=>?_⟩,fun y c h=>?_,e0.hok.fresh (aq _),fun y c h=>?_,fun p hp=>absurd (show p∈([]:List (Addr×Obj))from hp) (by simp),e0.hok.kept hk,?_⟩
 ·have hy:scope.names.lookup y=some .cell\/scope.names.lookup y=some .free:=hy;rcases hy with hy|hy
  ·exact absurd rfl (S.nocell _ (PySem.mem_of_lookup hy))
  ·exact kb y (PySem.mem_of_lookup hy)
 ·have h1:N[i]? =some y:=h1;unfold xcy at h2
  by_cases hi:i<vs.length
  ·rw[b0 (by simp;lia),b0 (by simpa using hi),az]at h2;cases e:vs[i]? with
   |none=>rw[e]at h2;cases h2
   |some a=>
    rw[e]at h2;cases h2;obtain⟨u,hu,rv⟩:=r.get e;have hp:ps[i]? =some y:=by
     have:(N.take (ps.length+fns.length))[i]? =some y:=by rw[eg (by lia)];exact h1
     rw[S.pre,b0 (by lia)]at this;exact this
    exact⟨u,rv,.inl ⟨S.par y (aw hp),xe5 lu (kd.sublist (List.sublist_append_left _ _)) hp hu⟩⟩
  ·by_cases hj:i<vs.length+fv.length
   ·rw[b0 (by simp;lia),cz (by simpa using hi),ag,az]at h2;cases e:fv[i - vs.length]? with
    |none=>rw[e]at h2;cases h2
    |some p=>
     obtain⟨z,v'⟩:=p;rw[e]at h2;cases h2;have hp:fns[i - vs.length]? =some y:=by
      have:(N.take (ps.length+fns.length))[i]? =some y:=by rw[eg (by lia)];exact h1
      rw[S.pre,cz (by lia),<-hl]at this;exact this
     have hz:z=y:=by
      rw[<-kc,az,e]at hp;exact aQ hp
     subst hz;obtain⟨a,q1,q2⟩:=ka _ _ (aw e);obtain⟨u,q3,q4⟩:=e0.hok a _ q2;obtain⟨y',rfl,r'⟩:=q4 v' rfl;exact⟨y',r',.inr ⟨.inr (S.fre z (aw hp)),a,q1,q3.keeps hk⟩⟩
   ·rw[cz (by simp;lia),gH]at h2
    split at h2<;> cases h2
 ·obtain⟨v,q2⟩:=j8 y c h;obtain⟨u,q3,_⟩:=e0.hok c _ q2;exact⟨u,q3.keeps hk⟩
 ·obtain⟨v,q2⟩:=j8 y c h;exact .inr ⟨rfl,some v,q2,fun z=>by cases z⟩
 ·unfold xcy;show _=N.length;simp only[aZ,ag,gY];lia
structure xew(P:aX)(w:World)(K:ay)(mg:Str->Option Value)(base:Heap)(CX:CXT)(k:Nat)(nm qual:Str)(params:c4)(body:eZ)(scope:Scope)(ps:List Str)(sp:List (Str×V)->Sp):Prop where
 len:∀fv vs H Q E,sp fv vs H Q E->vs.length=ps.length
 run:∀(A:bc) (outer:List Env) (s:ai) (H:Hp) (f:Addr) (fv:List (Str×V)) (us:List Value) (vs:List V) (Q:VK) (E:XK),xI k A->vF P w K mg base A outer s H->uA H f nm qual params body scope fv->Vals vs us->sp fv vs H Q E->
  bX (model P w) A (.call (.ref f) ⟨us,[]⟩) (CR CX outer P w H s Q E) s
theorem xk8{sp:List (Str×V)->Sp}(S:xbF N ps fns scope)(len:∀fv vs H Q E,sp fv vs H Q E->vs.length=ps.length/\fv.map (·.1)=fns)
  (hb:∀(clos:List (Str×Addr)) (doc pm j8 j9:Value) (us:List Value),us.length=ps.length->
   dD {name:=nm,qualname:=qual,params,body,scope,globals:=aY,closure:=clos,defaults:=.none,kwdefaults:=.none,doc,pyModule:=pm,annotations:=none,code:=j8,closureTuple:=j9,builtins:=b7} ⟨us,[]⟩=pure (ps.zip us))
  (ke:∀(A:bc) (outer:List Env) (s:ai) (H:Hp) (f:Addr) (clos:List (Str×Addr)) (j8:Value) (fv:List (Str×V)) (vs:List V) (Q:VK) (E:XK) (s1:ai),xI k (A.deeper (gB qual scope s.heap.objs.size f j8 clos))->sp fv vs H Q E->
   Inv (xgU CX P w K mg base N qual scope f j8 clos A outer s H E) [] (xcy N vs fv) H s1->
   bX (model P w) A (codeOf body (gB qual scope s.heap.objs.size f j8 clos)) (CR CX outer P w H s Q E) s1):
  xew P w K mg base CX (k+1) nm qual params body scope ps sp:=by
 refine⟨fun fv vs H Q E h=>(len fv vs H Q E h).1,fun A outer s H f fv us vs Q E hr e0 hc r kb=>?_⟩;obtain⟨clos,c,o,u,u',xs,t,doc,pm,j9,h1,h2,h3,h4,h5,h6,h7,h8⟩:=hc;obtain⟨hl,kf⟩:=len fv vs H Q E kb;have lu:us.length=ps.length:=by rw[<-r.length];exact hl
 obtain⟨hf,_⟩:=e0.hok f _ h1;obtain⟨kg,_⟩:=e0.hok c _ h2;have lim:s.heap.NoLimit:=e0.mod.nolimit.keeps fun b o e=>(e0.bs b o e).1;have ka:∀y∈ps.zip us,scope.names.lookup y.1=some .local:=fun⟨n,v⟩ hy=>S.par n (cw hy).1;have cr:s.heap.CodeRec (.ref c) qual:=⟨c,o,xs,t,rfl,kg,h3,h4⟩;have fin:wpAny (model P w) A.in1 (newFunctionEnv scope aY clos (ps.zip us) (qual++".<locals>.") (some f) (.ref c) none b7)
   (fun env s₂=>s₂.heap.NoLimit/\bX (model P w) A (codeOf body env) (CR CX outer P w H s Q E) s₂) (fun e s'=>CR CX outer P w H s Q E (.error e) s') s:=by
  refine wpAny_newFunctionEnv S.nocell ka (fun h' kd kc=>?_) S.kind;have hk:∀b o,s.heap.get? b=some o->h'.get? b=some o:=fun b o e=>kc.extBut b o (aJ (au e)) (af _ e);exact⟨lim.keeps hk,ke A outer s H f clos (.ref c) fv vs Q E _ (hr.deeper _) kb (xjT S hr.hd e0 hl r kf h5 h6 h7 h8 kd hk)⟩
 cases body with
 |stmts b=>
  refine cx hr.depth hf rfl S.co S.gen rfl cr ?_;rw[hb clos doc pm (.ref c) j9 us lu];exact ak fin
 |expr e=>
  refine W.kla_callFunE hr.depth hf rfl S.co S.gen rfl cr ?_;rw[hb clos doc pm (.ref c) j9 us lu];exact ak fin
def xms{sp:List (Str×V)->Sp}(S:xbF N ps fns scope)(len:∀fv vs H Q E,sp fv vs H Q E->vs.length=ps.length/\fv.map (·.1)=fns)
  (hb:∀(clos:List (Str×Addr)) (doc pm j8 kb:Value) (us:List Value),us.length=ps.length->
   dD {name:=nm,qualname:=qual,params,body:=.expr e,scope,globals:=aY,closure:=clos,defaults:=.none,kwdefaults:=.none,doc,pyModule:=pm,annotations:=none,code:=j8,closureTuple:=kb,builtins:=b7} ⟨us,[]⟩=pure (ps.zip us))
  (j9:∀(A:bc) (outer:List Env) (s:ai) (H:Hp) (f:Addr) (clos:List (Str×Addr)) (j8:Value) (fv:List (Str×V)) (vs:List V) (Q:VK) (E:XK),xI k (A.deeper (gB qual scope s.heap.objs.size f j8 clos))->sp fv vs H Q E->
   ∃te,PE (xgU CX0 P w K mg base N qual scope f j8 clos A outer s H E).nox e te/\te (xcy N vs fv) H Q):xew P w K mg base CX0 (k+1) nm qual params (.expr e) scope ps sp:=
 xk8 S len hb fun A outer s H f clos j8 fv vs Q E s1 hr ka I=>by
  obtain⟨te,ht,hq⟩:=j9 A outer s H f clos j8 fv vs Q E hr ka;refine W.kla_codeExpr (aN (ht [] s1 _ H Q (I.wish _) hq) (fun v s' ⟨x,H',J,rv,q⟩=>?_) fun _ _ z=>z.elim);exact⟨x,H',J.os,J.bare,J.base,J.hok,rv,q⟩
end
section
variable {k:Nat} {nm:Str} {sp:List (Str×V)->Sp} {p pos:Pos} {t:TA}
theorem xnQ{vs:List V}(F:xew X.prog X.w X.K X.mg X.base CX k nm qual params body scope ps sp)(hr:xI k X.A)(hx:Passes CX X E)
  (I:Inv X pins σ H s) (hc:uA H f nm qual params body scope fv) (r:Vals vs us) (h:sp fv vs H Q E):wpAny (model X.prog X.w) X.A (call (.ref f) us) (EP X pins σ Q) X.xe s:=by
 refine cF (b9 (F.run X.A X.stack s H f fv us vs Q E hr I.env0 hc r h) fun r s' hq=>?_);cases r with
 |error e=>exact hx pins σ H s e s' I hq
 |ok fl=>
  cases fl with
  |ret u=>exact I.after hq
  |next=>exact aS hq
  |brk=>exact aS hq
  |cont=>exact aS hq
def uA.fn(hc:uA H f nm qual params body scope fv)(I:Inv X pins σ H s):W.FnAt f s.heap:=by
 obtain⟨clos,c,o,u,u',xs,t,doc,pm,j8,h1,_⟩:=hc;obtain⟨e,_⟩:=I.hok f _ h1;exact⟨_,_,_,_,e⟩
def xpj(nm qual:Str)(params:c4)(body:eZ)(scope:Scope)(sp:List (Str×V)->Sp)(E:XK)(i:Nat)(t:TA):TE:=fun σ H Q=>∃f fv,σ[i]? =some (some (.ref f))/\uA H f nm qual params body scope fv/\t σ H fun vs H1=>uA H1 f nm qual params body scope fv/\sp fv vs H1 Q E
def xmt(i:Nat)(F:xew X.prog X.w X.K X.mg X.base CX k nm qual params body scope ps sp)(hr:xI k X.A)(hx:Passes CX X E)(ha:PA X (e::es) t)(hN:X.N[i]? =some x:=by rfl)(hv:Vis X.env.scope x:=by first|exact aG rfl|exact g8 (aG rfl)|exact g8 (g8 rfl))(hd:(x==("__debug__":Str))=false:=by decide)
  (j9:(x==("__classdict__":Str))=false:=by decide) (he:aD (e::es) X.env=(false,eval e X.env)::aD es X.env:=by rfl) (j8:(bB pos (aD es X.env)).any (·.1)=false:=by rfl):
  PE X (.Call (.Name x p) (e::es) [] pos) (xpj nm qual params body scope sp E i t):=by
 intro pins s σ H Q I h;obtain⟨f,fv,e1,hc,h⟩:=h;refine bC (thn (xkH (pos:=p) hN hv hd j9 pins s σ H (fun v H1=>v= .ref f/\H1=H) I ⟨_,e1,rfl,rfl⟩) fun u s1 ⟨v,H1,I1,r,q1,q2⟩=>?_);subst q1;subst q2;cases (show u=aF f from r);refine W.callWith_F (hc.fn I1) (thn (ha pos pins s1 σ H1 _ I1 h) fun us s2 ⟨vs,H2,I2,r2,q⟩=>⟨q.1.fn I2,?_⟩) he j8;exact xnQ F hr hx I2 q.1 r2 q.2
end
def Inv.capd(j8:∀x,X.fn x=true)(I:Inv X pins σ H s)(g:Str->Bool):Inv {X with fn:=g} pins σ H s:=by
 have ok:=I.ok;refine⟨⟨ok.mod,ok.kind,ok.glob,ok.blt,ok.above,ok.inj,ok.has,fun x c _ h=>ok.cab x c (j8 x) h,ok.hd,ok.frames,ok.stk,ok.exf,ok.bs,ok.bsz,ok.noex,ok.exfs,ok.funs,ok.frf,ok.cab2,ok.hz⟩,I.os,I.bare,I.base,I.loc,I.cell,I.free,fun x c e=>?_,I.pin,I.hok,I.len⟩;rcases I.freeC x c e with z|⟨z,_⟩
 ·exact .inl z
 ·rw[j8 x]at z;cases z
abbrev xjU(cap:List Str):Str->Bool:=fun x=> !(cap.contains x)
abbrev xaH(cap:List Str)(CX:CXT)(P:aX)(w:World)(K:ay)(mg:Str->Option Value)(base:Heap)(N:List Str)(qual:Str)(scope:Scope)(f:Addr)(cd:Value)(A:bc)(outer:List Env)(s:ai)(H:Hp)(E:XK):Cx:=
 {uJ CX P w K mg base N qual scope f cd A outer s H E with fn:=xjU cap}
theorem Fun.okC{base:Heap}{st:Stmt}{N:List Str}{k:Nat}(cap:List Str)(F:Fun K x qual st f fd)(hc:fd.code= .ref c)(S:xo N ps (xg st))(len:∀vs H Q E,sp vs H Q E->vs.length=ps.length)
  (j9:∀(A:bc) (outer:List Env) (s:ai) (H:Hp) (vs:List V) (Q:VK) (E:XK),xI k (A.deeper (cZ qual (xg st) s.heap.objs.size f (.ref c)))->sp vs H Q E->
   ∃t,PSs (xaH cap CX0 P w K mg base N qual (xg st) f (.ref c) A outer s H E).nox (xM st) t/\t {nx:=fun _ H'=>Q .non H',rt:=Q} (start N vs) H):xt P w K mg base CX0 (k+1) f fd ps sp:=by
 obtain⟨oc,od,kV,doc,pm,an,kc,ct,osl,rfl,lk,kb⟩:=F.ex;obtain rfl:kc= .ref c:=hc;refine⟨len,fun A outer s H args us vs Q E hr e0 hb r ka=>?_⟩;have hl:=len _ _ _ _ ka;have KX:K.In s.heap:=e0.mod.kin.keeps fun b o e=>(e0.bs b o e).1;have lim:s.heap.NoLimit:=e0.mod.nolimit.keeps fun b o e=>(e0.bs b o e).1;have j8:∀y∈ps.zip us,(xg st).names.lookup y.1=some .local\/((xg st).names.lookup y.1=some .cell/\((fO (s.heap.objs.size+1) (xg st).names []).lookup y.1).isSome=true):=fun⟨n,v⟩ hy=>by
  rcases S.par n (cw hy).1 with q|q
  ·exact .inl q
  ·exact .inr ⟨q,dE _ _ _ (.inl q)⟩
 refine cx hr.depth (KX _ _ lk) rfl S.co S.gen rfl (gu KX kb) (hb _ _ _ _ ?_);refine cA S.kind j8 fun env he s1 x=>?_;subst he;refine⟨lim.keeps x.toInCall.keep,gv ?_⟩;obtain⟨t,ht,hq⟩:=j9 A outer s H vs Q E (hr.deeper _) ka;have I:Inv (uJ CX0 P w K mg base N qual (xg st) f (.ref c) A outer s H E) [] (start N vs) H s1:=xaF S hr.hd e0 hl r x;have I':Inv (xaH cap CX0 P w K mg base N qual (xg st) f (.ref c) A outer s H E).nox [] (start N vs) H s1:=(I.capd (fun _=>rfl) (xjU cap)).wish _;refine aN (ht [] s1 (start N vs) H _ I' hq) (fun fl s' hs=>?_) fun e s' hs=>hs.elim;have fin:∀{σ':St} {H':Hp} {v:V} {u:Value},Inv (xaH cap CX0 P w K mg base N qual (xg st) f (.ref c) A outer s H E).nox [] σ' H' s'->RelV v u->Q v H'->CE outer P w H s Q u s':=
  fun{σ' H' v u} J rv q=>⟨v,H',J.os,J.bare,J.base,J.hok,rv,q⟩
 cases fl with
 |ret u=>
  obtain⟨v,σ',H',J,rv,q⟩:=hs;exact fin J rv q
 |next=>
  obtain⟨σ',H',J,q⟩:=hs;exact fin (v:=V.non) (u:=a7) J rfl q
 |brk=>
  obtain⟨_,_,_,q⟩:=hs;exact aS q
 |cont=>
  obtain⟨_,_,_,q⟩:=hs;exact aS q
section
variable {P:Addr} {qs:List (Pos×Str)} {q:Str} {pos:Pos}
def xaI(j8:X.env.code= .ref c)(T:vZ X.K c P)(ka:X.env.qual++"<lambda>"=q)(hq:(pos,q)∈qs)(hu:(qs.all fun p=> !((pos.line==p.1.line)&&(pos.col==p.1.col))||(p.2==q))=true)
  (kb:(scope.names.filter fun y=>y.2== .free).map (·.1)=fns) (j9:defaultsOf params X.env=([],[]):=by rfl):
  PE X (.Lambda params e scope pos) (tFn X P qs fns "<lambda>" q params (.expr e) scope):=by
 subst ka;exact xk6 j8 T hq hu kb j9
end
def xnR{P:Addr}(e:W.codeHdIn K c P=true):vZ K c P:=fun _ X=>W.codeHd_of_K X e
def xjV{a b:Expr}{pos:Pos}{op:CmpOp}{t:TE}(h:PC X op a b t)(h1:bY op b=false):PT X (.Compare a [op] [b] pos) (cB t):=by
 intro pins s σ H Q I hw;refine dn (thn (h pins s σ H _ I hw) fun v s1 h1=>thn h1 fun u s2 h2=>thn h2 fun c s3 ⟨x,H1,I1,r1,q1⟩=>?_) h1;obtain⟨d,rfl,q⟩:=uK q1;cases r1;exact bK ⟨H1,I1,q⟩
def xe6{st:Stmt}:PS X st (fun _ _ _=>False):=fun _ _ _ _ _ _ q=>q.elim
theorem xbG:∀{bs:List Bool} {us:List Value},Vals (bs.map V.bl) us->us=bs.map cS
 |[],[],_=>rfl
 |[],_::_,h=>by cases h
 |_::_,[],h=>by cases h
 |b::bs,u::us,h=>by
  cases h with
  |cons h1 h2=>
   rw[xbG h2];cases h1;rfl
def range_all(bs:List Bool)(d:Bool):(cT bs.length).all (fun i=>bs.getD i d)=bs.all id:=by
 rw[cW,bh,bh];constructor
 ·intro h x hx;obtain⟨i,hi,rfl⟩:=il.mp hx;have:=h i (by simpa using hi);simpa [hi]using this
 ·intro h i hi;have j8:i<bs.length:=by simpa using hi
  have:=h bs[i] (dH j8);simpa [j8]using this
def range_any(bs:List Bool)(d:Bool):(cT bs.length).any (fun i=>bs.getD i d)=bs.any id:=by
 rw[cW,List.any_eq_true,List.any_eq_true];constructor
 ·rintro⟨i,hi,h⟩;have j8:i<bs.length:=by simpa using hi
  exact⟨bs[i],dH j8,by simpa [j8]using h⟩
 ·rintro⟨x,hx,h⟩;obtain⟨i,hi,rfl⟩:=il.mp hx;exact⟨i,by simpa using hi,by simpa [hi]using h⟩
def xnn(K:ay)(f:List Bool->Bool):List V->Hp->VK->Prop:=fun xs H Q=>∃p bs,xs=[.ref p]/\SqL K H p (bs.map V.bl)/\Q (.bl (f bs)) H
theorem xdy{prog:aX}(bs:List Bool):TruthOf prog w A (fun i v=>(bs.map cS).toArray[i]? =some v) (fun i=>bs.getD i true):=by
 intro i v s Q E hP hQ;have e:v= .bool (bs.getD i true):=by
  simp only[List.getElem?_toArray,az]at hP;cases q:bs[i]? with
  |none=>rw[q]at hP;cases hP
  |some b=>rw[q]at hP;simp at hP;rw[<-hP];simp[List.getD,q]
 rw[e];exact bK hQ
def xf1(hc:X.calm=true):yq X (.builtin "all") (xnn X.K fun bs=>bs.all id):=by
 intro pins s σ H xs us Q I r h;obtain⟨p,bs,rfl,hq,q⟩:=h;obtain⟨u,rfl,rx⟩:=vals1 r;cases rx;obtain⟨its,r',pl,hz⟩:=I.list hq;have e:=xbG r';subst e;have hL:=pl.isList;have j8:p<s.heap.objs.size:=by obtain⟨_,e,_⟩:=hL;exact au e
 refine call_all_walk (dg hL ⟨_,_,_,_,_,_,fun i=>bs.getD i true,rfl,j7 (A:=X.A.in1) (I.ok.hd hc) _ p (aJ j8) (bs.map cS).toArray,⟨⟨_,aI _ rfl,rfl,rfl⟩,hL.push _⟩,xdy bs,fun h' tk hk=>?_⟩);refine⟨.bl (bs.all id),H,I.kept (t':=tk) (fun b o e=>hk b o (fun hb=>?_) (af _ e)),?_,q⟩
 ·exact absurd (au e) (by rw[ao.mp hb];exact bH _)
 ·have e:=range_all bs true;simp only[aC,ag];rw[e];rfl
def xk9(hc:X.calm=true):yq X (.builtin "any") (xnn X.K fun bs=>bs.any id):=by
 intro pins s σ H xs us Q I r h;obtain⟨p,bs,rfl,hq,q⟩:=h;obtain⟨u,rfl,rx⟩:=vals1 r;cases rx;obtain⟨its,r',pl,hz⟩:=I.list hq;have e:=xbG r';subst e;have hL:=pl.isList;have j8:p<s.heap.objs.size:=by obtain⟨_,e,_⟩:=hL;exact au e
 refine call_any_walk (dg hL ⟨_,_,_,_,_,_,fun i=>bs.getD i true,rfl,j7 (A:=X.A.in1) (I.ok.hd hc) _ p (aJ j8) (bs.map cS).toArray,⟨⟨_,aI _ rfl,rfl,rfl⟩,hL.push _⟩,xdy bs,fun h' tk hk=>?_⟩);refine⟨.bl (bs.any id),H,I.kept (t':=tk) (fun b o e=>hk b o (fun hb=>?_) (af _ e)),?_,q⟩
 ·exact absurd (au e) (by rw[ao.mp hb];exact bH _)
 ·have e:=range_any bs true;simp only[aC,ag];rw[e];rfl
section
variable {h':Heap}
def Inv.turnLaid{t':Nat}{ch:List Addr}(I:Inv X pins σ H s)(k:∀b u,b∉ch->s.heap.get? b=some u->h'.get? b=some u)(hp:s.heap.objs.size<=a)(new:xR X.prog X.w (upd H a o) h' a o)
  (hn:∀b∈ch,H b=none) (hl:∀b∈ch,b<s.heap.objs.size) (j9:∀b∈ch,(b∈X.ex\/X.s₀.heap.objs.size<=b)/\b≠X.env.locals/\(∀x c,X.env.cells.lookup x=some c->c≠b)/\∀p∈X.pn++pins,p.1≠b):
  Inv X pins σ (upd H a o) {s with heap:=h',toks:=t'}:=by
 have j8:∀b u,H b=some u->b∉ch:=fun b u e z=>by rw[hn b z]at e;cases e
 have fr:=I.hok.fresh hp;refine I.call' (s':={s with heap:=h',toks:=t'}) (ch:=ch) rfl ⟨fun b o q _ _ hx=>k b o hx q,fun b o q _ _ hx=>⟨o.slots,k b o hx q⟩,fun b o q n _=>?_,fun b o q hx=>⟨o,k b o hx q⟩,fun b u q _=>?_⟩ (fun b u e=>?_) I.bare j9
 ·rw[xm (aJ (aA (au q) hp))];exact n
 ·rw[xm (xD q fr)];exact q
 ·by_cases hb:b=a
  ·subst hb;rw[xl]at e;cases e;exact new
  ·rw[xm hb]at e;refine(I.hok b u e).stay (fun c v hc q=>k c v ?_ q) (fun c q=>by rw[xm (xD q fr)];exact q) fun c xs q _=>by rw[xm (xD q fr)];exact q
   rcases hc with z|z
   ·rw[z];exact j8 b u e
   ·exact j8 c _ z
end
def Ite(K:ay)(a:Addr):It:=
 ⟨fun i H=>∃xs x,SqL K H a xs/\xs[i]? =some x,fun i H v H'=>∃T x,v= .ref T/\H T=none/\H'=upd H T (.tup [.int i,x])/\∀xs,SqL K H a xs->xs[i]? =some x,fun i H=>∃xs,SqL K H a xs/\xs.length<=i⟩
section
variable {k:Nat} {tp:Pos}
def xql(K:ay)(ta:TA):TI:=fun σ H R=>ta σ H fun vs H1=>∃a,vs=[.ref a]/\(∃xs,SqL K H1 a xs)/\R (Ite K a) H1
end
section
variable {x1 x2:Str} {cap:List Nat} {ys:List Str}
end
@[irreducible] def xq9(K:ay)(J:It)(caps:St)(tt:TT)(te:TE)(Q:VK)(H2:Hp):Prop:=∀D,H2 D=none->∃W:CW,(∃m,W 0 m [] (upd H2 D (.lst [])))/\
 ∀i m acc H3,W i m acc H3->H3 D=some (.lst acc)/\((J.stop i H3/\Q (.ref D) H3)\/(J.go i H3/\acc.length<ax/\∀v H4,J.yld i H3 v H4->∃T v1 v2,v= .ref T/\SqT K H4 T [v1,v2]/\tt (some v1::some v2::caps) H4 fun b H5=>
  (b=true->te (some v1::some v2::caps) H5 fun u H6=>H6 D=some (.lst acc)/\∃m',m'<m/\W (i+1) m' (acc++[u]) (upd H6 D (.lst (acc++[u]))))/\(b=false->∃m',m'<m/\W (i+1) m' acc H5)))
section
variable {x1 x2:Str} {cap:List Nat} {ys:List Str} {elt iter:Expr} {ifs:List Expr} {px1 px2 px pos:Pos} {kx:Nat} {wi:TI} {tt:TT}
end
def del(H:Hp)(D:Addr):Hp:=fun b=>if b=D then none else H b
def zO:del H D D=none:=by unfold del;rw[if_pos rfl]
def vV{b:Addr}(h:b≠D):del H D b=H b:=by unfold del;rw[if_neg h]
def zP:xf (del H D) H:=fun b u e=>by
 by_cases h:b=D
 ·rw[h,zO]at e;cases e
 ·rw[vV h]at e;exact e
def yT:del (upd H D o) D=del H D:=by
 funext b
 by_cases h:b=D
 ·rw[h,zO,zO]
 ·rw[vV h,vV h,xm h]
def vH(h:H D=none):del H D=H:=by
 funext b
 by_cases e:b=D
 ·rw[e,zO,h]
 ·rw[vV e]
def vI(s:xf H H'):xf (del H D) (del H' D):=fun b u e=>by
 by_cases h:b=D
 ·rw[h,zO]at e;cases e
 ·rw[vV h]at e⊢;exact s b u e
def xla{st:Int}(Pv:Nat->List V->Hp->Prop)(hn:n<=ax)(h0:Pv 0 [] H2)
  (hs:∀(i:Nat) acc H3 H3',i<n->xf H2 H3->xf H3 H3'->Pv i acc H3->∀R:VK,(∀u H6',xf H3' H6'->(∀H6,xf H3 H6->(∀p o,(H3' p=none\/∀ys,o≠HO.lst ys)->H6' p=some o->H6 p=some o)->Pv (i+1) (acc++[u]) H6)->R u H6')->te (some (.int (lo+i*st))::caps) H3' R)
  (hd:∀D acc H H',H2 D=none->H D=none->xf H2 H->xf H H'->Pv n acc H->acc.length=n->H' D=some (.lst acc)->Q (.ref D) H'):zo (Its lo st n) caps xg8 te Q H2:=by
 unfold zo;intro D hD;refine⟨fun i m acc H3=>m=n - i/\i<=n/\acc.length=i/\H3 D=some (.lst acc)/\xf H2 (del H3 D)/\Pv i acc (del H3 D),⟨n,by simp,bu _,rfl,xl,?_,?_⟩,?_⟩
 ·rw[yT,vH hD];exact xf.refl _
 ·rw[yT,vH hD];exact h0
 rintro i m acc H3 ⟨rfl,hi,j8,j9,s3,p3⟩;refine⟨j9,?_⟩
 by_cases ka:i<n
 ·refine .inr ⟨ka,by lia,fun v H4 y=>?_⟩;obtain⟨e,y⟩:=y;subst e y;refine⟨fun _=>?_,fun z=>by cases z⟩;refine hs i acc _ _ ka s3 zP p3 _ fun u H6' s6 k=>⟨s6.at j9,n - (i+1),by lia,rfl,ka,by simp[j8],xl,?_,?_⟩
  ·rw[yT];exact s3.trans (vI s6)
  ·rw[yT];refine k _ (vI s6) fun p o q1 q2=>?_;rw[vV (fun z=>by
    rcases q1 with q1|q1
    ·rw[z,j9]at q1;cases q1
    ·rw[z,s6.at j9]at q2;cases q2;exact q1 _ rfl)]
   exact q2
 ·have e:i=n:=by lia
  subst e;exact .inl ⟨aq _,hd D acc _ H3 hD zO s3 zP p3 j8 j9⟩
def ue(Pv:Nat->List V->Hp->Prop)(hl:SqL K H2 l xs)(hn:xs.length<=ax)(h0:Pv 0 [] H2)
  (hs:∀(i:Nat) x acc H3 H3',xs[i]? =some x->xf H2 H3->xf H3 H3'->Pv i acc H3->∀R:VK,(∀u H6',xf H3' H6'->(∀H6,xf H3 H6->(∀p o,(H3' p=none\/∀ys,o≠HO.lst ys)->H6' p=some o->H6 p=some o)->Pv (i+1) (acc++[u]) H6)->R u H6')->te (some x::caps) H3' R)
  (hd:∀D acc H H',H2 D=none->H D=none->xf H2 H->xf H H'->Pv xs.length acc H->acc.length=xs.length->H' D=some (.lst acc)->Q (.ref D) H'):zo (Itl K l) caps xg8 te Q H2:=by
 unfold zo;intro D hD;refine⟨fun i m acc H3=>m=xs.length - i/\i<=xs.length/\acc.length=i/\H3 D=some (.lst acc)/\xf H2 (del H3 D)/\Pv i acc (del H3 D),⟨xs.length,by simp,bu _,rfl,xl,?_,?_⟩,?_⟩
 ·rw[yT,vH hD];exact xf.refl _
 ·rw[yT,vH hD];exact h0
 rintro i m acc H3 ⟨rfl,hi,j8,j9,s3,p3⟩;refine⟨j9,?_⟩;have q:=(s3.trans zP).seq hl
 by_cases ka:i<xs.length
 ·have hx:xs[i]? =some xs[i]:=bG ka;refine .inr ⟨⟨xs,xs[i],q,hx⟩,by lia,fun v H4 y=>?_⟩;obtain⟨e,y⟩:=y;have ev:=y xs q;rw[hx]at ev;cases ev;subst e;refine⟨fun _=>?_,fun z=>by cases z⟩;refine hs i _ acc _ _ hx s3 zP p3 _ fun u H6' s6 k=>⟨s6.at j9,xs.length - (i+1),by lia,rfl,ka,by simp[j8],xl,?_,?_⟩
  ·rw[yT];exact s3.trans (vI s6)
  ·rw[yT];refine k _ (vI s6) fun p o q1 q2=>?_;rw[vV (fun z=>by
    rcases q1 with q1|q1
    ·rw[z,j9]at q1;cases q1
    ·rw[z,s6.at j9]at q2;cases q2;exact q1 _ rfl)]
   exact q2
 ·have e:i=xs.length:=by lia
  subst e;exact .inl ⟨⟨xs,q,aq _⟩,hd D acc _ H3 hD zO s3 zP p3 j8 j9⟩
def xaJ(Pv:Nat->List V->Hp->Prop)(hl:SqT K H2 l xs)(hn:xs.length<=ax)(h0:Pv 0 [] H2)
  (hs:∀(i:Nat) x acc H3 H3',xs[i]? =some x->xf H2 H3->xf H3 H3'->Pv i acc H3->∀R:VK,(∀u H6',xf H3' H6'->(∀H6,xf H3 H6->(∀p o,(H3' p=none\/∀ys,o≠HO.lst ys)->H6' p=some o->H6 p=some o)->Pv (i+1) (acc++[u]) H6)->R u H6')->te (some x::caps) H3' R)
  (hd:∀D acc H H',H2 D=none->H D=none->xf H2 H->xf H H'->Pv xs.length acc H->acc.length=xs.length->H' D=some (.lst acc)->Q (.ref D) H'):zo (Itt K l) caps xg8 te Q H2:=by
 unfold zo;intro D hD;refine⟨fun i m acc H3=>m=xs.length - i/\i<=xs.length/\acc.length=i/\H3 D=some (.lst acc)/\xf H2 (del H3 D)/\Pv i acc (del H3 D),⟨xs.length,by simp,bu _,rfl,xl,?_,?_⟩,?_⟩
 ·rw[yT,vH hD];exact xf.refl _
 ·rw[yT,vH hD];exact h0
 rintro i m acc H3 ⟨rfl,hi,j8,j9,s3,p3⟩;refine⟨j9,?_⟩;have q:=(s3.trans zP).seqT hl
 by_cases ka:i<xs.length
 ·have hx:xs[i]? =some xs[i]:=bG ka;refine .inr ⟨⟨xs,xs[i],q,hx⟩,by lia,fun v H4 y=>?_⟩;obtain⟨e,y⟩:=y;have ev:=y xs q;rw[hx]at ev;cases ev;subst e;refine⟨fun _=>?_,fun z=>by cases z⟩;refine hs i _ acc _ _ hx s3 zP p3 _ fun u H6' s6 k=>⟨s6.at j9,xs.length - (i+1),by lia,rfl,ka,by simp[j8],xl,?_,?_⟩
  ·rw[yT];exact s3.trans (vI s6)
  ·rw[yT];refine k _ (vI s6) fun p o q1 q2=>?_;rw[vV (fun z=>by
    rcases q1 with q1|q1
    ·rw[z,j9]at q1;cases q1
    ·rw[z,s6.at j9]at q2;cases q2;exact q1 _ rfl)]
   exact q2
 ·have e:i=xs.length:=by lia
  subst e;exact .inl ⟨⟨xs,q,aq _⟩,hd D acc _ H3 hD zO s3 zP p3 j8 j9⟩
def xjW{tt:TT}(p:V->Bool)(f:V->V)(hl:SqL K H2 l xs)(hn:xs.length<ax)
  (ht:∀(x:V) (H3:Hp),x∈xs->xf H2 H3->∀R:Bool->Hp->Prop,(∀H6,xf H3 H6->R (p x) H6)->tt (some x::caps) H3 R)
  (hs:∀(x:V) (H3:Hp),x∈xs->p x=true->xf H2 H3->∀R:VK,(∀H6,xf H3 H6->R (f x) H6)->te (some x::caps) H3 R)
  (hd:∀D H',H2 D=none->xf H2 H'->H' D=some (.lst ((xs.filter p).map f))->Q (.ref D) H'):zo (Itl K l) caps tt te Q H2:=by
 unfold zo;intro D hD;refine⟨fun i m acc H3=>m=xs.length - i/\i<=xs.length/\acc=((xs.take i).filter p).map f/\H3 D=some (.lst acc)/\xf H2 H3,⟨xs.length,by simp,bu _,rfl,xl,xf.new hD⟩,?_⟩;rintro i m acc H3 ⟨rfl,hi,rfl,j9,s3⟩;refine⟨j9,?_⟩;have q:=s3.seq hl
 by_cases j8:i<xs.length
 ·have hx:xs[i]? =some xs[i]:=bG j8;have hle:(((xs.take i).filter p).map f).length<ax:=by
   rw[ag];refine eh (List.length_filter_le _ _) ?_;rw[bw];lia
  have et:xs.take (i+1)=xs.take i++[xs[i]]:=by rw[bj,hx];rfl
  refine .inr ⟨⟨xs,xs[i],q,hx⟩,hle,fun v H4 y=>?_⟩;obtain⟨e,y⟩:=y;have ev:=y xs q;rw[hx]at ev;cases ev;subst e;refine ht _ _ (dH j8) s3 _ fun H5 s5=>⟨fun hp=>?_,fun hp=>?_⟩
  ·refine hs _ _ (dH j8) hp (s3.trans s5) _ fun H6 s6=>⟨s6.at (s5.at j9),xs.length - (i+1),by lia,rfl,j8,?_,xl,(s3.trans (s5.trans s6)).put hD⟩;rw[et,iX,bt];simp[hp]
  ·refine⟨xs.length - (i+1),by lia,rfl,j8,?_,s5.at j9,s3.trans s5⟩;rw[et,iX,bt];simp[hp]
 ·have e:i=xs.length:=by lia
  subst e;rw[bo]at j9⊢;exact .inl ⟨⟨xs,q,aq _⟩,hd D H3 hD s3 j9⟩
def uL{f:Bool->Bool}{x y:V}{d:fQ}(hx:Rp K H x d)(hy:Rp K H y d)(hd:ek d=true)(q:Q (.bl (f true)) H):xmo K f x y H Q:=
 ⟨d,d,hx,hy,hd,hd,by rw[PySem.SeqAt.eqv_refl d (SeqAt.canLay_of_shaped hd)];exact q⟩
def xqX(e:X.K=K):IxR X (xo0 K):=e▸yb
def xra(e:X.K=K):IxR X (xo1 K):=e▸xF
def xqY(e:X.K=K):SlR X (xo2 K):=e▸ub
def xrc(e:X.K=K):yq X (.builtin "isinstance") (xpc K):=e▸zv
def xrd(e:X.K=K)(hu:X.A.units+64<cLine):OpR X (bg .NotEq) (xmo K fun b=> !b):=e▸xaG hu
def xaK(es:List Int)(lo hi:Option Int):uo (es.map V.int) lo hi=((es.drop (HT.sIx es.length 0 lo)).take (HT.sIx es.length es.length hi - HT.sIx es.length 0 lo)).map V.int:=by
 unfold uo;rw[ag,<-List.map_drop,<-List.map_take]
def xlb{d:Nat}{i:Int}(h0:0<=i):HT.sIx n d (some i)=min i.toNat n:=by
 show(if i<0 then(i+(n:Int)).toNat else min i.toNat n)=_;rw[if_neg (by lia)]
def xpk:Stmt->Expr
 | .Return (some v) _=>v
 |_=>.Constant .none 0 ⟨0,0,0,0⟩
def xi9:Expr->c4
 | .Lambda a _ _ _=>a
 |_=>xX (.Pass ⟨0,0,0,0⟩)
def xja:Expr->Expr
 | .Lambda _ b _ _=>b
 |e=>e
def xdX:Expr->Scope
 | .Lambda _ _ s _=>s
 |_=>xg (.Pass ⟨0,0,0,0⟩)
def xpl{x:Int}(h0:0<=x)(h:x<n):ixN n x=some x.toNat:=by
 unfold ixN;rw[if_pos h0,if_pos h]
end L2
namespace PySem
open Sem (wp)
open PyProof.Rows
namespace F
end F
section
variable {prog:aX} {w:World} {A:bc} {E:Value->ai->Prop} {s:ai}
end
end PySem
namespace L2
open PySem PySem.Spec PyProof.Rows
variable {X:Cx} {E:Value->ai->Prop} {s s':ai} {w:World} {K:ay} {a C f l C' j:Addr} {A A':bc} {x qual nm q:Str} {H:Hp} {n hdct ab:Bool} {σ:St} {prog P:aX} {fd:av} {ps N sn:List Str} {pins qs:List (Addr×Obj)} {M:Model} {Q:Unit->ai->Prop} {e:Expr} {es:List Expr} {p np cpos:Pos} {mg:Str->Option Value} {st:Stmt} {ds bm:List Value} {sp:Sp} {oe ox:Obj} {dx dd:Option Addr} {EE:EEs} {t:TA} {h base:Heap} {i:Nat} {cls:Value} {D:Ends} {its vs:Array Value} {ta:TE} {col:Option Bool} {k0 k1 k2 k3 k5:Option Value} {newId:String}
def zc{sts:List Stmt}:PSs X sts (fun _ _ _=>False):=fun _ _ _ _ _ _ q=>q.elim
open PySem PySem.Spec PyProof.Rows PySem.W
def xpm:Option (Int×Tok)->Array Value
 |none=>#[]
 |some (m,t)=>#[.int m t,.int m t]
def xqm(f:Nat->Int)(j:Nat):Option (Int×Tok)->Prop
 |none=>j=0
 |some (m,_)=>(∃i,i<j/\f i=m)/\∀i,i<j->f i<=m
def xlc(f:Nat->Int)(n:Nat)(d v:Value):Prop:=(n=0->v=d)/\(0<n->∃m t,v= .int m t/\(∃i,i<n/\f i=m)/\∀i,i<n->f i<=m)
def xmu(a v:Value):argsOk "max" ⟨[a],[(aM "default",v)]⟩:=by unfold argsOk;kernel_rfl
section
variable {R:gs->ai->Prop} {I:Addr} {fp wr:List Addr} {n:Nat} {P:Nat->Value->Prop} {St:Nat->Heap->Prop}
theorem xbH(W:Walks prog w A.in1 I fp wr n P St)(f:Nat->Int)(hP:∀i v,P i v->∃t,v= .int (f i) t)(S:Addr)(kg:S∉fp)(d:Value):∀(k j:Nat) (s:ai) (b:Option (Int×Tok)) (c:Nat),n - j=k->j<=n->St j s.heap->
  s.heap.get? S=some {cls:=.type "list",dict:=none,data:=.seq (xpm b) c,slots:=#[]}->xqm f j b->
  (∀v h' tk,xlc f n d v->(∀b o,b∉wr->b≠S->s.heap.get? b=some o->h'.get? b=some o)->R (.ok (.ret v)) {s with heap:=h',toks:=tk})->
  bX (model prog w) A (.builtin "max.loop" ⟨[.ref I,.none,.ref S],[(aM "default",d)]⟩) R s
 |0,j,s,b,c,hk,hj,ki,hS,hb,hR=>by
  have ko:j=n:=by lia
  subst ko;have kn:S∉wr:=fun h=>kg (W.sub _ h);refine gQ F.entry_max_loop ?_;rw[ip cO _];show wpAny _ A.in1 (gR (.ref S) >>= _) _ _ s;refine aa (eI hS rfl ?_);show wpAny _ A.in1 (tryCatch (pyNext (.ref I)) _ >>= _) _ _ s;refine aa (g9 (W.done s _ _ ki fun h' tk kd=>?_));have kf:=kd S _ kn hS;cases b with
  |none=>
   cases hb;exact aa (m:=rule _) (wpAny_rule (ak (hR d _ tk ⟨fun _=>rfl,fun q=>absurd q (bH _)⟩ fun b o j8 _ e=>kd b o j8 e)))
  |some p=>
   obtain⟨m,t⟩:=p;show wpAny _ A.in1 (gP S (fun _=>#[]) >>= _) _ _ _;refine aa (cy kf rfl (aa (fH (ak ?_))) (by show(2:Nat)<=_;decide));refine hR _ _ tk ⟨fun q=>?_,fun _=>⟨m,t,rfl,hb⟩⟩ fun b o j8 kc e=>(aV _ _ (aL kc)).trans (kd b o j8 e);obtain⟨⟨i,hi,_⟩,_⟩:=hb;lia
 |k+1,j,s,b,c,hk,hj,ki,hS,hb,hR=>by
  have kj:j<n:=by lia
  have kn:S∉wr:=fun h=>kg (W.sub _ h);have ka:(toString "max"++toString ".loop":String)="max.loop":=by decide
  refine gQ F.entry_max_loop ?_;rw[ip cO _];show wpAny _ A.in1 (gR (.ref S) >>= _) _ _ s;refine aa (eI hS rfl ?_);show wpAny _ A.in1 (tryCatch (pyNext (.ref I)) _ >>= _) _ _ s;refine aa (g9 (W.item j s _ _ kj ki fun v h' tk hv ke kd=>?_));have kf:=kd S _ kn hS;obtain⟨t,rfl⟩:=hP _ _ hv;have turned:∀(g:Array Value->Array Value),(∀b∈fp,∀o,h'.get? b=some o->(h'.update S (cb g)).get? b=some o):=fun g b kr o e=>(aV _ _ (fun h:S=b=>kg (by rw[h];exact kr))).trans e;cases b with
  |none=>
   cases hb;show wpAny _ A.in1 (gP S (fun _=>#[.int (f 0) t,.int (f 0) t]) >>= _) _ _ _;refine aa (cy kf rfl ?_);rw[ka];refine ak ⟨dM cO _,xbH W f hP S kg d k 1 _ (some (f 0,t)) (c+1) (by lia) (by lia) (W.frame _ _ _ ke (turned _)) ?_ ⟨⟨0,by lia,rfl⟩,fun i hi=>?_⟩ fun v' kh j9 ho kb=>?_⟩
   ·exact(br _ kf rfl).trans rfl
   ·rw[show i=0 by lia];exact Int.le_refl _
   exact hR v' kh j9 ho fun b o j8 kc e=>kb b o j8 kc ((aV _ _ (aL kc)).trans (kd b o j8 e))
  |some p=>
   obtain⟨m,u⟩:=p;obtain⟨⟨i0,ku,e0⟩,hle⟩:=hb;show wpAny _ A.in1 (tryCatch (eF [.int (f j) t,.int (f j) t] (richCompare .Gt (.int (f j) t) (.int m u) >>= _)) _ >>= _) _ _ _;have km:=CmpOf.ints_gt (prog:=prog) (w:=w) (A:=A.in1) (P:=fun i v=>∃t,v= .int (if i=0 then f j else m) t) (fun i=>if i=0 then f j else m) (fun i v e=>e);refine aa (g9 (bD (aa (km 0 1 _ _ _ _ _ ⟨t,rfl⟩ ⟨u,rfl⟩ ?_))));refine aa (bD (bK ?_));refine aa (fH (ak ?_))
   by_cases hb:f j > m
   ·show wpAny _ _ (if decide (f j > m)=true then _ else _) _ _ _;rw[if_pos (decide_eq_true hb)];refine aa (cy kf rfl (aa (fH ?_)) (by show(2:Nat)<=_;decide));rw[ka];obtain⟨c',e'⟩:∃c',(h'.update S (cb fun _=>#[.int (f j) t,.int (f j) t])).get? S=some {cls:=.type "list",dict:=none,data:=.seq #[.int (f j) t,.int (f j) t] c',slots:=#[]}:=⟨_,br _ kf rfl⟩;refine ak ⟨dM cO _,xbH W f hP S kg d k (j+1) _ (some (f j,t)) c' (by lia) kj (W.frame _ _ _ ke (turned _)) e' ⟨⟨j,by lia,rfl⟩,fun i hi=>?_⟩ fun v' kh j9 ho kb=>?_⟩
    ·by_cases q:i=j
     ·subst q;exact Int.le_refl _
     ·have:=hle i (by lia);lia
    ·exact hR v' kh j9 ho fun b o j8 kc e=>kb b o j8 kc ((aV _ _ (aL kc)).trans (kd b o j8 e))
   ·show wpAny _ _ (if decide (f j > m)=true then _ else _) _ _ _;rw[if_neg (by rw[decide_eq_false hb];exact aB)];refine aa (fH ?_);rw[ka];refine ak ⟨dM cO _,xbH W f hP S kg d k (j+1) _ (some (m,u)) c (by lia) kj ke kf ⟨⟨i0,by lia,e0⟩,fun i hi=>?_⟩ fun v' kh j9 ho kb=>hR v' kh j9 ho fun b o j8 kc e=>kb b o j8 kc (kd b o j8 e)⟩
    by_cases q:i=j
    ·subst q;lia
    ·exact hle i (by lia)
def xmv{xs:Array (Int×Tok)}{d:Value}{Q:Value->ai->Prop}(hh:A.handled=none)(hl:s.heap.IsList l (iq xs))
  (h:∀v h' tk,xlc (numAt xs) xs.size d v->(∀b o,s.heap.get? b=some o->h'.get? b=some o)->Q v {s with heap:=h',toks:=tk}):
  wpAny (model prog w) A (call (.builtin "max") [.ref l] [(aM "default",d)]) Q E s:=by
 have j8:(toString "max"++toString ".loop":String)="max.loop":=by decide
 refine kmk_tree F.kind_max F.plain_max F.entry_max (xmu _ _) ?_;show wpAny _ A.in1 (fR "max" ["key","default"] 0 ⟨[],[(aM "default",d)]⟩ >>= _) _ _ s;refine aa (fJ (show fR "max" ["key","default"] 0 ⟨[],[(aM "default",d)]⟩=pure [none,some d]from rfl) ?_);refine aa (ak (aa (iter_intList hl fun s₂ e st ka j9=>?_)));subst e;refine aa (bO ?_);rw[j8];have W:=j7 (prog:=prog) (w:=w) (A:=A.in1) hh s.heap.objs.size l j9 (iq xs);have hsz:(iq xs).size=xs.size:=by simp[iq]
 refine ak ⟨dM cO _,xbH W (numAt xs) (fun i v e=>intItems_at e) _ (fun hm=>bH _ (ka _ hm)) d _ 0 _ none 0 rfl (bu _) (W.frame _ _ _ st fun b _ o e=>af _ e) (aI _ rfl) rfl fun v h' tk ho hk=>?_⟩;rw[hsz]at ho;exact h v h' tk ho (old_kept fun b o kb e=>hk b o kb (aJ (au e)) (af _ e))
end
def xqn(K:ay)(ta:TA)(tf:TE):TE:=fun σ H Q=>ta σ H fun xs H1=>tf σ H1 fun y H2=>
 ∃(l:Addr) (ns:List Int) (z:Int),xs=[.ref l]/\y= .int z/\SqL K H2 l (ns.map V.int)/\∀m,(ns=[]->m=z)->(ns≠[]->m∈ns/\∀a∈ns,a<=m)->Q (.int m) H2
def xnS{fe:Expr}{ta:TA}{tf:TE}{pos kp:Pos}(hc:X.calm=true)(hg:Gl X "max")(hm:X.mg "max"=none)(ha:PA X [e] ta)(hf:PE X fe tf)
  (he:bB pos (aD [e] X.env)=(false,eval e X.env)::bB pos (aD [] X.env):=by rfl):
  PE X (.Call (.Name "max" p) [e] [⟨some "default",fe,kp⟩] pos) (xqn X.K ta tf):=by
 intro pins s σ H Q I h;refine bC (ve I hg hm xk1 ?_ (by decide) (by decide));refine callWith_kw (thn (ha pos pins s σ H _ I h) fun us s1 ⟨xs,H1,I1,r1,q1⟩=>?_) he (by rw[he];rfl) rfl rfl;refine kws_cons (thn (hf pins s1 σ H1 _ I1 q1) fun fu s2 ⟨y,H2,I2,r2,q2⟩=>kws_nil ?_);obtain⟨l,ns,z,rfl,rfl,hl,q⟩:=q2;obtain⟨u,rfl,ru⟩:=Vals.one r1;cases ru;obtain⟨tz,rfl⟩:=r2;obtain⟨its,r',pl,hz⟩:=I2.list hl;have hi:=intsAre_of r';have hL:=pl.isList;have hn:=hi.numsOf;obtain⟨ys,e⟩:=hi.allInts.items;rw[e]at hL;have e2:numsOf its=numsOf (iq ys).toList:=by rw[<-e]
 rw[e2,nums_intItems]at hn;have hlen:=congrArg fG hn;rw[ag,bP]at hlen;show wpAny _ _ (call (.builtin "max") [.ref l] [(aM "default",.int z tz)]) _ _ s2;refine xmv (I.ok.hd hc) hL fun v h' tk ho hk=>?_
 by_cases j8:ns=[]
 ·have h0:ys.size=0:=by rw[hlen,j8];rfl
  have:=ho.1 h0;subst this;exact⟨.int z,H2,I2.kept (t':=tk) hk,⟨tz,rfl⟩,q z (fun _=>rfl) fun x=>absurd j8 x⟩
 ·have ka:0<ns.length:=dQ.mpr j8;obtain⟨m,t,rfl,⟨i,kb,ei⟩,hle⟩:=ho.2 (by omega);refine⟨.int m,H2,I2.kept (t':=tk) hk,⟨t,rfl⟩,q m (fun x=>absurd x j8) fun _=>⟨?_,fun a j9=>?_⟩⟩
  ·rw[<-hn,<-ei,numAt_eq];exact getD_mem (by rw[ag,bP];omega)
  ·rw[<-hn]at j9;obtain⟨j,hj,rfl⟩:=mem_getD j9;rw[ag,bP]at hj;rw[<-numAt_eq];exact hle j hj
open PySem PySem.Spec PyProof.Rows PySem.W
structure xe7(K:ay)(x qual:Str)(st:Stmt)(f:Addr)(fd:av)(ds:List Value):Prop where
 ex:∃(oc:Value) (od:Option Addr) (dT:Addr) (o:Obj) (n:Nat) (kV doc pm:Value) (an:Option Addr) (cdv ct:Value) (osl:Array (Option Value)),
  fd=bZ x qual (xX st) (xM st) (xg st) (.ref dT) kV doc pm an cdv ct/\K.lookup f=some ⟨oc,od,.func fd,osl⟩/\df K cdv qual=true/\K.lookup dT=some o/\o.data= .seq ds.toArray n
 kp:bU K (.ref f)=true
def xe7.ok{k:Nat}(F:xe7 K x qual st f fd ds)(S:xo N ps (xg st))(len:∀vs H Q E,sp vs H Q E->vs.length=ps.length)
  (j8:∀(j9:Value) (A:bc) (outer:List Env) (s:ai) (H:Hp) (vs:List V) (Q:VK) (E:XK),xI k (A.deeper (cZ qual (xg st) s.heap.objs.size f j9))->sp vs H Q E->
   ∃t,PSs (uJ CX0 P w K mg base N qual (xg st) f j9 A outer s H E).nox (xM st) t/\t {nx:=fun _ H'=>Q .non H',rt:=Q} (start N vs) H):xt P w K mg base CX0 (k+1) f fd ps sp:=by
 obtain⟨oc,od,dT,o,n,kV,doc,pm,an,j9,ct,osl,rfl,lk,kb,_⟩:=F.ex;refine xgO lk kb S len fun A outer s H vs Q E hr ka=>?_;obtain⟨t,h,q⟩:=j8 j9 A outer s H vs Q E hr ka;exact⟨t,h.nox,q⟩
def xe7.binds{es:List Value}(F:xe7 K x qual st f fd ds)(n:Nat)(hn:n+es.length=ps.length)
  (h:∀(dT:Addr) (kV doc pm:Value) (an:Option Addr) (j8 ct:Value) (us:List Value),us.length=n->
   ∃k:Option (Array Value)->Sem (List (Str×Value)),dD (bZ x qual (xX st) (xM st) (xg st) (.ref dT) kV doc pm an j8 ct) ⟨us,[]⟩=gR (.ref dT) >>= k/\k (some ds.toArray)=pure (ps.zip (us++es))):Binds K fd ps es:=by
 obtain⟨oc,od,dT,o,n,kV,doc,pm,an,j8,ct,osl,rfl,lk,j9,ho,hs⟩:=F.ex;intro s us X hl;obtain⟨k,h1,h2⟩:=h dT kV doc pm an j8 ct us (by rw[aZ]at hl;lia);exact binds_K X rfl ho hs h1 h2
def xnT{dT:Addr}{oc:Value}{od an ka:Option Addr}{osl j9:Array (Option Value)}{kV doc pm j8 ct dc:Value}{n:Nat}(l:K.lookup f=some ⟨oc,od,.func (bZ x qual (xX st) (xM st) (xg st) (.ref dT) kV doc pm an j8 ct),osl⟩)
  (c:df K j8 qual=true) (k:bU K (.ref f)=true) (d:K.lookup dT=some ⟨dc,ka,.seq ds.toArray n,j9⟩):xe7 K x qual st f (bZ x qual (xX st) (xM st) (xg st) (.ref dT) kV doc pm an j8 ct) ds:=
 ⟨⟨oc,od,dT,_,n,kV,doc,pm,an,j8,ct,osl,rfl,l,c,d,rfl⟩,k⟩
def Nu(X:Cx)(H:Hp)(b:Addr):Prop:=H b=none/\X.s₀.heap.get? b=none/\∀p∈X.pn,p.1≠b
def xqo(n:Bool)(X:Cx)(H:Hp)(h:Heap)(a:Addr)(cls:Value)(dx:Option Addr):Prop:=
 ∃oe vs a0,h.get? a=some oe/\oe.cls=cls/\oe.dict=dx/\oe.data= .fields vs/\vs[0]? =some a0/\vs[1]? =some .none/\(n=true->vs[2]? =some .none)/\Nu X H a
def xbI(n:Bool)(X:Cx)(fl:Value)(H:Hp)(h:Heap)(a:Addr)(cls:Value)(dx:Option Addr):Prop:=
 ∃oe vs a0 T oT ts,h.get? a=some oe/\oe.cls=cls/\oe.dict=dx/\oe.data= .fields vs/\vs[0]? =some a0/\vs[1]? =some (.ref T)/\(n=true->vs[2]? =some .none)/\T≠a/\h.get? T=some oT/\oT.data= .fields ts/\ts[3]? =some fl/\Nu X H a/\Nu X H T
def xmw(n:Bool)(X:Cx)(H:Hp)(h:Heap)(a:Addr)(cls:Value)(dx:Option Addr):Prop:=
 xqo n X H h a cls dx\/xbI n X .none H h a cls dx\/xbI n X (bz X.env.locals) H h a cls dx
structure Own(X:Cx):Prop where
 ex:X.ex=[]
 st:X.stack=X.env::X.outer
 fr:X.env.frame=some X.env.locals
abbrev EEs:=St->XK
def XEG(n:Bool)(X:Cx)(EE:EEs):Value->ai->Prop:=fun e s'=>
 ∃a cls dx σ H,e= .ref a/\Inv X [] σ H s'/\xmw n X H s'.heap a cls dx/\EE σ cls dx H
def Inv.nopins(I:Inv X pins σ H s):Inv X [] σ H s:=I.pins_of fun p hp=>nomatch hp
def Own.mem(o:Own X){b:Addr}:b∈frs X.stack↔b=X.env.locals\/b∈X.fs:=by
 rw[o.st];unfold frs;rw[dP,o.fr];exact ah
def Inv.flown{h':Heap}(o:Own X)(I:Inv X [] σ H s)(ch:Addr->Prop)
  (keep:∀b u,¬ch b->b∉frs X.stack->s.heap.get? b=some u->h'.get? b=some u)
  (slot:∀b u,¬ch b->b∈frs X.stack->s.heap.get? b=some u->∃sl,h'.get? b=some {u with slots:=sl})
  (new:∀b,ch b->Nu X H b/\∀u,s.heap.get? b=some u->∃vs,u.data= .fields vs):Inv X [] σ H {s with heap:=h'}:=by
 have any:∀b u,¬ch b->s.heap.get? b=some u->∃sl,h'.get? b=some {u with slots:=sl}:=fun b u n e=>by
  by_cases hb:b∈frs X.stack
  ·exact slot b u n hb e
  ·exact⟨u.slots,keep b u n hb e⟩
 have old:∀b u,X.s₀.heap.get? b=some u->¬ch b:=fun b u e z=>by
  have:=(new b z).1.2.1;rw[e]at this;cases this
 have j9:∀b u,X.s₀.heap.get? b=some u->b≠X.env.locals:=fun b u e=>aJ (aA (au e) I.ok.above);have cel:∀c v,s.heap.IsCell c v->h'.IsCell c v:=fun c v ⟨u,e,d⟩=>by
  obtain⟨sl,q⟩:=any c u (fun z=>by
   obtain⟨vs,w⟩:=(new c z).2 u e;rw[d]at w;cases w) e
  exact⟨_,q,d⟩
 refine⟨I.ok,I.os,I.bare,⟨fun b u e n hb hx=>?_,fun b u e n hb hx=>?_,I.base.free,fun b u e hx=>?_,I.base.fix⟩,?_,fun x c e=>?_,I.free,I.freeC,fun p hp=>?_,fun b u e=>?_,I.len⟩
 ·exact keep b u (old b u e) (fun z=>(o.mem.mp z).elim (j9 b u e) hb) (I.base.keep b u e n hb hx)
 ·obtain⟨sl,e1⟩:=I.base.slot b u e n hb hx;obtain⟨j8,e2⟩:=slot b _ (old b u e) (o.mem.mpr (.inr hb)) e1;exact⟨j8,e2⟩
 ·by_cases hb:b∈X.fs
  ·obtain⟨o',e1⟩:=I.base.there b u e hx;obtain⟨sl,e2⟩:=any b _ (old b u e) e1;exact⟨_,e2⟩
  ·obtain⟨o',e1⟩:=I.base.there b u e hx;obtain⟨sl,e2⟩:=any b _ (old b u e) e1;exact⟨_,e2⟩
 ·obtain⟨m,⟨u,es,ep,e,d⟩,l⟩:=I.loc;obtain⟨sl,q⟩:=any _ u (fun z=>by
   obtain⟨vs,w⟩:=(new _ z).2 u e;rw[d.1]at w;cases w) e
  refine⟨m,⟨_,es,ep,q,d⟩,fun i x v e1 e2 e3=>?_⟩;obtain⟨y,r,z⟩:=l i x v e1 e2 e3;exact⟨y,r,z.imp id fun⟨k,c,e,z⟩=>⟨k,c,e,cel c _ z⟩⟩
 ·obtain⟨v,z⟩:=I.cell x c e;exact⟨v,cel c v z⟩
 ·obtain⟨e,n,ne,nf,d⟩:=I.pin p hp;have ka:p∈X.pn:=by simpa using hp
  exact⟨keep p.1 p.2 (fun z=>(new _ z).1.2.2 p ka rfl) (fun z=>(o.mem.mp z).elim ne nf) e,n,ne,nf,d⟩
 ·refine(I.hok b u e).stay (fun c v hc q=>?_) (fun _ q=>q) fun _ _ q _=>q;have tr:∃u,H c=some u:=by
   rcases hc with rfl|hc
   ·exact⟨u,e⟩
   ·exact⟨_,hc⟩
  obtain⟨u',tr⟩:=tr;refine keep c v (fun z=>?_) (fun z=>?_) q
  ·rw[(new c z).1.1]at tr;cases tr
  ·rw[I.stkFree c z]at tr;cases tr
def xex{a0 head:Value}{kg:Bool}(o:Own X)(kf:A'.frames=some X.stack)(I:Inv X [] σ H s)
  (he:s.heap.get? a=some oe) (hd:oe.data= .fields vs) (h0:vs[0]? =some a0) (h1:1<vs.size) (h2:n=true->vs[2]? =some .none) (hn:Nu X H a)
  (h:∀s',Inv X [] σ H s'->xbI n X (bz X.env.locals) H s'.heap a oe.cls oe.dict->Q () s'):
  wpAny M A' (do let f <-frameOf X.env;let pl <-entryPlaceOf X.env.locals kg;let b <-iH head f .none (bz X.env.locals) .none pl;setField (.ref a) 1 b) Q E s:=by
 have j9:s.heap.FunFrames X.base (X.env::X.outer):=by have:=I.stack;rwa [o.st]at this
 have j8:∀b,b∈(X.env::X.outer).filterMap (·.frame)↔b∈frs X.stack:=fun b=>by rw[o.st];rfl
 have ke:a∉frs X.stack:=fun z=>by
  refine L2.oG fun gq kq=>?_;obtain⟨_,u,hu,kd⟩:=j9.mem ((j8 a).mpr z);refine kq ?_;rw[he]at hu;injection hu with hu;subst hu;exact kd vs hd
 refine aa (wpAny_frameOf_fun (by rw[kf,o.st]) j9 o.fr fun g1 so=>?_);refine aa (wpAny_entryPlaceOf fun pl kc=>?_);unfold iH newFields;refine aa (bO ?_ (kc.sizeOk5 _ _ _ _ _));have kb:g1.get? a=some oe:=(so.2.1 a fun z=>ke ((j8 a).mp z)).trans he;generalize hT:({cls:=.type "traceback",dict:=none,data:=.fields ([head,.ref X.env.locals,.none,bz X.env.locals,.none]++(if pl.isEmpty then aK 6 a7 else pl)).toArray}:Obj)=ot;have ka:=af (h:=g1) ot kb;refine eJ ka hd h1 ?_;have neT:g1.objs.size≠a:=fq (au kb);have d3:=eo hd (·.setIfInBounds 1 (aF g1.objs.size));have a3:=br (cR (·.setIfInBounds 1 (aF g1.objs.size))) ka (fg d3);have t3:((g1.push ot).update a (cR (·.setIfInBounds 1 (aF g1.objs.size)))).get? g1.objs.size=some ot:=(aV _ _ (aL neT)).trans (aI g1 (by rw[<-hT];rfl));have kp:∀b u,b≠a->g1.get? b=some u->((g1.push ot).update a (cR (·.setIfInBounds 1 (aF g1.objs.size)))).get? b=some u:=fun b u nb e=>
  (aV _ _ (aL nb)).trans (af _ e)
 have old:∀b u,s.heap.get? b=some u->b≠g1.objs.size:=fun b u e=>aJ (by rw[so.1];exact au e);have nT:Nu X H g1.objs.size:=by
  refine⟨I.hok.fresh (by rw[so.1];exact aq _),?_,fun p hp z=>old p.1 p.2 (I.pin p (by simpa using hp)).1 z⟩;exact dB (by rw[so.1];exact I.sz)
 have J:Inv X [] σ H {s with heap:=(g1.push ot).update a (cR (·.setIfInBounds 1 (aF g1.objs.size)))}:=by
  refine I.flown o (fun b=>b=a) (fun b u n nf e=>kp b u n ((so.2.1 b fun z=>nf ((j8 b).mp z)).trans e)) (fun b u n _ e=>?_) (fun b z=>?_)
  ·obtain⟨sl,e1⟩:=so.2.2 b u e;exact⟨sl,kp b _ n e1⟩
  ·subst z;exact⟨hn,fun u e=>⟨vs,by rw[he]at e;cases e;exact hd⟩⟩
 refine h _ J ?_
 ·refine⟨_,_,a0,g1.objs.size,ot,_,a3,Obj.cls_mapFields _ _,?_,d3,by rw[fi (by decide)];exact h0,by simp[h1],fun z=>by rw[fi (by decide)];exact h2 z,neT,t3,by rw[<-hT],by simp,hn,nT⟩;refine L2.oG fun gq kq=>?_;obtain⟨c,d,dt,sl⟩:=oe;refine kq ?_;cases dt<;> rfl
def xdd(o:Own X)(ka:A'.frames=some X.stack)(I:Inv X [] σ H s)(F:xmw n X H s.heap a cls dx)
  (h:∀s',Inv X [] σ H s'->xbI n X (bz X.env.locals) H s'.heap a cls dx->Q () s'):wpAny M A' (noteFrame (.ref a) X.env) Q E s:=by
 unfold noteFrame;simp only[o.fr];rcases F with⟨oe,vs,a0,he,rfl,rfl,hd,h0,h1,h2,hn⟩|⟨oe,vs,a0,T,oT,ts,he,rfl,rfl,hd,h0,h1,h2,nT,hT,j8,h3,hn,j9⟩|F
 ·refine aa (bM he hd h1 ?_);rw[if_neg (by decide)];exact xex o ka I he hd h0 (cD.mp h1).1 h2 hn h
 ·refine aa (bM he hd h1 ?_);rw[if_pos (by simp:(aF T != a7)=true)];refine aa (bM hT j8 h3 ?_);rw[if_neg (by simp[bz]:¬((a7==bz X.env.locals)=true))];refine aa (eJ hT j8 (cD.mp h3).1 ?_);have ot:∀b,b≠T->(s.heap.update T (cR (·.setIfInBounds 3 a7))).get? b=s.heap.get? b:=fun b nb=>aV _ _ (aL nb);have I':Inv X [] σ H {s with heap:=s.heap.update T (cR (·.setIfInBounds 3 a7))}:=by
   refine I.flown o (fun b=>b=T) (fun b u n _ e=>(ot b n).trans e) (fun b u n _ e=>⟨u.slots,(ot b n).trans e⟩) (fun b z=>?_);subst z;exact⟨j9,fun u e=>⟨ts,by rw[hT]at e;cases e;exact j8⟩⟩
  exact xex o ka I' ((ot a (aL nT)).trans he) hd h0 (cD.mp h1).1 h2 hn h
 ·refine L2.oG fun gq kq=>?_;obtain⟨oe,vs,a0,T,oT,ts,he,hc,hx,hd,h0,h1,h2,nT,hT,j8,h3,hn,j9⟩:=id F;refine kq ?_;refine aa (bM he hd h1 ?_);rw[if_pos (by simp:(aF T != a7)=true)];refine aa (bM hT j8 h3 ?_);rw[if_pos (by simp:(bz X.env.locals==bz X.env.locals)=true)];exact ak (h s I F)
def vb{fl:Value}{to:Option Addr}(o:Own X)(I:Inv X [] σ H s)(F:xbI n X fl H s.heap a cls dx)
  (h:∀s',Inv X [] σ H s'->xbI n X (to.elim .none fun f=>bz f) H s'.heap a cls dx->Q () s'):wpAny M A' (setFlight (.ref a) to) Q E s:=by
 obtain⟨oe,vs,a0,T,oT,ts,he,rfl,rfl,hd,h0,h1,h2,nT,hT,j8,h3,hn,j9⟩:=F;unfold setFlight;refine aa (bM he hd h1 ?_);rw[if_pos (by simp:(aF T != a7)=true)];have z3:=(cD.mp h3).1;have ot:∀b,b≠T->(s.heap.update T (cR (·.setIfInBounds 3 (to.elim a7 fun f=>bz f)))).get? b=s.heap.get? b:=fun b nb=>aV _ _ (aL nb);have d3:=eo j8 (·.setIfInBounds 3 (to.elim a7 fun f=>bz f));refine eJ hT j8 z3 (h _ (I.flown o (fun b=>b=T) (fun b u n _ e=>(ot b n).trans e) (fun b u n _ e=>⟨u.slots,(ot b n).trans e⟩) fun b z=>?_) ?_)
 ·subst z;exact⟨j9,fun u e=>⟨ts,by rw[hT]at e;cases e;exact j8⟩⟩
 ·exact⟨oe,vs,a0,T,_,_,(ot a (aL nT)).trans he,rfl,rfl,hd,h0,h1,h2,nT,br _ hT (fg d3),d3,by simp[z3],hn,j9⟩
def xbJ(o:Own X)(j8:A'.frames=some X.stack)(I:Inv X [] σ H s)(F:xmw n X H s.heap a cls dx)
  (h:∀s',Inv X [] σ H s'->xbI n X .none H s'.heap a cls dx->Q () s'):wpAny M A' (leaving X.env (.ref a)) Q E s:=by
 unfold leaving;exact aa (xdd o j8 I F fun s1 I1 F1=>vb (to:=none) o I1 F1 h)
def PassesOwn.xe(o:Own X):PassesOwn (model X.prog X.w) X.A X.env (XEG n X EE):=by
 rintro e s' ⟨a,cls,dx,σ,H,rfl,I,F,q⟩;refine xdd o I.ok.frames I F fun s1 I1 F1=>?_;unfold cameBackBy;obtain⟨oe,vs,a0,T,oT,ts,he,hc,hx,hd,h0,h1,_⟩:=id F1;refine aa (bM he hd h1 ?_);rw[if_neg (by simp)];refine vb (to:=X.env.frame) o I1 F1 fun s2 I2 F2=>⟨a,cls,dx,σ,H,rfl,I2,.inr (.inr ?_),q⟩;rw[o.fr]at F2;exact F2
def CXG(n:Bool)(P:aX)(w:World):CXT:=fun outer H s E e s'=>∃a cls dx H' oe vs a0 T oT ts,e= .ref a/\s'.os=s.os/\eE s'.gens/\Un (frs outer) [] H H' s.heap s'.heap/\HOk P w H' s'.heap/\
 s'.heap.get? a=some oe/\oe.cls=cls/\oe.dict=dx/\oe.data= .fields vs/\vs[0]? =some a0/\vs[1]? =some (.ref T)/\(n=true->vs[2]? =some .none)/\T≠a/\s'.heap.get? T=some oT/\oT.data= .fields ts/\ts[3]? =some .none/\
 H' a=none/\s.heap.get? a=none/\H' T=none/\s.heap.get? T=none/\E cls dx H'
def xhd{CX:CXT}{sc:Scope}{cd:Value}{outer:List Env}{E:XK}:
  Own (uJ CX P w K mg base N qual sc f cd A outer s H E):=⟨rfl,rfl,rfl⟩
def PSs.wished{st:List Stmt}{t:TS}(h:PSs (X.wish E) st t)(hE:∀e s,E e s->X.xe e s):PSs X st t:=fun pins s σ H D I hw=>
 aN (h pins s σ H D (I.wish _) hw) (fun _ _ q=>q.unwish) hE
abbrev cxG(n:Bool)(P:aX)(w:World)(K:ay)(mg:Str->Option Value)(base:Heap)(N:List Str)(qual:Str)(sc:Scope)(f:Addr)(cd:Value)(A:bc)(outer:List Env)(s:ai)(H:Hp)(E:XK):Cx:=
 (uJ (CXG n P w) P w K mg base N qual sc f cd A outer s H E).wish (XEG n (uJ (CXG n P w) P w K mg base N qual sc f cd A outer s H E) fun _=>E)
def Fun.okX{k:Nat}(F:Fun K x qual st f fd)(S:xo N ps (xg st))(len:∀vs H Q E,sp vs H Q E->vs.length=ps.length)
  (j8:∀(j9:Value) (A:bc) (outer:List Env) (s:ai) (H:Hp) (vs:List V) (Q:VK) (E:XK),xI k (A.deeper (cZ qual (xg st) s.heap.objs.size f j9))->sp vs H Q E->
   ∃t,PSs (cxG n P w K mg base N qual (xg st) f j9 A outer s H E) (xM st) t/\t {nx:=fun _ H'=>Q .non H',rt:=Q} (start N vs) H):xt P w K mg base (CXG n P w) (k+1) f fd ps sp:=by
 obtain⟨oc,od,kV,doc,pm,an,j9,ct,osl,rfl,lk,kd⟩:=F.ex;refine xgO lk kd S len fun A outer s H vs Q E hr kb=>?_;obtain⟨t,h,q⟩:=j8 j9 A outer s H vs Q E hr kb;refine⟨t,h.wished fun e s' ⟨a,cls,dx,σ,H',he,I,Fl,z⟩=>?_,q⟩;subst he;refine xbJ xhd I.ok.frames I Fl fun s2 I2 F2=>?_;obtain⟨oe,vs,a0,T,oT,ts,he,hc,hx,hd,h0,h1,h2,nT,hT,kc,h3,hn,ka⟩:=F2;exact⟨a,cls,dx,H',oe,vs,a0,T,oT,ts,rfl,I2.os,I2.bare,I2.base,I2.hok,he,hc,hx,hd,h0,h1,h2,nT,hT,kc,h3,hn.1,hn.2.1,ka.1,ka.2.1,z⟩
section
theorem xjX{e:Value}(o:Own X)(I:Inv (X.wish (XEG n X EE)) pins σ H s)(h:CXG n X.prog X.w X.stack H s (EE σ) e s'):XEG n X EE e s':=by
 refine L2.oG fun gq kq=>?_;obtain⟨a,cls,dx,H',oe,vs,a0,T,oT,ts,rfl,os,bare,un,hok,he,hc,hx,hd,h0,h1,h2,nT,hT,j8,h3,n1,n2,n3,n4,q⟩:=h;refine kq ?_;have I0:Inv X pins σ H s:=I.unwish;have I1:Inv X pins σ H' s':=I0.call' os un hok bare fun b z=>absurd z (by simp);have nu:∀b,H' b=none->s.heap.get? b=none->Nu X H' b:=fun b m1 m2=>by
  refine⟨m1,?_,fun p hp z=>?_⟩
  ·cases q:X.s₀.heap.get? b with
   |none=>rfl
   |some u=>
    obtain⟨u',e⟩:=I0.base.there b u q (by rw[o.ex];simp);rw[m2]at e;cases e
  ·have:=(I0.pin p (a8 _ hp)).1;rw[z,m2]at this;cases this
 exact⟨a,cls,dx,σ,H',rfl,I1.nopins,.inr (.inl ⟨oe,vs,a0,T,oT,ts,he,hc,hx,hd,h0,h1,h2,nT,hT,j8,h3,nu a n1 n2,nu T n3 n4⟩),q⟩
variable {k:Nat} {dvs:List V} {m:Str} {pos apos:Pos} {ob:Expr}
theorem xe8{Q:VK}{us:List Value}{vs:List V}(o:Own X)(F:xt X.prog X.w X.K X.mg X.base (CXG n X.prog X.w) k f fd ps sp)(hr:xI k X.A)(hb:Binds X.K fd ps ds)(hd:Vals dvs ds)
  (I:Inv (X.wish (XEG n X EE)) pins σ H s) (r:Vals vs us) (h:sp (vs++dvs) H Q (EE σ)):wpAny (model X.prog X.w) X.A (call (.ref f) us) (EP (X.wish (XEG n X EE)) pins σ Q) (XEG n X EE) s:=by
 have r2:Vals (vs++dvs) (us++ds):=r.append hd;have hl:(us++ds).length=ps.length:=r2.length.symm.trans (F.len _ _ _ _ h);refine cF (b9 (F.run X.A X.stack s H ⟨us,[]⟩ (us++ds) (vs++dvs) Q (EE σ) hr I.unwish.env0 (hb s us I.unwish.kIn hl) r2 h) fun z s' hq=>?_)
 match z,hq with
 | .error e,hq=>exact xjX o I hq
 | .ok (.ret u),hq=>exact I.after hq
 | .ok .next,hq=>exact hq.elim
 | .ok .brk,hq=>exact hq.elim
 | .ok .cont,hq=>exact hq.elim
def xpn(sp:Sp)(dvs:List V)(EE:EEs)(t:TA):TE:=fun σ H Q=>t σ H fun vs H1=>sp (vs++dvs) H1 Q (EE σ)
def vJ(o:Own X)(F:xt X.prog X.w X.K X.mg X.base (CXG n X.prog X.w) k f fd ps sp)(hr:xI k X.A)(hg:Gl X x)(hm:X.mg x=some (.ref f))(hk:bU X.K (.ref f)=true)(hb:Binds X.K fd ps ds)(hd:Vals dvs ds)
  (ha:PA (X.wish (XEG n X EE)) (e::es) t) (j9:(x==("__debug__":Str))=false:=by decide) (he:aD (e::es) X.env=(false,eval e X.env)::aD es X.env:=by rfl) (j8:(bB pos (aD es X.env)).any (·.1)=false:=by rfl):
  PE (X.wish (XEG n X EE)) (.Call (.Name x p) (e::es) [] pos) (xpn sp dvs EE t):=by
 intro pins s σ H Q I h;refine bC (yR I hg hm ?_ j9);refine du (h₀:=X.base) I.ok.mod.kin hk (thn (ha pos pins s σ H _ I h) fun us s1 ⟨vs,H1,I1,r,q⟩=>⟨I1.kIn,xe8 o F hr hb hd I1 r q⟩) he j8
end
abbrev XE(X:Cx)(EE:EEs):=XEG false X EE
abbrev CXE(P:aX)(w:World):CXT:=CXG false P w
def xbK:List Value:=[.type "ValueError",.type "Exception",.type "BaseException",.type "object"]
def xdY(K:ay)(C:Addr):Prop:=W.excIn K C xbK "ValueError.__new__"=true
def xdY.obj(q:xdY K C)(X:K.In h):∃bm N nm qn bs hdct sn sub ab col dd k0 k1 k2 k3 k5,
  h.get? C=some (dO nm qn C N bs bm hdct sn sub ab col dd k0 k1 k2 k3 k5 "ValueError.__new__")/\h.Ns N (h.nsMap N)/\h.nsMap N "__init__"=none/\OwnTail h xbK bm:=by
 unfold xdY W.excIn at q
 split at q
 ·rename_i dd cd sl ho
  split at q
  ·rename_i C' bm k0 k1 k2 k3 n k5 hm hs;simp only[bx,beq_iff_eq,eO]at q;refine L2.oG fun gq kq=>?_;obtain⟨⟨⟨⟨⟨rfl,rfl⟩,j8⟩,ht⟩,hok⟩,j9⟩:=q;obtain⟨nm,bs,mro,ns,qn,hd,sn,sub,ab,col,del⟩:=cd;obtain⟨l⟩:=sl;refine kq ?_;dsimp only at hm j8 hok j9 hs;subst hm j8 hs;exact⟨bm,ns,nm,qn,bs,hd,sn,sub,ab,col,dd,k0,k1,k2,k3,k5,X _ _ ho,.of_isNs (W.isNs_of_in X hok),W.nsMap_none_of_in X hok j9,W.tail_of_in X ht⟩
  ·cases q
 ·cases q
theorem xR.here{o:HO}(x:xR P w H h a o):∃u,h.get? a=some u:=by
 cases o with
 |lst xs=>obtain⟨_,_,_,_,e⟩:=x;exact⟨_,e⟩
 |tup xs=>obtain⟨_,_,_,u,e,_⟩:=x;exact⟨_,e⟩
 |dK kvs=>obtain⟨_,_,_,_,o,_,_,e,_⟩:=x;exact⟨_,e⟩
 |dT kvs=>obtain⟨_,_,_,_,o,_,_,e,_⟩:=x;exact⟨_,e⟩
 |set S n=>obtain⟨o,_,_,_,e,_⟩:=x;exact⟨_,e⟩
 |ins C dx fs=>obtain⟨_,_,_,e,_⟩:=x;exact⟨_,e⟩
 |own y=>exact x
 |xd fs=>obtain⟨_,⟨_,_,_,e,_⟩,_⟩:=x;exact⟨_,e⟩
 |rng lo hi=>obtain⟨_,_,_,e⟩:=x;exact⟨_,e⟩
 |frz ob u=>obtain⟨e,_⟩:=x;exact⟨_,e⟩
 |tbl qs=>obtain⟨_,e,_⟩:=x;exact⟨_,e⟩
 |cel v=>obtain⟨_,⟨_,e,_⟩,_⟩:=x;exact⟨_,e⟩
 |met f y=>exact⟨_,x⟩
 |ext φ=>exact x.2.1
section
theorem xno(o:Own X)(I:Inv X pins σ H s){b:Addr}(m:s.heap.get? b=none):Nu X H b:=by
 refine⟨?_,?_,fun p hp z=>?_⟩
 ·cases q:H b with
  |none=>rfl
  |some u=>
   obtain⟨v,e⟩:=(I.hok b u q).here;rw[m]at e;cases e
 ·cases q:X.s₀.heap.get? b with
  |none=>rfl
  |some u=>
   obtain⟨u',e⟩:=I.base.there b u q (by rw[o.ex];simp);rw[m]at e;cases e
 ·have:=(I.pin p (a8 _ hp)).1;rw[z,m]at this;cases this
def xpo(C:Addr)(EE:EEs)(t:TA):TS:=fun _ σ H=>t σ H fun vs H1=>vs.length<=ax/\EE σ (.ref C) none H1
def jT{pos:Pos}(o:Own X)(hc:X.calm=true)(q:xdY X.K C)(hg:Gl X x)(hm:X.mg x=some (.ref C))(ha:PA (X.wish (XEG n X EE)) (e::es) t)
  (kb:(x==("__debug__":Str))=false:=by decide) (he:aD (e::es) X.env=(false,eval e X.env)::aD es X.env:=by rfl) (j9:(bB cpos (aD (e::es) X.env)).any (·.1)=false:=by rfl):
  PS (X.wish (XEG n X EE)) (.Raise (some (.Call (.Name x np) (e::es) [] cpos)) none pos) (xpo C EE t):=by
 intro pins s σ H D I h;obtain⟨bm,N,nm,qn,bs,hdct,sn,sub,ab,col,dd,k0,k1,k2,k3,k5,hC,hN,ka,TL⟩:=q.obj I.ok.mod.kin;refine wpAny_Raise_call_subT (C:=C) (N:=N) (bm:=bm) (nm:=nm) (q:=qn) (bs:=bs) (hdct:=hdct) (sn:=sn) (sub:=sub) (ab:=ab) (col:=col) (dd:=dd) (k0:=k0) (k1:=k1) (k2:=k2) (k3:=k3) (k5:=k5) PySem.F.excBase_ValueError (TL.hasType PySem.F.excBase_ValueError.hasBase) (I.ok.hd hc) j9 ka (yR I hg hm ⟨rfl,?_⟩ kb);have j8:=ha cpos pins s σ H _ I h;rw[he]at j8;show wpAny (model X.prog X.w) X.A (evalArgs (.ref C) true (bB cpos (aD (e::es) X.env)) []) _ _ s;rw[he];refine PySem.evalArgs_kw (keywords:=[]) rfl ?_;refine thn j8 fun us s1 ⟨vs,H1,I1,r,z,y⟩=>?_;refine ak ?_;refine⟨rfl,by rw[<-r.length];exact z,I1.bk _ _ hC,hN.keeps I1.bk,TL.keeps I1.bk,fun h' a mk=>?_⟩;obtain⟨t0,ea,_,_⟩:=mk.there;have I2:Inv X pins σ H1 {s1 with heap:=h'}:=I1.unwish.kept (t':=s1.toks) mk.keeps;exact⟨a,.ref C,none,σ,H1,rfl,I2.nopins,.inl ⟨_,_,.ref t0,ea,rfl,rfl,rfl,rfl,rfl,fun _=>rfl,xno o I1.unwish mk.new⟩,y⟩
abbrev Cx.pnd(X:Cx)(ps:List (Addr×Obj)):Cx:={X with pn:=X.pn++ps}
abbrev Cx.held(X:Cx)(a:Addr)(ps:List (Addr×Obj)):Cx:={X with A:=X.A.mark (some (.ref a)),calm:=false,xe:=fun _ _=>False,pn:=X.pn++ps}
def Cx.Ok.pnd{ps:List (Addr×Obj)}(ok:X.Ok):(X.pnd ps).Ok:=
 ⟨ok.mod,ok.kind,ok.glob,ok.blt,ok.above,ok.inj,ok.has,ok.cab,ok.hd,ok.frames,ok.stk,ok.exf,ok.bs,ok.bsz,ok.noex,ok.exfs,ok.funs,ok.frf,ok.cab2,ok.hz⟩
def Cx.Ok.held{ps:List (Addr×Obj)}(ok:X.Ok):(X.held a ps).Ok:=
 ⟨ok.mod,ok.kind,ok.glob,ok.blt,ok.above,ok.inj,ok.has,ok.cab,(fun z=>by cases z),ok.frames,ok.stk,ok.exf,ok.bs,ok.bsz,ok.noex,ok.exfs,ok.funs,ok.frf,ok.cab2,ok.hz⟩
def Own.pnd{ps:List (Addr×Obj)}(o:Own X):Own (X.pnd ps):=⟨o.ex,o.st,o.fr⟩
section
variable {ps:List (Addr×Obj)}
def Inv.pnd(I:Inv X pins σ H s):Inv (X.pnd pins) [] σ H s:=
 ⟨I.ok.pnd,I.os,I.bare,I.base,I.loc,I.cell,I.free,I.freeC,fun p hp=>I.pin p (by simpa using hp),I.hok,I.len⟩
def Inv.unpnd(ok:X.Ok)(I:Inv (X.pnd pins) qs σ H s):Inv X pins σ H s:=
 ⟨ok,I.os,I.bare,I.base,I.loc,I.cell,I.free,I.freeC,fun p hp=>I.pin p (a8 _ hp),I.hok,I.len⟩
theorem SP.unpnd(ok:X.Ok){f:Flow}(h:SP (X.pnd pins) qs D f s'):SP X pins D f s':=by
 cases f with
 |next=>obtain⟨σ',H',I,q⟩:=h;exact⟨σ',H',I.unpnd ok,q⟩
 |brk=>obtain⟨σ',H',I,q⟩:=h;exact⟨σ',H',I.unpnd ok,q⟩
 |cont=>obtain⟨σ',H',I,q⟩:=h;exact⟨σ',H',I.unpnd ok,q⟩
 |ret u=>obtain⟨v,σ',H',I,r,q⟩:=h;exact⟨v,σ',H',I.unpnd ok,r,q⟩
def Inv.held(I:Inv (X.pnd pins) [] σ H s)(ok:X.Ok)(he:s.heap.get? a=some oe)(hn:H a=none)(hd:oe.data= .fields vs):Inv (X.held a (pins++[(a,oe)])) [] σ H s:=by
 refine⟨ok.held,I.os,I.bare,I.base,I.loc,I.cell,I.free,I.freeC,fun p hp=>?_,I.hok,I.len⟩;have j8:p∈X.pn++pins\/p=(a,oe):=by
  have:p∈(X.pn++(pins++[(a,oe)]))++[]:=hp;rw[cY,<-eM]at this;rcases bL.mp this with z|z
  ·exact .inl z
  ·exact .inr (ao.mp z)
 rcases j8 with j8|rfl
 ·exact I.pin p (a8 _ j8)
 ·refine⟨he,hn,fun z=>?_,fun z=>?_,fun v z=>?_⟩
  ·obtain⟨m,⟨u,es,ep,e,d⟩,_⟩:=I.loc;have z':a=X.env.locals:=z;rw[z']at he;rw[show s.heap.get? X.env.locals=some u from e]at he;cases he;rw[d.1]at hd;cases hd
  ·obtain⟨_,u,hu,ka⟩:=I.funs.mem z;have j9:s.heap.get? a=some u:=hu;rw[he]at j9;cases j9;exact ka vs hd
  ·have z':oe.data= .cell v:=z;rw[hd]at z';cases z'
def Inv.unheld(ok:X.Ok)(I:Inv (X.held a (pins++[(a,oe)])) qs σ H s):Inv X pins σ H s:=
 ⟨ok,I.os,I.bare,I.base,I.loc,I.cell,I.free,I.freeC,fun p hp=>I.pin p (by
  show p∈(X.pn++(pins++[(a,oe)]))++qs;rcases bL.mp hp with z|z
  ·exact a8 _ (a8 _ z)
  ·exact a8 _ (bb _ (a8 _ z))),I.hok,I.len⟩
theorem SP.unheld(ok:X.Ok){f:Flow}(h:SP (X.held a (pins++[(a,oe)])) qs D f s'):SP X pins D f s':=by
 cases f with
 |next=>obtain⟨σ',H',I,q⟩:=h;exact⟨σ',H',I.unheld ok,q⟩
 |brk=>obtain⟨σ',H',I,q⟩:=h;exact⟨σ',H',I.unheld ok,q⟩
 |cont=>obtain⟨σ',H',I,q⟩:=h;exact⟨σ',H',I.unheld ok,q⟩
 |ret u=>obtain⟨v,σ',H',I,r,q⟩:=h;exact⟨v,σ',H',I.unheld ok,r,q⟩
end
structure xe9(K:ay)(C':Addr):Prop where
 base:gm K C' (.type "BaseException")=some true
theorem xey{b:Bool}{Q:Bool->ai->Prop}(KX:K.In s.heap)(he:s.heap.get? a=some oe)(j8:oe.cls= .ref C)
  (hk:a6 K (.ref C) (.ref C')=some b) (hb:xe9 K C') (hq:Q b s):wpAny M A' (excMatches (.ref a) (.ref C')) Q E s:=by
 obtain⟨l1,l2,l3⟩:=W.kit_cls (M:=M) KX hk;have l4:=W.looks_mroIn (M:=M) KX hb.base;have kk:∀b o,s.heap.get? b=some o->s.heap.get? b=some o:=fun _ _ e=>e;unfold excMatches ir;refine aa (aa (l1 _ _ _ s kk ?_));refine fJ tc_notTuple ?_;simp only[c8,if_false];refine aa (ak ?_);simp only[List.forIn_cons,List.forIn_nil];unfold isExcClass;refine aa (aa (aa (aa (l2 _ _ _ s kk ?_))));simp only[if_true];refine l4 _ _ _ s kk ?_;simp only[Bool.not_true,c8,if_false];refine ak (ak ?_);have lt:wpAny M A' (typeOf (.ref a)) (fun v s'=>v=oe.cls/\s'=s) E s:=by
  unfold typeOf;exact aa (fD he (ak ⟨rfl,rfl⟩))
 refine aa (aN lt (fun v s' z=>?_) fun _ _ x=>x);obtain⟨rfl,rfl⟩:=z;rw[j8];refine aa (aa (aa (l3 _ _ _ s' kk ?_)));cases b with
 |true=>exact ak (ak (ak hq))
 |false=>exact ak (ak (ak hq))
def xnp(K:ay)(C':Addr)(ts:Addr->Value->TS)(D:Ends):EEs:=fun σ cls _ H=>∃C,cls= .ref C/\a6 K (.ref C) (.ref C')=some true/\∀a,H a=none->ts a cls D σ H
def xqZ(K:ay)(C':Addr)(tb:EEs->TS)(ts:Addr->Value->TS):TS:=fun D σ H=>tb (xnp K C' ts D) D σ H
theorem xld{y:Str}{hp pos:Pos}{body j8:List Stmt}{b₀:Stmt}{tb:EEs->TS}{ts:Addr->Value->TS}(o:Own X)(hb:xe9 X.K C')(hg:Gl X y)(hm:X.mg y=some (.ref C'))
  (ka:∀(EE:EEs) (ps:List (Addr×Obj)),PSs ((X.pnd ps).wish (XE (X.pnd ps) EE)) body (tb EE)) (j9:∀(ps:List (Addr×Obj)) (a:Addr) (cls:Value),PSs (X.held a ps) (b₀::j8) (ts a cls))
  (kh:(y==("__debug__":Str))=false:=by decide):PS X (.Try body [.ExceptHandler (some (.Name y np)) none (b₀::j8) hp] [] [] pos) (xqZ X.K C' tb ts):=by
 intro pins s σ H D I h;have ok:=I.ok;refine wpAny_Try_except (aN (ka (xnp X.K C' ts D) pins [] s σ H D (I.pnd.wish _) h) (fun f s1 hq=>?_) fun e s1 hx=>?_)
 ·have kb:SP X pins D f s1:=(SP.unwish hq).unpnd ok;cases f with
  |next=>exact cV kb
  |brk=>exact kb
  |cont=>exact kb
  |ret u=>exact kb
 ·refine L2.oG fun gq kq=>?_;obtain⟨a,cls,dx,σ1,H1,rfl,I1,F1,C,rfl,hk,q⟩:=hx;refine kq ?_;refine xdd (X:=X.pnd pins) o.pnd ok.frames I1 F1 fun s2 I2 F2=>?_;refine vb (X:=X.pnd pins) (to:=none) o.pnd I2 F2 fun s3 I3 F3=>?_;refine wpAny_handleBy_cons (codeAny_handlers_test ?_) (by intro z;cases z);refine L2.oG fun gq kq=>?_;obtain⟨oe,vs,a0,T,oT,kn,he,hc,hx,hd,h0,h1,h2,nT,hT,kz,h3,hn,ky⟩:=id F3;refine kq ?_;have J3:=Inv.held I3 ok he hn.1 hd;refine yR J3 hg hm ?_ kh;refine xey (K:=X.K) I3.kIn he hc hk hb ?_;refine codeAny_handlers_suite ?_;refine vb (X:=X.pnd pins) (to:=none) o.pnd I3 F3 fun s4 I4 F4=>?_;refine L2.oG fun gq kq=>?_;obtain⟨ke,km,kH,T',ko,kd,kg,kA,ku,kj,kF,kE,kD,kr,kB,ki,kC,kc,kf⟩:=id F4;refine kq ?_;have J4:=Inv.held I4 ok kg kc.1 kj;refine aN (j9 (pins++[(a,ke)]) a (.ref C) [] s4 σ1 H1 D J4 (q a kc.1)) (fun f s5 hq=>?_) fun _ _ z=>z.elim;exact hq.unheld ok
end
def yB:Passes (CXG n P w) X E0:=fun _ _ _ _ _ _ _ h=>by
 obtain⟨_,_,_,_,_,_,_,_,_,_,_,_,_,_,_,_,_,_,_,_,_,_,_,_,_,_,_,_,_,_,z⟩:=h;exact z.elim
def Ends.gone(D:Ends)(i:Nat):Ends:={nx:=fun σ H=>D.nx (σ.set i none) H,rt:=D.rt,bk:=fun σ H=>D.bk (σ.set i none) H,ct:=fun σ H=>D.ct (σ.set i none) H}
def xfa(K:ay)(C':Addr)(i:Nat)(ts:Addr->Value->Option Addr->TS)(D:Ends):EEs:=fun σ cls dx H=>∃C,cls= .ref C/\a6 K (.ref C) (.ref C')=some true/\∀a,H a=none->ts a cls dx (D.gone i) (σ.set i (some (.ref a))) H
def xpp(K:ay)(C':Addr)(i:Nat)(tb:EEs->TS)(ts:Addr->Value->Option Addr->TS):TS:=fun D σ H=>tb (xfa K C' i ts D) D σ H
def xde{n:Str}{pos:Pos}(I:Inv X pins σ H s)(hN:X.N.Nodup)(hi:X.N[i]? =some n)(hk:X.env.kindOf n=some .local)
  (h:∀s',Inv X pins (σ.set i none) H s'->Q () s'):wpAny M A' (do bindName X.env n .none;unbindBehindTheSuite X.env n pos) Q E s:=by
 obtain⟨m,hn,hl⟩:=id I.loc;refine wpAny_nameGoes_keeps hk hn (by rw[I.ok.kind];rfl) fun h' v kc hs=>h _ ?_;have j9:∀b u,X.s₀.heap.get? b=some u->b≠X.env.locals:=fun b u e=>aJ (aA (au e) I.ok.above);obtain⟨oL,_,_,ke,_⟩:=id hn;refine⟨I.ok,I.os,I.bare,⟨fun b o e n hb hx=>?_,fun b o e n hb hx=>?_,I.base.free,fun b o e hx=>?_,I.base.fix⟩,⟨_,kc,fun j y v' e1 e2 e3=>?_⟩,fun y c e=>?_,I.free,fun y c e=>?_,fun p hp=>?_,fun b u e=>?_,by simpa using I.len⟩
 ·exact(hs.2 b (j9 b o e)).trans (I.base.keep b o e n hb hx)
 ·obtain⟨sl,e1⟩:=I.base.slot b o e n hb hx;exact⟨sl,(hs.2 b (j9 b o e)).trans e1⟩
 ·obtain⟨o',e1⟩:=I.base.there b o e hx;exact⟨o',(hs.2 b (j9 b o e)).trans e1⟩
 ·have hj:j≠i:=fun z=>by
   rw[z]at e2
   by_cases j8:i<σ.length
   ·rw[cn j8]at e2;cases e2
   ·rw[hI (by simpa using j8)]at e2;cases e2
  rw[bN (aL hj)]at e2;obtain⟨u',r',q⟩:=hl j y v' e1 e2 e3;refine⟨u',r',q.imp (fun⟨k,e⟩=>⟨k,?_⟩) fun⟨k,c,e,z⟩=>⟨k,c,e,z.sameBut hs (I.cne y c e)⟩⟩;have:y≠n:=fun e=>hj (jL hN e1 (e▸hi));simp[this,e]
 ·obtain⟨w',z⟩:=I.cell y c e;exact⟨w',z.sameBut hs (I.cne y c e)⟩
 ·refine(I.freeC y c e).imp id fun⟨kd,o',ka,kb⟩=>⟨kd,o',ka,fun z j v' e1 k e2=>?_⟩;have hj:j≠i:=fun z=>by
   rw[z]at e2
   by_cases j8:i<σ.length
   ·rw[cn j8]at e2;cases e2
   ·rw[hI (by simpa using j8)]at e2;cases e2
  rw[bN (aL hj)]at e2;exact kb z j v' e1 k e2
 ·obtain⟨e,n,ne,nf,d⟩:=I.pin p hp;exact⟨(hs.2 p.1 ne).trans e,n,ne,nf,d⟩
 ·refine(I.hok b u e).stay (fun c w' hc q=>(hs.2 c ?_).trans q) (fun _ q=>q) fun _ _ q _=>q;rintro rfl;rcases hc with rfl|hc
  ·rw[I.free]at e;cases e
  ·rw[I.free]at hc;cases hc
theorem xmx{y n:Str}{hp pos:Pos}{body j9:List Stmt}{b₀:Stmt}{tb:EEs->TS}{ts:Addr->Value->Option Addr->TS}(o:Own X)(hb:xe9 X.K C')(hg:Gl X y)(hm:X.mg y=some (.ref C'))(hN:X.N.Nodup)(hi:X.N[i]? =some n)(hk:X.env.kindOf n=some .local)
  (kb:∀(EE:EEs) (ps:List (Addr×Obj)),PSs ((X.pnd ps).wish (XE (X.pnd ps) EE)) body (tb EE)) (ka:∀(ps:List (Addr×Obj)) (a:Addr) (cls:Value) (dx:Option Addr),(∃oe:Obj,(a,oe)∈ps/\oe.cls=cls/\oe.dict=dx/\∃vs,oe.data= .fields vs)->PSs (X.held a ps) (b₀::j9) (ts a cls dx))
  (km:(y==("__debug__":Str))=false:=by decide):PS X (.Try body [.ExceptHandler (some (.Name y np)) (some n) (b₀::j9) hp] [] [] pos) (xpp X.K C' i tb ts):=by
 intro pins s σ H D I h;have ok:=I.ok;refine wpAny_Try_except (aN (kb (xfa X.K C' i ts D) pins [] s σ H D (I.pnd.wish _) h) (fun f s1 hq=>?_) fun e s1 hx=>?_)
 ·have j8:SP X pins D f s1:=(SP.unwish hq).unpnd ok;cases f with
  |next=>exact cV j8
  |brk=>exact j8
  |cont=>exact j8
  |ret u=>exact j8
 ·refine L2.oG fun gq kq=>?_;obtain⟨a,cls,dx,σ1,H1,rfl,I1,F1,C,rfl,ki,q⟩:=hx;refine kq ?_;refine xdd (X:=X.pnd pins) o.pnd ok.frames I1 F1 fun s2 I2 F2=>?_;refine vb (X:=X.pnd pins) (to:=none) o.pnd I2 F2 fun s3 I3 F3=>?_;refine wpAny_handleBy_cons (codeAny_handlers_test ?_) (by intro z;cases z);refine L2.oG fun gq kq=>?_;obtain⟨oe,vs,a0,T,oT,ku,he,hc,hx,hd,h0,h1,h2,nT,hT,kB,h3,hn,kA⟩:=id F3;refine kq ?_;have J3:=Inv.held I3 ok he hn.1 hd;refine yR J3 hg hm ?_ km;refine xey (K:=X.K) I3.kIn he hc ki hb ?_;refine codeAny_handlers_suite_as ?_;refine vb (X:=X.pnd pins) (to:=none) o.pnd I3 F3 fun s4 I4 F4=>?_;refine L2.oG fun gq kq=>?_;obtain⟨kc,kr,kJ,T',ky,kf,kj,ko,kg,ke,kH,kF,kE,kz,kC,kn,kD,kd,kh⟩:=id F4;refine kq ?_;have J4:=Inv.held I4 ok kj kd.1 ke;refine xbz (X:=X.held a (pins++[(a,kc)])) (v:=.ref a) J4 hN hi (.inl hk) rfl (fun s5 J5=>?_) (.inr hk);refine aN (ka (pins++[(a,kc)]) a (.ref C) dx ⟨kc,by simp,ko,kg,_,ke⟩ [] s5 _ H1 (D.gone i) J5 (q a kd.1)) (fun f s6 hq=>?_) fun _ _ z=>z.elim;have j8:SP X pins (D.gone i) f s6:=hq.unheld ok;cases f with
  |next=>
   refine L2.oG fun gq kq=>?_;obtain⟨σ',H',J,z⟩:=j8;refine kq ?_;exact xde J hN hi hk fun s7 J7=>⟨_,_,J7,z⟩
  |brk=>
   refine L2.oG fun gq kq=>?_;obtain⟨σ',H',J,z⟩:=j8;refine kq ?_;exact xde J hN hi hk fun s7 J7=>⟨_,_,J7,z⟩
  |cont=>
   refine L2.oG fun gq kq=>?_;obtain⟨σ',H',J,z⟩:=j8;refine kq ?_;exact xde J hN hi hk fun s7 J7=>⟨_,_,J7,z⟩
  |ret u=>
   refine L2.oG fun gq kq=>?_;obtain⟨v,σ',H',J,r,z⟩:=j8;refine kq ?_;exact xde J hN hi hk fun s7 J7=>⟨_,_,_,J7,r,z⟩
open PySem PySem.Spec PyProof.Rows PySem.W
structure vg(K:Frag)(D:Addr):Prop where
 ga:findIn K (.ref D) "__getattribute__"=some (some (.builtin "BaseException.__getattribute__"))
 gh:findIn K (.ref D) "__getattr__"=some none
 cl:findIn K (.ref D) "__class__"=some (some (.builtin "object.__class__"))
 gt:specialIn K (.builtin "object.__class__") "__get__"=some (some (.builtin "getset_descriptor.__get__"))
 tk:takesIn K (.builtin "object.__class__")=some true
 ob:mroIn K D (.type "object")=some true
 bs:mroIn K D (.type "BaseException")=some true
 is:(clsIn K D).isSome=true
def xhe:builtinKind "BaseException.__getattribute__"=some .slot:=by kernel_rfl
def xgl:splitId "BaseException.__getattribute__"=some ("BaseException","__getattribute__"):=by kernel_rfl
section
variable {K:Frag} {x D:Addr} {od:Option Obj}
def xle{a g:Value}{name:Str}(hc:(clsIn K D).isSome=true)(ha:findIn K (.ref D) name=some (some a))(hg:specialIn K a "__get__"=some (some g))(ht:takesIn K a=some true):findObj K D od name=some (.bind g a):=by
 obtain⟨cd,hc⟩:=d9.mp hc;unfold findObj;rw[hc,j5,ha,j5];simp[hg,ht]
def xlf{Q:Option Value->ai->Prop}(F:vg K D)(X:K.In s.heap)(I:InstAt s.heap x ox D od)(h:Q (some (.ref D)) {s with toks:=s.toks+1}):wpAny (model prog w) A (getAttr? (.ref x) "__class__") Q E s:=by
 refine L2.oG fun gq kq=>?_;obtain⟨hh,g,d,t,os⟩:=s;refine kq ?_;have l0:=I.type (M:=model prog w);have l1:=looks_findIn (M:=model prog w) X F.ga;have l2:=looks_findIn (M:=model prog w) X F.gh;have l3:=looks_find (M:=model prog w) X I (xle (od:=od) F.is F.cl F.gt F.tk);unfold getAttr? getAttrBy? getAttrBy;refine aa (wpAny_mkText (aa (iE (bD (aa (l0.at (aa (l1.at ?_))))))));dsimp only;rw[if_neg (by rw[show(Value.builtin "BaseException.__getattribute__"==Value.builtin "object.__getattribute__")=false by decide,fE];exact aB)];unfold getAttrByItsOwn hookBefore;rw[if_pos (show onTheHeap (aF D)=true from rfl)];refine aa (l2.at (aa (iE (bD ?_))));unfold callGetattribute boundAndCalled;rw[if_neg (by simp)];refine aa (fJ (PySem.F.excAttr_ValueError.ga.bind (.ref x)) ?_);have li:Looks (model prog w) hh (ir (.ref x) (.type "BaseException")) true:=l0.andThen (looks_mroIn X F.bs);dsimp only;refine cF ?_;refine dI PySem.F.excAttr_ValueError.ga.plain PySem.F.entry_bexc_ga ?_;have hs:=PySem.F.args_bexc_ga (.ref x) (.str "__class__" t);simp only[gy,List.nil_append];refine check_slot (M:=model prog w) (A:=A.in1) (i:="BaseException.__getattribute__") (owner:="BaseException") (n:="__getattribute__") (self:=.ref x) (rest:=[.str "__class__" t]) (kw:=[]) xhe xgl ?_ ?_ ?_
 ·exact li
 ·exact hs
 unfold hV.«object.__getattribute__» slotArgs;simp only[List.isEmpty_nil,Bool.not_true,c8,if_false,aU,gO,gC,bne_self_eq_false];refine aa (ak ?_);dsimp only;unfold Builtin.ObjectAttr.attrName;simp only;refine aa (ak ?_);refine aa (l0.at ?_);refine aa (l3.at ?_);dsimp only;unfold Builtin.ObjectAttr.bindTo;dsimp only;refine aa (bD (cF (class_get (s:=⟨hh,g,d,t+1,os⟩) (ox:=ox) (od:=od) X I F.ob ?_)));refine ak ?_;exact handed_on rfl (ak h)
def xmy(F:vg K D):KitX K (.ref x) (.ref D) (fun h=>InstAt h x ox D od) where
 ty:=fun _ _ _ I=>I.type
 it:=fun _ _ X _=>by
  have hc:=F.is;unfold clsIn at hc
  split at hc
  ·rename_i c1 d1 ka j8 ho;intro A' Q' E' s' k q;unfold isType loadHead;exact aa (fD (k _ _ (X _ _ ho)) (ak q))
  ·cases hc
 ne:=fun h tp dd its n sl X j9=>by
  have hc:=F.is;refine Bool.eq_false_iff.mpr fun q=>?_;have e:D=tp:=Value.ref.inj (beq_iff_eq.mp q);subst e;unfold clsIn at hc
  split at hc
  ·rename_i c1 d1 ka j8 ho;have z:=(X _ _ ho).symm.trans j9;cases z
  ·cases hc
 ca:=fun X I k=>xlf F X I k
end
def vR(K:Frag)(a:Addr)(cls:Value)(dx:Option Addr):List V->Hp->VK->Prop:=fun xs H Q=>∃D c cv b,cls= .ref D/\(dx=none\/∃d fs,dx=some d/\H d=some (.xd fs))/\vg K D/\xs=[.ref a,c]/\xmp c=some cv/\kitOne K cls cv=some b/\Q (.bl b) H
def yY{ps:List (Addr×Obj)}(hs:∃oe:Obj,(a,oe)∈ps/\oe.cls=cls/\oe.dict=dx/\∃vs,oe.data= .fields vs)(hp:∀p∈ps,p∈X.pn):yq X (.builtin "isinstance") (vR X.K a cls dx):=by
 intro pins s σ H xs us Q I r h;obtain⟨oe,j8,rfl,rfl,hv⟩:=hs;have hp:=hp _ j8;obtain⟨D,c,cv,b,hc,hd,F,rfl,rc,e,q⟩:=h;obtain⟨u,v,rfl,ru,rv⟩:=Vals.two r;have e2:=xhb rc rv;subst e2;cases (show u=aF a from ru);rw[hc]at e;have hn:notCls oe=true:=by
  obtain⟨vs,z⟩:=hv;obtain⟨c1,d1,dt,sl⟩:=oe;cases z;rfl
 have J:∃od,InstAt s.heap a oe D od:=by
  rcases hd with hd|⟨d,fs,hd,hx⟩
  ·exact⟨none,(I.pin _ (a8 _ hp)).1,hc,hn,by rw[hd];trivial⟩
  ·obtain⟨mA,⟨ob,es,ep,eb,_⟩,_⟩:=I.hok d _ hx;exact⟨some ob,(I.pin _ (a8 _ hp)).1,hc,hn,by rw[hd];exact eb⟩
 obtain⟨od,J⟩:=J;exact kia_one (xmy F) I.kIn J e (fun z=>nomatch z) fun tk=>⟨.bl b,H,I.tok _,rfl,q⟩
def xpq{t:Addr}{x:Value}{Q:Value->ai->Prop}(hj:s.heap.IsTupleIter j t i)(ht:s.heap.IsTuple t its)(hx:its[i]? =some x)
  (q:∀h',h'.IsTupleIter j t (i+1)->fk j s.heap h'->Q x {s with heap:=h'}):wpAny (model prog w) A (cI (.ref j)) Q E s:=by
 obtain⟨oj,ej,cj,dj⟩:=id hj;obtain⟨ot,et,_,nt,dt⟩:=ht;unfold cI;refine aa (cQ (name:=aM "__next__") hj.typeIs cE (eY cE hj.typeIs fS ?_ (fF _)));show wpAny _ _ (field (.ref j) 0 >>= _) _ _ s;refine aa (bM ej dj (x:=.ref t) rfl ?_);show wpAny _ _ (if (aF t==a7)=true then _ else _) _ _ s;rw[if_neg (show¬((aF t==a7)=true)from aB)];show wpAny _ _ (field (.ref j) 1 >>= _) _ _ s;refine aa (bM ej dj (x:=.int i 0) rfl ?_);show wpAny _ _ (gR (.ref t) >>= _) _ _ s;refine aa (eI et dt ?_);simp only[Int.toNat_natCast,hx];refine aa (eJ ej dj (by simp) (ak ⟨x,rfl,ak (q _ ?_ (iI ..))⟩));exact⟨_,br _ ej (fg (eo dj _)),(Obj.cls_mapFields ..).trans cj,by rw[eo dj];simp[bz]⟩
def xf2{t:Addr}{Q:Value->ai->Prop}(hh:A.handled=none)(hj:s.heap.IsTupleIter j t i)(ht:s.heap.IsTuple t its)(hx:its[i]? =none)
  (q:∀h' e,j3 j s.heap h'->(∃o,h'.get? e=some o/\o.cls= .type "StopIteration")->E (.ref e) {s with heap:=h'}):wpAny (model prog w) A (cI (.ref j)) Q E s:=by
 obtain⟨oj,ej,cj,dj⟩:=id hj;obtain⟨ot,et,_,nt,dt⟩:=ht;unfold cI;refine aa (cQ (name:=aM "__next__") hj.typeIs cE (eY cE hj.typeIs fS ?_ (fF _)));show wpAny _ _ (field (.ref j) 0 >>= _) _ _ s;refine aa (bM ej dj (x:=.ref t) rfl ?_);show wpAny _ _ (if (aF t==a7)=true then _ else _) _ _ s;rw[if_neg (show¬((aF t==a7)=true)from aB)];show wpAny _ _ (field (.ref j) 1 >>= _) _ _ s;refine aa (bM ej dj (x:=.int i 0) rfl ?_);show wpAny _ _ (gR (.ref t) >>= _) _ _ s;refine aa (eI et dt ?_);simp only[Int.toNat_natCast,hx];refine aa (wpAny_rule (aa (eJ ej dj (by simp) ?_)));show wpAny _ _ (newExc (.type "StopIteration") [] >>= _) _ _ _;refine aa ?_;simp only[newExc,newTuple];refine aa (bO ?_ (by size_fits));refine aa (m:=firstArgMember _ _) (fJ (a:=a7) (by first|rfl|(simp only[firstArgMember];rfl)) ?_);refine bO ?_ (by size_fits);simp only[raiseNew];refine aa (wpAny_handled ?_);first|rw[show A.in1.handled=none from hh]|rw[hh]
 refine aa (ak (wpAny_throw ?_));exact q _ _ (((iI ..).extBut.push _).push _) ⟨_,aI _ rfl,rfl⟩
def xlg(hh:A.handled=none)(j t:Addr)(j9:t≠j)(its:Array Value):Draws prog w A j [j,t] its.size (fun i v=>its[i]? =some v) (fun i h=>h.IsTupleIter j t i/\h.IsTuple t its) where
 live:=fun _ _ st=>let⟨o,ho,_⟩:=st.1;⟨o,ho⟩
 frame:=fun _ _ _ ⟨⟨o,e,r⟩,o2,e2,r2⟩ hk=>⟨⟨o,hk j (by simp) o e,r⟩,o2,hk t (by simp) o2 e2,r2⟩
 item:=fun i s Q E hi st q=>by
  refine xpq st.1 st.2 (x:=its[i]) (by simp[hi]) fun h' ka j8=>q _ h' s.toks (by simp[hi]) ⟨ka,?_⟩ j8;obtain⟨o2,e2,r2⟩:=st.2;exact⟨o2,(j8.2 t j9).trans e2,r2⟩
 done:=fun s Q E st q=>xf2 hh st.1 st.2 (by simp) q
set_option maxHeartbeats 8000000 in
theorem xlh(l:Addr)(its:Array Value)(n:Nat)(j9:Option Addr)(sl:Array (Option Value)):
  Meets (hV.«enumerate.__new__» ⟨[.type "enumerate",.ref l],[]⟩) (fun _ R s=>s.heap.get? l=some {cls:=.type "tuple",dict:=j9,data:=.seq its n,slots:=sl}/\
   R (.ok (.ret (.ref (s.heap.push {cls:=.type "tuple_iterator",data:=.fields #[.ref l,.int 0 0]}).objs.size)))
    {s with heap:=(s.heap.push {cls:=.type "tuple_iterator",data:=.fields #[.ref l,.int 0 0]}).push {cls:=.type "enumerate",data:=.fields #[.none,.bool false,.ref s.heap.objs.size,bz 0,.none,.none]}}):=
 .of_wp fun prog w A R s h=>by
  obtain⟨hp,g,d,tk,os⟩:=s;obtain⟨el,h⟩:=h;have j8:=sub_enumerate;have hL:Heap.IsTuple (Shared.heap ⟨hp,g,d,tk,os⟩) l its:=⟨_,el,rfl,n,rfl⟩
  wp_walk using eB el
  refine wpAny_stack_any fun st=>ak ?_
  split
  ·rename_i c _ _ _ _ _;cases (c==dA "enumerate")<;> (wp_walk using eB el,fM hL;exact⟨_,rfl,h⟩)
  ·wp_walk using eB el,fM hL;exact⟨_,rfl,h⟩
def xjY{Q:Value->ai->Prop}(hL:s.heap.IsTuple l its)
  (q:∀h',gD h' (s.heap.objs.size+1) s.heap.objs.size 0 .none->h'.IsTupleIter s.heap.objs.size l 0->(∀b o,s.heap.get? b=some o->h'.get? b=some o)->Q (.ref (s.heap.objs.size+1)) {s with heap:=h'}):
  wpAny (model prog w) A (call (.type "enumerate") [.ref l]) Q E s:=by
 obtain⟨⟨c,j8,dt,sl⟩,el,hc,n,hd⟩:=hL;cases (show c= .type "tuple" from hc);cases (show dt= .seq its n from hd);refine callType_new F.called_enumerate (by decide) (F.typeCall_enumerate_1 _) (F.newCall_enumerate_1 _) (fun obj=>F.args_object_init_2 obj _) hW (xlh l its n j8 sl) ⟨el,?_⟩;generalize hO:({cls:=.type "tuple_iterator",data:=.fields #[.ref l,.int 0 0]}:Obj)=oi;have hz:(s.heap.push oi).objs.size=s.heap.objs.size+1:=dq ..;have f0:oi.isFreed=false:=by rw[<-hO];rfl
 show _/\_;rw[hz];have he:gD ((s.heap.push oi).push {cls:=.type "enumerate",data:=.fields #[.none,.bool false,.ref s.heap.objs.size,bz 0,.none,.none]}) (s.heap.objs.size+1) s.heap.objs.size 0 .none:=by
  have e:=aI (s.heap.push oi) (o:={cls:=.type "enumerate",data:=.fields #[.none,.bool false,.ref s.heap.objs.size,bz 0,.none,.none]}) rfl;rw[hz]at e;exact e
 refine⟨⟨_,he,rfl⟩,q _ he ⟨oi,af _ (aI _ f0),by rw[<-hO],by rw[<-hO];rfl⟩ fun b o x=>af _ (af _ x)⟩
def xnU{e t:Addr}{k:Int}{old:Value}{Q:Option Value->ai->Prop}(hh:A.handled=none)(he:gD s.heap e j k old)(hj:s.heap.IsTupleIter j t i)(ht:s.heap.IsTuple t its)(hx:its[i]? =none)
  (q:∀h',j3 j s.heap h'->Q none {s with heap:=h'}):wpAny (model prog w) A (pyNext (.ref e)) Q E s:=by
 have hT:s.TypeIs (.ref e) "enumerate":=⟨_,he,rfl⟩;unfold pyNext;refine aa (iE (cQ (name:=aM "__next__") hT hZ (eY hZ hT F.entry_enumerate_next ?_ (F.args_enumerate_next_1 _))));show wpAny _ _ (field (.ref e) 2 >>= _) _ _ _;refine aa (bM he rfl (x:=.ref j) rfl ?_);refine aa (xf2 hh hj ht hx fun h' x eb ⟨o,ho,hc⟩=>?_);refine aa (wpAny_isInstance (T:="StopIteration") (b:=true) ⟨o,ho,hc⟩ isSubtype_stop ?_);exact ak (q _ eb)
def xmz(K:ay)(a:Addr):It:=
 ⟨fun i H=>∃xs x,SqT K H a xs/\xs[i]? =some x,fun i H v H'=>∃T x,v= .ref T/\H T=none/\H'=upd H T (.tup [.int i,x])/\∀xs,SqT K H a xs->xs[i]? =some x,fun i H=>∃xs,SqT K H a xs/\xs.length<=i⟩
def xjZ{k:Nat}{pos:Pos}(a e it:Addr)(ka:e≠it):Turn P w K (.Tuple es k pos) (xmz K a) [e,it] e (fun i h=>(∃old,gD h e it (i:Nat) old)/\h.IsTupleIter it a i) where
 mem:=by simp
 obj:=fun i h st b hb=>by
  refine L2.oG fun gq kq=>?_;obtain⟨⟨old,he⟩,⟨o,e1,c,d⟩⟩:=st;refine kq ?_;rcases ah.mp hb with z|z
  ·subst z;exact⟨_,he,fun v z=>by cases z⟩
  ·rw[ao.mp z];exact⟨o,e1,fun v z=>by rw[d]at z;cases z⟩
 keep:=fun i h h' st kk=>by
  refine L2.oG fun gq kq=>?_;obtain⟨⟨old,he⟩,⟨o,e1,r⟩⟩:=st;refine kq ?_;exact⟨⟨old,kk e (by simp) _ he⟩,⟨o,kk it (by simp) o e1,r⟩⟩
 item:=by
  intro X hP hw hK hc i pins s σ H E I hf st hg;subst hP hw hK;refine L2.oG fun gq kq=>?_;obtain⟨xs,x,hq,hx⟩:=hg;obtain⟨its,rv,p,hz⟩:=I.tuple hq;obtain⟨u,hu,ru⟩:=rv.get hx;obtain⟨⟨old,he⟩,hit⟩:=st;refine kq ?_;have kb:=au he;have kc:it<s.heap.objs.size:=by obtain⟨o,q,_⟩:=hit;exact au q
  have p':s.heap.IsTuple a its.toArray:=p;have kh:a≠it:=fun z=>by
   refine L2.oG fun gq kq=>?_;obtain⟨o,e1,c,d⟩:=hit;obtain⟨o2,e2,c2,_⟩:=p';refine kq ?_;rw[z,e1]at e2;cases e2;rw[c]at c2;injection c2 with c2;exact absurd c2 (by decide)
  have ki:e≠a:=fun z=>by
   refine L2.oG fun gq kq=>?_;obtain⟨o2,e2,c2,_⟩:=p';refine kq ?_;have j8:s.heap.get? e=_:=he;rw[z,e2]at j8;cases j8;injection c2 with c2;exact absurd c2 (by decide)
  have ke:i<its.toArray.size:=by simpa using(aR.mp hu).1
  refine gI (xlg (A:=X.A.in1) (I.ok.hd hc) it a kh its.toArray) he ⟨hit,p'⟩ ke ka (by simp[ka,ki]) fun x2 h' tk px kf kd hT hsz hk=>?_;have ex:x2=u:=by
   have:its.toArray[i]? =some u:=by simpa using hu
   rw[this]at px;cases px;rfl
  subst ex;refine⟨_,rfl,fZ (s:={s with heap:=h',toks:=tk+1}) kf fun h2 j8 j9=>?_⟩;have kj:h2.get? s.heap.objs.size=some {cls:=.type "tuple",data:=.seq #[.int i tk,x2]}:=(j9.2 _ (fq kb)).trans hT;have I2:Inv X pins σ (upd H s.heap.objs.size (.tup [.int i,x])) {s with heap:=h2,toks:=tk+1}:=by
   refine I.turnLaid (ch:=[e,it]) (fun b o hb q=>?_) (aq _) ⟨by simp[ar],[.int i tk,x2],.cons ⟨_,rfl⟩ (.cons ru .nil),⟨_,kj,rfl,_,rfl⟩⟩ (fun b hb=>(hf b hb).1) (fun b hb=>?_) fun b hb=>?_
   ·have b1:b≠e:=fun z=>hb (by simp[z]);have b2:b≠it:=fun z=>hb (by simp[z]);exact(j9.2 b b1).trans (hk b o b1 b2 q)
   ·rcases ah.mp hb with z|z
    ·rw[z];exact kb
    ·rw[ao.mp z];exact kc
   ·refine L2.oG fun gq kq=>?_;obtain⟨f0,f1,f2,f3,f4,f5⟩:=hf b hb;refine kq ?_;exact⟨f3,f1,f4,f5⟩
  refine⟨.ref s.heap.objs.size,_,I2,rfl,⟨_,x,rfl,I.hok.fresh (aq _),rfl,fun ys hy=>by rw[I.tuple_inj hy hq];exact hx⟩,⟨⟨x2,by simpa using j8⟩,?_⟩,fun b hb=>?_⟩
  ·refine L2.oG fun gq kq=>?_;obtain⟨⟨o,e1,r⟩,_⟩:=kd;refine kq ?_;exact⟨o,(j9.2 it (aL ka)).trans e1,r⟩
  have kg:b≠s.heap.objs.size:=by
   rcases ah.mp hb with z|z
   ·rw[z];exact aJ kb
   ·rw[ao.mp z];exact aJ kc
  rw[xm kg];exact(hf b hb).1
 done:=by
  intro X hP hw hK hc i pins s σ H E I hf st hg;subst hP hw hK;refine L2.oG fun gq kq=>?_;obtain⟨xs,hq,hx⟩:=hg;obtain⟨its,rv,p,hz⟩:=I.tuple hq;obtain⟨⟨old,he⟩,hit⟩:=st;obtain⟨f0,f1,f2,f3,f4,f5⟩:=hf it (by simp);refine kq ?_;have hl:=rv.length;exact xnU (I.ok.hd hc) he hit p (by simp;lia) fun h' eb=>⟨rfl,I.turned (t':=s.toks) (fun b o hb e=>eb b o hb e) f0 f1 f3 f4 f5⟩
 self:=fun _ _ _ _ _ st h=>by
  refine L2.oG fun gq kq=>?_;obtain⟨⟨old,he⟩,_⟩:=st;refine kq ?_;exact di he h
section
variable {k:Nat} {tp:Pos}
def xpr(K:ay)(ta:TA):TI:=fun σ H R=>ta σ H fun vs H1=>∃a,vs=[.ref a]/\(∃xs,SqT K H1 a xs)/\R (xmz K a) H1
def xmA{l:Expr}{ta:TA}{pos:Pos}(hg:Gl X "enumerate")(hm:X.mg "enumerate"=none)(ha:PA X [l] ta)(hs:aD [l] X.env=[(false,eval l X.env)]:=by rfl):PI X (.Tuple es k tp) (.Call (.Name "enumerate" p) [l] [] pos) (xpr X.K ta):=by
 intro pins s σ H R I h;refine Call_ (ve I hg hm jQ (bV (thn (ha pos pins s σ H _ I h) fun us s1 ⟨vs,H1,I1,r1,q1⟩=>?_) hs rfl));obtain⟨a,e,⟨xs,hq⟩,q⟩:=q1;subst e;obtain⟨u,rfl,ru⟩:=Vals.one r1;cases ru;obtain⟨its,rv,pl,hz⟩:=I1.tuple hq;refine xjY (show s1.heap.IsTuple a its.toArray from pl) fun h' he hi hk=>di (s:={s1 with heap:=h'}) he ?_;refine⟨s1.heap.objs.size+1,[s1.heap.objs.size+1,s1.heap.objs.size],_,_,H1,rfl,I1.kept (t':=s1.toks) hk,xjZ a _ _ (gE _),⟨⟨.none,by simpa using he⟩,hi⟩,fun b hb=>?_,q⟩;rcases ah.mp hb with z|z
 ·rw[z];exact I1.fpOk (cM _) (I1.hok.fresh (cM _))
 ·rw[ao.mp z];exact I1.fpOk (aq _) (I1.hok.fresh (aq _))
def xim{xs:List V}{g:TG}{tb:TS}(Pv:Nat->St->Hp->Prop)(h0:Pv 0 σ H)(hl:∀i σ H,i<=xs.length->Pv i σ H->SqT K H l xs)
  (hs:∀i x σ H T,xs[i]? =some x->Pv i σ H->H T=none->g (.ref T) σ (upd H T (.tup [.int i,x])) fun σ2 H2=>tb {D with nx:=Pv (i+1),ct:=Pv (i+1),bk:=D.nx} σ2 H2) (hd:∀σ H,Pv xs.length σ H->D.nx σ H):zJ (xmz K l) g tb D σ H:=by
 unfold zJ;refine⟨fun i m σ H=>m=xs.length - i/\i<=xs.length/\Pv i σ H,⟨xs.length,by simp,bu _,h0⟩,?_⟩;rintro i m σ H ⟨rfl,hi,p⟩;have hq:=hl i σ H hi p
 by_cases j8:i<xs.length
 ·have hx:xs[i]? =some xs[i]:=bG j8;refine .inr ⟨⟨xs,xs[i],hq,hx⟩,Pv (i+1),fun σ' H' p'=>⟨xs.length - (i+1),by lia,rfl,j8,p'⟩,fun v H' y=>?_⟩;obtain⟨T,x,rfl,hT,rfl,j9⟩:=y;have:=j9 xs hq;exact hs i x σ H T this p hT
 ·have e:i=xs.length:=by lia
  subst e;exact .inl ⟨⟨xs,hq,aq _⟩,hd σ H p⟩
def xdz{xs:List V}{g:TG}{tb:TS}(Pv:Nat->St->Hp->Prop)(h0:Pv 0 σ H)(hl:∀i σ H,i<=xs.length->Pv i σ H->SqL K H l xs)
  (hs:∀i x σ H T,xs[i]? =some x->Pv i σ H->H T=none->g (.ref T) σ (upd H T (.tup [.int i,x])) fun σ2 H2=>tb {D with nx:=Pv (i+1),ct:=Pv (i+1),bk:=D.nx} σ2 H2) (hd:∀σ H,Pv xs.length σ H->D.nx σ H):zJ (Ite K l) g tb D σ H:=by
 unfold zJ;refine⟨fun i m σ H=>m=xs.length - i/\i<=xs.length/\Pv i σ H,⟨xs.length,by simp,bu _,h0⟩,?_⟩;rintro i m σ H ⟨rfl,hi,p⟩;have hq:=hl i σ H hi p
 by_cases j8:i<xs.length
 ·have hx:xs[i]? =some xs[i]:=bG j8;refine .inr ⟨⟨xs,xs[i],hq,hx⟩,Pv (i+1),fun σ' H' p'=>⟨xs.length - (i+1),by lia,rfl,j8,p'⟩,fun v H' y=>?_⟩;obtain⟨T,x,rfl,hT,rfl,j9⟩:=y;have:=j9 xs hq;exact hs i x σ H T this p hT
 ·have e:i=xs.length:=by lia
  subst e;exact .inl ⟨⟨xs,hq,aq _⟩,hd σ H p⟩
end
def xqp(K:ay):R2:=fun x y H Q=>∃a b xs ys,x= .ref a/\y= .ref b/\SqT K H a xs/\SqT K H b ys/\xs.length+ys.length<=ax/\
 (xs=[]->Q (.ref b) H)/\(xs≠[]->ys=[]->Q (.ref a) H)/\(xs≠[]->ys≠[]->∀p,H p=none->Q (.ref p) (upd H p (.tup (xs++ys))))
def xnV:OpR X (bQ .Add) (xqp X.K):=by
 intro pins s σ H x y v u Q I rx ry h;refine L2.oG fun gq kq=>?_;obtain⟨a,b,xs,ys,rfl,rfl,ha,hb,hz,q0,q1,q2⟩:=h;refine kq ?_
 by_cases hx:xs=[]
 ·cases rx;cases ry;refine L2.oG fun gq kq=>?_;obtain⟨its,r1,p1,_⟩:=I.tuple ha;obtain⟨j8,r2,p2,_⟩:=I.tuple hb;refine kq ?_;have e:its=[]:=r1.nil_iff.mpr hx;refine L2.oG fun gq kq=>?_;obtain⟨⟨c1,d1,t1,l1⟩,e1,k1,n1,z1⟩:=id p1;obtain⟨⟨c2,d2,t2,l2⟩,e2,k2,n2,z2⟩:=id p2;refine kq ?_;cases (show c1= .type "tuple" from k1);cases (show c2= .type "tuple" from k2);cases (show t1= .seq its.toArray n1 from z1);cases (show t2= .seq j8.toArray n2 from z2);exact concat_meets ⟨_,e1,rfl⟩ ⟨_,e2,rfl⟩ gw iB PySem.F.slot_tuple_add PySem.F.entry_tuple_add (PySem.F.args_tuple_add_2 _ _) (tuple_addW0 a b its.toArray j8.toArray n1 n2 d1 d2 l1 l2 (by simp[e])) ⟨e1,e2,⟨.ref b,H,I,rfl,q0 hx⟩⟩
 ·exact xi0 pins s σ H _ _ v u Q I rx ry ⟨a,b,xs,ys,rfl,rfl,ha,hb,hx,hz,q1 hx,q2 hx⟩
def xnq(K:ay)(C f:Addr):Bool:=match K.lookup C with
 |some ⟨.type "type",_,.cls cd,sl⟩=>(match cd.mro,sl.toList with
  | .ref C'::bm,[_,_,_,_,some (.builtin n),_]=>C'==C&&n=="ValueError.__new__"&& !cd.hasDel&&W.tailIn K xbK bm&&W.nsOkIn K cd.ns&&bq K cd.ns "__init__"==some (some (.ref f))
  |_,_=>false)
 |_=>false
def xcz:List Value->List Value
 | .ref _::r=>xcz r
 |l=>l
structure jU(K:ay)(C f:Addr):Prop where
 xi:xnq K C f=true
 fn:W.isFn K (.ref f)=true
 hd:eQ K C=true
 mr:(W.clsIn K C).any (fun cd=>xcz cd.mro==xbK)=true
 ob:gm K C (.type "object")=some true
 sa:aT K (.ref C) "__setattr__"=some (some (.builtin "object.__setattr__"))
theorem xcA(self:Value)(j8:Str):∀l:List Value,refuseLoop self j8 l=refuseLoop self j8 (xcz l)
 |[]=>rfl
 |v::r=>by
  cases v with
  |ref C=>rw[refuseLoop_ref];exact xcA self j8 r
  |_=>rfl
section
variable {x:Addr} {name:Str} {v:Value}
def xnW{od:Option Obj}{tk:Tok}{R:gs->ai->Prop}(X:K.In s.heap)(I:W.InstAt s.heap x ox C od)(F:jU K C f)(n:xB K C name)
  (h:∀b,wpAny (model prog w) A.in1 (Builtin.ObjectAttr.storeInOwnDict (.ref x) (.ref C) (.str name tk) name v b) (fun fin s'=>match fin with| .done f=>R (.ok f) s'| .again c'=>c'.quiet=true/\bX (model prog w) A c' R s') (fun e s'=>R (.error e) s') s):
  bX (model prog w) A (.call (.builtin "object.__setattr__") ⟨[.ref x,.str name tk,v],[]⟩) R s:=by
 have SF:=PySem.F.store_object;obtain⟨cd,hc,j8⟩:=W.any_some F.mr;have sub:W.Looks (model prog w) s.heap (ir (.ref x) (.type "object")) true:=I.type.andThen (W.looks_mroIn X F.ob);refine dI SF.slot.plain SF.entry (@W.check_slot (model prog w) _ _ s "object.__setattr__" "object" "__setattr__" (.ref x) [.str name tk,v] [] _ SF.kind SF.split sub (SF.args (.ref x) (.str name tk) v) ?_);have hm:W.Looks (model prog w) s.heap (mroOf (.ref C)) cd.mro:=(iA X hc).andThen .now;have L3:W.Looks (model prog w) s.heap (Builtin.ObjectAttr.storeTaker? none) none:=.now;rw[W.osa_eq,refuse_eq];refine aa (aa (I.type.here (aa (hm.here ?_))));rw[xcA,beq_iff_eq.mp j8,show refuseLoop (aF x) "__setattr__" xbK=pure ()from PySem.F.store_ValueError.passes _];refine ak (aa (I.type.here (aa ((W.looks_findIn X n).here (aa (L3.here ?_))))));exact h _
def xnX(X:K.In s.heap)(I:W.InstAt s.heap x ox C none)(kg:ox.dict=none)(j9:ox.data= .fields vs)(F:jU K C f)(n:xB K C name)
  (h:∀h' t',h'.Ns1 s.heap.objs.size (fun y=>if y=name then some v else none)->h'.get? x=some {ox with dict:=some s.heap.objs.size}->(∀b o,b≠x->s.heap.get? b=some o->h'.get? b=some o)->Q () {s with heap:=h',toks:=t'}):
  wpAny (model prog w) A (setAttr (.ref x) name v) Q E s:=by
 refine W.set_plain X I F.sa (xnW (s:={s with toks:=s.toks+1}) X I F n fun b=>?_);refine L2.oG fun gq kq=>?_;obtain⟨cd,hc,ki⟩:=W.any_some F.hd;refine kq ?_;have hx:=I.at_;refine L2.oG fun gq kq=>?_;obtain⟨c0,d0,kr,kc⟩:=ox;refine kq ?_;cases kg;cases j9;cases I.cls;refine aa (ak (aa (aa (fD hx (aa (W.Looks.here (s:={s with toks:=s.toks+1}) (iA X hc) ?_))))));rw[ki];have j8:(s.heap.push {cls:=.type "dict",data:=.dict #[]}).get? x=some ⟨.ref C,none,.fields vs,kc⟩:=af _ hx;have ka:x≠s.heap.objs.size:=aJ (au hx);refine aa (wpAny_alloc' ?_);refine aa (wpAny_update' j8 ?_);refine ak ?_;have kf:((s.heap.push {cls:=.type "dict",data:=.dict #[]}).update x fun o=>{cls:=o.cls,dict:=some s.heap.objs.size,data:=o.data,slots:=o.slots}).get? s.heap.objs.size
   =some {cls:=.type "dict",data:=.dict #[]}:=
  (iJ _ _ _ _ ka.symm).trans (Heap.get?_push_at rfl rfl)
 have ke:((s.heap.push {cls:=.type "dict",data:=.dict #[]}).update x fun o=>{cls:=o.cls,dict:=some s.heap.objs.size,data:=o.data,slots:=o.slots}).Ns s.heap.objs.size (fun _=>none):=
  ⟨_,#[],_,kf,rfl,fun e he=>absurd he (by simp),fun _=>rfl⟩
 show wpAny _ _ (fA s.heap.objs.size (.str name _) name v) _ _ _;unfold fA Builtin.ObjectAttr.newKeyGuard;refine aa (ak (aa (wpAny_nsSet1 (i6 ke) fun h' kb hs=>?_)));refine L2.oG fun gq kq=>?_;obtain⟨oD,kn,ko,kd,kh,kj⟩:=kb.count (Within.cons name v Within.nil);refine kq ?_;refine aa (wpAny_lookBehind kd (by rw[kh];exact pastItsLine_dict (aO kj (by rw[aU,gO,ar];lia))) ?_);refine ak (h h' _ kb ((hs.2 x ka).trans (br _ j8 rfl)) fun b ob km hb=>?_);exact(hs.2 b (aJ (au hb))).trans ((iJ _ _ _ _ km).trans (af _ hb))
end
def HO.exc(a C:Addr)(dx:Option Addr):HO:=.ext fun h=>∃o t,h.get? a=some o/\o.cls= .ref C/\o.dict=dx/\o.data= .fields #[.ref t,.none,.none,.none,.bool false,.none]
def rem(H:Hp)(a:Addr):Hp:=fun b=>if b=a then none else H b
section
variable {fl:Str} {y:V} {u:Value}
def xf3{h1 h2:Heap}(q:∃o t,h1.get? a=some o/\o.cls= .ref C/\o.dict=dx/\o.data= .fields #[.ref t,.none,.none,.none,.bool false,.none])(k:∀o,h1.get? a=some o->h2.get? a=some o):
  ∃o t,h2.get? a=some o/\o.cls= .ref C/\o.dict=dx/\o.data= .fields #[.ref t,.none,.none,.none,.bool false,.none]:=by
 obtain⟨o,t,e,r⟩:=q;exact⟨o,t,k o e,r⟩
def xli(I:Inv X pins σ H s)(e:H a=some (HO.exc a C none))(F:jU X.K C f)(n:xB X.K C fl)(ry:RelV y u)
  (h:∀d s',H d=none->d≠a->Inv X pins σ (upd (upd H d (.xd [(fl,y)])) a (HO.exc a C (some d))) s'->Q () s'):wpAny (model X.prog X.w) A (setAttr (.ref a) fl u) Q E s:=by
 obtain⟨⟨o,t,ea,hc,hd,j8⟩,_⟩:=I.hok a _ e;have J:W.InstAt s.heap a o C none:=⟨ea,hc,by obtain⟨c1,d1,dt,sl⟩:=o;cases j8;rfl,by rw[hd];trivial⟩;refine xnX I.kIn J hd j8 F n fun h' t' hn hx kp=>?_;have j9:H s.heap.objs.size=none:=I.hok.fresh (aq _);have kc:s.heap.objs.size≠a:=fun z=>by rw[z,e]at j9;cases j9
 have nA:∀b,H b=none->b≠a:=fun b n z=>by rw[z,e]at n;cases n
 have ka:∀b,b≠a->b≠s.heap.objs.size->upd (upd H s.heap.objs.size (.xd [(fl,y)])) a (HO.exc a C (some s.heap.objs.size)) b=H b:=fun b h1 h2=>by rw[xm h1,xm h2]
 have own:∀b u,H b=some u->u≠HO.exc a C none->upd (upd H s.heap.objs.size (.xd [(fl,y)])) a (HO.exc a C (some s.heap.objs.size)) b=some u:=fun b u q nu=>by
  rw[ka b (fun z=>by rw[z,e]at q;exact nu (aQ q).symm) (xD q j9)];exact q
 refine h s.heap.objs.size _ j9 kc (I.un ⟨fun b o q n _ _=>kp b o (nA b n) q,fun b o q n _ _=>⟨o.slots,kp b o (nA b n) q⟩,fun b o q n _=>?_,fun b o q _=>?_,fun b u q f=>own b u q (by rintro rfl;exact f)⟩ fun b u q=>?_)
 ·rw[ka b (nA b n) (aJ (au q))];exact n
 ·by_cases hb:b=a
  ·subst hb;exact⟨_,hx⟩
  ·exact⟨o,kp b o hb q⟩
 ·by_cases hb:b=a
  ·subst hb;rw[xl]at q;cases q;exact⟨⟨_,t,hx,hc,rfl,j8⟩,⟨_,hx⟩,fun h1 h2=>xf3⟩
  ·rw[xm hb]at q
   by_cases kb:b=s.heap.objs.size
   ·subst kb;rw[xl]at q;cases q;refine⟨_,hn,fun g=>?_⟩;show uI (c9 g [(fl,y)]) (if g=fl then some u else none);rw[bF]
    by_cases q:g=fl
    ·subst q;simp;exact ry
    ·rw[beq_false_of_ne q,if_neg q];exact b8
   ·rw[xm kb]at q;refine(I.hok b u q).stay (fun c v hc q'=>kp c v ?_ q') (fun c q'=>own _ _ q' (fun z=>by cases z)) fun c u' q' hf=>own _ _ q' (by rintro rfl;exact hf);rcases hc with rfl|hc
    ·exact hb
    ·intro z;rw[z,e]at hc;cases hc
def Inv.forget(I:Inv X pins σ H s){φ:Heap->Prop}(e:H a=some (.ext φ)):Inv X pins σ (rem H a) s:=by
 have non:∀b,H b=none->rem H a b=none:=fun b n=>by unfold rem;split<;> first|rfl|exact n
 have kp:∀b u,H b=some u->(∀φ,u≠.ext φ)->rem H a b=some u:=fun b u q n=>by
  unfold rem;rw[if_neg]
  ·exact q
  ·intro z;rw[z,e]at q;exact n φ (aQ q).symm
 refine⟨I.ok,I.os,I.bare,⟨I.base.keep,I.base.slot,fun b o q n x=>non b (I.base.free b o q n x),I.base.there,fun b u q f=>kp b u (I.base.fix b u q f) (by rintro φ rfl;exact f)⟩,I.loc,I.cell,non _ I.free,fun x c q=>?_,fun p hp=>?_,fun b u q=>?_,I.len⟩
 ·rcases I.freeC x c q with z|⟨z1,o,z2,z3⟩
  ·exact .inl (non c z)
  ·exact .inr ⟨z1,o,kp c _ z2 (fun φ z=>by cases z),z3⟩
 ·obtain⟨e1,n,r⟩:=I.pin p hp;exact⟨e1,non _ n,r⟩
 ·have q':H b=some u:=by
   unfold rem at q
   split at q
   ·cases q
   ·exact q
  exact(I.hok b u q').stay (fun _ _ _ z=>z) (fun c z=>kp c _ z (fun φ z=>by cases z)) fun c u' z hf=>kp c _ z (by rintro φ rfl;exact hf)
end
def xqq(K:ay)(ta tv:TE)(f:Str):TS:=fun D σ H=>tv σ H fun y H1=>ta σ H1 fun x H2=>∃a C g,x= .ref a/\H2 a=some (HO.exc a C none)/\jU K C g/\xB K C f/\
 ∀d,H2 d=none->d≠a->D.nx σ (upd (upd H2 d (.xd [(f,y)])) a (HO.exc a C (some d)))
def xjb{o value:Expr}{f:Str}{pos pos':Pos}{tv:TE}(ha:PE X o ta)(hv:PE X value tv)(hs:e9 value (some (.Attribute o f pos')) pos.line X.env=pure false):PS X (.Assign [.Attribute o f pos'] value pos) (xqq X.K ta tv f):=by
 intro pins s σ H D I h;refine fh (thn (hv pins s σ H _ I h) fun u s1 ⟨y,H1,I1,ry,q⟩=>thn (ha pins s1 σ H1 _ I1 q) fun ov s2 ⟨x,H2,I2,rx,a,C,g,ex,ea,F,n,q2⟩=>?_) hs;subst ex;obtain rfl:ov=aF a:=rx;exact xli I2 ea F n ry fun d s3 n1 n2 I3=>⟨σ,_,I3,q2 d n1 n2⟩
def xdZ(C:Addr)(f:Str):Sp:=fun vs H Q _=>∃a v,vs=[.ref a,v]/\H a=some (HO.exc a C none)/\∀d,H d=none->d≠a->Q .non (upd (upd H d (.xd [(f,v)])) a (HO.exc a C (some d)))
section
variable {g:Array GenState} {d:Drawn} {t:Nat} {os:OsState}
variable {N:Addr} {bs bmB:List Value} {sub:List Value} {B initId:String}
def xgm(F:ExcBaseFacts B newId initId bmB)(T:OwnTail h bmB bm){mN:Str->Option Value}{rest:List Value}{fI:Addr}{oI:Obj}{Q:Fin->ai->Prop}
  (hC:h.get? C=some (dO nm q C N bs bm hdct sn sub ab col dd k0 k1 k2 k3 k5 newId)) (hn:h.Ns N mN) (hi:mN "__init__"=some (.ref fI))
  (kd:h.get? fI=some oI) (kc:oI.cls= .type "function")
  (hq:∀h' e,Heap.MadeExcOf h h' e (.ref C) rest->h.objs.size<=e->
   wpAny (model prog w) A (call (.ref fI) (.ref e::rest)) (fun r s'=>r= .none/\Q (.done (.ret (.ref e))) s') E ⟨h',g,d,t,os⟩) (hrest:rest.length<=ax:=by size_fits):
  wpAny (model prog w) A (hV.«type.__call__» ⟨.ref C::rest,[]⟩) Q E ⟨h,g,d,t,os⟩:=by
 repeat (first|with_reducible refine dm hC ?_|with_reducible refine wpAny_madeBy_exc hC ?_|wp_step)
 refine codeAny_call_builtin_code (fT _ F.quiet) (wpAny_check_new_subT F T hC ?_);refine codeAny_exc_new_subT F T hC ?_ hrest;show wpAny _ _ _ _ _ _;have j8:=af {cls:=.ref C,data:=.fields #[.ref h.objs.size,.none,.none,.none,.bool false,.none]}
  (af {cls:=.type "tuple",data:=.seq rest.toArray} hC)
 have j9:=af {cls:=.ref C,data:=.fields #[.ref h.objs.size,.none,.none,.none,.bool false,.none]}
  (af {cls:=.type "tuple",data:=.seq rest.toArray} kd)
 have ka:((h.push {cls:=.type "tuple",data:=.seq rest.toArray}).push {cls:=.ref C,data:=.fields #[.ref h.objs.size,.none,.none,.none,.bool false,.none]}).Ns N mN:=
  let⟨o,es,ep,e,r⟩:=hn;⟨o,es,ep,af _ (af _ e),r⟩
 have kb:((h.push {cls:=.type "tuple",data:=.seq rest.toArray}).push
   {cls:=.ref C,data:=.fields #[.ref h.objs.size,.none,.none,.none,.bool false,.none]}).get? (h.objs.size+1)=some
   {cls:=.ref C,data:=.fields #[.ref h.objs.size,.none,.none,.none,.bool false,.none]}:=by heap_get
 have ke:(aF C::bm).contains (.ref C)=true:=by simp
 have T₁:=T.keeps (h':=(h.push {cls:=.type "tuple",data:=.seq rest.toArray}).push {cls:=.ref C,data:=.fields #[.ref h.objs.size,.none,.none,.none,.bool false,.none]})
  fun b o e=>af _ (af _ e)
 unfold ir
 repeat (first|with_reducible refine dm kb ?_|(with_reducible refine wpAny_isSubtype_exc j8 ?_;rw[ke])|wp_step)
 show wpAny _ _ (ic (.ref C) _) _ _ _;refine wpAny_typeLookup_tail j8 ka T₁ F.mroIs F.init.lookup ?_;rw[hi];refine bD (aa ?_);unfold bindSpecial;refine aa (wpAny_typeOf (T:="function") ⟨_,j9,kc⟩ ?_);rw[if_pos (by decide)];refine ak (aa (aN (hq _ (h.objs.size+1) ⟨fun b o hb=>af _ (af _ hb),dB (cM _),h.objs.size,kb,dB (aq _),?_⟩ (cM _)) (fun r s' hr=>?_) fun _ _ x=>x))
 ·exact af _ (Heap.get?_push_at rfl rfl)
 ·obtain⟨rfl,hQ⟩:=hr
  wp_walk
  exact hQ
def xmB(F:ExcBaseFacts B newId initId bmB)(T:OwnTail h bmB bm){mN:Str->Option Value}{rest:List Value}{fI:Addr}{oI:Obj}{Q:Value->ai->Prop}
  (hC:h.get? C=some (dO nm q C N bs bm hdct sn sub ab col dd k0 k1 k2 k3 k5 newId)) (hn:h.Ns N mN) (hi:mN "__init__"=some (.ref fI))
  (j9:h.get? fI=some oI) (j8:oI.cls= .type "function")
  (hq:∀h' e,Heap.MadeExcOf h h' e (.ref C) rest->h.objs.size<=e->
   wpAny (model prog w) (A.under (.builtin "type.__call__" ⟨.ref C::rest,[]⟩)) (call (.ref fI) (.ref e::rest)) (fun r s'=>r= .none/\Q (.ref e) s') E ⟨h',g,d,t,os⟩) (hrest:rest.length<=ax:=by size_fits):
  wpAny (model prog w) A (call (.ref C) rest) Q E ⟨h,g,d,t,os⟩:=by
 have f1:=tc_lookup;have f2:=tc_bind (.ref C);have hT:(⟨h,g,d,t,os⟩:ai).TypeIs (.ref C) "type":=⟨_,hC,rfl⟩;refine cF (codeAny_of_tree ?_);show wpAny _ _ (callAny (.ref C) _) _ _ _
 repeat (any_goals (first|assumption|with_reducible refine dm hC ?_|wp_step))
 refine⟨rfl,?_⟩;refine codeAny_call_builtin_at (fT _ (by decide+kernel)) entry_typeCall (wpAny_check_type_call_sub hC (xgm (hrest:=hrest) F T hC hn hi j9 j8 fun h' e hm hl=>?_));exact hq h' e hm hl
end
section
variable {env:Env}
variable {N:Addr} {bs:List Value} {sub:List Value}
def xez{x:Sem Value}{Q:Flow->ai->Prop}(j8:bm.contains (.type "BaseException")=true)(hh:A.handled=none)
  (h:wpAny M A x (fun v s₁=>∃e t od sl,v= .ref e/\s₁.heap.get? C=some (dO nm q C N bs bm hdct sn sub ab col dd k0 k1 k2 k3 k5 newId)/\
   s₁.heap.get? e=some {cls:=.ref C,dict:=od,data:=.fields #[.ref t,.none,.none,.none,.bool false,.none],slots:=sl}/\E (.ref e) s₁) E s):
  wpAny M A (raiseStmt env (some x) none) Q E s:=by
 have j9:(aF C::bm).contains (.type "BaseException")=true:=by rw[eC,j8,Bool.or_true]
 unfold raiseStmt;refine aa (aN h (fun v s₁ h₁=>?_) fun _ _ x=>x);refine L2.oG fun gq kq=>?_;obtain⟨e,t,od,sl,rfl,hC,he,hE⟩:=h₁;obtain⟨hp,g,d,tk,os⟩:=s₁;refine kq ?_
 repeat (first|with_reducible refine dm he ?_|with_reducible refine dm hC ?_|(with_reducible refine wpAny_isSubtype_exc hC ?_;rw[j9])|wp_step)
 exact wpAny_raiseNew_none hh hE
end
section
variable {env:Env}
variable {N:Addr} {bs:List Value} {sub:List Value}
theorem xj0{pos:Pos}{args:List Expr}{Q:Flow->ai->Prop}
  (j8:bm.contains (.type "BaseException")=true) (hh:A.handled=none) (j9:(bB cpos (aD args env)).any (·.1)=false)
  (h:wpAny (model prog w) A (eval (.Name x np) env) (fun f s₁=>f= .ref C/\wpAny (model prog w) A (evalArgs (.ref C) true (bB cpos (aD args env)) [])
   (fun a s₂=>a.kw=[]/\s₂.heap.get? C=some (dO nm q C N bs bm hdct sn sub ab col dd k0 k1 k2 k3 k5 newId)/\
    wpAny (model prog w) A (call (.ref C) a.pos) (fun v s₃=>∃e t od sl,v= .ref e/\s₃.heap.get? C=some (dO nm q C N bs bm hdct sn sub ab col dd k0 k1 k2 k3 k5 newId)/\
     s₃.heap.get? e=some {cls:=.ref C,dict:=od,data:=.fields #[.ref t,.none,.none,.none,.bool false,.none],slots:=sl}/\E (.ref e) s₃) E s₂) E s₁) E s):
  wpAny (model prog w) A (exec (.Raise (some (.Call (.Name x np) args [] cpos)) none pos) env) Q E s:=by
 rw[arm_exec_Raise]
 first
  |refine aa (cg (xez (C:=C) (nm:=nm) (q:=q) (N:=N) (bs:=bs) (bm:=bm) (hdct:=hdct) (sn:=sn) (sub:=sub) (ab:=ab) (col:=col) (dd:=dd) (k0:=k0) (k1:=k1) (k2:=k2) (k3:=k3) (k5:=k5) (newId:=newId) j8 hh (aa (aN (wpAny_Call_ofName (aN h (fun f s₁ h₁=>?_) fun _ _ x=>x)) (fun v s₃ h₃=>aa (cg (ak h₃))) fun _ _ x=>x))))
  |(simp only[evalOpt,j6];refine aa (cg (xez (C:=C) (nm:=nm) (q:=q) (N:=N) (bs:=bs) (bm:=bm) (hdct:=hdct) (sn:=sn) (sub:=sub) (ab:=ab) (col:=col) (dd:=dd) (k0:=k0) (k1:=k1) (k2:=k2) (k3:=k3) (k5:=k5) (newId:=newId) j8 hh (aa (aN (wpAny_Call_ofName (aN h (fun f s₁ h₁=>?_) fun _ _ x=>x)) (fun v s₃ h₃=>aa (cg (ak h₃))) fun _ _ x=>x)))))
 obtain⟨rfl,h₁⟩:=h₁;unfold eW;refine aa (bD (aN h₁ (fun a s₂ h₂=>aa (cg ?_)) fun _ _ x=>x));obtain⟨apos,kb⟩:=a;refine L2.oG fun gq kq=>?_;obtain⟨ka,hC,h₂⟩:=h₂;refine kq ?_;obtain rfl:kb=[]:=ka;refine L2.oG fun gq kq=>?_;obtain⟨hp,g,d,tk,os⟩:=s₂;refine kq ?_;simp only[j9];refine aa (wpAny_keeperOf_exc hC ?_);refine aa (aN h₂ (fun v s₃ h₃=>aa (bD (wpAny_point (ak h₃)))) fun _ _ x=>x)
end
def xj1{N:Addr}{n:Str}{v:Value}(X:K.In h)(G:h.Ns N mg)(e:bq K N n=some (some v)):mg n=some v:=by
 obtain⟨o,es,ep,ho,hd,_,hf⟩:=G;unfold bq at e
 split at e
 ·rename_i c d j8 n' sl q;have:=X _ _ q;rw[ho]at this;cases this;cases hd
  split at e
  ·rename_i en he;cases e;rw[<-hf];unfold nsFind findBy;rw[<-iR,he];rfl
  ·split at e<;> cases e
 ·cases e
def jU.obj(F:jU K C f)(X:K.In h):∃bm N nm qn bs hdct sn sub ab col dd k0 k1 k2 k3 k5,
  h.get? C=some (dO nm qn C N bs bm hdct sn sub ab col dd k0 k1 k2 k3 k5 "ValueError.__new__")/\h.Ns N (h.nsMap N)/\h.nsMap N "__init__"=some (.ref f)/\OwnTail h xbK bm:=by
 have q:=F.xi;unfold xnq at q
 split at q
 ·rename_i dd cd sl ho
  split at q
  ·rename_i C' bm k0 k1 k2 k3 n k5 hm hs;simp only[bx,beq_iff_eq,eO]at q;refine L2.oG fun gq kq=>?_;obtain⟨⟨⟨⟨⟨rfl,rfl⟩,j8⟩,ht⟩,hok⟩,j9⟩:=q;obtain⟨nm,bs,mro,ns,qn,hd,sn,sub,ab,col,del⟩:=cd;obtain⟨l⟩:=sl;refine kq ?_;dsimp only at hm j8 hok j9 hs;subst hm j8 hs;have N1:h.Ns ns (h.nsMap ns):=.of_isNs (W.isNs_of_in X hok);exact⟨bm,ns,nm,qn,bs,hd,sn,sub,ab,col,dd,k0,k1,k2,k3,k5,X _ _ ho,N1,xj1 X N1 j9,W.tail_of_in X ht⟩
  ·cases q
 ·cases q
def xnY(C:Addr)(f:Str)(EE:EEs)(t:TA):TS:=fun _ σ H=>t σ H fun vs H1=>∃v,vs=[v]/\∀d,H1 d=none->EE σ (.ref C) (some d) (upd H1 d (.xd [(f,v)]))
theorem xf4{g:Addr}{fl:Str}{k:Nat}{pos:Pos}(o:Own X)(hc:X.calm=true)(q:jU X.K C g)(F:xt X.prog X.w X.K X.mg X.base CX0 k g fd ps (xdZ C fl))(hr:xI (k+1) X.A)(hb:Binds X.K fd ps [])
  (hg:Gl X x) (hm:X.mg x=some (.ref C)) (ha:PA (X.wish (XEG n X EE)) [e] t)
  (kj:(x==("__debug__":Str))=false:=by decide) (he:aD [e] X.env=(false,eval e X.env)::aD [] X.env:=by rfl) (kd:(bB cpos (aD [e] X.env)).any (·.1)=false:=by rfl):
  PS (X.wish (XEG n X EE)) (.Raise (some (.Call (.Name x np) [e] [] cpos)) none pos) (xnY C fl EE t):=by
 intro pins s σ H D I h;refine L2.oG fun gq kq=>?_;obtain⟨bm,N,nm,qn,bs,hdct,sn,sub,ab,col,dd,k0,k1,k2,k3,k5,hC,hN,kf,TL⟩:=q.obj I.ok.mod.kin;refine kq ?_;refine xj0 (C:=C) (N:=N) (bm:=bm) (nm:=nm) (q:=qn) (bs:=bs) (hdct:=hdct) (sn:=sn) (sub:=sub) (ab:=ab) (col:=col) (dd:=dd) (k0:=k0) (k1:=k1) (k2:=k2) (k3:=k3) (k5:=k5) (newId:="ValueError.__new__") (TL.hasType PySem.F.excBase_ValueError.hasBase) (I.ok.hd hc) kd (yR I hg hm ⟨rfl,?_⟩ kj);have kb:=ha cpos pins s σ H _ I h;rw[he]at kb;show wpAny (model X.prog X.w) X.A (evalArgs (.ref C) true (bB cpos (aD [e] X.env)) []) _ _ s;rw[he];refine PySem.evalArgs_kw (keywords:=[]) rfl ?_;refine thn kb fun us s1 ⟨vs,H1,I1,r,v,hv,y⟩=>?_;subst hv;have hl:us.length=1:=r.length.symm;refine ak ⟨rfl,I1.bk _ _ hC,?_⟩;refine L2.oG fun gq kq=>?_;obtain⟨hh,gg,dr,tt,ko⟩:=s1;refine kq ?_;have ki:W.typeIn X.K (.ref g)=some (.type "function"):=beq_iff_eq.mp q.fn;refine L2.oG fun gq kq=>?_;obtain⟨og,ke,kh⟩:=aE.mp (show(X.K.lookup g).map (·.cls)=_ from ki);refine kq ?_;refine xmB PySem.F.excBase_ValueError (TL.keeps I1.bk) (I1.bk _ _ hC) (hN.keeps I1.bk) kf (I1.kIn _ _ ke) kh (fun h' a mk hsz=>?_) (by show us.length<=ax;rw[hl];decide);refine L2.oG fun gq kq=>?_;obtain⟨t0,ea,_,_⟩:=mk.there;refine kq ?_;have nu:=xno o I1.unwish mk.new;have I2:=I1.laid (a:=a) (o:=HO.exc a C none) (t':=tt) mk.keeps hsz ⟨⟨_,t0,ea,rfl,rfl,rfl⟩,⟨_,ea⟩,fun h1 h2=>xf3⟩;have kg:(aF a::us++[]).length=ps.length:=by
  have:=F.len [.ref a,v] (upd H1 a (HO.exc a C none)) (fun _ _=>True) E0 ⟨a,v,rfl,xl,fun _ _ _=>trivial⟩;rw[<-this];simp[hl]
 refine cF (b9 (F.run _ X.stack _ _ ⟨aF a::us,[]⟩ (aF a::us) [.ref a,v] (fun vv H3=>vv= .non/\∃d,H1 d=none/\d≠a/\H3=upd (upd (upd H1 a (HO.exc a C none)) d (.xd [(fl,v)])) a (HO.exc a C (some d))) E0 (hr.make C us [])
  (I2.env0.make C us []) (by have:=hb _ (aF a::us) I2.kIn kg;rwa [cY]at this) (.cons rfl r) ⟨a,v,rfl,xl,fun d n1 n2=>⟨rfl,d,by rwa [xm n2]at n1,n2,rfl⟩⟩) fun rr s' j9=>?_)
 cases rr with
 |error e=>exact aS j9
 |ok km=>
  cases km with
  |ret u=>
   refine L2.oG fun gq kq=>?_;obtain⟨vv,H',I3,rv,rfl,d,n1,n2,rfl⟩:=I2.after j9;refine kq ?_;obtain rfl:u=a7:=rv;refine L2.oG fun gq kq=>?_;obtain⟨⟨oe,t1,kc,oc,od,j8⟩,_⟩:=I3.hok a _ xl;refine kq ?_;have ka:rem (upd (upd (upd H1 a (HO.exc a C none)) d (.xd [(fl,v)])) a (HO.exc a C (some d))) a=upd H1 d (.xd [(fl,v)]):=by
    funext b
    unfold rem
    by_cases hb:b=a
    ·rw[if_pos hb,hb,xm (aL n2)];exact nu.1.symm
    ·rw[if_neg hb,xm hb]
     by_cases hd:b=d
     ·rw[hd,xl,xl]
     ·rw[xm hd,xm hd,xm hb]
   have I4:=I3.unwish.forget (a:=a) xl;rw[ka]at I4;refine⟨rfl,a,t1,some d,oe.slots,rfl,I3.bk _ _ hC,?_,a,.ref C,some d,σ,_,rfl,I4.nopins,.inl ⟨oe,_,.ref t1,kc,oc,od,j8,rfl,rfl,fun _=>rfl,?_⟩,y d n1⟩
   ·refine L2.oG fun gq kq=>?_;obtain⟨c1,d1,kr,kn⟩:=oe;refine kq ?_;cases oc;cases od;cases j8;exact kc
   ·exact⟨by rw[xm (aL n2)];exact nu.1,nu.2⟩
  |next=>exact aS j9
  |brk=>exact aS j9
  |cont=>exact aS j9
open PySem PySem.Spec PyProof.Rows PySem.W
section
variable {K:Frag} {x D:Addr} {od:Obj}
end
def Fun.okXC{c:Addr}{k:Nat}(F:Fun K x qual st f fd)(hc:fd.code= .ref c)(S:xo N ps (xg st))(len:∀vs H Q E,sp vs H Q E->vs.length=ps.length)
  (j8:∀(A:bc) (outer:List Env) (s:ai) (H:Hp) (vs:List V) (Q:VK) (E:XK),xI k (A.deeper (cZ qual (xg st) s.heap.objs.size f (.ref c)))->sp vs H Q E->
   ∃t,PSs (cxG n P w K mg base N qual (xg st) f (.ref c) A outer s H E) (xM st) t/\t {nx:=fun _ H'=>Q .non H',rt:=Q} (start N vs) H):xt P w K mg base (CXG n P w) (k+1) f fd ps sp:=by
 obtain⟨oc,od,kV,doc,pm,an,kd,ct,osl,rfl,lk,kc⟩:=F.ex;obtain rfl:kd= .ref c:=hc;refine xgO lk kc S len fun A outer s H vs Q E hr ka=>?_;obtain⟨t,h,q⟩:=j8 A outer s H vs Q E hr ka;refine⟨t,h.wished fun e s' ⟨a,cls,dx,σ,H',he,I,Fl,z⟩=>?_,q⟩;subst he;refine xbJ xhd I.ok.frames I Fl fun s2 I2 F2=>?_;obtain⟨oe,vs,a0,T,oT,ts,he,hc,hx,hd,h0,h1,h2,nT,hT,kb,h3,hn,j9⟩:=F2;exact⟨a,cls,dx,H',oe,vs,a0,T,oT,ts,rfl,I2.os,I2.bare,I2.base,I2.hok,he,hc,hx,hd,h0,h1,h2,nT,hT,kb,h3,hn.1,hn.2.1,j9.1,j9.2.1,z⟩
section
variable {k:Nat} {dvs:List V} {m:Str} {pos apos:Pos} {o:Expr}
def xlj(C:Addr)(m:Str)(sp:Sp)(dvs:List V)(EE:EEs)(ta:TE)(t:TA):TE:=fun σ H Q=>ta σ H fun x H1=>∃a dx fs,x= .ref a/\H1 a=some (.ins C dx fs)/\fs.lookup m=none/\
 t σ H1 fun vs H2=>sp (x::(vs++dvs)) H2 Q (EE σ)
def yK{pl:Sem Bool}(ow:Own X)(he:PE (X.wish (XEG n X EE)) o ta)(c:Cls X.K C)(hm:Meth X.K C m f)(F:xt X.prog X.w X.K X.mg X.base (CXG n X.prog X.w) k f fd ps sp)(hr:xI k X.A)(hb:Binds X.K fd ps ds)(hd:Vals dvs ds)(ha:PA (X.wish (XEG n X EE)) (e::es) t)
  (j8:aD (e::es) X.env=(false,eval e X.env)::aD es X.env:=by rfl) (j9:(bB pos (aD es X.env)).any (·.1)=false:=by rfl)
  (ht:eval (.Call (.Attribute o m apos) (e::es) [] pos) X.env=(do
   let ov <-eval o X.env
   gk apos.atName
   let(f,first) <-eF [ov] (fb ov m pl)
   eW pos f first (bB pos (aD (e::es) X.env)) (eX pos (de [] X.env))):=by rfl):
  PE (X.wish (XEG n X EE)) (.Call (.Attribute o m apos) (e::es) [] pos) (xlj C m sp dvs EE ta t):=by
 intro pins s σ H Q I h;refine dS (pl:=pl) (thn (he pins s σ H _ I h) fun u s1 ⟨x,H1,I1,rx,a,dx,fs,ex,ea,l,q⟩=>?_) ht;subst ex;obtain rfl:u=aF a:=rx;refine jD I1 ea c hm l ?_;refine du (first:=[.ref a]) (h₀:=X.base) I.ok.mod.kin hm.kp (thn (ha pos pins s1 σ H1 _ I1 q) fun us s2 ⟨vs,H2,I2,r,q2⟩=>⟨I2.kIn,?_⟩) j8 j9;exact xe8 (us:=.ref a::us) (vs:=.ref a::vs) ow F hr hb hd I2 (.cons rfl r) q2
def xf5{pl:Sem Bool}(ow:Own X)(he:PE (X.wish (XEG n X EE)) o ta)(c:Cls X.K C)(hm:Meth X.K C m f)(F:xt X.prog X.w X.K X.mg X.base (CXG n X.prog X.w) k f fd ps sp)(hr:xI k X.A)(hb:Binds X.K fd ps ds)(hd:Vals dvs ds)
  (ht:eval (.Call (.Attribute o m apos) [] [] pos) X.env=(do
   let ov <-eval o X.env
   gk apos.atName
   let(f,first) <-eF [ov] (fb ov m pl)
   eW pos f first (bB pos (aD [] X.env)) (eX pos (de [] X.env))):=by rfl):
  PE (X.wish (XEG n X EE)) (.Call (.Attribute o m apos) [] [] pos) (xlj C m sp dvs EE ta xg1):=by
 intro pins s σ H Q I h;refine dS (pl:=pl) (thn (he pins s σ H _ I h) fun u s1 ⟨x,H1,I1,rx,a,dx,fs,ex,ea,l,q⟩=>?_) ht;subst ex;obtain rfl:u=aF a:=rx;refine jD I1 ea c hm l ?_;exact fW (first:=[.ref a]) I1.kIn hm.kp (xe8 (us:=[.ref a]) (vs:=[.ref a]) ow F hr hb hd I1 (.cons rfl .nil) q)
end
section
variable {k:Nat} {pos:Pos}
end
end L2
namespace PySem
open Sem (wp)
open AutoSeq1 (wpAny_loadPart')
abbrev kwS(k:Int)(t:Tok):List (Str×Value):=[(aM "start",.int k t)]
def xnZ(a:Value)(k:Int)(t:Tok):checkTypeCall "enumerate" ⟨[a],kwS k t⟩=pure ():=by kernel_rfl
def xps(a:Value)(k:Int)(t:Tok):checkBuiltinCall "enumerate.__new__" ⟨[.type "enumerate",a],kwS k t⟩=pure ():=by kernel_rfl
def xn0(x a:Value)(k:Int)(t:Tok):argsOk "object.__init__" ⟨[x,a],kwS k t⟩:=by
 unfold argsOk;rw[signature?_of (id:="object.__init__") (n:="__tini__".toList) (o:="tcejbo".toList) (by kernel_rfl) F.owner_object]
 kernel_rfl
def xn1(l:Addr)(items:Array Value)(n:Nat)(j9:Option Addr)(sl:Array (Option Value))(k:Int)(t:Tok)(hf:dw k=true):
  Meets (hV.«enumerate.__new__» ⟨[.type "enumerate",.ref l],kwS k t⟩) (fun _ R s=>s.heap.get? l=some ⟨.type "list",j9,.seq items n,sl⟩/\
   R (.ok (.ret (.ref (s.heap.objs.size+1))))
    {s with heap:=(s.heap.push {cls:=.type "list_iterator",data:=.fields #[.ref l,.int 0 0]}).push {cls:=.type "enumerate",data:=.fields #[.none,.bool false,.ref s.heap.objs.size,bz k,.none,.none]}}):=by
 refine .of_wp fun prog w A R s h=>?_;obtain⟨hl,h⟩:=h;refine L2.oG fun gq kq=>?_;obtain⟨hp,g,d,tk,os⟩:=s;refine kq ?_;have hz:(hp.push {cls:=.type "list_iterator",data:=.fields #[.ref l,.int 0 0]}).objs.size=hp.objs.size+1:=dq ..;have j8:=sub_enumerate;have hL:Heap.IsList (Shared.heap ⟨hp,g,d,tk,os⟩) l items:=⟨_,hl,rfl,n,rfl⟩
 wp_walk using dX hl
 refine wpAny_stack_any fun st=>ak ?_
 split
 ·rename_i c _ _ _ _ _;cases (c==dA "enumerate")<;>
   (wp_walk using dX hl,dg hL;exact⟨_,rfl,by rw[hz];exact h⟩)
 ·wp_walk using dX hl,dg hL
  exact⟨_,rfl,by rw[hz];exact h⟩
def xlk{T newId:String}{x y:Value}{kw:List (Str×Value)}(hl:ic (.type T) "__init__"=pure (some (.builtin "object.__init__")))(hm:Bind.madeBy (.type T)=pure (some newId))(j8:(some newId != some "object.__new__")=true):
  Meets (hV.«object.__init__» ⟨[x,y],kw⟩) (fun _ R s=>s.TypeIs x T/\R (.ok (.ret .none)) s):=
 .of_wp fun prog w A R s h=>by
  obtain⟨hT,h⟩:=h
  repeat (any_goals (first|assumption|wp_step))
  exact⟨_,rfl,h⟩
section
variable {prog:aX} {w:World} {A:bc} {E:Value->ai->Prop} {s:ai}
theorem xj2{l:Addr}{items:Array Value}{k:Int}{t:Tok}{Q:Value->ai->Prop}(hL:s.heap.IsList l items)(hf:dw k=true)
  (h:∀h',gD h' (s.heap.objs.size+1) s.heap.objs.size k .none->h'.IsListIter s.heap.objs.size l 0->(∀b o,s.heap.get? b=some o->h'.get? b=some o)->Q (.ref (s.heap.objs.size+1)) {s with heap:=h'}):
  wpAny (model prog w) A (call (.type "enumerate") [.ref l] (kwS k t)) Q E s:=by
 refine L2.oG fun gq kq=>?_;obtain⟨⟨c0,kb,dt,sl⟩,hl,hc,n,hd⟩:=hL;refine kq ?_;obtain rfl:c0= .type "list":=hc;obtain rfl:dt= .seq items n:=hd;have ft:=F.called_enumerate;refine L2.oG fun gq kq=>?_;obtain⟨c,tl,ka⟩:=ft.mro;refine kq ?_;have kd:=xnZ (.ref l) k t;have j8:=ft.made;have j9:=ft.sub;have h1:=ft.notType;have h2:=ft.canCreate;have hz:(s.heap.push {cls:=.type "list_iterator",data:=.fields #[.ref l,.int 0 0]}).objs.size=s.heap.objs.size+1:=dq ..;have he:gD ((s.heap.push {cls:=.type "list_iterator",data:=.fields #[.ref l,.int 0 0]}).push {cls:=.type "enumerate",data:=.fields #[.none,.bool false,.ref s.heap.objs.size,bz k,.none,.none]}) (s.heap.objs.size+1) s.heap.objs.size k .none:=by
  rw[<-hz];exact aI _ rfl
 have fin:=h _ he ⟨_,af _ (aI _ rfl),rfl,rfl⟩ fun b o x=>af _ (af _ x);refine cF (codeAny_of_tree (ak ⟨fT _ (by decide+kernel),gQ F.entry_type_call ?_⟩));rw[Around.under_plain (weight_type_call_type "enumerate" [.ref l] (kwS k t)) (units_type_call_type "enumerate" [.ref l] (kwS k t))]
 repeat (any_goals (first|assumption|wp_step))
 refine b9 (dI ft.plain hW (fJ (xps (.ref l) k t) (xn1 l items n kb sl k t hf prog w A.in1 (wants (fun obj s₁=>s₁.TypeIs obj "enumerate"/\Q obj s₁) E) s ⟨hl,⟨_,he,rfl⟩,fin⟩))) fun r s₁ hr=>?_;rcases r with e|fl
 ·exact hr
 cases fl with
 |ret obj=>
  obtain⟨hT,hq⟩:=(show s₁.TypeIs obj "enumerate"/\Q obj s₁ from hr);have kc:=ft.init.lookup;have ke:=ft.init.bind obj
  repeat (any_goals (first|assumption|wp_step))
  refine b9 (dI ft.init.plain F.entry_object_init (ft.init.check _ _ _ _ _ _ _ _ hT (xn0 obj (.ref l) k t) (xlk (T:="enumerate") (kw:=kwS k t) ft.init.lookup ft.made (by decide) prog w A.in1 (wants (fun r s₂=>r= .none/\Q obj s₂) E) s₁ ⟨hT,rfl,hq⟩))) fun r₂ s₂ h3=>?_;rcases r₂ with e|f2
  ·exact h3
  cases f2 with
  |ret r=>
   obtain⟨rfl,h4⟩:=(show r= .none/\Q obj s₂ from h3)
   repeat (any_goals (first|assumption|wp_step))
  |_=>exact h3.elim
 |_=>exact hr.elim
end
end PySem
namespace L2
open PySem PySem.Spec PyProof.Rows
variable {X:Cx} {K:ay} {w:World} {P:aX} {c d:Nat} {A:bc} {es:List Expr} {l e tg:Expr} {mg:Str->Option Value} {base:Heap} {x:Str} {f:Addr} {fd:av} {ps:List Str} {n:Int}
def xin{prog:aX}{it:Addr}{fp:List Addr}{n:Nat}{Pv:Nat->Value->Prop}{St:Nat->Heap->Prop}(D:Draws prog w A it fp n Pv St)(m:Nat):
  Draws prog w A it fp (m+n) (fun i v=>m<=i/\Pv (i - m) v) (fun i h=>m<=i/\St (i - m) h) where
 live:=fun _ _ st=>D.live _ _ st.2
 frame:=fun _ _ _ st hk=>⟨st.1,D.frame _ _ _ st.2 hk⟩
 item:=fun i s Q E hi st hQ=>D.item (i - m) s Q E (by lia) st.2 fun x h' tk hp hs hb=>hQ x h' tk ⟨st.1,hp⟩ ⟨by lia,by rw[show i+1 - m=i - m+1 by lia];exact hs⟩ hb
 done:=fun s Q E st hE=>D.done s Q E (by have:=st.2;rwa [show m+n - m=n by lia]at this) hE
section
variable {M:Model} {E:Value->ai->Prop} {s:ai}
def xio{pos:Pos}{T:String}{args:List (Bool×Sem Value)}{kws:List (Option Str×Sem Value)}{Q:Value->ai->Prop}(hp:args.any (·.1)=false)(hk:kws.any (·.1.isNone)=false)
  (h:wpAny M A (evalArgs (.type T) true args kws) (fun a s₁=>wpAny M A (call (.type T) a.pos a.kw) Q E s₁) E s):wpAny M A (eW pos (.type T) [] args kws) Q E s:=by
 unfold eW;refine aa (bD ?_);refine aN h (fun a s₁ h₁=>?_) fun _ _ x=>x;refine aa (cg ?_);simp only[hp,hk,fY];refine aa (ak (aa ?_));refine aN h₁ (fun r s₂ hr=>?_) fun _ _ x=>x;exact aa (bD (wpAny_point (ak hr)))
end
def xhf(K:ay)(a:Addr)(m:Nat):It:=
 ⟨fun i H=>∃xs x,SqL K H a xs/\xs[i]? =some x,fun i H v H'=>∃T x,v= .ref T/\H T=none/\H'=upd H T (.tup [.int ((m+i:Nat):Int),x])/\∀xs,SqL K H a xs->xs[i]? =some x,fun i H=>∃xs,SqL K H a xs/\xs.length<=i⟩
def xeA{k:Nat}{pos:Pos}(a e it:Addr)(m:Nat)(ka:e≠it):Turn P w K (.Tuple es k pos) (xhf K a m) [e,it] e (fun i h=>(∃old,gD h e it ((m+i:Nat):Int) old)/\h.IsListIter it a i) where
 mem:=by simp
 obj:=fun i h st b hb=>by
  refine L2.oG fun gq kq=>?_;obtain⟨⟨old,he⟩,⟨o,e1,c,d⟩⟩:=st;refine kq ?_;rcases ah.mp hb with z|z
  ·subst z;exact⟨_,he,fun v z=>by cases z⟩
  ·rw[ao.mp z];exact⟨o,e1,fun v z=>by rw[d]at z;cases z⟩
 keep:=fun i h h' st kk=>by
  refine L2.oG fun gq kq=>?_;obtain⟨⟨old,he⟩,hit⟩:=st;refine kq ?_;exact⟨⟨old,kk e (by simp) _ he⟩,hit.at fun o x=>kk it (by simp) o x⟩
 item:=by
  intro X hP hw hK hc i pins s σ H E I hf st hg;subst hP hw hK;refine L2.oG fun gq kq=>?_;obtain⟨xs,x,hq,hx⟩:=hg;obtain⟨its,rv,p,hz⟩:=I.list hq;obtain⟨u,hu,ru⟩:=rv.get hx;obtain⟨⟨old,he⟩,hit⟩:=st;refine kq ?_;have kb:=au he;have kc:it<s.heap.objs.size:=by obtain⟨o,q,_⟩:=hit;exact au q
  have km:i<its.length:=by
   have:=(aR.mp hu).1;exact this
  have pl:=p.isList;have kh:a≠it:=fun z=>by
   refine L2.oG fun gq kq=>?_;obtain⟨o1,q1,c1,_⟩:=pl;obtain⟨o2,q2,c2,_⟩:=hit;refine kq ?_;rw[z,q2]at q1;cases q1;rw[c2]at c1;simp at c1
  have ki:e≠a:=fun z=>by
   refine L2.oG fun gq kq=>?_;obtain⟨o1,q1,c1,_⟩:=pl;refine kq ?_;rw[<-z,he]at q1;cases q1;simp at c1
  have D:=xin (Draws.list (prog:=X.prog) (w:=X.w) (A:=X.A.in1) (I.ok.hd hc) it a kh its.toArray) m;refine gI D he ⟨by lia,by rw[show m+i - m=i by lia];exact⟨hit,pl⟩⟩ (by simp;lia) ka (by simp[ka,ki]) fun y h' tk hy ke kd hT hsz hk=>?_;have ey:y=u:=by
   have h1:=hy.2;rw[show m+i - m=i by lia]at h1;have h2:its.toArray[i]? =some u:=by simpa using hu
   rw[h2]at h1;exact(aQ h1).symm
  subst ey;have j8:=kd.2.1;rw[show m+i+1 - m=i+1 by lia]at j8;refine⟨_,rfl,fZ (s:={s with heap:=h',toks:=tk+1}) ke fun h2 kf j9=>?_⟩;have kj:h2.get? s.heap.objs.size=some {cls:=.type "tuple",data:=.seq #[.int ((m+i:Nat):Int) tk,y]}:=(j9.2 _ (fq kb)).trans hT;have I2:Inv X pins σ (upd H s.heap.objs.size (.tup [.int ((m+i:Nat):Int),x])) {s with heap:=h2,toks:=tk+1}:=by
   refine I.turnLaid (ch:=[e,it]) (fun b o hb q=>?_) (aq _) ⟨by simp[ar],[.int ((m+i:Nat):Int) tk,y],.cons ⟨_,rfl⟩ (.cons ru .nil),⟨_,kj,rfl,_,rfl⟩⟩ (fun b hb=>(hf b hb).1) (fun b hb=>?_) fun b hb=>?_
   ·have b1:b≠e:=fun z=>hb (by simp[z]);have b2:b≠it:=fun z=>hb (by simp[z]);exact(j9.2 b b1).trans (hk b o b1 b2 q)
   ·rcases ah.mp hb with z|z
    ·rw[z];exact kb
    ·rw[ao.mp z];exact kc
   ·refine L2.oG fun gq kq=>?_;obtain⟨f0,f1,f2,f3,f4,f5⟩:=hf b hb;refine kq ?_;exact⟨f3,f1,f4,f5⟩
  refine⟨.ref s.heap.objs.size,_,I2,rfl,⟨_,x,rfl,I.hok.fresh (aq _),rfl,fun ys hy=>by rw[I.list_inj hy hq];exact hx⟩,⟨⟨y,by rw[show((m+(i+1):Nat):Int)=((m+i:Nat):Int)+1 by lia];exact kf⟩,j8.extBut j9.extBut (aL ka)⟩,fun b hb=>?_⟩;have kg:b≠s.heap.objs.size:=by
   rcases ah.mp hb with z|z
   ·rw[z];exact aJ kb
   ·rw[ao.mp z];exact aJ kc
  rw[xm kg];exact(hf b hb).1
 done:=by
  intro X hP hw hK hc i pins s σ H E I hf st hg;subst hP hw hK;refine L2.oG fun gq kq=>?_;obtain⟨xs,hq,hx⟩:=hg;obtain⟨its,rv,p,hz⟩:=I.list hq;obtain⟨⟨old,he⟩,hit⟩:=st;obtain⟨f0,f1,f2,f3,f4,f5⟩:=hf it (by simp);refine kq ?_;have hl:=rv.length;have pl:=p.isList;have D:Draws X.prog X.w X.A.in1 it [it,a] 0 (fun _ _=>False) (fun _ h=>h.IsListIter it a i/\h.IsList a its.toArray):={
   live:=fun _ _ st=>let⟨o,ho,_⟩:=st.1;⟨o,ho⟩
   frame:=fun _ _ _ st hk=>⟨st.1.at fun o e=>hk it (by simp) o e,st.2.at fun o e=>hk a (by simp) o e⟩
   item:=fun j s Q E hj=>absurd hj (Nat.not_lt_zero _)
   done:=fun s Q E st hE=>wpAny_nextOf_list_end (I.ok.hd hc) st.1 st.2 (by simp;lia) hE}
  exact wpAny_pyNext_enum_endD D he ⟨hit,pl⟩ fun h' eb=>⟨rfl,I.turned (t':=s.toks) (fun b o hb e=>eb b o hb e) f0 f1 f3 f4 f5⟩
 self:=fun _ _ _ _ _ st h=>by
  refine L2.oG fun gq kq=>?_;obtain⟨⟨old,he⟩,_⟩:=st;refine kq ?_;exact di he h
section
variable {k:Nat} {tp:Pos}
def xpt(K:ay)(ta:TA)(tf:TE):TI:=fun σ H R=>ta σ H fun vs H1=>tf σ H1 fun y H2=>∃(a:Addr) (m:Nat),vs=[.ref a]/\y= .int m/\(m:Int)<2^62/\(∃xs,SqL K H2 a xs)/\R (xhf K a m) H2
def xmC{fe:Expr}{ta:TA}{tf:TE}{p pos kp:Pos}(hg:Gl X "enumerate")(hm:X.mg "enumerate"=none)(ha:PA X [l] ta)(hf:PE X fe tf)
  (he:bB pos (aD [l] X.env)=(false,eval l X.env)::bB pos (aD [] X.env):=by rfl):PI X (.Tuple es k tp) (.Call (.Name "enumerate" p) [l] [⟨some "start",fe,kp⟩] pos) (xpt X.K ta tf):=by
 intro pins s σ H R I h;refine bC (ve I hg hm jQ ?_);refine xio (by rw[he];rfl) rfl ?_;rw[he];refine evalArgs_kwB rfl ?_;rw[<-he];refine thn (ha pos pins s σ H _ I h) fun us s1 h1=>?_;obtain⟨vs,H1,I1,r1,q1⟩:=h1;refine kws_cons (thn (hf pins s1 σ H1 _ I1 q1) fun fu s2 h2=>kws_nil ?_);obtain⟨y,H2,I2,r2,a,m,rfl,rfl,j8,⟨xs,hq⟩,q⟩:=h2;obtain⟨u,rfl,ru⟩:=Vals.one r1;cases ru;obtain⟨tz,rfl⟩:=r2;obtain⟨its,rv,pl,hz⟩:=I2.list hq;show wpAny _ _ (call (.type "enumerate") [.ref a] (kwS m tz)) _ _ s2;refine xj2 pl.isList (by simp[dw];lia) fun h' he hi hk=>di (s:={s2 with heap:=h'}) he ?_;refine⟨s2.heap.objs.size+1,[s2.heap.objs.size+1,s2.heap.objs.size],_,_,H2,rfl,I2.kept (t':=s2.toks) hk,xeA a _ _ m (gE _),⟨⟨.none,by simpa using he⟩,hi⟩,fun b hb=>?_,q⟩;rcases ah.mp hb with z|z
 ·rw[z];exact I2.fpOk (cM _) (I2.hok.fresh (cM _))
 ·rw[ao.mp z];exact I2.fpOk (aq _) (I2.hok.fresh (aq _))
end
def xip{l:Addr}{n:Nat}{xs:List V}{g:TG}{tb:TS}{D:Ends}{σ:St}{H:Hp}(Pv:Nat->St->Hp->Prop)(h0:Pv 0 σ H)(hl:∀i σ H,i<=xs.length->Pv i σ H->SqL K H l xs)
  (hs:∀i x σ H T,xs[i]? =some x->Pv i σ H->H T=none->g (.ref T) σ (upd H T (.tup [.int ((n+i:Nat):Int),x])) fun σ2 H2=>tb {D with nx:=Pv (i+1),ct:=Pv (i+1),bk:=D.nx} σ2 H2) (hd:∀σ H,Pv xs.length σ H->D.nx σ H):zJ (xhf K l n) g tb D σ H:=by
 unfold zJ;refine⟨fun i m σ H=>m=xs.length - i/\i<=xs.length/\Pv i σ H,⟨xs.length,by simp,bu _,h0⟩,?_⟩;rintro i m σ H ⟨rfl,hi,p⟩;have hq:=hl i σ H hi p
 by_cases j8:i<xs.length
 ·have hx:xs[i]? =some xs[i]:=bG j8;refine .inr ⟨⟨xs,xs[i],hq,hx⟩,Pv (i+1),fun σ' H' p'=>⟨xs.length - (i+1),by lia,rfl,j8,p'⟩,fun v H' y=>?_⟩;obtain⟨T,x,rfl,hT,rfl,j9⟩:=y;exact hs i x σ H T (j9 xs hq) p hT
 ·obtain rfl:i=xs.length:=by lia
  exact .inl ⟨⟨xs,hq,aq _⟩,hd σ H p⟩
abbrev xq0(n:Bool)(cap:List Str)(P:aX)(w:World)(K:ay)(mg:Str->Option Value)(base:Heap)(N:List Str)(qual:Str)(sc:Scope)(f:Addr)(cd:Value)(A:bc)(outer:List Env)(s:ai)(H:Hp)(E:XK):Cx:=
 (xaH cap (CXG n P w) P w K mg base N qual sc f cd A outer s H E).wish (XEG n (xaH cap (CXG n P w) P w K mg base N qual sc f cd A outer s H E) fun _=>E)
theorem Fun.okXK{n:Bool}{qual:Str}{st:Stmt}{c:Addr}{N:List Str}{k:Nat}{sp:Sp}(cap:List Str)(F:Fun K x qual st f fd)(hc:fd.code= .ref c)(S:xo N ps (xg st))(len:∀vs H Q E,sp vs H Q E->vs.length=ps.length)
  (j9:∀(A:bc) (outer:List Env) (s:ai) (H:Hp) (vs:List V) (Q:VK) (E:XK),xI k (A.deeper (cZ qual (xg st) s.heap.objs.size f (.ref c)))->sp vs H Q E->
   ∃t,PSs (xq0 n cap P w K mg base N qual (xg st) f (.ref c) A outer s H E) (xM st) t/\t {nx:=fun _ H'=>Q .non H',rt:=Q} (start N vs) H):xt P w K mg base (CXG n P w) (k+1) f fd ps sp:=by
 refine L2.oG fun gq kq=>?_;obtain⟨oc,od,kV,doc,pm,an,kf,ct,osl,rfl,lk,ke⟩:=F.ex;refine kq ?_;obtain rfl:kf= .ref c:=hc;refine⟨len,fun A outer s H args us vs Q E hr e0 hb r ka=>?_⟩;have hl:=len _ _ _ _ ka;have KX:K.In s.heap:=e0.mod.kin.keeps fun b o e=>(e0.bs b o e).1;have lim:s.heap.NoLimit:=e0.mod.nolimit.keeps fun b o e=>(e0.bs b o e).1;have j8:∀y∈ps.zip us,(xg st).names.lookup y.1=some .local\/((xg st).names.lookup y.1=some .cell/\((fO (s.heap.objs.size+1) (xg st).names []).lookup y.1).isSome=true):=fun⟨n,v⟩ hy=>by
  rcases S.par n (cw hy).1 with q|q
  ·exact .inl q
  ·exact .inr ⟨q,dE _ _ _ (.inl q)⟩
 refine cx hr.depth (KX _ _ lk) rfl S.co S.gen rfl (gu KX ke) (hb _ _ _ _ ?_);refine cA S.kind j8 fun env he s1 x=>?_;subst he;refine⟨lim.keeps x.toInCall.keep,gv ?_⟩;refine L2.oG fun gq kq=>?_;obtain⟨t,kc,hq⟩:=j9 A outer s H vs Q E (hr.deeper _) ka;refine kq ?_;have ht:PSs (xaH cap (CXG n P w) P w K mg base N qual (xg st) f (.ref c) A outer s H E) (xM st) t:=kc.wished fun e s' ⟨a,cls,dx,σ,H',he,I,Fl,z⟩=>by
  subst he;refine xbJ ⟨rfl,rfl,rfl⟩ I.ok.frames I Fl fun s2 I2 F2=>?_;refine L2.oG fun gq kq=>?_;obtain⟨oe,vs,a0,T,oT,ts,he,hc,hx,hd,h0,h1,h2,nT,hT,kd,h3,hn,kb⟩:=F2;refine kq ?_;exact⟨a,cls,dx,H',oe,vs,a0,T,oT,ts,rfl,I2.os,I2.bare,I2.base,I2.hok,he,hc,hx,hd,h0,h1,h2,nT,hT,kd,h3,hn.1,hn.2.1,kb.1,kb.2.1,z⟩
 have I:Inv (uJ (CXG n P w) P w K mg base N qual (xg st) f (.ref c) A outer s H E) [] (start N vs) H s1:=xaF S hr.hd e0 hl r x;have I':Inv (xaH cap (CXG n P w) P w K mg base N qual (xg st) f (.ref c) A outer s H E) [] (start N vs) H s1:=I.capd (fun _=>rfl) (xjU cap);refine aN (ht [] s1 (start N vs) H _ I' hq) (fun fl s' hs=>?_) fun e s' hs=>hs;have fin:∀{σ':St} {H':Hp} {v:V} {u:Value},Inv (xaH cap (CXG n P w) P w K mg base N qual (xg st) f (.ref c) A outer s H E) [] σ' H' s'->RelV v u->Q v H'->CE outer P w H s Q u s':=
  fun{σ' H' v u} J rv q=>⟨v,H',J.os,J.bare,J.base,J.hok,rv,q⟩
 cases fl with
 |ret u=>
  refine L2.oG fun gq kq=>?_;obtain⟨v,σ',H',J,rv,q⟩:=hs;refine kq ?_;exact fin J rv q
 |next=>
  refine L2.oG fun gq kq=>?_;obtain⟨σ',H',J,q⟩:=hs;refine kq ?_;exact fin (v:=V.non) (u:=a7) J rfl q
 |brk=>
  refine L2.oG fun gq kq=>?_;obtain⟨_,_,_,q⟩:=hs;refine kq ?_;exact aS q
 |cont=>
  refine L2.oG fun gq kq=>?_;obtain⟨_,_,_,q⟩:=hs;refine kq ?_;exact aS q
def xgV(sep:Str):List Str->Str
 |[p]=>p
 |ss=>Builtin.Str.glued sep ss
def xcB(sep:Str)(ss:List Str):Nat:=Array.foldl (fun x1 x2=>x1+x2.length+sep.length) 0 ss.toArray
theorem xjc:∀{ss:List Str} {us:List Value},Vals (ss.map V.str) us->∃l:List (Str×Tok),us=strValues l/\l.map (fun x=>x.1)=ss
 |[],us,h=>by cases h;exact⟨[],rfl,rfl⟩
 |s::ss,us,h=>by
  cases h with
  |cons a b=>
   obtain⟨t,rfl⟩:=a;obtain⟨l,rfl,rfl⟩:=xjc b;exact⟨(s,t)::l,rfl,rfl⟩
def rJoin(K:ay):V->List V->Hp->VK->Prop:=fun x vs H Q=>∃(sep:Str) (l:Addr) (ss:List Str),x= .str sep/\vs=[.ref l]/\SqL K H l (ss.map V.str)/\xcB sep ss<=ax/\(xgV sep ss).length<=ax/\Q (.str (xgV sep ss)) H
def xdf:MtM X "str.join" (rJoin X.K):=by
 intro pins s σ H x vs v us Q I rx rv h;obtain⟨sep,a,ss,rfl,rfl,hq,hl,j9,q⟩:=h;obtain⟨t,rfl⟩:=rx;obtain⟨u,rfl,ru⟩:=rv.one;cases ru;obtain⟨its,r',pl,hz⟩:=I.list hq;obtain⟨l,rfl,rfl⟩:=xjc r';have j8:Builtin.Str.tooLong (Array.foldl (fun x1 x2=>x1+x2.length+sep.length) 0 (List.map (fun x=>x.fst) l).toArray)=false:=decide_eq_false (by unfold xcB at hl;lia);refine cH F.slot_str_join (dG s sep t) F.entry_str_join (F.args_str_join_2 _ _) (meets_str_join_list sep t a l j8) ⟨pl.isList,?_⟩;rcases l with _|⟨p,_|⟨p2,l⟩⟩
 ·exact⟨j9,.str _,H,I.tok _,⟨_,rfl⟩,q⟩
 ·exact⟨.str _,H,I.tok _,⟨_,rfl⟩,q⟩
 ·exact⟨j9,.str _,H,I.tok _,⟨_,rfl⟩,q⟩
def xn2:V->List V->Hp->VK->Prop:=fun x vs H Q=>∃(z y:Str),x= .str z/\vs=[.str y]/\Q (.bl (decide (0+y.length<=z.length)&&i9 z y 0)) H
def xgn:MtM X "str.startswith" xn2:=by
 intro pins s σ H x vs v us Q I rx rv h;obtain⟨z,y,rfl,rfl,q⟩:=h;obtain⟨t,rfl⟩:=rx;obtain⟨u,rfl,ru⟩:=rv.one;obtain⟨t2,rfl⟩:=ru;refine cH F.slot_str_startswith (dG s z t) F.entry_str_startswith (F.args_str_startswith_2 _ _) (gives_str_startswith z y t t2).meets ?_;exact⟨.bl _,H,I.tok _,rfl,q⟩
theorem xf6:∀(ss:List Str) (t:Nat),Vals (ss.map V.str) (strsFrom t ss)
 |[],t=>by unfold strsFrom;exact .nil
 |s::ss,t=>by unfold strsFrom;exact .cons ⟨t,rfl⟩ (xf6 ss (t+1))
def xqr(c:Str)(te:TE):TE:=fun σ H Q=>(cX++c).length<=ax/\te σ H fun x H1=>∃i:Int,x= .int i/\i.natAbs.log2<1920/\(cX++c++aM (toString i)).length<=ax/\Q (.str (cX++c++aM (toString i))) H1
def xjd{c:Str}{j:Nat}{p1 p2 pos:Pos}{te:TE}(he:PE X e te):PE X (.JoinedStr [.Constant (.str c) j p1,.FormattedValue e (-1) none p2] pos) (xqr c te):=by
 intro pins s σ H Q I h;obtain⟨hl,h⟩:=h;refine wpAny_JoinedStr (Joins_cons (cU ⟨c,_,rfl,hl,Joins_cons ?_⟩));refine wpAny_FormattedValue_plain (thn (he pins _ σ H _ (I.tok _) h) fun v s1 ⟨x,H1,I1,r1,q1⟩=>?_);obtain⟨i,rfl,hi,j8,q⟩:=q1;obtain⟨t,rfl⟩:=r1;refine wpAny_formatField_int hi ⟨_,_,rfl,j8,Joins_nil ⟨j8,?_⟩⟩;exact⟨.str _,H1,(I1.tok _).tok _,⟨_,rfl⟩,q⟩
def xpu:V->Option Str
 | .int i=>some (aM (toString i))
 | .str z=>some z
 |_=>none
theorem zw:yq X (.type "str") (fun xs H Q=>∃(x:V) (z:Str),xs=[x]/\xpu x=some z/\(∀i,x= .int i->i.natAbs.log2<1920)/\Q (.str z) H):=by
 intro pins s σ H xs us Q I r h;obtain⟨x,z,rfl,hz,hb,q⟩:=h;obtain⟨u,rfl,rx⟩:=vals1 r;cases x with
 |int i=>
  obtain⟨t,rfl⟩:=rx;cases hz;exact PySem.P.str_of_int (hb i rfl) ⟨.str _,H,I.tok _,⟨_,rfl⟩,q⟩
 |str y=>
  obtain⟨t,rfl⟩:=rx;cases hz;exact PySem.P.str_of_str ⟨.str _,H,I.tok _,⟨_,rfl⟩,q⟩
 |_=>cases hz
def xcC(z:Str)(lo hi:Option Int):Str:=⟨((z.cps.toList.drop (HT.sIx z.length 0 lo)).take (HT.sIx z.length z.length hi - HT.sIx z.length 0 lo)).toArray⟩
def xpv(lo hi:Option Int)(n:Nat):Builtin.Str.strSliceIndices lo hi 1 n=sliceRange ((HT.sIx n 0 lo:Nat):Int) ((HT.sIx n n hi:Nat):Int) 1:=by
 obtain⟨h1,h2,h3⟩:=xcq lo hi n;rw[<-h1,<-h2];rfl
def xq1:V->Option Int->Option Int->Hp->VK->Prop:=fun x lo hi H Q=>∃z,x= .str z/\z.length<=ax/\Q (.str (xcC z lo hi)) H
theorem xpw:SlR X xq1:=by
 intro pins s σ H x v vl vu lo hi sl Q I rx hs pl pu h;obtain⟨z,rfl,hz,q⟩:=h;obtain⟨t,rfl⟩:=rx;refine⟨"str",_,slot_str_getitem.lookup,dG s z t,?_⟩;obtain⟨l,hl⟩:∃l:Option (Int×Tok),vl=partValue l/\l.map (·.1)=lo:=by
  cases pl with
  |none=>exact⟨none,rfl,rfl⟩
  |int i t=>exact⟨some (i,t),rfl,rfl⟩
 obtain⟨u,hu⟩:∃u:Option (Int×Tok),vu=partValue u/\u.map (·.1)=hi:=by
  cases pu with
  |none=>exact⟨none,rfl,rfl⟩
  |int i t=>exact⟨some (i,t),rfl,rfl⟩
 obtain⟨rfl,rfl⟩:=hl;obtain⟨rfl,rfl⟩:=hu;refine wpAny_getItem_str_slice (st:=none) (l:=l) (u:=u) hs rfl ?_;have hp:slicePicked z l u none=(cT (HT.sIx z.length z.length (u.map (·.1)) - HT.sIx z.length 0 (l.map (·.1)))).map fun x=>HT.sIx z.length 0 (l.map (·.1))+x:=by
  unfold slicePicked;rw[show((none:Option (Int×Tok)).map (fun x=>x.fst)).getD 1=1 from rfl,xpv,sliceRange_one]
 have he:(List.filterMap (fun j9=>z.cps[j9]?) (slicePicked z l u none)).toArray=(xcC z (l.map (·.1)) (u.map (·.1))).cps:=by
  rw[hp,pick_run];rfl
 unfold sliceMade
 split
 ·rename_i hc;have hlen:HT.sIx z.length z.length (u.map (·.1)) - HT.sIx z.length 0 (l.map (·.1))=z.length:=by
   have:=hc;rw[hp]at this;simpa using this
  have j8:xcC z (l.map (·.1)) (u.map (·.1))=z:=by
   have hb:HT.sIx z.length z.length (u.map (·.1))<=z.length:=HT.xkS _ _ (aq _) _;unfold xcC;rw[hlen];have ka:z.cps.toList.length=z.length:=by simp[cq]
   by_cases h0:z.length=0
   ·have:z.cps.toList=[]:=gJ.mp (by lia);rw[this];have:z.cps=#[]:=by rw[<-iu (xs:=z.cps),this]
    cases z
    simp_all
   ·have ha:HT.sIx z.length 0 (l.map (·.1))=0:=by lia
    rw[ha,h9,eU (by lia),iu]
  rw[j8]at q;exact⟨.str _,H,I.tok _,⟨_,rfl⟩,q⟩
 ·rw[he];refine⟨?_,.str _,H,I.tok _,⟨_,rfl⟩,q⟩;have ka:z.cps.toList.length=z.length:=by simp[cq]
  show(xcC z (l.map (·.1)) (u.map (·.1))).cps.size<=ax;unfold xcC;rw[aC,bw,dF];lia
def xj3(z:Str):It:=⟨fun i _=>i<z.cps.size,fun i H x H'=>H'=H/\∃c,z.cps[i]? =some c/\x= .str ⟨#[c]⟩,fun i _=>i=z.cps.size⟩
def xhg(h:A.handled=none)(it:Addr)(z:Str)(t:Tok):Walks P w A it [it] [it] z.cps.size (SignAt z) (fun i h=>h.IsStrIter it (eV z) z t i):=by
 unfold eV
 split
 ·exact Walks.strAscii h it z t
 ·exact Walks.strWide h it z t
def xgo(z:Str):["enumerate","zip","dict_itemiterator","dict_reverseitemiterator","odict_iterator","itertools.zip_longest","itertools.pairwise"].contains (eV z)=false:=by
 unfold eV
 split<;> decide
def xmD(z:Str)(t:Tok)(it:Addr):Turn P w K tg (xj3 z) [it] it (fun i h=>h.IsStrIter it (eV z) z t i) where
 mem:=by simp
 obj:=fun i h st b hb=>by
  have e:b=it:=by simpa using hb
  subst e;obtain⟨o,e,c,d⟩:=st;exact⟨o,e,fun v z=>by rw[d]at z;cases z⟩
 keep:=fun i h h' st k=>by
  obtain⟨o,e,c,d⟩:=st;exact⟨o,k it (by simp) o e,c,d⟩
 item:=by
  intro X hP hw hK hc i pins s σ H E I hf st hg;subst hP hw hK;obtain⟨f0,f1,f2,f3,f4,f5⟩:=hf it (by simp);refine(xhg (I.ok.hd hc) it z t).item i s _ E hg st fun v h' tk hv j8 hk=>?_;obtain⟨c,u,j9,rfl⟩:=hv;have I1:Inv X pins σ H {s with heap:=h',toks:=tk}:=I.turned (t':=tk) (fun b o hb e=>hk b o (by simpa using hb) e) f0 f1 f3 f4 f5;obtain⟨o,e,cl,d⟩:=id j8;exact⟨_,rfl,xem (s:={s with heap:=h',toks:=tk}) e cl d (xgo z) ⟨.str ⟨#[c]⟩,H,I1,⟨_,rfl⟩,⟨rfl,c,j9,rfl⟩,j8,fun b hb=>(hf b hb).1⟩⟩
 done:=by
  intro X hP hw hK hc i pins s σ H E I hf st hg;subst hP hw hK;obtain⟨f0,f1,f2,f3,f4,f5⟩:=hf it (by simp);have hg:i=z.cps.size:=hg;subst hg;exact(xhg (I.ok.hd hc) it z t).done s _ E st fun h' tk hk=>⟨rfl,I.turned (t':=tk) (fun b o hb e=>hk b o (by simpa using hb) e) f0 f1 f3 f4 f5⟩
 self:=fun A i s Q E st h=>by
  unfold eV at st
  split at st
  ·exact wpAny_pyIter_striter_ascii st h
  ·exact wpAny_pyIter_striter_wide st h
def xq2(tl:TE):TI:=fun σ H R=>tl σ H fun x H1=>∃z,x= .str z/\R (xj3 z) H1
def xpx{tl:TE}(hl:PE X l tl):PI X tg l (xq2 tl):=by
 intro pins s σ H R I h;refine thn (hl pins s σ H _ I h) fun v s1 ⟨x,H1,I1,r1,q1⟩=>?_;obtain⟨z,rfl,q⟩:=q1;obtain⟨t,rfl⟩:=r1;refine wpAny_pyIter_strU ?_;refine⟨s1.heap.objs.size,[s1.heap.objs.size],_,_,H1,rfl,I1.kept (t':=s1.toks) fun b o e=>af _ e,xmD z t _,⟨_,aI _ rfl,rfl,rfl⟩,fun b hb=>?_,q⟩;have e:b=s1.heap.objs.size:=by simpa using hb
 subst e;exact I1.fpOk (aq _) (I1.hok.fresh (aq _))
def xmE{z:Str}{te:TE}{caps:L2.St}{Q:VK}{H2:Hp}(f:Nat->V)(hn:z.cps.size<=ax)
  (hs:∀(c:Nat) (H3:Hp),c∈z.cps.toList->xf H2 H3->∀R:VK,(∀H6,xf H3 H6->R (f c) H6)->te (some (.str ⟨#[c]⟩)::caps) H3 R)
  (hd:∀D H',H2 D=none->xf H2 H'->H' D=some (.lst (z.cps.toList.map f))->Q (.ref D) H'):zo (xj3 z) caps xg8 te Q H2:=by
 unfold zo;intro D hD;have hz:z.cps.toList.length=z.cps.size:=bP;refine⟨fun i m acc H3=>m=z.cps.size - i/\i<=z.cps.size/\acc=(z.cps.toList.take i).map f/\H3 D=some (.lst acc)/\xf H2 H3,⟨z.cps.size,by simp,bu _,rfl,xl,xf.new hD⟩,?_⟩;rintro i m acc H3 ⟨rfl,hi,rfl,j8,s3⟩;refine⟨j8,?_⟩
 by_cases j9:i<z.cps.size
 ·refine .inr ⟨j9,by rw[ag,bw];lia,fun v H4 y=>?_⟩;obtain⟨e,c,hc,ev⟩:=y;subst e;subst ev;have ka:z.cps.toList[i]? =some c:=by rw[Array.getElem?_toList];exact hc
  refine⟨fun _=>?_,fun z=>by cases z⟩;refine hs _ _ (aw ka) s3 _ fun H6 s6=>⟨s6.at j8,z.cps.size - (i+1),by lia,rfl,j9,?_,xl,(s3.trans s6).put hD⟩;rw[bj,ka,bt];rfl
 ·have e:i=z.cps.size:=by lia
  subst e;rw[<-hz,bo]at j8;exact .inl ⟨rfl,hd D H3 hD s3 j8⟩
def xll:yq X (.type "int") (fun xs H Q=>∃(z:Str) (n:Int),xs=[.str z]/\PySem.intText? z=some n/\z.length<=640/\Q (.int n) H):=by
 intro pins s σ H xs us Q I r h;obtain⟨z,n,rfl,hn,hl,q⟩:=h;obtain⟨u,rfl,rx⟩:=vals1 r;obtain⟨t,rfl⟩:=rx;exact W.KIN.call_text hn hl ⟨.int _,H,I.tok _,⟨_,rfl⟩,q⟩
structure DcK(w:World)(K:ay)(a:Addr)(kvs:List (Str×Int)):Prop where
 obj:∃es n,K.lookup a=some ⟨.type "dict",none,.dict es n,#[]⟩/\iY w.params es.toList
 val:∀x i,(x,i)∈kvs->∃t,bq K a x=some (some (.int i t))
def xfb{a:Addr}{y:Str}{j:Int}{t:Tok}{kvs:List (Str×Int)}(h:bq K a y=some (some (.int j t)))(r:∀x i,(x,i)∈kvs->∃t,bq K a x=some (some (.int i t))):
  ∀x i,(x,i)∈(y,j)::kvs->∃t,bq K a x=some (some (.int i t)):=fun x i z=>by
 rcases ah.mp z with e|z
 ·obtain⟨rfl,rfl⟩:=Prod.mk.inj e;exact⟨t,h⟩
 ·exact r x i z
section
variable {o i:Expr} {pos:Pos} {td ty:TE}
def xpy(w:World)(K:ay)(td ty:TE):TE:=fun σ H Q=>td σ H fun x H1=>ty σ H1 fun y H2=>∃a kvs z n,x= .ref a/\y= .str z/\DcK w K a kvs/\(z,n)∈kvs/\Q (.int n) H2
def xmF(ho:PE X o td)(hi:PE X i ty)(hs:xmj i):PE X (.Subscript o i pos) (xpy X.w X.K td ty):=by
 intro pins s σ H Q I h;refine xi4 PySem.F.slot_dict_getitem.lookup hs (thn (ho pins s σ H _ I h) fun u s1 ⟨x,H1,I1,rx,q1⟩=>thn (hi pins s1 σ H1 _ I1 q1) fun iv s2 ⟨y,H2,I2,ry,a,kvs,z,n,ex,ey,dc,hz,q2⟩=>?_);subst ex ey;obtain rfl:u=aF a:=rx;obtain⟨t,rfl⟩:=ry;obtain⟨es,m,hl,hk⟩:=dc.obj;obtain⟨t',e⟩:=dc.val z n hz;have hm:=W.mapOf_K (prog:=X.prog) (w:=X.w) I2.kIn hl hk;exact⟨hm.typeIs,wpAny_getItem_of (iw X.prog X.w z t) hm (W.find_K hl e) ⟨.int n,H2,I2.tok _,⟨_,rfl⟩,q2⟩⟩
end
def xpz{T:String}{name:Str}{id:String}{r:V->List V->Hp->VK->Prop}{o:Expr}{to:TE}{t:TA}{apos cpos:Pos}(hK:X.K=K)(pa:PlainAttrs T)(slot:Slot T name id)(kc:typeOf (.builtin id)=pure (.type "method_descriptor"))(hm:MtR X id r)(ho:PE X o to)(ha:PA X (e::es) t)
  (ka:dJ o name X.env (eval o X.env)=eval o X.env:=by rfl)
  (kb:((bB cpos (aD (e::es) X.env)).all (fun x=> !x.1)&&(eX cpos (de [] X.env)).all (fun x=>x.1.isSome)
   &&decide ((e::es).length+([]:List gn).length+(if ([]:List gn).isEmpty then 0 else 1)<30))=true:=by rfl)
  (j9:(apos.endLine==cpos.line)=true:=by rfl) (hs:aD (e::es) X.env=(false,eval e X.env)::aD es X.env:=by rfl) (j8:(bB cpos (aD es X.env)).any (·.1)=false:=by rfl):
  PE X (.Call (.Attribute o name apos) (e::es) [] cpos) (tBM K T r to t):=by
 have:=zh pa slot kc hm ho ha ka kb j9 hs j8;rw[hK]at this;exact this
def xmG(e:X.K=K):MtM X "str.join" (rJoin K):=e▸xdf
def xn3{tl:TE}(e:X.K=K)(hl:PE X l tl):PI X tg l (xoP K tl):=e▸xcm hl
def xn4:V->List V->Hp->VK->Prop:=fun x vs H Q=>∃(z y:Str),x= .str z/\vs=[.str y]/\y.length≠0/\z.length+2<=ax/\∀d,H d=none->Q (.ref d) (upd H d (.lst ((PySem.Txt.split z y).map V.str)))
theorem xlm:MtM X "str.split" xn4:=by
 intro pins s σ H x vs v us Q I rx rv h;obtain⟨z,y,rfl,rfl,h0,h1,q⟩:=h;obtain⟨t,rfl⟩:=rx;obtain⟨u,rfl,ru⟩:=rv.one;obtain⟨t2,rfl⟩:=ru;have hy:(y.length==0)=false:=by simpa using h0
 have q0:=q s.heap.objs.size (I.hok.fresh (aq _));unfold PySem.Txt.split at q0;cases e1:(decide (z.length<y.length)||decide (iK z<iK y))with
 |true=>
  rw[if_pos e1]at q0;refine cH gF (dG s z t) gd (fU _ _) (meets_str_split_cannot_occur z y t t2 e1) ?_;exact⟨.ref _,_,I.lnew (show Vals [V.str z] [dY z t]from .cons ⟨t,rfl⟩ .nil) (by show 1<=ax;decide),rfl,q0⟩
 |false=>
  rw[if_neg (ne_true_of_eq_false e1)]at q0;cases e2:(bT z y 0 z.length (z.length+1)).isEmpty with
  |true=>
   rw[if_pos e2]at q0;refine cH gF (dG s z t) gd (fU _ _) (meets_str_split_not_found z y t t2 e1 hy e2) ?_;exact⟨.ref _,_,I.lnew (show Vals [V.str z] [dY z t]from .cons ⟨t,rfl⟩ .nil) (by show 1<=ax;decide),rfl,q0⟩
  |false=>
   rw[if_neg (ne_true_of_eq_false e2)]at q0;have hn:(Builtin.Str.partsBetween z (bT z y 0 z.length (z.length+1)) y.length).length<=ax:=by
    have l1:=PySem.length_partsBetween z (bT z y 0 z.length (z.length+1)) y.length;have l2:=StrLaws.occ_length_le z y 0 z.length (z.length+1);lia
   refine cH gF (dG s z t) gd (fU _ _) (meets_str_split_sep z y t t2 e1 hy e2 (by lia) hn) ?_;exact⟨.ref _,_,I.lnew (xf6 _ s.toks) (by rw[ag];exact hn),rfl,q0⟩
open PySem.AutoSeq1 (wpAny_loadPart') in
theorem xhh(l:Addr)(items:Array Value)(n:Nat)(b:Addr)(j8:Array Value)(n2:Nat)(kd:Option Addr)(j9:Array (Option Value))(ke:¬(!items.isEmpty&&bS (items.size+j8.size))=true)(kc:items.size<=ax)(kb:items.size+j8.size<=ax+1):
  Meets (hV.«list.extend» ⟨[.ref l,.ref b],[]⟩) (fun _ R s=>s.heap.get? l=some {cls:=.type "list",dict:=none,data:=.seq items n,slots:=#[]}/\s.heap.get? b=some {cls:=.type "tuple",dict:=kd,data:=.seq j8 n2,slots:=j9}/\R (.ok (.ret a7)) {s with heap:=s.heap.update l (cb fun x=>x++j8),toks:=s.toks}):=
 .of_wp fun prog w A R s h=>by
  refine L2.oG fun gq kq=>?_;obtain⟨hp,g,d,tk,os⟩:=s;obtain⟨hl,hb,h⟩:=h;refine kq ?_;have f1:=AutoSeq1.idx_int;have f2:=AutoSeq1.sub_tuple_tuple;have f3:=AutoSeq1.sub_list_list;have f4:=AutoSeq1.sub_tuple_list;have f5:=AutoSeq1.sub_list_tuple;have ka:(items++j8).size<=ax+1:=by rw[gf];exact kb
  wp_walk using(cy hl rfl (hz:=kc) (_hz':=ka)),dX hl,dX hb
  exact⟨_,rfl,h⟩
def xmH(K:ay):V->List V->Hp->VK->Prop:=fun x vs H Q=>∃l b xs zs,x= .ref l/\vs=[.ref b]/\H l=some (.lst xs)/\SqT K H b zs/\xs.length+zs.length<=ax/\Q .non (upd H l (.lst (xs++zs)))
def xj4:MtM X "list.extend" (xmH X.K):=by
 intro pins s σ H x vs v us Q I rx rv h;refine L2.oG fun gq kq=>?_;obtain⟨l,b,xs,zs,rfl,rfl,hH,hB,hz,q⟩:=h;refine kq ?_;cases rx;refine L2.oG fun gq kq=>?_;obtain⟨u,rfl,ru⟩:=rv.one;refine kq ?_;cases ru;refine L2.oG fun gq kq=>?_;obtain⟨z,its,n,r,hl,e⟩:=I.lstM hH;obtain⟨j8,r2,⟨o2,e2,c2,n2,d2⟩,z2⟩:=I.tuple hB;refine kq ?_;have kc:=r2.length;have hsz:its.toArray.size+j8.toArray.size<=ax:=by rw[aC,aC];lia
 have j9:¬(!its.toArray.isEmpty&&bS (its.toArray.size+j8.toArray.size))=true:=by
  rw[xdR hsz,fE];exact aB
 refine L2.oG fun gq kq=>?_;obtain⟨c3,kb,d3,ka⟩:=o2;refine kq ?_;obtain rfl:c3= .type "tuple":=c2;obtain rfl:d3= .seq j8.toArray n2:=d2;refine cH F.slot_list_extend ⟨_,e,rfl⟩ F.entry_list_extend (F.args_list_extend_2 _ _)
  (xhh l its.toArray n b j8.toArray n2 kb ka j9 (by rw[aC];lia) (by lia)) ⟨e,e2,?_⟩
 refine⟨.non,_,I.lset (its':=its++j8) hH e (by simp) (r.append r2) ?_,rfl,q⟩;rw[aZ];lia
open PySem.NumText (AllDigits digitsVal)
def xx(n:Int):Str:=aM (toString n)
def ja(m:Nat):List Nat:=(Nat.toDigits 10 m).map Char.toNat
def xfc{a b:Str}(h:a.cps.toList=b.cps.toList):a=b:=by
 obtain⟨a⟩:=a;obtain⟨b⟩:=b;have:a=b:=Array.toList_inj.mp h;rw[this]
def zd(m:Nat):AllDigits (ja m):=by
 intro c hc;obtain⟨ch,j8,e⟩:=bA.mp hc;have r:=digit_range (Nat.isDigit_of_mem_toDigits (by decide) (by decide) j8);rw[<-e];exact r
def xdg(m:Nat):ja m≠[]:=by
 intro e;have h:=toDigits_len_ge 10 m;rw[iL.mp e]at h;exact absurd h (by decide)
def xhi(m:Nat):digitsVal (ja m)=m:=W.KIN.val_back m
theorem vc(n:Int):(xx n).cps.toList=if n<0 then 45::ja n.natAbs else ja n.natAbs:=by
 unfold xx;cases n with
 |ofNat m=>
  have:=W.KIN.signs_num m;rw[if_neg (by have:(0:Int)<=Int.ofNat m:=Int.natCast_nonneg m;lia)];exact this
 |negSucc m=>
  rw[if_pos (Int.negSucc_lt_zero m),signs_ofString];show(("-"++(Nat.repr (m+1))).toList).map Char.toNat=_;rw[String.toList_append,bt,Nat.toList_repr];rfl
def xfd{m k:Nat}(h:m<10^k)(hk:0<k):(ja m).length<=k:=by
 unfold ja;rw[ag];exact Nat.length_toDigits_le_iff (by decide) hk |>.mpr h
def ze(h:(n.natAbs:Int)<10^60):(xx n).length<=61:=by
 have hf:(ja n.natAbs).length<=60:=xfd (by lia) (by decide);have:(xx n).cps.toList.length<=61:=by
  rw[vc];split
  ·rw[aU];lia
  ·lia
 simpa [cq]using this
def jV(h:(n.natAbs:Int)<10^60):PySem.intText? (xx n)=some n:=by
 have hl:=ze h;have e:=vc n
 by_cases h0:n<0
 ·rw[if_pos h0]at e;have:=PySem.intText_neg e (zd _) (xdg _) (by lia);rw[this,xhi]
  congr 1
  lia
 ·rw[if_neg h0]at e;have:=PySem.intText_digits (x:=xx n) (by rw[e];exact zd _) (by rw[e];exact xdg _) (by lia);rw[this,e,xhi]
  congr 1
  lia
def zQ(h:(n.natAbs:Int)<10^60):n.natAbs.log2<1920:=by
 have h1:n.natAbs<2^200:=aA (show n.natAbs<10^60 by lia) (by decide)
 by_cases h0:n.natAbs=0
 ·rw[h0];decide
 ·exact aA ((Nat.log2_lt h0).mpr h1) (by decide)
def zR(sep:Str)(ss:List Str):xgV sep ss=a5 sep ss:=by
 unfold xgV
 split
 ·rfl
 ·exact StrLaws.glued_eq_join _ _
def xdh(a b:Str):(a++b).cps.toList=a.cps.toList++b.cps.toList:=by
 show(a.cps++b.cps).toList=_;exact Array.toList_append
def uf(c:Nat)(x y:Str)(r:List Str):(a5 ⟨#[c]⟩ (x::y::r)).cps.toList=x.cps.toList++c::(a5 ⟨#[c]⟩ (y::r)).cps.toList:=by
 show(x++⟨#[c]⟩++a5 ⟨#[c]⟩ (y::r)).cps.toList=_;rw[xdh,xdh,eM];rfl
theorem xje{c:Nat}:∀{a b A B:List Nat},c∉a->c∉b->a++c::A=b++c::B->a=b/\A=B
 |[],[],A,B,_,_,h=>⟨rfl,by injection h⟩
 |[],y::b,A,B,_,hb,h=>by
  injection h with h1 _;exact absurd (by rw[h1];exact ba) hb
 |x::a,[],A,B,ha,_,h=>by
  injection h with h1 _;exact absurd (by rw[h1];exact ba) ha
 |x::a,y::b,A,B,ha,hb,h=>by
  injection h with h1 h2;obtain⟨e1,e2⟩:=xje (fun z=>ha (aH _ z)) (fun z=>hb (aH _ z)) h2;exact⟨by rw[h1,e1],e2⟩
theorem xhj{c:Nat}:∀{as bs:List Str},as≠[]->bs≠[]->(∀p∈as,c∉p.cps.toList)->(∀p∈bs,c∉p.cps.toList)->a5 ⟨#[c]⟩ as=a5 ⟨#[c]⟩ bs->as=bs
 |[],_,h,_,_,_,_=>absurd rfl h
 |_,[],_,h,_,_,_=>absurd rfl h
 |[x],[y],_,_,_,_,h=>by rw[show x=y from h]
 |[x],y::z::r,_,_,ha,hb,h=>by
  have e:=congrArg (fun s:Str=>s.cps.toList) h;simp only[uf]at e;have:c∈x.cps.toList:=by
   show c∈(a5 ⟨#[c]⟩ [x]).cps.toList;rw[e];simp
  exact absurd this (ha x (by simp))
 |x::z::r,[y],_,_,ha,hb,h=>by
  have e:=congrArg (fun s:Str=>s.cps.toList) h;simp only[uf]at e;have:c∈y.cps.toList:=by
   show c∈(a5 ⟨#[c]⟩ [y]).cps.toList;rw[<-e];simp
  exact absurd this (hb y (by simp))
 |x::u::r,y::v::q,_,_,ha,hb,h=>by
  have e:=congrArg (fun s:Str=>s.cps.toList) h;simp only[uf]at e;obtain⟨e1,e2⟩:=xje (ha x (by simp)) (hb y (by simp)) e;rw[xfc e1,xhj (as:=u::r) (bs:=v::q) (by simp) (by simp) (fun p hp=>ha p (aH _ hp)) (fun p hp=>hb p (aH _ hp)) (xfc e2)]
def xhk(x y:Str):PySem.Txt.split x y≠[]:=by
 unfold PySem.Txt.split
 split
 ·simp
 ·split
  ·simp
  ·intro e;have:=PySem.length_partsBetween x (bT x y 0 x.length (x.length+1)) y.length;rw[e]at this;simp at this
def xeB{ss:List Str}(j8:ss≠[])(h:∀p∈ss,c∉p.cps.toList):PySem.Txt.split (a5 ⟨#[c]⟩ ss) ⟨#[c]⟩=ss:=
 xhj (xhk _ _) j8 (StrLaws.split_free _ c) h (iZ _ _)
theorem xf7{c d:Nat}(j8:c≠d):∀{ss:List Str},(∀p∈ss,c∉p.cps.toList)->c∉(a5 ⟨#[d]⟩ ss).cps.toList
 |[],_=>by show c∉(cX).cps.toList;simp[cX]
 |[x],h=>h x (by simp)
 |x::y::r,h=>by
  rw[uf];intro m;rcases bL.mp m with m|m
  ·exact h x (by simp) m
  ·rcases ah.mp m with m|m
   ·exact j8 m
   ·exact xf7 j8 (ss:=y::r) (fun p hp=>h p (aH _ hp)) m
theorem uM{d B:Nat}:∀(ss:List Str),(∀p∈ss,p.length<=B)->(a5 ⟨#[d]⟩ ss).length<=ss.length*(B+1)
 |[],_=>by show(cX).length<=_;simp[cX,cq]
 |[x],h=>by
  have:=h x (by simp);show x.length<=_;simp;lia
 |x::y::r,h=>by
  have h1:=h x (by simp);have h2:=uM (d:=d) (y::r) (fun p hp=>h p (aH _ hp));have e:(a5 ⟨#[d]⟩ (x::y::r)).length=x.length+(1+(a5 ⟨#[d]⟩ (y::r)).length):=by
   have:=congrArg fG (uf d x y r);simp only[aZ,aU,bP]at this;show(a5 ⟨#[d]⟩ (x::y::r)).cps.size=x.cps.size+(1+(a5 ⟨#[d]⟩ (y::r)).cps.size);lia
  rw[e];have e2:(x::y::r).length*(B+1)=(y::r).length*(B+1)+(B+1):=by
   rw[aU,iW]
  lia
def xbL{B:Nat}(ss:List Str)(h:∀p∈ss,p.length<=B):xcB ⟨#[d]⟩ ss<=ss.length*(B+1):=by
 unfold xcB;rw[StrLaws.joinTotal];have h1:=StrLaws.sumLen_le ss h;have e:(⟨#[d]⟩:Str).length=1:=rfl;rw[e,Nat.mul_add];lia
def xcD(n:Int)(h1:c≠45)(h2:c<48):c∉(xx n).cps.toList:=by
 rw[vc];have hf:c∉ja n.natAbs:=fun z=>by have:=zd _ c z;lia
 split
 ·intro m;rcases ah.mp m with m|m
  ·exact h1 m
  ·exact hf m
 ·exact hf
def xmI{a b:Str}(h1:c∉a.cps.toList)(h2:c∉b.cps.toList):c∉(a++b).cps.toList:=by
 rw[xdh];intro m;rcases bL.mp m with m|m
 ·exact h1 m
 ·exact h2 m
def len_app(a b:Str):(a++b).length=a.length+b.length:=by show(a.cps++b.cps).size=a.cps.size+b.cps.size;exact gf
def xd0(x:Str)(n:Nat):Str:=⟨(aK n x.cps).foldl (· ++·) #[]⟩
theorem xjf(x:Str):∀n:Nat,∀a:Array Nat,((aK n x.cps).foldl (· ++·) a).size=a.size+n*x.length
 |0,a=>by simp
 |n+1,a=>by
  rw[bR,gN,xjf x n,gf];show a.size+x.length+n*x.length=a.size+(n+1)*x.length;rw[iW];lia
def xmJ(x:Str)(n:Nat):(xd0 x n).length=n*x.length:=by
 show((aK n x.cps).foldl (· ++·) #[]).size=_;rw[xjf];simp
def xfe:OpR X (bQ .Mult) (fun x y H Q=>∃(z:Str) (n:Nat),x= .str z/\y= .int (n:Nat)/\2<=n/\n<=1000/\z.length=1/\Q (.str (xd0 z n)) H):=by
 intro pins s σ H x y v u Q I rx ry h;obtain⟨z,n,rfl,rfl,h2,h3,hz,q⟩:=h;obtain⟨t,rfl⟩:=rx;obtain⟨t',rfl⟩:=ry;refine PySem.P.mul_str (by rw[ix];exact⟨decide_eq_false (by lia),decide_eq_false (by lia)⟩) (fun _ _=>?_) (fun _ _=>?_) ?_
 ·rw[hz];have:(1:Int)<=(2^63 - 1) / (n:Int):=by
   rw[Int.le_ediv_iff_mul_le (by lia)];lia
  lia
 ·exact decide_eq_false (by rw[hz,ar];lia)
 ·rw[if_neg (by lia),if_neg (by simp;lia)];refine⟨?_,.str (xd0 z n),H,I.tok _,⟨_,rfl⟩,q⟩;show(xd0 z n).length<=ax;rw[xmJ,hz,ar];lia
abbrev xdi(A:bc):bc:={A with handled:=none}
abbrev SpE:=Addr->Value->Option Addr->Sp
structure xj5(P:aX)(w:World)(K:ay)(mg:Str->Option Value)(base:Heap)(k:Nat)(f:Addr)(fd:av)(ps:List Str)(sp:SpE):Prop where
 len:∀a cls dx vs H Q E,sp a cls dx vs H Q E->vs.length=ps.length
 run:∀(A:bc) (outer:List Env) (s:ai) (H:Hp) (args:Args) (us:List Value) (vs:List V) (Q:VK) (E:XK) (a:Addr) (oe:Obj),xI k (xdi A)->vF P w K mg base A outer s H->gX s fd args (ps.zip us)->Vals vs us->
  s.heap.get? a=some oe->H a=none->a∉frs outer->(∃vs,oe.data= .fields vs)->sp a oe.cls oe.dict vs H Q E->bX (model P w) A (.call (.ref f) args) (CR CX0 outer P w H s Q E) s
abbrev cxE(P:aX)(w:World)(K:ay)(mg:Str->Option Value)(base:Heap)(N:List Str)(qual:Str)(scope:Scope)(f:Addr)(cd:Value)(A:bc)(outer:List Env)(s:ai)(H:Hp)(E:XK)(qs:List (Addr×Obj)):Cx:=
 {uJ CX0 P w K mg base N qual scope f cd A outer s H E with calm:=false,pn:=qs,xe:=fun _ _=>False}
def vF.calm{outer:List Env}{s:ai}{H:Hp}(e:vF P w K mg base A outer s H):vF P w K mg base (xdi A) outer s H:=
 ⟨e.frames,e.mod,e.bs,e.bsz,e.funs,e.frf,e.hok,e.bare⟩
theorem Fun.okE{qual:Str}{st:Stmt}{N:List Str}{k:Nat}{sp:SpE}(F:Fun K x qual st f fd)(S:xo N ps (xg st))(len:∀a cls dx vs H Q E,sp a cls dx vs H Q E->vs.length=ps.length)
  (kc:∀(j9:Value) (A:bc) (outer:List Env) (s:ai) (H:Hp) (vs:List V) (Q:VK) (E:XK) (qs:List (Addr×Obj)) (a:Addr) (cls:Value) (dx:Option Addr),(∃oe:Obj,(a,oe)∈qs/\oe.cls=cls/\oe.dict=dx/\∃vs,oe.data= .fields vs)->xI k ((xdi A).deeper (cZ qual (xg st) s.heap.objs.size f j9))->sp a cls dx vs H Q E->
   ∃t,PSs (cxE P w K mg base N qual (xg st) f j9 A outer s H E qs) (xM st) t/\t {nx:=fun _ H'=>Q .non H',rt:=Q} (start N vs) H):xj5 P w K mg base (k+1) f fd ps sp:=by
 obtain⟨oc,od,kV,doc,pm,an,j9,ct,osl,rfl,lk,ke⟩:=F.ex;refine⟨len,fun A outer s H args us vs Q E a oe hr e0 hb r ha hn hf kb kd=>?_⟩;have hl:=len _ _ _ _ _ _ _ kd;have KX:K.In s.heap:=e0.mod.kin.keeps fun b o e=>(e0.bs b o e).1;have lim:s.heap.NoLimit:=e0.mod.nolimit.keeps fun b o e=>(e0.bs b o e).1;have ka:∀y∈ps.zip us,(xg st).names.lookup y.1=some .local\/((xg st).names.lookup y.1=some .cell/\((fO (s.heap.objs.size+1) (xg st).names []).lookup y.1).isSome=true):=fun⟨n,v⟩ hy=>by
  rcases S.par n (cw hy).1 with q|q
  ·exact .inl q
  ·exact .inr ⟨q,dE _ _ _ (.inl q)⟩
 refine cx (show A.depth<gW from hr.depth) (KX _ _ lk) rfl S.co S.gen rfl (gu KX ke) (hb _ _ _ _ ?_);refine cA S.kind ka fun env he s1 x=>?_;subst he;refine⟨lim.keeps x.toInCall.keep,gv ?_⟩;obtain⟨t,ht,hq⟩:=kc j9 A outer s H vs Q E [(a,oe)] a oe.cls oe.dict ⟨oe,ao.mpr rfl,rfl,rfl,kb⟩ (hr.deeper _) kd;have I0:Inv (uJ CX0 P w K mg base N qual (xg st) f j9 (xdi A) outer s H E) [] (start N vs) H s1:=xaF S rfl (e0.calm) hl r x;have j8:=I0.ok;have I:Inv (cxE P w K mg base N qual (xg st) f j9 A outer s H E [(a,oe)]) [] (start N vs) H s1:=by
  refine⟨⟨j8.mod,j8.kind,j8.glob,j8.blt,j8.above,j8.inj,j8.has,j8.cab,(fun z=>by cases z),j8.frames,j8.stk,j8.exf,j8.bs,j8.bsz,j8.noex,j8.exfs,j8.funs,j8.frf,j8.cab2,j8.hz⟩,I0.os,I0.bare,I0.base,I0.loc,I0.cell,I0.free,I0.freeC,fun p hp=>?_,I0.hok,I0.len⟩;obtain rfl:p=(a,oe):=by simpa using hp
  refine⟨x.toInCall.keep _ _ ha,hn,?_,hf,fun v z=>?_⟩
  ·exact aJ (au ha)
  ·obtain⟨vs,e⟩:=kb;rw[show(a,oe).2.data=oe.data from rfl,e]at z;cases z
 refine aN (ht [] s1 (start N vs) H _ I hq) (fun fl s' hs=>?_) fun e s' hs=>hs.elim;have fin:∀{σ':St} {H':Hp} {v:V} {u:Value},Inv (cxE P w K mg base N qual (xg st) f j9 A outer s H E [(a,oe)]) [] σ' H' s'->RelV v u->Q v H'->CE outer P w H s Q u s':=
  fun{σ' H' v u} J rv q=>⟨v,H',J.os,J.bare,J.base,J.hok,rv,q⟩
 cases fl with
 |ret u=>
  obtain⟨v,σ',H',J,rv,q⟩:=hs;exact fin J rv q
 |next=>
  obtain⟨σ',H',J,q⟩:=hs;exact fin (v:=V.non) (u:=a7) J rfl q
 |brk=>
  obtain⟨_,_,_,q⟩:=hs;exact aS q
 |cont=>
  obtain⟨_,_,_,q⟩:=hs;exact aS q
section
variable {k:Nat} {sp:SpE} {p pos:Pos} {t:TA}
def xpA(sp:SpE)(a:Addr)(cls:Value)(dx:Option Addr)(t:TA):TE:=fun σ H Q=>t σ H fun vs H1=>sp a cls dx (vs++[]) H1 Q E0
theorem xmK{a:Addr}{cls:Value}{dx:Option Addr}{qs:List (Addr×Obj)}(hs:∃oe:Obj,(a,oe)∈qs/\oe.cls=cls/\oe.dict=dx/\∃vs,oe.data= .fields vs)(hp:∀p∈qs,p∈X.pn)(F:xj5 X.prog X.w X.K X.mg X.base k f fd ps sp)(hr:xI k (xdi X.A))(hg:Gl X x)(hm:X.mg x=some (.ref f))(hk:bU X.K (.ref f)=true)(hb:Binds X.K fd ps [])
  (ha:PA X (e::es) t) (kb:(x==("__debug__":Str))=false:=by decide) (he:aD (e::es) X.env=(false,eval e X.env)::aD es X.env:=by rfl) (j9:(bB pos (aD es X.env)).any (·.1)=false:=by rfl):
  PE X (.Call (.Name x p) (e::es) [] pos) (xpA sp a cls dx t):=by
 intro pins s σ H Q I h;refine bC (yR I hg hm ?_ kb);refine du (h₀:=X.base) I.ok.mod.kin hk (thn (ha pos pins s σ H _ I h) fun us s1 ⟨vs,H1,I1,r,q⟩=>⟨I1.kIn,?_⟩) he j9;obtain⟨oe,ka,rfl,rfl,j8⟩:=hs;obtain⟨p1,p2,p3,p4,_⟩:=I1.pin _ (a8 _ (hp _ ka));have r2:Vals (vs++[]) (us++[]):=by rw[cY,cY];exact r
 have hl:(us++[]).length=ps.length:=by rw[<-r2.length];exact F.len _ _ _ _ _ _ _ q
 refine cF (b9 (F.run X.A X.stack s1 H1 ⟨us,[]⟩ (us++[]) (vs++[]) Q E0 a oe hr I1.env0 (hb s1 us I1.kIn hl) r2 p1 p2 (fun z=>?_) j8 q) fun r s' hq=>?_)
 ·rcases ah.mp (I1.stkSub _ z)with z|z
  ·exact p3 z
  ·exact p4 z
 cases r with
 |error e=>exact aS hq
 |ok fl=>
  cases fl with
  |ret u=>exact I1.after hq
  |next=>exact aS hq
  |brk=>exact aS hq
  |cont=>exact aS hq
theorem xI.calm{k:Nat}{m:Option Value}(r:xI k A):xI k (xdi (A.mark m)):=by
 cases m with
 |none=>exact⟨rfl,r.dp,r.un⟩
 |some v=>exact⟨rfl,r.dp,r.un⟩
end
end L2
namespace L2
variable {K:ay} {X:Cx} {y:Str}
inductive Ex4{α β γ δ:Type}(p:α->β->γ->δ->Prop):Prop
 |intro(a:α) (b:β) (c:γ) (d:δ) (h:p a b c d):Ex4 p
inductive Ex5{α β γ δ ε:Type}(p:α->β->γ->δ->ε->Prop):Prop
 |intro(a:α) (b:β) (c:γ) (d:δ) (e:ε) (h:p a b c d e):Ex5 p
def xqs{a:PySem.Addr}:xhf K a 0=Ite K a:=by unfold xhf Ite;simp only[gC]
section
open PySem PySem.Spec PyProof.Rows
def xj6{P:aX}{w:World}{es:List Expr}{k:Nat}{pos:Pos}(a e it:Addr)(j8:e≠it):Turn P w K (.Tuple es k pos) (Ite K a) [e,it] e (fun i h=>(∃old,gD h e it (i:Nat) old)/\h.IsListIter it a i):=by
 have:=xeA (P:=P) (w:=w) (K:=K) (es:=es) (k:=k) (pos:=pos) a e it 0 j8;rw[xqs]at this;simpa only[gC]using this
variable {es:List Expr} {k:Nat} {tp:Pos}
def xhl{l:Expr}{ta:TA}{p pos:Pos}(hg:Gl X "enumerate")(hm:X.mg "enumerate"=none)(ha:PA X [l] ta)(hs:aD [l] X.env=[(false,eval l X.env)]:=by rfl):PI X (.Tuple es k tp) (.Call (.Name "enumerate" p) [l] [] pos) (xql X.K ta):=by
 intro pins s σ H R I h;refine Call_ (ve I hg hm jQ (bV (thn (ha pos pins s σ H _ I h) fun us s1 ⟨vs,H1,I1,r1,q1⟩=>?_) hs rfl));obtain⟨a,e,⟨xs,hq⟩,q⟩:=q1;subst e;obtain⟨u,rfl,ru⟩:=Vals.one r1;cases ru;obtain⟨its,rv,pl,hz⟩:=I1.list hq;refine call_enumerate_list pl.isList fun h' he hi hsz hk=>di (s:={s1 with heap:=h'}) he ?_;refine⟨s1.heap.objs.size+1,[s1.heap.objs.size+1,s1.heap.objs.size],_,_,H1,rfl,I1.kept (t':=s1.toks) hk,xj6 a _ _ (gE _),⟨⟨.none,by simpa using he⟩,hi⟩,fun b hb=>?_,q⟩;rcases ah.mp hb with z|z
 ·rw[z];exact I1.fpOk (cM _) (I1.hok.fresh (cM _))
 ·rw[ao.mp z];exact I1.fpOk (aq _) (I1.hok.fresh (aq _))
end
@[elab_as_elim] theorem gnr{α:Type}{p:α->Prop}(x:α)(h:∀y,x=y->p y):p x:=h x rfl
@[elab_as_elim] theorem jW{p:Hp->Prop}{H:Hp}{a:PySem.Addr}{o:HO}(G:Hp)(e:upd H a o=G)(hn:H a=none)(h:∀H',xf H H'->H' a=some o->p H'):p G:=h G (xf.of_eq hn e) (xn e)
open PySem PySem.Spec PyProof.Rows
structure DcT(w:World)(K:ay)(a:Addr)(kvs:List (Str×Addr))(nots:List Str):Prop where
 obj:∃es n,K.lookup a=some ⟨.type "dict",none,.dict es n,#[]⟩/\iY w.params es.toList
 sys:(a==cm)=false
 val:∀x r,(x,r)∈kvs->bq K a x=some (some (.ref r))
 non:∀x∈nots,bq K a x=some none
def zG{a r:Addr}{kvs:List (Str×Addr)}(h:bq K a y=some (some (.ref r)))(q:∀x r,(x,r)∈kvs->bq K a x=some (some (.ref r))):
  ∀x r',(x,r')∈(y,r)::kvs->bq K a x=some (some (.ref r')):=fun x i z=>by
 rcases ah.mp z with e|z
 ·obtain⟨rfl,rfl⟩:=Prod.mk.inj e;exact h
 ·exact q x i z
section
variable {o i:Expr} {pos:Pos} {td ty:TE}
def xpB(w:World)(K:ay)(td ty:TE):TE:=fun σ H Q=>td σ H fun x H1=>ty σ H1 fun y H2=>Ex5 fun(a:Addr) (kvs:List (Str×Addr)) (nots:List Str) (z:Str) (r:Addr)=>x= .ref a/\y= .str z/\DcT w K a kvs nots/\(z,r)∈kvs/\Q (.ref r) H2
def xmL(ho:PE X o td)(hi:PE X i ty)(hs:xmj i):PE X (.Subscript o i pos) (xpB X.w X.K td ty):=by
 intro pins s σ H Q I h;refine xi4 PySem.F.slot_dict_getitem.lookup hs (thn (ho pins s σ H _ I h) fun u s1 ⟨x,H1,I1,rx,q1⟩=>thn (hi pins s1 σ H1 _ I1 q1) fun iv s2 ⟨y,H2,I2,ry,a,kvs,nots,z,r,ex,ey,dc,hz,q2⟩=>?_);subst ex ey;obtain rfl:u=aF a:=rx;obtain⟨t,rfl⟩:=ry;obtain⟨es,m,hl,hk⟩:=dc.obj;have hm:=W.mapOf_K (prog:=X.prog) (w:=X.w) I2.kIn hl hk;exact⟨hm.typeIs,wpAny_getItem_of (iw X.prog X.w z t) hm (W.find_K hl (dc.val z r hz)) ⟨.ref r,H2,I2.tok _,rfl,q2⟩⟩
def xmM(w:World)(K:ay)(ty td:TE):TE:=fun σ H Q=>ty σ H fun y H1=>td σ H1 fun x H2=>Ex4 fun(a:Addr) (kvs:List (Str×Addr)) (nots:List Str) (z:Str)=>x= .ref a/\y= .str z/\DcT w K a kvs nots/\((∃r,(z,r)∈kvs)/\Q (.bl false) H2\/z∈nots/\Q (.bl true) H2)
def xj7(hi:PE X i ty)(ho:PE X o td):PC X .NotIn i o (xmM X.w X.K ty td):=by
 intro pins s σ H Q I h;refine thn (hi pins s σ H _ I h) fun iv s1 ⟨y,H1,I1,ry,q1⟩=>thn (ho pins s1 σ H1 _ I1 q1) fun u s2 ⟨x,H2,I2,rx,a,kvs,nots,z,ex,ey,dc,q2⟩=>?_;subst ex ey;obtain rfl:u=aF a:=rx;obtain⟨t,rfl⟩:=ry;obtain⟨es,m,hl,hk⟩:=dc.obj;have hm:=W.mapOf_K (prog:=X.prog) (w:=X.w) I2.kIn hl hk;rcases q2 with⟨⟨r,hr⟩,q⟩|⟨hn,q⟩
 ·refine g7 (iw X.prog X.w z t) dc.sys hm ?_;rw[W.find_K hl (dc.val z r hr)];exact⟨.bl false,H2,I2.tok _,rfl,q⟩
 ·refine g7 (iw X.prog X.w z t) dc.sys hm ?_;rw[W.find_K hl (dc.non z hn)];exact⟨.bl true,H2,I2.tok _,rfl,q⟩
end
section
def PST(X:Cx)(st:Stmt)(t:TS):Prop:=
 ∀(pins:List (Addr×Obj)) (s:ai) (σ:St) (H:Hp) (D:Ends),1<=s.toks->Inv X pins σ H s->t D σ H->wpAny (model X.prog X.w) X.A (exec st X.env) (SP X pins D) X.xe s
def xj8(X:Cx)(st:List Stmt)(t:TS):Prop:=
 ∀(pins:List (Addr×Obj)) (s:ai) (σ:St) (H:Hp) (D:Ends),1<=s.toks->Inv X pins σ H s->t D σ H->wpAny (model X.prog X.w) X.A (execs st X.env) (SP X pins D) X.xe s
def PET(X:Cx)(e:Expr)(t:TE):Prop:=
 ∀(pins:List (Addr×Obj)) (s:ai) (σ:St) (H:Hp) (Q:VK),1<=s.toks->Inv X pins σ H s->t σ H Q->wpAny (model X.prog X.w) X.A (eval e X.env) (EP X pins σ Q) X.xe s
variable {st:Stmt} {sts:List Stmt} {t u:TS} {e a o:Expr} {te ta to:TE} {pos:Pos} {p q:List Stmt}
def xhm{α:Type}{x:Sem α}{Q Q':α->ai->Prop}{M:Model}{A:bc}{E:Value->ai->Prop}{s:ai}(hn:1<=s.toks)(h:wpAny M A x Q E s)(hQ:∀a s,1<=s.toks->Q a s->Q' a s):wpAny M A x Q' E s:=
 aN (iF hn h) (fun a s z=>hQ a s z.1 z.2) fun _ _ z=>z.2
theorem zr(h1:PS X st t)(h2:xj8 X sts u):xj8 X (st::sts) (xl5 t u):=by
 intro pins s σ H D k I h;refine dC (xhm k (h1 pins s σ H {D with nx:=u D} I h) fun f s1 k1 q=>?_);cases f with
 |next=>
  obtain⟨σ',H',I',q⟩:=q;exact h2 pins s1 σ' H' D k1 I' q
 |ret v=>exact q
 |brk=>exact q
 |cont=>exact q
theorem xmN(h1:PST X st t):xj8 X [st] t:=by
 intro pins s σ H D k I h;refine dC (thn (h1 pins s σ H D k I h) fun f s1 q=>?_);cases f with
 |next=>exact cV q
 |ret v=>exact q
 |brk=>exact q
 |cont=>exact q
def xn5(he:PET X e te):PST X (.Return (some e) pos) (xoM te):=by
 intro pins s σ H D k I h;exact wpAny_Return_some (thn (he pins s σ H _ k I h) fun v s1 ⟨x,H1,I1,r1,q1⟩=>⟨x,σ,H1,I1,r1,q1⟩)
theorem xn6{op:CmpOp}{r:R2}{j:Nat}{p2 cp:Pos}{tp tq:TS}(ho:OpR X (bg op) r)(ha:PE X a ta)(hp:PSs X p tp)(hq:PSs X q tq)(h2:xj8 X sts u)(hm:bY op (.Constant (.str y) j p2)=false:=by exact xg0 _):
  PSs X (.If (.Compare a [op] [.Constant (.str y) j p2] cp) p q pos::sts) (xl5 (xpa (cB (tOp r ta (tC (.str y)))) tp tq) u):=by
 intro pins s σ H D I h;have key:wpAny (model X.prog X.w) X.A (exec (.If (.Compare a [op] [.Constant (.str y) j p2] cp) p q pos) X.env) (fun f s'=>1<=s'.toks/\SP X pins {D with nx:=u D} f s') X.xe s:=by
  refine wpAny_If ?_;refine dn (thn (ha pins s σ H _ I h) fun v s1 ⟨x,H1,I1,r1,q1⟩=>cU ?_) hm;have k:1<=({s1 with toks:=s1.toks+1}:ai).toks:=Nat.le_add_left 1 s1.toks;refine xhm k (ho pins _ σ H1 x (.str y) v _ _ (I1.tok _) r1 ⟨_,rfl⟩ q1) fun c s3 k3 ⟨z,H3,I3,r3,q3⟩=>?_;obtain⟨b,rfl,q⟩:=uK q3;cases r3;refine bK ?_;cases b with
  |true=>exact aN (iF k3 (hp pins s3 σ H3 _ I3 (q.1 rfl))) (fun _ _ z=>z) fun _ _ z=>z.2
  |false=>exact aN (iF k3 (hq pins s3 σ H3 _ I3 (q.2 rfl))) (fun _ _ z=>z) fun _ _ z=>z.2
 refine dC (thn key fun f s1 z=>?_);obtain⟨k1,q⟩:=z;cases f with
 |next=>
  obtain⟨σ',H',I',q⟩:=q;exact h2 pins s1 σ' H' D k1 I' q
 |ret v=>exact q
 |brk=>exact q
 |cont=>exact q
def xpC(y z:Str)(to:TE):TE:=fun σ H Q=>to σ H fun x H1=>∃w:Str,x= .str w/\w.length+(w.length+1)*z.length<=16777216/\Q (.str (Txt.replace w y z)) H1
def xmO{z:Str}{j1 j2:Nat}{p1 p2 apos cpos:Pos}(ho:PE X o to)(kb:(y==z)=false)
  (j9:dJ o "replace" X.env (eval o X.env)=eval o X.env:=by rfl)
  (ka:((bB cpos (aD [.Constant (.str y) j1 p1,.Constant (.str z) j2 p2] X.env)).all (fun x=> !x.1)&&(eX cpos (de [] X.env)).all (fun x=>x.1.isSome)
   &&decide (([.Constant (.str y) j1 p1,.Constant (.str z) j2 p2]:List Expr).length+([]:List gn).length+(if ([]:List gn).isEmpty then 0 else 1)<30))=true:=by rfl)
  (j8:(apos.endLine==cpos.line)=true:=by rfl) (hs:aD [.Constant (.str y) j1 p1,.Constant (.str z) j2 p2] X.env=[(false,eval (.Constant (.str y) j1 p1) X.env),(false,eval (.Constant (.str z) j2 p2) X.env)]:=by rfl):
  PET X (.Call (.Attribute o "replace" apos) [.Constant (.str y) j1 p1,.Constant (.str z) j2 p2] [] cpos) (xpC y z to):=by
 intro pins s σ H Q k I h;refine wpAny_Call_method_late j9 ka j8 rfl (xhm k (ho pins s σ H _ I h) fun v s1 k1 ⟨x,H1,I1,r1,w,ex,hb,q1⟩=>?_);subst ex;obtain⟨t,rfl⟩:=r1;refine⟨"str","str.replace",F.plainAttrs_str,F.slot_str_replace,F.type_str_replace,dG _ _ _,(fun _ e=>nomatch e),?_⟩;rw[hs];refine gT rfl (ie ?_);show wpAny _ _ (spliced [(false,eval (.Constant (.str y) j1 p1) X.env),(false,eval (.Constant (.str z) j2 p2) X.env)]) _ _ s1;refine fN (cU (fN (cU (i7 ?_))));exact PySem.SC.replace (show s1.toks≠0 by lia) (show s1.toks+1≠0 by lia) (show s1.toks≠s1.toks+1 by lia) kb hb fun t' n=>⟨.str (Txt.replace w y z),H1,I1.tok _,⟨_,rfl⟩,q1⟩
def xjg{e:Expr}{f:Str}{ta:TE}(hK:X.K=K)(he:PE X e ta)(hb:dJ e f X.env (eval e X.env)=eval e X.env):PE X (.Attribute e f pos) (xoZ K ta f):=by
 subst hK;exact xE he hb
end
end L2
namespace K82
open PySem PySem.Spec PyProof.Rows L2
def _root_.L2.xI.m{j k:Nat}{A:bc}(h:xI k A)(e:j<=k:=by decide):xI j A:=h.mono e
variable {H H' H1 G G':Hp} {a:Adr} {D D':DK} {K:ay} {sg cells ns:List Int} {n o c:Int} {w:World} {mg:Str->Option Value} {P:aX} {base:Heap} {s s':DS} {z x q p1 w' y p2:Str} {fl v:V} {d f p l t:Addr} {S:List Addr} {notes:List (Option Int)} {E:XK} {Q:VK} {u i:Nat} {st:Stmt} {fd:av} {rs:List (List Int)} {α β:Type} {xs:List V} {ls:List Ln} {cs:List Nat} {r:RM}
def top(i:Nat):Stmt:=PySem.Challenge.pw_oneroom_k82_lines_that_are_none.main.body.getD i (.Pass ⟨0,0,0,0⟩)
abbrev jb:Stmt:=inClass (top 3) 0
abbrev jc:Stmt:=inClass (top 8) 0
abbrev xbM:Stmt:=inClass (top 11) 0
abbrev jX:Stmt:=inClass (top 11) 1
abbrev jd:Stmt:=inClass (top 11) 2
abbrev xbN:Stmt:=inClass (top 13) 0
abbrev xaU:Stmt:=inClass (top 13) 1
abbrev jY:Stmt:=inClass (top 13) 2
abbrev jZ:Stmt:=inClass (top 13) 3
abbrev vK:Stmt:=inClass (top 13) 4
abbrev xbO:Stmt:=inClass (top 13) 6
abbrev xd1:Stmt:=top 14
abbrev xaa:Stmt:=top 15
abbrev xaV:Stmt:=top 16
abbrev xaW:Stmt:=top 17
abbrev xcE:Stmt:=top 18
abbrev vh:Stmt:=top 19
abbrev xbP:Stmt:=top 20
abbrev xaX:Stmt:=top 22
abbrev xff:Stmt:=top 23
abbrev uN:Stmt:=top 24
abbrev vi:Stmt:=top 25
abbrev vj:Stmt:=top 26
abbrev ug:Stmt:=top 27
abbrev xfg:Stmt:=top 30
abbrev vL:Stmt:=top 31
abbrev xaY:Stmt:=top 32
abbrev ur:Stmt:=top 33
abbrev uO:Stmt:=top 34
abbrev vk:Stmt:=top 35
abbrev xcF:Stmt:=top 36
abbrev xaZ:Stmt:=top 37
abbrev xd2:Stmt:=top 84
abbrev xbQ:Stmt:=inClass (top 64) 0
abbrev uP:Stmt:=inClass (top 64) 1
abbrev zx:Stmt:=inClass (top 64) 2
abbrev zp:Stmt:=inClass (top 65) 0
abbrev yU:Stmt:=inClass (top 65) 2
abbrev xab:Stmt:=inClass (top 65) 3
abbrev je:Stmt:=inClass (top 65) 4
abbrev jf:Stmt:=inClass (top 65) 5
abbrev xac:Stmt:=inClass (top 65) 6
abbrev vm:Stmt:=inClass (top 65) 7
abbrev zf:Stmt:=inClass (top 65) 8
abbrev ym:Stmt:=inClass (top 65) 9
abbrev xad:Stmt:=top 69
abbrev xbR:Stmt:=top 70
abbrev xcG:Stmt:=top 71
abbrev xae:Stmt:=top 72
abbrev xd3:Stmt:=top 73
abbrev jg:Stmt:=top 74
abbrev jh:Stmt:=top 75
abbrev xa0:Stmt:=inClass (top 80) 0
abbrev xbS:Stmt:=inClass (top 80) 1
abbrev yC:Stmt:=inClass (top 80) 2
abbrev uQ:Stmt:=inClass (top 80) 3
abbrev vn:Stmt:=inClass (top 80) 4
abbrev uR:Stmt:=inClass (top 80) 5
abbrev vM:Stmt:=inClass (top 80) 6
abbrev zS:Stmt:=inClass (top 80) 8
abbrev zT:Stmt:=inClass (top 80) 9
abbrev yP:Stmt:=inClass (top 80) 10
abbrev xbT:Stmt:=top 81
abbrev xa1:Stmt:=top 82
abbrev yv:Stmt:=top 83
abbrev xcH:Stmt:=top 87
abbrev xhn:Stmt:=top 88
abbrev xfh:Stmt:=top 89
abbrev xho:Stmt:=top 90
abbrev xhp:Stmt:=top 91
abbrev xj9:Stmt:=top 92
abbrev xdj:Stmt:=top 93
abbrev q1k:Addr:=399
abbrev zy:Addr:=395
def vS:List (Pos×Str):=[(⟨161,45,161,70⟩,"do_piece.<locals>.<lambda>")]
abbrev q0I:Addr:=636
abbrev yw:Addr:=632
def uh:List (Pos×Str):=[(⟨377,50,377,69⟩,"Store.write.<locals>.<lambda>")]
abbrev q0q:Addr:=683
abbrev ye:Addr:=679
def yZ:List (Pos×Str):=[(⟨401,52,401,70⟩,"Store.note_down.<locals>.<lambda>")]
abbrev q0J:Addr:=855
abbrev yx:Addr:=851
def ui:List (Pos×Str):=[(⟨562,11,562,58⟩,"fall_behind.<locals>.<lambda>")]
set_option genInjectivity false in
set_option genSizeOf false in
set_option genSizeOfSpec false in
structure Adr where
 q07:Addr
 ji:av
 q08:Addr
 jj:av
 q10:Addr
 xbU:av
 q1m:Addr
 xaf:av
 q09:Addr
 jk:av
 q11:Addr
 xbV:av
 q1B:Addr
 xa2:av
 q1n:Addr
 xag:av
 q1o:Addr
 xah:av
 q0V:Addr
 vN:av
 q12:Addr
 xbW:av
 q3t:Addr
 xd4:av
 q1J:Addr
 xai:av
 q19:Addr
 xa3:av
 q2a:Addr
 xa4:av
 q24:Addr
 xcI:av
 q0Z:Addr
 vo:av
 q2H:Addr
 xbX:av
 q2b:Addr
 xa5:av
 q3Y:Addr
 xfi:av
 q0R:Addr
 uS:av
 q00:Addr
 vp:av
 q01:Addr
 vq:av
 q13:Addr
 jG:av
 q3Z:Addr
 xfj:av
 q1e:Addr
 vO:av
 q2c:Addr
 xa6:av
 q0M:Addr
 uu:av
 q0S:Addr
 uT:av
 q02:Addr
 vt:av
 q25:Addr
 xcJ:av
 q2d:Addr
 xa7:av
 q2I:Addr
 xd5:av
 q14:Addr
 xbY:av
 q0F:Addr
 uU:av
 q0t:Addr
 zz:av
 q03:Addr
 vw:av
 q0Q:Addr
 uB:av
 q1p:Addr
 xaj:av
 q1a:Addr
 jl:av
 q1b:Addr
 jm:av
 q1q:Addr
 xak:av
 q0O:Addr
 vx:av
 q0o:Addr
 zg:av
 q0x:Addr
 zj:av
 q1K:Addr
 xal:av
 q2J:Addr
 xbZ:av
 q26:Addr
 xcK:av
 q1L:Addr
 xam:av
 q3u:Addr
 xd6:av
 q1u:Addr
 jn:av
 q1v:Addr
 jo:av
 q1C:Addr
 xa8:av
 q15:Addr
 xb0:av
 q0k:Addr
 yD:av
 q0G:Addr
 uV:av
 q0P:Addr
 vy:av
 q0H:Addr
 uW:av
 q0W:Addr
 vP:av
 q0z:Addr
 zU:av
 q0A:Addr
 zV:av
 q0n:Addr
 yQ:av
 q2K:Addr
 xb1:av
 q2e:Addr
 xa9:av
 q1c:Addr
 uC:av
 q27:Addr
 xcL:av
 q4p:Addr
 xhq:av
 q30:Addr
 xfk:av
 q4q:Addr
 xhr:av
 q4r:Addr
 xhs:av
 q4T:Addr
 xka:av
 q4D:Addr
 xkb:av
 q2L:Addr
 q1z:Addr
 q0i:Addr
 q0K:Addr
 q0h:Addr
 q0f:Addr
 q1A:Addr
 q0a:Addr
 q0c:Addr
 q0d:Addr
 q0D:Addr
 q0b:Addr
 q0r:Addr
 q0s:Addr
 q0g:Addr
 q0v:Addr
 q2x:Addr
 q2y:Addr
 q2z:Addr
 q2A:Addr
 q2B:Addr
 q2C:Addr
 q2D:Addr
 q2E:Addr
 q2F:Addr
 q2G:Addr
 q5b:Tok
 q3h:Tok
 q1M:Addr
 q2f:Addr
 q2n:Addr
structure Txt(w:World)(K:ay)(mg:Str->Option Value)(a:Adr):Prop where
 q1T:Fun K "__init__" "Fallen.__init__" jb a.q07 a.ji
 xgp:Binds K a.ji ["self","count"] []
 q1U:Fun K "__init__" "Faulty.__init__" jc a.q08 a.jj
 xgq:Binds K a.jj ["self","fault"] []
 q3i:Fun K "__init__" "Row.__init__" xbM a.q10 a.xbU
 xkc:Binds K a.xbU ["self","to"] []
 q2o:Fun K "covers" "Row.covers" jX a.q1m a.xaf
 xht:Binds K a.xaf ["self"] []
 q1V:Fun K "covered" "Row.covered" jd a.q09 a.jk
 uD:Binds K a.jk ["self"] []
 q3j:Fun K "__init__" "Put.__init__" xbN a.q11 a.xbV
 xkd:Binds K a.xbV ["self","to","signs"] []
 q2S:Fun K "reads" "Put.reads" xaU a.q1B a.xa2
 xiq:Binds K a.xa2 ["self"] []
 q2p:Fun K "writes" "Put.writes" jY a.q1n a.xag
 xhu:Binds K a.xag ["self"] []
 q2q:Fun K "pieces" "Put.pieces" jZ a.q1o a.xah
 xhv:Binds K a.xah ["self"] []
 q1E:Fun K "sign_for" "Put.sign_for" vK a.q0V a.vN
 xfl:Binds K a.vN ["self","cell","read"] []
 q3k:Fun K "told" "Put.told" xbO a.q12 a.xbW
 xeC:Binds K a.xbW ["self"] []
 q1f:Fun K "row_of" "row_of" xd1 a.q3t a.xd4
 uX:Binds K a.xd4 ["told"] []
 uY:mg "row_of"=some (.ref a.q3t)
 q1N:Fun K "tells_take" "tells_take" xaa a.q1J a.xai
 xhw:Binds K a.xai ["told"] []
 xhx:mg "tells_take"=some (.ref a.q1J)
 q2g:Fun K "tells_put" "tells_put" xaV a.q19 a.xa3
 xir:Binds K a.xa3 ["told"] []
 xis:mg "tells_put"=some (.ref a.q19)
 q2h:Fun K "are_signs" "are_signs" xaW a.q2a a.xa4
 xit:Binds K a.xa4 ["signs"] []
 xiu:mg "are_signs"=some (.ref a.q2a)
 q28:Fun K "is_sign" "is_sign" xcE a.q24 a.xcI
 xln:Binds K a.xcI ["value"] []
 xlo:mg "is_sign"=some (.ref a.q24)
 q0u:Fun K "is_whole_from" "is_whole_from" vh a.q0Z a.vo
 za:Binds K a.vo ["least","value"] []
 zb:mg "is_whole_from"=some (.ref a.q0Z)
 q16:Fun K "is_whole" "is_whole" xbP a.q2H a.xbX
 xeD:Binds K a.xbX ["value"] []
 xeE:mg "is_whole"=some (.ref a.q2H)
 q2i:Fun K "pieces_of" "pieces_of" xaX a.q2b a.xa5
 xiv:Binds K a.xa5 ["paper"] []
 xiw:mg "pieces_of"=some (.ref a.q2b)
 q31:Fun K "go_on" "go_on" xff a.q3Y a.xfi
 xn7:Binds K a.xfi ["store","paper"] []
 xn8:mg "go_on"=some (.ref a.q3Y)
 q0T:Fun K "refuse_lengths" "refuse_lengths" uN a.q0R a.uS
 xd7:Binds K a.uS ["size","paper"] []
 xd8:mg "refuse_lengths"=some (.ref a.q0R)
 q04:Fun K "refuse_beyond" "refuse_beyond" vi a.q00 a.vp
 xeF:Binds K a.vp ["size","pieces"] []
 xeG:mg "refuse_beyond"=some (.ref a.q00)
 q05:Fun K "places_needed" "places_needed" vj a.q01 a.vq
 xeH:Binds K a.vq ["row","cells"] []
 xeI:mg "places_needed"=some (.ref a.q01)
 vz:Fun K "do_piece" "do_piece" ug a.q13 a.jG
 xke:Binds K a.jG ["store","row","cells"] []
 xkf:mg "do_piece"=some (.ref a.q13)
 q4L:vZ K q1k zy
 xix:a.jG.code= .ref q1k
 q3G:Fun K "judge" "judge" xfg a.q3Z a.xfj
 xjh:Binds K a.xfj ["paper"] []
 xji:mg "judge"=some (.ref a.q3Z)
 q1g:Fun K "fits_in_size" "fits_in_size" vL a.q1e a.vO
 xfm:Binds K a.vO ["paper"] []
 xfn:mg "fits_in_size"=some (.ref a.q1e)
 q1D:Fun K "is_length" "is_length" xaY a.q2c a.xa6
 xdA:Binds K a.xa6 ["value"] []
 xdB:mg "is_length"=some (.ref a.q2c)
 q0N:Fun K "first_wrong_row" "first_wrong_row" ur a.q0M a.uu
 xdn:Binds K a.uu ["paper"] []
 xdo:mg "first_wrong_row"=some (.ref a.q0M)
 q0U:Fun K "is_fitting_row" "is_fitting_row" uO a.q0S a.uT
 xd9:Binds K a.uT ["told","old","new"] []
 xea:mg "is_fitting_row"=some (.ref a.q0S)
 q06:Fun K "covered_twice" "covered_twice" vk a.q02 a.vt
 xeJ:Binds K a.vt ["rows"] []
 xeK:mg "covered_twice"=some (.ref a.q02)
 q29:Fun K "lacking" "lacking" xcF a.q25 a.xcJ
 xlp:Binds K a.xcJ ["rows","new"] []
 xlq:mg "lacking"=some (.ref a.q25)
 q2j:Fun K "read_late" "read_late" xaZ a.q2d a.xa7
 xiy:Binds K a.xa7 ["rows"] []
 xiz:mg "read_late"=some (.ref a.q2d)
 q3a:Fun K "joined" "joined" xd2 a.q2I a.xd5
 xhy:Binds K a.xd5 ["parts"] []
 xq3:mg "joined"=some (.ref a.q2I)
 q3l:Fun K "__init__" "Pen.__init__" xbQ a.q14 a.xbY
 xkg:Binds K a.xbY ["self","fall"] []
 q1h:Fun K "write_into" "Pen.write_into" uP a.q0F a.uU
 xan:Binds K a.uU ["self","kept","at","value","torn"] []
 q0L:Fun K "answer_of_fall" "Pen.answer_of_fall" zx a.q0t a.zz
 xb2:Binds K a.zz ["self","count"] []
 zW:xe7 K "__init__" "Store.__init__" zp a.q03 a.vw [.none]
 jq:Binds K a.vw ["self","cells","fall"] [.none]
 xcM:Binds K a.vw ["self","cells","fall"] []
 uE:Fun K "write" "Store.write" yU a.q0Q a.uB
 xgr:Binds K a.uB ["self","at","sign"] []
 q32:vZ K q0I yw
 xfo:a.uB.code= .ref q0I
 q2r:Fun K "mark" "Store.mark" xab a.q1p a.xaj
 xhz:Binds K a.xaj ["self","number"] []
 q1W:Fun K "noted" "Store.noted" je a.q1a a.jl
 xgs:Binds K a.jl ["self"] []
 q1X:Fun K "begin" "Store.begin" jf a.q1b a.jm
 xgt:Binds K a.jm ["self"] []
 q2s:Fun K "told" "Store.told" xac a.q1q a.xak
 vA:Binds K a.xak ["self"] []
 q1s:Fun K "fall_by" "Store.fall_by" vm a.q0O a.vx
 xaL:Binds K a.vx ["self","fall"] []
 q0C:Fun K "refuse_lacking" "Store.refuse_lacking" zf a.q0o a.zg
 xba:Binds K a.zg ["self","at"] []
 zk:Fun K "note_down" "Store.note_down" ym a.q0x a.zj
 uv:Binds K a.zj ["self","at","number"] []
 q3b:vZ K q0q ye
 xcN:a.zj.code= .ref q0q
 q1O:Fun K "paper_text" "paper_text" xad a.q1K a.xal
 xhA:Binds K a.xal ["paper"] []
 xhB:mg "paper_text"=some (.ref a.q1K)
 q2M:Fun K "lines_of" "lines_of" xbR a.q2J a.xbZ
 xkh:Binds K a.xbZ ["paper"] []
 xki:mg "lines_of"=some (.ref a.q2J)
 q3c:Fun K "line_of" "line_of" xcG a.q26 a.xcK
 xlr:Binds K a.xcK ["told"] []
 xls:mg "line_of"=some (.ref a.q26)
 q1P:Fun K "numbers_in" "numbers_in" xae a.q1L a.xam
 xhC:Binds K a.xam ["lines"] []
 xhD:mg "numbers_in"=some (.ref a.q1L)
 q3v:Fun K "sum_of" "sum_of" xd3 a.q3u a.xd6
 xmP:Binds K a.xd6 ["numbers"] []
 xmQ:mg "sum_of"=some (.ref a.q3u)
 q1w:Fun K "read_number" "read_number" jg a.q1u a.jn
 xgu:Binds K a.jn ["word"] []
 xgv:mg "read_number"=some (.ref a.q1u)
 q1x:Fun K "are_figures" "are_figures" jh a.q1v a.jo
 xgw:Binds K a.jo ["word"] []
 xgx:mg "are_figures"=some (.ref a.q1v)
 q2T:Fun K "__init__" "Desk.__init__" xa0 a.q1C a.xa8
 xdC:Binds K a.xa8 ["self"] []
 q3m:Fun K "say" "Desk.say" xbS a.q15 a.xb0
 xT:Binds K a.xb0 ["self","row"] []
 q0w:Fun K "has_what_is_wanted" "Desk.has_what_is_wanted" yC a.q0k a.yD
 jH:Binds K a.yD ["self","word"] []
 q1i:Fun K "answer_to" "Desk.answer_to" uQ a.q0G a.uV
 xeb:Binds K a.uV ["self","word","numbers"] []
 q1t:Fun K "lay_room" "Desk.lay_room" vn a.q0P a.vy
 xeL:Binds K a.vy ["self","size","text"] []
 q1j:Fun K "lay_paper" "Desk.lay_paper" uR a.q0H a.uW
 xao:Binds K a.uW ["self","paper"] []
 q1F:Fun K "add_row" "Desk.add_row" vM a.q0W a.vP
 xbh:Binds K a.vP ["self","told"] []
 q0X:Fun K "shown_fault" "Desk.shown_fault" zS a.q0z a.zU
 xcO:Binds K a.zU ["self"] []
 q0Y:Fun K "begin_paper" "Desk.begin_paper" zT a.q0A a.zV
 xcP:Binds K a.zV ["self"] []
 q0B:Fun K "go_on_with_paper" "Desk.go_on_with_paper" yP a.q0n a.yQ
 xaD:Binds K a.yQ ["self","numbers"] []
 q2N:Fun K "words_of" "words_of" xbT a.q2K a.xb1
 xkj:Binds K a.xb1 ["row"] []
 xkk:mg "words_of"=some (.ref a.q2K)
 q2k:Fun K "is_listed" "is_listed" xa1 a.q2e a.xa9
 xiA:Binds K a.xa9 ["word","numbers"] []
 xiB:mg "is_listed"=some (.ref a.q2e)
 zC:Fun K "fall_behind" "fall_behind" yv a.q1c a.uC
 xgy:Binds K a.uC ["asked","numbers"] []
 xgz:mg "fall_behind"=some (.ref a.q1c)
 q33:vZ K q0J yx
 xfp:a.uC.code= .ref q0J
 q17:Fun K "_law_cell_at" "_law_cell_at" xcH a.q27 a.xcL
 xcQ:Binds K a.xcL ["_law_script","_law_k"] []
 xcR:mg "_law_cell_at"=some (.ref a.q27)
 q4s:Fun K "_law_none" "_law_none" xhn a.q4p a.xhq
 xpD:Binds K a.xhq [] []
 xpE:mg "_law_none"=some (.ref a.q4p)
 q34:Fun K "_law_names" "_law_names" xfh a.q30 a.xfk
 xn9:Binds K a.xfk ["_law_e"] []
 xoa:mg "_law_names"=some (.ref a.q30)
 q2R:Fun K "_law_word" "_law_word" xho a.q4q a.xhr
 xbi:Binds K a.xhr ["_law_desk","_law_line"] []
 xbj:mg "_law_word"=some (.ref a.q4q)
 q4t:Fun K "_law_case" "_law_case" xhp a.q4r a.xhs
 xpF:Binds K a.xhs ["_law_cell"] []
 xpG:mg "_law_case"=some (.ref a.q4r)
 q4U:Fun K "_law_new" "_law_new" xj9 a.q4T a.xka
 xqt:Binds K a.xka ["_law_cell"] []
 xqu:mg "_law_new"=some (.ref a.q4T)
 xgW:Fun K "law" "law" xdj a.q4D a.xkb
 xrb:Binds K a.xkb ["_law_script"] []
 xqv:mg "Row"=some (.ref a.q2L)
 q8k:Cls K a.q2L
 q4X:xB K a.q2L "count"
 q5z:xB K a.q2L "to"
 xlt:mg "Take"=some (.ref a.q1z)
 q7R:Cls K a.q1z
 q4V:xB K a.q1z "count"
 q4N:xB K a.q1z "source"
 q5c:xB K a.q1z "to"
 xqw:mg "Put"=some (.ref a.q0i)
 q0E:Cls K a.q0i
 q2t:xB K a.q0i "count"
 q2u:xB K a.q0i "signs"
 q18:xB K a.q0i "to"
 q5V:Mk K a.q0i a.q11
 xqx:mg "Pen"=some (.ref a.q0K)
 q3r:Cls K a.q0K
 q2v:xB K a.q0K "asked"
 q3q:xB K a.q0K "fall"
 q5W:Mk K a.q0K a.q14
 xob:mg "Store"=some (.ref a.q0h)
 q0l:Cls K a.q0h
 q1G:xB K a.q0h "cells"
 q1H:xB K a.q0h "notes"
 q1Q:xB K a.q0h "pen"
 q45:Mk K a.q0h a.q03
 xlu:mg "Desk"=some (.ref a.q0f)
 q0e:Cls K a.q0f
 q1d:xB K a.q0f "begun"
 q1Y:xB K a.q0f "elder"
 q0p:xB K a.q0f "paper"
 q0y:xB K a.q0f "store"
 q41:Mk K a.q0f a.q1C
 xpH:mg "Down"=some (.ref a.q1A)
 xec:mg "Fallen"=some (.ref a.q0a)
 xhE:mg "Faulty"=some (.ref a.q0c)
 xb3:mg "NoLine"=some (.ref a.q0d)
 xlv:mg "NoPaper"=some (.ref a.q0D)
 xfq:mg "NoRow"=some (.ref a.q0b)
 xiC:mg "OutOfRoom"=some (.ref a.q0r)
 xiD:mg "RoomError"=some (.ref a.q0s)
 xjj:mg "Unfit"=some (.ref a.q0g)
 q4g:jU K a.q0a a.q07
 xqD:eQ K a.q0a=true
 q3I:xB K a.q0a "count"
 q3w:a6 K (.ref a.q0a) (.ref a.q0a)=some true
 q4E:a6 K (.ref a.q0a) (.ref a.q0b)=some false
 q3W:a6 K (.ref a.q0a) (.ref a.q0s)=some true
 q3J:aj K (.ref a.q0a) (.type "ValueError")=some true
 q5A:vg K a.q0a
 q4h:jU K a.q0c a.q08
 xqE:eQ K a.q0c=true
 q3K:xB K a.q0c "fault"
 q4u:a6 K (.ref a.q0c) (.ref a.q0a)=some false
 q4F:a6 K (.ref a.q0c) (.ref a.q0b)=some false
 q2V:a6 K (.ref a.q0c) (.ref a.q0s)=some true
 q2O:aj K (.ref a.q0c) (.type "ValueError")=some true
 q4Y:vg K a.q0c
 q4v:xdY K a.q0d
 q4w:a6 K (.ref a.q0d) (.ref a.q0a)=some false
 q4G:a6 K (.ref a.q0d) (.ref a.q0b)=some false
 q2W:a6 K (.ref a.q0d) (.ref a.q0s)=some true
 q2P:aj K (.ref a.q0d) (.type "ValueError")=some true
 q4Z:vg K a.q0d
 q5n:xdY K a.q0b
 q4H:a6 K (.ref a.q0b) (.ref a.q0a)=some false
 q4O:a6 K (.ref a.q0b) (.ref a.q0b)=some true
 q3d:a6 K (.ref a.q0b) (.ref a.q0s)=some true
 q2X:aj K (.ref a.q0b) (.type "ValueError")=some true
 q46:vg K a.q0b
 q5o:xdY K a.q0g
 q4I:a6 K (.ref a.q0g) (.ref a.q0a)=some false
 q4P:a6 K (.ref a.q0g) (.ref a.q0b)=some false
 q3e:a6 K (.ref a.q0g) (.ref a.q0s)=some true
 q2Y:aj K (.ref a.q0g) (.type "ValueError")=some true
 q47:vg K a.q0g
 q40:xe9 K a.q0a
 q48:xe9 K a.q0b
 q4x:xe9 K a.q0s
 xlw:∀{H:Hp} {o dx:Addr} {fs:List (Str×V)},H o=some (.ins a.q0i dx fs)->yh K H (.ref o) (.ref a.q0i)
 q4Q:aj K (.ref a.q0a) (.ref a.q1A)=some false
 q4y:aj K (.ref a.q0a) (.ref a.q0a)=some true
 q4z:aj K (.ref a.q0a) (.ref a.q0c)=some false
 q4A:aj K (.ref a.q0a) (.ref a.q0d)=some false
 q4o:aj K (.ref a.q0a) (.ref a.q0D)=some false
 q4J:aj K (.ref a.q0a) (.ref a.q0b)=some false
 q3X:aj K (.ref a.q0a) (.ref a.q0r)=some false
 q4K:aj K (.ref a.q0a) (.ref a.q0g)=some false
 q35:aj K (.ref a.q0c) (.ref a.q1A)=some false
 q3x:aj K (.ref a.q0c) (.ref a.q0a)=some false
 q3y:aj K (.ref a.q0c) (.ref a.q0c)=some true
 q3z:aj K (.ref a.q0c) (.ref a.q0d)=some false
 q3n:aj K (.ref a.q0c) (.ref a.q0D)=some false
 q3L:aj K (.ref a.q0c) (.ref a.q0b)=some false
 q2Z:aj K (.ref a.q0c) (.ref a.q0r)=some false
 q3M:aj K (.ref a.q0c) (.ref a.q0g)=some false
 q36:aj K (.ref a.q0d) (.ref a.q1A)=some false
 q3A:aj K (.ref a.q0d) (.ref a.q0a)=some false
 q3B:aj K (.ref a.q0d) (.ref a.q0c)=some false
 q3C:aj K (.ref a.q0d) (.ref a.q0d)=some true
 q3o:aj K (.ref a.q0d) (.ref a.q0D)=some false
 q3N:aj K (.ref a.q0d) (.ref a.q0b)=some false
 q20:aj K (.ref a.q0d) (.ref a.q0r)=some false
 q3O:aj K (.ref a.q0d) (.ref a.q0g)=some false
 q4i:aj K (.ref a.q0b) (.ref a.q1A)=some false
 q3P:aj K (.ref a.q0b) (.ref a.q0a)=some false
 q3Q:aj K (.ref a.q0b) (.ref a.q0c)=some false
 q3R:aj K (.ref a.q0b) (.ref a.q0d)=some false
 q3D:aj K (.ref a.q0b) (.ref a.q0D)=some false
 q37:aj K (.ref a.q0b) (.ref a.q0b)=some true
 q3f:aj K (.ref a.q0b) (.ref a.q0r)=some false
 q38:aj K (.ref a.q0b) (.ref a.q0g)=some false
 q4e:aj K (.ref a.q0i) (.ref a.q1z)=some false
 q4j:aj K (.ref a.q0g) (.ref a.q1A)=some false
 q3S:aj K (.ref a.q0g) (.ref a.q0a)=some false
 q3T:aj K (.ref a.q0g) (.ref a.q0c)=some false
 q3U:aj K (.ref a.q0g) (.ref a.q0d)=some false
 q3E:aj K (.ref a.q0g) (.ref a.q0D)=some false
 q39:aj K (.ref a.q0g) (.ref a.q0b)=some false
 q3g:aj K (.ref a.q0g) (.ref a.q0r)=some false
 q4a:aj K (.ref a.q0g) (.ref a.q0g)=some true
 xjk:mg "FORMS"=some (.ref a.q0v)
 xjl:DcT w K a.q0v [("room",a.q2x),("rows",a.q2y),("take",a.q2z),("put",a.q2A),("make",a.q2B),("judge",a.q2C),("begin",a.q2D),("go",a.q2E),("cells",a.q2F),("paper",a.q2G)] ["","Go","gone","text","Judge"]
 xlx:∀H,SqT K H a.q2x [.int 1,.non,.int 1]
 xly:∀H,SqT K H a.q2y [.int 2,.int 2,.int 2]
 xlz:∀H,SqT K H a.q2z [.int 3,.int 3,.int 3]
 xlA:∀H,SqT K H a.q2A [.int 2,.non,.int 1]
 xlB:∀H,SqT K H a.q2B [.int 1,.non,.int 1]
 xlC:∀H,SqT K H a.q2C [.int 0,.int 0,.int 0]
 xlD:∀H,SqT K H a.q2D [.int 0,.int 0,.int 0]
 xlE:∀H,SqT K H a.q2E [.int 0,.int 2,.int 1]
 xlF:∀H,SqT K H a.q2F [.int 0,.int 0,.int 0]
 xlG:∀H,SqT K H a.q2G [.int 0,.int 0,.int 0]
 xhF:mg "MOST"=some (.int 300 a.q5b)
 xfr:mg "MOST_FIGURES"=some (.int 60 a.q3h)
 xhG:mg "WANT_PAPER"=some (.ref a.q1M)
 xhH:∀H,SqT K H a.q1M [.str "take",.str "put",.str "judge",.str "begin",.str "paper"]
 xiE:mg "WANT_ROOM"=some (.ref a.q2f)
 xiF:∀H,SqT K H a.q2f [.str "make",.str "begin",.str "cells"]
 xoc:mg "WORDS"=some (.ref a.q2n)
 xod:DcK w K a.q2n [("paper",1),("take",2),("put",3)]
 xb9:mg "joined_desk"=some (.ref a.q2I)
 q23:Meth K a.q0f "add_row" a.q0W
 q3p:Meth K a.q0f "answer_to" a.q0G
 q21:Meth K a.q0f "begin_paper" a.q0A
 q1R:Meth K a.q0f "go_on_with_paper" a.q0n
 q1y:Meth K a.q0f "has_what_is_wanted" a.q0k
 q2l:Meth K a.q0f "lay_paper" a.q0H
 q3F:Meth K a.q0f "lay_room" a.q0P
 q0m:Meth K a.q0f "say" a.q15
 q22:Meth K a.q0f "shown_fault" a.q0z
 q2w:Meth K a.q0K "answer_of_fall" a.q0t
 q2m:Meth K a.q0K "write_into" a.q0F
 q1I:Meth K a.q0i "covered" a.q09
 q4k:Meth K a.q0i "covers" a.q1m
 q4l:Meth K a.q0i "pieces" a.q1o
 q4B:Meth K a.q0i "reads" a.q1B
 q3V:Meth K a.q0i "sign_for" a.q0V
 q4f:Meth K a.q0i "told" a.q12
 q4m:Meth K a.q0i "writes" a.q1n
 q4b:Meth K a.q0h "begin" a.q1b
 q2Q:Meth K a.q0h "fall_by" a.q0O
 q4n:Meth K a.q0h "mark" a.q1p
 q1r:Meth K a.q0h "note_down" a.q0x
 q4c:Meth K a.q0h "noted" a.q1a
 q1S:Meth K a.q0h "refuse_lacking" a.q0o
 q1Z:Meth K a.q0h "told" a.q1q
 q4d:Meth K a.q0h "write" a.q0Q
 q4M:xmq K a.q2L "__init__" a.q10
 q4C:mg "ValueError"=none
 q62:mg "abs"=none
 q5R:mg "all"=none
 q63:mg "any"=none
 q5X:mg "bool"=none
 q2U:mg "enumerate"=none
 q5S:mg "int"=none
 q0j:mg "isinstance"=none
 q1l:mg "len"=none
 q4R:mg "list"=none
 q5T:mg "max"=none
 q4S:mg "range"=none
 q3s:mg "str"=none
 q3H:mg "tuple"=none
local macro_rules| `(tactic|walk_at"c")=>`(tactic|exact⟨rfl,rfl,rfl,by decide+kernel,rfl,by decide+kernel,by decide+kernel⟩)
local macro_rules| `(tactic|walk_at"d")=>`(tactic|exact⟨rfl,rfl,rfl,by decide+kernel,rfl,by decide+kernel,by decide+kernel,by decide+kernel⟩)
def xbk:xo ["self","count"] ["self","count"] (xg jb):=by walk_at"c"
def xbl:xo ["self","fault"] ["self","fault"] (xg jc):=by walk_at"c"
def xdD:xo ["self","to"] ["self","to"] (xg xbM):=by walk_at"c"
def xca:xo ["self"] ["self"] (xg jX):=by walk_at"c"
def xbm:xo ["self"] ["self"] (xg jd):=by walk_at"c"
def xdE:xo ["self","to","signs"] ["self","to","signs"] (xg xbN):=by walk_at"c"
def xcS:xo ["self"] ["self"] (xg xaU):=by walk_at"c"
def xcb:xo ["self"] ["self"] (xg jY):=by walk_at"c"
def xcc:xo ["self"] ["self"] (xg jZ):=by walk_at"c"
def xaM:xo ["self","cell","read"] ["self","cell","read"] (xg vK):=by walk_at"c"
def xdF:xo ["self"] ["self"] (xg xbO):=by walk_at"c"
def xf8:xo ["told"] ["told"] (xg xd1):=by walk_at"c"
def xcd:xo ["told"] ["told"] (xg xaa):=by walk_at"c"
def xcT:xo ["told"] ["told"] (xg xaV):=by walk_at"c"
def xcU:xo ["signs"] ["signs"] (xg xaW):=by walk_at"c"
def xeM:xo ["value"] ["value"] (xg xcE):=by walk_at"c"
def xap:xo ["least","value"] ["least","value"] (xg vh):=by walk_at"c"
def xdG:xo ["value"] ["value"] (xg xbP):=by walk_at"c"
def xcV:xo ["paper","pieces","told"] ["paper"] (xg xaX):=by walk_at"c"
def xhI:xo ["store","paper","size","pieces","first","left","number","piece"] ["store","paper"] (xg xff):=by walk_at"c"
def jv:xo ["size","paper","greater"] ["size","paper"] (xg uN):=by walk_at"c"
def xaq:xo ["size","pieces","told","cells","at"] ["size","pieces"] (xg vi):=by walk_at"c"
def xar:xo ["row","cells","places","cell"] ["row","cells"] (xg vj):=by walk_at"c"
def xdH:xo ["store","row","cells","cell"] ["store","row","cells"] (xg ug):=by walk_at"c"
def xhJ:xo ["paper","wrong","rows","fault"] ["paper"] (xg xfg):=by walk_at"c"
def xaN:xo ["paper"] ["paper"] (xg vL):=by walk_at"c"
def xcW:xo ["value"] ["value"] (xg xaY):=by walk_at"c"
def vW:xo ["paper","number","told"] ["paper"] (xg ur):=by walk_at"c"
def jw:xo ["told","old","new","row"] ["told","old","new"] (xg uO):=by walk_at"c"
def xas:xo ["rows","covered","number","row","cell"] ["rows"] (xg vk):=by walk_at"c"
def xeN:xo ["rows","new","covered","row","cell"] ["rows","new"] (xg xcF):=by walk_at"c"
def xcX:xo ["rows","written","number","row","cell"] ["rows"] (xg xaZ):=by walk_at"c"
def xf9:xo ["parts"] ["parts"] (xg xd2):=by walk_at"c"
def xdI:xo ["self","fall"] ["self","fall"] (xg xbQ):=by walk_at"c"
def jx:xo ["self","kept","at","value","torn","count","answer"] ["self","kept","at","value","torn"] (xg uP):=by walk_at"c"
def vd:xo ["self","count","fall"] ["self","count"] (xg zx):=by walk_at"c"
def xce:xo ["self","cells","fall"] ["self","cells","fall"] (xg zp):=by walk_at"c"
def xbn:xo ["self","at","sign"] ["self","at","sign"] (xg yU):=by walk_at"c"
def xcf:xo ["self","number"] ["self","number"] (xg xab):=by walk_at"c"
def xbo:xo ["self"] ["self"] (xg je):=by walk_at"c"
def xbp:xo ["self"] ["self"] (xg jf):=by walk_at"c"
def xcg:xo ["self"] ["self"] (xg xac):=by walk_at"c"
def xat:xo ["self","fall","pen"] ["self","fall"] (xg vm):=by walk_at"c"
def um:xo ["self","at"] ["self","at"] (xg zf):=by walk_at"c"
def vX:xo ["self","at","number"] ["self","at","number"] (xg ym):=by walk_at"c"
def xch:xo ["paper","lines","shown","total"] ["paper"] (xg xad):=by walk_at"c"
def xdJ:xo ["paper","lines"] ["paper"] (xg xbR):=by walk_at"c"
def xeO:xo ["told"] ["told"] (xg xcG):=by walk_at"c"
def xci:xo ["lines","numbers","line"] ["lines"] (xg xae):=by walk_at"c"
def xga:xo ["numbers","total","number"] ["numbers"] (xg xd3):=by walk_at"c"
def xbq:xo ["word","figures","number"] ["word"] (xg jg):=by walk_at"c"
def xbr:xo ["word"] ["word"] (xg jh):=by walk_at"c"
def xcY:xo ["self"] ["self"] (xg xa0):=by walk_at"c"
def xdK:xo ["self","row","words","word","numbers"] ["self","row"] (xg xbS):=by walk_at"c"
def zD:xo ["self","word"] ["self","word"] (xg yC):=by walk_at"c"
def jy:xo ["self","word","numbers"] ["self","word","numbers"] (xg uQ):=by walk_at"c"
def xau:xo ["self","size","text"] ["self","size","text"] (xg vn):=by walk_at"c"
def jz:xo ["self","paper"] ["self","paper"] (xg uR):=by walk_at"c"
def xaO:xo ["self","told","row"] ["self","told"] (xg vM):=by walk_at"c"
def vC:xo ["self","fault"] ["self"] (xg zS):=by walk_at"c"
def vD:xo ["self","fault"] ["self"] (xg zT):=by walk_at"c"
def zX:xo ["self","numbers","asked","told","writes"] ["self","numbers"] (xg yP):=by walk_at"c"
def xdL:xo ["row"] ["row"] (xg xbT):=by walk_at"c"
def xcZ:xo ["word","numbers","form"] ["word","numbers"] (xg xa1):=by walk_at"c"
def xbs:xo ["asked","numbers","last","answer"] ["asked","numbers"] (xg yv):=by walk_at"c"
def xeP:xo ["_law_script","_law_k"] ["_law_script","_law_k"] (xg xcH):=by walk_at"c"
def xjm:xo ["_law_some"] [] (xg xhn):=by walk_at"c"
def xhK:xo ["_law_e","_law_names_here"] ["_law_e"] (xg xfh):=by walk_at"c"
def xjn:xo ["_law_desk","_law_line","_law_names_here","_law_e"] ["_law_desk","_law_line"] (xg xho):=by walk_at"c"
def xjo:xo ["_law_cell","_law_some"] ["_law_cell"] (xg xhp):=by walk_at"c"
def xlH:xo ["_law_cell","_law_desk","_law_bare"] ["_law_cell"] (xg xj9):=by walk_at"c"
def xlI:xo ["_law_script","_law_cell","_law_desk","_law_size","_law_newer","_law_rows","_law_row","_law_upto","_law_seen","_law_due"] ["_law_script"] (xg xdj):=by walk_at"c"
def xaP(to:Int)(t:Addr)(n:Int):List (Str×V):=[("to",.int to),("count",.int n),("signs",.ref t)]
def zI(lo:Int)(n:Nat):List Int:=(cT n).map fun(i:Nat)=>lo+(i:Int)
def xoe(lo:Int)(n:Nat):xcw lo n=(zI lo n).map V.int:=by simp[xcw,zI,Function.comp_def]
def vT(lo:Int)(n:Nat):(zI lo n).length=n:=by simp[zI]
def xav{n:Nat}{x:Int}(h:(zI 0 n)[i]? =some x):x=i/\i<n:=by
 have hl:=(aR.mp h).1;rw[vT]at hl;unfold zI at h;rw[az,iM hl]at h;cases h;exact⟨by show(0:Int)+(i:Int)=i;lia,hl⟩
def xkl(H:Hp)(Q:VK)(ns:List Int):Prop:=∀(l:Addr) (H':Hp),xf H H'->H l=none->H' l=some (.lst (ns.map V.int))->Q (.ref l) H'
structure yy(sg:List Int):Prop where
 ne:sg≠[]
 few:sg.length<=20
 sm:∀x∈sg,(x.natAbs:Int)<10^60
def yy.pos(h:yy sg):0<sg.length:=dQ.mpr h.ne
def uw(H:Hp)(t:Addr)(sg:List Int):Prop:=∃u,H t=some (.tup [.str "put",.int 0,.ref u])/\H u=some (.tup (sg.map V.int))
def uw.same(h:uw H t sg)(s:xf H H'):uw H' t sg:=by
 obtain⟨u,h1,h2⟩:=h;exact⟨u,s.at h1,s.at h2⟩
def jr(a:Adr)(H:Hp)(o:Addr)(sg:List Int):Prop:=∃dx u,H o=some (.ins a.q0i dx (xaP 0 u sg.length))/\H u=some (.tup (sg.map V.int))
def jr.same{o:Addr}(h:jr a H o sg)(s:xf H H'):jr a H' o sg:=by
 obtain⟨dx,u,h1,h2⟩:=h;exact⟨dx,u,s.at h1,s.at h2⟩
def xgX(H:Hp)(t:Addr):Prop:=∃i j:Int,0<=i/\0<=j/\H t=some (.tup [.str "take",.int i,.int j,.int 0])
def xiG(K:ay):Sp:=fun vs H Q _=>∃(p C dx:Addr) (to:Int),vs=[.ref p,.int to]/\H p=some (.ins C dx [])/\Cls K C/\xB K C "to"/\xB K C "count"/\Q .non (upd H p (.ins C dx [("to",.int to),("count",.int 0)]))
def xiH(a:Adr):Sp:=fun vs H Q _=>∃(p dx t:Addr) (xs:List V),vs=[.ref p,.int 0,.ref t]/\H p=some (.ins a.q0i dx [])/\H t=some (.tup xs)/\Q .non (upd H p (.ins a.q0i dx (xaP 0 t xs.length)))
def xlJ(a:Adr):Sp:=fun vs H Q _=>∃(p dx u:Addr) (n:Int),vs=[.ref p]/\H p=some (.ins a.q0i dx (xaP 0 u n))/\∀t,H t=none->Q (.ref t) (upd H t (.tup [.int 0,.int (0+n)]))
def xeQ(a:Adr):Sp:=fun vs H Q _=>∃(p dx u:Addr) (n:Nat),vs=[.ref p]/\H p=some (.ins a.q0i dx (xaP 0 u n))/\n<=1000/\xkl H Q (zI 0 n)
def xmR(a:Adr):Sp:=fun vs H Q _=>∃(p dx u:Addr) (n:Int),vs=[.ref p]/\H p=some (.ins a.q0i dx (xaP 0 u n))/\∀t,H t=none->Q (.ref t) (upd H t (.tup [.str "put",.int 0,.ref u]))
def xkm(a:Adr):Sp:=fun vs H Q _=>∃(p dx u:Addr) (n:Nat),vs=[.ref p]/\H p=some (.ins a.q0i dx (xaP 0 u n))/\n<=1000/\∀(D l:Addr) (H':Hp),xf H H'->H D=none->H l=none->D≠l->H' D=some (.lst [.ref l])->H' l=some (.lst ((zI 0 n).map V.int))->Q (.ref D) H'
def xlK(a:Adr):Sp:=fun vs H Q _=>∃(p dx u:Addr) (n:Int),vs=[.ref p]/\H p=some (.ins a.q0i dx (xaP 0 u n))/\xkl H Q []
def xmS(a:Adr):Sp:=fun vs H Q _=>∃(p dx u:Addr) (n:Int) (f:V) (cell:Nat) (v:Int) (sg:List Int),vs=[.ref p,.int cell,f]/\H p=some (.ins a.q0i dx (xaP 0 u n))/\H u=some (.tup (sg.map V.int))/\sg[cell]? =some v/\Q (.int v) H
def xiI:Sp:=fun vs H Q _=>∃i:Int,vs=[.int i]/\Q (.bl true) H
def xed:Sp:=fun vs H Q _=>∃l i:Int,vs=[.int l,.int i]/\Q (.bl (decide (l<=i))) H
def xkn:Sp:=fun vs H Q _=>∃i:Int,vs=[.int i]/\(i.natAbs:Int)<10^60/\Q (.bl true) H
def xhL:Sp:=fun vs H Q _=>∃(u:Addr) (sg:List Int),vs=[.ref u]/\H u=some (.tup (sg.map V.int))/\yy sg/\∀H',xf H H'->Q (.bl true) H'
def xgA:Sp:=fun vs H Q _=>∃t:Addr,vs=[.ref t]/\((∃sg,uw H t sg)\/xgX H t)/\Q (.bl false) H
def xhM:Sp:=fun vs H Q _=>∃t:Addr,vs=[.ref t]/\((∃sg,uw H t sg/\yy sg/\∀H',xf H H'->Q (.bl true) H')\/xgX H t/\Q (.bl false) H)
def xlL(a:Adr):Sp:=fun vs H Q E=>∃t:Addr,vs=[.ref t]/\((∃sg,uw H t sg/\yy sg/\∀(o:Addr) (H':Hp),xf H H'->H o=none->jr a H' o sg->Q (.ref o) H')\/xgX H t/\∀H',xf H H'->E (.ref a.q0b) none H')
local macro_rules| `(tactic|walk_at"w")=>`(tactic|(conv=>whnf))
local macro_rules| `(tactic|walk_at"few")=>`(tactic|first|exact Nat.lt_of_lt_of_le (xnM (n:=998) (by simp)) (by decide)|(simp;done))
local macro_rules| `(tactic|walk_at"pos")=>`(tactic|first|(show(0:Int)<_;decide)|(show(0:Int)<_;lia)|assumption)
local macro_rules| `(tactic|walk_at"same")=>`(tactic|first|exact xf.refl _|assumption|(refine' xf.trans ?sa ?sb;(case sb=>assumption);(case sa=>walk_at"same")))
local macro_rules| `(tactic|walk_at"get")=>`(tactic|first|assumption|exact xl|(refine' xf.at ?ga ?gb;(case gb=>assumption);(case ga=>walk_at"same")))
local macro_rules| `(tactic|walk_at"sq")=>`(tactic|first|assumption|(refine' SqL.of ?g;(case g=>walk_at"get"))|(refine' SqT.of ?g;(case g=>walk_at"get"))|(refine' xf.seq ?sa ?sb;(case sb=>assumption);(case sa=>walk_at"same"))|(refine' xf.seqT ?sa ?sb;(case sb=>assumption);(case sa=>walk_at"same"))|(refine' Or.inl ?g;(case g=>walk_at"sq"))|(refine' Or.inr ?g;(case g=>walk_at"sq")))
local macro_rules| `(tactic|walk_at"no")=>`(tactic|(intro z;first|cases z|(simp at z;done)))
local macro_rules| `(tactic|walk_at"mul")=>`(tactic|first|exact Or.inl ⟨by decide,by decide⟩|exact Or.inr ⟨by decide,by decide⟩|exact Or.inl ⟨by lia,by lia⟩|exact Or.inr ⟨by lia,by lia⟩)
local macro_rules| `(tactic|walk_at"side")=>`(tactic|first|exact⟨by decide,by decide⟩|exact⟨by decide,by decide,by decide⟩|walk_at"pos" |walk_at"mul" |(show(_:Nat)<=sizeLine;first|decide|(simp only[List.length_cons,List.length_nil];decide)))
local macro_rules| `(tactic|walk_at"s")=>`(tactic|(refine And.intro (by walk_at"side") ?_;walk_at"w"))
local macro_rules| `(tactic|walk_at"ss")=>`(tactic|(repeat (walk_at"s")))
local macro_rules| `(tactic|walk_at"N")=>`(tactic|refine⟨by walk_at"no",fun _=>?_⟩)
local macro_rules| `(tactic|walk_at"Y")=>`(tactic|refine⟨fun _=>?_,by walk_at"no"⟩)
local macro_rules| `(tactic|walk_at"n")=>`(tactic|(walk_at"N";walk_at"w"))
local macro_rules| `(tactic|walk_at"y")=>`(tactic|(walk_at"Y";walk_at"w"))
local macro_rules| `(tactic|walk_at"W")=>`(tactic|(walk_at"w";walk_at"ss"))
local macro_rules| `(tactic|exists$e:term)=>`(tactic|(refine $e;walk_at"w"))
local macro_rules| `(tactic|left)=>`(tactic|walk_at"w")
local macro_rules| `(tactic|right)=>`(tactic|walk_at"W")
def xiJ(T:Txt w K mg a):xt P w K mg base CX0 1 a.q10 a.xbU ["self","to"] (xiG K):=by
 refine T.q3i.ok xdD (fun vs H Q E h=>?_) (fun j8 A outer s H vs Q E hr h=>?_)
 ·obtain⟨p,C,dx,to,rfl,_⟩:=h;rfl
 ·obtain⟨p,C,dx,to,rfl,hp,c,n1,n2,k⟩:=h;have nd:=xdD.nd;refine⟨_,(xc (xY (cv 0) (cv 1) rfl)
  (xh (xY (cv 0) xk rfl))),?_⟩
  left;refine⟨p,C,dx,_,rfl,hp,c,n1,by walk_at"few",?_⟩;left;refine⟨p,C,dx,_,rfl,xl,c,n2,by walk_at"few",?_⟩;left;rw[zl];exact k
def xiK(T:Txt w K mg a):xt P w K mg base CX0 2 a.q11 a.xbV ["self","to","signs"] (xiH a):=by
 refine T.q3j.ok xdE (fun vs H Q E h=>?_) (fun j9 A outer s H vs Q E hr h=>?_)
 ·obtain⟨p,dx,t,xs,rfl,_⟩:=h;rfl
 ·obtain⟨p,dx,t,xs,rfl,hp,ht,k⟩:=h;have nd:=xdE.nd;have j8:∀o,upd H p o t=some (.tup xs):=fun o=>by rw[xm (zt ht hp (by intro z;cases z))];exact ht
  refine⟨_,(xc (xN (xnK (by rfl) T.xqv T.q4M (xiJ T) hr.m T.xkc .nil xr (xa (cv 0) (xa (cv 1) xb))))
  (xc (xY (cv 0) (xU vY (by rfl) T.q3H vG (xa (cv 2) xb)) rfl)
  (xh (xY (cv 0) (xw xJ (by rfl) T.q1l yl (xa (xE (cv 0) rfl) xb)) rfl)))),?_⟩
  left;exists⟨p,_,dx,0,rfl,hp,T.q0E,T.q18,T.q2t,?_⟩;exists⟨t,xs,rfl,.inr ⟨SqT.of (j8 _),?_⟩⟩;refine⟨p,_,dx,_,rfl,xl,T.q0E,T.q2u,by walk_at"few",?_⟩;left;rw[zl];exists⟨p,_,dx,_,.ref t,rfl,xl,T.q0E,T.q2u,rfl,?_⟩;exists⟨t,xs,rfl,.inr (SqT.of (j8 _)),?_⟩;refine⟨p,_,dx,_,rfl,xl,T.q0E,T.q2t,by walk_at"few",?_⟩;left;rw[zl];exact k
def xgB(T:Txt w K mg a):xt P w K mg base CX0 1 a.q1m a.xaf ["self"] (xlJ a):=by
 refine T.q2o.ok xca (fun vs H Q E h=>?_) (fun j8 A outer s H vs Q E hr h=>?_)
 ·obtain⟨p,dx,u,n,rfl,_⟩:=h;rfl
 ·obtain⟨p,dx,u,n,rfl,hp,k⟩:=h;have nd:=xca.nd;exists⟨_,(xh (xp (yA (xa (xE (cv 0) rfl) (xa (xy vf (xE (cv 0) rfl) (xE (cv 0) rfl)) xb))))),?_⟩;exists⟨p,_,dx,_,_,rfl,hp,T.q0E,T.q18,rfl,?_⟩;exists⟨p,_,dx,_,_,rfl,hp,T.q0E,T.q18,rfl,?_⟩;exists⟨p,_,dx,_,_,rfl,hp,T.q0E,T.q2t,rfl,?_⟩;exact⟨by walk_at"side",k⟩
def uj(T:Txt w K mg a):xt P w K mg base CX0 1 a.q09 a.jk ["self"] (xeQ a):=by
 refine T.q1V.ok xbm (fun vs H Q E h=>?_) (fun ka A outer s H vs Q E hr h=>?_)
 ·obtain⟨p,dx,u,n,rfl,_⟩:=h;rfl
 ·obtain⟨p,dx,u,n,rfl,hp,hn,k⟩:=h;have nd:=xbm.nd;refine⟨_,(xh (xp (xU (xgk rfl) (by rfl) T.q4R xdb (xa (xk0 (by rfl) T.q4S (xa (xE (cv 0) rfl) (xa (xy vf (xE (cv 0) rfl) (xE (cv 0) rfl)) xb))) xb)))),?_⟩;left;exists⟨p,_,dx,_,_,rfl,hp,T.q0E,T.q18,rfl,?_⟩;exists⟨p,_,dx,_,_,rfl,hp,T.q0E,T.q18,rfl,?_⟩;exists⟨p,_,dx,_,_,rfl,hp,T.q0E,T.q2t,rfl,?_⟩;intro r j8;left;have e:uq 0 (0+(n:Int)) 1=n:=by rw[xdW];lia
  refine⟨r,0,0+(n:Int),rfl,xl,by rw[e];exact aO hn (by decide),fun l hl=>?_⟩;rw[e,xoe];have j9:H l=none:=xf.free (xf.new j8) hl;exact k l _ ((xf.new j8).put j9) j9 xl
def xdM(T:Txt w K mg a):xt P w K mg base CX0 1 a.q12 a.xbW ["self"] (xmR a):=by
 refine T.q3k.ok xdF (fun vs H Q E h=>?_) (fun j8 A outer s H vs Q E hr h=>?_)
 ·obtain⟨p,dx,u,n,rfl,_⟩:=h;rfl
 ·obtain⟨p,dx,u,n,rfl,hp,k⟩:=h;have nd:=xdF.nd;exists⟨_,(xh (xp (yA (xa xj (xa (xE (cv 0) rfl) (xa (xE (cv 0) rfl) xb)))))),?_⟩;exists⟨p,_,dx,_,.int 0,rfl,hp,T.q0E,T.q18,rfl,?_⟩;exists⟨p,_,dx,_,.ref u,rfl,hp,T.q0E,T.q2u,rfl,?_⟩;exact⟨by walk_at"side",k⟩
def xgC(T:Txt w K mg a):xt P w K mg base CX0 2 a.q1o a.xah ["self"] (xkm a):=by
 refine T.q2q.ok xcc (fun vs H Q E h=>?_) (fun j9 A outer s H vs Q E hr h=>?_)
 ·obtain⟨p,dx,u,n,rfl,_⟩:=h;rfl
 ·obtain⟨p,dx,u,n,rfl,hp,hn,k⟩:=h;have nd:=xcc.nd;exists⟨_,(xh (xp (xK (xa (yd (cv 0) T.q0E T.q1I (uj T) hr.m T.uD .nil xr) xb)))),?_⟩;exists⟨p,dx,_,rfl,hp,rfl,?_⟩;exists⟨p,dx,u,n,rfl,hp,hn,fun l H1 s1 hl e1=>?_⟩;walk_at"ss";intro D hD;have j8:=s1.back hD;exact k D l _ (s1.put j8) j8 hl (fun z=>by rw[z,e1]at hD;cases hD) xl (by rw[xm (xD e1 hD)];exact e1)
def xhN(T:Txt w K mg a):xt P w K mg base CX0 1 a.q1B a.xa2 ["self"] (xlK a):=by
 refine T.q2S.ok xcS (fun vs H Q E h=>?_) (fun j8 A outer s H vs Q E hr h=>?_)
 ·obtain⟨p,dx,u,n,rfl,_⟩:=h;rfl
 ·obtain⟨p,dx,u,n,rfl,hp,k⟩:=h;have nd:=xcS.nd;exists⟨_,(xh (xp (xK xb))),?_⟩;exact⟨by decide,fun l hl=>k l _ (xf.new hl) hl (by rw[xl];rfl)⟩
def xgD(T:Txt w K mg a):xt P w K mg base CX0 2 a.q1n a.xag ["self"] (xeQ a):=by
 refine T.q2p.ok xcb (fun vs H Q E h=>?_) (fun j8 A outer s H vs Q E hr h=>?_)
 ·obtain⟨p,dx,u,n,rfl,_⟩:=h;rfl
 ·obtain⟨p,dx,u,n,rfl,hp,hn,k⟩:=h;have nd:=xcb.nd;exists⟨_,(xh (xp (yd (cv 0) T.q0E T.q1I (uj T) hr.m T.uD .nil xr))),?_⟩;exists⟨p,dx,_,rfl,hp,rfl,?_⟩;exact⟨p,dx,u,n,rfl,hp,hn,k⟩
def xeR(T:Txt w K mg a):xt P w K mg base CX0 1 a.q0V a.vN ["self","cell","read"] (xmS a):=by
 refine T.q1E.ok xaM (fun vs H Q E h=>?_) (fun j8 A outer s H vs Q E hr h=>?_)
 ·obtain⟨p,dx,u,n,f,cell,v,sg,rfl,_⟩:=h;rfl
 ·obtain⟨p,dx,u,n,f,cell,v,sg,rfl,hp,hu,hv,k⟩:=h;have nd:=xaM.nd;exists⟨_,(xh (xp (xA xF (xE (cv 0) rfl) (xy xgQ (cv 1) (xE (cv 0) rfl)) (fun _ _=>rfl)))),?_⟩;exists⟨p,_,dx,_,.ref u,rfl,hp,T.q0E,T.q2u,rfl,?_⟩;exists⟨p,_,dx,_,.int 0,rfl,hp,T.q0E,T.q18,rfl,?_⟩;refine⟨u,_,_,.int v,rfl,rfl,SqT.of hu,?_,k⟩;show atI (sg.map V.int) ((cell:Int) - 0)=some (.int v);rw[Int.sub_zero];exact ua (by rw[az,hv];rfl)
def xdN(T:Txt w K mg a):xt P w K mg base CX0 1 a.q2H a.xbX ["value"] xiI:=by
 refine T.q16.ok xdG (fun vs H Q E h=>?_) (fun j8 A outer s H vs Q E hr h=>?_)
 ·obtain⟨i,rfl,_⟩:=h;rfl
 ·obtain⟨i,rfl,q⟩:=h;have nd:=xdG.nd;refine⟨_,(xh (xp (yJ (xw zv (by rfl) T.q0j xH (xa (cv 0) (xa (vE (v:=.ty "int") (by rfl) T.q5S xk3 rfl) xb))) (yX (xo9 (xw zv (by rfl) T.q0j xH (xa (cv 0) (xa (vE (v:=.ty "bool") (by rfl) T.q5X xnL rfl) xb)))))))),?_⟩;left;exists⟨_,_,_,_,true,rfl,rfl,yh.int _,rfl,?_⟩;walk_at"y";refine⟨_,_,_,_,false,rfl,rfl,yh.int _,rfl,?_⟩;exact q
def yL(T:Txt w K mg a):xt P w K mg base CX0 2 a.q0Z a.vo ["least","value"] xed:=by
 refine T.q0u.ok xap (fun vs H Q E h=>?_) (fun j8 A outer s H vs Q E hr h=>?_)
 ·obtain⟨l,i,rfl,_⟩:=h;rfl
 ·obtain⟨l,i,rfl,q⟩:=h;have nd:=xap.nd;refine⟨_,(xh (xp (yJ (xu (xdN T) hr.m (by rfl) T.xeE T.q16.kp T.xeD .nil xr (xa (cv 1) xb)) (yX (yn xjL (cv 1) (cv 0)))))),?_⟩;left;exists⟨i,rfl,?_⟩;exact⟨fun _=>q,by walk_at"no"⟩
def xko(T:Txt w K mg a):xt P w K mg base CX0 2 a.q24 a.xcI ["value"] xkn:=by
 refine T.q28.ok xeM (fun vs H Q E h=>?_) (fun j8 A outer s H vs Q E hr h=>?_)
 ·obtain⟨i,rfl,_⟩:=h;rfl
 ·obtain⟨i,rfl,hi,q⟩:=h;have nd:=xeM.nd;refine⟨_,(xh (xp (yJ (xu (xdN T) hr.m (by rfl) T.xeE T.q16.kp T.xeD .nil xr (xa (cv 0) xb)) (yX (yn xdT (xw xqi (by rfl) T.q62 xpd (xa (cv 0) xb)) (xy xjK xk xk)))))),?_⟩;left;exists⟨i,rfl,?_⟩;walk_at"y";refine⟨⟨by decide,by decide,by decide⟩,?_⟩;left;show Q (.bl (decide ((i.natAbs:Int)<10^(60:Int).toNat))) H;rw[show decide ((i.natAbs:Int)<10^(60:Int).toNat)=true from decide_eq_true hi];exact q
def xhO(T:Txt w K mg a):xt P w K mg base CX0 3 a.q2a a.xa4 ["signs"] xhL:=by
 refine T.q2h.ok xcU (fun vs H Q E h=>?_) (fun kb A outer s H vs Q E hr h=>?_)
 ·obtain⟨u,sg,rfl,_⟩:=h;rfl
 ·obtain⟨u,sg,rfl,hu,hk,q⟩:=h;have nd:=xcU.nd;refine⟨_,(xh (xp (yJ (xw zv (by rfl) T.q0j xH (xa (cv 0) (xa (vE (v:=.ty "tuple") (by rfl) T.q3H vG rfl) xb))) (yJ (yn xg7 (xw xJ (by rfl) T.q1l yl (xa (cv 0) xb)) xk) (yX (xw (xf1 rfl) (by rfl) T.q5R xk2 (xa (ud (zB (cap:=[]) (ys:=[]) rfl rfl rfl rfl rfl trivial (by decide+kernel)) rfl (xcm (cv 0)) (fun _ _ _ _=>(xu (xko T) hr.m (by rfl) T.xlo T.q28.kp T.xln .nil xr (xa (cv 0) xb))) (fun _ _ _ _=>zm)) xb))))))),?_⟩;left;exists⟨_,_,_,_,true,rfl,rfl,yh.tup hu,rfl,?_⟩;walk_at"y";exists⟨u,_,rfl,.inr (SqT.of hu),?_⟩;have j9:=hk.pos;refine⟨fun _=>?_,fun z=>by have:=of_decide_eq_false z;rw[ag]at this;lia⟩;left;refine⟨u,rfl,⟨_,SqT.of hu⟩,?_⟩;refine xaJ (fun i acc _=>acc=aK i (V.bl true)) (SqT.of hu) (by rw[ag,ar];have:=hk.few;lia) rfl (fun i x acc H3 H3' hx s3 j8 hp R hR=>?_) (fun D acc H3 H3' hD ka s3 j8 hp hl hv=>?_)
  ·rw[az]at hx;obtain⟨y,hy,rfl⟩:=aE.mp hx;left;refine⟨y,rfl,hk.sm y (aw hy),hR _ _ (xf.refl _) fun H6 _ _=>?_⟩;rw[hp,List.replicate_succ']
  ·left;refine⟨D,aK sg.length true,rfl,SqL.of ?_,?_⟩
   ·rw[hv,hp,ag,i3]
   ·left;show Q (.bl ((aK sg.length true).all id)) H3';rw[show(aK sg.length true).all id=true by simp];exact q _ (s3.trans j8)
def xgE(T:Txt w K mg a):xt P w K mg base CX0 3 a.q1J a.xai ["told"] xgA:=by
 refine T.q1N.ok xcd (fun vs H Q E h=>?_) (fun j8 A outer s H vs Q E hr h=>?_)
 ·obtain⟨t,rfl,_⟩:=h;rfl
 ·obtain⟨t,rfl,ht,q⟩:=h;have nd:=xcd.nd;refine⟨_,(xc (xC (PW.pt (zi (uy (xW (xw zv (by rfl) T.q0j xH (xa (cv 0) (xa (vE (v:=.ty "tuple") (by rfl) T.q3H vG rfl) xb))))) (zi (xG xjM (xw xJ (by rfl) T.q1l yl (xa (cv 0) xb)) xk) (zM (xG vQ (xA xF (cv 0) xk (fun _ _=>rfl)) xj))))) (xh (xp yf)) xq)
  (xh (xp (yJ (xu (yL T) hr.m (by rfl) T.zb T.q0u.kp T.za .nil xr (xa xk (xa (xA xF (cv 0) xk (fun _ _=>rfl)) xb))) (yJ (xu (yL T) hr.m (by rfl) T.zb T.q0u.kp T.za .nil xr (xa xk (xa (xA xF (cv 0) xk (fun _ _=>rfl)) xb))) (yX (xu (yL T) hr.m (by rfl) T.zb T.q0u.kp T.za .nil xr (xa xk (xa (xA xF (cv 0) xk (fun _ _=>rfl)) xb))))))))),?_⟩
  rcases ht with⟨sg,u,h1,h2⟩|⟨i,j,hi,hj,ht⟩
  ·left;exists⟨_,_,_,_,true,rfl,rfl,yh.tup h1,rfl,?_⟩;walk_at"n";exists⟨t,_,rfl,.inr (SqT.of h1),?_⟩;walk_at"y";exact⟨fun _=>q,by walk_at"no"⟩
  ·left;exists⟨_,_,_,_,true,rfl,rfl,yh.tup ht,rfl,?_⟩;walk_at"n";exists⟨t,_,rfl,.inr (SqT.of ht),?_⟩;walk_at"n";exists⟨t,_,_,.str "take",rfl,rfl,SqT.of ht,rfl,?_⟩;walk_at"n";exists⟨t,_,_,.int i,rfl,rfl,SqT.of ht,rfl,?_⟩;exists⟨_,_,rfl,?_⟩;exists⟨fun _=>?_,fun z=>absurd hi (of_decide_eq_false z)⟩;exists⟨t,_,_,.int j,rfl,rfl,SqT.of ht,rfl,?_⟩;exists⟨_,_,rfl,?_⟩;exists⟨fun _=>?_,fun z=>absurd hj (of_decide_eq_false z)⟩;exists⟨t,_,_,.int 0,rfl,rfl,SqT.of ht,rfl,?_⟩;exact⟨_,_,rfl,q⟩
def xhP(T:Txt w K mg a):xt P w K mg base CX0 4 a.q19 a.xa3 ["told"] xhM:=by
 refine T.q2g.ok xcT (fun vs H Q E h=>?_) (fun j8 A outer s H vs Q E hr h=>?_)
 ·obtain⟨t,rfl,_⟩:=h;rfl
 ·obtain⟨t,rfl,h⟩:=h;have nd:=xcT.nd;refine⟨_,(xc (xC (PW.pt (zi (uy (xW (xw zv (by rfl) T.q0j xH (xa (cv 0) (xa (vE (v:=.ty "tuple") (by rfl) T.q3H vG rfl) xb))))) (zi (xG xjM (xw xJ (by rfl) T.q1l yl (xa (cv 0) xb)) xk) (zM (xG vQ (xA xF (cv 0) xk (fun _ _=>rfl)) xj))))) (xh (xp yf)) xq)
  (xh (xp (yJ (xu (yL T) hr.m (by rfl) T.zb T.q0u.kp T.za .nil xr (xa xk (xa (xA xF (cv 0) xk (fun _ _=>rfl)) xb))) (yX (xu (xhO T) hr.m (by rfl) T.xiu T.q2h.kp T.xit .nil xr (xa (xA xF (cv 0) xk (fun _ _=>rfl)) xb))))))),?_⟩
  rcases h with⟨sg,⟨u,h1,h2⟩,hk,q⟩|⟨⟨i,j,hi,hj,ht⟩,q⟩
  ·left;exists⟨_,_,_,_,true,rfl,rfl,yh.tup h1,rfl,?_⟩;walk_at"n";exists⟨t,_,rfl,.inr (SqT.of h1),?_⟩;walk_at"n";exists⟨t,_,_,.str "put",rfl,rfl,SqT.of h1,rfl,?_⟩;walk_at"n";exists⟨t,_,_,.int 0,rfl,rfl,SqT.of h1,rfl,?_⟩;exists⟨_,_,rfl,?_⟩;walk_at"y";exists⟨t,_,_,.ref u,rfl,rfl,SqT.of h1,rfl,?_⟩;exact⟨u,sg,rfl,h2,hk,q⟩
  ·left;exists⟨_,_,_,_,true,rfl,rfl,yh.tup ht,rfl,?_⟩;walk_at"n";exists⟨t,_,rfl,.inr (SqT.of ht),?_⟩;walk_at"y";exact⟨fun _=>q,by walk_at"no"⟩
def zY(T:Txt w K mg a):xt P w K mg base (CXE P w) 5 a.q3t a.xd4 ["told"] (xlL a):=by
 refine T.q1f.okX xf8 (fun vs H Q E h=>?_) (fun kf A outer s H vs Q E hr h=>?_)
 ·obtain⟨t,rfl,_⟩:=h;rfl
 ·obtain⟨t,rfl,h⟩:=h;have nd:=xf8.nd;refine⟨_,(xc (xC (xW (xu (xgE T) hr.m (by rfl) T.xhx T.q1N.kp T.xhw .nil xr (xa (cv 0) xb))) zc xq)
  (xc (xC (xW (xu (xhP T) hr.m (by rfl) T.xis T.q2g.kp T.xir .nil xr (xa (cv 0) xb))) (xh (xp (xe1 T.q5V (xiK T) hr.m (by rfl) T.xqw T.xkd .nil xr (xa (xA xF (cv 0) xk (fun _ _=>rfl)) (xa (xA xF (cv 0) xk (fun _ _=>rfl)) xb))))) xq)
  (xh (jT ⟨rfl,rfl,rfl⟩ rfl T.q5n (by rfl) T.xfq (xa xj xb))))),?_⟩
  rcases h with⟨sg,hp,hk,q⟩|⟨hz,q⟩
  ·left;exists⟨t,rfl,.inl ⟨sg,hp⟩,?_⟩;walk_at"n";refine⟨t,rfl,.inl ⟨sg,hp,hk,fun H2 s2=>?_⟩⟩;obtain⟨u,h1,h2⟩:=hp;left;walk_at"y";exists⟨t,_,_,.int 0,rfl,rfl,SqT.of (s2.at h1),rfl,?_⟩;exists⟨t,_,_,.ref u,rfl,rfl,SqT.of (s2.at h1),rfl,?_⟩;intro o j9 ho ka kd;generalize kb:upd H2 j9 (.own o)=H3;have kc:=xf.of_eq ka kb;have ke:H3 o=none:=by rw[<-kb,xm (aL kd)];exact ho
   have j8:∀ob,xf H2 (upd H3 o ob):=fun ob=>kc.trans (xf.new ke);refine⟨o,j9,u,_,rfl,xl,(s2.trans (j8 _)).at h2,?_⟩;rw[zl];left;refine⟨rfl,q o _ (s2.trans (j8 _)) (s2.back ho) ⟨j9,u,?_,(s2.trans (j8 _)).at h2⟩⟩;rw[xl,ag]
  ·left;exists⟨t,rfl,.inr hz,?_⟩;walk_at"n";exists⟨t,rfl,.inr ⟨hz,?_⟩⟩;walk_at"n";exact⟨by decide,q _ (xf.refl _)⟩
theorem Paired.nth{α β:Type}{F:α->β->Prop}:∀{l₁:List α} {l₂:List β} {i:Nat} {x:α},Paired F l₁ l₂->l₁[i]? =some x->∃y,l₂[i]? =some y/\F x y
 |_,_,_,_,.nil,e=>by simp at e
 |_,_,0,_,.cons r _,e=>by simp at e;subst e;exact⟨_,rfl,r⟩
 |_,_,i+1,_,.cons _ t,e=>by
  obtain⟨y,h1,h2⟩:=Paired.nth (i:=i) t (by simpa using e);exact⟨y,by simpa using h1,h2⟩
theorem xbb{α β:Type}{F:α->β->Prop}{x:α}{y:β}:∀{l₁:List α} {l₂:List β},Paired F l₁ l₂->F x y->Paired F (l₁++[x]) (l₂++[y])
 |_,_,.nil,h=>.cons h .nil
 |_,_,.cons r t,h=>.cons r (xbb t h)
def uZ(H:Hp)(p:Addr)(o n:Int)(rs:List (List Int)):Prop:=∃tt ts,H p=some (.tup [.int o,.int n,.ref tt])/\H tt=some (.tup (ts.map V.ref))/\Paired (uw H) ts rs
def uZ.same(h:uZ H p o n rs)(s:xf H H'):uZ H' p o n rs:=by
 obtain⟨tt,ts,h1,h2,h3⟩:=h;exact⟨tt,ts,s.at h1,s.at h2,L2.Paired.imp' (fun _ _ z=>z.same s) h3⟩
structure POk(o n:Int)(rs:List (List Int)):Prop where
 o0:0<=o
 o3:o<=300
 n0:0<=n
 n3:n<=300
 one:rs.length<=1
 ok:∀sg∈rs,yy sg/\(sg.length:Int)=n
def xfs(a:Adr)(H:Hp)(l:Addr)(rs:List (List Int)):Prop:=∃os,H l=some (.lst (os.map V.ref))/\Paired (jr a H) os rs
def xfs.same(h:xfs a H l rs)(s:xf H H'):xfs a H' l rs:=by
 obtain⟨os,h1,h2⟩:=h;exact⟨os,s.at h1,L2.Paired.imp' (fun _ _ z=>z.same s) h2⟩
def yE(n:Int)(rs:List (List Int)):Bool:=rs.isEmpty&&decide (1<=n)
def jR(H:Hp)(Q:VK):Bool->Prop
 |true=>∀(t:Addr) (H':Hp),xf H H'->H' t=some (.tup [.str "lacks",.int 0])->Q (.ref t) H'
 |false=>∀H',xf H H'->Q .non H'
def xhQ:Sp:=fun vs H Q _=>∃i:Int,vs=[.int i]/\0<=i/\i<=300/\Q (.bl true) H
def xof:Sp:=fun vs H Q _=>∃(p:Addr) (o n:Int) (rs:List (List Int)),vs=[.ref p]/\uZ H p o n rs/\POk o n rs/\Q (.bl true) H
def xkp:Sp:=fun vs H Q _=>∃(t:Addr) (sg:List Int) (old:Int),vs=[.ref t,.int old,.int sg.length]/\uw H t sg/\yy sg/\∀H',xf H H'->Q (.bl true) H'
def xmT:Sp:=fun vs H Q _=>∃(p:Addr) (o n:Int) (rs:List (List Int)),vs=[.ref p]/\uZ H p o n rs/\POk o n rs/\∀H',xf H H'->Q .non H'
def xhR(a:Adr):Sp:=fun vs H Q _=>∃(l:Addr) (o n:Int) (rs:List (List Int)),vs=[.ref l]/\xfs a H l rs/\POk o n rs/\∀H',xf H H'->Q .non H'
def xkq(a:Adr):Sp:=fun vs H Q _=>∃(l:Addr) (o n:Int) (rs:List (List Int)),vs=[.ref l,.int n]/\xfs a H l rs/\POk o n rs/\jR H Q (yE n rs)
def xmU:Sp:=fun vs H Q _=>∃(p:Addr) (o n:Int) (rs:List (List Int)),vs=[.ref p]/\uZ H p o n rs/\POk o n rs/\jR H Q (yE n rs)
def xc0(T:Txt w K mg a):xt P w K mg base CX0 3 a.q2c a.xa6 ["value"] xhQ:=by
 refine T.q1D.ok xcW (fun vs H Q E h=>?_) (fun j8 A outer s H vs Q E hr h=>?_)
 ·obtain⟨i,rfl,_⟩:=h;rfl
 ·obtain⟨i,rfl,h0,h3,q⟩:=h;have nd:=xcW.nd;refine⟨_,(xh (xp (yJ (xu (yL T) hr.m (by rfl) T.zb T.q0u.kp T.za .nil xr (xa xk (xa (cv 0) xb))) (yX (yn xg6 (cv 0) (xZ (v:=.int 300) (by rfl) T.xhF ⟨_,rfl⟩)))))),?_⟩;left;exists⟨0,i,rfl,?_⟩;exists⟨fun _=>?_,fun z=>absurd h0 (of_decide_eq_false z)⟩;show Q (.bl (decide (i<=300))) H;rw[decide_eq_true h3];exact q
def xeS(T:Txt w K mg a):xt P w K mg base CX0 4 a.q1e a.vO ["paper"] xof:=by
 refine T.q1g.ok xaN (fun vs H Q E h=>?_) (fun j9 A outer s H vs Q E hr h=>?_)
 ·obtain⟨p,o,n,rs,rfl,_⟩:=h;rfl
 ·obtain⟨p,o,n,rs,rfl,⟨tt,ts,hp,ht,j8⟩,hk,q⟩:=h;have nd:=xaN.nd;refine⟨_,(xh (xp (yJ (xu (xc0 T) hr.m (by rfl) T.xdB T.q1D.kp T.xdA .nil xr (xa (xA xF (cv 0) xk (fun _ _=>rfl)) xb)) (yJ (xu (xc0 T) hr.m (by rfl) T.xdB T.q1D.kp T.xdA .nil xr (xa (xA xF (cv 0) xk (fun _ _=>rfl)) xb)) (yX (yn xg6 (xw xJ (by rfl) T.q1l yl (xa (xA xF (cv 0) xk (fun _ _=>rfl)) xb)) (xZ (v:=.int 300) (by rfl) T.xhF ⟨_,rfl⟩))))))),?_⟩;left;exists⟨p,_,_,.int o,rfl,rfl,SqT.of hp,rfl,?_⟩;exists⟨o,rfl,hk.o0,hk.o3,?_⟩;walk_at"y";exists⟨p,_,_,.int n,rfl,rfl,SqT.of hp,rfl,?_⟩;exists⟨n,rfl,hk.n0,hk.n3,?_⟩;walk_at"y";exists⟨p,_,_,.ref tt,rfl,rfl,SqT.of hp,rfl,?_⟩;refine⟨tt,_,rfl,.inr (SqT.of ht),?_⟩;rw[ag,j8.length];show Q (.bl (decide ((rs.length:Int)<=300))) H;have:=hk.one;rw[decide_eq_true (by lia)];exact q
def xdp(T:Txt w K mg a):xt P w K mg base CX0 6 a.q0S a.uT ["told","old","new"] xkp:=by
 refine T.q0U.ok jw (fun vs H Q E h=>?_) (fun kc A outer s H vs Q E hr h=>?_)
 ·obtain⟨t,sg,old,rfl,_⟩:=h;rfl
 ·obtain⟨t,sg,old,rfl,ht,hk,q⟩:=h;have nd:=jw.nd;refine⟨_,(xc (xld ⟨rfl,rfl,rfl⟩ T.q48 (by rfl) T.xfq (fun _ _=>(xh (xv (i:=3) nd rfl (aG rfl) (vJ ⟨rfl,rfl,rfl⟩ (zY T) hr.m (by rfl) T.uY T.q1f.kp T.uX .nil (xa (cv 0) xb))))) (fun _ _ _=>(xh (xp yf))))
  (xc (xC (PW.pt (xet (xW (xw zv (by rfl) T.q0j xH (xa (cv 3) (xa (xZ (v:=.ref a.q1z) (by rfl) T.xlt rfl) xb)))) (xc9 (xG xg7 (xy vf (xE (cv 3) rfl) (xE (cv 3) rfl)) (cv 1))))) (xh (xp yf)) xq)
  (xh (xp (yn xg6 (xA xF (yd (cv 3) T.q0E T.q4k (xgB T) hr.m T.xht .nil xr) xk (fun _ _=>rfl)) (cv 2)))))),?_⟩
  left;refine⟨t,rfl,.inl ⟨sg,ht,hk,fun o H1 s1 _ ho=>?_⟩⟩;obtain⟨dx,u,ho,hu⟩:=ho;left;exists⟨_,_,_,_,false,rfl,rfl,T.xlw ho,T.q4e,?_⟩;walk_at"n";walk_at"n";exists⟨o,dx,_,rfl,ho,rfl,?_⟩;refine⟨o,dx,u,sg.length,rfl,ho,?_⟩;intro t3 ka;generalize j8:upd H1 t3 _=H3;have j9:=xf.of_eq ka j8;have kb:=xn j8;clear j8;left;refine⟨t3,_,_,.int (0+sg.length),rfl,rfl,SqT.of kb,rfl,?_⟩;show Q (.bl (decide (0+(sg.length:Int)<=sg.length))) H3;rw[decide_eq_true (by lia)];exact q H3 (s1.trans j9)
def xc1(T:Txt w K mg a):xt P w K mg base CX0 7 a.q0M a.uu ["paper"] xmT:=by
 refine T.q0N.ok vW (fun vs H Q E h=>?_) (fun kd A outer s H vs Q E hr h=>?_)
 ·obtain⟨p,o,n,rs,rfl,_⟩:=h;rfl
 ·obtain⟨p,o,n,rs,rfl,⟨tt,ts,hp,ht,j9⟩,hk,q⟩:=h;have nd:=vW.nd;refine⟨_,(xc (yk PassesOwn.never rfl (xmA (by rfl) T.q2U (xa (xA xF (cv 0) xk (fun _ _=>rfl)) xb)) (xbd rfl (yt (xP (i:=1) nd rfl (aG rfl)) (yt (xP (i:=2) nd rfl (aG rfl)) jJ))) (xh (xC (uy (xW (xu (xdp T) hr.m (by rfl) T.xea T.q0U.kp T.xd9 .nil xr (xa (cv 2) (xa (xA xF (cv 0) xk (fun _ _=>rfl)) (xa (xA xF (cv 0) xk (fun _ _=>rfl)) xb)))))) (xh (xp (cv 1))) xq)))
  (xh (xp yW))),?_⟩
  left;exists⟨p,_,_,.ref tt,rfl,rfl,SqT.of hp,rfl,?_⟩;exists⟨tt,rfl,⟨_,SqT.of ht⟩,?_⟩;refine xim (xs:=ts.map V.ref) (fun i σ H1=>xf H H1/\∃x1 x2,σ=[some (.ref p),x1,x2]) ⟨xf.refl _,_,_,rfl⟩ (fun i σ H1 hi hP=>hP.1.seqT (SqT.of ht)) (fun i x σ H1 T0 hx hP kc=>?_) (fun σ H1 hP=>?_)
  ·obtain⟨s1,x1,x2,rfl⟩:=hP;rw[az]at hx;obtain⟨t0,ka,rfl⟩:=aE.mp hx;obtain⟨sg,kb,pr⟩:=Paired.nth j9 ka;obtain⟨k1,k2⟩:=hk.ok sg (aw kb);refine jW (upd H1 T0 _) rfl kc fun H2 s2 eT=>?_;have j8:=s1.trans s2;left;exists⟨T0,_,rfl,SqT.of eT,rfl,?_⟩;exists⟨_,_,rfl,?_⟩;exists⟨_,_,rfl,?_⟩;exists bf rfl ?_;exists⟨p,_,_,.int o,rfl,rfl,SqT.of (j8.at hp),rfl,?_⟩;exists⟨p,_,_,.int n,rfl,rfl,SqT.of (j8.at hp),rfl,?_⟩;refine⟨t0,sg,o,by rw[k2];rfl,pr.same j8,k1,fun H3 s3=>?_⟩;left;walk_at"N";exact⟨j8.trans s3,_,_,rfl⟩
  ·obtain⟨s1,x1,x2,rfl⟩:=hP;left;exact q H1 s1
def InD(kvs:List (Key×V))(j:Nat):Prop:=∀c:Int,(yO kvs (.inl c)).isSome=decide (0<=c/\c<(j:Int))
def InD.nil:InD [] 0:=fun c=>by
 rw[xmh,decide_eq_false (by lia)];rfl
def InD.put{kvs:List (Key×V)}{j:Nat}(h:InD kvs j)(v:V):InD (putK kvs (.inl (j:Int)) v) (j+1):=by
 intro x;rw[xmi]
 by_cases e:x=(j:Int)
 ·subst e;rw[if_pos rfl,decide_eq_true (by lia)];rfl
 ·rw[if_neg (fun z=>e (by cases z;rfl)),h x]
  congr 1
  exact propext (by lia)
def xee(kvs:List (Key×V))(k:Key)(v:V):(putK kvs k v).length<=kvs.length+1:=by
 unfold putK
 split
 ·rw[ag];lia
 ·rw[aZ];simp
structure Dct(H:Hp)(d:Addr)(G:Hp)(j:Nat):Prop where
 s:xf H G
 d:∃kvs,G d=some (.dK kvs)/\InD kvs j/\kvs.length<=j
def Dct.same{j:Nat}(h:Dct H d G j)(s:xf G G'):Dct H d G' j:=by
 obtain⟨kvs,h1,h2,h3⟩:=h.d;exact⟨h.s.trans s,kvs,s.at h1,h2,h3⟩
def xft{ts:List α}{rs:List β}{x:α}{F:α->β->Prop}(h:Paired F ts rs)(h1:rs.length<=1)(hx:ts[i]? =some x):i=0/\rs.length=1:=by
 have:=(aR.mp hx).1;rw[h.length]at this;lia
def xef(T:Txt w K mg a):xt P w K mg base CX0 2 a.q02 a.vt ["rows"] (xhR a):=by
 refine T.q06.ok xas (fun vs H Q E h=>?_) (fun kj A outer s H vs Q E hr h=>?_)
 ·obtain⟨l,o,n,rs,rfl,_⟩:=h;rfl
 ·obtain⟨l,o,n,rs,rfl,⟨ts,hl,hp⟩,hk,q⟩:=h;have nd:=xas.nd;refine⟨_,(xc (xv (i:=1) nd rfl (aG rfl) xbB)
  (xc (yk PassesOwn.never rfl (xhl (by rfl) T.q2U (xa (cv 0) xb)) (xbd rfl (yt (xP (i:=2) nd rfl (aG rfl)) (yt (xP (i:=3) nd rfl (aG rfl)) jJ))) (xh (yk PassesOwn.never rfl (ya (yd (cv 3) T.q0E T.q1I (uj T) hr.m T.uD .nil xr)) (xP (i:=4) nd rfl (aG rfl)) (xc (xC (xjV (xo7 (xeq hr) (cv 4) (cv 1)) (by rfl)) zc xq)
  (xh (xe3 (xeq hr) (cv 1) (cv 4) yf rfl))))))
  (xh (xp yW)))),?_⟩
  left;exists fun d kc=>jW (upd H d _) rfl kc fun H1 ka ed=>?_;have kg:Dct H d H1 0:=⟨ka,[],ed,InD.nil,bu _⟩;exists⟨l,rfl,⟨_,ka.seq (SqL.of hl)⟩,?_⟩;refine xdz (xs:=ts.map V.ref) (fun i σ G=>xf H G/\(i=0->Dct H d G 0)/\∃x2 x3 x4,σ=[some (.ref l),some (.ref d),x2,x3,x4]) ⟨ka,fun _=>kg,_,_,_,rfl⟩ (fun i σ G hi hP=>hP.1.seq (SqL.of hl)) (fun i x σ G T0 hx hP kh=>?_) (fun σ G hP=>?_)
  ·obtain⟨_,hd,x2,x3,x4,rfl⟩:=hP;rw[az]at hx;obtain⟨o,ho,rfl⟩:=aE.mp hx;obtain⟨rfl,_⟩:=xft hp hk.one ho;obtain⟨sg,hr,ke⟩:=Paired.nth hp ho;have hd:=hd rfl;obtain⟨k1,_⟩:=hk.ok sg (aw hr);exists jW (upd G T0 _) rfl kh fun G2 s2 eT=>?_;exists⟨T0,_,rfl,SqT.of eT,rfl,?_⟩;exists⟨_,_,rfl,?_⟩;exists⟨_,_,rfl,?_⟩;exists bf rfl ?_;obtain⟨dx,u,h1,h2⟩:=ke.same (hd.s.trans s2);have hf:=k1.few;exists⟨o,dx,_,rfl,h1,rfl,?_⟩;refine⟨o,dx,u,sg.length,rfl,h1,by lia,fun L G3 s3 hL eL=>?_⟩;left;exists⟨L,rfl,⟨_,SqL.of eL⟩,?_⟩;have kf:=(hd.same s2).same s3;refine yc (xs:=(zI 0 sg.length).map V.int) (fun j σ G4=>Dct H d G4 j/\G4 L=some (.lst ((zI 0 sg.length).map V.int))/\∃x4,σ=[some (.ref l),some (.ref d),some (.int 0),some (.ref o),x4])
    ⟨kf,eL,_,rfl⟩ (fun j σ G4 hj hQ=>SqL.of hQ.2.1) (fun j x σ G4 hx hQ=>?_) (fun σ G4 hQ=>?_)
   ·obtain⟨⟨s4,kb,j9,j8,ki⟩,kd,x4,rfl⟩:=hQ;rw[az]at hx;obtain⟨c,hc,rfl⟩:=aE.mp hx;obtain⟨rfl,hj⟩:=xav hc;left;exists⟨d,_,rfl,xct.k (k:=cu (j:Int)) j9,?_⟩;rw[j8,decide_eq_false (by lia)];walk_at"n";refine⟨d,_,rfl,xdS.k (k:=cu (j:Int)) j9 (by rw[ar];lia),?_⟩;have:=xee kb (cu (j:Int)) (.bl true);refine⟨⟨xf.wr s4 kc rfl,_,xl,j8.put _,by lia⟩,?_,_,rfl⟩;rw[xm (zt kd j9 (fun z=>by cases z))];exact kd
   ·obtain⟨j9,_,x4,rfl⟩:=hQ;exact⟨j9.s,(fun z=>by cases z),_,_,_,rfl⟩
  ·obtain⟨s1,_,x2,x3,x4,rfl⟩:=hP;left;exact q G s1
theorem xkr(T:Txt w K mg a):xt P w K mg base CX0 2 a.q25 a.xcJ ["rows","new"] (xkq a):=by
 refine T.q29.ok xeN (fun vs H Q E h=>?_) (fun km A outer s H vs Q E hr h=>?_)
 ·obtain⟨l,o,n,rs,rfl,_⟩:=h;rfl
 ·obtain⟨l,o,n,rs,rfl,⟨ts,hl,hp⟩,hk,q⟩:=h;have nd:=xeN.nd;refine⟨_,(xc (xv (i:=2) nd rfl (aG rfl) xbB)
  (xc (yk PassesOwn.never rfl (ya (cv 0)) (xP (i:=3) nd rfl (aG rfl)) (xh (yk PassesOwn.never rfl (ya (yd (cv 3) T.q0E T.q1I (uj T) hr.m T.uD .nil xr)) (xP (i:=4) nd rfl (aG rfl)) (xh (xe3 (xeq hr) (cv 2) (cv 4) yf rfl)))))
  (xc (yk PassesOwn.never rfl (xfY (by rfl) T.q4S (xa (cv 1) xb)) (xP (i:=4) nd rfl (aG rfl)) (xh (xC (xjV (xkW (xeq hr) (cv 4) (cv 2)) (by rfl)) (xh (xp (yA (xa xj (xa (cv 4) xb))))) xq)))
  (xh (xp yW))))),?_⟩
  left;exists fun d ke=>jW (upd H d _) rfl ke fun H1 kc ed=>?_;exists⟨l,rfl,⟨_,kc.seq (SqL.of hl)⟩,?_⟩;refine yc (xs:=ts.map V.ref) (fun i σ G=>Dct H d G (if i=0 then 0 else n.toNat)/\∃x3 x4,σ=[some (.ref l),some (.int n),some (.ref d),x3,x4]) ⟨⟨kc,[],ed,InD.nil,bu _⟩,_,_,rfl⟩ (fun i σ G hi hP=>hP.1.s.seq (SqL.of hl)) (fun i x σ G hx hP=>?_) (fun σ G hP=>?_)
  ·obtain⟨hd,x3,x4,rfl⟩:=hP;rw[az]at hx;obtain⟨o,ho,rfl⟩:=aE.mp hx;obtain⟨rfl,_⟩:=xft hp hk.one ho;obtain⟨sg,hr,kg⟩:=Paired.nth hp ho;obtain⟨k1,k2⟩:=hk.ok sg (aw hr);have hf:=k1.few;obtain⟨dx,u,h1,h2⟩:=kg.same hd.s;left;exists⟨o,dx,_,rfl,h1,rfl,?_⟩;refine⟨o,dx,u,sg.length,rfl,h1,by lia,fun L G3 s3 hL eL=>?_⟩;left;exists⟨L,rfl,⟨_,SqL.of eL⟩,?_⟩;have ki:=hd.same s3;refine yc (xs:=(zI 0 sg.length).map V.int) (fun j σ G4=>Dct H d G4 j/\G4 L=some (.lst ((zI 0 sg.length).map V.int))/\∃x4,σ=[some (.ref l),some (.int n),some (.ref d),some (.ref o),x4])
    ⟨ki,eL,_,rfl⟩ (fun j σ G4 hj hQ=>SqL.of hQ.2.1) (fun j x σ G4 hx hQ=>?_) (fun σ G4 hQ=>?_)
   ·obtain⟨⟨s4,ka,j9,kb,kj⟩,kf,x4,rfl⟩:=hQ;rw[az]at hx;obtain⟨c,hc,rfl⟩:=aE.mp hx;obtain⟨rfl,hj⟩:=xav hc;left;refine⟨d,_,rfl,xdS.k (k:=cu (j:Int)) j9 (by rw[ar];lia),?_⟩;have:=xee ka (cu (j:Int)) (.bl true);refine⟨⟨xf.wr s4 ke rfl,_,xl,kb.put _,by lia⟩,?_,_,rfl⟩;rw[xm (zt kf j9 (fun z=>by cases z))];exact kf
   ·obtain⟨j9,_,x4,rfl⟩:=hQ;rw[ag,vT]at j9;have e:n.toNat=sg.length:=by lia
    exact⟨by rw[if_neg (by lia),e];exact j9,_,_,rfl⟩
  ·obtain⟨⟨s1,kvs,hd,kd,_⟩,x3,x4,rfl⟩:=hP;rw[ag,hp.length]at kd;have n0:=hk.n0;left;have en:uq 0 n 1=n.toNat:=by rw[xdW];lia
   rw[en];refine xk4 (fun i σ G2=>G2=G/\(1<=i->rs.length≠0)/\∃x4,σ=[some (.ref l),some (.int n),some (.ref d),x3,x4]) ⟨rfl,(fun z=>by lia),_,rfl⟩ (fun i σ G2 hi hQ=>?_) (fun σ G2 hQ=>?_)
   ·obtain⟨rfl,hz,x4,rfl⟩:=hQ;have ei:(0+(i:Int)*1)=(i:Int):=by lia
    rw[ei];left;exists⟨d,_,rfl,xct.k (k:=cu (i:Int)) hd,?_⟩;rw[kd]
    by_cases j8:rs.length=0
    ·have kh:i=0:=by
      by_cases z:1<=i
      ·exact absurd j8 (hz z)
      ·lia
     subst kh;rw[if_pos j8,decide_eq_false (by lia)];walk_at"Y";have hb:yE n rs=true:=by
      unfold yE;rw[List.isEmpty_iff_length_eq_zero.mpr j8,decide_eq_true (by lia)];rfl
     rw[hb]at q;right;intro t ht;exact q t _ (s1.trans (xf.new ht)) xl
    ·rw[if_neg j8,decide_eq_true (by lia)];walk_at"N";exact⟨rfl,fun _=>j8,_,rfl⟩
   ·obtain⟨rfl,hz,x4,rfl⟩:=hQ;have hb:yE n rs=false:=by
     unfold yE
     by_cases z:1<=n.toNat
     ·have:=hz z;cases rs with
      |nil=>exact absurd rfl this
      |cons x r=>rfl
     ·rw[decide_eq_false (by lia),fE]
    rw[hb]at q;left;exact q G2 s1
def xhS(T:Txt w K mg a):xt P w K mg base CX0 3 a.q2d a.xa7 ["rows"] (xhR a):=by
 refine T.q2j.ok xcX (fun vs H Q E h=>?_) (fun kr A outer s H vs Q E hr h=>?_)
 ·obtain⟨l,o,n,rs,rfl,_⟩:=h;rfl
 ·obtain⟨l,o,n,rs,rfl,⟨ts,hl,hp⟩,hk,q⟩:=h;have nd:=xcX.nd;refine⟨_,(xc (xv (i:=1) nd rfl (aG rfl) xbB)
  (xc (yk PassesOwn.never rfl (xhl (by rfl) T.q2U (xa (cv 0) xb)) (xbd rfl (yt (xP (i:=2) nd rfl (aG rfl)) (yt (xP (i:=3) nd rfl (aG rfl)) jJ))) (xc (yk PassesOwn.never rfl (ya (yd (cv 3) T.q0E T.q4B (xhN T) hr.m T.xiq .nil xr)) (xP (i:=4) nd rfl (aG rfl)) zc)
  (xh (yk PassesOwn.never rfl (ya (yd (cv 3) T.q0E T.q4m (xgD T) hr.m T.xhu .nil xr)) (xP (i:=4) nd rfl (aG rfl)) (xh (xe3 (xeq hr) (cv 1) (cv 4) yf rfl))))))
  (xh (xp yW)))),?_⟩
  left;exists fun d kd=>jW (upd H d _) rfl kd fun H1 j9 ed=>?_;have ki:Dct H d H1 0:=⟨j9,[],ed,InD.nil,bu _⟩;exists⟨l,rfl,⟨_,j9.seq (SqL.of hl)⟩,?_⟩;refine xdz (xs:=ts.map V.ref) (fun i σ G=>xf H G/\(i=0->Dct H d G 0)/\∃x2 x3 x4,σ=[some (.ref l),some (.ref d),x2,x3,x4]) ⟨j9,fun _=>ki,_,_,_,rfl⟩ (fun i σ G hi hP=>hP.1.seq (SqL.of hl)) (fun i x σ G T0 hx hP kj=>?_) (fun σ G hP=>?_)
  ·obtain⟨_,hd,x2,x3,x4,rfl⟩:=hP;rw[az]at hx;obtain⟨o,ho,rfl⟩:=aE.mp hx;obtain⟨rfl,_⟩:=xft hp hk.one ho;obtain⟨sg,hr,kg⟩:=Paired.nth hp ho;have hd:=hd rfl;obtain⟨k1,_⟩:=hk.ok sg (aw hr);exists jW (upd G T0 _) rfl kj fun G2 s2 eT=>?_;exists⟨T0,_,rfl,SqT.of eT,rfl,?_⟩;exists⟨_,_,rfl,?_⟩;exists⟨_,_,rfl,?_⟩;exists bf rfl ?_;obtain⟨dx,u,h1,h2⟩:=kg.same (hd.s.trans s2);have hf:=k1.few;exists⟨o,dx,_,rfl,h1,rfl,?_⟩;exists⟨o,dx,u,_,rfl,h1,fun L0 km kc ko kf=>?_⟩;exists⟨L0,rfl,⟨_,SqL.of kf⟩,?_⟩;refine yc (xs:=([]:List Int).map V.int) (fun j σ G4=>G4=km/\σ=[some (.ref l),some (.ref d),some (.int 0),some (.ref o),x4])
    ⟨rfl,rfl⟩ (fun j σ G4 hj hQ=>by rw[hQ.1];exact SqL.of kf) (fun j x σ G4 hx hQ=>by simp at hx) (fun σ G4 hQ=>?_)
   obtain⟨rfl,rfl⟩:=hQ;have h1:=kc.at h1;left;exists⟨o,dx,_,rfl,h1,rfl,?_⟩;refine⟨o,dx,u,sg.length,rfl,h1,by lia,fun L G3 s3 hL eL=>?_⟩;left;exists⟨L,rfl,⟨_,SqL.of eL⟩,?_⟩;have kh:=((hd.same s2).same kc).same s3;refine yc (xs:=(zI 0 sg.length).map V.int) (fun j σ G4=>Dct H d G4 j/\G4 L=some (.lst ((zI 0 sg.length).map V.int))/\∃x4,σ=[some (.ref l),some (.ref d),some (.int 0),some (.ref o),x4])
    ⟨kh,eL,_,rfl⟩ (fun j σ G4 hj hQ=>SqL.of hQ.2.1) (fun j x σ G4 hx hQ=>?_) (fun σ G4 hQ=>?_)
   ·obtain⟨⟨s4,ka,j8,kb,kn⟩,ke,x4,rfl⟩:=hQ;rw[az]at hx;obtain⟨c,hc,rfl⟩:=aE.mp hx;obtain⟨rfl,hj⟩:=xav hc;left;refine⟨d,_,rfl,xdS.k (k:=cu (j:Int)) j8 (by rw[ar];lia),?_⟩;have:=xee ka (cu (j:Int)) (.bl true);refine⟨⟨xf.wr s4 kd rfl,_,xl,kb.put _,by lia⟩,?_,_,rfl⟩;rw[xm (zt ke j8 (fun z=>by cases z))];exact ke
   ·obtain⟨j8,_,x4,rfl⟩:=hQ;exact⟨j8.s,(fun z=>by cases z),_,_,_,rfl⟩
  ·obtain⟨s1,_,x2,x3,x4,rfl⟩:=hP;left;exact q G s1
theorem xhT(T:Txt w K mg a):xt P w K mg base CX0 8 a.q3Z a.xfj ["paper"] xmU:=by
 refine T.q3G.ok xhJ (fun vs H Q E h=>?_) (fun km A outer s H vs Q E hr h=>?_)
 ·obtain⟨p,o,n,rs,rfl,_⟩:=h;rfl
 ·obtain⟨p,o,n,rs,rfl,hP,hk,q⟩:=h;have nd:=xhJ.nd;refine⟨_,(xc (xC (uy (xW (xu (xeS T) hr.m (by rfl) T.xfn T.q1g.kp T.xfm .nil xr (xa (cv 0) xb)))) zc xq)
  (xc (xv (i:=1) nd rfl (aG rfl) (xu (xc1 T) hr.m (by rfl) T.xdo T.q0N.kp T.xdn .nil xr (xa (cv 0) xb)))
  (xc (xC (xdc (cv 1)) zc xq)
  (xc (xbE (i:=2) (zB (cap:=[]) (ys:=[]) rfl rfl rfl rfl rfl trivial (by decide+kernel)) rfl nd rfl rfl (xcm (xA xF (cv 0) xk (fun _ _=>rfl))) (fun _ _ _ _=>(xu (zY T) hr.m (by rfl) T.uY T.q1f.kp T.uX .nil yB (xa (cv 0) xb))) (fun _ _ _ _=>zm))
  (xc (xv (i:=3) nd rfl (aG rfl) (xu (xef T) hr.m (by rfl) T.xeK T.q06.kp T.xeJ .nil xr (xa (cv 2) xb)))
  (xc (zA (xC (jS (cv 3)) (xh (xv (i:=3) nd rfl (aG rfl) (xu (xkr T) hr.m (by rfl) T.xlq T.q29.kp T.xlp .nil xr (xa (cv 2) (xa (xA xF (cv 0) xk (fun _ _=>rfl)) xb))))) xq))
  (xc (zA (xC (jS (cv 3)) (xh (xv (i:=3) nd rfl (aG rfl) (xu (xhS T) hr.m (by rfl) T.xiz T.q2j.kp T.xiy .nil xr (xa (cv 2) xb)))) xq))
  (xh (xp (cv 3)))))))))),?_⟩
  left;exists⟨p,o,n,rs,rfl,hP,hk,?_⟩;walk_at"n";exists⟨p,o,n,rs,rfl,hP,hk,fun H1 s1=>?_⟩;walk_at"N";obtain⟨tt,ts,hp,ht,ka⟩:=hP.same s1;left;exists⟨p,_,_,.ref tt,rfl,rfl,SqT.of hp,rfl,?_⟩;refine⟨tt,rfl,⟨_,SqT.of ht⟩,?_⟩;refine xaJ (fun i acc G=>∃(os:List Addr),acc=os.map V.ref/\Paired (jr a G) os (rs.take i)) (SqT.of ht) (by rw[ag,ka.length,ar];have:=hk.one;lia) ⟨[],rfl,.nil⟩ (fun i x acc H3 H3' hx s3 j8 hP R hR=>?_) (fun D acc H3 H3' hD ki s3 j8 hP kh he=>?_)
  ·obtain⟨os,rfl,j9⟩:=hP;rw[az]at hx;obtain⟨t0,ke,rfl⟩:=aE.mp hx;obtain⟨sg,kc,pr⟩:=Paired.nth ka ke;left;refine⟨t0,rfl,.inl ⟨sg,pr.same (s3.trans j8),(hk.ok sg (aw kc)).1,fun o H6' s6 kj kg=>hR _ _ s6 fun H6 sx kx=>⟨os++[o],by simp,?_⟩⟩⟩;rw[bj,kc];obtain⟨dx,u,g1,g2⟩:=kg;exact xbb (L2.Paired.imp' (fun _ _ z=>z.same sx) j9) ⟨dx,u,kx _ _ (.inr fun ys z=>by cases z) g1,kx _ _ (.inr fun ys z=>by cases z) g2⟩
  obtain⟨os,rfl,j9⟩:=hP;rw[ag,ka.length,bo]at j9;have hO:xfs a H3' D rs:=⟨os,he,L2.Paired.imp' (fun _ _ (z:jr a H3 _ _)=>z.same j8) j9⟩;have sA:xf H H3':=s1.trans (s3.trans j8);have kf:=(s3.trans j8).at hp;clear kh ki s3 j8 j9 ka ht hp;left;exists⟨D,o,n,rs,rfl,hO,hk,fun H4 s4=>?_⟩;refine⟨fun σ' G=>(yE n rs=false/\σ'=[some (.ref p),some .non,some (.ref D),some .non]/\xf H3' G)\/∃t,σ'=[some (.ref p),some .non,some (.ref D),some (.ref t)]/\Q (.ref t) G,?_,?_⟩
  ·left;walk_at"y";exists⟨p,_,_,.int n,rfl,rfl,SqT.of (s4.at kf),rfl,?_⟩;refine⟨D,o,n,rs,rfl,hO.same s4,hk,?_⟩;cases kb:yE n rs with
   |false=>intro H5 s5;exact .inl ⟨rfl,rfl,s4.trans s5⟩
   |true=>rw[kb]at q;intro t H5 s5 et;exact .inr ⟨t,rfl,q t H5 (sA.trans (s4.trans s5)) et⟩
  rintro σ' G (⟨kb,rfl,sG⟩|⟨t,rfl,qt⟩)
  ·rw[kb]at q;left;refine⟨fun σ' G2=>σ'=[some (.ref p),some .non,some (.ref D),some .non]/\xf H G2,?_,?_⟩
   ·left;walk_at"y";exact⟨D,o,n,rs,rfl,hO.same sG,hk,fun H5 s5=>⟨rfl,sA.trans (sG.trans s5)⟩⟩
   rintro σ' G2 ⟨rfl,kd⟩;left;exact q G2 kd
  ·left;refine⟨fun σ' G2=>∃v,σ'=[some (.ref p),some .non,some (.ref D),some v]/\Q v G2,?_,?_⟩
   ·left;walk_at"N";exact⟨_,rfl,qt⟩
   rintro σ' G2 ⟨v,rfl,qv⟩;left;exact qv
abbrev xaw:Expr:=xpk ((xM yv).getD 3 (.Pass ⟨0,0,0,0⟩))
def xjp:xbF ["count","answer","last"] ["count"] ["answer","last"] (xdX xaw):=by walk_at"d"
abbrev xq4(H:Hp)(f t:Addr)(last:Int):Prop:=uA H f "<lambda>" "fall_behind.<locals>.<lambda>" (xi9 xaw) (.expr (xja xaw)) (xdX xaw) [("answer",.ref t),("last",.int last)]
def xog:List (Str×V)->Sp:=fun fv vs H Q _=>∃(t:Addr) (last n:Int),fv=([("answer",.ref t),("last",.int last)]:List (Str×V))/\vs=[.int n]/\(n=last->Q (.ref t) H)/\(n≠last->Q .non H)
def Kp(S:List Addr)(H H':Hp):Prop:=∀b u,H b=some u->b∉S->H' b=some u
def Kp.of(s:xf H H'):Kp S H H':=fun b u e _=>s b u e
def Kp.trans{H2:Hp}(h:Kp S H H1)(g:Kp S H1 H2):Kp S H H2:=fun b u e n=>g b u (h b u e n) n
def Kp.mono{S':List Addr}(h:Kp S H H1)(m:∀x∈S,x∈S'):Kp S' H H1:=fun b u e n=>h b u e fun z=>n (m b z)
def Kp.wr{o:HO}(h:Kp S H H1)(m:p∈S):Kp S H (upd H1 p o):=fun b u e n=>by
 rw[xm (fun z=>n (by rw[z];exact m))];exact h b u e n
def Kp.mk{o:HO}(h:Kp S H H1)(m:H p=none):Kp S H (upd H1 p o):=fun b u e n=>by
 rw[xm (xD e m)];exact h b u e n
def Kp.same{H2:Hp}(h:Kp S H H1)(s:xf H1 H2):Kp S H H2:=h.trans (.of s)
def ux:HO->Prop
 | .ins _ _ _=>True
 | .lst _=>True
 |_=>False
def uA.kp{nm qual:Str}{params:c4}{body:eZ}{scope:Scope}{fv:List (Str×V)}(h:uA H f nm qual params body scope fv)(mu:∀x∈S,∃u,H x=some u/\ux u)(k:Kp S H H'):uA H' f nm qual params body scope fv:=by
 have e:∀b u,H b=some u->¬ux u->H' b=some u:=fun b u q n=>k b u q fun z=>by
  obtain⟨u',q',m⟩:=mu b z;rw[q]at q';cases q';exact n m
 obtain⟨clos,c,o,u,u',vs,t,doc,pm,j8,h1,h2,h3,h4,h5,h6,h7,h8⟩:=h;exact⟨clos,c,o,u,u',vs,t,doc,pm,j8,e _ _ h1 (fun z=>z),e _ _ h2 (fun z=>z),h3,h4,h5,h6,fun x v m=>let⟨a,q1,q2⟩:=h7 x v m;⟨a,q1,e _ _ q2 (fun z=>z)⟩,fun x a q=>let⟨v,q2⟩:=h8 x a q;⟨v,e _ _ q2 (fun z=>z)⟩⟩
def xbt(h:H t=some (.tup xs))(mu:∀x∈S,∃u,H x=some u/\ux u)(k:Kp S H H'):H' t=some (.tup xs):=k t _ h fun z=>by
 obtain⟨u,e,m⟩:=mu t z;rw[h]at e;cases e;exact m
def zL(H:Hp)(fl:V):Option Int->Prop
 |none=>fl= .non
 |some last=>∃f t,fl= .ref f/\xq4 H f t last/\H t=some (.tup [])
theorem zL.kp{oc:Option Int}(h:zL H fl oc)(mu:∀x∈S,∃u,H x=some u/\ux u)(k:Kp S H H'):zL H' fl oc:=by
 cases oc with
 |none=>exact h
 |some c=>obtain⟨f,t,h1,h2,h3⟩:=h;exact⟨f,t,h1,uA.kp h2 mu k,xbt h3 mu k⟩
abbrev xeg(n:Int)(fl:V):List (Str×V):=[("asked",.int n),("fall",fl)]
def xiL(a:Adr):Sp:=fun vs H Q _=>∃(p dp:Addr) (fl:V),vs=[.ref p,fl]/\H p=some (.ins a.q0K dp [])/\Q .non (upd H p (.ins a.q0K dp (xeg 0 fl)))
def xgF(a:Adr):Sp:=fun vs H Q _=>∃(p dp:Addr) (n m:Int) (fl:V) (oc:Option Int),vs=[.ref p,.int n]/\H p=some (.ins a.q0K dp (xeg m fl))/\zL H fl oc/\(oc≠some n->Q .non H)/\(oc=some n->∀t,H t=some (.tup [])->Q (.ref t) H)
def xhU(a:Adr):Sp:=fun vs H Q E=>∃(p dp l g:Addr) (i:Nat) (n:Int) (val fl:V) (xs:List V) (oc:Option Int),vs=[.ref p,.ref l,.int i,val,.ref g]/\H p=some (.ins a.q0K dp (xeg n fl))/\zL H fl oc/\H l=some (.lst xs)/\i<xs.length/\
 (oc≠some n->∀H',Kp [p,l] H H'->H' p=some (.ins a.q0K dp (xeg (n+1) fl))->H' l=some (.lst (xs.set i val))->Q .non H')/\
 (oc=some n->∀d H',Kp [p,l] H H'->H' p=some (.ins a.q0K dp (xeg (n+1) fl))->H' l=some (.lst xs)->H d=none->H' d=some (.xd [("count",.int n)])->E (.ref a.q0a) (some d) H')
structure SA where
 st:Addr
 dx:Addr
 ca:Addr
 na:Addr
 p:Addr
 dp:Addr
def nV:Option Int->V
 |none=>.non
 |some i=>.int i
abbrev SS(S:SA):List Addr:=[S.ca,S.na,S.p]
abbrev stF(S:SA):List (Str×V):=[("cells",.ref S.ca),("notes",.ref S.na),("pen",.ref S.p)]
structure xV(a:Adr)(H:Hp)(S:SA)(cells:List Int)(notes:List (Option Int))(n:Int)(fl:V):Prop where
 st:H S.st=some (.ins a.q0h S.dx (stF S))
 ca:H S.ca=some (.lst (cells.map V.int))
 na:H S.na=some (.lst (notes.map nV))
 p:H S.p=some (.ins a.q0K S.dp (xeg n fl))
 ne:S.ca≠S.na
 np:S.p≠S.st
def xV.mu{S:SA}(h:xV a H S cells notes n fl):∀x∈SS S,∃u,H x=some u/\ux u:=by
 intro x hx;simp only[ah,aW,or_false]at hx;rcases hx with rfl|rfl|rfl
 ·exact⟨_,h.ca,trivial⟩
 ·exact⟨_,h.na,trivial⟩
 ·exact⟨_,h.p,trivial⟩
def xV.kp0{S:SA}{L:List Addr}(h:xV a H S cells notes n fl)(k:Kp L H H')(d:∀x∈L,x≠S.st/\x≠S.ca/\x≠S.na/\x≠S.p):xV a H' S cells notes n fl:=
 ⟨k _ _ h.st (fun z=>(d _ z).1 rfl),k _ _ h.ca (fun z=>(d _ z).2.1 rfl),k _ _ h.na (fun z=>(d _ z).2.2.1 rfl),k _ _ h.p (fun z=>(d _ z).2.2.2 rfl),h.ne,h.np⟩
def xV.same{S:SA}(h:xV a H S cells notes n fl)(s:xf H H'):xV a H' S cells notes n fl:=
 h.kp0 (L:=[]) (Kp.of s) (fun _ z=>nomatch z)
def xV.nst{S:SA}(h:xV a H S cells notes n fl):S.st∉SS S:=by
 simp only[ah,aW,or_false];rintro(z|z|z)
 ·have:=h.st;rw[z,h.ca]at this;cases this
 ·have:=h.st;rw[z,h.na]at this;cases this
 ·exact h.np z.symm
def xV.npc{S:SA}(h:xV a H S cells notes n fl):S.p≠S.ca:=zt h.p h.ca (by intro z;cases z)
def xV.npn{S:SA}(h:xV a H S cells notes n fl):S.p≠S.na:=zt h.p h.na (by intro z;cases z)
def xeh(a:Adr)(H:Hp)(S:SA)(cells:List Int)(notes:List (Option Int))(n:Int)(fl:V)(q:Hp->Prop):Prop:=∀H',Kp (SS S) H H'->xV a H' S cells notes n fl->q H'
def xc2(a:Adr)(H:Hp)(S:SA)(cells:List Int)(notes:List (Option Int))(n:Int)(fl:V)(c:Int)(E:XK):Prop:=∀d H',Kp (SS S) H H'->xV a H' S cells notes n fl->H d=none->H' d=some (.xd [("count",.int c)])->E (.ref a.q0a) (some d) H'
def xgG(K:ay)(a:Adr):Sp:=fun vs H Q _=>∃(st dx l:Addr) (cells:List Int) (fl:V),vs=[.ref st,.ref l,fl]/\H st=some (.ins a.q0h dx [])/\H l=some (.lst (cells.map V.int))/\
 ∀(S:SA) (H':Hp),S.st=st->Kp [st] H H'->xV a H' S cells [some 0,some 0] 0 fl->H S.ca=none->H S.na=none->H S.p=none->Q .non H'
abbrev Tbs(H:Hp):Prop:=H yw=some (.tbl uh)/\H ye=some (.tbl yZ)/\H zy=some (.tbl vS)/\H yx=some (.tbl ui)
def xeT{q:List (Pos×Str)}(h:H t=some (.tbl q))(mu:∀x∈S,∃u,H x=some u/\ux u)(k:Kp S H H'):H' t=some (.tbl q):=k t _ h fun z=>by
 obtain⟨u,e,m⟩:=mu t z;rw[h]at e;cases e;exact m
def Tbs.kp(h:Tbs H)(mu:∀x∈S,∃u,H x=some u/\ux u)(k:Kp S H H'):Tbs H':=⟨xeT h.1 mu k,xeT h.2.1 mu k,xeT h.2.2.1 mu k,xeT h.2.2.2 mu k⟩
def Tbs.same(h:Tbs H)(s:xf H H'):Tbs H':=⟨s.at h.1,s.at h.2.1,s.at h.2.2.1,s.at h.2.2.2⟩
def xdq(a:Adr):Sp:=fun vs H Q _=>∃(S:SA) (cells:List Int) (notes:List (Option Int)) (n:Int) (i:Nat) (fl:V),vs=[.ref S.st,.int i]/\xV a H S cells notes n fl/\i<cells.length/\Q .non H
def xmV(a:Adr):Sp:=fun vs H Q E=>∃(S:SA) (cells:List Int) (notes:List (Option Int)) (n:Int) (i:Nat) (s:Int) (fl:V) (oc:Option Int),vs=[.ref S.st,.int i,.int s]/\xV a H S cells notes n fl/\zL H fl oc/\Tbs H/\i<cells.length/\
 (oc≠some n->xeh a H S (cells.set i s) notes (n+1) fl (Q .non))/\(oc=some n->xc2 a H S cells notes (n+1) fl n E)
def xhV(a:Adr):Sp:=fun vs H Q E=>∃(S:SA) (cells:List Int) (notes:List (Option Int)) (n:Int) (i:Nat) (m:Int) (fl:V) (oc:Option Int),vs=[.ref S.st,.int i,.int m]/\xV a H S cells notes n fl/\zL H fl oc/\Tbs H/\i<notes.length/\
 (oc≠some n->xeh a H S cells (notes.set i (some m)) (n+1) fl (Q .non))/\(oc=some n->xc2 a H S cells notes (n+1) fl n E)
def xoh(a:Adr):Sp:=fun vs H Q E=>∃(S:SA) (cells:List Int) (notes:List (Option Int)) (n:Int) (fl:V) (oc:Option Int),vs=[.ref S.st,.int 1]/\xV a H S cells notes n fl/\zL H fl oc/\Tbs H/\notes.length=2/\
 (oc≠some n->xeh a H S cells (notes.set 1 (some 1)) (n+1) fl (Q .non))/\(oc=some n->xc2 a H S cells notes (n+1) fl n E)
def xmW(a:Adr):Sp:=fun vs H Q E=>∃(S:SA) (cells:List Int) (notes:List (Option Int)) (n:Int) (fl:V),vs=[.ref S.st]/\xV a H S cells notes n fl/\zL H fl none/\Tbs H/\notes.length=2/\
 xeh a H S cells [some 0,some 0] (n+1+1) fl (Q .non)
def xks(a:Adr):Sp:=fun vs H Q _=>∃(S:SA) (cells:List Int) (notes:List (Option Int)) (n:Int) (fl j8:V),vs=[.ref S.st,j8]/\xV a H S cells notes n fl/\xeh a H S cells notes n j8 (Q .non)
def xoi(a:Adr):Sp:=fun vs H Q _=>∃(S:SA) (cells:List Int) (notes:List (Option Int)) (n:Int) (fl:V),vs=[.ref S.st]/\xV a H S cells notes n fl/\∀t c m H',xf H H'->H c=none->H m=none->c≠m->H' t=some (.tup [.ref c,.ref m,.int n])->H' c=some (.lst (cells.map V.int))->H' m=some (.lst (notes.map nV))->Q (.ref t) H'
def xlM(a:Adr):Sp:=fun vs H Q _=>∃(S:SA) (cells:List Int) (n:Int) (fl:V),vs=[.ref S.st]/\xV a H S cells [some 0,some 0] n fl/\∀H',xf H H'->Q (.int 0) H'
def xfu(K:ay):Sp:=fun vs H Q _=>∃(asked:Int) (l:Addr) (ns:List Int),vs=[.int asked,.ref l]/\H l=some (.lst (ns.map V.int))/\Tbs H/\ns.length<=1/\∀(fl:V) (H':Hp),xf H H'->zL H' fl (ns.head?.map (asked+·))->Q fl H'
def xfv(T:Txt w K mg a):xt P w K mg base CX0 1 a.q07 a.ji ["self","count"] (xdZ a.q0a "count"):=by
 refine T.q1T.ok xbk (fun vs H Q E h=>?_) (fun j8 A outer s H vs Q E hr h=>?_)
 ·obtain⟨p,v,rfl,_⟩:=h;rfl
 ·obtain⟨p,v,rfl,hp,k⟩:=h;have nd:=xbk.nd;exists⟨_,(xh (xjb (cv 0) (cv 1) rfl)),?_⟩;refine⟨p,_,_,rfl,hp,T.q4g,T.q3I,fun d h1 h2=>?_⟩;exact k d h1 h2
def xfw(T:Txt w K mg a):xt P w K mg base CX0 1 a.q08 a.jj ["self","fault"] (xdZ a.q0c "fault"):=by
 refine T.q1U.ok xbl (fun vs H Q E h=>?_) (fun j8 A outer s H vs Q E hr h=>?_)
 ·obtain⟨p,v,rfl,_⟩:=h;rfl
 ·obtain⟨p,v,rfl,hp,k⟩:=h;have nd:=xbl.nd;exists⟨_,(xh (xjb (cv 0) (cv 1) rfl)),?_⟩;refine⟨p,_,_,rfl,hp,T.q4h,T.q3K,fun d h1 h2=>?_⟩;exact k d h1 h2
def xc3(T:Txt w K mg a):xew P w K mg base CX0 1 "<lambda>" "fall_behind.<locals>.<lambda>" (xi9 xaw) (.expr (xja xaw)) (xdX xaw) ["count"] xog:=by
 refine xms xjp (fun fv vs H Q E h=>?_) (fun _ _ _ _ _ us hl=>match us,hl with|[_],_=>rfl) (fun A outer s H f clos j8 fv vs Q E hr h=>?_)
 ·obtain⟨t,last,n,rfl,rfl,_⟩:=h;exact⟨rfl,rfl⟩
 ·obtain⟨t,last,n,rfl,rfl,k1,k2⟩:=h;have nd:=xjp.nd;exists⟨_,(xnl (xG xgS (cv 0) (cv 2)) (cv 1) yW),?_⟩;exact⟨fun z=>k1 (of_decide_eq_true z),fun z=>k2 (of_decide_eq_false z)⟩
def xiM(T:Txt w K mg a):xt P w K mg base CX0 1 a.q14 a.xbY ["self","fall"] (xiL a):=by
 refine T.q3l.ok xdI (fun vs H Q E h=>?_) (fun j8 A outer s H vs Q E hr h=>?_)
 ·obtain⟨p,dp,fl,rfl,_⟩:=h;rfl
 ·obtain⟨p,dp,fl,rfl,hp,k⟩:=h;have nd:=xdI.nd;refine⟨_,(xc (xY (cv 0) xk rfl)
  (xh (xY (cv 0) (cv 1) rfl))),?_⟩
  left;refine⟨p,_,dp,_,rfl,hp,T.q3r,T.q2v,by walk_at"few",?_⟩;left;refine⟨p,_,dp,_,rfl,xl,T.q3r,T.q3q,by walk_at"few",?_⟩;left;rw[zl];exact k
theorem xbu(T:Txt w K mg a):xt P w K mg base CX0 2 a.q0t a.zz ["self","count"] (xgF a):=by
 refine T.q0L.ok vd (fun vs H Q E h=>?_) (fun j8 A outer s H vs Q E hr h=>?_)
 ·obtain⟨p,dp,n,m,fl,oc,rfl,_⟩:=h;rfl
 ·obtain⟨p,dp,n,m,fl,oc,rfl,hp,hf,k1,k2⟩:=h;have nd:=vd.nd;refine⟨_,(xc (xv (i:=2) nd rfl (aG rfl) (xE (cv 0) rfl))
  (xc (xC (jS (cv 2)) (xh (xp yW)) xq)
  (xh (xp (xmt 2 (xc3 T) hr.m xr (xa (cv 1) xb)))))),?_⟩
  left;refine⟨p,_,dp,_,fl,rfl,hp,T.q3r,T.q3q,rfl,?_⟩;cases oc with
  |none=>
   obtain rfl:fl= .non:=hf;left;walk_at"Y";exact k1 (fun z=>by cases z)
  |some last=>
   obtain⟨f,t,rfl,hc,ht⟩:=hf;left;walk_at"n";exists⟨f,_,rfl,hc,?_⟩;exact⟨hc,t,last,n,rfl,rfl,fun z=>k2 (by rw[z]) t ht,fun z=>k1 (fun e=>z (aQ e).symm)⟩
theorem jA(T:Txt w K mg a):xt P w K mg base (CXE P w) 3 a.q0F a.uU ["self","kept","at","value","torn"] (xhU a):=by
 refine T.q1h.okX jx (fun vs H Q E h=>?_) (fun kc A outer s H vs Q E hr h=>?_)
 ·obtain⟨p,dp,l,g,i,n,val,fl,xs,oc,rfl,_⟩:=h;rfl
 ·obtain⟨p,dp,l,g,i,n,val,fl,xs,oc,rfl,hp,hf,hl,hi,k1,k2⟩:=h;have nd:=jx.nd;refine⟨_,(xc (xv (i:=5) nd rfl (aG rfl) (xE (cv 0) rfl))
  (xc (xY (cv 0) (xy vf (cv 5) xk) rfl)
  (xc (xv (i:=6) nd rfl (aG rfl) (xS (cv 0) T.q3r T.q2w (xbu T) hr.m T.xb2 .nil xr (xa (cv 5) xb)))
  (xc (xC (jS (cv 6)) (xc (xkJ (cv 3) (xoO (cv 1) (cv 2) set_list))
  (xh xnu)) xq)
  (xc (zA (xC (xG xgS (xw xJ (by rfl) T.q1l yl (xa (cv 6) xb)) xk) zc xq))
  (xh (xf4 (k:=1) ⟨rfl,rfl,rfl⟩ rfl T.q4g (xfv T) hr.m T.xgp (by rfl) T.xec (xa (cv 5) xb)))))))),?_⟩
  have ka:l≠p:=zt hl hp (by intro z;cases z);have mu:∀x∈[p,l],∃u,H x=some u/\ux u:=by
   intro x hx;rcases ah.mp hx with rfl|hx
   ·exact⟨_,hp,trivial⟩
   ·rw[ao.mp hx];exact⟨_,hl,trivial⟩
  left;exists⟨p,_,dp,_,.int n,rfl,hp,T.q3r,T.q2v,rfl,?_⟩;refine⟨p,_,dp,_,rfl,hp,T.q3r,T.q2v,by walk_at"few",?_⟩;generalize hU:upd H p _=H1;have c1:Kp [p,l] H H1:=by rw[<-hU];exact(Kp.of (xf.refl _)).wr (by simp)
  have j8:H1 p=some (.ins a.q0K dp (xeg (n+1) fl)):=by rw[<-hU,xl];rfl
  have j9:H1 l=some (.lst xs):=by rw[<-hU,xm ka];exact hl
  clear hU;left;exists⟨p,dp,_,rfl,j8,rfl,?_⟩;refine⟨p,dp,n,_,fl,oc,rfl,j8,hf.kp mu c1,fun hw=>?_,fun hw t ht=>?_⟩
  ·left;walk_at"y";refine⟨l,xs,i,i,rfl,rfl,j9,xpl (Int.natCast_nonneg _) (by lia),?_⟩;exact k1 hw _ (c1.wr (by simp)) (by rw[xm (aL ka)];exact j8) xl
  ·left;walk_at"n";refine⟨fun σ' H'=>σ'=[some (.ref p),some (.ref l),some (.int i),some val,some (.ref g),some (.int n),some (.ref t)]/\H'=H1,?_,?_⟩
   ·left;exists⟨t,_,rfl,.inr (SqT.of ht),?_⟩;exact⟨by walk_at"no",fun _=>⟨rfl,rfl⟩⟩
   ·rintro σ' H' ⟨rfl,rfl⟩;left;refine⟨.int n,rfl,fun d hd=>?_⟩;have kb:H d=none:=by
     cases z:H d with
     |none=>rfl
     |some u=>
      by_cases hm:d∈[p,l]
      ·rcases ah.mp hm with e|e
       ·rw[e,j8]at hd;cases hd
       ·rw[ao.mp e,j9]at hd;cases hd
      ·rw[c1 d u z hm]at hd;cases hd
    exact k2 hw d _ (c1.mk kb) (by rw[xm (xD j8 hd)];exact j8) (by rw[xm (xD j9 hd)];exact j9) kb xl
def xgH(T:Txt w K mg a):xt P w K mg base CX0 3 a.q03 a.vw ["self","cells","fall"] (xgG K a):=by
 refine T.zW.ok xce (fun vs H Q E h=>?_) (fun ki A outer s H vs Q E hr h=>?_)
 ·obtain⟨st,dx,l,cells,fl,rfl,_⟩:=h;rfl
 ·obtain⟨st,dx,l,cells,fl,rfl,kb,hl,k⟩:=h;have nd:=xce.nd;refine⟨_,(xc (xY (cv 0) (xU jN (by rfl) T.q4R xdb (xa (cv 1) xb)) rfl)
  (xc (xY (cv 0) (xK (xa xk (xa xk xb))) rfl)
  (xh (xY (cv 0) (xe1 T.q5W (xiM T) hr.m (by rfl) T.xqx T.xkg .nil xr (xa (cv 2) xb)) rfl)))),?_⟩
  left;refine⟨l,_,rfl,.inl (SqL.of hl),?_⟩;intro ca ka;left;refine⟨st,_,dx,_,rfl,by rw[xm (xD kb ka)];exact kb,T.q0l,T.q1G,by walk_at"few",?_⟩;generalize j9:upd (upd H ca _) st _=H1;have k1:Kp [st] H H1:=by rw[<-j9];exact((Kp.of (xf.refl _)).mk ka).wr (by simp)
  have f1:H1 st=some (.ins a.q0h dx [("cells",.ref ca)]):=by rw[<-j9,xl];rfl
  have g1:H1 ca=some (.lst (cells.map V.int)):=by rw[<-j9,xm (aL (xD kb ka)),xl]
  have b1:∀b,H1 b=none->H b=none/\b≠st/\b≠ca:=fun b hb=>by
   have n1:b≠st:=fun z=>by rw[z,f1]at hb;cases hb
   have n2:b≠ca:=fun z=>by rw[z,g1]at hb;cases hb
   rw[<-j9,xm n1,xm n2]at hb;exact⟨hb,n1,n2⟩
  clear j9;right;intro na kf;obtain⟨ke,kd,kc⟩:=b1 na kf;left;refine⟨st,_,dx,_,rfl,by rw[xm (xD f1 kf)];exact f1,T.q0l,T.q1H,by walk_at"few",?_⟩;generalize j8:upd (upd H1 na _) st _=H2;have k2:Kp [st] H H2:=by rw[<-j8];exact(k1.mk ke).wr (by simp)
  have f2:H2 st=some (.ins a.q0h dx [("cells",.ref ca),("notes",.ref na)]):=by rw[<-j8,xl];rfl
  have g2:H2 ca=some (.lst (cells.map V.int)):=by rw[<-j8,xm (zt g1 f1 (by intro z;cases z)),xm (aL kc)];exact g1
  have m2:H2 na=some (.lst ([some 0,some 0].map nV)):=by rw[<-j8,xm kd,xl];rfl
  have b2:∀b,H2 b=none->H b=none/\b≠st/\b≠ca/\b≠na:=fun b hb=>by
   have n1:b≠st:=fun z=>by rw[z,f2]at hb;cases hb
   have n3:b≠na:=fun z=>by rw[z,m2]at hb;cases hb
   rw[<-j8,xm n1,xm n3]at hb;exact⟨(b1 b hb).1,n1,(b1 b hb).2.2,n3⟩
  clear j8 b1;left;intro p dp hp kg kh;obtain⟨p0,p1,p2,p3⟩:=b2 p hp;obtain⟨q0,q1,q2,q3⟩:=b2 dp kg;refine⟨p,dp,fl,rfl,xl,?_⟩;exists⟨rfl,?_⟩;rw[zl];have e3:∀b,b≠p->b≠dp->∀o o',upd (upd H2 dp o) p o' b=H2 b:=fun b n1 n2 o o'=>by rw[xm n1,xm n2]
  refine⟨st,_,dx,_,rfl,by rw[e3 _ (aL p1) (aL q1)];exact f2,T.q0l,T.q1Q,by walk_at"few",?_⟩;refine k ⟨st,dx,ca,na,p,dp⟩ _ rfl (((k2.mk q0).mk p0).wr (by simp)) ⟨?_,?_,?_,?_,aL kc,p1⟩ ka ke p0
  ·rw[xl];rfl
  ·rw[xm (zt g2 f2 (by intro z;cases z)),e3 _ (aL p2) (aL q2)];exact g2
  ·rw[xm kd,e3 _ (aL p3) (aL q3)];exact m2
  ·rw[xm p1,xl]
def xaE(T:Txt w K mg a):xt P w K mg base CX0 1 a.q0o a.zg ["self","at"] (xdq a):=by
 refine T.q0C.ok um (fun vs H Q E h=>?_) (fun j8 A outer s H vs Q E hr h=>?_)
 ·obtain⟨S,cells,notes,n,i,fl,rfl,_⟩:=h;rfl
 ·obtain⟨S,cells,notes,n,i,fl,rfl,hS,hi,k⟩:=h;have nd:=um.nd;refine⟨_,(xh (xC (PW.pt (zi (xG xdT (cv 1) xk) (zM (xG xjL (cv 1) (xw xJ (by rfl) T.q1l yl (xa (xE (cv 0) rfl) xb)))))) (xh xe6) xq)),?_⟩;left;rw[decide_eq_false (show¬(i:Int)<0 by omega)];walk_at"n";exists⟨S.st,_,S.dx,_,.ref S.ca,rfl,hS.st,T.q0l,T.q1G,rfl,?_⟩;refine⟨S.ca,_,rfl,.inl (SqL.of hS.ca),?_⟩;rw[ag];left;rw[decide_eq_false (show¬((cells.length:Int)<=i)by omega)];exact⟨by walk_at"no",fun _=>k⟩
def xfx(T:Txt w K mg a):xt P w K mg base (CXE P w) 4 a.q0Q a.uB ["self","at","sign"] (xmV a):=by
 refine T.uE.okXC T.xfo xbn (fun vs H Q E h=>?_) (fun A outer s H vs Q E hr h=>?_)
 ·obtain⟨S,cells,notes,n,i,s,fl,oc,rfl,_⟩:=h;rfl
 ·obtain⟨S,cells,notes,n,i,sg,fl,oc,rfl,hS,hf,hP,hi,k1,k2⟩:=h;have nd:=xbn.nd;refine⟨_,(xc (xN (xS (cv 0) T.q0l T.q1S (xaE T) hr.m T.xba .nil xr (xa (cv 1) xb)))
  (xh (xN (yK ⟨rfl,rfl,rfl⟩ (xE (cv 0) rfl) T.q3r T.q2m (jA T) hr.m T.xan .nil (xa (xE (cv 0) rfl) (xa (cv 1) (xa (cv 2) (xa (xaI (c:=q0I) (P:=yw) (qs:=uh) (fns:=[]) rfl T.q32 (q:="Store.write.<locals>.<lambda>") (by kernel_rfl) (.head _) (by kernel_rfl) (by kernel_rfl)) xb)))))))),?_⟩
  left;exists⟨S.st,S.dx,_,rfl,hS.st,rfl,?_⟩;exists⟨S,cells,notes,n,i,fl,rfl,hS,hi,?_⟩;exists⟨S.st,_,S.dx,_,.ref S.p,rfl,hS.st,T.q0l,T.q1Q,rfl,?_⟩;exists⟨S.p,S.dp,_,rfl,hS.p,rfl,?_⟩;exists⟨S.st,_,S.dx,_,.ref S.ca,rfl,hS.st,T.q0l,T.q1G,rfl,?_⟩;exists⟨hP.1,[],rfl,(fun x v m=>nomatch m),fun g H1 hg s1 hc=>?_⟩;have c1:Kp (SS S) H H1:=Kp.of s1;have j8:=hS.same s1;refine⟨S.p,S.dp,S.ca,g,i,n,.int sg,fl,_,oc,rfl,j8.p,hf.kp hS.mu c1,j8.ca,by rw[ag];exact hi,fun hw H2 q1 q2 q3=>?_,fun hw d H2 q1 q2 q3 q4 q5=>?_⟩
  ·have q:Kp (SS S) H H2:=c1.trans (q1.mono (by simp));refine k1 hw H2 q ⟨q _ _ hS.st hS.nst,by rw[q3,List.map_set],q1 _ _ j8.na (by simp[aL hS.npn,aL hS.ne]),q2,hS.ne,hS.np⟩
  ·have q:Kp (SS S) H H2:=c1.trans (q1.mono (by simp));refine k2 hw d H2 q ⟨q _ _ hS.st hS.nst,q3,q1 _ _ j8.na (by simp[aL hS.npn,aL hS.ne]),q2,hS.ne,hS.np⟩ (s1.back q4) q5
def zZ(T:Txt w K mg a):xt P w K mg base (CXE P w) 4 a.q0x a.zj ["self","at","number"] (xhV a):=by
 refine T.zk.okXC T.xcN vX (fun vs H Q E h=>?_) (fun A outer s H vs Q E hr h=>?_)
 ·obtain⟨S,cells,notes,n,i,m,fl,oc,rfl,_⟩:=h;rfl
 ·obtain⟨S,cells,notes,n,i,m,fl,oc,rfl,hS,hf,hP,hi,k1,k2⟩:=h;have nd:=vX.nd;refine⟨_,(xh (xN (yK ⟨rfl,rfl,rfl⟩ (xE (cv 0) rfl) T.q3r T.q2m (jA T) hr.m T.xan .nil (xa (xE (cv 0) rfl) (xa (cv 1) (xa (cv 2) (xa (xaI (c:=q0q) (P:=ye) (qs:=yZ) (fns:=[]) rfl T.q3b (q:="Store.note_down.<locals>.<lambda>") (by kernel_rfl) (.head _) (by kernel_rfl) (by kernel_rfl)) xb))))))),?_⟩;left;exists⟨S.st,_,S.dx,_,.ref S.p,rfl,hS.st,T.q0l,T.q1Q,rfl,?_⟩;exists⟨S.p,S.dp,_,rfl,hS.p,rfl,?_⟩;exists⟨S.st,_,S.dx,_,.ref S.na,rfl,hS.st,T.q0l,T.q1H,rfl,?_⟩;exists⟨hP.2.1,[],rfl,(fun x v m=>nomatch m),fun g H1 hg s1 hc=>?_⟩;have c1:Kp (SS S) H H1:=Kp.of s1;have j8:=hS.same s1;refine⟨S.p,S.dp,S.na,g,i,n,.int m,fl,_,oc,rfl,j8.p,hf.kp hS.mu c1,j8.na,by rw[ag];exact hi,fun hw H2 q1 q2 q3=>?_,fun hw d H2 q1 q2 q3 q4 q5=>?_⟩
  ·have q:Kp (SS S) H H2:=c1.trans (q1.mono (by simp));refine k1 hw H2 q ⟨q _ _ hS.st hS.nst,q1 _ _ j8.ca (by simp[aL hS.npc,hS.ne]),by rw[q3,List.map_set];rfl,q2,hS.ne,hS.np⟩
  ·have q:Kp (SS S) H H2:=c1.trans (q1.mono (by simp));refine k2 hw d H2 q ⟨q _ _ hS.st hS.nst,q1 _ _ j8.ca (by simp[aL hS.npc,hS.ne]),q3,q2,hS.ne,hS.np⟩ (s1.back q4) q5
def xgI(T:Txt w K mg a):xt P w K mg base (CXE P w) 5 a.q1p a.xaj ["self","number"] (xoh a):=by
 refine T.q2r.okX xcf (fun vs H Q E h=>?_) (fun j8 A outer s H vs Q E hr h=>?_)
 ·obtain⟨S,cells,notes,n,fl,oc,rfl,_⟩:=h;rfl
 ·obtain⟨S,cells,notes,n,fl,oc,rfl,hS,hf,hP,h2,k1,k2⟩:=h;have nd:=xcf.nd;exists⟨_,(xh (xN (yK ⟨rfl,rfl,rfl⟩ (cv 0) T.q0l T.q1r (zZ T) hr.m T.uv .nil (xa (xy uc (cv 1) xk) (xa (cv 1) xb))))),?_⟩;exists⟨S.st,S.dx,_,rfl,hS.st,rfl,?_⟩;walk_at"ss";exact⟨S,cells,notes,n,1,1,fl,oc,rfl,hS,hf,hP,by rw[h2];decide,k1,k2⟩
theorem xfy(T:Txt w K mg a):xt P w K mg base (CXE P w) 5 a.q1b a.jm ["self"] (xmW a):=by
 refine T.q1X.okX xbp (fun vs H Q E h=>?_) (fun ka A outer s H vs Q E hr h=>?_)
 ·obtain⟨S,cells,notes,n,fl,rfl,_⟩:=h;rfl
 ·obtain⟨S,cells,notes,n,fl,rfl,hS,hf,hP,h2,k⟩:=h;have nd:=xbp.nd;refine⟨_,(xc (xN (yK ⟨rfl,rfl,rfl⟩ (cv 0) T.q0l T.q1r (zZ T) hr.m T.uv .nil (xa xk (xa xk xb))))
  (xh (xN (yK ⟨rfl,rfl,rfl⟩ (cv 0) T.q0l T.q1r (zZ T) hr.m T.uv .nil (xa xk (xa xk xb)))))),?_⟩
  left;exists⟨S.st,S.dx,_,rfl,hS.st,rfl,?_⟩;refine⟨S,cells,notes,n,0,0,fl,none,rfl,hS,hf,hP,by rw[h2];decide,fun _ H1 q1 j9=>?_,fun z=>by cases z⟩;left;exists⟨S.st,S.dx,_,rfl,j9.st,rfl,?_⟩;refine⟨S,cells,_,n+1,1,0,fl,none,rfl,j9,hf.kp hS.mu q1,hP.kp hS.mu q1,by rw[List.length_set,h2];decide,fun _ H2 q2 j8=>?_,fun z=>by cases z⟩;refine k H2 (q1.trans q2) ?_
  match notes,h2,j8 with
  |[_,_],_,j8=>exact j8
def xax(T:Txt w K mg a):xt P w K mg base CX0 1 a.q0O a.vx ["self","fall"] (xks a):=by
 refine T.q1s.ok xat (fun vs H Q E h=>?_) (fun j9 A outer s H vs Q E hr h=>?_)
 ·obtain⟨S,cells,notes,n,fl,j8,rfl,_⟩:=h;rfl
 ·obtain⟨S,cells,notes,n,fl,j8,rfl,hS,k⟩:=h;have nd:=xat.nd;refine⟨_,(xc (xv (i:=2) nd rfl (aG rfl) (xE (cv 0) rfl))
  (xh (xY (cv 2) (cv 1) rfl))),?_⟩
  left;exists⟨S.st,_,S.dx,_,.ref S.p,rfl,hS.st,T.q0l,T.q1Q,rfl,?_⟩;refine⟨S.p,_,S.dp,_,rfl,hS.p,T.q3r,T.q3q,by walk_at"few",?_⟩;left;exact k _ ((Kp.of (xf.refl _)).wr (by simp)) ⟨by rw[xm (aL hS.np)];exact hS.st,by rw[xm (aL hS.npc)];exact hS.ca,by rw[xm (aL hS.npn)];exact hS.na,by rw[xl];rfl,hS.ne,hS.np⟩
def uF(T:Txt w K mg a):xt P w K mg base CX0 1 a.q1q a.xak ["self"] (xoi a):=by
 refine T.q2s.ok xcg (fun vs H Q E h=>?_) (fun kg A outer s H vs Q E hr h=>?_)
 ·obtain⟨S,cells,notes,n,fl,rfl,_⟩:=h;rfl
 ·obtain⟨S,cells,notes,n,fl,rfl,hS,k⟩:=h;have nd:=xcg.nd;refine⟨_,(xh (xp (yA (xa (xU jN (by rfl) T.q4R xdb (xa (xE (cv 0) rfl) xb)) (xa (xU jN (by rfl) T.q4R xdb (xa (xE (cv 0) rfl) xb)) (xa (xE (xE (cv 0) rfl) rfl) xb)))))),?_⟩;left;exists⟨S.st,_,S.dx,_,.ref S.ca,rfl,hS.st,T.q0l,T.q1G,rfl,?_⟩;refine⟨S.ca,_,rfl,.inl (SqL.of hS.ca),?_⟩;intro c hc;generalize kd:upd H c _=H1;have ka:=xf.of_eq hc kd;have ec:=xn kd;clear kd;left;have ke:=hS.same ka;exists⟨S.st,_,S.dx,_,.ref S.na,rfl,ke.st,T.q0l,T.q1H,rfl,?_⟩;refine⟨S.na,_,rfl,.inl (SqL.of ke.na),?_⟩;intro m hm;generalize kc:upd H1 m _=H2;have j9:=xf.of_eq hm kc;have em:=xn kc;clear kc;left;have kf:=ke.same j9;exists⟨S.st,_,S.dx,_,.ref S.p,rfl,kf.st,T.q0l,T.q1Q,rfl,?_⟩;exists⟨S.p,_,S.dp,_,.int n,rfl,kf.p,T.q3r,T.q2v,rfl,?_⟩;walk_at"ss";intro t ht;generalize kb:upd H2 t _=H3;have j8:=xf.of_eq ht kb;have et:=xn kb;clear kb;left;exact k t c m H3 (ka.trans (j9.trans j8)) hc (ka.back hm) (xD ec hm) et (j8.at (j9.at ec)) (j8.at em)
theorem xb4:∀notes:List (Option Int),((notes.map nV).filter fun v=> !(isN v)).map (fun v=>v)=(notes.filterMap id).map V.int
 |[]=>rfl
 |none::r=>by
  have:=xb4 r;simpa [nV,isN]using this
 |some i::r=>by
  have:=xb4 r;simpa [nV,isN]using this
def xfz(T:Txt w K mg a):xt P w K mg base CX0 1 a.q1a a.jl ["self"] (xlM a):=by
 refine T.q1W.ok xbo (fun vs H Q E h=>?_) (fun j8 A outer s H vs Q E hr h=>?_)
 ·obtain⟨S,cells,n,fl,rfl,_⟩:=h;rfl
 ·obtain⟨S,cells,n,fl,rfl,hS,k⟩:=h;have nd:=xbo.nd;refine⟨_,(xh (xp (xnS rfl (by rfl) T.q5T (xa (ud (zB (cap:=[]) (ys:=[]) rfl rfl rfl rfl rfl trivial (by decide+kernel)) rfl (ya (xE (cv 0) rfl)) (fun _ _ _ _=>(cv 0)) (fun _ _ _ _=>(xnH (xdc (cv 0))))) xb) xk))),?_⟩;left;exists⟨S.st,_,S.dx,_,.ref S.na,rfl,hS.st,T.q0l,T.q1H,rfl,?_⟩;refine⟨S.na,rfl,⟨_,SqL.of hS.na⟩,?_⟩;refine xjW (fun v=> !(isN v)) (fun v=>v) (SqL.of hS.na) (by decide) (fun x H3 hx s3 R hR=>?_) (fun x H3 hx hp s3 R hR=>?_) (fun D H' hD s' e'=>?_)
  ·exact hR H3 (xf.refl _)
  ·exact hR H3 (xf.refl _)
  ·rw[xb4]at e';refine⟨D,_,0,rfl,rfl,SqL.of e',fun m h1 h2=>?_⟩;have h3:=(h2 (by decide)).1;simp at h3;rw[h3];exact k H' s'
theorem xfA(T:Txt w K mg a):xt P w K mg base CX0 1 a.q1c a.uC ["asked","numbers"] (xfu K):=by
 refine T.zC.okC ["answer","last"] T.xfp xbs (fun vs H Q E h=>?_) (fun A outer s H vs Q E hr h=>?_)
 ·obtain⟨asked,l,ns,rfl,_⟩:=h;rfl
 ·obtain⟨asked,l,ns,rfl,hl,hT,h1,k⟩:=h;have nd:=xbs.nd;refine⟨_,(xcx (x:="answer") (i:=3) nd rfl rfl rfl (by kernel_rfl) (xcx (x:="last") (i:=2) nd rfl rfl rfl (by kernel_rfl) (xc (xC (xG xgS (xw xJ (by rfl) T.q1l yl (xa (cv 1) xb)) xk) (xh (xp yW)) xq)
  (xc (xi8 (i:=2) nd rfl rfl rfl (by kernel_rfl) (xy vf (cv 0) (xA yb (cv 1) xk (fun _ _=>rfl))))
  (xc (xi8 (i:=3) nd rfl rfl rfl (by kernel_rfl) (xU vY (by rfl) T.q3H vG (xa (yG ub (cv 1) (yS xk) zF) xb)))
  (xh (xp (xaI (c:=q0J) (P:=yx) (qs:=ui) (fns:=["answer","last"]) rfl T.q33 (q:="fall_behind.<locals>.<lambda>") (by kernel_rfl) (.head _) (by kernel_rfl) (by kernel_rfl))))))))),?_⟩
  left;intro f1 e1 z1 d1;refine bf z1 ?_;refine gnr (upd H f1 _) fun H1 kb=>?_;have s1:=xf.of_eq z1 kb;have c1:H1 f1=some (.cel none):=xn kb;left;intro f2 e2 z2 d2;have kd:f1≠f2:=d2 _ _ e1 (by decide);have y2:H1 f2=none:=by rw[<-kb,xm (aL kd)];exact z2
  clear kb;refine bf y2 ?_;refine jW (upd H1 f2 _) rfl y2 fun H2 s2 c2=>?_;have kc:=s1.trans s2;have c1:=s2.at c1;have kg:=kc.at hl;left;refine⟨l,_,rfl,.inl (SqL.of kg),?_⟩;rw[ag];left;cases ns with
  |nil=>
   walk_at"Y";exact k .non H2 kc rfl
  |cons u r=>
   obtain rfl:r=[]:=by
    cases r with
    |nil=>rfl
    |cons x r=>simp at h1
   walk_at"n";exists⟨l,_,0,.int u,rfl,rfl,SqL.of kg,rfl,?_⟩;refine⟨f2,e2,c2,?_⟩;refine gnr (upd H2 f2 _) fun H3 ka=>?_;have kf:xf H H3:=by rw[<-ka];exact kc.put z2
   have c3:H3 f2=some (.cel (some (.int (asked+u)))):=xn ka;have kh:H3 f1=some (.cel none):=by rw[<-ka,xm kd];exact c1
   clear ka;left;exists⟨1,rfl,?_⟩;refine⟨l,_,rfl,SqL.of (kf.at hl),?_⟩;exists fun p hp=>jW (upd H3 p _) rfl hp fun H4 s4 e4=>?_;refine⟨p,_,rfl,.inl ⟨SqL.of e4,?_⟩⟩;refine fun q hq=>jW (upd H4 q _) rfl hq fun H5 s5 e5=>?_;have j9:=s4.trans s5;refine⟨f1,e1,j9.at kh,?_⟩;have ki:=kf.trans j9;refine gnr (upd H5 f1 _) fun H6 j8=>?_;have ke:xf H H6:=by rw[<-j8];exact ki.put z1
   have c6:H6 f1=some (.cel (some (.ref q))):=xn j8;have km:H6 f2=some (.cel (some (.int (asked+u)))):=by rw[<-j8,xm (aL kd)];exact j9.at c3
   have kj:H6 q=some (.tup []):=by rw[<-j8,xm (zt e5 (j9.at kh) (by intro z;cases z))];exact e5
   clear j8;left;refine⟨ke.at hT.2.2.2,[("answer",.ref q),("last",.int (asked+u))],rfl,(fun x v m=>?_),fun g H7 hg s7 hc=>?_⟩
   ·simp only[ah,f7,aW,or_false]at m;rcases m with⟨rfl,rfl⟩|⟨rfl,rfl⟩
    ·exact⟨f1,e1,c6⟩
    ·exact⟨f2,e2,km⟩
   left;exact k (.ref g) H7 (ke.trans s7) ⟨g,q,rfl,hc,s7.at kj⟩
def wrt(sg cells:List Int)(i:Nat):List Int:=sg.take i++cells.drop i
def xfB(h1:i<=sg.length)(h2:sg.length<=cells.length):(wrt sg cells i).length=cells.length:=by
 unfold wrt;rw[aZ,bw,dF];lia
def xmX(sg cells:List Int):wrt sg cells 0=cells:=by simp[wrt]
def xoj{v:Int}(h:sg[i]? =some v)(h2:sg.length<=cells.length):(wrt sg cells i).set i v=wrt sg cells (i+1):=by
 have hi:=(aR.mp h).1;unfold wrt;have hl:(sg.take i).length=i:=by rw[bw];lia
 rw[List.set_append,if_neg (by lia),hl,Nat.sub_self,List.drop_eq_getElem_cons (show i<cells.length by lia),List.set_cons_zero,bj,h];simp
def xV.nin{S:SA}(h:xV a H S cells notes n fl){b:Addr}(e:H b=none):b∉SS S:=fun z=>by
 obtain⟨u,q,_⟩:=h.mu b z;rw[e]at q;cases q
def xV.noMu{S:SA}(h:xV a H S cells notes n fl){b:Addr}{u:HO}(e:H b=some u)(m:¬ux u):b∉SS S:=fun z=>by
 obtain⟨u',q',m'⟩:=h.mu b z;rw[e]at q';cases q';exact m m'
def jr.kp{S:SA}{o:Addr}(h:jr a H o sg)(hS:xV a H S cells notes n fl)(hn:o∉SS S)(k:Kp (SS S) H H'):jr a H' o sg:=by
 obtain⟨dx,u,h1,h2⟩:=h;exact⟨dx,u,k _ _ h1 hn,k _ _ h2 (hS.noMu h2 (fun z=>z))⟩
def xiN(a:Adr):Sp:=fun vs H Q E=>∃(S:SA) (o c:Addr) (sg cells:List Int) (notes:List (Option Int)) (n:Int) (fl:V) (oc:Option Int),vs=[.ref S.st,.ref o,.ref c]/\xV a H S cells notes n fl/\zL H fl oc/\Tbs H/\jr a H o sg/\o∉SS S/\H c=some (.lst ((zI 0 sg.length).map V.int))/\c∉SS S/\sg.length<=cells.length/\
 ((∀u:Nat,u<sg.length->oc≠some (n+u))->xeh a H S (wrt sg cells sg.length) notes (n+sg.length) fl (Q .non))/\(∀u:Nat,u<sg.length->oc=some (n+u)->xc2 a H S (wrt sg cells u) notes (n+u+1) fl (n+u) E)
def xc2.imp{S:SA}(k:xc2 a H S cells notes n fl c E)(h:Kp (SS S) H H1)(b:∀d,H1 d=none->H d=none):xc2 a H1 S cells notes n fl c E:=
 fun d H' q1 q2 q3 q4=>k d H' (h.trans q1) q2 (b d q3) q4
theorem xjq{S:SA}{j9:List Int}{j8:List (Option Int)}{n':Int}{kb:V}(h:Kp (SS S) H H1)(ka:xV a H1 S j9 j8 n' kb):∀d,H1 d=none->H d=none:=fun d hd=>by
 cases z:H d with
 |none=>rfl
 |some u=>
  by_cases hm:d∈SS S
  ·obtain⟨u',e,_⟩:=ka.mu d hm;rw[e]at hd;cases hd
  ·rw[h d u z hm]at hd;cases hd
def xiO(T:Txt w K mg a):xt P w K mg base (CXE P w) 5 a.q13 a.jG ["store","row","cells"] (xiN a):=by
 refine T.vz.okXK ["store"] T.xix xdH (fun vs H Q E h=>?_) (fun A outer s H vs Q E hr h=>?_)
 ·obtain⟨S,o,c,sg,cells,notes,n,fl,oc,rfl,_⟩:=h;rfl
 ·obtain⟨S,o,c,sg,cells,notes,n,fl,oc,rfl,hS,hf,hT,hO,kc,hc,kd,hlen,k1,k2⟩:=h;have nd:=xdH.nd;refine⟨_,(xcx (x:="store") (i:=0) nd rfl rfl rfl (by kernel_rfl) (xh (yk (PassesOwn.xe ⟨rfl,rfl,rfl⟩) rfl (ya (cv 2)) (xP (i:=3) nd rfl (aG rfl)) (xh (xN (yK ⟨rfl,rfl,rfl⟩ (cv 0) T.q0l T.q4d (xfx T) hr.m T.xgr .nil (xa (cv 3) (xa (xS (cv 1) T.q0E T.q3V (xeR T) hr.m T.xfl .nil xr (xa (cv 3) (xa (xaI (c:=q1k) (P:=zy) (qs:=vS) (fns:=["store"]) rfl T.q4L (q:="do_piece.<locals>.<lambda>") (by kernel_rfl) (.head _) (by kernel_rfl) (by kernel_rfl)) xb))) xb)))))))),?_⟩;left;intro a1 e1 z1 d1;refine bf z1 ?_;refine jW (upd H a1 _) rfl z1 fun H1 s1 c1=>?_;have ka:=hS.same s1;left;refine⟨c,rfl,⟨_,SqL.of (s1.at hc)⟩,?_⟩;refine yc (xs:=(zI 0 sg.length).map V.int) (fun i σ G=>Kp (SS S) H1 G/\xV a G S (wrt sg cells i) notes (n+i) fl/\(∀u:Nat,u<i->oc≠some (n+u))/\∃(x3:Option V),σ=[some (.ref S.st),some (.ref o),some (.ref c),x3])
   ⟨Kp.of (xf.refl _),by rw[xmX];simpa using ka,(fun u hu=>absurd hu (Nat.not_lt_zero _)),_,rfl⟩ (fun i σ G hi hP=>SqL.of (hP.1 _ _ (s1.at hc) kd)) (fun i x σ G hx hP=>?_) (fun σ G hP=>?_)
  ·obtain⟨kp,j8,j9,x3,rfl⟩:=hP;rw[az]at hx;obtain⟨d,hd,rfl⟩:=aE.mp hx;obtain⟨rfl,hi⟩:=xav hd;obtain⟨v,hv⟩:∃v,sg[i]? =some v:=⟨_,bG hi⟩;obtain⟨dx,u,q1,q2⟩:=(hO.same s1).kp ka kc kp;have ke:G a1=some (.cel (some (.ref S.st))):=kp _ _ c1 (ka.noMu c1 (fun z=>z));have kb:=(hT.same s1).kp ka.mu kp;have k0:Kp (SS S) H G:=(Kp.of s1).trans kp;left;exists⟨S.st,S.dx,_,rfl,j8.st,rfl,?_⟩;exists⟨o,dx,_,rfl,q1,rfl,?_⟩;refine⟨kb.2.2.1,[("store",.ref S.st)],rfl,fun x v m=>?_,fun f G5 kf s5 kg=>?_⟩
   ·simp only[ah,f7,aW,or_false]at m;obtain⟨rfl,rfl⟩:=m;exact⟨a1,e1,ke⟩
   left;exists⟨o,dx,u,_,_,i,v,sg,rfl,s5.at q1,s5.at q2,hv,?_⟩;have hl:=xfB (d8 hi) hlen;have k5:Kp (SS S) H G5:=k0.same s5;refine⟨S,_,notes,n+i,i,v,fl,oc,rfl,j8.same s5,(hf.kp hS.mu k5),kb.same s5,by rw[hl];omega,fun hw G6 k6 h6=>?_,fun hw=>?_⟩
   ·rw[xoj hv hlen]at h6;refine⟨(kp.same s5).trans k6,by rw[show n+((i+1:Nat):Int)=n+i+1 by omega];exact h6,fun u hu=>?_,_,rfl⟩
    by_cases e:u=i
    ·rw[e];exact hw
    ·exact j9 u (by omega)
   ·exact(k2 i hi hw).imp k5 (xjq k5 (j8.same s5))
  ·obtain⟨kp,j8,j9,x3,rfl⟩:=hP;rw[ag,vT]at j8 j9;left;exact k1 j9 G ((Kp.of s1).trans kp) j8
def xlN(a:Adr):Sp:=fun vs H Q _=>∃(o cl:Addr) (sg cs:List Int),vs=[.ref o,.ref cl]/\jr a H o sg/\H cl=some (.lst (cs.map V.int))/\cs.length<=300/\xkl H Q cs
def xei(T:Txt w K mg a):xt P w K mg base CX0 1 a.q01 a.vq ["row","cells"] (xlN a):=by
 refine T.q05.ok xar (fun vs H Q E h=>?_) (fun ke A outer s H vs Q E hr h=>?_)
 ·obtain⟨o,cl,sg,cs,rfl,_⟩:=h;rfl
 ·obtain⟨o,cl,sg,cs,rfl,ho,kc,hn,q⟩:=h;have nd:=xar.nd;refine⟨_,(xc (xv (i:=2) nd rfl (aG rfl) (xK xb))
  (xc (yk PassesOwn.never rfl (ya (cv 1)) (xP (i:=3) nd rfl (aG rfl)) (xc (zA (xC (xW (xw zv (by rfl) T.q0j xH (xa (cv 0) (xa (xZ (v:=.ref a.q1z) (by rfl) T.xlt rfl) xb)))) zc xq))
  (xh (xN (zh PySem.F.plainAttrs_list PySem.F.slot_list_append PySem.F.type_list_append zq (cv 2) (xa (cv 3) xb))))))
  (xh (xp (cv 2))))),?_⟩
  right;intro pl ka;generalize j9:upd H pl _=H1;have kb:=xf.of_eq ka j9;have kd:=xn j9;clear j9;left;refine⟨cl,rfl,⟨_,SqL.of (kb.at kc)⟩,?_⟩;refine yc (xs:=cs.map V.int) (fun i σ G=>xf H G/\∃(x3:Option V),σ=[some (.ref o),some (.ref cl),some (.ref pl),x3]/\G pl=some (.lst ((cs.take i).map V.int)))
   ⟨kb,_,rfl,kd⟩ (fun i σ G hi hP=>SqL.of (hP.1.at kc)) (fun i x σ G hx hP=>?_) (fun σ G hP=>?_)
  ·obtain⟨sG,x3,rfl,j8⟩:=hP;rw[az]at hx;obtain⟨d,hd,rfl⟩:=aE.mp hx;obtain⟨dx,u,h1,h2⟩:=ho.same sG;have hi:i<cs.length:=(aR.mp hd).1;left;refine⟨fun σ' G'=>G'=G/\σ'=[some (.ref o),some (.ref cl),some (.ref pl),some (.int d)],?_,?_⟩
   ·left;exists⟨_,_,_,_,false,rfl,rfl,T.xlw h1,T.q4e,?_⟩;walk_at"N";exact⟨rfl,rfl⟩
   ·rintro σ' G' ⟨rfl,rfl⟩;left;exists⟨.inl ⟨rfl,_,SqL.of j8⟩,?_⟩;refine⟨pl,_,_,rfl,rfl,j8,by rw[ag,bw,ar];lia,?_⟩;refine⟨sG.put ka,_,rfl,?_⟩;rw[xl,bj,hd,bt];rfl
  ·obtain⟨sG,x3,rfl,j8⟩:=hP;rw[ag,bo]at j8;left;exact q pl G sG ka j8
def xmY(H0 G:Hp)(l t:Addr)(n:Nat):Prop:=∃w c:Addr,G l=some (.lst [.ref w])/\G w=some (.tup [.ref t,.ref c])/\G c=some (.lst ((zI 0 n).map V.int))/\H0 c=none/\c≠l
def xhW:Sp:=fun vs H Q _=>∃(p tt t:Addr) (o n:V) (sg:List Int),vs=[.ref p]/\H p=some (.tup [o,n,.ref tt])/\H tt=some (.tup [.ref t])/\uw H t sg/\yy sg/\∀(l:Addr) (H':Hp),xf H H'->H l=none->xmY H H' l t sg.length->Q (.ref l) H'
theorem xhX(T:Txt w K mg a):xt P w K mg base CX0 6 a.q2b a.xa5 ["paper"] xhW:=by
 refine T.q2i.ok xcV (fun vs H Q E h=>?_) (fun ky A outer s H vs Q E hr h=>?_)
 ·obtain⟨p,tt,t,o,n,sg,rfl,_⟩:=h;rfl
 ·obtain⟨p,tt,t,o,n,sg,rfl,hp,ht,hP,hk,q⟩:=h;have nd:=xcV.nd;refine⟨_,(xc (xv (i:=1) nd rfl (aG rfl) (xK xb))
  (xc (yk PassesOwn.never rfl (xcm (xA xF (cv 0) xk (fun _ _=>rfl))) (xP (i:=2) nd rfl (g8 rfl)) (xh (xN (zh PySem.F.plainAttrs_list PySem.F.slot_list_extend PySem.F.type_list_extend xfS (cv 1) (xa (ud (zB (cap:=[2]) (ys:=["told"]) rfl rfl rfl rfl rfl ⟨⟨rfl,rfl,.inl rfl⟩,trivial⟩ (by decide+kernel)) rfl (ya (yd (xu (zY T) hr.m (by rfl) T.uY T.q1f.kp T.uX .nil yB (xa (cv 2) xb)) T.q0E T.q4l (xgC T) hr.m T.xhv .nil xr)) (fun _ _ _ _=>(yA (xa (cv 1) (xa (cv 0) xb)))) (fun _ _ _ _=>zm)) xb)))))
  (xh (xp (cv 1))))),?_⟩
  right;intro pl kd;generalize j8:upd H pl _=H1;have kb:=xf.of_eq kd j8;have ki:=xn j8;clear j8;left;exists⟨p,_,_,.ref tt,rfl,rfl,SqT.of (kb.at hp),rfl,?_⟩;exists⟨tt,rfl,⟨_,SqT.of (kb.at ht)⟩,?_⟩;refine xk5 (xs:=[.ref t]) (fun i σ G=>xf H G/\(i=0->G pl=some (.lst []))/\(i=1->xmY H G pl t sg.length)/\∃(x2:Option V),σ=[some (.ref p),some (.ref pl),x2])
   ⟨kb,fun _=>ki,(fun z=>by cases z),_,rfl⟩ (fun i σ G hi hP=>SqT.of (hP.1.at ht)) (fun i x σ G hx hP=>?_) (fun σ G hP=>?_)
  ·obtain⟨sG,hz,_,x2,rfl⟩:=hP;obtain⟨rfl,rfl⟩:i=0/\x= .ref t:=by
    cases i with
    |zero=>simp at hx;exact⟨rfl,hx.symm⟩
    |succ i=>simp at hx
   have j9:=hz rfl;left;exists⟨.inl ⟨rfl,_,SqL.of j9⟩,?_⟩;refine⟨t,rfl,.inl ⟨sg,(‹uw H t sg›).same sG,hk,fun ob G1 s1 ko hO=>?_⟩⟩;obtain⟨dx,u,g1,g2⟩:=hO;have hf:=hk.few;left;exists⟨ob,dx,_,rfl,g1,rfl,?_⟩;refine⟨ob,dx,u,sg.length,rfl,g1,by lia,fun L c G2 s2 hL hc kn eL ec=>?_⟩;left;refine⟨L,rfl,⟨_,SqL.of eL⟩,?_⟩;refine ue (xs:=[.ref c]) (fun i acc G=>(i=0->acc=[])/\(i=1->∃w,acc=[.ref w]/\G w=some (.tup [.ref t,.ref c]))) (SqL.of eL) (show 1<=ax by decide) ⟨fun _=>rfl,fun z=>by cases z⟩ (fun j x acc H3 H3' hx s3 km hP R hR=>?_) (fun D acc H9 H9' hD ku s9 kc hP kr hv=>?_)
   ·obtain⟨rfl,rfl⟩:j=0/\x= .ref c:=by
     cases j with
     |zero=>simp at hx;exact⟨rfl,hx.symm⟩
     |succ j=>simp at hx
    obtain rfl:=hP.1 rfl;right;intro w hw;exact hR _ _ (xf.new hw) fun H6 sx kx=>⟨(fun z=>by cases z),fun _=>⟨w,rfl,kx w _ (.inl hw) xl⟩⟩
   ·obtain⟨w,rfl,ew⟩:=hP.2 rfl;have sB:xf G H9':=s1.trans (s2.trans (s9.trans kc));have ka:=sB.at j9;have kj:=(s9.trans kc).at ec;have kf:=kc.at ew;left;refine⟨pl,D,_,_,rfl,rfl,ka,hv,(show 1<=ax by decide),?_⟩;have kh:H c=none:=sG.back (s1.back hc);have ke:c≠pl:=fun z=>by rw[z]at hc;rw[s1.at j9]at hc;cases hc
    refine gnr (upd H9' pl _) fun G6 hU=>?_;refine⟨xf.wr (sG.trans sB) kd hU,(fun z=>by cases z),fun _=>⟨w,c,?_,?_,?_,kh,ke⟩,_,rfl⟩
    ·rw[<-hU,xl];rfl
    ·rw[<-hU,xm (zt kf ka (by intro z;cases z))];exact kf
    ·rw[<-hU,xm ke];exact kj
  ·obtain⟨sG,_,kg,x2,rfl⟩:=hP;left;exact q pl G sG kd (kg rfl)
def xkt:Sp:=fun vs H Q _=>∃(size o n:Int) (p:Addr) (x:V),vs=[.int size,.ref p]/\H p=some (.tup [.int o,.int n,x])/\o<=size/\n<=size/\Q .non H
def xdr(T:Txt w K mg a):xt P w K mg base CX0 1 a.q0R a.uS ["size","paper"] xkt:=by
 refine T.q0T.ok jv (fun vs H Q E h=>?_) (fun j8 A outer s H vs Q E hr h=>?_)
 ·obtain⟨size,o,n,p,x,rfl,_⟩:=h;rfl
 ·obtain⟨size,o,n,p,x,rfl,hp,h1,h2,k1⟩:=h;have nd:=jv.nd;refine⟨_,(xc (xv (i:=2) nd rfl (aG rfl) (xw (xpf rfl) (by rfl) T.q5T xk1 (xa (xA xF (cv 1) xk (fun _ _=>rfl)) (xa (xA xF (cv 1) xk (fun _ _=>rfl)) xb))))
  (xh (xC (xG xdT (cv 0) (cv 2)) (xh xe6) xq))),?_⟩
  left;exists⟨p,_,_,.int o,rfl,rfl,SqT.of hp,rfl,?_⟩;exists⟨p,_,_,.int n,rfl,rfl,SqT.of hp,rfl,?_⟩;refine⟨fun e=>absurd (of_decide_eq_true e) (by show¬size<max o n;lia),fun e=>?_⟩;exact k1
def xlO:Sp:=fun vs H Q _=>∃(size:Int) (H0:Hp) (pl t:Addr) (sg:List Int),vs=[.int size,.ref pl]/\xmY H0 H pl t sg.length/\uw H t sg/\yy sg/\(sg.length:Int)<=size/\∀H',xf H H'->Q .non H'
theorem xej(T:Txt w K mg a):xt P w K mg base CX0 6 a.q00 a.vp ["size","pieces"] xlO:=by
 refine T.q04.ok xaq (fun vs H Q E h=>?_) (fun kb A outer s H vs Q E hr h=>?_)
 ·obtain⟨size,H0,pl,t,sg,rfl,_⟩:=h;rfl
 ·obtain⟨size,H0,pl,t,sg,rfl,⟨w0,c,j9,hw,hc,_⟩,hP,hk,hle,q⟩:=h;have nd:=xaq.nd;refine⟨_,(xh (yk PassesOwn.never rfl (ya (cv 1)) (xbd rfl (yt (xP (i:=2) nd rfl (aG rfl)) (yt (xP (i:=3) nd rfl (aG rfl)) jJ))) (xh (yk PassesOwn.never rfl (ya (xu (xei T) hr.m (by rfl) T.xeI T.q05.kp T.xeH .nil xr (xa (xu (zY T) hr.m (by rfl) T.uY T.q1f.kp T.uX .nil yB (xa (cv 2) xb)) (xa (cv 3) xb)))) (xP (i:=4) nd rfl (aG rfl)) (xh (xC (xG xjL (cv 4) (cv 0)) (xh xe6) xq)))))),?_⟩;left;refine⟨pl,rfl,⟨_,SqL.of j9⟩,?_⟩;refine yc (xs:=[.ref w0]) (fun i σ G=>xf H G/\∃(x2 x3 x4:Option V),σ=[some (.int size),some (.ref pl),x2,x3,x4])
   ⟨xf.refl _,_,_,_,rfl⟩ (fun i σ G hi hP=>SqL.of (hP.1.at j9)) (fun i x σ G j8 hP=>?_) (fun σ G hP=>?_)
  ·obtain⟨sG,x2,x3,x4,rfl⟩:=hP;obtain rfl:x= .ref w0:=by
    cases i with
    |zero=>simp at j8;exact j8.symm
    |succ i=>simp at j8
   left;exists⟨w0,_,rfl,SqT.of (sG.at hw),rfl,?_⟩;exists⟨_,_,rfl,?_⟩;exists⟨_,_,rfl,?_⟩;exists bf rfl ?_;refine⟨t,rfl,.inl ⟨sg,(‹uw H t sg›).same sG,hk,fun o H1 s1 ho ka=>?_⟩⟩;have hf:=hk.few;left;refine⟨o,c,sg,_,rfl,ka,s1.at (sG.at hc),by rw[vT];lia,fun l H2 s2 hl el=>?_⟩;have sA:xf H H2:=sG.trans (s1.trans s2);left;refine⟨l,rfl,⟨_,SqL.of el⟩,?_⟩;refine yc (xs:=(zI 0 sg.length).map V.int) (fun i σ G=>H2=G/\∃(x4:Option V),σ=[some (.int size),some (.ref pl),some (.ref t),some (.ref c),x4])
    ⟨rfl,_,rfl⟩ (fun i σ G hi hP=>by rw[<-hP.1];exact SqL.of el) (fun i x σ G j8 hP=>?_) (fun σ G hP=>?_)
   ·obtain⟨rfl,x4,rfl⟩:=hP;rw[az]at j8;obtain⟨p,hp,rfl⟩:=aE.mp j8;obtain⟨rfl,hi⟩:=xav hp;left;refine⟨fun e=>absurd (of_decide_eq_true e) (by show¬size<=(i:Int);lia),fun _=>?_⟩;exact⟨rfl,_,rfl⟩
   ·obtain⟨rfl,x4,rfl⟩:=hP;exact⟨sA,_,_,_,rfl⟩
  ·obtain⟨sG,x2,x3,x4,rfl⟩:=hP;exact q _ sG
def xmZ(a:Adr):Sp:=fun vs H Q E=>∃(S:SA) (p:Addr) (o:Int) (sg cells:List Int) (n:Int) (fl:V) (oc:Option Int),vs=[.ref S.st,.ref p]/\xV a H S cells [some 0,some 0] n fl/\zL H fl oc/\Tbs H/\uZ H p o sg.length [sg]/\yy sg/\o<=cells.length/\sg.length<=cells.length/\
 (oc=none->xeh a H S (wrt sg cells sg.length) [some 0,some 1] (n+sg.length+1) fl (Q (.int 1)))/\(oc=none\/∃u:Nat,u<sg.length/\oc=some (n+u)/\xc2 a H S (wrt sg cells u) [some 0,some 0] (n+u+1) fl (n+u) E)
theorem xm0(T:Txt w K mg a):xt P w K mg base (CXE P w) 7 a.q3Y a.xfi ["store","paper"] (xmZ a):=by
 refine T.q31.okX xhI (fun vs H Q E h=>?_) (fun kT A outer s H vs Q E hr h=>?_)
 ·obtain⟨S,p,o,sg,cells,n,fl,oc,rfl,_⟩:=h;rfl
 ·obtain⟨S,p,o,sg,cells,n,fl,oc,rfl,hS,hf,hT,⟨tt,ts,hp,ht,kD⟩,hk,ho,hle,k1,k2⟩:=h;have nd:=xhI.nd;obtain⟨t,rfl,hP⟩:∃t,ts=[t]/\uw H t sg:=by
   cases kD with
   |cons r q=>cases q;exact⟨_,rfl,r⟩
  have ht:H tt=some (.tup [.ref t]):=ht;refine⟨_,(xc (xv (i:=2) nd rfl (aG rfl) (xw xJ (by rfl) T.q1l yl (xa (xA xF (yd (cv 0) T.q0l T.q1Z (uF T) hr.m T.vA .nil xr) xk (fun _ _=>rfl)) xb)))
  (xc (xN (xu (xdr T) hr.m (by rfl) T.xd8 T.q0T.kp T.xd7 .nil xr (xa (cv 2) (xa (cv 1) xb))))
  (xc (xv (i:=3) nd rfl (aG rfl) (xu (xhX T) hr.m (by rfl) T.xiw T.q2i.kp T.xiv .nil xr (xa (cv 1) xb)))
  (xc (xv (i:=4) nd rfl (aG rfl) (yd (cv 0) T.q0l T.q4c (xfz T) hr.m T.xgs .nil xr))
  (xc (xv (i:=5) nd rfl (aG rfl) (yG ub (cv 3) (yS (cv 4)) zF))
  (xc (xN (xu (xej T) hr.m (by rfl) T.xeG T.q04.kp T.xeF .nil xr (xa (cv 2) (xa (cv 5) xb))))
  (xc (yk (PassesOwn.xe ⟨rfl,rfl,rfl⟩) rfl (xmC (by rfl) T.q2U (xa (cv 5) xb) (cv 4)) (xbd rfl (yt (xP (i:=6) nd rfl (aG rfl)) (yt (xP (i:=7) nd rfl (aG rfl)) jJ))) (xc (xN (vJ ⟨rfl,rfl,rfl⟩ (xiO T) hr.m (by rfl) T.xkf T.vz.kp T.xke .nil (xa (cv 0) (xa (vJ ⟨rfl,rfl,rfl⟩ (zY T) hr.m (by rfl) T.uY T.q1f.kp T.uX .nil (xa (xA xF (cv 7) xk (fun _ _=>rfl)) xb)) (xa (xA xF (cv 7) xk (fun _ _=>rfl)) xb)))))
  (xh (xN (yK ⟨rfl,rfl,rfl⟩ (cv 0) T.q0l T.q4n (xgI T) hr.m T.xhz .nil (xa (xy vf (cv 6) xk) xb))))))
  (xh (xp (xw xJ (by rfl) T.q1l yl (xa (cv 5) xb))))))))))),?_⟩
  left;exists⟨S.st,S.dx,_,rfl,hS.st,rfl,?_⟩;exists⟨S,cells,_,n,fl,rfl,hS,fun t0 c0 m0 H1 s1 kS kR kO et ec em=>?_⟩;exists⟨t0,_,_,.ref c0,rfl,rfl,SqT.of et,rfl,?_⟩;refine⟨c0,_,rfl,.inl (SqL.of ec),?_⟩;rw[ag];left;refine⟨_,o,sg.length,p,_,rfl,s1.at hp,ho,by lia,?_⟩;left;refine⟨p,tt,t,_,_,sg,rfl,s1.at hp,s1.at ht,hP.same s1,hk,fun l H2 s2 hl kH=>?_⟩;have ki:=(hS.same s1).same s2;left;exists⟨S.st,S.dx,_,rfl,ki.st,rfl,?_⟩;refine⟨S,cells,n,fl,rfl,ki,fun H3 s3=>?_⟩;obtain⟨w0,c,kF,hw,hc,ky,kP⟩:=kH;left;exists⟨0,rfl,?_⟩;refine⟨l,_,rfl,SqL.of (s3.at kF),?_⟩;intro lf kh;generalize j9:upd H3 lf _=H4;have kB:=xf.of_eq kh j9;have ka:=xn j9;clear j9;left;have ka:H4 lf=some (.lst [.ref w0]):=ka;have kb:=s3.trans kB;have km:=s2.trans kb;refine⟨_,H1,lf,t,sg,rfl,⟨w0,c,ka,kb.at hw,kb.at hc,ky,?_⟩,(hP.same s1).same km,hk,by lia,fun H5 s5=>?_⟩
  ·intro z;rw[z]at hc;rw[s3.at hc]at kh;cases kh
  have kC:=km.trans s5;have kf:=s1.trans kC;have kz:=hS.same kf;have kn:lf∉SS S:=(ki.same s3).nin kh;have ko:c∉SS S:=(hS.same s1).nin ky;left;refine⟨lf,0,rfl,rfl,by decide,⟨_,SqL.of (s5.at ka)⟩,?_⟩;refine xip (xs:=[.ref w0]) (fun i σ G=>Kp (SS S) H5 G/\(i=0->xV a G S cells [some 0,some 0] n fl)/\(i=1->oc=none/\xV a G S (wrt sg cells sg.length) [some 0,some 1] (n+sg.length+1) fl)/\∃(x6 x7:Option V),σ=[some (.ref S.st),some (.ref p),some (.int cells.length),some (.ref l),some (.int 0),some (.ref lf),x6,x7])
   ⟨Kp.of (xf.refl _),fun _=>kz,(fun z=>by cases z),_,_,rfl⟩ (fun i σ G hi hP=>SqL.of (hP.1 _ _ (s5.at ka) kn)) (fun i x σ G Tt hx hP kM=>?_) (fun σ G hP=>?_)
  ·obtain⟨kp,j8,_,x6,x7,rfl⟩:=hP;obtain⟨rfl,rfl⟩:i=0/\x= .ref w0:=by
    cases i with
    |zero=>simp at hx;exact⟨rfl,hx.symm⟩
    |succ i=>simp at hx
   have j8:=j8 rfl;have kG:∀b u,H5 b=some u->¬ux u->G b=some u:=fun b u e mm=>kp b u e (kz.noMu e mm);have kL:=kp _ _ ((kb.trans s5).at hc) ko;have ku:=kG _ _ ((kb.trans s5).at hw) (fun z=>z);have kE:uw G t sg:=by
    obtain⟨u,g1,g2⟩:=hP.same kf;exact⟨u,kG _ _ g1 (fun z=>z),kG _ _ g2 (fun z=>z)⟩
   have k0:Kp (SS S) H G:=(Kp.of kf).trans kp;exists jW (upd G Tt _) rfl kM fun G1 sT eT=>?_;exists⟨Tt,_,rfl,SqT.of eT,rfl,?_⟩;exists⟨_,_,rfl,?_⟩;exists⟨_,_,rfl,?_⟩;exists bf rfl ?_;exists⟨w0,_,_,.ref t,rfl,rfl,SqT.of (sT.at ku),rfl,?_⟩;exists⟨t,rfl,.inl ⟨sg,kE.same sT,hk,fun ob G2 kj kJ hO=>?_⟩⟩;exists⟨w0,_,_,.ref c,rfl,rfl,SqT.of (kj.at (sT.at ku)),rfl,?_⟩;have ke:=sT.trans kj;have kd:=j8.same ke;have kc:Kp (SS S) H G2:=k0.same ke;refine⟨S,ob,c,sg,cells,_,n,fl,oc,rfl,kd,hf.kp hS.mu kc,hT.kp hS.mu kc,hO,(j8.same sT).nin kJ,ke.at kL,ko,hle,fun kK G3 k3 kA=>?_,fun u hu hw=>?_⟩
   ·have kg:oc=none:=by
     rcases k2 with z|⟨u,hu,z,_⟩
     ·exact z
     ·exact absurd z (kK u hu)
    left;exists⟨S.st,S.dx,_,rfl,kA.st,rfl,?_⟩;have kr:=kc.trans k3;refine⟨S,_,_,_,fl,oc,rfl,kA,hf.kp hS.mu kr,hT.kp hS.mu kr,rfl,fun _ G4 k4 kN=>?_,fun z=>by rw[kg]at z;cases z⟩;exact⟨((kp.same ke).trans k3).trans k4,(fun z=>by cases z),fun _=>⟨kg,kN⟩,_,_,rfl⟩
   ·rcases k2 with z|⟨u',kQ,z,fe⟩
    ·rw[z]at hw;cases hw
    ·have e:u'=u:=by rw[z]at hw;have:=aQ hw;lia
     subst e;exact fe.imp kc (xjq kc kd)
  ·obtain⟨kp,_,j8,x6,x7,rfl⟩:=hP;obtain⟨kg,j8⟩:=j8 rfl;left;refine⟨lf,_,rfl,.inl (SqL.of (kp _ _ (s5.at ka) kn)),?_⟩;exact k1 kg G ((Kp.of kf).trans kp) j8
section
def xb5(t n:Int):Int:=(t*31+n+7)%1000003
def jt(ns:List Int):Int:=ns.foldl xb5 0
def xhY(t n:Int):0<=xb5 t n/\xb5 t n<1000003:=⟨Int.emod_nonneg _ (by decide),Int.emod_lt_of_pos _ (by decide)⟩
theorem xhZ:∀(ns:List Int) (t:Int),0<=t->t<1000003->0<=ns.foldl xb5 t/\ns.foldl xb5 t<1000003
 |[],_,a,b=>⟨a,b⟩
 |n::ns,t,_,_=>xhZ ns (xb5 t n) (xhY t n).1 (xhY t n).2
def xok(ns:List Int):0<=jt ns/\jt ns<1000003:=xhZ ns 0 (by decide) (by decide)
def xlP(ns:List Int)(x:Int):jt (ns++[x])=xb5 (jt ns) x:=by
 unfold jt;rw[List.foldl_append];rfl
def Sm(x:Int):Prop:=(x.natAbs:Int)<10^60
structure Ln where
 w:Str
 c:Int
 ns:List Int
def xb6:List (Str×Int):=[("paper",1),("take",2),("put",3)]
def Ln.ok(l:Ln):Prop:=(l.w,l.c)∈xb6/\l.ns≠[]/\l.ns.length<=30/\∀x∈l.ns,Sm x
def Ln.ws(l:Ln):List Str:=l.w::l.ns.map xx
def Ln.txt(l:Ln):Str:=a5 ⟨#[32]⟩ l.ws
def xay(H:Hp)(u:Addr)(l:Ln):Prop:=H u=some (.tup (.str l.w::l.ns.map V.int))
def putL(sg:List Int):Ln:=⟨"put",3,0::sg⟩
def lns(o n:Int)(rs:List (List Int)):List Ln:=⟨"paper",1,[o,n]⟩::rs.map putL
def xol(h:yy sg):(putL sg).ok:=by
 have hf:=h.few;refine⟨by simp[xb6,putL],by simp[putL],by show(0::sg).length<=30;rw[aU];lia,fun x hx=>?_⟩;rcases ah.mp hx with rfl|hx
 ·show((0:Int).natAbs:Int)<10^60;decide
 ·exact h.sm x hx
def xh0(h:POk o n rs):∀l∈lns o n rs,l.ok:=by
 intro l hl;have h1:=h.o0;have h2:=h.o3;have h3:=h.n0;have h4:=h.n3;rcases ah.mp hl with rfl|hl
 ·refine⟨by simp[xb6],by simp,by simp,fun x hx=>?_⟩;rcases ah.mp hx with rfl|hx
  ·show(x.natAbs:Int)<10^60;lia
  ·rw[ao.mp hx];show(n.natAbs:Int)<10^60;lia
 ·obtain⟨sg,hs,rfl⟩:=bA.mp hl;exact xol (h.ok sg hs).1
def xbc(ls:List Ln):List Int:=ls.flatMap fun l=>l.c::l.ns
def xh1(ls:List Ln):Str:=("sum ":Str)++xx (jt (xbc ls))
def uG(ls:List Ln):List Str:=ls.map Ln.txt++[xh1 ls]
def xgY(ls:List Ln):Str:=a5 ⟨#[10]⟩ (uG ls)
def xgb{w:Str}(h:(w,c)∈xb6){d:Nat}(hd:d<97):d∉w.cps.toList/\w.length<=5:=by
 unfold xb6 at h;simp only[ah,f7,aW,or_false]at h;rcases h with⟨rfl,_⟩|⟨rfl,_⟩|⟨rfl,_⟩
 ·refine⟨?_,by decide⟩;rw[show("paper":Str).cps.toList=[112,97,112,101,114]from rfl];simp only[ah,aW,or_false];lia
 ·refine⟨?_,by decide⟩;rw[show("take":Str).cps.toList=[116,97,107,101]from rfl];simp only[ah,aW,or_false];lia
 ·refine⟨?_,by decide⟩;rw[show("put":Str).cps.toList=[112,117,116]from rfl];simp only[ah,aW,or_false];lia
def Ln.ok.ws{l:Ln}(h:l.ok){d:Nat}(h1:d≠45)(h2:d<48):∀p∈l.ws,d∉p.cps.toList:=by
 intro p hp;rcases ah.mp hp with rfl|hp
 ·exact(xgb h.1 (by lia)).1
 ·obtain⟨n,_,rfl⟩:=bA.mp hp;exact xcD n h1 h2
def Ln.ok.wlen{l:Ln}(h:l.ok):∀p∈l.ws,p.length<=61:=by
 intro p hp;rcases ah.mp hp with rfl|hp
 ·have:=(xgb h.1 (d:=0) (by decide)).2;lia
 ·obtain⟨n,hn,rfl⟩:=bA.mp hp;exact ze (h.2.2.2 n hn)
def Ln.ok.len{l:Ln}(h:l.ok):l.txt.length<=1922:=by
 have h1:=uM (d:=32) l.ws h.wlen;have h2:l.ws.length<=31:=by
  have:=h.2.2.1;unfold Ln.ws;rw[aU,ag];lia
 have h3:l.ws.length*62<=31*62:=cf _ h2;exact aO h1 (aO h3 (by decide))
def xlQ(ns:List Int):Sm (jt ns):=by
 have:=xok ns;unfold Sm;lia
def xh2(ls:List Ln):(xh1 ls).length<=65:=by
 unfold xh1;rw[len_app];have:=ze (xlQ (xbc ls));have e:("sum ":Str).length=4:=rfl;lia
def xgc(h:∀l∈ls,l.ok):∀p∈uG ls,p.length<=1922:=by
 intro p hp;rcases bL.mp hp with hp|hp
 ·obtain⟨l,hl,rfl⟩:=bA.mp hp;exact(h l hl).len
 ·rw[ao.mp hp];have:=xh2 ls;lia
def xjr(ls:List Ln):(uG ls).length=ls.length+1:=by
 unfold uG;simp
def xgd(h:∀l∈ls,l.ok)(hn:ls.length<=2):(xgY ls).length<=5769:=by
 have h1:=uM (d:=10) (uG ls) (xgc h);rw[xjr]at h1;have h3:(ls.length+1)*1923<=3*1923:=cf _ (by lia);exact aO h1 (aO h3 (by decide))
def xku(h:∀l∈ls,l.ok)(hn:ls.length<=2):xcB ⟨#[10]⟩ (uG ls)<=5769:=by
 have h1:=xbL (d:=10) (uG ls) (xgc h);rw[xjr]at h1;have h3:(ls.length+1)*1923<=3*1923:=cf _ (by lia);exact aO h1 (aO h3 (by decide))
theorem Ln.ok.xcB{l:Ln}(h:l.ok):xcB ⟨#[32]⟩ l.ws<=1922:=by
 have h1:=xbL (d:=32) l.ws h.wlen;have h2:l.ws.length<=31:=by
  have:=h.2.2.1;unfold Ln.ws;rw[aU,ag];lia
 have h3:l.ws.length*62<=31*62:=cf _ h2;exact aO h1 (aO h3 (by decide))
def xlR(K:ay):Sp:=fun vs H Q _=>∃(l:Addr) (ns:List Int),vs=[.ref l]/\SqL K H l (ns.map V.int)/\Q (.int (jt ns)) H
def xkv:Sp:=fun vs H Q _=>∃(t:Addr) (sg:List Int),vs=[.ref t]/\uw H t sg/\yy sg/\∀u H',xf H H'->xay H' u (putL sg)->Q (.ref u) H'
def xiP:Sp:=fun vs H Q _=>∃(p:Addr) (o n:Int) (rs:List (List Int)),vs=[.ref p]/\uZ H p o n rs/\POk o n rs/\∀(l:Addr) (us:List Addr) (H':Hp),xf H H'->H l=none->H' l=some (.lst (us.map V.ref))->Paired (xay H') us (lns o n rs)->Q (.ref l) H'
def xgJ(K:ay):Sp:=fun vs H Q _=>∃(l:Addr) (us:List Addr) (ls:List Ln),vs=[.ref l]/\H l=some (.lst (us.map V.ref))/\Paired (xay H) us ls/\(∀x∈ls,x.ok)/\ls.length<=2/\xkl H Q (xbc ls)
def xgK:Sp:=fun vs H Q _=>∃(p:Addr) (o n:Int) (rs:List (List Int)),vs=[.ref p]/\uZ H p o n rs/\POk o n rs/\∀H',xf H H'->Q (.str (xgY (lns o n rs))) H'
def xlS(T:Txt w K mg a):xt P w K mg base CX0 1 a.q3u a.xd6 ["numbers"] (xlR K):=by
 refine T.q3v.ok xga (fun vs H Q E h=>?_) (fun j8 A outer s H vs Q E hr h=>?_)
 ·obtain⟨l,ns,rfl,_⟩:=h;rfl
 ·obtain⟨l,ns,rfl,hl,q⟩:=h;have nd:=xga.nd;refine⟨_,(xc (xv (i:=1) nd rfl (aG rfl) xk)
  (xc (yk PassesOwn.never rfl (ya (cv 0)) (xP (i:=2) nd rfl (aG rfl)) (xh (xv (i:=1) nd rfl (aG rfl) (xy uc (xy vf (xy vf (xy xqd (cv 1) xk) (cv 2)) xk) xk))))
  (xh (xp (cv 1))))),?_⟩
  left;exists⟨l,rfl,⟨_,hl⟩,?_⟩;refine yc (xs:=ns.map V.int) (fun i σ H1=>H1=H/\∃x,σ=[some (.ref l),some (.int (jt (ns.take i))),x]) ⟨rfl,_,rfl⟩ (fun i σ H1 hi hP=>by obtain⟨rfl,_⟩:=hP;exact hl) (fun i x σ H1 hx hP=>?_) (fun σ H1 hP=>?_)
  ·obtain⟨rfl,x0,rfl⟩:=hP;rw[az]at hx;obtain⟨n,hn,rfl⟩:=aE.mp hx;right;refine⟨rfl,some (.int n),?_⟩;rw[bj,hn];show _=[some (V.ref l),some (V.int (jt (ns.take i++[n]))),_];rw[xlP];rfl
  ·obtain⟨rfl,x0,rfl⟩:=hP;rw[ag,bo];exact q
def xm1(v:V)(xs:List V):uo (v::xs) (some 1) none=xs:=by
 unfold uo;rw[xlb (by decide),HT.xmf,aU];have e:min (i4 1) (xs.length+1)=1:=by show min 1 (xs.length+1)=1;lia
 rw[e,List.drop_succ_cons,h9,eU (by lia)]
def xay.off{u:Addr}{x:Ln}{o:HO}(h:xay H u x)(hl:H l=some (.lst xs)):xay (upd H l o) u x:=by
 unfold xay at h⊢;rw[xm (zt h hl (by intro z;cases z))];exact h
def xkw(T:Txt w K mg a):xt P w K mg base CX0 1 a.q26 a.xcK ["told"] xkv:=by
 refine T.q3c.ok xeO (fun vs H Q E h=>?_) (fun kb A outer s H vs Q E hr h=>?_)
 ·obtain⟨t,sg,rfl,_⟩:=h;rfl
 ·obtain⟨t,sg,rfl,ht,hk,q⟩:=h;have nd:=xeO.nd;refine⟨_,(xc (xC (xG zu (xA xF (cv 0) xk (fun _ _=>rfl)) xj) (xh (xp (xy xi0 (yG xkT (cv 0) zF (yS xk)) (xA xF (cv 0) xk (fun _ _=>rfl))))) xq)
  (xh (xp (cv 0)))),?_⟩
  obtain⟨u,h1,h2⟩:=ht;have hl:=hk.few;left;exists⟨t,_,_,.str "put",rfl,rfl,SqT.of h1,rfl,?_⟩;walk_at"y";exists⟨_,rfl,?_⟩;refine⟨t,_,rfl,SqT.of h1,fun z=>absurd z.2 (by show¬(2=3);decide),?_⟩;intro c hc;generalize j9:upd H c _=H1;have j8:=xf.of_eq hc j9;have ec:=xn j9;clear j9;left;exists⟨t,_,_,.ref u,rfl,rfl,SqT.of (j8.at h1),rfl,?_⟩;have ka:H1 c=some (.tup [.str "put",.int 0]):=ec;refine⟨c,u,_,_,rfl,rfl,SqT.of ka,SqT.of (j8.at h2),by simp,?_,?_⟩
  ·rw[ag,ar];simp;lia
  refine⟨fun e=>?_,fun _=>?_⟩
  ·have:sg=[]:=iL.mp e;exact q c H1 j8 (by show H1 c=some (.tup (.str "put"::(0::sg).map V.int));rw[this];exact ka)
  ·intro p hp;exact q p _ (j8.trans (xf.new hp)) xl
theorem xgL(T:Txt w K mg a):xt P w K mg base CX0 1 a.q1L a.xam ["lines"] (xgJ K):=by
 refine T.q1P.ok xci (fun vs H Q E h=>?_) (fun ko A outer s H vs Q E hr h=>?_)
 ·obtain⟨l,us,ls,rfl,_⟩:=h;rfl
 ·obtain⟨l,us,ls,rfl,hl,hp,hk,hn,q⟩:=h;have nd:=xci.nd;refine⟨_,(xc (xv (i:=1) nd rfl (aG rfl) (xK xb))
  (xc (yk PassesOwn.never rfl (ya (cv 0)) (xP (i:=2) nd rfl (aG rfl)) (xc (xN (zh PySem.F.plainAttrs_list PySem.F.slot_list_append PySem.F.type_list_append zq (cv 1) (xa (xmF (xZ (v:=.ref a.q2n) (by rfl) T.xoc rfl) (xA xF (cv 2) xk (fun _ _=>rfl)) (fun _ _=>rfl)) xb)))
  (xh (xN (zh PySem.F.plainAttrs_list PySem.F.slot_list_extend PySem.F.type_list_extend xj4 (cv 1) (xa (yG xkT (cv 2) (yS xk) zF) xb))))))
  (xh (xp (cv 1))))),?_⟩
  have ul:us.length=ls.length:=hp.length;have bd:∀k,(xbc (ls.take k)).length<=k*31:=by
   intro k
   induction k with
   |zero=>simp[xbc]
   |succ k ih=>
    rw[bj];unfold xbc at ih⊢;rw[iN,aZ];cases hx:ls[k]? with
    |none=>exact aO (show _+0<=_ from aq _) (by lia)
    |some x=>
     have:=(hk x (aw hx)).2.2.1;have e1:(List.flatMap (fun l:Ln=>l.c::l.ns) (some x).toList).length=x.ns.length+1:=by simp
     rw[e1];lia
  right;intro nl j9;generalize j8:upd H nl _=H1;have kc:=xf.of_eq j9 j8;have ki:=xn j8;clear j8;left;refine⟨l,rfl,⟨_,SqL.of (kc.at hl)⟩,?_⟩;refine yc (xs:=us.map V.ref) (fun k σ G=>xf H G/\G nl=some (.lst ((xbc (ls.take k)).map V.int))/\∃x,σ=[some (.ref l),some (.ref nl),x]) ⟨kc,ki,_,rfl⟩ (fun i σ G hi hP=>SqL.of (hP.1.at hl)) (fun k x σ G hx hP=>?_) (fun σ G hP=>?_)
  ·obtain⟨sG,eG,x0,rfl⟩:=hP;rw[az]at hx;obtain⟨u,hu,rfl⟩:=aE.mp hx;obtain⟨x,ka,kg⟩:=Paired.nth hp hu;have kf:=hk x (aw ka);have kn:k<ls.length:=(aR.mp ka).1;have e2:G u=some (.tup (.str x.w::x.ns.map V.int)):=sG.at kg;have bk:=bd k;have x7:=kf.2.2.1;left;exists bf (.inl ⟨rfl,_,SqL.of eG⟩) ?_;exists⟨u,_,_,.str x.w,rfl,rfl,SqT.of e2,ua (j:=0) rfl,?_⟩;exists⟨a.q2n,_,x.w,x.c,rfl,rfl,T.xod,kf.1,?_⟩;refine⟨nl,_,_,rfl,rfl,eG,?_,?_⟩
   ·rw[ag,ar];lia
   generalize hU:upd G nl _=G1;have ke:xf H G1:=by rw[<-hU];exact sG.put j9
   have kh:=xn hU;have km:G1 u=some (.tup (.str x.w::x.ns.map V.int)):=ke.at kg;left;exists bf (.inl ⟨rfl,_,SqL.of kh⟩) ?_;exists⟨_,rfl,?_⟩;refine⟨u,_,rfl,SqT.of km,?_,?_⟩
   ·intro z;have:=z.1;rw[xlb (by decide)]at this;simp at this
   intro c hc;generalize kb:upd G1 c _=G2;have kd:=xf.of_eq hc kb;have ec:=xn kb;clear kb;left;have kj:G2 c=some (.tup (x.ns.map V.int)):=by rw[ec,xm1]
   refine⟨nl,c,_,_,rfl,rfl,kd.at kh,SqT.of kj,?_,?_⟩
   ·rw[aZ,ag,ag,fc,ar];lia
   refine⟨(ke.trans kd).put j9,?_,_,rfl⟩;rw[xl,bj,ka];unfold xbc;rw[iN];simp
  ·obtain⟨sG,eG,x0,rfl⟩:=hP;rw[ag,ul,bo]at eG;exact q nl G sG j9 eG
def xiQ(T:Txt w K mg a):xt P w K mg base CX0 6 a.q2J a.xbZ ["paper"] xiP:=by
 refine T.q2M.ok xdJ (fun vs H Q E h=>?_) (fun ko A outer s H vs Q E hr h=>?_)
 ·obtain⟨p,o,n,rs,rfl,_⟩:=h;rfl
 ·obtain⟨p,o,n,rs,rfl,⟨t,ts,hp,ht,ke⟩,ok,q⟩:=h;have nd:=xdJ.nd;refine⟨_,(xc (xv (i:=1) nd rfl (aG rfl) (xK (xa (yA (xa xj (xa (xA xF (cv 0) xk (fun _ _=>rfl)) (xa (xA xF (cv 0) xk (fun _ _=>rfl)) xb)))) xb)))
  (xc (xN (zh PySem.F.plainAttrs_list PySem.F.slot_list_extend PySem.F.type_list_extend xfS (cv 1) (xa (ud (zB (cap:=[]) (ys:=[]) rfl rfl rfl rfl rfl trivial (by decide+kernel)) rfl (xcm (xA xF (cv 0) xk (fun _ _=>rfl))) (fun _ _ _ _=>(xu (xkw T) hr.m (by rfl) T.xls T.q3c.kp T.xlr .nil xr (xa (yd (xu (zY T) hr.m (by rfl) T.uY T.q1f.kp T.uX .nil yB (xa (cv 0) xb)) T.q0E T.q4f (xdM T) hr.m T.xeC .nil xr) xb))) (fun _ _ _ _=>zm)) xb)))
  (xh (xp (cv 1))))),?_⟩
  have tl:ts.length=rs.length:=ke.length;have few:=ok.one;left;exists⟨p,_,_,.int o,rfl,rfl,SqT.of hp,rfl,?_⟩;exists⟨p,_,_,.int n,rfl,rfl,SqT.of hp,rfl,?_⟩;walk_at"ss";intro c hc;generalize kb:upd H c _=H1;have kd:=xf.of_eq hc kb;have ec:=xn kb;clear kb;right;intro l hl;generalize ka:upd H1 l _=H2;have kc:=xf.of_eq hl ka;have el:=xn ka;clear ka;left;have s2:=kd.trans kc;exists bf (.inl ⟨rfl,_,SqL.of el⟩) ?_;exists⟨p,_,_,.ref t,rfl,rfl,SqT.of (s2.at hp),rfl,?_⟩;refine⟨t,rfl,⟨_,SqT.of (s2.at ht)⟩,?_⟩;refine xaJ (fun i acc G=>∃us:List Addr,acc=us.map V.ref/\Paired (xay G) us ((rs.take i).map putL)) (SqT.of (s2.at ht)) (by rw[ag,ar];lia) ⟨[],rfl,.nil⟩ (fun i x acc H3 H3' hx s3 j8 hP R hR=>?_) (fun D acc H3 H3' hD kn s3 j8 hP hle he=>?_)
  ·obtain⟨us,rfl,j9⟩:=hP;rw[az]at hx;obtain⟨t0,ki,rfl⟩:=aE.mp hx;obtain⟨r,kg,pr⟩:=Paired.nth ke ki;have kj:r∈rs:=aw kg;have sA:=s2.trans (s3.trans j8);have hk:=(ok.ok r kj).1;left;refine⟨t0,rfl,.inl ⟨r,pr.same sA,hk,fun ob G sG km hO=>?_⟩⟩;obtain⟨dx,u,h1,h2⟩:=hO;left;exists⟨ob,dx,_,rfl,h1,rfl,ob,dx,u,_,rfl,h1,fun t1 kf=>?_⟩;refine⟨t1,r,rfl,⟨u,xl,(xf.new kf).at h2⟩,hk,fun u G1 kh hu=>hR _ _ (sG.trans ((xf.new kf).trans kh)) fun H6 s6 k6=>⟨us++[u],by simp,?_⟩⟩;rw[bj,kg,bt];exact xbb (L2.Paired.imp' (fun _ _ z=>s6.at z) j9) (show xay H6 u (putL r)from k6 _ _ (.inr fun ys z=>by cases z) hu)
  obtain⟨us,rfl,j9⟩:=hP;rw[ag,tl,bo]at j9;have ul:us.length=rs.length:=by have:=j9.length;rwa [ag]at this
  have e5:=(s3.trans j8).at el;left;refine⟨l,D,_,_,rfl,rfl,e5,he,?_,?_⟩
  ·rw[ag,fc,ar];lia
  left;have lf:=kd.back hl;have sF:=(s2.trans (s3.trans j8)).put (o:=.lst ([V.ref c]++us.map V.ref)) lf;refine q l (c::us) _ sF lf (by rw[xl];rfl) (.cons ?_ (L2.Paired.imp' (fun _ _ z=>?_) j9))
  ·exact xay.off (x:=⟨"paper",1,[o,n]⟩) ((kc.trans (s3.trans j8)).at ec) e5
  ·exact xay.off (j8.at z) e5
theorem xgM(T:Txt w K mg a):xt P w K mg base CX0 7 a.q1K a.xal ["paper"] xgK:=by
 refine T.q1O.ok xch (fun vs H Q E h=>?_) (fun kr A outer s H vs Q E hr h=>?_)
 ·obtain⟨p,o,n,rs,rfl,_⟩:=h;rfl
 ·obtain⟨p,o,n,rs,rfl,hp,ok,q⟩:=h;have nd:=xch.nd;refine⟨_,(xc (xv (i:=1) nd rfl (aG rfl) (xu (xiQ T) hr.m (by rfl) T.xki T.q2M.kp T.xkh .nil xr (xa (cv 0) xb)))
  (xc (xbE (i:=2) (zB (cap:=[]) (ys:=[]) rfl rfl rfl rfl rfl trivial (by decide+kernel)) rfl nd rfl rfl (ya (cv 1)) (fun _ _ _ _=>(xpz (K:=K) rfl PySem.F.plainAttrs_str PySem.F.slot_str_join PySem.F.type_str_join (xmG (K:=K) rfl) xj (xa (ud (zB (cap:=[]) (ys:=[]) rfl rfl rfl rfl rfl trivial (by decide+kernel)) rfl (xn3 (K:=K) rfl (cv 0)) (fun _ _ _ _=>(xU zw (by rfl) T.q3s uz (xa (cv 0) xb))) (fun _ _ _ _=>zm)) xb))) (fun _ _ _ _=>zm))
  (xc (xv (i:=3) nd rfl (aG rfl) (xu (xlS T) hr.m (by rfl) T.xmQ T.q3v.kp T.xmP .nil xr (xa (xu (xgL T) hr.m (by rfl) T.xhD T.q1P.kp T.xhC .nil xr (xa (cv 1) xb)) xb)))
  (xc (xN (zh PySem.F.plainAttrs_list PySem.F.slot_list_append PySem.F.type_list_append zq (cv 2) (xa (xjd (cv 3)) xb)))
  (xh (xp (zh PySem.F.plainAttrs_str PySem.F.slot_str_join PySem.F.type_str_join xdf xj (xa (cv 2) xb)))))))),?_⟩
  have few:=ok.one;have j8:=xh0 ok;have ll:(lns o n rs).length=rs.length+1:=by unfold lns;simp
  left;refine⟨p,o,n,rs,rfl,hp,ok,fun l us H1 s1 ko el kc=>?_⟩;generalize kn:lns o n rs=ls at*;have ul:us.length=ls.length:=kc.length;left;refine⟨l,rfl,⟨_,SqL.of el⟩,?_⟩;refine ue (fun i acc _=>acc=(ls.take i).map fun x=>V.str x.txt) (SqL.of el) (by rw[ag,ar];lia) rfl (fun i y acc H3 H3' hy s3 kb hP R hR=>?_) (fun D acc H3 H3' hD kh s3 kb hP hle he=>?_)
  ·rw[az]at hy;obtain⟨u,hu,rfl⟩:=aE.mp hy;obtain⟨x,hx,px⟩:=Paired.nth kc hu;have j9:=j8 x (aw hx);have x7:=j9.2.2.1;have ke:H3' u=some (.tup (.str x.w::x.ns.map V.int)):=(s3.trans kb).at px;left;exists bf rfl ?_;refine⟨u,rfl,⟨_,SqT.of ke⟩,?_⟩;refine xaJ (fun i acc _=>acc=(x.ws.take i).map V.str) (SqT.of ke) (by rw[aU,ag,ar];lia) rfl (fun j y acc G3 G3' hy t3 kd ka R' kg=>?_) (fun D acc G3 G3' hD kh t3 kd ka hle he=>?_)
   ·left;obtain⟨z,hz,hj,hb⟩:∃z,xpu y=some z/\x.ws[j]? =some z/\∀i,y= .int i->i.natAbs.log2<1920:=by
     cases j with
     |zero=>cases hy;exact⟨_,rfl,rfl,fun i e=>by cases e⟩
     |succ j=>
      rw[gK,az]at hy;obtain⟨m,hm,rfl⟩:=aE.mp hy;refine⟨xx m,rfl,?_,fun i e=>?_⟩
      ·unfold Ln.ws;rw[gK,az,hm];rfl
      ·injection e with e;rw[<-e];exact zQ (j9.2.2.2 m (aw hm))
    refine⟨y,z,rfl,hz,hb,kg _ _ (xf.refl _) fun H7 _ _=>?_⟩;rw[ka,bj,hj,bt];rfl
   have e1:(V.str x.w::x.ns.map V.int).length=x.ws.length:=by unfold Ln.ws;simp
   rw[e1,bo]at ka;rw[ka]at he;left;have h1:=j9.xcB;have h2:=j9.len;refine⟨_,D,x.ws,rfl,rfl,SqL.of he,aO h1 (by rw[ar];decide),?_,?_⟩
   ·rw[zR];exact aO h2 (by rw[ar];decide)
   rw[zR];refine hR _ _ (t3.trans kd) fun H7 _ _=>?_;rw[hP,bj,hx,bt];rfl
  rw[ag,ul,bo]at hP;rw[hP]at he;have sA:=s3.trans kb;left;refine⟨l,us,ls,rfl,sA.at el,L2.Paired.imp' (fun _ _ z=>sA.at z) kc,j8,by lia,fun nl H4 s4 km ki=>?_⟩;left;exists⟨nl,_,rfl,SqL.of ki,?_⟩;have kf:=s4.at he;exists bf (.inl ⟨rfl,_,SqL.of kf⟩) ?_;refine bf (by decide) ?_;left;have eS:cX++("sum ":Str)++aM (toString (jt (xbc ls)))=xh1 ls:=by
   unfold xh1 xx;exact congrArg (· ++aM (toString (jt (xbc ls)))) (W.KT.empty_app _)
  have lS:=xh2 ls;refine⟨_,rfl,zQ (xlQ _),by rw[eS,ar];lia,?_⟩;rw[eS];left;refine⟨D,_,_,rfl,rfl,kf,by rw[ag,ar];lia,?_⟩;generalize hU:upd H4 D _=H5;have kj:H5 D=some (.lst ((uG ls).map V.str)):=by
   rw[xn hU];unfold uG;rw[bt,dy];rfl
  have s5:xf H H5:=by rw[<-hU];exact(s1.trans (sA.trans s4)).put (s1.back hD)
  left;exists bf rfl ?_;have h1:=xku j8 (by lia);have h2:=xgd j8 (by lia);refine⟨_,D,uG ls,rfl,rfl,SqL.of kj,aO h1 (by rw[ar];decide),?_,?_⟩
  ·rw[zR];exact aO h2 (by rw[ar];decide)
  rw[zR];exact q H5 s5
open PySem.NumText (AllDigits digitsVal)
noncomputable def rdN(z:Str):Option Int:=open Classical in if h:∃n,xx n=z/\Sm n then some (Classical.choose h)else none
def xlT{m:Int}(hm:Sm m)(hn:Sm n)(e:xx m=xx n):m=n:=by
 have h1:=jV (n:=m) hm;rw[e,jV (n:=n) hn]at h1;exact(aQ h1).symm
def xfC(h:Sm n):rdN (xx n)=some n:=by
 have w:∃m,xx m=xx n/\Sm m:=⟨n,rfl,h⟩;unfold rdN;rw[dif_pos w];obtain⟨e,hs⟩:=Classical.choose_spec w;rw[xlT hs h e]
def xh3(h:¬∃n,xx n=z/\Sm n):rdN z=none:=by unfold rdN;rw[dif_neg h]
noncomputable def rdV(z:Str):V:=match rdN z with
 |some n=>.int n
 |none=>.non
theorem xcj:∀(cs:List Nat) (a:Nat),AllDigits cs->cs.foldl (fun acc c=>acc*10+(c - 48)) a<(a+1)*10^cs.length
 |[],a,_=>by simp
 |c::cs,a,h=>by
  have hc:=h c ba;have:=xcj cs (a*10+(c - 48)) h.tail;rw[gN,aU];refine aA this ?_;rw[Nat.pow_succ,Nat.mul_comm (10^cs.length) 10,<-Nat.mul_assoc];exact cf _ (by lia)
def xge(h:AllDigits cs)(hl:cs.length<=60):digitsVal cs<10^60:=by
 have:=xcj cs 0 h;rw[gC,Nat.one_mul]at this;exact aA this (Nat.pow_le_pow_right (by decide) hl)
theorem xkx(z:Str):(decide (0+("-":Str).length<=z.length)&&i9 z ("-":Str) 0)=decide (z.cps.toList.head? =some 45):=by
 have hl:z.length=z.cps.toList.length:=by simp[cq]
 rw[StrLaws.subAt_eq,hl];have e1:(("-":Str).length)=1:=rfl;have e2:("-":Str).cps.toList=[45]:=rfl;rw[e1,e2];cases z.cps.toList with
 |nil=>simp
 |cons c r=>simp;rfl
def xom(h:z.cps.toList=45::cs):xcC z (some 1) none=⟨cs.toArray⟩:=by
 have hl:z.length=cs.length+1:=by
  have:=congrArg fG h;simpa [cq]using this
 unfold xcC;rw[h,hl];have s1:HT.sIx (cs.length+1) 0 (some 1)=1:=by simp[HT.sIx]
 have s2:HT.sIx (cs.length+1) (cs.length+1) none=cs.length+1:=by simp[HT.sIx]
 rw[s1,s2];simp
def xfD(h:z.cps.toList=45::cs)(e:xx n=z):cs=ja n.natAbs/\n<0:=by
 have q:=vc n;rw[e,h]at q
 by_cases h0:n<0
 ·rw[if_pos h0]at q;injection q with _ q;exact⟨q,h0⟩
 ·rw[if_neg h0]at q;have:=zd n.natAbs 45 (by rw[<-q];simp);lia
def xfE(h:¬z.cps.toList.head? =some 45)(e:xx n=z):z.cps.toList=ja n.natAbs/\¬n<0:=by
 have q:=vc n;rw[e]at q
 by_cases h0:n<0
 ·rw[if_pos h0]at q;rw[q]at h;simp at h
 ·rw[if_neg h0]at q;exact⟨q,h0⟩
def xaz(z:Str):Bool:=decide (0<z.length)&&z.cps.toList.all fun c=>decide (48<=c/\c<=57)
def xb7:xaz z=true↔z.cps.toList≠[]/\AllDigits z.cps.toList:=by
 unfold xaz;have hl:z.length=z.cps.toList.length:=by simp[cq]
 rw[bx,decide_eq_true_iff,hl,dQ,bh];refine and_congr Iff.rfl ⟨fun h c hc=>of_decide_eq_true (h c hc),fun h c hc=>decide_eq_true (h c hc)⟩
def xlU(c:Nat):(!(bT ("0123456789":Str) ⟨#[c]⟩ 0 ("0123456789":Str).length 1).isEmpty)=decide (48<=c/\c<=57):=by
 rw[StrLaws.found_one];have e:("0123456789":Str).cps.toList=[48,49,50,51,52,53,54,55,56,57]:=rfl;rw[e];refine decide_eq_decide.mpr ?_;simp only[ah,aW,or_false];omega
def xfF:Sp:=fun vs H Q _=>∃z:Str,vs=[.str z]/\z.length<=100000/\∀H',xf H H'->Q (.bl (xaz z)) H'
def xfG:Sp:=fun vs H Q _=>∃z:Str,vs=[.str z]/\z.length<=100000/\∀H',xf H H'->Q (rdV z) H'
def xfH(T:Txt w K mg a):xt P w K mg base CX0 1 a.q1v a.jo ["word"] xfF:=by
 refine T.q1x.ok xbr (fun vs H Q E h=>?_) (fun j9 A outer s H vs Q E hr h=>?_)
 ·obtain⟨z,rfl,_⟩:=h;rfl
 ·obtain⟨z,rfl,hm,q⟩:=h;have nd:=xbr.nd;refine⟨_,(xh (xp (yJ (yn xg7 (xw xcs (by rfl) T.q1l yl (xa (cv 0) xb)) xk) (yX (xw (xf1 rfl) (by rfl) T.q5R xk2 (xa (ud (zB (cap:=[]) (ys:=[]) rfl rfl rfl rfl rfl trivial (by decide+kernel)) rfl (xpx (cv 0)) (fun _ _ _ _=>(yn xkN (cv 0) xj (by rfl))) (fun _ _ _ _=>zm)) xb)))))),?_⟩;have hz:z.length=z.cps.toList.length:=by simp[cq]
  have j8:z.cps.size=z.length:=rfl;left;refine⟨_,rfl,by rw[ar];lia,?_⟩;left;refine⟨fun b=>?_,fun b=>?_⟩
  ·left;refine⟨_,rfl,?_⟩;refine xmE (fun c=>.bl (decide (48<=c/\c<=57))) (by rw[j8,ar];lia) (fun c H3 hc s3 R hR=>?_) (fun D H' hD s' he=>?_)
   ·left;refine⟨_,_,rfl,rfl,?_⟩;have:=hR H3 (xf.refl _);rw[<-xlU c]at this;exact this
   ·have e:(z.cps.toList.map fun c=>V.bl (decide (48<=c/\c<=57)))=(z.cps.toList.map fun c=>decide (48<=c/\c<=57)).map V.bl:=by rw[dy];rfl
    rw[e]at he;left;refine⟨D,_,rfl,SqL.of he,?_⟩;have e2:(z.cps.toList.map fun c=>decide (48<=c/\c<=57)).all id=xaz z:=by
     unfold xaz;rw[List.all_map,decide_eq_true (by have:=of_decide_eq_true b;lia),Bool.true_and];rfl
    show Q (.bl ((z.cps.toList.map fun c=>decide (48<=c/\c<=57)).all id)) H';rw[e2];exact q _ s'
  ·have hf:xaz z=false:=by
    unfold xaz;rw[decide_eq_false (by have:=of_decide_eq_false b;lia),Bool.false_and]
   have:=q H (xf.refl _);rw[hf]at this;exact this
theorem xfI(T:Txt w K mg a):xt P w K mg base CX0 2 a.q1u a.jn ["word"] xfG:=by
 refine T.q1w.ok xbq (fun vs H Q E h=>?_) (fun kf A outer s H vs Q E hr h=>?_)
 ·obtain⟨z,rfl,_⟩:=h;rfl
 ·obtain⟨z,rfl,ke,q⟩:=h;have nd:=xbq.nd;refine⟨_,(xc (xv (i:=1) nd rfl (aG rfl) (xnl (xW (zh PySem.F.plainAttrs_str PySem.F.slot_str_startswith PySem.F.type_str_startswith xgn (cv 0) (xa xj xb))) (yG xpw (cv 0) (yS xk) zF) (cv 0)))
  (xc (xC (PW.pt (zi (xG xg7 (xw xcs (by rfl) T.q1l yl (xa (cv 1) xb)) (xZ (v:=.int 60) (by rfl) T.xfr ⟨_,rfl⟩)) (zM (uy (xW (xu (xfH T) hr.m (by rfl) T.xgx T.q1x.kp T.xgw .nil xr (xa (cv 1) xb))))))) (xh (xp yW)) xq)
  (xc (xv (i:=2) nd rfl (aG rfl) (xU xll (by rfl) T.q5S xk3 (xa (cv 0) xb)))
  (xc (xC (xG vQ (xU zw (by rfl) T.q3s uz (xa (cv 2) xb)) (cv 0)) (xh (xp yW)) xq)
  (xh (xp (cv 2))))))),?_⟩
  have no:(¬∃n,xx n=z/\Sm n)->∀H',xf H H'->Q .non H':=fun h H' s'=>by
   have:=q H' s';unfold rdV at this;rw[xh3 h]at this;exact this
  have yes:∀n,xx n=z->Sm n->∀H',xf H H'->Q (.int n) H':=fun n e hn H' s'=>by
   have:=q H' s';unfold rdV at this;rw[<-e,xfC hn]at this;exact this
  have kd:z.length=z.cps.toList.length:=by simp[cq]
  left;exists bf rfl ?_;refine⟨_,_,rfl,rfl,?_⟩;rw[xkx z];left;refine⟨fun b=>?_,fun b=>?_⟩
  ·have hd:=of_decide_eq_true b;obtain⟨cs,hz⟩:∃cs,z.cps.toList=45::cs:=by
    cases hc:z.cps.toList with
    |nil=>rw[hc]at hd;cases hd
    |cons c r=>rw[hc]at hd;cases hd;exact⟨r,rfl⟩
   have hl:z.length=cs.length+1:=by rw[kd,hz];rfl
   have hy:(⟨cs.toArray⟩:Str).length=cs.length:=by simp[cq]
   have kc:(⟨cs.toArray⟩:Str).cps.toList=cs:=rfl;left;exists⟨_,rfl,?_⟩;refine⟨_,rfl,by rw[ar];lia,?_⟩;rw[xom hz];left;refine⟨_,rfl,by rw[hy,ar];lia,?_⟩;left;refine⟨fun b1=>?_,fun b1=>?_⟩
   ·walk_at"y";refine no (fun⟨n,e,hn⟩=>?_) H (xf.refl _);have:=xfd (m:=n.natAbs) (k:=60) (by unfold Sm at hn;lia) (by decide);rw[<-(xfD hz e).1]at this;have:=of_decide_eq_true b1;rw[hy]at this;lia
   have hle:cs.length<=60:=by have:=of_decide_eq_false b1;rw[hy]at this;lia
   left;refine⟨_,rfl,by rw[hy];lia,fun H1 s1=>?_⟩;left;refine⟨fun b2=>?_,fun b2=>?_⟩
   ·left;refine no (fun⟨n,e,hn⟩=>?_) H1 s1;have hf:xaz ⟨cs.toArray⟩=true:=xb7.mpr ⟨by rw[kc,(xfD hz e).1];exact xdg _,by rw[kc,(xfD hz e).1];exact zd _⟩;rw[hf]at b2;cases b2
   have hf:xaz ⟨cs.toArray⟩=true:=by simpa using b2
   obtain⟨kb,j9⟩:=xb7.mp hf;rw[kc]at kb j9;have hi:=intText_neg hz j9 kb (by lia);have j8:Sm (-((digitsVal cs:Nat):Int)):=by have:=xge j9 hle;unfold Sm;lia
   left;refine⟨_,_,rfl,hi,by lia,?_⟩;generalize hm: -((digitsVal cs:Nat):Int)=m at hi j8;left;refine⟨_,_,rfl,rfl,fun i e=>by injection e with e;rw[<-e];exact zQ j8,?_⟩;left;refine⟨fun b3=>?_,fun b3=>?_⟩
   ·left;refine no (fun⟨n,e,hn⟩=>?_) H1 s1;have ka:=jV (n:=n) hn;rw[e,hi]at ka;have:decide (aM (toString m)=z)=true:=decide_eq_true (by rw[aQ ka];exact e);rw[this]at b3;cases b3
   ·left;exact yes m (of_decide_eq_true (p:=aM (toString m)=z) (by rw[<-i5];exact b3)) j8 H1 s1
  ·have hd:=of_decide_eq_false b;left;refine⟨_,rfl,by rw[ar];lia,?_⟩;left;refine⟨fun b1=>?_,fun b1=>?_⟩
   ·walk_at"y";refine no (fun⟨n,e,hn⟩=>?_) H (xf.refl _);have:=xfd (m:=n.natAbs) (k:=60) (by unfold Sm at hn;lia) (by decide);rw[<-(xfE hd e).1,<-kd]at this;have:=of_decide_eq_true b1;lia
   have hle:z.length<=60:=by have:=of_decide_eq_false b1;lia
   left;refine⟨_,rfl,by lia,fun H1 s1=>?_⟩;left;refine⟨fun b2=>?_,fun b2=>?_⟩
   ·left;refine no (fun⟨n,e,hn⟩=>?_) H1 s1;have hf:xaz z=true:=xb7.mpr ⟨by rw[(xfE hd e).1];exact xdg _,by rw[(xfE hd e).1];exact zd _⟩;rw[hf]at b2;cases b2
   have hf:xaz z=true:=by simpa using b2
   obtain⟨kb,j9⟩:=xb7.mp hf;have hi:=intText_digits j9 kb (by lia);have j8:Sm ((digitsVal z.cps.toList:Nat):Int):=by have:=xge j9 (by lia);unfold Sm;lia
   left;refine⟨_,_,rfl,hi,by lia,?_⟩;generalize hm:((digitsVal z.cps.toList:Nat):Int)=m at hi j8;left;refine⟨_,_,rfl,rfl,fun i e=>by injection e with e;rw[<-e];exact zQ j8,?_⟩;left;refine⟨fun b3=>?_,fun b3=>?_⟩
   ·left;refine no (fun⟨n,e,hn⟩=>?_) H1 s1;have ka:=jV (n:=n) hn;rw[e,hi]at ka;have:decide (aM (toString m)=z)=true:=decide_eq_true (by rw[aQ ka];exact e);rw[this]at b3;cases b3
   ·left;exact yes m (of_decide_eq_true (p:=aM (toString m)=z) (by rw[<-i5];exact b3)) j8 H1 s1
def xlV(K:ay):Sp:=fun vs H Q _=>∃(l:Addr) (ns:List Int),vs=[.ref l]/\SqL K H l (ns.map V.int)/\ns.length<=300/\(∀x∈ns,Sm x)/\∀H',xf H H'->Q (.str (a5 ⟨#[32]⟩ (ns.map xx))) H'
def xaA(h:∀x∈ns,Sm x):∀p∈ns.map xx,p.length<=61:=by
 intro p hp;obtain⟨n,hn,rfl⟩:=bA.mp hp;exact ze (h n hn)
def xgf(T:Txt w K mg a):xt P w K mg base CX0 1 a.q2I a.xd5 ["parts"] (xlV K):=by
 refine T.q3a.ok xf9 (fun vs H Q E h=>?_) (fun ka A outer s H vs Q E hr h=>?_)
 ·obtain⟨l,ns,rfl,_⟩:=h;rfl
 ·obtain⟨l,ns,rfl,hl,hn,hs,q⟩:=h;have nd:=xf9.nd;refine⟨_,(xh (xp (zh PySem.F.plainAttrs_str PySem.F.slot_str_join PySem.F.type_str_join xdf xj (xa (ud (zB (cap:=[]) (ys:=[]) rfl rfl rfl rfl rfl trivial (by decide+kernel)) rfl (ya (cv 0)) (fun _ _ _ _=>(xU zw (by rfl) T.q3s uz (xa (cv 0) xb))) (fun _ _ _ _=>zm)) xb)))),?_⟩;left;exists bf rfl ?_;refine⟨l,rfl,⟨_,hl⟩,?_⟩;refine ue (fun i acc _=>acc=((ns.take i).map xx).map V.str) hl (by rw[ag,ar];lia) rfl (fun j y acc G3 G3' hy t3 j8 hP R hR=>?_) (fun D acc G3 G3' hD j9 t3 j8 hP hle he=>?_)
  ·rw[az]at hy;obtain⟨m,hm,rfl⟩:=aE.mp hy;left;refine⟨.int m,xx m,rfl,rfl,fun i e=>?_,hR _ _ (xf.refl _) fun H7 _ _=>?_⟩
   ·injection e with e;rw[<-e];exact zQ (hs m (aw hm))
   ·rw[hP,bj,hm];simp
  ·rw[ag,bo]at hP;rw[hP]at he;have h1:=xbL (d:=32) (ns.map xx) (xaA hs);have h2:=uM (d:=32) (ns.map xx) (xaA hs);rw[ag]at h1 h2;have h3:ns.length*(61+1)<=300*62:=cf _ hn;left;refine⟨_,D,ns.map xx,rfl,rfl,SqL.of he,aO h1 (aO h3 (by rw[ar];decide)),?_,?_⟩
   ·rw[zR];exact aO h2 (aO h3 (by rw[ar];decide))
   rw[zR];exact q _ (t3.trans j8)
end
set_option genInjectivity false in
structure DK where
 d:Addr
 dx:Addr
 S:SA
 el:Addr
 p:Addr
set_option genInjectivity false in
structure RM where
 c:List Int
 ns:List (Option Int)
 n:Int
 oc:Option Int
set_option genInjectivity false in
structure PP where
 o:Int
 n:Int
 rs:List (List Int)
set_option genInjectivity false in
structure DS where
 room:Option RM
 elder:List Int
 paper:Option PP
 begun:Bool
def rmV(D:DK)(r:Option RM):V:=if r.isSome=true then .ref D.S.st else .non
def ppV(D:DK)(q:Option PP):V:=if q.isSome=true then .ref D.p else .non
abbrev dkF(D:DK)(s:DS):List (Str×V):=[("store",rmV D s.room),("elder",.ref D.el),("paper",ppV D s.paper),("begun",.bl s.begun)]
def LD(D:DK)(s:DS):List Addr:=D.d::(if s.room.isSome=true then SS D.S else[])
structure yi(a:Adr)(H:Hp)(D:DK)(s:DS):Prop where
 dk:H D.d=some (.ins a.q0f D.dx (dkF D s))
 el:H D.el=some (.lst (s.elder.map V.int))
 room:∀r,s.room=some r->∃fl,xV a H D.S r.c r.ns r.n fl/\zL H fl r.oc/\D.d∉D.S.st::SS D.S/\D.el∉SS D.S
 pap:∀q,s.paper=some q->uZ H D.p q.o q.n q.rs/\POk q.o q.n q.rs
def uZ.kp{L:List Addr}(h:uZ H p o n rs)(mu:∀x∈L,∃u,H x=some u/\ux u)(k:Kp L H H'):uZ H' p o n rs:=by
 obtain⟨tt,ts,h1,h2,h3⟩:=h;refine⟨tt,ts,xbt h1 mu k,xbt h2 mu k,L2.Paired.imp' (fun _ _ z=>?_) h3⟩;obtain⟨u,g1,g2⟩:=z;exact⟨u,xbt g1 mu k,xbt g2 mu k⟩
def yi.same(h:yi a H D s)(e:xf H H'):yi a H' D s:=by
 refine⟨e.at h.dk,e.at h.el,fun r hr=>?_,fun q hq=>⟨(h.pap q hq).1.same e,(h.pap q hq).2⟩⟩;obtain⟨fl,h1,h2,h3,h4⟩:=h.room r hr;exact⟨fl,h1.same e,h2.kp (S:=[]) (fun _ z=>nomatch z) (Kp.of e),h3,h4⟩
theorem yi.mu(h:yi a H D s):∀x∈LD D s,∃u,H x=some u/\ux u:=by
 intro x hx;unfold LD at hx;rcases ah.mp hx with rfl|hx
 ·exact⟨_,h.dk,trivial⟩
 ·cases hr:s.room with
  |none=>rw[hr]at hx;cases hx
  |some r=>
   rw[hr]at hx;obtain⟨fl,h1,_⟩:=h.room r hr;exact h1.mu x hx
def yi.own(h:yi a H D s)(k:Kp [D.d] H H')(e:H' D.d=some (.ins a.q0f D.dx (dkF D' s')))(ed:D'.d=D.d)(ex:D'.dx=D.dx)(eS:D'.S=D.S)(er:s'.room=s.room)(el:D'.el=D.el)(ee:s'.elder=s.elder)
  (hp:∀q,s'.paper=some q->uZ H' D'.p q.o q.n q.rs/\POk q.o q.n q.rs):yi a H' D' s':=by
 have mu:∀x∈[D.d],∃u,H x=some u/\ux u:=fun x hx=>by rw[ao.mp hx];exact⟨_,h.dk,trivial⟩
 refine⟨by rw[ed,ex];exact e,?_,fun r hr=>?_,hp⟩
 ·rw[el,ee];refine k _ _ h.el fun z=>?_;have:=h.el;rw[ao.mp z,h.dk]at this;cases this
 ·rw[er]at hr;obtain⟨fl,h1,h2,h3,h4⟩:=h.room r hr;rw[eS,ed,el];refine⟨fl,h1.kp0 k (fun x hx=>?_),h2.kp mu k,h3,h4⟩;rw[ao.mp hx];simp only[ah,aW,or_false,not_or]at h3;exact⟨h3.1,h3.2.1,h3.2.2.1,h3.2.2.2⟩
def Res(a:Adr)(H:Hp)(D:DK)(s s':DS)(q:Hp->Prop):Prop:=∀(H':Hp) (D':DK),D'.d=D.d->Kp (LD D s) H H'->(∀b∈LD D' s',b∈LD D s\/H b=none)->yi a H' D' s'->q H'
def Res.imp{q:Hp->Prop}(h:Res a H D s s' q)(e:xf H H1):Res a H1 D s s' q:=fun H' D' h1 h2 h3 h4=>
 h H' D' h1 (fun b u eb nb=>h2 b u (e b u eb) nb) (fun b hb=>(h3 b hb).imp id fun z=>e.back z) h4
def xh4(a:Adr):Sp:=fun vs H Q _=>∃(d dx:Addr),vs=[.ref d]/\H d=some (.ins a.q0f dx [])/\∀(D:DK) (H':Hp),D.d=d->Kp [d] H H'->yi a H' D ⟨none,[],none,false⟩->Q .non H'
def xc4(T:Txt w K mg a):xt P w K mg base CX0 1 a.q1C a.xa8 ["self"] (xh4 a):=by
 refine T.q2T.ok xcY (fun vs H Q E h=>?_) (fun kb A outer s H vs Q E hr h=>?_)
 ·obtain⟨d,dx,rfl,_⟩:=h;rfl
 ·obtain⟨d,dx,rfl,hd,k⟩:=h;have nd:=xcY.nd;refine⟨_,(xc (xY (cv 0) yW rfl)
  (xc (xY (cv 0) (xK xb) rfl)
  (xc (xY (cv 0) yW rfl)
  (xh (xY (cv 0) yf rfl))))),?_⟩
  left;refine⟨d,_,dx,_,rfl,hd,T.q0e,T.q0y,by walk_at"few",?_⟩;refine gnr (upd H d _) fun H1 j9=>?_;have k1:Kp [d] H H1:=by rw[<-j9];exact(Kp.of (xf.refl _)).wr (by simp)
  have f1:H1 d=some (.ins a.q0f dx [("store",.non)]):=by rw[<-j9,xl];rfl
  have b1:∀b,H1 b=none->H b=none:=fun b hb=>by
   have n1:b≠d:=fun z=>by rw[z,f1]at hb;cases hb
   rw[<-j9,xm n1]at hb;exact hb
  clear j9;right;intro el ka;left;refine⟨d,_,dx,_,rfl,by rw[xm (xD f1 ka)];exact f1,T.q0e,T.q1Y,by walk_at"few",?_⟩;refine gnr (upd (upd H1 el _) d _) fun H2 j8=>?_;have k2:Kp [d] H H2:=by rw[<-j8];exact(k1.mk (b1 el ka)).wr (by simp)
  have f2:H2 d=some (.ins a.q0f dx [("store",.non),("elder",.ref el)]):=by rw[<-j8,xl];rfl
  have g2:H2 el=some (.lst []):=by rw[<-j8,xm (aL (xD f1 ka)),xl]
  clear j8 b1;left;refine⟨d,_,dx,_,rfl,f2,T.q0e,T.q0p,by walk_at"few",?_⟩;left;refine⟨d,_,dx,_,rfl,xl,T.q0e,T.q1d,by walk_at"few",?_⟩;left;rw[zl];refine k ⟨d,dx,⟨0,0,0,0,0,0⟩,el,0⟩ _ rfl (k2.wr (by simp)) ⟨by rw[xl];rfl,?_,(fun r z=>by cases z),fun q z=>by cases z⟩;show upd H2 d _ el=some (.lst []);rw[xm (zt g2 f2 (by intro z;cases z))];exact g2
def xh5(a:Adr):Sp:=fun vs H Q _=>∃(D:DK) (s:DS) (p':Addr) (q:PP),vs=[.ref D.d,.ref p']/\yi a H D s/\uZ H p' q.o q.n q.rs/\POk q.o q.n q.rs/\Res a H D s {s with paper:=some q,begun:=false} (Q (.str "ok"))
def jB(T:Txt w K mg a):xt P w K mg base CX0 1 a.q0H a.uW ["self","paper"] (xh5 a):=by
 refine T.q1j.ok jz (fun vs H Q E h=>?_) (fun j8 A outer s H vs Q E hr h=>?_)
 ·obtain⟨D,s,p',q,rfl,_⟩:=h;rfl
 ·obtain⟨D,s,p',q,rfl,hD,hp,hk,k⟩:=h;have nd:=jz.nd;refine⟨_,(xc (xY (cv 0) (cv 1) rfl)
  (xc (xY (cv 0) yf rfl)
  (xh (xp xj)))),?_⟩
  left;refine⟨D.d,_,D.dx,_,rfl,hD.dk,T.q0e,T.q0p,by walk_at"few",?_⟩;left;refine⟨D.d,_,D.dx,_,rfl,xl,T.q0e,T.q1d,by walk_at"few",?_⟩;left;rw[zl];have kk:Kp [D.d] H (upd H D.d (.ins a.q0f D.dx (dkF {D with p:=p'} {s with paper:=some q,begun:=false}))):=(Kp.of (xf.refl _)).wr (by simp);have mu:∀x∈[D.d],∃u,H x=some u/\ux u:=fun x hx=>by rw[ao.mp hx];exact⟨_,hD.dk,trivial⟩
  refine k _ {D with p:=p'} rfl (kk.mono (by simp[LD])) (fun b hb=>.inl hb) (hD.own kk xl rfl rfl rfl rfl rfl rfl fun q' hq=>?_);cases hq;exact⟨hp.kp mu kk,hk⟩
theorem xh6:∀n:Nat,(aK n [V.int 0]).flatten=aK n (V.int 0)
 |0=>rfl
 |n+1=>by rw[bR,dh,xh6 n,bR];rfl
def xiR(a:Adr):Sp:=fun vs H Q _=>∃(D:DK) (s:DS) (size:Nat) (l:Addr) (text:List Int),vs=[.ref D.d,.int size,.ref l]/\yi a H D s/\H l=some (.lst (text.map V.int))/\text.length<=size/\size<=300/\
 Res a H D s ⟨some ⟨text++aK (size - text.length) 0,[some 0,some 0],0,none⟩,text,s.paper,false⟩ (Q (.str "ok"))
def xek(T:Txt w K mg a):xt P w K mg base CX0 5 a.q0P a.vy ["self","size","text"] (xiR a):=by
 refine T.q1t.ok xau (fun vs H Q E h=>?_) (fun kJ A outer s H vs Q E hr h=>?_)
 ·obtain⟨D,s,size,l,text,rfl,_⟩:=h;rfl
 ·obtain⟨D,s,size,l,text,rfl,hD,hl,hle,h3,k⟩:=h;have nd:=xau.nd;refine⟨_,(xc (xY (cv 0) (xe1 (dvs:=[.non]) T.q45 (xgH T) hr.m (by rfl) T.xob T.jq (.cons rfl .nil) xr (xa (xy jO (cv 2) (xy xo5 (xK (xa xk xb)) (xy xgQ (cv 1) (xw xJ (by rfl) T.q1l yl (xa (cv 2) xb))))) xb)) rfl)
  (xc (xY (cv 0) (cv 2) rfl)
  (xc (xY (cv 0) yf rfl)
  (xh (xp xj))))),?_⟩
  right;intro z1 kC;generalize kb:upd H z1 _=H1;have ki:=xf.of_eq kC kb;have kF:=xn kb;clear kb;left;refine⟨l,_,rfl,.inl (SqL.of (ki.at hl)),?_⟩;rw[ag];left;refine⟨z1,(size:Int) - text.length,_,rfl,rfl,kF,by lia,by lia,by rw[ar];simp;lia,?_⟩;intro z2 kB;generalize ka:upd H1 z2 _=H2;have kn:=xf.of_eq kB ka;have kE:=xn ka;clear ka;left;refine⟨l,z2,_,_,rfl,rfl,kn.at (ki.at hl),kE,?_,?_⟩
  ·rw[ag,ar,len_rep];simp;lia
  intro z3 kA;generalize j9:upd H2 z3 _=H3;have ku:=xf.of_eq kA j9;have kD:=xn j9;clear j9;left;have ko:=ki.trans (kn.trans ku);have ec:H3 z3=some (.lst ((text++aK (size - text.length) 0).map V.int)):=by
   rw[kD,bt,i3,show((size:Int) - text.length).toNat=size - text.length by lia];rw[xh6]
  intro st j8 kr kd nest;generalize ke:upd H3 j8 (.own st)=H4;have kh:=xf.of_eq kd ke;have km:H4 st=none:=by rw[<-ke,xm (aL nest)];exact kr
  have kH:∀o,upd H4 st o z3=some (.lst ((text++aK (size - text.length) 0).map V.int)):=fun o=>by rw[xm (xD (kh.at ec) km)];exact kh.at ec
  refine⟨st,j8,z3,_,.non,rfl,xl,kH _,fun S H6 eS k6 hS f1 f2 f3=>⟨rfl,?_⟩⟩;have ky:=ko.trans kh;have kg:H st=none:=ko.back kr;have s5:∀o,xf H (upd H4 st o):=fun o=>ky.put kg;have kj:xf H H6:=fun b u e=>k6 b u ((s5 _) b u e) (fun z=>by rw[ao.mp z]at e;rw[kg]at e;cases e);have kf:=hD.same kj;have n0:∀b,upd H4 st (.ins a.q0h j8 []) b=none->H b=none:=fun b hb=>(s5 _).back hb;left;refine⟨D.d,_,D.dx,_,rfl,kf.dk,T.q0e,T.q0y,by walk_at"few",?_⟩;left;refine⟨D.d,_,D.dx,_,rfl,xl,T.q0e,T.q1Y,by walk_at"few",?_⟩;left;refine⟨D.d,_,D.dx,_,rfl,xl,T.q0e,T.q1d,(show 4<1000 by decide),?_⟩;left;rw[zl,zl];rw[<-eS];have kc:D.d∉S.st::SS S:=fun z=>by
   have hd:=hD.dk;rcases ah.mp z with e|z
   ·rw[e,eS,kg]at hd;cases hd
   ·simp only[ah,aW,or_false]at z;rcases z with e|e|e
    ·rw[e,n0 _ f1]at hd;cases hd
    ·rw[e,n0 _ f2]at hd;cases hd
    ·rw[e,n0 _ f3]at hd;cases hd
  have nl:l∉SS S:=fun z=>by
   simp only[ah,aW,or_false]at z;rcases z with e|e|e
   ·rw[e,n0 _ f1]at hl;cases hl
   ·rw[e,n0 _ f2]at hl;cases hl
   ·rw[e,n0 _ f3]at hl;cases hl
  have kz:l≠D.d:=zt hl hD.dk (by intro z;cases z);have kk:Kp [D.d] H6 (upd H6 D.d (.ins a.q0f D.dx (dkF {D with S:=S,el:=l} ⟨some ⟨text++aK (size - text.length) 0,[some 0,some 0],0,none⟩,text,s.paper,false⟩))):=(Kp.of (xf.refl _)).wr (by simp);have mu:∀x∈[D.d],∃u,H6 x=some u/\ux u:=fun x hx=>by rw[ao.mp hx];exact⟨_,kf.dk,trivial⟩
  refine k _ {D with S:=S,el:=l} rfl (fun b u e nb=>kk b u (kj b u e) (fun z=>nb (by rw[ao.mp z];simp[LD]))) (fun b hb=>?_) ⟨xl,?_,fun r hr=>?_,fun q hq=>⟨(kf.pap q hq).1.kp mu kk,(kf.pap q hq).2⟩⟩
  ·have hb:b∈D.d::SS S:=hb;rcases ah.mp hb with e|hb
   ·exact .inl (by rw[e];simp[LD])
   ·simp only[ah,aW,or_false]at hb;rcases hb with e|e|e
    ·rw[e];exact .inr (n0 _ f1)
    ·rw[e];exact .inr (n0 _ f2)
    ·rw[e];exact .inr (n0 _ f3)
  ·show upd H6 D.d _ l=_;rw[xm kz];exact kj.at hl
  ·cases hr;refine⟨.non,hS.kp0 kk (fun x hx=>?_),rfl,kc,nl⟩;rw[ao.mp hx];simp only[ah,aW,or_false,not_or]at kc;exact⟨kc.1,kc.2.1,kc.2.2.1,kc.2.2.2⟩
def xky(a:Adr):Sp:=fun vs H Q E=>∃(D:DK) (s:DS) (t:Addr),vs=[.ref D.d,.ref t]/\yi a H D s/\((∃(sg:List Int) (o:Int),uw H t sg/\yy sg/\s.paper=some ⟨o,sg.length,[]⟩/\Res a H D s {s with paper:=some ⟨o,sg.length,[sg]⟩,begun:=false} (Q (.str "ok")))\/
 (xgX H t/\∀H',xf H H'->E (.ref a.q0b) none H'))
def xaQ(T:Txt w K mg a):xt P w K mg base (CXE P w) 6 a.q0W a.vP ["self","told"] (xky a):=by
 refine T.q1F.okX xaO (fun vs H Q E h=>?_) (fun kB A outer s H vs Q E hr h=>?_)
 ·obtain⟨D,s,t,rfl,_⟩:=h;rfl
 ·obtain⟨D,s,t,rfl,hD,h⟩:=h;have nd:=xaO.nd;refine⟨_,(xc (xv (i:=2) nd rfl (aG rfl) (yd (vJ ⟨rfl,rfl,rfl⟩ (zY T) hr.m (by rfl) T.uY T.q1f.kp T.uX .nil (xa (cv 1) xb)) T.q0E T.q4f (xdM T) hr.m T.xeC .nil xr))
  (xh (xp (xS (cv 0) T.q0e T.q2l (jB T) hr.m T.xao .nil xr (xa (yA (xa (xA xF (xE (cv 0) rfl) xk (fun _ _=>rfl)) (xa (xA xF (xE (cv 0) rfl) xk (fun _ _=>rfl)) (xa (xy xnV (xA xF (xE (cv 0) rfl) xk (fun _ _=>rfl)) (yA (xa (cv 2) xb))) xb)))) xb))))),?_⟩
  rcases h with⟨sg,o,hp,hk,hs,k⟩|⟨hz,k⟩
  ·left;refine⟨t,rfl,.inl ⟨sg,hp,hk,fun ob H1 s1 _ hO=>?_⟩⟩;obtain⟨dx,u,h1,h2⟩:=hO;left;refine⟨ob,dx,_,rfl,h1,rfl,ob,dx,u,_,rfl,h1,?_⟩;intro row ke;generalize j8:upd H1 row _=H2;have ki:=xf.of_eq ke j8;have kh:=xn j8;clear j8;left;have km:=s1.trans ki;have kn:=hD.same km;obtain⟨⟨tt,ts,kf,kr,ku⟩,hok⟩:=kn.pap _ hs;obtain rfl:ts=[]:=by cases ku;rfl
   have eP:ppV D s.paper= .ref D.p:=by rw[hs];rfl
   have kd:H2 D.d=some (.ins a.q0f D.dx [("store",rmV D s.room),("elder",.ref D.el),("paper",.ref D.p),("begun",.bl s.begun)]):=by rw[<-eP];exact kn.dk
   exists⟨D.d,D.dx,_,rfl,kd,rfl,?_⟩;exists⟨D.d,_,D.dx,_,.ref D.p,rfl,kd,T.q0e,T.q0p,rfl,?_⟩;exists⟨D.p,_,_,.int o,rfl,rfl,SqT.of kf,rfl,?_⟩;exists⟨D.d,_,D.dx,_,.ref D.p,rfl,kd,T.q0e,T.q0p,rfl,?_⟩;exists⟨D.p,_,_,.int sg.length,rfl,rfl,SqT.of kf,rfl,?_⟩;exists⟨D.d,_,D.dx,_,.ref D.p,rfl,kd,T.q0e,T.q0p,rfl,?_⟩;exists⟨D.p,_,_,.ref tt,rfl,rfl,SqT.of kf,rfl,?_⟩;walk_at"ss";intro tr ky;generalize j9:upd H2 tr _=H3;have kc:=xf.of_eq ky j9;have ko:=xn j9;clear j9;left;refine⟨tt,tr,[],_,rfl,rfl,SqT.of (kc.at kr),SqT.of ko,(by show 1<=ax;decide),fun _=>?_,(fun z=>absurd rfl z),fun z=>absurd rfl z⟩;right;intro pn kz;generalize ka:upd H3 pn _=H4;have kb:=xf.of_eq kz ka;have kA:=xn ka;clear ka;left;have kj:=km.trans (kc.trans kb);have kg:POk o sg.length [sg]:=⟨hok.o0,hok.o3,hok.n0,hok.n3,aq _,fun x hx=>by rw[ao.mp hx];exact⟨hk,rfl⟩⟩;refine⟨D,s,pn,⟨o,sg.length,[sg]⟩,rfl,hD.same kj,⟨tr,[row],kA,kb.at ko,.cons ⟨u,(kc.trans kb).at kh,(ki.trans (kc.trans kb)).at h2⟩ .nil⟩,kg,k.imp kj⟩
  ·left;exact⟨t,rfl,.inr ⟨hz,k⟩⟩
def yi.dkp{q:PP}(h:yi a H D s)(hq:s.paper=some q):H D.d=some (.ins a.q0f D.dx [("store",rmV D s.room),("elder",.ref D.el),("paper",.ref D.p),("begun",.bl s.begun)]):=by
 have e:ppV D s.paper= .ref D.p:=by rw[hq];rfl
 rw[<-e];exact h.dk
def yi.dks(h:yi a H D s)(hr:s.room=some r):H D.d=some (.ins a.q0f D.dx [("store",.ref D.S.st),("elder",.ref D.el),("paper",ppV D s.paper),("begun",.bl s.begun)]):=by
 have e:rmV D s.room= .ref D.S.st:=by rw[hr];rfl
 rw[<-e];exact h.dk
def LD.of(hr:s.room=some r):LD D s=D.d::SS D.S:=by unfold LD;rw[hr];rfl
def yi.store{c:List Int}{ns:List (Option Int)}{oc:Option Int}(h:yi a H D s)(hr:s.room=some r)(k:Kp (SS D.S) H H')(hS:xV a H' D.S c ns n fl)(hF:zL H' fl oc):yi a H' D {s with room:=some ⟨c,ns,n,oc⟩}:=by
 obtain⟨j8,h1,h2,h3,h4⟩:=h.room r hr;refine⟨?_,k _ _ h.el h4,fun r' e=>?_,fun q hq=>⟨(h.pap q hq).1.kp h1.mu k,(h.pap q hq).2⟩⟩
 ·have:=h.dks hr;exact k _ _ this fun z=>h3 (aH _ z)
 ·cases e;exact⟨fl,hS,hF,h3,h4⟩
def xm2(a:Adr):Sp:=fun vs H Q _=>∃(D:DK) (s:DS) (q:PP),vs=[.ref D.d]/\yi a H D s/\s.paper=some q/\yE q.n q.rs=false/\∀H',xf H H'->Q (.str "none") H'
def xck(T:Txt w K mg a):xt P w K mg base CX0 9 a.q0z a.zU ["self"] (xm2 a):=by
 refine T.q0X.ok vC (fun vs H Q E h=>?_) (fun j8 A outer s H vs Q E hr h=>?_)
 ·obtain⟨D,s,q,rfl,_⟩:=h;rfl
 ·obtain⟨D,s,q,rfl,hD,hq,hl,k⟩:=h;have nd:=vC.nd;refine⟨_,(xc (xv (i:=1) nd rfl (aG rfl) (xu (xhT T) hr.m (by rfl) T.xji T.q3G.kp T.xjh .nil xr (xa (xE (cv 0) rfl) xb)))
  (xc (xC (jS (cv 1)) (xh (xp xj)) xq)
  (xh (xp (xu (xgf T) hr.m (by rfl) T.xb9 T.q3a.kp T.xhy .nil xr (xa (cv 1) xb)))))),?_⟩
  left;exists⟨D.d,_,D.dx,_,.ref D.p,rfl,hD.dkp hq,T.q0e,T.q0p,rfl,?_⟩;refine⟨D.p,q.o,q.n,q.rs,rfl,(hD.pap q hq).1,(hD.pap q hq).2,?_⟩;rw[hl];intro H1 s1;left;walk_at"y";exact k H1 s1
def xfJ(a:Adr):Sp:=fun vs H Q E=>∃(D:DK) (s:DS) (q:PP) (r:RM),vs=[.ref D.d]/\yi a H D s/\s.paper=some q/\s.room=some r/\r.ns.length=2/\Tbs H/\
 ((yE q.n q.rs=true/\∀d H',xf H H'->(∃fs,H' d=some (.xd fs))->E (.ref a.q0c) (some d) H')\/(yE q.n q.rs=false/\q.o≠s.elder.length/\∀H',xf H H'->E (.ref a.q0g) none H')\/
  (yE q.n q.rs=false/\q.o=s.elder.length/\Res a H D s {s with room:=some ⟨r.c,[some 0,some 0],r.n+1+1,none⟩,begun:=true} (Q (.str "ok"))))
def xcl(T:Txt w K mg a):xt P w K mg base (CXE P w) 9 a.q0A a.zV ["self"] (xfJ a):=by
 refine T.q0Y.okX vD (fun vs H Q E h=>?_) (fun kj A outer s H vs Q E hr h=>?_)
 ·obtain⟨D,s,q,r,rfl,_⟩:=h;rfl
 ·obtain⟨D,s,q,r,rfl,hD,hq,j9,h2,hT,h⟩:=h;have nd:=vD.nd;refine⟨_,(xc (xv (i:=1) nd rfl (aG rfl) (xu (xhT T) hr.m (by rfl) T.xji T.q3G.kp T.xjh .nil xr (xa (xE (cv 0) rfl) xb)))
  (xc (xC (xdc (cv 1)) (xh (xf4 (k:=1) ⟨rfl,rfl,rfl⟩ rfl T.q4h (xfw T) hr.m T.xgq (by rfl) T.xhE (xa (cv 1) xb))) xq)
  (xc (xC (xG xjM (xA xF (xE (cv 0) rfl) xk (fun _ _=>rfl)) (xw xJ (by rfl) T.q1l yl (xa (xE (cv 0) rfl) xb))) (xh (jT ⟨rfl,rfl,rfl⟩ rfl T.q5o (by rfl) T.xjj (xa xj xb))) xq)
  (xc (xN (xS (xE (cv 0) rfl) T.q0l T.q2Q (xax T) hr.m T.xaL .nil xr (xa yW xb)))
  (xc (xN (xf5 ⟨rfl,rfl,rfl⟩ (xE (cv 0) rfl) T.q0l T.q4b (xfy T) hr.m T.xgt .nil))
  (xc (xY (cv 0) yf rfl)
  (xh (xp xj)))))))),?_⟩
  left;exists⟨D.d,_,D.dx,_,.ref D.p,rfl,hD.dkp hq,T.q0e,T.q0p,rfl,?_⟩;refine⟨D.p,q.o,q.n,q.rs,rfl,(hD.pap q hq).1,(hD.pap q hq).2,?_⟩;rcases h with⟨hl,k⟩|h
  ·rw[hl];intro t H1 s1 e1;left;walk_at"y";exact⟨_,rfl,fun d hd=>k d _ (s1.put (s1.back hd)) ⟨_,xl⟩⟩
  have hl:yE q.n q.rs=false:=by rcases h with⟨hl,_⟩|⟨hl,_⟩<;> exact hl
  rw[hl];intro H1 s1;left;walk_at"N";have j8:=hD.same s1;obtain⟨tt,ts,ke,_⟩:=(j8.pap q hq).1;left;exists⟨D.d,_,D.dx,_,.ref D.p,rfl,j8.dkp hq,T.q0e,T.q0p,rfl,?_⟩;exists⟨D.p,_,_,.int q.o,rfl,rfl,SqT.of ke,rfl,?_⟩;exists⟨D.d,_,D.dx,_,.ref D.el,rfl,j8.dk,T.q0e,T.q1Y,rfl,?_⟩;refine⟨D.el,_,rfl,.inl (SqL.of j8.el),?_⟩;rw[ag];rcases h with⟨_,kf,k⟩|⟨_,heq,k⟩
  ·left;refine⟨fun _=>?_,fun z=>absurd (of_decide_eq_true (by simpa using z)) kf⟩;left;exact⟨by walk_at"side",k H1 s1⟩
  left;refine⟨fun z=>by simp[heq]at z,fun _=>?_⟩;obtain⟨fl,hS,hF,ki,kh⟩:=j8.room r j9;left;exists⟨D.d,_,D.dx,_,.ref D.S.st,rfl,j8.dks j9,T.q0e,T.q0y,rfl,?_⟩;refine⟨D.S.st,D.S.dx,_,rfl,hS.st,rfl,?_⟩;refine⟨D.S,_,_,_,fl,.non,rfl,hS,fun H2 k2 kb=>?_⟩;have kd:=j8.store j9 k2 kb (oc:=none) rfl;left;exists⟨D.d,_,D.dx,_,.ref D.S.st,rfl,kd.dks rfl,T.q0e,T.q0y,rfl,?_⟩;refine⟨D.S.st,D.S.dx,_,rfl,kb.st,rfl,?_⟩;refine⟨D.S,_,_,_,.non,rfl,kb,rfl,(hT.same s1).kp hS.mu k2,h2,fun H3 k3 kg=>?_⟩;have ka:=kd.store rfl k3 kg (oc:=none) rfl;left;refine⟨D.d,_,D.dx,_,rfl,ka.dk,T.q0e,T.q1d,by walk_at"few",?_⟩;left;have kk:Kp [D.d] H3 (upd H3 D.d (.ins a.q0f D.dx (dkF D {s with room:=some ⟨r.c,[some 0,some 0],r.n+1+1,none⟩,begun:=true}))):=(Kp.of (xf.refl _)).wr (by simp);refine k _ D rfl ?_ (fun b hb=>.inl ?_) (ka.own kk xl rfl rfl rfl rfl rfl rfl fun q' kc=>?_)
  ·rw[LD.of j9];exact(((Kp.of s1).trans (k2.trans k3)).mono fun x hx=>aH _ hx).trans (kk.mono fun x hx=>by rw[ao.mp hx];exact ba)
  ·rw[LD.of j9];exact hb
  ·exact⟨(ka.pap q' kc).1.kp (fun x hx=>by rw[ao.mp hx];exact⟨_,ka.dk,trivial⟩) kk,(ka.pap q' kc).2⟩
def xon{c:List Int}(h:sg.length<=c.length):uo ((wrt sg c sg.length).map V.int) none (some sg.length)=sg.map V.int:=by
 have hl:=xfB (aq _) h;rw[xaK,hl];have e:HT.sIx c.length c.length (some (sg.length:Int))=sg.length:=by
  simp only[HT.sIx];rw[if_neg (by lia)];simp;lia
 have e0:HT.sIx c.length 0 none=0:=rfl;rw[e,e0]
 congr 1
 unfold wrt;simp
def xdk(n:Nat):Str:=("done ":Str)++xx ((n:Int)+1)
def xkz(a:Adr):Sp:=fun vs H Q _=>∃(D:DK) (s:DS) (l:Addr) (us:List Int) (r:RM) (o:Int) (sg:List Int),vs=[.ref D.d,.ref l]/\yi a H D s/\H l=some (.lst (us.map V.int))/\Tbs H/\s.room=some r/\s.paper=some ⟨o,sg.length,[sg]⟩/\r.ns=[some 0,some 0]/\yy sg/\o<=r.c.length/\sg.length<=r.c.length/\r.c.length<=300/\0<=r.n/\r.n<=1000/\
 ((∃u:Nat,u<sg.length/\us=[(u:Int)]/\Res a H D s {s with room:=some ⟨wrt sg r.c u,r.ns,r.n+u+1,some (r.n+u)⟩} (Q (.str "fallen")))\/
  (us=[]/\Res a H D s {s with room:=some ⟨wrt sg r.c sg.length,[some 0,some 1],r.n+sg.length+1,none⟩,elder:=sg,begun:=false} (Q (.str (xdk sg.length)))))
def xaB(T:Txt w K mg a):xt P w K mg base CX0 8 a.q0n a.yQ ["self","numbers"] (xkz a):=by
 refine T.q0B.ok zX (fun vs H Q E h=>?_) (fun kS A outer s H vs Q E hr h=>?_)
 ·obtain⟨D,s,l,us,r,o,sg,rfl,_⟩:=h;rfl
 ·obtain⟨D,s,l,us,r,o,sg,rfl,hD,hl,hT,j8,hq,ky,hk,ho,hs,h3,kP,j9,h⟩:=h;have nd:=zX.nd;refine⟨_,(xc (xv (i:=2) nd rfl (aG rfl) (xA xF (yd (xE (cv 0) rfl) T.q0l T.q1Z (uF T) hr.m T.vA .nil xr) xk (fun _ _=>rfl)))
  (xc (xN (xS (xE (cv 0) rfl) T.q0l T.q2Q (xax T) hr.m T.xaL .nil xr (xa (xu (xfA T) hr.m (by rfl) T.xgz T.zC.kp T.xgy .nil xr (xa (cv 2) (xa (cv 1) xb))) xb)))
  (xc (xld ⟨rfl,rfl,rfl⟩ T.q40 (by rfl) T.xec (fun _ _=>(xh (xN (vJ ⟨rfl,rfl,rfl⟩ (xm0 T) hr.m (by rfl) T.xn8 T.q31.kp T.xn7 .nil (xa (xjg (K:=K) rfl (cv 0) rfl) (xa (xjg (K:=K) rfl (cv 0) rfl) xb)))))) (fun _ _ _=>(xh (xp xj))))
  (xc (xv (i:=3) nd rfl (aG rfl) (yd (xE (cv 0) rfl) T.q0l T.q1Z (uF T) hr.m T.vA .nil xr))
  (xc (xY (cv 0) (yG ub (xA xF (cv 3) xk (fun _ _=>rfl)) zF (yS (xA xF (xE (cv 0) rfl) xk (fun _ _=>rfl)))) rfl)
  (xc (xY (cv 0) yf rfl)
  (xc (xv (i:=4) nd rfl (aG rfl) (xy xgQ (xA xF (cv 3) xk (fun _ _=>rfl)) (cv 2)))
  (xh (xp (xjd (cv 4))))))))))),?_⟩
  obtain⟨fl,hS,hF,j9,kO⟩:=hD.room r j8;left;exists⟨D.d,_,D.dx,_,.ref D.S.st,rfl,hD.dks j8,T.q0e,T.q0y,rfl,?_⟩;refine⟨D.S.st,D.S.dx,_,rfl,hS.st,rfl,?_⟩;exists⟨D.S,_,_,_,fl,rfl,hS,fun t c m H1 s1 _ _ _ ht _ _=>?_⟩;refine⟨t,_,_,.int r.n,rfl,rfl,SqT.of ht,rfl,?_⟩;have kM:=hD.same s1;have kB:=hS.same s1;left;exists⟨D.d,_,D.dx,_,.ref D.S.st,rfl,kM.dks j8,T.q0e,T.q0y,rfl,?_⟩;refine⟨D.S.st,D.S.dx,_,rfl,kB.st,rfl,?_⟩;have kE:us.length<=1:=by rcases h with⟨u,_,rfl,_⟩|⟨rfl,_⟩<;> simp
  refine⟨r.n,l,us,rfl,s1.at hl,hT.same s1,kE,fun f H2 s2 kL=>?_⟩;have ki:=kB.same s2;have kh:=s1.trans s2;have kK:=hT.same kh;left;refine⟨D.S,_,_,_,fl,f,rfl,ki,fun H3 k3 kc=>?_⟩;have kd:=kL.kp ki.mu k3;have kf:=(hD.same kh).store j8 k3 kc kd;have kJ:=kK.kp ki.mu k3;have kr:Kp (SS D.S) H H3:=(Kp.of kh).trans k3;have kF:=kf.pap _ hq;rw[ky]at kc;left;exists⟨D.d,_,D.dx,_,.ref D.S.st,rfl,kf.dks rfl,T.q0e,T.q0y,rfl,?_⟩;exists⟨D.d,_,D.dx,_,.ref D.p,rfl,kf.dkp hq,T.q0e,T.q0p,rfl,?_⟩;refine⟨D.S,D.p,o,sg,r.c,r.n,f,_,rfl,kc,kd,kJ,kF.1,hk,ho,hs,fun hn=>?_,?_⟩
  ·rcases h with⟨u,_,rfl,_⟩|⟨rfl,k⟩
   ·cases hn
   intro H4 k4 kb;have kC:=kf.store rfl k4 kb (kd.kp kc.mu k4);left;exists⟨D.d,_,D.dx,_,.ref D.S.st,rfl,kC.dks rfl,T.q0e,T.q0y,rfl,?_⟩;refine⟨D.S.st,D.S.dx,_,rfl,kb.st,rfl,?_⟩;refine⟨D.S,_,_,_,f,rfl,kb,fun t2 c2 m2 H5 s5 kR _ _ ku kN _=>?_⟩;have kj:=kC.same s5;have kA:=kb.same s5;left;refine⟨t2,_,_,.ref c2,rfl,rfl,SqT.of ku,rfl,?_⟩;obtain⟨⟨tt,ts,kH,_⟩,_⟩:=kj.pap _ hq;left;exists⟨D.d,_,D.dx,_,.ref D.p,rfl,kj.dkp hq,T.q0e,T.q0p,rfl,?_⟩;exists⟨D.p,_,_,.int sg.length,rfl,rfl,SqT.of kH,rfl,?_⟩;exists⟨_,rfl,?_⟩;refine⟨c2,_,rfl,SqL.of kN,?_⟩;intro ce kz;generalize ka:upd H5 ce _=H6;have kg:=xf.of_eq kz ka;have km:=xn ka;clear ka;left;rw[xon hs]at km;have ke:=kj.same kg;refine⟨D.d,_,D.dx,_,rfl,ke.dk,T.q0e,T.q1Y,by walk_at"few",?_⟩;left;refine⟨D.d,_,D.dx,_,rfl,xl,T.q0e,T.q1d,by walk_at"few",?_⟩;rw[zl];refine gnr (upd H6 D.d _) fun H7 hU=>?_;have kk:Kp [D.d] H6 H7:=by rw[<-hU];exact(Kp.of (xf.refl _)).wr (by simp)
   have e7:H7 D.d=some (.ins a.q0f D.dx (dkF {D with el:=ce} {s with room:=some ⟨wrt sg r.c sg.length,[some 0,some 1],r.n+sg.length+1,none⟩,elder:=sg,begun:=false})):=by rw[<-hU,xl];rfl
   have ko:∀x∈[D.d],∃u,H6 x=some u/\ux u:=fun x hx=>by rw[ao.mp hx];exact⟨_,ke.dk,trivial⟩
   clear hU;left;exists⟨t2,_,_,.int (r.n+sg.length+1),rfl,rfl,SqT.of (xbt (kg.at ku) ko kk),rfl,?_⟩;refine bf (by decide) ?_;left;have eN:r.n+(sg.length:Int)+1 - r.n=(sg.length:Int)+1:=by lia
   have kn:Sm ((sg.length:Int)+1):=by have:=hk.few;unfold Sm;lia
   have eS:cX++("done ":Str)++aM (toString ((sg.length:Int)+1))=xdk sg.length:=congrArg (· ++aM (toString ((sg.length:Int)+1))) (W.KT.empty_app _);refine⟨_,rfl,by rw[eN];exact zQ kn,?_,?_⟩
   ·rw[eN,eS,ar];unfold xdk;have:=ze kn;rw[len_app,show("done ":Str).length=5 from rfl];lia
   rw[eN,eS];have kD:=kA.nin kz;refine k H7 {D with el:=ce} rfl ?_ (fun b hb=>.inl ?_) ⟨e7,kk _ _ km fun z=>?_,fun r' e=>?_,fun q' e=>?_⟩
   ·rw[LD.of j8];exact((((kr.trans k4).same s5).same kg).mono fun x hx=>aH _ hx).trans (kk.mono fun x hx=>by rw[ao.mp hx];exact ba)
   ·rw[LD.of j8];exact hb
   ·have:=km;have z:ce=D.d:=ao.mp z;rw[z,ke.dk]at this;cases this
   ·cases e;refine⟨.non,?_,rfl,j9,kD⟩;obtain rfl:f= .non:=kd;refine(kA.same kg).kp0 kk fun x hx=>?_;rw[ao.mp hx];simp only[ah,aW,or_false,not_or]at j9;exact⟨j9.1,j9.2.1,j9.2.2.1,j9.2.2.2⟩
   ·exact⟨(ke.pap q' e).1.kp ko kk,(ke.pap q' e).2⟩
  ·rcases h with⟨u,hu,rfl,k⟩|⟨rfl,_⟩
   rotate_left
   ·exact .inl rfl
   exists .inr ⟨u,hu,rfl,fun d H4 k4 kb _ _=>?_⟩;exists⟨a.q0a,rfl,T.q3w,fun ea kQ=>?_⟩;refine k H4 D rfl ?_ (fun b hb=>.inl ?_) ?_
   ·rw[LD.of j8];exact(kr.trans k4).mono fun x hx=>aH _ hx
   ·rw[LD.of j8];exact hb
   ·rw[ky];exact kf.store rfl k4 kb (kd.kp kc.mu k4)
def xeU:List (Str×Int×Option Int×Nat):=[("room",1,none,1),("rows",2,some 2,2),("take",3,some 3,3),("put",2,none,1),("make",1,none,1),("judge",0,some 0,0),("begin",0,some 0,0),("go",0,some 2,1),("cells",0,some 0,0),("paper",0,some 0,0)]
def uH:List Str:=["room","rows","take","put","make","judge","begin","go","cells","paper","","Go","gone","text","Judge"]
def yr(w:Str)(ns:List Int)(lo:Int)(hi:Option Int)(k:Nat):Bool:=
 !decide ((ns.length:Int)<lo)&& !(hi.any fun h=>decide ((ns.length:Int) > h))&& !((ns.take k).any fun i=>decide (i<0))&&
  (if w="room" then decide (ns.headD 0<=300)&&decide ((ns.length:Int) - 1<=ns.headD 0)else !decide (w="make")||decide (ns.headD 0≥1))
def listed(w:Str)(ns:List (Option Int)):Bool:=match xeU.lookup w with
 |none=>false
 |some (lo,hi,k)=> !ns.contains none&&yr w (ns.filterMap id) lo hi k
def wanted(s:DS)(w:Str):Bool:= !((decide (w="make")||decide (w="begin")||decide (w="cells"))&&s.room.isNone)&& !((decide (w="take")||decide (w="put")||decide (w="judge")||decide (w="begin")||decide (w="paper"))&&s.paper.isNone)&&(!decide (w="go")||s.begun)
def xkA(T:Txt w K mg a)(h:w'∈uH):(xeU.lookup w'=none/\w'∈(["","Go","gone","text","Judge"]:List Str))\/
  ∃lo hi k r,xeU.lookup w'=some (lo,hi,k)/\(w',r)∈[(("room":Str),a.q2x),("rows",a.q2y),("take",a.q2z),("put",a.q2A),("make",a.q2B),("judge",a.q2C),("begin",a.q2D),("go",a.q2E),("cells",a.q2F),("paper",a.q2G)]/\
   (∀H,SqT K H r [.int lo,nV hi,.int k])/\(w'="room"\/w'="make"->lo=1):=by
 have no:∀{w':Str},w'="room"\/w'="make"->w'≠"room"->w'≠"make"->∀{p:Prop},p:=fun h h1 h2=>absurd h (by rintro(z|z);exact h1 z;exact h2 z);unfold uH at h;rcases ah.mp h with rfl|h
 ·exact .inr ⟨_,_,_,a.q2x,rfl,aw (i:=0) rfl,T.xlx,fun _=>rfl⟩
 rcases ah.mp h with rfl|h
 ·exact .inr ⟨_,_,_,a.q2y,rfl,aw (i:=1) rfl,T.xly,fun z=>no z (by decide+kernel) (by decide+kernel)⟩
 rcases ah.mp h with rfl|h
 ·exact .inr ⟨_,_,_,a.q2z,rfl,aw (i:=2) rfl,T.xlz,fun z=>no z (by decide+kernel) (by decide+kernel)⟩
 rcases ah.mp h with rfl|h
 ·exact .inr ⟨_,_,_,a.q2A,rfl,aw (i:=3) rfl,T.xlA,fun z=>no z (by decide+kernel) (by decide+kernel)⟩
 rcases ah.mp h with rfl|h
 ·exact .inr ⟨_,_,_,a.q2B,rfl,aw (i:=4) rfl,T.xlB,fun _=>rfl⟩
 rcases ah.mp h with rfl|h
 ·exact .inr ⟨_,_,_,a.q2C,rfl,aw (i:=5) rfl,T.xlC,fun z=>no z (by decide+kernel) (by decide+kernel)⟩
 rcases ah.mp h with rfl|h
 ·exact .inr ⟨_,_,_,a.q2D,rfl,aw (i:=6) rfl,T.xlD,fun z=>no z (by decide+kernel) (by decide+kernel)⟩
 rcases ah.mp h with rfl|h
 ·exact .inr ⟨_,_,_,a.q2E,rfl,aw (i:=7) rfl,T.xlE,fun z=>no z (by decide+kernel) (by decide+kernel)⟩
 rcases ah.mp h with rfl|h
 ·exact .inr ⟨_,_,_,a.q2F,rfl,aw (i:=8) rfl,T.xlF,fun z=>no z (by decide+kernel) (by decide+kernel)⟩
 rcases ah.mp h with rfl|h
 ·exact .inr ⟨_,_,_,a.q2G,rfl,aw (i:=9) rfl,T.xlG,fun z=>no z (by decide+kernel) (by decide+kernel)⟩
 rcases ah.mp h with rfl|h
 ·exact .inl ⟨by decide+kernel,aw (i:=0) rfl⟩
 rcases ah.mp h with rfl|h
 ·exact .inl ⟨by decide+kernel,aw (i:=1) rfl⟩
 rcases ah.mp h with rfl|h
 ·exact .inl ⟨by decide+kernel,aw (i:=2) rfl⟩
 rcases ah.mp h with rfl|h
 ·exact .inl ⟨by decide+kernel,aw (i:=3) rfl⟩
 rcases ah.mp h with rfl|h
 ·exact .inl ⟨by decide+kernel,aw (i:=4) rfl⟩
 cases h
def xoo(ns:List (Option Int)):(ns.map nV).all jE=true:=by
 rw[List.all_map,bh];intro x _;cases x<;> rfl
theorem xop(ns:List (Option Int)):inV .non (ns.map nV)=ns.contains none:=by
 unfold inV;rw[gG]
 induction ns with
 |nil=>rfl
 |cons x r ih=>rw[cC,eC,ih];cases x<;> rfl
theorem xjs:∀{ns:List (Option Int)},ns.contains none=false->∃is:List Int,ns=is.map some
 |[],_=>⟨[],rfl⟩
 |none::r,h=>by rw[eC]at h;cases h
 |some x::r,h=>by
  rw[eC,ix]at h;obtain⟨is,rfl⟩:=xjs h.2;exact⟨x::is,rfl⟩
def xjt(is:List Int):(is.map some).filterMap id=is:=by simp[iU]
def xh7(is:List Int)(k:Nat):uo (is.map V.int) none (some (k:Int))=(is.take k).map V.int:=by
 rw[xaK];have e0:HT.sIx is.length 0 none=0:=rfl;have e:HT.sIx is.length is.length (some (k:Int))=min k is.length:=by
  simp only[HT.sIx];rw[if_neg (by lia)];simp
 rw[e,e0]
 congr 1
 rw[h9,Nat.sub_zero,List.take_eq_take_iff];lia
def zH(x:Int)(xs:List Int):atI ((x::xs).map V.int) 0=some (.int x):=ua (j:=0) rfl
def xh8(K:ay):Sp:=fun vs H Q _=>∃(w:Str) (l:Addr) (ns:List (Option Int)),vs=[.str w,.ref l]/\H l=some (.lst (ns.map nV))/\ns.length<=400/\w∈uH/\∀H',xf H H'->Q (.bl (listed w ns)) H'
theorem xh9(T:Txt w K mg a):xt P w K mg base CX0 1 a.q2e a.xa9 ["word","numbers"] (xh8 K):=by
 refine T.q2k.ok xcZ (fun vs H Q E h=>?_) (fun kj A outer s H vs Q E hr h=>?_)
 ·obtain⟨w',l,ns,rfl,_⟩:=h;rfl
 ·obtain⟨w',l,ns,rfl,hl,hn,hw,q⟩:=h;have nd:=xcZ.nd;refine⟨_,(xc (xC (PW.pt (zi (xjV (xj7 (cv 0) (xZ (v:=.ref a.q0v) (by rfl) T.xjk rfl)) (by rfl)) (zM (xG xcr yW (cv 1) (by rfl))))) (xh (xp yf)) xq)
  (xc (xv (i:=2) nd rfl (aG rfl) (xmL (xZ (v:=.ref a.q0v) (by rfl) T.xjk rfl) (cv 0) (fun _ _=>rfl)))
  (xc (xC (PW.pt (zi (xG xdT (xw xJ (by rfl) T.q1l yl (xa (cv 1) xb)) (xA xF (cv 2) xk (fun _ _=>rfl))) (zM (PW.pt (xet (xdc (xA xF (cv 2) xk (fun _ _=>rfl))) (xc9 (xG xg7 (xw xJ (by rfl) T.q1l yl (xa (cv 1) xb)) (xA xF (cv 2) xk (fun _ _=>rfl))))))))) (xh (xp yf)) xq)
  (xc (xC (xW (xw (xk9 rfl) (by rfl) T.q63 xpe (xa (ud (zB (cap:=[]) (ys:=[]) rfl rfl rfl rfl rfl trivial (by decide+kernel)) rfl (ya (yG ub (cv 1) zF (yS (xA xF (cv 2) xk (fun _ _=>rfl))))) (fun _ _ _ _=>(yn xdT (cv 0) xk)) (fun _ _ _ _=>zm)) xb))) (xh (xp yf)) xq)
  (xc (xC (xG zu (cv 0) xj) (xh (xp (yJ (yn xg6 (xA yb (cv 1) xk (fun _ _=>rfl)) (xZ (v:=.int 300) (by rfl) T.xhF ⟨_,rfl⟩)) (yX (yn xg6 (xy xgQ (xw xJ (by rfl) T.q1l yl (xa (cv 1) xb)) xk) (xA yb (cv 1) xk (fun _ _=>rfl))))))) xq)
  (xh (xp (xnk (yn vQ (cv 0) xj) (yX (yn xjL (xA yb (cv 1) xk (fun _ _=>rfl)) xk)))))))))),?_⟩
  left;refine⟨_,_,_,w',rfl,rfl,T.xjl,?_⟩;rcases xkA T hw with⟨hf,kh⟩|⟨lo,hi,k,r,hf,hm,ke,j9⟩
  ·refine .inr ⟨kh,?_⟩;refine⟨fun _=>⟨fun _=>?_,by walk_at"no"⟩,by walk_at"no"⟩;left;have:=q H (xf.refl _);unfold listed at this;rw[hf]at this;exact this
  refine .inl ⟨⟨r,hm⟩,?_⟩;walk_at"n";refine⟨l,_,rfl,.inl (SqL.of hl),rfl,xoo ns,?_⟩;rw[if_neg (by decide),xop];unfold listed at q;rw[hf]at q;cases hc:ns.contains none with
  |true=>
   walk_at"y";have:=q H (xf.refl _);rw[hc]at this;exact this
  |false=>
   walk_at"N";obtain⟨is,rfl⟩:=xjs hc;rw[hc,xjt]at q;have kc:H l=some (.lst (is.map V.int)):=by rw[dy]at hl;exact hl
   have hlen:(is.map V.int).length=is.length:=ag _;rw[ag]at hn;left;exists⟨_,_,_,w',r,rfl,rfl,T.xjl,hm,?_⟩;refine⟨l,_,rfl,.inl (SqL.of kc),?_⟩;rw[hlen];left;refine⟨r,_,_,.int lo,rfl,rfl,ke _,rfl,?_⟩;have q2:∀H',xf H H'->Q (.bl (yr w' is lo hi k)) H':=fun H' e=>by simpa using q H' e
   clear q;left;have fin:∀H',xf H H'->yr w' is lo hi k=false->Q (.bl false) H':=fun H' e z=>by have:=q2 H' e;rw[z]at this;exact this
   refine⟨fun b=>⟨fun _=>?_,by walk_at"no"⟩,fun b1=>?_⟩
   ·left;exact fin H (xf.refl _) (by unfold yr;rw[b];rfl)
   left;exists⟨r,_,_,nV hi,rfl,rfl,ke _,rfl,?_⟩;have h2:(hi.any fun h=>decide ((is.length:Int) > h))=true->Q (.bl false) H:=fun z=>fin H (xf.refl _) (by unfold yr;rw[z];simp);refine⟨fun b=>?_,fun b=>?_⟩
   ·cases hi with
    |none=>cases b
    |some h=>
     left;refine⟨l,_,rfl,.inl (SqL.of kc),?_⟩;rw[hlen];left;exists⟨r,_,_,.int h,rfl,rfl,ke _,rfl,?_⟩;refine⟨h2,fun b2=>?_⟩
     replace b2:((some h).any fun h=>decide ((is.length:Int) > h))=false:=b2
     left;exists⟨r,_,_,.int k,rfl,rfl,ke _,rfl,?_⟩;exists⟨_,rfl,?_⟩;refine⟨l,_,rfl,SqL.of kc,?_⟩;intro sl kg;generalize j8:upd H sl _=H1;have kf:=xf.of_eq kg j8;have kb:=xn j8;clear j8;left;rw[xh7]at kb;refine⟨sl,rfl,⟨_,SqL.of kb⟩,?_⟩;refine ue (fun i acc _=>acc=((is.take k).take i).map fun i=>V.bl (decide (i<0))) (SqL.of kb) (by rw[ag,ar,bw];lia) rfl (fun j y acc G3 G3' hy t3 kd hP R hR=>?_) (fun D acc G3 G3' hD ki t3 kd hP hle he=>?_)
     ·rw[az]at hy;obtain⟨m,hm,rfl⟩:=aE.mp hy;left;refine hR _ _ (xf.refl _) fun H7 _ _=>?_;rw[hP,bj,hm,bt];rfl
     rw[ag,bo]at hP;rw[hP]at he;have sA:xf H G3':=kf.trans (t3.trans kd);left;refine⟨D,(is.take k).map fun i=>decide (i<0),rfl,SqL.of (by rw[he,dy];rfl),?_⟩;have eA:((is.take k).map fun i=>decide (i<0)).any id=(is.take k).any fun i=>decide (i<0):=by rw[gG];rfl
     left;refine⟨fun b3=>?_,fun b3=>?_⟩
     ·replace b3:=eA.symm.trans b3
      left;exact fin _ sA (by unfold yr;rw[b3];simp)
     replace b3:=eA.symm.trans b3
     unfold yr at q2;rw[b1,b2,b3]at q2;have ka:=sA.at kc;left;refine⟨fun b4=>?_,fun b4=>?_⟩
     ·have e4:w'="room":=of_decide_eq_true b4;obtain⟨x,xs,rfl⟩:∃x xs,is=x::xs:=by
       cases is with
       |nil=>rw[j9 (.inl e4)]at b1;cases b1
       |cons x xs=>exact⟨x,xs,rfl⟩
      rw[if_pos e4]at q2;left;exists⟨l,_,_,.int x,rfl,rfl,SqL.of ka,zH x xs,?_⟩;refine⟨fun b5=>?_,fun b5=>?_⟩
      ·left;refine⟨l,_,rfl,.inl (SqL.of ka),?_⟩;rw[hlen];left;refine⟨l,_,_,.int x,rfl,rfl,SqL.of ka,zH x xs,?_⟩;have:=q2 _ sA;rw[show decide ((x::xs).headD 0<=300)=true from b5]at this;exact this
      ·have:=q2 _ sA;rw[show decide ((x::xs).headD 0<=300)=false from b5]at this;exact this
     ·have e4:¬w'="room":=of_decide_eq_false b4;rw[if_neg e4]at q2;left;refine⟨fun b5=>?_,fun b5=>?_⟩
      ·have:=q2 _ sA;rw[show(!decide (w'="make"))=true from b5]at this;exact this
      have e5:w'="make":=of_decide_eq_true (by simpa using b5);obtain⟨x,xs,rfl⟩:∃x xs,is=x::xs:=by
       cases is with
       |nil=>rw[j9 (.inr e5)]at b1;cases b1
       |cons x xs=>exact⟨x,xs,rfl⟩
      left;refine⟨l,_,_,.int x,rfl,rfl,SqL.of ka,zH x xs,?_⟩;have:=q2 _ sA;rw[show(!decide (w'="make"))=false from b5]at this;exact this
   ·have b2:(hi.any fun h=>decide ((is.length:Int) > h))=false:=by
     cases hi with
     |none=>rfl
     |some h=>cases b
    walk_at"n";exists⟨r,_,_,.int k,rfl,rfl,ke _,rfl,?_⟩;exists⟨_,rfl,?_⟩;refine⟨l,_,rfl,SqL.of kc,?_⟩;intro sl kg;generalize j8:upd H sl _=H1;have kf:=xf.of_eq kg j8;have kb:=xn j8;clear j8;left;rw[xh7]at kb;refine⟨sl,rfl,⟨_,SqL.of kb⟩,?_⟩;refine ue (fun i acc _=>acc=((is.take k).take i).map fun i=>V.bl (decide (i<0))) (SqL.of kb) (by rw[ag,ar,bw];lia) rfl (fun j y acc G3 G3' hy t3 kd hP R hR=>?_) (fun D acc G3 G3' hD ki t3 kd hP hle he=>?_)
    ·rw[az]at hy;obtain⟨m,hm,rfl⟩:=aE.mp hy;left;refine hR _ _ (xf.refl _) fun H7 _ _=>?_;rw[hP,bj,hm,bt];rfl
    rw[ag,bo]at hP;rw[hP]at he;have sA:xf H G3':=kf.trans (t3.trans kd);left;refine⟨D,(is.take k).map fun i=>decide (i<0),rfl,SqL.of (by rw[he,dy];rfl),?_⟩;have eA:((is.take k).map fun i=>decide (i<0)).any id=(is.take k).any fun i=>decide (i<0):=by rw[gG];rfl
    left;refine⟨fun b3=>?_,fun b3=>?_⟩
    ·replace b3:=eA.symm.trans b3
     left;exact fin _ sA (by unfold yr;rw[b3];simp)
    replace b3:=eA.symm.trans b3
    unfold yr at q2;rw[b1,b2,b3]at q2;have ka:=sA.at kc;left;refine⟨fun b4=>?_,fun b4=>?_⟩
    ·have e4:w'="room":=of_decide_eq_true b4;obtain⟨x,xs,rfl⟩:∃x xs,is=x::xs:=by
      cases is with
      |nil=>rw[j9 (.inl e4)]at b1;cases b1
      |cons x xs=>exact⟨x,xs,rfl⟩
     rw[if_pos e4]at q2;left;exists⟨l,_,_,.int x,rfl,rfl,SqL.of ka,zH x xs,?_⟩;refine⟨fun b5=>?_,fun b5=>?_⟩
     ·left;refine⟨l,_,rfl,.inl (SqL.of ka),?_⟩;rw[hlen];left;refine⟨l,_,_,.int x,rfl,rfl,SqL.of ka,zH x xs,?_⟩;have:=q2 _ sA;rw[show decide ((x::xs).headD 0<=300)=true from b5]at this;exact this
     ·have:=q2 _ sA;rw[show decide ((x::xs).headD 0<=300)=false from b5]at this;exact this
    ·have e4:¬w'="room":=of_decide_eq_false b4;rw[if_neg e4]at q2;left;refine⟨fun b5=>?_,fun b5=>?_⟩
     ·have:=q2 _ sA;rw[show(!decide (w'="make"))=true from b5]at this;exact this
     have e5:w'="make":=of_decide_eq_true (by simpa using b5);obtain⟨x,xs,rfl⟩:∃x xs,is=x::xs:=by
      cases is with
      |nil=>rw[j9 (.inr e5)]at b1;cases b1
      |cons x xs=>exact⟨x,xs,rfl⟩
     left;refine⟨l,_,_,.int x,rfl,rfl,SqL.of ka,zH x xs,?_⟩;have:=q2 _ sA;rw[show(!decide (w'="make"))=false from b5]at this;exact this
def xia(w':Str)(ws:List Str):inV (.str w') (ws.map V.str)=ws.any fun y=>decide (y=w'):=by
 unfold inV;rw[gG];rfl
theorem xib{b1 b2:Bool}{X:Prop}{F:Bool->Prop}(hX:F b2->X)(h:F (b1&&b2)):(b1=true->X)/\(b1=false->F false):=by
 cases b1 with
 |true=>exact⟨fun _=>hX h,fun z=>nomatch z⟩
 |false=>exact⟨fun z=>(nomatch z),fun _=>h⟩
def xpI(D:DK)(r:Option RM):isN (rmV D r)=r.isNone:=by cases r<;> rfl
def xpJ(D:DK)(r:Option PP):isN (ppV D r)=r.isNone:=by cases r<;> rfl
def xqy(w':Str):(decide (w'="make")||decide (w'="begin")||decide (w'="cells"))=inV (.str w') [.str "make",.str "begin",.str "cells"]:=by
 have:=xia w' ["make","begin","cells"];rw[show inV (.str w') [.str "make",.str "begin",.str "cells"]=_ from this];simp only[cC,List.any_nil,fY,Bool.or_assoc,eq_comm]
def xqz(w':Str):(decide (w'="take")||decide (w'="put")||decide (w'="judge")||decide (w'="begin")||decide (w'="paper"))=inV (.str w') [.str "take",.str "put",.str "judge",.str "begin",.str "paper"]:=by
 have:=xia w' ["take","put","judge","begin","paper"];rw[show inV (.str w') [.str "take",.str "put",.str "judge",.str "begin",.str "paper"]=_ from this];simp only[cC,List.any_nil,fY,Bool.or_assoc,eq_comm]
def xlW(a:Adr):Sp:=fun vs H Q _=>∃(D:DK) (s:DS) (w:Str),vs=[.ref D.d,.str w]/\yi a H D s/\Q (.bl (wanted s w)) H
def ju(T:Txt w K mg a):xt P w K mg base CX0 1 a.q0k a.yD ["self","word"] (xlW a):=by
 refine T.q0w.ok zD (fun vs H Q E h=>?_) (fun j8 A outer s H vs Q E hr h=>?_)
 ·obtain⟨D,s,w',rfl,_⟩:=h;rfl
 ·obtain⟨D,s,w',rfl,hD,q⟩:=h;have nd:=zD.nd;refine⟨_,(xc (xC (PW.pt (xet (xG xcr (cv 1) (xZ (v:=.ref a.q2f) (by rfl) T.xiE rfl) (by rfl)) (xc9 (jS (xE (cv 0) rfl))))) (xh (xp yf)) xq)
  (xc (xC (PW.pt (xet (xG xcr (cv 1) (xZ (v:=.ref a.q1M) (by rfl) T.xhG rfl) (by rfl)) (xc9 (jS (xE (cv 0) rfl))))) (xh (xp yf)) xq)
  (xh (xp (xnk (yn vQ (cv 1) xj) (yX (xE (cv 0) rfl))))))),?_⟩
  left;exists⟨_,[.str "make",.str "begin",.str "cells"],rfl,.inr (T.xiF _),rfl,rfl,?_⟩;unfold wanted at q;rw[xqy,xqz]at q;refine xib (F:=fun b=>(b=true->_)/\(b=false->_)) (b2:=s.room.isNone) (fun hF=>?_) ?_
  ·left;exists⟨D.d,_,D.dx,_,rmV D s.room,rfl,hD.dk,T.q0e,T.q0y,rfl,?_⟩;rw[xpI];exact hF
  rw[if_neg (by decide)];refine⟨fun b=>?_,fun b=>?_⟩
  ·rw[b]at q;left;exact q
  rw[b]at q;clear b;left;exists⟨_,[.str "take",.str "put",.str "judge",.str "begin",.str "paper"],rfl,.inr (T.xhH _),rfl,rfl,?_⟩;refine xib (F:=fun b=>(b=true->_)/\(b=false->_)) (b2:=s.paper.isNone) (fun hF=>?_) ?_
  ·left;exists⟨D.d,_,D.dx,_,ppV D s.paper,rfl,hD.dk,T.q0e,T.q0p,rfl,?_⟩;rw[xpJ];exact hF
  rw[if_neg (by decide)];refine⟨fun b=>?_,fun b=>?_⟩
  ·rw[b]at q;left;exact q
  rw[b]at q;clear b;left;refine⟨fun b=>?_,fun b=>?_⟩
  ·rw[show(!decide (w'="go"))=true from b]at q;exact q
  rw[show(!decide (w'="go"))=false from b]at q;left;refine⟨D.d,_,D.dx,_,.bl s.begun,rfl,hD.dk,T.q0e,T.q1d,rfl,?_⟩;exact q
def xc5(K:ay)(H:Hp)(v:V):Prop:=yh K H v (.type "NoneType")\/yh K H v (.type "int")\/yh K H v (.type "bool")\/yh K H v (.type "list")\/yh K H v (.type "tuple")\/yh K H v (.type "dict")
def xiS(K:ay)(a:Adr):Sp:=fun vs H Q E=>∃v:V,vs=[v]/\((∃z:Str,v= .str z/\z.length<=100000/\∀(l:Addr) (H':Hp),xf H H'->H' l=some (.lst ((PySem.Txt.split z " ").map V.str))->Q (.ref l) H')\/(xc5 K H v/\E (.ref a.q0d) none H))
def xiT(T:Txt w K mg a):xt P w K mg base (CXE P w) 1 a.q2K a.xb1 ["row"] (xiS K a):=by
 refine T.q2N.okX xdL (fun vs H Q E h=>?_) (fun j8 A outer s H vs Q E hr h=>?_)
 ·obtain⟨v,rfl,_⟩:=h;rfl
 ·obtain⟨v,rfl,h⟩:=h;have nd:=xdL.nd;refine⟨_,(xc (xC (uy (xW (xw zv (by rfl) T.q0j xH (xa (cv 0) (xa (vE (v:=.ty "str") (by rfl) T.q3s uz rfl) xb))))) (xh (jT ⟨rfl,rfl,rfl⟩ rfl T.q4v (by rfl) T.xb3 (xa xj xb))) xq)
  (xh (xp (zh PySem.F.plainAttrs_str PySem.F.slot_str_split PySem.F.type_str_split xlm (cv 0) (xa xj xb))))),?_⟩
  rcases h with⟨z,rfl,hz,k⟩|⟨ht,k⟩
  ·left;exists⟨_,_,_,_,true,rfl,rfl,yh.str _,rfl,?_⟩;walk_at"n";exists bf rfl ?_;refine⟨z," ",rfl,rfl,by decide,by rw[ar];lia,fun l hl=>?_⟩;exact k l _ (xf.new hl) xl
  ·left;rcases ht with h|h|h|h|h|h
   all_goals
    exists⟨_,_,_,_,false,rfl,rfl,h,rfl,?_⟩;walk_at"y";exact⟨by walk_at"side",k⟩
def xeV(q:PP):Str:=PySem.Txt.replace (xgY (lns q.o q.n q.rs)) "\n" "; "
def yo(c:List Int):Str:=a5 ⟨#[32]⟩ (c.map xx)
inductive Ans(a:Adr)(H:Hp)(D:DK)(s:DS)(Q:VK)(E:XK):Str->List Int->Prop
 |room (size:Nat) (text:List Int) (h1:text.length<=size) (h2:size<=300) (k:Res a H D s ⟨some ⟨text++aK (size - text.length) 0,[some 0,some 0],0,none⟩,text,s.paper,false⟩ (Q (.str "ok"))):Ans a H D s Q E "room" ((size:Int)::text)
 |rows (o n:Int) (h:POk o n []) (k:Res a H D s {s with paper:=some ⟨o,n,[]⟩,begun:=false} (Q (.str "ok"))):Ans a H D s Q E "rows" [o,n]
 |put (o:Int) (sg:List Int) (h:yy sg) (hp:s.paper=some ⟨o,sg.length,[]⟩) (k:Res a H D s {s with paper:=some ⟨o,sg.length,[sg]⟩,begun:=false} (Q (.str "ok"))):Ans a H D s Q E "put" (0::sg)
 |take (i j:Int) (h1:0<=i) (h2:0<=j) (k:∀H',xf H H'->E (.ref a.q0b) none H'):Ans a H D s Q E "take" [i,j,0]
 |judge (q:PP) (hq:s.paper=some q) (hl:yE q.n q.rs=false) (k:∀H',xf H H'->Q (.str "none") H'):Ans a H D s Q E "judge" []
 |begin (q:PP) (r:RM) (hq:s.paper=some q) (hr:s.room=some r) (h2:r.ns.length=2)
   (k:(yE q.n q.rs=true/\∀d H',xf H H'->(∃fs,H' d=some (.xd fs))->E (.ref a.q0c) (some d) H')\/(yE q.n q.rs=false/\q.o≠s.elder.length/\∀H',xf H H'->E (.ref a.q0g) none H')\/
    (yE q.n q.rs=false/\q.o=s.elder.length/\Res a H D s {s with room:=some ⟨r.c,[some 0,some 0],r.n+1+1,none⟩,begun:=true} (Q (.str "ok")))):Ans a H D s Q E "begin" []
 |go (us:List Int) (r:RM) (o:Int) (sg:List Int) (hr:s.room=some r) (hq:s.paper=some ⟨o,sg.length,[sg]⟩) (h1:r.ns=[some 0,some 0]) (h2:yy sg) (h3:o<=r.c.length) (h4:sg.length<=r.c.length) (h5:r.c.length<=300) (h6:0<=r.n) (h7:r.n<=1000)
   (k:(∃u:Nat,u<sg.length/\us=[(u:Int)]/\Res a H D s {s with room:=some ⟨wrt sg r.c u,r.ns,r.n+u+1,some (r.n+u)⟩} (Q (.str "fallen")))\/
    (us=[]/\Res a H D s {s with room:=some ⟨wrt sg r.c sg.length,[some 0,some 1],r.n+sg.length+1,none⟩,elder:=sg,begun:=false} (Q (.str (xdk sg.length))))):Ans a H D s Q E "go" us
 |cells (r:RM) (hr:s.room=some r) (h1:r.c.length<=300) (h2:∀x∈r.c,Sm x) (k:∀H',xf H H'->Q (.str (yo r.c)) H'):Ans a H D s Q E "cells" []
 |paper (q:PP) (hq:s.paper=some q) (k:∀H',xf H H'->Q (.str (xeV q)) H'):Ans a H D s Q E "paper" []
theorem Ans.same(h:Ans a H D s Q E w' ns)(e:xf H H'):Ans a H' D s Q E w' ns:=by
 cases h with
 |room size text h1 h2 k=>exact .room size text h1 h2 (k.imp e)
 |rows o n h k=>exact .rows o n h (k.imp e)
 |put o sg h hp k=>exact .put o sg h hp (k.imp e)
 |take i j h1 h2 k=>exact .take i j h1 h2 fun G z=>k G (e.trans z)
 |judge q hq hl k=>exact .judge q hq hl fun G z=>k G (e.trans z)
 |begin q r hq hr h2 k=>exact .begin q r hq hr h2 (k.imp (fun z=>⟨z.1,fun d G y x=>z.2 d G (e.trans y) x⟩) fun z=>z.imp (fun z=>⟨z.1,z.2.1,fun G y=>z.2.2 G (e.trans y)⟩) fun z=>⟨z.1,z.2.1,z.2.2.imp e⟩)
 |go us r o sg hr hq h1 h2 h3 h4 h5 h6 h7 k=>exact .go _ r o sg hr hq h1 h2 h3 h4 h5 h6 h7 (k.imp (fun⟨u,z1,z2,z3⟩=>⟨u,z1,z2,z3.imp e⟩) fun z=>⟨z.1,z.2.imp e⟩)
 |cells r hr h1 h2 k=>exact .cells r hr h1 h2 fun G z=>k G (e.trans z)
 |paper q hq k=>exact .paper q hq fun G z=>k G (e.trans z)
def xju(x:Int)(xs:List Int):uo ((x::xs).map V.int) (some 1) none=xs.map V.int:=by
 rw[xaK];have e0:HT.sIx (x::xs).length 0 (some 1)=1:=by
  simp only[HT.sIx];rw[if_neg (by decide)];simp
 have e:HT.sIx (x::xs).length (x::xs).length none=(x::xs).length:=rfl;rw[e,e0];simp
def xic(a:Adr):Sp:=fun vs H Q E=>∃(D:DK) (s:DS) (w:Str) (l:Addr) (ns:List Int),vs=[.ref D.d,.str w,.ref l]/\yi a H D s/\Tbs H/\H l=some (.lst (ns.map V.int))/\l≠D.d/\Ans a H D s Q E w ns
theorem xds(T:Txt w K mg a):xt P w K mg base (CXE P w) 10 a.q0G a.uV ["self","word","numbers"] (xic a):=by
 refine T.q1i.okX jy (fun vs H Q E h=>?_) (fun kC A outer s H vs Q E hr h=>?_)
 ·obtain⟨D,s,w',l,ns,rfl,_⟩:=h;rfl
 ·obtain⟨D,s,w',l,ns,rfl,hD,hT,hl,kB,h⟩:=h;have nd:=jy.nd;refine⟨_,(xn6 zu (cv 1) (xh (xp (xS (cv 0) T.q0e T.q3F (xek T) hr.m T.xeL .nil xr (xa (xA yb (cv 2) xk (fun _ _=>rfl)) (xa (yG ub (cv 2) (yS xk) zF) xb))))) xq
  (zr (xC (xG zu (cv 1) xj) (xh (xp (xS (cv 0) T.q0e T.q2l (jB T) hr.m T.xao .nil xr (xa (yA (xa (xA yb (cv 2) xk (fun _ _=>rfl)) (xa (xA yb (cv 2) xk (fun _ _=>rfl)) (xa (yA xb) xb)))) xb)))) xq)
  (zr (xC (xG zu (cv 1) xj) (xh (xp (yK ⟨rfl,rfl,rfl⟩ (cv 0) T.q0e T.q23 (xaQ T) hr.m T.xbh .nil (xa (yA (xa xj (xa (xA yb (cv 2) xk (fun _ _=>rfl)) (xa (xA yb (cv 2) xk (fun _ _=>rfl)) (xa (xA yb (cv 2) xk (fun _ _=>rfl)) xb))))) xb)))) xq)
  (zr (xC (xG zu (cv 1) xj) (xh (xp (yK ⟨rfl,rfl,rfl⟩ (cv 0) T.q0e T.q23 (xaQ T) hr.m T.xbh .nil (xa (yA (xa xj (xa (xA yb (cv 2) xk (fun _ _=>rfl)) (xa (xU vY (by rfl) T.q3H vG (xa (yG ub (cv 2) (yS xk) zF) xb)) xb)))) xb)))) xq)
  (zr (xC (xG zu (cv 1) xj) zc xq)
  (zr (xC (xG zu (cv 1) xj) (xh (xp (yd (cv 0) T.q0e T.q22 (xck T) hr.m T.xcO .nil xr))) xq)
  (zr (xC (xG zu (cv 1) xj) (xh (xp (xf5 ⟨rfl,rfl,rfl⟩ (cv 0) T.q0e T.q21 (xcl T) hr.m T.xcP .nil))) xq)
  (zr (xC (xG zu (cv 1) xj) (xh (xp (xS (cv 0) T.q0e T.q1R (xaB T) hr.m T.xaD .nil xr (xa (cv 2) xb)))) xq)
  (zr (xC (xG zu (cv 1) xj) (xh (xp (xu (xgf T) hr.m (by rfl) T.xb9 T.q3a.kp T.xhy .nil xr (xa (xA xF (yd (xE (cv 0) rfl) T.q0l T.q1Z (uF T) hr.m T.vA .nil xr) xk (fun _ _=>rfl)) xb)))) xq)
  (xmN (xn5 (xmO (xu (xgM T) hr.m (by rfl) T.xhB T.q1O.kp T.xhA .nil xr (xa (xE (cv 0) rfl) xb)) rfl)))))))))))),?_⟩
  cases h with
  |room size text h1 h2 k=>
   left;walk_at"y";refine⟨D.d,D.dx,_,rfl,hD.dk,rfl,?_⟩;exists⟨l,_,_,.int size,rfl,rfl,SqL.of hl,zH _ _,?_⟩;exists⟨_,rfl,?_⟩;refine⟨l,_,rfl,SqL.of hl,?_⟩;intro tl kh;generalize j8:upd H tl _=H1;have j9:=xf.of_eq kh j8;have kf:=xn j8;clear j8;left;rw[xju]at kf;exact⟨D,s,size,tl,text,rfl,hD.same j9,kf,h1,h2,k.imp j9⟩
  |rows o n h k=>
   left
   iterate 1 (walk_at"n")
   walk_at"y";refine⟨D.d,D.dx,_,rfl,hD.dk,rfl,?_⟩;exists⟨l,_,_,.int o,rfl,rfl,SqL.of hl,zH _ _,?_⟩;exists⟨l,_,_,.int n,rfl,rfl,SqL.of hl,ua (j:=1) rfl,?_⟩;walk_at"ss";intro t0 ko;generalize kb:upd H t0 _=H1;have j9:=xf.of_eq ko kb;have kz:=xn kb;clear kb;right;intro p0 kr;generalize kd:upd H1 p0 _=H2;have kg:=xf.of_eq kr kd;have kA:=xn kd;clear kd;left;have km:=j9.trans kg;exact⟨D,s,p0,⟨o,n,[]⟩,rfl,hD.same km,⟨t0,[],kA,kg.at kz,.nil⟩,h,k.imp km⟩
  |put o sg h hp k=>
   left
   iterate 3 (walk_at"n")
   walk_at"y";refine⟨D.d,D.dx,_,rfl,hD.dk,rfl,?_⟩;exists⟨l,_,_,.int 0,rfl,rfl,SqL.of hl,zH _ _,?_⟩;exists⟨_,rfl,?_⟩;refine⟨l,_,rfl,SqL.of hl,?_⟩;intro tl kh;generalize j8:upd H tl _=H1;have j9:=xf.of_eq kh j8;have kf:=xn j8;clear j8;left;rw[xju]at kf;refine⟨tl,_,rfl,.inl ⟨SqL.of kf,?_⟩⟩;intro tu kn;generalize ka:upd H1 tu _=H2;have kg:=xf.of_eq kn ka;have ky:=xn ka;clear ka;right;intro t ht;generalize kc:upd H2 t _=H3;have ki:=xf.of_eq ht kc;have et:=xn kc;clear kc;left;have kj:=j9.trans (kg.trans ki);exact⟨D,s,t,rfl,hD.same kj,.inl ⟨sg,o,⟨tu,et,ki.at ky⟩,h,hp,k.imp kj⟩⟩
  |take i j h1 h2 k=>
   left
   iterate 2 (walk_at"n")
   walk_at"y";refine⟨D.d,D.dx,_,rfl,hD.dk,rfl,?_⟩;exists⟨l,_,_,.int i,rfl,rfl,SqL.of hl,zH _ _,?_⟩;exists⟨l,_,_,.int j,rfl,rfl,SqL.of hl,ua (j:=1) rfl,?_⟩;exists⟨l,_,_,.int 0,rfl,rfl,SqL.of hl,ua (j:=2) rfl,?_⟩;walk_at"ss";intro t ht;generalize kc:upd H t _=H1;have j9:=xf.of_eq ht kc;have et:=xn kc;clear kc;left;exact⟨D,s,t,rfl,hD.same j9,.inr ⟨⟨i,j,h1,h2,et⟩,fun H' z=>k H' (j9.trans z)⟩⟩
  |judge q hq ku k=>
   left
   iterate 5 (walk_at"n")
   walk_at"y";exists⟨D.d,D.dx,_,rfl,hD.dk,rfl,?_⟩;exact⟨D,s,q,rfl,hD,hq,ku,k⟩
  |begin q r hq ke h2 k=>
   left
   iterate 6 (walk_at"n")
   walk_at"y";exists⟨D.d,D.dx,_,rfl,hD.dk,rfl,?_⟩;exact⟨D,s,q,r,rfl,hD,hq,ke,h2,hT,k⟩
  |go us r o sg ke hq h1 h2 h3 h4 h5 h6 h7 k=>
   left
   iterate 7 (walk_at"n")
   walk_at"y";exists⟨D.d,D.dx,_,rfl,hD.dk,rfl,?_⟩;exact⟨D,s,l,_,r,o,sg,rfl,hD,hl,hT,ke,hq,h1,h2,h3,h4,h5,h6,h7,k⟩
  |cells r ke h1 h2 k=>
   obtain⟨fl,hS,_⟩:=hD.room r ke;left
   iterate 8 (walk_at"n")
   walk_at"y";exists⟨D.d,_,D.dx,_,.ref D.S.st,rfl,hD.dks ke,T.q0e,T.q0y,rfl,?_⟩;refine⟨D.S.st,D.S.dx,_,rfl,hS.st,rfl,?_⟩;exists⟨D.S,_,_,_,fl,rfl,hS,fun t c m H1 s1 _ _ _ ht ec _=>?_⟩;exists⟨t,_,_,.ref c,rfl,rfl,SqT.of ht,rfl,?_⟩;exact⟨c,r.c,rfl,SqL.of ec,h1,h2,fun H' z=>k H' (s1.trans z)⟩
  |paper q hq k=>
   left
   iterate 9 (walk_at"n")
   exists⟨D.d,_,D.dx,_,.ref D.p,rfl,hD.dkp hq,T.q0e,T.q0p,rfl,?_⟩;exists⟨D.p,q.o,q.n,q.rs,rfl,(hD.pap q hq).1,(hD.pap q hq).2,fun H1 s1=>?_⟩;refine⟨_,rfl,?_,k H1 s1⟩;have hp:=(hD.pap q hq).2;have h1:=xgd (xh0 hp) (by have:=hp.one;unfold lns;rw[aU,ag];lia);have h2:(aM "; ").length=2:=rfl;rw[h2];lia
def wds(z:Str):List Str:=PySem.Txt.split z " "
noncomputable def nums(z:Str):List (Option Int):=(wds z).tail.map rdN
def yz(z:Str):Str:=(wds z).headD ""
def vB(K:ay)(a:Adr):Sp:=fun vs H Q E=>∃(D:DK) (s:DS) (v:V),vs=[.ref D.d,v]/\yi a H D s/\Tbs H/\
 ((xc5 K H v/\∀H',xf H H'->E (.ref a.q0d) none H')\/
  ∃z:Str,v= .str z/\z.length<=2000/\yz z∈uH/\(wds z).length<=60/\
   ((listed (yz z) (nums z)=true/\wanted s (yz z)=true/\∃ns:List Int,nums z=ns.map some/\Ans a H D s Q E (yz z) ns)\/
    ((listed (yz z) (nums z)&&wanted s (yz z))=false/\∀H',xf H H'->E (.ref a.q0d) none H')))
def xpK(z:Str):rdV z=nV (rdN z):=by unfold rdV;cases rdN z<;> rfl
def xpL(z:Str):wds z≠[]:=xhk _ _
def xel(z:Str):z.length=z.cps.toList.length:=by simp[cq]
theorem xc6{d:Nat}{p:Str}:∀{ss:List Str},p∈ss->p.length<=(a5 ⟨#[d]⟩ ss).length
 |[x],h=>by rw[ao.mp h];exact aq _
 |x::y::r,h=>by
  have e:(a5 ⟨#[d]⟩ (x::y::r)).length=x.length+1+(a5 ⟨#[d]⟩ (y::r)).length:=by
   rw[xel,xel,xel,uf];simp;lia
  rw[e];rcases ah.mp h with rfl|h
  ·lia
  ·have:=xc6 (d:=d) h;lia
def xoq{p:Str}(h:p∈wds z):p.length<=z.length:=by
 have:=xc6 (d:=32) h
 rwa [show a5 ⟨#[32]⟩ (wds z)=z from iZ _ _]at this
def xm3(x:V)(xs:List V):uo (x::xs) (some 1) none=xs:=by
 unfold uo;have e0:HT.sIx (x::xs).length 0 (some 1)=1:=by
  simp only[HT.sIx];rw[if_neg (by decide)];simp
 have e:HT.sIx (x::xs).length (x::xs).length none=(x::xs).length:=rfl;rw[e,e0];simp
theorem xQ(T:Txt w K mg a):xt P w K mg base (CXE P w) 11 a.q15 a.xb0 ["self","row"] (vB K a):=by
 refine T.q3m.okX xdK (fun vs H Q E h=>?_) (fun kn A outer s H vs Q E hr h=>?_)
 ·obtain⟨D,s,v,rfl,_⟩:=h;rfl
 ·obtain⟨D,s,v,rfl,hD,hT,h⟩:=h;have nd:=xdK.nd;refine⟨_,(xc (xv (i:=2) nd rfl (aG rfl) (vJ ⟨rfl,rfl,rfl⟩ (xiT T) hr.m (by rfl) T.xkk T.q2N.kp T.xkj .nil (xa (cv 1) xb)))
  (xc (xv (i:=3) nd rfl (aG rfl) (xA yb (cv 2) xk (fun _ _=>rfl)))
  (xc (xbE (i:=4) (zB (cap:=[]) (ys:=[]) rfl rfl rfl rfl rfl trivial (by decide+kernel)) rfl nd rfl rfl (ya (yG ub (cv 2) (yS xk) zF)) (fun _ _ _ _=>(xu (xfI T) hr.m (by rfl) T.xgv T.q1w.kp T.xgu .nil xr (xa (cv 0) xb))) (fun _ _ _ _=>zm))
  (xc (xC (uy (xW (xu (xh9 T) hr.m (by rfl) T.xiB T.q2k.kp T.xiA .nil xr (xa (cv 3) (xa (cv 4) xb))))) (xh (jT ⟨rfl,rfl,rfl⟩ rfl T.q4v (by rfl) T.xb3 (xa xj xb))) xq)
  (xc (xC (uy (xW (xS (cv 0) T.q0e T.q1y (ju T) hr.m T.jH .nil xr (xa (cv 3) xb)))) (xh (jT ⟨rfl,rfl,rfl⟩ rfl T.q4v (by rfl) T.xb3 (xa xj xb))) xq)
  (xh (xp (yK ⟨rfl,rfl,rfl⟩ (cv 0) T.q0e T.q3p (xds T) hr.m T.xeb .nil (xa (cv 3) (xa (cv 4) xb)))))))))),?_⟩
  left;rcases h with⟨hn,k⟩|⟨z,rfl,hz,hw,hm,h⟩
  ·exact⟨_,rfl,.inr ⟨hn,k H (xf.refl _)⟩⟩
  refine⟨_,rfl,.inl ⟨z,rfl,by lia,fun l H1 s1 hl=>?_⟩⟩;obtain⟨f,ws,ew⟩:∃f ws,wds z=f::ws:=by
   cases e:wds z with
   |nil=>exact absurd e (xpL z)
   |cons f ws=>exact⟨f,ws,rfl⟩
  have ef:yz z=f:=by unfold yz;rw[ew];rfl
  have en:nums z=ws.map rdN:=by unfold nums;rw[ew];rfl
  rw[show PySem.Txt.split z " "=f::ws from ew]at hl;rw[ew]at hm;rw[ef]at h hw;rw[en]at h;left;exists⟨l,_,_,.str f,rfl,rfl,SqL.of hl,ua (j:=0) rfl,?_⟩;exists⟨_,rfl,?_⟩;refine⟨l,_,rfl,SqL.of hl,?_⟩;intro tl kf;generalize j9:upd H1 tl _=H2;have kd:=xf.of_eq kf j9;have ka:=xn j9;clear j9;left;rw[bI,xm3]at ka;have ke:=s1.trans kd;refine⟨tl,rfl,⟨_,SqL.of ka⟩,?_⟩;have kj:ws.length<=59:=by rw[aU]at hm;lia
  refine ue (fun i acc _=>acc=((ws.take i).map rdN).map nV) (SqL.of ka) (by rw[ag,ar];lia) rfl (fun j y acc G3 G3' hy t3 kb hP R hR=>?_) (fun L acc G3 G3' hL km t3 kb hP hle he=>?_)
  ·rw[az]at hy;obtain⟨m,kc,rfl⟩:=aE.mp hy;left;have kh:m.length<=z.length:=xoq (by rw[ew];exact aH _ (aw kc));refine⟨m,rfl,by lia,fun H' e'=>?_⟩;refine hR _ _ e' fun H7 _ _=>?_;rw[xpK,hP,bj,kc,bt,bt];rfl
  rw[ag,bo]at hP;rw[hP]at he;have sA:xf H G3':=ke.trans (t3.trans kb);left;refine⟨f,L,_,rfl,he,by rw[ag];lia,hw,fun H4 s4=>?_⟩;have j8:=sA.trans s4;left;have ki:L≠D.d:=fun z=>by
   have h1:=(hD.same sA).dk;rw[<-z,he]at h1;cases h1
  rcases h with⟨h1,h2,ns,kg,hA⟩|⟨hb,k⟩
  ·refine⟨(fun b=>by rw[h1]at b;cases b),fun _=>?_⟩;left;exists⟨D.d,D.dx,_,rfl,(hD.same j8).dk,rfl,?_⟩;exists⟨D,s,f,rfl,hD.same j8,?_⟩;refine⟨(fun b=>by rw[h2]at b;cases b),fun _=>?_⟩;left;exists⟨D.d,D.dx,_,rfl,(hD.same j8).dk,rfl,?_⟩;have e4:=s4.at he;rw[kg,dy]at e4;exact⟨D,s,f,L,ns,rfl,hD.same j8,hT.same j8,e4,ki,hA.same j8⟩
  ·refine⟨fun b=>?_,fun b=>?_⟩
   ·left;exact⟨by walk_at"side",k H4 j8⟩
   left;exists⟨D.d,D.dx,_,rfl,(hD.same j8).dk,rfl,?_⟩;exists⟨D,s,f,rfl,hD.same j8,?_⟩;have e1:listed f (ws.map rdN)=true:=by simpa using b
   have e2:wanted s f=false:=by rw[e1]at hb;simpa using hb
   refine⟨fun _=>?_,fun b=>by rw[e2]at b;cases b⟩;left;exact⟨by walk_at"side",k H4 j8⟩
def rdC(z:Str):Option Int:=match PySem.intText? z with
 |some n=>if xx n=z/\(n.natAbs:Int)<10^60 then some n else none
 |none=>none
theorem xqA(z:Str):rdN z=rdC z:=by
 by_cases h:∃n,xx n=z/\Sm n
 ·obtain⟨n,rfl,hn⟩:=h;rw[xfC hn];unfold rdC;rw[jV hn];exact(if_pos ⟨rfl,hn⟩).symm
 ·rw[xh3 h];unfold rdC;cases e:PySem.intText? z with
  |none=>rfl
  |some n=>exact(if_neg fun z=>h ⟨n,z⟩).symm
def xeW(z:Str):List (Option Int):=(wds z).tail.map rdC
def xeX(z:Str):nums z=xeW z:=by
 unfold nums xeW;rw[show rdN=rdC from funext xqA]
def xm4(a:Adr)(C:Addr)(n:Str):Prop:=(C=a.q0d/\n="NoLine")\/(C=a.q0b/\n="NoRow")\/(C=a.q0c/\n="Faulty")\/(C=a.q0g/\n="Unfit")
structure NmF(K:ay)(a:Adr)(C:Addr)(b1 b2 b3 b4:Bool):Prop where
 xi:vg K C
 k1:aj K (.ref C) (.ref a.q0d)=some b1
 k2:aj K (.ref C) (.ref a.q0b)=some b2
 k3:aj K (.ref C) (.ref a.q0c)=some b3
 k4:aj K (.ref C) (.ref a.q0g)=some b4
 k5:aj K (.ref C) (.ref a.q0r)=some false
 k6:aj K (.ref C) (.ref a.q0a)=some false
 k7:aj K (.ref C) (.ref a.q0D)=some false
 k8:aj K (.ref C) (.ref a.q1A)=some false
 k9:aj K (.ref C) (.type "ValueError")=some true
def apN(b:Bool)(x:Str)(xs:List V):List V:=if b=true then xs++[.str x]else xs
def nmL(b1 b2 b3 b4:Bool):List V:=apN b4 "Unfit" (apN b3 "Faulty" (apN b2 "NoRow" (apN b1 "NoLine" [])))
def xfK(b1 b2 b3:Bool):(apN b3 "Faulty" (apN b2 "NoRow" (apN b1 "NoLine" []))).length<ax:=by cases b1<;> cases b2<;> cases b3<;> decide
def NmF.of(T:Txt w K mg a){C:Addr}{n:Str}(h:xm4 a C n):∃b1 b2 b3 b4,NmF K a C b1 b2 b3 b4/\nmL b1 b2 b3 b4=[.str n]:=by
 rcases h with⟨rfl,rfl⟩|⟨rfl,rfl⟩|⟨rfl,rfl⟩|⟨rfl,rfl⟩
 ·exact⟨true,false,false,false,⟨T.q4Z,T.q3C,T.q3N,T.q3B,T.q3O,T.q20,T.q3A,T.q3o,T.q36,T.q2P⟩,rfl⟩
 ·exact⟨false,true,false,false,⟨T.q46,T.q3R,T.q37,T.q3Q,T.q38,T.q3f,T.q3P,T.q3D,T.q4i,T.q2X⟩,rfl⟩
 ·exact⟨false,false,true,false,⟨T.q4Y,T.q3z,T.q3L,T.q3y,T.q3M,T.q2Z,T.q3x,T.q3n,T.q35,T.q2O⟩,rfl⟩
 ·exact⟨false,false,false,true,⟨T.q47,T.q3U,T.q39,T.q3T,T.q4a,T.q3g,T.q3S,T.q3E,T.q4j,T.q2Y⟩,rfl⟩
def xid(H:Hp)(dx:Option Addr):Prop:=dx=none\/∃d fs,dx=some d/\H d=some (.xd fs)
def xid.same{dx:Option Addr}(h:xid H dx)(s:xf H H'):xid H' dx:=h.imp id fun⟨d,fs,e,h⟩=>⟨d,fs,e,s.at h⟩
def xm5(a:Adr):SpE:=fun ae cls dx vs H Q _=>∃(C:Addr) (n:Str),vs=[.ref ae]/\cls= .ref C/\xm4 a C n/\xid H dx/\∀(l:Addr) (H':Hp),xf H H'->H' l=some (.lst [.str n])->Q (.ref l) H'
def xm6(T:Txt w K mg a):xj5 P w K mg base 1 a.q30 a.xfk ["_law_e"] (xm5 a):=by
 refine T.q34.okE xhK (fun ae cls dx vs H Q E h=>?_) (fun j8 A outer s H vs Q E qs ae cls dx hs hr h=>?_)
 ·obtain⟨C,n,rfl,_⟩:=h;rfl
 ·obtain⟨C,n,rfl,rfl,hk,hd,q⟩:=h;have nd:=xhK.nd;refine⟨_,(xc (xv (i:=1) nd rfl (aG rfl) (xK xb))
  (xc (zA (xC (xW (xw (r:=vR K _ _ _) (yY hs fun _ z=>z) (by rfl) T.q0j xH (xa (cv 0) (xa (xZ (v:=.ref a.q0d) (by rfl) T.xb3 rfl) xb)))) (xh (xN (zh PySem.F.plainAttrs_list PySem.F.slot_list_append PySem.F.type_list_append zq (cv 1) (xa xj xb)))) xq))
  (xc (zA (xC (xW (xw (r:=vR K _ _ _) (yY hs fun _ z=>z) (by rfl) T.q0j xH (xa (cv 0) (xa (xZ (v:=.ref a.q0b) (by rfl) T.xfq rfl) xb)))) (xh (xN (zh PySem.F.plainAttrs_list PySem.F.slot_list_append PySem.F.type_list_append zq (cv 1) (xa xj xb)))) xq))
  (xc (zA (xC (xW (xw (r:=vR K _ _ _) (yY hs fun _ z=>z) (by rfl) T.q0j xH (xa (cv 0) (xa (xZ (v:=.ref a.q0c) (by rfl) T.xhE rfl) xb)))) (xh (xN (zh PySem.F.plainAttrs_list PySem.F.slot_list_append PySem.F.type_list_append zq (cv 1) (xa xj xb)))) xq))
  (xc (zA (xC (xW (xw (r:=vR K _ _ _) (yY hs fun _ z=>z) (by rfl) T.q0j xH (xa (cv 0) (xa (xZ (v:=.ref a.q0g) (by rfl) T.xjj rfl) xb)))) (xh (xN (zh PySem.F.plainAttrs_list PySem.F.slot_list_append PySem.F.type_list_append zq (cv 1) (xa xj xb)))) xq))
  (xc (zA (xC (PW.pt (zi (xW (xw (r:=vR K _ _ _) (yY hs fun _ z=>z) (by rfl) T.q0j xH (xa (cv 0) (xa (xZ (v:=.ref a.q0r) (by rfl) T.xiC rfl) xb)))) (zi (xW (xw (r:=vR K _ _ _) (yY hs fun _ z=>z) (by rfl) T.q0j xH (xa (cv 0) (xa (xZ (v:=.ref a.q0a) (by rfl) T.xec rfl) xb)))) (zi (xW (xw (r:=vR K _ _ _) (yY hs fun _ z=>z) (by rfl) T.q0j xH (xa (cv 0) (xa (xZ (v:=.ref a.q0D) (by rfl) T.xlv rfl) xb)))) (zM (xW (xw (r:=vR K _ _ _) (yY hs fun _ z=>z) (by rfl) T.q0j xH (xa (cv 0) (xa (xZ (v:=.ref a.q1A) (by rfl) T.xpH rfl) xb))))))))) zc xq))
  (xc (zA (xC (uy (xW (xw (r:=vR K _ _ _) (yY hs fun _ z=>z) (by rfl) T.q0j xH (xa (cv 0) (xa (vE (v:=.ty "ValueError") (by rfl) T.q4C PyProof.Rows.Boot.«ValueError» rfl) xb))))) zc xq))
  (xh (xp (cv 1)))))))))),?_⟩
  obtain⟨b1,b2,b3,b4,F,hF⟩:=NmF.of T hk;right;intro l hl;left;have s1:xf H (upd H l (.lst [])):=(xf.refl H).put hl;have e1:upd H l (.lst []) l=some (.lst []):=xl
  revert s1 e1
  generalize upd H l (.lst [])=H1;intro s1 e1;refine⟨fun σ' G=>σ'=[some (.ref ae),some (.ref l)]/\xf H G/\G l=some (.lst (apN b1 "NoLine" [])),?_,?_⟩
  ·left;refine⟨C,_,_,_,rfl,hd.same s1,F.xi,rfl,rfl,F.k1,?_⟩;cases b1
   ·walk_at"N";exact⟨rfl,s1,e1⟩
   ·walk_at"y";exists bf (.inl ⟨rfl,_,SqL.of e1⟩) ?_;refine⟨l,_,_,rfl,rfl,e1,(by decide),?_⟩;exact⟨rfl,s1.put hl,xl⟩
  clear s1 e1;rintro σ' H2 ⟨rfl,s1,e1⟩;refine⟨fun σ' G=>σ'=[some (.ref ae),some (.ref l)]/\xf H G/\G l=some (.lst (apN b2 "NoRow" (apN b1 "NoLine" []))),?_,?_⟩
  ·left;refine⟨C,_,_,_,rfl,hd.same s1,F.xi,rfl,rfl,F.k2,?_⟩;cases b2
   ·walk_at"N";exact⟨rfl,s1,e1⟩
   ·walk_at"y";exists bf (.inl ⟨rfl,_,SqL.of e1⟩) ?_;refine⟨l,_,_,rfl,rfl,e1,(xfK b1 false false),?_⟩;exact⟨rfl,s1.put hl,xl⟩
  clear s1 e1;rintro σ' H3 ⟨rfl,s1,e1⟩;refine⟨fun σ' G=>σ'=[some (.ref ae),some (.ref l)]/\xf H G/\G l=some (.lst (apN b3 "Faulty" (apN b2 "NoRow" (apN b1 "NoLine" [])))),?_,?_⟩
  ·left;refine⟨C,_,_,_,rfl,hd.same s1,F.xi,rfl,rfl,F.k3,?_⟩;cases b3
   ·walk_at"N";exact⟨rfl,s1,e1⟩
   ·walk_at"y";exists bf (.inl ⟨rfl,_,SqL.of e1⟩) ?_;refine⟨l,_,_,rfl,rfl,e1,(xfK b1 b2 false),?_⟩;exact⟨rfl,s1.put hl,xl⟩
  clear s1 e1;rintro σ' H4 ⟨rfl,s1,e1⟩;refine⟨fun σ' G=>σ'=[some (.ref ae),some (.ref l)]/\xf H G/\G l=some (.lst (apN b4 "Unfit" (apN b3 "Faulty" (apN b2 "NoRow" (apN b1 "NoLine" []))))),?_,?_⟩
  ·left;refine⟨C,_,_,_,rfl,hd.same s1,F.xi,rfl,rfl,F.k4,?_⟩;cases b4
   ·walk_at"N";exact⟨rfl,s1,e1⟩
   ·walk_at"y";exists bf (.inl ⟨rfl,_,SqL.of e1⟩) ?_;refine⟨l,_,_,rfl,rfl,e1,(xfK b1 b2 b3),?_⟩;exact⟨rfl,s1.put hl,xl⟩
  clear s1 e1;rintro σ' H5 ⟨rfl,s1,e1⟩;refine⟨fun σ' G=>σ'=[some (.ref ae),some (.ref l)]/\xf H G/\G l=some (.lst (nmL b1 b2 b3 b4)),?_,?_⟩
  ·left;exists⟨C,_,_,_,rfl,hd.same s1,F.xi,rfl,rfl,F.k5,?_⟩;walk_at"n";exists⟨C,_,_,_,rfl,hd.same s1,F.xi,rfl,rfl,F.k6,?_⟩;walk_at"n";exists⟨C,_,_,_,rfl,hd.same s1,F.xi,rfl,rfl,F.k7,?_⟩;walk_at"n";refine⟨C,_,_,_,rfl,hd.same s1,F.xi,rfl,rfl,F.k8,?_⟩;walk_at"N";exact⟨rfl,s1,e1⟩
  clear s1 e1;rintro σ' G ⟨rfl,s1,e1⟩;refine⟨fun σ' G=>σ'=[some (.ref ae),some (.ref l)]/\xf H G/\G l=some (.lst (nmL b1 b2 b3 b4)),?_,?_⟩
  ·left;exists⟨C,_,_,_,rfl,hd.same s1,F.xi,rfl,rfl,F.k9,?_⟩;walk_at"N";exact⟨rfl,s1,e1⟩
  clear s1 e1;rintro σ' G ⟨rfl,s1,e1⟩;rw[hF]at e1;exact q l G s1 e1
theorem _root_.L2.yh.same{t:Value}(h:yh K H v t)(s:xf H H'):yh K H' v t:=by
 cases h with
 |non=>exact .non
 |bl x=>exact .bl x
 |int x=>exact .int x
 |str x=>exact .str x
 |flt x=>exact .flt x
 |lst e=>exact .lst (s.at e)
 |frz e=>exact .frz (s.at e)
 |tup e=>exact .tup (s.at e)
 |dK e=>exact .dK (s.at e)
 |dT e=>exact .dT (s.at e)
 |ins e h1 h2 h3 h4 h5=>exact .ins (s.at e) h1 h2 h3 h4 h5
def xc5.same(h:xc5 K H v)(s:xf H H'):xc5 K H' v:=by
 rcases h with h|h|h|h|h|h
 ·exact .inl (h.same s)
 ·exact .inr (.inl (h.same s))
 ·exact .inr (.inr (.inl (h.same s)))
 ·exact .inr (.inr (.inr (.inl (h.same s))))
 ·exact .inr (.inr (.inr (.inr (.inl (h.same s)))))
 ·exact .inr (.inr (.inr (.inr (.inr (h.same s)))))
def uk(r p b:Bool)(w:Str):Bool:= !((decide (w="make")||decide (w="begin")||decide (w="cells"))&&r)&& !((decide (w="take")||decide (w="put")||decide (w="judge")||decide (w="begin")||decide (w="paper"))&&p)&&(!decide (w="go")||b)
def xaC(s:DS)(w:Str):wanted s w=uk s.room.isNone s.paper.isNone s.begun w:=rfl
def xkB(K:ay)(a:Adr)(H:Hp)(D:DK)(s:DS)(v:V)(n:Str):Prop:=
 (xc5 K H v/\n="NoLine")\/∃z:Str,v= .str z/\z.length<=2000/\yz z∈uH/\(wds z).length<=60/\
  (((listed (yz z) (nums z)&&wanted s (yz z))=false/\n="NoLine")\/
   (listed (yz z) (nums z)=true/\wanted s (yz z)=true/\yz z="take"/\n="NoRow"/\∃i j:Int,0<=i/\0<=j/\nums z=[some i,some j,some 0])\/
   (z="begin"/\∃q r,s.paper=some q/\s.room=some r/\r.ns.length=2/\((yE q.n q.rs=true/\n="Faulty")\/(yE q.n q.rs=false/\q.o≠s.elder.length/\n="Unfit"))))
def xos(K:ay)(a:Adr):Sp:=fun vs H Q _=>∃(D:DK) (s:DS) (v:V) (n:Str),vs=[.ref D.d,v]/\yi a H D s/\Tbs H/\xkB K a H D s v n/\∀(l:Addr) (H':Hp),xf H H'->H' l=some (.lst [.str n])->Q (.ref l) H'
def jK(T:Txt w K mg a):xt P w K mg base CX0 12 a.q4q a.xhr ["_law_desk","_law_line"] (xos K a):=by
 refine T.q2R.ok xjn (fun vs H Q E h=>?_) (fun kh A outer s H vs Q E hr h=>?_)
 ·obtain⟨D,s,v,n,rfl,_⟩:=h;rfl
 ·obtain⟨D,s,v,n,rfl,hD,hT,h,q⟩:=h;have nd:=xjn.nd;refine⟨_,(xc (xv (i:=2) nd rfl (aG rfl) (xK xb))
  (xc (xmx (i:=3) ⟨rfl,rfl,rfl⟩ T.q4x (by rfl) T.xiD nd rfl rfl (fun _ _=>(xh (xN (yK ⟨rfl,rfl,rfl⟩ (cv 0) T.q0e T.q0m (xQ T) hr.m T.xT .nil (xa (cv 1) xb))))) (fun _ _ _ _ ep=>(xh (xv (i:=2) nd rfl (aG rfl) (xmK ep (fun _ z=>bb _ z) (xm6 T) (xI.calm (xI.mono hr (by decide))) (by rfl) T.xoa T.q34.kp T.xn9 (xa (cv 3) xb))))))
  (xh (xp (cv 2))))),?_⟩
  right;intro kl kd;generalize j8:upd H kl _=H1;have j9:=xf.of_eq kd j8;have kg:=xn j8;clear j8;left;have kc:=hD.same j9;exists⟨D.d,D.dx,_,rfl,kc.dk,rfl,?_⟩;refine gnr (xfa _ _ _ _ _ _) fun EE kb=>?_;have fin:∀C dx G,xm4 a C n->xf H1 G->xid G dx->EE (.ref C) dx G:=by
   intro C dx G hN sG hX;rw[<-kb];refine⟨C,rfl,?_,fun ae kf=>?_⟩
   ·rcases hN with⟨rfl,_⟩|⟨rfl,_⟩|⟨rfl,_⟩|⟨rfl,_⟩
    ·exact T.q2W
    ·exact T.q3d
    ·exact T.q2V
    ·exact T.q3e
   left;exists⟨C,n,rfl,rfl,hN,hX,fun l H' s' e'=>?_⟩;exact q l H' ((j9.trans sG).trans s') e'
  clear kb;refine⟨D,s,v,rfl,kc,hT.same j9,?_⟩;rcases h with⟨hn,rfl⟩|⟨z,rfl,h1,h2,h3,h⟩
  ·exact .inl ⟨hn.same j9,fun G sG=>fin _ _ G (.inl ⟨rfl,rfl⟩) sG (.inl rfl)⟩
  refine .inr ⟨z,rfl,h1,h2,h3,?_⟩;rcases h with⟨hb,rfl⟩|⟨hl,hw,ht,rfl,i,j,hi,hj,hn⟩|⟨rfl,pp,r,hq,ka,ke,h⟩
  ·exact .inr ⟨hb,fun G sG=>fin _ _ G (.inl ⟨rfl,rfl⟩) sG (.inl rfl)⟩
  ·refine .inl ⟨hl,hw,[i,j,0],hn,?_⟩;rw[ht];exact .take i j hi hj fun G sG=>fin _ _ G (.inr (.inl ⟨rfl,rfl⟩)) sG (.inl rfl)
  ·have e1:nums "begin"=[]:=by rw[xeX];decide+kernel
   have e2:yz "begin"="begin":=by decide+kernel
   have e3:wanted s "begin"=true:=by
    rw[xaC,hq,ka];show uk false false s.begun "begin"=true;cases s.begun<;> decide+kernel
   refine .inl ⟨by rw[e1,e2];decide+kernel,by rw[e2];exact e3,[],e1,?_⟩;rw[e2];refine .begin pp r hq ka ke ?_;rcases h with⟨hl,rfl⟩|⟨hl,ho,rfl⟩
   ·exact .inl ⟨hl,fun d G sG hx=>fin _ _ G (.inr (.inr (.inl ⟨rfl,rfl⟩))) sG (.inr (let⟨fs,e⟩:=hx;⟨d,fs,rfl,e⟩))⟩
   ·exact .inr (.inl ⟨hl,ho,fun G sG=>fin _ _ G (.inr (.inr (.inr ⟨rfl,rfl⟩))) sG (.inl rfl)⟩)
def cellAt(ns:List Int)(k:Int):Int:=if k<ns.length then ns.getD k.toNat 0 else 0
def xkC(K:ay):Sp:=fun vs H Q _=>∃(l:Addr) (ns:List Int) (k:Int),vs=[.ref l,.int k]/\SqL K H l (ns.map V.int)/\0<=k/\Q (.int (cellAt ns k)) H
def xb8(T:Txt w K mg a):xt P w K mg base CX0 1 a.q27 a.xcL ["_law_script","_law_k"] (xkC K):=by
 refine T.q17.ok xeP (fun vs H Q E h=>?_) (fun j9 A outer s H vs Q E hr h=>?_)
 ·obtain⟨l,ns,k,rfl,_⟩:=h;rfl
 ·obtain⟨l,ns,k,rfl,hl,hk,q⟩:=h;have nd:=xeP.nd;refine⟨_,(xc (xC (xG xdT (cv 1) (xw xJ (by rfl) T.q1l yl (xa (cv 0) xb))) (xh (xp (xA yb (cv 0) (cv 1) (fun _ _=>rfl)))) xq)
  (xh (xp xk))),?_⟩
  left;exists⟨l,_,rfl,.inl hl,?_⟩;refine⟨fun e=>?_,fun e=>?_⟩
  ·have e':=of_decide_eq_true e;rw[ag]at e';left;refine⟨l,_,k,.int (ns.getD k.toNat 0),rfl,rfl,hl,?_,?_⟩
   ·have j8:k.toNat<ns.length:=by lia
    have:=ua (xs:=ns.map V.int) (j:=k.toNat) (v:=.int (ns.getD k.toNat 0)) (by simp[j8])
    rwa [fB hk]at this
   ·left;rw[cellAt,if_pos e']at q;exact q
  ·have e':=of_decide_eq_false e;rw[ag]at e';rw[cellAt,if_neg e']at q;exact q
def nn1:List Str:=[""," go","go ","Go","gone","room","room x","room -1","room 301","room 1 2 3"]
def nn2:List Str:=["room 03 1","room 3  1","room +3","rows 1","rows 1 2 3","rows -1 2","rows 1 -2"]
def nn3:List Str:=["rows 1 x","take 0 0","take 0 0 1 1","take -1 0 1","take 0 -1 1","take 0 0 -1"]
def nn4:List Str:=["take 0 0 x","put","put 0","put -1 5","put 0 --1","put 0 -0","put 0 1.0"]
def nn5:List Str:=[("put 0 ":Str)++xd0 "9" 61,("put 0 -":Str)++xd0 "1" 61,"make","make 0 1","make -1 1","make x"]
def nn6:List Str:=["judge 1","begin 1","go -1","go 1 2 3","go 1 x","cells 0","paper 1","judge "]
def nn7:List Str:=[("go 1 ":Str)++xd0 "8" 61,"text","Judge","go 00","make 2 0x1","begin x"]
def nm1:List Str:=nn1
def nm2:List Str:=nm1++nn2
def nm3:List Str:=nm2++nn3
def nm4:List Str:=nm3++nn4
def nm5:List Str:=nm4++nn5
def nm6:List Str:=nm5++nn6
def nm7:List Str:=nm6++nn7
def xot:Sp:=fun vs H Q _=>vs=[]/\∀(l:Addr) (H':Hp),xf H H'->H' l=some (.lst (nm7.map V.str))->Q (.ref l) H'
def xou(T:Txt w K mg a):xt P w K mg base CX0 1 a.q4p a.xhq [] xot:=by
 refine T.q4s.ok xjm (fun vs H Q E h=>?_) (fun lD A outer s H vs Q E hr h=>?_)
 ·obtain⟨rfl,_⟩:=h;rfl
 ·obtain⟨rfl,q⟩:=h;have nd:=xjm.nd;exists⟨_,(@xc _ _ _ _ _ (@xv _ _ 0 _ _ _ _ nd rfl (aG rfl) (@xK _ _ _ _ (@xa _ _ _ _ _ (@xj _ _ _ _) (@xa _ _ _ _ _ (@xj _ _ _ _) (@xa _ _ _ _ _ (@xj _ _ _ _) (@xa _ _ _ _ _ (@xj _ _ _ _) (@xa _ _ _ _ _ (@xj _ _ _ _) (@xa _ _ _ _ _ (@xj _ _ _ _) (@xa _ _ _ _ _ (@xj _ _ _ _) (@xa _ _ _ _ _ (@xj _ _ _ _) (@xa _ _ _ _ _ (@xj _ _ _ _) (@xa _ _ _ _ _ (@xj _ _ _ _) (@xb _) rfl) rfl) rfl) rfl) rfl) rfl) rfl) rfl) rfl) rfl)) rfl (.inl rfl)) (@xc _ _ _ _ _ (@xv _ _ 0 _ _ _ _ nd rfl (aG rfl) (@xy _ _ _ _ _ _ _ _ jO (cv 0) (@xK _ _ _ _ (@xa _ _ _ _ _ (@xj _ _ _ _) (@xa _ _ _ _ _ (@xj _ _ _ _) (@xa _ _ _ _ _ (@xj _ _ _ _) (@xa _ _ _ _ _ (@xj _ _ _ _) (@xa _ _ _ _ _ (@xj _ _ _ _) (@xa _ _ _ _ _ (@xj _ _ _ _) (@xa _ _ _ _ _ (@xj _ _ _ _) (@xb _) rfl) rfl) rfl) rfl) rfl) rfl) rfl))) rfl (.inl rfl)) (@xc _ _ _ _ _ (@xv _ _ 0 _ _ _ _ nd rfl (aG rfl) (@xy _ _ _ _ _ _ _ _ jO (cv 0) (@xK _ _ _ _ (@xa _ _ _ _ _ (@xj _ _ _ _) (@xa _ _ _ _ _ (@xj _ _ _ _) (@xa _ _ _ _ _ (@xj _ _ _ _) (@xa _ _ _ _ _ (@xj _ _ _ _) (@xa _ _ _ _ _ (@xj _ _ _ _) (@xa _ _ _ _ _ (@xj _ _ _ _) (@xb _) rfl) rfl) rfl) rfl) rfl) rfl))) rfl (.inl rfl)) (@xc _ _ _ _ _ (@xv _ _ 0 _ _ _ _ nd rfl (aG rfl) (@xy _ _ _ _ _ _ _ _ jO (cv 0) (@xK _ _ _ _ (@xa _ _ _ _ _ (@xj _ _ _ _) (@xa _ _ _ _ _ (@xj _ _ _ _) (@xa _ _ _ _ _ (@xj _ _ _ _) (@xa _ _ _ _ _ (@xj _ _ _ _) (@xa _ _ _ _ _ (@xj _ _ _ _) (@xa _ _ _ _ _ (@xj _ _ _ _) (@xa _ _ _ _ _ (@xj _ _ _ _) (@xb _) rfl) rfl) rfl) rfl) rfl) rfl) rfl))) rfl (.inl rfl)) (@xc _ _ _ _ _ (@xv _ _ 0 _ _ _ _ nd rfl (aG rfl) (@xy _ _ _ _ _ _ _ _ jO (cv 0) (@xK _ _ _ _ (@xa _ _ _ _ _ (@xy _ _ _ _ _ _ _ _ yj (@xj _ _ _ _) (@xy _ _ _ _ _ _ _ _ xfe (@xj _ _ _ _) (@xk _ _ _ _))) (@xa _ _ _ _ _ (@xy _ _ _ _ _ _ _ _ yj (@xj _ _ _ _) (@xy _ _ _ _ _ _ _ _ xfe (@xj _ _ _ _) (@xk _ _ _ _))) (@xa _ _ _ _ _ (@xj _ _ _ _) (@xa _ _ _ _ _ (@xj _ _ _ _) (@xa _ _ _ _ _ (@xj _ _ _ _) (@xa _ _ _ _ _ (@xj _ _ _ _) (@xb _) rfl) rfl) rfl) rfl) rfl) rfl))) rfl (.inl rfl)) (@xc _ _ _ _ _ (@xv _ _ 0 _ _ _ _ nd rfl (aG rfl) (@xy _ _ _ _ _ _ _ _ jO (cv 0) (@xK _ _ _ _ (@xa _ _ _ _ _ (@xj _ _ _ _) (@xa _ _ _ _ _ (@xj _ _ _ _) (@xa _ _ _ _ _ (@xj _ _ _ _) (@xa _ _ _ _ _ (@xj _ _ _ _) (@xa _ _ _ _ _ (@xj _ _ _ _) (@xa _ _ _ _ _ (@xj _ _ _ _) (@xa _ _ _ _ _ (@xj _ _ _ _) (@xa _ _ _ _ _ (@xj _ _ _ _) (@xb _) rfl) rfl) rfl) rfl) rfl) rfl) rfl) rfl))) rfl (.inl rfl)) (@xh _ _ _ (@xp _ _ _ _ (@xy _ _ _ _ _ _ _ _ jO (cv 0) (@xK _ _ _ _ (@xa _ _ _ _ _ (@xy _ _ _ _ _ _ _ _ yj (@xj _ _ _ _) (@xy _ _ _ _ _ _ _ _ xfe (@xj _ _ _ _) (@xk _ _ _ _))) (@xa _ _ _ _ _ (@xj _ _ _ _) (@xa _ _ _ _ _ (@xj _ _ _ _) (@xa _ _ _ _ _ (@xj _ _ _ _) (@xa _ _ _ _ _ (@xj _ _ _ _) (@xa _ _ _ _ _ (@xj _ _ _ _) (@xb _) rfl) rfl) rfl) rfl) rfl) rfl))))))))))),?_⟩;walk_at"ss";intro l1 lp;generalize ke:upd H l1 _=H1;have kY:=xf.of_eq lp ke;have kB:=xn ke;clear ke;left
  replace kB:H1 l1=some (.lst (nm1.map V.str)):=kB
  right;intro d1 lA;generalize km:upd H1 d1 _=H2;have kK:=xf.of_eq lA km;have kQ:=xn km;clear km;left;refine⟨l1,d1,_,_,rfl,rfl,kK.at kB,kQ,by decide,?_⟩;intro l2 lj;generalize kd:upd H2 l2 _=H3;have kX:=xf.of_eq lj kd;have kA:=xn kd;clear kd;left
  replace kA:H3 l2=some (.lst (nm2.map V.str)):=kA
  clear kQ kB;right;intro d2 hd2;generalize kj:upd H3 d2 _=H4;have kJ:=xf.of_eq hd2 kj;have kP:=xn kj;clear kj;left;refine⟨l2,d2,_,_,rfl,rfl,kJ.at kA,kP,by decide,?_⟩;intro l3 lh;generalize kc:upd H4 l3 _=H5;have kW:=xf.of_eq lh kc;have kz:=xn kc;clear kc;left
  replace kz:H5 l3=some (.lst (nm3.map V.str)):=kz
  clear kP kA;right;intro d3 lz;generalize ki:upd H5 d3 _=H6;have kH:=xf.of_eq lz ki;have kO:=xn ki;clear ki;left;refine⟨l3,d3,_,_,rfl,rfl,kH.at kz,kO,by decide,?_⟩;intro l4 lg;generalize kb:upd H6 l4 _=H7;have kU:=xf.of_eq lg kb;have ky:=xn kb;clear kb;left
  replace ky:H7 l4=some (.lst (nm4.map V.str)):=ky
  clear kO kz;left;refine⟨_,61,rfl,rfl,by decide,by decide,rfl,?_⟩;left;refine⟨_,_,rfl,rfl,by decide+kernel,?_⟩;left;refine⟨_,61,rfl,rfl,by decide,by decide,rfl,?_⟩;left;refine⟨_,_,rfl,rfl,by decide+kernel,?_⟩;right;intro d4 ly;generalize kh:upd H7 d4 _=H8;have kF:=xf.of_eq ly kh;have kN:=xn kh;clear kh;left;refine⟨l4,d4,_,_,rfl,rfl,kF.at ky,kN,by decide,?_⟩;intro l5 lb;generalize ka:upd H8 l5 _=H9;have kT:=xf.of_eq lb ka;have ku:=xn ka;clear ka;left
  replace ku:H9 l5=some (.lst (nm5.map V.str)):=ku
  clear kN ky;right;intro d5 lr;generalize kg:upd H9 d5 _=lC;have ko:=xf.of_eq lr kg;have kM:=xn kg;clear kg;left;refine⟨l5,d5,_,_,rfl,rfl,ko.at ku,kM,by decide,?_⟩;intro l6 la;generalize j9:upd lC l6 _=kS;have kD:=xf.of_eq la j9;have kr:=xn j9;clear j9;left
  replace kr:kS l6=some (.lst (nm6.map V.str)):=kr
  clear kM ku;left;refine⟨_,61,rfl,rfl,by decide,by decide,rfl,?_⟩;left;refine⟨_,_,rfl,rfl,by decide+kernel,?_⟩;right;intro d6 lq;generalize kf:upd kS d6 _=lB;have kn:=xf.of_eq lq kf;have kL:=xn kf;clear kf;left;refine⟨l6,d6,_,_,rfl,rfl,kn.at kr,kL,by decide,?_⟩;intro l7 kZ;generalize j8:upd lB l7 _=kR;have kC:=xf.of_eq kZ j8;have kE:=xn j8;clear j8;left
  replace kE:kR l7=some (.lst (nm7.map V.str)):=kE
  clear kL kr;exact q l7 kR ((((((kY.trans (kK.trans kX)).trans (kJ.trans kW)).trans (kH.trans kU)).trans (kF.trans kT)).trans (ko.trans kD)).trans (kn.trans kC)) kE
def xqB:nm7.all (fun z=>decide (z.length<=2000)&&uH.contains (yz z)&&decide ((wds z).length<=60)&& !listed (yz z) (xeW z))=true:=by decide+kernel
def xov:nm7.length=50:=by decide+kernel
def xgZ(m:Int):Str:=("take 5 ":Str)++xx m++" 0"
def xkD(K:ay)(H:Hp)(v:V)(n:Str):Prop:=(∃z∈nm7,v= .str z/\n="NoLine")\/(xc5 K H v/\n="NoLine")\/((v= .str "take 0 0 0"\/∃m:Int,0<=m/\m<10^40/\v= .str (xgZ m))/\n="NoRow")
def xow(K:ay):Sp:=fun vs H Q _=>∃c:Int,vs=[.int c]/\∀(t l:Addr) (H':Hp) (v:V) (n:Str),xf H H'->H' t=some (.tup [v,.ref l])->H' l=some (.lst [.str n])->xkD K H' v n->Q (.ref t) H'
def six(i:Int)(h0:0<=i)(h:i<6):i=0\/i=1\/i=2\/i=3\/i=4\/i=5:=by lia
def xiU{x y z:Addr}{i:Int}(h0:0<=i)(h:i<6)(hx:H x=some (.lst [.str "go"]))(hy:H y=some (.tup [.str "go"]))(hz:H z=some (.dK [])):∃v,atI [.non,.int 7,.bl true,.ref x,.ref y,.ref z] i=some v/\xc5 K H v:=by
 rcases six i h0 h with rfl|rfl|rfl|rfl|rfl|rfl
 ·exact⟨_,rfl,.inl .non⟩
 ·exact⟨_,rfl,.inr (.inl (.int _))⟩
 ·exact⟨_,rfl,.inr (.inr (.inl (.bl _)))⟩
 ·exact⟨_,rfl,.inr (.inr (.inr (.inl (.lst hx))))⟩
 ·exact⟨_,rfl,.inr (.inr (.inr (.inr (.inl (.tup hy)))))⟩
 ·exact⟨_,rfl,.inr (.inr (.inr (.inr (.inr (.dK hz)))))⟩
def xeY{i:Int}(h0:0<=i)(h:i<xs.length):∃v∈xs,atI xs i=some v:=by
 have hk:i.toNat<xs.length:=by lia
 refine⟨xs[i.toNat],dH hk,?_⟩;have:=ua (xs:=xs) (j:=i.toNat) (v:=xs[i.toNat]) (bG hk)
 rwa [fB h0]at this
def xox(T:Txt w K mg a):xt P w K mg base CX0 2 a.q4r a.xhs ["_law_cell"] (xow K):=by
 refine T.q4t.ok xjo (fun vs H Q E h=>?_) (fun ko A outer s H vs Q E hr h=>?_)
 ·obtain⟨c,rfl,_⟩:=h;rfl
 ·obtain⟨c,rfl,q⟩:=h;have nd:=xjo.nd;refine⟨_,(@xc _ _ _ _ _ (xC (xG xdT (xy uc (cv 0) xk) xk) (xc (xv (i:=1) nd rfl (aG rfl) (xme (xou T) hr.m (by rfl) T.xpE T.q4s.kp T.xpD .nil xr)) (xh (xp (yA (xa (xA yb (cv 1) (xy uc (xy xbf (cv 0) xk) (xw xJ (by rfl) T.q1l yl (xa (cv 1) xb))) (fun _ _=>rfl)) (xa (xK (xa xj xb)) xb)))))) xq) (@xc _ _ _ _ _ (@xC _ _ _ _ _ _ _ _ (xG xgS (xy uc (cv 0) xk) xk) (@xh _ _ _ (@xp _ _ _ _ (@yA _ _ _ _ _ (@xa _ _ _ _ _ (@xA _ _ _ _ _ _ _ yb (@xK _ _ _ _ (@xa _ _ _ _ _ (@yW _ _ _) (@xa _ _ _ _ _ (@xk _ _ _ _) (@xa _ _ _ _ _ yf (@xa _ _ _ _ _ (@xK _ _ _ _ (@xa _ _ _ _ _ (@xj _ _ _ _) (@xb _) rfl)) (@xa _ _ _ _ _ (@yA _ _ _ _ _ (@xa _ _ _ _ _ (@xj _ _ _ _) (@xb _) rfl)) (@xa _ _ _ _ _ xbB (@xb _) rfl) rfl) rfl) rfl) rfl) rfl)) (@xy _ _ _ _ _ _ _ _ uc (@xy _ _ _ _ _ _ _ _ xbf (cv 0) (@xk _ _ _ _)) (@xk _ _ _ _)) (fun _ _=>rfl)) (@xa _ _ _ _ _ (@xK _ _ _ _ (@xa _ _ _ _ _ (@xj _ _ _ _) (@xb _) rfl)) (@xb _) rfl) rfl)))) (@xq _)) (@xh _ _ _ (@xp _ _ _ _ (@yA _ _ _ _ _ (@xa _ _ _ _ _ (@xA _ _ _ _ _ _ _ yb (@xK _ _ _ _ (@xa _ _ _ _ _ (@xj _ _ _ _) (@xa _ _ _ _ _ (@xy _ _ _ _ _ _ _ _ yj (@xy _ _ _ _ _ _ _ _ yj (@xj _ _ _ _) (@xU _ _ _ _ _ _ _ _ _ zw (by rfl) T.q3s uz (@xa _ _ _ _ _ (@xy _ _ _ _ _ _ _ _ uc (@xy _ _ _ _ _ _ _ _ xbf (cv 0) (@xk _ _ _ _)) (@xy _ _ _ _ _ _ _ _ xjK (@xk _ _ _ _) (@xk _ _ _ _))) (@xb _) rfl) (by decide) (by decide) (by rfl) (by rfl))) (@xj _ _ _ _)) (@xb _) rfl) rfl)) (@xy _ _ _ _ _ _ _ _ uc (@xy _ _ _ _ _ _ _ _ xbf (cv 0) (@xk _ _ _ _)) (@xk _ _ _ _)) (fun _ _=>rfl)) (@xa _ _ _ _ _ (@xK _ _ _ _ (@xa _ _ _ _ _ (@xj _ _ _ _) (@xb _) rfl)) (@xb _) rfl) rfl)))))),?_⟩;right;refine⟨fun b=>?_,fun b=>?_⟩
  ·left;exists⟨rfl,fun l H1 s1 e1=>?_⟩;walk_at"ss";refine⟨l,_,rfl,.inl (SqL.of e1),?_⟩;have hl:(nm7.map V.str).length=50:=by rw[ag,xov]
   rw[hl];right;obtain⟨v,hv,ev⟩:=xeY (xs:=nm7.map V.str) (i:=c / 4%(50:Nat)) (by lia) (by rw[hl];lia);obtain⟨z,hz,rfl⟩:=bA.mp hv;exists⟨l,_,_,_,rfl,rfl,SqL.of e1,ev,?_⟩;walk_at"ss";intro d hd;generalize j9:upd H1 d _=H2;have kc:=xf.of_eq hd j9;have ed:=xn j9;clear j9;right;intro t ht;generalize j8:upd H2 t _=H3;have ka:=xf.of_eq ht j8;have et:=xn j8;clear j8;left;exact q t d H3 _ _ (s1.trans (kc.trans ka)) et (ka.at ed) (.inl ⟨z,hz,rfl,rfl⟩)
  ·right;refine⟨fun b=>?_,fun b=>?_⟩
   ·right;intro x hx;generalize kh:upd H x _=H1;have ke:=xf.of_eq hx kh;have ex:=xn kh;clear kh;right;intro y hy;generalize kg:upd H1 y _=H2;have kc:=xf.of_eq hy kg;have ey:=xn kg;clear kg;right;intro z hz;generalize kf:upd H2 z _=H3;have ka:=xf.of_eq hz kf;have ez:=xn kf;clear kf;right;intro l hl;generalize kb:upd H3 l _=H4;have kd:=xf.of_eq hl kb;have el:=xn kb;clear kb;right;obtain⟨v,ev,hv⟩:=xiU (K:=K) (H:=H4) (i:=c / 4%6) (by lia) (by lia) ((kc.trans (ka.trans kd)).at ex) ((ka.trans kd).at ey) (kd.at ez);exists⟨l,_,_,v,rfl,rfl,SqL.of el,ev,?_⟩;walk_at"ss";intro d hd;generalize j9:upd H4 d _=H5;have kn:=xf.of_eq hd j9;have ed:=xn j9;clear j9;right;intro t ht;generalize j8:upd H5 t _=H6;have kj:=xf.of_eq ht j8;have et:=xn j8;clear j8;left;have km:=kn.trans kj;exact q t d H6 _ _ (ke.trans (kc.trans (ka.trans (kd.trans km)))) et (kj.at ed) (.inr (.inl ⟨hv.same km,rfl⟩))
   ·right;have ki:(10:Int)^i4 40=10^40:=rfl;refine⟨_,_,rfl,rfl,fun i e=>?_,?_⟩
    ·cases e;rw[ki];refine zQ ?_;lia
    obtain⟨m,hm⟩:∃m,m=c / 8%10^i4 40:=⟨_,rfl⟩;have h0:0<=m:=by rw[hm,ki];lia
    have h1:m<10^40:=by rw[hm,ki];lia
    rw[show aM (toString (c / 8%10^i4 40))=xx m by rw[hm];rfl];have hl:=ze (n:=m) (by lia);refine⟨_,_,rfl,rfl,?_,?_⟩
    ·rw[ar,show(aM "take 5 ").length=7 from rfl];lia
    left;refine⟨_,_,rfl,rfl,?_,?_⟩
    ·rw[ar,len_app,show(aM "take 5 ").length=7 from rfl,show(aM " 0").length=2 from rfl];lia
    right;intro l hl;generalize kb:upd H l _=H1;have ke:=xf.of_eq hl kb;have el:=xn kb;clear kb;right;obtain⟨v,hv,ev⟩:=xeY (xs:=[V.str "take 0 0 0",V.str (xgZ m)]) (i:=c / 4%2) (by lia) (by show c / 4%2<(2:Nat);lia);exists⟨l,_,_,v,rfl,rfl,SqL.of el,ev,?_⟩;walk_at"ss";intro d hd;generalize j9:upd H1 d _=H2;have kc:=xf.of_eq hd j9;have ed:=xn j9;clear j9;right;intro t ht;generalize j8:upd H2 t _=H3;have ka:=xf.of_eq ht j8;have et:=xn j8;clear j8;left;refine q t d H3 _ _ (ke.trans (kc.trans ka)) et (ka.at ed) (.inr (.inr ⟨?_,rfl⟩));rcases ah.mp hv with rfl|hv
    ·exact .inl rfl
    ·exact .inr ⟨m,h0,h1,ao.mp hv⟩
def jI(w:Str)(ns:List Int):Str:=a5 ⟨#[32]⟩ (w::ns.map xx)
def vU(x y:Str)(r:List Str):a5 ⟨#[32]⟩ (x::y::r)=x++⟨#[32]⟩++a5 ⟨#[32]⟩ (y::r):=rfl
def xlX:∀p∈ns.map xx,32∉p.cps.toList:=fun p hp=>by
 obtain⟨n,_,rfl⟩:=bA.mp hp;exact xcD n (by decide) (by decide)
def xm7{w:Str}(h:32∉w.cps.toList):wds (jI w ns)=w::ns.map xx:=
 xeB (c:=32) (by simp) fun p hp=>by
  rcases ah.mp hp with rfl|hp
  ·exact h
  ·exact xlX p hp
def xpM:uH.all (fun w=> !w.cps.toList.contains 32&&decide (w.length<=5))=true:=by decide+kernel
def xm8{w:Str}(h:w∈uH):32∉w.cps.toList/\w.length<=5:=by
 have:=bh.mp xpM w h;rw[bx]at this;exact⟨by simpa using this.1,of_decide_eq_true this.2⟩
structure xeZ(z w:Str)(ns:List Int):Prop where
 len:z.length<=2000
 fst:yz z=w
 key:w∈uH
 few:(wds z).length<=60
 num:nums z=ns.map some
def xbv{w:Str}(hw:w∈uH)(hn:ns.length<=24)(hs:∀x∈ns,Sm x):xeZ (jI w ns) w ns:=by
 obtain⟨h1,h2⟩:=xm8 hw;have e:=xm7 (ns:=ns) h1;refine⟨?_,by unfold yz;rw[e];rfl,hw,by rw[e,aU,ag];lia,?_⟩
 ·have:=uM (d:=32) (B:=61) (w::ns.map xx) fun p hp=>by
   rcases ah.mp hp with rfl|hp
   ·lia
   ·obtain⟨n,hn,rfl⟩:=bA.mp hp;exact ze (hs n hn)
  rw[aU,ag]at this;unfold jI;lia
 ·unfold nums;rw[e,List.tail_cons,dy];exact List.map_congr_left fun n hn=>xfC (hs n hn)
def yV{w:Str}(h:(decide (z.length<=2000)&&decide (yz z=w)&&uH.contains w&&decide ((wds z).length<=60)&&decide (xeW z=ns.map some))=true):xeZ z w ns:=by
 simp only[bx,decide_eq_true_eq]at h;obtain⟨⟨⟨⟨h1,h2⟩,h3⟩,h4⟩,h5⟩:=h;exact⟨h1,h2,by simpa using h3,h4,by rw[xeX];exact h5⟩
def xaR(x y z:Str):x++y++z=x++(y++z):=xfc (by simp only[xdh,eM])
def xlY(m:Int):xgZ m=jI "take" [5,m,0]:=by
 unfold xgZ jI;show _=a5 ⟨#[32]⟩ [("take":Str),xx 5,xx m,xx 0];rw[vU,vU,vU,show("take 5 ":Str)=("take":Str)++⟨#[32]⟩++(xx 5++⟨#[32]⟩)by decide+kernel,show(" 0":Str)=⟨#[32]⟩++xx 0 by decide+kernel];show _=("take":Str)++⟨#[32]⟩++(xx 5++⟨#[32]⟩++(xx m++⟨#[32]⟩++xx 0));simp only[xaR]
def xlZ(m:Int):("room ":Str)++xx m++" 4"=jI "room" [m,4]:=by
 show _=a5 ⟨#[32]⟩ [("room":Str),xx m,xx 4];rw[vU,vU,show("room ":Str)=("room":Str)++⟨#[32]⟩by decide+kernel,show(" 4":Str)=⟨#[32]⟩++xx 4 by decide+kernel];show _=("room":Str)++⟨#[32]⟩++(xx m++⟨#[32]⟩++xx 4);simp only[xaR]
def xl0(m:Int):("rows 1 ":Str)++xx m=jI "rows" [1,m]:=by
 show _=a5 ⟨#[32]⟩ [("rows":Str),xx 1,xx m];rw[vU,vU,show("rows 1 ":Str)=("rows":Str)++⟨#[32]⟩++(xx 1++⟨#[32]⟩)by decide+kernel];show _=("rows":Str)++⟨#[32]⟩++(xx 1++⟨#[32]⟩++xx m);simp only[xaR]
def xoy(m:Int):("go ":Str)++xx m=jI "go" [m]:=by
 show _=a5 ⟨#[32]⟩ [("go":Str),xx m];rw[vU,show("go ":Str)=("go":Str)++⟨#[32]⟩by decide+kernel];rfl
def xm9(h:ns≠[]):("put 0 ":Str)++yo ns=jI "put" (0::ns):=by
 obtain⟨x,r,rfl⟩:=List.exists_cons_of_ne_nil h;show _=a5 ⟨#[32]⟩ (("put":Str)::xx 0::xx x::r.map xx);rw[vU,vU,show("put 0 ":Str)=("put":Str)++⟨#[32]⟩++(xx 0++⟨#[32]⟩)by decide+kernel];show _=("put":Str)++⟨#[32]⟩++(xx 0++⟨#[32]⟩++yo (x::r));simp only[xaR]
def xkD.refd{n:Str}(h:xkD K H v n)(hp:s.paper.isNone=false):xkB K a H D s v n:=by
 rcases h with⟨z,hz,rfl,rfl⟩|⟨h,rfl⟩|⟨h,rfl⟩
 ·have:=bh.mp xqB z hz;simp only[bx,decide_eq_true_eq,eO]at this;obtain⟨⟨⟨h1,h2⟩,h3⟩,h4⟩:=this;exact .inr ⟨z,rfl,h1,by simpa using h2,h3,.inl ⟨by rw[xeX,h4];rfl,rfl⟩⟩
 ·exact .inl ⟨h,rfl⟩
 ·have key:∀(z:Str) (i j:Int),0<=i->0<=j->xeZ z "take" [i,j,0]->xkB K a H D s (.str z) "NoRow":=fun z i j hi hj L=>by
   have e1:listed (yz z) (nums z)=true:=by
    rw[L.fst,L.num];show yr "take" [i,j,0] 3 (some 3) 3=true;unfold yr;rw[if_neg (by decide+kernel),decide_eq_false (p:=("take":Str)="make") (by decide+kernel)];simp[show¬i<0 by lia,show¬j<0 by lia]
   have e2:wanted s (yz z)=true:=by
    rw[L.fst,xaC,hp];cases s.room.isNone<;> cases s.begun<;> decide+kernel
   exact .inr ⟨z,rfl,L.len,by rw[L.fst];exact L.key,L.few,.inr (.inl ⟨e1,e2,L.fst,rfl,i,j,hi,hj,L.num⟩)⟩
  rcases h with rfl|⟨m,h0,h1,rfl⟩
  ·exact key _ 0 0 (by decide) (by decide) (yV (by decide+kernel))
  ·rw[xlY];refine key _ 5 m (by decide) h0 (xbv (by decide+kernel) (dz rfl) fun x hx=>?_);simp only[ah,aW,or_false]at hx;unfold Sm;rcases hx with rfl|rfl|rfl<;> lia
def yM(ed:D.d=d)(hD:yi a H D s)(hT:Tbs H)(L:xeZ z w' ns)(hl:listed w' (ns.map some)=true)(hw:wanted s w'=true)(hA:Ans a H D s Q E w' ns):vB K a [.ref d,.str z] H Q E:=by
 subst ed;exact⟨D,s,.str z,rfl,hD,hT,.inr ⟨z,rfl,L.len,by rw[L.fst];exact L.key,L.few,.inl ⟨by rw[L.fst,L.num];exact hl,by rw[L.fst];exact hw,ns,L.num,by rw[L.fst];exact hA⟩⟩⟩
def dv(ed:D.d=d)(v:V):[V.ref d,v]=[V.ref D.d,v]:=by rw[ed]
def Pst(G:Hp)(D:DK)(s:DS)(x:Addr)(u:HO):Prop:=G x=some u/\x∉LD D s
def Pst.res{x:Addr}{u:HO}(h:Pst G D s x u)(k:Kp (LD D s) G G')(f:∀b∈LD D' s',b∈LD D s\/G b=none):Pst G' D' s' x u:=
 ⟨k x u h.1 h.2,fun z=>(f x z).elim h.2 fun e=>by rw[h.1]at e;cases e⟩
structure yg(a:Adr)(H G:Hp)(D:DK)(s:DS):Prop where
 sm:xf H G
 dk:yi a G D s
 fr:∀b∈LD D s,H b=none
 tb:Tbs G
def yg.at(h:yg a H G D s)(ed:D.d=d):G d=some (.ins a.q0f D.dx (dkF D s)):=ed▸h.dk.dk
def yg.same(h:yg a H G D s)(e:xf G G'):yg a H G' D s:=⟨h.sm.trans e,h.dk.same e,h.fr,h.tb.same e⟩
def yg.res(h:yg a H G D s)(k:Kp (LD D s) G G')(f:∀b∈LD D' s',b∈LD D s\/G b=none)(d:yi a G' D' s'):yg a H G' D' s':=
 ⟨fun b u e=>k b u (h.sm b u e) fun z=>(by rw[h.fr b z]at e;cases e),d,fun b hb=>(f b hb).elim (h.fr b) h.sm.back,h.tb.kp h.dk.mu k⟩
def zE{n:Str}(h:G l=some (.lst [.str n])):Rp K G (.ref l) (.list [.str n]):=.lst (SqL.of h) (.cons (.str _) .nil)
abbrev xna:DS:=⟨none,[],none,false⟩
abbrev xq5:DS:=⟨some ⟨[5,6,0,0],[some 0,some 0],0,none⟩,[5,6],some ⟨2,1,[]⟩,false⟩
abbrev xq6:DS:=⟨some ⟨[5,6,0,0],[some 0,some 0],0,none⟩,[5,6],some ⟨3,0,[]⟩,false⟩
def xnr:List Str:=["cells","judge","paper","begin","go","take 0 0 1","put 0 1","make 6 1 2","go 3 4"]
def xl1:List Str:=["cells","begin","go","make 6 1 2"]
def xie(r p b:Bool)(z:Str):Bool:=decide (z.length<=2000)&&uH.contains (yz z)&&decide ((wds z).length<=60)&& !(listed (yz z) (xeW z)&&uk r p b (yz z))
def xfL(h:xie s.room.isNone s.paper.isNone s.begun z=true):xkB K a H D s (.str z) "NoLine":=by
 unfold xie at h;simp only[bx,decide_eq_true_eq,eO]at h;obtain⟨⟨⟨h1,h2⟩,h3⟩,h4⟩:=h;exact .inr ⟨z,rfl,h1,by simpa using h2,h3,.inl ⟨by rw[xeX,xaC];exact h4,rfl⟩⟩
def xoz:xnr.all (xie true true false)=true:=by decide+kernel
def xnb:xl1.all (xie true false false)=true:=by decide+kernel
def xpN:Sp:=fun vs H Q _=>∃c:Int,vs=[.int c]/\Tbs H/\∀H',xf H H'->Q (.bl true) H'
def xpO(T:Txt w K mg a):xt P w K mg base CX0 13 a.q4T a.xka ["_law_cell"] xpN:=by
 refine T.q4U.ok xlH (fun vs H Q E h=>?_) (fun lO A outer s H vs Q E hr h=>?_)
 ·obtain⟨c,rfl,_⟩:=h;rfl
 ·obtain⟨c,rfl,hT,q⟩:=h;have nd:=xlH.nd;refine⟨_,(@xc _ _ _ _ _ (xv (i:=1) nd rfl (aG rfl) (xg3 T.q41 (xc4 T) hr.m (by rfl) T.xlu T.xdC .nil xr)) (@xc _ _ _ _ _ (@xv _ _ 2 _ _ _ _ nd rfl (aG rfl) (@xK _ _ _ _ (@xa _ _ _ _ _ (@xj _ _ _ _) (@xa _ _ _ _ _ (@xj _ _ _ _) (@xa _ _ _ _ _ (@xj _ _ _ _) (@xa _ _ _ _ _ (@xj _ _ _ _) (@xa _ _ _ _ _ (@xj _ _ _ _) (@xa _ _ _ _ _ (@xj _ _ _ _) (@xa _ _ _ _ _ (@xj _ _ _ _) (@xa _ _ _ _ _ (@xj _ _ _ _) (@xa _ _ _ _ _ (@xj _ _ _ _) (@xb _) rfl) rfl) rfl) rfl) rfl) rfl) rfl) rfl) rfl)) rfl (.inl rfl)) (@xc _ _ _ _ _ (xC (PW.pt (zi (xG (xaG hr.units) (xu (jK T) hr.m (by rfl) T.xbj T.q2R.kp T.xbi .nil xr (xa (cv 1) (xa (xA yb (cv 2) (xy uc (cv 0) xk) (fun _ _=>rfl)) xb))) (xK (xa xj xb))) (zM (xG vQ (xS (cv 1) T.q0e T.q0m (xQ T) hr.m T.xT .nil yB (xa xj xb)) xj)))) (xh (xp yf)) xq) (@xc _ _ _ _ _ (@xC _ _ _ _ _ _ _ _ (xG (xaG hr.units) (xu (jK T) hr.m (by rfl) T.xbj T.q2R.kp T.xbi .nil xr (xa (cv 1) (xa (xA yb (xK (xa xj (xa xj (xa xj (xa xj xb))))) (xy uc (xy xbf (cv 0) xk) xk) (fun _ _=>rfl)) xb))) (xK (xa xj xb))) (@xh _ _ _ (@xp _ _ _ _ yf)) (@xq _)) (@xc _ _ _ _ _ (xC (PW.pt (zi (xG vQ (xS (cv 1) T.q0e T.q0m (xQ T) hr.m T.xT .nil yB (xa xj xb)) xj) (zi (xG (xaG hr.units) (xu (jK T) hr.m (by rfl) T.xbj T.q2R.kp T.xbi .nil xr (xa (cv 1) (xa xj xb))) (xK (xa xj xb))) (zM (xG (xaG hr.units) (xu (jK T) hr.m (by rfl) T.xbj T.q2R.kp T.xbi .nil xr (xa (cv 1) (xa xj xb))) (xK (xa xj xb))))))) (xh (xp yf)) xq) (@xc _ _ _ _ _ (xC (PW.pt (zi (xG vQ (xS (cv 1) T.q0e T.q0m (xQ T) hr.m T.xT .nil yB (xa xj xb)) xj) (zM (xG (xaG hr.units) (xu (jK T) hr.m (by rfl) T.xbj T.q2R.kp T.xbi .nil xr (xa (cv 1) (xa xj xb))) (xK (xa xj xb)))))) (xh (xp yf)) xq) (xh (xp (yJ (yn zu (xS (cv 1) T.q0e T.q0m (xQ T) hr.m T.xT .nil yB (xa xj xb)) xj) (yX (yn zu (xS (cv 1) T.q0e T.q0m (xQ T) hr.m T.xT .nil yB (xa xj xb)) xj))))))))))),?_⟩;left;intro d kW hd kC lq;generalize kK:upd H kW (.own d)=H1;have kF:=xf.of_eq kC kK;have lN:H1 d=none:=by rw[<-kK,xm (aL lq)];exact hd
  refine⟨d,kW,rfl,xl,fun D H2 eD k2 hD=>⟨rfl,?_⟩⟩;have ky:xf H H2:=fun b u e=>k2 b u ((kF.put hd) b u e) fun z=>by rw[ao.mp z,hd]at e;cases e
  have O:yg a H H2 D xna:=⟨ky,hD,fun b hb=>by rw[ao.mp (show b∈[D.d]from hb),eD];exact hd,hT.same ky⟩;clear k2 hD ky kF;right;intro bl lD;generalize ke:upd H2 bl _=H3;have la:=xf.of_eq lD ke;have kR:=xn ke;clear ke;left
  replace O:=O.same la
  left;obtain⟨v,hv,ev⟩:=xeY (xs:=xnr.map V.str) (i:=c%9) (by lia) (by show c%9<(9:Nat);lia);obtain⟨z,hz,rfl⟩:=bA.mp hv;walk_at"ss";exists⟨bl,_,_,_,rfl,rfl,SqL.of kR,ev,?_⟩;refine⟨D,_,.str z,"NoLine",dv eD _,O.dk,O.tb,xfL (bh.mp xoz z hz),fun l4 H4 s4 e4=>?_⟩
  replace O:=O.same s4
  right;intro l5 lC;generalize kd:upd H4 l5 _=H5;have kE:=xf.of_eq lC kd;have kQ:=xn kd;clear kd;left
  replace O:=O.same kE
  refine uL (f:=fun b=> !b) (zE (kE.at e4)) (zE kQ) (by decide+kernel) ?_;left;walk_at"n";exists⟨d,D.dx,_,rfl,O.at eD,rfl,?_⟩;refine yM eD O.dk O.tb (yV (ns:=[2,1]) (by decide+kernel)) (by decide+kernel) (by decide+kernel) (.rows 2 1 ⟨by decide,by decide,by decide,by decide,by decide,fun _ z=>nomatch z⟩ fun H6 D6 d6 k6 f6 kL=>?_)
  replace O:=O.res k6 f6 kL
  clear kL f6 k6 kR ev hv hz kQ e4
  replace eD:=d6.trans eD
  clear d6;left;walk_at"n";walk_at"ss";intro l7 lB;generalize kc:upd H6 l7 _=H7;have kZ:=xf.of_eq lB kc;have kP:=xn kc;clear kc;left
  replace O:=O.same kZ
  obtain⟨v,hv,ev⟩:=xeY (xs:=xl1.map V.str) (i:=c / 9%4) (by lia) (by show c / 9%4<(4:Nat);lia);obtain⟨z,hz,rfl⟩:=bA.mp hv;walk_at"ss";exists⟨l7,_,_,_,rfl,rfl,SqL.of kP,ev,?_⟩;refine⟨D6,_,.str z,"NoLine",dv eD _,O.dk,O.tb,xfL (bh.mp xnb z hz),fun l8 H8 s8 e8=>?_⟩
  replace O:=O.same s8
  right;intro l9 lA;generalize kb:upd H8 l9 _=H9;have kD:=xf.of_eq lA kb;have kO:=xn kb;clear kb;left
  replace O:=O.same kD
  refine uL (f:=fun b=> !b) (zE (kD.at e8)) (zE kO) (by decide+kernel) ?_;left;walk_at"N";clear ev hv hz kP e8 kO;left;exists⟨d,D6.dx,_,rfl,O.at eD,rfl,?_⟩;refine yM eD O.dk O.tb (yV (ns:=[4,5,6]) (by decide+kernel)) (by decide+kernel) (by decide+kernel) (.room 4 [5,6] (by decide) (by decide) fun lJ ku kY kJ kN kj=>?_)
  replace O:yg a H lJ ku xq5:=O.res kJ kN kj
  clear kj kN kJ
  replace eD:=kY.trans eD
  clear kY;left;walk_at"n";refine⟨ku,_,.str "begin","Faulty",dv eD _,O.dk,O.tb,.inr ⟨_,rfl,by decide,by decide+kernel,by decide+kernel,.inr (.inr ⟨rfl,_,_,rfl,rfl,rfl,.inl ⟨by decide,rfl⟩⟩)⟩,fun lM lI lp kU=>?_⟩
  replace O:=O.same lp
  right;intro lz kB;generalize ka:upd lI lz _=lT;have kh:=xf.of_eq kB ka;have ko:=xn ka;clear ka;left
  replace O:=O.same kh
  refine uL (f:=fun b=> !b) (zE (kh.at kU)) (zE ko) (by decide+kernel) ?_;left;walk_at"N";clear kU ko;left;refine⟨ku,_,.str "go","NoLine",dv eD _,O.dk,O.tb,xfL (show xie false false false "go"=true by decide+kernel),fun lL lH lj kT=>?_⟩
  replace O:=O.same lj
  right;intro ly kA;generalize j9:upd lH ly _=lR;have kg:=xf.of_eq kA j9;have kn:=xn j9;clear j9;left
  replace O:=O.same kg
  refine uL (f:=fun b=> !b) (zE (kg.at kT)) (zE kn) (by decide+kernel) ?_;left;walk_at"N";clear kT kn;left;exists⟨d,ku.dx,_,rfl,O.at eD,rfl,?_⟩;refine yM eD O.dk O.tb (yV (ns:=[3,0]) (by decide+kernel)) (by decide+kernel) (by decide+kernel) (.rows 3 0 ⟨by decide,by decide,by decide,by decide,by decide,fun _ z=>nomatch z⟩ fun lG kr kX kH kM ki=>?_)
  replace O:yg a H lG kr xq6:=O.res kH kM ki
  clear ki kM kH
  replace eD:=kX.trans eD
  clear kX;left;walk_at"n";refine⟨kr,_,.str "begin","Unfit",dv eD _,O.dk,O.tb,.inr ⟨_,rfl,by decide,by decide+kernel,by decide+kernel,.inr (.inr ⟨rfl,_,_,rfl,rfl,rfl,.inr ⟨by decide,by decide,rfl⟩⟩)⟩,fun lK lF lh kS=>?_⟩
  replace O:=O.same lh
  right;intro lr kz;generalize j8:upd lF lr _=lQ;have kf:=xf.of_eq kz j8;have km:=xn j8;clear j8;left
  replace O:=O.same kf
  refine uL (f:=fun b=> !b) (zE (kf.at kS)) (zE km) (by decide+kernel) ?_;left;walk_at"N";clear kS km;left;exists⟨d,kr.dx,_,rfl,O.at eD,rfl,?_⟩;refine yM eD O.dk O.tb (yV (ns:=[]) (by decide+kernel)) (by decide+kernel) (by decide+kernel) (.cells _ rfl (by decide) (fun x hx=>by simp only[ah,aW,or_false]at hx;unfold Sm;rcases hx with rfl|rfl|rfl|rfl<;> decide) fun lP lg=>?_)
  replace O:=O.same lg
  left;rw[decide_eq_true (p:=yo _=_) (show yo [5,6,0,0]="5 6 0 0" by decide+kernel)];walk_at"y";exists⟨d,kr.dx,_,rfl,O.at eD,rfl,?_⟩;refine yM eD O.dk O.tb (yV (ns:=[]) (by decide+kernel)) (by decide+kernel) (by decide+kernel) (.judge _ rfl (by decide) fun lE lb=>?_);exact q lE (O.sm.trans lb)
def sgL(c1:Int)(n:Nat):List Int:=(cT n).map fun(k:Nat)=>c1%10^59+(k:Int)
def xbw(c1:Int)(n:Nat):(sgL c1 n).length=n:=by simp[sgL]
def xif{c1:Int}{n:Nat}(hn:n<=20):∀x∈sgL c1 n,Sm x:=fun x hx=>by
 unfold sgL at hx;obtain⟨k,hk,rfl⟩:=bA.mp hx;have:=List.mem_range.mp hk;unfold Sm;lia
def xpP{c1:Int}{n:Nat}(h1:1<=n)(hn:n<=20):yy (sgL c1 n):=
 ⟨fun z=>by have:=xbw c1 n;rw[z]at this;simp at this;lia,by rw[xbw];lia,xif hn⟩
def rmA(n:Nat)(m:Int):RM:=⟨[4]++aK (n - 1) 0,[some 0,some 0],m,none⟩
def stA(sg:List Int):Nat->DS
 |0=>xna
 |1=>⟨some (rmA sg.length 0),[4],none,false⟩
 |2=>⟨some (rmA sg.length 0),[4],some ⟨1,sg.length,[]⟩,false⟩
 |3=>⟨some (rmA sg.length 0),[4],some ⟨1,sg.length,[sg]⟩,false⟩
 |_=>⟨some (rmA sg.length 2),[4],some ⟨1,sg.length,[sg]⟩,true⟩
def xpQ:∀n:Nat,n<21->1<=n->listed "room" ([(n:Int),4].map some)=true:=by decide+kernel
def xpR:∀n:Nat,n<21->listed "rows" ([1,(n:Int)].map some)=true:=by decide+kernel
def xq7:∀n:Nat,n<21->listed "go" ([(n:Int)].map some)=true:=by decide+kernel
def xqC(h:sg≠[]):listed "put" ((0::sg).map some)=true:=by
 have e:xeU.lookup ("put":Str)=some (2,none,1):=by decide+kernel
 unfold listed;rw[e];show(!((0::sg).map some).contains none&&yr "put" (((0::sg).map some).filterMap id) 2 none 1)=true;rw[xjt];have e1:((0::sg).map some).contains (none:Option Int)=false:=by simp
 have e2:yr "put" (0::sg) 2 none 1=true:=by
  unfold yr;rw[if_neg (by decide+kernel),decide_eq_false (p:=("put":Str)="make") (by decide+kernel)];have:=dQ.mpr h;simp;lia
 rw[e1,e2];rfl
def sm2{x y:Int}(h1:Sm x)(h2:Sm y):∀z∈[x,y],Sm z:=fun z hz=>by
 simp only[ah,aW,or_false]at hz;rcases hz with rfl|rfl
 ·exact h1
 ·exact h2
def sm0(h:∀x∈ns,Sm x):∀x∈(0:Int)::ns,Sm x:=fun x hx=>by
 rcases ah.mp hx with rfl|hx
 ·unfold Sm;decide
 ·exact h x hx
def xe0(sg:List Int):List Str:=[("room ":Str)++xx sg.length++" 4",("rows 1 ":Str)++xx sg.length,("put 0 ":Str)++yo sg,"begin"]
def xc7{n:Nat}(h:n<=1000):Sm (n:Int):=by unfold Sm;lia
theorem xoA(hk:yy sg)(O:yg a H1 G D (stA sg i))(ed:D.d=d)(hz:(xe0 sg)[i]? =some z)
  (q:∀(G':Hp) (D':DK),yg a H1 G' D' (stA sg (i+1))->D'.d=d->(∀x u,Pst G D (stA sg i) x u->Pst G' D' (stA sg (i+1)) x u)->Q (.str "ok") G'):vB K a [.ref d,.str z] G Q E:=by
 have hl:=hk.few;have h1:=hk.pos;have res:∀{s':DS},s'=stA sg (i+1)->Res a G D (stA sg i) s' (Q (.str "ok")):=fun e G' D' d' k f hD=>by
  subst e;exact q G' D' (O.res k f hD) (d'.trans ed) fun x u p=>p.res k f
 match i,hz with
 |0,hz=>
  obtain rfl:_=z:=aQ hz;rw[xlZ];exact yM ed O.dk O.tb (xbv (by decide+kernel) (dz rfl) (sm2 (xc7 (by lia)) (by unfold Sm;decide))) (xpQ _ (by lia) h1) (by rw[xaC];exact(show uk true true false "room"=true by decide+kernel)) (.room sg.length [4] (by simp;lia) (by lia) (res rfl))
 |1,hz=>
  obtain rfl:_=z:=aQ hz;rw[xl0];exact yM ed O.dk O.tb (xbv (by decide+kernel) (dz rfl) (sm2 (by unfold Sm;decide) (xc7 (by lia)))) (xpR _ (by lia)) (by rw[xaC];exact(show uk false true false "rows"=true by decide+kernel)) (.rows 1 sg.length ⟨by decide,by decide,by lia,by lia,by decide,fun _ z=>nomatch z⟩ (res rfl))
 |2,hz=>
  obtain rfl:_=z:=aQ hz;rw[xm9 hk.ne];exact yM ed O.dk O.tb (xbv (by decide+kernel) (by rw[aU];lia) (sm0 hk.sm)) (xqC hk.ne) (by rw[xaC];exact(show uk false false false "put"=true by decide+kernel)) (.put 1 sg hk rfl (res rfl))
 |3,hz=>
  obtain rfl:_=z:=aQ hz;exact yM ed O.dk O.tb (yV (ns:=[]) (by decide+kernel)) (by decide+kernel) (by rw[xaC];exact(show uk false false false "begin"=true by decide+kernel)) (.begin _ _ rfl rfl rfl (.inr (.inr ⟨rfl,rfl,res rfl⟩)))
 |i+4,hz=>cases hz
def xjv(sg:List Int)(h:yy sg)(m:Int):(rmA sg.length m).c.length=sg.length:=by
 have:=h.pos;show([4]++aK (sg.length - 1) (0:Int)).length=_;simp;lia
def rmS(sg:List Int)(u:Nat):RM:=⟨wrt sg (rmA sg.length 2).c u,[some 0,some 0],2+u+1,some (2+u)⟩
def stS(sg:List Int)(u:Nat):DS:=⟨some (rmS sg u),[4],some ⟨1,sg.length,[sg]⟩,true⟩
def xfM(h:yy sg)(hu:u<sg.length):(rmS sg u).c.length=sg.length:=by
 have e:=xjv sg h 2;show(wrt sg (rmA sg.length 2).c u).length=_;rw[xfB (by lia) (by lia),e]
def xpS(h:yy sg)(u:Nat):∀x∈(rmS sg u).c,Sm x:=fun x hx=>by
 have hx:x∈sg.take u++([4]++aK (sg.length - 1) (0:Int)).drop u:=hx;rcases bL.mp hx with hx|hx
 ·exact h.sm x (List.mem_of_mem_take hx)
 ·rcases bL.mp (List.mem_of_mem_drop hx)with hx|hx
  ·rw[ao.mp hx];unfold Sm;decide
  ·rw[List.eq_of_mem_replicate hx];unfold Sm;decide
def xoB{c:List Int}(h:c.length=sg.length):wrt sg c sg.length=sg:=by
 unfold wrt;rw[List.drop_of_length_le (by lia),bo,cY]
def xgg(hk:yy sg)(hu:u<sg.length)(O:yg a H1 G D (stS sg u))(ed:D.d=d)(q:∀G',xf G G'->Q (.str (yo (rmS sg u).c)) G'):vB K a [.ref d,.str "cells"] G Q E:=
 yM ed O.dk O.tb (yV (ns:=[]) (by decide+kernel)) (by decide+kernel) (show uk false false true "cells"=true by decide+kernel) (.cells _ rfl (by rw[xfM hk hu];have:=hk.few;lia) (xpS hk u) q)
def xgh(O:yg a H1 G D (stS sg u))(ed:D.d=d)(q:∀G',xf G G'->Q (.str (xeV ⟨1,sg.length,[sg]⟩)) G'):vB K a [.ref d,.str "paper"] G Q E:=
 yM ed O.dk O.tb (yV (ns:=[]) (by decide+kernel)) (by decide+kernel) (show uk false false true "paper"=true by decide+kernel) (.paper _ rfl q)
def xgi(O:yg a H1 G D (stS sg u))(ed:D.d=d)(q:∀G',xf G G'->Q (.str "none") G'):vB K a [.ref d,.str "judge"] G Q E:=
 yM ed O.dk O.tb (yV (ns:=[]) (by decide+kernel)) (by decide+kernel) (show uk false false true "judge"=true by decide+kernel) (.judge _ rfl rfl q)
def xig(h1:bJ x=true)(h2:bJ y=true):bJ (x++y)=true:=by
 unfold bJ at*;show(x.cps++y.cps).all _=true;rw[Array.all_append,h1,h2];rfl
theorem xdl{z:Str}(hz:bJ z=true):∀{ss:List Str},(∀p∈ss,bJ p=true)->bJ (a5 z ss)=true
 |[],_=>by unfold a5;decide+kernel
 |[x],h=>h x (by simp)
 |x::y::r,h=>xig (xig (h x (by simp)) hz) (xdl hz (ss:=y::r) fun p hp=>h p (aH _ hp))
def xl2(n:Int):bJ (xx n)=true:=by
 have key:∀m,∀c∈ja m,c<1114112:=fun m c hc=>by have:=(zd m c hc).2;lia
 have e:=vc n;unfold bJ;rw[<-Array.all_toList,e,bh];intro c hc
 split at hc
 ·rcases ah.mp hc with rfl|hc
  ·decide
  ·exact decide_eq_true (key _ c hc)
 ·exact decide_eq_true (key _ c hc)
def xjw(ns:List Int):∀p∈ns.map xx,bJ p=true:=fun p hp=>by
 obtain⟨n,_,rfl⟩:=bA.mp hp;exact xl2 n
def xiV{w:Str}(h:(w,c)∈xb6):bJ w=true:=by
 unfold xb6 at h;simp only[ah,f7,aW,or_false]at h;rcases h with⟨rfl,_⟩|⟨rfl,_⟩|⟨rfl,_⟩<;> decide+kernel
def xnc{q:PP}(h:POk q.o q.n q.rs):bJ (xeV q)=true:=by
 have hk:=xh0 h;have e:xeV q=a5 "; " (uG (lns q.o q.n q.rs)):=by
  unfold xeV;rw[show("\n":Str)=⟨#[10]⟩from rfl,StrLaws.replace_one];unfold xgY;rw[xeB (c:=10) (by unfold uG;simp) fun p hp=>?_];rcases bL.mp hp with hp|hp
  ·obtain⟨l,hl,rfl⟩:=bA.mp hp;exact xf7 (by decide) ((hk l hl).ws (by decide) (by decide))
  ·rw[ao.mp hp];exact xmI (by decide+kernel) (xcD _ (by decide) (by decide))
 rw[e];refine xdl (by decide+kernel) fun p hp=>?_;rcases bL.mp hp with hp|hp
 ·obtain⟨l,hl,rfl⟩:=bA.mp hp;refine xdl (by decide+kernel) fun p hp=>?_;rcases ah.mp hp with rfl|hp
  ·exact xiV (hk l hl).1
  ·exact xjw _ p hp
 ·rw[ao.mp hp];exact xig (by decide+kernel) (xl2 _)
def xih(h:G l=some (.lst [.str x,.str y,.str z])):Rp K G (.ref l) (.list [.str x,.str y,.str z]):=.lst (SqL.of h) (.cons (.str _) (.cons (.str _) (.cons (.str _) .nil)))
def xnd(h1:bJ x=true)(h2:bJ y=true)(h3:bJ z=true):ek (.list [.str x,.str y,.str z])=true:=by
 unfold ek;simp[PyData.canLay0,PyData.canLayAll0,PyData.depth,PyData.depthAll,h1,h2,h3]
def xoC(hk:yy sg)(hu:u<sg.length)(O:yg a H1 G D (stA sg 4))(ed:D.d=d)(q:∀G' D',yg a H1 G' D' (stS sg u)->D'.d=d->Q (.str "fallen") G'):vB K a [.ref d,.str (("go ":Str)++xx u)] G Q E:=by
 have e:=xjv sg hk 2;have hf:=hk.few;rw[xoy];exact yM ed O.dk O.tb (xbv (by decide+kernel) (dz rfl) (fun x hx=>by rw[ao.mp hx];exact xc7 (by lia))) (xq7 u (by lia)) (show uk false false true "go"=true by decide+kernel)
  (.go _ _ 1 sg rfl rfl rfl hk (by lia) (by lia) (by lia) (by show(0:Int)<=2;decide) (by show(2:Int)<=1000;decide) (.inl ⟨u,hu,rfl,fun G' D' d' k f hD=>q G' D' (O.res k f hD) (d'.trans ed)⟩))
def stE(sg:List Int)(u:Nat):DS:=⟨some ⟨wrt sg (rmS sg u).c sg.length,[some 0,some 1],(2+u+1:Int)+sg.length+1,none⟩,sg,some ⟨1,sg.length,[sg]⟩,false⟩
def xoD(hk:yy sg)(hu:u<sg.length)(O:yg a H1 G D (stS sg u))(ed:D.d=d)(q:∀G' D',yg a H1 G' D' (stE sg u)->D'.d=d->Q (.str (xdk sg.length)) G'):vB K a [.ref d,.str "go"] G Q E:=by
 have e:=xfM hk hu;have hf:=hk.few;exact yM ed O.dk O.tb (yV (ns:=[]) (by decide+kernel)) (by decide+kernel) (show uk false false true "go"=true by decide+kernel)
  (.go _ _ 1 sg rfl rfl rfl hk (by lia) (by lia) (by lia) (by show(0:Int)<=2+u+1;lia) (by show(2+u+1:Int)<=1000;lia) (.inr ⟨rfl,fun G' D' d' k f hD=>q G' D' (O.res k f hD) (d'.trans ed)⟩))
def xoE(hk:yy sg)(hu:u<sg.length)(O:yg a H1 G D (stE sg u))(ed:D.d=d)(q:∀G',xf G G'->Q (.str (yo sg)) G'):vB K a [.ref d,.str "cells"] G Q E:=by
 have e:=xoB (xfM hk hu);refine yM ed O.dk O.tb (yV (ns:=[]) (by decide+kernel)) (by decide+kernel) (show uk false false false "cells"=true by decide+kernel) (.cells _ rfl ?_ ?_ ?_)
 ·show(wrt sg (rmS sg u).c sg.length).length<=300;rw[e];have:=hk.few;lia
 ·show∀x∈wrt sg (rmS sg u).c sg.length,Sm x;rw[e];exact hk.sm
 ·show∀G',xf G G'->Q (.str (yo (wrt sg (rmS sg u).c sg.length))) G';rw[e];exact q
def xpT(ns:List Int)(x y:Option Int):∃is:List Int,uo (ns.map V.int) x y=is.map V.int/\is.length<=ns.length:=by
 rw[xaK];exact⟨_,rfl,by rw[bw,dF];lia⟩
def xii(K:ay):Sp:=fun vs H Q _=>∃(l:Addr) (ns:List Int),vs=[.ref l]/\SqL K H l (ns.map V.int)/\ns.length<=63/\H zy=some (.tbl vS)/\H yw=some (.tbl uh)/\H ye=some (.tbl yZ)/\H yx=some (.tbl ui)/\∀H',Q (.bl true) H'
def xpU(T:Txt w K mg a):xt P w K mg base CX0 14 a.q4D a.xkb ["_law_script"] (xii K):=by
 refine T.xgW.ok xlI (fun vs H Q E h=>?_) (fun lG A outer s H vs Q E hr h=>?_)
 ·obtain⟨l,ns,rfl,_⟩:=h;rfl
 ·obtain⟨l,ns,rfl,hl,hn,t1,t2,t3,t4,q⟩:=h;have nd:=xlI.nd;refine⟨_,(xc (xv (i:=1) nd rfl (aG rfl) (xu (xb8 T) hr.m (by rfl) T.xcR T.q17.kp T.xcQ .nil xr (xa (cv 0) (xa xk xb))))
  (xc (xC (uy (xW (xu (xpO T) hr.m (by rfl) T.xqu T.q4U.kp T.xqt .nil xr (xa (cv 1) xb)))) (xh (xp yf)) xq)
  (xc (xv (i:=2) nd rfl (aG rfl) (xg3 T.q41 (xc4 T) hr.m (by rfl) T.xlu T.xdC .nil xr))
  (xc (zA (xv (i:=3) nd rfl (aG rfl) (xy vf xk (xy uc (xy xbf (cv 1) xk) xk))))
  (xc (xv (i:=4) nd rfl (aG rfl) (zh PySem.F.plainAttrs_str PySem.F.slot_str_join PySem.F.type_str_join xdf xj (xa (ud (zB (cap:=[0]) (ys:=["_law_script"]) rfl rfl rfl rfl rfl ⟨⟨rfl,rfl,.inl rfl⟩,trivial⟩ (by decide+kernel)) rfl (xfY (by rfl) T.q4S (xa (cv 3) xb)) (fun _ _ _ _=>(xU zw (by rfl) T.q3s uz (xa (xy vf (xy uc (xu (xb8 T) hr.m (by rfl) T.xcR T.q17.kp T.xcQ .nil xr (xa (cv 1) (xa xk xb))) (xy xjK xk xk)) (cv 0)) xb))) (fun _ _ _ _=>zm)) xb)))
  (xc (xv (i:=5) nd rfl (aG rfl) (xK (xa (xy yj (xy yj xj (xU zw (by rfl) T.q3s uz (xa (cv 3) xb))) xj) (xa (xy yj xj (xU zw (by rfl) T.q3s uz (xa (cv 3) xb))) (xa (xy yj xj (cv 4)) (xa xj xb))))))
  (xc (yk PassesOwn.never rfl (ya (cv 5)) (xP (i:=6) nd rfl (aG rfl)) (xh (xC (xG vQ (xS (cv 2) T.q0e T.q0m (xQ T) hr.m T.xT .nil yB (xa (cv 6) xb)) xj) (xh (xp yf)) xq)))
  (xc (zA (xv (i:=7) nd rfl (aG rfl) (xy uc (xu (xb8 T) hr.m (by rfl) T.xcR T.q17.kp T.xcQ .nil xr (xa (cv 0) (xa xk xb))) (cv 3))))
  (xc (xC (xG vQ (xS (cv 2) T.q0e T.q0m (xQ T) hr.m T.xT .nil yB (xa (xy yj xj (xU zw (by rfl) T.q3s uz (xa (cv 7) xb))) xb)) xj) (xh (xp yf)) xq)
  (xc (xv (i:=8) nd rfl (aG rfl) (xK (xa (xS (cv 2) T.q0e T.q0m (xQ T) hr.m T.xT .nil yB (xa xj xb)) (xa (xS (cv 2) T.q0e T.q0m (xQ T) hr.m T.xT .nil yB (xa xj xb)) (xa (xS (cv 2) T.q0e T.q0m (xQ T) hr.m T.xT .nil yB (xa xj xb)) xb)))))
  (xc (yk PassesOwn.never rfl (ya (yG ub (cv 0) (yS xk) (yS xk))) (xP (i:=1) nd rfl (aG rfl)) (xc (xkJ (xu (xox T) hr.m (by rfl) T.xpG T.q4t.kp T.xpF .nil xr (xa (cv 1) xb)) (xbd rfl (yt (xP (i:=6) nd rfl (aG rfl)) (yt (xP (i:=9) nd rfl (aG rfl)) jJ))))
  (xh (xC (PW.pt (zi (xG (xaG hr.units) (xu (jK T) hr.m (by rfl) T.xbj T.q2R.kp T.xbi .nil xr (xa (cv 2) (xa (cv 6) xb))) (cv 9)) (zM (xG (xaG hr.units) (xK (xa (xS (cv 2) T.q0e T.q0m (xQ T) hr.m T.xT .nil yB (xa xj xb)) (xa (xS (cv 2) T.q0e T.q0m (xQ T) hr.m T.xT .nil yB (xa xj xb)) (xa (xS (cv 2) T.q0e T.q0m (xQ T) hr.m T.xT .nil yB (xa xj xb)) xb)))) (cv 8))))) (xh (xp yf)) xq))))
  (xh (xp (yJ (yn zu (xS (cv 2) T.q0e T.q0m (xQ T) hr.m T.xT .nil yB (xa xj xb)) (xy yj xj (xU zw (by rfl) T.q3s uz (xa (xy vf (cv 3) xk) xb)))) (yX (yn zu (xS (cv 2) T.q0e T.q0m (xQ T) hr.m T.xT .nil yB (xa xj xb)) (cv 4))))))))))))))))),?_⟩
  have hT:Tbs H:=⟨t2,t3,t1,t4⟩;left;refine⟨l,ns,0,rfl,hl,by decide,?_⟩;left;obtain⟨c,hc⟩:∃c,c=cellAt ns 0:=⟨_,rfl⟩;rw[<-hc];refine⟨c,rfl,hT,fun H1 s1=>?_⟩
  replace hl:=s1.seq hl
  replace hT:=hT.same s1
  left;walk_at"n";intro d kN hd ko kR;generalize kL:upd H1 kN (.own d)=H2;have kD:=xf.of_eq ko kL;have lE:H2 d=none:=by rw[<-kL,xm (aL kR)];exact hd
  refine⟨d,kN,rfl,xl,fun D H3 eD k3 hD=>⟨rfl,?_⟩⟩;have j9:xf H1 H3:=fun b u e=>k3 b u ((kD.put hd) b u e) fun z=>by rw[ao.mp z,hd]at e;cases e
  have O:yg a H1 H3 D xna:=⟨j9,hD,fun b hb=>by rw[ao.mp (show b∈[D.d]from hb),eD];exact hd,hT.same j9⟩;clear k3 hD j9 kD hT t1 t2 t3 t4;left;obtain⟨n,en,n1,n2⟩:∃n:Nat,1+c / 36%20=(n:Int)/\1<=n/\n<=20:=⟨(1+c / 36%20).toNat,by lia,by lia,by lia⟩;refine⟨fun σ' G=>σ'=[some (.ref l),some (.int c),some (.ref d),some (.int (n:Int)),none,none,none,none,none,none]/\G=H3,?_,?_⟩
  ·right;exact⟨by rw[<-en];rfl,rfl⟩
  rintro σ' G ⟨rfl,hG⟩;subst hG;left;exists bf rfl ?_;have eR:uq 0 n 1=n:=by rw[xdW];lia
  rw[eR];obtain⟨c1,kr⟩:∃c1,c1=cellAt ns 1:=⟨_,rfl⟩;refine xla (fun i acc _=>acc=(((sgL c1 n).take i).map xx).map V.str) (by rw[ar];lia) rfl (fun i acc G3 G3' hi t3 kj hP R hR=>?_) (fun L acc G3 G3' hL kZ t3 kj hP hle he=>?_)
  ·have kK:(sgL c1 n)[i]? =some (c1%10^59+(i:Int)):=by
    unfold sgL;rw[az,iM hi];rfl
   have hs:=xif n2 _ (aw kK);left;refine⟨l,ns,1,rfl,(O.sm.trans (t3.trans kj)).seq hl,by decide,?_⟩;right;refine⟨_,xx (c1%10^59+(i:Int)),rfl,?_,fun j e=>?_,hR _ _ (xf.refl _) fun H7 _ _=>?_⟩
   ·rw[kr,show(0:Int)+(i:Int)*1=i by lia];rfl
   ·cases e;rw[<-kr,show(0:Int)+(i:Int)*1=i by lia];exact zQ hs
   ·rw[hP,bj,kK];simp
  rw[eU (by rw[xbw];exact aq _)]at hP;rw[hP]at he;have kh:=xif (c1:=c1) n2;have h1:=xbL (d:=32) ((sgL c1 n).map xx) (xaA kh);have h2:=uM (d:=32) ((sgL c1 n).map xx) (xaA kh);rw[ag,xbw]at h1 h2;left;refine⟨_,L,(sgL c1 n).map xx,rfl,rfl,SqL.of he,aO h1 (by rw[ar];lia),by rw[zR];exact aO h2 (by rw[ar];lia),?_⟩;rw[zR]
  replace O:=O.same (t3.trans kj)
  clear he hP hle h1 h2 t3 kj hL kZ kr;rw[show a5 (aM " ") ((sgL c1 n).map xx)=yo (sgL c1 n)from rfl];have hk:=xpP (c1:=c1) n1 n2;have el:=xbw c1 n;clear eR en
  revert hk el kh
  generalize sgL c1 n=sg;intro kh hk el;subst el;have kB:Sm (sg.length:Int):=xc7 (by lia);have lB:=ze kB;have lC:(yo sg).length<=20*62:=by
   have h2:=uM (d:=32) (sg.map xx) (xaA kh);rw[ag]at h2;exact aO h2 (by lia)
  have kf:∀i:Int,V.int (sg.length:Int)=V.int i->i.natAbs.log2<1920:=fun i e=>by cases e;exact zQ kB
  left;exists⟨_,xx sg.length,rfl,rfl,kf,?_⟩;refine⟨_,_,rfl,rfl,by rw[ar,show(aM "room ").length=5 from rfl];lia,?_⟩;left;refine⟨_,_,rfl,rfl,by rw[ar,len_app,show(aM "room ").length=5 from rfl,show(aM " 4").length=2 from rfl];lia,?_⟩;left;exists⟨_,xx sg.length,rfl,rfl,kf,?_⟩;refine⟨_,_,rfl,rfl,by rw[ar,show(aM "rows 1 ").length=7 from rfl];lia,?_⟩;left;refine⟨_,_,rfl,rfl,by rw[ar,show(aM "put 0 ").length=6 from rfl];lia,?_⟩;right;intro rl kW;generalize kc:upd G3' rl _=G4;have kQ:=xf.of_eq kW kc;have ke:=xn kc;clear kc;left
  replace ke:G4 rl=some (.lst ((xe0 sg).map V.str)):=ke
  replace O:yg a H1 G4 D (stA sg 0):=O.same kQ
  have Pr:Pst G4 D (stA sg 0) rl (.lst ((xe0 sg).map V.str)):=⟨ke,fun z=>by
   have z:rl=D.d:=ao.mp z;have:=O.dk.dk;rw[<-z,ke]at this;cases this⟩
  refine⟨rl,rfl,⟨_,SqL.of ke⟩,?_⟩;refine yc (xs:=(xe0 sg).map V.str) (fun k σ G=>∃D x,yg a H1 G D (stA sg k)/\D.d=d/\Pst G D (stA sg k) rl (.lst ((xe0 sg).map V.str))/\σ=[some (.ref l),some (.int c),some (.ref d),some (.int (sg.length:Int)),some (.str (yo sg)),some (.ref rl),x,none,none,none]) ⟨D,_,O,eD,Pr,rfl⟩ (fun i σ G hi hP=>?_) (fun i x σ G hx hP=>?_) (fun σ G hP=>?_)
  ·obtain⟨D,x,_,_,Pr,_⟩:=hP;exact SqL.of Pr.1
  ·obtain⟨D,x0,O,eD,Pr,rfl⟩:=hP;rw[az]at hx;obtain⟨z,hz,rfl⟩:=aE.mp hx;left;exists⟨d,D.dx,_,rfl,O.at eD,rfl,?_⟩;exists xoA hk O eD hz fun G' D' O' lh kY=>?_;walk_at"n";exact⟨D',_,O',lh,kY _ _ Pr,rfl⟩
  clear Pr O eD ke;obtain⟨D,x0,O,eD,Pr,rfl⟩:=hP;clear Pr
  replace O:yg a H1 G D (stA sg 4):=O
  left;obtain⟨u,eu,hu⟩:∃u:Nat,cellAt ns 2%(sg.length:Int)=(u:Int)/\u<sg.length:=by
   have h0:=Int.emod_nonneg (cellAt ns 2) (show(sg.length:Int)≠0 by lia);have h1:=Int.emod_lt_of_pos (cellAt ns 2) (show(0:Int)<sg.length by lia);exact⟨(cellAt ns 2%(sg.length:Int)).toNat,by lia,by lia⟩
  refine⟨fun σ' G'=>σ'=[some (.ref l),some (.int c),some (.ref d),some (.int (sg.length:Int)),some (.str (yo sg)),some (.ref rl),x0,some (.int (u:Int)),none,none]/\G'=G,?_,?_⟩
  ·left;refine⟨l,ns,2,rfl,O.sm.seq hl,by decide,?_⟩;left;refine bf (by lia) ?_;exact⟨by rw[<-eu];rfl,rfl⟩
  rintro σ' G' ⟨rfl,la⟩;subst la;left;exists⟨d,D.dx,_,rfl,O.at eD,rfl,?_⟩;have kA:Sm (u:Int):=xc7 (by lia);refine⟨_,xx u,rfl,rfl,(fun i e=>by cases e;exact zQ kA),?_⟩;left;refine⟨_,_,rfl,rfl,by rw[ar,show(aM "go ").length=3 from rfl];have:=ze kA;lia,?_⟩;left;refine xoC hk hu O eD fun G5 D5 O5 j8=>?_;clear O eD;left;walk_at"n";exists⟨d,D5.dx,_,rfl,O5.at j8,rfl,?_⟩;refine xgg hk hu O5 j8 fun G6 s6=>?_
  replace O5:=O5.same s6
  left;exists⟨d,D5.dx,_,rfl,O5.at j8,rfl,?_⟩;refine xgh O5 j8 fun G7 s7=>?_
  replace O5:=O5.same s7
  left;exists⟨d,D5.dx,_,rfl,O5.at j8,rfl,?_⟩;refine xgi O5 j8 fun G8 s8=>?_
  replace O5:=O5.same s8
  right;intro sn kS;generalize ka:upd G8 sn _=G9;have kP:=xf.of_eq kS ka;have ky:=xn ka;clear ka;left
  replace O5:=O5.same kP
  have kJ:=O5.sm.seq hl;left;exists⟨_,rfl,?_⟩;exists⟨_,rfl,?_⟩;refine⟨l,_,rfl,kJ,?_⟩;intro sl kT;generalize kb:upd G9 sl _=ly;have kg:=xf.of_eq kT kb;have kz:=xn kb;clear kb;left;obtain⟨is,kM,lD⟩:=xpT ns (some 3) (some 33);rw[kM]at kz
  replace O5:=O5.same kg
  replace ky:=kg.at ky
  clear kJ kM;refine⟨sl,rfl,⟨_,SqL.of kz⟩,?_⟩;refine yc (xs:=is.map V.int) (fun k σ G=>xf ly G/\∃x1 x6 x9,σ=[some (.ref l),x1,some (.ref d),some (.int (sg.length:Int)),some (.str (yo sg)),some (.ref rl),x6,some (.int (u:Int)),some (.ref sn),x9]) ⟨xf.refl _,_,_,_,rfl⟩ (fun i σ G hi hP=>SqL.of (hP.1.at kz)) (fun i x σ G hx hP=>?_) (fun σ G hP=>?_)
  ·obtain⟨sG,x1,x6,x9,rfl⟩:=hP;rw[az]at hx;obtain⟨cc,lF,rfl⟩:=aE.mp hx;have O:=O5.same sG;have ku:=sG.at ky;left;exists⟨cc,rfl,fun t ld lJ v n kH et lg hv=>?_⟩;have O:=O.same kH;have kU:ek (.list [.str n])=true:=by
    rcases hv with⟨_,_,_,rfl⟩|⟨_,rfl⟩|⟨_,rfl⟩<;> decide+kernel
   exists⟨t,_,rfl,SqT.of et,rfl,?_⟩;exists⟨_,_,rfl,?_⟩;exists⟨_,_,rfl,?_⟩;exists bf rfl ?_;refine⟨D5,_,v,n,dv j8 _,O.dk,O.tb,hv.refd rfl,fun lA lr kn lj=>?_⟩
   replace O:=O.same kn
   left;exists uL (f:=fun b=> !b) (zE lj) (zE (kn.at lg)) kU ?_;walk_at"n";exists⟨d,D5.dx,_,rfl,O.at j8,rfl,?_⟩;refine xgg hk hu O j8 fun lq j9=>?_
   replace O:=O.same j9
   left;exists⟨d,D5.dx,_,rfl,O.at j8,rfl,?_⟩;refine xgh O j8 fun lI kF=>?_
   replace O:=O.same kF
   left;exists⟨d,D5.dx,_,rfl,O.at j8,rfl,?_⟩;refine xgi O j8 fun lp kE=>?_
   replace O:=O.same kE
   right;intro nl kX;generalize kd:upd lp nl _=lH;have km:=xf.of_eq kX kd;have lb:=xn kd;clear kd;left;have sA:=(kH.trans kn).trans ((j9.trans kF).trans (kE.trans km));refine uL (f:=fun b=> !b) (xih lb) (xih (sA.at ku)) (xnd (xdl (by decide+kernel) (xjw _)) (xnc (O.dk.pap _ rfl).2) (by decide+kernel)) ?_;left;walk_at"n";exact⟨sG.trans sA,_,_,_,rfl⟩
  ·obtain⟨sG,x1,x6,x9,rfl⟩:=hP;have O:=O5.same sG;left;exists⟨d,D5.dx,_,rfl,O.at j8,rfl,?_⟩;exists xoD hk hu O j8 fun lr lz kO ki=>?_;have kC:Sm ((sg.length:Int)+1):=by unfold Sm;lia
   refine⟨_,xx ((sg.length:Int)+1),rfl,rfl,(fun i e=>by cases e;exact zQ kC),?_⟩;left;refine⟨_,_,rfl,rfl,by rw[ar,show(aM "done ").length=5 from rfl];have:=ze kC;lia,?_⟩;left;exists⟨fun _=>?_,fun z=>absurd (show xdk sg.length=("done ":Str)++xx ((sg.length:Int)+1)from rfl) (of_decide_eq_false z)⟩;exists⟨d,lz.dx,_,rfl,kO.at ki,rfl,?_⟩;exists xoE hk hu kO ki fun lq j9=>?_;have e:(fun i j:Str=>V.bl (decide (i=j))) (yo sg) (yo sg)= .bl true:=by show V.bl (decide (yo sg=yo sg))=_;rw[decide_eq_true rfl]
   rw[e];exact q _
abbrev NI(K:ay)(x:Str)(f:Addr):Prop:=bq K aY x=some (some (.ref f))
abbrev NN(K:ay)(x:Str):Prop:=bq K aY x=some none
def FL(K:ay)(x q:Str)(st:Stmt)(f:Addr):Prop:=∃fd,Fun K x q st f fd
theorem yN{n:Nat}{us:List Value}(h:us.length=n+1):∃u r,us=u::r/\r.length=n:=by
 cases us with
 |nil=>cases h
 |cons u r=>exact⟨u,r,rfl,Nat.succ.inj h⟩
def xbx{us:List Value}(h:us.length=0):us=[]:=gJ.mp h
def bn0(F:Fun K x q st f fd)(h:∀(kV doc pm:Value) (an:Option Addr) (j8 ct:Value),dD (bZ x q (xX st) (xM st) (xg st) .none kV doc pm an j8 ct) ⟨[],[]⟩=pure []:=by intros;exact rfl):Binds K fd [] []:=by
 refine F.binds fun kV doc pm an j8 ct us hl=>?_;obtain rfl:=xbx hl;exact h kV doc pm an j8 ct
def bn1(F:Fun K x q st f fd)(h:∀(kV doc pm:Value) (an:Option Addr) (j8 ct u1:Value),dD (bZ x q (xX st) (xM st) (xg st) .none kV doc pm an j8 ct) ⟨[u1],[]⟩=pure [(p1,u1)]:=by intros;exact rfl):Binds K fd [p1] []:=by
 refine F.binds fun kV doc pm an j8 ct us hl=>?_;obtain⟨u1,r1,rfl,k1⟩:=yN hl;obtain rfl:=xbx k1;exact h kV doc pm an j8 ct u1
def bn2(F:Fun K x q st f fd)(h:∀(kV doc pm:Value) (an:Option Addr) (j8 ct u1 u2:Value),dD (bZ x q (xX st) (xM st) (xg st) .none kV doc pm an j8 ct) ⟨[u1,u2],[]⟩=pure [(p1,u1),(p2,u2)]:=by intros;exact rfl):Binds K fd [p1,p2] []:=by
 refine F.binds fun kV doc pm an j8 ct us hl=>?_;obtain⟨u1,r1,rfl,k1⟩:=yN hl;obtain⟨u2,r2,rfl,k2⟩:=yN k1;obtain rfl:=xbx k2;exact h kV doc pm an j8 ct u1 u2
def bn3{p3:Str}(F:Fun K x q st f fd)(h:∀(kV doc pm:Value) (an:Option Addr) (j8 ct u1 u2 u3:Value),dD (bZ x q (xX st) (xM st) (xg st) .none kV doc pm an j8 ct) ⟨[u1,u2,u3],[]⟩=pure [(p1,u1),(p2,u2),(p3,u3)]:=by intros;exact rfl):Binds K fd [p1,p2,p3] []:=by
 refine F.binds fun kV doc pm an j8 ct us hl=>?_;obtain⟨u1,r1,rfl,k1⟩:=yN hl;obtain⟨u2,r2,rfl,k2⟩:=yN k1;obtain⟨u3,r3,rfl,k3⟩:=yN k2;obtain rfl:=xbx k3;exact h kV doc pm an j8 ct u1 u2 u3
def bn5{p3 p4 p5:Str}(F:Fun K x q st f fd)(h:∀(kV doc pm:Value) (an:Option Addr) (j8 ct u1 u2 u3 u4 u5:Value),dD (bZ x q (xX st) (xM st) (xg st) .none kV doc pm an j8 ct) ⟨[u1,u2,u3,u4,u5],[]⟩=pure [(p1,u1),(p2,u2),(p3,u3),(p4,u4),(p5,u5)]:=by intros;exact rfl):Binds K fd [p1,p2,p3,p4,p5] []:=by
 refine F.binds fun kV doc pm an j8 ct us hl=>?_;obtain⟨u1,r1,rfl,k1⟩:=yN hl;obtain⟨u2,r2,rfl,k2⟩:=yN k1;obtain⟨u3,r3,rfl,k3⟩:=yN k2;obtain⟨u4,r4,rfl,k4⟩:=yN k3;obtain⟨u5,r5,rfl,k5⟩:=yN k4;obtain rfl:=xbx k5;exact h kV doc pm an j8 ct u1 u2 u3 u4 u5
def xpV{l:W.OpenLaw}{h:Heap}{fa:Addr}{q07 q08 q10 q1m q09 q11 q1B q1n q1o q0V q12 q3t q1J q19 q2a q24 q0Z q2H q2b q3Y q0R q00 q01 q13 q3Z q1e q2c q0M q0S q02 q25 q2d q2I q14 q0F q0t q03 q0Q q1p q1a q1b q1q q0O q0o q0x q1K q2J q26 q1L q3u q1u q1v q1C q15 q0k q0G q0P q0H q0W q0z q0A q0n q2K q2e q1c q27 q4p q30 q4q q4r q4T q4D q2L q1z q0i q0K q0h q0f q1A q0a q0c q0d q0D q0b q0r q0s q0g:Addr}{q0v:Addr}{kb:Array DictEntry}{nG:Nat}{q2x:Addr}{o6:Option Addr}{pe:Nat}{o5:Array (Option Value)}{pP pO:Tok}{q2y:Addr}{o4:Option Addr}{pd:Nat}{oZ:Array (Option Value)}{qj qi qh:Tok}{q2z:Addr}{oY:Option Addr}{pb:Nat}{oX:Array (Option Value)}{qg qf qe:Tok}{q2A:Addr}{oW:Option Addr}{o9:Nat}{oV:Array (Option Value)}{qd qc:Tok}{q2B:Addr}{oU:Option Addr}{o8:Nat}{oS:Array (Option Value)}{qb qa:Tok}{q2C:Addr}{oR:Option Addr}{o7:Nat}{oQ:Array (Option Value)}{oy ou oq:Tok}{q2D:Addr}{oP:Option Addr}{mR:Nat}{oO:Array (Option Value)}{oo om oh:Tok}{q2E:Addr}{oN:Option Addr}{mQ:Nat}{oM:Array (Option Value)}{oa n9 n8:Tok}{q2F:Addr}{oK:Option Addr}{mP:Nat}{oJ:Array (Option Value)}{n6 n5 nZ:Tok}{q2G:Addr}{oH:Option Addr}{mO:Nat}{oF:Array (Option Value)}{nY nX nW:Tok}{q5b:Tok}{q3h:Tok}{q1M:Addr}{pC:Option Addr}{p9:Nat}{pB:Array (Option Value)}{pM pL pK pJ pI:Tok}{q2f:Addr}{p8:Option Addr}{nU:Nat}{p7:Array (Option Value)}{pA pz pw:Tok}{q2n:Addr}{ka:Array DictEntry}{nF:Nat}{mM mL mK:Tok}{kc:Addr}{pv:Option Addr}{p6:Nat}{pq:Array (Option Value)}{pk:Value}{ma lZ lY lX kN kM kL kK kJ kH kF kE:Option Addr}{kD kC kB kA kz ky:Array (Option Value)}{ku kr ko kn km kj ki kh kg j9 kf ke kd lq lp lj lh lg lb la kZ kY kX kW kU kT kS kR kQ kP j8 kO:Value}(X:K.In h)(G:h.Ns aY mg)(qp:mg "law"=some (.ref fa))
  (lW:NI K "Row" q2L)
  (lD:NI K "Take" q1z)
  (lV:NI K "Put" q0i)
  (lU:NI K "Pen" q0K)
  (nE:NI K "Store" q0h)
  (lC:NI K "Desk" q0f)
  (lB:NI K "Down" q1A)
  (mX:NI K "Fallen" q0a)
  (mW:NI K "Faulty" q0c)
  (mV:NI K "NoLine" q0d)
  (mJ:NI K "NoPaper" q0D)
  (nD:NI K "NoRow" q0b)
  (nS:NI K "OutOfRoom" q0r)
  (nR:NI K "RoomError" q0s)
  (nC:NI K "Unfit" q0g)
  (q4g:jU K q0a q07)
  (q3I:xB K q0a "count")
  (q3w:a6 K (.ref q0a) (.ref q0a)=some true)
  (q4E:a6 K (.ref q0a) (.ref q0b)=some false)
  (q3W:a6 K (.ref q0a) (.ref q0s)=some true)
  (q3J:aj K (.ref q0a) (.type "ValueError")=some true)
  (q5A:vg K q0a)
  (q4h:jU K q0c q08)
  (q3K:xB K q0c "fault")
  (q4u:a6 K (.ref q0c) (.ref q0a)=some false)
  (q4F:a6 K (.ref q0c) (.ref q0b)=some false)
  (q2V:a6 K (.ref q0c) (.ref q0s)=some true)
  (q2O:aj K (.ref q0c) (.type "ValueError")=some true)
  (q4Y:vg K q0c)
  (q4v:W.excIn K q0d L2.xbK "ValueError.__new__"=true)
  (q4w:a6 K (.ref q0d) (.ref q0a)=some false)
  (q4G:a6 K (.ref q0d) (.ref q0b)=some false)
  (q2W:a6 K (.ref q0d) (.ref q0s)=some true)
  (q2P:aj K (.ref q0d) (.type "ValueError")=some true)
  (q4Z:vg K q0d)
  (q5n:W.excIn K q0b L2.xbK "ValueError.__new__"=true)
  (q4H:a6 K (.ref q0b) (.ref q0a)=some false)
  (q4O:a6 K (.ref q0b) (.ref q0b)=some true)
  (q3d:a6 K (.ref q0b) (.ref q0s)=some true)
  (q2X:aj K (.ref q0b) (.type "ValueError")=some true)
  (q46:vg K q0b)
  (q5o:W.excIn K q0g L2.xbK "ValueError.__new__"=true)
  (q4I:a6 K (.ref q0g) (.ref q0a)=some false)
  (q4P:a6 K (.ref q0g) (.ref q0b)=some false)
  (q3e:a6 K (.ref q0g) (.ref q0s)=some true)
  (q2Y:aj K (.ref q0g) (.type "ValueError")=some true)
  (q47:vg K q0g)
  (q40:gm K q0a (.type "BaseException")=some true)
  (q48:gm K q0b (.type "BaseException")=some true)
  (q4x:gm K q0s (.type "BaseException")=some true)
  (qw:aT K (.ref q0a) "__init__"=some (some (.ref q07)))
  (q1T:FL K "__init__" "Fallen.__init__" jb q07)
  (qu:aT K (.ref q0c) "__init__"=some (some (.ref q08)))
  (q1U:FL K "__init__" "Faulty.__init__" jc q08)
  (qG:aT K (.ref q2L) "__init__"=some (some (.ref q10)))
  (q3i:FL K "__init__" "Row.__init__" xbM q10)
  (qO:aT K (.ref q2L) "covers"=some (some (.ref q1m)))
  (q2o:FL K "covers" "Row.covers" jX q1m)
  (qr:aT K (.ref q2L) "covered"=some (some (.ref q09)))
  (q1V:FL K "covered" "Row.covered" jd q09)
  (qF:aT K (.ref q0i) "__init__"=some (some (.ref q11)))
  (q3j:FL K "__init__" "Put.__init__" xbN q11)
  (qI:aT K (.ref q0i) "reads"=some (some (.ref q1B)))
  (q2S:FL K "reads" "Put.reads" xaU q1B)
  (qN:aT K (.ref q0i) "writes"=some (some (.ref q1n)))
  (q2p:FL K "writes" "Put.writes" jY q1n)
  (qM:aT K (.ref q0i) "pieces"=some (some (.ref q1o)))
  (q2q:FL K "pieces" "Put.pieces" jZ q1o)
  (qy:aT K (.ref q0i) "sign_for"=some (some (.ref q0V)))
  (q1E:FL K "sign_for" "Put.sign_for" vK q0V)
  (qE:aT K (.ref q0i) "told"=some (some (.ref q12)))
  (q3k:FL K "told" "Put.told" xbO q12)
  (nB:NI K "row_of" q3t)
  (q1f:FL K "row_of" "row_of" xd1 q3t)
  (nQ:NI K "tells_take" q1J)
  (q1N:FL K "tells_take" "tells_take" xaa q1J)
  (oE:NI K "tells_put" q19)
  (q2g:FL K "tells_put" "tells_put" xaV q19)
  (oC:NI K "are_signs" q2a)
  (q2h:FL K "are_signs" "are_signs" xaW q2a)
  (mU:NI K "is_sign" q24)
  (q28:FL K "is_sign" "is_sign" xcE q24)
  (pH:NI K "is_whole_from" q0Z)
  (q0u:FL K "is_whole_from" "is_whole_from" vh q0Z)
  (mI:NI K "is_whole" q2H)
  (q16:FL K "is_whole" "is_whole" xbP q2H)
  (oB:NI K "pieces_of" q2b)
  (q2i:FL K "pieces_of" "pieces_of" xaX q2b)
  (lA:NI K "go_on" q3Y)
  (q31:FL K "go_on" "go_on" xff q3Y)
  (qk:NI K "refuse_lengths" q0R)
  (q0T:FL K "refuse_lengths" "refuse_lengths" uN q0R)
  (pG:NI K "refuse_beyond" q00)
  (q04:FL K "refuse_beyond" "refuse_beyond" vi q00)
  (pF:NI K "places_needed" q01)
  (q05:FL K "places_needed" "places_needed" vj q01)
  (mH:NI K "do_piece" q13)
  (q4L:vZ K q1k zy)
  (mG:K.lookup q13=some ⟨ku,ma,.func (bZ "do_piece" "do_piece" (xX ug) (xM ug) (xg ug) .none kr ko kn lZ (.ref q1k) km),kD⟩)
  (q1k:df K (.ref q1k) "do_piece"=true)
  (mF:bU K (.ref q13)=true)
  (lz:NI K "judge" q3Z)
  (q3G:FL K "judge" "judge" xfg q3Z)
  (pj:NI K "fits_in_size" q1e)
  (q1g:FL K "fits_in_size" "fits_in_size" vL q1e)
  (oA:NI K "is_length" q2c)
  (q1D:FL K "is_length" "is_length" xaY q2c)
  (qo:NI K "first_wrong_row" q0M)
  (q0N:FL K "first_wrong_row" "first_wrong_row" ur q0M)
  (pN:NI K "is_fitting_row" q0S)
  (q0U:FL K "is_fitting_row" "is_fitting_row" uO q0S)
  (pE:NI K "covered_twice" q02)
  (q06:FL K "covered_twice" "covered_twice" vk q02)
  (mT:NI K "lacking" q25)
  (q29:FL K "lacking" "lacking" xcF q25)
  (oz:NI K "read_late" q2d)
  (q2j:FL K "read_late" "read_late" xaZ q2d)
  (nz:NI K "joined" q2I)
  (q3a:FL K "joined" "joined" xd2 q2I)
  (qD:aT K (.ref q0K) "__init__"=some (some (.ref q14)))
  (q3l:FL K "__init__" "Pen.__init__" xbQ q14)
  (qV:aT K (.ref q0K) "write_into"=some (some (.ref q0F)))
  (q1h:FL K "write_into" "Pen.write_into" uP q0F)
  (qS:aT K (.ref q0K) "answer_of_fall"=some (some (.ref q0t)))
  (q0L:FL K "answer_of_fall" "Pen.answer_of_fall" zx q0t)
  (qL:aT K (.ref q0h) "__init__"=some (some (.ref q03)))
  (nO:K.lookup q03=some ⟨kj,lY,.func (bZ "__init__" "Store.__init__" (xX zp) (xM zp) (xg zp) (.ref kc) ki kh kg lX j9 kf),kC⟩)
  (pZ:K.lookup kc=some ⟨pk,pv,.seq #[.none] p6,pq⟩)
  (nN:df K j9 "Store.__init__"=true)
  (nM:bU K (.ref q03)=true)
  (qq:aT K (.ref q0h) "write"=some (some (.ref q0Q)))
  (q32:vZ K q0I yw)
  (pY:K.lookup q0Q=some ⟨ke,kN,.func (bZ "write" "Store.write" (xX yU) (xM yU) (xg yU) .none kd lq lp kM (.ref q0I) lj),kB⟩)
  (q0I:df K (.ref q0I) "Store.write"=true)
  (pX:bU K (.ref q0Q)=true)
  (qK:aT K (.ref q0h) "mark"=some (some (.ref q1p)))
  (q2r:FL K "mark" "Store.mark" xab q1p)
  (qQ:aT K (.ref q0h) "noted"=some (some (.ref q1a)))
  (q1W:FL K "noted" "Store.noted" je q1a)
  (qP:aT K (.ref q0h) "begin"=some (some (.ref q1b)))
  (q1X:FL K "begin" "Store.begin" jf q1b)
  (qJ:aT K (.ref q0h) "told"=some (some (.ref q1q)))
  (q2s:FL K "told" "Store.told" xac q1q)
  (qA:aT K (.ref q0h) "fall_by"=some (some (.ref q0O)))
  (q1s:FL K "fall_by" "Store.fall_by" vm q0O)
  (qY:aT K (.ref q0h) "refuse_lacking"=some (some (.ref q0o)))
  (q0C:FL K "refuse_lacking" "Store.refuse_lacking" zf q0o)
  (qW:aT K (.ref q0h) "note_down"=some (some (.ref q0x)))
  (q3b:vZ K q0q ye)
  (qm:K.lookup q0x=some ⟨lh,kL,.func (bZ "note_down" "Store.note_down" (xX ym) (xM ym) (xg ym) .none lg lb la kK (.ref q0q) kZ),kA⟩)
  (q0q:df K (.ref q0q) "Store.note_down"=true)
  (ql:bU K (.ref q0x)=true)
  (nL:NI K "paper_text" q1K)
  (q1O:FL K "paper_text" "paper_text" xad q1K)
  (mE:NI K "lines_of" q2J)
  (q2M:FL K "lines_of" "lines_of" xbR q2J)
  (mS:NI K "line_of" q26)
  (q3c:FL K "line_of" "line_of" xcG q26)
  (nK:NI K "numbers_in" q1L)
  (q1P:FL K "numbers_in" "numbers_in" xae q1L)
  (lL:NI K "sum_of" q3u)
  (q3v:FL K "sum_of" "sum_of" xd3 q3u)
  (pW:NI K "read_number" q1u)
  (q1w:FL K "read_number" "read_number" jg q1u)
  (pV:NI K "are_figures" q1v)
  (q1x:FL K "are_figures" "are_figures" jh q1v)
  (qH:aT K (.ref q0f) "__init__"=some (some (.ref q1C)))
  (q2T:FL K "__init__" "Desk.__init__" xa0 q1C)
  (qR:aT K (.ref q0f) "say"=some (some (.ref q15)))
  (q3m:FL K "say" "Desk.say" xbS q15)
  (qZ:aT K (.ref q0f) "has_what_is_wanted"=some (some (.ref q0k)))
  (q0w:FL K "has_what_is_wanted" "Desk.has_what_is_wanted" yC q0k)
  (qC:aT K (.ref q0f) "answer_to"=some (some (.ref q0G)))
  (q1i:FL K "answer_to" "Desk.answer_to" uQ q0G)
  (qz:aT K (.ref q0f) "lay_room"=some (some (.ref q0P)))
  (q1t:FL K "lay_room" "Desk.lay_room" vn q0P)
  (qB:aT K (.ref q0f) "lay_paper"=some (some (.ref q0H)))
  (q1j:FL K "lay_paper" "Desk.lay_paper" uR q0H)
  (qx:aT K (.ref q0f) "add_row"=some (some (.ref q0W)))
  (q1F:FL K "add_row" "Desk.add_row" vM q0W)
  (qU:aT K (.ref q0f) "shown_fault"=some (some (.ref q0z)))
  (q0X:FL K "shown_fault" "Desk.shown_fault" zS q0z)
  (qT:aT K (.ref q0f) "begin_paper"=some (some (.ref q0A)))
  (q0Y:FL K "begin_paper" "Desk.begin_paper" zT q0A)
  (qX:aT K (.ref q0f) "go_on_with_paper"=some (some (.ref q0n)))
  (q0B:FL K "go_on_with_paper" "Desk.go_on_with_paper" yP q0n)
  (mD:NI K "words_of" q2K)
  (q2N:FL K "words_of" "words_of" xbT q2K)
  (pf:NI K "is_listed" q2e)
  (q2k:FL K "is_listed" "is_listed" xa1 q2e)
  (pU:NI K "fall_behind" q1c)
  (q33:vZ K q0J yx)
  (pT:K.lookup q1c=some ⟨kY,kJ,.func (bZ "fall_behind" "fall_behind" (xX yv) (xM yv) (xg yv) .none kX kW kU kH (.ref q0J) kT),kz⟩)
  (q0J:df K (.ref q0J) "fall_behind"=true)
  (pS:bU K (.ref q1c)=true)
  (nH:NI K "_law_cell_at" q27)
  (q17:FL K "_law_cell_at" "_law_cell_at" xcH q27)
  (lT:NI K "_law_none" q4p)
  (q4s:FL K "_law_none" "_law_none" xhn q4p)
  (ly:NI K "_law_names" q30)
  (q34:FL K "_law_names" "_law_names" xfh q30)
  (lR:NI K "_law_word" q4q)
  (q2R:FL K "_law_word" "_law_word" xho q4q)
  (lQ:NI K "_law_case" q4r)
  (q4t:FL K "_law_case" "_law_case" xhp q4r)
  (mi:NI K "_law_new" q4T)
  (q4U:FL K "_law_new" "_law_new" xj9 q4T)
  (mh:NI K "law" q4D)
  (mf:K.lookup q4D=some ⟨kS,kF,.func (bZ "law" "law" (xX xdj) (xM xdj) (xg xdj) .none kR kQ kP kE j8 kO),ky⟩)
  (me:df K j8 "law"=true)
  (md:bU K (.ref q4D)=true)
  (q8k:Cls K q2L)
  (q4X:xB K q2L "count")
  (q5z:xB K q2L "to")
  (q7R:Cls K q1z)
  (q4V:xB K q1z "count")
  (q4N:xB K q1z "source")
  (q5c:xB K q1z "to")
  (q0E:Cls K q0i)
  (q2t:xB K q0i "count")
  (q2u:xB K q0i "signs")
  (q18:xB K q0i "to")
  (q5V:Mk K q0i q11)
  (q3r:Cls K q0K)
  (q2v:xB K q0K "asked")
  (q3q:xB K q0K "fall")
  (q5W:Mk K q0K q14)
  (q0l:Cls K q0h)
  (q1G:xB K q0h "cells")
  (q1H:xB K q0h "notes")
  (q1Q:xB K q0h "pen")
  (q45:Mk K q0h q03)
  (q0e:Cls K q0f)
  (q1d:xB K q0f "begun")
  (q1Y:xB K q0f "elder")
  (q0p:xB K q0f "paper")
  (q0y:xB K q0f "store")
  (q41:Mk K q0f q1C)
  (q23:Meth K q0f "add_row" q0W)
  (q3p:Meth K q0f "answer_to" q0G)
  (q21:Meth K q0f "begin_paper" q0A)
  (q1R:Meth K q0f "go_on_with_paper" q0n)
  (q1y:Meth K q0f "has_what_is_wanted" q0k)
  (q2l:Meth K q0f "lay_paper" q0H)
  (q3F:Meth K q0f "lay_room" q0P)
  (q0m:Meth K q0f "say" q15)
  (q22:Meth K q0f "shown_fault" q0z)
  (q2w:Meth K q0K "answer_of_fall" q0t)
  (q2m:Meth K q0K "write_into" q0F)
  (q1I:Meth K q0i "covered" q09)
  (q4k:Meth K q0i "covers" q1m)
  (q4l:Meth K q0i "pieces" q1o)
  (q4B:Meth K q0i "reads" q1B)
  (q3V:Meth K q0i "sign_for" q0V)
  (q4f:Meth K q0i "told" q12)
  (q4m:Meth K q0i "writes" q1n)
  (q4b:Meth K q0h "begin" q1b)
  (q2Q:Meth K q0h "fall_by" q0O)
  (q4n:Meth K q0h "mark" q1p)
  (q1r:Meth K q0h "note_down" q0x)
  (q4c:Meth K q0h "noted" q1a)
  (q1S:Meth K q0h "refuse_lacking" q0o)
  (q1Z:Meth K q0h "told" q1q)
  (q4d:Meth K q0h "write" q0Q)
  (q4M:xmq K q2L "__init__" q10)
  (lP:aT K (.ref q0i) "__class__"=some (some (.builtin "object.__class__")))
  (lO:W.specialIn K (.builtin "object.__class__") "__get__"=some (some (.builtin "getset_descriptor.__get__")))
  (lN:W.takesIn K (.builtin "object.__class__")=some true)
  (lM:gm K q0i (.type "object")=some true)
  (q4Q:aj K (.ref q0a) (.ref q1A)=some false)
  (q4y:aj K (.ref q0a) (.ref q0a)=some true)
  (q4z:aj K (.ref q0a) (.ref q0c)=some false)
  (q4A:aj K (.ref q0a) (.ref q0d)=some false)
  (q4o:aj K (.ref q0a) (.ref q0D)=some false)
  (q4J:aj K (.ref q0a) (.ref q0b)=some false)
  (q3X:aj K (.ref q0a) (.ref q0r)=some false)
  (q4K:aj K (.ref q0a) (.ref q0g)=some false)
  (q35:aj K (.ref q0c) (.ref q1A)=some false)
  (q3x:aj K (.ref q0c) (.ref q0a)=some false)
  (q3y:aj K (.ref q0c) (.ref q0c)=some true)
  (q3z:aj K (.ref q0c) (.ref q0d)=some false)
  (q3n:aj K (.ref q0c) (.ref q0D)=some false)
  (q3L:aj K (.ref q0c) (.ref q0b)=some false)
  (q2Z:aj K (.ref q0c) (.ref q0r)=some false)
  (q3M:aj K (.ref q0c) (.ref q0g)=some false)
  (q36:aj K (.ref q0d) (.ref q1A)=some false)
  (q3A:aj K (.ref q0d) (.ref q0a)=some false)
  (q3B:aj K (.ref q0d) (.ref q0c)=some false)
  (q3C:aj K (.ref q0d) (.ref q0d)=some true)
  (q3o:aj K (.ref q0d) (.ref q0D)=some false)
  (q3N:aj K (.ref q0d) (.ref q0b)=some false)
  (q20:aj K (.ref q0d) (.ref q0r)=some false)
  (q3O:aj K (.ref q0d) (.ref q0g)=some false)
  (q4i:aj K (.ref q0b) (.ref q1A)=some false)
  (q3P:aj K (.ref q0b) (.ref q0a)=some false)
  (q3Q:aj K (.ref q0b) (.ref q0c)=some false)
  (q3R:aj K (.ref q0b) (.ref q0d)=some false)
  (q3D:aj K (.ref q0b) (.ref q0D)=some false)
  (q37:aj K (.ref q0b) (.ref q0b)=some true)
  (q3f:aj K (.ref q0b) (.ref q0r)=some false)
  (q38:aj K (.ref q0b) (.ref q0g)=some false)
  (q4e:aj K (.ref q0i) (.ref q1z)=some false)
  (q4j:aj K (.ref q0g) (.ref q1A)=some false)
  (q3S:aj K (.ref q0g) (.ref q0a)=some false)
  (q3T:aj K (.ref q0g) (.ref q0c)=some false)
  (q3U:aj K (.ref q0g) (.ref q0d)=some false)
  (q3E:aj K (.ref q0g) (.ref q0D)=some false)
  (q39:aj K (.ref q0g) (.ref q0b)=some false)
  (q3g:aj K (.ref q0g) (.ref q0r)=some false)
  (q4a:aj K (.ref q0g) (.ref q0g)=some true)
  (lK:NI K "FORMS" q0v)
  (lJ:K.lookup q0v=some ⟨.type "dict",none,.dict kb nG,#[]⟩)
  (lI:iY w.params kb.toList)
  (lH:(q0v==cm)=false)
  (mC:bq K q0v "room"=some (some (.ref q2x)))
  (mB:K.lookup q2x=some ⟨.type "tuple",o6,.seq #[.int 1 pP,.none,.int 1 pO] pe,o5⟩)
  (mz:bq K q0v "rows"=some (some (.ref q2y)))
  (my:K.lookup q2y=some ⟨.type "tuple",o4,.seq #[.int 2 qj,.int 2 qi,.int 2 qh] pd,oZ⟩)
  (mx:bq K q0v "take"=some (some (.ref q2z)))
  (mw:K.lookup q2z=some ⟨.type "tuple",oY,.seq #[.int 3 qg,.int 3 qf,.int 3 qe] pb,oX⟩)
  (mv:bq K q0v "put"=some (some (.ref q2A)))
  (mq:K.lookup q2A=some ⟨.type "tuple",oW,.seq #[.int 2 qd,.none,.int 1 qc] o9,oV⟩)
  (mn:bq K q0v "make"=some (some (.ref q2B)))
  (ml:K.lookup q2B=some ⟨.type "tuple",oU,.seq #[.int 1 qb,.none,.int 1 qa] o8,oS⟩)
  (mj:bq K q0v "judge"=some (some (.ref q2C)))
  (ny:K.lookup q2C=some ⟨.type "tuple",oR,.seq #[.int 0 oy,.int 0 ou,.int 0 oq] o7,oQ⟩)
  (nv:bq K q0v "begin"=some (some (.ref q2D)))
  (nr:K.lookup q2D=some ⟨.type "tuple",oP,.seq #[.int 0 oo,.int 0 om,.int 0 oh] mR,oO⟩)
  (nq:bq K q0v "go"=some (some (.ref q2E)))
  (nj:K.lookup q2E=some ⟨.type "tuple",oN,.seq #[.int 0 oa,.int 2 n9,.int 1 n8] mQ,oM⟩)
  (ni:bq K q0v "cells"=some (some (.ref q2F)))
  (nh:K.lookup q2F=some ⟨.type "tuple",oK,.seq #[.int 0 n6,.int 0 n5,.int 0 nZ] mP,oJ⟩)
  (ng:bq K q0v "paper"=some (some (.ref q2G)))
  (nc:K.lookup q2G=some ⟨.type "tuple",oH,.seq #[.int 0 nY,.int 0 nX,.int 0 nW] mO,oF⟩)
  (m9:bq K q0v ""=some none)
  (m8:bq K q0v "Go"=some none)
  (m7:bq K q0v "gone"=some none)
  (m6:bq K q0v "text"=some none)
  (m5:bq K q0v "Judge"=some none)
  (lr:bq K aY "MOST"=some (some (.int 300 q5b)))
  (pD:bq K aY "MOST_FIGURES"=some (some (.int 60 q3h)))
  (pR:NI K "WANT_PAPER" q1M)
  (pQ:K.lookup q1M=some ⟨.type "tuple",pC,.seq #[.str "take" pM,.str "put" pL,.str "judge" pK,.str "begin" pJ,.str "paper" pI] p9,pB⟩)
  (nJ:NI K "WANT_ROOM" q2f)
  (nI:K.lookup q2f=some ⟨.type "tuple",p8,.seq #[.str "make" pA,.str "begin" pz,.str "cells" pw] nU,p7⟩)
  (lG:NI K "WORDS" q2n)
  (lF:K.lookup q2n=some ⟨.type "dict",none,.dict ka nF,#[]⟩)
  (lE:iY w.params ka.toList)
  (m3:bq K q2n "paper"=some (some (.int 1 mM)))
  (mZ:bq K q2n "take"=some (some (.int 2 mL)))
  (mY:bq K q2n "put"=some (some (.int 3 mK)))
  (ph:NI K "joined_desk" q2I)
  (q4C:NN K "ValueError")
  (q62:NN K "abs")
  (q5R:NN K "all")
  (q63:NN K "any")
  (q5X:NN K "bool")
  (q2U:NN K "enumerate")
  (q5S:NN K "int")
  (q0j:NN K "isinstance")
  (q1l:NN K "len")
  (q4R:NN K "list")
  (q5T:NN K "max")
  (q4S:NN K "range")
  (q3s:NN K "str")
  (q3H:NN K "tuple")
  :∃fd:av,(∀(s:ai) (v:Value),gX s fd ⟨[v],[]⟩ [("_law_script",v)])/\∀base:Heap,K.In base->base.Ns aY mg->xt l.prog w K mg base CX0 14 fa fd ["_law_script"] (xii K):=by
 have e:=qp.symm.trans (W.mg_of X G mh);have e2:q4D=fa:=by injection e with e;injection e with e;exact e.symm
 subst e2;obtain⟨_,q1T⟩:=q1T;obtain⟨_,q1U⟩:=q1U;obtain⟨_,q3i⟩:=q3i;obtain⟨_,q2o⟩:=q2o;obtain⟨_,q1V⟩:=q1V;obtain⟨_,q3j⟩:=q3j;obtain⟨_,q2S⟩:=q2S;obtain⟨_,q2p⟩:=q2p;obtain⟨_,q2q⟩:=q2q;obtain⟨_,q1E⟩:=q1E;obtain⟨_,q3k⟩:=q3k;obtain⟨_,q1f⟩:=q1f;obtain⟨_,q1N⟩:=q1N;obtain⟨_,q2g⟩:=q2g;obtain⟨_,q2h⟩:=q2h;obtain⟨_,q28⟩:=q28;obtain⟨_,q0u⟩:=q0u;obtain⟨_,q16⟩:=q16;obtain⟨_,q2i⟩:=q2i;obtain⟨_,q31⟩:=q31;obtain⟨_,q0T⟩:=q0T;obtain⟨_,q04⟩:=q04;obtain⟨_,q05⟩:=q05;have vz:=xbe (st:=ug) mG q1k mF;obtain⟨_,q3G⟩:=q3G;obtain⟨_,q1g⟩:=q1g;obtain⟨_,q1D⟩:=q1D;obtain⟨_,q0N⟩:=q0N;obtain⟨_,q0U⟩:=q0U;obtain⟨_,q06⟩:=q06;obtain⟨_,q29⟩:=q29;obtain⟨_,q2j⟩:=q2j;obtain⟨_,q3a⟩:=q3a;obtain⟨_,q3l⟩:=q3l;obtain⟨_,q1h⟩:=q1h;obtain⟨_,q0L⟩:=q0L;have zW:=xnT (st:=zp) (ds:=[.none]) nO nN nM pZ;have xcM:=zW.binds (ps:=["self","cells","fall"]) (es:=[]) 3 rfl fun _ _ _ _ _ _ _ us hl=>match us,hl with|[_,_,_],_=>⟨_,rfl,rfl⟩
 have jq:=zW.binds (ps:=["self","cells","fall"]) (es:=[.none]) 2 rfl fun _ _ _ _ _ _ _ us hl=>match us,hl with|[_,_],_=>⟨_,rfl,rfl⟩
 have uE:=xbe (st:=yU) pY q0I pX;obtain⟨_,q2r⟩:=q2r;obtain⟨_,q1W⟩:=q1W;obtain⟨_,q1X⟩:=q1X;obtain⟨_,q2s⟩:=q2s;obtain⟨_,q1s⟩:=q1s;obtain⟨_,q0C⟩:=q0C;have zk:=xbe (st:=ym) qm q0q ql;obtain⟨_,q1O⟩:=q1O;obtain⟨_,q2M⟩:=q2M;obtain⟨_,q3c⟩:=q3c;obtain⟨_,q1P⟩:=q1P;obtain⟨_,q3v⟩:=q3v;obtain⟨_,q1w⟩:=q1w;obtain⟨_,q1x⟩:=q1x;obtain⟨_,q2T⟩:=q2T;obtain⟨_,q3m⟩:=q3m;obtain⟨_,q0w⟩:=q0w;obtain⟨_,q1i⟩:=q1i;obtain⟨_,q1t⟩:=q1t;obtain⟨_,q1j⟩:=q1j;obtain⟨_,q1F⟩:=q1F;obtain⟨_,q0X⟩:=q0X;obtain⟨_,q0Y⟩:=q0Y;obtain⟨_,q0B⟩:=q0B;obtain⟨_,q2N⟩:=q2N;obtain⟨_,q2k⟩:=q2k;have zC:=xbe (st:=yv) pT q0J pS;obtain⟨_,q17⟩:=q17;obtain⟨_,q4s⟩:=q4s;obtain⟨_,q34⟩:=q34;obtain⟨_,q2R⟩:=q2R;obtain⟨_,q4t⟩:=q4t;obtain⟨_,q4U⟩:=q4U;have xgW:=xbe (st:=xdj) mf me md;have g {x v} (q:bq K aY x=some (some v)):=W.mg_of X G q;have g0 {x} (q:bq K aY x=some none):=W.mg_none_of X G q;have T:Txt w K mg ⟨q07,_,q08,_,q10,_,q1m,_,q09,_,q11,_,q1B,_,q1n,_,q1o,_,q0V,_,q12,_,q3t,_,q1J,_,q19,_,q2a,_,q24,_,q0Z,_,q2H,_,q2b,_,q3Y,_,q0R,_,q00,_,q01,_,q13,_,q3Z,_,q1e,_,q2c,_,q0M,_,q0S,_,q02,_,q25,_,q2d,_,q2I,_,q14,_,q0F,_,q0t,_,q03,_,q0Q,_,q1p,_,q1a,_,q1b,_,q1q,_,q0O,_,q0o,_,q0x,_,q1K,_,q2J,_,q26,_,q1L,_,q3u,_,q1u,_,q1v,_,q1C,_,q15,_,q0k,_,q0G,_,q0P,_,q0H,_,q0W,_,q0z,_,q0A,_,q0n,_,q2K,_,q2e,_,q1c,_,q27,_,q4p,_,q30,_,q4q,_,q4r,_,q4T,_,q4D,_,q2L,q1z,q0i,q0K,q0h,q0f,q1A,q0a,q0c,q0d,q0D,q0b,q0r,q0s,q0g,q0v,q2x,q2y,q2z,q2A,q2B,q2C,q2D,q2E,q2F,q2G,q5b,q3h,q1M,q2f,q2n⟩:=⟨q1T,bn2 q1T,q1U,bn2 q1U,q3i,bn2 q3i,q2o,bn1 q2o,q1V,bn1 q1V,q3j,bn3 q3j,q2S,bn1 q2S,q2p,bn1 q2p,q2q,bn1 q2q,q1E,bn3 q1E,q3k,bn1 q3k,q1f,bn1 q1f,g nB,q1N,bn1 q1N,g nQ,q2g,bn1 q2g,g oE,q2h,bn1 q2h,g oC,q28,bn1 q28,g mU,q0u,bn2 q0u,g pH,q16,bn1 q16,g mI,q2i,bn1 q2i,g oB,q31,bn2 q31,g lA,q0T,bn2 q0T,g qk,q04,bn2 q04,g pG,q05,bn2 q05,g pF,vz,bn3 vz,g mH,q4L,rfl,q3G,bn1 q3G,g lz,q1g,bn1 q1g,g pj,q1D,bn1 q1D,g oA,q0N,bn1 q0N,g qo,q0U,bn3 q0U,g pN,q06,bn1 q06,g pE,q29,bn2 q29,g mT,q2j,bn1 q2j,g oz,q3a,bn1 q3a,g nz,q3l,bn2 q3l,q1h,bn5 q1h,q0L,bn2 q0L,zW,jq,xcM,uE,bn3 uE,q32,rfl,q2r,bn2 q2r,q1W,bn1 q1W,q1X,bn1 q1X,q2s,bn1 q2s,q1s,bn2 q1s,q0C,bn2 q0C,zk,bn3 zk,q3b,rfl,q1O,bn1 q1O,g nL,q2M,bn1 q2M,g mE,q3c,bn1 q3c,g mS,q1P,bn1 q1P,g nK,q3v,bn1 q3v,g lL,q1w,bn1 q1w,g pW,q1x,bn1 q1x,g pV,q2T,bn1 q2T,q3m,bn2 q3m,q0w,bn2 q0w,q1i,bn3 q1i,q1t,bn3 q1t,q1j,bn2 q1j,q1F,bn2 q1F,q0X,bn1 q0X,q0Y,bn1 q0Y,q0B,bn2 q0B,q2N,bn1 q2N,g mD,q2k,bn2 q2k,g pf,zC,bn2 zC,g pU,q33,rfl,q17,bn2 q17,g nH,q4s,bn0 q4s,g lT,q34,bn1 q34,g ly,q2R,bn2 q2R,g lR,q4t,bn1 q4t,g lQ,q4U,bn1 q4U,g mi,xgW,bn1 xgW,g lW,q8k,q4X,q5z,g lD,q7R,q4V,q4N,q5c,g lV,q0E,q2t,q2u,q18,q5V,g lU,q3r,q2v,q3q,q5W,g nE,q0l,q1G,q1H,q1Q,q45,g lC,q0e,q1d,q1Y,q0p,q0y,q41,g lB,g mX,g mW,g mV,g mJ,g nD,g nS,g nR,g nC,q4g,q4g.hd,q3I,q3w,q4E,q3W,q3J,q5A,q4h,q4h.hd,q3K,q4u,q4F,q2V,q2O,q4Y,q4v,q4w,q4G,q2W,q2P,q4Z,q5n,q4H,q4O,q3d,q2X,q46,q5o,q4I,q4P,q3e,q2Y,q47,⟨q40⟩,⟨q48⟩,⟨q4x⟩,fun e=>.ins e q0E lP lO lN lM,q4Q,q4y,q4z,q4A,q4o,q4J,q3X,q4K,q35,q3x,q3y,q3z,q3n,q3L,q2Z,q3M,q36,q3A,q3B,q3C,q3o,q3N,q20,q3O,q4i,q3P,q3Q,q3R,q3D,q37,q3f,q38,q4e,q4j,q3S,q3T,q3U,q3E,q39,q3g,q4a,g lK,⟨⟨_,_,lJ,lI⟩,lH,(zG mC (zG mz (zG mx (zG mv (zG mn (zG mj (zG nv (zG nq (zG ni (zG ng (fun _ _ z=>nomatch z))))))))))),(cJ.mpr ⟨m9,(cJ.mpr ⟨m8,(cJ.mpr ⟨m7,(cJ.mpr ⟨m6,(cJ.mpr ⟨m5,(fun _ z=>nomatch z)⟩)⟩)⟩)⟩)⟩)⟩,fun _=>.inr ⟨_,_,_,mB,rfl,rfl,by simp[ar],(.cons ⟨_,rfl⟩ (.cons rfl (.cons ⟨_,rfl⟩ .nil)))⟩,fun _=>.inr ⟨_,_,_,my,rfl,rfl,by simp[ar],(.cons ⟨_,rfl⟩ (.cons ⟨_,rfl⟩ (.cons ⟨_,rfl⟩ .nil)))⟩,fun _=>.inr ⟨_,_,_,mw,rfl,rfl,by simp[ar],(.cons ⟨_,rfl⟩ (.cons ⟨_,rfl⟩ (.cons ⟨_,rfl⟩ .nil)))⟩,fun _=>.inr ⟨_,_,_,mq,rfl,rfl,by simp[ar],(.cons ⟨_,rfl⟩ (.cons rfl (.cons ⟨_,rfl⟩ .nil)))⟩,fun _=>.inr ⟨_,_,_,ml,rfl,rfl,by simp[ar],(.cons ⟨_,rfl⟩ (.cons rfl (.cons ⟨_,rfl⟩ .nil)))⟩,fun _=>.inr ⟨_,_,_,ny,rfl,rfl,by simp[ar],(.cons ⟨_,rfl⟩ (.cons ⟨_,rfl⟩ (.cons ⟨_,rfl⟩ .nil)))⟩,fun _=>.inr ⟨_,_,_,nr,rfl,rfl,by simp[ar],(.cons ⟨_,rfl⟩ (.cons ⟨_,rfl⟩ (.cons ⟨_,rfl⟩ .nil)))⟩,fun _=>.inr ⟨_,_,_,nj,rfl,rfl,by simp[ar],(.cons ⟨_,rfl⟩ (.cons ⟨_,rfl⟩ (.cons ⟨_,rfl⟩ .nil)))⟩,fun _=>.inr ⟨_,_,_,nh,rfl,rfl,by simp[ar],(.cons ⟨_,rfl⟩ (.cons ⟨_,rfl⟩ (.cons ⟨_,rfl⟩ .nil)))⟩,fun _=>.inr ⟨_,_,_,nc,rfl,rfl,by simp[ar],(.cons ⟨_,rfl⟩ (.cons ⟨_,rfl⟩ (.cons ⟨_,rfl⟩ .nil)))⟩,g lr,g pD,g pR,fun _=>.inr ⟨_,_,_,pQ,rfl,rfl,by simp[ar],(.cons ⟨_,rfl⟩ (.cons ⟨_,rfl⟩ (.cons ⟨_,rfl⟩ (.cons ⟨_,rfl⟩ (.cons ⟨_,rfl⟩ .nil)))))⟩,g nJ,fun _=>.inr ⟨_,_,_,nI,rfl,rfl,by simp[ar],(.cons ⟨_,rfl⟩ (.cons ⟨_,rfl⟩ (.cons ⟨_,rfl⟩ .nil)))⟩,g lG,⟨⟨_,_,lF,lE⟩,(xfb m3 (xfb mZ (xfb mY (fun _ _ z=>nomatch z))))⟩,g ph,q23,q3p,q21,q1R,q1y,q2l,q3F,q0m,q22,q2w,q2m,q1I,q4k,q4l,q4B,q3V,q4f,q4m,q4b,q2Q,q4n,q1r,q4c,q1S,q1Z,q4d,q4M,g0 q4C,g0 q62,g0 q5R,g0 q63,g0 q5X,g0 q2U,g0 q5S,g0 q0j,g0 q1l,g0 q4R,g0 q5T,g0 q4S,g0 q3s,g0 q3H⟩;exact⟨_,fun s v=>.of_eq rfl,fun base _ _=>xpU T⟩
end K82
open PySem PySem.W PyProof.Rows
inductive PySem.W.Fast:Prop
|tw8161995799253279072|tw3083222846503146690|tw10294605826732328354|tw12435104311632494755|tw1810854921914502597|tw15105505671435426597|tw11845696618591179814|tw1170446066080726278|tw3969997268960874759|tw10653721859742369320|tw15629965611617506952|tw5112284757645232968|tw13205872459484926121|tw13436703103691648362|tw12595166578000341931|tw18424889712747707436|tw180584878232580172|tw13844301407427318220|tw8644184244197779340|tw14960337951943555085|tw15330489107702764941|tw13597038608715512525|tw4909121494326554126|tw7643654304316640942|tw4313974624121857966|tw11420398367335565551|tw14374235918821864690|tw16069786906284151346|tw17433813825529450162|tw15894510503091246994|tw11459240505476983698|tw1365460680776256628|tw10288461933370377012|tw2265878461579831062|tw11780302751460746134|tw15159208995784867863|tw13452101638697059479|tw7947040732085975319|tw5435804853920516376|tw465970384226156249|tw14472879484465714426|tw3088223492254214267|tw10398278186811342139|tw4307309251807590331|tw18149730103561783164|tw1554517679121186365|tw16036269479741899935|tw4332795514428402175|tw23942139077004895|tw746521119759646072|tw15492945178517233742|tw2597163548377189419|tw4185025158337569613|tw12859463127566789272|tw8646962666599283127|tw18076435261406226345|tw9502238477977062210|tw11702459640996483525|tw2427657167423697919|tw12526870432740564169|tw6615575101754084406|tw4131737023161365861|tw10912485586741459356|tw11526774558536615581|tw9941027604837039944|tw6768735010054192936|tw3363898281589300040|tw11843151838490345841|tw1633425191921065735|tw5409352135963805639|tw1231329774782805238|tw16895450087959695289|tw15074798523398991647|tw13428232315161264886|tw8614339010095458269|tw6863401494966750578|tw11830218643784049339|tw15006673162972978278|tw11729661261522172199|tw12428298004738022507|tw12312901532311087923|tw6398834546500514220|tw14471018868902556946|tw14405627576050968053|tw3198384479283623633|tw5575759500968847785|tw4622792985934981551|tw17866675158965598830|tw5345891159184420263|tw7877367266750732922|tw14019258862784435845|tw14251755933440553314|tw15021562132526532944|tw11536469643492810624|tw1745493112744184553|tw17484447655844053190|tw5007695427234677548|tw8499276268407646924|tw16029642127780940892|tw4889491398344476718|tw1707601079815590198|tw9605718627539847505|tw12249331507902976137|tw17041360642417127141|tw244538946761410895|tw6548041641723578175|tw6901461930565237532|tw8112478085059263511|tw484299242140833197|tw7703409042293695758|tw4871564966323671781|tw14092303696404854269|tw7687280976546513582|tw13117663099537902993|tw14509377655741700728|tw6622847274692972579|tw298051605472380788|tw17449528877813219192|tw11605790583490538333|tw8599928083470679735|tw7708564781155732175|tw16611784032013090751|tw10419619692688835431|tw7057884564833777274|tw11057659173315030066|tw11939367280120212071|tw1134705094781595904|tw6399468487425040801|tw9260392341386051632|tw9702776457231677557|tw7026512610550498276|tw3735191316101057409|tw16893512087313879606|tw3628316547074500521|tw17792843479556076963|tw10543068336751147481|tw10825813704230232458|tw219002950567731657|tw9677033811814510214|tw18258531101296131772|tw4138980373916441777|tw8135303810574181586|tw2177026952561701711|tw4752242714505490913|tw13626221255296905548|tw412903320275048505|tw8033384566449960850|tw17621138403231863853|tw989368972012341490|tw16723669920768919293|tw10973428984025693782|tw17702999300708474235|tw6832911505215392640|tw15646444576160940444|tw414264946739308258|tw4455838561648102715|tw9139347977977897895|tw15043136314555609927|tw11767588367248329260|tw5410880360899645089|tw1953302735783641021|tw17862860906563473684|tw9615609008670393127|tw12360814183067130532|tw6883110981733315239|tw15625403385572988415|tw12444640725858081092|tw6125951006925181732|tw6425476273753432912|tw14691602048917912560|tw2275187676441224230|tw1118959962253840519|tw1452327527653407784|tw11400717940764207107|tw14865543371113391312|tw2099376748615508106|tw10266130827272147675|tw13156951916405952085|tw13678160746244924314|tw10416959356161789776|tw8664017528654396095|tw14192584614994262949|tw3624135596087833426|tw296854529865059808|tw15998387407575824545|tw16148476429843449567|tw15765872507689548513|tw848058823962455447|tw14461370880628295646|tw276209121353738672|tw18026175865391477250|tw18020423394244088457|tw7716249253737238865|tw10215963191565797485|tw5586775751541375306|tw875224189740313233|tw1042835444333442747|tw1086170358041626241|tw10403213382223639145|tw17454181982377575862|tw14626324955092475508|tw18187479166766857432|tw12420152835787566934|tw4202687626331080920|tw6508178731609360390|tw17302662663369411986|tw2012459639960796862|tw16304111420117353401|tw2303827346441056044|tw14082956184328252882|tw1467864255923604585|tw12947704275057034371|tw15969648017783305657|tw10466393421628681402|tw9413632813998254002|tw16667461049514654855|tw3665130834773819421|tw12375142888076317208|tw6802140878595509459|tw14314840015578086418|tw12910287724550206296|tw1608701312597290992|tw15198081260641985832|tw11844730269240842416|tw5532153466143248475|tw263256586435991537|tw15706965519373068387|tw13339903469354406916|tw18115912996893536620|tw508111491793322934|tw13810219553767331099|tw14680237326440303804|tw13645334172708895286|tw11589094915849253304|tw5813009384175491382|tw36984375084954264|tw4866247897684503416|tw1789643518593198083|tw7078771088784045863|tw14829319426352440533|tw4320246456309063309|tw14391373728659461802|tw11211959878263579506|tw5527932099455909401|tw400819099221982773|tw4563755739671397453|tw18001458719433719397|tw7666417171381986817|tw7362058982241392568|tw12267845798381610476|tw14816077400650233447|tw11569420992922837791|tw12735126070259056295|tw1787466540930745831|tw13491543084368921757|tw13924336807499382282|tw6840705060230567538|tw11894988062168824084|tw9268959084706477926|tw18317595606261109639|tw6998043885178390198|tw11369272648471096438|tw13018087861114844307|tw18437140538843033339|tw18278421508178559102|tw10437738149039118686|tw10188677429049714263|tw15085521224303455819|tw18043770995162956159|tw11322773430074366088|tw4254553632824481883|tw17820810080168268270|tw7680899545282590747|tw8129775540257379824|tw17629115037588469605|tw16394936451077352312|tw635120219165916704|tw6580837194656419415|tw14072946023729728431|tw1477216022852061895|tw2783827803715668135|tw13404883997564246408|tw3172569040747117960|tw1768947369048410216|tw5518447516282728959|tw4579870076028424399|tw1077050591494151713|tw14333840474503280216|tw2277843146743159099|tw4082710609190540780|tw6451113864181566713|tw8246483229102273918|tw9360944377206745218|tw9975360686842248327|tw11762522441074230142|tw13212281849251340540|tw1480502985677433636|tw4275117711305075163|tw18042189434897197520|tw12170906878549297576|tw12429737705747746289|tw6336647807682760639|tw7178064590280201904|tw5746288610642589137|tw122047718368651117|tw11626812301528516370|tw1966140900126444891|tw5597395768796236239|tw12248554055300293741|tw10353787002567446048|tw17120697888631395302|tw4062296490100635788|tw6179346750296293933|tw17170639277052870134|tw11811605579802316846|tw10404910336442819767|tw11428207938835172966|tw10319309656534483276|tw11193611350938138350|tw10286074060787407226|tw11689120909087891731|tw14363106587333594879|tw2740121858942273567|tw13656796749915519408|tw5093492443810287581|tw8875892718660383888|tw267493680344841532|tw15439215989867821407|tw11037095410296414554|tw11451531193949301904|tw12984587182997739144|tw9507682015412710505|tw11902920683610810446|tw9436654707337032172|tw10711880706974673639|tw4449846141087526038|tw4140788695970638455|tw5528825915050623505|tw3290880426666881590|tw14315010763257866179|tw8905222078837341052|tw8856071526501824204|tw11652817256863928300|tw15967959722750842762|tw5282191158364745438|tw10110157716596962034|tw208220724287434813|tw3761415559395868174|tw14438134944019871743|tw3751677006556487616|tw10028675600470728978|tw11636456831639404579|tw16165139687241940167|tw16337722426604998341|tw18308931382220560646|tw946485647271830075|tw10540108858775440625|tw10746111960702063179|tw11298987558380489578|tw11524193080589389954|tw11596841251087925920|tw11671589775802277025|tw12513925476132002426|tw1271948012706287041|tw12872248761436061930|tw13013501974062582369|tw13811668392320472901|tw14325589728267353616|tw14356699627783795389|tw14391084765494367174|tw14541939508681189051|tw15409431315878362472|tw15493357752082107707|tw16320256859306349706|tw16375211797465576944|tw16390279994051784797|tw16431018358560713067|tw16848462798532020261|tw1706473763629112589|tw17322697006936850197|tw17818444543326175829|tw232129517629495736|tw3355499556864704721|tw3381586224028537396|tw36562281512777650|tw3747043252529875880|tw3790678307372449143|tw396415304490597643|tw5106389014069835564|tw5812089330914259668|tw6352552234939988636|tw7757684620066724022|tw7787988475855296120|tw8015636066374314125|tw8528258379621648667|tw8784313111333325323|tw9235214166377462105|tw9408387389390692773|tw9466555398384863666|tw957482584324473781|tw9919504673934300896|tw8533679740333872615|tw10473897133344543545|tw5602669569070130710|tw11359915016141439076|tw10036559031920402688|tw10111172920218180613|tw10654833246574974912|tw11425170805002764042|tw11665595508318216202|tw11712626816545000585|tw11726845827159309196|tw12439508434638663631|tw12499119504905737999|tw12756847725322012908|tw12759876163756318250|tw13159713170661706137|tw13268922033182726799|tw13607218995222320217|tw136714369695351100|tw13693274872119773138|tw13826969341844176541|tw139802514191406078|tw14468700439999182636|tw14598797688321640773|tw15327421269371412549|tw16614822561132469028|tw16697215230065838831|tw16857427517006053426|tw17925694013904872962|tw18207927247500054806|tw213010089321140931|tw2607121264155892864|tw2611705492104540967|tw2868967329660749686|tw291587072043572937|tw3400319998123297312|tw3788564514000737507|tw4406965055761895193|tw5181259621164846028
set_option maxRecDepth 100000 in
set_option maxHeartbeats 0 in
theorem PySem.Challenge.cw_oneroom_k82_lines_that_are_none_holds : PySem.Challenge.rw_oneroom_k82_lines_that_are_none.Holds := by
 w_on;o_law;k_head;(case hw=>w_witness2)
 k_fill
 refine L2.xmr (l:=PySem.Challenge.rw_oneroom_k82_lines_that_are_none) (n:=63) (k:=14) (x:="_law_script") (CX:=L2.CX0) (sp:=K82.xii) (tabs:=[(K82.q1k,K82.zy,K82.vS),(K82.q0I,K82.yw,K82.uh),(K82.q0q,K82.ye,K82.yZ),(K82.q0J,K82.yx,K82.ui)]) rfl (by decide) rfl ⟨rfl,by decide,by decide⟩ (fun w h Y=>PySem.W.km_in_of Y) (fun w h Y KX=>(List.forall_mem_cons.mpr ⟨⟨PySem.W.codeHd_of_K (c:=K82.q1k) (P:=K82.zy) KX (by kernel_rfl),PySem.W.km_tabs_of Y _ (by decide)⟩,(List.forall_mem_cons.mpr ⟨⟨PySem.W.codeHd_of_K (c:=K82.q0I) (P:=K82.yw) KX (by kernel_rfl),PySem.W.km_tabs_of Y _ (by decide)⟩,(List.forall_mem_cons.mpr ⟨⟨PySem.W.codeHd_of_K (c:=K82.q0q) (P:=K82.ye) KX (by kernel_rfl),PySem.W.km_tabs_of Y _ (by decide)⟩,(List.forall_mem_cons.mpr ⟨⟨PySem.W.codeHd_of_K (c:=K82.q0J) (P:=K82.yx) KX (by kernel_rfl),PySem.W.km_tabs_of Y _ (by decide)⟩,(fun _ z=>nomatch z)⟩)⟩)⟩)⟩)) (fun w=>by kernel_rfl) (by decide) ?F ?S ?C
 case F=>
  intro w mg fa h KX G hmg
  refine' K82.xpV KX G hmg ?_ ?_ ?_ ?_ ?_ ?_ ?_ ?_ ?_ ?_ ?_ ?_ ?_ ?_ ?_ ?_ ?_ ?_ ?_ ?_ ?_ ?_ ?_ ?_ ?_ ?_ ?_ ?_ ?_ ?_ ?_ ?_ ?_ ?_ ?_ ?_ ?_ ?_ ?_ ?_ ?_ ?_ ?_ ?_ ?_ ?_ ?_ ?_ ?_ ?_ ?_ ?_ ?_ ?_ ?_ ?_ ?_ ?_ ?_ ?_ ?_ ?_ ?_ ?_ ?_ ?_ ?_ ?_ ?_ ?_ ?_ ?_ ?_ ?_ ?_ ?_ ?_ ?_ ?_ ?_ ?_ ?_ ?_ ?_ ?_ ?_ ?_ ?_ ?_ ?_ ?_ ?_ ?_ ?_ ?_ ?_ ?_ ?_ ?_ ?_ ?_ ?_ ?_ ?_ ?_ ?_ ?_ ?_ ?_ ?_ ?_ ?_ ?_ ?_ ?_ ?_ ?_ ?_ ?_ ?_ ?_ ?_ ?_ ?_ ?_ ?_ ?_ ?_ ?_ ?_ ?_ ?_ ?_ ?_ ?_ ?_ ?_ ?_ ?_ ?_ ?_ ?_ ?_ ?_ ?_ ?_ ?_ ?_ ?_ ?_ ?_ ?_ ?_ ?_ ?_ ?_ ?_ ?_ ?_ ?_ ?_ ?_ ?_ ?_ ?_ ?_ ?_ ?_ ?_ ?_ ?_ ?_ ?_ ?_ ?_ ?_ ?_ ?_ ?_ ?_ ?_ ?_ ?_ ?_ ?_ ?_ ?_ ?_ ?_ ?_ ?_ ?_ ?_ ?_ ?_ ?_ ?_ ?_ ?_ ?_ ?_ ?_ ?_ ?_ ?_ ?_ ?_ ?_ ?_ ?_ ?_ ?_ ?_ ?_ ?_ ?_ ?_ ?_ ?_ ?_ ?_ ?_ ?_ ?_ ?_ ?_ ?_ ?_ ?_ ?_ ?_ ?_ ?_ ?_ ?_ ?_ ?_ ?_ ?_ ?_ ?_ ?_ ?_ ?_ ?_ ?_ ?_ ?_ ?_ ?_ ?_ ?_ ?_ ?_ ?_ ?_ ?_ ?_ ?_ ?_ ?_ ?_ ?_ ?_ ?_ ?_ ?_ ?_ ?_ ?_ ?_ ?_ ?_ ?_ ?_ ?_ ?_ ?_ ?_ ?_ ?_ ?_ ?_ ?_ ?_ ?_ ?_ ?_ ?_ ?_ ?_ ?_ ?_ ?_ ?_ ?_ ?_ ?_ ?_ ?_ ?_ ?_ ?_ ?_ ?_ ?_ ?_ ?_ ?_ ?_ ?_ ?_ ?_ ?_ ?_ ?_ ?_ ?_ ?_ ?_ ?_ ?_ ?_ ?_ ?_ ?_ ?_ ?_ ?_ ?_ ?_ ?_ ?_ ?_ ?_ ?_ ?_ ?_ ?_ ?_ ?_ ?_ ?_ ?_ ?_ ?_ ?_ ?_ ?_ ?_ ?_ ?_ ?_ ?_ ?_ ?_ ?_ ?_ ?_ ?_ ?_ ?_ ?_ ?_ ?_ ?_
  iterate 2 all_goals first|(show(_:Prop);first|exact⟨_,L2.xbe (by k_is) (by k_is) (by k_is)⟩|exact L2.xnR (by kernel_rfl)|exact⟨⟨_,_,rfl,rfl⟩,⟨_,_,rfl,rfl⟩,⟨_,_,rfl,rfl⟩,⟨_,_,rfl,rfl⟩,⟨_,_,rfl,rfl⟩,⟨_,_,rfl,rfl⟩,⟨_,_,rfl,rfl⟩,⟨_,_,rfl,rfl⟩,⟨_,_,rfl,rfl⟩,⟨_,_,rfl,rfl⟩,True.intro⟩|exact⟨⟨_,_,rfl,rfl⟩,⟨_,_,rfl,rfl⟩,⟨_,_,rfl,rfl⟩,True.intro⟩|exact⟨by k_is,by k_is,by k_is⟩|exact⟨by k_is,by k_is,by k_is,by k_is⟩|exact⟨by kernel_rfl,by kernel_rfl,by kernel_rfl,by kernel_rfl,by kernel_rfl,by kernel_rfl⟩|exact⟨by kernel_rfl,by kernel_rfl,by kernel_rfl,by kernel_rfl,by kernel_rfl,by kernel_rfl,by kernel_rfl,by kernel_rfl⟩|k_is|(show _=_;k_is)|kernel_rfl)|skip
 case S=>exact fun K H a ns hl hS hT=>⟨a,ns,rfl,hS,hl,hT _ (.head _),hT _ (.tail _ (.head _)),hT _ (.tail _ (.tail _ (.head _))),hT _ (.tail _ (.tail _ (.tail _ (.head _)))),fun _=>rfl⟩
 case C=>exact fun _ _ _ _ z=>z
#print axioms PySem.Challenge.cw_oneroom_k82_lines_that_are_none_holds
