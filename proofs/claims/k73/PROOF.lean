import PyProof.Rows.All
import Wide.All
import OpenK.AllK
import Wide.FinOn
import Lean
import PyProof.EqAt
import PyProof.EqKinds
import PyProof.TupleCall
import PySem.Challenge.RW_oneroom_k73_falls_of_a_board
set_option Elab.async false
set_option linter.all false
set_option maxRecDepth 100000
open And renaming intro→bo
open Array renaming getElem?_eq_some_iff→bB,length_toList→cC,getElem?_setIfInBounds_ne→dw,find?_toList→iQ
open Bool renaming false_ne_true→aI,not_eq_false'→bh,and_eq_true→df,false_eq_true→dE,eq_iff_iff→ez,true_or→gB,false_or→iI
open False renaming elim→aT
open ForInStep renaming yield→dD
open Int renaming toNat_of_nonneg→eg,le_refl→eQ,toNat_natCast→gi
open List renaming length_map→aq,mem_singleton→au,mem_cons→aw,getElem?_eq_some_iff→aB,size_toArray→aH,getElem?_map→aJ,mem_append_right→aO,replicate→aU,mem_append_left→aV,length_append→aY,mem_cons_of_mem→aZ,getElem?_eq_getElem→a8,mem_of_getElem?→bf,not_mem_nil→bg,nodup_cons→bq,mem_append→bu,map_append→bw,mem_cons_self→bz,map_cons→bA,getElem?_set_ne→bD,lookup_cons→bH,getElem?_append_left→bL,drop_eq_getElem_cons→bM,length_cons→bQ,getElem?_append_right→bS,getElem?_set_self→bT,find?_cons→b7,length_take→cm,of_mem_zip→cu,all_eq_true→cF,take_succ→cG,take_length→cH,drop_eq_nil_of_le→cL,range→cT,nodup_nil→c7,replicate_succ→dq,append_nil→dB,lookup→dG,length_replicate→dQ,getElem?_eq_none→dR,filterMap_cons→ee,getElem?_take_of_lt→eG,flatten_cons→eO,append_assoc→eP,cons_append→eY,getElem_mem→fb,drop_length→fc,mem_iff_getElem?→fi,mem_filter→fk,length_nil→fB,take_append_of_le_length→fG,mem_filterMap→fU,length_range→gk,mem_of_find?_eq_some→gp,map_nil→gA,getElem?_replicate→gK,length_set→gO,length→gX,take_of_length_le→g8,length_singleton→ib,take_zero→ik,drop_zero→il,mem_iff_getElem→iy,any_cons→iH,map_take→iL,mem_map_of_mem→iM,length_pos_iff→iN,flatMap_append→iP,getElem_range→iT,mem_map→iU,find?_eq_none→iV,filter_append→iW,contains_cons→iX,getElem?_drop→iY
open Nat renaming le_refl→av,lt_of_lt_of_le→aD,ne_of_lt→aE,le_trans→bp,zero_le→bK,lt_irrefl→bO,le_succ→cZ,lt_of_le_of_lt→dC,ne_of_gt→dO,le_of_lt→fq,succ_ne_self→gH,not_lt_zero→gT
open Ne renaming symm→ak
open Option renaming map_eq_some_iff→aR,map_some→fA,isSome_map→gd,isSome_iff_exists→gy,getD_none→i7,map→i9
open Option.some renaming inj→aX,injEq→i3
open Or renaming inl→ay,inr→cx
open Prod.mk renaming injEq→eU
open PyProof renaming noPylong_of_log2→gC
open PyProof.Rows renaming callWith_type1→bJ,envOfC→cR,slot_tuple_getitem→dv,AllBare→d8,Constant_none→f6,IntsAre→ia,boot_range→ix,subscriptTail→iG
open PySem renaming wpAny_bind→aa,Shared→af,Program→ai,FuncData→aj,wpAny_pure→ao,starEach→aA,Around→aC,sizeLine→aF,wpAny_mono→aG,sizeLine_eq→aQ,mainGlobals→a7,rawInt→bc,wpAny_field→bj,wpAny_holding→bt,bootBuiltins→bx,backTo→bC,compareOp→bE,wpAny_newObj_type→bN,wpAny_standAt→bP,codeAny_mono→bR,wpAny_Call_Name_kw→bW,Arguments→bX,wpAny_truthy_bool→bZ,codeAny→b9,builtinsNs→cb,wpAny_newFunctionEnv_cells→cc,binaryOp→ck,codeAny_call_function→cn,wpAny_setField→cq,wpAny_loadPart_at→cz,behindInMarks→cA,NameKind→cE,wpAny_call→cJ,wpAny_pyIter_enum→cS,FuncBody→dk,wpAny_callSpecial?_slot→dy,sysModules→dz,wpAny_execs_nil→dA,wpAny_updateSeq→dF,bindArgs→dH,callWith→dI,keywordEach→dJ,excClassObj→dM,holding→dN,codeAny_handlers_test→dS,getMethod→dW,codeAny_call_builtin→dY,plainId_quiet→dZ,PyData→d5,wpAny_letOwnedTupleGo_enum→d7,sliceBounds→d9,wpAny_handleBy_cons→eo,wpAny_passesOwn→eu,codeAmong→eC,swapsWith→eE,tupleKind_room_in1→eI,wpAny_seqItems→eK,wpAny_pyIter_list→eM,foldedSetIterable→eN,attributeBase→eR,ExceptHandler→eS,wpAny_execs_cons→eV,backToKw→eW,wpAny_call_entry→eX,wpAny_isTrue_Compare1→ff,standAt→fg,cellsFrom→fh,plainObj_wpAny_Assign_Attribute→fj,assignEach→fw,letOwnedTupleGo→fx,codeAny_func→fz,codeAny_builtin→fC,unbindBehindTheSuite→fD,cameBackBy→fF,wpAny_isSubtype_exc→fJ,getItem→fL,wpAny_letGo→fO,wpAny_of_eq→fP,assign→fS,wpAny_pyIter_tuple→fT,noteFrame→fV,wpAny_assign_Name→gc,wpAny_Call_ofName→gj,call_meets→gn,codeAny_handlers_suite_as→gq,valueAt→gs,callerA→gu,Result→gw,IsPart→gz,wpAny_comprehension_free→gD,intItems→gF,IsEnum→gG,wpAny_Try_except→gI,wpAny_pyNext_enum_itemD→gL,tupleKind→gM,TriplesOk→gN,updateSeq→gP,seqItems?→gQ,setFlight→gR,wpAny_loadPart'→gS,subscripted→gY,wpAny_loadPart→g9,recursionLimit→hI,BindsTo→hX,leaving→hZ,wpAny_tryCatch→ic,Builtin→ie,typeLookup→ir,closureFor→iu,IsLongIter→iw,evalArgs→iB,isInstance→iC
open PySem.Around renaming frames_deeper→iq,under_plainId→iA,under→iR
open PySem.AutoSeq1 renaming wpAny_loadPart'→eJ
open PySem.Builtin.Builtins renaming bindParams→fX
open PySem.Builtin.List renaming listExtendWith→b8,listTooLong→di,listSameRef→gE,listItems→g7
open PySem.Builtin.ObjectAttr renaming storeInDict→fE
open PySem.Builtin.Range renaming rangeSize→a6,small→fH
open PySem.Builtin.Slice renaming slicePlaces→cV,sliceAdjust→eA,sliceApplied→f9
open PySem.Builtin.SmallTypes renaming nextOf→cW,fitsIndex→dU
open PySem.Builtin.Tuple renaming tupleExact→dg
open PySem.Calls renaming Name_function_global→f7,callWith_builtin→gZ
open PySem.Code renaming quiet_builtin→fZ,isFrame→iS
open PySem.EntryCells renaming newEntry→ek
open PySem.F renaming slot_tuple_iterator_next→cQ,plain_max_loop→dm,args_tuple_iterator_next_1→fM,entry_tuple_iterator_next→fY,entry_enumerate_new→ig,slot_enumerate_next→ij
open PySem.Heap renaming get?_push_of_some→ah,lt_size→ax,get?_push_size→aK,get?_update_other→aM,get?_update_self→a5,get?_none_of_le→cU,size_push→dP,SameBut→eD,get?_update_ne→iO,ExtBut→i6
open PySem.Heap.Ns1 renaming of_empty→iZ
open PySem.Heap.SameBut renaming update→du
open PySem.IsRange renaming new→i5
open PySem.NameKind renaming free→bG,cell→iJ
open PySem.Obj renaming mapFields→ba,mapSeq→cK,data_mapFields→cM,isFreed_of_fields→cP,cls_mapFields→gf
open PySem.PassesOwn renaming never→br
open PySem.PyData renaming canLay0→bF,depth→dn,canLayAll0→gm,depthAll→gU,int→i8
open PySem.SeqAt renaming shaped→cy
open PySem.Str renaming ofString→aN
open PySem.Value renaming ref→az,none→aS,bool→cI,type→dX,int→fQ,str→fR,builtin→iK,float→i4
open PySem.W renaming Frag→ag,findIn→aL,kitCls→aW,fnOf→bU,keepIn→bV,codeIn→cw,methodCall_KW→cO,emptyDict→cX,kia_one→cY,cellsFrom_some→c8,instObj→eB,callWith_K→eF,tabObj→eZ,codeRec_of→fy,mroIn→fK,hasDictIn→fN,envX→fW,excIn→gv,kitOne→gx,nsIn→gJ,specialIn→gW,plainGet→ip,CodeHd→iz,plainGet_of→iD,looks_clsIn→iE,callWith_K0→iF
open Sum renaming inl→cD,inr→gr
open True renaming intro→bY
namespace L2
open PySem PySem.Spec PyProof.Rows
abbrev Key:=Sum Int Str
def xdR:Key→Value→Bool
 | .inl k,v=>Value.isInt k v
 | .inr x,v=>Value.isStrOf x v
def xqr(w:World):Key→Int
 | .inl k=>hashInt k
 | .inr x=>hashStr w x
theorem yD:∀{k:Key} {v:Value},xdR k v=true→(∃i t,k=cD i∧v=fQ i t)∨(∃x t,k=gr x∧v=fR x t)
 | .inl i,v,h=>by
  obtain⟨t,e⟩:=Value.isInt_shape (k:=i) (v:=v) h;exact .inl ⟨i,t,rfl,e⟩
 | .inr x,v,h=>by
  obtain⟨t,e⟩:=Value.isStrOf_shape (x:=x) (v:=v) h;exact .inr ⟨x,t,rfl,e⟩
theorem xkH(i:Int)(t:Tok):xdR (.inl i) (.int i t)=true:=by simp[xdR,Value.isInt]
theorem xkI(x:Str)(t:Tok):xdR (.inr x) (.str x t)=true:=by simp[xdR,Value.isStrOf]
theorem xoz(a b:Int):decide ((cD a:Key)=cD b)=(a==b):=by
 by_cases e:a=b
 ·subst e;simp
 ·have h:¬(cD a:Key)=cD b:=fun q=>e (Sum.inl.inj q);rw[decide_eq_false h];exact(beq_eq_false_iff_ne.mpr e).symm
theorem xoA(a b:Str):decide ((gr a:Key)=gr b)=decide (a=b):=by
 by_cases e:a=b
 ·subst e;simp
 ·have h:¬(gr a:Key)=gr b:=fun q=>e (Sum.inr.inj q);rw[decide_eq_false h,decide_eq_false e]
theorem xoB(a:Int)(b:Str):decide ((cD a:Key)=gr b)=false:=decide_eq_false (fun q=>nomatch q)
theorem xoC(a:Str)(b:Int):decide ((gr a:Key)=cD b)=false:=decide_eq_false (fun q=>nomatch q)
def yv(prog:ai)(w:World):PySem.KeyKind prog w Key where
 is:=xdR
 hash:=xqr w
 inj:=fun v a b ha hb=>by
  rcases yD ha with⟨i,t,rfl,rfl⟩|⟨x,t,rfl,rfl⟩
  ·rcases yD hb with⟨j,u,rfl,e⟩|⟨y,u,rfl,e⟩
   ·injection e with e1 _;rw[e1]
   ·exact nomatch e
  ·rcases yD hb with⟨j,u,rfl,e⟩|⟨y,u,rfl,e⟩
   ·exact nomatch e
   ·injection e with e1 _;rw[e1]
 byValue:=fun k v h=>by
  rcases yD h with⟨i,t,rfl,rfl⟩|⟨x,t,rfl,rfl⟩<;> rfl
 pyHash:=fun hv h=>by
  rcases yD hv with⟨i,t,rfl,rfl⟩|⟨x,t,rfl,rfl⟩
  ·exact wpAny_pyHash_int h
  ·exact wpAny_pyHash_str h
 eqBool:=fun hu hv h=>by
  rcases yD hu with⟨i,t,rfl,rfl⟩|⟨x,t,rfl,rfl⟩
  ·rcases yD hv with⟨j,u,rfl,rfl⟩|⟨y,u,rfl,rfl⟩
   ·rw[xoz]at h;exact wpAny_eqBool_int h
   ·rw[xoB]at h;exact SeqAt.EqAt.int_str i t y u _ _ _ _ h
  ·rcases yD hv with⟨j,u,rfl,rfl⟩|⟨y,u,rfl,rfl⟩
   ·rw[xoC]at h;exact SeqAt.EqAt.str_int x t j u _ _ _ _ h
   ·rw[xoA]at h;exact wpAny_eqBool_str h
 «strs»:=fun k x t v h=>by
  rcases yD h with⟨i,u,rfl,e⟩|⟨y,u,rfl,e⟩
  ·exact nomatch e
  ·injection e with e1 _;subst e1;cases v<;> rfl
theorem xiB(prog:ai)(w:World)(i:Int)(t:Tok):(yv prog w).is (.inl i) (.int i t)=true:=xkH i t
theorem xiC(prog:ai)(w:World)(x:Str)(t:Tok):(yv prog w).is (.inr x) (.str x t)=true:=xkI x t
end L2
namespace L2
open PySem PySem.Spec PyProof.Rows
inductive V where
 |non|bl (b:Bool)|int (i:Int)|str (x:Str)|byt (b:Array UInt8)|flt (b:UInt64)|ref (a:Addr)|ty (n:String)
 deriving DecidableEq
def RelV:V→Value→Prop
 | .non,u=>u=aS
 | .bl b,u=>u=cI b
 | .int i,u=>∃t,u=fQ i t
 | .str x,u=>∃t,u=fR x t
 | .byt b,u=>∃t,u=Value.bytes b t
 | .flt b,u=>∃t,u=i4 b t
 | .ref a,u=>u=az a
 | .ty n,u=>u=dX n
theorem RelV.fn{x y:V}{u:Value}(a:RelV x u)(b:RelV y u):x=y:=by
 cases x<;> simp only[RelV]at a<;> (first|subst a|(obtain⟨_,rfl⟩:=a))<;> cases y<;> simp only[RelV]at b<;> first|rfl|(cases b;done)|(cases b;rfl)|(obtain⟨_,b⟩:=b;cases b;done)|(obtain⟨_,b⟩:=b;cases b;rfl)
abbrev Vals:List V→List Value→Prop:=Paired RelV
theorem Vals.length{xs:List V}{us:List Value}(r:Vals xs us):xs.length=us.length:=Paired.length r
theorem Vals.get:∀{xs:List V} {us:List Value} {i:Nat} {x:V},Vals xs us→xs[i]? =some x→∃u,us[i]? =some u∧RelV x u
 |_,_,_,_,.nil,e=>by simp at e
 |_,_,0,_,.cons r _,e=>by simp at e;subst e;exact⟨_,rfl,r⟩
 |_,_,i+1,x,.cons _ t,e=>by
  obtain⟨u,h1,h2⟩:=Vals.get (i:=i) (x:=x) t (by simpa using e);exact⟨u,by simpa using h1,h2⟩
theorem Vals.set{x:V}{u:Value}(r:RelV x u):∀{xs:List V} {us:List Value} (i:Nat),Vals xs us→Vals (xs.set i x) (us.set i u)
 |_,_,_,.nil=>.nil
 |_,_,0,.cons _ t=>.cons r t
 |_,_,i+1,.cons q t=>.cons q (Vals.set r i t)
theorem Vals.append:∀{xs ys:List V} {us ws:List Value},Vals xs us→Vals ys ws→Vals (xs++ys) (us++ws)
 |_,_,_,_,.nil,s=>s
 |_,_,_,_,.cons r t,s=>.cons r (Vals.append t s)
theorem Vals.take:∀{xs:List V} {us:List Value} (n:Nat),Vals xs us→Vals (xs.take n) (us.take n)
 |_,_,0,_=>.nil
 |_,_,_+1,.nil=>.nil
 |_,_,n+1,.cons r t=>.cons r (Vals.take n t)
theorem Vals.drop:∀{xs:List V} {us:List Value} (n:Nat),Vals xs us→Vals (xs.drop n) (us.drop n)
 |_,_,0,r=>r
 |_,_,_+1,.nil=>.nil
 |_,_,n+1,.cons _ t=>Vals.drop n t
def zS:Option V→Option Value→Prop
 |some v,some u=>RelV v u
 |none,none=>True
 |_,_=>False
def KV{κ:Type}:List (κ×V)→List (κ×Value)→Prop:=Paired fun(p:κ×V) (q:κ×Value)=>p.1=q.1∧RelV p.2 q.2
def kV:Key→V
 | .inl i=>.int i
 | .inr x=>.str x
inductive HO where
 |lst (xs:List V)
 |tup (xs:List V)
 |dK (kvs:List (Key×V))|dT (kvs:List (List Key×V))
 |set (S:Int→Bool) (n:Nat)
 |ins (C dx:Addr) (fs:List (Str×V))
 |own (x:Addr)
 |xd (fs:List (Str×V))
 |met (f x:Addr)
 |rng (lo hi:Int)
 |frz (o:Obj) (u:HO)
 |tbl (qs:List (Pos×Str))
 |cel (v:Option V)
 |ext (φ:Heap→Prop)
abbrev Hp:=Addr→Option HO
def upd(H:Hp)(a:Addr)(o:HO):Hp:=fun b=>if b=a then some o else H b
theorem xp{H:Hp}{a:Addr}{o:HO}:upd H a o a=some o:=by unfold upd;rw[if_pos rfl]
theorem xm{H:Hp}{a b:Addr}{o:HO}(h:b≠a):upd H a o b=H b:=by unfold upd;rw[if_neg h]
theorem zd{H:Hp}{a:Addr}{o u:HO}:upd (upd H a o) a u=upd H a u:=by
 funext b;unfold upd;split<;> rfl
theorem xa7{H:Hp}{a b:Addr}{o u:HO}(h:H a=some o)(h':H b=some u)(d:o≠u):a≠b:=by
 intro e;subst e;rw[h]at h';exact d (aX h')
theorem xC{H:Hp}{a b:Addr}{o:HO}(h:H a=some o)(h':H b=none):a≠b:=by
 intro e;subst e;rw[h]at h';cases h'
section
variable (P:ai) (w:World)
def xY(H:Hp)(h:Heap)(a:Addr):HO→Prop
 | .lst xs=>xs.length≤aF∧∃(its:List Value) (n:Nat),Vals xs its∧h.get? a=some {cls:=.type "list",data:=.seq its.toArray n}
 | .tup xs=>xs.length≤aF∧∃its:List Value,Vals xs its∧IsTup h a its.toArray
 | .dK kvs=>kvs.length≤aF∧(a==dz)=false∧∃vs,KV kvs vs∧h.DictOf (yv P w) a vs
 | .dT kvs=>kvs.length≤aF∧(a==dz)=false∧∃xs:List (List Key×Addr×Value),
   Paired (fun(p:List Key×V) (q:List Key×Addr×Value)=>p.1=q.1∧H q.2.1=some (.tup (p.1.map kV))∧RelV p.2 q.2.2) kvs xs∧
   ∃o es ep,h.get? a=some o∧o.ExactDict∧o.data= .dict es ep∧es.toList=xs.map (entryOfKey (gM (yv P w)))∧(xs.map (·.1)).Nodup
 | .set S n=>h.SetOf (intKind P w) a S n
 | .ins C dx fs=>H dx=some (.own a)∧fs.length≤1000∧dx≠a∧h.get? a=some (eB C dx)∧
   ∃mA,h.Ns1 dx mA∧(∀f,zS (fs.lookup f) (mA f))∧PySem.Within mA (fs.map (·.1))
 | .own _=>∃o,h.get? a=some o
 | .xd fs=>∃mA,h.Ns1 a mA∧∀f,zS (fs.lookup f) (mA f)
 | .rng lo hi=>∃t u v,h.get? a=some {cls:=.type "range",data:=.fields #[.int lo t,.int hi u,.int 1 v]}
 | .frz o u=>h.get? a=some o∧xY H h a u
 | .tbl qs=>∃ps:Array Value,h.get? a=some {cls:=.none,data:=.fields ps}∧gN ps.toList∧∀pos q,(pos,q)∈qs→
   eC pos ps.toList=none∨∃c o u vs t,eC pos ps.toList=some (.ref c)∧H c=some (.frz o u)∧o.data= .fields vs∧vs[1]? =some (.str q t)
 | .cel v=>∃u,h.IsCell a u∧∀x,v=some x→∃y,u=some y∧RelV x y
 | .met f x=>h.get? a=some (W.methodObj (.ref f) (.ref x))
 | .ext φ=>φ h∧(∃o,h.get? a=some o)∧∀h1 h2:Heap,φ h1→(∀o,h1.get? a=some o→h2.get? a=some o)→φ h2
def HOk(H:Hp)(h:Heap):Prop:=∀a o,H a=some o→xY P w H h a o
end
section
variable {P:ai} {w:World} {H H':Hp} {h h':Heap} {a:Addr} {o:HO}
def xoD:HO→Prop
 | .tup _=>True
 | .frz _ _=>True
 |_=>False
def Fix:HO→Prop
 | .tup _=>True
 | .frz _ _=>True
 | .tbl _=>True
 | .cel _=>True
 |_=>False
theorem xY.lt(x:xY P w H h a o):a<h.objs.size:=by
 cases o with
 |lst xs=>obtain⟨_,_,_,_,e⟩:=x;exact ax e
 |tup xs=>obtain⟨_,_,_,p⟩:=x;exact p.lt
 |dK kvs=>obtain⟨_,_,_,_,o,_,_,e,_⟩:=x;exact ax e
 |dT kvs=>obtain⟨_,_,_,_,o,_,_,e,_⟩:=x;exact ax e
 |set S n=>obtain⟨o,_,_,_,e,_⟩:=x;exact ax e
 |ins C dx fs=>obtain⟨_,_,_,e,_⟩:=x;exact ax e
 |own y=>obtain⟨_,e⟩:=x;exact ax e
 |xd fs=>obtain⟨_,⟨_,_,_,e,_⟩,_⟩:=x;exact ax e
 |rng lo hi=>obtain⟨_,_,_,e⟩:=x;exact ax e
 |frz ob u=>obtain⟨e,_⟩:=x;exact ax e
 |tbl qs=>obtain⟨_,e,_⟩:=x;exact ax e
 |cel v=>obtain⟨_,⟨_,e,_⟩,_⟩:=x;exact ax e
 |met f y=>exact ax (show h.get? a=some _ from x)
 |ext φ=>obtain⟨_,⟨_,e⟩,_⟩:=x;exact ax e
theorem Paired.mapP{α β:Type}{F G:α→β→Prop}:∀{l₁:List α} {l₂:List β},Paired F l₁ l₂→(∀a b,F a b→G a b)→Paired G l₁ l₂
 |_,_,.nil,_=>.nil
 |_,_,.cons r t,f=>.cons (f _ _ r) (Paired.mapP t f)
theorem Paired.imp'{α β:Type}{F G:α→β→Prop}(f:∀a b,F a b→G a b){l₁:List α}{l₂:List β}(r:Paired F l₁ l₂):Paired G l₁ l₂:=Paired.mapP r f
theorem xY.stay(x:xY P w H h a o)(k:∀b u,(b=a∨H b=some (.own a))→h.get? b=some u→h'.get? b=some u)
  (ho:∀b,H b=some (.own a)→H' b=some (.own a)) (ht:∀b u,H b=some u→xoD u→H' b=some u):xY P w H' h' a o:=by
 induction o with
 |lst xs=>obtain⟨z,its,n,r,e⟩:=x;exact⟨z,its,n,r,k _ _ (.inl rfl) e⟩
 |tup xs=>obtain⟨z,its,r,ob,e,c⟩:=x;exact⟨z,its,r,ob,k _ _ (.inl rfl) e,c⟩
 |dK kvs=>obtain⟨z,y,vs,r,ob,es,ep,e,c⟩:=x;exact⟨z,y,vs,r,ob,es,ep,k _ _ (.inl rfl) e,c⟩
 |dT kvs=>
  obtain⟨z,y,xs,r,ob,es,ep,e,c⟩:=x;exact⟨z,y,xs,Paired.mapP r fun p q z=>⟨z.1,ht _ _ z.2.1 trivial,z.2.2⟩,ob,es,ep,k _ _ (.inl rfl) e,c⟩
 |set S n=>obtain⟨ob,es,ep,t,e,c⟩:=x;exact⟨ob,es,ep,t,k _ _ (.inl rfl) e,c⟩
 |ins C dx fs=>
  obtain⟨d,z,ne,e,mA,⟨od,es,ep,e2,c⟩,r⟩:=x;exact⟨ho _ d,z,ne,k _ _ (.inl rfl) e,mA,⟨od,es,ep,k _ _ (.inr d) e2,c⟩,r⟩
 |own y=>obtain⟨ob,e⟩:=x;exact⟨ob,k _ _ (.inl rfl) e⟩
 |xd fs=>obtain⟨mA,⟨od,es,ep,e,c⟩,r⟩:=x;exact⟨mA,⟨od,es,ep,k _ _ (.inl rfl) e,c⟩,r⟩
 |rng lo hi=>obtain⟨t,u,v,e⟩:=x;exact⟨t,u,v,k _ _ (.inl rfl) e⟩
 |frz ob u ih=>obtain⟨e,q⟩:=x;exact⟨k _ _ (.inl rfl) e,ih q⟩
 |tbl qs=>
  obtain⟨ps,e,tr,r⟩:=x;refine⟨ps,k _ _ (.inl rfl) e,tr,fun pos q m=>?_⟩;rcases r pos q m with z|⟨c,ob,u,vs,t,z1,z2,z3⟩
  ·exact .inl z
  ·exact .inr ⟨c,ob,u,vs,t,z1,ht _ _ z2 trivial,z3⟩
 |cel v=>obtain⟨u,⟨ob,e,d⟩,r⟩:=x;exact⟨u,⟨ob,k _ _ (.inl rfl) e,d⟩,r⟩
 |met f y=>
  have e:h.get? a=some (W.methodObj (.ref f) (.ref y)):=x;show h'.get? a=some (W.methodObj (.ref f) (.ref y));exact k a _ (.inl rfl) e
 |ext φ=>obtain⟨p,⟨o,e⟩,st⟩:=x;exact⟨st _ _ p fun o q=>k _ _ (.inl rfl) q,⟨o,k _ _ (.inl rfl) e⟩,st⟩
theorem HOk.lt(x:HOk P w H h)(e:H a=some o):a<h.objs.size:=(x a o e).lt
theorem HOk.fresh(x:HOk P w H h)(e:h.objs.size≤a):H a=none:=by
 cases q:H a with
 |none=>rfl
 |some u=>exact absurd (aD (x.lt q) e) (bO _)
theorem HOk.kept(x:HOk P w H h)(k:∀b u,h.get? b=some u→h'.get? b=some u):HOk P w H h':=fun a o e=>
 (x a o e).stay (fun b u _ q=>k b u q) (fun _ q=>q) fun _ _ q _=>q
theorem HOk.laid(x:HOk P w H h)(k:∀b u,h.get? b=some u→h'.get? b=some u)(hp:h.objs.size≤a)(new:xY P w (upd H a o) h' a o):HOk P w (upd H a o) h':=fun b u e=>by
 have hn:=x.fresh hp
 by_cases hb:b=a
 ·subst hb;rw[xp]at e;cases e;exact new
 ·rw[xm hb]at e;exact(x b u e).stay (fun c v _ q=>k c v q) (fun c q=>by rw[xm (xC q hn)];exact q) fun c xs q _=>by rw[xm (xC q hn)];exact q
end
def Rd(H:Hp)(a:Addr)(u:HO):Prop:=H a=some u∨∃o,H a=some (.frz o u)
theorem Rd.ok{P:ai}{w:World}{H:Hp}{h:Heap}{a:Addr}{u:HO}(r:Rd H a u)(x:HOk P w H h):xY P w H h a u:=by
 rcases r with r|⟨o,r⟩
 ·exact x a u r
 ·obtain⟨_,q⟩:=x a _ r;exact q
def Mut:Option HO→Prop
 |some (.lst _)=>True
 |some (.dK _)=>True
 |some (.dT _)=>True
 |some (.set _ _)=>True
 |some (.ins _ _ _)=>True
 |some (.ext _)=>True
 |_=>False
section
variable {P:ai} {w:World} {H:Hp} {h h':Heap} {x e:Addr} {o':HO}
theorem HOk.write(ok:HOk P w H h)(mu:Mut (H x))(he:e=x∨H e=some (.own x))(k:∀b u,b≠e→h.get? b=some u→h'.get? b=some u)(heo:∃u,h'.get? e=some u)
  (new:xY P w (upd H x o') h' x o'):HOk P w (upd H x o') h':=fun b u q=>by
 have nown:∀c y,H c=some (.own y)→c≠x:=fun c y r z=>by subst z;rw[r]at mu;exact mu
 have ntup:∀c u,H c=some u→xoD u→c≠x:=fun c u r hf z=>by
  subst z;rw[r]at mu;cases u<;> first|exact mu|exact hf
 by_cases hb:b=x
 ·subst hb;rw[xp]at q;cases q;exact new
 ·rw[xm hb]at q
  by_cases hbe:b=e
  ·have q':H b=some (.own x):=by
    rcases he with z|z
    ·exact absurd (hbe.trans z) hb
    ·rw[hbe];exact z
   rw[q]at q';cases q';obtain⟨v,hv⟩:=heo;exact⟨v,by rw[hbe];exact hv⟩
  ·refine(ok b u q).stay (fun c v hc r=>k c v ?_ r) (fun c r=>by rw[xm (nown c b r)];exact r) fun c xs r hf=>by rw[xm (ntup c xs r hf)];exact r
   rcases hc with rfl|hc
   ·exact hbe
   ·rintro rfl;rcases he with z|z
    ·exact nown c b hc z
    ·rw[hc]at z;cases z;exact hb rfl
end
structure Un(fs ex:List Addr)(H H':Hp)(h h':Heap):Prop where
 keep:∀b o,h.get? b=some o→H b=none→b∉fs→b∉ex→h'.get? b=some o
 slot:∀b o,h.get? b=some o→H b=none→b∈fs→b∉ex→∃sl,h'.get? b=some {o with slots:=sl}
 free:∀b o,h.get? b=some o→H b=none→b∉ex→H' b=none
 there:∀b o,h.get? b=some o→b∉ex→∃o',h'.get? b=some o'
 fix:∀b u,H b=some u→Fix u→H' b=some u
section
variable {fs fs' ex ex':List Addr} {H H1 H2:Hp} {h h1 h2 h':Heap} {a x e:Addr} {o:HO}
theorem Un.any(u:Un fs ex H H1 h h1){b:Addr}{ob:Obj}(q:h.get? b=some ob)(n:H b=none)(hx:b∉ex):∃sl,h1.get? b=some {ob with slots:=sl}:=by
 by_cases hb:b∈fs
 ·exact u.slot b ob q n hb hx
 ·exact⟨ob.slots,u.keep b ob q n hb hx⟩
theorem Un.kept(k:∀b u,h.get? b=some u→h'.get? b=some u):Un fs ex H H h h':=
 ⟨fun b ob q _ _ _=>k b ob q,fun b ob q _ _ _=>⟨ob.slots,k b ob q⟩,fun _ _ _ n _=>n,fun b ob q _=>⟨ob,k b ob q⟩,fun _ _ q _=>q⟩
theorem Un.refl:Un fs ex H H h h:=Un.kept fun _ _ q=>q
theorem Un.laid(k:∀b u,h.get? b=some u→h'.get? b=some u)(hp:h.objs.size≤a)(hn:H a=none):Un fs ex H (upd H a o) h h' where
 keep:=fun b u q _ _ _=>k b u q
 slot:=fun b u q _ _ _=>⟨u.slots,k b u q⟩
 free:=fun b u q n _=>by rw[xm (aE (aD (ax q) hp))];exact n
 there:=fun b u q _=>⟨u,k b u q⟩
 fix:=fun b u q _=>by rw[xm (xC q hn)];exact q
theorem Un.write(mu:Mut (H x))(he:e=x∨H e=some (.own x))(k:∀b u,b≠e→h.get? b=some u→h'.get? b=some u)(heo:∃u,h'.get? e=some u):Un fs ex H (upd H x o) h h':=by
 have hx:∀b,H b=none→b≠x:=fun b n z=>by subst z;rw[n]at mu;exact mu
 have hb:∀b,H b=none→b≠e:=fun b n z=>by
  subst z;rcases he with r|r
  ·exact hx b n r
  ·rw[n]at r;cases r
 have hm:∀b u,H b=some u→¬Mut (some u)→b≠x:=fun b u q nm z=>by subst z;rw[q]at mu;exact nm mu
 refine⟨fun b u q n _ _=>k b u (hb b n) q,fun b u q n _ _=>⟨u.slots,k b u (hb b n) q⟩,fun b u q n _=>by rw[xm (hx b n)];exact n,fun b u q _=>?_,
  fun b u q hf=>by rw[xm (hm b _ q fun z=>by cases u<;> first|exact z|exact hf)];exact q⟩
 by_cases hbe:b=e
 ·subst hbe;exact heo
 ·exact⟨u,k b u hbe q⟩
end
def trk(h:Heap)(H:Hp):List Addr:=(cT h.objs.size).filter fun a=>(H a).isSome
def xb4(h:Heap)(H:Hp):Heap:=W.hideAll h (trk h H)
theorem xkJ(h:Heap)(H:Hp):(xb4 h H).objs.size=h.objs.size:=W.hideAll_size _ _
theorem xlU{h:Heap}{H:Hp}{b:Addr}{o:Obj}(e:h.get? b=some o)(n:H b=none):(xb4 h H).get? b=some o:=
 W.hideAll_get _ e fun hm=>by
  have q:(H b).isSome=true:=(fk.mp hm).2;rw[n]at q;simp at q
theorem xnc{h:Heap}{H:Hp}{b:Addr}{o:Obj}(e:(xb4 h H).get? b=some o):h.get? b=some o∧H b=none:=by
 have e':h.get? b=some o:=W.of_hideAll (trk h H) e;refine⟨e',?_⟩;cases q:H b with
 |none=>rfl
 |some x=>
  have hm:b∈trk h H:=fk.mpr ⟨List.mem_range.mpr (ax e'),by simp[q]⟩;have z:(xb4 h H).get? b=none:=W.hideAll_none (trk h H) hm;rw[z]at e;cases e
end L2
namespace L2
open PySem PySem.Spec PyProof.Rows
structure Mod(K:ag)(mg:Str→Option Value)(base:Heap):Prop where
 kin:K.In base
 glob:base.Ns a7 mg
 blt:∃mb,base.Ns cb mb∧∀x:Str,x≠"__name__"→mb x=bx x
 nolimit:base.NoLimit
 bm:∃b o,mg "__builtins__"=some (.ref b)∧b≠cb∧base.get? b=some o∧o.cls= .type "module"∧o.dict=some cb∧o.data= .plain
structure Cx where
 prog:ai
 w:World
 K:ag
 mg:Str→Option Value
 base:Heap
 A:aC
 N:List Str
 s₀:af
 H₀:Hp
 env:Env
 outer:List Env
 stack:List Env
 ex:List Addr
 fn:Str→Bool
 calm:Bool
 pn:List (Addr×Obj)
 xe:Value→af→Prop
 cp:Str→Bool
def frs(l:List Env):List Addr:=l.filterMap (·.frame)
abbrev Cx.fs(X:Cx):List Addr:=frs X.outer
def Vis(sc:Scope)(x:Str):Prop:=sc.names.lookup x=some .local∨sc.names.lookup x=some .cell∨sc.names.lookup x=some .free
def Loc(sc:Scope)(x:Str):Prop:=sc.names.lookup x=some .local∨sc.names.lookup x=some .cell
def Look(env:Env)(h:Heap)(m:Str→Option Value)(x:Str)(u:Value):Prop:=
 (env.kindOf x=some .local∧m x=some u)∨((env.kindOf x=some .cell∨env.kindOf x=some .free)∧∃c,env.cells.lookup x=some c∧h.IsCell c (some u))
structure Cx.Ok(X:Cx):Prop where
 mod:Mod X.K X.mg X.base
 kind:X.env.scope.kind= .function
 glob:X.env.globals=a7
 blt:X.env.builtins=cb
 above:X.s₀.heap.objs.size≤X.env.locals
 inj:∀x y c,X.env.cells.lookup x=some c→X.env.cells.lookup y=some c→x=y
 has:∀x,(X.env.kindOf x=some .cell∨X.env.kindOf x=some .free)→∃c,X.env.cells.lookup x=some c
 cab:∀x c,X.fn x=true→X.env.cells.lookup x=some c→X.s₀.heap.objs.size≤c
 hd:X.calm=true→X.A.handled=none
 frames:X.A.frames=some X.stack
 stk:X.stack=X.outer∨(X.stack=X.env::X.outer∧X.env.frame=some X.env.locals)
 exf:∀b∈X.ex,b≠X.env.locals∧∀x c,X.env.cells.lookup x=some c→c≠b
 bs:∀b o,X.base.get? b=some o→X.s₀.heap.get? b=some o∧X.H₀ b=none
 bsz:X.base.objs.size≤X.s₀.heap.objs.size
 noex:∀b o,X.base.get? b=some o→b∉X.ex
 exfs:∀b∈X.ex,b∉X.fs
 funs:X.s₀.heap.FunFrames X.base X.outer
 frf:∀b∈X.fs,X.H₀ b=none
 cab2:∀x c,X.cp x=true→X.env.cells.lookup x=some c→X.s₀.heap.objs.size≤c
 hz:∀b,X.s₀.heap.objs.size≤b→X.H₀ b=none
structure Inv(X:Cx)(pins:List (Addr×Obj))(σ:List (Option V))(H:Hp)(s:af):Prop where
 ok:X.Ok
 os:s.os=X.s₀.os
 bare:d8 s.gens
 base:Un X.fs X.ex X.H₀ H X.s₀.heap s.heap
 loc:∃m,s.heap.Ns X.env.locals m∧∀(i:Nat) (x:Str) (v:V),X.N[i]? =some x→σ[i]? =some (some v)→Vis X.env.scope x→∃u,RelV v u∧Look X.env s.heap m x u
 cell:∀x c,X.env.cells.lookup x=some c→∃v,s.heap.IsCell c v
 free:H X.env.locals=none
 freeC:∀x c,X.env.cells.lookup x=some c→H c=none∨(X.fn x=false∧∃o,H c=some (.cel o)∧(o=none→∀(i:Nat) v,X.N[i]? =some x→(X.env.kindOf x=some .cell∨X.env.kindOf x=some .free)→σ[i]?≠some (some v)))
 pin:∀p∈X.pn++pins,s.heap.get? p.1=some p.2∧H p.1=none∧p.1≠X.env.locals∧p.1∉X.fs∧∀v,p.2.data≠.cell v
 hok:HOk X.prog X.w H s.heap
 len:σ.length=X.N.length
section
variable {X:Cx} {pins:List (Addr×Obj)} {σ:List (Option V)} {H H':Hp} {s:af} {h':Heap}
theorem Cx.Ok.nofr(ok:X.Ok){b:Addr}{o:Obj}(e:X.base.get? b=some o):b∉X.fs:=fun hb=>by
 have:=(ok.funs.mem hb).1;rw[e]at this;cases this
theorem Inv.bs(I:Inv X pins σ H s):∀b o,X.base.get? b=some o→s.heap.get? b=some o∧H b=none:=fun b o e=>
 ⟨I.base.keep b o (I.ok.bs b o e).1 (I.ok.bs b o e).2 (I.ok.nofr e) (I.ok.noex b o e),I.base.free b o (I.ok.bs b o e).1 (I.ok.bs b o e).2 (I.ok.noex b o e)⟩
theorem Inv.bk(I:Inv X pins σ H s):∀b o,X.base.get? b=some o→s.heap.get? b=some o:=fun b o e=>(I.bs b o e).1
theorem Inv.mod(I:Inv X pins σ H s):Mod X.K X.mg X.base:=I.ok.mod
theorem Inv.kIn(I:Inv X pins σ H s):X.K.In s.heap:=I.ok.mod.kin.keeps I.bk
theorem Inv.lt(I:Inv X pins σ H s):X.env.locals<s.heap.objs.size:=let⟨_,hn,_⟩:=I.loc;hn.lt
theorem Inv.sz(I:Inv X pins σ H s):X.s₀.heap.objs.size≤s.heap.objs.size:=bp I.ok.above (fq I.lt)
theorem Inv.nofs(I:Inv X pins σ H s){a:Addr}(h:s.heap.objs.size≤a):a∉X.fs:=fun hb=>by
 obtain⟨_,o,ho,_⟩:=I.ok.funs.mem hb;exact absurd (aD (ax ho) (bp I.sz h)) (bO _)
theorem Inv.cne(I:Inv X pins σ H s):∀x c,X.env.cells.lookup x=some c→c≠X.env.locals:=fun x c e z=>by
 obtain⟨v,o,ho,hd⟩:=I.cell x c e;obtain⟨m,⟨o',es,ep,ho',hd',_⟩,_⟩:=I.loc;rw[z,ho']at ho;cases ho;rw[hd']at hd;cases hd
theorem Inv.funs(I:Inv X pins σ H s):s.heap.FunFrames X.base X.outer:=by
 have all:∀(l:List Env),(∀b∈frs l,b∈X.fs)→X.s₀.heap.FunFrames X.base l→s.heap.FunFrames X.base l:=by
  intro l
  induction l with
  |nil=>intro _ _;trivial
  |cons env r ih=>
   intro hs hl;obtain⟨hk,⟨L,o,hf,hn,ho,hd⟩,hr⟩:=hl;have hL:L∈X.fs:=hs L (by unfold frs;rw[ee,hf];exact bz);obtain⟨sl,e⟩:=I.base.slot L o ho (I.ok.frf L hL) hL fun z=>I.ok.exfs L z hL;exact⟨hk,⟨L,_,hf,hn,e,hd⟩,ih (fun b hb=>hs b (by unfold frs;rw[ee,hf];exact aZ _ hb)) hr⟩
 exact all X.outer (fun _ hb=>hb) I.ok.funs
theorem Inv.stack(I:Inv X pins σ H s):s.heap.FunFrames X.base X.stack:=by
 rcases I.ok.stk with e|⟨e,hf⟩
 ·rw[e];exact I.funs
 ·rw[e];obtain⟨m,hn,_⟩:=I.loc;refine .cons (by rw[I.ok.kind];decide) hf hn ?_ I.funs;exact cU (bp I.ok.bsz I.ok.above)
theorem Inv.stkSub(I:Inv X pins σ H s):∀b∈frs X.stack,b∈X.env.locals::X.fs:=fun b hb=>by
 rcases I.ok.stk with e|⟨e,hf⟩
 ·rw[e]at hb;exact aZ _ hb
 ·rw[e]at hb;unfold frs at hb;rw[ee,hf]at hb;exact hb
theorem Inv.stkFree(I:Inv X pins σ H s):∀b∈frs X.stack,H b=none:=fun b hb=>by
 rcases aw.mp (I.stkSub b hb)with e|hb
 ·rw[e];exact I.free
 ·obtain⟨_,o,ho,_⟩:=I.ok.funs.mem hb;exact I.base.free b o ho (I.ok.frf b hb) fun z=>I.ok.exfs b z hb
theorem Inv.step{g':Array GenState}{t':Nat}{d':Drawn}{ch:List Addr}(I:Inv X pins σ H s)
  (hch:∀b∈ch,(b∈X.ex∨X.s₀.heap.objs.size≤b)∧b≠X.env.locals∧(∀x c,X.env.cells.lookup x=some c→c≠b)∧∀p∈X.pn++pins,p.1≠b)
  (keep:∀b o,b≠X.env.locals→b∉X.fs→b∉ch→s.heap.get? b=some o→H b=none→h'.get? b=some o)
  (slot:∀b o,b≠X.env.locals→b∈X.fs→b∉ch→s.heap.get? b=some o→H b=none→∃sl,h'.get? b=some {o with slots:=sl}) (free:∀b o,b∉ch→s.heap.get? b=some o→H b=none→H' b=none)
  (there:∀b o,b∉ch→s.heap.get? b=some o→∃o',h'.get? b=some o')
  (fix:∀b u,H b=some u→Fix u→H' b=some u)
  (ns:∀m,s.heap.Ns X.env.locals m→h'.Ns X.env.locals m) (hok:HOk X.prog X.w H' h') (hg:d8 g'):
  Inv X pins σ H' {s with heap:=h',gens:=g',drawn:=d',toks:=t'}:=by
 have neL:∀b o,X.s₀.heap.get? b=some o→b≠X.env.locals:=fun b o e=>aE (aD (ax e) I.ok.above);have neC:∀b o,X.s₀.heap.get? b=some o→b∉X.ex→b∉ch:=fun b o e hx hb=>by
  rcases(hch b hb).1 with z|z
  ·exact hx z
  ·exact absurd (aD (ax e) z) (bO _)
 have cellK:∀x c,X.env.cells.lookup x=some c→H c=none→∀v,s.heap.IsCell c v→h'.IsCell c v:=fun x c e hn v ⟨o,ho,hd⟩=>by
  have nch:c∉ch:=fun z=>(hch c z).2.2.1 x c e rfl
  by_cases hc:c∈X.fs
  ·obtain⟨sl,q⟩:=slot c o (I.cne x c e) hc nch ho hn;exact⟨_,q,hd⟩
  ·exact⟨o,keep c o (I.cne x c e) hc nch ho hn,hd⟩
 refine⟨I.ok,I.os,hg,⟨fun b o e n hb hx=>?_,fun b o e n hb hx=>?_,fun b o e n hx=>?_,fun b o e hx=>?_,fun b u e f=>fix b u (I.base.fix b u e f) f⟩,?_,fun x c e=>?_,?_,fun x c e=>?_,fun p hp=>?_,hok,I.len⟩
 ·exact keep b o (neL b o e) hb (neC b o e hx) (I.base.keep b o e n hb hx) (I.base.free b o e n hx)
 ·obtain⟨sl,e1⟩:=I.base.slot b o e n hb hx;obtain⟨sl',e2⟩:=slot b _ (neL b o e) hb (neC b o e hx) e1 (I.base.free b o e n hx);exact⟨sl',e2⟩
 ·obtain⟨o',e1⟩:=I.base.there b o e hx;exact free b o' (neC b o e hx) e1 (I.base.free b o e n hx)
 ·obtain⟨o',e1⟩:=I.base.there b o e hx;exact there b o' (neC b o e hx) e1
 ·obtain⟨m,hn,hl⟩:=I.loc;refine⟨m,ns m hn,fun i x v e1 e2 e3=>?_⟩;obtain⟨u,r,l⟩:=hl i x v e1 e2 e3;rcases l with l|⟨k,c,e,z⟩
  ·exact⟨u,r,.inl l⟩
  ·rcases I.freeC x c e with hn'|⟨_,o,ho,hno⟩
   ·exact⟨u,r,.inr ⟨k,c,e,cellK x c e hn' _ z⟩⟩
   ·cases o with
    |none=>exact absurd e2 (hno rfl i v e1 k)
    |some v'=>
     obtain⟨y,hy,hr⟩:=I.hok c _ ho;obtain⟨y',hy',hr'⟩:=hok c _ (fix c _ ho trivial);obtain⟨y2,rfl,r2⟩:=hr v' rfl;obtain⟨y3,rfl,r3⟩:=hr' v' rfl;have:v=v':=RelV.fn r (by
      obtain⟨o1,q1,q2⟩:=z;obtain⟨o2,q3,q4⟩:=hy;rw[q1]at q3;cases q3;rw[q2]at q4;cases q4;exact r2)
     subst this;exact⟨y3,r3,.inr ⟨k,c,e,hy'⟩⟩
 ·rcases I.freeC x c e with hn'|⟨_,o,ho,_⟩
  ·obtain⟨v,z⟩:=I.cell x c e;exact⟨v,cellK x c e hn' v z⟩
  ·obtain⟨y',hy',_⟩:=hok c _ (fix c _ ho trivial);exact⟨y',hy'⟩
 ·obtain⟨m,⟨o,_,_,ho,_⟩,_⟩:=I.loc;exact free _ o (fun z=>(hch _ z).2.1 rfl) ho I.free
 ·rcases I.freeC x c e with hn'|⟨hf,o,ho,hno⟩
  ·obtain⟨v,o,ho,hd⟩:=I.cell x c e;exact .inl (free c o (fun z=>(hch c z).2.2.1 x c e rfl) ho hn')
  ·exact .inr ⟨hf,o,fix c _ ho trivial,hno⟩
 ·obtain⟨e,n,ne,nf,d⟩:=I.pin p hp;have nch:p.1∉ch:=fun z=>(hch p.1 z).2.2.2 p hp rfl;exact⟨keep p.1 p.2 ne nf nch e n,free p.1 p.2 nch e n,ne,nf,d⟩
theorem Inv.un{t':Nat}(I:Inv X pins σ H s)(u:Un X.fs [] H H' s.heap h')(hok:HOk X.prog X.w H' h'):Inv X pins σ H' {s with heap:=h',toks:=t'}:=by
 obtain⟨m,⟨o,es,ep,ho,r⟩,_⟩:=id I.loc;obtain⟨sl,hL⟩:=u.any ho I.free (by simp);exact I.step (g':=s.gens) (d':=s.drawn) (ch:=[]) (fun _ z=>nomatch z) (fun b o _ hb _ e n=>u.keep b o e n hb (by simp)) (fun b o _ hb _ e n=>u.slot b o e n hb (by simp)) (fun b o _ e n=>u.free b o e n (by simp)) (fun b o _ e=>u.there b o e (by simp)) u.fix (fun m' hm=>by
  obtain⟨o',es',ep',ho',r'⟩:=hm;rw[ho]at ho';cases ho';exact⟨_,es',ep',hL,r'⟩) hok I.bare
theorem Inv.call{g':Array GenState}{t':Nat}{d':Drawn}{ch:List Addr}(I:Inv X pins σ H s)(u:Un (frs X.stack) ch H H' s.heap h')(hok:HOk X.prog X.w H' h')(hg:d8 g')
  (hch:∀b∈ch,(b∈X.ex∨X.s₀.heap.objs.size≤b)∧b≠X.env.locals∧(∀x c,X.env.cells.lookup x=some c→c≠b)∧∀p∈X.pn++pins,p.1≠b):
  Inv X pins σ H' {s with heap:=h',gens:=g',drawn:=d',toks:=t'}:=by
 obtain⟨m,⟨o,es,ep,ho,r⟩,_⟩:=id I.loc;obtain⟨sl,hL⟩:=u.any ho I.free fun z=>(hch _ z).2.1 rfl;exact I.step (ch:=ch) hch (fun b o hL hb hc e n=>u.keep b o e n (fun z=>(aw.mp (I.stkSub b z)).elim hL hb) hc) (fun b o _ _ hc e n=>u.any e n hc) (fun b o hc e n=>u.free b o e n hc) (fun b o hc e=>u.there b o e hc) u.fix (fun m' hm=>by
  obtain⟨o',es',ep',ho',r'⟩:=hm;rw[ho]at ho';cases ho';exact⟨_,es',ep',hL,r'⟩) hok hg
theorem Inv.turned{t':Nat}{it:Addr}(I:Inv X pins σ H s)(k:∀b o,b≠it→s.heap.get? b=some o→h'.get? b=some o)(hn:H it=none)(hL:it≠X.env.locals)
  (h1:it∈X.ex∨X.s₀.heap.objs.size≤it) (h2:∀x c,X.env.cells.lookup x=some c→c≠it) (h3:∀p∈X.pn++pins,p.1≠it):Inv X pins σ H {s with heap:=h',toks:=t'}:=by
 have nit:∀b u,H b=some u→b≠it:=fun b u e z=>by rw[z,hn]at e;cases e
 refine I.step (g':=s.gens) (d':=s.drawn) (ch:=[it]) (fun b hb=>?_) (fun b o _ _ hc e _=>k b o (fun z=>hc (by simp[z])) e) (fun b o _ _ hc e _=>⟨o.slots,k b o (fun z=>hc (by simp[z])) e⟩) (fun _ _ _ _ n=>n)
  (fun b o hc e=>⟨o,k b o (fun z=>hc (by simp[z])) e⟩) (fun _ _ e _=>e) (fun m hm=>?_) (fun b u e=>?_) I.bare
 ·have e:b=it:=by simpa using hb
  subst e;exact⟨h1,hL,h2,h3⟩
 ·obtain⟨o,es,ep,ho,r⟩:=hm;exact⟨o,es,ep,k _ o (ak hL) ho,r⟩
 ·refine(I.hok b u e).stay (fun c v hc q=>k c v ?_ q) (fun _ q=>q) fun _ _ q _=>q;rcases hc with z|z
  ·rw[z];exact nit b u e
  ·exact nit c _ z
theorem Inv.tok(I:Inv X pins σ H s)(t:Nat):Inv X pins σ H {s with toks:=t}:=I.un (h':=s.heap) (t':=t) Un.refl I.hok
theorem Inv.kept{t':Nat}(I:Inv X pins σ H s)(k:∀b u,s.heap.get? b=some u→h'.get? b=some u):Inv X pins σ H {s with heap:=h',toks:=t'}:=I.un (Un.kept k) (I.hok.kept k)
theorem Inv.laid{a:Addr}{o:HO}{t':Nat}(I:Inv X pins σ H s)(k:∀b u,s.heap.get? b=some u→h'.get? b=some u)(hp:s.heap.objs.size≤a)(new:xY X.prog X.w (upd H a o) h' a o):
  Inv X pins σ (upd H a o) {s with heap:=h',toks:=t'}:=I.un (Un.laid k hp (I.hok.fresh hp)) (I.hok.laid k hp new)
theorem Inv.write{x e:Addr}{o:HO}{t':Nat}(I:Inv X pins σ H s)(mu:Mut (H x))(he:e=x∨H e=some (.own x))(k:∀b u,b≠e→s.heap.get? b=some u→h'.get? b=some u)(heo:∃u,h'.get? e=some u)
  (new:xY X.prog X.w (upd H x o) h' x o):Inv X pins σ (upd H x o) {s with heap:=h',toks:=t'}:=I.un (Un.write mu he k heo) (I.hok.write mu he k heo new)
theorem Inv.weak{σ':List (Option V)}(I:Inv X pins σ H s)(hl:σ'.length=σ.length)(w:∀(i:Nat) v,σ'[i]? =some (some v)→σ[i]? =some (some v)):Inv X pins σ' H s:=
 ⟨I.ok,I.os,I.bare,I.base,let⟨m,hn,hl'⟩:=I.loc;⟨m,hn,fun i x v e1 e2 e3=>hl' i x v e1 (w i v e2) e3⟩,I.cell,I.free,fun x c e=>(I.freeC x c e).imp id fun⟨hf,o,ho,hno⟩=>⟨hf,o,ho,fun z i v e1 k e2=>hno z i v e1 k (w i v e2)⟩,I.pin,I.hok,hl.trans I.len⟩
theorem Inv.pins_of{pins':List (Addr×Obj)}(I:Inv X pins σ H s)(h:∀p∈pins',s.heap.get? p.1=some p.2∧H p.1=none∧p.1≠X.env.locals∧p.1∉X.fs∧∀v,p.2.data≠.cell v):Inv X pins' σ H s:=
 ⟨I.ok,I.os,I.bare,I.base,I.loc,I.cell,I.free,I.freeC,fun p hp=>(bu.mp hp).elim (fun z=>I.pin p (aV _ z)) (h p),I.hok,I.len⟩
theorem je{N:List Str}(hN:N.Nodup){i j:Nat}{x:Str}(a:N[i]? =some x)(b:N[j]? =some x):i=j:=by
 obtain⟨h1,e1⟩:=aB.mp a;obtain⟨h2,e2⟩:=aB.mp b;exact(List.getElem_inj hN).mp (e1.trans e2.symm)
theorem xgz{M:Model}{A:aC}{E:Value→af→Prop}{i:Nat}{x:Str}{v:V}{u:Value}{Q:Unit→af→Prop}(I:Inv X pins σ H s)(hN:X.N.Nodup)(hi:X.N[i]? =some x)(hx:Loc X.env.scope x)(r:RelV v u)
  (h:∀s',Inv X pins (σ.set i (some v)) H s'→(∃a,eD a s.heap s'.heap∧(a=X.env.locals∨X.env.cells.lookup x=some a))→Q () s') (hf:X.fn x=true∨X.env.scope.names.lookup x=some .local:=by first|exact .inl rfl|exact .inr rfl|assumption):wpAny M A (storeName X.env x u) Q E s:=by
 obtain⟨m,hn,hl⟩:=id I.loc;have hcls:(X.env.scope.kind== .class||(X.env.scope.kind== .module&&X.env.locals != X.env.globals))=false:=by rw[I.ok.kind];rfl
 have hiσ:i<σ.length:=by rw[I.len];exact(aB.mp hi).1
 have cne:=I.cne;have tracked:∀{a:Addr} {h':Heap},(∃o,s.heap.get? a=some o∧H a=none)→eD a s.heap h'→HOk X.prog X.w H h':=fun{a h'} ha hs b ob e=>by
  obtain⟨_,_,hfree⟩:=ha;refine(I.hok b ob e).stay (fun c w' hc q=>(hs.2 c ?_).trans q) (fun _ q=>q) fun _ _ q _=>q;rintro rfl;rcases hc with rfl|hc
  ·rw[hfree]at e;cases e
  ·rw[hfree]at hc;cases hc
 rcases hx with hk|hk
 ·refine wpAny_storeName_local hk hn (fun h' hn' hs=>?_) hcls;obtain⟨oL,_,_,hoL,_⟩:=id hn;refine h _ ⟨I.ok,I.os,I.bare,⟨fun b o e n hb hx=>?_,fun b o e n hb hx=>?_,I.base.free,fun b o e hx=>?_,I.base.fix⟩,⟨_,hn',fun j y v' e1 e2 e3=>?_⟩,fun y c e=>?_,I.free,fun y c e=>?_,fun p hp=>?_,tracked ⟨oL,hoL,I.free⟩ hs,by simpa using I.len⟩ ⟨_,hs,.inl rfl⟩
  ·exact(hs.2 b (aE (aD (ax e) I.ok.above))).trans (I.base.keep b o e n hb hx)
  ·obtain⟨sl,e1⟩:=I.base.slot b o e n hb hx;exact⟨sl,(hs.2 b (aE (aD (ax e) I.ok.above))).trans e1⟩
  ·obtain⟨o',e1⟩:=I.base.there b o e hx;exact⟨o',(hs.2 b (aE (aD (ax e) I.ok.above))).trans e1⟩
  ·by_cases hj:j=i
   ·subst hj;rw[hi]at e1;cases e1;rw[bT hiσ]at e2;cases e2;exact⟨u,r,.inl ⟨hk,by simp⟩⟩
   ·rw[bD (ak hj)]at e2;obtain⟨u',r',q⟩:=hl j y v' e1 e2 e3;refine⟨u',r',?_⟩;rcases q with⟨k,e⟩|⟨k,c,e,z⟩
    ·refine .inl ⟨k,?_⟩;have:y≠x:=fun e=>hj (je hN e1 (e▸hi));simp[this,e]
    ·exact .inr ⟨k,c,e,z.sameBut hs (cne y c e)⟩
  ·obtain⟨w',z⟩:=I.cell y c e;exact⟨w',z.sameBut hs (cne y c e)⟩
  ·refine(I.freeC y c e).imp id fun⟨hf',o',ho',hno⟩=>⟨hf',o',ho',fun z j v' e1 k e2=>?_⟩
   by_cases hj:j=i
   ·subst hj;rw[hi]at e1;cases e1;have hk':X.env.kindOf x=some .local:=hk;rw[hk']at k;rcases k with k|k<;> cases k
   ·rw[bD (ak hj)]at e2;exact hno z j v' e1 k e2
  ·obtain⟨e,n,ne,nf,d⟩:=I.pin p hp;exact⟨(hs.2 p.1 ne).trans e,n,ne,nf,d⟩
 ·have hfn:X.fn x=true:=by
   rcases hf with z|z
   ·exact z
   ·rw[z]at hk;cases hk
  obtain⟨c,hc⟩:=I.ok.has x (.inl hk);have hHc:H c=none:=by
   rcases I.freeC x c hc with z|⟨z,_⟩
   ·exact z
   ·rw[hfn]at z;cases z
  obtain⟨w',z⟩:=I.cell x c hc;refine wpAny_storeName_cell I.ok.kind hk hc z (fun h' hc' hs=>?_);obtain⟨oc,hoc,hocd⟩:=id z;refine h {s with heap:=h'} ⟨I.ok,I.os,I.bare,⟨fun b o e n hb hx=>?_,fun b o e n hb hx=>?_,I.base.free,fun b o e hx=>?_,I.base.fix⟩,⟨m,hn.sameBut hs (ak (cne x c hc)),fun j y v' e1 e2 e3=>?_⟩,fun y c' e=>?_,I.free,fun y c' e=>?_,fun p hp=>?_,tracked ⟨oc,hoc,hHc⟩ hs,by simpa using I.len⟩ ⟨c,hs,.inr hc⟩
  ·exact(hs.2 b (aE (aD (ax e) (I.ok.cab x c hfn hc)))).trans (I.base.keep b o e n hb hx)
  ·obtain⟨sl,e1⟩:=I.base.slot b o e n hb hx;exact⟨sl,(hs.2 b (aE (aD (ax e) (I.ok.cab x c hfn hc)))).trans e1⟩
  ·obtain⟨o',e1⟩:=I.base.there b o e hx;exact⟨o',(hs.2 b (aE (aD (ax e) (I.ok.cab x c hfn hc)))).trans e1⟩
  ·by_cases hj:j=i
   ·subst hj;rw[hi]at e1;cases e1;rw[bT hiσ]at e2;cases e2;exact⟨u,r,.inr ⟨.inl hk,c,hc,hc'⟩⟩
   ·rw[bD (ak hj)]at e2;obtain⟨u',r',q⟩:=hl j y v' e1 e2 e3;refine⟨u',r',?_⟩;rcases q with q|⟨k,c',e,z'⟩
    ·exact .inl q
    ·refine .inr ⟨k,c',e,z'.sameBut hs ?_⟩;rintro rfl;exact hj (je hN e1 (I.ok.inj _ _ _ e hc▸hi))
  ·by_cases hcc:c'=c
   ·subst hcc;exact⟨_,hc'⟩
   ·obtain⟨w2,z2⟩:=I.cell y c' e;exact⟨w2,z2.sameBut hs hcc⟩
  ·refine(I.freeC y c' e).imp id fun⟨hf',o',ho',hno⟩=>⟨hf',o',ho',fun z j v' e1 k e2=>?_⟩
   by_cases hj:j=i
   ·subst hj;rw[hi]at e1;cases e1;rw[hfn]at hf';cases hf'
   ·rw[bD (ak hj)]at e2;exact hno z j v' e1 k e2
  ·obtain⟨e,n,ne,nf,d⟩:=I.pin p hp;refine⟨(hs.2 p.1 ?_).trans e,n,ne,nf,d⟩;intro q;rw[q,hoc]at e;have q':oc=p.2:=aX e;exact d w' (by rw[←q'];exact hocd)
theorem xaq{M:Model}{A:aC}{E:Value→af→Prop}{i:Nat}{x:Str}{v:V}{u:Value}{Q:Unit→af→Prop}(I:Inv X pins σ H s)(hN:X.N.Nodup)(hi:X.N[i]? =some x)(hx:Loc X.env.scope x)(r:RelV v u)
  (h:∀s',Inv X pins (σ.set i (some v)) H s'→Q () s') (hf:X.fn x=true∨X.env.scope.names.lookup x=some .local:=by first|exact .inl rfl|exact .inr rfl|assumption):wpAny M A (storeName X.env x u) Q E s:=
 xgz I hN hi hx r (fun s' I' _=>h s' I') hf
theorem Inv.call'{s':af}{ch:List Addr}(I:Inv X pins σ H s)(ho:s'.os=s.os)(u:Un (frs X.stack) ch H H' s.heap s'.heap)(hok:HOk X.prog X.w H' s'.heap)(hg:d8 s'.gens)
  (hch:∀b∈ch,(b∈X.ex∨X.s₀.heap.objs.size≤b)∧b≠X.env.locals∧(∀x c,X.env.cells.lookup x=some c→c≠b)∧∀p∈X.pn++pins,p.1≠b):Inv X pins σ H' s':=by
 obtain⟨h',g',d',t',o'⟩:=s';have e:o'=s.os:=ho;subst e;exact I.call (g':=g') (t':=t') (d':=d') u hok hg hch
end
abbrev XK:=Value→Option Addr→Hp→Prop
abbrev St:=List (Option V)
abbrev VK:=V→Hp→Prop
abbrev TE:=St→Hp→VK→Prop
abbrev TT:=St→Hp→(Bool→Hp→Prop)→Prop
abbrev TA:=St→Hp→(List V→Hp→Prop)→Prop
structure Ends where
 nx:St→Hp→Prop
 rt:VK
 bk:St→Hp→Prop:=fun _ _=>False
 ct:St→Hp→Prop:=fun _ _=>False
abbrev TS:=Ends→St→Hp→Prop
def EP(X:Cx)(pins:List (Addr×Obj))(σ:St)(Q:VK)(u:Value)(s':af):Prop:=∃v H',Inv X pins σ H' s'∧RelV v u∧Q v H'
def TP(X:Cx)(pins:List (Addr×Obj))(σ:St)(Q:Bool→Hp→Prop)(b:Bool)(s':af):Prop:=∃H',Inv X pins σ H' s'∧Q b H'
def AP(X:Cx)(pins:List (Addr×Obj))(σ:St)(Q:List V→Hp→Prop)(us:List Value)(s':af):Prop:=∃vs H',Inv X pins σ H' s'∧Vals vs us∧Q vs H'
def SP(X:Cx)(pins:List (Addr×Obj))(D:Ends)(f:Flow)(s':af):Prop:=
 match f with
 | .next=>∃σ' H',Inv X pins σ' H' s'∧D.nx σ' H'
 | .brk=>∃σ' H',Inv X pins σ' H' s'∧D.bk σ' H'
 | .cont=>∃σ' H',Inv X pins σ' H' s'∧D.ct σ' H'
 | .ret u=>∃v σ' H',Inv X pins σ' H' s'∧RelV v u∧D.rt v H'
def PE(X:Cx)(e:Expr)(t:TE):Prop:=
 ∀(pins:List (Addr×Obj)) (s:af) (σ:St) (H:Hp) (Q:VK),Inv X pins σ H s→t σ H Q→wpAny (model X.prog X.w) X.A (eval e X.env) (EP X pins σ Q) X.xe s
def PT(X:Cx)(e:Expr)(t:TT):Prop:=
 ∀(pins:List (Addr×Obj)) (s:af) (σ:St) (H:Hp) (Q:Bool→Hp→Prop),Inv X pins σ H s→t σ H Q→wpAny (model X.prog X.w) X.A (isTrue e X.env (eval e X.env)) (TP X pins σ Q) X.xe s
def PW(X:Cx)(e:Expr)(t:TT):Prop:=
 ∀(whole:Sem Value) (pins:List (Addr×Obj)) (s:af) (σ:St) (H:Hp) (Q:Bool→Hp→Prop),Inv X pins σ H s→t σ H Q→wpAny (model X.prog X.w) X.A (isTrue e X.env whole) (TP X pins σ Q) X.xe s
theorem PW.pt{X:Cx}{e:Expr}{t:TT}(h:PW X e t):PT X e t:=h _
def PA(X:Cx)(es:List Expr)(t:TA):Prop:=
 ∀(pos:Pos) (pins:List (Addr×Obj)) (s:af) (σ:St) (H:Hp) (Q:List V→Hp→Prop),Inv X pins σ H s→t σ H Q→wpAny (model X.prog X.w) X.A (spliced (bC pos (aA es X.env))) (AP X pins σ Q) X.xe s
def PS(X:Cx)(st:Stmt)(t:TS):Prop:=
 ∀(pins:List (Addr×Obj)) (s:af) (σ:St) (H:Hp) (D:Ends),Inv X pins σ H s→t D σ H→wpAny (model X.prog X.w) X.A (exec st X.env) (SP X pins D) X.xe s
def PSs(X:Cx)(st:List Stmt)(t:TS):Prop:=
 ∀(pins:List (Addr×Obj)) (s:af) (σ:St) (H:Hp) (D:Ends),Inv X pins σ H s→t D σ H→wpAny (model X.prog X.w) X.A (execs st X.env) (SP X pins D) X.xe s
theorem thn{α:Type}{t:Sem α}{Q Q':α→af→Prop}{M:Model}{A:aC}{E:Value→af→Prop}{s:af}(h:wpAny M A t Q E s)(hQ:∀a s,Q a s→Q' a s):wpAny M A t Q' E s:=aG h hQ fun _ _ x=>x
end L2
namespace L2
open PySem PySem.Spec PyProof.Rows
section
variable {X:Cx}
def xoE(i:Nat):TE:=fun σ H Q=>∃v,σ[i]? =some (some v)∧Q v H
def tC(v:V):TE:=fun _ H Q=>Q v H
theorem xhA{i:Nat}{x:Str}{pos:Pos}(hN:X.N[i]? =some x)(hv:Vis X.env.scope x)(hd:(x==("__debug__":Str))=false:=by decide)(hcd:(x==("__classdict__":Str))=false:=by decide):PE X (.Name x pos) (xoE i):=by
 intro pins s σ H Q I h;obtain⟨v,e,h⟩:=h;obtain⟨m,hn,hl⟩:=I.loc;obtain⟨u,r,l⟩:=hl i x v hN e hv;have fin:EP X pins σ Q u s:=⟨v,H,I,r,h⟩;rcases l with⟨hk,hm⟩|⟨hk,c,hc,hcell⟩
 ·exact wpAny_Name (wpAny_loadName_local I.ok.kind hk hn hm fin) hd
 ·rcases hk with hk|hk
  ·exact wpAny_Name (wpAny_loadName_cell I.ok.kind hk hc hcell fin) hd
  ·exact wpAny_Name (wpAny_loadName_free I.ok.kind hk hc hcell fin hcd) hd
theorem xl{i j pos}:PE X (.Constant (.int i) j pos) (tC (.int i)):=fun _ _ _ H _ I h=>wpAny_Constant_int ⟨.int i,H,I.tok _,⟨_,rfl⟩,h⟩
theorem uf{b j pos}:PE X (.Constant (.bool b) j pos) (tC (.bl b)):=fun _ _ _ H _ I h=>Constant_bool ⟨.bl b,H,I,rfl,h⟩
theorem yh{j pos}:PE X (.Constant .none j pos) (tC .non):=fun _ _ _ H _ I h=>f6 ⟨.non,H,I,rfl,h⟩
theorem xv{x j pos}:PE X (.Constant (.str x) j pos) (tC (.str x)):=fun _ _ _ H _ I h=>Calls.Constant_str ⟨.str x,H,I.tok _,⟨_,rfl⟩,h⟩
def Gl(X:Cx)(x:Str):Prop:=X.env.kindOf x=some .globalImplicit
theorem zt{E:Value→af→Prop}{pins:List (Addr×Obj)}{s:af}{σ:St}{H:Hp}{x:Str}{u:Value}{pos:Pos}{Q:Value→af→Prop}(I:Inv X pins σ H s)(hg:Gl X x)(hm:X.mg x=some u)(h:Q u s)
  (hd:(x==("__debug__":Str))=false:=by decide):wpAny (model X.prog X.w) X.A (eval (.Name x pos) X.env) Q E s:=
 f7 I.ok.kind hg (Calls.loadGlobal_global (by rw[I.ok.glob];exact I.mod.glob.keeps I.bk) hm h) hd
theorem ur{E:Value→af→Prop}{pins:List (Addr×Obj)}{s:af}{σ:St}{H:Hp}{x:Str}{u:Value}{pos:Pos}{Q:Value→af→Prop}(I:Inv X pins σ H s)(hg:Gl X x)(hm:X.mg x=none)(hv:bx x=some u)(h:Q u s)
  (hn:x≠"__name__":=by decide) (hd:(x==("__debug__":Str))=false:=by decide):wpAny (model X.prog X.w) X.A (eval (.Name x pos) X.env) Q E s:=by
 obtain⟨mb,h1,h2⟩:=I.mod.blt;exact f7 I.ok.kind hg (Calls.loadGlobal_builtin (by rw[I.ok.glob];exact I.mod.glob.keeps I.bk) hm (by rw[I.ok.blt];exact h1.keeps I.bk) ((h2 x hn).trans hv) h) hd
theorem xdS{x:Str}{v:V}{u:Value}{pos:Pos}(hg:Gl X x)(hm:X.mg x=some u)(r:RelV v u)(hd:(x==("__debug__":Str))=false:=by decide):PE X (.Name x pos) (tC v):=
 fun _ _ _ H _ I h=>zt I hg hm ⟨v,H,I,r,h⟩ hd
theorem xbJ{x:Str}{v:V}{u:Value}{pos:Pos}(hg:Gl X x)(hm:X.mg x=none)(hv:bx x=some u)(r:RelV v u)(hn:x≠"__name__":=by decide)(hd:(x==("__debug__":Str))=false:=by decide):PE X (.Name x pos) (tC v):=
 fun _ _ _ H _ I h=>ur I hg hm hv ⟨v,H,I,r,h⟩ hn hd
variable {a b:Expr} {ta tb:TE} {pos:Pos}
def PC(X:Cx)(op:CmpOp)(a b:Expr)(t:TE):Prop:=
 ∀(pins:List (Addr×Obj)) (s:af) (σ:St) (H:Hp) (Q:VK),Inv X pins σ H s→t σ H Q→
  wpAny (model X.prog X.w) X.A (eval a X.env) (fun v s₁=>wpAny (model X.prog X.w) X.A (eval b X.env) (fun u s₂=>wpAny (model X.prog X.w) X.A (bE op v u) (EP X pins σ Q) X.xe s₂) X.xe s₁) X.xe s
theorem xlV(b:Expr){op:CmpOp}(h:op≠.In)(h2:op≠.NotIn):cA op b=false:=by
 have e1:(op==CmpOp.In)=false:=by cases op<;> first|rfl|exact absurd rfl h
 have e2:(op==CmpOp.NotIn)=false:=by cases op<;> first|rfl|exact absurd rfl h2
 cases b<;> simp[cA,e1,e2]
def xqs(ta:TE):TE:=fun σ H Q=>ta σ H fun x H1=>Q (.bl (decide (x= .non))) H1
def xpJ(ta:TE):TE:=fun σ H Q=>ta σ H fun x H1=>Q (.bl (!decide (x= .non))) H1
theorem RelV.none_iff{x:V}{v:Value}(r:RelV x v):(v==aS)=decide (x= .non):=by
 cases x with
 |non=>cases r;rfl
 |bl _=>cases r;rfl
 |int _=>obtain⟨t,rfl⟩:=r;rfl
 |str _=>obtain⟨t,rfl⟩:=r;rfl
 |byt _=>obtain⟨t,rfl⟩:=r;rfl
 |flt _=>obtain⟨t,rfl⟩:=r;rfl
 |ref _=>cases r;rfl
 |ty _=>cases r;rfl
theorem xoF{j pos'}(ha:PE X a ta):PC X .Is a (.Constant .none j pos') (xqs ta):=by
 intro pins s σ H Q I h;refine thn (ha pins s σ H _ I h) fun v s1 ⟨x,H1,I1,r1,q1⟩=>?_;exact f6 (is_none_gen ⟨.bl _,H1,I1,by rw[r1.none_iff];rfl,q1⟩)
theorem xnd{j pos'}(ha:PE X a ta):PC X .IsNot a (.Constant .none j pos') (xpJ ta):=by
 intro pins s σ H Q I h;refine thn (ha pins s σ H _ I h) fun v s1 ⟨x,H1,I1,r1,q1⟩=>?_;exact f6 (isnot_none_gen ⟨.bl _,H1,I1,by rw[r1.none_iff];rfl,q1⟩)
def tB(t:TE):TT:=fun σ H Q=>t σ H fun x H1=>∃c,x= .bl c∧Q c H1
theorem xkK{op:CmpOp}{t:TE}(h:PC X op a b t)(h1:cA op b=false:=by first|exact xlV _ (by decide) (by decide)|rfl):PT X (.Compare a [op] [b] pos) (tB t):=by
 intro pins s σ H Q I hw;refine ff (thn (h pins s σ H _ I hw) fun v s1 h1=>thn h1 fun u s2 h2=>thn h2 fun c s3 ⟨x,H1,I1,r1,q1⟩=>?_) h1;obtain⟨d,rfl,q⟩:=q1;cases r1;exact bZ ⟨H1,I1,q⟩
variable {tA tB':TT} {rest:List Expr}
def xqt(t:TT):TT:=fun σ H Q=>t σ H fun c H1=>Q (!c) H1
theorem xfZ(ha:PT X a tA):PW X (.BoolOp .And [a] pos) tA:=by
 intro wh pins s σ H Q I h;refine isTrue_and (thn (ha pins s σ H Q I h) fun c s1 e=>?_);cases c with
 |true=>exact isTrue_and_nil e
 |false=>exact e
theorem uW(ha:PT X a tA):PW X (.BoolOp .Or [a] pos) tA:=by
 intro wh pins s σ H Q I h;refine isTrue_or (thn (ha pins s σ H Q I h) fun c s1 e=>?_);cases c with
 |false=>exact isTrue_or_nil e
 |true=>exact e
theorem xc5(ha:PT X a tA):PT X (.UnaryOp .Not a pos) (xqt tA):=by
 intro pins s σ H Q I h;exact isTrue_not (ha pins s σ H (fun c H1=>Q (!c) H1) I h)
theorem vF{op}{t:TE}(h:PE X a t):PE X (.BoolOp op [a] pos) t:=fun pins s σ H Q I hw=>BoolOp_one (h pins s σ H Q I hw)
end
end L2
namespace L2
open PySem PySem.Spec PyProof.Rows
def SqL(K:ag)(H:Hp)(a:Addr)(xs:List V):Prop:=
 Rd H a (.lst xs)∨
  ∃(o:Obj) (its:Array Value) (n:Nat),K.lookup a=some o∧o.cls= .type "list"∧o.dict=none∧o.data= .seq its n∧its.size≤aF∧Vals xs its.toList
def SqT(K:ag)(H:Hp)(a:Addr)(xs:List V):Prop:=
 Rd H a (.tup xs)∨
  ∃(o:Obj) (its:Array Value) (n:Nat),K.lookup a=some o∧o.cls= .type "tuple"∧o.data= .seq its n∧its.size≤aF∧Vals xs its.toList
def xqu:Value→Option V
 | .none=>some .non
 | .bool b=>some (.bl b)
 | .int i _=>some (.int i)
 | .str x _=>some (.str x)
 | .bytes b _=>some (.byt b)
 | .float b _=>some (.flt b)
 | .ref a=>some (.ref a)
 | .type n=>some (.ty n)
 |_=>none
theorem RelV.abs{x:V}{u:Value}(r:RelV x u):xqu u=some x:=by
 cases x with
 |non=>cases r;rfl
 |bl _=>cases r;rfl
 |int _=>obtain⟨t,rfl⟩:=r;rfl
 |str _=>obtain⟨t,rfl⟩:=r;rfl
 |byt _=>obtain⟨t,rfl⟩:=r;rfl
 |flt _=>obtain⟨t,rfl⟩:=r;rfl
 |ref _=>cases r;rfl
 |ty _=>cases r;rfl
theorem RelV.inj{x y:V}{u:Value}(r:RelV x u)(q:RelV y u):x=y:=aX (r.abs.symm.trans q.abs)
theorem Vals.inj:∀{xs ys:List V} {us:List Value},Vals xs us→Vals ys us→xs=ys
 |_,_,_,.nil,.nil=>rfl
 |_,_,_,.cons r t,.cons r' t'=>by rw[r.inj r',Vals.inj t t']
section
variable {X:Cx} {pins:List (Addr×Obj)} {σ:St} {H:Hp} {s:af} {a:Addr} {xs ys:List V}
theorem SqL.of{K:ag}(h:H a=some (.lst xs)):SqL K H a xs:=.inl (.inl h)
theorem SqT.of{K:ag}(h:H a=some (.tup xs)):SqT K H a xs:=.inl (.inl h)
theorem Inv.list(I:Inv X pins σ H s)(h:SqL X.K H a xs):∃its:List Value,Vals xs its∧PlainL s.heap a its.toArray∧xs.length≤aF:=by
 rcases h with h|⟨o,its,n,hk,hc,hd,hs,hz,r⟩
 ·obtain⟨z,its,n,r,e⟩:=h.ok I.hok;exact⟨its,r,⟨_,n,e,rfl,rfl,rfl⟩,z⟩
 ·refine⟨its.toList,r,⟨o,n,I.kIn a o hk,hc,hd,by simpa using hs⟩,?_⟩;have e:=r.length;simp only[cC]at e;lia
theorem Inv.tuple(I:Inv X pins σ H s)(h:SqT X.K H a xs):∃its:List Value,Vals xs its∧IsTup s.heap a its.toArray∧xs.length≤aF:=by
 rcases h with h|⟨o,its,n,hk,hc,hs,hz,r⟩
 ·obtain⟨z,its,r,p⟩:=h.ok I.hok;exact⟨its,r,p,z⟩
 ·refine⟨its.toList,r,⟨o,I.kIn a o hk,hc,n,by simpa using hs⟩,?_⟩;have e:=r.length;simp only[cC]at e;lia
theorem Inv.list_inj(I:Inv X pins σ H s)(h:SqL X.K H a xs)(h':SqL X.K H a ys):xs=ys:=by
 obtain⟨its,r,⟨o,n,e,_,_,d⟩,_⟩:=I.list h;obtain⟨its',r',⟨o',n',e',_,_,d'⟩,_⟩:=I.list h';rw[e]at e';cases e';rw[d]at d';injection d' with d1 _;have:its=its':=by simpa using congrArg Array.toList d1
 subst this;exact r.inj r'
theorem Inv.tuple_inj(I:Inv X pins σ H s)(h:SqT X.K H a xs)(h':SqT X.K H a ys):xs=ys:=by
 obtain⟨its,r,⟨o,e,_,n,d⟩,_⟩:=I.tuple h;obtain⟨its',r',⟨o',e',_,n',d'⟩,_⟩:=I.tuple h';rw[e]at e';cases e';rw[d]at d';injection d' with d1 _;have:its=its':=by simpa using congrArg Array.toList d1
 subst this;exact r.inj r'
end
abbrev Cx.wish(X:Cx)(E:Value→af→Prop):Cx:={X with xe:=E}
abbrev Cx.nox(X:Cx):Cx:=X.wish fun _ _=>False
theorem Cx.Ok.wish{X:Cx}(ok:X.Ok)(E:Value→af→Prop):(X.wish E).Ok:=
 ⟨ok.mod,ok.kind,ok.glob,ok.blt,ok.above,ok.inj,ok.has,ok.cab,ok.hd,ok.frames,ok.stk,ok.exf,ok.bs,ok.bsz,ok.noex,ok.exfs,ok.funs,ok.frf,ok.cab2,ok.hz⟩
theorem Cx.Ok.unwish{X:Cx}{E:Value→af→Prop}(ok:(X.wish E).Ok):X.Ok:=
 ⟨ok.mod,ok.kind,ok.glob,ok.blt,ok.above,ok.inj,ok.has,ok.cab,ok.hd,ok.frames,ok.stk,ok.exf,ok.bs,ok.bsz,ok.noex,ok.exfs,ok.funs,ok.frf,ok.cab2,ok.hz⟩
section
variable {X:Cx} {pins:List (Addr×Obj)} {σ:St} {H:Hp} {s:af} {E:Value→af→Prop}
theorem Inv.wish(I:Inv X pins σ H s)(E:Value→af→Prop):Inv (X.wish E) pins σ H s:=⟨I.ok.wish E,I.os,I.bare,I.base,I.loc,I.cell,I.free,I.freeC,I.pin,I.hok,I.len⟩
theorem Inv.unwish(I:Inv (X.wish E) pins σ H s):Inv X pins σ H s:=⟨I.ok.unwish,I.os,I.bare,I.base,I.loc,I.cell,I.free,I.freeC,I.pin,I.hok,I.len⟩
theorem SP.unwish{D:Ends}{f:Flow}{s':af}(h:SP (X.wish E) pins D f s'):SP X pins D f s':=by
 cases f with
 |next=>obtain⟨σ',H',I,q⟩:=h;exact⟨σ',H',I.unwish,q⟩
 |brk=>obtain⟨σ',H',I,q⟩:=h;exact⟨σ',H',I.unwish,q⟩
 |cont=>obtain⟨σ',H',I,q⟩:=h;exact⟨σ',H',I.unwish,q⟩
 |ret u=>obtain⟨v,σ',H',I,r,q⟩:=h;exact⟨v,σ',H',I.unwish,r,q⟩
theorem PSs.nox{st:List Stmt}{t:TS}(h:PSs X.nox st t):PSs X st t:=fun pins s σ H D I hw=>
 aG (h pins s σ H D (I.wish _) hw) (fun _ _ q=>q.unwish) fun _ _ z=>aT z
end
section
variable {X:Cx} {st:Stmt} {rest:List Stmt} {t u:TS} {e:Expr} {te:TE} {pos:Pos}
def xpK:TS:=fun D σ H=>D.nx σ H
def xqv(t u:TS):TS:=fun D σ H=>t {D with nx:=u D} σ H
theorem xt:PSs X [] xpK:=fun _ _ σ H _ I h=>dA ⟨σ,H,I,h⟩
theorem xf(h1:PS X st t)(h2:PSs X rest u):PSs X (st::rest) (xqv t u):=by
 intro pins s σ H D I h;refine eV (thn (h1 pins s σ H {D with nx:=u D} I h) fun f s1 q=>?_);cases f with
 |next=>
  obtain⟨σ',H',I',q⟩:=q;exact h2 pins s1 σ' H' D I' q
 |ret v=>exact q
 |brk=>exact q
 |cont=>exact q
theorem xk(h1:PS X st t):PSs X [st] t:=by
 intro pins s σ H D I h;refine eV (thn (h1 pins s σ H D I h) fun f s1 q=>?_);cases f with
 |next=>exact dA q
 |ret v=>exact q
 |brk=>exact q
 |cont=>exact q
theorem Inv.quiet{pins:List (Addr×Obj)}{σ:St}{H:Hp}{s:af}(I:Inv X pins σ H s):interactive X.env=false:=by simp[interactive,I.ok.kind]
def xpL(te:TE):TS:=fun D σ H=>te σ H fun _ H1=>D.nx σ H1
theorem xR(he:PE X e te)(hs:eE e none pos.line X.env=pure false:=by rfl):PS X (.Expr e pos) (xpL te):=by
 intro pins s σ H D I h;exact wpAny_Expr_any (thn (he pins s σ H _ I h) fun v s1 ⟨x,H1,I1,r1,q1⟩=>⟨σ,H1,I1,q1⟩) I.quiet hs
def xqw(te:TE):TS:=fun D σ H=>te σ H D.rt
theorem xr(he:PE X e te):PS X (.Return (some e) pos) (xqw te):=by
 intro pins s σ H D I h;exact wpAny_Return_some (thn (he pins s σ H _ I h) fun v s1 ⟨x,H1,I1,r1,q1⟩=>⟨x,σ,H1,I1,r1,q1⟩)
def xpM:TS:=fun D _ H=>D.rt .non H
theorem xne:PS X (.Return none pos) xpM:=fun _ _ σ H _ I h=>wpAny_Return_none ⟨.non,σ,H,I,rfl,h⟩
end
abbrev TG:=V→St→Hp→(St→Hp→Prop)→Prop
abbrev TGs:=List V→St→Hp→(St→Hp→Prop)→Prop
def PG(X:Cx)(target:Expr)(t:TG):Prop:=
 ∀(pins:List (Addr×Obj)) (s:af) (σ:St) (H:Hp) (v:V) (u:Value) (Q:St→Hp→Prop),Inv X pins σ H s→RelV v u→t v σ H Q→
  wpAny (model X.prog X.w) X.A (fS target X.env u) (fun _ s'=>∃σ' H',Inv X pins σ' H' s'∧Q σ' H') X.xe s
def PGs(X:Cx)(ts:List Expr)(t:TGs):Prop:=
 ∀(pins:List (Addr×Obj)) (s:af) (σ:St) (H:Hp) (vs:List V) (us:List Value) (Q:St→Hp→Prop),Inv X pins σ H s→Vals vs us→t vs σ H Q→
  wpAny (model X.prog X.w) X.A (assignInOrder ((fw ts X.env).map (·.2)) us) (fun _ s'=>∃σ' H',Inv X pins σ' H' s'∧Q σ' H') X.xe s
abbrev xlW:=V→V→V→Hp→(Hp→Prop)→Prop
def xlX(X:Cx)(t:xlW):Prop:=
 ∀(pins:List (Addr×Obj)) (s:af) (σ:St) (H:Hp) (o i v:V) (ov iv u:Value) (Q:Hp→Prop),Inv X pins σ H s→RelV o ov→RelV i iv→RelV v u→t o i v H Q→
  wpAny (model X.prog X.w) X.A (setItem ov iv u) (fun _ s'=>∃H',Inv X pins σ H' s'∧Q H') X.xe s
section
variable {X:Cx} {pos:Pos}
def xhs(i:Nat):TG:=fun v σ H Q=>Q (σ.set i (some v)) H
theorem xF{i:Nat}{x:Str}(hN:X.N.Nodup)(hi:X.N[i]? =some x)(hx:Loc X.env.scope x)(hf:X.fn x=true∨X.env.scope.names.lookup x=some .local:=by first|exact .inl rfl|exact .inr rfl|assumption):PG X (.Name x pos) (xhs i):=by
 intro pins s σ H v u Q I r h;exact gc (xaq I hN hi hx r (fun s' I'=>⟨_,H,I',h⟩) hf)
def xqx:TGs:=fun vs σ H Q=>vs=[]∧Q σ H
def xpN(t:TG)(u:TGs):TGs:=fun vs σ H Q=>∃v r,vs=v::r∧t v σ H fun σ' H'=>u r σ' H' Q
theorem zu:PGs X [] xqx:=by
 intro pins s σ H vs us Q I r h;obtain⟨e,h⟩:=h;subst e;cases r;exact assignInOrder_nil ⟨σ,H,I,h⟩
theorem xK{e:Expr}{es:List Expr}{t:TG}{u:TGs}(h1:PG X e t)(h2:PGs X es u)
  (hs:(fw (e::es) X.env).map (·.2)=fS e X.env::(fw es X.env).map (·.2):=by rfl):PGs X (e::es) (xpN t u):=by
 intro pins s σ H vs us Q I r h;obtain⟨v,vr,e1,h⟩:=h;subst e1;cases r with
 |cons r rr=>
  rw[hs];refine assignInOrder_cons (thn (h1 pins s σ H _ _ _ I r h) fun _ s1 ⟨σ1,H1,I1,q1⟩=>?_);exact h2 pins s1 σ1 H1 _ _ Q I1 rr q1
def xqy(K:ag)(n:Nat)(t:TGs):TG:=fun v σ H Q=>∃a xs,v= .ref a∧SqT K H a xs∧xs.length=n∧t xs σ H Q
theorem uu{es:List Expr}{k:Nat}{t:TGs}{n:Nat}(hc:X.calm=true)(h:PGs X es t)
  (hn:(fw es X.env).length=n:=by rfl) (hst:(fw es X.env).findIdx? (·.1)=none:=by rfl):PG X (.Tuple es k pos) (xqy X.K n t):=by
 intro pins s σ H v u Q I r hw;obtain⟨a,xs,e1,hq,hl,hw⟩:=hw;subst e1;cases r;obtain⟨its,rv,ht,hz⟩:=I.tuple hq;refine assign_Tuple_tuple (I.ok.hd hc) ht (by simp[hn,←hl,rv.length]) hst fun h' hx=>?_;have I1:Inv X pins σ H {s with heap:=h'}:=I.kept (t':=s.toks) fun b o e=>hx b o (aE (ax e)) e;exact h pins _ σ H xs _ Q I1 (by simpa using rv) hw
def xqz(to ti:TE)(t:xlW):TG:=fun v σ H Q=>to σ H fun o H1=>ti σ H1 fun i H2=>t o i v H2 fun H3=>Q σ H3
theorem xkL{o i:Expr}{to ti:TE}{t:xlW}(ho:PE X o to)(hi:PE X i ti)(hs:xlX X t)
  (ha:∀v,fS (.Subscript o i pos) X.env v=(do
   let ov ←dN [v] (eval o X.env)
   let iv ←dN [v,ov] (eval i X.env)
   fg pos
   dN [v,ov,iv] (setItem ov iv v)
   release [v,ov,iv] []):=by intro _;rfl):PG X (.Subscript o i pos) (xqz to ti t):=by
 intro pins s σ H v u Q I r h;rw[ha];refine aa (bt (thn (ho pins s σ H _ I h) fun ov s1 ⟨x,H1,I1,r1,q1⟩=>?_));refine aa (bt (thn (hi pins s1 σ H1 _ I1 q1) fun iv s2 ⟨y,H2,I2,r2,q2⟩=>?_));refine aa (bP (aa (bt (thn (hs pins s2 σ H2 x y v ov iv u _ I2 r1 r2 r q2) fun _ s3 ⟨H3,I3,q3⟩=>?_))));exact wpAny_release ⟨σ,H3,I3,q3⟩
def xlY(te:TE)(g:TG):TS:=fun D σ H=>te σ H fun x H1=>g x σ H1 D.nx
theorem jx{tg e:Expr}{te:TE}{g:TG}(he:PE X e te)(hg:PG X tg g)(hs:swapsWithSole [tg] e pos.line X.env=pure false:=by rfl)(hw:swappedStores [tg] e X.env=pure none:=by rfl)
  (h1:(fw [tg] X.env).map (·.2)=[fS tg X.env]:=by rfl):PS X (.Assign [tg] e pos) (xlY te g):=by
 intro pins s σ H D I h;refine wpAny_Assign_stores (thn (he pins s σ H _ I h) fun v s1 ⟨x,H1,I1,r1,q1⟩=>?_) hs hw;rw[h1];exact thn (hg pins s1 σ H1 x v _ I1 r1 q1) fun _ s2 q=>q
theorem xx{i:Nat}{x:Str}{e:Expr}{te:TE}{pos':Pos}(hN:X.N.Nodup)(hi:X.N[i]? =some x)(hx:Loc X.env.scope x)(he:PE X e te)(hs:eE e (some (.Name x pos')) pos.line X.env=pure false:=by rfl)(hf:X.fn x=true∨X.env.scope.names.lookup x=some .local:=by first|exact .inl rfl|exact .inr rfl|assumption):
  PS X (.Assign [.Name x pos'] e pos) (xlY te (xhs i)):=by
 intro pins s σ H D I h;refine wpAny_Assign_Name (thn (he pins s σ H _ I h) fun v s1 ⟨y,H1,I1,r1,q1⟩=>?_) hs;exact xaq I1 hN hi hx r1 (fun s2 I2=>⟨_,H1,I2,q1⟩) hf
end
section
variable {X:Cx} {pos:Pos}
end
structure It where
 go:Nat→Hp→Prop
 yld:Nat→Hp→V→Hp→Prop
 stop:Nat→Hp→Prop
def xbl(X:Cx)(pins:List (Addr×Obj))(H:Hp)(b:Addr):Prop:=
 H b=none∧b≠X.env.locals∧b∉X.fs∧(b∈X.ex∨X.s₀.heap.objs.size≤b)∧(∀x c,X.env.cells.lookup x=some c→c≠b)∧∀p∈X.pn++pins,p.1≠b
theorem Inv.fpOk{X:Cx}{pins:List (Addr×Obj)}{σ:St}{H H':Hp}{s:af}{b:Addr}(I:Inv X pins σ H s)(hb:s.heap.objs.size≤b)(hn:H' b=none):xbl X pins H' b:=by
 refine⟨hn,dO (aD I.lt hb),I.nofs hb,.inr (bp I.sz hb),fun x c e z=>?_,fun p hp z=>?_⟩
 ·obtain⟨v,q⟩:=I.cell x c e;exact absurd (aD q.lt (by rw[z];exact hb)) (bO _)
 ·exact absurd (aD (ax (I.pin p hp).1) (by rw[z];exact hb)) (bO _)
structure Turn(P:ai)(w:World)(K:ag)(tg:Expr)(J:It)(fp:List Addr)(it:Addr)(tn:Nat→Heap→Prop):Prop where
 mem:it∈fp
 obj:∀i h,tn i h→∀b∈fp,∃o,h.get? b=some o∧∀v,o.data≠.cell v
 keep:∀i h h',tn i h→(∀b∈fp,∀o,h.get? b=some o→h'.get? b=some o)→tn i h'
 item:∀(X:Cx),X.prog=P→X.w=w→X.K=K→X.calm=true→∀(i:Nat) (pins:List (Addr×Obj)) (s:af) (σ:St) (H:Hp) (E:Value→af→Prop),Inv X pins σ H s→(∀b∈fp,xbl X pins H b)→tn i s.heap→J.go i H→
  wpAny (model P w) X.A (pyNext (.ref it)) (fun r s1=>∃u,r=some u∧
   wpAny (model P w) X.A (fx tg (.ref it) u) (fun _ s2=>∃x H',Inv X pins σ H' s2∧RelV x u∧J.yld i H x H'∧tn (i+1) s2.heap∧∀b∈fp,H' b=none) E s1) E s
 done:∀(X:Cx),X.prog=P→X.w=w→X.K=K→X.calm=true→∀(i:Nat) (pins:List (Addr×Obj)) (s:af) (σ:St) (H:Hp) (E:Value→af→Prop),Inv X pins σ H s→(∀b∈fp,xbl X pins H b)→tn i s.heap→J.stop i H→
  wpAny (model P w) X.A (pyNext (.ref it)) (fun r s1=>r=none∧Inv X pins σ H s1) E s
 self:∀(A:aC) (i:Nat) (s:af) (Q:Value→af→Prop) (E:Value→af→Prop),tn i s.heap→Q (.ref it) s→wpAny (model P w) A (pyIter (.ref it)) Q E s
abbrev TI:=St→Hp→(It→Hp→Prop)→Prop
def PIE(X:Cx)(pins:List (Addr×Obj))(σ:St)(tg:Expr)(R:It→Hp→Prop)(itv:Value)(s2:af):Prop:=
 ∃(it:Addr) (fp:List Addr) (tn:Nat→Heap→Prop) (J:It) (H':Hp),itv= .ref it∧Inv X pins σ H' s2∧Turn X.prog X.w X.K tg J fp it tn∧tn 0 s2.heap∧(∀b∈fp,xbl X pins H' b)∧R J H'
def PI(X:Cx)(tg iter:Expr)(wi:TI):Prop:=
 ∀(pins:List (Addr×Obj)) (s:af) (σ:St) (H:Hp) (R:It→Hp→Prop),Inv X pins σ H s→wi σ H R→
  wpAny (model X.prog X.w) X.A (eval iter X.env) (fun v s1=>wpAny (model X.prog X.w) X.A (pyIter v) (PIE X pins σ tg R) X.xe s1) X.xe s
theorem xht{M:Model}{A:aC}{E:Value→af→Prop}{s:af}{tg:Expr}{it:Addr}{u:Value}{o:Obj}{n:String}{vs:Array Value}{Q:Unit→af→Prop}(ho:s.heap.get? it=some o)(hc:o.cls= .type n)(hd:o.data= .fields vs)
  (hn:["enumerate","zip","dict_itemiterator","dict_reverseitemiterator","odict_iterator","itertools.zip_longest","itertools.pairwise"].contains n=false) (hQ:Q () s):wpAny M A (fx tg (.ref it) u) Q E s:=by
 unfold fx;cases tg<;> first
  |exact ao hQ
  |(cases u<;> first
    |exact ao hQ
    |(refine aa (wpAny_load ho ?_)
      rw[hc,hd];show wpAny M A (if (["enumerate","zip","dict_itemiterator","dict_reverseitemiterator","odict_iterator","itertools.zip_longest","itertools.pairwise"].contains n&&vs[0]? ==some (bc _))=true then _ else _) Q E s;rw[if_neg (by intro h;rw[hn,Bool.false_and]at h;cases h)];exact ao hQ))
def Itl(K:ag)(a:Addr):It:=
 ⟨fun i H=>∃xs x,SqL K H a xs∧xs[i]? =some x,fun i H x H'=>H'=H∧∀xs,SqL K H a xs→xs[i]? =some x,fun i H=>∃xs,SqL K H a xs∧xs.length≤i⟩
def Itt(K:ag)(a:Addr):It:=
 ⟨fun i H=>∃xs x,SqT K H a xs∧xs[i]? =some x,fun i H x H'=>H'=H∧∀xs,SqT K H a xs→xs[i]? =some x,fun i H=>∃xs,SqT K H a xs∧xs.length≤i⟩
theorem xkM{P:ai}{w:World}{K:ag}{tg:Expr}(a it:Addr):Turn P w K tg (Itl K a) [it] it (fun i h=>h.IsListIter it a i) where
 mem:=by simp
 obj:=fun i h st b hb=>by
  have e:b=it:=by simpa using hb
  subst e;obtain⟨o,e,c,d⟩:=st;exact⟨o,e,fun v z=>by rw[d]at z;cases z⟩
 keep:=fun i h h' st k=>st.at fun o e=>k it (by simp) o e
 item:=by
  intro X hP hw hK hc i pins s σ H E I hf st hg;subst hP hw hK;obtain⟨xs,x,hq,hx⟩:=hg;obtain⟨its,rv,p,hz⟩:=I.list hq;obtain⟨u,hu,ru⟩:=rv.get hx;obtain⟨f0,f1,f2,f3,f4,f5⟩:=hf it (by simp);refine wpAny_pyNext_list_item st p.isList (x:=u) (by simpa using hu) fun h' st' sb=>?_;have I1:Inv X pins σ H {s with heap:=h'}:=I.turned (t':=s.toks) (fun b o hb e=>(sb.2 b hb).trans e) f0 f1 f3 f4 f5;obtain⟨o,e,c,d⟩:=id st';exact⟨u,rfl,xht (s:={s with heap:=h'}) e c d (by decide) ⟨x,H,I1,ru,⟨rfl,fun ys hy=>by rw[I.list_inj hy hq];exact hx⟩,st',fun b hb=>(hf b hb).1⟩⟩
 done:=by
  intro X hP hw hK hc i pins s σ H E I hf st hg;subst hP hw hK;obtain⟨xs,hq,hx⟩:=hg;obtain⟨its,rv,p,hz⟩:=I.list hq;obtain⟨f0,f1,f2,f3,f4,f5⟩:=hf it (by simp);have hl:=rv.length;exact wpAny_pyNext_list_end (I.ok.hd hc) st p.isList (by simp;lia) fun h' eb=>⟨rfl,I.turned (t':=s.toks) (fun b o hb e=>eb b o hb e) f0 f1 f3 f4 f5⟩
 self:=fun _ _ _ _ _ st h=>wpAny_pyIter_listiter st h
theorem xjI{P:ai}{w:World}{K:ag}{tg:Expr}(a it:Addr):Turn P w K tg (Itt K a) [it] it (fun i h=>h.IsTupleIter it a i) where
 mem:=by simp
 obj:=fun i h st b hb=>by
  have e:b=it:=by simpa using hb
  subst e;obtain⟨o,e,c,d⟩:=st;exact⟨o,e,fun v z=>by rw[d]at z;cases z⟩
 keep:=fun i h h' st k=>st.at fun o e=>k it (by simp) o e
 item:=by
  intro X hP hw hK hc i pins s σ H E I hf st hg;subst hP hw hK;obtain⟨xs,x,hq,hx⟩:=hg;obtain⟨its,rv,p,hz⟩:=I.tuple hq;obtain⟨u,hu,ru⟩:=rv.get hx;obtain⟨f0,f1,f2,f3,f4,f5⟩:=hf it (by simp);refine wpAny_pyNext_tuple_item st (show s.heap.IsTuple a its.toArray from p) (x:=u) (by simpa using hu) fun h' st' sb=>?_;have I1:Inv X pins σ H {s with heap:=h'}:=I.turned (t':=s.toks) (fun b o hb e=>(sb.2 b hb).trans e) f0 f1 f3 f4 f5;obtain⟨o,e,c,d⟩:=id st';exact⟨u,rfl,xht (s:={s with heap:=h'}) e c d (by decide) ⟨x,H,I1,ru,⟨rfl,fun ys hy=>by rw[I.tuple_inj hy hq];exact hx⟩,st',fun b hb=>(hf b hb).1⟩⟩
 done:=by
  intro X hP hw hK hc i pins s σ H E I hf st hg;subst hP hw hK;obtain⟨xs,hq,hx⟩:=hg;obtain⟨its,rv,p,hz⟩:=I.tuple hq;obtain⟨f0,f1,f2,f3,f4,f5⟩:=hf it (by simp);have hl:=rv.length;exact wpAny_pyNext_tuple_end (I.ok.hd hc) st (show s.heap.IsTuple a its.toArray from p) (by simp;lia) fun h' eb=>⟨rfl,I.turned (t':=s.toks) (fun b o hb e=>eb b o hb e) f0 f1 f3 f4 f5⟩
 self:=fun _ _ _ _ _ st h=>wpAny_pyIter_tupleiter st h
end L2
namespace L2
open PySem PySem.Spec PyProof.Rows
section
variable {X:Cx} {tg:Expr}
def xpO(K:ag)(tl:TE):TI:=fun σ H R=>tl σ H fun x H1=>∃a,x= .ref a∧(∃xs,SqL K H1 a xs)∧R (Itl K a) H1
def xqA(K:ag)(tl:TE):TI:=fun σ H R=>tl σ H fun x H1=>∃a,x= .ref a∧(∃xs,SqT K H1 a xs)∧R (Itt K a) H1
theorem zv{l:Expr}{tl:TE}(hl:PE X l tl):PI X tg l (xpO X.K tl):=by
 intro pins s σ H R I h;refine thn (hl pins s σ H _ I h) fun v s1 ⟨x,H1,I1,r1,q1⟩=>?_;obtain⟨a,e,⟨xs,hq⟩,q⟩:=q1;subst e;cases r1;obtain⟨its,rv,p,hz⟩:=I1.list hq;refine eM p.isList ?_;refine⟨s1.heap.objs.size,[s1.heap.objs.size],_,_,H1,rfl,I1.kept (t':=s1.toks) fun b o e=>ah _ e,xkM a _,⟨_,aK _ rfl,rfl,rfl⟩,fun b hb=>?_,q⟩;have e:b=s1.heap.objs.size:=by simpa using hb
 subst e;exact I1.fpOk (av _) (I1.hok.fresh (av _))
theorem xhB{l:Expr}{tl:TE}(hl:PE X l tl):PI X tg l (xqA X.K tl):=by
 intro pins s σ H R I h;refine thn (hl pins s σ H _ I h) fun v s1 ⟨x,H1,I1,r1,q1⟩=>?_;obtain⟨a,e,⟨xs,hq⟩,q⟩:=q1;subst e;cases r1;obtain⟨its,rv,p,hz⟩:=I1.tuple hq;refine fT (show s1.heap.IsTuple a its.toArray from p) ?_;refine⟨s1.heap.objs.size,[s1.heap.objs.size],_,_,H1,rfl,I1.kept (t':=s1.toks) fun b o e=>ah _ e,xjI a _,⟨_,aK _ rfl,rfl,rfl⟩,fun b hb=>?_,q⟩;have e:b=s1.heap.objs.size:=by simpa using hb
 subst e;exact I1.fpOk (av _) (I1.hok.fresh (av _))
def xlZ(wi:TI)(g:TG)(tb:TS):TS:=fun D σ H=>wi σ H fun J H1=>∃W:Nat→Nat→St→Hp→Prop,(∃m,W 0 m σ H1)∧∀i m σ H,W i m σ H→
 (J.stop i H∧D.nx σ H)∨(J.go i H∧∃N:St→Hp→Prop,(∀σ' H',N σ' H'→∃m',m'<m∧W (i+1) m' σ' H')∧∀x H',J.yld i H x H'→g x σ H' fun σ2 H2=>tb {D with nx:=N,ct:=N,bk:=D.nx} σ2 H2)
def xar(fp:List Addr)(h:Heap):List (Addr×Obj):=fp.filterMap fun b=>(h.get? b).map fun o=>(b,o)
theorem xah{fp:List Addr}{h:Heap}{b:Addr}{o:Obj}(hb:b∈fp)(e:h.get? b=some o):(b,o)∈xar fp h:=fU.mpr ⟨b,hb,by rw[e];rfl⟩
theorem xkN{fp:List Addr}{h:Heap}{p:Addr×Obj}(hp:p∈xar fp h):p.1∈fp∧h.get? p.1=some p.2:=by
 obtain⟨b,hb,e⟩:=fU.mp hp;cases q:h.get? b with
 |none=>rw[q]at e;cases e
 |some o=>
  rw[q]at e;have e':(b,o)=p:=aX e;subst e';exact⟨hb,q⟩
theorem Inv.pinned{pins:List (Addr×Obj)}{σ:St}{H:Hp}{s:af}{fp:List Addr}(I:Inv X pins σ H s)(hf:∀b∈fp,xbl X pins H b)(ho:∀b∈fp,∃o,s.heap.get? b=some o∧∀v,o.data≠.cell v):Inv X (pins++xar fp s.heap) σ H s:=
 I.pins_of fun p hp=>(bu.mp hp).elim (fun z=>I.pin p (aO _ z)) fun z=>by
  obtain⟨hb,e⟩:=xkN z;obtain⟨f0,f1,f2,_⟩:=hf p.1 hb;obtain⟨o,e',d⟩:=ho p.1 hb;rw[e]at e';cases e';exact⟨e,f0,f1,f2,d⟩
theorem Inv.unpinned{pins pl:List (Addr×Obj)}{σ:St}{H:Hp}{s:af}(I:Inv X (pins++pl) σ H s):Inv X pins σ H s:=I.pins_of fun p hp=>I.pin p (aO _ (aV _ hp))
theorem xoG{iter:Expr}{body:List Stmt}{wi:TI}{g:TG}{tb:TS}{pos:Pos}(hp:PassesOwn (model X.prog X.w) X.A X.env X.xe)(hc:X.calm=true)(hi:PI X tg iter wi)(hg:PG X tg g)(hb:PSs X body tb)
  (hs:∀x,eN iter X.env x=pure x:=by intro _;rfl):PS X (.For tg iter body [] pos) (xlZ wi g tb):=by
 intro pins s σ H D I h;refine wpAny_For (thn (hi pins s σ H _ I h) fun v s1 h1=>thn h1 fun itv s2 h2=>?_) hs;obtain⟨it,fp,tn,J,H2,e,I2,T,st2,f2,W,⟨m0,w0⟩,turn⟩:=h2;subst e
 -- what stays true of the iterator's objects through the loop
 have stat:∀{H':Hp},(∀b∈fp,H' b=none)→∀b∈fp,xbl X pins H' b:=fun hn b hb=>⟨hn b hb,(f2 b hb).2⟩;refine codeAny_forLoop_any (fun n s'=>∃i σ' H',Inv X pins σ' H' s'∧tn i s'.heap∧(∀b∈fp,H' b=none)∧W i n σ' H') ?_ m0 ⟨0,σ,H2,I2,st2,fun b hb=>(f2 b hb).1,w0⟩;rintro n s3 ⟨i,σ3,H3,I3,st3,fr3,w3⟩;rcases turn i n σ3 H3 w3 with⟨stop,qn⟩|⟨go,N,hN,step⟩
 ·refine eu hp (thn (T.done X rfl rfl rfl hc i pins s3 σ3 H3 X.xe I3 (stat fr3) st3 stop) fun r s4 ⟨hr,I4⟩=>?_);subst hr;exact dA ⟨σ3,H3,I4,qn⟩
 ·refine eu hp (thn (T.item X rfl rfl rfl hc i pins s3 σ3 H3 X.xe I3 (stat fr3) st3 go) fun r s4 ⟨u,hr,h4⟩=>?_);subst hr;refine eu hp (thn h4 fun _ s5 ⟨x,H5,I5,r5,y5,st5,fr5⟩=>?_);have I5':=I5.pinned (stat fr5) (T.obj _ _ st5);refine eu hp (thn (hg _ s5 σ3 H5 x u _ I5' r5 (step x H5 y5)) fun _ s6 ⟨σ6,H6,I6,q6⟩=>?_);refine eu hp (thn (hb _ s6 σ6 H6 _ I6 q6) fun f s7 q7=>?_);have again:∀{σ7:St} {H7:Hp},Inv X (pins++xar fp s5.heap) σ7 H7 s7→N σ7 H7→∃m,m<n∧∃i σ' H',Inv X pins σ' H' s7∧tn i s7.heap∧(∀b∈fp,H' b=none)∧W i m σ' H':=fun{σ7 H7} I7 n7=>by
   obtain⟨m',hm,w7⟩:=hN σ7 H7 n7;refine⟨m',hm,i+1,σ7,H7,I7.unpinned,T.keep _ _ _ st5 fun b hb o e=>(I7.pin (b,o) (aO _ (aO _ (xah hb e)))).1,fun b hb=>?_,w7⟩;obtain⟨o,e,d⟩:=T.obj _ _ st5 b hb;exact(I7.pin (b,o) (aO _ (aO _ (xah hb e)))).2.1
  cases f with
  |next=>obtain⟨σ7,H7,I7,n7⟩:=q7;exact again I7 n7
  |cont=>obtain⟨σ7,H7,I7,n7⟩:=q7;exact again I7 n7
  |brk=>obtain⟨σ7,H7,I7,q7⟩:=q7;exact⟨σ7,H7,I7.unpinned,q7⟩
  |ret v=>obtain⟨x7,σ7,H7,I7,r7,q7⟩:=q7;exact⟨x7,σ7,H7,I7.unpinned,r7,q7⟩
end
theorem xl0{K:ag}{a:Addr}{xs:List V}{g:TG}{tb:TS}{D:Ends}{σ:St}{H:Hp}(Pv:Nat→St→Hp→Prop)(h0:Pv 0 σ H)(hl:∀i σ H,i≤xs.length→Pv i σ H→SqL K H a xs)
  (hs:∀i x σ H,xs[i]? =some x→Pv i σ H→g x σ H fun σ2 H2=>tb {D with nx:=Pv (i+1),ct:=Pv (i+1),bk:=D.nx} σ2 H2) (hd:∀σ H,Pv xs.length σ H→D.nx σ H):
  ∃W:Nat→Nat→St→Hp→Prop,(∃m,W 0 m σ H)∧∀i m σ H,W i m σ H→
   ((Itl K a).stop i H∧D.nx σ H)∨((Itl K a).go i H∧∃N:St→Hp→Prop,(∀σ' H',N σ' H'→∃m',m'<m∧W (i+1) m' σ' H')∧∀x H',(Itl K a).yld i H x H'→g x σ H' fun σ2 H2=>tb {D with nx:=N,ct:=N,bk:=D.nx} σ2 H2):=by
 refine⟨fun i m σ H=>m=xs.length - i∧i≤xs.length∧Pv i σ H,⟨xs.length,by simp,bK _,h0⟩,?_⟩;rintro i m σ H ⟨rfl,hi,p⟩;have q:=hl i σ H hi p
 by_cases hlt:i<xs.length
 ·refine .inr ⟨⟨xs,xs[i],q,by simp[hlt]⟩,Pv (i+1),fun σ' H' p'=>⟨xs.length - (i+1),by lia,rfl,hlt,p'⟩,fun x H' y=>?_⟩;obtain⟨e,y⟩:=y;subst e;exact hs i x σ _ (y xs q) p
 ·have e:i=xs.length:=by lia
  subst e;exact .inl ⟨⟨xs,q,av _⟩,hd σ H p⟩
theorem xnf{K:ag}{a:Addr}{xs:List V}{g:TG}{tb:TS}{D:Ends}{σ:St}{H:Hp}(Pv:Nat→St→Hp→Prop)(h0:Pv 0 σ H)(hl:∀i σ H,i≤xs.length→Pv i σ H→SqT K H a xs)
  (hs:∀i x σ H,xs[i]? =some x→Pv i σ H→g x σ H fun σ2 H2=>tb {D with nx:=Pv (i+1),ct:=Pv (i+1),bk:=D.nx} σ2 H2) (hd:∀σ H,Pv xs.length σ H→D.nx σ H):
  ∃W:Nat→Nat→St→Hp→Prop,(∃m,W 0 m σ H)∧∀i m σ H,W i m σ H→
   ((Itt K a).stop i H∧D.nx σ H)∨((Itt K a).go i H∧∃N:St→Hp→Prop,(∀σ' H',N σ' H'→∃m',m'<m∧W (i+1) m' σ' H')∧∀x H',(Itt K a).yld i H x H'→g x σ H' fun σ2 H2=>tb {D with nx:=N,ct:=N,bk:=D.nx} σ2 H2):=by
 refine⟨fun i m σ H=>m=xs.length - i∧i≤xs.length∧Pv i σ H,⟨xs.length,by simp,bK _,h0⟩,?_⟩;rintro i m σ H ⟨rfl,hi,p⟩;have q:=hl i σ H hi p
 by_cases hlt:i<xs.length
 ·refine .inr ⟨⟨xs,xs[i],q,by simp[hlt]⟩,Pv (i+1),fun σ' H' p'=>⟨xs.length - (i+1),by lia,rfl,hlt,p'⟩,fun x H' y=>?_⟩;obtain⟨e,y⟩:=y;subst e;exact hs i x σ _ (y xs q) p
 ·have e:i=xs.length:=by lia
  subst e;exact .inl ⟨⟨xs,q,av _⟩,hd σ H p⟩
end L2
namespace L2
open PySem PySem.Spec PyProof.Rows
abbrev R2:=V→V→Hp→VK→Prop
def OpR(X:Cx)(f:Value→Value→Sem Value)(r:R2):Prop:=
 ∀(pins:List (Addr×Obj)) (s:af) (σ:St) (H:Hp) (x y:V) (v u:Value) (Q:VK),Inv X pins σ H s→RelV x v→RelV y u→r x y H Q→
  wpAny (model X.prog X.w) X.A (f v u) (EP X pins σ Q) X.xe s
def UnR(X:Cx)(f:Value→Sem Value)(r:V→Hp→VK→Prop):Prop:=
 ∀(pins:List (Addr×Obj)) (s:af) (σ:St) (H:Hp) (x:V) (v:Value) (Q:VK),Inv X pins σ H s→RelV x v→r x H Q→
  wpAny (model X.prog X.w) X.A (f v) (EP X pins σ Q) X.xe s
def yF(X:Cx)(f:Value)(r:List V→Hp→VK→Prop):Prop:=
 ∀(pins:List (Addr×Obj)) (s:af) (σ:St) (H:Hp) (xs:List V) (us:List Value) (Q:VK),Inv X pins σ H s→Vals xs us→r xs H Q→
  wpAny (model X.prog X.w) X.A (call f us) (EP X pins σ Q) X.xe s
def tOp(r:R2)(ta tb:TE):TE:=fun σ H Q=>ta σ H fun x H1=>tb σ H1 fun y H2=>r x y H2 Q
def tUn(r:V→Hp→VK→Prop)(ta:TE):TE:=fun σ H Q=>ta σ H fun x H1=>r x H1 Q
def rI(C:Int→Int→Prop)(g:Int→Int→V):R2:=fun x y H Q=>∃i j,x= .int i∧y= .int j∧C i j∧Q (g i j) H
def rI0(g:Int→Int→V):R2:=fun x y H Q=>∃i j,x= .int i∧y= .int j∧Q (g i j) H
def rU(g:Int→V):V→Hp→VK→Prop:=fun x H Q=>∃i,x= .int i∧Q (g i) H
section
variable {X:Cx} {a b c:Expr} {ta tb tc:TE} {pos:Pos}
theorem xl1(ha:PE X a ta)(hb:PE X b tb){pins:List (Addr×Obj)}{s:af}{σ:St}{H:Hp}{R:V→V→Hp→Prop}(I:Inv X pins σ H s)
  (h:ta σ H fun x H1=>tb σ H1 fun y H2=>R x y H2) {Q:Value→af→Prop} {f:Value→Value→Sem Value}
  (hf:∀v u s2 x y H2,Inv X pins σ H2 s2→RelV x v→RelV y u→R x y H2→wpAny (model X.prog X.w) X.A (f v u) Q X.xe s2):
  wpAny (model X.prog X.w) X.A (eval a X.env) (fun v s₁=>wpAny (model X.prog X.w) X.A (eval b X.env) (fun u s₂=>wpAny (model X.prog X.w) X.A (f v u) Q X.xe s₂) X.xe s₁) X.xe s:=by
 refine thn (ha pins s σ H _ I h) fun v s1 ⟨x,H1,I1,r1,q1⟩=>?_;refine thn (hb pins s1 σ H1 _ I1 q1) fun u s2 ⟨y,H2,I2,r2,q2⟩=>?_;exact hf v u s2 x y H2 I2 r1 r2 q2
theorem xJ{op:Operator}{r:R2}(ho:OpR X (ck op) r)(ha:PE X a ta)(hb:PE X b tb):PE X (.BinOp a op b pos) (tOp r ta tb):=by
 intro pins s σ H Q I h;exact wpAny_BinOp (xl1 ha hb I h fun v u s2 x y H2 I2 rx ry q=>ho pins s2 σ H2 x y v u Q I2 rx ry q)
theorem xpP{op:UnaryOp}{r:V→Hp→VK→Prop}(ho:UnR X (unaryOp op) r)(ha:PE X a ta):PE X (.UnaryOp op a pos) (tUn r ta):=by
 intro pins s σ H Q I h;exact UnaryOp_ (thn (ha pins s σ H _ I h) fun v s1 ⟨x,H1,I1,r1,q1⟩=>ho pins s1 σ H1 x v Q I1 r1 q1)
theorem opI{f:Value→Value→Sem Value}{C:Int→Int→Prop}{g:Int→Int→Int}
  (rule:∀(i j:Int) (t u:Tok) (s:af) (Q:Value→af→Prop) (E:Value→af→Prop),C i j→Q (.int (g i j) s.toks) {s with toks:=s.toks+1}→wpAny (model X.prog X.w) X.A (f (.int i t) (.int j u)) Q E s):
  OpR X f (rI C fun i j=>.int (g i j)):=by
 intro pins s σ H x y v u Q I rx ry h;obtain⟨i,j,rfl,rfl,hc,q⟩:=h;obtain⟨t,rfl⟩:=rx;obtain⟨t',rfl⟩:=ry;exact rule i j t t' s _ _ hc ⟨.int (g i j),H,I.tok _,⟨_,rfl⟩,q⟩
theorem xoH{f:Value→Value→Sem Value}{g:Int→Int→Int}
  (rule:∀(i j:Int) (t u:Tok) (s:af) (Q:Value→af→Prop) (E:Value→af→Prop),Q (.int (g i j) s.toks) {s with toks:=s.toks+1}→wpAny (model X.prog X.w) X.A (f (.int i t) (.int j u)) Q E s):
  OpR X f (rI0 fun i j=>.int (g i j)):=by
 intro pins s σ H x y v u Q I rx ry h;obtain⟨i,j,rfl,rfl,q⟩:=h;obtain⟨t,rfl⟩:=rx;obtain⟨t',rfl⟩:=ry;exact rule i j t t' s _ _ ⟨.int (g i j),H,I.tok _,⟨_,rfl⟩,q⟩
theorem xjJ{f:Value→Value→Sem Value}{g:Int→Int→Bool}
  (rule:∀(i j:Int) (t u:Tok) (s:af) (Q:Value→af→Prop) (E:Value→af→Prop),Q (.bool (g i j)) s→wpAny (model X.prog X.w) X.A (f (.int i t) (.int j u)) Q E s):
  OpR X f (rI0 fun i j=>.bl (g i j)):=by
 intro pins s σ H x y v u Q I rx ry h;obtain⟨i,j,rfl,rfl,q⟩:=h;obtain⟨t,rfl⟩:=rx;obtain⟨t',rfl⟩:=ry;exact rule i j t t' s _ _ ⟨.bl (g i j),H,I,rfl,q⟩
def xoI(i j:Int):Prop:=0≤j∧j≤1000000∧i.natAbs<2^64
def xjK(i j:Int):Prop:=(-(2^64)<i∧i<2^64)∨(-(2^64)<j∧j<2^64)
theorem xjK.ok{i j:Int}(h:xjK i j):IntMulOk i j:=by
 rcases h with⟨h1,h2⟩|⟨h1,h2⟩
 ·exact .of_left (intBits_le_64 h1 h2)
 ·exact .of_right (intBits_le_64 h1 h2)
theorem xoJ:OpR X (ck .Add) (rI0 fun i j=>.int (i+j)):=xoH fun _ _ _ _ _ _ _ q=>add_int q
theorem xoK:OpR X (ck .Sub) (rI0 fun i j=>.int (i - j)):=xoH fun _ _ _ _ _ _ _ q=>sub_int q
theorem xoL:OpR X (ck .Mult) (rI xjK fun i j=>.int (i*j)):=opI fun _ _ _ _ _ _ _ hc q=>mul_int q hc.ok
theorem xoM:OpR X (ck .Mod) (rI (fun _ j=>0<j) fun i j=>.int (i%j)):=opI fun i j _ _ _ _ _ hc q=>by
 have h1:(0:Int)<j:=hc;exact mod_int' (by lia) (by rw[Int.fmod_eq_emod_of_nonneg i (by lia)];exact q)
theorem xoN:OpR X (ck .Pow) (rI xoI fun i j=>.int (i^j.toNat)):=opI fun _ _ _ _ _ _ _ hc q=>pow_int_small hc.1 hc.2.1 hc.2.2 q
theorem unI{f:Value→Sem Value}{g:Int→Int}
  (rule:∀(i:Int) (t:Tok) (s:af) (Q:Value→af→Prop) (E:Value→af→Prop),Q (.int (g i) s.toks) {s with toks:=s.toks+1}→wpAny (model X.prog X.w) X.A (f (.int i t)) Q E s):
  UnR X f (rU fun i=>.int (g i)):=by
 intro pins s σ H x v Q I rx h;obtain⟨i,rfl,q⟩:=h;obtain⟨t,rfl⟩:=rx;exact rule i t s _ _ ⟨.int (g i),H,I.tok _,⟨_,rfl⟩,q⟩
theorem xoO:UnR X (unaryOp .USub) (rU fun i=>.int (-i)):=unI fun _ _ _ _ _ q=>neg_int q
end
def xoP:V→V→Bool
 | .non,.non=>true| .non,.int _=>true| .int _,.non=>true| .non,.bl _=>true| .bl _,.non=>true| .non,.str _=>true| .str _,.non=>true
 | .int _,.int _=>true| .bl _,.bl _=>true| .str _,.str _=>true| .byt _,.byt _=>true
 | .int _,.str _=>true| .str _,.int _=>true| .bl _,.str _=>true| .str _,.bl _=>true
 |_,_=>false
def rEq:R2:=fun x y H Q=>xoP x y=true∧Q (.bl (decide (x=y))) H
def rNe:R2:=fun x y H Q=>xoP x y=true∧Q (.bl (!decide (x=y))) H
theorem xi7{i j:Int}:decide (V.int i=V.int j)=(i==j):=by
 rw[ez];simp
theorem xkO{i j:Bool}:decide (V.bl i=V.bl j)=(i==j):=by
 rw[ez];simp
theorem xi8{i j:Str}:decide (V.str i=V.str j)=(i==j):=by
 rw[ez];simp
theorem xi9{i j:Array UInt8}:decide (V.byt i=V.byt j)=(i.toList==j.toList):=by
 rw[ez];cases i;cases j;simp
section
variable {X:Cx} {a b c:Expr} {ta tb tc:TE} {pos:Pos}
theorem xX{pins:List (Addr×Obj)}{σ:St}{H:Hp}{s:af}{Q:VK}{k k':Bool}(I:Inv X pins σ H s)(q:Q (.bl k) H)(e:k=k'):EP X pins σ Q (.bool k') s:=by
 subst e;exact⟨.bl k,H,I,rfl,q⟩
theorem xmR:OpR X (bE .Eq) rEq:=by
 intro pins s σ H x y v u Q I rx ry h;obtain⟨hs,q⟩:=h;cases x with
 |non=>
  cases rx;cases y with
  |non=>cases ry;exact PySem.EqNone.eq_none_none (xX I q (by simp))
  |bl j=>cases ry;exact PySem.EqNone.eq_none_bool (xX I q (by simp))
  |int j=>obtain⟨t',rfl⟩:=ry;exact PySem.EqNone.eq_none_int (xX I q (by simp))
  |str j=>obtain⟨t',rfl⟩:=ry;exact PySem.EqNone.eq_none_str (xX I q (by simp))
  |_=>exact absurd (show false=true from hs) aI
 |bl i=>
  cases rx;cases y with
  |non=>cases ry;exact PySem.EqNone.eq_bool_none (xX I q (by simp))
  |bl j=>cases ry;exact eq_bool (xX I q xkO)
  |str j=>obtain⟨t',rfl⟩:=ry;exact PySem.EqMixed.eq_bool_str (xX I q (by simp))
  |_=>exact absurd (show false=true from hs) aI
 |int i=>
  obtain⟨t,rfl⟩:=rx;cases y with
  |non=>cases ry;exact PySem.EqNone.eq_int_none (xX I q (by simp))
  |int j=>obtain⟨t',rfl⟩:=ry;exact eq_int (xX I q xi7)
  |str j=>obtain⟨t',rfl⟩:=ry;exact PySem.EqMixed.eq_int_str (xX I q (by simp))
  |_=>exact absurd (show false=true from hs) aI
 |str i=>
  obtain⟨t,rfl⟩:=rx;cases y with
  |non=>cases ry;exact PySem.EqNone.eq_str_none (xX I q (by simp))
  |bl j=>cases ry;exact PySem.EqMixed.eq_str_bool (xX I q (by simp))
  |int j=>obtain⟨t',rfl⟩:=ry;exact PySem.EqMixed.eq_str_int (xX I q (by simp))
  |str j=>obtain⟨t',rfl⟩:=ry;exact eq_str (xX I q xi8)
  |_=>exact absurd (show false=true from hs) aI
 |byt i=>
  obtain⟨t,rfl⟩:=rx;cases y with
  |byt j=>obtain⟨t',rfl⟩:=ry;exact W.eq_bytes (xX I q xi9)
  |_=>exact absurd (show false=true from hs) aI
 |_=>cases y<;> exact absurd (show false=true from hs) aI
theorem xmS:OpR X (bE .NotEq) rNe:=by
 intro pins s σ H x y v u Q I rx ry h;obtain⟨hs,q⟩:=h;cases x with
 |non=>
  cases rx;cases y with
  |non=>cases ry;exact PySem.EqNone.ne_none_none (xX I q (by simp))
  |bl j=>cases ry;exact PySem.EqNone.ne_none_bool (xX I q (by simp))
  |int j=>obtain⟨t',rfl⟩:=ry;exact PySem.EqNone.ne_none_int (xX I q (by simp))
  |str j=>obtain⟨t',rfl⟩:=ry;exact PySem.EqNone.ne_none_str (xX I q (by simp))
  |_=>exact absurd (show false=true from hs) aI
 |bl i=>
  cases rx;cases y with
  |non=>cases ry;exact PySem.EqNone.ne_bool_none (xX I q (by simp))
  |bl j=>cases ry;exact ne_bool (xX I q (congrArg not xkO))
  |str j=>obtain⟨t',rfl⟩:=ry;exact PySem.EqMixed.ne_bool_str (xX I q (by simp))
  |_=>exact absurd (show false=true from hs) aI
 |int i=>
  obtain⟨t,rfl⟩:=rx;cases y with
  |non=>cases ry;exact PySem.EqNone.ne_int_none (xX I q (by simp))
  |int j=>obtain⟨t',rfl⟩:=ry;exact ne_int (xX I q (congrArg not xi7))
  |str j=>obtain⟨t',rfl⟩:=ry;exact PySem.EqMixed.ne_int_str (xX I q (by simp))
  |_=>exact absurd (show false=true from hs) aI
 |str i=>
  obtain⟨t,rfl⟩:=rx;cases y with
  |non=>cases ry;exact PySem.EqNone.ne_str_none (xX I q (by simp))
  |bl j=>cases ry;exact PySem.EqMixed.ne_str_bool (xX I q (by simp))
  |int j=>obtain⟨t',rfl⟩:=ry;exact PySem.EqMixed.ne_str_int (xX I q (by simp))
  |str j=>obtain⟨t',rfl⟩:=ry;exact ne_str (xX I q (congrArg not xi8))
  |_=>exact absurd (show false=true from hs) aI
 |byt i=>
  obtain⟨t,rfl⟩:=rx;cases y with
  |byt j=>obtain⟨t',rfl⟩:=ry;exact W.ne_bytes (xX I q (congrArg not xi9))
  |_=>exact absurd (show false=true from hs) aI
 |_=>cases y<;> exact absurd (show false=true from hs) aI
theorem xpQ:OpR X (bE .Lt) (rI0 fun i j=>.bl (decide (i<j))):=xjJ fun _ _ _ _ _ _ _ q=>lt_int q
theorem xpR:OpR X (bE .LtE) (rI0 fun i j=>.bl (decide (i≤j))):=xjJ fun _ _ _ _ _ _ _ q=>le_int q
theorem xpS:OpR X (bE .Gt) (rI0 fun i j=>.bl (decide (j<i))):=xjJ fun _ _ _ _ _ _ _ q=>gt_int q
theorem xpT:OpR X (bE .GtE) (rI0 fun i j=>.bl (decide (j≤i))):=xjJ fun _ _ _ _ _ _ _ q=>ge_int q
theorem xkP(b:Expr){op:CmpOp}(h:op≠.In:=by decide)(h2:op≠.NotIn:=by decide):cA op b=false:=by
 have e1:(op==CmpOp.In)=false:=by cases op<;> first|rfl|exact absurd rfl h
 have e2:(op==CmpOp.NotIn)=false:=by cases op<;> first|rfl|exact absurd rfl h2
 cases b<;> simp[cA,e1,e2]
theorem xng{op:CmpOp}{r:R2}(ho:OpR X (bE op) r)(ha:PE X a ta)(hb:PE X b tb)(hm:cA op b=false):PE X (.Compare a [op] [b] pos) (tOp r ta tb):=by
 intro pins s σ H Q I h;exact wpAny_Compare1 (xl1 ha hb I h fun v u s2 x y H2 I2 rx ry q=>ho pins s2 σ H2 x y v u Q I2 rx ry q) hm
theorem xeY:(aF:Nat)<2^63:=by rw[aQ];decide
theorem vals1{x:V}{us:List Value}(r:Vals [x] us):∃u,us=[u]∧RelV x u:=by
 cases r with
 |cons r1 r2=>cases r2;exact⟨_,rfl,r1⟩
theorem vals2{x y:V}{us:List Value}(r:Vals [x,y] us):∃u w',us=[u,w']∧RelV x u∧RelV y w':=by
 cases r with
 |cons r1 r2=>
  cases r2 with
  |cons r3 r4=>cases r4;exact⟨_,_,rfl,r1,r3⟩
theorem xl2:yF X (.builtin "abs") (fun xs H Q=>∃i,xs=[.int i]∧Q (.int (if i<0 then -i else i)) H):=by
 intro pins s σ H xs us Q I r h;obtain⟨i,rfl,q⟩:=h;obtain⟨u,rfl,t,rfl⟩:=vals1 r;exact call_abs_int fun u tk=>⟨.int (if i<0 then -i else i),H,I.tok _,⟨_,rfl⟩,q⟩
theorem xkQ(hc:X.calm=true):yF X (.builtin "max") (fun xs H Q=>∃i j,xs=[.int i,.int j]∧Q (.int (if j > i then j else i)) H):=by
 intro pins s σ H xs us Q I r h;obtain⟨i,j,rfl,q⟩:=h;obtain⟨u,w',rfl,⟨t,rfl⟩,⟨t',rfl⟩⟩:=vals2 r;refine max_two_ints (I.ok.hd hc) fun h' tk k=>⟨_,H,I.kept k,?_,q⟩
 by_cases hj:j > i
 ·rw[if_pos hj,if_pos hj];exact⟨_,rfl⟩
 ·rw[if_neg hj,if_neg hj];exact⟨_,rfl⟩
theorem xkR(hc:X.calm=true):yF X (.builtin "min") (fun xs H Q=>∃i j,xs=[.int i,.int j]∧Q (.int (if j<i then j else i)) H):=by
 intro pins s σ H xs us Q I r h;obtain⟨i,j,rfl,q⟩:=h;obtain⟨u,w',rfl,⟨t,rfl⟩,⟨t',rfl⟩⟩:=vals2 r;refine min_two_ints (I.ok.hd hc) fun h' tk k=>⟨_,H,I.kept k,?_,q⟩
 by_cases hj:j<i
 ·rw[if_pos hj,if_pos hj];exact⟨_,rfl⟩
 ·rw[if_neg hj,if_neg hj];exact⟨_,rfl⟩
theorem xkS:yF X (.type "int") (fun xs H Q=>(∃i,xs=[.int i]∧Q (.int i) H)∨∃k,xs=[.bl k]∧Q (.int (if k then 1 else 0)) H):=by
 intro pins s σ H xs us Q I r h;rcases h with⟨i,rfl,q⟩|⟨k,rfl,q⟩
 ·obtain⟨u,rfl,t,rfl⟩:=vals1 r;exact call_int_int ⟨.int i,H,I,⟨_,rfl⟩,q⟩
 ·obtain⟨u,rfl,r1⟩:=vals1 r;cases r1;exact call_int_bool ⟨.int (if k then 1 else 0),H,I.tok _,⟨_,rfl⟩,q⟩
end
end L2
namespace L2
open PySem PySem.Spec PyProof.Rows
structure xey(h:Heap)(x dx C:Addr)(mA:Str→Option Value):Prop where
 obj:h.get? x=some (eB C dx)
 ns:h.Ns1 dx mA
 ne:dx≠x
theorem xgA{h:Heap}{dx:Addr}{mA:Str→Option Value}(n:h.Ns1 dx mA):∃od,h.get? dx=some od∧∀name,W.lookIn name od=some (mA name):=by
 obtain⟨o,es,ep,ho,hd,hk,_,hm⟩:=n;refine⟨o,ho,fun name=>?_⟩;have e:=hm name;unfold nsFind findBy at e;rw[←iQ]at e;unfold W.lookIn;rw[hd];dsimp only
 split
 ·rename_i y q;rw[q]at e;exact congrArg some e
 ·rename_i q;rw[q]at e;have a:es.toList.any (·.refKey)=false:=by
   rw[List.any_eq_false];intro y hy;obtain⟨z,t,hkey⟩:=hk y (Array.mem_toList_iff.mp hy);simp[DictEntry.refKey,hkey]
  have a':¬es.toList.any (·.refKey)=true:=by rw[a];exact aI
  rw[if_neg a'];exact congrArg some e
theorem xey.look{h:Heap}{x dx C:Addr}{mA:Str→Option Value}(I:xey h x dx C mA):∃od,W.InstAt h x (eB C dx) C (some od)∧∀name,W.lookIn name od=some (mA name):=
 let⟨od,ho,hl⟩:=xgA I.ns
 ⟨od,⟨I.obj,rfl,rfl,ho⟩,hl⟩
section
variable {prog:ai} {w:World} {A:aC} {E:Value→af→Prop} {s:af} {K:ag} {x dx C f:Addr} {mA:Str→Option Value} {name:Str} {v:Value}
theorem get_map{expr:Bool}{Q:Value→af→Prop}(X:K.In s.heap)(I:xey s.heap x dx C mA)(hg:ip K C name=true)(hh:fN K C=true)
  (ha:aL K (.ref C) name=some none) (hv:mA name=some v) (hv':W.handedIn v=true) (h:Q v {s with toks:=s.toks+1}):
  wpAny (model prog w) A (getAttr (.ref x) name expr) Q E s:=by
 obtain⟨od,J,hl⟩:=I.look;exact W.get_value X J (iD hg).1 (W.findObj_own hh ha rfl (by rw[hl,hv])) hv' h
theorem xl3{pl:Sem Bool}{Q:Value×List Value→af→Prop}(X:K.In s.heap)(I:xey s.heap x dx C mA)(hg:ip K C name=true)
  (hf:aL K (.ref C) name=some (some (.ref f))) (ht:W.isFn K (.ref f)=true) (hv:mA name=none) (h:Q (.ref f,[.ref x]) s):
  wpAny (model prog w) A (dW (.ref x) name pl) Q E s:=by
 obtain⟨od,J,hl⟩:=I.look;exact W.method_fn X J (iD hg).1 (iD hg).2 hf (beq_iff_eq.mp ht) (by show(W.lookIn name od).map (·.isSome)=some false;rw[hl,hv];rfl) h
theorem xnh{ns:List Str}{Q:Unit→af→Prop}(X:K.In s.heap)(I:xey s.heap x dx C mA)
  (hs:aL K (.ref C) "__setattr__"=some (some (.builtin "object.__setattr__"))) (hp:W.plainOver K C=true) (ht:W.takerIn K C name=some none) (hh:fN K C=true)
  (hw:PySem.Within mA ns) (hsz:ns.length≤aF)
  (h:∀h',xey h' x dx C (fun y=>if y=name then some v else mA y)→eD dx s.heap h'→Q () {s with heap:=h',toks:=s.toks+2}):
  wpAny (model prog w) A (setAttr (.ref x) name v) Q E s:=by
 obtain⟨od,J,hl⟩:=I.look;refine W.set_plain X J hs (W.osa_open (s:={s with toks:=s.toks+1}) (r:=none) X J hp ht fun b=>?_);obtain⟨cd,hc,hd'⟩:=W.any_some hh;have hx:s.heap.get? x=some ⟨.ref C,some dx,.plain,#[]⟩:=I.obj;refine aa (ao (aa (aa (g9 hx (aa (W.Looks.here (s:={s with toks:=s.toks+1}) (iE X hc) ?_))))));rw[hd'];refine ao (a:=some dx) (aa (ao (aa ?_)));refine wpAny_nsSet1 (s:={s with toks:=s.toks+1}) I.ns fun h' hn2 hs2=>?_;obtain⟨oD,esD,epD,hoD,hdD,hcD⟩:=hn2.count (PySem.Within.cons name v hw);refine aa (wpAny_lookBehind hoD (by rw[hdD];exact pastItsLine_dict (bp hcD (by rw[bQ];lia))) ?_);exact ao (h _ ⟨(hs2.2 _ (ak I.ne)).trans I.obj,hn2,I.ne⟩ hs2)
theorem xl4{R:gw→af→Prop}{vs:List Value}{kw:List (Str×Value)}(X:K.In s.heap)(hm:W.makesIn K C=true)
  (hi:aL K (.ref C) "__init__"=some (some (.ref f))) (hf:W.typeIn K (.ref f)=some (.type "function"))
  (h:b9 (model prog w) (A.under (.builtin "type.__call__" ⟨.ref C::vs,kw⟩)) (.call (.ref f) ⟨.ref (s.heap.objs.size+1)::vs,kw⟩) (W.InitBack (s.heap.objs.size+1) R)
   {s with heap:=(s.heap.push cX).push (eB C s.heap.objs.size)}):
  b9 (model prog w) A (.call (.ref C) ⟨vs,kw⟩) R s:=by
 obtain⟨hh,g,d,t,os⟩:=s;exact W.make_core (W.makes_of X hm) (W.looks_findIn X hi) (fun self=>W.bind_fn X self hf) (.inl rfl) h
end
def zT(f:Str)(v:V):List (Str×V)→List (Str×V)
 |[]=>[(f,v)]
 |(g,x)::r=>if g=f then(g,v)::r else(g,x)::zT f v r
theorem xee(f g:Str)(v:V):∀fs:List (Str×V),(zT f v fs).lookup g=if g=f then some v else fs.lookup g
 |[]=>by
  show dG g [(f,v)]=_
  by_cases h:g=f
  ·have hb:(g==f)=true:=beq_iff_eq.mpr h;simp only[dG,hb,if_pos h]
  ·have hb:(g==f)=false:=beq_eq_false_iff_ne.mpr h;simp only[dG,hb,if_neg h]
 |(k,x)::r=>by
  have ih:=xee f g v r;rw[show zT f v ((k,x)::r)=(if k=f then(k,v)::r else(k,x)::zT f v r)from rfl]
  by_cases hk:k=f
  ·rw[if_pos hk]
   by_cases h:g=k
   ·have hb:(g==k)=true:=beq_iff_eq.mpr h;simp only[dG,hb,if_pos (h.trans hk)]
   ·have hb:(g==k)=false:=beq_eq_false_iff_ne.mpr h;simp only[dG,hb,if_neg (fun e:g=f=>h (e.trans hk.symm))]
  ·rw[if_neg hk]
   by_cases h:g=k
   ·have hb:(g==k)=true:=beq_iff_eq.mpr h;simp only[dG,hb,if_neg (fun e:g=f=>hk (h.symm.trans e))]
   ·have hb:(g==k)=false:=beq_eq_false_iff_ne.mpr h;simp only[dG,hb];exact ih
theorem xc6(f:Str)(v:V):∀fs:List (Str×V),f∈(zT f v fs).map (·.1)∧∀g,g∈fs.map (·.1)→g∈(zT f v fs).map (·.1)
 |[]=>⟨by simp[zT],fun g h=>by simp at h⟩
 |(k,x)::r=>by
  obtain⟨i1,i2⟩:=xc6 f v r;rw[show zT f v ((k,x)::r)=(if k=f then(k,v)::r else(k,x)::zT f v r)from rfl]
  by_cases hk:k=f
  ·rw[if_pos hk];subst hk;exact⟨by simp,fun g h=>by simpa using h⟩
  ·rw[if_neg hk];refine⟨?_,fun g h=>?_⟩
   ·rw[bA];exact aZ _ i1
   ·rw[bA]at h⊢;rcases aw.mp h with e|e
    ·exact aw.mpr (.inl e)
    ·exact aZ _ (i2 g e)
theorem xbm(f:Str)(v:V):∀fs:List (Str×V),(zT f v fs).length≤fs.length+1
 |[]=>by simp[zT]
 |(k,x)::r=>by
  have ih:=xbm f v r;rw[show zT f v ((k,x)::r)=(if k=f then(k,v)::r else(k,x)::zT f v r)from rfl]
  by_cases hk:k=f
  ·rw[if_pos hk,bQ,bQ];lia
  ·rw[if_neg hk,bQ,bQ];lia
theorem zS.some_of{v:V}{o:Option Value}(r:zS (some v) o):∃u,o=some u∧RelV v u:=by
 cases o with
 |none=>exact(show False from r).elim
 |some u=>exact⟨u,rfl,r⟩
theorem zS.none_of{o:Option Value}(r:zS none o):o=none:=by
 cases o with
 |none=>rfl
 |some u=>exact(show False from r).elim
theorem xgB{v:V}{u:Value}(r:RelV v u):W.handedIn u=true:=by
 cases v with
 |non=>cases (show u=aS from r);rfl
 |bl b=>cases (show u=cI b from r);rfl
 |int i=>obtain⟨t,e⟩:=(show∃t,u=fQ i t from r);cases e;rfl
 |str x=>obtain⟨t,e⟩:=(show∃t,u=fR x t from r);cases e;rfl
 |byt b=>obtain⟨t,e⟩:=(show∃t,u=Value.bytes b t from r);cases e;rfl
 |flt b=>obtain⟨t,e⟩:=(show∃t,u=i4 b t from r);cases e;rfl
 |ref a=>cases (show u=az a from r);rfl
 |ty n=>cases (show u=dX n from r);rfl
section
variable {P:ai} {w:World} {H H':Hp} {h h':Heap} {a C dx:Addr} {fs fs':List (Str×V)}
theorem xdT(hok:HOk P w H h)(e:H a=some (.ins C dx fs)):∃mA,xey h a dx C mA∧(∀f,zS (fs.lookup f) (mA f))∧PySem.Within mA (fs.map (·.1))∧fs.length≤1000∧H dx=some (.own a):=by
 obtain⟨d,z,ne,ob,mA,n,r,q⟩:=(show xY P w H h a (.ins C dx fs)from hok a _ e);exact⟨mA,⟨ob,n,ne⟩,r,q,z,d⟩
end
structure Cls(K:ag)(C:Addr):Prop where
 pg:ip K C Str.empty=true
 hd:fN K C=true
 po:W.plainOver K C=true
 sa:aL K (.ref C) "__setattr__"=some (some (.builtin "object.__setattr__"))
theorem Cls.get{K:ag}{C:Addr}(c:Cls K C)(f:Str):ip K C f=true:=c.pg
def xE(K:ag)(C:Addr)(f:Str):Prop:=aL K (.ref C) f=some none
theorem xE.taker{K:ag}{C:Addr}{f:Str}(n:xE K C f):W.takerIn K C f=some none:=by
 unfold W.takerIn;rw[show aL K (.ref C) f=some none from n];rfl
structure Meth(K:ag)(C:Addr)(m:Str)(f:Addr):Prop where
 at_:aL K (.ref C) m=some (some (.ref f))
 fn:W.isFn K (.ref f)=true
 kp:bV K (.ref f)=true
section
variable {X:Cx} {pins:List (Addr×Obj)} {σ:St} {H:Hp} {s:af} {a C dx:Addr} {fs:List (Str×V)} {f:Str} {v:V} {A:aC} {E:Value→af→Prop}
theorem xjL{b:Bool}{Q:Value→af→Prop}(I:Inv X pins σ H s)(e:H a=some (.ins C dx fs))(c:Cls X.K C)(n:xE X.K C f)(l:fs.lookup f=some v)
  (h:∀u s',Inv X pins σ H s'→RelV v u→Q u s'):wpAny (model X.prog X.w) A (getAttr (.ref a) f b) Q E s:=by
 obtain⟨mA,O,r,_,_,_⟩:=xdT I.hok e;obtain⟨u,hu,ru⟩:=zS.some_of (v:=v) (o:=mA f) (by rw[←l];exact r f);exact get_map I.kIn O (c.get f) c.hd n hu (xgB ru) (h u _ (I.tok _) ru)
theorem uF{m:Str}{g:Addr}{pl:Sem Bool}{Q:Value×List Value→af→Prop}(I:Inv X pins σ H s)(e:H a=some (.ins C dx fs))(c:Cls X.K C)(k:Meth X.K C m g)(l:fs.lookup m=none)
  (h:Q (.ref g,[.ref a]) s):wpAny (model X.prog X.w) A (dW (.ref a) m pl) Q E s:=by
 obtain⟨mA,O,r,_,_,_⟩:=xdT I.hok e;have hn:mA m=none:=zS.none_of (by rw[←l];exact r m);exact xl3 I.kIn O (c.get m) k.at_ k.fn hn h
theorem xjM{y:V}{u:Value}{Q:Unit→af→Prop}(I:Inv X pins σ H s)(e:H a=some (.ins C dx fs))(c:Cls X.K C)(n:xE X.K C f)(hl:fs.length<1000)(ry:RelV y u)
  (h:∀s',Inv X pins σ (upd H a (.ins C dx (zT f y fs))) s'→Q () s'):wpAny (model X.prog X.w) A (setAttr (.ref a) f u) Q E s:=by
 obtain⟨mA,O,r,wi,_,ho⟩:=xdT I.hok e;have hz:(fs.map (·.1)).length≤aF:=by rw[aq,aQ];lia
 refine xnh I.kIn O c.sa c.po n.taker c.hd wi hz fun h' O' sb=>h _ ?_;have hd:∃o,h'.get? dx=some o:=let⟨o,_,_,e',_⟩:=O'.ns;⟨o,e'⟩
 refine I.write (x:=a) (e:=dx) (by rw[e];exact bY) (.inr ho) (fun b q hb z=>(sb.2 b hb).trans z) hd ?_;refine⟨by rw[xm O.ne];exact ho,?_,O.ne,O'.obj,_,O'.ns,fun g=>?_,fun g hg=>?_⟩
 ·have:=xbm f y fs;lia
 ·show zS ((zT f y fs).lookup g) (if g=f then some u else mA g);rw[xee]
  by_cases q:g=f
  ·rw[if_pos q,if_pos q];exact ry
  ·rw[if_neg q,if_neg q];exact r g
 ·by_cases q:g=f
  ·rw[q];exact(xc6 f y fs).1
  ·refine(xc6 f y fs).2 g (wi g fun z=>hg ?_);show(if g=f then some u else mA g)=none;rw[if_neg q];exact z
theorem Inv.made(I:Inv X pins σ H s):Inv X pins σ (upd (upd H s.heap.objs.size (.own (s.heap.objs.size+1))) (s.heap.objs.size+1) (.ins C s.heap.objs.size []))
  {s with heap:=(s.heap.push cX).push (eB C s.heap.objs.size)}:=by
 have e1:(s.heap.push cX).get? s.heap.objs.size=some cX:=aK s.heap rfl;have e2:((s.heap.push cX).push (eB C s.heap.objs.size)).get? (s.heap.objs.size+1)=some (eB C s.heap.objs.size):=by
  have:=aK (s.heap.push cX) (o:=eB C s.heap.objs.size) rfl
  rwa [dP]at this
 have e3:(s.heap.push cX).Ns s.heap.objs.size (fun _=>none):=⟨cX,#[],_,e1,rfl,(fun e he=>absurd he (by simp)),fun _=>rfl⟩;have I1:=I.laid (a:=s.heap.objs.size) (o:=.own (s.heap.objs.size+1)) (h':=s.heap.push cX) (t':=s.toks) (fun b u q=>ah _ q) (av _) ⟨_,e1⟩;refine I1.laid (a:=s.heap.objs.size+1) (o:=.ins C s.heap.objs.size []) (t':=s.toks) (fun b u q=>ah _ q) (Nat.le_of_eq (dP _ _)) ?_;have ne:s.heap.objs.size≠s.heap.objs.size+1:=aE (Nat.lt_succ_self _);refine⟨by rw[xm ne,xp],bK _,ne,e2,fun _=>none,(iZ e3).at fun o q=>ah _ q,fun _=>bY,fun y hy=>absurd rfl hy⟩
theorem xja{prog:ai}{w:World}{env:Env}{e:Expr}{f:Str}{pos:Pos}{s:af}{Q:Value→af→Prop}(hb:eR e f env (eval e env)=eval e env)
  (h:wpAny (model prog w) A (eval e env) (fun o s₁=>wpAny (model prog w) A (getAttr o f true) Q E s₁) E s):wpAny (model prog w) A (eval (.Attribute e f pos) env) Q E s:=
 Attribute_any_ h (by rw[arm_eval_Attribute,hb])
end
def xqB(K:ag)(ta:TE)(f:Str):TE:=fun σ H Q=>ta σ H fun x H1=>∃a C dx fs v,x= .ref a∧H1 a=some (.ins C dx fs)∧Cls K C∧xE K C f∧fs.lookup f=some v∧Q v H1
def xoQ(K:ag)(ta tv:TE)(f:Str):TS:=fun D σ H=>tv σ H fun y H1=>ta σ H1 fun x H2=>∃a C dx fs,x= .ref a∧H2 a=some (.ins C dx fs)∧Cls K C∧xE K C f∧fs.length<1000∧
 D.nx σ (upd H2 a (.ins C dx (zT f y fs)))
section
variable {X:Cx} {o e value:Expr} {f:Str} {pos pos' tpos:Pos} {ta tv:TE}
theorem xw(he:PE X e ta)(hb:eR e f X.env (eval e X.env)=eval e X.env):PE X (.Attribute e f pos) (xqB X.K ta f):=by
 intro pins s σ H Q I h;refine xja hb (thn (he pins s σ H _ I h) fun u s1 ⟨x,H1,I1,rx,a,C,dx,fs,v,ex,ea,c,n,l,q⟩=>?_);subst ex;obtain rfl:u=az a:=rx;exact xjL I1 ea c n l fun u' s2 I2 ru=>⟨v,H1,I2,ru,q⟩
theorem yg(ha:PE X o ta)(hv:PE X value tv)(hs:eE value (some (.Attribute o f pos')) pos.line X.env=pure false):PS X (.Assign [.Attribute o f pos'] value pos) (xoQ X.K ta tv f):=by
 intro pins s σ H D I h;refine fj (thn (hv pins s σ H _ I h) fun u s1 ⟨y,H1,I1,ry,q⟩=>thn (ha pins s1 σ H1 _ I1 q) fun ov s2 ⟨x,H2,I2,rx,a,C,dx,fs,ex,ea,c,n,l,q2⟩=>?_) hs;subst ex;obtain rfl:ov=az a:=rx;exact xjM I2 ea c n l ry fun s3 I3=>⟨σ,_,I3,q2⟩
end
section
variable {X:Cx} {pins:List (Addr×Obj)} {σ:St} {H:Hp} {s:af} {A:aC} {E:Value→af→Prop} {Q:Value→af→Prop} {c:Value} {b:Bool}
inductive zo(K:ag)(H:Hp):V→Value→Prop where
 |non:zo K H .non (.type "NoneType")
 |bl (x:Bool):zo K H (.bl x) (.type "bool")
 |int (i:Int):zo K H (.int i) (.type "int")
 |str (x:Str):zo K H (.str x) (.type "str")
 |flt (x:UInt64):zo K H (.flt x) (.type "float")
 |lst {a:Addr} {xs:List V} (e:H a=some (.lst xs)):zo K H (.ref a) (.type "list")
 |frz {a:Addr} {o:Obj} {xs:List V} (e:H a=some (.frz o (.lst xs))):zo K H (.ref a) (.type "list")
 |tup {a:Addr} {xs:List V} (e:H a=some (.tup xs)):zo K H (.ref a) (.type "tuple")
 |dK {a:Addr} {kvs:List (Key×V)} (e:H a=some (.dK kvs)):zo K H (.ref a) (.type "dict")
 |dT {a:Addr} {kvs:List (List Key×V)} (e:H a=some (.dT kvs)):zo K H (.ref a) (.type "dict")
 |ins {a C dx:Addr} {fs:List (Str×V)} (e:H a=some (.ins C dx fs)) (cl:Cls K C) (ha:aL K (.ref C) "__class__"=some (some (.builtin "object.__class__")))
   (hn:gW K (.builtin "object.__class__") "__get__"=some (some (.builtin "getset_descriptor.__get__"))) (htk:W.takesIn K (.builtin "object.__class__")=some true)
   (hm:fK K C (.type "object")=some true):zo K H (.ref a) (.ref C)
theorem xkT{x:V}{u t:Value}(I:Inv X pins σ H s)(rx:RelV x u)(ty:zo X.K H x t)(e:gx X.K t c=some b)(h:∀tk,Q (.bool b) {s with toks:=tk}):
  wpAny (model X.prog X.w) A (call (.builtin "isinstance") [u,c]) Q E s:=by
 cases ty with
 |non=>cases (show u=aS from rx);exact cY W.kitx_none I.kIn bY e (fun z=>nomatch z) h
 |bl y=>cases (show u=cI y from rx);exact cY W.kitx_bool I.kIn bY e (fun z=>nomatch z) h
 |int i=>obtain⟨t,q⟩:=(show∃t,u=fQ i t from rx);cases q;exact cY W.kitx_int I.kIn bY e (fun z=>nomatch z) h
 |str y=>obtain⟨t,q⟩:=(show∃t,u=fR y t from rx);cases q;exact cY W.kitx_str I.kIn bY e (fun z=>nomatch z) h
 |flt y=>obtain⟨t,q⟩:=(show∃t,u=i4 y t from rx);cases q;exact cY W.kitx_float I.kIn bY e (fun z=>nomatch z) h
 | @lst a xs ea=>
  cases (show u=az a from rx);obtain⟨_,_,n,_,h1⟩:=(show xY X.prog X.w H s.heap a (.lst xs)from I.hok a _ ea);exact cY W.kitx_list I.kIn ⟨_,h1,rfl⟩ e (fun z=>nomatch z) h
 | @frz a ob xs ea=>
  cases (show u=az a from rx);obtain⟨_,_,_,n,_,h1⟩:=(show xY X.prog X.w H s.heap a (.frz ob (.lst xs))from I.hok a _ ea);exact cY W.kitx_list I.kIn ⟨_,h1,rfl⟩ e (fun z=>nomatch z) h
 | @tup a xs ea=>
  cases (show u=az a from rx);obtain⟨_,_,_,p⟩:=(show xY X.prog X.w H s.heap a (.tup xs)from I.hok a _ ea);obtain⟨o,h1,h2,_⟩:=p;exact cY W.kitx_tuple I.kIn ⟨o,h1,h2⟩ e (fun z=>nomatch z) h
 | @dK a kvs ea=>
  cases (show u=az a from rx);obtain⟨_,_,vs,_,p⟩:=(show xY X.prog X.w H s.heap a (.dK kvs)from I.hok a _ ea);obtain⟨o,es,ep,h1,h2,_⟩:=p;exact cY W.kitx_dict I.kIn ⟨o,h1,h2.1⟩ e (fun z=>nomatch z) h
 | @dT a kvs ea=>
  cases (show u=az a from rx);obtain⟨_,_,xs,_,o,es,ep,h1,h2,_⟩:=(show xY X.prog X.w H s.heap a (.dT kvs)from I.hok a _ ea);exact cY W.kitx_dict I.kIn ⟨o,h1,h2.1⟩ e (fun z=>nomatch z) h
 | @ins a C dx fs ea cl ha hn htk hm=>
  cases (show u=az a from rx);obtain⟨mA,O,_⟩:=xdT I.hok ea;obtain⟨od,J,_⟩:=O.look;exact cY (W.kitx_own (cl.get _) cl.hd ha hn htk hm) I.kIn J e (fun z=>nomatch z) h
end
end L2
namespace L2
open PySem PySem.Spec PyProof.Rows
structure xS(k:Nat)(A:aC):Prop where
 hd:A.handled=none
 dp:A.depth+3*k+5<hI
 un:A.units+16*k+200<cLine
theorem xS.mono{j k:Nat}{A:aC}(r:xS k A)(h:j≤k):xS j A:=⟨r.hd,by have:=r.dp;lia,by have:=r.un;lia⟩
theorem xS.deeper{k:Nat}{A:aC}(r:xS (k+1) A)(env:Env):xS k (A.deeper env):=
 ⟨r.hd,by have:=r.dp;show A.depth+1+3*k+5<_;lia,by have:=r.un;show A.units+3+16*k+200<_;lia⟩
theorem xjN{A:aC}{C:Addr}{us:List Value}{kw:List (Str×Value)}:(A.under (.builtin "type.__call__" ⟨.ref C::us,kw⟩)).depth=A.depth+1:=by
 first|rfl|simp[iR,Code.weight,Code.isCreation,Code.isGuard,Code.isCaller,Code.frames,iS,guardIds]
theorem xjO{A:aC}{C:Addr}{us:List Value}{kw:List (Str×Value)}:(A.under (.builtin "type.__call__" ⟨.ref C::us,kw⟩)).units=A.units+1:=by
 first|rfl|simp[iR,Code.cUnits,Code.frames,iS]
theorem xS.make{k:Nat}{A:aC}(r:xS (k+1) A)(C:Addr)(us:List Value)(kw:List (Str×Value)):xS k (A.under (.builtin "type.__call__" ⟨.ref C::us,kw⟩)):=
 ⟨r.hd,by have:=r.dp;rw[xjN];lia,by have:=r.un;rw[xjO];lia⟩
theorem xS.depth{k:Nat}{A:aC}(r:xS k A):A.depth<hI:=by have:=r.dp;lia
theorem xS.units{k:Nat}{A:aC}(r:xS k A):A.units+64<cLine:=by have:=r.un;lia
def uP:TA:=fun _ H Q=>Q [] H
def xeZ(ta:TE)(tr:TA):TA:=fun σ H Q=>ta σ H fun x H1=>tr σ H1 fun xs H2=>Q (x::xs) H2
section
variable {X:Cx} {e:Expr} {es:List Expr} {te:TE} {t:TA} {pos:Pos}
theorem xg:PA X [] uP:=fun _ _ _ _ H Q I h=>Calls.spliced_nil ⟨[],H,I,.nil,h⟩
theorem xa(ha:PE X e te)(hr:PA X es t)(hs:aA (e::es) X.env=(false,eval e X.env)::aA es X.env:=by rfl):PA X (e::es) (xeZ te t):=by
 intro pos pins s σ H Q I h;rw[hs];show wpAny _ _ (spliced ((false,eval e X.env)::bC pos (aA es X.env))) _ _ s;refine Calls.spliced_cons (thn (ha pins s σ H _ I h) fun u s1 ⟨x,H1,I1,r1,q1⟩=>?_);exact thn (hr pos pins s1 σ H1 _ I1 q1) fun us s2 ⟨xs,H2,I2,r2,q2⟩=>⟨x::xs,H2,I2,.cons r1 r2,q2⟩
def xqC(t:TA):TE:=fun σ H Q=>t σ H fun xs H1=>xs.length≤aF∧∀p,H1 p=none→Q (.ref p) (upd H1 p (.tup xs))
def xqD(t:TA):TE:=fun σ H Q=>t σ H fun xs H1=>xs.length≤aF∧∀p,H1 p=none→Q (.ref p) (upd H1 p (.lst xs))
theorem xO{x1}(h:PA X es t):PE X (.Tuple es x1 pos) (xqC t):=by
 intro pins s σ H Q I hq;refine wpAny_Tuple_spliced (thn (h pos pins s σ H _ I hq) fun us s1 ⟨xs,H1,I1,r,z,q⟩=>⟨by rw[←r.length];exact z,?_⟩);have hf:H1 s1.heap.objs.size=none:=I1.hok.fresh (av _);refine⟨.ref s1.heap.objs.size,upd H1 s1.heap.objs.size (.tup xs),I1.laid (t':=s1.toks) (fun b u e=>ah _ e) (av _) ?_,rfl,q _ hf⟩;exact⟨z,us,r,⟨_,aK _ rfl,rfl,_,rfl⟩⟩
theorem yd(h:PA X es t):PE X (.List es pos) (xqD t):=by
 intro pins s σ H Q I hq;refine wpAny_List_spliced (thn (h pos pins s σ H _ I hq) fun us s1 ⟨xs,H1,I1,r,z,q⟩=>⟨by rw[←r.length];exact z,?_⟩);have hf:H1 s1.heap.objs.size=none:=I1.hok.fresh (av _);refine⟨.ref s1.heap.objs.size,upd H1 s1.heap.objs.size (.lst xs),I1.laid (t':=s1.toks) (fun b u e=>ah _ e) (av _) ?_,rfl,q _ hf⟩;exact⟨z,us,0,r,aK _ rfl⟩
end
abbrev Sp:=List V→Hp→VK→XK→Prop
abbrev CXT:=List Env→Hp→af→XK→Value→af→Prop
structure jf(P:ai)(w:World)(K:ag)(mg:Str→Option Value)(base:Heap)(A:aC)(outer:List Env)(s:af)(H:Hp):Prop where
 frames:A.frames=some outer
 mod:Mod K mg base
 bs:∀b o,base.get? b=some o→s.heap.get? b=some o∧H b=none
 bsz:base.objs.size≤s.heap.objs.size
 funs:s.heap.FunFrames base outer
 frf:∀b∈frs outer,H b=none
 hok:HOk P w H s.heap
 bare:d8 s.gens
def CE(outer:List Env)(P:ai)(w:World)(H:Hp)(s:af)(Q:VK)(u:Value)(s':af):Prop:=
 ∃v H',s'.os=s.os∧d8 s'.gens∧Un (frs outer) [] H H' s.heap s'.heap∧HOk P w H' s'.heap∧RelV v u∧Q v H'
def CR(CX:CXT)(outer:List Env)(P:ai)(w:World)(H:Hp)(s:af)(Q:VK)(E:XK)(r:gw)(s':af):Prop:=
 match r with
 | .ok (.ret u)=>CE outer P w H s Q u s'
 | .ok _=>False
 | .error e=>CX outer H s E e s'
structure xA(P:ai)(w:World)(K:ag)(mg:Str→Option Value)(base:Heap)(CX:CXT)(k:Nat)(f:Addr)(fd:aj)(ps:List Str)(sp:Sp):Prop where
 len:∀vs H Q E,sp vs H Q E→vs.length=ps.length
 run:∀(A:aC) (outer:List Env) (s:af) (H:Hp) (args:Args) (us:List Value) (vs:List V) (Q:VK) (E:XK),xS k A→jf P w K mg base A outer s H→hX s fd args (ps.zip us)→Vals vs us→sp vs H Q E→
  b9 (model P w) A (.call (.ref f) args) (CR CX outer P w H s Q E) s
theorem jf.make{P:ai}{w:World}{K:ag}{mg:Str→Option Value}{base:Heap}{A:aC}{outer:List Env}{s:af}{H:Hp}(e:jf P w K mg base A outer s H)(C:Addr)(us:List Value)(kw:List (Str×Value)):
  jf P w K mg base (A.under (.builtin "type.__call__" ⟨.ref C::us,kw⟩)) outer s H:=⟨by first|exact e.frames|(simpa [iR,Code.envs,iS,pushEnvs]using e.frames),e.mod,e.bs,e.bsz,e.funs,e.frf,e.hok,e.bare⟩
section
variable {X:Cx} {pins:List (Addr×Obj)} {σ:St} {H:Hp} {s s':af}
theorem Inv.env0(I:Inv X pins σ H s):jf X.prog X.w X.K X.mg X.base X.A X.stack s H:=
 ⟨I.ok.frames,I.ok.mod,I.bs,bp I.ok.bsz I.sz,I.stack,I.stkFree,I.hok,I.bare⟩
theorem Inv.after{Q:VK}{u:Value}(I:Inv X pins σ H s)(h:CE X.stack X.prog X.w H s Q u s'):EP X pins σ Q u s':=by
 obtain⟨v,H',os,bare,un,hok,r,q⟩:=h;obtain⟨hh,g,d,t,os'⟩:=s';obtain rfl:os'=s.os:=os;exact⟨v,H',I.call (h':=hh) (g':=g) (d':=d) (t':=t) (ch:=[]) un hok bare (fun b z=>absurd z (by simp)),r,q⟩
end
def xdU(sp:Sp)(dvs:List V)(E:XK)(t:TA):TE:=fun σ H Q=>t σ H fun vs H1=>sp (vs++dvs) H1 Q E
def yY(C:Addr)(m:Str)(sp:Sp)(dvs:List V)(E:XK)(ta:TE)(t:TA):TE:=fun σ H Q=>ta σ H fun x H1=>∃a dx fs,x= .ref a∧H1 a=some (.ins C dx fs)∧fs.lookup m=none∧
 t σ H1 fun vs H2=>sp (x::(vs++dvs)) H2 Q E
def xpU(C:Addr)(sp:Sp)(dvs:List V)(E:XK)(t:TA):TE:=fun σ H Q=>t σ H fun vs H1=>∀x dx,H1 x=none→H1 dx=none→dx≠x→
 sp (.ref x::(vs++dvs)) (upd (upd H1 dx (.own x)) x (.ins C dx [])) (fun v H2=>v= .non∧Q (.ref x) H2) E
def Binds(K:ag)(fd:aj)(ps:List Str)(ds:List Value):Prop:=
 ∀(s:af) (us:List Value),K.In s.heap→(us++ds).length=ps.length→hX s fd ⟨us,[]⟩ (ps.zip (us++ds))
theorem Binds.all{K:ag}{fd:aj}{ps:List Str}(h:∀us:List Value,us.length=ps.length→dH fd ⟨us,[]⟩=pure (ps.zip us)):Binds K fd ps []:=fun s us _ hl=>by
 rw[dB]at hl⊢;exact .of_eq (h us hl)
def Passes(CX:CXT)(X:Cx)(E:XK):Prop:=∀(pins:List (Addr×Obj)) (σ:St) (H:Hp) (s:af) (e:Value) (s':af),Inv X pins σ H s→CX X.stack H s E e s'→X.xe e s'
section
variable {X:Cx} {CX:CXT} {k:Nat} {f C:Addr} {fd:aj} {ps:List Str} {sp:Sp} {dvs:List V} {ds:List Value} {E:XK} {x m:Str} {p pos apos:Pos} {e o:Expr} {es:List Expr} {ta:TE} {t:TA}
theorem xe0{pins:List (Addr×Obj)}{σ:St}{H:Hp}{s:af}{Q:VK}{us:List Value}{vs:List V}(F:xA X.prog X.w X.K X.mg X.base CX k f fd ps sp)(hr:xS k X.A)(hb:Binds X.K fd ps ds)(hd:Vals dvs ds)(hx:Passes CX X E)
  (I:Inv X pins σ H s) (r:Vals vs us) (h:sp (vs++dvs) H Q E):wpAny (model X.prog X.w) X.A (call (.ref f) us) (EP X pins σ Q) X.xe s:=by
 have r2:Vals (vs++dvs) (us++ds):=r.append hd;have hl:(us++ds).length=ps.length:=by rw[←r2.length];exact F.len _ _ _ _ h
 refine cJ (bR (F.run X.A X.stack s H ⟨us,[]⟩ (us++ds) (vs++dvs) Q E hr I.env0 (hb s us I.kIn hl) r2 h) fun r s' hq=>?_);cases r with
 |error e=>exact hx pins σ H s e s' I hq
 |ok fl=>
  cases fl with
  |ret u=>exact I.after hq
  |next=>exact aT hq
  |brk=>exact aT hq
  |cont=>exact aT hq
theorem xG(F:xA X.prog X.w X.K X.mg X.base CX k f fd ps sp)(hr:xS k X.A)(hg:Gl X x)(hm:X.mg x=some (.ref f))(hk:bV X.K (.ref f)=true)(hb:Binds X.K fd ps ds)(hd:Vals dvs ds)(hx:Passes CX X E)
  (ha:PA X (e::es) t) (hdb:(x==("__debug__":Str))=false:=by decide) (he:aA (e::es) X.env=(false,eval e X.env)::aA es X.env:=by rfl) (hpl:(bC pos (aA es X.env)).any (·.1)=false:=by rfl):
  PE X (.Call (.Name x p) (e::es) [] pos) (xdU sp dvs E t):=by
 intro pins s σ H Q I h;refine bW (zt I hg hm ?_ hdb);refine eF (h₀:=X.base) I.ok.mod.kin hk (thn (ha pos pins s σ H _ I h) fun us s1 ⟨vs,H1,I1,r,q⟩=>⟨I1.kIn,?_⟩) he hpl;exact xe0 F hr hb hd hx I1 r q
theorem xak{pl:Sem Bool}(he:PE X o ta)(c:Cls X.K C)(hm:Meth X.K C m f)(F:xA X.prog X.w X.K X.mg X.base CX k f fd ps sp)(hr:xS k X.A)(hb:Binds X.K fd ps ds)(hd:Vals dvs ds)(hx:Passes CX X E)(ha:PA X (e::es) t)
  (hst:aA (e::es) X.env=(false,eval e X.env)::aA es X.env:=by rfl) (hpl:(bC pos (aA es X.env)).any (·.1)=false:=by rfl)
  (ht:eval (.Call (.Attribute o m apos) (e::es) [] pos) X.env=(do
   let ov ←eval o X.env
   fg apos.atName
   let(f,first) ←dN [ov] (dW ov m pl)
   dI pos f first (bC pos (aA (e::es) X.env)) (eW pos (dJ [] X.env))):=by rfl):
  PE X (.Call (.Attribute o m apos) (e::es) [] pos) (yY C m sp dvs E ta t):=by
 intro pins s σ H Q I h;refine cO (pl:=pl) (thn (he pins s σ H _ I h) fun u s1 ⟨x,H1,I1,rx,a,dx,fs,ex,ea,l,q⟩=>?_) ht;subst ex;obtain rfl:u=az a:=rx;refine uF I1 ea c hm l ?_;refine eF (first:=[.ref a]) (h₀:=X.base) I.ok.mod.kin hm.kp (thn (ha pos pins s1 σ H1 _ I1 q) fun us s2 ⟨vs,H2,I2,r,q2⟩=>⟨I2.kIn,?_⟩) hst hpl;exact xe0 (us:=.ref a::us) (vs:=.ref a::vs) F hr hb hd hx I2 (.cons rfl r) q2
theorem xT{pl:Sem Bool}(he:PE X o ta)(c:Cls X.K C)(hm:Meth X.K C m f)(F:xA X.prog X.w X.K X.mg X.base CX k f fd ps sp)(hr:xS k X.A)(hb:Binds X.K fd ps ds)(hd:Vals dvs ds)(hx:Passes CX X E)
  (ht:eval (.Call (.Attribute o m apos) [] [] pos) X.env=(do
   let ov ←eval o X.env
   fg apos.atName
   let(f,first) ←dN [ov] (dW ov m pl)
   dI pos f first (bC pos (aA [] X.env)) (eW pos (dJ [] X.env))):=by rfl):
  PE X (.Call (.Attribute o m apos) [] [] pos) (yY C m sp dvs E ta uP):=by
 intro pins s σ H Q I h;refine cO (pl:=pl) (thn (he pins s σ H _ I h) fun u s1 ⟨x,H1,I1,rx,a,dx,fs,ex,ea,l,q⟩=>?_) ht;subst ex;obtain rfl:u=az a:=rx;refine uF I1 ea c hm l ?_;exact iF (first:=[.ref a]) I1.kIn hm.kp (xe0 (us:=[.ref a]) (vs:=[.ref a]) F hr hb hd hx I1 (.cons rfl .nil) q)
structure Mk(K:ag)(C f:Addr):Prop where
 makes:W.makesIn K C=true
 init:aL K (.ref C) "__init__"=some (some (.ref f))
 fn:W.isFn K (.ref f)=true
 kp:bV K (.ref C)=true
theorem xl5{pins:List (Addr×Obj)}{σ:St}{H:Hp}{s:af}{Q:VK}{us:List Value}{vs:List V}(M:Mk X.K C f)(F:xA X.prog X.w X.K X.mg X.base CX k f fd ps sp)(hr:xS (k+1) X.A)(hb:Binds X.K fd ps ds)(hd:Vals dvs ds)
  (hx:Passes CX X E) (I:Inv X pins σ H s) (r:Vals vs us)
  (h:∀x dx,H x=none→H dx=none→dx≠x→sp (.ref x::(vs++dvs)) (upd (upd H dx (.own x)) x (.ins C dx [])) (fun v H2=>v= .non∧Q (.ref x) H2) E):
  wpAny (model X.prog X.w) X.A (call (.ref C) us) (EP X pins σ Q) X.xe s:=by
 have hq:=h (s.heap.objs.size+1) s.heap.objs.size (I.hok.fresh (cZ _)) (I.hok.fresh (av _)) (aE (Nat.lt_succ_self _));have I2:=Inv.made (C:=C) I;have r2:Vals (V.ref (s.heap.objs.size+1)::(vs++dvs)) (az (s.heap.objs.size+1)::(us++ds)):=.cons rfl (r.append hd);have hl:(az (s.heap.objs.size+1)::us++ds).length=ps.length:=by
  have e:=r2.length;rw[F.len _ _ _ _ hq]at e;exact e.symm
 refine cJ (xl4 (f:=f) I.kIn M.makes M.init (beq_iff_eq.mp M.fn) (bR (F.run _ X.stack _ _ ⟨az (s.heap.objs.size+1)::us,[]⟩ (az (s.heap.objs.size+1)::(us++ds)) _ _ E (hr.make C us [])
  (I2.env0.make C us []) (hb _ (az (s.heap.objs.size+1)::us) I2.kIn hl) r2 hq) fun r s' hq'=>?_))
 cases r with
 |error e=>exact hx pins σ _ _ e s' I2 hq'
 |ok fl=>
  cases fl with
  |ret u=>
   obtain⟨v,H',I3,rv,ev,q3⟩:=I2.after hq';subst ev;exact⟨rv,⟨V.ref (s.heap.objs.size+1),H',I3,rfl,q3⟩⟩
  |next=>exact aT hq'
  |brk=>exact aT hq'
  |cont=>exact aT hq'
theorem xal(M:Mk X.K C f)(F:xA X.prog X.w X.K X.mg X.base CX k f fd ps sp)(hr:xS (k+1) X.A)(hg:Gl X x)(hm:X.mg x=some (.ref C))(hb:Binds X.K fd ps ds)(hd:Vals dvs ds)(hx:Passes CX X E)
  (ha:PA X (e::es) t) (hdb:(x==("__debug__":Str))=false:=by decide) (he:aA (e::es) X.env=(false,eval e X.env)::aA es X.env:=by rfl) (hpl:(bC pos (aA es X.env)).any (·.1)=false:=by rfl):
  PE X (.Call (.Name x p) (e::es) [] pos) (xpU C sp dvs E t):=by
 intro pins s σ H Q I h;refine bW (zt I hg hm ?_ hdb);refine eF (h₀:=X.base) I.ok.mod.kin M.kp (thn (ha pos pins s σ H _ I h) fun us s1 ⟨vs,H1,I1,r,q⟩=>⟨I1.kIn,?_⟩) he hpl;exact xl5 M F hr hb hd hx I1 r q
end
section
variable {X:Cx} {CX:CXT} {k:Nat} {f C:Addr} {fd:aj} {ps ks:List Str} {sp:Sp} {E:XK} {x m:Str} {p pos apos kpos:Pos} {e o:Expr} {es:List Expr} {kws:List Keyword} {te ta:TE} {t tk:TA} {nm:Option Str}
variable {g:List Value→List Value→List Value} {gV:List V→List V→List V}
end
structure xq(N P:List Str)(sc:Scope):Prop where
 kind:sc.kind= .function
 co:sc.isCoroutine=false
 gen:sc.isGenerator=false
 nd:N.Nodup
 pre:N.take P.length=P
 par:∀x∈P,sc.names.lookup x=some .local∨sc.names.lookup x=some .cell
 nofree:∀y∈sc.names,y.2≠.free
theorem xgC{kindOf:Str→Option cE}{x:Str}:∀{binds:List (Str×Value)} {m:Str→Option Value},(∀v,(x,v)∉binds)→bindL kindOf binds m x=m x
 |[],_,_=>rfl
 |(n,v)::r,m,h=>by
  unfold bindL;rw[xgC fun w hw=>h w (aZ _ hw)]
  split
  ·have:x≠n:=by rintro rfl;exact h v bz
   simp[this]
  ·rfl
theorem xgD{kindOf:Str→Option cE}{x:Str}:∀{binds:List (Str×Value)} {m:Str→Option Value},(∀v,(x,v)∉binds)→bindC kindOf binds m x=m x
 |[],_,_=>rfl
 |(n,v)::r,m,h=>by
  unfold bindC;rw[xgD fun w hw=>h w (aZ _ hw)]
  split
  ·rfl
  ·have:x≠n:=by rintro rfl;exact h v bz
   simp[this]
theorem xgE{kindOf:Str→Option cE}{x:Str}{v:Value}:∀{P:List Str} {vs:List Value} {i:Nat} {m:Str→Option Value},P.Nodup→P[i]? =some x→vs[i]? =some v→kindOf x=some .local→
  bindL kindOf (P.zip vs) m x=some v
 |[],_,_,_,_,h,_,_=>by simp at h
 |_::_,[],_,_,_,_,h,_=>by simp at h
 |p::P,w::vs,0,m,nd,h1,h2,hk=>by
  simp at h1 h2;subst h1;subst h2;show bindL kindOf ((p,w)::P.zip vs) m p=_;unfold bindL;rw[xgC fun v hv=>(bq.mp nd).1 (cu hv).1,if_pos hk];simp
 |p::P,w::vs,i+1,m,nd,h1,h2,hk=>by
  show bindL kindOf ((p,w)::P.zip vs) m x=_;unfold bindL;exact xgE (i:=i) (bq.mp nd).2 (by simpa using h1) (by simpa using h2) hk
theorem xgF{kindOf:Str→Option cE}{x:Str}{v:Value}:∀{P:List Str} {vs:List Value} {i:Nat} {m:Str→Option Value},P.Nodup→P[i]? =some x→vs[i]? =some v→kindOf x≠some .local→
  bindC kindOf (P.zip vs) m x=some v
 |[],_,_,_,_,h,_,_=>by simp at h
 |_::_,[],_,_,_,_,h,_=>by simp at h
 |p::P,w::vs,0,m,nd,h1,h2,hk=>by
  simp at h1 h2;subst h1;subst h2;show bindC kindOf ((p,w)::P.zip vs) m p=_;unfold bindC;rw[xgD fun v hv=>(bq.mp nd).1 (cu hv).1,if_neg hk];simp
 |p::P,w::vs,i+1,m,nd,h1,h2,hk=>by
  show bindC kindOf ((p,w)::P.zip vs) m x=_;unfold bindC;exact xgF (i:=i) (bq.mp nd).2 (by simpa using h1) (by simpa using h2) hk
def start(N:List Str)(vs:List V):St:=vs.map some++aU (N.length - vs.length) none
def zU(CX:CXT)(P:ai)(w:World)(K:ag)(mg:Str→Option Value)(base:Heap)(N:List Str)(qual:Str)(scope:Scope)(f:Addr)(cd:Value)(A:aC)(outer:List Env)(s:af)(H:Hp)(E:XK):Cx where
 prog:=P
 w:=w
 K:=K
 mg:=mg
 base:=base
 A:=A.deeper (cR qual scope s.heap.objs.size f cd)
 N:=N
 s₀:=s
 H₀:=H
 env:=cR qual scope s.heap.objs.size f cd
 outer:=outer
 stack:=cR qual scope s.heap.objs.size f cd::outer
 ex:=[]
 calm:=true
 cp:=fun _=>true
 fn:=fun _=>true
 pn:=[]
 xe:=fun e s'=>wpAny (model P w) (A.deeper (cR qual scope s.heap.objs.size f cd)) (hZ (cR qual scope s.heap.objs.size f cd) e) (fun _ s''=>CX outer H s E e s'') (fun e' s''=>CX outer H s E e' s'') s'
theorem xhC{sc:Scope}{n:Nat}{x:Str}(h:sc.names.lookup x=some .cell):∃c,(fh n sc.names []).lookup x=some c:=by
 have q:=c8 sc.names n [] (.inl h);exact gy.mp q
theorem jy{CX:CXT}{P:ai}{w:World}{K:ag}{mg:Str→Option Value}{base:Heap}{N ps:List Str}{qual:Str}{scope:Scope}{f:Addr}{cd:Value}{A:aC}{outer:List Env}{s s1:af}{H:Hp}{E:XK}{us:List Value}{vs:List V}
  (S:xq N ps scope) (hd:A.handled=none) (e0:jf P w K mg base A outer s H) (hl:vs.length=ps.length) (r:Vals vs us)
  (x:InCallC s s.heap.objs.size (bindL (cR qual scope s.heap.objs.size f cd).kindOf (ps.zip us) fun _=>none) (fh (s.heap.objs.size+1) scope.names []) (bindC (cR qual scope s.heap.objs.size f cd).kindOf (ps.zip us) fun _=>none) s1):
  Inv (zU CX P w K mg base N qual scope f cd A outer s H E) [] (start N vs) H s1:=by
 have hpl:ps.length≤N.length:=by have:=congrArg gX S.pre;rw[cm]at this;lia
 obtain⟨h1,tk,rfl,hk⟩:=x.done;have noA:∀b:Addr,b∉(zU CX P w K mg base N qual scope f cd A outer s H E).ex:=fun b z=>absurd (show b∈([]:List Addr)from z) (by simp);refine⟨⟨e0.mod,S.kind,rfl,rfl,av _,fun y z c h1 h2=>?_,fun y hy=>?_,fun y c _ h=>?_,fun _=>hd,iq e0.frames,.inr ⟨rfl,rfl⟩,fun b z=>absurd z (noA b),e0.bs,e0.bsz,fun b _ _=>noA b,fun b z=>absurd z (noA b),e0.funs,e0.frf,fun y c _ h=>fq (x.above y c (PySem.mem_of_lookup h)),fun b hb=>e0.hok.fresh hb⟩,
  rfl,e0.bare,Un.kept hk,⟨_,x.toInCall.ns,fun i y v h1 h2 h3=>?_⟩,fun y c h=>⟨_,x.cell y c h⟩,e0.hok.fresh (av _),fun y c h=>.inl ?_,fun p hp=>absurd (show p∈([]:List (Addr×Obj))from hp) (by simp),e0.hok.kept hk,?_⟩
 ·exact name_of_addr x.apart (PySem.mem_of_lookup h1) (PySem.mem_of_lookup h2)
 ·have hy:scope.names.lookup y=some .cell∨scope.names.lookup y=some .free:=hy;rcases hy with hy|hy
  ·exact xhC hy
  ·exact absurd rfl (S.nofree _ (PySem.mem_of_lookup hy))
 ·exact fq (x.above y c (PySem.mem_of_lookup h))
 ·have hi:i<vs.length:=by
   unfold start at h2
   by_cases hi:i<vs.length
   ·exact hi
   ·rw[bS (by simpa using hi)]at h2;rw[gK]at h2
    split at h2<;> cases h2
  have ha:vs[i]? =some v:=by
   unfold start at h2;rw[bL (by simpa using hi),aJ]at h2;cases e:vs[i]? with
   |none=>rw[e]at h2;cases h2
   |some a=>rw[e]at h2;cases h2;rfl
  obtain⟨u,hu,rv⟩:=r.get ha;have hp:ps[i]? =some y:=by
   rw[←S.pre,eG (by lia)];exact h1
  have ndP:ps.Nodup:=by rw[←S.pre];exact S.nd.sublist (List.take_sublist _ _)
  refine⟨u,rv,?_⟩;rcases S.par y (bf hp)with k|k
  ·exact .inl ⟨k,xgE ndP hp hu k⟩
  ·obtain⟨c,e⟩:=xhC (n:=s.heap.objs.size+1) k;refine .inr ⟨.inl k,c,e,?_⟩;have q:=x.cell y c e;rw[xgF ndP hp hu (by show scope.names.lookup y≠_;rw[k];decide)]at q;exact q
 ·exact e0.hok.fresh (fq (x.above y c (PySem.mem_of_lookup h)))
 ·unfold start;show _=N.length;rw[aY,aq,dQ];lia
theorem xe1{CX:CXT}{P:ai}{w:World}{K:ag}{mg:Str→Option Value}{base:Heap}{k:Nat}{f:Addr}{name qual:Str}{params:bX}{body:List Stmt}{scope:Scope}{dV kV doc pm cdv ct oc:Value}{an od:Option Addr}
  {osl:Array (Option Value)} {N ps:List Str} {sp:Sp} (lk:K.lookup f=some ⟨oc,od,.func (bU name qual params body scope dV kV doc pm an cdv ct),osl⟩) (hcd:cw K cdv qual=true) (S:xq N ps scope)
  (len:∀vs H Q E,sp vs H Q E→vs.length=ps.length)
  (hbody:∀(A:aC) (outer:List Env) (s:af) (H:Hp) (vs:List V) (Q:VK) (E:XK),xS k (A.deeper (cR qual scope s.heap.objs.size f cdv))→sp vs H Q E→
   ∃t,PSs (zU CX P w K mg base N qual scope f cdv A outer s H E) body t∧t {nx:=fun _ H'=>Q .non H',rt:=Q} (start N vs) H):
  xA P w K mg base CX (k+1) f (bU name qual params body scope dV kV doc pm an cdv ct) ps sp:=by
 refine⟨len,fun A outer s H args us vs Q E hr e0 hb r hsp=>?_⟩;have hl:=len _ _ _ _ hsp;have KX:K.In s.heap:=e0.mod.kin.keeps fun b o e=>(e0.bs b o e).1;have lim:s.heap.NoLimit:=e0.mod.nolimit.keeps fun b o e=>(e0.bs b o e).1;have hkind:∀y∈ps.zip us,scope.names.lookup y.1=some .local∨(scope.names.lookup y.1=some .cell∧((fh (s.heap.objs.size+1) scope.names []).lookup y.1).isSome=true):=fun⟨n,v⟩ hy=>by
  rcases S.par n (cu hy).1 with q|q
  ·exact .inl q
  ·exact .inr ⟨q,c8 _ _ _ (.inl q)⟩
 refine cn hr.depth (KX _ _ lk) rfl S.co S.gen rfl (fy KX hcd) (hb _ _ _ _ ?_);refine cc S.kind hkind fun env he s1 x=>?_;subst he;refine⟨lim.keeps x.toInCall.keep,fz ?_⟩;obtain⟨t,ht,hq⟩:=hbody A outer s H vs Q E (hr.deeper _) hsp;have I:Inv (zU CX P w K mg base N qual scope f cdv A outer s H E) [] (start N vs) H s1:=jy S hr.hd e0 hl r x;refine aG (ht [] s1 (start N vs) H _ I hq) (fun fl s' hs=>?_) fun e s' hs=>hs;have fin:∀{σ':St} {H':Hp} {v:V} {u:Value},Inv (zU CX P w K mg base N qual scope f cdv A outer s H E) [] σ' H' s'→RelV v u→Q v H'→CE outer P w H s Q u s':=
  fun{σ' H' v u} J rv q=>⟨v,H',J.os,J.bare,J.base,J.hok,rv,q⟩
 cases fl with
 |ret u=>
  obtain⟨v,σ',H',J,rv,q⟩:=hs;exact fin J rv q
 |next=>
  obtain⟨σ',H',J,q⟩:=hs;exact fin (v:=V.non) (u:=aS) J rfl q
 |brk=>
  obtain⟨_,_,_,q⟩:=hs;exact aT q
 |cont=>
  obtain⟨_,_,_,q⟩:=hs;exact aT q
end L2
namespace L2
open PySem PySem.Spec PyProof.Rows
section
variable {X:Cx} {x:Str} {p pos:Pos} {e:Expr} {es:List Expr} {t:TA} {id T:String} {r:List V→Hp→VK→Prop}
def tCB(r:List V→Hp→VK→Prop)(t:TA):TE:=fun σ H Q=>t σ H fun vs H1=>r vs H1 Q
theorem xQ(hc:yF X (.builtin id) r)(hg:Gl X x)(hm:X.mg x=none)(hv:bx x=some (.builtin id))(ha:PA X (e::es) t)(hn:x≠"__name__":=by decide)(hdb:(x==("__debug__":Str))=false:=by decide)
  (he:aA (e::es) X.env=(false,eval e X.env)::aA es X.env:=by rfl) (hpl:(bC pos (aA es X.env)).any (·.1)=false:=by rfl):PE X (.Call (.Name x p) (e::es) [] pos) (tCB r t):=by
 intro pins s σ H Q I h;refine bW (ur I hg hm hv ?_ hn hdb);exact PyProof.Rows.callWith_builtin1 (thn (ha pos pins s σ H _ I h) fun us s1 ⟨vs,H1,I1,r1,q1⟩=>hc pins s1 σ H1 vs us Q I1 r1 q1) he hpl
theorem ym(hc:yF X (.type T) r)(hg:Gl X x)(hm:X.mg x=none)(hv:bx x=some (.type T))(ha:PA X (e::es) t)(hn:x≠"__name__":=by decide)(hdb:(x==("__debug__":Str))=false:=by decide)
  (he:aA (e::es) X.env=(false,eval e X.env)::aA es X.env:=by rfl) (hpl:(bC pos (aA es X.env)).any (·.1)=false:=by rfl):PE X (.Call (.Name x p) (e::es) [] pos) (tCB r t):=by
 intro pins s σ H Q I h;refine bW (ur I hg hm hv ?_ hn hdb);exact bJ (thn (ha pos pins s σ H _ I h) fun us s1 ⟨vs,H1,I1,r1,q1⟩=>hc pins s1 σ H1 vs us Q I1 r1 q1) he hpl
end
end L2
namespace HT
open PySem PyProof.Rows
section
open PySem.SeqAt
open PySem.AutoSeq1 (wpAny_loadPart')
open PySem.MeetsSeq PySem.MeetsSeq2 PySem.MeetsSeq3
end
section
variable {prog:ai} {w:World} {A:aC} {E:Value→af→Prop} {s:af}
theorem xni{t b:Addr}{vs ws:List Value}{Q:Value→af→Prop}(ht:IsTup s.heap t vs.toArray)(hb:IsTup s.heap b ws.toArray)(hv:vs≠[])
  (h1:ws=[]→Q (.ref t) s) (h2:ws≠[]→Q (.ref s.heap.objs.size) {s with heap:=s.heap.push {cls:=.type "tuple",data:=.seq (vs++ws).toArray}})
  (hsz:vs.length+ws.length≤aF):wpAny (model prog w) A (ck .Add (.ref t) (.ref b)) Q E s:=by
 obtain⟨⟨cls,dd,data,sl⟩,ho,hc,n,hd⟩:=id ht;obtain⟨⟨cls2,dd2,data2,sl2⟩,ho2,hc2,n2,hd2⟩:=id hb;simp only at hc hd hc2 hd2;subst hc hd hc2 hd2;have e:vs.toArray++ws.toArray=(vs++ws).toArray:=by simp
 by_cases hw:ws=[]
 ·exact concat_meets ⟨_,ho,rfl⟩ ⟨_,ho2,rfl⟩ noFill_tuple_add seq_tuple_add PySem.F.slot_tuple_add PySem.F.entry_tuple_add (PySem.F.args_tuple_add_2 _ _)
   (tuple_addW1 t b vs.toArray ws.toArray n n2 dd dd2 sl sl2 (by simpa using hv) (by simp[hw])) ⟨ho,ho2,h1 hw⟩
 ·refine concat_meets ⟨_,ho,rfl⟩ ⟨_,ho2,rfl⟩ noFill_tuple_add seq_tuple_add PySem.F.slot_tuple_add PySem.F.entry_tuple_add (PySem.F.args_tuple_add_2 _ _)
   (tuple_addW2 t b vs.toArray ws.toArray n n2 dd dd2 sl sl2 (by simpa using hv) (by simpa using hw) (by rw[aH,aH];exact hsz)) ⟨ho,ho2,?_⟩
  rw[e];exact h2 hw
def sIx(n d:Nat):Option Int→Nat
 |none=>d
 |some v=>if v<0 then(v+(n:Int)).toNat else min v.toNat n
theorem xl6(n d:Nat):sIx n d none=d:=rfl
theorem xoR(n d:Nat)(hd:d≤n)(o:Option Int):sIx n d o≤n:=by
 cases o with
 |none=>exact hd
 |some v=>
  show(if v<0 then(v+(n:Int)).toNat else min v.toNat n)≤n
  by_cases hv:v<0
  ·rw[if_pos hv];lia
  ·rw[if_neg hv];exact Nat.min_le_right _ _
theorem xjb(v:Int)(n d:Nat):(if v<0 then max (v+(n:Int)) 0 else min v (n:Int))=((sIx n d (some v):Nat):Int):=by
 show(if v<0 then max (v+(n:Int)) 0 else min v (n:Int))=(((if v<0 then(v+(n:Int)).toNat else min v.toNat n):Nat):Int)
 by_cases hv:v<0
 ·simp only[if_pos hv];lia
 ·simp only[if_neg hv];lia
theorem xjP(lo hi:Option Int)(n:Nat):eA lo hi 1 (n:Int)=(((sIx n 0 lo:Nat):Int),((sIx n n hi:Nat):Int)):=by
 have h1:¬((1:Int)<0):=by lia
 unfold eA;simp only[h1,if_false];refine Prod.ext ?_ ?_
 ·cases lo with
  |none=>rfl
  |some v=>exact xjb v n 0
 ·cases hi with
  |none=>rfl
  |some v=>exact xjb v n n
theorem xjQ(i j:Nat):cV (i:Int) (j:Int) 1=j - i:=by
 unfold cV;have h1:(1:Int) > 0:=by lia
 simp only[h1,if_true,Int.ediv_one]
 split<;> lia
theorem xe2{v:Value}{o:Option Int}{Q:Option Int→af→Prop}(p:gz v o)(h:Q o s):wpAny (model prog w) A (Builtin.Slice.slicePartIndex v) Q E s:=by
 cases p with
 |none=>exact slicePart_none h
 |int i t=>exact slicePart_int h
theorem xez{sl:Addr}{vl vu:Value}{lo hi:Option Int}{n:Nat}{Q:Int×Int×Nat→af→Prop}(hs:s.heap.IsSliceOf sl vl vu .none)(pl:gz vl lo)(pu:gz vu hi)
  (h:Q (((sIx n 0 lo:Nat):Int),1,sIx n n hi - sIx n 0 lo) s):wpAny (model prog w) A (f9 (.ref sl) (pure (n:Int))) Q E s:=by
 obtain⟨os,hos,hcs,hds⟩:=id hs;unfold f9 Builtin.Slice.sliceFields;refine aa (aa (bj hos hds (x:=vl) rfl (aa (bj hos hds (x:=vu) rfl (aa (bj hos hds (x:=.none) rfl (ao ?_)))))));refine aa (slicePart_none ?_);show wpAny _ _ (if ((1:Int)==0)=true then _ else _) _ _ s;rw[if_neg (by decide)];refine aa (xe2 pl (aa (xe2 pu (aa (ao ?_)))));show wpAny _ _ (match eA lo hi 1 (n:Int)with|(lo,hi)=>pure (lo,(1:Int),cV lo hi 1)) _ _ s;rw[xjP lo hi n];show wpAny _ _ (pure (((sIx n 0 lo:Nat):Int),(1:Int),cV ((sIx n 0 lo:Nat):Int) ((sIx n n hi:Nat):Int) 1)) _ _ s;rw[xjQ];exact ao h
theorem xl7(xs:Array Value)(i k:Nat):((cT k).filterMap fun(m:Nat)=>xs[((i:Int)+(m:Int)*1).toNat]?).toArray=((xs.toList.drop i).take k).toArray:=by
 have e:(fun(m:Nat)=>xs[((i:Int)+(m:Int)*1).toNat]?)=fun m=>xs[i+m]? :=by
  funext m
  have:((i:Int)+(m:Int)*1).toNat=i+m:=by lia
  rw[this]
 rw[e];have:=pick_run xs i k;rw[List.filterMap_map]at this;have e2:((fun x=>xs[x]?)∘fun x=>i+x)=fun m=>xs[i+m]? :=rfl;rw[e2]at this;rw[this]
theorem xd7{t sl:Addr}{items:Array Value}{vl vu:Value}{lo hi:Option Int}{Q:Value→af→Prop}(ht:IsTup s.heap t items)(hs:s.heap.IsSliceOf sl vl vu .none)(pl:gz vl lo)(pu:gz vu hi)
  (hw:¬(sIx items.size 0 lo=0∧sIx items.size items.size hi=items.size))
  (h:Q (.ref s.heap.objs.size) {s with heap:=s.heap.push {cls:=.type "tuple",data:=.seq ((items.toList.drop (sIx items.size 0 lo)).take (sIx items.size items.size hi - sIx items.size 0 lo)).toArray}})
  (hsz:items.size≤aF):wpAny (model prog w) A (fL (.ref t) (.ref sl)) Q E s:=by
 have htake:sizeOk (.seq ((items.toList.drop (sIx items.size 0 lo)).take (sIx items.size items.size hi - sIx items.size 0 lo)).toArray):=by
  show((items.toList.drop (sIx items.size 0 lo)).take (sIx items.size items.size hi - sIx items.size 0 lo)).toArray.size≤aF;rw[aH,cm,List.length_drop,cC];lia
 have hj:sIx items.size items.size hi≤items.size:=xoR _ _ (av _) hi;obtain⟨os,hos,hcs,hds⟩:=id hs;have hTs:s.TypeIs (.ref sl) "slice":=⟨os,hos,hcs⟩;unfold fL
 try with_reducible refine bt ?_
 first|refine aa (ao ?_)|skip
 refine aa (wpAny_sequenceKey ht.typeIs (by decide) ?_);refine aa (dy (name:=aN "__getitem__") ht.typeIs dv
  (eX dv ht.typeIs entry_tuple_getitem ?_ (args_tuple_getitem _ _)))
 show wpAny _ _ (Builtin.Tuple.tupleItemsOf (.ref t) >>= _) _ _ s;refine aa (tupleItemsOf_ ht ?_);refine aa (wpAny_typeOf hTs ?_);rw[if_pos (by decide)];refine aa (xez hs pl pu ?_);have hno:¬((((sIx items.size 0 lo:Nat):Int)==0&&(1:Int)==1&&(sIx items.size items.size hi - sIx items.size 0 lo)==items.size)=true):=by
  intro q;rw[df,df]at q;have q1:((sIx items.size 0 lo:Nat):Int)=0:=eq_of_beq q.1.1;have q2:sIx items.size items.size hi - sIx items.size 0 lo=items.size:=eq_of_beq q.2;exact hw ⟨by lia,by lia⟩
 show wpAny _ _ (if (((sIx items.size 0 lo:Nat):Int)==0&&(1:Int)==1&&(sIx items.size items.size hi - sIx items.size 0 lo)==items.size)=true then _ else _) _ _ s;rw[if_neg hno,xl7]
 first
  |exact aa (m:=dg _) (bN (ao ⟨_,rfl,ao h⟩) htake)
  |exact aa (m:=dg _) (bN (aa (ao (ao ⟨_,rfl,ao h⟩))) htake)
  |exact aa (aa (m:=dg _) (bN (ao (ao ⟨_,rfl,ao h⟩)) htake))
  |exact aa (aa (m:=dg _) (bN (ao ⟨_,rfl,ao h⟩) htake))
end
end HT
namespace L2
open PySem PySem.Spec PyProof.Rows
abbrev TO:=St→Hp→(Option Int→Hp→Prop)→Prop
def PO(X:Cx)(e:Option Expr)(t:TO):Prop:=
 ∀(pins:List (Addr×Obj)) (s:af) (σ:St) (H:Hp) (Q:Option Int→Hp→Prop),Inv X pins σ H s→t σ H Q→
  wpAny (model X.prog X.w) X.A (evalPart e X.env) (fun u s'=>∃o H',Inv X pins σ H' s'∧gz u o∧Q o H') X.xe s
def xnj:TO:=fun _ H Q=>Q none H
def xpV(t:TE):TO:=fun σ H Q=>t σ H fun x H1=>∃i,x= .int i∧Q (some i) H1
theorem intsAre_of{ns:List Int}:∀{us:List Value},Vals (ns.map V.int) us→ia us ns:=by
 induction ns with
 |nil=>intro us r;rw[gA]at r;cases r;exact .nil
 |cons n ns ih=>
  intro us r;rw[bA]at r;cases r with
  |cons r1 r2=>
   obtain⟨t,e⟩:=r1;subst e;exact .cons n t (ih r2)
section
variable {X:Cx} {e:Expr} {te:TE} {lo hi:Option Expr} {tl th:TO} {pos p2:Pos}
theorem xam:PO X none xnj:=by
 intro pins s σ H Q I h;rw[evalPart_none];exact ao ⟨none,H,I,.none,h⟩
theorem xan(h:PE X e te):PO X (some e) (xpV te):=by
 intro pins s σ H Q I hw;rw[evalPart_some];refine thn (h pins s σ H _ I hw) fun u s1 ⟨x,H1,I1,r1,q1⟩=>?_;obtain⟨i,rfl,q⟩:=q1;obtain⟨t,rfl⟩:=r1;exact⟨some i,H1,I1,.int i t,q⟩
def SlR(X:Cx)(r:V→Option Int→Option Int→Hp→VK→Prop):Prop:=
 ∀(pins:List (Addr×Obj)) (s:af) (σ:St) (H:Hp) (x:V) (v vl vu:Value) (lo hi:Option Int) (sl:Addr) (Q:VK),Inv X pins σ H s→RelV x v→s.heap.IsSliceOf sl vl vu .none→gz vl lo→gz vu hi→r x lo hi H Q→
  ∃T id,ir (.type T) "__getitem__"=pure (some (.builtin id))∧s.TypeIs v T∧wpAny (model X.prog X.w) X.A (fL v (.ref sl)) (EP X pins σ Q) X.xe s
def tSl(r:V→Option Int→Option Int→Hp→VK→Prop)(te:TE)(tl th:TO):TE:=fun σ H Q=>te σ H fun x H1=>tl σ H1 fun l H2=>th σ H2 fun u H3=>r x l u H3 Q
theorem jg{r:V→Option Int→Option Int→Hp→VK→Prop}(hr:SlR X r)(he:PE X e te)(hl:PO X lo tl)(hu:PO X hi th):PE X (.Subscript e (.Slice lo hi none p2) pos) (tSl r te tl th):=by
 intro pins s σ H Q I h;refine Subscript_ (thn (he pins s σ H _ I h) fun v s1 ⟨x,H1,I1,r1,q1⟩=>?_);refine wpAny_Slice (thn (hl pins s1 σ H1 _ I1 q1) fun vl s2 ⟨l,H2,I2,pl,q2⟩=>thn (hu pins s2 σ H2 _ I2 q2) fun vu s3 ⟨u,H3,I3,pu,q3⟩=>?_);rw[evalPart_none];refine ao ?_;have I4:Inv X pins σ H3 {s3 with heap:=s3.heap.push {cls:=.type "slice",data:=.fields #[vl,vu,.none]}}:=I3.kept (t':=s3.toks) fun b ob q=>ah _ q;obtain⟨T,id,hT,ht,hg⟩:=hr pins {s3 with heap:=s3.heap.push {cls:=.type "slice",data:=.fields #[vl,vu,.none]}} σ H3 x v vl vu l u s3.heap.objs.size Q I4 r1 (Heap.IsSliceOf.new ..) pl pu q3;show wpAny (model X.prog X.w) X.A (iG e (.Slice lo hi none p2) v (.ref s3.heap.objs.size)) (EP X pins σ Q) X.xe {s3 with heap:=s3.heap.push {cls:=.type "slice",data:=.fields #[vl,vu,.none]}};exact tail_any (ops:=[.ref s3.heap.objs.size,v]) ht hT hg (by with_unfolding_all rfl)
def jK(xs:List V)(lo hi:Option Int):List V:=(xs.drop (HT.sIx xs.length 0 lo)).take (HT.sIx xs.length xs.length hi - HT.sIx xs.length 0 lo)
theorem xef(xs:List V)(lo hi:Option Int):(jK xs lo hi).length≤xs.length:=by
 unfold jK;rw[cm,List.length_drop];lia
def xqE(K:ag):V→Option Int→Option Int→Hp→VK→Prop:=fun x lo hi H Q=>∃a xs,x= .ref a∧SqT K H a xs∧
 ¬(HT.sIx xs.length 0 lo=0∧HT.sIx xs.length xs.length hi=xs.length)∧∀p,H p=none→Q (.ref p) (upd H p (.tup (jK xs lo hi)))
theorem xkU:SlR X (xqE X.K):=by
 intro pins s σ H x v vl vu lo hi sl Q I rx hs pl pu h;obtain⟨a,xs,rfl,hx,hw,q⟩:=h;cases rx;obtain⟨its,r,ht,hz⟩:=I.tuple hx;have hlen:its.toArray.size=xs.length:=by rw[aH];exact r.length.symm
 refine⟨"tuple",_,dv.lookup,ht.typeIs,?_⟩;refine HT.xd7 ht hs pl pu (by rw[hlen];exact hw) ?_ (by rw[hlen];exact hz);rw[hlen];refine⟨.ref s.heap.objs.size,_,I.laid (t':=s.toks) (o:=.tup (jK xs lo hi)) (fun b ob q=>ah _ q) (av _) ?_,rfl,q _ (I.hok.fresh (av _))⟩;exact⟨bp (xef xs lo hi) hz,_,(r.drop (HT.sIx xs.length 0 lo)).take (HT.sIx xs.length xs.length hi - HT.sIx xs.length 0 lo),IsTup.new _ _⟩
def xpW(K:ag):R2:=fun x y H Q=>∃a b xs ys,x= .ref a∧y= .ref b∧SqT K H a xs∧SqT K H b ys∧xs≠[]∧xs.length+ys.length≤aF∧
 (ys=[]→Q (.ref a) H)∧(ys≠[]→∀p,H p=none→Q (.ref p) (upd H p (.tup (xs++ys))))
theorem Vals.nil_iff{xs:List V}{us:List Value}(r:Vals xs us):us=[]↔xs=[]:=by
 cases r with
 |nil=>simp
 |cons _ _=>simp
theorem xjc:OpR X (ck .Add) (xpW X.K):=by
 intro pins s σ H x y v u Q I rx ry h;obtain⟨a,b,xs,ys,rfl,rfl,ha,hb,hx,hz,q1,q2⟩:=h;cases rx;cases ry;obtain⟨its,r1,p1,_⟩:=I.tuple ha;obtain⟨its2,r2,p2,_⟩:=I.tuple hb;refine HT.xni p1 p2 (fun z=>hx (r1.nil_iff.mp z)) (fun z=>⟨.ref a,H,I,rfl,q1 (r2.nil_iff.mp z)⟩) (fun z=>?_) (by rw[←r1.length,←r2.length];exact hz);refine⟨.ref s.heap.objs.size,_,I.laid (t':=s.toks) (o:=.tup (xs++ys)) (fun b ob q=>ah _ q) (av _) ?_,rfl,q2 (fun w=>z (r2.nil_iff.mpr w)) _ (I.hok.fresh (av _))⟩;exact⟨by rw[aY];exact hz,_,r1.append r2,IsTup.new _ _⟩
end
end L2
namespace L2
open PySem PySem.Spec PyProof.Rows
def ixN(n:Nat)(i:Int):Option Nat:=if 0≤i then(if i<n then some i.toNat else none)else if -(n:Int)≤i then some (i+n).toNat else none
def atI{α:Type}(xs:List α)(i:Int):Option α:=(ixN xs.length i).bind fun j=>xs[j]?
theorem xjd{n:Nat}{i:Int}{j:Nat}(h:ixN n i=some j):seqIndex? i n=some j∧j<n∧-(n:Int)≤i∧i<n:=by
 unfold ixN at h
 by_cases h0:0≤i
 ·rw[if_pos h0]at h
  by_cases h1:i<n
  ·rw[if_pos h1]at h;have e:i.toNat=j:=aX h;exact⟨by rw[seqIndex_of h0 h1,e],by lia,by lia,h1⟩
  ·rw[if_neg h1]at h;cases h
 ·rw[if_neg h0]at h
  by_cases h1: -(n:Int)≤i
  ·rw[if_pos h1]at h;have e:(i+n).toNat=j:=aX h;exact⟨by rw[seqIndex_neg (by lia) h1,e],by lia,h1,by lia⟩
  ·rw[if_neg h1]at h;cases h
theorem xje{α:Type}{xs:List α}{i:Int}{v:α}(h:atI xs i=some v):∃j,seqIndex? i xs.length=some j∧xs[j]? =some v∧j<xs.length∧-(xs.length:Int)≤i∧i<xs.length:=by
 unfold atI at h;cases e:ixN xs.length i with
 |none=>rw[e]at h;cases h
 |some j=>
  rw[e]at h;obtain⟨h1,h2,h3,h4⟩:=xjd e;exact⟨j,h1,h,h2,h3,h4⟩
theorem xjf{α:Type}{xs:List α}{j:Nat}{v:α}(h:xs[j]? =some v):atI xs (j:Int)=some v:=by
 have hj:j<xs.length:=(aB.mp h).1;have e:ixN xs.length (j:Int)=some j:=by
  unfold ixN;rw[if_pos (by lia),if_pos (by lia)];simp
 unfold atI;rw[e];exact h
def xnk(b:Expr):Prop:=∀o i,gY b false o i=operate [o,i] (fL o i)
def IxR(X:Cx)(r:R2):Prop:=
 ∀(value slice:Expr) (pins:List (Addr×Obj)) (s:af) (σ:St) (H:Hp) (x y:V) (v u:Value) (Q:VK),Inv X pins σ H s→RelV x v→RelV y u→r x y H Q→
  gY slice false v u=operate [v,u] (fL v u)→wpAny (model X.prog X.w) X.A (iG value slice v u) (EP X pins σ Q) X.xe s
def MtR(X:Cx)(id:String)(r:V→List V→Hp→VK→Prop):Prop:=
 ∀(pins:List (Addr×Obj)) (s:af) (σ:St) (H:Hp) (x:V) (xs:List V) (v:Value) (us:List Value) (Q:VK),Inv X pins σ H s→RelV x v→Vals xs us→r x xs H Q→
  wpAny (model X.prog X.w) X.A (call (.builtin id) (v::us)) (EP X pins σ Q) X.xe s
section
variable {X:Cx} {a b:Expr} {ta tb:TE} {pos:Pos}
theorem xy{r:R2}(hr:IxR X r)(ha:PE X a ta)(hb:PE X b tb)(hs:xnk b):PE X (.Subscript a b pos) (tOp r ta tb):=by
 intro pins s σ H Q I h;exact Subscript_ (xl1 ha hb I h fun v u s2 x y H2 I2 rx ry q=>hr a b pins s2 σ H2 x y v u Q I2 rx ry q (hs _ _))
def xoS(K:ag):R2:=fun x y H Q=>∃p xs i v,x= .ref p∧y= .int i∧SqL K H p xs∧atI xs i=some v∧Q v H
def xoT(K:ag):R2:=fun x y H Q=>∃p xs i v,x= .ref p∧y= .int i∧SqT K H p xs∧atI xs i=some v∧Q v H
theorem xU:IxR X (xoS X.K):=by
 intro value slice pins s σ H x y v u Q I rx ry h hs;obtain⟨p,xs,i,z,rfl,rfl,hq,he,q⟩:=h;cases rx;obtain⟨t,rfl⟩:=ry;obtain⟨its,r,pl,hz⟩:=I.list hq;obtain⟨j,h1,h2,h3,h4,h5⟩:=xje he;obtain⟨w,ew,rw'⟩:=r.get h2;have hl:=r.length;have hn:=xeY;have fin:EP X pins σ Q w s:=⟨z,H,I,rw',q⟩
 by_cases h0:0≤i
 ·have hj:i.toNat=j:=by
   rw[seqIndex_of h0 h5]at h1;exact aX h1
  exact item_listR pl.isList h0 (by lia) (by rw[hj];simpa using ew) fin hs
 ·have hj:(i+(its.toArray.size:Int)).toNat=j:=by
   rw[seqIndex_neg (by lia) h4]at h1;rw[aH,←hl];exact aX h1
  exact subscriptTail_builtinR (x:=w) pl.isList.typeIs slot_list_getitem.lookup
   (wpAny_getItem_list_neg (Q:=fun r s'=>r=w∧EP X pins σ Q r s') pl.isList (by lia) (by rw[aH]<;> lia) (by lia) (by rw[hj];simpa using ew) ⟨rfl,fin⟩) hs
theorem xM:IxR X (xoT X.K):=by
 intro value slice pins s σ H x y v u Q I rx ry h hs;obtain⟨p,xs,i,z,rfl,rfl,hq,he,q⟩:=h;cases rx;obtain⟨t,rfl⟩:=ry;obtain⟨its,r,pl,hz⟩:=I.tuple hq;obtain⟨j,h1,h2,h3,h4,h5⟩:=xje he;obtain⟨w,ew,rw'⟩:=r.get h2;have hl:=r.length;have hn:=xeY;have fin:EP X pins σ Q w s:=⟨z,H,I,rw',q⟩;exact subscriptTail_builtinR (x:=w) pl.typeIs slot_tuple_getitem.lookup
  (getItem_tuple (j:=j) (Q:=fun r s'=>r=w∧EP X pins σ Q r s') pl (by lia) (by lia) (by rw[aH,←hl];exact h1) (by simpa using ew) ⟨rfl,fin⟩) hs
theorem xjR(its:List Value)(n j:Nat)(u:Value):cK (·.setIfInBounds j u) {cls:=.type "list",data:=.seq its.toArray n}={cls:=.type "list",data:=.seq (its.set j u).toArray n}:=by
 simp[cK]
theorem Inv.lst{pins:List (Addr×Obj)}{σ:St}{H:Hp}{s:af}{p:Addr}{xs:List V}(I:Inv X pins σ H s)(h:H p=some (.lst xs)):
  ∃(its:List Value) (n:Nat),Vals xs its∧s.heap.get? p=some {cls:=.type "list",data:=.seq its.toArray n}∧xs.length≤aF:=by
 obtain⟨z,its,n,r,e⟩:=I.hok p _ h;exact⟨its,n,r,e,z⟩
theorem Inv.lstUpd{pins:List (Addr×Obj)}{σ:St}{H:Hp}{s:af}{p:Addr}{xs ys:List V}{its its':List Value}{n n':Nat}{f:Obj→Obj}(I:Inv X pins σ H s)(h:H p=some (.lst xs))
  (ho:s.heap.get? p=some {cls:=.type "list",data:=.seq its.toArray n}) (hf:f {cls:=.type "list",data:=.seq its.toArray n}={cls:=.type "list",data:=.seq its'.toArray n'}) (r:Vals ys its') (hz:ys.length≤aF) (t:Nat):
  Inv X pins σ (upd H p (.lst ys)) {s with heap:=s.heap.update p f,toks:=t}:=by
 have e:(s.heap.update p f).get? p=some {cls:=.type "list",data:=.seq its'.toArray n'}:=by
  rw[a5 f ho (by rw[hf]<;> rfl),hf]
 refine I.write (x:=p) (e:=p) (by rw[h];trivial) (.inl rfl) (fun b u hb q=>(aM _ _ (ak hb)).trans q) ⟨_,e⟩ ?_;exact⟨hz,its',n',r,e⟩
def xmT:V→V→V→Hp→(Hp→Prop)→Prop:=fun o i v H Q=>∃p xs k j,o= .ref p∧i= .int k∧H p=some (.lst xs)∧ixN xs.length k=some j∧Q (upd H p (.lst (xs.set j v)))
theorem set_list:xlX X xmT:=by
 intro pins s σ H o i v ov iv u Q I ro ri rv h;obtain⟨p,xs,k,j,rfl,rfl,hp,hj,q⟩:=h;cases ro;obtain⟨t,rfl⟩:=ri;obtain⟨its,n,r,ho,hz⟩:=I.lst hp;obtain⟨h1,h2,h3,h4⟩:=xjd hj;have hl:=r.length;have hn:=xeY;have I':Inv X pins σ (upd H p (.lst (xs.set j v))) {s with heap:=s.heap.update p (cK (·.setIfInBounds j u))}:=
  I.lstUpd hp ho (xjR its n j u) (r.set rv j) (by rw[gO];exact hz) s.toks
 by_cases h0:0≤k
 ·have hk:k.toNat=j:=by
   rw[seqIndex_of h0 h4]at h1;exact aX h1
  exact W.ki_setAt ho h0 (by lia) (by rw[aH,←hl];exact h4) (by rw[hk];exact⟨_,I',q⟩)
 ·have hk:(k+(its.toArray.size:Int)).toNat=j:=by
   rw[seqIndex_neg (by lia) h3]at h1;rw[aH,←hl];exact aX h1
  exact W.ki_setBack ho (by lia) (by rw[aH,←hl];exact h3) (by lia) (by rw[hk];exact⟨_,I',q⟩)
theorem xhD(lo hi:Option Int)(n:Nat):(d9 lo hi none n).1=((HT.sIx n 0 lo:Nat):Int)∧(d9 lo hi none n).2.1=((HT.sIx n n hi:Nat):Int)∧(d9 lo hi none n).2.2=1:=by
 refine⟨?_,?_,rfl⟩
 ·cases lo with
  |none=>simp[d9,HT.sIx]
  |some i=>
   simp only[d9,HT.sIx,i7,show(1:Int) > 0 by decide,if_true]
   by_cases h:i<0
   ·simp only[h,if_true]<;> lia
   ·simp only[h,if_false]<;> lia
 ·cases hi with
  |none=>simp[d9,HT.sIx]
  |some i=>
   simp only[d9,HT.sIx,i7,show(1:Int) > 0 by decide,if_true]
   by_cases h:i<0
   ·simp only[h,if_true]<;> lia
   ·simp only[h,if_false]<;> lia
theorem xg7(its:List Value)(lo hi:Option Int):slicePick its.toArray lo hi none=((its.drop (HT.sIx its.length 0 lo)).take (HT.sIx its.length its.length hi - HT.sIx its.length 0 lo)).toArray:=by
 obtain⟨h1,h2,h3⟩:=xhD lo hi its.toArray.size;unfold slicePick;rw[h1,h2,h3];simp only[sliceRange_one,pick_run,aH]<;> rfl
def xoU(K:ag):V→Option Int→Option Int→Hp→VK→Prop:=fun x lo hi H Q=>∃a xs,x= .ref a∧SqL K H a xs∧∀p,H p=none→Q (.ref p) (upd H p (.lst (jK xs lo hi)))
theorem xbK:SlR X (xoU X.K):=by
 intro pins s σ H x v vl vu lo hi sl Q I rx hs pl pu h;obtain⟨a,xs,rfl,hx,q⟩:=h;cases rx;obtain⟨its,r,ht,hz⟩:=I.list hx;have hlen:=r.length;refine⟨"list",_,slot_list_getitem.lookup,ht.isList.typeIs,?_⟩;refine wpAny_getItem_list_slice ht.isList hs pl pu .none (by simp) ?_ (by rw[aH]<;> lia);rw[xg7,←hlen];refine⟨.ref s.heap.objs.size,_,I.laid (t':=s.toks) (o:=.lst (jK xs lo hi)) (fun b ob q=>ah _ q) (av _) ?_,rfl,q _ (I.hok.fresh (av _))⟩;exact⟨bp (xef xs lo hi) hz,_,0,(r.drop (HT.sIx xs.length 0 lo)).take (HT.sIx xs.length xs.length hi - HT.sIx xs.length 0 lo),aK _ rfl⟩
theorem xW:yF X (.builtin "len") (fun xs H Q=>∃p ys,xs=[.ref p]∧(SqL X.K H p ys∨SqT X.K H p ys)∧Q (.int ys.length) H):=by
 intro pins s σ H xs us Q I r h;obtain⟨p,ys,rfl,hq,q⟩:=h;obtain⟨u,rfl,rx⟩:=vals1 r;cases rx;have hn:=xeY;rcases hq with hq|hq
 ·obtain⟨its,r',pl,hz⟩:=I.list hq;have hlen:=r'.length;exact Calls.call_len_list pl.isList (by simp only[aH]<;> lia) ⟨.int ys.length,H,I.tok _,⟨s.toks+1,by rw[aH,hlen]⟩,q⟩
 ·obtain⟨its,r',pl,hz⟩:=I.tuple hq;have hlen:=r'.length;exact len_tuple pl (by simp only[aH]<;> lia) ⟨.int ys.length,H,I.tok _,⟨s.toks+1,by rw[aH,hlen]⟩,q⟩
theorem yQ:yF X (.type "list") (fun xs H Q=>∃p ys,xs=[.ref p]∧(SqL X.K H p ys∨SqT X.K H p ys)∧∀l,H l=none→Q (.ref l) (upd H l (.lst ys))):=by
 intro pins s σ H xs us Q I r h;obtain⟨p,ys,rfl,hq,q⟩:=h;obtain⟨u,rfl,rx⟩:=vals1 r;cases rx;have fin:∀(its:List Value),Vals ys its→ys.length≤aF→∀(h':Heap) (c':Nat),(∀b o',s.heap.get? b=some o'→h'.get? b=some o')→
   h'.get? s.heap.objs.size=some {cls:=.type "list",dict:=none,data:=.seq its.toArray c',slots:=#[]}→EP X pins σ Q (.ref s.heap.objs.size) {s with heap:=h'}:=fun its r' hz h' c' kp e=>
  ⟨.ref s.heap.objs.size,_,I.laid (t':=s.toks) kp (av _) (show xY X.prog X.w _ h' _ (.lst ys)from⟨hz,its,c',r',e⟩),rfl,q _ (I.hok.fresh (av _))⟩
 rcases hq with hq|hq
 ·obtain⟨its,r',pl,hz⟩:=I.list hq;have hlen:=r'.length;obtain⟨o,ho,hc,n,hd⟩:=pl.isList;exact call_list_seq p (.inl rfl) ho hc hd (fun h' c' kp e=>fin its r' hz h' c' kp e) (by simp only[aH]<;> lia)
 ·obtain⟨its,r',pl,hz⟩:=I.tuple hq;have hlen:=r'.length;obtain⟨o,ho,hc,n,hd⟩:=pl;exact call_list_seq p (.inr rfl) ho hc hd (fun h' c' kp e=>fin its r' hz h' c' kp e) (by simp only[aH]<;> lia)
theorem xg8:yF X (.type "tuple") (fun xs H Q=>∃p ys,xs=[.ref p]∧((SqL X.K H p ys∧∀l,H l=none→Q (.ref l) (upd H l (.tup ys)))∨(SqT X.K H p ys∧Q (.ref p) H))):=by
 intro pins s σ H xs us Q I r h;obtain⟨p,ys,rfl,h⟩:=h;obtain⟨u,rfl,rx⟩:=vals1 r;cases rx;rcases h with⟨hq,q⟩|⟨hq,q⟩
 ·obtain⟨its,r',pl,hz⟩:=I.list hq;have hlen:=r'.length;refine call_tuple_list pl.isList (fun h' kp=>?_) (by simp only[aH]<;> lia);have I1:Inv X pins σ H {s with heap:=h'}:=I.kept (t':=s.toks) kp;have I2:Inv X pins σ (upd H h'.objs.size (.tup ys)) {s with heap:=h'.push {cls:=.type "tuple",data:=.seq its.toArray}}:=
   I1.laid (t':=s.toks) (fun b o e=>ah _ e) (av _) (show xY X.prog X.w _ _ _ (.tup ys)from⟨hz,its,r',IsTup.new _ _⟩)
  exact⟨.ref h'.objs.size,_,I2,rfl,q _ (I1.hok.fresh (av _))⟩
 ·obtain⟨its,r',pl,hz⟩:=I.tuple hq;exact call_tuple_same pl ⟨.ref p,H,I,rfl,q⟩
def tyV(K:ag)(T:String)(x:V)(H:Hp):Prop:=match x with
 | .str _=>T="str"
 | .int _=>T="int"
 | .ref p=>(T="list"∧∃xs,SqL K H p xs)∨(T="tuple"∧∃o,K.lookup p=some o∧o.cls= .type "tuple"∧o.dict=none)∨
   (T="dict"∧((∃kvs,H p=some (.dK kvs))∨∃kvs,H p=some (.dT kvs)))∨(T="set"∧∃S n,H p=some (.set S n))
 |_=>False
theorem xkV{pins:List (Addr×Obj)}{σ:St}{H:Hp}{s:af}{T:String}{x:V}{v:Value}(I:Inv X pins σ H s)(r:RelV x v)(ty:tyV X.K T x H):
  s.TypeIs v T∧∀a,v= .ref a→∃ob,s.heap.get? a=some ob∧ob.dict=none:=by
 cases x with
 |str z=>
  obtain⟨t,rfl⟩:=r;cases (show T="str" from ty);exact⟨typeIs_str s z t,fun _ e=>nomatch e⟩
 |int i=>
  obtain⟨t,rfl⟩:=r;cases (show T="int" from ty);exact⟨typeIs_int s i t,fun _ e=>nomatch e⟩
 |ref p=>
  cases r;rcases ty with⟨rfl,xs,hq⟩|⟨rfl,o,hk,hc,hd⟩|⟨rfl,hk⟩|⟨rfl,S,n,hk⟩
  ·obtain⟨its,_,pl,_⟩:=I.list hq;refine⟨pl.isList.typeIs,fun a e=>?_⟩;cases e;obtain⟨o,n,e,c,hd,_⟩:=pl;exact⟨o,e,hd⟩
  ·refine⟨⟨o,I.kIn p o hk,hc⟩,fun a e=>?_⟩;cases e;exact⟨o,I.kIn _ o hk,hd⟩
  ·have z:∃o,s.heap.get? p=some o∧o.ExactDict:=by
    rcases hk with⟨kvs,hk⟩|⟨kvs,hk⟩
    ·obtain⟨_,_,_,_,o,_,_,e,ex,_⟩:=I.hok p _ hk;exact⟨o,e,ex⟩
    ·obtain⟨_,_,_,_,o,_,_,e,ex,_⟩:=I.hok p _ hk;exact⟨o,e,ex⟩
   obtain⟨o,e,ex⟩:=z;refine⟨⟨o,e,ex.1⟩,fun a e2=>?_⟩;cases e2;exact⟨o,e,ex.2.1⟩
  ·obtain⟨o,_,_,_,e,ex,_⟩:=I.hok p _ hk;refine⟨⟨o,e,ex.1⟩,fun a e2=>?_⟩;cases e2;exact⟨o,e,ex.2.1⟩
 |_=>exact aT ty
def xqF(K:ag)(T:String)(r:V→List V→Hp→VK→Prop)(to:TE):TE:=fun σ H Q=>to σ H fun x H1=>tyV K T x H1∧r x [] H1 Q
def tBM(K:ag)(T:String)(r:V→List V→Hp→VK→Prop)(to:TE)(t:TA):TE:=fun σ H Q=>to σ H fun x H1=>tyV K T x H1∧t σ H1 fun xs H2=>r x xs H2 Q
variable {o e:Expr} {es:List Expr} {to:TE} {t:TA} {name:Str} {apos cpos:Pos} {T id:String} {r:V→List V→Hp→VK→Prop}
theorem xoV(pa:PlainAttrs T)(slot:Slot T name id)(hty:typeOf (.builtin id)=pure (.type "method_descriptor"))(hm:MtR X id r)(ho:PE X o to)
  (hbase:eR o name X.env (eval o X.env)=eval o X.env:=by rfl) (hline:(apos.endLine==cpos.line)=true:=by rfl):PE X (.Call (.Attribute o name apos) [] [] cpos) (xqF X.K T r to):=by
 intro pins s σ H Q I h;refine wpAny_Call_method0_late hbase hline (thn (ho pins s σ H _ I h) fun v s1 ⟨x,H1,I1,r1,ty,q1⟩=>?_);obtain⟨h1,h2⟩:=xkV I1 r1 ty;exact⟨T,id,pa,slot,hty,h1,h2,gZ rfl (PySem.evalArgs_none (hm pins s1 σ H1 x [] v [] Q I1 r1 .nil q1))⟩
theorem xdV(pa:PlainAttrs T)(slot:Slot T name id)(hty:typeOf (.builtin id)=pure (.type "method_descriptor"))(hm:MtR X id r)(ho:PE X o to)(ha:PA X (e::es) t)
  (hbase:eR o name X.env (eval o X.env)=eval o X.env:=by rfl)
  (hfew:((bC cpos (aA (e::es) X.env)).all (fun x=> !x.1)&&(eW cpos (dJ [] X.env)).all (fun x=>x.1.isSome)
   &&decide ((e::es).length+([]:List Keyword).length+(if ([]:List Keyword).isEmpty then 0 else 1)<30))=true:=by rfl)
  (hline:(apos.endLine==cpos.line)=true:=by rfl) (hs:aA (e::es) X.env=(false,eval e X.env)::aA es X.env:=by rfl) (hplain:(bC cpos (aA es X.env)).any (·.1)=false:=by rfl):
  PE X (.Call (.Attribute o name apos) (e::es) [] cpos) (tBM X.K T r to t):=by
 intro pins s σ H Q I h;refine wpAny_Call_method_late hbase hfew hline rfl (thn (ho pins s σ H _ I h) fun v s1 ⟨x,H1,I1,r1,ty,q1⟩=>?_);obtain⟨h1,h2⟩:=xkV I1 r1 ty;refine⟨T,id,pa,slot,hty,h1,h2,?_⟩;have hA:=ha cpos pins s1 σ H1 _ I1 q1;rw[hs]at hA⊢;refine gZ (by show(false||(bC cpos (aA es X.env)).any (·.1))=false;rw[hplain]<;> rfl) (Calls.evalArgs_plain ?_);exact thn hA fun us s2 ⟨vs,H2,I2,r2,q2⟩=>hm pins s2 σ H2 x vs v us Q I2 r1 r2 q2
end
end L2
namespace L2
open PySem PySem.Spec PyProof.Rows
def MtM(X:Cx)(id:String)(r:V→List V→Hp→VK→Prop):Prop:=
 ∀(pins:List (Addr×Obj)) (s:af) (σ:St) (H:Hp) (x:V) (xs:List V) (v:Value) (us:List Value) (Q:VK),Inv X pins σ H s→RelV x v→Vals xs us→r x xs H Q→
  wpAny (model X.prog X.w) X.A (call (.builtin id) (v::us)) (EP X pins σ Q) X.xe s
theorem Vals.one:∀{x:V} {us:List Value},Vals [x] us→∃u,us=[u]∧RelV x u
 |_,_,.cons r .nil=>⟨_,rfl,r⟩
theorem Vals.two:∀{x y:V} {us:List Value},Vals [x,y] us→∃u v,us=[u,v]∧RelV x u∧RelV y v
 |_,_,_,.cons r (.cons q .nil)=>⟨_,_,rfl,r,q⟩
theorem Vals.zero:∀{us:List Value},Vals [] us→us=[]
 |_,.nil=>rfl
theorem Vals.rep{xs:List V}{us:List Value}(h:Vals xs us):∀k:Nat,Vals (aU k xs).flatten (aU k us).flatten
 |0=>.nil
 |k+1=>by
  rw[dq,dq,eO,eO];exact Vals.append h (Vals.rep h k)
theorem foldl_rep(its:List Value):∀(k:Nat) (acc:List Value),
  List.foldl (fun x1 x2=>x1++x2) acc.toArray (aU k its.toArray)=(acc++(aU k its).flatten).toArray
 |0,acc=>by simp
 |k+1,acc=>by
  have e:acc.toArray++its.toArray=(acc++its).toArray:=by simp
  have e2:(acc++its)++(aU k its).flatten=acc++(aU (k+1) its).flatten:=by
   rw[dq,eO,eP]
  rw[←e2,←foldl_rep its k (acc++its),←e,dq,List.foldl_cons]
section
variable {X:Cx} {pins:List (Addr×Obj)} {σ:St} {H:Hp} {s:af} {l b:Addr} {xs ys zs:List V}
theorem Inv.lset{its its':List Value}{n:Nat}{f:Array Value→Array Value}{t':Nat}(I:Inv X pins σ H s)(hH:H l=some (.lst xs))
  (e:s.heap.get? l=some {cls:=.type "list",data:=.seq its.toArray n}) (hf:f its.toArray=its'.toArray) (hv:Vals ys its') (hz:ys.length≤aF):
  Inv X pins σ (upd H l (.lst ys)) {s with heap:=s.heap.update l (cK f),toks:=t'}:=by
 have q:=PySem.IsL.update e f;rw[hf]at q;refine I.write (x:=l) (e:=l) (by rw[hH];exact trivial) (.inl rfl) (fun b' u hb hu=>(aM s.heap (cK f) (ak hb)).trans hu) ⟨_,q⟩ ?_;exact⟨hz,its',_,hv,q⟩
theorem Inv.lnew{its:List Value}{t':Nat}(I:Inv X pins σ H s)(hv:Vals ys its)(hz:ys.length≤aF):
  Inv X pins σ (upd H s.heap.objs.size (.lst ys)) {s with heap:=s.heap.push {cls:=.type "list",data:=.seq its.toArray},toks:=t'}:=
 I.laid (fun _ _ q=>ah _ q) (av _) ⟨hz,its,0,hv,aK _ rfl⟩
theorem Inv.fresh(I:Inv X pins σ H s):H s.heap.objs.size=none:=I.hok.fresh (av _)
theorem Inv.lstM(I:Inv X pins σ H s)(hH:H l=some (.lst xs)):xs.length≤aF∧∃(its:List Value) (n:Nat),Vals xs its∧xs.length=its.length∧s.heap.get? l=some {cls:=.type "list",data:=.seq its.toArray n}:=by
 obtain⟨z,its,n,r,e⟩:=I.hok l _ hH;exact⟨z,its,n,r,r.length,e⟩
theorem xhE{n:Nat}(h:n≤aF):di n=false:=by
 unfold di;exact decide_eq_false (by lia)
end
section
variable {X:Cx}
def xnl:V→List V→Hp→VK→Prop:=fun x vs H Q=>∃l xs y,x= .ref l∧vs=[y]∧H l=some (.lst xs)∧xs.length<aF∧Q .non (upd H l (.lst (xs++[y])))
theorem vq:MtM X "list.append" xnl:=by
 intro pins s σ H x vs v us Q I rx rv h;obtain⟨l,xs,y,rfl,rfl,hH,hz,q⟩:=h;cases rx;obtain⟨u,rfl,ru⟩:=rv.one;obtain⟨z,its,n,r,hl,e⟩:=I.lstM hH;refine gn F.slot_list_append ⟨_,e,rfl⟩ F.entry_list_append (F.args_list_append_2 _ _) (PySem.list_append l its.toArray n u (by rw[aH];lia)) ⟨e,?_⟩;refine⟨.non,_,I.lset (its':=its++[u]) hH e (by simp) (r.append (.cons ru .nil)) ?_,rfl,q⟩;rw[aY,ib];lia
def xnm:V→List V→Hp→VK→Prop:=fun x vs H Q=>∃l b xs zs,x= .ref l∧vs=[.ref b]∧H l=some (.lst xs)∧H b=some (.lst zs)∧xs.length+zs.length≤aF∧Q .non (upd H l (.lst (xs++zs)))
theorem xkW:MtM X "list.extend" xnm:=by
 intro pins s σ H x vs v us Q I rx rv h;obtain⟨l,b,xs,zs,rfl,rfl,hH,hB,hz,q⟩:=h;cases rx;obtain⟨u,rfl,ru⟩:=rv.one;cases ru;obtain⟨z,its,n,r,hl,e⟩:=I.lstM hH;obtain⟨z2,its2,n2,r2,hl2,e2⟩:=I.lstM hB;have hsz:its.toArray.size+its2.toArray.size≤aF:=by rw[aH,aH];lia
 have hlong:¬(!its.toArray.isEmpty&&di (its.toArray.size+its2.toArray.size))=true:=by
  rw[xhE hsz,Bool.and_false];exact aI
 refine gn F.slot_list_extend ⟨_,e,rfl⟩ F.entry_list_extend (F.args_list_extend_2 _ _)
  (AutoSeq1.list_extend_list_list_0 l its.toArray n b its2.toArray n2 hlong (by rw[aH];lia) (by lia)) ⟨e,e2,?_⟩
 refine⟨.non,_,I.lset (its':=its++its2) hH e (by simp) (r.append r2) ?_,rfl,q⟩;rw[aY];lia
def xoW:V→List V→Hp→VK→Prop:=fun x vs H Q=>∃l xs,x= .ref l∧vs=[]∧H l=some (.lst xs)∧Q .non (upd H l (.lst []))
theorem xl8:MtM X "list.clear" xoW:=by
 intro pins s σ H x vs v us Q I rx rv h;obtain⟨l,xs,rfl,rfl,hH,q⟩:=h;cases rx;have hus:=rv.zero;subst hus;obtain⟨z,its,n,r,hl,e⟩:=I.lstM hH;refine gn F.slot_list_clear ⟨_,e,rfl⟩ F.entry_list_clear (F.args_list_clear_1 _) (AutoSeq1.list_clear_list_0 l its.toArray n (by rw[aH];lia)) ⟨e,?_⟩;exact⟨.non,_,I.lset (its':=[]) (ys:=[]) hH e rfl .nil (bK _),rfl,q⟩
def xqG:R2:=fun x y H Q=>∃l b xs zs,x= .ref l∧y= .ref b∧H l=some (.lst xs)∧H b=some (.lst zs)∧xs.length+zs.length≤aF∧∀p,H p=none→Q (.ref p) (upd H p (.lst (xs++zs)))
theorem xe3:OpR X (ck .Add) xqG:=by
 intro pins s σ H x y v u Q I rx ry h;obtain⟨l,b,xs,zs,rfl,rfl,hH,hB,hz,q⟩:=h;cases rx;cases ry;obtain⟨z,its,n,r,hl,e⟩:=I.lstM hH;obtain⟨z2,its2,n2,r2,hl2,e2⟩:=I.lstM hB;refine PySem.P.add_list e e2 ?_ (by rw[aH,aH];lia);have ea:its.toArray++its2.toArray=(its++its2).toArray:=by simp
 rw[ea];exact⟨.ref _,_,I.lnew (t':=s.toks) (r.append r2) (by rw[aY];lia),rfl,q _ I.fresh⟩
def xqH:R2:=fun x y H Q=>∃l k xs,x= .ref l∧y= .int k∧H l=some (.lst xs)∧-(2^63)≤k∧k<2^63∧xs.length*k.toNat≤aF∧
 ∀p,H p=none→Q (.ref p) (upd H p (.lst (aU k.toNat xs).flatten))
theorem len_rep{α:Type}(xs:List α)(k:Nat):(aU k xs).flatten.length=k*xs.length:=by
 induction k with
 |zero=>simp
 |succ k ih=>rw[dq,eO,aY,ih,Nat.succ_mul,Nat.add_comm]
theorem xkX:OpR X (ck .Mult) xqH:=by
 intro pins s σ H x y v u Q I rx ry h;obtain⟨l,k,xs,rfl,rfl,hH,h1,h2,hz,q⟩:=h;cases rx;obtain⟨t,rfl⟩:=ry;obtain⟨z,its,n,r,hl,e⟩:=I.lstM hH;have hlen:its.toArray.size*k.toNat≤aF:=by rw[aH,←hl];exact hz
 have hcap:¬its.toArray.size*k.toNat > (2^63 - 1) / 8:=by
  have:(aF:Nat)≤(2^63 - 1) / 8:=by decide
  lia
 have hfit:¬(!Builtin.List.listFitsIndex k)=true:=by
  rw[fitsIndex_both h1 h2];exact aI
 have hlong:¬di (its.toArray.size*k.toNat)=true:=by
  rw[xhE hlen];exact aI
 have hnew:List.foldl (fun x1 x2=>x1++x2) #[] (aU (if its.toArray.isEmpty=true then 0 else k.toNat) its.toArray)=(aU k.toNat its).flatten.toArray:=by
  have f0:∀m:Nat,List.foldl (fun x1 x2=>x1++x2) #[] (aU m its.toArray)=(aU m its).flatten.toArray:=fun m=>by
   have:=foldl_rep its m [];rw[List.nil_append]at this;exact this
  rw[f0];cases its with
  |nil=>simp
  |cons a r'=>rw[if_neg (by simp)]
 refine wpAny_binaryOp_repeat_ref (T:="list") (U:="int") (by decide) ⟨_,e,rfl⟩ (fun s'=>typeIs_int s' k t) noFill_list_mul F.fills_int_mul F.slot_int_rmul repeat_list F.slot_int_index.lookup
  (gn F.slot_int_rmul (typeIs_int s k t) F.entry_int_rmul (F.args_int_rmul_2 _ _) (int___rmul___int_list k t l its.toArray n)
   ⟨e,rfl,⟨_,e,rfl⟩,gn F.slot_list_mul ⟨_,e,rfl⟩ F.entry_list_mul (F.args_list_mul_2 _ _) (AutoListH.list___mul___list_int_3 l its.toArray n k t hfit hcap hlong) ⟨e,?_⟩⟩)
 rw[hnew];exact⟨.ref _,_,I.lnew (t':=s.toks) (r.rep k.toNat) (by rw[len_rep,Nat.mul_comm];exact hz),rfl,q _ I.fresh⟩
end
section
variable {prog:ai} {w:World} {A:aC} {E:Value→af→Prop} {s:af}
set_option maxRecDepth 100000 in
end
section
variable {X:Cx}
end
end L2
namespace L2
open PySem PySem.Spec PyProof.Rows
section
variable {κ:Type} [DecidableEq κ]
def yZ(kvs:List (κ×V))(k:κ):Option V:=(kvs.find? fun kv=>decide (kv.1=k)).map (·.2)
def putK(kvs:List (κ×V))(k:κ)(v:V):List (κ×V):=
 if (kvs.any fun kv=>decide (kv.1=k))=true then kvs.map (fun kv=>if kv.1=k then(kv.1,v)else kv)else kvs++[(k,v)]
theorem xl9{k:κ}:yZ ([]:List (κ×V)) k=none:=rfl
theorem yR{p:κ×V}{r:List (κ×V)}{k:κ}(e:p.1=k):yZ (p::r) k=some p.2:=by simp[yZ,b7,e]
theorem yS{p:κ×V}{r:List (κ×V)}{k:κ}(e:¬p.1=k):yZ (p::r) k=yZ r k:=by simp[yZ,b7,e]
theorem xb5(k:κ):∀kvs:List (κ×V),(kvs.any fun kv=>decide (kv.1=k))=(yZ kvs k).isSome
 |[]=>rfl
 |p::r=>by
  rw[iH]
  by_cases e:p.1=k
  ·simp only[yR e,decide_eq_true e,gB,Option.isSome_some]
  ·rw[yS e,decide_eq_false e,iI];exact xb5 k r
theorem xhF(k j:κ)(y:V):∀kvs:List (κ×V),yZ (kvs.map fun kv=>if kv.1=k then(kv.1,y)else kv) j=(yZ kvs j).map fun x=>if j=k then y else x
 |[]=>rfl
 |p::r=>by
  have ih:=xhF k j y r;rw[bA]
  by_cases h:p.1=k
  ·rw[if_pos h]
   by_cases e:p.1=j
   ·rw[yR (p:=(p.1,y)) e,yR e,fA,if_pos (e.symm.trans h)]
   ·rw[yS (p:=(p.1,y)) e,yS e,ih]
  ·rw[if_neg h]
   by_cases e:p.1=j
   ·rw[yR (p:=p) e,yR e,fA,if_neg (fun z=>h (e.trans z))]
   ·rw[yS (p:=p) e,yS e,ih]
theorem xgG(k j:κ)(y:V):∀kvs:List (κ×V),yZ kvs k=none→yZ (kvs++[(k,y)]) j=if j=k then some y else yZ kvs j
 |[],_=>by
  by_cases e:k=j
  ·rw[if_pos e.symm];exact yR (p:=(k,y)) e
  ·rw[if_neg (fun z=>e z.symm)];exact yS (p:=(k,y)) e
 |p::r,hn=>by
  rw[eY];have hk:¬p.1=k:=fun z=>by rw[yR z]at hn;cases hn
  rw[yS hk]at hn;have ih:=xgG k j y r hn
  by_cases e:p.1=j
  ·rw[yR e,yR e,if_neg (fun z=>hk (e.trans z))]
  ·rw[yS e,yS e,ih]
theorem xma(kvs:List (κ×V))(k j:κ)(y:V):yZ (putK kvs k y) j=if j=k then some y else yZ kvs j:=by
 unfold putK
 by_cases a:(kvs.any fun kv=>decide (kv.1=k))=true
 ·rw[if_pos a,xhF];rw[xb5]at a
  by_cases e:j=k
  ·obtain⟨x,hx⟩:=gy.mp a;rw[if_pos e,e,hx,fA,if_pos rfl]
  ·rw[if_neg e];cases yZ kvs j with
   |none=>rfl
   |some x=>rw[fA,if_neg e]
 ·rw[if_neg a];refine xgG k j y kvs ?_;rw[xb5]at a;cases q:yZ kvs k with
  |none=>rfl
  |some x=>rw[q]at a;exact(a rfl).elim
theorem xbn(kvs:List (κ×V))(k:κ)(v:V):(putK kvs k v).length≤kvs.length+1:=by
 unfold putK
 split
 ·rw[aq];lia
 ·rw[aY,bQ,fB];lia
theorem zS.isSome_eq{o:Option V}{u:Option Value}(r:zS o u):o.isSome=u.isSome:=by
 cases o with
 |none=>cases u with
  |none=>rfl
  |some _=>exact(show False from r).elim
 |some _=>cases u with
  |none=>exact(show False from r).elim
  |some _=>rfl
theorem KV.val{kvs:List (κ×V)}{vs:List (κ×Value)}(r:KV kvs vs)(k:κ):zS (yZ kvs k) (gs vs k):=by
 unfold KV at r
 induction r with
 |nil=>exact bY
 | @cons p q ps qs h t ih=>
  obtain⟨h1,h2⟩:=h
  by_cases e:p.1=k
  ·have e':q.1=k:=h1.symm.trans e;have b:gs (q::qs) k=some q.2:=by simp[gs,b7,e']
   rw[yR e,b];exact h2
  ·have e':¬q.1=k:=fun z=>e (h1.trans z);have b:gs (q::qs) k=gs qs k:=by simp[gs,b7,e']
   rw[yS e,b];exact ih
theorem KV.any{kvs:List (κ×V)}{vs:List (κ×Value)}(r:KV kvs vs)(k:κ):(kvs.any fun kv=>decide (kv.1=k))=vs.any fun kv=>decide (kv.1=k):=by
 unfold KV at r
 induction r with
 |nil=>rfl
 |cons h t ih=>rw[iH,iH,ih,h.1]
theorem KV.repl{kvs:List (κ×V)}{vs:List (κ×Value)}(r:KV kvs vs)(k:κ){y:V}{u:Value}(ry:RelV y u):
  KV (kvs.map fun kv=>if kv.1=k then(kv.1,y)else kv) (vs.map fun kv=>if kv.1=k then(kv.1,u)else kv):=by
 unfold KV at r⊢
 induction r with
 |nil=>exact .nil
 | @cons p q ps qs h t ih=>
  rw[bA,bA];refine .cons ?_ ih;obtain⟨h1,h2⟩:=h
  by_cases e:p.1=k
  ·rw[if_pos e,if_pos (h1.symm.trans e)];exact⟨h1,ry⟩
  ·rw[if_neg e,if_neg (fun z=>e (h1.trans z))];exact⟨h1,h2⟩
theorem KV.put{kvs:List (κ×V)}{vs:List (κ×Value)}(r:KV kvs vs)(k:κ){y:V}{u:Value}(ry:RelV y u):KV (putK kvs k y) (stored vs k u):=by
 unfold putK stored;rw[r.any k]
 by_cases e:(vs.any fun kv=>decide (kv.1=k))=true
 ·rw[if_pos e,if_pos e];exact r.repl k ry
 ·rw[if_neg e,if_neg e];exact Paired.snoc r ⟨rfl,ry⟩
theorem KV.length{kvs:List (κ×V)}{vs:List (κ×Value)}(r:KV kvs vs):kvs.length=vs.length:=Paired.length r
end
theorem xdW{P:ai}{w:World}{k:Key}{u:Value}(r:RelV (kV k) u):(yv P w).is k u=true:=by
 cases k with
 |inl i=>obtain⟨t,e⟩:=(show∃t,u=fQ i t from r);subst e;exact xiB P w i t
 |inr x=>obtain⟨t,e⟩:=(show∃t,u=fR x t from r);subst e;exact xiC P w x t
theorem xgH{P:ai}{w:World}:∀{ks:List Key} {us:List Value},Vals (ks.map kV) us→ItemsAre (yv P w) ks us
 |[],_,r=>by rw[gA]at r;cases r;exact .nil
 |k::ks,_,r=>by
  rw[bA]at r;cases r with
  |cons h t=>exact .cons (xdW h) (xgH t)
abbrev KT(H:Hp):List (List Key×V)→List (List Key×Addr×Value)→Prop:=Paired fun p q=>p.1=q.1∧H q.2.1=some (.tup (p.1.map kV))∧RelV p.2 q.2.2
theorem KT.val{H:Hp}{kvs:List (List Key×V)}{xs:List (List Key×Addr×Value)}(r:KT H kvs xs)(k:List Key):zS (yZ kvs k) ((atKey xs k).map (·.2)):=by
 induction r with
 |nil=>exact bY
 | @cons p q ps qs h t ih=>
  obtain⟨h1,_,h2⟩:=h
  by_cases e:p.1=k
  ·have e':q.1=k:=h1.symm.trans e;have b:atKey (q::qs) k=some q.2:=by simp[atKey,b7,e']
   rw[yR e,b];exact h2
  ·have e':¬q.1=k:=fun z=>e (h1.trans z);have b:atKey (q::qs) k=atKey qs k:=by simp[atKey,b7,e']
   rw[yS e,b];exact ih
theorem KT.repl{H:Hp}{kvs:List (List Key×V)}{xs:List (List Key×Addr×Value)}(r:KT H kvs xs)(k:List Key){y:V}{u:Value}(ry:RelV y u):
  KT H (kvs.map fun kv=>if kv.1=k then(kv.1,y)else kv) (xs.map (putAt k u)):=by
 induction r with
 |nil=>exact .nil
 | @cons p q ps qs h t ih=>
  rw[bA,bA];refine .cons ?_ ih;obtain⟨h1,h2,h3⟩:=h;unfold putAt
  by_cases e:p.1=k
  ·rw[if_pos e,if_pos (h1.symm.trans e)];exact⟨h1,h2,ry⟩
  ·rw[if_neg e,if_neg (fun z=>e (h1.trans z))];exact⟨h1,h2,h3⟩
theorem KT.put{H:Hp}{kvs:List (List Key×V)}{xs:List (List Key×Addr×Value)}(r:KT H kvs xs)(k:List Key){b:Addr}{y:V}{u:Value}(hb:H b=some (.tup (k.map kV)))(ry:RelV y u):
  KT H (putK kvs k y) (storedH xs k b u):=by
 have e:(kvs.any fun kv=>decide (kv.1=k))=(atKey xs k).isSome:=by
  rw[xb5,(r.val k).isSome_eq,gd]
 unfold putK storedH;rw[e]
 by_cases q:(atKey xs k).isSome=true
 ·rw[if_pos q,if_pos q];exact r.repl k ry
 ·rw[if_neg q,if_neg q];exact Paired.snoc r ⟨rfl,hb,ry⟩
theorem KT.keeps{H H':Hp}{kvs:List (List Key×V)}{xs:List (List Key×Addr×Value)}(r:KT H kvs xs)(ht:∀b ys,H b=some (.tup ys)→H' b=some (.tup ys)):KT H' kvs xs:=
 Paired.mapP r fun _ _ z=>⟨z.1,ht _ _ z.2.1,z.2.2⟩
section
variable {P:ai} {w:World} {H:Hp} {h:Heap} {a:Addr}
theorem xmU{u:HO}(ok:HOk P w H h)(e:Rd H a u):xY P w H h a u:=e.ok ok
theorem xe4{kvs:List (Key×V)}(ok:HOk P w H h)(e:Rd H a (.dK kvs)):kvs.length≤aF∧(a==dz)=false∧∃vs,KV kvs vs∧h.DictOf (yv P w) a vs:=
 show xY P w H h a (.dK kvs)from xmU ok e
theorem xmV{kvs:List (Key×V)}(ok:HOk P w H h)(e:H a=some (.dK kvs)):kvs.length≤aF∧(a==dz)=false∧∃vs,KV kvs vs∧h.DictOf (yv P w) a vs:=xe4 ok (.inl e)
theorem xc7{ks:List Key}(ok:HOk P w H h)(e:H a=some (.tup (ks.map kV))):(gM (yv P w)).is h ks a:=by
 obtain⟨_,its,r,o,h1,h2,n,h3⟩:=(show xY P w H h a (.tup (ks.map kV))from ok a _ e);exact⟨o,its.toArray,n,h1,h2,h3,by simpa using xgH r⟩
theorem xe5{kvs:List (List Key×V)}(ok:HOk P w H h)(e:Rd H a (.dT kvs)):kvs.length≤aF∧(a==dz)=false∧
  ∃xs,KT H kvs xs∧h.DictOfH (gM (yv P w)) a xs:=by
 obtain⟨z,y,xs,r,o,es,ep,h1,h2,h3,h4,h5⟩:=(show xY P w H h a (.dT kvs)from xmU ok e);refine⟨z,y,xs,r,o,es,ep,h1,h2,h3,h4,fun x hx=>?_,h5⟩;have all:∀{l:List (List Key×V)} {m:List (List Key×Addr×Value)},KT H l m→∀x∈m,(gM (yv P w)).is h x.1 x.2.1:=by
  intro l m q
  induction q with
  |nil=>intro x hx;exact nomatch hx
  | @cons p q ps qs hq t ih=>
   intro x hx;rcases aw.mp hx with e|hx
   ·subst e;exact xc7 ok (by rw[←hq.1];exact hq.2.1)
   ·exact ih x hx
 exact all r x hx
theorem xpX{kvs:List (List Key×V)}(ok:HOk P w H h)(e:H a=some (.dT kvs)):kvs.length≤aF∧(a==dz)=false∧
  ∃xs,KT H kvs xs∧h.DictOfH (gM (yv P w)) a xs:=xe5 ok (.inl e)
end
def uv(H:Hp)(a:Addr)(y:V)(r:Option V):Prop:=
 (∃kvs k,Rd H a (.dK kvs)∧y=kV k∧r=yZ kvs k)∨∃kvs k b,Rd H a (.dT kvs)∧y= .ref b∧H b=some (.tup (k.map kV))∧r=yZ kvs k
def xc8(H:Hp)(a:Addr)(y v:V)(H':Hp):Prop:=
 (∃kvs k,H a=some (.dK kvs)∧y=kV k∧kvs.length<aF∧H'=upd H a (.dK (putK kvs k v)))∨
 ∃kvs k b,H a=some (.dT kvs)∧y= .ref b∧H b=some (.tup (k.map kV))∧kvs.length<aF∧H'=upd H a (.dT (putK kvs k v))
theorem uv.k{H:Hp}{a:Addr}{kvs:List (Key×V)}{k:Key}(e:H a=some (.dK kvs)):uv H a (kV k) (yZ kvs k):=.inl ⟨kvs,k,.inl e,rfl,rfl⟩
theorem xc8.k{H:Hp}{a:Addr}{kvs:List (Key×V)}{k:Key}{v:V}(e:H a=some (.dK kvs))(hl:kvs.length<aF):xc8 H a (kV k) v (upd H a (.dK (putK kvs k v))):=.inl ⟨kvs,k,e,rfl,hl,rfl⟩
section
variable {X:Cx} {pins:List (Addr×Obj)} {σ:St} {H:Hp} {s:af} {a:Addr} {y v:V} {u r:Value} {o:Option V} {A:aC} {E:Value→af→Prop}
theorem Inv.big(I:Inv X pins σ H s):dz<s.heap.objs.size:=by
 have h:a7<s.heap.objs.size:=(I.mod.glob.keeps I.bk).lt;exact Nat.lt_trans (by decide) h
theorem xkY{Q:Value→af→Prop}(hu:A.units+1<cLine)(I:Inv X pins σ H s)(g:uv H a y (some v))(ry:RelV y u)(h:∀w' s',Inv X pins σ H s'→RelV v w'→Q w' s'):
  wpAny (model X.prog X.w) A (fL (.ref a) u) Q E s:=by
 rcases g with⟨kvs,k,e,ey,l⟩|⟨kvs,k,b,e,ey,eb,l⟩
 ·subst ey;obtain⟨z,hd,vs,rel,dd⟩:=xe4 I.hok e;obtain⟨w',hw,rw'⟩:=zS.some_of (v:=v) (o:=gs vs k) (by rw[l];exact rel.val k);exact wpAny_getItem_of (xdW ry) dd.mapOf hw (h w' _ (I.tok _) rw')
 ·subst ey;cases (show u=az b from ry);obtain⟨z,hd,xs,rel,dd⟩:=xe5 I.hok e;obtain⟨w',hw,rw'⟩:=zS.some_of (v:=v) (o:=(atKey xs k).map (·.2)) (by rw[l];exact rel.val k);obtain⟨p,hp,hp2⟩:=aR.mp hw;refine wpAny_getItem_heap (eI hu) (xc7 I.hok eb) dd hp ?_;rw[hp2];exact h w' _ (I.tok _) rw'
theorem xqI{Q:Value→af→Prop}(hu:A.units+1<cLine)(I:Inv X pins σ H s)(g:uv H a y o)(ry:RelV y u)(h:∀s',Inv X pins σ H s'→Q (.bool o.isSome) s'):
  wpAny (model X.prog X.w) A (bE .In u (.ref a)) Q E s:=by
 rcases g with⟨kvs,k,e,ey,l⟩|⟨kvs,k,b,e,ey,eb,l⟩
 ·subst ey;obtain⟨z,hd,vs,rel,dd⟩:=xe4 I.hok e;refine wpAny_in_of (xdW ry) hd dd.mapOf ?_;rw[←(rel.val k).isSome_eq,←l];exact h _ (I.tok _)
 ·subst ey;cases (show u=az b from ry);obtain⟨z,hd,xs,rel,dd⟩:=xe5 I.hok e;refine wpAny_in_heap (eI hu) (xc7 I.hok eb) hd dd ?_;have q:=(rel.val k).isSome_eq;rw[gd]at q;rw[←q,←l];exact h _ (I.tok _)
theorem xnn{Q:Value→af→Prop}(hu:A.units+1<cLine)(I:Inv X pins σ H s)(g:uv H a y o)(ry:RelV y u)(h:∀s',Inv X pins σ H s'→Q (.bool (!o.isSome)) s'):
  wpAny (model X.prog X.w) A (bE .NotIn u (.ref a)) Q E s:=by
 rcases g with⟨kvs,k,e,ey,l⟩|⟨kvs,k,b,e,ey,eb,l⟩
 ·subst ey;obtain⟨z,hd,vs,rel,dd⟩:=xe4 I.hok e;refine wpAny_notIn_of (xdW ry) hd dd.mapOf ?_;rw[←(rel.val k).isSome_eq,←l];exact h _ (I.tok _)
 ·subst ey;cases (show u=az b from ry);obtain⟨z,hd,xs,rel,dd⟩:=xe5 I.hok e;refine wpAny_notIn_heap (eI hu) (xc7 I.hok eb) hd dd ?_;have q:=(rel.val k).isSome_eq;rw[gd]at q;rw[←q,←l];exact h _ (I.tok _)
theorem xf0{h':Heap}{t':Nat}{ob:HO}(I:Inv X pins σ H s)(mu:Mut (H a))(hs:eD a s.heap h')(he:∃q,h'.get? a=some q)(new:xY X.prog X.w (upd H a ob) h' a ob):
  Inv X pins σ (upd H a ob) {s with heap:=h',toks:=t'}:=
 I.write (x:=a) (e:=a) mu (.inl rfl) (fun b q hb z=>(hs.2 b hb).trans z) he new
theorem xkZ{P:ai}{w:World}{H':Hp}{h':Heap}{kvs:List (Key×V)}{vs:List (Key×Value)}(z:kvs.length≤aF)(hd:(a==dz)=false)(rel:KV kvs vs)(dd:h'.DictOf (yv P w) a vs):
  xY P w H' h' a (.dK kvs):=⟨z,hd,vs,rel,dd⟩
theorem xgI{H':Hp}{Q:Unit→af→Prop}(hu:A.units+1<cLine)(I:Inv X pins σ H s)(g:xc8 H a y v H')(ry:RelV y u)(rv:RelV v r)(h:∀s',Inv X pins σ H' s'→Q () s'):
  wpAny (model X.prog X.w) A (setItem (.ref a) u r) Q E s:=by
 rcases g with⟨kvs,k,e,ey,l,eH⟩|⟨kvs,k,b,e,ey,eb,l,eH⟩
 ·subst ey eH;obtain⟨z,hd,vs,rel,dd⟩:=xmV I.hok e;have hz:vs.length≤aF:=by rw[←rel.length];exact z
  have hl:(putK kvs k v).length≤aF:=by have:=xbn kvs k v;lia
  refine wpAny_setItem_pairs (hsz:=hz) (xdW ry) dd fun h' dd' hs=>h _ ?_;have he:∃q,h'.get? a=some q:=let⟨q,_,_,hq,_⟩:=dd';⟨q,hq⟩
  exact xf0 I (by rw[e];exact bY) hs he (xkZ hl hd (rel.put k rv) dd')
 ·subst ey eH;cases (show u=az b from ry);obtain⟨z,hd,xs,rel,dd⟩:=xpX I.hok e;have hz:xs.length≤aF:=by rw[←Paired.length rel];exact z
  have hl:(putK kvs k v).length≤aF:=by have:=xbn kvs k v;lia
  refine wpAny_setItem_heap (hsz:=hz) (eI hu) (xc7 I.hok eb) dd fun h' dd' hs=>h _ ?_;obtain⟨q,es,ep,hq,h2,h3,h4,_,h5⟩:=dd';refine xf0 I (by rw[e];exact bY) hs ⟨q,hq⟩ ⟨hl,hd,_,(rel.put k eb rv).keeps fun c ys ec=>?_,q,es,ep,hq,h2,h3,h4,h5⟩;rw[xm (xa7 ec e (fun z=>nomatch z))];exact ec
end
section
variable {X:Cx} {pins:List (Addr×Obj)} {σ:St} {H:Hp} {s:af} {a:Addr} {kvs:List (Key×V)} {k:Key} {u:Value} {A:aC} {E:Value→af→Prop}
end
def xoX(i:Expr):Prop:=∀ov iv,gY i false ov iv=operate [ov,iv] (fL ov iv)
theorem xno{prog:ai}{w:World}{A:aC}{E:Value→af→Prop}{s:af}{env:Env}{value slice:Expr}{pos:Pos}{T id:String}{Q:Value→af→Prop}
  (hl:ir (.type T) "__getitem__"=pure (some (.builtin id))) (hs:xoX slice)
  (h:wpAny (model prog w) A (eval value env) (fun o s₁=>wpAny (model prog w) A (eval slice env) (fun i s₂=>s₂.TypeIs o T∧wpAny (model prog w) A (fL o i) Q E s₂) E s₁) E s):
  wpAny (model prog w) A (eval (.Subscript value slice pos) env) Q E s:=by
 refine Subscript_ (aG h (fun o s₁ h₁=>aG h₁ (fun i s₂ h₂=>?_) fun _ _ x=>x) fun _ _ x=>x);obtain⟨hT,h₂⟩:=h₂;unfold iG;refine aa ?_;rw[getitemInPython_of_ne hT.not_modules];refine aa (wpAny_specialOf hT hl ?_);have fin:wpAny (model prog w) A (gY slice false o i) (fun r s₃=>wpAny (model prog w) A (letTemporaryGo value o r >>= fun _=>pure r) Q E s₃) E s₂:=by
  rw[hs o i];exact wpAny_operating (aG h₂ (fun r s₃ h₃=>aa (wpAny_letTemporaryGo (ao h₃))) fun _ _ x=>x)
 first
  |exact ao (aa fin)
  |exact aa (ao (aa fin))
  |exact aa fin
theorem xiD{X:Cx}{pins:List (Addr×Obj)}{σ:St}{H:Hp}{s:af}{a:Addr}{y:V}{o:Option V}(I:Inv X pins σ H s)(g:uv H a y o):s.TypeIs (.ref a) "dict":=by
 rcases g with⟨kvs,k,e,_,_⟩|⟨kvs,k,b,e,_,_,_⟩
 ·obtain⟨_,_,vs,_,dd⟩:=xe4 I.hok e;exact dd.typeIs
 ·obtain⟨_,_,xs,_,dd⟩:=xe5 I.hok e;exact dd.typeIs
def xpY(td ty:TE):TE:=fun σ H Q=>td σ H fun x H1=>ty σ H1 fun y H2=>∃a v,x= .ref a∧uv H2 a y (some v)∧Q v H2
def xqJ(ty td:TE):TE:=fun σ H Q=>ty σ H fun y H1=>td σ H1 fun x H2=>∃a o,x= .ref a∧uv H2 a y o∧Q (.bl o.isSome) H2
def xnp(ty td:TE):TE:=fun σ H Q=>ty σ H fun y H1=>td σ H1 fun x H2=>∃a o,x= .ref a∧uv H2 a y o∧Q (.bl (!o.isSome)) H2
def xpZ(td ty tv:TE):TS:=fun D σ H=>tv σ H fun v H1=>td σ H1 fun x H2=>ty σ H2 fun y H3=>∃a H4,x= .ref a∧xc8 H3 a y v H4∧D.nx σ H4
section
variable {X:Cx} {o i e value:Expr} {pos pos' tpos:Pos} {td ty tv:TE}
theorem xbL(hu:X.A.units+1<cLine)(ho:PE X o td)(hi:PE X i ty)(hs:xoX i):PE X (.Subscript o i pos) (xpY td ty):=by
 intro pins s σ H Q I h;refine xno PySem.F.slot_dict_getitem.lookup hs (thn (ho pins s σ H _ I h) fun u s1 ⟨x,H1,I1,rx,q1⟩=>thn (hi pins s1 σ H1 _ I1 q1) fun iv s2 ⟨y,H2,I2,ry,a,v,ex,g,q2⟩=>?_);subst ex;obtain rfl:u=az a:=rx;exact⟨xiD I2 g,xkY hu I2 g ry fun w' s3 I3 rw'=>⟨v,H2,I3,rw',q2⟩⟩
theorem xk0(hu:X.A.units+1<cLine)(hi:PE X i ty)(ho:PE X o td):PC X .In i o (xqJ ty td):=by
 intro pins s σ H Q I h;refine thn (hi pins s σ H _ I h) fun iv s1 ⟨y,H1,I1,ry,q1⟩=>thn (ho pins s1 σ H1 _ I1 q1) fun u s2 ⟨x,H2,I2,rx,a,ov,ex,g,q2⟩=>?_;subst ex;obtain rfl:u=az a:=rx;exact xqI hu I2 g ry fun s3 I3=>⟨.bl ov.isSome,H2,I3,rfl,q2⟩
theorem xk1(hu:X.A.units+1<cLine)(hi:PE X i ty)(ho:PE X o td):PC X .NotIn i o (xnp ty td):=by
 intro pins s σ H Q I h;refine thn (hi pins s σ H _ I h) fun iv s1 ⟨y,H1,I1,ry,q1⟩=>thn (ho pins s1 σ H1 _ I1 q1) fun u s2 ⟨x,H2,I2,rx,a,ov,ex,g,q2⟩=>?_;subst ex;obtain rfl:u=az a:=rx;exact xnn hu I2 g ry fun s3 I3=>⟨.bl (!ov.isSome),H2,I3,rfl,q2⟩
theorem xf1(hu:X.A.units+1<cLine)(ho:PE X o td)(hi:PE X i ty)(hv:PE X value tv)(hs:eE value (some (.Subscript o i pos')) pos.line X.env=pure false):
  PS X (.Assign [.Subscript o i pos'] value pos) (xpZ td ty tv):=by
 intro pins s σ H D I h;refine wpAny_Assign_Subscript (thn (hv pins s σ H _ I h) fun r s1 ⟨v,H1,I1,rv,q1⟩=>thn (ho pins s1 σ H1 _ I1 q1) fun u s2 ⟨x,H2,I2,rx,q2⟩=>thn (hi pins s2 σ H2 _ I2 q2) fun iv s3 ⟨y,H3,I3,ry,a,H4,ex,g,q3⟩=>?_) hs;subst ex;obtain rfl:u=az a:=rx;exact xgI hu I3 g ry rv fun s4 I4=>⟨σ,H4,I4,q3⟩
end
theorem xhG{P:ai}{w:World}{H:Hp}(h:Heap)(hb:dz<h.objs.size):xY P w H (h.push {cls:=.type "dict",data:=.dict #[]}) h.objs.size (.dK []):=
 ⟨bK _,beq_eq_false_iff_ne.mpr (ak (aE hb)),[],.nil,Heap.DictOf.new h⟩
def xoY:TE:=fun _ H Q=>∀p,H p=none→Q (.ref p) (upd H p (.dK []))
section
variable {X:Cx} {pos:Pos}
theorem xeA:PE X (.Dict [] [] pos) xoY:=fun pins s σ H Q I h=>
 wpAny_Dict_empty ⟨.ref s.heap.objs.size,_,I.laid (a:=s.heap.objs.size) (o:=.dK []) (t':=s.toks) (fun _ _ q=>ah _ q) (av _) (xhG s.heap I.big),rfl,h _ (I.hok.fresh (av _))⟩
end
def xhH:List (TE×TE)→St→Hp→(List (V×V)→Hp→Prop)→Prop
 |[],_,H,Q=>Q [] H
 |(tk,tv)::r,σ,H,Q=>tk σ H fun x H1=>tv σ H1 fun y H2=>xhH r σ H2 fun ps H3=>Q ((x,y)::ps) H3
abbrev VV:List (V×V)→List (Value×Value)→Prop:=Paired fun p q=>RelV p.1 q.1∧RelV p.2 q.2
def PPs(X:Cx)(pos:Pos)(keys:List (Option Expr))(values:List Expr)(trs:List (TE×TE)):Prop:=
 ∀(pins:List (Addr×Obj)) (s:af) (σ:St) (H:Hp) (Q:List (V×V)→Hp→Prop),Inv X pins σ H s→xhH trs σ H Q→
  wpAny (model X.prog X.w) X.A (evalPairs (pairTrees keys values X.env pos)) (fun vs s'=>∃ps H',Inv X pins σ H' s'∧VV ps vs∧Q ps H') X.xe s
theorem xnq{X:Cx}{pos:Pos}:PPs X pos [] [] []:=fun pins s σ H Q I h=>pairTrees_nil_walk ⟨[],H,I,.nil,h⟩
theorem xhI{X:Cx}{pos:Pos}{k v:Expr}{ks:List (Option Expr)}{vs:List Expr}{tk tv:TE}{trs:List (TE×TE)}(hk:PE X k tk)(hv:PE X v tv)(hr:PPs X pos ks vs trs):
  PPs X pos (some k::ks) (v::vs) ((tk,tv)::trs):=fun pins s σ H Q I h=>
 pairTrees_cons_walk (thn (hk pins s σ H _ I h) fun u s1 ⟨x,H1,I1,rx,q1⟩=>thn (hv pins s1 σ H1 _ I1 q1) fun w2 s2 ⟨y,H2,I2,ry,q2⟩=>
  thn (hr pins s2 σ H2 _ I2 q2) fun ws s3 ⟨ps,H3,I3,rel,q3⟩=>⟨(x,y)::ps,H3,I3,.cons ⟨rx,ry⟩ rel,q3⟩)
def xbM(kvs more:List (Key×V)):List (Key×V):=more.foldl (fun acc kv=>putK acc kv.1 kv.2) kvs
theorem KV.merge:∀{more:List (Key×V)} {rs:List (Key×Value)} {kvs:List (Key×V)} {vs:List (Key×Value)},KV more rs→KV kvs vs→KV (xbM kvs more) (merged vs rs):=by
 intro more rs kvs vs r;unfold KV at r
 induction r generalizing kvs vs with
 |nil=>intro q;exact q
 | @cons p q ps qs h t ih=>
  intro r0;have e:KV (putK kvs p.1 p.2) (stored vs q.1 q.2):=by
   have:=r0.put p.1 h.2;rw[←h.1];exact this
  exact ih e
theorem xcL:∀(more kvs:List (Key×V)),(xbM kvs more).length≤kvs.length+more.length
 |[],kvs=>by show kvs.length≤kvs.length+0;lia
 |p::r,kvs=>by
  have h1:=xcL r (putK kvs p.1 p.2);have h2:=xbn kvs p.1 p.2;show(xbM (putK kvs p.1 p.2) r).length≤_;rw[bQ];lia
theorem xe6{P:ai}{w:World}:∀{kvs:List (Key×V)} {ws:List (Value×Value)},VV (kvs.map fun kv=>(kV kv.1,kv.2)) ws→∃rs,Carries (yv P w) ws rs∧KV kvs rs
 |[],_,r=>by rw[gA]at r;cases r;exact⟨[],bY,.nil⟩
 |p::kvs,_,r=>by
  rw[bA]at r;cases r with
  | @cons a b as bs h t=>
   obtain⟨rs,c,q⟩:=xe6 (P:=P) (w:=w) t;obtain⟨b1,b2⟩:=b;exact⟨(p.1,b2)::rs,⟨xdW h.1,rfl,c⟩,.cons ⟨rfl,h.2⟩ q⟩
def xp0(trs:List (TE×TE)):TE:=fun σ H Q=>∀p,H p=none→xhH trs σ (upd H p (.dK [])) fun ps H2=>H2 p=some (.dK [])∧∃kvs:List (Key×V),ps=kvs.map (fun kv=>(kV kv.1,kv.2))∧kvs.length≤15∧Q (.ref p) (upd H2 p (.dK (xbM [] kvs)))
theorem xnr{X:Cx}{pos:Pos}{keys:List (Option Expr)}{values:List Expr}{trs:List (TE×TE)}(h:PPs X pos keys values trs)(hall:keys.all (·.isSome)=true)(hl:keys.length=values.length)(h0:keys≠[])
  (h15:keys.length≤15):PE X (.Dict keys values pos) (xp0 trs):=by
 intro pins s σ H Q I q;have hn:=I.hok.fresh (av s.heap.objs.size);have I1:=I.laid (a:=s.heap.objs.size) (o:=.dK []) (h':=s.heap.push {cls:=.type "dict",data:=.dict #[]}) (t':=s.toks) (fun _ _ q=>ah _ q) (av _) (xhG s.heap I.big);refine wpAny_Dict_walk (knd:=yv X.prog X.w) hall hl h0 h15 (thn (h pins _ σ _ _ I1 (q _ hn)) fun ws s2 ⟨ps,H2,I2,rel,e,kvs,ep,lk,q2⟩=>?_);subst ep;obtain⟨rs,c,rk⟩:=xe6 (P:=X.prog) (w:=X.w) rel;obtain⟨z,hd,vs0,r0,dd⟩:=xmV I2.hok e;cases r0;refine⟨rs,c,dd,fun h' dd' hs=>⟨.ref s.heap.objs.size,_,?_,rfl,q2⟩⟩;have hz:(xbM [] kvs).length≤aF:=by
  have h1:=xcL kvs [];rw[fB]at h1;rw[aQ];lia
 have he:∃q,h'.get? s.heap.objs.size=some q:=let⟨q,_,_,hq,_⟩:=dd';⟨q,hq⟩
 exact xf0 I2 (by rw[e];exact bY) hs he (xkZ hz hd (rk.merge .nil) dd')
section
variable {X:Cx} {pins:List (Addr×Obj)} {σ:St} {H:Hp} {s:af} {a:Addr} {y d:V} {u r:Value} {o:Option V} {A:aC} {E:Value→af→Prop}
end
section
variable {X:Cx} {o e f:Expr} {apos cpos:Pos} {td ty tx:TE}
end
section
variable {X:Cx} {pins:List (Addr×Obj)} {σ:St} {H:Hp} {s:af} {a:Addr} {kvs:List (Key×V)} {A:aC} {E:Value→af→Prop}
end
section
variable {X:Cx} {pins:List (Addr×Obj)} {σ:St} {H:Hp} {s:af} {a:Addr} {y:V} {u:Value} {A:aC} {E:Value→af→Prop}
end
end L2
namespace Att
open PySem PySem.W PySem.Calls PyProof.Rows
theorem xe7{P:Params}{h:Heap}:∀(ns:List Int) (vs:List Value),WellAll P h vs (ns.map WData.int)→ia vs ns:=by
 intro ns
 induction ns with
 |nil=>
  intro vs w;rw[gA]at w;cases w;exact .nil
 |cons n ns ih=>
  intro vs w;rw[bA]at w;cases w with
  |cons a b=>
   cases a;exact .cons _ _ (ih _ b)
theorem xk2{l:OpenLaw}{n:Nat}(hn:l.most=some n){P:Params}{h:Heap}{args:List WData}{vals:List Value}
  (hpre:l.row.toRowW.claim.pre args=true) (hwl:WellAll P h vals args):
  ∃a vs ns,vals=[az a]∧args=[WData.list (ns.map WData.int)]∧h.get? a=some {cls:=.type "list",data:=.seq vs.toArray}∧ia vs ns∧ns.length≤n:=by
 have hsh:WShape.hasAll [] args [.list .int]=true:=(pre_splitW hpre).1;have hc:l.pre.holds [] {args:=args}=true:=(pre_splitW hpre).2;obtain⟨d,r,rfl,h1,h2⟩:=hasAllW_cons hsh;obtain rfl:=hasAllW_nil h2;obtain⟨xs,rfl,h3⟩:=hasW_list h1;obtain⟨ns,rfl⟩:=items_int h3;have hlen:ns.length≤n:=by
  unfold OpenLaw.pre at hc;have h4:(WTm.not (.lt (.lit (.int (n:Int))) (.len (.arg 0)))).holds [] {args:=[.list (ns.map .int)]}=true:=by
   have h4:=(holds_andW hc).1;rw[hn]at h4;exact h4
  have h5:=condW_of h4 (w_not (w_lt w_lit (w_len_list (w_arg rfl))));rw[aq]at h5;refine Nat.le_of_not_lt fun q=>?_;have q':(n:Int)<((ns.length:Nat):Int):=by omega
  first
   |(rw[decide_eq_true q']at h5;exact absurd h5 (by decide))
   |(simp at h5;omega)
 cases hwl with
 |cons w1 w2=>
  cases w2;cases w1 with
  |list ho hall=>exact⟨_,_,ns,rfl,rfl,ho,xe7 ns _ hall,hlen⟩
theorem xk3(l:OpenLaw)(args:List WData):l.row.toRowW.claim.post args (.bool true) args=true:=
 postW_of (r:=l.row.toRowW) (X:=(true==true))
  (show WShape.has [] (.bool true) .bool=true by first|rfl|decide|simp[WShape.has,WShape.arms,WShape.armsAll])
  (show(WTm.eq .res (.lit (.bool true))).value [] {args:=args,res:=some (.bool true),after:=args}=some (.bool (true==true))from w_eq_bool (w_res rfl) w_lit) rfl
theorem xiE{l:OpenLaw}{n:Nat}{q:ai}{loose:List Str}{XP:(Str→Option Value)→Heap→Prop}{YP:World→Heap→Prop}{d:DefRec}
  (hn:l.most=some n) (hdf:d.params.defaults=[])
  (call:∀(w:World) (s₀ s₁:af) (mg mb:Str→Option Value) (fa:Addr) (o:Obj) (pm cd doc:Value) (a:Addr) (vs:List Value) (ns:List Int),
   Ground q loose [] XP w s₀ mg mb s₁.heap→YP w s₁.heap→
   s₁.heap.get? fa=some o→o.data= .func (docDef d.name d.params d.body d.scope pm cd doc)→s₁.heap.CodeRec cd d.name→mg d.name=some (.ref fa)→
   s₁.heap.get? a=some {cls:=.type "list",data:=.seq vs.toArray}→ia vs ns→ns.length≤n→s₁.gens=#[]→
   b9 (model l.prog w) gu (.call (.ref fa) ⟨[.ref a],[]⟩) (fun r s'=>r= .ok (.ret (.bool true))∧OldK s₁.heap s'.heap∧s'.os=s₁.os∧d8 s'.gens) s₁):
  WalkO q loose XP YP l.row.toRowW d [] (fun f vs=>PySem.call f vs):=by
 intro w s₀ s₁ mg mb G Y fa o pm cd doc dV kV ho hd hcd hD hmg hg args vals as hpre hlay hrd hwl hlo;obtain rfl:dV= .none:=Dflts.none hD hdf;obtain rfl:kV= .none:=Dflts.noKw hD;obtain⟨a,vs,ns,rfl,rfl,hobj,hints,hlen⟩:=xk2 hn hpre hwl;refine enter_call (bR (call w s₀ s₁ mg mb fa o pm cd doc a vs ns G Y ho (fd_plain hd) hcd hmg hobj hints hlen hg) fun r s' hq=>?_);obtain⟨rfl,h2,h3,h4⟩:=hq;exact⟨.inl ⟨.bool true,.bool true,[],rfl,fun _=>rfl,.bool true,xk3 l _,fun _=>⟨List.Pairwise.nil,fun _ hm=>(nomatch hm)⟩⟩,h2,h3,h4⟩
section
variable {prog:ai} {w:World} {A:aC} {E:Value→af→Prop} {s:af} {K:Frag}
end
end Att
namespace L2
open PySem PySem.Spec PyProof.Rows
theorem xgJ:∀{vs:List Value} {ns:List Int},ia vs ns→Vals (ns.map V.int) vs
 |_,_,.nil=>.nil
 |_,_,.cons n t h=>.cons ⟨t,rfl⟩ (xgJ h)
end L2
namespace L2
open PySem PySem.Spec PyProof.Rows
end L2
namespace L2
open PySem PySem.Spec PyProof.Rows
def inClass(s:Stmt)(j:Nat):Stmt:=match s with
 | .ClassDef _ _ _ body _ _ _ _ _ _ _=>body.getD j (.Pass ⟨0,0,0,0⟩)
 |_=>.Pass ⟨0,0,0,0⟩
def xZ(s:Stmt):bX:=match s with
 | .FunctionDef _ a _ _ _ _ _ _ _ _=>a
 |_=>{posonlyargs:=[],args:=[],vararg:=none,kwonlyargs:=[],kw_defaults:=[],kwarg:=none,defaults:=[]}
def xN(s:Stmt):List Stmt:=match s with
 | .FunctionDef _ _ b _ _ _ _ _ _ _=>b
 |_=>[]
def xj(s:Stmt):Scope:=match s with
 | .FunctionDef _ _ _ _ _ _ sc _ _ _=>sc
 |_=>{kind:=.function,names:=[],isGenerator:=false,isCoroutine:=false}
abbrev CX0:CXT:=fun _ _ _ _ _ _=>False
abbrev E0:XK:=fun _ _ _=>False
theorem xu{X:Cx}:Passes CX0 X E0:=fun _ _ _ _ _ _ _ h=>h.elim
structure Fun(K:ag)(x qual:Str)(st:Stmt)(f:Addr)(fd:aj):Prop where
 ex:∃(oc:Value) (od:Option Addr) (kV doc pm:Value) (an:Option Addr) (cdv ct:Value) (osl:Array (Option Value)),
  fd=bU x qual (xZ st) (xN st) (xj st) .none kV doc pm an cdv ct∧K.lookup f=some ⟨oc,od,.func fd,osl⟩∧cw K cdv qual=true
 kp:bV K (.ref f)=true
section
variable {P:ai} {w:World} {K:ag} {mg:Str→Option Value} {base:Heap}
theorem Fun.ok{x qual:Str}{st:Stmt}{f:Addr}{fd:aj}{N ps:List Str}{k:Nat}{sp:Sp}(F:Fun K x qual st f fd)(S:xq N ps (xj st))(len:∀vs H Q E,sp vs H Q E→vs.length=ps.length)
  (hbody:∀(cdv:Value) (A:aC) (outer:List Env) (s:af) (H:Hp) (vs:List V) (Q:VK) (E:XK),xS k (A.deeper (cR qual (xj st) s.heap.objs.size f cdv))→sp vs H Q E→
   ∃t,PSs (zU CX0 P w K mg base N qual (xj st) f cdv A outer s H E).nox (xN st) t∧t {nx:=fun _ H'=>Q .non H',rt:=Q} (start N vs) H):xA P w K mg base CX0 (k+1) f fd ps sp:=by
 obtain⟨oc,od,kV,doc,pm,an,cdv,ct,osl,rfl,lk,hcd⟩:=F.ex;refine xe1 lk hcd S len fun A outer s H vs Q E hr hsp=>?_;obtain⟨t,h,q⟩:=hbody cdv A outer s H vs Q E hr hsp;exact⟨t,h.nox,q⟩
theorem Fun.binds{x qual:Str}{st:Stmt}{f:Addr}{fd:aj}{ps:List Str}(F:Fun K x qual st f fd)
  (h:∀(kV doc pm:Value) (an:Option Addr) (cdv ct:Value) (us:List Value),us.length=ps.length→dH (bU x qual (xZ st) (xN st) (xj st) .none kV doc pm an cdv ct) ⟨us,[]⟩=pure (ps.zip us)):Binds K fd ps []:=by
 obtain⟨oc,od,kV,doc,pm,an,cdv,ct,osl,rfl,lk,hcd⟩:=F.ex;exact .all (h kV doc pm an cdv ct)
theorem vG{x qual:Str}{st:Stmt}{f:Addr}{oc:Value}{od an:Option Addr}{osl:Array (Option Value)}{kV doc pm cdv ct:Value}(l:K.lookup f=some ⟨oc,od,.func (bU x qual (xZ st) (xN st) (xj st) .none kV doc pm an cdv ct),osl⟩)
  (c:cw K cdv qual=true) (k:bV K (.ref f)=true):Fun K x qual st f (bU x qual (xZ st) (xN st) (xj st) .none kV doc pm an cdv ct):=⟨⟨oc,od,kV,doc,pm,an,cdv,ct,osl,rfl,l,c⟩,k⟩
end
theorem uG{A:aC}{k:Nat}(hr:xS k A):A.units+1<cLine:=dC (Nat.add_le_add_left (by decide:1≤64) _) hr.units
section
variable {X:Cx}
end
def xc(H H':Hp):Prop:=∀b o,H b=some o→H' b=some o
theorem xc.refl(H:Hp):xc H H:=fun _ _ h=>h
theorem xc.trans{H H1 H2:Hp}(a:xc H H1)(b:xc H1 H2):xc H H2:=fun c o h=>b c o (a c o h)
theorem xc.free{H H':Hp}(e:xc H H'){l:Addr}(h:H' l=Option.none):H l=Option.none:=by
 cases q:H l with
 |none=>rfl
 |some o=>
  rw[e l o q]at h;cases h
theorem xc.seq{K:ag}{H H':Hp}{a:Addr}{xs:List V}(e:xc H H')(h:SqL K H a xs):SqL K H' a xs:=by
 rcases h with(h|⟨o,h⟩)|h
 ·exact .inl (.inl (e _ _ h))
 ·exact .inl (.inr ⟨o,e _ _ h⟩)
 ·exact .inr h
section
variable {X:Cx}
end
section
variable {κ:Type} [DecidableEq κ]
theorem xjg:∀{l:List κ} {k:κ},l.Nodup→¬k∈l→(l++[k]).Nodup
 |[],k,_,_=>by simp
 |a::r,k,h,hk=>by
  obtain⟨h1,h2⟩:=bq.mp h;show(a::(r++[k])).Nodup;refine bq.mpr ⟨fun m=>?_,xjg h2 fun m=>hk (aw.mpr (cx m))⟩;rcases bu.mp m with q|q
  ·exact h1 q
  ·exact hk (aw.mpr (ay (au.mp q).symm))
end
end L2
set_option maxHeartbeats 4000000
namespace L2
open PySem PySem.Spec PyProof.Rows
section
variable {X:Cx}
theorem PE.imp{e:Expr}{t t':TE}(h:PE X e t)(i:∀σ H Q,t' σ H Q→t σ H Q):PE X e t':=
 fun pins s σ H Q I q=>h pins s σ H Q I (i σ H Q q)
theorem PT.imp{e:Expr}{t t':TT}(h:PT X e t)(i:∀σ H Q,t' σ H Q→t σ H Q):PT X e t':=
 fun pins s σ H Q I q=>h pins s σ H Q I (i σ H Q q)
theorem OpR.imp{f:Value→Value→Sem Value}{r r':R2}(h:OpR X f r)(i:∀x y H Q,r' x y H Q→r x y H Q):OpR X f r':=
 fun pins s σ H x y v u Q I rx ry q=>h pins s σ H x y v u Q I rx ry (i x y H Q q)
theorem UnR.imp{f:Value→Sem Value}{r r':V→Hp→VK→Prop}(h:UnR X f r)(i:∀x H Q,r' x H Q→r x H Q):UnR X f r':=
 fun pins s σ H x v Q I rx q=>h pins s σ H x v Q I rx (i x H Q q)
theorem yF.imp{f:Value}{r r':List V→Hp→VK→Prop}(h:yF X f r)(i:∀xs H Q,r' xs H Q→r xs H Q):yF X f r':=
 fun pins s σ H xs us Q I rv q=>h pins s σ H xs us Q I rv (i xs H Q q)
theorem xbN{e:Expr}{t u:TE}(h:PE X e t)(k:PE X e u):PE X e (fun σ H Q=>t σ H Q∨u σ H Q):=
 fun pins s σ H Q I q=>q.elim (fun z=>h pins s σ H Q I z) (fun z=>k pins s σ H Q I z)
def zB(i:Nat):TE:=fun σ H Q=>match σ[i]? with
 |some (some v)=>Q v H
 |_=>False
theorem xmb{i:Nat}{σ:St}{H:Hp}{Q:VK}(q:zB i σ H Q):xoE i σ H Q:=by
 unfold zB at q
 split at q
 ·rename_i v e;exact⟨v,e,q⟩
 ·exact q.elim
theorem cv(i:Nat){x:Str}{pos:Pos}(hN:X.N[i]? =some x:=by rfl)(hv:Vis X.env.scope x:=by first|exact ay rfl|exact cx (ay rfl)|exact cx (cx rfl))(hd:(x==("__debug__":Str))=false:=by decide)
  (hcd:(x==("__classdict__":Str))=false:=by decide):PE X (.Name x pos) (zB i):=(xhA hN hv hd hcd).imp fun _ _ _ q=>xmb q
def kI(C:Int→Int→Prop)(g:Int→Int→V):R2:=fun x y H Q=>match x with
 | .int i=>(match y with
  | .int j=>C i j∧Q (g i j) H
  |_=>False)
 |_=>False
def kI0(g:Int→Int→V):R2:=fun x y H Q=>match x with
 | .int i=>(match y with
  | .int j=>Q (g i j) H
  |_=>False)
 |_=>False
theorem xe8{C:Int→Int→Prop}{g:Int→Int→V}{x y:V}{H:Hp}{Q:VK}(q:kI C g x y H Q):rI C g x y H Q:=by
 cases x with
 |int i=>
  cases y with
  |int j=>exact⟨i,j,rfl,rfl,q.1,q.2⟩
  |_=>exact aT q
 |_=>exact aT q
theorem vt{g:Int→Int→V}{x y:V}{H:Hp}{Q:VK}(q:kI0 g x y H Q):rI0 g x y H Q:=by
 cases x with
 |int i=>
  cases y with
  |int j=>exact⟨i,j,rfl,rfl,q⟩
  |_=>exact aT q
 |_=>exact aT q
theorem ug:OpR X (ck .Add) (kI0 fun i j=>.int (i+j)):=xoJ.imp fun _ _ _ _=>vt
theorem zC:OpR X (ck .Sub) (kI0 fun i j=>.int (i - j)):=xoK.imp fun _ _ _ _=>vt
theorem xjS:OpR X (ck .Mult) (kI xjK fun i j=>.int (i*j)):=xoL.imp fun _ _ _ _=>xe8
def xmW(_i j:Int):Prop:=0<j∧j.natAbs.log2<9000
theorem xas:OpR X (ck .FloorDiv) (kI xmW fun i j=>.int (i / j)):=
 (opI (C:=xmW) (g:=fun i j=>i / j) fun i j _ _ _ _ _ hc q=>by
  have h0:0<j:=hc.1;rw[←Int.fdiv_eq_ediv_of_nonneg i (Int.le_of_lt h0)]at q;exact floordiv_int (Int.ne_of_gt h0) q (.inl (gC hc.2))).imp fun _ _ _ _=>xe8
theorem uH:OpR X (ck .Mod) (kI (fun _ j=>0<j) fun i j=>.int (i%j)):=xoM.imp fun _ _ _ _=>xe8
theorem xp1:OpR X (ck .Pow) (kI xoI fun i j=>.int (i^j.toNat)):=xoN.imp fun _ _ _ _=>xe8
theorem xjT:OpR X (bE .Lt) (kI0 fun i j=>.bl (decide (i<j))):=xpQ.imp fun _ _ _ _=>vt
theorem xmc:OpR X (bE .LtE) (kI0 fun i j=>.bl (decide (i≤j))):=xpR.imp fun _ _ _ _=>vt
theorem xc9:OpR X (bE .Gt) (kI0 fun i j=>.bl (decide (j<i))):=xpS.imp fun _ _ _ _=>vt
theorem xoZ:OpR X (bE .GtE) (kI0 fun i j=>.bl (decide (j≤i))):=xpT.imp fun _ _ _ _=>vt
theorem xhu{a b:V}{p:Prop}[Decidable p](h:a=b↔p):decide (a=b)=decide p:=by
 by_cases e:p
 ·rw[decide_eq_true e,decide_eq_true (h.mpr e)]
 ·rw[decide_eq_false e,decide_eq_false (fun q=>e (h.mp q))]
theorem zD:OpR X (bE .Eq) (kI0 fun i j=>.bl (decide (i=j))):=xmR.imp fun x y H Q q=>by
 obtain⟨i,j,rfl,rfl,q⟩:=vt q;exact⟨rfl,by rw[xhu (p:=i=j) ⟨fun e=>V.int.inj e,fun e=>by rw[e]⟩];exact q⟩
theorem xa8:OpR X (bE .NotEq) (kI0 fun i j=>.bl (!decide (i=j))):=xmS.imp fun x y H Q q=>by
 obtain⟨i,j,rfl,rfl,q⟩:=vt q;exact⟨rfl,by rw[xhu (p:=i=j) ⟨fun e=>V.int.inj e,fun e=>by rw[e]⟩];exact q⟩
def kS0(g:Str→Str→V):R2:=fun x y H Q=>match x with
 | .str i=>(match y with
  | .str j=>Q (g i j) H
  |_=>False)
 |_=>False
theorem xjh{g:Str→Str→V}{x y:V}{H:Hp}{Q:VK}(q:kS0 g x y H Q):∃i j,x= .str i∧y= .str j∧Q (g i j) H:=by
 cases x with
 |str i=>
  cases y with
  |str j=>exact⟨i,j,rfl,rfl,q⟩
  |_=>exact aT q
 |_=>exact aT q
theorem ju:OpR X (bE .Eq) (kS0 fun i j=>.bl (decide (i=j))):=xmR.imp fun x y H Q q=>by
 obtain⟨i,j,rfl,rfl,q⟩:=xjh q;exact⟨rfl,by rw[xhu (p:=i=j) ⟨fun e=>V.str.inj e,fun e=>by rw[e]⟩];exact q⟩
theorem vH:OpR X (bE .NotEq) (kS0 fun i j=>.bl (!decide (i=j))):=xmS.imp fun x y H Q q=>by
 obtain⟨i,j,rfl,rfl,q⟩:=xjh q;exact⟨rfl,by rw[xhu (p:=i=j) ⟨fun e=>V.str.inj e,fun e=>by rw[e]⟩];exact q⟩
def kU(g:Int→V):V→Hp→VK→Prop:=fun x H Q=>match x with
 | .int i=>Q (g i) H
 |_=>False
theorem xp2:UnR X (unaryOp .USub) (kU fun i=>.int (-i)):=xoO.imp fun x H Q q=>by
 cases x with
 |int i=>exact⟨i,rfl,q⟩
 |_=>exact aT q
def xhv(Q:Bool→Hp→Prop):VK:=fun x H1=>match x with
 | .bl k=>Q k H1
 |_=>False
theorem xat{Q:Bool→Hp→Prop}{x:V}{H1:Hp}(q:xhv Q x H1):∃k,x= .bl k∧Q k H1:=by
 cases x with
 |bl k=>exact⟨k,rfl,q⟩
 |_=>exact aT q
def cB(t:TE):TT:=fun σ H Q=>t σ H (xhv Q)
variable {a b c:Expr} {ta tb tc:TE} {tA tB':TT} {pos:Pos} {rest:List Expr}
theorem xH{op:CmpOp}{r:R2}(ho:OpR X (bE op) r)(ha:PE X a ta)(hb:PE X b tb)(hm:cA op b=false:=by exact xkP _):PT X (.Compare a [op] [b] pos) (cB (tOp r ta tb)):=by
 intro pins s σ H Q I h;refine ff (thn (ha pins s σ H _ I h) fun v s1 ⟨x,H1,I1,r1,q1⟩=>thn (hb pins s1 σ H1 _ I1 q1) fun u s2 ⟨y,H2,I2,r2,q2⟩=>
  thn (ho pins s2 σ H2 x y v u _ I2 r1 r2 q2) fun c s3 ⟨z,H3,I3,r3,q3⟩=>?_) hm
 obtain⟨k,rfl,q⟩:=xat q3;cases r3;exact bZ ⟨H3,I3,q⟩
theorem uw{op:CmpOp}{r:R2}(ho:OpR X (bE op) r)(ha:PE X a ta)(hb:PE X b tb)(hm:cA op b=false:=by exact xkP _):PE X (.Compare a [op] [b] pos) (tOp r ta tb):=xng ho ha hb hm
theorem zw{e:Expr}{t:TE}(h:PE X e t)(he:∀whole,isTrue e X.env whole=(do let v ←whole;fg e.pos;dN [v] (truthy v)):=by intro _;rfl):PT X e (cB t):=by
 intro pins s σ H Q I hw;refine isTrue_plain (thn (h pins s σ H _ I hw) fun v s1 ⟨x,H1,I1,r1,q1⟩=>?_) (he _);obtain⟨d,rfl,q⟩:=xat q1;cases r1;exact bZ ⟨H1,I1,q⟩
def xqK(t u:TT):TT:=fun σ H Q=>t σ H fun c H1=>(c=true→u σ H1 Q)∧(c=false→Q false H1)
def cOr(t u:TT):TT:=fun σ H Q=>t σ H fun c H1=>(c=true→Q true H1)∧(c=false→u σ H1 Q)
theorem xe9(ha:PT X a tA)(hb:PW X (.BoolOp .And (b::rest) pos) tB'):PW X (.BoolOp .And (a::b::rest) pos) (xqK tA tB'):=by
 intro wh pins s σ H Q I h;refine isTrue_and (thn (ha pins s σ H _ I h) fun c s1 ⟨H1,I1,q1⟩=>?_);cases c with
 |true=>exact hb wh pins s1 σ H1 Q I1 (q1.1 rfl)
 |false=>exact⟨H1,I1,q1.2 rfl⟩
theorem va(ha:PT X a tA)(hb:PW X (.BoolOp .Or (b::rest) pos) tB'):PW X (.BoolOp .Or (a::b::rest) pos) (cOr tA tB'):=by
 intro wh pins s σ H Q I h;refine isTrue_or (thn (ha pins s σ H _ I h) fun c s1 ⟨H1,I1,q1⟩=>?_);cases c with
 |true=>exact⟨H1,I1,q1.1 rfl⟩
 |false=>exact hb wh pins s1 σ H1 Q I1 (q1.2 rfl)
def xp3(ta tb:TE):TE:=fun σ H Q=>ta σ H (xhv fun c H1=>(c=true→tb σ H1 Q)∧(c=false→Q (.bl false) H1))
def xp4(ta:TE):TE:=fun σ H Q=>ta σ H (xhv fun c H1=>Q (.bl (!c)) H1)
theorem zP(ha:PE X a ta)(hb:PE X (.BoolOp .And (b::rest) pos) tb):PE X (.BoolOp .And (a::b::rest) pos) (xp3 ta tb):=by
 intro pins s σ H Q I h;refine BoolOp_and (thn (ha pins s σ H _ I h) fun v s1 ⟨x,H1,I1,r1,q1⟩=>?_);obtain⟨c,rfl,q1⟩:=xat q1;cases r1;refine bZ ?_;cases c with
 |true=>exact hb pins s1 σ H1 Q I1 (q1.1 rfl)
 |false=>exact⟨.bl false,H1,I1,rfl,q1.2 rfl⟩
theorem xo0(ha:PE X a ta):PE X (.UnaryOp .Not a pos) (xp4 ta):=by
 intro pins s σ H Q I h;refine UnaryOp_ (thn (ha pins s σ H _ I h) fun v s1 ⟨x,H1,I1,r1,q1⟩=>?_);obtain⟨c,rfl,q1⟩:=xat q1;cases r1;exact not_of (bZ ⟨.bl (!c),H1,I1,rfl,q1⟩)
def cIf(t:TT)(ta tb:TE):TE:=fun σ H Q=>t σ H fun c H1=>(c=true→ta σ H1 Q)∧(c=false→tb σ H1 Q)
theorem xmX{c:Expr}(hc:PT X c tA)(ha:PE X a ta)(hb:PE X b tb):PE X (.IfExp c a b pos) (cIf tA ta tb):=by
 intro pins s σ H Q I h;refine wpAny_IfExp (thn (hc pins s σ H _ I h) fun d s1 ⟨H1,I1,q1⟩=>?_);cases d with
 |true=>exact ha pins s1 σ H1 Q I1 (q1.1 rfl)
 |false=>exact hb pins s1 σ H1 Q I1 (q1.2 rfl)
def xqL(c:TT)(t u:TS):TS:=fun D σ H=>c σ H fun b H1=>(b=true→t D σ H1)∧(b=false→u D σ H1)
theorem xI{c:Expr}{p q:List Stmt}{tc:TT}{t u:TS}(hc:PT X c tc)(ha:PSs X p t)(hb:PSs X q u):PS X (.If c p q pos) (xqL tc t u):=by
 intro pins s σ H D I h;refine wpAny_If (thn (hc pins s σ H _ I h) fun d s1 ⟨H1,I1,q1⟩=>?_);cases d with
 |true=>exact ha pins s1 σ H1 D I1 (q1.1 rfl)
 |false=>exact hb pins s1 σ H1 D I1 (q1.2 rfl)
@[irreducible] def xqR(c:TT)(tb:TS)(D:Ends)(σ:St)(H:Hp):Prop:=∃W:Nat→St→Hp→Prop,(∃m,W m σ H)∧∀m σ H,W m σ H→
 c σ H fun b H1=>(b=true→∃N:St→Hp→Prop,(∀σ' H',N σ' H'→∃m',m'<m∧W m' σ' H')∧tb {D with nx:=N,ct:=N,bk:=D.nx} σ H1)∧(b=false→D.nx σ H1)
@[irreducible] def uh(J:It)(g:TG)(tb:TS)(D:Ends)(σ:St)(H1:Hp):Prop:=∃W:Nat→Nat→St→Hp→Prop,(∃m,W 0 m σ H1)∧∀i m σ H,W i m σ H→
 (J.stop i H∧D.nx σ H)∨(J.go i H∧∃N:St→Hp→Prop,(∀σ' H',N σ' H'→∃m',m'<m∧W (i+1) m' σ' H')∧∀x H',J.yld i H x H'→g x σ H' fun σ2 H2=>tb {D with nx:=N,ct:=N,bk:=D.nx} σ2 H2)
def xmd(wi:TI)(g:TG)(tb:TS):TS:=fun D σ H=>wi σ H fun J H1=>uh J g tb D σ H1
theorem xns(wi:TI)(g:TG)(tb:TS):xmd wi g tb=xlZ wi g tb:=by
 funext D σ H
 unfold xmd xlZ
 congr 1
 funext J H1
 unfold uh;rfl
theorem yK{tg iter:Expr}{body:List Stmt}{wi:TI}{g:TG}{tb:TS}{pos:Pos}(hp:PassesOwn (model X.prog X.w) X.A X.env X.xe)(hc:X.calm=true)(hi:PI X tg iter wi)(hg:PG X tg g)(hb:PSs X body tb)
  (hs:∀x,eN iter X.env x=pure x:=by intro _;rfl):PS X (.For tg iter body [] pos) (xmd wi g tb):=by
 rw[xns];exact xoG hp hc hi hg hb hs
def xqM(t:TS):TS:=fun D σ H=>∃M:L2.St→Hp→Prop,t {D with nx:=M} σ H∧∀σ' H',M σ' H'→D.nx σ' H'
theorem zQ{st:Stmt}{t:TS}(h:PS X st t):PS X st (xqM t):=by
 intro pins s σ H D I q;obtain⟨M,q1,q2⟩:=q;refine thn (h pins s σ H _ I q1) fun f s' z=>?_;cases f with
 |next=>obtain⟨σ',H',I',m⟩:=z;exact⟨σ',H',I',q2 σ' H' m⟩
 |brk=>exact z
 |cont=>exact z
 |ret v=>exact z
end
end L2
namespace L2
open PySem PySem.Spec PyProof.Rows
def yH(cells:List (Str×Addr)):List (Str×cE)→List (Str×Addr)→List (Str×Addr)
 |[],cs=>cs
 |(n,k)::r,cs=>yH cells r (if k== .free then(n,(cells.lookup n).getD 0)::cs else cs)
theorem xb6{scope:Scope}{env:Env}(h:∀y∈scope.names,y.2= .free→∃c,env.cells.lookup y.1=some c):iu scope env=pure (yH env.cells scope.names []):=by
 have all:∀(l:List (Str×cE)) (cs:List (Str×Addr)),(∀y∈l,y.2= .free→∃c,env.cells.lookup y.1=some c)→
   (forIn l cs fun x r=>match x with
    |(name,kind)=>if (kind==bG)=true then do let a ←cellOf env name;pure (dD ((name,a)::r))else pure (dD r):Sem (List (Str×Addr)))=pure (yH env.cells l cs):=by
  intro l
  induction l with
  |nil=>intro cs _;rfl
  |cons y r ih=>
   intro cs hl;obtain⟨n,k⟩:=y;rw[List.forIn_cons]
   by_cases hk:k= .free
   ·subst hk;obtain⟨c,hc⟩:=hl (n,.free) bz rfl;have e:cellOf env n=pure c:=by unfold cellOf;rw[hc]
    simp only[beq_self_eq_true,if_true,e,pure_bind];rw[ih _ fun z hz=>hl z (aZ _ hz)];simp[yH,hc]
   ·have hb:(k==bG)=false:=by simpa using hk
    simp only[hb,dE,if_false,pure_bind];rw[ih _ fun z hz=>hl z (aZ _ hz)];simp[yH,hb]
 unfold iu;have:=all scope.names [] h;simp only[bind_pure]at this⊢;exact this
theorem xeB{cells:List (Str×Addr)}:∀{l:List (Str×cE)} {cs:List (Str×Addr)} {x:Str} {c:Addr},(∀y∈l,y.2= .free→∃c,cells.lookup y.1=some c)→(yH cells l cs).lookup x=some c→
  cs.lookup x=some c∨cells.lookup x=some c
 |[],cs,x,c,_,h=>.inl h
 |(n,k)::r,cs,x,c,hl,h=>by
  unfold yH at h;rcases xeB (fun z hz=>hl z (aZ _ hz)) h with q|q
  ·split at q
   ·rename_i hk;rw[bH]at q
    split at q
    ·rename_i hx;obtain⟨c',hc⟩:=hl (n,k) bz (by simpa using hk);have e:x=n:=by simpa using hx
     subst e;rw[hc]at q
     right
     rw[hc];simpa using q
    ·exact .inl q
   ·exact .inl q
  ·exact .inr q
theorem xb7{cells:List (Str×Addr)}:∀{l:List (Str×cE)} {cs:List (Str×Addr)} {x:Str},(x,bG)∈l∨(∃c,cs.lookup x=some c)→∃c,(yH cells l cs).lookup x=some c
 |[],cs,x,h=>by
  rcases h with h|h
  ·simp at h
  ·exact h
 |(n,k)::r,cs,x,h=>by
  unfold yH;refine xb7 ?_;rcases h with h|⟨c,h⟩
  ·rcases aw.mp h with h|h
   ·cases h
    right
    simp
   ·exact .inl h
  ·right
   split
   ·rw[bH]
    split
    ·exact⟨_,rfl⟩
    ·exact⟨c,h⟩
   ·exact⟨c,h⟩
def Cx.blk(X:Cx)(scope:Scope)(C:Addr)(Nc:List Str)(s₂:af)(H₂:Hp)(fp:List Addr):Cx:=
 {X with N:=Nc,s₀:=s₂,H₀:=H₂,env:=compEnvC scope (yH X.env.cells scope.names []) C X.env,outer:=X.stack,stack:=X.stack,ex:=fp,fn:=fun _=>false,pn:=[],xe:=fun _ _=>False,cp:=fun _=>false}
def xfa(X:Cx)(scope:Scope):List Nat→List Str→Prop
 |[],[]=>True
 |j::js,y::ys=>(X.N[j]? =some y∧scope.names.lookup y=some .free∧(X.env.kindOf y=some .cell∨X.env.kindOf y=some .free))∧xfa X scope js ys
 |_,_=>False
def xau(σ:St)(cap:List Nat):St:=cap.map fun j=>(σ[j]?).getD none
structure ui(X:Cx)(scope:Scope)(x:Str)(cap:List Nat)(ys:List Str):Prop where
 kind:scope.kind= .function
 nocell:∀y∈scope.names,y.2≠.cell
 locs:∀y∈scope.names,y.2= .local→scope.names.lookup y.1=some .local
 lx:scope.names.lookup x=some .local
 fr:∀y∈scope.names,y.2= .free→X.env.kindOf y.1=some .cell∨X.env.kindOf y.1=some .free
 cap:xfa X scope cap ys
 nd:(x::ys).Nodup
theorem vI{X:Cx}{scope:Scope}{x:Str}{cap:List Nat}{ys:List Str}(kind:scope.kind= .function)(h1:(scope.names.all fun y=> !(y.2== .cell))=true)(h2:(scope.names.all fun y=> !(y.2== .local)||scope.names.lookup y.1==some .local)=true)
  (hx:scope.names.lookup x=some .local) (h3:(scope.names.all fun y=> !(y.2== .free)||(X.env.kindOf y.1==some .cell||X.env.kindOf y.1==some .free))=true) (hcap:xfa X scope cap ys) (hnd:(x::ys).Nodup):ui X scope x cap ys:=by
 refine⟨kind,fun y hy e=>?_,fun y hy e=>?_,hx,fun y hy e=>?_,hcap,hnd⟩
 ·have:=cF.mp h1 y hy;rw[e]at this;exact absurd this (by decide)
 ·have:=cF.mp h2 y hy;rw[e]at this;simpa using this
 ·have:=cF.mp h3 y hy;rw[e]at this;simpa using this
theorem xda{X:Cx}{scope:Scope}{σ:St}:∀{cap:List Nat} {ys:List Str} {i:Nat} {y:Str} {v:V},xfa X scope cap ys→ys[i]? =some y→(xau σ cap)[i]? =some (some v)→
  ∃j:Nat,X.N[j]? =some y∧σ[j]? =some (some v)∧scope.names.lookup y=some .free∧(X.env.kindOf y=some .cell∨X.env.kindOf y=some .free)
 |[],[],i,y,v,_,h,_=>by simp at h
 |j::js,z::zs,0,y,v,⟨⟨h1,h2,h3⟩,_⟩,e1,e2=>by
  simp at e1;subst e1;refine⟨j,h1,?_,h2,h3⟩;simp only[xau,bA,List.getElem?_cons_zero,i3]at e2;cases q:σ[j]? with
  |none=>rw[q]at e2;cases e2
  |some w=>rw[q]at e2;simp at e2;rw[e2]
 |j::js,z::zs,i+1,y,v,⟨_,h⟩,e1,e2=>xda (i:=i) h (by simpa using e1) (by simpa [xau]using e2)
 |[],_::_,_,_,_,h,_,_=>h.elim
 |_::_,[],_,_,_,h,_,_=>h.elim
theorem xgK{X:Cx}{scope:Scope}:∀{cap:List Nat} {ys:List Str},xfa X scope cap ys→cap.length=ys.length
 |[],[],_=>rfl
 |_::_,_::_,⟨_,h⟩=>by simp[xgK h]
 |[],_::_,h=>h.elim
 |_::_,[],h=>h.elim
theorem xeC{l:List (Str×cE)}{y:Str}{k:cE}(h:l.lookup y=some k):(y,k)∈l:=PySem.mem_of_lookup h
theorem xdb{env:Env}:∀{names:List (Str×cE)} {x:Str},names.lookup x=some .free→
  (names.map fun(n,k)=>if (k==bG&&env.scope.kind== .function&&env.kindOf n==some .cell)then(n,iJ)else(n,k)).lookup x=some .cell∨
  (names.map fun(n,k)=>if (k==bG&&env.scope.kind== .function&&env.kindOf n==some .cell)then(n,iJ)else(n,k)).lookup x=some .free
 |[],_,h=>by simp at h
 |(n,k)::r,x,h=>by
  have ih:= @xdb env r x;rw[bA];rw[bH]at h;cases hx:x==n with
  |true=>
   rw[hx]at h;simp only[i3]at h;subst h;dsimp only
   split
   ·left;rw[bH,hx]
   ·right;rw[bH,hx]
  |false=>
   rw[hx]at h;dsimp only
   split
   ·rw[bH,hx];exact ih h
   ·rw[bH,hx];exact ih h
theorem xai{env:Env}:∀{names:List (Str×cE)} {x:Str} {k:cE},
  (names.map fun(n,k)=>if (k==bG&&env.scope.kind== .function&&env.kindOf n==some .cell)then(n,iJ)else(n,k)).lookup x=some k→(k= .cell∨k= .free)→(∀y∈names,y.2≠.cell)→(x,bG)∈names
 |[],_,_,h,_,_=>by simp at h
 |(n,k')::r,x,k,h,hk,hc=>by
  rw[bA]at h;have hc':∀y∈r,y.2≠.cell:=fun y hy=>hc y (aZ _ hy);have nk:k'≠.cell:=hc (n,k') bz;dsimp only at h
  split at h
  ·rename_i q;rw[bH]at h
   split at h
   ·rename_i hx;have e:x=n:=by simpa using hx
    have e2:k'= .free:=by
     simp only[df,beq_iff_eq]at q;exact q.1.1
    rw[e,e2];exact bz
   ·exact aZ _ (xai h hk hc')
  ·rw[bH]at h
   split at h
   ·rename_i hx;have e:x=n:=by simpa using hx
    have e3:k'=k:=by simpa using h
    rcases hk with q|q
    ·exact absurd (e3.trans q) nk
    ·rw[e,e3,q];exact bz
   ·exact aZ _ (xai h hk hc')
section
variable {X:Cx} {scope:Scope} {x:Str} {cap:List Nat} {ys:List Str}
theorem ui.clos(B:ui X scope x cap ys)(ok:X.Ok):∀y∈scope.names,y.2= .free→∃c,X.env.cells.lookup y.1=some c:=fun y hy e=>ok.has y.1 (B.fr y hy e)
theorem ui.sub(B:ui X scope x cap ys)(ok:X.Ok){z:Str}{c:Addr}(h:(yH X.env.cells scope.names []).lookup z=some c):X.env.cells.lookup z=some c:=by
 rcases xeB (B.clos ok) h with q|q
 ·simp at q
 ·exact q
theorem ui.start{pins:List (Addr×Obj)}{σ:St}{H₂:Hp}{s₂:af}{fp:List Addr}{h₁:Heap}{tk:Nat}{C D:Addr}(B:ui X scope x cap ys)(I:Inv X pins σ H₂ s₂)
  (hf:∀b∈fp,xbl X pins H₂ b) (hD:s₂.heap.objs.size≤D) (hC:s₂.heap.objs.size≤C) (hDC:D≠C) (hk:∀b o,s₂.heap.get? b=some o→h₁.get? b=some o)
  (hns:∃m,h₁.Ns C m) (hl:h₁.get? D=some {cls:=.type "list",data:=.seq ([]:List Value).toArray}) (hfp:∀b∈fp,b<s₂.heap.objs.size):
  Inv (X.blk scope C (x::ys) s₂ H₂ fp) [] (none::xau σ cap) (upd H₂ D (.lst [])) {s₂ with heap:=h₁,toks:=tk}:=by
 have ok:=I.ok;have freshC:H₂ C=none:=I.hok.fresh hC;have freshD:H₂ D=none:=I.hok.fresh hD;have lt:∀b o,s₂.heap.get? b=some o→b<s₂.heap.objs.size:=fun b o e=>ax e;refine⟨⟨ok.mod,B.kind,ok.glob,ok.blt,hC,fun y z c h1 h2=>ok.inj y z c (B.sub ok h1) (B.sub ok h2),fun y hy=>?_,fun y c h=>(aI h).elim,ok.hd,ok.frames,.inl rfl,fun b hb=>⟨?_,fun y c h e=>?_⟩,I.bs,bp ok.bsz I.sz,fun b o e hb=>?_,fun b hb hs=>?_,I.stack,I.stkFree,fun y c h=>(aI h).elim,fun b hb=>I.hok.fresh hb⟩,
  rfl,I.bare,Un.laid hk hD freshD,?_,fun y c h=>?_,?_,fun y c h=>?_,fun p hp=>?_,?_,?_⟩
 ·have hy':(relabel scope X.env).names.lookup y=some .cell∨(relabel scope X.env).names.lookup y=some .free:=hy;have m:(y,bG)∈scope.names:=by
   rcases hy' with q|q
   ·exact xai q (.inl rfl) B.nocell
   ·exact xai q (.inr rfl) B.nocell
  exact xb7 (.inl m)
 ·exact aE (aD (hfp b hb) hC)
 ·exact(hf b hb).2.2.2.2.1 y c (B.sub ok h) e
 ·rcases(hf b hb).2.2.2.1 with q|q
  ·exact ok.noex b o e q
  ·exact absurd (aD (ax (ok.bs b o e).1) q) (bO _)
 ·rcases aw.mp (I.stkSub b hs)with q|q
  ·exact(hf b hb).2.1 q
  ·exact(hf b hb).2.2.1 q
 ·obtain⟨m,hm⟩:=hns;refine⟨m,hm,fun i y v e1 e2 e3=>?_⟩;cases i with
  |zero=>simp at e2
  |succ i=>
   obtain⟨j,n1,n2,n3,n4⟩:=xda (i:=i) B.cap (by simpa [Cx.blk]using e1) (by simpa using e2);obtain⟨m0,hn0,hl0⟩:=I.loc;have vis:Vis X.env.scope y:=by
    rcases n4 with q|q
    ·exact .inr (.inl q)
    ·exact .inr (.inr q)
   obtain⟨u,ru,l⟩:=hl0 j y v n1 n2 vis;refine⟨u,ru,.inr ⟨xdb n3,?_⟩⟩;rcases l with⟨k,_⟩|⟨_,c,ec,z⟩
   ·rw[k]at n4;rcases n4 with q|q<;> cases q
   ·obtain⟨c',ec'⟩:=xb7 (cells:=X.env.cells) (cs:=[]) (.inl (xeC n3));have:=B.sub ok ec';rw[ec]at this;cases this;obtain⟨o,ho,hd⟩:=z;exact⟨c,ec',o,hk c o ho,hd⟩
 ·obtain⟨v,o,ho,hd⟩:=I.cell y c (B.sub ok h);exact⟨v,o,hk c o ho,hd⟩
 ·show upd H₂ D _ C=none;rw[xm (ak hDC)];exact freshC
 ·obtain⟨v,o,ho,hd⟩:=I.cell y c (B.sub ok h);rw[xm (aE (aD (lt c o ho) hD))];refine(I.freeC y c (B.sub ok h)).imp id fun⟨_,o',ho',hno⟩=>⟨rfl,o',ho',fun z i v e1 k e2=>?_⟩;cases i with
  |zero=>simp at e2
  |succ i=>
   obtain⟨j,n1,n2,n3,n4⟩:=xda (i:=i) B.cap (by simpa [Cx.blk]using e1) (by simpa using e2);exact hno z j v n1 n4 n2
 ·exact absurd (show p∈([]:List (Addr×Obj))from hp) (by simp)
 ·exact I.hok.laid hk hD ⟨bK _,[],0,.nil,hl⟩
 ·simp[Cx.blk,xau,xgK B.cap]
theorem ui.back{pins:List (Addr×Obj)}{σ:St}{H₂ H':Hp}{s₂ s':af}{fp:List Addr}{C:Addr}{pl:List (Addr×Obj)}{σ':St}(B:ui X scope x cap ys)(I:Inv X pins σ H₂ s₂)
  (hf:∀b∈fp,xbl X pins H₂ b) (J:Inv (X.blk scope C (x::ys) s₂ H₂ fp) pl σ' H' s'):Inv X pins σ H' s':=
 I.call' (ch:=fp) J.os J.base J.hok J.bare fun b hb=>by
  obtain⟨f0,f1,f2,f3,f4,f5⟩:=hf b hb;refine⟨?_,f1,f4,f5⟩;rcases f3 with q|q
  ·exact .inl q
  ·exact .inr q
theorem ui.far{pins:List (Addr×Obj)}{σ:St}{H₂ H':Hp}{s₂ s':af}{fp:List Addr}{C:Addr}{pl:List (Addr×Obj)}{σ':St}(I:Inv X pins σ H₂ s₂)
  (hC:s₂.heap.objs.size≤C) (J:Inv (X.blk scope C (x::ys) s₂ H₂ fp) pl σ' H' s'):
  H' C=none∧C≠X.env.locals∧X.s₀.heap.objs.size≤C∧(∀z c,X.env.cells.lookup z=some c→c≠C)∧∀p∈X.pn++pins,p.1≠C:=by
 refine⟨J.free,dO (aD I.lt hC),bp I.sz hC,fun z c e q=>?_,fun p hp q=>?_⟩
 ·obtain⟨v,w⟩:=I.cell z c e;exact absurd (aD w.lt (by rw[q];exact hC)) (bO _)
 ·exact absurd (aD (ax (I.pin p hp).1) (by rw[q];exact hC)) (bO _)
end
theorem xjU{prog:ai}{w:World}{A:aC}{R:gw→af→Prop}{s:af}{elt tg iter:Expr}{ifs:List Expr}{scope:Scope}{pos:Pos}{it acc:Value}{env:Env}(J:Nat→af→Prop)
  (go:∀n s,J n s→wpAny (model prog w) A (pyNext it) (fun r s1=>match r with
   |none=>R (.ok .next) s1
   |some v=>wpAny (model prog w) A (fx tg it v) (fun _ s2=>wpAny (model prog w) A (fS tg env v) (fun _ s3=>
     wpAny (model prog w) A (forIn ifs true fun c r=>if r=true then do let ok ←isTrue c env (eval c env);pure (dD ok)else pure (dD r)) (fun ok s4=>
      if ok=true then wpAny (model prog w) A (eval elt env) (fun y s5=>wpAny (model prog w) A (call (.builtin "list.append") [acc,y]) (fun _ s6=>∃m,m<n∧J m s6) (fun _ _=>False) s5) (fun _ _=>False) s4
      else∃m,m<n∧J m s4) (fun _ _=>False) s3) (fun _ _=>False) s2) (fun _ _=>False) s1) (fun _ _=>False) s)
  (n:Nat) (h:J n s):b9 (model prog w) A (.compLoop (.ListComp elt [⟨tg,iter,ifs,0⟩] scope pos) 0 it acc env) R s:=by
 refine codeAny_loop rfl J (fun n s hJ=>?_) n h;show wpAny _ A ((compTurn (.ListComp elt [⟨tg,iter,ifs,0⟩] scope pos) 0 it acc env).onRaise (fun x=>do fV x env;theTreesLotGoes x)) _ _ s;refine wpAny_noted ?_;rw[compTurn_list];refine aa (bP (aa (aG (go n s hJ) (fun r s1 h1=>?_) fun _ _ z=>z.elim)));cases r with
 |none=>exact ao h1
 |some v=>
  refine aa (aG h1 (fun _ s2 h2=>aa (aG h2 (fun _ s3 h3=>aa (aG h3 (fun ok s4 h4=>?_) fun _ _ z=>z.elim)) fun _ _ z=>z.elim)) fun _ _ z=>z.elim);cases ok with
  |false=>exact ao ⟨rfl,h4⟩
  |true=>
   exact aa (aa (aG h4 (fun y s5 h5=>aa (aG h5 (fun _ s6 h6=>ao (ao ⟨rfl,h6⟩)) fun _ _ z=>z.elim)) fun _ _ z=>z.elim))
def CTs(Xc:Cx)(ifs:List Expr)(t:TT):Prop:=
 ∀(pins:List (Addr×Obj)) (s:af) (σ:St) (H:Hp) (Q:Bool→Hp→Prop),Inv Xc pins σ H s→t σ H Q→
  wpAny (model Xc.prog Xc.w) Xc.A (forIn ifs true fun c r=>if r=true then do let ok ←isTrue c Xc.env (eval c Xc.env);pure (dD ok)else pure (dD r)) (TP Xc pins σ Q) Xc.xe s
def xf2:TT:=fun _ H Q=>Q true H
theorem vw{Xc:Cx}:CTs Xc [] xf2:=fun _ _ _ H _ I q=>wpAny_tests_nil ⟨H,I,q⟩
theorem xnt{Xc:Cx}{c:Expr}{t:TT}(h:PT Xc c t):CTs Xc [c] t:=fun pins s σ H Q I q=>wpAny_tests_one (h pins s σ H Q I q)
abbrev CW:=Nat→Nat→List V→Hp→Prop
@[irreducible] def zj(J:It)(caps:St)(tt:TT)(te:TE)(Q:VK)(H2:Hp):Prop:=∀D,H2 D=none→∃W:CW,(∃m,W 0 m [] (upd H2 D (.lst [])))∧
 ∀i m acc H3,W i m acc H3→H3 D=some (.lst acc)∧((J.stop i H3∧Q (.ref D) H3)∨(J.go i H3∧acc.length<aF∧∀v H4,J.yld i H3 v H4→tt (some v::caps) H4 fun b H5=>
  (b=true→te (some v::caps) H5 fun u H6=>H6 D=some (.lst acc)∧∃m',m'<m∧W (i+1) m' (acc++[u]) (upd H6 D (.lst (acc++[u]))))∧(b=false→∃m',m'<m∧W (i+1) m' acc H5)))
def xmY(cap:List Nat)(wi:TI)(tt:TT)(te:TE):TE:=fun σ H Q=>wi σ H fun J H2=>zj J (xau σ cap) tt te Q H2
section
variable {X:Cx} {scope:Scope} {x:Str} {cap:List Nat} {ys:List Str} {elt iter:Expr} {ifs:List Expr} {px pos:Pos} {wi:TI} {tt:TT} {te:TE}
theorem xfb(B:ui X scope x cap ys)(hc:X.calm=true)(he:∀C s H fp,PE (X.blk scope C (x::ys) s H fp) elt te)(ht:∀C s H fp,CTs (X.blk scope C (x::ys) s H fp) ifs tt)
  {pins:List (Addr×Obj)} {σ:St} {s₂:af} {Q:VK} {RR:Value→Addr→gw→af→Prop} {itv:Value} {E:Value→af→Prop}
  (hp:PIE X pins σ (.Name x px) (fun J H2=>zj J (xau σ cap) tt te Q H2) itv s₂)
  (hR:∀(D C:Addr) (H':Hp) (s':af),Inv X pins σ H' s'→(∃m,s'.heap.Ns C m)→H' C=none→C≠X.env.locals→X.s₀.heap.objs.size≤C→(∀z c,X.env.cells.lookup z=some c→c≠C)→(∀p∈X.pn++pins,p.1≠C)→Q (.ref D) H'→RR (.ref D) C (.ok .next) s'):
  wpAny (model X.prog X.w) X.A (newList []) (fun acc s₃=>wpAny (model X.prog X.w) X.A (newFunctionEnv scope X.env.globals (yH X.env.cells scope.names []) [] X.env.qual none .none (some X.env)) (fun cenv s₄=>
   b9 (model X.prog X.w) X.A (.compStart (.ListComp elt [⟨.Name x px,iter,ifs,0⟩] scope pos) 0 itv acc {cenv with scope:=relabel scope X.env}) (RR acc cenv.locals) s₄) E s₃) E s₂:=by
 obtain⟨it,fp,tn,J,H2,e,I2,T,st2,f2,hw⟩:=hp;subst e;unfold zj at hw;refine bN (wpAny_newFunctionEnv B.nocell (by intro y hy;simp at hy) (fun h₁ hns₁ hsb₁=>?_) B.kind);dsimp only at hns₁ hsb₁⊢;generalize hG:s₂.heap.push {cls:=.type "list",dict:=none,data:=.seq ([]:List Value).toArray}=G at hns₁ hsb₁⊢;have hsz:G.objs.size=s₂.heap.objs.size+1:=by rw[←hG,dP]
 have hCle:s₂.heap.objs.size≤G.objs.size:=by lia
 have hDC:s₂.heap.objs.size≠G.objs.size:=by lia
 have old:∀b o,s₂.heap.get? b=some o→h₁.get? b=some o:=fun b o q=>by
  have lt:=ax q;refine hsb₁.extBut b o (aE (aD lt hCle)) (ah _ ?_);rw[←hG];exact ah _ q
 have accAt:h₁.get? s₂.heap.objs.size=some {cls:=.type "list",data:=.seq ([]:List Value).toArray}:=by
  refine hsb₁.extBut _ _ hDC (ah _ ?_);rw[←hG];exact aK _ rfl
 have hfp:∀b∈fp,b<s₂.heap.objs.size:=fun b hb=>by
  obtain⟨o,ho,_⟩:=T.obj _ _ st2 b hb;exact ax ho
 obtain⟨W,⟨m0,w0⟩,turn⟩:=hw s₂.heap.objs.size (I2.hok.fresh (av _));generalize htk:s₂.toks+([]:List (Str×Value)).length=tk;have I0:=B.start (tk:=tk) (C:=G.objs.size) I2 f2 (av _) hCle hDC old ⟨_,hns₁⟩ accAt hfp;have st0:tn 0 h₁:=T.keep _ _ _ st2 fun b hb o q=>old b o q
 -- what stays true of the iterator's objects
 have f3:∀{H':Hp},(∀b∈fp,H' b=none)→∀b∈fp,xbl (X.blk scope G.objs.size (x::ys) s₂ H2 fp) [] H' b:=fun hn b hb=>by
  obtain⟨f0,f1,f2',f3',f4,f5⟩:=f2 b hb;refine⟨hn b hb,aE (aD (hfp b hb) hCle),fun hs=>?_,.inl hb,fun z c q=>f4 z c (B.sub I2.ok q),fun p hp=>absurd (show p∈([]:List (Addr×Obj))from hp) (by simp)⟩;rcases aw.mp (I2.stkSub b hs)with q|q
  ·exact f1 q
  ·exact f2' q
 have n0:∀b∈fp,upd H2 s₂.heap.objs.size (.lst []) b=none:=fun b hb=>by
  rw[xm (aE (hfp b hb))];exact(f2 b hb).1
 have loop:∀sx:af,sx={s₂ with heap:=h₁,toks:=tk}→
   b9 (model X.prog X.w) X.A (.compLoop (.ListComp elt [⟨.Name x px,iter,ifs,0⟩] scope pos) 0 (.ref it) (.ref s₂.heap.objs.size) (compEnvC scope (yH X.env.cells scope.names []) G.objs.size X.env)) (RR (.ref s₂.heap.objs.size) G.objs.size) sx:=by
  rintro sx rfl;refine xjU (fun n s'=>∃i acc H',Inv (X.blk scope G.objs.size (x::ys) s₂ H2 fp) [] (none::xau σ cap) H' s'∧tn i s'.heap∧(∀b∈fp,H' b=none)∧W i n acc H') ?_ m0 ⟨0,[],_,I0,st0,n0,w0⟩;rintro n s3 ⟨i,acc,H3,I3,st3,fr3,w3⟩;obtain⟨hD3,alt⟩:=turn i n acc H3 w3;rcases alt with⟨stop,q⟩|⟨go,hlen,step⟩
  ·refine aG (T.done (X.blk scope G.objs.size (x::ys) s₂ H2 fp) rfl rfl rfl hc i [] s3 _ H3 (fun _ _=>False) I3 (f3 fr3) st3 stop) (fun r s4 ⟨hr,I4⟩=>?_) fun _ _ z=>z.elim;subst hr;obtain⟨g1,g2,g3,g4,g5⟩:=ui.far I2 hCle I4;obtain⟨m4,hm4,_⟩:=I4.loc;exact hR _ _ H3 s4 (B.back I2 f2 I4) ⟨m4,hm4⟩ g1 g2 g3 g4 g5 q
  ·refine aG (T.item (X.blk scope G.objs.size (x::ys) s₂ H2 fp) rfl rfl rfl hc i [] s3 _ H3 (fun _ _=>False) I3 (f3 fr3) st3 go) (fun r s4 ⟨u,hr,h4⟩=>?_) fun _ _ z=>z.elim;subst hr;refine aG h4 (fun _ s4 ⟨v,H4,I4,rv,y4,st4,fr4⟩=>?_) fun _ _ z=>z.elim;have I4':=I4.pinned (f3 fr4) (T.obj _ _ st4);refine gc (xaq (X:=X.blk scope G.objs.size (x::ys) s₂ H2 fp) (i:=0) I4' B.nd rfl (.inl (lookup_relabel_local B.lx)) rv (fun s5 I5=>?_) (.inr (lookup_relabel_local B.lx)));have I5':Inv (X.blk scope G.objs.size (x::ys) s₂ H2 fp) ([]++xar fp s4.heap) (some v::xau σ cap) H4 s5:=I5;refine aG (ht _ _ _ _ _ s5 _ H4 _ I5' (step v H4 y4)) (fun ok s6 ⟨H6,I6,q6⟩=>?_) fun _ _ z=>z.elim;have pinned:∀{σ7:St} {H7:Hp} {s7:af},Inv (X.blk scope G.objs.size (x::ys) s₂ H2 fp) ([]++xar fp s4.heap) σ7 H7 s7→tn (i+1) s7.heap∧∀b∈fp,H7 b=none:=fun{σ7 H7 s7} I7=>by
    refine⟨T.keep _ _ _ st4 fun b hb o e=>(I7.pin (b,o) (aO _ (aO _ (xah hb e)))).1,fun b hb=>?_⟩;obtain⟨o,e,d⟩:=T.obj _ _ st4 b hb;exact(I7.pin (b,o) (aO _ (aO _ (xah hb e)))).2.1
   have weak:∀{H7:Hp} {s7:af},Inv (X.blk scope G.objs.size (x::ys) s₂ H2 fp) ([]++xar fp s4.heap) (some v::xau σ cap) H7 s7→Inv (X.blk scope G.objs.size (x::ys) s₂ H2 fp) [] (none::xau σ cap) H7 s7:=fun I7=>
    (I7.unpinned (pins:=[])).weak rfl fun j z e=>by
     cases j with
     |zero=>simp at e
     |succ j=>simpa using e
   cases ok with
   |false=>
    rw[if_neg aI];obtain⟨m',hm',w'⟩:=q6.2 rfl;exact⟨m',hm',i+1,acc,H6,weak I6,(pinned I6).1,(pinned I6).2,w'⟩
   |true=>
    rw[if_pos rfl];refine aG (he _ _ _ _ _ s6 _ H6 _ I6 (q6.1 rfl)) (fun y s7 ⟨z,H7,I7,rz,hD7,m',hm',w'⟩=>?_) fun _ _ z=>z.elim;refine aG (vq (X:=X.blk scope G.objs.size (x::ys) s₂ H2 fp) _ s7 _ H7 (.ref s₂.heap.objs.size) [z] (.ref s₂.heap.objs.size) [y] (fun _ H8=>H8=upd H7 s₂.heap.objs.size (.lst (acc++[z]))) I7 rfl (.cons rz .nil) ⟨_,acc,z,rfl,rfl,hD7,hlen,rfl⟩) (fun _ s8 ⟨_,H8,I8,_,e8⟩=>?_) fun _ _ z=>z.elim;subst e8;exact⟨m',hm',i+1,_,_,weak I8,(pinned I8).1,(pinned I8).2,w'⟩
 exact codeAny_compStart_list (loop _ rfl) (T.self _ 0 _ _ _ st0 (loop _ rfl))
theorem jh(B:ui X scope x cap ys)(hc:X.calm=true)(hi:PI X (.Name x px) iter wi)(he:∀C s H fp,PE (X.blk scope C (x::ys) s H fp) elt te)(ht:∀C s H fp,CTs (X.blk scope C (x::ys) s H fp) ifs tt)
  (hs:∀x,eN iter X.env x=pure x:=by intro _;rfl):PE X (.ListComp elt [⟨.Name x px,iter,ifs,0⟩] scope pos) (xmY cap wi tt te):=by
 intro pins s σ H Q I h;rw[eval_ListComp];refine gD (use:=none) rfl hs (xb6 (B.clos I.ok)) B.kind B.locs ?_;refine thn (hi pins s σ H _ I h) fun v s1 h1=>thn h1 fun itv s2 h2=>?_;refine xfb (Q:=Q) (RR:=fun acc C=>compPost (model X.prog X.w) X.A X.xe none (EP X pins σ Q) acc C) B hc he ht h2 ?_;rintro D C H' s' J ⟨m,hm⟩ g1 g2 g3 g4 g5 q;exact⟨m,hm,fun h' sb=>⟨.ref D,H',J.turned (t':=s'.toks) (fun b o hb e=>(sb.2 b hb).trans e) g1 g2 (.inr g3) g4 g5,rfl,q⟩⟩
theorem xfc{i:Nat}{y:Str}{pos' spos:Pos}(B:ui X scope x cap ys)(hc:X.calm=true)(hN:X.N.Nodup)(hi:X.N[i]? =some y)(hy:X.env.scope.names.lookup y=some .local)(hit:PI X (.Name x px) iter wi)
  (he:∀C s H fp,PE (X.blk scope C (x::ys) s H fp) elt te) (ht:∀C s H fp,CTs (X.blk scope C (x::ys) s H fp) ifs tt)
  (hsw:eE (.ListComp elt [⟨.Name x px,iter,ifs,0⟩] scope pos) (some (.Name y pos')) spos.line X.env=pure true:=by rfl)
  (hs:∀x,eN iter X.env x=pure x:=by intro _;rfl):
  PS X (.Assign [.Name y pos'] (.ListComp elt [⟨.Name x px,iter,ifs,0⟩] scope pos) spos) (xlY (xmY cap wi tt te) (xhs i)):=by
 intro pins s σ H D I h;rw[exec_Assign_Name_used _ _ _ _ hsw];refine aa (bP (aa ?_));show wpAny _ X.A (do let _ ←comprehension (.ListComp elt [⟨.Name x px,iter,ifs,0⟩] scope pos) scope X.env _ (newList []) false (eval iter X.env) (some (fS (.Name y pos') X.env))) _ _ s;refine aa (aG (gD (use:=some (fS (.Name y pos') X.env)) (Q:=fun _ s'=>SP X pins D .next s') rfl hs (xb6 (B.clos I.ok)) B.kind B.locs
  (thn (hit pins s σ H _ I h) fun v s1 h1=>thn h1 fun itv s2 h2=>?_)) (fun _ s' hq=>ao (ao hq)) fun _ _ e=>e)
 refine xfb (Q:=fun v H1=>xhs i v σ H1 D.nx) (RR:=fun acc C=>compPost (model X.prog X.w) X.A X.xe (some (fS (.Name y pos') X.env)) (fun _ s'=>SP X pins D .next s') acc C) B hc he ht h2 ?_;rintro Da C H' s' J ⟨m,hm⟩ g1 g2 g3 g4 g5 q;show wpAny _ X.A (fS (.Name y pos') X.env (.ref Da)) _ _ s';refine(gc (xgz (v:=.ref Da) J hN hi (.inl hy) rfl (fun s4 J4 ⟨a,sb,ha⟩=>?_) (.inr hy)));have hCa:C≠a:=by
  rcases ha with z|z
  ·rw[z];exact g2
  ·exact fun w=>g4 y a z w.symm
 refine⟨m,hm.sameBut sb hCa,fun h' sb'=>?_⟩;exact⟨_,H',J4.turned (t':=s4.toks) (fun b o hb e=>(sb'.2 b hb).trans e) g1 g2 (.inr g3) g4 g5,q⟩
end
end L2
namespace L2
open PySem PySem.Spec PyProof.Rows
def Its(lo st:Int)(n:Nat):It:=⟨fun i _=>i<n,fun i H x H'=>H'=H∧x= .int (lo+i*st),fun i _=>n≤i⟩
theorem xjV{P:ai}{w:World}{K:ag}{tg:Expr}(it:Addr)(lo st:Int)(n:Nat):Turn P w K tg (Its lo st n) [it] it (fun i h=>IsRangeIter h it (lo+(i:Nat)*st) ((n:Int) - (i:Nat)) st) where
 mem:=by simp
 obj:=fun i h q b hb=>by
  have e:b=it:=by simpa using hb
  subst e;exact⟨_,q,fun v z=>by
   have z':Data.fields _=Data.cell v:=z;cases z'⟩
 keep:=fun i h h' q k=>k it (by simp) _ q
 item:=by
  intro X hP hw hK hc i pins s σ H E I hf q hg;subst hP hw hK;obtain⟨f0,f1,f2,f3,f4,f5⟩:=hf it (by simp);refine(Walks.range (prog:=X.prog) (w:=X.w) (I.ok.hd hc) it lo st n).item i s _ _ hg q fun v h' tk hv q' kk=>?_;obtain⟨t,rfl⟩:=hv;have I1:Inv X pins σ H {s with heap:=h',toks:=tk}:=I.turned (fun b o hb e=>kk b o (by simpa using hb) e) f0 f1 f3 f4 f5;exact⟨_,rfl,xht (s:={s with heap:=h',toks:=tk}) (n:="range_iterator") q' rfl rfl (by decide) ⟨.int (lo+i*st),H,I1,⟨t,rfl⟩,⟨rfl,rfl⟩,q',fun b hb=>(hf b hb).1⟩⟩
 done:=by
  intro X hP hw hK hc i pins s σ H E I hf q hg;subst hP hw hK;obtain⟨f0,f1,f2,f3,f4,f5⟩:=hf it (by simp);exact wpAny_pyNext_range_end (I.ok.hd hc) q (by have:n≤i:=hg;lia) fun h' eb=>⟨rfl,I.turned (t':=s.toks) (fun b o hb e=>eb b o hb e) f0 f1 f3 f4 f5⟩
 self:=fun _ _ _ _ _ q h=>wpAny_pyIter_rangeiter q h
theorem xk4{P:ai}{w:World}{K:ag}{tg:Expr}(it:Addr)(lo st:Int)(n:Nat):Turn P w K tg (Its lo st n) [it] it (fun i h=>iw h it (lo+(i:Nat)*st) ((n:Int) - (i:Nat)) st) where
 mem:=by simp
 obj:=fun i h q b hb=>by
  have e:b=it:=by simpa using hb
  subst e;exact⟨_,q,fun v z=>by
   have z':Data.fields _=Data.cell v:=z;cases z'⟩
 keep:=fun i h h' q k=>k it (by simp) _ q
 item:=by
  intro X hP hw hK hc i pins s σ H E I hf q hg;subst hP hw hK;obtain⟨f0,f1,f2,f3,f4,f5⟩:=hf it (by simp);refine(Walks.longrange (prog:=X.prog) (w:=X.w) (I.ok.hd hc) it lo st n).item i s _ _ hg q fun v h' tk hv q' kk=>?_;obtain⟨t,rfl⟩:=hv;have I1:Inv X pins σ H {s with heap:=h',toks:=tk}:=I.turned (fun b o hb e=>kk b o (by simpa using hb) e) f0 f1 f3 f4 f5;exact⟨_,rfl,xht (s:={s with heap:=h',toks:=tk}) (n:="longrange_iterator") q' rfl rfl (by decide) ⟨.int (lo+i*st),H,I1,⟨t,rfl⟩,⟨rfl,rfl⟩,q',fun b hb=>(hf b hb).1⟩⟩
 done:=by
  intro X hP hw hK hc i pins s σ H E I hf q hg;subst hP hw hK;obtain⟨f0,f1,f2,f3,f4,f5⟩:=hf it (by simp);exact wpAny_pyNext_long_end (I.ok.hd hc) q (by have:n≤i:=hg;lia) fun h' eb=>⟨rfl,I.turned (t':=s.toks) (fun b o hb e=>eb b o hb e) f0 f1 f3 f4 f5⟩
 self:=fun _ _ _ _ _ q h=>wpAny_pyIter_longiter q h
def yt(a b c:Int):Nat:=(a6 a b c).toNat
theorem xhJ(a b c:Int):0≤a6 a b c:=by
 unfold a6
 split
 ·split
  ·have:=Int.ediv_nonneg (a:=b - a - 1) (b:=c) (by lia) (by lia);lia
  ·lia
 ·split
  ·have:=Int.ediv_nonneg (a:=a - b - 1) (b:= -c) (by lia) (by lia);lia
  ·lia
theorem xgL(a b c:Int):((yt a b c:Nat):Int)=a6 a b c:=eg (xhJ a b c)
theorem vg(a b:Int):yt a b 1=(b - a).toNat:=by
 unfold yt a6;simp only[show(1:Int) > 0 by decide,if_true]
 split<;> simp<;> lia
section
variable {X:Cx} {tg:Expr}
theorem xhK{pins:List (Addr×Obj)}{σ:St}{H:Hp}{s:af}{R:It→Hp→Prop}{E:Value→af→Prop}{a b c:Int}{t u v:Tok}{r:Addr}(I:Inv X pins σ H s)(hr:IsRange s.heap r a b c t u v)
  (q:R (Its a c (yt a b c)) H):wpAny (model X.prog X.w) X.A (pyIter (.ref r)) (PIE X pins σ tg R) E s:=by
 have e2:a6 a b c=((yt a b c:Nat):Int) - ((0:Nat):Int):=by rw[xgL];simp
 have e1:a=a+((0:Nat):Int)*c:=by simp
 have fp:∀b'∈[s.heap.objs.size],xbl X pins H b':=fun b' hb=>by
  have e:b'=s.heap.objs.size:=by simpa using hb
  subst e;exact I.fpOk (av _) (I.hok.fresh (av _))
 cases hsm:fH a b c with
 |true=>
  refine wpAny_pyIter_range hr hsm ⟨s.heap.objs.size,[s.heap.objs.size],_,_,H,rfl,I.kept (t':=s.toks) fun b o e=>ah _ e,xjV _ a c (yt a b c),?_,fp,q⟩;show IsRangeIter _ _ (a+((0:Nat):Int)*c) (((yt a b c:Nat):Int) - ((0:Nat):Int)) c;rw[←e1,←e2];exact aK _ rfl
 |false=>
  refine wpAny_pyIter_longrange hr hsm ⟨s.heap.objs.size,[s.heap.objs.size],_,_,H,rfl,I.kept (t':=s.toks) fun b o e=>ah _ e,xk4 _ a c (yt a b c),?_,fp,q⟩;show iw _ _ (a+((0:Nat):Int)*c) (((yt a b c:Nat):Int) - ((0:Nat):Int)) c;rw[←e1,←e2];exact aK _ rfl
def xjW(k:Int→Hp→Prop):List V→Hp→Prop:=fun vs H=>match vs with
 |[.int j]=>k j H
 |_=>False
def xdX(k:Int→Int→Hp→Prop):List V→Hp→Prop:=fun vs H=>match vs with
 |[.int i,.int j]=>k i j H
 |_=>False
def xjX(k:Int→Int→Int→Hp→Prop):List V→Hp→Prop:=fun vs H=>match vs with
 |[.int i,.int j,.int l]=>k i j l H
 |_=>False
theorem xji{k:Int→Hp→Prop}{vs:List V}{H:Hp}(h:xjW k vs H):∃j,vs=[.int j]∧k j H:=by
 unfold xjW at h
 split at h
 ·exact⟨_,rfl,h⟩
 ·exact h.elim
theorem xb8{k:Int→Int→Hp→Prop}{vs:List V}{H:Hp}(h:xdX k vs H):∃i j,vs=[.int i,.int j]∧k i j H:=by
 unfold xdX at h
 split at h
 ·exact⟨_,_,rfl,h⟩
 ·exact h.elim
theorem xme{k:Int→Int→Int→Hp→Prop}{vs:List V}{H:Hp}(h:xjX k vs H):∃i j l,vs=[.int i,.int j,.int l]∧k i j l H:=by
 unfold xjX at h
 split at h
 ·exact⟨_,_,_,rfl,h⟩
 ·exact h.elim
theorem xnu{us:List Value}{i:Int}(r:Vals [.int i] us):∃t,us=[.int i t]:=by
 obtain⟨u,rfl,t,rfl⟩:=Vals.one r;exact⟨t,rfl⟩
theorem xf3{us:List Value}{i j:Int}(r:Vals [.int i,.int j] us):∃t t',us=[.int i t,.int j t']:=by
 obtain⟨u,v,rfl,⟨t,rfl⟩,⟨t',rfl⟩⟩:=Vals.two r;exact⟨t,t',rfl⟩
theorem xnv{us:List Value}{i j l:Int}(r:Vals [.int i,.int j,.int l] us):∃t t' t'',us=[.int i t,.int j t',.int l t'']:=by
 cases r with
 |cons r rr=>
  obtain⟨t',t'',rfl⟩:=xf3 rr;obtain⟨t,rfl⟩:=r;exact⟨t,t',t'',rfl⟩
def xk5(c:Int):Prop:=c≠0∧c.natAbs.log2<9000
def xp5(ta:TA):TI:=fun σ H R=>ta σ H (xjW fun j H1=>R (Its 0 1 (yt 0 j 1)) H1)
def xp6(ta:TA):TI:=fun σ H R=>ta σ H (xdX fun i j H1=>R (Its i 1 (yt i j 1)) H1)
def xp7(ta:TA):TI:=fun σ H R=>ta σ H (xjX fun i j c H1=>xk5 c∧R (Its i c (yt i j c)) H1)
theorem xa9{a:Expr}{ta:TA}{p pos:Pos}(hg:Gl X "range")(hm:X.mg "range"=none)(ha:PA X [a] ta)(hs:aA [a] X.env=[(false,eval a X.env)]:=by rfl):PI X tg (.Call (.Name "range" p) [a] [] pos) (xp5 ta):=by
 intro pins s σ H R I h;refine Call_ (ur I hg hm ix (bJ (thn (ha pos pins s σ H _ I h) fun us s1 ⟨vs,H1,I1,r1,q1⟩=>?_) hs rfl));obtain⟨j,rfl,q⟩:=xji q1;obtain⟨t,rfl⟩:=xnu r1;refine call_range_1 (xhK (I1.kept (t':=_) fun b o e=>ah _ e) (i5 ..) q)
theorem xk6{a b:Expr}{ta:TA}{p pos:Pos}(hg:Gl X "range")(hm:X.mg "range"=none)(ha:PA X [a,b] ta)(hs:aA [a,b] X.env=[(false,eval a X.env),(false,eval b X.env)]:=by rfl)(hs2:aA [b] X.env=[(false,eval b X.env)]:=by rfl):
  PI X tg (.Call (.Name "range" p) [a,b] [] pos) (xp6 ta):=by
 intro pins s σ H R I h;refine Call_ (ur I hg hm ix (bJ (thn (ha pos pins s σ H _ I h) fun us s1 ⟨vs,H1,I1,r1,q1⟩=>?_) (by rw[hs,hs2]) (by rw[hs2];rfl)));obtain⟨i,j,rfl,q⟩:=xb8 q1;obtain⟨t,t',rfl⟩:=xf3 r1;exact call_range_2 (xhK (I1.kept (t':=_) fun b o e=>ah _ e) (i5 ..) q)
theorem xgM{a b c:Expr}{ta:TA}{p pos:Pos}(hg:Gl X "range")(hm:X.mg "range"=none)(ha:PA X [a,b,c] ta)(hs:aA [a,b,c] X.env=(false,eval a X.env)::aA [b,c] X.env:=by rfl)(hpl:(bC pos (aA [b,c] X.env)).any (·.1)=false:=by rfl):
  PI X tg (.Call (.Name "range" p) [a,b,c] [] pos) (xp7 ta):=by
 intro pins s σ H R I h;refine Call_ (ur I hg hm ix (bJ (thn (ha pos pins s σ H _ I h) fun us s1 ⟨vs,H1,I1,r1,q1⟩=>?_) hs hpl));obtain⟨i,j,l,rfl,⟨h0,hl⟩,q⟩:=xme q1;obtain⟨t,t',t'',rfl⟩:=xnv r1;exact call_range_3 h0 (xhK (I1.kept (t':=_) fun b o e=>ah _ e) (i5 ..) q) (.inl (gC hl))
def xp8(ta:TA):TE:=fun σ H Q=>ta σ H (xdX fun i j H1=>∀p,H1 p=none→Q (.ref p) (upd H1 p (.rng i j)))
theorem xba{a b:Expr}{ta:TA}{p pos:Pos}(hg:Gl X "range")(hm:X.mg "range"=none)(ha:PA X [a,b] ta)(hs:aA [a,b] X.env=[(false,eval a X.env),(false,eval b X.env)]:=by rfl)(hs2:aA [b] X.env=[(false,eval b X.env)]:=by rfl):
  PE X (.Call (.Name "range" p) [a,b] [] pos) (xp8 ta):=by
 intro pins s σ H Q I h;refine Call_ (ur I hg hm ix (bJ (thn (ha pos pins s σ H _ I h) fun us s1 ⟨vs,H1,I1,r1,q1⟩=>?_) (by rw[hs,hs2]) (by rw[hs2];rfl)));obtain⟨i,j,rfl,q⟩:=xb8 q1;obtain⟨t,t',rfl⟩:=xf3 r1;refine call_range_2 ⟨.ref s1.heap.objs.size,upd H1 s1.heap.objs.size (.rng i j),I1.laid (fun b o e=>ah _ e) (av _) ⟨_,_,_,aK _ rfl⟩,rfl,q _ (I1.hok.fresh (av _))⟩
end
end L2
namespace PySem
open Sem (wp)
section
variable {prog:ai} {w:World} {A:aC} {E:Value→af→Prop} {s:af}
theorem xjY{R:gw→af→Prop}{r:Addr}{a b c:Int}{t u v:Tok}{k:Nat}(hnd:A.handled=none)(hr:IsRange s.heap r a b c t u v)(hbig:fH a b c=false)
  (hk:a6 a b c=k) (hle:k≤2^24) (D:Addr) (z:Value) (m₀:Nat) (hD:s.heap.get? D=some {cls:=.type "list",data:=.seq #[] m₀})
  (hR:∀g tk xs m,(∀b o,b≠D→s.heap.get? b=some o→g.get? b=some o)→g.get? D=some {cls:=.type "list",dict:=none,data:=.seq xs m,slots:=#[]}→
   ItemsOf (fun i v=>∃t,v= .int (a+i*c) t) xs k→R (.ok (.ret z)) {s with heap:=g,toks:=tk}):
  wpAny (model prog w) A.in1 (b8 (.ref D) (.ref r) z)
   (fun fin s'=>match fin with| .done f=>R (.ok f) s'| .again d=>d.quiet=true∧b9 (model prog w) A d R s') (fun e s'=>R (.error e) s') s:=by
 have nDr:D≠r:=fun e=>by rw[e,hr]at hD;simp at hD
 have nDI:D≠s.heap.objs.size:=aE (ax hD);have nDf:D∉[s.heap.objs.size]:=fun q=>nDI (au.mp q);have Wk:=(Walks.longrange (prog:=prog) (w:=w) (A:=A.in1) hnd s.heap.objs.size a c k).toS;have fin:∀(g:Heap) (m₁ tk:Nat),iw g s.heap.objs.size (a+((0:Nat):Int)*c) ((k:Int) - ((0:Nat):Int)) c→(∀b o,b≠D→s.heap.get? b=some o→g.get? b=some o)→
   g.get? D=some {cls:=.type "list",data:=.seq #[] m₁}→b9 (model prog w) A (.builtin "list.extend.loop" ⟨[.ref D,.ref s.heap.objs.size,z],[]⟩) R {s with heap:=g,toks:=tk}:=by
  intro g m₁ tk q1 q2 q3;refine codeAny_extend_loopS Wk (by rw[aQ];omega) D nDf z k 0 _ #[] m₁ rfl (bK _) q1 q3 (ItemsOf.nil _) fun s' xs m hm hD' hx=>?_;rw[Moved.eq_with hm];refine hR s'.heap s'.toks xs m (fun b o hb e=>hm.heap b o (fun hq=>?_) (q2 b o hb e)) hD' hx;rcases aw.mp hq with e'|hq
  ·exact hb e'
  ·exact absurd (ax e) (by rw[au.mp hq];exact bO _)
 unfold b8;refine aa (wpAny_typeOf (T:="range") ⟨_,hr,rfl⟩ ?_);have x1:gE (.ref D) (.ref r)=false:=by simp[gE,nDr]
 have x2:(dX "range"==dX "list")=false:=by decide
 have x3:(dX "range"==dX "tuple")=false:=by decide
 simp only[x1,x2,x3,Bool.or_false,dE,if_false];refine aa (wpAny_pyIter_longrange hr hbig ?_);refine aa (bt (wpAny_hint_range (n:=k) (ah _ hr) hk hle ?_));generalize hG:s.heap.push {cls:=.type "longrange_iterator",data:=.fields #[bc a,bc (a6 a b c),bc c]}=G;have i1:iw G s.heap.objs.size (a+((0:Nat):Int)*c) ((k:Int) - ((0:Nat):Int)) c:=by
  have q:G.get? s.heap.objs.size=some {cls:=.type "longrange_iterator",data:=.fields #[bc a,bc (a6 a b c),bc c]}:=by rw[←hG];exact aK _ rfl
  rw[hk]at q;show G.get? _=_;rw[q];simp
 have old:∀b o,s.heap.get? b=some o→G.get? b=some o:=fun b o e=>by rw[←hG];exact ah _ e
 have d1:=old D _ hD;refine wpAny_ite_split (fun _=>?_) (fun _=>ao ⟨dZ F.plain_extend_loop _,fin _ m₀ _ i1 (fun b o _ e=>old b o e) d1⟩);refine aa (wpAny_rule ?_);refine aa ?_;show wpAny _ _ (gP D (·.push .none) >>= fun _=>gP D (·.pop)) _ _ _;refine aa (dF d1 rfl ?_);have d2:=a5 (cK (·.push aS)) d1 rfl;refine dF (hz:=by seq_fits) d2 rfl ?_;have d3:=a5 (cK (·.pop)) d2 rfl;refine ao ⟨dZ F.plain_extend_loop _,fin _ _ _ ?_ (fun b o hb e=>?_) d3⟩
 ·exact(aM _ _ nDI).trans ((aM _ _ nDI).trans i1)
 ·exact(aM _ _ (ak hb)).trans ((aM _ _ (ak hb)).trans (old b o e))
theorem xjZ{R:gw→af→Prop}{r:Addr}{a b c:Int}{t u v:Tok}{k:Nat}(hnd:A.handled=none)(hr:IsRange s.heap r a b c t u v)
  (hk:a6 a b c=k) (hle:k≤2^24) (D:Addr) (z:Value) (m₀:Nat) (hD:s.heap.get? D=some {cls:=.type "list",data:=.seq #[] m₀})
  (hR:∀g tk xs m,(∀b o,b≠D→s.heap.get? b=some o→g.get? b=some o)→g.get? D=some {cls:=.type "list",dict:=none,data:=.seq xs m,slots:=#[]}→
   ItemsOf (fun i v=>∃t,v= .int (a+i*c) t) xs k→R (.ok (.ret z)) {s with heap:=g,toks:=tk}):
  wpAny (model prog w) A.in1 (b8 (.ref D) (.ref r) z)
   (fun fin s'=>match fin with| .done f=>R (.ok f) s'| .again d=>d.quiet=true∧b9 (model prog w) A d R s') (fun e s'=>R (.error e) s') s:=by
 cases hs:fH a b c with
 |true=>exact wpAny_extend_range hnd hr hs hk hle D z m₀ hD hR
 |false=>exact xjY hnd hr hs hk hle D z m₀ hD hR
theorem xf4{Q:Value→af→Prop}{r:Addr}{a b c:Int}{t u v:Tok}{k:Nat}(hnd:A.handled=none)(hr:IsRange s.heap r a b c t u v)
  (hk:a6 a b c=k) (hle:k≤2^24)
  (hQ:∀g tk xs m,(∀b o,s.heap.get? b=some o→g.get? b=some o)→
   g.get? s.heap.objs.size=some {cls:=.type "list",dict:=none,data:=.seq xs m,slots:=#[]}→ItemsOf (fun i v=>∃t,v= .int (a+i*c) t) xs k→Q (.ref s.heap.objs.size) {s with heap:=g,toks:=tk}):
  wpAny (model prog w) A (call (.type "list") [.ref r]) Q E s:=by
 refine callType_codes (Q₁:=fun obj s₁=>obj= .ref s.heap.objs.size∧s₁={s with heap:=s.heap.push {cls:=.type "list",data:=.seq #[]}}) F.called_list (F.typeCall_list_1 _) F.entry_list_init
  (code_list_new _ ⟨rfl,rfl⟩) fun obj s₁ q₁=>?_
 obtain⟨rfl,rfl⟩:=q₁;generalize hG:s.heap.push {cls:=.type "list",data:=.seq #[]}=G;have old:∀b o,s.heap.get? b=some o→G.get? b=some o:=fun b o e=>by rw[←hG];exact ah _ e
 have hD:G.get? s.heap.objs.size=some {cls:=.type "list",data:=.seq #[]}:=by rw[←hG];exact aK _ rfl
 have nDr:s.heap.objs.size≠r:=fun e=>absurd (ax hr) (by rw[←e];exact bO _);refine⟨⟨_,hD,rfl⟩,F.args_list_init_2 _ _,?_⟩;show wpAny _ _ (do let old ←g7 (.ref s.heap.objs.size);Builtin.List.listUpdate (.ref s.heap.objs.size) (fun _=>#[]);letGo old.toList.reverse;b8 (.ref s.heap.objs.size) (.ref r) .none) _ _ _;refine aa ?_;unfold g7;refine aa (eK hD rfl (ao ?_));show wpAny _ _ (gP s.heap.objs.size (fun _=>#[]) >>= fun _=>letGo (#[]:Array Value).toList.reverse >>= fun _=>b8 (.ref s.heap.objs.size) (.ref r) .none) _ _ _;refine aa (dF hD rfl ?_);have d2:=a5 (cK (fun _=>(#[]:Array Value))) hD rfl;have oth:∀b o,b≠s.heap.objs.size→G.get? b=some o→(G.update s.heap.objs.size (cK (fun _=>(#[]:Array Value)))).get? b=some o:=
  fun b o hb e=>(aM _ _ (ak hb)).trans e
 refine aa (fO ?_);refine xjZ (A:=A.in1) hnd (oth r _ (ak nDr) (old r _ hr)) hk hle s.heap.objs.size .none _ d2 fun g tk xs m q1 q2 q3=>⟨rfl,?_⟩;exact hQ g tk xs m (fun b o e=>q1 b o (aE (ax e)) (oth b o (aE (ax e)) (old b o e))) q2 q3
end
end PySem
namespace L2
open PySem PySem.Spec PyProof.Rows
def xdc(lo:Int)(n:Nat):List V:=(cT n).map fun(i:Nat)=>V.int (lo+(i:Int))
theorem xeg(lo:Int)(n:Nat):(xdc lo n).length=n:=by simp[xdc]
theorem xeh:∀{xs:List V} {us:List Value},xs.length=us.length→(∀(j:Nat) (x:V) (u:Value),xs[j]? =some x→us[j]? =some u→RelV x u)→Vals xs us
 |[],[],_,_=>.nil
 |[],_::_,h,_=>by simp at h
 |_::_,[],h,_=>by simp at h
 |x::xs,u::us,h,k=>.cons (k 0 x u rfl rfl) (xeh (by simpa using h) fun j y v e1 e2=>k (j+1) y v (by simpa using e1) (by simpa using e2))
theorem xj0{lo:Int}{n:Nat}{xs:Array Value}(h:ItemsOf (fun i v=>∃t,v= .int (lo+(i:Int)*1) t) xs n):Vals (xdc lo n) xs.toList:=by
 obtain⟨hl,hv⟩:=h;refine xeh (by rw[xeg];simp[hl]) fun j x u e1 e2=>?_;obtain⟨t,rfl⟩:=hv j u (by simpa using e2);unfold xdc at e1;rw[aJ]at e1;cases q:(cT n)[j]? with
 |none=>rw[q]at e1;cases e1
 |some i=>
  rw[q]at e1;have e3:i=j:=by
   obtain⟨h1,h2⟩:=aB.mp q;rw[iT]at h2;exact h2.symm
  subst e3;cases e1;exact⟨t,by rw[Int.mul_one]⟩
section
variable {X:Cx}
theorem vc(hc:X.calm=true):yF X (.type "list") (fun xs H Q=>∃p lo hi,xs=[.ref p]∧H p=some (.rng lo hi)∧yt lo hi 1≤2^24∧∀l,H l=none→Q (.ref l) (upd H l (.lst (xdc lo (yt lo hi 1))))):=by
 intro pins s σ H xs us Q I r h;obtain⟨p,lo,hi,rfl,hp,hz,q⟩:=h;obtain⟨u,rfl,ru⟩:=Vals.one r;cases ru;obtain⟨t,u,v,hr⟩:=I.hok p _ hp;refine xf4 (I.ok.hd hc) hr (xgL lo hi 1).symm hz fun g tk xs m k1 k2 k3=>?_;have fr:H s.heap.objs.size=none:=I.hok.fresh (av _);refine⟨.ref s.heap.objs.size,upd H s.heap.objs.size (.lst (xdc lo (yt lo hi 1))),I.laid (h':=g) (t':=tk) k1 (av _) ⟨?_,xs.toList,m,xj0 k3,by simpa using k2⟩,rfl,q _ fr⟩;rw[xeg,aQ];omega
end
end L2
namespace L2
open PySem PySem.Spec PyProof.Rows
mutual
inductive Rp(K:ag)(H:Hp):V→d5→Prop
 |non:Rp K H .non .none
 |bl (b:Bool):Rp K H (.bl b) (.bool b)
 |int (i:Int):Rp K H (.int i) (.int i)
 |str (x:Str):Rp K H (.str x) (.str x)
 |lst {a:Addr} {xs:List V} {ds:List d5}:SqL K H a xs→Rps K H xs ds→Rp K H (.ref a) (.list ds)
 |tup {a:Addr} {xs:List V} {ds:List d5}:SqT K H a xs→Rps K H xs ds→Rp K H (.ref a) (.tuple ds)
inductive Rps(K:ag)(H:Hp):List V→List d5→Prop
 |nil:Rps K H [] []
 |cons {x:V} {d:d5} {xs:List V} {ds:List d5}:Rp K H x d→Rps K H xs ds→Rps K H (x::xs) (d::ds)
end
theorem xc.seqT{K:ag}{H H':Hp}{a:Addr}{xs:List V}(e:xc H H')(h:SqT K H a xs):SqT K H' a xs:=by
 rcases h with(h|⟨o,h⟩)|h
 ·exact .inl (.inl (e _ _ h))
 ·exact .inl (.inr ⟨o,e _ _ h⟩)
 ·exact .inr h
theorem Rps.ints{K:ag}{H:Hp}:∀ns:List Int,Rps K H (ns.map V.int) (ns.map i8)
 |[]=>.nil
 |i::r=>.cons (.int i) (Rps.ints r)
theorem Rp.ints{K:ag}{H:Hp}{a:Addr}{ns:List Int}(h:SqL K H a (ns.map V.int)):Rp K H (.ref a) (.list (ns.map i8)):=.lst h (.ints ns)
section
variable {X:Cx} {pins:List (Addr×Obj)} {σ:St} {H:Hp} {s:af}
mutual
theorem Rp.reads(I:Inv X pins σ H s):∀{v:V} {d:d5} {u:Value},Rp X.K H v d→RelV v u→∃as,Reads s.heap u d as
 |_,_,u,.non,r=>by cases (show u=aS from r);exact⟨_,.none⟩
 |_,_,u,.bl b,r=>by cases (show u=cI b from r);exact⟨_,.bool b⟩
 |_,_,u,.int i,r=>by obtain⟨t,e⟩:=(show∃t,u=fQ i t from r);subst e;exact⟨_,.int i t⟩
 |_,_,u,.str x,r=>by obtain⟨t,e⟩:=(show∃t,u=fR x t from r);subst e;exact⟨_,.str x t⟩
 |_,_,u,.lst (a:=a) q rr,r=>by
  cases (show u=az a from r);obtain⟨its,rv,p,hz⟩:=I.list q;obtain⟨as,ra⟩:=Rps.reads I rr rv;obtain⟨o,ho,hc,n,hd⟩:=p.isList;exact⟨_,.list ho hc hd (by simpa using ra)⟩
 |_,_,u,.tup (a:=a) q rr,r=>by
  cases (show u=az a from r);obtain⟨its,rv,p,hz⟩:=I.tuple q;obtain⟨as,ra⟩:=Rps.reads I rr rv;obtain⟨o,ho,hc,n,hd⟩:=p;exact⟨_,.tuple ho hc hd (by simpa using ra)⟩
theorem Rps.reads(I:Inv X pins σ H s):∀{v:List V} {d:List d5} {u:List Value},Rps X.K H v d→Vals v u→∃as,ReadsAll s.heap u d as
 |_,_,_,.nil,.nil=>⟨_,.nil⟩
 |_,_,_,.cons q rr,.cons r t=>by
  obtain⟨as,h1⟩:=Rp.reads I q r;obtain⟨bs,h2⟩:=Rps.reads I rr t;exact⟨_,.cons h1 h2⟩
end
end
def xmf(K:ag)(f:Bool→Bool):R2:=fun x y H Q=>∃da db,Rp K H x da∧Rp K H y db∧cy da=true∧cy db=true∧Q (.bl (f (PyData.eqv da db))) H
section
variable {X:Cx}
theorem xfd(hu:X.A.units+64<cLine):OpR X (bE .NotEq) (xmf X.K fun b=> !b):=by
 intro pins s σ H x y v u Q I rx ry q;obtain⟨da,db,hx,hy,sa,sb,q⟩:=q;obtain⟨as,ra⟩:=hx.reads I rx;obtain⟨bs,rb⟩:=hy.reads I ry;exact ne_dataH ra rb sa sb hu ⟨.bl (!PyData.eqv da db),H,I,rfl,q⟩
def xo1:V→Option Value
 | .ty n=>some (.type n)
 | .ref a=>some (.ref a)
 |_=>none
theorem xmg{c:V}{cv v:Value}(h:xo1 c=some cv)(r:RelV c v):v=cv:=by
 cases c with
 |ref a=>cases h;exact r
 |ty n=>cases h;exact r
 |_=>cases h
def xo2(K:ag):List V→Hp→VK→Prop:=fun xs H Q=>∃x c t cv b,xs=[x,c]∧xo1 c=some cv∧zo K H x t∧gx K t cv=some b∧Q (.bl b) H
theorem ux:yF X (.builtin "isinstance") (xo2 X.K):=by
 intro pins s σ H xs us Q I r h;obtain⟨x,c,t,cv,b,rfl,rc,ty,e,q⟩:=h;obtain⟨u,v,rfl,ru,rv⟩:=Vals.two r;have e2:=xmg rc rv;subst e2;exact xkT I ru ty e fun tk=>⟨.bl b,H,I.tok _,rfl,q⟩
structure xmh(K:ag)(C:Addr)(m:Str)(f:Addr):Prop where
 sp:gW K (.ref C) "__getattribute__"=some (some (.builtin "type.__getattribute__"))
 rd:W.readsIn K C (.type "type")=true
 fd:W.findCls K (.ref C) (.type "type") m=some (.val (.ref f))
 kp:bV K (.ref f)=true
theorem xjj{x m:Str}{C f:Addr}{fd:aj}{ps:List Str}{sp:Sp}{dvs:List V}{ds:List Value}{E:XK}{CX:CXT}{k:Nat}{p apos pos:Pos}{e:Expr}{es:List Expr}{t:TA}{pl:Sem Bool}
  (hg:Gl X x) (hm:X.mg x=some (.ref C)) (M:xmh X.K C m f) (F:xA X.prog X.w X.K X.mg X.base CX k f fd ps sp) (hr:xS k X.A) (hb:Binds X.K fd ps ds) (hd:Vals dvs ds) (hx:Passes CX X E) (ha:PA X (e::es) t)
  (hst:aA (e::es) X.env=(false,eval e X.env)::aA es X.env:=by rfl) (hpl:(bC pos (aA es X.env)).any (·.1)=false:=by rfl) (hdb:(x==("__debug__":Str))=false:=by decide)
  (ht:eval (.Call (.Attribute (.Name x p) m apos) (e::es) [] pos) X.env=(do
   let ov ←eval (.Name x p) X.env
   fg apos.atName
   let(f,first) ←dN [ov] (dW ov m pl)
   dI pos f first (bC pos (aA (e::es) X.env)) (eW pos (dJ [] X.env))):=by rfl):
  PE X (.Call (.Attribute (.Name x p) m apos) (e::es) [] pos) (xdU sp dvs E t):=by
 intro pins s σ H Q I h;refine cO (pl:=pl) (zt I hg hm ?_ hdb) ht;refine W.method_cls I.kIn M.sp (W.cls_value I.kIn M.rd M.fd rfl ?_);have I1:=I.tok (s.toks+1);refine eF (first:=[]) (h₀:=X.base) I.ok.mod.kin M.kp (thn (ha pos pins _ σ H _ I1 h) fun us s2 ⟨vs,H2,I2,r,q2⟩=>⟨I2.kIn,?_⟩) hst hpl;exact xe0 F hr hb hd hx I2 r q2
end
end L2
namespace L2
open PySem PySem.Spec PyProof.Rows
theorem yT:bx "len"=some (.builtin "len"):=by decide+kernel
theorem xfe:bx "max"=some (.builtin "max"):=by decide+kernel
theorem xk7:bx "min"=some (.builtin "min"):=by decide+kernel
theorem xo3:bx "abs"=some (.builtin "abs"):=by decide+kernel
theorem yI:bx "isinstance"=some (.builtin "isinstance"):=by decide+kernel
theorem xk8:bx "sum"=some (.builtin "sum"):=by decide+kernel
theorem xo4:bx "all"=some (.builtin "all"):=by decide+kernel
theorem zx:bx "list"=some (.type "list"):=by decide+kernel
theorem xb9:bx "tuple"=some (.type "tuple"):=by decide+kernel
theorem xk9:bx "int"=some (.type "int"):=by decide+kernel
theorem xnw:bx "bool"=some (.type "bool"):=by decide+kernel
theorem xav:bx "enumerate"=some (.type "enumerate"):=by decide+kernel
theorem xnx{f:Str}{v:V}{fs:List (Str×V)}{n:Nat}(h:fs.length<n):(zT f v fs).length<n+1:=dC (xbm f v fs) (by lia)
section
variable {X:Cx} {a b c:Expr} {ta tb:TE} {pos:Pos}
theorem xhL(hc:X.calm=true):yF X (.builtin "max") (fun xs H Q=>xdX (fun i j H1=>Q (.int (max i j)) H1) xs H):=(xkQ hc).imp fun xs H Q q=>by
 obtain⟨i,j,rfl,q⟩:=xb8 q;refine⟨i,j,rfl,?_⟩;have e:(if j > i then j else i)=max i j:=by split<;> lia
 rw[e];exact q
theorem xla(hc:X.calm=true):yF X (.builtin "min") (fun xs H Q=>xdX (fun i j H1=>Q (.int (min i j)) H1) xs H):=(xkR hc).imp fun xs H Q q=>by
 obtain⟨i,j,rfl,q⟩:=xb8 q;refine⟨i,j,rfl,?_⟩;have e:(if j<i then j else i)=min i j:=by split<;> lia
 rw[e];exact q
theorem xp9:yF X (.builtin "abs") (fun xs H Q=>xjW (fun i H1=>Q (.int (i.natAbs:Int)) H1) xs H):=xl2.imp fun xs H Q q=>by
 obtain⟨i,rfl,q⟩:=xji q;refine⟨i,rfl,?_⟩;have e:(if i<0 then -i else i)=(i.natAbs:Int):=by split<;> lia
 rw[e];exact q
def isN:V→Bool
 | .non=>true
 |_=>false
theorem xjk(x:V):decide (x= .non)=isN x:=by cases x<;> simp[isN]
def xqa(ta:TE):TT:=fun σ H Q=>ta σ H fun x H1=>Q (isN x) H1
def xo5(ta:TE):TT:=fun σ H Q=>ta σ H fun x H1=>Q (!isN x) H1
theorem vJ{j pos'}(ha:PE X a ta):PT X (.Compare a [.Is] [.Constant .none j pos'] pos) (xqa ta):=(xkK (xoF ha)).imp fun σ H Q q=>by
 show ta σ H _;have e:(fun x H1=>∃c,V.bl (decide (x=V.non))= .bl c∧Q c H1)=fun x H1=>Q (isN x) H1:=by
  funext x H1;rw[xjk];apply propext;exact⟨fun⟨c,e,q⟩=>by cases e;exact q,fun q=>⟨_,rfl,q⟩⟩
 rw[e];exact q
theorem xdY{j pos'}(ha:PE X a ta):PT X (.Compare a [.IsNot] [.Constant .none j pos'] pos) (xo5 ta):=(xkK (xnd ha)).imp fun σ H Q q=>by
 show ta σ H _;have e:(fun x H1=>∃c,V.bl (!decide (x=V.non))= .bl c∧Q c H1)=fun x H1=>Q (!isN x) H1:=by
  funext x H1;rw[xjk];apply propext;exact⟨fun⟨c,e,q⟩=>by cases e;exact q,fun q=>⟨_,rfl,q⟩⟩
 rw[e];exact q
end
theorem xgN{lo st:Int}{n:Nat}{g:TG}{tb:TS}{D:Ends}{σ:St}{H:Hp}(Pv:Nat→St→Hp→Prop)(h0:Pv 0 σ H)
  (hs:∀(i:Nat) σ H,i<n→Pv i σ H→g (.int (lo+i*st)) σ H fun σ2 H2=>tb {D with nx:=Pv (i+1),ct:=Pv (i+1),bk:=D.nx} σ2 H2) (hd:∀σ H,Pv n σ H→D.nx σ H):uh (Its lo st n) g tb D σ H:=by
 unfold uh;refine⟨fun i m σ H=>m=n - i∧i≤n∧Pv i σ H,⟨n,by simp,bK _,h0⟩,?_⟩;rintro i m σ H ⟨rfl,hi,p⟩
 by_cases hlt:i<n
 ·refine .inr ⟨hlt,Pv (i+1),fun σ' H' p'=>⟨n - (i+1),by lia,rfl,hlt,p'⟩,fun x H' y=>?_⟩;obtain⟨e,y⟩:=y;subst e y;exact hs i σ _ hlt p
 ·have e:i=n:=by lia
  subst e;exact .inl ⟨av _,hd σ H p⟩
theorem yN{K:ag}{l:Addr}{xs:List V}{g:TG}{tb:TS}{D:Ends}{σ:St}{H:Hp}(Pv:Nat→St→Hp→Prop)(h0:Pv 0 σ H)(hl:∀i σ H,i≤xs.length→Pv i σ H→SqL K H l xs)
  (hs:∀i x σ H,xs[i]? =some x→Pv i σ H→g x σ H fun σ2 H2=>tb {D with nx:=Pv (i+1),ct:=Pv (i+1),bk:=D.nx} σ2 H2) (hd:∀σ H,Pv xs.length σ H→D.nx σ H):uh (Itl K l) g tb D σ H:=by
 unfold uh;exact xl0 Pv h0 hl hs hd
theorem xlb{K:ag}{l:Addr}{xs:List V}{g:TG}{tb:TS}{D:Ends}{σ:St}{H:Hp}(Pv:Nat→St→Hp→Prop)(h0:Pv 0 σ H)(hl:∀i σ H,i≤xs.length→Pv i σ H→SqT K H l xs)
  (hs:∀i x σ H,xs[i]? =some x→Pv i σ H→g x σ H fun σ2 H2=>tb {D with nx:=Pv (i+1),ct:=Pv (i+1),bk:=D.nx} σ2 H2) (hd:∀σ H,Pv xs.length σ H→D.nx σ H):uh (Itt K l) g tb D σ H:=by
 unfold uh;exact xnf Pv h0 hl hs hd
theorem xc.new{H:Hp}{p:Addr}{o:HO}(h:H p=none):xc H (upd H p o):=fun b u e=>by rw[xm (xC e h)];exact e
theorem xc.put{H H':Hp}{p:Addr}{o:HO}(e:xc H H')(h:H p=none):xc H (upd H' p o):=fun b u q=>by rw[xm (xC q h)];exact e b u q
theorem xc.at{H H':Hp}{p:Addr}{o:HO}(e:xc H H')(h:H p=some o):H' p=some o:=e p o h
end L2
namespace L2
open PySem PySem.Spec PyProof.Rows
theorem xc.of_eq{H H':Hp}{p:Addr}{o:HO}(h:H p=none)(e:upd H p o=H'):xc H H':=by rw[←e];exact xc.new h
theorem xh{H H':Hp}{p:Addr}{o:HO}(e:upd H p o=H'):H' p=some o:=by rw[←e];exact xp
theorem xc.back{H H':Hp}{p:Addr}(e:xc H H')(h:H' p=none):H p=none:=xc.free e h
theorem xc.wr{H0 H H':Hp}{p:Addr}{o:HO}(s:xc H0 H)(f:H0 p=none)(e:upd H p o=H'):xc H0 H':=by rw[←e];exact s.put f
end L2
namespace L2
open PySem PySem.Spec PyProof.Rows
structure zE(H0 H:Hp)(l:Addr)(as:List Addr)(xss:List (List Int)):Prop where
 top:H l=some (.lst (as.map V.ref))
 nd:(l::as).Nodup
 len:as.length=xss.length
 each:∀(i:Nat) (a:Addr) (xs:List Int),as[i]? =some a→xss[i]? =some xs→H a=some (.lst (xs.map V.int))
 fr:H0 l=none
 frs:∀a∈as,H0 a=none
theorem zE.same{H0 H H':Hp}{l:Addr}{as:List Addr}{xss:List (List Int)}(L:zE H0 H l as xss)(s:xc H H'):zE H0 H' l as xss:=
 ⟨s.at L.top,L.nd,L.len,fun i a xs h1 h2=>s.at (L.each i a xs h1 h2),L.fr,L.frs⟩
theorem zE.nil{H0 H H':Hp}{l:Addr}(h:H0 l=none)(e:H l=some (.lst [])):zE H0 H l [] []:=
 ⟨e,by simp,rfl,fun i a xs h1 _=>by simp at h1,h,fun a ha=>by simp at ha⟩
theorem zE.tracked{H0 H:Hp}{l:Addr}{as:List Addr}{xss:List (List Int)}(L:zE H0 H l as xss){a:Addr}(ha:a∈as):∃xs:List Int,H a=some (.lst (xs.map V.int)):=by
 obtain⟨i,hi,rfl⟩:=iy.mp ha;have h2:i<xss.length:=by rw[←L.len];exact hi
 exact⟨xss[i],L.each i _ _ (a8 hi) (a8 h2)⟩
theorem zE.apart{H0 H:Hp}{l:Addr}{as:List Addr}{xss:List (List Int)}(L:zE H0 H l as xss){p:Addr}(h:H p=none):p∉l::as:=by
 intro z;rcases aw.mp z with rfl|z
 ·rw[L.top]at h;cases h
 ·obtain⟨xs,e⟩:=L.tracked z;rw[e]at h;cases h
theorem zE.push{H0 H H':Hp}{l p:Addr}{as:List Addr}{xss:List (List Int)}{xs:List Int}(L:zE H0 H l as xss)(hp:H p=some (.lst (xs.map V.int)))(hne:p∉l::as)(hf:H0 p=none)
  (e:upd H l (.lst (as.map V.ref++[.ref p]))=H'):zE H0 H' l (as++[p]) (xss++[xs]):=by
 subst e;have hpl:p≠l:=fun z=>hne (by rw[z];exact bz);have hpa:p∉as:=fun z=>hne (aZ _ z);obtain⟨n1,n2⟩:=bq.mp L.nd;refine⟨by rw[xp,bw];rfl,?_,by simp[L.len],fun i a ys h1 h2=>?_,L.fr,fun a ha=>?_⟩
 ·refine bq.mpr ⟨fun z=>?_,xjg n2 hpa⟩;rcases bu.mp z with z|z
  ·exact n1 z
  ·exact hpl (au.mp z).symm
 ·have hla:a∈as++[p]:=bf h1;have nal:a≠l:=fun z=>by
   subst z;rcases bu.mp hla with z|z
   ·exact n1 z
   ·exact hpl (au.mp z).symm
  rw[xm nal]
  by_cases hi:i<as.length
  ·rw[bL hi]at h1;rw[bL (by rw[←L.len];exact hi)]at h2;exact L.each i a ys h1 h2
  ·rw[bS (by lia)]at h1;rw[bS (by rw[←L.len];lia)]at h2;have e1:i - as.length=0:=by
    cases hq:i - as.length with
    |zero=>rfl
    |succ k=>rw[hq]at h1;simp at h1
   rw[e1]at h1;rw[←L.len,e1]at h2;simp at h1 h2;rw[←h1,←h2];exact hp
 ·rcases bu.mp ha with z|z
  ·exact L.frs a z
  ·have z':a=p:=by simpa using z
   rw[z'];exact hf
theorem xff{lo st:Int}{n:Nat}{te:TE}{caps:L2.St}{Q:VK}{H2:Hp}(f:Nat→List Int)(hn:n≤aF)
  (hs:∀(i:Nat) (H3:Hp),i<n→xc H2 H3→∀R:VK,(∀l H6,xc H3 H6→H3 l=none→H6 l=some (.lst ((f i).map V.int))→R (.ref l) H6)→te (some (.int (lo+i*st))::caps) H3 R)
  (hd:∀D H' as,xc H2 H'→zE H2 H' D as ((cT n).map f)→Q (.ref D) H'):zj (Its lo st n) caps xf2 te Q H2:=by
 unfold zj;intro D hD;refine⟨fun i m acc H3=>m=n - i∧i≤n∧xc H2 H3∧∃as,acc=as.map V.ref∧zE H2 H3 D as ((cT i).map f),⟨n,by simp,bK _,xc.new hD,[],rfl,zE.nil (H':=H2) hD xp⟩,?_⟩;rintro i m acc H3 ⟨rfl,hi,s3,as,rfl,L⟩;refine⟨L.top,?_⟩
 by_cases hlt:i<n
 ·have hl:as.length=i:=by rw[L.len];simp
  refine .inr ⟨hlt,by simp[hl];lia,fun v H4 y=>?_⟩;obtain⟨e,y⟩:=y;subst e y;refine⟨fun _=>?_,fun z=>by cases z⟩;refine hs i _ hlt s3 _ fun l H6 s6 hl0 hl6=>⟨s6.at L.top,n - (i+1),by lia,rfl,hlt,(s3.trans s6).put hD,as++[l],by rw[bw];rfl,?_⟩;rw[List.range_succ,bw];exact(L.same s6).push hl6 (L.apart hl0) (s3.back hl0) rfl
 ·have e:i=n:=by lia
  subst e;exact .inl ⟨av _,hd D H3 as s3 L⟩
section
variable {X:Cx}
end
end L2
namespace L2
open PySem PySem.Spec PyProof.Rows
abbrev HO.any:HO:=.ext fun _=>True
theorem xY.anyOf{P:ai}{w:World}{H:Hp}{h:Heap}{a:Addr}{o:Obj}(e:h.get? a=some o):xY P w H h a (.frz o HO.any):=⟨e,trivial,⟨o,e⟩,fun _ _ _ _=>trivial⟩
def yG(H:Hp)(f:Addr)(nm qual:Str)(params:bX)(body:dk)(scope:Scope)(fv:List (Str×V)):Prop:=
 ∃(clos:List (Str×Addr)) (c:Addr) (o:Obj) (u u':HO) (vs:Array Value) (t:Tok) (doc pm ctv:Value),
  H f=some (.frz {cls:=.type "function",data:=.func {name:=nm,qualname:=qual,params,body,scope,globals:=a7,closure:=clos,defaults:=.none,kwdefaults:=.none,doc,pyModule:=pm,annotations:=none,code:=.ref c,closureTuple:=ctv,builtins:=cb}} u)∧
  H c=some (.frz o u')∧o.data= .fields vs∧vs[1]? =some (.str qual t)∧
  (∀x y a,clos.lookup x=some a→clos.lookup y=some a→x=y)∧(∀x,(x,bG)∈scope.names→∃a,clos.lookup x=some a)∧
  (∀x v,(x,v)∈fv→∃a,clos.lookup x=some a∧H a=some (.cel (some v)))∧∀x a,clos.lookup x=some a→∃v,H a=some (.cel (some v))
theorem xny{pos pos':Pos}{c:Value}(l:List Value)(h:gN l):
  eC pos' (l++[bc pos.line,bc pos.col,c])=(match eC pos' l with
   |some d=>some d
   |none=>if ((pos.line:Int)==pos'.line&&(pos.col:Int)==pos'.col)=true then some c else none):=by
 fun_induction gN l with
 |case1=>simp[eC,bc]
 |case2 a t b u x rest ih=>
  simp only[eY,eC]
  split
  ·rfl
  ·exact ih h
 |case3 l h1 h2=>exact h.elim
def zy(K:ag)(c P:Addr):Prop:=∀h:Heap,K.In h→iz h c P
theorem xgO{cells:List (Str×Addr)}:∀{l:List (Str×cE)} {cs:List (Str×Addr)} {x:Str} {c:Addr},(yH cells l cs).lookup x=some c→(x,bG)∈l∨∃a,cs.lookup x=some a
 |[],cs,x,c,h=>.inr ⟨c,h⟩
 |(n,k)::r,cs,x,c,h=>by
  unfold yH at h;rcases xgO h with q|⟨a,q⟩
  ·exact .inl (aZ _ q)
  ·split at q
   ·rename_i hk;rw[bH]at q
    split at q
    ·rename_i hx;have e:x=n:=by simpa using hx
     have e2:k= .free:=by simpa using hk
     subst e;subst e2;exact .inl bz
    ·exact .inr ⟨a,q⟩
   ·exact .inr ⟨a,q⟩
abbrev xbO(name qual:Str)(params:bX)(body:dk)(scope:Scope)(clos:List (Str×Addr))(doc pm cdv ctv:Value):Obj:=
 {cls:=.type "function",data:=.func {name,qualname:=qual,params,body,scope,globals:=a7,closure:=clos,defaults:=.none,kwdefaults:=.none,doc,pyModule:=pm,annotations:=none,code:=cdv,closureTuple:=ctv,builtins:=cb}}
section
variable {M:Model} {A:aC} {E:Value→af→Prop} {s:af} {name qual:Str} {params:bX} {body:dk} {scope:Scope} {env:Env} {c P:Addr} {ps:Array Value} {pos:Pos} {firstLine:Nat} {mg:Str→Option Value}
 {clos:List (Str×Addr)} {Q:Value→af→Prop}
theorem xnz(hcl:iu scope env=pure clos)(hge0:env.globals=a7)(hg:s.heap.Ns a7 mg)(hcode:env.code= .ref c)(C:iz s.heap c P)(hP:s.heap.get? P=some (eZ ps))(ht:gN ps.toList)
  (hnf:eC pos ps.toList=none) (hgP:a7≠P) (hb:s.heap.BuiltinsAt mg P)
  (h:∀c' ctv doc h' tk,i6 P s.heap h'→s.heap.objs.size≤c'→c'<h'.objs.size→h'.CodeRec (.ref c') qual→h'.get? P=some (eZ (ps++#[bc pos.line,bc pos.col,.ref c']))→
   Q (.ref h'.objs.size) {s with heap:=h'.push (xbO name qual params body scope clos doc ((mg "__name__").getD .none) (.ref c') ctv),toks:=tk}):
  wpAny M A (makeFunction name qual params body scope env [] [] [] pos firstLine) Q E s:=by
 cases body with
 |stmts b=>exact W.makeFunction_K hcl hge0 hg hcode C hP ht hnf hgP hb h
 |expr e=>exact W.kla_makeFunction hcl hge0 hg hcode C hP ht hnf hgP hb fun c' ctv h' tk=>h c' ctv .none h' tk
theorem xo6{cv:Value}(hcl:iu scope env=pure clos)(hge0:env.globals=a7)(hg:s.heap.Ns a7 mg)(hcode:env.code= .ref c)(C:iz s.heap c P)(hP:s.heap.get? P=some (eZ ps))(ht:gN ps.toList)
  (hf:eC pos ps.toList=some cv) (hb:s.heap.BuiltinsAt mg P)
  (h:∀(ctv doc:Value) (h':Heap) (tk:Tok),(∀b o,s.heap.get? b=some o→h'.get? b=some o)→s.heap.objs.size≤h'.objs.size→
   Q (.ref h'.objs.size) {s with heap:=h'.push (xbO name qual params body scope clos doc ((mg "__name__").getD .none) cv ctv),toks:=tk}):
  wpAny M A (makeFunction name qual params body scope env [] [] [] pos firstLine) Q E s:=by
 cases body with
 |stmts b=>exact W.makeFunction_hit hcl hge0 hg hcode C hP ht hf hb h
 |expr e=>exact W.kla_makeFunctionHit hcl hge0 hg hcode C hP ht hf hb fun ctv h' tk=>h ctv .none h' tk
end
section
variable {X:Cx} {pins:List (Addr×Obj)} {σ:St} {H:Hp} {s:af} {c P:Addr} {qs:List (Pos×Str)} {name qual:Str} {params:bX} {body:dk} {scope:Scope} {pos:Pos} {fv:List (Str×V)} {Q:VK} {fns:List Str}
def tFn(X:Cx)(P:Addr)(qs:List (Pos×Str))(fns:List Str)(name qual:Str)(params:bX)(body:dk)(scope:Scope):TE:=fun σ H Q=>
 H P=some (.tbl qs)∧∃fv:List (Str×V),fv.map (·.1)=fns∧(∀x v,(x,v)∈fv→∃a,X.env.cells.lookup x=some a∧H a=some (.cel (some v)))∧
  ∀f H',H f=none→xc H H'→yG H' f name qual params body scope fv→Q (.ref f) H'
theorem xnA(I:Inv X pins σ H s)(hcode:X.env.code= .ref c)(T:zy X.K c P)(hq:(pos,qual)∈qs)(hu:(qs.all fun p=> !((pos.line==p.1.line)&&(pos.col==p.1.col))||(p.2==qual))=true)
  (hfr:(scope.names.filter fun y=>y.2== .free).map (·.1)=fns) (h:tFn X P qs fns name qual params body scope σ H Q) {n:Nat}:
  wpAny (model X.prog X.w) X.A (makeFunction name qual params body scope X.env [] [] [] pos n) (EP X pins σ Q) X.xe s:=by
 obtain⟨hP,fv,hn,hf,h⟩:=h;have isfr:∀x,(x,bG)∈scope.names↔x∈fns:=fun x=>by
  rw[←hfr,iU];constructor
  ·exact fun m=>⟨(x,.free),fk.mpr ⟨m,rfl⟩,rfl⟩
  ·rintro⟨⟨y,k⟩,m,rfl⟩;have m2:=fk.mp m;have e:k= .free:=by simpa using m2.2
   subst e;exact m2.1
 have names:∀x,(x,bG)∈scope.names→∃v a,(x,v)∈fv∧X.env.cells.lookup x=some a∧H a=some (.cel (some v)):=fun x hx=>by
  have m:=(isfr x).mp hx;rw[←hn]at m;obtain⟨⟨x',v⟩,hm,rfl⟩:=iU.mp m;obtain⟨a,h1,h2⟩:=hf _ _ hm;exact⟨v,a,hm,h1,h2⟩
 have hcs:∀y∈scope.names,y.2= .free→∃c,X.env.cells.lookup y.1=some c:=fun y hy e=>by
  obtain⟨y1,y2⟩:=y;have e:y2= .free:=e;subst e;obtain⟨_,a,_,h1,_⟩:=names y1 hy;exact⟨a,h1⟩
 have hcl:=xb6 (scope:=scope) (env:=X.env) hcs;have sub:∀{z:Str} {a:Addr},(yH X.env.cells scope.names []).lookup z=some a→X.env.cells.lookup z=some a:=fun{z a} e=>by
  rcases xeB hcs e with q|q
  ·cases q
  ·exact q
 have subF:∀{z:Str} {a:Addr},(yH X.env.cells scope.names []).lookup z=some a→(z,bG)∈scope.names:=fun{z a} e=>by
  rcases xgO e with q|⟨_,q⟩
  ·exact q
  ·cases q
 have cInj:∀x y a,(yH X.env.cells scope.names []).lookup x=some a→(yH X.env.cells scope.names []).lookup y=some a→x=y:=fun x y a e1 e2=>I.ok.inj x y a (sub e1) (sub e2);have cHas:∀x,(x,bG)∈scope.names→∃a,(yH X.env.cells scope.names []).lookup x=some a:=fun x m=>xb7 (.inl m);have cVal:∀x v,(x,v)∈fv→∃a,(yH X.env.cells scope.names []).lookup x=some a∧H a=some (.cel (some v)):=fun x v m=>by
  obtain⟨a,e1,e2⟩:=hf x v m;obtain⟨a',e3⟩:=cHas x ((isfr x).mpr (by rw[←hn];exact iM m));have e4:=sub e3;rw[e1]at e4;cases e4;exact⟨a,e3,e2⟩
 have cAll:∀x a,(yH X.env.cells scope.names []).lookup x=some a→∃v,H a=some (.cel (some v)):=fun x a e=>by
  obtain⟨v,a',_,e1,e2⟩:=names x (subF e);rw[sub e]at e1;cases e1;exact⟨v,e2⟩
 have hg:s.heap.Ns a7 X.mg:=I.mod.glob.keeps I.bk;obtain⟨ps,hPo,ht,hent⟩:=I.hok P _ hP;have C:=T s.heap I.kIn;have hgP:a7≠P:=fun q=>by
  obtain⟨o,es,ep,e,hd,_⟩:=hg;rw[q,hPo]at e;cases e;cases hd
 have hB:s.heap.BuiltinsAt X.mg P:=by
  obtain⟨bm,ob,b1,b2,b3,b4,b5,b6⟩:=I.mod.bm;have b3':=I.bk _ _ b3;refine⟨bm,ob,b1,b2,fun q=>?_,fun q=>?_,b3',b4,b5,b6⟩
  ·obtain⟨o,es,ep,e,hd,_⟩:=hg;rw[←q,b3']at e;cases e;rw[b6]at hd;cases hd
  ·rw[q,hPo]at b3';cases b3';cases b4
 rcases hent pos qual hq with hnf|⟨c',o,u,vs,t,hit,hc',hd,hv⟩
 ·refine xnz hcl I.ok.glob hg hcode C hPo ht hnf hgP hB fun c' ctv doc h' tk hx hge hlt hrec htb=>?_;obtain⟨c2,oc,vs,t,e2,hoc,hd,hv⟩:=hrec;cases e2;have hc0:H c'=none:=I.hok.fresh hge;have hsz:s.heap.objs.size≤h'.objs.size:=fq (dC hge hlt);have hf0:H h'.objs.size=none:=I.hok.fresh hsz;have hcf:c'≠h'.objs.size:=aE hlt
  let fo:=xbO name qual params body scope (yH X.env.cells scope.names []) doc ((X.mg "__name__").getD .none) (.ref c') ctv
  let H':=upd (upd H c' (.frz oc HO.any)) h'.objs.size (.frz fo HO.any)
  have sm:∀b u,H b=some u→H' b=some u:=fun b u e=>by
   show upd _ _ _ b=_;rw[xm (xC e hf0),xm (xC e hc0)];exact e
  have H'c:H' c'=some (.frz oc HO.any):=by
   show upd _ _ _ c'=_;rw[xm hcf,xp]
  have H'f:H' h'.objs.size=some (.frz fo HO.any):=xp;have keep:∀b o,b≠P→s.heap.get? b=some o→(h'.push fo).get? b=some o:=fun b o hb e=>ah _ (hx b o hb e);have nP:∀b,H b=none→b≠P:=fun b e q=>by rw[q,hP]at e;cases e
  refine⟨.ref h'.objs.size,H',I.un ⟨fun b o e n _ _=>keep b o (nP b n) e,fun b o e n _ _=>⟨o.slots,keep b o (nP b n) e⟩,fun b o e n _=>?_,fun b o e _=>?_,fun b u e _=>sm b u e⟩ fun b u e=>?_,rfl,?_⟩
  ·have lt:=ax e;show upd _ _ _ b=_;rw[xm (aE (aD lt hsz)),xm (aE (aD lt hge))];exact n
  ·by_cases hb:b=P
   ·exact⟨_,ah _ (by rw[hb];exact htb)⟩
   ·exact⟨o,keep b o hb e⟩
  ·by_cases h1:b=h'.objs.size
   ·subst h1;rw[H'f]at e;cases e;exact xY.anyOf (aK _ rfl)
   ·have e1:upd H c' (.frz oc HO.any) b=some u:=(xm h1).symm.trans e
    by_cases h2:b=c'
    ·subst h2;rw[xp]at e1;cases e1;exact xY.anyOf (ah _ hoc)
    ·rw[xm h2]at e1
     by_cases hb:b=P
     ·subst hb;rw[hP]at e1;cases e1;refine⟨_,ah _ htb,?_,fun pos' q m=>?_⟩
      ·simpa using TriplesOk_snoc (pos.line:Int) (pos.col:Int) (.ref c') ps.toList ht
      ·have e3:(ps++#[bc pos.line,bc pos.col,az c']).toList=ps.toList++[bc pos.line,bc pos.col,az c']:=by simp
       rw[e3,xny _ ht];rcases hent pos' q m with z|⟨d,o,u,vs',t',z1,z2,z3,z4⟩
       ·rw[z]
        by_cases hl:((pos.line:Int)==pos'.line&&(pos.col:Int)==pos'.col)=true
        ·right
         have hqq:q=qual:=by
          have:=cF.mp hu (pos',q) m;simp only[df,beq_iff_eq,Int.ofNat_inj,Int.natCast_inj]at hl;have a1:pos.line=pos'.line:=by have:=hl.1;omega
          have a2:pos.col=pos'.col:=by have:=hl.2;omega
          simpa [a1,a2]using this
         subst hqq;exact⟨c',oc,HO.any,vs,t,if_pos hl,H'c,hd,hv⟩
        ·exact .inl (if_neg hl)
       ·right
        rw[z1];exact⟨d,o,u,vs',t',rfl,sm _ _ z2,z3,z4⟩
     ·refine(I.hok b u e1).stay (fun d v hc q=>keep d v ?_ q) (fun d q=>sm _ _ q) fun d u q _=>sm _ _ q;rcases hc with rfl|hc
      ·exact hb
      ·intro z;rw[z,hP]at hc;cases hc
  ·exact h h'.objs.size H' hf0 sm ⟨_,c',oc,HO.any,HO.any,vs,t,doc,_,ctv,H'f,H'c,hd,hv,cInj,cHas,fun x v m=>let⟨a,q1,q2⟩:=cVal x v m;⟨a,q1,sm _ _ q2⟩,fun x a q=>let⟨v,q2⟩:=cAll x a q;⟨v,sm _ _ q2⟩⟩
 ·refine xo6 hcl I.ok.glob hg hcode C hPo ht hit hB fun ctv doc h' tk hk hsz=>?_;have hf0:H h'.objs.size=none:=I.hok.fresh hsz;have sm:xc H (upd H h'.objs.size (.frz (xbO name qual params body scope (yH X.env.cells scope.names []) doc ((X.mg "__name__").getD .none) (.ref c') ctv) HO.any)):=fun b u e=>by
   rw[xm (xC e hf0)];exact e
  refine⟨.ref h'.objs.size,_,I.laid (o:=.frz (xbO name qual params body scope (yH X.env.cells scope.names []) doc ((X.mg "__name__").getD .none) (.ref c') ctv) HO.any) (fun b o e=>ah _ (hk b o e)) hsz (xY.anyOf (aK _ rfl)),rfl,?_⟩;exact h _ _ hf0 sm ⟨_,c',o,HO.any,u,vs,t,doc,_,ctv,xp,sm _ _ hc',hd,hv,cInj,cHas,fun x v m=>let⟨a,q1,q2⟩:=cVal x v m;⟨a,q1,sm _ _ q2⟩,fun x a q=>let⟨v,q2⟩:=cAll x a q;⟨v,sm _ _ q2⟩⟩
theorem xlc{e:Expr}(hcode:X.env.code= .ref c)(T:zy X.K c P)(hq:(pos,X.env.qual++"<lambda>")∈qs)(hu:(qs.all fun p=> !((pos.line==p.1.line)&&(pos.col==p.1.col))||(p.2==X.env.qual++"<lambda>"))=true)
  (hfr:(scope.names.filter fun y=>y.2== .free).map (·.1)=fns) (hdef:defaultsOf params X.env=([],[]):=by rfl):
  PE X (.Lambda params e scope pos) (tFn X P qs fns "<lambda>" (X.env.qual++"<lambda>") params (.expr e) scope):=fun _ _ _ _ _ I h=>
 W.kla_eval hdef (xnA I hcode T hq hu hfr h)
theorem Inv.track{x:Str}{a:Addr}{i:Nat}(I:Inv X pins σ H s)(hN:X.N.Nodup)(hi:X.N[i]? =some x)(hk:X.env.kindOf x=some .cell)(hcp:X.cp x=true)(hfn:X.fn x=false)(ha:X.env.cells.lookup x=some a)(hH:H a=none):
  Inv X pins σ (upd H a (.cel (σ[i]?.join))) s:=by
 have hab:∀b o,X.s₀.heap.get? b=some o→b≠a:=fun b o e=>aE (aD (ax e) (I.ok.cab2 x a hcp ha));obtain⟨v0,hv0⟩:=I.cell x a ha;refine⟨I.ok,I.os,I.bare,⟨I.base.keep,I.base.slot,fun b o e n hx=>?_,I.base.there,fun b u e f=>?_⟩,I.loc,I.cell,?_,fun y c e=>?_,fun p hp=>?_,fun b u e=>?_,I.len⟩
 ·rw[xm (hab b o e)];exact I.base.free b o e n hx
 ·have:=I.base.fix b u e f;rw[xm (xC this hH)];exact this
 ·rw[xm (ak (I.cne x a ha))];exact I.free
 ·by_cases hc:c=a
  ·subst hc;obtain rfl:=I.ok.inj _ _ _ e ha;refine .inr ⟨hfn,_,xp,fun z j v e1 k e2=>?_⟩;have:=je hN e1 hi;subst this;rw[e2]at z;cases z
  ·rw[xm hc];exact I.freeC y c e
 ·obtain⟨e,n,ne,nf,d⟩:=I.pin p hp;refine⟨e,?_,ne,nf,d⟩;rw[xm fun z=>?_]
  ·exact n
  ·obtain⟨o,q1,q2⟩:=hv0;rw[←z,e]at q1;cases q1;exact d _ q2
 ·by_cases hb:b=a
  ·subst hb;rw[xp]at e;cases e;cases hσ:σ[i]?.join with
   |none=>exact⟨v0,hv0,fun x z=>by cases z⟩
   |some v=>
    have hσ':σ[i]? =some (some v):=by
     cases q:σ[i]? with
     |none=>rw[q]at hσ;cases hσ
     |some w=>rw[q]at hσ;cases w with
      |none=>cases hσ
      |some w=>cases hσ;rfl
    obtain⟨m,hn,hl⟩:=I.loc;obtain⟨u,r,l⟩:=hl i x v hi hσ' (.inr (.inl hk));rcases l with⟨k,_⟩|⟨_,c,hc,hcell⟩
    ·rw[hk]at k;cases k
    ·rw[ha]at hc;cases hc;exact⟨_,hcell,fun y z=>by cases z;exact⟨u,rfl,r⟩⟩
  ·rw[xm hb]at e;exact(I.hok b u e).stay (fun _ _ _ q=>q) (fun d q=>by rw[xm (xC q hH)];exact q) fun d u q _=>by rw[xm (xC q hH)];exact q
def xo7(X:Cx)(x:Str)(i:Nat)(t:TS):TS:=fun D σ H=>∀a,X.env.cells.lookup x=some a→X.H₀ a=none→(∀y b,X.env.cells.lookup y=some b→y≠x→b≠a)→H a=none∧t D σ (upd H a (.cel (σ[i]?.join)))
theorem yP{x:Str}{i:Nat}{b:List Stmt}{t:TS}(hN:X.N.Nodup)(hi:X.N[i]? =some x)(hk:X.env.kindOf x=some .cell)(hcp:X.cp x=true)(hfn:X.fn x=false)
  (h:PSs X b t):PSs X b (xo7 X x i t):=fun pins s σ H D I q=>by
 obtain⟨a,ha⟩:=I.ok.has x (.inl hk);obtain⟨z,q⟩:=q a ha (I.ok.hz a (I.ok.cab2 x a hcp ha)) fun y b e ne z=>ne (I.ok.inj y x b e (z▸ha));exact h pins s σ _ D (I.track hN hi hk hcp hfn ha z) q
def xqb(X:Cx)(x:Str)(i:Nat)(te:TE):TS:=fun D σ H=>te σ H fun v H1=>∃a,X.env.cells.lookup x=some a∧H1 a=some (.cel none)∧D.nx (σ.set i (some v)) (upd H1 a (.cel (some v)))
theorem xf5{i:Nat}{x:Str}{e:Expr}{te:TE}{pos':Pos}(hN:X.N.Nodup)(hi:X.N[i]? =some x)(hk:X.env.kindOf x=some .cell)(hcp:X.cp x=true)(hfn:X.fn x=false)(he:PE X e te)(hs:eE e (some (.Name x pos')) pos.line X.env=pure false:=by rfl):
  PS X (.Assign [.Name x pos'] e pos) (xqb X x i te):=by
 intro pins s σ H D I h;refine wpAny_Assign_Name (thn (he pins s σ H _ I h) fun u s1 ⟨v,H1,I,r,q⟩=>?_) hs;obtain⟨a,ha,hH,q⟩:=q;obtain⟨w0,z⟩:=I.cell x a ha;obtain⟨m,hn,hl⟩:=id I.loc;have hiσ:i<σ.length:=by rw[I.len];exact(aB.mp hi).1
 have hab:∀b o,X.s₀.heap.get? b=some o→b≠a:=fun b o e=>aE (aD (ax e) (I.ok.cab2 x a hcp ha));refine wpAny_storeName_cell I.ok.kind hk ha z fun h' hc' hs=>?_;refine⟨_,_,⟨I.ok,I.os,I.bare,⟨fun b o e n hb hx=>?_,fun b o e n hb hx=>?_,fun b o e n hx=>?_,fun b o e hx=>?_,fun b u e f=>?_⟩,⟨m,hn.sameBut hs (ak (I.cne x a ha)),fun j y v' e1 e2 e3=>?_⟩,fun y c' e=>?_,?_,fun y c' e=>?_,fun p hp=>?_,fun b u e=>?_,by simpa using I.len⟩,q⟩
 ·exact(hs.2 b (hab b o e)).trans (I.base.keep b o e n hb hx)
 ·obtain⟨sl,e1⟩:=I.base.slot b o e n hb hx;exact⟨sl,(hs.2 b (hab b o e)).trans e1⟩
 ·rw[xm (hab b o e)];exact I.base.free b o e n hx
 ·obtain⟨o',e1⟩:=I.base.there b o e hx;exact⟨o',(hs.2 b (hab b o e)).trans e1⟩
 ·have h0:=I.ok.hz a (I.ok.cab2 x a hcp ha);rw[xm (xC e h0)];exact I.base.fix b u e f
 ·by_cases hj:j=i
  ·subst hj;rw[hi]at e1;cases e1;rw[bT hiσ]at e2;cases e2;exact⟨u,r,.inr ⟨.inl hk,a,ha,hc'⟩⟩
  ·rw[bD (ak hj)]at e2;obtain⟨u',r',q⟩:=hl j y v' e1 e2 e3;refine⟨u',r',?_⟩;rcases q with q|⟨k,c',e,z'⟩
   ·exact .inl q
   ·refine .inr ⟨k,c',e,z'.sameBut hs ?_⟩;rintro rfl;exact hj (je hN e1 (I.ok.inj _ _ _ e ha▸hi))
 ·by_cases hcc:c'=a
  ·subst hcc;exact⟨_,hc'⟩
  ·obtain⟨w2,z2⟩:=I.cell y c' e;exact⟨w2,z2.sameBut hs hcc⟩
 ·rw[xm (ak (I.cne x a ha))];exact I.free
 ·by_cases hcc:c'=a
  ·subst hcc;obtain rfl:=I.ok.inj _ _ _ e ha;exact .inr ⟨hfn,some v,xp,fun z=>by cases z⟩
  ·rw[xm hcc];refine(I.freeC y c' e).imp id fun⟨hf',o',ho',hno⟩=>⟨hf',o',ho',fun z j v' e1 k e2=>?_⟩
   by_cases hj:j=i
   ·subst hj;rw[hi]at e1;cases e1;rw[ha]at e;cases e;exact hcc rfl
   ·rw[bD (ak hj)]at e2;exact hno z j v' e1 k e2
 ·obtain⟨e,n,ne,nf,d⟩:=I.pin p hp;have hpa:p.1≠a:=fun q=>by
   obtain⟨oc,hoc,hocd⟩:=z;rw[q,hoc]at e;have q':oc=p.2:=aX e;exact d w0 (by rw[←q'];exact hocd)
  exact⟨(hs.2 p.1 hpa).trans e,by rw[xm hpa];exact n,ne,nf,d⟩
 ·by_cases hb:b=a
  ·subst hb;rw[xp]at e;cases e;exact⟨_,hc',fun y z=>by cases z;exact⟨u,rfl,r⟩⟩
  ·rw[xm hb]at e;have nfix:∀d u',H1 d=some u'→u'≠.cel none→upd H1 a (.cel (some v)) d=some u':=fun d u' e' hu=>by
    rw[xm fun z=>?_]
    ·exact e'
    ·rw[z,hH]at e';cases e';exact hu rfl
   refine(I.hok b u e).stay (fun d w' hc q=>(hs.2 d ?_).trans q) (fun d q=>nfix _ _ q (by simp)) fun d u' q hf=>nfix _ _ q (by rintro rfl;exact hf);rcases hc with rfl|hc
   ·exact hb
   ·intro z;rw[z,hH]at hc;cases hc
end
end L2
namespace L2
open PySem PySem.Spec PyProof.Rows
theorem xld{P:ai}{w:World}{K:ag}{mg mb:Str→Option Value}{CX:CXT}{k:Nat}{fa a:Addr}{fd:aj}{x:Str}{sp:Sp}{s₁:af}{vs:List Value}{ns:List Int}{tabs:List (Addr×Addr×List (Pos×Str))}
  (KX:K.In s₁.heap) (hns:s₁.heap.Ns a7 mg) (hb:s₁.heap.Ns cb mb) (hbb:∀x:Str,x≠"__name__"→mb x=bx x) (hlim:s₁.heap.NoLimit) (hbm:∃b o,mg "__builtins__"=some (.ref b)∧b≠cb∧s₁.heap.get? b=some o∧o.cls= .type "module"∧o.dict=some cb∧o.data= .plain) (hg:s₁.gens=#[])
  (ha:s₁.heap.get? a=some {cls:=.type "list",data:=.seq vs.toArray}) (hi:ia vs ns) (hl:ns.length≤aF) (hr:xS k gu)
  (hT:∀q∈tabs,iz s₁.heap q.1 q.2.1∧s₁.heap.get? q.2.1=some (eZ #[])) (hnt:W.noTabs K=true) (nd:(tabs.map fun q=>q.2.1).Nodup)
  (F:∀base:Heap,K.In base→base.Ns a7 mg→xA P w K mg base CX k fa fd [x] sp) (hbind:∀(s:af) (u:Value),hX s fd ⟨[u],[]⟩ [(x,u)])
  (hsp:∀H:Hp,SqL K H a (ns.map V.int)→(∀q∈tabs,H q.2.1=some (.tbl q.2.2))→sp [.ref a] H (fun v _=>v= .bl true) fun _ _ _=>False)
  (hCX:∀H e s',CX [] H s₁ (fun _ _ _=>False) e s'→False):
  b9 (model P w) gu (.call (.ref fa) ⟨[.ref a],[]⟩) (fun r s'=>r= .ok (.ret (.bool true))∧OldK s₁.heap s'.heap∧s'.os=s₁.os∧d8 s'.gens) s₁:=by
 have rv:=xgJ hi;have lenV:=hi.length;have aP:∀q∈tabs,q.2.1≠a:=fun q hq z=>by
  have e:=(hT q hq).2;rw[z,ha]at e;cases e
 have core:∀H:Hp,SqL K H a (ns.map V.int)→(∀q∈tabs,H q.2.1=some (.tbl q.2.2))→
   (∀b u,H b=some u→(b=a∧K.lookup a=none∧∃xs,u= .frz {cls:=.type "list",data:=.seq vs.toArray} (.lst xs))∨∃q∈tabs,b=q.2.1∧u= .tbl q.2.2)→HOk P w H s₁.heap→
   b9 (model P w) gu (.call (.ref fa) ⟨[.ref a],[]⟩) (fun r s'=>r= .ok (.ret (.bool true))∧OldK s₁.heap s'.heap∧s'.os=s₁.os∧d8 s'.gens) s₁:=by
  intro H hS hP hA hok;have base_of:∀{b:Addr} {o:Obj},s₁.heap.get? b=some o→H b=none→(xb4 s₁.heap H).get? b=some o:=fun e n=>xlU e n;have noA:∀{b:Addr} {o:Obj},s₁.heap.get? b=some o→o.cls≠.type "list"∨(∀n,o.data≠.seq vs.toArray n)→o≠eZ #[]→H b=none:=fun{b o} e d1 d2=>by
   cases q:H b with
   |none=>rfl
   |some u=>
    rcases hA b u q with⟨rfl,_,_⟩|⟨t,ht,rfl,_⟩
    ·rw[ha]at e;cases e;rcases d1 with d1|d1
     ·exact absurd rfl d1
     ·exact absurd rfl (d1 _)
    ·have e2:=(hT t ht).2;rw[e]at e2;cases e2;exact absurd rfl d2
  have nsK:∀{b:Addr} {m:Str→Option Value},s₁.heap.Ns b m→(xb4 s₁.heap H).Ns b m:=fun{b m} ⟨o,es,ep,e,d,r⟩=>
   ⟨o,es,ep,base_of e (noA e (.inr fun n z=>by rw[d]at z;cases z) fun z=>by rw[z]at d;cases d),d,r⟩
  have hKb:K.In (xb4 s₁.heap H):=fun b o e=>base_of (KX b o e) (by
   cases q:H b with
   |none=>rfl
   |some u=>
    rcases hA b u q with⟨rfl,z,_⟩|⟨t,ht,rfl,_⟩
    ·rw[z]at e;cases e
    ·have e2:=KX _ _ e;rw[(hT t ht).2]at e2;cases e2;have h2:=cF.mp hnt _ (W.mem_of_lookupK e);exact absurd (show false=true from h2) aI)
  have hM:Mod K mg (xb4 s₁.heap H):=⟨hKb,nsK hns,⟨mb,nsK hb,hbb⟩,let⟨mc,h1,h2⟩:=hlim;⟨mc,nsK h1,h2⟩,let⟨b,o,a1,a2,a3,a4⟩:=hbm;⟨b,o,a1,a2,base_of a3 (noA a3 (.inl fun z=>by rw[a4.1]at z;simp at z) fun z=>by rw[z]at a4;cases a4.1),a4⟩⟩;have e0:jf P w K mg (xb4 s₁.heap H) gu [] s₁ H:=⟨rfl,hM,fun b o e=>xnc e,Nat.le_of_eq (xkJ _ _),trivial,fun b hb=>absurd (show b∈([]:List Addr)from hb) (by simp),hok,.of_eq hg⟩;refine bR ((F _ hKb (nsK hns)).run gu [] s₁ H ⟨[.ref a],[]⟩ [.ref a] [.ref a] _ _ hr e0 (hbind s₁ (.ref a)) (.cons rfl .nil) (hsp H hS hP)) fun r s' h=>?_;cases r with
  |error e=>exact(hCX H e s' h).elim
  |ok fl=>
   cases fl with
   |next=>exact aT h
   |brk=>exact aT h
   |cont=>exact aT h
   |ret u=>
    obtain⟨v,H',os,bare,un,hok',r',q⟩:=h;have q':v= .bl true:=q;subst q';obtain rfl:u=cI true:=r';have old:∀b o,s₁.heap.get? b=some o→s'.heap.get? b=some o∨∃t∈tabs,b=t.2.1∧o=eZ #[]∧∃ps,s'.heap.get? b=some (eZ ps):=fun b o e=>by
     cases q:H b with
     |none=>exact .inl (un.keep b o e q (by intro z;exact absurd (show b∈([]:List Addr)from z) (by simp)) (by simp))
     |some u=>
      rcases hA b u q with⟨rfl,_,xs,rfl⟩|⟨t,ht,rfl,rfl⟩
      ·obtain⟨e1,_⟩:=hok _ _ q;obtain⟨e2,_⟩:=hok' _ _ (un.fix _ _ q trivial);rw[e]at e1;cases e1;exact .inl e2
      ·obtain⟨ps,e2,_⟩:=hok' _ _ (un.fix _ _ q trivial);have e3:=(hT t ht).2;rw[e]at e3;cases e3;exact .inr ⟨t,ht,rfl,rfl,ps,e2⟩
    refine⟨rfl,⟨fun b o e=>?_,fun b o e=>?_⟩,os,bare⟩
    ·rcases old b o e with z|⟨t,ht,rfl,rfl,ps,z⟩
     ·exact .inl z
     ·exact .inr (.inl ⟨((hT t ht).1.tab (hT t ht).2).isCodeTable,rfl,#[],ps,rfl,by rw[Array.empty_append];exact z⟩)
    ·rcases old b o e with z|⟨t,ht,rfl,rfl,ps,z⟩
     ·exact⟨o,z⟩
     ·exact⟨_,z⟩
 let Ht:Hp:=fun b=>(tabs.find? fun q=>q.2.1==b).map fun q=>HO.tbl q.2.2
 have HtP:∀q∈tabs,Ht q.2.1=some (.tbl q.2.2):=fun q hq=>by
  show i9 _ (tabs.find? _)=_;cases e:tabs.find? fun r=>r.2.1==q.2.1 with
  |none=>
   have:=iV.mp e q hq;simp at this
  |some r=>
   have h1:=List.find?_some e;have h2:=gp e;have h3:r.2.1=q.2.1:=by simpa using h1
   have:r=q:=by
    obtain⟨i,hi⟩:=fi.mp h2;obtain⟨j,hj⟩:=fi.mp hq;have ei:(tabs.map fun q=>q.2.1)[i]? =some r.2.1:=by rw[aJ,hi];rfl
    have ej:(tabs.map fun q=>q.2.1)[j]? =some r.2.1:=by rw[aJ,hj,h3];rfl
    obtain⟨i1,i2⟩:=aB.mp ei;obtain⟨j1,j2⟩:=aB.mp ej;have:=(List.getElem_inj nd).mp (i2.trans j2.symm);subst this;rw[hi]at hj;exact aX hj
   subst this;rfl
 have HtA:∀b u,Ht b=some u→∃q∈tabs,b=q.2.1∧u= .tbl q.2.2:=fun b u e=>by
  have e:i9 (fun q=>HO.tbl q.2.2) (tabs.find? fun q=>q.2.1==b)=some u:=e;obtain⟨q,hq,rfl⟩:=aR.mp e;have h1:=List.find?_some hq;exact⟨q,gp hq,(show q.2.1=b by simpa using h1).symm,rfl⟩
 have tok:∀{H:Hp} {q},q∈tabs→xY P w H s₁.heap q.2.1 (.tbl q.2.2):=fun{H q} hq=>⟨#[],(hT q hq).2,trivial,fun _ _ _=>.inl rfl⟩;cases hk:K.lookup a with
 |some o=>
  have e:=KX a o hk;rw[ha]at e;cases e;refine core Ht (.inr ⟨_,vs.toArray,_,hk,rfl,rfl,rfl,by rw[aH,lenV];exact hl,by simpa using rv⟩) HtP (fun b u z=>.inr (HtA b u z)) fun b u z=>?_;obtain⟨q,hq,rfl,rfl⟩:=HtA b u z;exact tok hq
 |none=>
  refine core (fun b=>if b=a then some (.frz {cls:=.type "list",data:=.seq vs.toArray} (.lst (ns.map V.int)))else Ht b) (.inl (.inr ⟨{cls:=.type "list",data:=.seq vs.toArray},if_pos rfl⟩)) (fun q hq=>(if_neg (aP q hq)).trans (HtP q hq)) (fun b u z=>?_) fun b u z=>?_
  ·by_cases hb:b=a
   ·have z':=(if_pos hb).symm.trans z;cases z';exact .inl ⟨hb,hk,_,rfl⟩
   ·exact .inr (HtA b u ((if_neg hb).symm.trans z))
  ·by_cases hb:b=a
   ·have z':=(if_pos hb).symm.trans z;cases z';subst hb;exact⟨ha,by rw[aq];exact hl,vs,_,rv,ha⟩
   ·obtain⟨q,hq,rfl,rfl⟩:=HtA b u ((if_neg hb).symm.trans z);exact tok hq
theorem xmi{l:W.OpenLaw}{n k:Nat}{q:ai}{loose:List Str}{XP:(Str→Option Value)→Heap→Prop}{YP:World→Heap→Prop}{d:DefRec}{K:Params→ag}{CX:CXT}{sp:ag→Sp}{x:Str}{tabs:List (Addr×Addr×List (Pos×Str))}
  (hn:l.most=some n) (hn2:n≤aF) (hdf:d.params.defaults=[]) (hr:xS k gu)
  (hY:∀(w:World) (h:Heap),YP w h→(K w.params).In h)
  (hT:∀(w:World) (h:Heap),YP w h→(K w.params).In h→∀t∈tabs,iz h t.1 t.2.1∧h.get? t.2.1=some (eZ #[])) (hnt:∀w:World,W.noTabs (K w.params)=true) (nd:(tabs.map fun q=>q.2.1).Nodup)
  (F:∀(w:World) (mg:Str→Option Value) (fa:Addr) (h:Heap),(K w.params).In h→h.Ns a7 mg→mg d.name=some (.ref fa)→
   ∃fd:aj,(∀(s:af) (u:Value),hX s fd ⟨[u],[]⟩ [(x,u)])∧
    ∀base:Heap,(K w.params).In base→base.Ns a7 mg→xA l.prog w (K w.params) mg base CX k fa fd [x] (sp (K w.params)))
  (hsp:∀(K:ag) (H:Hp) (a:Addr) (ns:List Int),ns.length≤n→SqL K H a (ns.map V.int)→(∀q∈tabs,H q.2.1=some (.tbl q.2.2))→sp K [.ref a] H (fun v _=>v= .bl true) fun _ _ _=>False)
  (hCX:∀(H:Hp) (s:af) (e:Value) (s':af),CX [] H s (fun _ _ _=>False) e s'→False):
  W.WalkO q loose XP YP l.row.toRowW d [] (fun f vs=>PySem.call f vs):=by
 refine Att.xiE hn hdf fun w s₀ s₁ mg mb fa o pm cd doc a vs ns G Y ho hd hcd hmg hobj hints hlen hg=>?_;have KX:=hY w _ Y;obtain⟨fd,hb,hF⟩:=F w mg fa _ KX G.T.g hmg;exact xld KX G.T.g G.T.b G.T.builtins G.T.nolimit G.T.bmain hg hobj hints (bp hlen hn2) hr (hT w _ Y KX) (hnt w) nd hF hb (fun H hS hP=>hsp (K w.params) H a ns hlen hS hP) fun H e s'=>hCX H s₁ e s'
end L2
namespace L2
open PySem PySem.Spec PyProof.Rows
structure zp(N ps fns:List Str)(sc:Scope):Prop where
 kind:sc.kind= .function
 co:sc.isCoroutine=false
 gen:sc.isGenerator=false
 nd:N.Nodup
 pre:N.take (ps.length+fns.length)=ps++fns
 par:∀x∈ps,sc.names.lookup x=some .local
 fre:∀x∈fns,sc.names.lookup x=some .free
 nocell:∀y∈sc.names,y.2≠.cell
def xbP(N:List Str)(vs:List V)(fv:List (Str×V)):St:=vs.map some++fv.map (fun p=>some p.2)++aU (N.length - vs.length - fv.length) none
def xca(CX:CXT)(P:ai)(w:World)(K:ag)(mg:Str→Option Value)(base:Heap)(N:List Str)(qual:Str)(scope:Scope)(f:Addr)(cd:Value)(clos:List (Str×Addr))(A:aC)(outer:List Env)(s:af)(H:Hp)(E:XK):Cx where
 prog:=P
 w:=w
 K:=K
 mg:=mg
 base:=base
 A:=A.deeper (fW qual scope s.heap.objs.size f cd clos)
 N:=N
 s₀:=s
 H₀:=H
 env:=fW qual scope s.heap.objs.size f cd clos
 outer:=outer
 stack:=fW qual scope s.heap.objs.size f cd clos::outer
 ex:=[]
 calm:=true
 cp:=fun _=>false
 fn:=fun _=>false
 pn:=[]
 xe:=fun e s'=>wpAny (model P w) (A.deeper (fW qual scope s.heap.objs.size f cd clos)) (hZ (fW qual scope s.heap.objs.size f cd clos) e) (fun _ s''=>CX outer H s E e s'') (fun e' s''=>CX outer H s E e' s'') s'
theorem xgP{α:Type}:∀{l:List (Str×α)} {x:Str} {v:α},(l.map (·.1)).Nodup→(x,v)∈l→l.lookup x=some v
 |[],_,_,_,m=>by simp at m
 |(y,u)::r,x,v,nd,m=>by
  obtain⟨n1,n2⟩:=bq.mp nd;rw[bH];rcases aw.mp m with e|m
  ·cases e;simp
  ·have:x≠y:=fun e=>n1 (by rw[←e];exact iM (f:=(·.1)) m);rw[beq_false_of_ne this];exact xgP n2 m
theorem xhM:∀{ps:List Str} {us:List Value},us.length=ps.length→(ps.zip us).map (·.1)=ps
 |[],[],_=>rfl
 |p::ps,u::us,h=>by simp[xhM (ps:=ps) (us:=us) (by simpa using h)]
 |[],_::_,h=>by simp at h
 |_::_,[],h=>by simp at h
theorem xf6{ps:List Str}{us:List Value}{i:Nat}{x:Str}{u:Value}(hl:us.length=ps.length)(nd:ps.Nodup)(h1:ps[i]? =some x)(h2:us[i]? =some u):(ps.zip us).reverse.lookup x=some u:=by
 refine xgP ?_ (List.mem_reverse.mpr ?_)
 ·rw[List.map_reverse,xhM hl];exact List.pairwise_reverse.mpr (nd.imp fun h=>ak h)
 ·refine fi.mpr ⟨i,?_⟩;rw[List.getElem?_zip_eq_some];exact⟨h1,h2⟩
def codeOf(body:dk)(env:Env):Code:=match body with
 | .stmts b=>.func b env
 | .expr e=>.expr e env
section
variable {CX:CXT} {P:ai} {w:World} {K:ag} {mg:Str→Option Value} {base:Heap} {N ps fns:List Str} {nm qual:Str} {params:bX} {scope:Scope} {f:Addr} {cd:Value} {clos:List (Str×Addr)} {A:aC} {outer:List Env} {s:af} {H:Hp} {E:XK} {us:List Value} {vs:List V} {fv:List (Str×V)} {k:Nat}
theorem xj1{h':Heap}{tk:Tok}(S:zp N ps fns scope)(hd:A.handled=none)(e0:jf P w K mg base A outer s H)(hl:vs.length=ps.length)(r:Vals vs us)(hfv:fv.map (·.1)=fns)
  (hin:∀x y a,clos.lookup x=some a→clos.lookup y=some a→x=y) (hhas:∀x,(x,bG)∈scope.names→∃a,clos.lookup x=some a)
  (hval:∀x v,(x,v)∈fv→∃a,clos.lookup x=some a∧H a=some (.cel (some v))) (hall:∀x a,clos.lookup x=some a→∃v,H a=some (.cel (some v)))
  (hns:h'.Ns s.heap.objs.size fun x=>(ps.zip us).reverse.lookup x) (hk:∀b o,s.heap.get? b=some o→h'.get? b=some o):
  Inv (xca CX P w K mg base N qual scope f cd clos A outer s H E) [] (xbP N vs fv) H {s with heap:=h',toks:=tk}:=by
 have lenF:fv.length=fns.length:=by rw[←hfv,aq]
 have hpl:ps.length+fns.length≤N.length:=by have:=congrArg gX S.pre;rw[cm,aY]at this;lia
 have noA:∀b:Addr,b∉(xca CX P w K mg base N qual scope f cd clos A outer s H E).ex:=fun b z=>absurd (show b∈([]:List Addr)from z) (by simp);have lu:us.length=ps.length:=by rw[←r.length];exact hl
 have ndP:(ps++fns).Nodup:=by rw[←S.pre];exact S.nd.sublist (List.take_sublist _ _)
 refine⟨⟨e0.mod,S.kind,rfl,rfl,av _,fun y z c h1 h2=>hin y z c h1 h2,fun y hy=>?_,fun y c h _=>(aI h).elim,fun _=>hd,iq e0.frames,.inr ⟨rfl,rfl⟩,fun b z=>absurd z (noA b),e0.bs,e0.bsz,fun b _ _=>noA b,fun b z=>absurd z (noA b),e0.funs,e0.frf,fun y c h _=>(aI h).elim,fun b hb=>e0.hok.fresh hb⟩,
  rfl,e0.bare,Un.kept hk,⟨_,hns,fun i y v h1 h2 h3=>?_⟩,fun y c h=>?_,e0.hok.fresh (av _),fun y c h=>?_,fun p hp=>absurd (show p∈([]:List (Addr×Obj))from hp) (by simp),e0.hok.kept hk,?_⟩
 ·have hy:scope.names.lookup y=some .cell∨scope.names.lookup y=some .free:=hy;rcases hy with hy|hy
  ·exact absurd rfl (S.nocell _ (PySem.mem_of_lookup hy))
  ·exact hhas y (PySem.mem_of_lookup hy)
 ·have h1:N[i]? =some y:=h1;unfold xbP at h2
  by_cases hi:i<vs.length
  ·rw[bL (by simp;lia),bL (by simpa using hi),aJ]at h2;cases e:vs[i]? with
   |none=>rw[e]at h2;cases h2
   |some a=>
    rw[e]at h2;cases h2;obtain⟨u,hu,rv⟩:=r.get e;have hp:ps[i]? =some y:=by
     have:(N.take (ps.length+fns.length))[i]? =some y:=by rw[eG (by lia)];exact h1
     rw[S.pre,bL (by lia)]at this;exact this
    exact⟨u,rv,.inl ⟨S.par y (bf hp),xf6 lu (ndP.sublist (List.sublist_append_left _ _)) hp hu⟩⟩
  ·by_cases hj:i<vs.length+fv.length
   ·rw[bL (by simp;lia),bS (by simpa using hi),aq,aJ]at h2;cases e:fv[i - vs.length]? with
    |none=>rw[e]at h2;cases h2
    |some p=>
     obtain⟨z,v'⟩:=p;rw[e]at h2;cases h2;have hp:fns[i - vs.length]? =some y:=by
      have:(N.take (ps.length+fns.length))[i]? =some y:=by rw[eG (by lia)];exact h1
      rw[S.pre,bS (by lia),←hl]at this;exact this
     have hz:z=y:=by
      rw[←hfv,aJ,e]at hp;exact aX hp
     subst hz;obtain⟨a,q1,q2⟩:=hval _ _ (bf e);obtain⟨u,q3,q4⟩:=e0.hok a _ q2;obtain⟨y',rfl,r'⟩:=q4 v' rfl;exact⟨y',r',.inr ⟨.inr (S.fre z (bf hp)),a,q1,q3.keeps hk⟩⟩
   ·rw[bS (by simp;lia),gK]at h2
    split at h2<;> cases h2
 ·obtain⟨v,q2⟩:=hall y c h;obtain⟨u,q3,_⟩:=e0.hok c _ q2;exact⟨u,q3.keeps hk⟩
 ·obtain⟨v,q2⟩:=hall y c h;exact .inr ⟨rfl,some v,q2,fun z=>by cases z⟩
 ·unfold xbP;show _=N.length;simp only[aY,aq,dQ];lia
structure yO(P:ai)(w:World)(K:ag)(mg:Str→Option Value)(base:Heap)(CX:CXT)(k:Nat)(nm qual:Str)(params:bX)(body:dk)(scope:Scope)(ps:List Str)(sp:List (Str×V)→Sp):Prop where
 len:∀fv vs H Q E,sp fv vs H Q E→vs.length=ps.length
 run:∀(A:aC) (outer:List Env) (s:af) (H:Hp) (f:Addr) (fv:List (Str×V)) (us:List Value) (vs:List V) (Q:VK) (E:XK),xS k A→jf P w K mg base A outer s H→yG H f nm qual params body scope fv→Vals vs us→sp fv vs H Q E→
  b9 (model P w) A (.call (.ref f) ⟨us,[]⟩) (CR CX outer P w H s Q E) s
theorem xgQ{body:dk}{sp:List (Str×V)→Sp}(S:zp N ps fns scope)(len:∀fv vs H Q E,sp fv vs H Q E→vs.length=ps.length∧fv.map (·.1)=fns)
  (hb:∀(clos:List (Str×Addr)) (doc pm cdv ctv:Value) (us:List Value),us.length=ps.length→
   dH {name:=nm,qualname:=qual,params,body,scope,globals:=a7,closure:=clos,defaults:=.none,kwdefaults:=.none,doc,pyModule:=pm,annotations:=none,code:=cdv,closureTuple:=ctv,builtins:=cb} ⟨us,[]⟩=pure (ps.zip us))
  (hgo:∀(A:aC) (outer:List Env) (s:af) (H:Hp) (f:Addr) (clos:List (Str×Addr)) (cdv:Value) (fv:List (Str×V)) (vs:List V) (Q:VK) (E:XK) (s1:af),xS k (A.deeper (fW qual scope s.heap.objs.size f cdv clos))→sp fv vs H Q E→
   Inv (xca CX P w K mg base N qual scope f cdv clos A outer s H E) [] (xbP N vs fv) H s1→
   b9 (model P w) A (codeOf body (fW qual scope s.heap.objs.size f cdv clos)) (CR CX outer P w H s Q E) s1):
  yO P w K mg base CX (k+1) nm qual params body scope ps sp:=by
 refine⟨fun fv vs H Q E h=>(len fv vs H Q E h).1,fun A outer s H f fv us vs Q E hr e0 hc r hsp=>?_⟩;obtain⟨clos,c,o,u,u',xs,t,doc,pm,ctv,h1,h2,h3,h4,h5,h6,h7,h8⟩:=hc;obtain⟨hl,hfv⟩:=len fv vs H Q E hsp;have lu:us.length=ps.length:=by rw[←r.length];exact hl
 obtain⟨hf,_⟩:=e0.hok f _ h1;obtain⟨hcO,_⟩:=e0.hok c _ h2;have lim:s.heap.NoLimit:=e0.mod.nolimit.keeps fun b o e=>(e0.bs b o e).1;have hloc:∀y∈ps.zip us,scope.names.lookup y.1=some .local:=fun⟨n,v⟩ hy=>S.par n (cu hy).1;have cr:s.heap.CodeRec (.ref c) qual:=⟨c,o,xs,t,rfl,hcO,h3,h4⟩;have fin:wpAny (model P w) A.in1 (newFunctionEnv scope a7 clos (ps.zip us) (qual++".<locals>.") (some f) (.ref c) none cb)
   (fun env s₂=>s₂.heap.NoLimit∧b9 (model P w) A (codeOf body env) (CR CX outer P w H s Q E) s₂) (fun e s'=>CR CX outer P w H s Q E (.error e) s') s:=by
  refine wpAny_newFunctionEnv S.nocell hloc (fun h' hns hsb=>?_) S.kind;have hk:∀b o,s.heap.get? b=some o→h'.get? b=some o:=fun b o e=>hsb.extBut b o (aE (ax e)) (ah _ e);exact⟨lim.keeps hk,hgo A outer s H f clos (.ref c) fv vs Q E _ (hr.deeper _) hsp (xj1 S hr.hd e0 hl r hfv h5 h6 h7 h8 hns hk)⟩
 cases body with
 |stmts b=>
  refine cn hr.depth hf rfl S.co S.gen rfl cr ?_;rw[hb clos doc pm (.ref c) ctv us lu];exact ao fin
 |expr e=>
  refine W.kla_callFunE hr.depth hf rfl S.co S.gen rfl cr ?_;rw[hb clos doc pm (.ref c) ctv us lu];exact ao fin
theorem xeD{e:Expr}{sp:List (Str×V)→Sp}(S:zp N ps fns scope)(len:∀fv vs H Q E,sp fv vs H Q E→vs.length=ps.length∧fv.map (·.1)=fns)
  (hb:∀(clos:List (Str×Addr)) (doc pm cdv ctv:Value) (us:List Value),us.length=ps.length→
   dH {name:=nm,qualname:=qual,params,body:=.expr e,scope,globals:=a7,closure:=clos,defaults:=.none,kwdefaults:=.none,doc,pyModule:=pm,annotations:=none,code:=cdv,closureTuple:=ctv,builtins:=cb} ⟨us,[]⟩=pure (ps.zip us))
  (hbody:∀(A:aC) (outer:List Env) (s:af) (H:Hp) (f:Addr) (clos:List (Str×Addr)) (cdv:Value) (fv:List (Str×V)) (vs:List V) (Q:VK) (E:XK),xS k (A.deeper (fW qual scope s.heap.objs.size f cdv clos))→sp fv vs H Q E→
   ∃te,PE (xca CX0 P w K mg base N qual scope f cdv clos A outer s H E).nox e te∧te (xbP N vs fv) H Q):yO P w K mg base CX0 (k+1) nm qual params (.expr e) scope ps sp:=
 xgQ S len hb fun A outer s H f clos cdv fv vs Q E s1 hr hsp I=>by
  obtain⟨te,ht,hq⟩:=hbody A outer s H f clos cdv fv vs Q E hr hsp;refine W.kla_codeExpr (aG (ht [] s1 _ H Q (I.wish _) hq) (fun v s' ⟨x,H',J,rv,q⟩=>?_) fun _ _ z=>z.elim);exact⟨x,H',J.os,J.bare,J.base,J.hok,rv,q⟩
end
section
variable {X:Cx} {CX:CXT} {k:Nat} {nm qual x:Str} {params:bX} {body:dk} {scope:Scope} {ps:List Str} {sp:List (Str×V)→Sp} {p pos:Pos} {e:Expr} {es:List Expr} {t:TA} {E:XK} {i:Nat}
theorem xnB{pins:List (Addr×Obj)}{σ:St}{H:Hp}{s:af}{Q:VK}{us:List Value}{vs:List V}{f:Addr}{fv:List (Str×V)}(F:yO X.prog X.w X.K X.mg X.base CX k nm qual params body scope ps sp)(hr:xS k X.A)(hx:Passes CX X E)
  (I:Inv X pins σ H s) (hc:yG H f nm qual params body scope fv) (r:Vals vs us) (h:sp fv vs H Q E):wpAny (model X.prog X.w) X.A (call (.ref f) us) (EP X pins σ Q) X.xe s:=by
 refine cJ (bR (F.run X.A X.stack s H f fv us vs Q E hr I.env0 hc r h) fun r s' hq=>?_);cases r with
 |error e=>exact hx pins σ H s e s' I hq
 |ok fl=>
  cases fl with
  |ret u=>exact I.after hq
  |next=>exact aT hq
  |brk=>exact aT hq
  |cont=>exact aT hq
theorem yG.fn{pins:List (Addr×Obj)}{σ:St}{H:Hp}{s:af}{f:Addr}{fv:List (Str×V)}(hc:yG H f nm qual params body scope fv)(I:Inv X pins σ H s):W.FnAt f s.heap:=by
 obtain⟨clos,c,o,u,u',xs,t,doc,pm,ctv,h1,_⟩:=hc;obtain⟨e,_⟩:=I.hok f _ h1;exact⟨_,_,_,_,e⟩
end
theorem Inv.capd{X:Cx}{pins:List (Addr×Obj)}{σ:St}{H:Hp}{s:af}(hfn:∀x,X.fn x=true)(I:Inv X pins σ H s)(g:Str→Bool):Inv {X with fn:=g} pins σ H s:=by
 have ok:=I.ok;refine⟨⟨ok.mod,ok.kind,ok.glob,ok.blt,ok.above,ok.inj,ok.has,fun x c _ h=>ok.cab x c (hfn x) h,ok.hd,ok.frames,ok.stk,ok.exf,ok.bs,ok.bsz,ok.noex,ok.exfs,ok.funs,ok.frf,ok.cab2,ok.hz⟩,I.os,I.bare,I.base,I.loc,I.cell,I.free,fun x c e=>?_,I.pin,I.hok,I.len⟩;rcases I.freeC x c e with z|⟨z,_⟩
 ·exact .inl z
 ·rw[hfn x]at z;cases z
abbrev xhw(cap:List Str):Str→Bool:=fun x=> !(cap.contains x)
abbrev uI(cap:List Str)(CX:CXT)(P:ai)(w:World)(K:ag)(mg:Str→Option Value)(base:Heap)(N:List Str)(qual:Str)(scope:Scope)(f:Addr)(cd:Value)(A:aC)(outer:List Env)(s:af)(H:Hp)(E:XK):Cx:=
 {zU CX P w K mg base N qual scope f cd A outer s H E with fn:=xhw cap}
theorem Fun.okC{P:ai}{w:World}{K:ag}{mg:Str→Option Value}{base:Heap}{x qual:Str}{st:Stmt}{f c:Addr}{fd:aj}{N ps:List Str}{k:Nat}{sp:Sp}(cap:List Str)(F:Fun K x qual st f fd)(hc:fd.code= .ref c)(S:xq N ps (xj st))(len:∀vs H Q E,sp vs H Q E→vs.length=ps.length)
  (hbody:∀(A:aC) (outer:List Env) (s:af) (H:Hp) (vs:List V) (Q:VK) (E:XK),xS k (A.deeper (cR qual (xj st) s.heap.objs.size f (.ref c)))→sp vs H Q E→
   ∃t,PSs (uI cap CX0 P w K mg base N qual (xj st) f (.ref c) A outer s H E).nox (xN st) t∧t {nx:=fun _ H'=>Q .non H',rt:=Q} (start N vs) H):xA P w K mg base CX0 (k+1) f fd ps sp:=by
 obtain⟨oc,od,kV,doc,pm,an,cdv,ct,osl,rfl,lk,hcd⟩:=F.ex;obtain rfl:cdv= .ref c:=hc;refine⟨len,fun A outer s H args us vs Q E hr e0 hb r hsp=>?_⟩;have hl:=len _ _ _ _ hsp;have KX:K.In s.heap:=e0.mod.kin.keeps fun b o e=>(e0.bs b o e).1;have lim:s.heap.NoLimit:=e0.mod.nolimit.keeps fun b o e=>(e0.bs b o e).1;have hkind:∀y∈ps.zip us,(xj st).names.lookup y.1=some .local∨((xj st).names.lookup y.1=some .cell∧((fh (s.heap.objs.size+1) (xj st).names []).lookup y.1).isSome=true):=fun⟨n,v⟩ hy=>by
  rcases S.par n (cu hy).1 with q|q
  ·exact .inl q
  ·exact .inr ⟨q,c8 _ _ _ (.inl q)⟩
 refine cn hr.depth (KX _ _ lk) rfl S.co S.gen rfl (fy KX hcd) (hb _ _ _ _ ?_);refine cc S.kind hkind fun env he s1 x=>?_;subst he;refine⟨lim.keeps x.toInCall.keep,fz ?_⟩;obtain⟨t,ht,hq⟩:=hbody A outer s H vs Q E (hr.deeper _) hsp;have I:Inv (zU CX0 P w K mg base N qual (xj st) f (.ref c) A outer s H E) [] (start N vs) H s1:=jy S hr.hd e0 hl r x;have I':Inv (uI cap CX0 P w K mg base N qual (xj st) f (.ref c) A outer s H E).nox [] (start N vs) H s1:=(I.capd (fun _=>rfl) (xhw cap)).wish _;refine aG (ht [] s1 (start N vs) H _ I' hq) (fun fl s' hs=>?_) fun e s' hs=>hs.elim;have fin:∀{σ':St} {H':Hp} {v:V} {u:Value},Inv (uI cap CX0 P w K mg base N qual (xj st) f (.ref c) A outer s H E).nox [] σ' H' s'→RelV v u→Q v H'→CE outer P w H s Q u s':=
  fun{σ' H' v u} J rv q=>⟨v,H',J.os,J.bare,J.base,J.hok,rv,q⟩
 cases fl with
 |ret u=>
  obtain⟨v,σ',H',J,rv,q⟩:=hs;exact fin J rv q
 |next=>
  obtain⟨σ',H',J,q⟩:=hs;exact fin (v:=V.non) (u:=aS) J rfl q
 |brk=>
  obtain⟨_,_,_,q⟩:=hs;exact aT q
 |cont=>
  obtain⟨_,_,_,q⟩:=hs;exact aT q
section
variable {X:Cx} {c P:Addr} {qs:List (Pos×Str)} {name q:Str} {params:bX} {scope:Scope} {pos:Pos} {fns:List Str}
theorem vx{e:Expr}(hcode:X.env.code= .ref c)(T:zy X.K c P)(hql:X.env.qual++"<lambda>"=q)(hq:(pos,q)∈qs)(hu:(qs.all fun p=> !((pos.line==p.1.line)&&(pos.col==p.1.col))||(p.2==q))=true)
  (hfr:(scope.names.filter fun y=>y.2== .free).map (·.1)=fns) (hdef:defaultsOf params X.env=([],[]):=by rfl):
  PE X (.Lambda params e scope pos) (tFn X P qs fns "<lambda>" q params (.expr e) scope):=by
 subst hql;exact xlc hcode T hq hu hfr hdef
end
theorem xnC{K:ag}{c P:Addr}(e:W.codeHdIn K c P=true):zy K c P:=fun _ X=>W.codeHd_of_K X e
end L2
namespace L2
open PySem PySem.Spec PyProof.Rows
theorem xj2{X:Cx}{a b:Expr}{pos:Pos}{op:CmpOp}{t:TE}(h:PC X op a b t)(h1:cA op b=false):PT X (.Compare a [op] [b] pos) (cB t):=by
 intro pins s σ H Q I hw;refine ff (thn (h pins s σ H _ I hw) fun v s1 h1=>thn h1 fun u s2 h2=>thn h2 fun c s3 ⟨x,H1,I1,r1,q1⟩=>?_) h1;obtain⟨d,rfl,q⟩:=xat q1;cases r1;exact bZ ⟨H1,I1,q⟩
end L2
namespace L2
open PySem PySem.Spec PyProof.Rows
end L2
namespace L2
open PySem PySem.Spec PyProof.Rows
section
variable {X:Cx}
theorem xao{st:Stmt}:PS X st (fun _ _ _=>False):=fun _ _ _ _ _ _ q=>q.elim
theorem xfg:∀{bs:List Bool} {us:List Value},Vals (bs.map V.bl) us→us=bs.map cI
 |[],[],_=>rfl
 |[],_::_,h=>by cases h
 |_::_,[],h=>by cases h
 |b::bs,u::us,h=>by
  cases h with
  |cons h1 h2=>
   rw[xfg h2];cases h1;rfl
theorem range_all(bs:List Bool)(d:Bool):(cT bs.length).all (fun i=>bs.getD i d)=bs.all id:=by
 rw[ez,cF,cF];constructor
 ·intro h x hx;obtain⟨i,hi,rfl⟩:=iy.mp hx;have:=h i (by simpa using hi);simpa [hi]using this
 ·intro h i hi;have hi':i<bs.length:=by simpa using hi
  have:=h bs[i] (fb hi');simpa [hi']using this
def xqc(K:ag)(f:List Bool→Bool):List V→Hp→VK→Prop:=fun xs H Q=>∃p bs,xs=[.ref p]∧SqL K H p (bs.map V.bl)∧Q (.bl (f bs)) H
theorem xiF{prog:ai}{w:World}{A:aC}(bs:List Bool):TruthOf prog w A (fun i v=>(bs.map cI).toArray[i]? =some v) (fun i=>bs.getD i true):=by
 intro i v s Q E hP hQ;have e:v= .bool (bs.getD i true):=by
  simp only[List.getElem?_toArray,aJ]at hP;cases q:bs[i]? with
  |none=>rw[q]at hP;cases hP
  |some b=>rw[q]at hP;simp at hP;rw[←hP];simp[List.getD,q]
 rw[e];exact bZ hQ
theorem xle(hc:X.calm=true):yF X (.builtin "all") (xqc X.K fun bs=>bs.all id):=by
 intro pins s σ H xs us Q I r h;obtain⟨p,bs,rfl,hq,q⟩:=h;obtain⟨u,rfl,rx⟩:=vals1 r;cases rx;obtain⟨its,r',pl,hz⟩:=I.list hq;have e:=xfg r';subst e;have hL:=pl.isList;have hlt:p<s.heap.objs.size:=by obtain⟨_,e,_⟩:=hL;exact ax e
 refine call_all_walk (eM hL ⟨_,_,_,_,_,_,fun i=>bs.getD i true,rfl,Walks.list (A:=X.A.in1) (I.ok.hd hc) _ p (aE hlt) (bs.map cI).toArray,⟨⟨_,aK _ rfl,rfl,rfl⟩,hL.push _⟩,xiF bs,fun h' tk hk=>?_⟩);refine⟨.bl (bs.all id),H,I.kept (t':=tk) (fun b o e=>hk b o (fun hb=>?_) (ah _ e)),?_,q⟩
 ·exact absurd (ax e) (by rw[au.mp hb];exact bO _)
 ·have e:=range_all bs true;simp only[aH,aq];rw[e];rfl
def xqd(K:ag):List V→Hp→VK→Prop:=fun xs H Q=>∃(p:Addr) (ns:List Int),xs=[.ref p]∧SqL K H p (ns.map V.int)∧Q (.int ns.sum) H
theorem xgR(hc:X.calm=true):yF X (.builtin "sum") (xqd X.K):=by
 intro pins s σ H xs us Q I r h;obtain⟨p,ns,rfl,hq,q⟩:=h;obtain⟨u,rfl,rx⟩:=vals1 r;cases rx;obtain⟨its,r',pl,hz⟩:=I.list hq;have hi:=intsAre_of r';have hL:=pl.isList;have hn:=hi.numsOf;obtain⟨ys,e⟩:=hi.allInts.items;rw[e]at hL;have e2:numsOf its=numsOf (gF ys).toList:=by rw[←e]
 rw[e2,nums_intItems]at hn;refine sum_intListG (I.ok.hd hc) hL fun h' tk t' hk=>⟨.int ns.sum,H,I.kept (t':=tk) hk,⟨t',?_⟩,q⟩;rw[preSum_eq,g8 (by simp),hn]
end
end L2
namespace L2
open PySem PySem.Spec PyProof.Rows
section
variable {X:Cx} {pins:List (Addr×Obj)} {σ:St} {H:Hp} {s:af} {h':Heap}
theorem Inv.turnLaid{t':Nat}{ch:List Addr}{a:Addr}{o:HO}(I:Inv X pins σ H s)(k:∀b u,b∉ch→s.heap.get? b=some u→h'.get? b=some u)(hp:s.heap.objs.size≤a)(new:xY X.prog X.w (upd H a o) h' a o)
  (hn:∀b∈ch,H b=none) (hl:∀b∈ch,b<s.heap.objs.size) (hch:∀b∈ch,(b∈X.ex∨X.s₀.heap.objs.size≤b)∧b≠X.env.locals∧(∀x c,X.env.cells.lookup x=some c→c≠b)∧∀p∈X.pn++pins,p.1≠b):
  Inv X pins σ (upd H a o) {s with heap:=h',toks:=t'}:=by
 have nit:∀b u,H b=some u→b∉ch:=fun b u e z=>by rw[hn b z]at e;cases e
 have fr:=I.hok.fresh hp;refine I.call' (s':={s with heap:=h',toks:=t'}) (ch:=ch) rfl ⟨fun b o q _ _ hx=>k b o hx q,fun b o q _ _ hx=>⟨o.slots,k b o hx q⟩,fun b o q n _=>?_,fun b o q hx=>⟨o,k b o hx q⟩,fun b u q _=>?_⟩ (fun b u e=>?_) I.bare hch
 ·rw[xm (aE (aD (ax q) hp))];exact n
 ·rw[xm (xC q fr)];exact q
 ·by_cases hb:b=a
  ·subst hb;rw[xp]at e;cases e;exact new
  ·rw[xm hb]at e;refine(I.hok b u e).stay (fun c v hc q=>k c v ?_ q) (fun c q=>by rw[xm (xC q fr)];exact q) fun c xs q _=>by rw[xm (xC q fr)];exact q
   rcases hc with z|z
   ·rw[z];exact nit b u e
   ·exact nit c _ z
end
def Ite(K:ag)(a:Addr):It:=
 ⟨fun i H=>∃xs x,SqL K H a xs∧xs[i]? =some x,fun i H v H'=>∃T x,v= .ref T∧H T=none∧H'=upd H T (.tup [.int i,x])∧∀xs,SqL K H a xs→xs[i]? =some x,fun i H=>∃xs,SqL K H a xs∧xs.length≤i⟩
theorem xlf{P:ai}{w:World}{K:ag}{es:List Expr}{k:Nat}{pos:Pos}(a e it:Addr)(hne:e≠it):Turn P w K (.Tuple es k pos) (Ite K a) [e,it] e (fun i h=>(∃old,gG h e it (i:Nat) old)∧h.IsListIter it a i) where
 mem:=by simp
 obj:=fun i h st b hb=>by
  obtain⟨⟨old,he⟩,⟨o,e1,c,d⟩⟩:=st;rcases aw.mp hb with z|z
  ·subst z;exact⟨_,he,fun v z=>by cases z⟩
  ·rw[au.mp z];exact⟨o,e1,fun v z=>by rw[d]at z;cases z⟩
 keep:=fun i h h' st kk=>by
  obtain⟨⟨old,he⟩,hit⟩:=st;exact⟨⟨old,kk e (by simp) _ he⟩,hit.at fun o x=>kk it (by simp) o x⟩
 item:=by
  intro X hP hw hK hc i pins s σ H E I hf st hg;subst hP hw hK;obtain⟨xs,x,hq,hx⟩:=hg;obtain⟨its,rv,p,hz⟩:=I.list hq;obtain⟨u,hu,ru⟩:=rv.get hx;obtain⟨⟨old,he⟩,hit⟩:=st;have he':=ax he;have hi':it<s.heap.objs.size:=by obtain⟨o,q,_⟩:=hit;exact ax q
  refine wpAny_pyNext_enum_item he hit p.isList (x:=u) (by simpa using hu) hne fun h' heo hit' hT hsz hk=>?_;refine⟨_,rfl,d7 (s:={s with heap:=h',toks:=s.toks+1}) heo fun h2 he2 hs2=>?_⟩;have hT2:h2.get? s.heap.objs.size=some {cls:=.type "tuple",data:=.seq #[.int i s.toks,u]}:=(hs2.2 _ (dO he')).trans hT;have I2:Inv X pins σ (upd H s.heap.objs.size (.tup [.int i,x])) {s with heap:=h2,toks:=s.toks+1}:=by
   refine I.turnLaid (ch:=[e,it]) (fun b o hb q=>?_) (av _) ⟨by simp[aQ],[.int i s.toks,u],.cons ⟨_,rfl⟩ (.cons ru .nil),⟨_,hT2,rfl,_,rfl⟩⟩ (fun b hb=>(hf b hb).1) (fun b hb=>?_) fun b hb=>?_
   ·have b1:b≠e:=fun z=>hb (by simp[z]);have b2:b≠it:=fun z=>hb (by simp[z]);exact(hs2.2 b b1).trans (hk b o b1 b2 q)
   ·rcases aw.mp hb with z|z
    ·rw[z];exact he'
    ·rw[au.mp z];exact hi'
   ·obtain⟨f0,f1,f2,f3,f4,f5⟩:=hf b hb;exact⟨f3,f1,f4,f5⟩
  refine⟨.ref s.heap.objs.size,_,I2,rfl,⟨_,x,rfl,I.hok.fresh (av _),rfl,fun ys hy=>by rw[I.list_inj hy hq];exact hx⟩,⟨⟨u,by simpa using he2⟩,hit'.extBut hs2.extBut (ak hne)⟩,fun b hb=>?_⟩;have hb':b≠s.heap.objs.size:=by
   rcases aw.mp hb with z|z
   ·rw[z];exact aE he'
   ·rw[au.mp z];exact aE hi'
  rw[xm hb'];exact(hf b hb).1
 done:=by
  intro X hP hw hK hc i pins s σ H E I hf st hg;subst hP hw hK;obtain⟨xs,hq,hx⟩:=hg;obtain⟨its,rv,p,hz⟩:=I.list hq;obtain⟨⟨old,he⟩,hit⟩:=st;obtain⟨f0,f1,f2,f3,f4,f5⟩:=hf it (by simp);have hl:=rv.length;exact wpAny_pyNext_enum_end (I.ok.hd hc) he hit p.isList (by simp;lia) fun h' eb=>⟨rfl,I.turned (t':=s.toks) (fun b o hb e=>eb b o hb e) f0 f1 f3 f4 f5⟩
 self:=fun _ _ _ _ _ st h=>by
  obtain⟨⟨old,he⟩,_⟩:=st;exact cS he h
section
variable {X:Cx} {es:List Expr} {k:Nat} {tp:Pos}
def xqe(K:ag)(ta:TA):TI:=fun σ H R=>ta σ H fun vs H1=>∃a,vs=[.ref a]∧(∃xs,SqL K H1 a xs)∧R (Ite K a) H1
theorem xjl{l:Expr}{ta:TA}{p pos:Pos}(hg:Gl X "enumerate")(hm:X.mg "enumerate"=none)(ha:PA X [l] ta)(hs:aA [l] X.env=[(false,eval l X.env)]:=by rfl):PI X (.Tuple es k tp) (.Call (.Name "enumerate" p) [l] [] pos) (xqe X.K ta):=by
 intro pins s σ H R I h;refine Call_ (ur I hg hm xav (bJ (thn (ha pos pins s σ H _ I h) fun us s1 ⟨vs,H1,I1,r1,q1⟩=>?_) hs rfl));obtain⟨a,e,⟨xs,hq⟩,q⟩:=q1;subst e;obtain⟨u,rfl,ru⟩:=Vals.one r1;cases ru;obtain⟨its,rv,pl,hz⟩:=I1.list hq;refine call_enumerate_list pl.isList fun h' he hi hsz hk=>cS (s:={s1 with heap:=h'}) he ?_;refine⟨s1.heap.objs.size+1,[s1.heap.objs.size+1,s1.heap.objs.size],_,_,H1,rfl,I1.kept (t':=s1.toks) hk,xlf a _ _ (gH _),⟨⟨.none,by simpa using he⟩,hi⟩,fun b hb=>?_,q⟩;rcases aw.mp hb with z|z
 ·rw[z];exact I1.fpOk (cZ _) (I1.hok.fresh (cZ _))
 ·rw[au.mp z];exact I1.fpOk (av _) (I1.hok.fresh (av _))
end
section
variable {X:Cx} {scope:Scope} {x1 x2:Str} {cap:List Nat} {ys:List Str}
end
@[irreducible] def xqS(K:ag)(J:It)(caps:St)(tt:TT)(te:TE)(Q:VK)(H2:Hp):Prop:=∀D,H2 D=none→∃W:CW,(∃m,W 0 m [] (upd H2 D (.lst [])))∧
 ∀i m acc H3,W i m acc H3→H3 D=some (.lst acc)∧((J.stop i H3∧Q (.ref D) H3)∨(J.go i H3∧acc.length<aF∧∀v H4,J.yld i H3 v H4→∃T v1 v2,v= .ref T∧SqT K H4 T [v1,v2]∧tt (some v1::some v2::caps) H4 fun b H5=>
  (b=true→te (some v1::some v2::caps) H5 fun u H6=>H6 D=some (.lst acc)∧∃m',m'<m∧W (i+1) m' (acc++[u]) (upd H6 D (.lst (acc++[u]))))∧(b=false→∃m',m'<m∧W (i+1) m' acc H5)))
section
variable {X:Cx} {scope:Scope} {x1 x2:Str} {cap:List Nat} {ys:List Str} {elt iter:Expr} {ifs:List Expr} {px1 px2 px pos:Pos} {kx:Nat} {wi:TI} {tt:TT} {te:TE}
end
end L2
namespace L2
open PySem PySem.Spec PyProof.Rows
theorem xbo{α β:Type}{F:α→β→Prop}:∀{as:List α} {bs:List β} {i:Nat} {a:α},Paired F as bs→as[i]? =some a→∃b,bs[i]? =some b∧F a b
 |_,_,i,b,.nil,h=>by simp at h
 |_,_,0,b,.cons x xs,h=>by simp at h;subst h;exact⟨_,rfl,x⟩
 |_,_,i+1,b,.cons x xs,h=>by obtain⟨a,h1,h2⟩:=xbo (i:=i) xs (by simpa using h);exact⟨a,by simpa using h1,h2⟩
def del(H:Hp)(D:Addr):Hp:=fun b=>if b=D then none else H b
theorem uy{H:Hp}{D:Addr}:del H D D=none:=by unfold del;rw[if_pos rfl]
theorem jz{H:Hp}{D b:Addr}(h:b≠D):del H D b=H b:=by unfold del;rw[if_neg h]
theorem uz{H:Hp}{D:Addr}:xc (del H D) H:=fun b u e=>by
 by_cases h:b=D
 ·rw[h,uy]at e;cases e
 ·rw[jz h]at e;exact e
theorem ze{H:Hp}{D:Addr}{o:HO}:del (upd H D o) D=del H D:=by
 funext b
 by_cases h:b=D
 ·rw[h,uy,uy]
 ·rw[jz h,jz h,xm h]
theorem ji{H:Hp}{D:Addr}(h:H D=none):del H D=H:=by
 funext b
 by_cases e:b=D
 ·rw[e,uy,h]
 ·rw[jz e]
theorem jj{H H':Hp}{D:Addr}(s:xc H H'):xc (del H D) (del H' D):=fun b u e=>by
 by_cases h:b=D
 ·rw[h,uy]at e;cases e
 ·rw[jz h]at e⊢;exact s b u e
theorem xgS{lo st:Int}{n:Nat}{te:TE}{caps:L2.St}{Q:VK}{H2:Hp}(Pv:Nat→List V→Hp→Prop)(hn:n≤aF)(h0:Pv 0 [] H2)
  (hs:∀(i:Nat) acc H3 H3',i<n→xc H2 H3→xc H3 H3'→Pv i acc H3→∀R:VK,(∀u H6',xc H3' H6'→(∀H6,xc H3 H6→(∀p o,(H3' p=none∨∀ys,o≠HO.lst ys)→H6' p=some o→H6 p=some o)→Pv (i+1) (acc++[u]) H6)→R u H6')→te (some (.int (lo+i*st))::caps) H3' R)
  (hd:∀D acc H H',H2 D=none→H D=none→xc H2 H→xc H H'→Pv n acc H→acc.length=n→H' D=some (.lst acc)→Q (.ref D) H'):zj (Its lo st n) caps xf2 te Q H2:=by
 unfold zj;intro D hD;refine⟨fun i m acc H3=>m=n - i∧i≤n∧acc.length=i∧H3 D=some (.lst acc)∧xc H2 (del H3 D)∧Pv i acc (del H3 D),⟨n,by simp,bK _,rfl,xp,?_,?_⟩,?_⟩
 ·rw[ze,ji hD];exact xc.refl _
 ·rw[ze,ji hD];exact h0
 rintro i m acc H3 ⟨rfl,hi,hacc,hD3,s3,p3⟩;refine⟨hD3,?_⟩
 by_cases hlt:i<n
 ·refine .inr ⟨hlt,by lia,fun v H4 y=>?_⟩;obtain⟨e,y⟩:=y;subst e y;refine⟨fun _=>?_,fun z=>by cases z⟩;refine hs i acc _ _ hlt s3 uz p3 _ fun u H6' s6 k=>⟨s6.at hD3,n - (i+1),by lia,rfl,hlt,by simp[hacc],xp,?_,?_⟩
  ·rw[ze];exact s3.trans (jj s6)
  ·rw[ze];refine k _ (jj s6) fun p o q1 q2=>?_;rw[jz (fun z=>by
    rcases q1 with q1|q1
    ·rw[z,hD3]at q1;cases q1
    ·rw[z,s6.at hD3]at q2;cases q2;exact q1 _ rfl)]
   exact q2
 ·have e:i=n:=by lia
  subst e;exact .inl ⟨av _,hd D acc _ H3 hD uy s3 uz p3 hacc hD3⟩
theorem xj3{K:ag}{l:Addr}{xs:List V}{te:TE}{caps:L2.St}{Q:VK}{H2:Hp}(Pv:Nat→List V→Hp→Prop)(hl:SqL K H2 l xs)(hn:xs.length≤aF)(h0:Pv 0 [] H2)
  (hs:∀(i:Nat) x acc H3 H3',xs[i]? =some x→xc H2 H3→xc H3 H3'→Pv i acc H3→∀R:VK,(∀u H6',xc H3' H6'→(∀H6,xc H3 H6→(∀p o,(H3' p=none∨∀ys,o≠HO.lst ys)→H6' p=some o→H6 p=some o)→Pv (i+1) (acc++[u]) H6)→R u H6')→te (some x::caps) H3' R)
  (hd:∀D acc H H',H2 D=none→H D=none→xc H2 H→xc H H'→Pv xs.length acc H→acc.length=xs.length→H' D=some (.lst acc)→Q (.ref D) H'):zj (Itl K l) caps xf2 te Q H2:=by
 unfold zj;intro D hD;refine⟨fun i m acc H3=>m=xs.length - i∧i≤xs.length∧acc.length=i∧H3 D=some (.lst acc)∧xc H2 (del H3 D)∧Pv i acc (del H3 D),⟨xs.length,by simp,bK _,rfl,xp,?_,?_⟩,?_⟩
 ·rw[ze,ji hD];exact xc.refl _
 ·rw[ze,ji hD];exact h0
 rintro i m acc H3 ⟨rfl,hi,hacc,hD3,s3,p3⟩;refine⟨hD3,?_⟩;have q:=(s3.trans uz).seq hl
 by_cases hlt:i<xs.length
 ·have hx:xs[i]? =some xs[i]:=a8 hlt;refine .inr ⟨⟨xs,xs[i],q,hx⟩,by lia,fun v H4 y=>?_⟩;obtain⟨e,y⟩:=y;have ev:=y xs q;rw[hx]at ev;cases ev;subst e;refine⟨fun _=>?_,fun z=>by cases z⟩;refine hs i _ acc _ _ hx s3 uz p3 _ fun u H6' s6 k=>⟨s6.at hD3,xs.length - (i+1),by lia,rfl,hlt,by simp[hacc],xp,?_,?_⟩
  ·rw[ze];exact s3.trans (jj s6)
  ·rw[ze];refine k _ (jj s6) fun p o q1 q2=>?_;rw[jz (fun z=>by
    rcases q1 with q1|q1
    ·rw[z,hD3]at q1;cases q1
    ·rw[z,s6.at hD3]at q2;cases q2;exact q1 _ rfl)]
   exact q2
 ·have e:i=xs.length:=by lia
  subst e;exact .inl ⟨⟨xs,q,av _⟩,hd D acc _ H3 hD uy s3 uz p3 hacc hD3⟩
theorem xgT{K:ag}{l:Addr}{xs:List V}{te:TE}{caps:L2.St}{Q:VK}{H2:Hp}(Pv:Nat→List V→Hp→Prop)(hl:SqT K H2 l xs)(hn:xs.length≤aF)(h0:Pv 0 [] H2)
  (hs:∀(i:Nat) x acc H3 H3',xs[i]? =some x→xc H2 H3→xc H3 H3'→Pv i acc H3→∀R:VK,(∀u H6',xc H3' H6'→(∀H6,xc H3 H6→(∀p o,(H3' p=none∨∀ys,o≠HO.lst ys)→H6' p=some o→H6 p=some o)→Pv (i+1) (acc++[u]) H6)→R u H6')→te (some x::caps) H3' R)
  (hd:∀D acc H H',H2 D=none→H D=none→xc H2 H→xc H H'→Pv xs.length acc H→acc.length=xs.length→H' D=some (.lst acc)→Q (.ref D) H'):zj (Itt K l) caps xf2 te Q H2:=by
 unfold zj;intro D hD;refine⟨fun i m acc H3=>m=xs.length - i∧i≤xs.length∧acc.length=i∧H3 D=some (.lst acc)∧xc H2 (del H3 D)∧Pv i acc (del H3 D),⟨xs.length,by simp,bK _,rfl,xp,?_,?_⟩,?_⟩
 ·rw[ze,ji hD];exact xc.refl _
 ·rw[ze,ji hD];exact h0
 rintro i m acc H3 ⟨rfl,hi,hacc,hD3,s3,p3⟩;refine⟨hD3,?_⟩;have q:=(s3.trans uz).seqT hl
 by_cases hlt:i<xs.length
 ·have hx:xs[i]? =some xs[i]:=a8 hlt;refine .inr ⟨⟨xs,xs[i],q,hx⟩,by lia,fun v H4 y=>?_⟩;obtain⟨e,y⟩:=y;have ev:=y xs q;rw[hx]at ev;cases ev;subst e;refine⟨fun _=>?_,fun z=>by cases z⟩;refine hs i _ acc _ _ hx s3 uz p3 _ fun u H6' s6 k=>⟨s6.at hD3,xs.length - (i+1),by lia,rfl,hlt,by simp[hacc],xp,?_,?_⟩
  ·rw[ze];exact s3.trans (jj s6)
  ·rw[ze];refine k _ (jj s6) fun p o q1 q2=>?_;rw[jz (fun z=>by
    rcases q1 with q1|q1
    ·rw[z,hD3]at q1;cases q1
    ·rw[z,s6.at hD3]at q2;cases q2;exact q1 _ rfl)]
   exact q2
 ·have e:i=xs.length:=by lia
  subst e;exact .inl ⟨⟨xs,q,av _⟩,hd D acc _ H3 hD uy s3 uz p3 hacc hD3⟩
theorem xj4{K:ag}{l:Addr}{xs:List V}{tt:TT}{te:TE}{caps:L2.St}{Q:VK}{H2:Hp}(p:V→Bool)(f:V→V)(hl:SqL K H2 l xs)(hn:xs.length<aF)
  (ht:∀(x:V) (H3:Hp),x∈xs→xc H2 H3→∀R:Bool→Hp→Prop,(∀H6,xc H3 H6→R (p x) H6)→tt (some x::caps) H3 R)
  (hs:∀(x:V) (H3:Hp),x∈xs→p x=true→xc H2 H3→∀R:VK,(∀H6,xc H3 H6→R (f x) H6)→te (some x::caps) H3 R)
  (hd:∀D H',H2 D=none→xc H2 H'→H' D=some (.lst ((xs.filter p).map f))→Q (.ref D) H'):zj (Itl K l) caps tt te Q H2:=by
 unfold zj;intro D hD;refine⟨fun i m acc H3=>m=xs.length - i∧i≤xs.length∧acc=((xs.take i).filter p).map f∧H3 D=some (.lst acc)∧xc H2 H3,⟨xs.length,by simp,bK _,rfl,xp,xc.new hD⟩,?_⟩;rintro i m acc H3 ⟨rfl,hi,rfl,hD3,s3⟩;refine⟨hD3,?_⟩;have q:=s3.seq hl
 by_cases hlt:i<xs.length
 ·have hx:xs[i]? =some xs[i]:=a8 hlt;have hle:(((xs.take i).filter p).map f).length<aF:=by
   rw[aq];refine dC (List.length_filter_le _ _) ?_;rw[cm];lia
  have et:xs.take (i+1)=xs.take i++[xs[i]]:=by rw[cG,hx];rfl
  refine .inr ⟨⟨xs,xs[i],q,hx⟩,hle,fun v H4 y=>?_⟩;obtain⟨e,y⟩:=y;have ev:=y xs q;rw[hx]at ev;cases ev;subst e;refine ht _ _ (fb hlt) s3 _ fun H5 s5=>⟨fun hp=>?_,fun hp=>?_⟩
  ·refine hs _ _ (fb hlt) hp (s3.trans s5) _ fun H6 s6=>⟨s6.at (s5.at hD3),xs.length - (i+1),by lia,rfl,hlt,?_,xp,(s3.trans (s5.trans s6)).put hD⟩;rw[et,iW,bw];simp[hp]
  ·refine⟨xs.length - (i+1),by lia,rfl,hlt,?_,s5.at hD3,s3.trans s5⟩;rw[et,iW,bw];simp[hp]
 ·have e:i=xs.length:=by lia
  subst e;rw[cH]at hD3⊢;exact .inl ⟨⟨xs,q,av _⟩,hd D H3 hD s3 hD3⟩
theorem xcb{K:ag}{f:Bool→Bool}{x y:V}{H:Hp}{Q:VK}{d:d5}(hx:Rp K H x d)(hy:Rp K H y d)(hd:cy d=true)(q:Q (.bl (f true)) H):xmf K f x y H Q:=
 ⟨d,d,hx,hy,hd,hd,by rw[PySem.SeqAt.eqv_refl d (SeqAt.canLay_of_shaped hd)];exact q⟩
end L2
namespace L2
open PySem PySem.Spec PyProof.Rows
section
variable {X:Cx} {K:ag}
theorem xhN(e:X.K=K):IxR X (xoS K):=e▸xU
theorem xdZ(e:X.K=K):IxR X (xoT K):=e▸xM
theorem xqN(e:X.K=K):SlR X (xoU K):=e▸xbK
theorem xqV(e:X.K=K):yF X (.builtin "isinstance") (xo2 K):=e▸ux
theorem xqW(e:X.K=K)(hu:X.A.units+64<cLine):OpR X (bE .NotEq) (xmf K fun b=> !b):=e▸xfd hu
end
end L2
namespace L2
open PySem PySem.Spec PyProof.Rows
end L2
namespace L2
open PySem PySem.Spec PyProof.Rows
theorem xo8{n d:Nat}{i:Int}(h0:0≤i):HT.sIx n d (some i)=min i.toNat n:=by
 show(if i<0 then(i+(n:Int)).toNat else min i.toNat n)=_;rw[if_neg (by lia)]
end L2
namespace L2
open PySem PySem.Spec PyProof.Rows
section
variable {X:Cx}
end
def xo9:Stmt→Expr
 | .Assign _ v _=>v
 |_=>.Constant .none 0 ⟨0,0,0,0⟩
def xpa:Stmt→Expr
 | .Return (some v) _=>v
 |_=>.Constant .none 0 ⟨0,0,0,0⟩
def xap(i:Nat):Expr→Expr
 | .Call _ as _ _=>as.getD i (.Constant .none 0 ⟨0,0,0,0⟩)
 |_=>.Constant .none 0 ⟨0,0,0,0⟩
def jk:Expr→bX
 | .Lambda a _ _ _=>a
 |_=>xZ (.Pass ⟨0,0,0,0⟩)
def jl:Expr→Expr
 | .Lambda _ b _ _=>b
 |e=>e
def yw:Expr→Scope
 | .Lambda _ _ s _=>s
 |_=>xj (.Pass ⟨0,0,0,0⟩)
theorem xpb{xs:List Int}{x v:Int}(h0:0≤x)(h:xs[x.toNat]? =some v):atI (xs.map V.int) x=some (.int v):=by
 have:=xjf (xs:=xs.map V.int) (j:=x.toNat) (v:=.int v) (by rw[aJ,h];rfl)
 rwa [eg h0]at this
theorem xlg{n:Nat}{x:Int}(h0:0≤x)(h:x<n):ixN n x=some x.toNat:=by
 unfold ixN;rw[if_pos h0,if_pos h]
end L2
namespace PySem
open Sem (wp)
open PyProof.Rows
namespace F
end F
section
variable {prog:ai} {w:World} {A:aC} {E:Value→af→Prop} {s:af}
end
end PySem
namespace L2
open PySem PySem.Spec PyProof.Rows
section
variable {X:Cx}
end
end L2
namespace L2
open PySem PySem.Spec PyProof.Rows
section
variable {X:Cx} {K:ag}
end
end L2
namespace L2
open PySem PySem.Spec PyProof.Rows
theorem xcc{X:Cx}{sts:List Stmt}:PSs X sts (fun _ _ _=>False):=fun _ _ _ _ _ _ q=>q.elim
end L2
namespace L2
open PySem PySem.Spec PyProof.Rows PySem.W
def xpc:Option (Int×Tok)→Array Value
 |none=>#[]
 |some (m,t)=>#[.int m t,.int m t]
def xqf(f:Nat→Int)(j:Nat):Option (Int×Tok)→Prop
 |none=>j=0
 |some (m,_)=>(∃i,i<j∧f i=m)∧∀i,i<j→f i≤m
def xlh(f:Nat→Int)(n:Nat)(d v:Value):Prop:=(n=0→v=d)∧(0<n→∃m t,v= .int m t∧(∃i,i<n∧f i=m)∧∀i,i<n→f i≤m)
theorem xmj(a v:Value):argsOk "max" ⟨[a],[(aN "default",v)]⟩:=by unfold argsOk;kernel_rfl
section
variable {prog:ai} {w:World} {A:aC} {R:gw→af→Prop} {I:Addr} {fp wr:List Addr} {n:Nat} {P:Nat→Value→Prop} {St:Nat→Heap→Prop}
theorem xcd(W:Walks prog w A.in1 I fp wr n P St)(f:Nat→Int)(hP:∀i v,P i v→∃t,v= .int (f i) t)(S:Addr)(hSf:S∉fp)(d:Value):∀(k j:Nat) (s:af) (b:Option (Int×Tok)) (c:Nat),n - j=k→j≤n→St j s.heap→
  s.heap.get? S=some {cls:=.type "list",dict:=none,data:=.seq (xpc b) c,slots:=#[]}→xqf f j b→
  (∀v h' tk,xlh f n d v→(∀b o,b∉wr→b≠S→s.heap.get? b=some o→h'.get? b=some o)→R (.ok (.ret v)) {s with heap:=h',toks:=tk})→
  b9 (model prog w) A (.builtin "max.loop" ⟨[.ref I,.none,.ref S],[(aN "default",d)]⟩) R s
 |0,j,s,b,c,hk,hj,hst,hS,hb,hR=>by
  have hin:j=n:=by lia
  subst hin;have hSw:S∉wr:=fun h=>hSf (W.sub _ h);refine fC F.entry_max_loop ?_;rw[iA dm _];show wpAny _ A.in1 (gQ (.ref S) >>= _) _ _ s;refine aa (eK hS rfl ?_);show wpAny _ A.in1 (tryCatch (pyNext (.ref I)) _ >>= _) _ _ s;refine aa (ic (W.done s _ _ hst fun h' tk hk'=>?_));have hS':=hk' S _ hSw hS;cases b with
  |none=>
   cases hb;exact aa (m:=rule _) (wpAny_rule (ao (hR d _ tk ⟨fun _=>rfl,fun q=>absurd q (bO _)⟩ fun b o hbw _ e=>hk' b o hbw e)))
  |some p=>
   obtain⟨m,t⟩:=p;show wpAny _ A.in1 (gP S (fun _=>#[]) >>= _) _ _ _;refine aa (dF hS' rfl (aa (fO (ao ?_))) (by show(2:Nat)≤_;decide));refine hR _ _ tk ⟨fun q=>?_,fun _=>⟨m,t,rfl,hb⟩⟩ fun b o hbw hbS e=>(aM _ _ (ak hbS)).trans (hk' b o hbw e);obtain⟨⟨i,hi,_⟩,_⟩:=hb;lia
 |k+1,j,s,b,c,hk,hj,hst,hS,hb,hR=>by
  have hlt:j<n:=by lia
  have hSw:S∉wr:=fun h=>hSf (W.sub _ h);have hname:(toString "max"++toString ".loop":String)="max.loop":=by decide
  refine fC F.entry_max_loop ?_;rw[iA dm _];show wpAny _ A.in1 (gQ (.ref S) >>= _) _ _ s;refine aa (eK hS rfl ?_);show wpAny _ A.in1 (tryCatch (pyNext (.ref I)) _ >>= _) _ _ s;refine aa (ic (W.item j s _ _ hlt hst fun v h' tk hv hst' hk'=>?_));have hS':=hk' S _ hSw hS;obtain⟨t,rfl⟩:=hP _ _ hv;have turned:∀(g:Array Value→Array Value),(∀b∈fp,∀o,h'.get? b=some o→(h'.update S (cK g)).get? b=some o):=fun g b hbf o e=>(aM _ _ (fun h:S=b=>hSf (by rw[h];exact hbf))).trans e;cases b with
  |none=>
   cases hb;show wpAny _ A.in1 (gP S (fun _=>#[.int (f 0) t,.int (f 0) t]) >>= _) _ _ _;refine aa (dF hS' rfl ?_);rw[hname];refine ao ⟨dZ dm _,xcd W f hP S hSf d k 1 _ (some (f 0,t)) (c+1) (by lia) (by lia) (W.frame _ _ _ hst' (turned _)) ?_ ⟨⟨0,by lia,rfl⟩,fun i hi=>?_⟩ fun v' h'' tk'' ho hk''=>?_⟩
   ·exact(a5 _ hS' rfl).trans rfl
   ·rw[show i=0 by lia];exact eQ _
   exact hR v' h'' tk'' ho fun b o hbw hbS e=>hk'' b o hbw hbS ((aM _ _ (ak hbS)).trans (hk' b o hbw e))
  |some p=>
   obtain⟨m,u⟩:=p;obtain⟨⟨i0,hi0,e0⟩,hle⟩:=hb;show wpAny _ A.in1 (tryCatch (dN [.int (f j) t,.int (f j) t] (richCompare .Gt (.int (f j) t) (.int m u) >>= _)) _ >>= _) _ _ _;have hcmp:=CmpOf.ints_gt (prog:=prog) (w:=w) (A:=A.in1) (P:=fun i v=>∃t,v= .int (if i=0 then f j else m) t) (fun i=>if i=0 then f j else m) (fun i v e=>e);refine aa (ic (bt (aa (hcmp 0 1 _ _ _ _ _ ⟨t,rfl⟩ ⟨u,rfl⟩ ?_))));refine aa (bt (bZ ?_));refine aa (fO (ao ?_))
   by_cases hb:f j > m
   ·show wpAny _ _ (if decide (f j > m)=true then _ else _) _ _ _;rw[if_pos (decide_eq_true hb)];refine aa (dF hS' rfl (aa (fO ?_)) (by show(2:Nat)≤_;decide));rw[hname];obtain⟨c',e'⟩:∃c',(h'.update S (cK fun _=>#[.int (f j) t,.int (f j) t])).get? S=some {cls:=.type "list",dict:=none,data:=.seq #[.int (f j) t,.int (f j) t] c',slots:=#[]}:=⟨_,a5 _ hS' rfl⟩;refine ao ⟨dZ dm _,xcd W f hP S hSf d k (j+1) _ (some (f j,t)) c' (by lia) hlt (W.frame _ _ _ hst' (turned _)) e' ⟨⟨j,by lia,rfl⟩,fun i hi=>?_⟩ fun v' h'' tk'' ho hk''=>?_⟩
    ·by_cases q:i=j
     ·subst q;exact eQ _
     ·have:=hle i (by lia);lia
    ·exact hR v' h'' tk'' ho fun b o hbw hbS e=>hk'' b o hbw hbS ((aM _ _ (ak hbS)).trans (hk' b o hbw e))
   ·show wpAny _ _ (if decide (f j > m)=true then _ else _) _ _ _;rw[if_neg (by rw[decide_eq_false hb];exact aI)];refine aa (fO ?_);rw[hname];refine ao ⟨dZ dm _,xcd W f hP S hSf d k (j+1) _ (some (m,u)) c (by lia) hlt hst' hS' ⟨⟨i0,by lia,e0⟩,fun i hi=>?_⟩ fun v' h'' tk'' ho hk''=>hR v' h'' tk'' ho fun b o hbw hbS e=>hk'' b o hbw hbS (hk' b o hbw e)⟩
    by_cases q:i=j
    ·subst q;lia
    ·exact hle i (by lia)
theorem xmk{E:Value→af→Prop}{s:af}{l:Addr}{xs:Array (Int×Tok)}{d:Value}{Q:Value→af→Prop}(hh:A.handled=none)(hl:s.heap.IsList l (gF xs))
  (h:∀v h' tk,xlh (numAt xs) xs.size d v→(∀b o,s.heap.get? b=some o→h'.get? b=some o)→Q v {s with heap:=h',toks:=tk}):
  wpAny (model prog w) A (call (.builtin "max") [.ref l] [(aN "default",d)]) Q E s:=by
 have hname:(toString "max"++toString ".loop":String)="max.loop":=by decide
 refine kmk_tree F.kind_max F.plain_max F.entry_max (xmj _ _) ?_;show wpAny _ A.in1 (fX "max" ["key","default"] 0 ⟨[],[(aN "default",d)]⟩ >>= _) _ _ s;refine aa (fP (show fX "max" ["key","default"] 0 ⟨[],[(aN "default",d)]⟩=pure [none,some d]from rfl) ?_);refine aa (ao (aa (iter_intList hl fun s₂ e st hfp hlI=>?_)));subst e;refine aa (bN ?_);rw[hname];have W:=Walks.list (prog:=prog) (w:=w) (A:=A.in1) hh s.heap.objs.size l hlI (gF xs);have hsz:(gF xs).size=xs.size:=by simp[gF]
 refine ao ⟨dZ dm _,xcd W (numAt xs) (fun i v e=>intItems_at e) _ (fun hm=>bO _ (hfp _ hm)) d _ 0 _ none 0 rfl (bK _) (W.frame _ _ _ st fun b _ o e=>ah _ e) (aK _ rfl) rfl fun v h' tk ho hk=>?_⟩;rw[hsz]at ho;exact h v h' tk ho (old_kept fun b o hbw e=>hk b o hbw (aE (ax e)) (ah _ e))
end
section
variable {X:Cx}
def xqg(K:ag)(ta:TA)(tf:TE):TE:=fun σ H Q=>ta σ H fun xs H1=>tf σ H1 fun y H2=>
 ∃(l:Addr) (ns:List Int) (z:Int),xs=[.ref l]∧y= .int z∧SqL K H2 l (ns.map V.int)∧∀m,(ns=[]→m=z)→(ns≠[]→m∈ns∧∀a∈ns,a≤m)→Q (.int m) H2
theorem xnD{e fe:Expr}{ta:TA}{tf:TE}{p pos kp:Pos}(hc:X.calm=true)(hg:Gl X "max")(hm:X.mg "max"=none)(ha:PA X [e] ta)(hf:PE X fe tf)
  (he:bC pos (aA [e] X.env)=(false,eval e X.env)::bC pos (aA [] X.env):=by rfl):
  PE X (.Call (.Name "max" p) [e] [⟨some "default",fe,kp⟩] pos) (xqg X.K ta tf):=by
 intro pins s σ H Q I h;refine bW (ur I hg hm xfe ?_ (by decide) (by decide));refine callWith_kw (thn (ha pos pins s σ H _ I h) fun us s1 ⟨xs,H1,I1,r1,q1⟩=>?_) he (by rw[he];rfl) rfl rfl;refine kws_cons (thn (hf pins s1 σ H1 _ I1 q1) fun fu s2 ⟨y,H2,I2,r2,q2⟩=>kws_nil ?_);obtain⟨l,ns,z,rfl,rfl,hl,q⟩:=q2;obtain⟨u,rfl,ru⟩:=Vals.one r1;cases ru;obtain⟨tz,rfl⟩:=r2;obtain⟨its,r',pl,hz⟩:=I2.list hl;have hi:=intsAre_of r';have hL:=pl.isList;have hn:=hi.numsOf;obtain⟨ys,e⟩:=hi.allInts.items;rw[e]at hL;have e2:numsOf its=numsOf (gF ys).toList:=by rw[←e]
 rw[e2,nums_intItems]at hn;have hlen:=congrArg gX hn;rw[aq,cC]at hlen;show wpAny _ _ (call (.builtin "max") [.ref l] [(aN "default",.int z tz)]) _ _ s2;refine xmk (I.ok.hd hc) hL fun v h' tk ho hk=>?_
 by_cases hne:ns=[]
 ·have h0:ys.size=0:=by rw[hlen,hne];rfl
  have:=ho.1 h0;subst this;exact⟨.int z,H2,I2.kept (t':=tk) hk,⟨tz,rfl⟩,q z (fun _=>rfl) fun x=>absurd hne x⟩
 ·have hpos:0<ns.length:=iN.mpr hne;obtain⟨m,t,rfl,⟨i,hi',ei⟩,hle⟩:=ho.2 (by omega);refine⟨.int m,H2,I2.kept (t':=tk) hk,⟨t,rfl⟩,q m (fun x=>absurd x hne) fun _=>⟨?_,fun a ha'=>?_⟩⟩
  ·rw[←hn,←ei,numAt_eq];exact getD_mem (by rw[aq,cC];omega)
  ·rw[←hn]at ha';obtain⟨j,hj,rfl⟩:=mem_getD ha';rw[aq,cC]at hj;rw[←numAt_eq];exact hle j hj
end
end L2
namespace L2
open PySem PySem.Spec PyProof.Rows PySem.W
structure xeE(K:ag)(x qual:Str)(st:Stmt)(f:Addr)(fd:aj)(ds:List Value):Prop where
 ex:∃(oc:Value) (od:Option Addr) (dT:Addr) (o:Obj) (n:Nat) (kV doc pm:Value) (an:Option Addr) (cdv ct:Value) (osl:Array (Option Value)),
  fd=bU x qual (xZ st) (xN st) (xj st) (.ref dT) kV doc pm an cdv ct∧K.lookup f=some ⟨oc,od,.func fd,osl⟩∧cw K cdv qual=true∧K.lookup dT=some o∧o.data= .seq ds.toArray n
 kp:bV K (.ref f)=true
section
variable {P:ai} {w:World} {K:ag} {mg:Str→Option Value} {base:Heap}
theorem xeE.ok{x qual:Str}{st:Stmt}{f:Addr}{fd:aj}{ds:List Value}{N ps:List Str}{k:Nat}{sp:Sp}(F:xeE K x qual st f fd ds)(S:xq N ps (xj st))(len:∀vs H Q E,sp vs H Q E→vs.length=ps.length)
  (hbody:∀(cdv:Value) (A:aC) (outer:List Env) (s:af) (H:Hp) (vs:List V) (Q:VK) (E:XK),xS k (A.deeper (cR qual (xj st) s.heap.objs.size f cdv))→sp vs H Q E→
   ∃t,PSs (zU CX0 P w K mg base N qual (xj st) f cdv A outer s H E).nox (xN st) t∧t {nx:=fun _ H'=>Q .non H',rt:=Q} (start N vs) H):xA P w K mg base CX0 (k+1) f fd ps sp:=by
 obtain⟨oc,od,dT,o,n,kV,doc,pm,an,cdv,ct,osl,rfl,lk,hcd,_⟩:=F.ex;refine xe1 lk hcd S len fun A outer s H vs Q E hr hsp=>?_;obtain⟨t,h,q⟩:=hbody cdv A outer s H vs Q E hr hsp;exact⟨t,h.nox,q⟩
theorem xeE.binds{x qual:Str}{st:Stmt}{f:Addr}{fd:aj}{ps:List Str}{ds es:List Value}(F:xeE K x qual st f fd ds)(n:Nat)(hn:n+es.length=ps.length)
  (h:∀(dT:Addr) (kV doc pm:Value) (an:Option Addr) (cdv ct:Value) (us:List Value),us.length=n→
   ∃k:Option (Array Value)→Sem (List (Str×Value)),dH (bU x qual (xZ st) (xN st) (xj st) (.ref dT) kV doc pm an cdv ct) ⟨us,[]⟩=gQ (.ref dT) >>= k∧k (some ds.toArray)=pure (ps.zip (us++es))):Binds K fd ps es:=by
 obtain⟨oc,od,dT,o,n,kV,doc,pm,an,cdv,ct,osl,rfl,lk,hcd,ho,hs⟩:=F.ex;intro s us X hl;obtain⟨k,h1,h2⟩:=h dT kV doc pm an cdv ct us (by rw[aY]at hl;lia);exact binds_K X rfl ho hs h1 h2
theorem xjm{x qual:Str}{st:Stmt}{f dT:Addr}{oc:Value}{od an dod:Option Addr}{osl dsl:Array (Option Value)}{kV doc pm cdv ct dc:Value}{ds:List Value}{n:Nat}(l:K.lookup f=some ⟨oc,od,.func (bU x qual (xZ st) (xN st) (xj st) (.ref dT) kV doc pm an cdv ct),osl⟩)
  (c:cw K cdv qual=true) (k:bV K (.ref f)=true) (d:K.lookup dT=some ⟨dc,dod,.seq ds.toArray n,dsl⟩):xeE K x qual st f (bU x qual (xZ st) (xN st) (xj st) (.ref dT) kV doc pm an cdv ct) ds:=
 ⟨⟨oc,od,dT,_,n,kV,doc,pm,an,cdv,ct,osl,rfl,l,c,d,rfl⟩,k⟩
end
end L2
namespace L2
open PySem PySem.Spec PyProof.Rows
def Nu(X:Cx)(H:Hp)(b:Addr):Prop:=H b=none∧X.s₀.heap.get? b=none∧∀p∈X.pn,p.1≠b
def xqO(X:Cx)(H:Hp)(h:Heap)(a:Addr)(cls:Value)(dx:Option Addr):Prop:=
 ∃oe vs a0,h.get? a=some oe∧oe.cls=cls∧oe.dict=dx∧oe.data= .fields vs∧vs[0]? =some a0∧vs[1]? =some .none∧Nu X H a
def xaw(X:Cx)(fl:Value)(H:Hp)(h:Heap)(a:Addr)(cls:Value)(dx:Option Addr):Prop:=
 ∃oe vs a0 T oT ts,h.get? a=some oe∧oe.cls=cls∧oe.dict=dx∧oe.data= .fields vs∧vs[0]? =some a0∧vs[1]? =some (.ref T)∧T≠a∧h.get? T=some oT∧oT.data= .fields ts∧ts[3]? =some fl∧Nu X H a∧Nu X H T
def Fly(X:Cx)(H:Hp)(h:Heap)(a:Addr)(cls:Value)(dx:Option Addr):Prop:=
 xqO X H h a cls dx∨xaw X .none H h a cls dx∨xaw X (bc X.env.locals) H h a cls dx
structure Own(X:Cx):Prop where
 ex:X.ex=[]
 st:X.stack=X.env::X.outer
 fr:X.env.frame=some X.env.locals
abbrev EEs:=St→XK
def XE(X:Cx)(EE:EEs):Value→af→Prop:=fun e s'=>
 ∃a cls dx σ H,e= .ref a∧Inv X [] σ H s'∧Fly X H s'.heap a cls dx∧EE σ cls dx H
section
variable {X:Cx} {pins:List (Addr×Obj)} {σ:St} {H:Hp} {s:af}
theorem Inv.nopins(I:Inv X pins σ H s):Inv X [] σ H s:=I.pins_of fun p hp=>nomatch hp
theorem Own.mem(o:Own X){b:Addr}:b∈frs X.stack↔b=X.env.locals∨b∈X.fs:=by
 rw[o.st];unfold frs;rw[ee,o.fr];exact aw
theorem Inv.flown{h':Heap}(o:Own X)(I:Inv X [] σ H s)(ch:Addr→Prop)
  (keep:∀b u,¬ch b→b∉frs X.stack→s.heap.get? b=some u→h'.get? b=some u)
  (slot:∀b u,¬ch b→b∈frs X.stack→s.heap.get? b=some u→∃sl,h'.get? b=some {u with slots:=sl})
  (new:∀b,ch b→Nu X H b∧∀u,s.heap.get? b=some u→∃vs,u.data= .fields vs):Inv X [] σ H {s with heap:=h'}:=by
 have any:∀b u,¬ch b→s.heap.get? b=some u→∃sl,h'.get? b=some {u with slots:=sl}:=fun b u n e=>by
  by_cases hb:b∈frs X.stack
  ·exact slot b u n hb e
  ·exact⟨u.slots,keep b u n hb e⟩
 have old:∀b u,X.s₀.heap.get? b=some u→¬ch b:=fun b u e z=>by
  have:=(new b z).1.2.1;rw[e]at this;cases this
 have neL:∀b u,X.s₀.heap.get? b=some u→b≠X.env.locals:=fun b u e=>aE (aD (ax e) I.ok.above);have cel:∀c v,s.heap.IsCell c v→h'.IsCell c v:=fun c v ⟨u,e,d⟩=>by
  obtain⟨sl,q⟩:=any c u (fun z=>by
   obtain⟨vs,w⟩:=(new c z).2 u e;rw[d]at w;cases w) e
  exact⟨_,q,d⟩
 refine⟨I.ok,I.os,I.bare,⟨fun b u e n hb hx=>?_,fun b u e n hb hx=>?_,I.base.free,fun b u e hx=>?_,I.base.fix⟩,?_,fun x c e=>?_,I.free,I.freeC,fun p hp=>?_,fun b u e=>?_,I.len⟩
 ·exact keep b u (old b u e) (fun z=>(o.mem.mp z).elim (neL b u e) hb) (I.base.keep b u e n hb hx)
 ·obtain⟨sl,e1⟩:=I.base.slot b u e n hb hx;obtain⟨sl',e2⟩:=slot b _ (old b u e) (o.mem.mpr (.inr hb)) e1;exact⟨sl',e2⟩
 ·by_cases hb:b∈X.fs
  ·obtain⟨o',e1⟩:=I.base.there b u e hx;obtain⟨sl,e2⟩:=any b _ (old b u e) e1;exact⟨_,e2⟩
  ·obtain⟨o',e1⟩:=I.base.there b u e hx;obtain⟨sl,e2⟩:=any b _ (old b u e) e1;exact⟨_,e2⟩
 ·obtain⟨m,⟨u,es,ep,e,d⟩,l⟩:=I.loc;obtain⟨sl,q⟩:=any _ u (fun z=>by
   obtain⟨vs,w⟩:=(new _ z).2 u e;rw[d.1]at w;cases w) e
  refine⟨m,⟨_,es,ep,q,d⟩,fun i x v e1 e2 e3=>?_⟩;obtain⟨y,r,z⟩:=l i x v e1 e2 e3;exact⟨y,r,z.imp id fun⟨k,c,e,z⟩=>⟨k,c,e,cel c _ z⟩⟩
 ·obtain⟨v,z⟩:=I.cell x c e;exact⟨v,cel c v z⟩
 ·obtain⟨e,n,ne,nf,d⟩:=I.pin p hp;have hp':p∈X.pn:=by simpa using hp
  exact⟨keep p.1 p.2 (fun z=>(new _ z).1.2.2 p hp' rfl) (fun z=>(o.mem.mp z).elim ne nf) e,n,ne,nf,d⟩
 ·refine(I.hok b u e).stay (fun c v hc q=>?_) (fun _ q=>q) fun _ _ q _=>q;have tr:∃u,H c=some u:=by
   rcases hc with rfl|hc
   ·exact⟨u,e⟩
   ·exact⟨_,hc⟩
  obtain⟨u',tr⟩:=tr;refine keep c v (fun z=>?_) (fun z=>?_) q
  ·rw[(new c z).1.1]at tr;cases tr
  ·rw[I.stkFree c z]at tr;cases tr
theorem xfh{M:Model}{A':aC}{E:Value→af→Prop}{Q:Unit→af→Prop}{a:Addr}{oe:Obj}{vs:Array Value}{a0 head:Value}{had:Bool}(o:Own X)(hfr:A'.frames=some X.stack)(I:Inv X [] σ H s)
  (he:s.heap.get? a=some oe) (hd:oe.data= .fields vs) (h0:vs[0]? =some a0) (h1:1<vs.size) (hn:Nu X H a)
  (h:∀s',Inv X [] σ H s'→xaw X (bc X.env.locals) H s'.heap a oe.cls oe.dict→Q () s'):
  wpAny M A' (do let f ←frameOf X.env;let pl ←entryPlaceOf X.env.locals had;let b ←ek head f .none (bc X.env.locals) .none pl;setField (.ref a) 1 b) Q E s:=by
 have hfs:s.heap.FunFrames X.base (X.env::X.outer):=by have:=I.stack;rwa [o.st]at this
 have hmem:∀b,b∈(X.env::X.outer).filterMap (·.frame)↔b∈frs X.stack:=fun b=>by rw[o.st];rfl
 have hna:a∉frs X.stack:=fun z=>by
  obtain⟨_,u,hu,hnf⟩:=hfs.mem ((hmem a).mpr z);rw[he]at hu;injection hu with hu;subst hu;exact hnf vs hd
 refine aa (wpAny_frameOf_fun (by rw[hfr,o.st]) hfs o.fr fun g1 so=>?_);refine aa (wpAny_entryPlaceOf fun pl hpl=>?_);unfold ek newFields;refine aa (bN ?_ (hpl.sizeOk5 _ _ _ _ _));have g1a:g1.get? a=some oe:=(so.2.1 a fun z=>hna ((hmem a).mp z)).trans he;generalize hT:({cls:=.type "traceback",dict:=none,data:=.fields ([head,.ref X.env.locals,.none,bc X.env.locals,.none]++(if pl.isEmpty then aU 6 aS else pl)).toArray}:Obj)=ot;have g2a:=ah (h:=g1) ot g1a;refine cq g2a hd h1 ?_;have neT:g1.objs.size≠a:=dO (ax g1a);have d3:=cM hd (·.setIfInBounds 1 (az g1.objs.size));have a3:=a5 (ba (·.setIfInBounds 1 (az g1.objs.size))) g2a (cP d3);have t3:((g1.push ot).update a (ba (·.setIfInBounds 1 (az g1.objs.size)))).get? g1.objs.size=some ot:=(aM _ _ (ak neT)).trans (aK g1 (by rw[←hT];rfl));have kp:∀b u,b≠a→g1.get? b=some u→((g1.push ot).update a (ba (·.setIfInBounds 1 (az g1.objs.size)))).get? b=some u:=fun b u nb e=>
  (aM _ _ (ak nb)).trans (ah _ e)
 have old:∀b u,s.heap.get? b=some u→b≠g1.objs.size:=fun b u e=>aE (by rw[so.1];exact ax e);have nT:Nu X H g1.objs.size:=by
  refine⟨I.hok.fresh (by rw[so.1];exact av _),?_,fun p hp z=>old p.1 p.2 (I.pin p (by simpa using hp)).1 z⟩;exact cU (by rw[so.1];exact I.sz)
 have J:Inv X [] σ H {s with heap:=(g1.push ot).update a (ba (·.setIfInBounds 1 (az g1.objs.size)))}:=by
  refine I.flown o (fun b=>b=a) (fun b u n nf e=>kp b u n ((so.2.1 b fun z=>nf ((hmem b).mp z)).trans e)) (fun b u n _ e=>?_) (fun b z=>?_)
  ·obtain⟨sl,e1⟩:=so.2.2 b u e;exact⟨sl,kp b _ n e1⟩
  ·subst z;exact⟨hn,fun u e=>⟨vs,by rw[he]at e;cases e;exact hd⟩⟩
 refine h _ J ?_
 ·refine⟨_,_,a0,g1.objs.size,ot,_,a3,gf _ _,?_,d3,by rw[dw (by decide)];exact h0,by simp[h1],neT,t3,by rw[←hT],by simp,hn,nT⟩;obtain⟨c,d,dt,sl⟩:=oe;cases dt<;> rfl
theorem xd0{M:Model}{A':aC}{E:Value→af→Prop}{Q:Unit→af→Prop}{a:Addr}{cls:Value}{dx:Option Addr}(o:Own X)(hfr:A'.frames=some X.stack)(I:Inv X [] σ H s)(F:Fly X H s.heap a cls dx)
  (h:∀s',Inv X [] σ H s'→xaw X (bc X.env.locals) H s'.heap a cls dx→Q () s'):wpAny M A' (fV (.ref a) X.env) Q E s:=by
 unfold fV;simp only[o.fr];rcases F with⟨oe,vs,a0,he,rfl,rfl,hd,h0,h1,hn⟩|⟨oe,vs,a0,T,oT,ts,he,rfl,rfl,hd,h0,h1,nT,hT,hdT,h3,hn,hnT⟩|F
 ·refine aa (bj he hd h1 ?_);rw[if_neg (by decide)];exact xfh o hfr I he hd h0 (bB.mp h1).1 hn h
 ·refine aa (bj he hd h1 ?_);rw[if_pos (by simp:(az T != aS)=true)];refine aa (bj hT hdT h3 ?_);rw[if_neg (by simp[bc]:¬((aS==bc X.env.locals)=true))];refine aa (cq hT hdT (bB.mp h3).1 ?_);have ot:∀b,b≠T→(s.heap.update T (ba (·.setIfInBounds 3 aS))).get? b=s.heap.get? b:=fun b nb=>aM _ _ (ak nb);have I':Inv X [] σ H {s with heap:=s.heap.update T (ba (·.setIfInBounds 3 aS))}:=by
   refine I.flown o (fun b=>b=T) (fun b u n _ e=>(ot b n).trans e) (fun b u n _ e=>⟨u.slots,(ot b n).trans e⟩) (fun b z=>?_);subst z;exact⟨hnT,fun u e=>⟨ts,by rw[hT]at e;cases e;exact hdT⟩⟩
  exact xfh o hfr I' ((ot a (ak nT)).trans he) hd h0 (bB.mp h1).1 hn h
 ·obtain⟨oe,vs,a0,T,oT,ts,he,hc,hx,hd,h0,h1,nT,hT,hdT,h3,hn,hnT⟩:=id F;refine aa (bj he hd h1 ?_);rw[if_pos (by simp:(az T != aS)=true)];refine aa (bj hT hdT h3 ?_);rw[if_pos (by simp:(bc X.env.locals==bc X.env.locals)=true)];exact ao (h s I F)
theorem vy{M:Model}{A':aC}{E:Value→af→Prop}{Q:Unit→af→Prop}{a:Addr}{cls fl:Value}{dx:Option Addr}{to:Option Addr}(o:Own X)(I:Inv X [] σ H s)(F:xaw X fl H s.heap a cls dx)
  (h:∀s',Inv X [] σ H s'→xaw X (to.elim .none fun f=>bc f) H s'.heap a cls dx→Q () s'):wpAny M A' (gR (.ref a) to) Q E s:=by
 obtain⟨oe,vs,a0,T,oT,ts,he,rfl,rfl,hd,h0,h1,nT,hT,hdT,h3,hn,hnT⟩:=F;unfold gR;refine aa (bj he hd h1 ?_);rw[if_pos (by simp:(az T != aS)=true)];have z3:=(bB.mp h3).1;have ot:∀b,b≠T→(s.heap.update T (ba (·.setIfInBounds 3 (to.elim aS fun f=>bc f)))).get? b=s.heap.get? b:=fun b nb=>aM _ _ (ak nb);have d3:=cM hdT (·.setIfInBounds 3 (to.elim aS fun f=>bc f));refine cq hT hdT z3 (h _ (I.flown o (fun b=>b=T) (fun b u n _ e=>(ot b n).trans e) (fun b u n _ e=>⟨u.slots,(ot b n).trans e⟩) fun b z=>?_) ?_)
 ·subst z;exact⟨hnT,fun u e=>⟨ts,by rw[hT]at e;cases e;exact hdT⟩⟩
 ·exact⟨oe,vs,a0,T,_,_,(ot a (ak nT)).trans he,rfl,rfl,hd,h0,h1,nT,a5 _ hT (cP d3),d3,by simp[z3],hn,hnT⟩
theorem xfi{M:Model}{A':aC}{E:Value→af→Prop}{Q:Unit→af→Prop}{a:Addr}{cls:Value}{dx:Option Addr}(o:Own X)(hfr:A'.frames=some X.stack)(I:Inv X [] σ H s)(F:Fly X H s.heap a cls dx)
  (h:∀s',Inv X [] σ H s'→xaw X .none H s'.heap a cls dx→Q () s'):wpAny M A' (hZ X.env (.ref a)) Q E s:=by
 unfold hZ;exact aa (xd0 o hfr I F fun s1 I1 F1=>vy (to:=none) o I1 F1 h)
end
def CXE(P:ai)(w:World):CXT:=fun outer H s E e s'=>∃a cls dx H' oe vs a0 T oT ts,e= .ref a∧s'.os=s.os∧d8 s'.gens∧Un (frs outer) [] H H' s.heap s'.heap∧HOk P w H' s'.heap∧
 s'.heap.get? a=some oe∧oe.cls=cls∧oe.dict=dx∧oe.data= .fields vs∧vs[0]? =some a0∧vs[1]? =some (.ref T)∧T≠a∧s'.heap.get? T=some oT∧oT.data= .fields ts∧ts[3]? =some .none∧
 H' a=none∧s.heap.get? a=none∧H' T=none∧s.heap.get? T=none∧E cls dx H'
theorem xeF{CX:CXT}{P:ai}{w:World}{K:ag}{mg:Str→Option Value}{base:Heap}{N:List Str}{qual:Str}{sc:Scope}{f:Addr}{cd:Value}{A:aC}{outer:List Env}{s:af}{H:Hp}{E:XK}:
  Own (zU CX P w K mg base N qual sc f cd A outer s H E):=⟨rfl,rfl,rfl⟩
theorem PSs.wished{X:Cx}{E:Value→af→Prop}{st:List Stmt}{t:TS}(h:PSs (X.wish E) st t)(hE:∀e s,E e s→X.xe e s):PSs X st t:=fun pins s σ H D I hw=>
 aG (h pins s σ H D (I.wish _) hw) (fun _ _ q=>q.unwish) hE
abbrev cxX(P:ai)(w:World)(K:ag)(mg:Str→Option Value)(base:Heap)(N:List Str)(qual:Str)(sc:Scope)(f:Addr)(cd:Value)(A:aC)(outer:List Env)(s:af)(H:Hp)(E:XK):Cx:=
 (zU (CXE P w) P w K mg base N qual sc f cd A outer s H E).wish (XE (zU (CXE P w) P w K mg base N qual sc f cd A outer s H E) fun _=>E)
section
variable {P:ai} {w:World} {K:ag} {mg:Str→Option Value} {base:Heap}
theorem Fun.okX{x qual:Str}{st:Stmt}{f:Addr}{fd:aj}{N ps:List Str}{k:Nat}{sp:Sp}(F:Fun K x qual st f fd)(S:xq N ps (xj st))(len:∀vs H Q E,sp vs H Q E→vs.length=ps.length)
  (hbody:∀(cdv:Value) (A:aC) (outer:List Env) (s:af) (H:Hp) (vs:List V) (Q:VK) (E:XK),xS k (A.deeper (cR qual (xj st) s.heap.objs.size f cdv))→sp vs H Q E→
   ∃t,PSs (cxX P w K mg base N qual (xj st) f cdv A outer s H E) (xN st) t∧t {nx:=fun _ H'=>Q .non H',rt:=Q} (start N vs) H):xA P w K mg base (CXE P w) (k+1) f fd ps sp:=by
 obtain⟨oc,od,kV,doc,pm,an,cdv,ct,osl,rfl,lk,hcd⟩:=F.ex;refine xe1 lk hcd S len fun A outer s H vs Q E hr hsp=>?_;obtain⟨t,h,q⟩:=hbody cdv A outer s H vs Q E hr hsp;refine⟨t,h.wished fun e s' ⟨a,cls,dx,σ,H',he,I,Fl,z⟩=>?_,q⟩;subst he;refine xfi xeF I.ok.frames I Fl fun s2 I2 F2=>?_;obtain⟨oe,vs,a0,T,oT,ts,he,hc,hx,hd,h0,h1,nT,hT,hdT,h3,hn,hnT⟩:=F2;exact⟨a,cls,dx,H',oe,vs,a0,T,oT,ts,rfl,I2.os,I2.bare,I2.base,I2.hok,he,hc,hx,hd,h0,h1,nT,hT,hdT,h3,hn.1,hn.2.1,hnT.1,hnT.2.1,z⟩
end
section
variable {X:Cx} {EE:EEs}
theorem xj5{pins:List (Addr×Obj)}{σ:St}{H:Hp}{s s':af}{e:Value}(o:Own X)(I:Inv (X.wish (XE X EE)) pins σ H s)(h:CXE X.prog X.w X.stack H s (EE σ) e s'):XE X EE e s':=by
 obtain⟨a,cls,dx,H',oe,vs,a0,T,oT,ts,rfl,os,bare,un,hok,he,hc,hx,hd,h0,h1,nT,hT,hdT,h3,n1,n2,n3,n4,q⟩:=h;have I0:Inv X pins σ H s:=I.unwish;have I1:Inv X pins σ H' s':=I0.call' os un hok bare fun b z=>absurd z (by simp);have nu:∀b,H' b=none→s.heap.get? b=none→Nu X H' b:=fun b m1 m2=>by
  refine⟨m1,?_,fun p hp z=>?_⟩
  ·cases q:X.s₀.heap.get? b with
   |none=>rfl
   |some u=>
    obtain⟨u',e⟩:=I0.base.there b u q (by rw[o.ex];simp);rw[m2]at e;cases e
  ·have:=(I0.pin p (aV _ hp)).1;rw[z,m2]at this;cases this
 exact⟨a,cls,dx,σ,H',rfl,I1.nopins,.inr (.inl ⟨oe,vs,a0,T,oT,ts,he,hc,hx,hd,h0,h1,nT,hT,hdT,h3,nu a n1 n2,nu T n3 n4⟩),q⟩
variable {k:Nat} {f C:Addr} {fd:aj} {ps:List Str} {sp:Sp} {dvs:List V} {ds:List Value} {x m:Str} {p pos apos:Pos} {e ob:Expr} {es:List Expr} {ta:TE} {t:TA}
theorem xjn{pins:List (Addr×Obj)}{σ:St}{H:Hp}{s:af}{Q:VK}{us:List Value}{vs:List V}(o:Own X)(F:xA X.prog X.w X.K X.mg X.base (CXE X.prog X.w) k f fd ps sp)(hr:xS k X.A)(hb:Binds X.K fd ps ds)(hd:Vals dvs ds)
  (I:Inv (X.wish (XE X EE)) pins σ H s) (r:Vals vs us) (h:sp (vs++dvs) H Q (EE σ)):wpAny (model X.prog X.w) X.A (call (.ref f) us) (EP (X.wish (XE X EE)) pins σ Q) (XE X EE) s:=by
 have r2:Vals (vs++dvs) (us++ds):=r.append hd;have hl:(us++ds).length=ps.length:=r2.length.symm.trans (F.len _ _ _ _ h);refine cJ (bR (F.run X.A X.stack s H ⟨us,[]⟩ (us++ds) (vs++dvs) Q (EE σ) hr I.unwish.env0 (hb s us I.unwish.kIn hl) r2 h) fun z s' hq=>?_)
 match z,hq with
 | .error e,hq=>exact xj5 o I hq
 | .ok (.ret u),hq=>exact I.after hq
 | .ok .next,hq=>exact hq.elim
 | .ok .brk,hq=>exact hq.elim
 | .ok .cont,hq=>exact hq.elim
end
end L2
namespace L2
open PySem PySem.Spec PyProof.Rows
def xax:List Value:=[.type "ValueError",.type "Exception",.type "BaseException",.type "object"]
def xce(K:ag)(C:Addr):Prop:=gv K C xax "ValueError.__new__"=true
theorem xce.obj{K:ag}{C:Addr}{h:Heap}(q:xce K C)(X:K.In h):∃bm N nm qn bs hdct sn sub ab col dd k0 k1 k2 k3 k5,
  h.get? C=some (dM nm qn C N bs bm hdct sn sub ab col dd k0 k1 k2 k3 k5 "ValueError.__new__")∧h.Ns N (h.nsMap N)∧h.nsMap N "__init__"=none∧OwnTail h xax bm:=by
 unfold xce gv at q
 split at q
 ·rename_i dd cd sl ho
  split at q
  ·rename_i C' bm k0 k1 k2 k3 n k5 hm hs;simp only[df,beq_iff_eq,Bool.not_eq_true']at q;obtain⟨⟨⟨⟨⟨rfl,rfl⟩,hdel⟩,ht⟩,hok⟩,hni⟩:=q;obtain⟨nm,bs,mro,ns,qn,hd,sn,sub,ab,col,del⟩:=cd;obtain⟨l⟩:=sl;dsimp only at hm hdel hok hni hs;subst hm hdel hs;exact⟨bm,ns,nm,qn,bs,hd,sn,sub,ab,col,dd,k0,k1,k2,k3,k5,X _ _ ho,.of_isNs (W.isNs_of_in X hok),W.nsMap_none_of_in X hok hni,W.tail_of_in X ht⟩
  ·cases q
 ·cases q
theorem xY.here{P:ai}{w:World}{H:Hp}{h:Heap}{a:Addr}{o:HO}(x:xY P w H h a o):∃u,h.get? a=some u:=by
 cases o with
 |lst xs=>obtain⟨_,_,_,_,e⟩:=x;exact⟨_,e⟩
 |tup xs=>obtain⟨_,_,_,u,e,_⟩:=x;exact⟨_,e⟩
 |dK kvs=>obtain⟨_,_,_,_,o,_,_,e,_⟩:=x;exact⟨_,e⟩
 |dT kvs=>obtain⟨_,_,_,_,o,_,_,e,_⟩:=x;exact⟨_,e⟩
 |set S n=>obtain⟨o,_,_,_,e,_⟩:=x;exact⟨_,e⟩
 |ins C dx fs=>obtain⟨_,_,_,e,_⟩:=x;exact⟨_,e⟩
 |own y=>exact x
 |xd fs=>obtain⟨_,⟨_,_,_,e,_⟩,_⟩:=x;exact⟨_,e⟩
 |rng lo hi=>obtain⟨_,_,_,e⟩:=x;exact⟨_,e⟩
 |frz ob u=>obtain⟨e,_⟩:=x;exact⟨_,e⟩
 |tbl qs=>obtain⟨_,e,_⟩:=x;exact⟨_,e⟩
 |cel v=>obtain⟨_,⟨_,e,_⟩,_⟩:=x;exact⟨_,e⟩
 |met f y=>exact⟨_,x⟩
 |ext φ=>exact x.2.1
section
variable {X:Cx} {EE:EEs}
theorem xj6{pins:List (Addr×Obj)}{σ:St}{H:Hp}{s:af}(o:Own X)(I:Inv X pins σ H s){b:Addr}(m:s.heap.get? b=none):Nu X H b:=by
 refine⟨?_,?_,fun p hp z=>?_⟩
 ·cases q:H b with
  |none=>rfl
  |some u=>
   obtain⟨v,e⟩:=(I.hok b u q).here;rw[m]at e;cases e
 ·cases q:X.s₀.heap.get? b with
  |none=>rfl
  |some u=>
   obtain⟨u',e⟩:=I.base.there b u q (by rw[o.ex];simp);rw[m]at e;cases e
 ·have:=(I.pin p (aV _ hp)).1;rw[z,m]at this;cases this
def xpd(C:Addr)(EE:EEs)(t:TA):TS:=fun _ σ H=>t σ H fun vs H1=>vs.length≤aF∧EE σ (.ref C) none H1
theorem xay{C:Addr}{x:Str}{np cpos pos:Pos}{e:Expr}{es:List Expr}{t:TA}(o:Own X)(hc:X.calm=true)(q:xce X.K C)(hg:Gl X x)(hm:X.mg x=some (.ref C))(ha:PA (X.wish (XE X EE)) (e::es) t)
  (hdb:(x==("__debug__":Str))=false:=by decide) (he:aA (e::es) X.env=(false,eval e X.env)::aA es X.env:=by rfl) (hpl:(bC cpos (aA (e::es) X.env)).any (·.1)=false:=by rfl):
  PS (X.wish (XE X EE)) (.Raise (some (.Call (.Name x np) (e::es) [] cpos)) none pos) (xpd C EE t):=by
 intro pins s σ H D I h;obtain⟨bm,N,nm,qn,bs,hdct,sn,sub,ab,col,dd,k0,k1,k2,k3,k5,hC,hN,hni,TL⟩:=q.obj I.ok.mod.kin;refine wpAny_Raise_call_subT (C:=C) (N:=N) (bm:=bm) (nm:=nm) (q:=qn) (bs:=bs) (hdct:=hdct) (sn:=sn) (sub:=sub) (ab:=ab) (col:=col) (dd:=dd) (k0:=k0) (k1:=k1) (k2:=k2) (k3:=k3) (k5:=k5) PySem.F.excBase_ValueError (TL.hasType PySem.F.excBase_ValueError.hasBase) (I.ok.hd hc) hpl hni (zt I hg hm ⟨rfl,?_⟩ hdb);have ha':=ha cpos pins s σ H _ I h;rw[he]at ha';show wpAny (model X.prog X.w) X.A (iB (.ref C) true (bC cpos (aA (e::es) X.env)) []) _ _ s;rw[he];refine PySem.evalArgs_kw (keywords:=[]) rfl ?_;refine thn ha' fun us s1 ⟨vs,H1,I1,r,z,y⟩=>?_;refine ao ?_;refine⟨rfl,by rw[←r.length];exact z,I1.bk _ _ hC,hN.keeps I1.bk,TL.keeps I1.bk,fun h' a mk=>?_⟩;obtain⟨t0,ea,_,_⟩:=mk.there;have I2:Inv X pins σ H1 {s1 with heap:=h'}:=I1.unwish.kept (t':=s1.toks) mk.keeps;exact⟨a,.ref C,none,σ,H1,rfl,I2.nopins,.inl ⟨_,_,.ref t0,ea,rfl,rfl,rfl,rfl,rfl,xj6 o I1.unwish mk.new⟩,y⟩
abbrev Cx.pnd(X:Cx)(ps:List (Addr×Obj)):Cx:={X with pn:=X.pn++ps}
abbrev Cx.held(X:Cx)(a:Addr)(ps:List (Addr×Obj)):Cx:={X with A:=X.A.mark (some (.ref a)),calm:=false,xe:=fun _ _=>False,pn:=X.pn++ps}
theorem Cx.Ok.pnd{ps:List (Addr×Obj)}(ok:X.Ok):(X.pnd ps).Ok:=
 ⟨ok.mod,ok.kind,ok.glob,ok.blt,ok.above,ok.inj,ok.has,ok.cab,ok.hd,ok.frames,ok.stk,ok.exf,ok.bs,ok.bsz,ok.noex,ok.exfs,ok.funs,ok.frf,ok.cab2,ok.hz⟩
theorem Cx.Ok.held{a:Addr}{ps:List (Addr×Obj)}(ok:X.Ok):(X.held a ps).Ok:=
 ⟨ok.mod,ok.kind,ok.glob,ok.blt,ok.above,ok.inj,ok.has,ok.cab,(fun z=>by cases z),ok.frames,ok.stk,ok.exf,ok.bs,ok.bsz,ok.noex,ok.exfs,ok.funs,ok.frf,ok.cab2,ok.hz⟩
theorem Own.pnd{ps:List (Addr×Obj)}(o:Own X):Own (X.pnd ps):=⟨o.ex,o.st,o.fr⟩
section
variable {pins ps:List (Addr×Obj)} {σ:St} {H:Hp} {s:af}
theorem Inv.pnd(I:Inv X pins σ H s):Inv (X.pnd pins) [] σ H s:=
 ⟨I.ok.pnd,I.os,I.bare,I.base,I.loc,I.cell,I.free,I.freeC,fun p hp=>I.pin p (by simpa using hp),I.hok,I.len⟩
theorem Inv.unpnd{qs:List (Addr×Obj)}(ok:X.Ok)(I:Inv (X.pnd pins) qs σ H s):Inv X pins σ H s:=
 ⟨ok,I.os,I.bare,I.base,I.loc,I.cell,I.free,I.freeC,fun p hp=>I.pin p (aV _ hp),I.hok,I.len⟩
theorem SP.unpnd{qs:List (Addr×Obj)}(ok:X.Ok){D:Ends}{f:Flow}{s':af}(h:SP (X.pnd pins) qs D f s'):SP X pins D f s':=by
 cases f with
 |next=>obtain⟨σ',H',I,q⟩:=h;exact⟨σ',H',I.unpnd ok,q⟩
 |brk=>obtain⟨σ',H',I,q⟩:=h;exact⟨σ',H',I.unpnd ok,q⟩
 |cont=>obtain⟨σ',H',I,q⟩:=h;exact⟨σ',H',I.unpnd ok,q⟩
 |ret u=>obtain⟨v,σ',H',I,r,q⟩:=h;exact⟨v,σ',H',I.unpnd ok,r,q⟩
theorem Inv.held{a:Addr}{oe:Obj}(I:Inv (X.pnd pins) [] σ H s)(ok:X.Ok)(he:s.heap.get? a=some oe)(hn:H a=none){vs:Array Value}(hd:oe.data= .fields vs):Inv (X.held a (pins++[(a,oe)])) [] σ H s:=by
 refine⟨ok.held,I.os,I.bare,I.base,I.loc,I.cell,I.free,I.freeC,fun p hp=>?_,I.hok,I.len⟩;have hp':p∈X.pn++pins∨p=(a,oe):=by
  have:p∈(X.pn++(pins++[(a,oe)]))++[]:=hp;rw[dB,←eP]at this;rcases bu.mp this with z|z
  ·exact .inl z
  ·exact .inr (au.mp z)
 rcases hp' with hp'|rfl
 ·exact I.pin p (aV _ hp')
 ·refine⟨he,hn,fun z=>?_,fun z=>?_,fun v z=>?_⟩
  ·obtain⟨m,⟨u,es,ep,e,d⟩,_⟩:=I.loc;have z':a=X.env.locals:=z;rw[z']at he;rw[show s.heap.get? X.env.locals=some u from e]at he;cases he;rw[d.1]at hd;cases hd
  ·obtain⟨_,u,hu,hnf⟩:=I.funs.mem z;have hu':s.heap.get? a=some u:=hu;rw[he]at hu';cases hu';exact hnf vs hd
  ·have z':oe.data= .cell v:=z;rw[hd]at z';cases z'
theorem Inv.unheld{a:Addr}{oe:Obj}{qs:List (Addr×Obj)}(ok:X.Ok)(I:Inv (X.held a (pins++[(a,oe)])) qs σ H s):Inv X pins σ H s:=
 ⟨ok,I.os,I.bare,I.base,I.loc,I.cell,I.free,I.freeC,fun p hp=>I.pin p (by
  show p∈(X.pn++(pins++[(a,oe)]))++qs;rcases bu.mp hp with z|z
  ·exact aV _ (aV _ z)
  ·exact aV _ (aO _ (aV _ z))),I.hok,I.len⟩
theorem SP.unheld{a:Addr}{oe:Obj}{qs:List (Addr×Obj)}(ok:X.Ok){D:Ends}{f:Flow}{s':af}(h:SP (X.held a (pins++[(a,oe)])) qs D f s'):SP X pins D f s':=by
 cases f with
 |next=>obtain⟨σ',H',I,q⟩:=h;exact⟨σ',H',I.unheld ok,q⟩
 |brk=>obtain⟨σ',H',I,q⟩:=h;exact⟨σ',H',I.unheld ok,q⟩
 |cont=>obtain⟨σ',H',I,q⟩:=h;exact⟨σ',H',I.unheld ok,q⟩
 |ret u=>obtain⟨v,σ',H',I,r,q⟩:=h;exact⟨v,σ',H',I.unheld ok,r,q⟩
end
structure xbp(K:ag)(C':Addr):Prop where
 base:fK K C' (.type "BaseException")=some true
theorem xaj{M:Model}{A':aC}{E:Value→af→Prop}{K:ag}{s:af}{a C C':Addr}{oe:Obj}{b:Bool}{Q:Bool→af→Prop}(KX:K.In s.heap)(he:s.heap.get? a=some oe)(hcls:oe.cls= .ref C)
  (hk:aW K (.ref C) (.ref C')=some b) (hb:xbp K C') (hq:Q b s):wpAny M A' (excMatches (.ref a) (.ref C')) Q E s:=by
 obtain⟨l1,l2,l3⟩:=W.kit_cls (M:=M) KX hk;have l4:=W.looks_mroIn (M:=M) KX hb.base;have kk:∀b o,s.heap.get? b=some o→s.heap.get? b=some o:=fun _ _ e=>e;unfold excMatches iC;refine aa (aa (l1 _ _ _ s kk ?_));refine fP tc_notTuple ?_;simp only[dE,if_false];refine aa (ao ?_);simp only[List.forIn_cons,List.forIn_nil];unfold isExcClass;refine aa (aa (aa (aa (l2 _ _ _ s kk ?_))));simp only[if_true];refine l4 _ _ _ s kk ?_;simp only[Bool.not_true,dE,if_false];refine ao (ao ?_);have lt:wpAny M A' (typeOf (.ref a)) (fun v s'=>v=oe.cls∧s'=s) E s:=by
  unfold typeOf;exact aa (g9 he (ao ⟨rfl,rfl⟩))
 refine aa (aG lt (fun v s' z=>?_) fun _ _ x=>x);obtain⟨rfl,rfl⟩:=z;rw[hcls];refine aa (aa (aa (l3 _ _ _ s' kk ?_)));cases b with
 |true=>exact ao (ao (ao hq))
 |false=>exact ao (ao (ao hq))
theorem xnE{h₀:eS}{hs:List eS}{pos:Pos}{body:List Stmt}{tb:TS}(hx:X.xe=fun _ _=>False)(hbody:PSs X body tb):PS X (.Try body (h₀::hs) [] [] pos) tb:=by
 intro pins s σ H D I h;refine gI (aG (hbody pins s σ H D I h) (fun f s1 hq=>?_) fun e s1 z=>?_)
 ·cases f with
  |next=>exact dA hq
  |brk=>exact hq
  |cont=>exact hq
  |ret u=>exact hq
 ·rw[hx]at z;exact z.elim
end
end L2
namespace L2
open PySem PySem.Spec PyProof.Rows
section
variable {X:Cx}
def Ends.gone(D:Ends)(i:Nat):Ends:={nx:=fun σ H=>D.nx (σ.set i none) H,rt:=D.rt,bk:=fun σ H=>D.bk (σ.set i none) H,ct:=fun σ H=>D.ct (σ.set i none) H}
theorem xd1{M:Model}{A':aC}{E:Value→af→Prop}{Q:Unit→af→Prop}{pins:List (Addr×Obj)}{σ:St}{H:Hp}{s:af}{i:Nat}{n:Str}{pos:Pos}(I:Inv X pins σ H s)(hN:X.N.Nodup)(hi:X.N[i]? =some n)(hk:X.env.kindOf n=some .local)
  (h:∀s',Inv X pins (σ.set i none) H s'→Q () s'):wpAny M A' (do bindName X.env n .none;fD X.env n pos) Q E s:=by
 obtain⟨m,hn,hl⟩:=id I.loc;refine wpAny_nameGoes_keeps hk hn (by rw[I.ok.kind];rfl) fun h' v hn' hs=>h _ ?_;have neL:∀b u,X.s₀.heap.get? b=some u→b≠X.env.locals:=fun b u e=>aE (aD (ax e) I.ok.above);obtain⟨oL,_,_,hoL,_⟩:=id hn;refine⟨I.ok,I.os,I.bare,⟨fun b o e n hb hx=>?_,fun b o e n hb hx=>?_,I.base.free,fun b o e hx=>?_,I.base.fix⟩,⟨_,hn',fun j y v' e1 e2 e3=>?_⟩,fun y c e=>?_,I.free,fun y c e=>?_,fun p hp=>?_,fun b u e=>?_,by simpa using I.len⟩
 ·exact(hs.2 b (neL b o e)).trans (I.base.keep b o e n hb hx)
 ·obtain⟨sl,e1⟩:=I.base.slot b o e n hb hx;exact⟨sl,(hs.2 b (neL b o e)).trans e1⟩
 ·obtain⟨o',e1⟩:=I.base.there b o e hx;exact⟨o',(hs.2 b (neL b o e)).trans e1⟩
 ·have hj:j≠i:=fun z=>by
   rw[z]at e2
   by_cases hi':i<σ.length
   ·rw[bT hi']at e2;cases e2
   ·rw[dR (by simpa using hi')]at e2;cases e2
  rw[bD (ak hj)]at e2;obtain⟨u',r',q⟩:=hl j y v' e1 e2 e3;refine⟨u',r',q.imp (fun⟨k,e⟩=>⟨k,?_⟩) fun⟨k,c,e,z⟩=>⟨k,c,e,z.sameBut hs (I.cne y c e)⟩⟩;have:y≠n:=fun e=>hj (je hN e1 (e▸hi));simp[this,e]
 ·obtain⟨w',z⟩:=I.cell y c e;exact⟨w',z.sameBut hs (I.cne y c e)⟩
 ·refine(I.freeC y c e).imp id fun⟨hf',o',ho',hno⟩=>⟨hf',o',ho',fun z j v' e1 k e2=>?_⟩;have hj:j≠i:=fun z=>by
   rw[z]at e2
   by_cases hi':i<σ.length
   ·rw[bT hi']at e2;cases e2
   ·rw[dR (by simpa using hi')]at e2;cases e2
  rw[bD (ak hj)]at e2;exact hno z j v' e1 k e2
 ·obtain⟨e,n,ne,nf,d⟩:=I.pin p hp;exact⟨(hs.2 p.1 ne).trans e,n,ne,nf,d⟩
 ·refine(I.hok b u e).stay (fun c w' hc q=>(hs.2 c ?_).trans q) (fun _ q=>q) fun _ _ q _=>q;rintro rfl;rcases hc with rfl|hc
  ·rw[I.free]at e;cases e
  ·rw[I.free]at hc;cases hc
end
end L2
namespace L2
open PySem PySem.Spec PyProof.Rows PySem.W
structure xj7(K:Frag)(D:Addr):Prop where
 ga:findIn K (.ref D) "__getattribute__"=some (some (.builtin "BaseException.__getattribute__"))
 gh:findIn K (.ref D) "__getattr__"=some none
 cl:findIn K (.ref D) "__class__"=some (some (.builtin "object.__class__"))
 gt:specialIn K (.builtin "object.__class__") "__get__"=some (some (.builtin "getset_descriptor.__get__"))
 tk:takesIn K (.builtin "object.__class__")=some true
 ob:mroIn K D (.type "object")=some true
 bs:mroIn K D (.type "BaseException")=some true
 is:(clsIn K D).isSome=true
theorem xhO:builtinKind "BaseException.__getattribute__"=some .slot:=by kernel_rfl
theorem xg9:splitId "BaseException.__getattribute__"=some ("BaseException","__getattribute__"):=by kernel_rfl
section
variable {prog:ai} {w:World} {A:aC} {E:Value→af→Prop} {s:af} {K:Frag} {x D:Addr} {ox:Obj} {od:Option Obj}
end
section
variable {X:Cx}
end
end L2
namespace L2
open PySem PySem.Spec PyProof.Rows
section
variable {prog:ai} {w:World} {A:aC} {E:Value→af→Prop} {s:af}
theorem xpe{j t:Addr}{i:Nat}{its:Array Value}{x:Value}{Q:Value→af→Prop}(hj:s.heap.IsTupleIter j t i)(ht:s.heap.IsTuple t its)(hx:its[i]? =some x)
  (q:∀h',h'.IsTupleIter j t (i+1)→eD j s.heap h'→Q x {s with heap:=h'}):wpAny (model prog w) A (cW (.ref j)) Q E s:=by
 obtain⟨oj,ej,cj,dj⟩:=id hj;obtain⟨ot,et,_,nt,dt⟩:=ht;unfold cW;refine aa (dy (name:=aN "__next__") hj.typeIs cQ (eX cQ hj.typeIs fY ?_ (fM _)));show wpAny _ _ (field (.ref j) 0 >>= _) _ _ s;refine aa (bj ej dj (x:=.ref t) rfl ?_);show wpAny _ _ (if (az t==aS)=true then _ else _) _ _ s;rw[if_neg (show¬((az t==aS)=true)from aI)];show wpAny _ _ (field (.ref j) 1 >>= _) _ _ s;refine aa (bj ej dj (x:=.int i 0) rfl ?_);show wpAny _ _ (gQ (.ref t) >>= _) _ _ s;refine aa (eK et dt ?_);simp only[gi,hx];refine aa (cq ej dj (by simp) (ao ⟨x,rfl,ao (q _ ?_ (du ..))⟩));exact⟨_,a5 _ ej (cP (cM dj _)),(gf ..).trans cj,by rw[cM dj];simp[bc]⟩
theorem xgU{j t:Addr}{i:Nat}{its:Array Value}{Q:Value→af→Prop}(hh:A.handled=none)(hj:s.heap.IsTupleIter j t i)(ht:s.heap.IsTuple t its)(hx:its[i]? =none)
  (q:∀h' e,i6 j s.heap h'→(∃o,h'.get? e=some o∧o.cls= .type "StopIteration")→E (.ref e) {s with heap:=h'}):wpAny (model prog w) A (cW (.ref j)) Q E s:=by
 obtain⟨oj,ej,cj,dj⟩:=id hj;obtain⟨ot,et,_,nt,dt⟩:=ht;unfold cW;refine aa (dy (name:=aN "__next__") hj.typeIs cQ (eX cQ hj.typeIs fY ?_ (fM _)));show wpAny _ _ (field (.ref j) 0 >>= _) _ _ s;refine aa (bj ej dj (x:=.ref t) rfl ?_);show wpAny _ _ (if (az t==aS)=true then _ else _) _ _ s;rw[if_neg (show¬((az t==aS)=true)from aI)];show wpAny _ _ (field (.ref j) 1 >>= _) _ _ s;refine aa (bj ej dj (x:=.int i 0) rfl ?_);show wpAny _ _ (gQ (.ref t) >>= _) _ _ s;refine aa (eK et dt ?_);simp only[gi,hx];refine aa (wpAny_rule (aa (cq ej dj (by simp) ?_)));show wpAny _ _ (newExc (.type "StopIteration") [] >>= _) _ _ _;refine aa ?_;simp only[newExc,newTuple];refine aa (bN ?_ (by size_fits));refine aa (m:=firstArgMember _ _) (fP (a:=aS) (by first|rfl|(simp only[firstArgMember];rfl)) ?_);refine bN ?_ (by size_fits);simp only[raiseNew];refine aa (wpAny_handled ?_);first|rw[show A.in1.handled=none from hh]|rw[hh]
 refine aa (ao (wpAny_throw ?_));exact q _ _ (((du ..).extBut.push _).push _) ⟨_,aK _ rfl,rfl⟩
theorem xli(hh:A.handled=none)(j t:Addr)(hne:t≠j)(its:Array Value):Draws prog w A j [j,t] its.size (fun i v=>its[i]? =some v) (fun i h=>h.IsTupleIter j t i∧h.IsTuple t its) where
 live:=fun _ _ st=>let⟨o,ho,_⟩:=st.1;⟨o,ho⟩
 frame:=fun _ _ _ ⟨⟨o,e,r⟩,o2,e2,r2⟩ hk=>⟨⟨o,hk j (by simp) o e,r⟩,o2,hk t (by simp) o2 e2,r2⟩
 item:=fun i s Q E hi st q=>by
  refine xpe st.1 st.2 (x:=its[i]) (by simp[hi]) fun h' hj' hs'=>q _ h' s.toks (by simp[hi]) ⟨hj',?_⟩ hs';obtain⟨o2,e2,r2⟩:=st.2;exact⟨o2,(hs'.2 t hne).trans e2,r2⟩
 done:=fun s Q E st q=>xgU hh st.1 st.2 (by simp) q
end
set_option maxHeartbeats 8000000 in
theorem xlj(l:Addr)(its:Array Value)(n:Nat)(dct:Option Addr)(sl:Array (Option Value)):
  Meets (ie.«enumerate.__new__» ⟨[.type "enumerate",.ref l],[]⟩) (fun _ R s=>s.heap.get? l=some {cls:=.type "tuple",dict:=dct,data:=.seq its n,slots:=sl}∧
   R (.ok (.ret (.ref (s.heap.push {cls:=.type "tuple_iterator",data:=.fields #[.ref l,.int 0 0]}).objs.size)))
    {s with heap:=(s.heap.push {cls:=.type "tuple_iterator",data:=.fields #[.ref l,.int 0 0]}).push {cls:=.type "enumerate",data:=.fields #[.none,.bool false,.ref s.heap.objs.size,bc 0,.none,.none]}}):=
 .of_wp fun prog w A R s h=>by
  obtain⟨hp,g,d,tk,os⟩:=s;obtain⟨el,h⟩:=h;have hsub:=sub_enumerate;have hL:Heap.IsTuple (Shared.heap ⟨hp,g,d,tk,os⟩) l its:=⟨_,el,rfl,n,rfl⟩
  wp_walk using eJ el
  refine wpAny_stack_any fun st=>ao ?_
  split
  ·rename_i c _ _ _ _ _;cases (c==dX "enumerate")<;> (wp_walk using eJ el,fT hL;exact⟨_,rfl,h⟩)
  ·wp_walk using eJ el,fT hL;exact⟨_,rfl,h⟩
section
variable {prog:ai} {w:World} {A:aC} {E:Value→af→Prop} {s:af}
theorem xj8{l:Addr}{its:Array Value}{Q:Value→af→Prop}(hL:s.heap.IsTuple l its)
  (q:∀h',gG h' (s.heap.objs.size+1) s.heap.objs.size 0 .none→h'.IsTupleIter s.heap.objs.size l 0→(∀b o,s.heap.get? b=some o→h'.get? b=some o)→Q (.ref (s.heap.objs.size+1)) {s with heap:=h'}):
  wpAny (model prog w) A (call (.type "enumerate") [.ref l]) Q E s:=by
 obtain⟨⟨c,dct,dt,sl⟩,el,hc,n,hd⟩:=hL;cases (show c= .type "tuple" from hc);cases (show dt= .seq its n from hd);refine callType_new F.called_enumerate (by decide) (F.typeCall_enumerate_1 _) (F.newCall_enumerate_1 _) (fun obj=>F.args_object_init_2 obj _) ig (xlj l its n dct sl) ⟨el,?_⟩;generalize hO:({cls:=.type "tuple_iterator",data:=.fields #[.ref l,.int 0 0]}:Obj)=oi;have hz:(s.heap.push oi).objs.size=s.heap.objs.size+1:=dP ..;have f0:oi.isFreed=false:=by rw[←hO];rfl
 show _∧_;rw[hz];have he:gG ((s.heap.push oi).push {cls:=.type "enumerate",data:=.fields #[.none,.bool false,.ref s.heap.objs.size,bc 0,.none,.none]}) (s.heap.objs.size+1) s.heap.objs.size 0 .none:=by
  have e:=aK (s.heap.push oi) (o:={cls:=.type "enumerate",data:=.fields #[.none,.bool false,.ref s.heap.objs.size,bc 0,.none,.none]}) rfl;rw[hz]at e;exact e
 refine⟨⟨_,he,rfl⟩,q _ he ⟨oi,ah _ (aK _ f0),by rw[←hO],by rw[←hO];rfl⟩ fun b o x=>ah _ (ah _ x)⟩
theorem xnF{e j t:Addr}{i:Nat}{k:Int}{its:Array Value}{old:Value}{Q:Option Value→af→Prop}(hh:A.handled=none)(he:gG s.heap e j k old)(hj:s.heap.IsTupleIter j t i)(ht:s.heap.IsTuple t its)(hx:its[i]? =none)
  (q:∀h',i6 j s.heap h'→Q none {s with heap:=h'}):wpAny (model prog w) A (pyNext (.ref e)) Q E s:=by
 have hT:s.TypeIs (.ref e) "enumerate":=⟨_,he,rfl⟩;unfold pyNext;refine aa (wpAny_attempt (dy (name:=aN "__next__") hT ij (eX ij hT F.entry_enumerate_next ?_ (F.args_enumerate_next_1 _))));show wpAny _ _ (field (.ref e) 2 >>= _) _ _ _;refine aa (bj he rfl (x:=.ref j) rfl ?_);refine aa (xgU hh hj ht hx fun h' x eb ⟨o,ho,hc⟩=>?_);refine aa (wpAny_isInstance (T:="StopIteration") (b:=true) ⟨o,ho,hc⟩ isSubtype_stop ?_);exact ao (q _ eb)
end
def xml(K:ag)(a:Addr):It:=
 ⟨fun i H=>∃xs x,SqT K H a xs∧xs[i]? =some x,fun i H v H'=>∃T x,v= .ref T∧H T=none∧H'=upd H T (.tup [.int i,x])∧∀xs,SqT K H a xs→xs[i]? =some x,fun i H=>∃xs,SqT K H a xs∧xs.length≤i⟩
theorem xj9{P:ai}{w:World}{K:ag}{es:List Expr}{k:Nat}{pos:Pos}(a e it:Addr)(hne:e≠it):Turn P w K (.Tuple es k pos) (xml K a) [e,it] e (fun i h=>(∃old,gG h e it (i:Nat) old)∧h.IsTupleIter it a i) where
 mem:=by simp
 obj:=fun i h st b hb=>by
  obtain⟨⟨old,he⟩,⟨o,e1,c,d⟩⟩:=st;rcases aw.mp hb with z|z
  ·subst z;exact⟨_,he,fun v z=>by cases z⟩
  ·rw[au.mp z];exact⟨o,e1,fun v z=>by rw[d]at z;cases z⟩
 keep:=fun i h h' st kk=>by
  obtain⟨⟨old,he⟩,⟨o,e1,r⟩⟩:=st;exact⟨⟨old,kk e (by simp) _ he⟩,⟨o,kk it (by simp) o e1,r⟩⟩
 item:=by
  intro X hP hw hK hc i pins s σ H E I hf st hg;subst hP hw hK;obtain⟨xs,x,hq,hx⟩:=hg;obtain⟨its,rv,p,hz⟩:=I.tuple hq;obtain⟨u,hu,ru⟩:=rv.get hx;obtain⟨⟨old,he⟩,hit⟩:=st;have he':=ax he;have hi':it<s.heap.objs.size:=by obtain⟨o,q,_⟩:=hit;exact ax q
  have p':s.heap.IsTuple a its.toArray:=p;have hai:a≠it:=fun z=>by
   obtain⟨o,e1,c,d⟩:=hit;obtain⟨o2,e2,c2,_⟩:=p';rw[z,e1]at e2;cases e2;rw[c]at c2;injection c2 with c2;exact absurd c2 (by decide)
  have hae:e≠a:=fun z=>by
   obtain⟨o2,e2,c2,_⟩:=p';have he2:s.heap.get? e=_:=he;rw[z,e2]at he2;cases he2;injection c2 with c2;exact absurd c2 (by decide)
  have hlt:i<its.toArray.size:=by simpa using(aB.mp hu).1
  refine gL (xli (A:=X.A.in1) (I.ok.hd hc) it a hai its.toArray) he ⟨hit,p'⟩ hlt hne (by simp[hne,hae]) fun x2 h' tk px heo st' hT hsz hk=>?_;have ex:x2=u:=by
   have:its.toArray[i]? =some u:=by simpa using hu
   rw[this]at px;cases px;rfl
  subst ex;refine⟨_,rfl,d7 (s:={s with heap:=h',toks:=tk+1}) heo fun h2 he2 hs2=>?_⟩;have hT2:h2.get? s.heap.objs.size=some {cls:=.type "tuple",data:=.seq #[.int i tk,x2]}:=(hs2.2 _ (dO he')).trans hT;have I2:Inv X pins σ (upd H s.heap.objs.size (.tup [.int i,x])) {s with heap:=h2,toks:=tk+1}:=by
   refine I.turnLaid (ch:=[e,it]) (fun b o hb q=>?_) (av _) ⟨by simp[aQ],[.int i tk,x2],.cons ⟨_,rfl⟩ (.cons ru .nil),⟨_,hT2,rfl,_,rfl⟩⟩ (fun b hb=>(hf b hb).1) (fun b hb=>?_) fun b hb=>?_
   ·have b1:b≠e:=fun z=>hb (by simp[z]);have b2:b≠it:=fun z=>hb (by simp[z]);exact(hs2.2 b b1).trans (hk b o b1 b2 q)
   ·rcases aw.mp hb with z|z
    ·rw[z];exact he'
    ·rw[au.mp z];exact hi'
   ·obtain⟨f0,f1,f2,f3,f4,f5⟩:=hf b hb;exact⟨f3,f1,f4,f5⟩
  refine⟨.ref s.heap.objs.size,_,I2,rfl,⟨_,x,rfl,I.hok.fresh (av _),rfl,fun ys hy=>by rw[I.tuple_inj hy hq];exact hx⟩,⟨⟨x2,by simpa using he2⟩,?_⟩,fun b hb=>?_⟩
  ·obtain⟨⟨o,e1,r⟩,_⟩:=st';exact⟨o,(hs2.2 it (ak hne)).trans e1,r⟩
  have hb':b≠s.heap.objs.size:=by
   rcases aw.mp hb with z|z
   ·rw[z];exact aE he'
   ·rw[au.mp z];exact aE hi'
  rw[xm hb'];exact(hf b hb).1
 done:=by
  intro X hP hw hK hc i pins s σ H E I hf st hg;subst hP hw hK;obtain⟨xs,hq,hx⟩:=hg;obtain⟨its,rv,p,hz⟩:=I.tuple hq;obtain⟨⟨old,he⟩,hit⟩:=st;obtain⟨f0,f1,f2,f3,f4,f5⟩:=hf it (by simp);have hl:=rv.length;exact xnF (I.ok.hd hc) he hit p (by simp;lia) fun h' eb=>⟨rfl,I.turned (t':=s.toks) (fun b o hb e=>eb b o hb e) f0 f1 f3 f4 f5⟩
 self:=fun _ _ _ _ _ st h=>by
  obtain⟨⟨old,he⟩,_⟩:=st;exact cS he h
section
variable {X:Cx} {es:List Expr} {k:Nat} {tp:Pos}
def xpf(K:ag)(ta:TA):TI:=fun σ H R=>ta σ H fun vs H1=>∃a,vs=[.ref a]∧(∃xs,SqT K H1 a xs)∧R (xml K a) H1
theorem xmm{l:Expr}{ta:TA}{p pos:Pos}(hg:Gl X "enumerate")(hm:X.mg "enumerate"=none)(ha:PA X [l] ta)(hs:aA [l] X.env=[(false,eval l X.env)]:=by rfl):PI X (.Tuple es k tp) (.Call (.Name "enumerate" p) [l] [] pos) (xpf X.K ta):=by
 intro pins s σ H R I h;refine Call_ (ur I hg hm xav (bJ (thn (ha pos pins s σ H _ I h) fun us s1 ⟨vs,H1,I1,r1,q1⟩=>?_) hs rfl));obtain⟨a,e,⟨xs,hq⟩,q⟩:=q1;subst e;obtain⟨u,rfl,ru⟩:=Vals.one r1;cases ru;obtain⟨its,rv,pl,hz⟩:=I1.tuple hq;refine xj8 (show s1.heap.IsTuple a its.toArray from pl) fun h' he hi hk=>cS (s:={s1 with heap:=h'}) he ?_;refine⟨s1.heap.objs.size+1,[s1.heap.objs.size+1,s1.heap.objs.size],_,_,H1,rfl,I1.kept (t':=s1.toks) hk,xj9 a _ _ (gH _),⟨⟨.none,by simpa using he⟩,hi⟩,fun b hb=>?_,q⟩;rcases aw.mp hb with z|z
 ·rw[z];exact I1.fpOk (cZ _) (I1.hok.fresh (cZ _))
 ·rw[au.mp z];exact I1.fpOk (av _) (I1.hok.fresh (av _))
theorem xiG{K:ag}{l:Addr}{xs:List V}{g:TG}{tb:TS}{D:Ends}{σ:St}{H:Hp}(Pv:Nat→St→Hp→Prop)(h0:Pv 0 σ H)(hl:∀i σ H,i≤xs.length→Pv i σ H→SqT K H l xs)
  (hs:∀i x σ H T,xs[i]? =some x→Pv i σ H→H T=none→g (.ref T) σ (upd H T (.tup [.int i,x])) fun σ2 H2=>tb {D with nx:=Pv (i+1),ct:=Pv (i+1),bk:=D.nx} σ2 H2) (hd:∀σ H,Pv xs.length σ H→D.nx σ H):uh (xml K l) g tb D σ H:=by
 unfold uh;refine⟨fun i m σ H=>m=xs.length - i∧i≤xs.length∧Pv i σ H,⟨xs.length,by simp,bK _,h0⟩,?_⟩;rintro i m σ H ⟨rfl,hi,p⟩;have hq:=hl i σ H hi p
 by_cases hlt:i<xs.length
 ·have hx:xs[i]? =some xs[i]:=a8 hlt;refine .inr ⟨⟨xs,xs[i],hq,hx⟩,Pv (i+1),fun σ' H' p'=>⟨xs.length - (i+1),by lia,rfl,hlt,p'⟩,fun v H' y=>?_⟩;obtain⟨T,x,rfl,hT,rfl,hx'⟩:=y;have:=hx' xs hq;exact hs i x σ H T this p hT
 ·have e:i=xs.length:=by lia
  subst e;exact .inl ⟨⟨xs,hq,av _⟩,hd σ H p⟩
theorem xei{K:ag}{l:Addr}{xs:List V}{g:TG}{tb:TS}{D:Ends}{σ:St}{H:Hp}(Pv:Nat→St→Hp→Prop)(h0:Pv 0 σ H)(hl:∀i σ H,i≤xs.length→Pv i σ H→SqL K H l xs)
  (hs:∀i x σ H T,xs[i]? =some x→Pv i σ H→H T=none→g (.ref T) σ (upd H T (.tup [.int i,x])) fun σ2 H2=>tb {D with nx:=Pv (i+1),ct:=Pv (i+1),bk:=D.nx} σ2 H2) (hd:∀σ H,Pv xs.length σ H→D.nx σ H):uh (Ite K l) g tb D σ H:=by
 unfold uh;refine⟨fun i m σ H=>m=xs.length - i∧i≤xs.length∧Pv i σ H,⟨xs.length,by simp,bK _,h0⟩,?_⟩;rintro i m σ H ⟨rfl,hi,p⟩;have hq:=hl i σ H hi p
 by_cases hlt:i<xs.length
 ·have hx:xs[i]? =some xs[i]:=a8 hlt;refine .inr ⟨⟨xs,xs[i],hq,hx⟩,Pv (i+1),fun σ' H' p'=>⟨xs.length - (i+1),by lia,rfl,hlt,p'⟩,fun v H' y=>?_⟩;obtain⟨T,x,rfl,hT,rfl,hx'⟩:=y;have:=hx' xs hq;exact hs i x σ H T this p hT
 ·have e:i=xs.length:=by lia
  subst e;exact .inl ⟨⟨xs,hq,av _⟩,hd σ H p⟩
end
end L2
namespace L2
open PySem PySem.Spec PyProof.Rows
def xmZ(K:ag)(C f:Addr):Bool:=match K.lookup C with
 |some ⟨.type "type",_,.cls cd,sl⟩=>(match cd.mro,sl.toList with
  | .ref C'::bm,[_,_,_,_,some (.builtin n),_]=>C'==C&&n=="ValueError.__new__"&& !cd.hasDel&&W.tailIn K xax bm&&W.nsOkIn K cd.ns&&gJ K cd.ns "__init__"==some (some (.ref f))
  |_,_=>false)
 |_=>false
def xdd:List Value→List Value
 | .ref _::r=>xdd r
 |l=>l
structure xbq(K:ag)(C f:Addr):Prop where
 xi:xmZ K C f=true
 fn:W.isFn K (.ref f)=true
 hd:fN K C=true
 mr:(W.clsIn K C).any (fun cd=>xdd cd.mro==xax)=true
 ob:fK K C (.type "object")=some true
 sa:aL K (.ref C) "__setattr__"=some (some (.builtin "object.__setattr__"))
theorem xde(self:Value)(what:Str):∀l:List Value,refuseLoop self what l=refuseLoop self what (xdd l)
 |[]=>rfl
 |v::r=>by
  cases v with
  |ref C=>rw[refuseLoop_ref];exact xde self what r
  |_=>rfl
section
variable {prog:ai} {w:World} {A:aC} {E:Value→af→Prop} {s:af} {K:ag} {x C f:Addr} {ox:Obj} {name:Str} {v:Value}
theorem xnG{od:Option Obj}{tk:Tok}{R:gw→af→Prop}(X:K.In s.heap)(I:W.InstAt s.heap x ox C od)(F:xbq K C f)(n:xE K C name)
  (h:∀b,wpAny (model prog w) A.in1 (Builtin.ObjectAttr.storeInOwnDict (.ref x) (.ref C) (.str name tk) name v b) (fun fin s'=>match fin with| .done f=>R (.ok f) s'| .again c'=>c'.quiet=true∧b9 (model prog w) A c' R s') (fun e s'=>R (.error e) s') s):
  b9 (model prog w) A (.call (.builtin "object.__setattr__") ⟨[.ref x,.str name tk,v],[]⟩) R s:=by
 have SF:=PySem.F.store_object;obtain⟨cd,hc,hm0⟩:=W.any_some F.mr;have sub:W.Looks (model prog w) s.heap (iC (.ref x) (.type "object")) true:=I.type.andThen (W.looks_mroIn X F.ob);refine dY SF.slot.plain SF.entry (@W.check_slot (model prog w) _ _ s "object.__setattr__" "object" "__setattr__" (.ref x) [.str name tk,v] [] _ SF.kind SF.split sub (SF.args (.ref x) (.str name tk) v) ?_);have hm:W.Looks (model prog w) s.heap (mroOf (.ref C)) cd.mro:=(iE X hc).andThen .now;have L3:W.Looks (model prog w) s.heap (Builtin.ObjectAttr.storeTaker? none) none:=.now;rw[W.osa_eq,refuse_eq];refine aa (aa (I.type.here (aa (hm.here ?_))));rw[xde,beq_iff_eq.mp hm0,show refuseLoop (az x) "__setattr__" xax=pure ()from PySem.F.store_ValueError.passes _];refine ao (aa (I.type.here (aa ((W.looks_findIn X n).here (aa (L3.here ?_))))));exact h _
theorem xnH{Q:Unit→af→Prop}(X:K.In s.heap)(I:W.InstAt s.heap x ox C none)(hdx:ox.dict=none){vs:Array Value}(hdat:ox.data= .fields vs)(F:xbq K C f)(n:xE K C name)
  (h:∀h' t',h'.Ns1 s.heap.objs.size (fun y=>if y=name then some v else none)→h'.get? x=some {ox with dict:=some s.heap.objs.size}→(∀b o,b≠x→s.heap.get? b=some o→h'.get? b=some o)→Q () {s with heap:=h',toks:=t'}):
  wpAny (model prog w) A (setAttr (.ref x) name v) Q E s:=by
 refine W.set_plain X I F.sa (xnG (s:={s with toks:=s.toks+1}) X I F n fun b=>?_);obtain⟨cd,hc,hd'⟩:=W.any_some F.hd;have hx:=I.at_;obtain⟨c0,d0,dt0,sl0⟩:=ox;cases hdx;cases hdat;cases I.cls;refine aa (ao (aa (aa (g9 hx (aa (W.Looks.here (s:={s with toks:=s.toks+1}) (iE X hc) ?_))))));rw[hd'];have hx₁:(s.heap.push {cls:=.type "dict",data:=.dict #[]}).get? x=some ⟨.ref C,none,.fields vs,sl0⟩:=ah _ hx;have hxs:x≠s.heap.objs.size:=aE (ax hx);refine aa (wpAny_alloc' ?_);refine aa (wpAny_update' hx₁ ?_);refine ao ?_;have hgd:((s.heap.push {cls:=.type "dict",data:=.dict #[]}).update x fun o=>{cls:=o.cls,dict:=some s.heap.objs.size,data:=o.data,slots:=o.slots}).get? s.heap.objs.size
   =some {cls:=.type "dict",data:=.dict #[]}:=
  (iO _ _ _ _ hxs.symm).trans (Heap.get?_push_at rfl rfl)
 have hnd:((s.heap.push {cls:=.type "dict",data:=.dict #[]}).update x fun o=>{cls:=o.cls,dict:=some s.heap.objs.size,data:=o.data,slots:=o.slots}).Ns s.heap.objs.size (fun _=>none):=
  ⟨_,#[],_,hgd,rfl,fun e he=>absurd he (by simp),fun _=>rfl⟩
 show wpAny _ _ (fE s.heap.objs.size (.str name _) name v) _ _ _;unfold fE Builtin.ObjectAttr.newKeyGuard;refine aa (ao (aa (wpAny_nsSet1 (iZ hnd) fun h' hn' hs=>?_)));obtain⟨oD,esD,epD,hoD,hdD,hcD⟩:=hn'.count (Within.cons name v Within.nil);refine aa (wpAny_lookBehind hoD (by rw[hdD];exact pastItsLine_dict (bp hcD (by rw[bQ,fB,aQ];lia))) ?_);refine ao (h h' _ hn' ((hs.2 x hxs).trans (a5 _ hx₁ rfl)) fun b ob hbx hb=>?_);exact(hs.2 b (aE (ax hb))).trans ((iO _ _ _ _ hbx).trans (ah _ hb))
end
def HO.exc(a C:Addr)(dx:Option Addr):HO:=.ext fun h=>∃o t,h.get? a=some o∧o.cls= .ref C∧o.dict=dx∧o.data= .fields #[.ref t,.none,.none,.none,.bool false,.none]
def rem(H:Hp)(a:Addr):Hp:=fun b=>if b=a then none else H b
section
variable {X:Cx} {pins:List (Addr×Obj)} {σ:St} {H:Hp} {s:af} {a C f:Addr} {fl:Str} {y:V} {u:Value} {A:aC} {E:Value→af→Prop}
theorem xdf{dx:Option Addr}{h1 h2:Heap}(q:∃o t,h1.get? a=some o∧o.cls= .ref C∧o.dict=dx∧o.data= .fields #[.ref t,.none,.none,.none,.bool false,.none])(k:∀o,h1.get? a=some o→h2.get? a=some o):
  ∃o t,h2.get? a=some o∧o.cls= .ref C∧o.dict=dx∧o.data= .fields #[.ref t,.none,.none,.none,.bool false,.none]:=by
 obtain⟨o,t,e,r⟩:=q;exact⟨o,t,k o e,r⟩
theorem xlk{Q:Unit→af→Prop}(I:Inv X pins σ H s)(e:H a=some (HO.exc a C none))(F:xbq X.K C f)(n:xE X.K C fl)(ry:RelV y u)
  (h:∀d s',H d=none→d≠a→Inv X pins σ (upd (upd H d (.xd [(fl,y)])) a (HO.exc a C (some d))) s'→Q () s'):wpAny (model X.prog X.w) A (setAttr (.ref a) fl u) Q E s:=by
 obtain⟨⟨o,t,ea,hc,hd,hdat⟩,_⟩:=I.hok a _ e;have J:W.InstAt s.heap a o C none:=⟨ea,hc,by obtain⟨c1,d1,dt,sl⟩:=o;cases hdat;rfl,by rw[hd];trivial⟩;refine xnH I.kIn J hd hdat F n fun h' t' hn hx kp=>?_;have hd0:H s.heap.objs.size=none:=I.hok.fresh (av _);have nda:s.heap.objs.size≠a:=fun z=>by rw[z,e]at hd0;cases hd0
 have nA:∀b,H b=none→b≠a:=fun b n z=>by rw[z,e]at n;cases n
 have oth:∀b,b≠a→b≠s.heap.objs.size→upd (upd H s.heap.objs.size (.xd [(fl,y)])) a (HO.exc a C (some s.heap.objs.size)) b=H b:=fun b h1 h2=>by rw[xm h1,xm h2]
 have own:∀b u,H b=some u→u≠HO.exc a C none→upd (upd H s.heap.objs.size (.xd [(fl,y)])) a (HO.exc a C (some s.heap.objs.size)) b=some u:=fun b u q nu=>by
  rw[oth b (fun z=>by rw[z,e]at q;exact nu (aX q).symm) (xC q hd0)];exact q
 refine h s.heap.objs.size _ hd0 nda (I.un ⟨fun b o q n _ _=>kp b o (nA b n) q,fun b o q n _ _=>⟨o.slots,kp b o (nA b n) q⟩,fun b o q n _=>?_,fun b o q _=>?_,fun b u q f=>own b u q (by rintro rfl;exact f)⟩ fun b u q=>?_)
 ·rw[oth b (nA b n) (aE (ax q))];exact n
 ·by_cases hb:b=a
  ·subst hb;exact⟨_,hx⟩
  ·exact⟨o,kp b o hb q⟩
 ·by_cases hb:b=a
  ·subst hb;rw[xp]at q;cases q;exact⟨⟨_,t,hx,hc,rfl,hdat⟩,⟨_,hx⟩,fun h1 h2=>xdf⟩
  ·rw[xm hb]at q
   by_cases hb2:b=s.heap.objs.size
   ·subst hb2;rw[xp]at q;cases q;refine⟨_,hn,fun g=>?_⟩;show zS (dG g [(fl,y)]) (if g=fl then some u else none);rw[bH]
    by_cases q:g=fl
    ·subst q;simp;exact ry
    ·rw[beq_false_of_ne q,if_neg q];exact bY
   ·rw[xm hb2]at q;refine(I.hok b u q).stay (fun c v hc q'=>kp c v ?_ q') (fun c q'=>own _ _ q' (fun z=>by cases z)) fun c u' q' hf=>own _ _ q' (by rintro rfl;exact hf);rcases hc with rfl|hc
    ·exact hb
    ·intro z;rw[z,e]at hc;cases hc
theorem Inv.forget(I:Inv X pins σ H s){φ:Heap→Prop}(e:H a=some (.ext φ)):Inv X pins σ (rem H a) s:=by
 have non:∀b,H b=none→rem H a b=none:=fun b n=>by unfold rem;split<;> first|rfl|exact n
 have kp:∀b u,H b=some u→(∀φ,u≠.ext φ)→rem H a b=some u:=fun b u q n=>by
  unfold rem;rw[if_neg]
  ·exact q
  ·intro z;rw[z,e]at q;exact n φ (aX q).symm
 refine⟨I.ok,I.os,I.bare,⟨I.base.keep,I.base.slot,fun b o q n x=>non b (I.base.free b o q n x),I.base.there,fun b u q f=>kp b u (I.base.fix b u q f) (by rintro φ rfl;exact f)⟩,I.loc,I.cell,non _ I.free,fun x c q=>?_,fun p hp=>?_,fun b u q=>?_,I.len⟩
 ·rcases I.freeC x c q with z|⟨z1,o,z2,z3⟩
  ·exact .inl (non c z)
  ·exact .inr ⟨z1,o,kp c _ z2 (fun φ z=>by cases z),z3⟩
 ·obtain⟨e1,n,r⟩:=I.pin p hp;exact⟨e1,non _ n,r⟩
 ·have q':H b=some u:=by
   unfold rem at q
   split at q
   ·cases q
   ·exact q
  exact(I.hok b u q').stay (fun _ _ _ z=>z) (fun c z=>kp c _ z (fun φ z=>by cases z)) fun c u' z hf=>kp c _ z (by rintro φ rfl;exact hf)
end
def xqh(K:ag)(ta tv:TE)(f:Str):TS:=fun D σ H=>tv σ H fun y H1=>ta σ H1 fun x H2=>∃a C g,x= .ref a∧H2 a=some (HO.exc a C none)∧xbq K C g∧xE K C f∧
 ∀d,H2 d=none→d≠a→D.nx σ (upd (upd H2 d (.xd [(f,y)])) a (HO.exc a C (some d)))
theorem xjo{X:Cx}{o value:Expr}{f:Str}{pos pos':Pos}{ta tv:TE}(ha:PE X o ta)(hv:PE X value tv)(hs:eE value (some (.Attribute o f pos')) pos.line X.env=pure false):PS X (.Assign [.Attribute o f pos'] value pos) (xqh X.K ta tv f):=by
 intro pins s σ H D I h;refine fj (thn (hv pins s σ H _ I h) fun u s1 ⟨y,H1,I1,ry,q⟩=>thn (ha pins s1 σ H1 _ I1 q) fun ov s2 ⟨x,H2,I2,rx,a,C,g,ex,ea,F,n,q2⟩=>?_) hs;subst ex;obtain rfl:ov=az a:=rx;exact xlk I2 ea F n ry fun d s3 n1 n2 I3=>⟨σ,_,I3,q2 d n1 n2⟩
def xcf(C:Addr)(f:Str):Sp:=fun vs H Q _=>∃a v,vs=[.ref a,v]∧H a=some (HO.exc a C none)∧∀d,H d=none→d≠a→Q .non (upd (upd H d (.xd [(f,v)])) a (HO.exc a C (some d)))
section
variable {prog:ai} {w:World} {A:aC} {E:Value→af→Prop} {h:Heap} {g:Array GenState} {d:Drawn} {t:Nat} {os:OsState}
variable {nm q:Str} {C N:Addr} {bs bm bmB:List Value} {hdct:Bool} {sn:List Str} {sub:List Value} {ab:Bool} {col:Option Bool} {dd:Option Addr} {k0 k1 k2 k3 k5:Option Value} {B newId initId:String}
theorem xha(F:ExcBaseFacts B newId initId bmB)(T:OwnTail h bmB bm){mN:Str→Option Value}{rest:List Value}{fI:Addr}{oI:Obj}{Q:Fin→af→Prop}
  (hC:h.get? C=some (dM nm q C N bs bm hdct sn sub ab col dd k0 k1 k2 k3 k5 newId)) (hn:h.Ns N mN) (hi:mN "__init__"=some (.ref fI))
  (hfI:h.get? fI=some oI) (hfc:oI.cls= .type "function")
  (hq:∀h' e,Heap.MadeExcOf h h' e (.ref C) rest→h.objs.size≤e→
   wpAny (model prog w) A (call (.ref fI) (.ref e::rest)) (fun r s'=>r= .none∧Q (.done (.ret (.ref e))) s') E ⟨h',g,d,t,os⟩) (hrest:rest.length≤aF:=by size_fits):
  wpAny (model prog w) A (ie.«type.__call__» ⟨.ref C::rest,[]⟩) Q E ⟨h,g,d,t,os⟩:=by
 repeat (first|with_reducible refine cz hC ?_|with_reducible refine wpAny_madeBy_exc hC ?_|wp_step)
 refine codeAny_call_builtin_code (fZ _ F.quiet) (wpAny_check_new_subT F T hC ?_);refine codeAny_exc_new_subT F T hC ?_ hrest;show wpAny _ _ _ _ _ _;have hC₁:=ah {cls:=.ref C,data:=.fields #[.ref h.objs.size,.none,.none,.none,.bool false,.none]}
  (ah {cls:=.type "tuple",data:=.seq rest.toArray} hC)
 have hfI₁:=ah {cls:=.ref C,data:=.fields #[.ref h.objs.size,.none,.none,.none,.bool false,.none]}
  (ah {cls:=.type "tuple",data:=.seq rest.toArray} hfI)
 have hn₁:((h.push {cls:=.type "tuple",data:=.seq rest.toArray}).push {cls:=.ref C,data:=.fields #[.ref h.objs.size,.none,.none,.none,.bool false,.none]}).Ns N mN:=
  let⟨o,es,ep,e,r⟩:=hn;⟨o,es,ep,ah _ (ah _ e),r⟩
 have hget:((h.push {cls:=.type "tuple",data:=.seq rest.toArray}).push
   {cls:=.ref C,data:=.fields #[.ref h.objs.size,.none,.none,.none,.bool false,.none]}).get? (h.objs.size+1)=some
   {cls:=.ref C,data:=.fields #[.ref h.objs.size,.none,.none,.none,.bool false,.none]}:=by heap_get
 have hcC:(az C::bm).contains (.ref C)=true:=by simp
 have T₁:=T.keeps (h':=(h.push {cls:=.type "tuple",data:=.seq rest.toArray}).push {cls:=.ref C,data:=.fields #[.ref h.objs.size,.none,.none,.none,.bool false,.none]})
  fun b o e=>ah _ (ah _ e)
 unfold iC
 repeat (first|with_reducible refine cz hget ?_|(with_reducible refine fJ hC₁ ?_;rw[hcC])|wp_step)
 show wpAny _ _ (ir (.ref C) _) _ _ _;refine wpAny_typeLookup_tail hC₁ hn₁ T₁ F.mroIs F.init.lookup ?_;rw[hi];refine bt (aa ?_);unfold bindSpecial;refine aa (wpAny_typeOf (T:="function") ⟨_,hfI₁,hfc⟩ ?_);rw[if_pos (by decide)];refine ao (aa (aG (hq _ (h.objs.size+1) ⟨fun b o hb=>ah _ (ah _ hb),cU (cZ _),h.objs.size,hget,cU (av _),?_⟩ (cZ _)) (fun r s' hr=>?_) fun _ _ x=>x))
 ·exact ah _ (Heap.get?_push_at rfl rfl)
 ·obtain⟨rfl,hQ⟩:=hr
  wp_walk
  exact hQ
theorem xhP(F:ExcBaseFacts B newId initId bmB)(T:OwnTail h bmB bm){mN:Str→Option Value}{rest:List Value}{fI:Addr}{oI:Obj}{Q:Value→af→Prop}
  (hC:h.get? C=some (dM nm q C N bs bm hdct sn sub ab col dd k0 k1 k2 k3 k5 newId)) (hn:h.Ns N mN) (hi:mN "__init__"=some (.ref fI))
  (hfI:h.get? fI=some oI) (hfc:oI.cls= .type "function")
  (hq:∀h' e,Heap.MadeExcOf h h' e (.ref C) rest→h.objs.size≤e→
   wpAny (model prog w) (A.under (.builtin "type.__call__" ⟨.ref C::rest,[]⟩)) (call (.ref fI) (.ref e::rest)) (fun r s'=>r= .none∧Q (.ref e) s') E ⟨h',g,d,t,os⟩) (hrest:rest.length≤aF:=by size_fits):
  wpAny (model prog w) A (call (.ref C) rest) Q E ⟨h,g,d,t,os⟩:=by
 have f1:=tc_lookup;have f2:=tc_bind (.ref C);have hT:(⟨h,g,d,t,os⟩:af).TypeIs (.ref C) "type":=⟨_,hC,rfl⟩;refine cJ (codeAny_of_tree ?_);show wpAny _ _ (callAny (.ref C) _) _ _ _
 repeat (any_goals (first|assumption|with_reducible refine cz hC ?_|wp_step))
 refine⟨rfl,?_⟩;refine codeAny_call_builtin_at (fZ _ (by decide+kernel)) entry_typeCall (wpAny_check_type_call_sub hC (xha (hrest:=hrest) F T hC hn hi hfI hfc fun h' e hm hl=>?_));exact hq h' e hm hl
end
section
variable {M:Model} {A:aC} {E:Value→af→Prop} {env:Env}
variable {nm q:Str} {C N:Addr} {bs bm:List Value} {hdct:Bool} {sn:List Str} {sub:List Value} {ab:Bool} {col:Option Bool} {dd:Option Addr} {k0 k1 k2 k3 k5:Option Value} {newId:String}
theorem xfj{s:af}{x:Sem Value}{Q:Flow→af→Prop}(hbase:bm.contains (.type "BaseException")=true)(hh:A.handled=none)
  (h:wpAny M A x (fun v s₁=>∃e t od sl,v= .ref e∧s₁.heap.get? C=some (dM nm q C N bs bm hdct sn sub ab col dd k0 k1 k2 k3 k5 newId)∧
   s₁.heap.get? e=some {cls:=.ref C,dict:=od,data:=.fields #[.ref t,.none,.none,.none,.bool false,.none],slots:=sl}∧E (.ref e) s₁) E s):
  wpAny M A (raiseStmt env (some x) none) Q E s:=by
 have hcB:(az C::bm).contains (.type "BaseException")=true:=by rw[iX,hbase,Bool.or_true]
 unfold raiseStmt;refine aa (aG h (fun v s₁ h₁=>?_) fun _ _ x=>x);obtain⟨e,t,od,sl,rfl,hC,he,hE⟩:=h₁;obtain⟨hp,g,d,tk,os⟩:=s₁
 repeat (first|with_reducible refine cz he ?_|with_reducible refine cz hC ?_|(with_reducible refine fJ hC ?_;rw[hcB])|wp_step)
 exact wpAny_raiseNew_none hh hE
end
section
variable {prog:ai} {w:World} {A:aC} {E:Value→af→Prop} {s:af} {env:Env}
variable {nm q:Str} {C N:Addr} {bs bm:List Value} {hdct:Bool} {sn:List Str} {sub:List Value} {ab:Bool} {col:Option Bool} {dd:Option Addr} {k0 k1 k2 k3 k5:Option Value} {newId:String}
theorem xka{x:Str}{np cpos pos:Pos}{args:List Expr}{Q:Flow→af→Prop}
  (hbase:bm.contains (.type "BaseException")=true) (hh:A.handled=none) (hplain:(bC cpos (aA args env)).any (·.1)=false)
  (h:wpAny (model prog w) A (eval (.Name x np) env) (fun f s₁=>f= .ref C∧wpAny (model prog w) A (iB (.ref C) true (bC cpos (aA args env)) [])
   (fun a s₂=>a.kw=[]∧s₂.heap.get? C=some (dM nm q C N bs bm hdct sn sub ab col dd k0 k1 k2 k3 k5 newId)∧
    wpAny (model prog w) A (call (.ref C) a.pos) (fun v s₃=>∃e t od sl,v= .ref e∧s₃.heap.get? C=some (dM nm q C N bs bm hdct sn sub ab col dd k0 k1 k2 k3 k5 newId)∧
     s₃.heap.get? e=some {cls:=.ref C,dict:=od,data:=.fields #[.ref t,.none,.none,.none,.bool false,.none],slots:=sl}∧E (.ref e) s₃) E s₂) E s₁) E s):
  wpAny (model prog w) A (exec (.Raise (some (.Call (.Name x np) args [] cpos)) none pos) env) Q E s:=by
 rw[arm_exec_Raise]
 first
  |refine aa (bP (xfj (C:=C) (nm:=nm) (q:=q) (N:=N) (bs:=bs) (bm:=bm) (hdct:=hdct) (sn:=sn) (sub:=sub) (ab:=ab) (col:=col) (dd:=dd) (k0:=k0) (k1:=k1) (k2:=k2) (k3:=k3) (k5:=k5) (newId:=newId) hbase hh (aa (aG (gj (aG h (fun f s₁ h₁=>?_) fun _ _ x=>x)) (fun v s₃ h₃=>aa (bP (ao h₃))) fun _ _ x=>x))))
  |(simp only[evalOpt,i9];refine aa (bP (xfj (C:=C) (nm:=nm) (q:=q) (N:=N) (bs:=bs) (bm:=bm) (hdct:=hdct) (sn:=sn) (sub:=sub) (ab:=ab) (col:=col) (dd:=dd) (k0:=k0) (k1:=k1) (k2:=k2) (k3:=k3) (k5:=k5) (newId:=newId) hbase hh (aa (aG (gj (aG h (fun f s₁ h₁=>?_) fun _ _ x=>x)) (fun v s₃ h₃=>aa (bP (ao h₃))) fun _ _ x=>x)))))
 obtain⟨rfl,h₁⟩:=h₁;unfold dI;refine aa (bt (aG h₁ (fun a s₂ h₂=>aa (bP ?_)) fun _ _ x=>x));obtain⟨apos,akw⟩:=a;obtain⟨hkw,hC,h₂⟩:=h₂;obtain rfl:akw=[]:=hkw;obtain⟨hp,g,d,tk,os⟩:=s₂;simp only[hplain];refine aa (wpAny_keeperOf_exc hC ?_);refine aa (aG h₂ (fun v s₃ h₃=>aa (bt (wpAny_point (ao h₃)))) fun _ _ x=>x)
end
theorem xkb{K:ag}{h:Heap}{N:Addr}{mg:Str→Option Value}{n:Str}{v:Value}(X:K.In h)(G:h.Ns N mg)(e:gJ K N n=some (some v)):mg n=some v:=by
 obtain⟨o,es,ep,ho,hd,_,hf⟩:=G;unfold gJ at e
 split at e
 ·rename_i c d es' n' sl q;have:=X _ _ q;rw[ho]at this;cases this;cases hd
  split at e
  ·rename_i en he;cases e;rw[←hf];unfold nsFind findBy;rw[←iQ,he];rfl
  ·split at e<;> cases e
 ·cases e
theorem xbq.obj{K:ag}{C f:Addr}{h:Heap}(F:xbq K C f)(X:K.In h):∃bm N nm qn bs hdct sn sub ab col dd k0 k1 k2 k3 k5,
  h.get? C=some (dM nm qn C N bs bm hdct sn sub ab col dd k0 k1 k2 k3 k5 "ValueError.__new__")∧h.Ns N (h.nsMap N)∧h.nsMap N "__init__"=some (.ref f)∧OwnTail h xax bm:=by
 have q:=F.xi;unfold xmZ at q
 split at q
 ·rename_i dd cd sl ho
  split at q
  ·rename_i C' bm k0 k1 k2 k3 n k5 hm hs;simp only[df,beq_iff_eq,Bool.not_eq_true']at q;obtain⟨⟨⟨⟨⟨rfl,rfl⟩,hdel⟩,ht⟩,hok⟩,hni⟩:=q;obtain⟨nm,bs,mro,ns,qn,hd,sn,sub,ab,col,del⟩:=cd;obtain⟨l⟩:=sl;dsimp only at hm hdel hok hni hs;subst hm hdel hs;have N1:h.Ns ns (h.nsMap ns):=.of_isNs (W.isNs_of_in X hok);exact⟨bm,ns,nm,qn,bs,hd,sn,sub,ab,col,dd,k0,k1,k2,k3,k5,X _ _ ho,N1,xkb X N1 hni,W.tail_of_in X ht⟩
  ·cases q
 ·cases q
section
variable {X:Cx} {EE:EEs}
def xnI(C:Addr)(f:Str)(EE:EEs)(t:TA):TS:=fun _ σ H=>t σ H fun vs H1=>∃v,vs=[v]∧∀d,H1 d=none→EE σ (.ref C) (some d) (upd H1 d (.xd [(f,v)]))
end
end L2
namespace L2
open PySem PySem.Spec PyProof.Rows PySem.W
section
variable {prog:ai} {w:World} {A:aC} {E:Value→af→Prop} {s:af} {K:Frag} {x D:Addr} {ox:Obj} {od:Obj}
theorem xnJ{Q:Value→af→Prop}{expr:Bool}{name:Str}{v:Value}(F:xj7 K D)(hd:hasDictIn K D=true)(X:K.In s.heap)(I:InstAt s.heap x ox D (some od))(na:findIn K (.ref D) name=some none)(hl:lookIn name od=some (some v))(hv:handedIn v=true)
  (h:Q v {s with toks:=s.toks+1}):wpAny (model prog w) A (getAttr (.ref x) name expr) Q E s:=by
 obtain⟨hh,g,d,t,os⟩:=s;have l0:=I.type (M:=model prog w);have l1:=looks_findIn (M:=model prog w) X F.ga;have l2:=looks_findIn (M:=model prog w) X F.gh;have l3:=looks_find (M:=model prog w) X I (findObj_own hd na rfl hl);unfold getAttr getAttrBy;refine aa (wpAny_mkText (bt (aa (l0.at (aa (l1.at ?_))))));dsimp only;rw[if_neg (by rw[show(iK "BaseException.__getattribute__"==iK "object.__getattribute__")=false by decide,Bool.and_false];exact aI)];unfold getAttrByItsOwn hookBefore;rw[if_pos (show onTheHeap (az D)=true from rfl)];refine aa (l2.at (aa (wpAny_attempt (bt ?_))));unfold callGetattribute boundAndCalled;have hx0:(expr&&onTheHeap (iK "BaseException.__getattribute__"))=false:=by cases expr<;> rfl
 rw[if_neg (by rw[hx0];exact aI)];refine aa (fP (PySem.F.excAttr_ValueError.ga.bind (.ref x)) ?_);have li:Looks (model prog w) hh (iC (.ref x) (.type "BaseException")) true:=l0.andThen (looks_mroIn X F.bs);dsimp only;refine cJ ?_;refine dY PySem.F.excAttr_ValueError.ga.plain PySem.F.entry_bexc_ga ?_;have hs:=PySem.F.args_bexc_ga (.ref x) (.str name t);simp only[eY,List.nil_append];refine check_slot (M:=model prog w) (A:=A.in1) (i:="BaseException.__getattribute__") (owner:="BaseException") (n:="__getattribute__") (self:=.ref x) (rest:=[.str name t]) (kw:=[]) xhO xg9 ?_ ?_ ?_
 ·exact li
 ·exact hs
 unfold ie.«object.__getattribute__» slotArgs;simp only[List.isEmpty_nil,Bool.not_true,dE,if_false,bQ,fB,Nat.zero_add,bne_self_eq_false];refine aa (ao ?_);dsimp only;unfold Builtin.ObjectAttr.attrName;simp only;refine aa (ao ?_);refine aa (l0.at ?_);refine aa (l3.at ?_);dsimp only;refine ao ?_;exact handed_on hv h
end
section
variable {X:Cx}
def xqi(K:Frag)(a:Addr)(cls:Value)(dx:Option Addr)(ta:TE)(f:Str):TE:=fun σ H Q=>ta σ H fun x H1=>∃D d fs v,x= .ref a∧cls= .ref D∧dx=some d∧H1 d=some (.xd fs)∧xj7 K D∧hasDictIn K D=true∧xE K D f∧fs.lookup f=some v∧Q v H1
theorem xjp{K:Frag}{a:Addr}{cls:Value}{dx:Option Addr}{ps:List (Addr×Obj)}{e:Expr}{f:Str}{pos:Pos}{ta:TE}(hK:X.K=K)(hs:∃oe:Obj,(a,oe)∈ps∧oe.cls=cls∧oe.dict=dx∧∃vs,oe.data= .fields vs)(hp:∀p∈ps,p∈X.pn)
  (he:PE X e ta) (hb:eR e f X.env (eval e X.env)=eval e X.env):PE X (.Attribute e f pos) (xqi K a cls dx ta f):=by
 subst hK;intro pins s σ H Q I h;refine xja hb (thn (he pins s σ H _ I h) fun u s1 ⟨x,H1,I1,rx,D,d,fs,v,ex,ec,ed,hx,F,hd,na,l,q⟩=>?_);subst ex;obtain rfl:u=az a:=rx;obtain⟨oe,hp',hc,hdx,vs,hdat⟩:=hs;have hp:=hp _ hp';have hn:notCls oe=true:=by
  obtain⟨c1,d1,dt,sl⟩:=oe;cases hdat;rfl
 obtain⟨mA,N1,r⟩:=I1.hok d _ hx;obtain⟨od,ho,hl⟩:=xgA N1;obtain⟨u,hu,ru⟩:=zS.some_of (v:=v) (o:=mA f) (by rw[←l];exact r f);have J:InstAt s1.heap a oe D (some od):=⟨(I1.pin _ (aV _ hp)).1,hc.trans ec,hn,by rw[hdx,ed];exact ho⟩;exact xnJ F hd I1.kIn J na (by rw[hl,hu]) (xgB ru) ⟨v,H1,I1.tok _,ru,q⟩
end
section
variable {X:Cx}
theorem xkc{C C':Addr}{y n:Str}{i:Nat}{np hp:Pos}{suite:List Stmt}{b₀:Stmt}{rest:List eS}{ts:Addr→Value→Option Addr→TS}{pins:List (Addr×Obj)}{σ:St}{H:Hp}{s:af}{D:Ends}{a:Addr}{dx:Option Addr}{fl:Value}
  (o:Own X) (hb:xbp X.K C') (hg:Gl X y) (hm:X.mg y=some (.ref C')) (hN:X.N.Nodup) (hi:X.N[i]? =some n) (hk:X.env.kindOf n=some .local)
  (hsuite:∀(ps:List (Addr×Obj)) (a:Addr) (cls:Value) (dx:Option Addr),(∃oe:Obj,(a,oe)∈ps∧oe.cls=cls∧oe.dict=dx∧∃vs,oe.data= .fields vs)→PSs (X.held a ps) (b₀::suite) (ts a cls dx))
  (hdb:(y==("__debug__":Str))=false) (ok:X.Ok) (I3:Inv (X.pnd pins) [] σ H s) (F3:xaw (X.pnd pins) fl H s.heap a (.ref C) dx) (hkc:aW X.K (.ref C) (.ref C')=some true) (q:ts a (.ref C) dx (D.gone i) (σ.set i (some (.ref a))) H):
  wpAny (model X.prog X.w) X.A (handleBy (.ref a) X.env (.ExceptHandler (some (.Name y np)) (some n) (b₀::suite) hp::rest)) (SP X pins D) X.xe s:=by
 refine eo (dS ?_) (by intro z;cases z);obtain⟨oe,vs,a0,T,oT,ts',he,hc,hx,hd,h0,h1,nT,hT,hdT,h3,hn,hnT⟩:=id F3;have J3:=Inv.held I3 ok he hn.1 hd;refine zt J3 hg hm ?_ hdb;refine xaj (K:=X.K) I3.kIn he hc hkc hb ?_;refine gq ?_;refine vy (X:=X.pnd pins) (to:=none) o.pnd I3 F3 fun s4 I4 F4=>?_;obtain⟨oe',vs',a0',T',oT',ts'',he',hc',hx',hd',h0',h1',nT',hT',hdT',h3',hn',hnT'⟩:=id F4;have J4:=Inv.held I4 ok he' hn'.1 hd';refine xaq (X:=X.held a (pins++[(a,oe')])) (v:=.ref a) J4 hN hi (.inl hk) rfl (fun s5 J5=>?_) (.inr hk);refine aG (hsuite (pins++[(a,oe')]) a (.ref C) dx ⟨oe',by simp,hc',hx',_,hd'⟩ [] s5 _ H (D.gone i) J5 q) (fun f s6 hq=>?_) fun _ _ z=>z.elim;have hq':SP X pins (D.gone i) f s6:=hq.unheld ok;cases f with
 |next=>
  obtain⟨σ',H',J,z⟩:=hq';exact xd1 J hN hi hk fun s7 J7=>⟨_,_,J7,z⟩
 |brk=>
  obtain⟨σ',H',J,z⟩:=hq';exact xd1 J hN hi hk fun s7 J7=>⟨_,_,J7,z⟩
 |cont=>
  obtain⟨σ',H',J,z⟩:=hq';exact xd1 J hN hi hk fun s7 J7=>⟨_,_,J7,z⟩
 |ret u=>
  obtain⟨v,σ',H',J,r,z⟩:=hq';exact xd1 J hN hi hk fun s7 J7=>⟨_,_,_,J7,r,z⟩
theorem xiH{C C':Addr}{y:Str}{n:Option Str}{np hp:Pos}{suite:List Stmt}{rest:List eS}{pins:List (Addr×Obj)}{σ:St}{H:Hp}{s:af}{Q:Flow→af→Prop}{a:Addr}{dx:Option Addr}{fl:Value}
  (hb:xbp X.K C') (hg:Gl X y) (hm:X.mg y=some (.ref C')) (hdb:(y==("__debug__":Str))=false) (ok:X.Ok) (I3:Inv (X.pnd pins) [] σ H s) (F3:xaw (X.pnd pins) fl H s.heap a (.ref C) dx) (hkc:aW X.K (.ref C) (.ref C')=some false)
  (h:wpAny (model X.prog X.w) X.A (handleBy (.ref a) X.env rest) Q X.xe s):
  wpAny (model X.prog X.w) X.A (handleBy (.ref a) X.env (.ExceptHandler (some (.Name y np)) n suite hp::rest)) Q X.xe s:=by
 refine eo (dS ?_) (by intro z;cases z);obtain⟨oe,vs,a0,T,oT,ts',he,hc,hx,hd,h0,h1,nT,hT,hdT,h3,hn,hnT⟩:=id F3;have J3:=Inv.held I3 ok he hn.1 hd;refine zt J3 hg hm ?_ hdb;refine xaj (K:=X.K) I3.kIn he hc hkc hb ?_;exact h
end
section
variable {P:ai} {w:World} {K:ag} {mg:Str→Option Value} {base:Heap}
end
section
variable {X:Cx} {EE:EEs} {k:Nat} {f C:Addr} {fd:aj} {ps:List Str} {sp:Sp} {dvs:List V} {ds:List Value} {x m:Str} {p pos apos:Pos} {e o:Expr} {es:List Expr} {ta:TE} {t:TA}
def xfk(C:Addr)(m:Str)(sp:Sp)(dvs:List V)(EE:EEs)(ta:TE)(t:TA):TE:=fun σ H Q=>ta σ H fun x H1=>∃a dx fs,x= .ref a∧H1 a=some (.ins C dx fs)∧fs.lookup m=none∧
 t σ H1 fun vs H2=>sp (x::(vs++dvs)) H2 Q (EE σ)
theorem xaz{pl:Sem Bool}(ow:Own X)(he:PE (X.wish (XE X EE)) o ta)(c:Cls X.K C)(hm:Meth X.K C m f)(F:xA X.prog X.w X.K X.mg X.base (CXE X.prog X.w) k f fd ps sp)(hr:xS k X.A)(hb:Binds X.K fd ps ds)(hd:Vals dvs ds)(ha:PA (X.wish (XE X EE)) (e::es) t)
  (hst:aA (e::es) X.env=(false,eval e X.env)::aA es X.env:=by rfl) (hpl:(bC pos (aA es X.env)).any (·.1)=false:=by rfl)
  (ht:eval (.Call (.Attribute o m apos) (e::es) [] pos) X.env=(do
   let ov ←eval o X.env
   fg apos.atName
   let(f,first) ←dN [ov] (dW ov m pl)
   dI pos f first (bC pos (aA (e::es) X.env)) (eW pos (dJ [] X.env))):=by rfl):
  PE (X.wish (XE X EE)) (.Call (.Attribute o m apos) (e::es) [] pos) (xfk C m sp dvs EE ta t):=by
 intro pins s σ H Q I h;refine cO (pl:=pl) (thn (he pins s σ H _ I h) fun u s1 ⟨x,H1,I1,rx,a,dx,fs,ex,ea,l,q⟩=>?_) ht;subst ex;obtain rfl:u=az a:=rx;refine uF I1 ea c hm l ?_;refine eF (first:=[.ref a]) (h₀:=X.base) I.ok.mod.kin hm.kp (thn (ha pos pins s1 σ H1 _ I1 q) fun us s2 ⟨vs,H2,I2,r,q2⟩=>⟨I2.kIn,?_⟩) hst hpl;exact xjn (us:=.ref a::us) (vs:=.ref a::vs) ow F hr hb hd I2 (.cons rfl r) q2
theorem vz{pl:Sem Bool}(ow:Own X)(he:PE (X.wish (XE X EE)) o ta)(c:Cls X.K C)(hm:Meth X.K C m f)(F:xA X.prog X.w X.K X.mg X.base (CXE X.prog X.w) k f fd ps sp)(hr:xS k X.A)(hb:Binds X.K fd ps ds)(hd:Vals dvs ds)
  (ht:eval (.Call (.Attribute o m apos) [] [] pos) X.env=(do
   let ov ←eval o X.env
   fg apos.atName
   let(f,first) ←dN [ov] (dW ov m pl)
   dI pos f first (bC pos (aA [] X.env)) (eW pos (dJ [] X.env))):=by rfl):
  PE (X.wish (XE X EE)) (.Call (.Attribute o m apos) [] [] pos) (xfk C m sp dvs EE ta uP):=by
 intro pins s σ H Q I h;refine cO (pl:=pl) (thn (he pins s σ H _ I h) fun u s1 ⟨x,H1,I1,rx,a,dx,fs,ex,ea,l,q⟩=>?_) ht;subst ex;obtain rfl:u=az a:=rx;refine uF I1 ea c hm l ?_;exact iF (first:=[.ref a]) I1.kIn hm.kp (xjn (us:=[.ref a]) (vs:=[.ref a]) ow F hr hb hd I1 (.cons rfl .nil) q)
end
def FnV(P:ai)(w:World)(K:ag)(mg:Str→Option Value)(base:Heap)(k:Nat)(H:Hp)(f:Addr)(vs:List V)(Q:VK):Prop:=
 ∃nm qual params body scope ps sp fv,yO P w K mg base CX0 k nm qual params body scope ps sp∧yG H f nm qual params body scope fv∧sp fv vs H Q E0
section
variable {X:Cx} {k:Nat} {x:Str} {p pos:Pos} {e:Expr} {es:List Expr} {t:TA}
def xpg(X:Cx)(k:Nat)(i:Nat)(t:TA):TE:=fun σ H Q=>∃f,σ[i]? =some (some (.ref f))∧(∃nm qual params body scope fv,yG H f nm qual params body scope fv)∧t σ H fun vs H1=>FnV X.prog X.w X.K X.mg X.base k H1 f vs Q
theorem xhQ(i:Nat)(hr:xS k X.A)(ha:PA X (e::es) t)(hN:X.N[i]? =some x:=by rfl)(hv:Vis X.env.scope x:=by first|exact ay rfl|exact cx (ay rfl)|exact cx (cx rfl))(hd:(x==("__debug__":Str))=false:=by decide)
  (hcd:(x==("__classdict__":Str))=false:=by decide) (he:aA (e::es) X.env=(false,eval e X.env)::aA es X.env:=by rfl) (hpl:(bC pos (aA es X.env)).any (·.1)=false:=by rfl):
  PE X (.Call (.Name x p) (e::es) [] pos) (xpg X k i t):=by
 intro pins s σ H Q I h;obtain⟨f,e1,⟨_,_,_,_,_,_,hc0⟩,h⟩:=h;refine bW (thn (xhA (pos:=p) hN hv hd hcd pins s σ H (fun v H1=>v= .ref f∧H1=H) I ⟨_,e1,rfl,rfl⟩) fun u s1 ⟨v,H1,I1,r,q1,q2⟩=>?_);subst q1;subst q2;cases (show u=az f from r);refine W.callWith_F (hc0.fn I1) (thn (ha pos pins s1 σ H1 _ I1 h) fun us s2 ⟨vs,H2,I2,r2,q⟩=>?_) he hpl;obtain⟨nm,qual,params,body,scope,ps,sp,fv,F,hc,q⟩:=q;exact⟨hc.fn I2,xnB F hr xu I2 hc r2 q⟩
end
end L2
namespace PySem
open Sem (wp)
open AutoSeq1 (wpAny_loadPart')
abbrev kwS(k:Int)(t:Tok):List (Str×Value):=[(aN "start",.int k t)]
theorem xnK(a:Value)(k:Int)(t:Tok):checkTypeCall "enumerate" ⟨[a],kwS k t⟩=pure ():=by kernel_rfl
theorem xph(a:Value)(k:Int)(t:Tok):checkBuiltinCall "enumerate.__new__" ⟨[.type "enumerate",a],kwS k t⟩=pure ():=by kernel_rfl
theorem xnL(x a:Value)(k:Int)(t:Tok):argsOk "object.__init__" ⟨[x,a],kwS k t⟩:=by
 unfold argsOk;rw[signature?_of (id:="object.__init__") (n:="__tini__".toList) (o:="tcejbo".toList) (by kernel_rfl) F.owner_object]
 kernel_rfl
theorem xnM(l:Addr)(items:Array Value)(n:Nat)(dct:Option Addr)(sl:Array (Option Value))(k:Int)(t:Tok)(hf:dU k=true):
  Meets (ie.«enumerate.__new__» ⟨[.type "enumerate",.ref l],kwS k t⟩) (fun _ R s=>s.heap.get? l=some ⟨.type "list",dct,.seq items n,sl⟩∧
   R (.ok (.ret (.ref (s.heap.objs.size+1))))
    {s with heap:=(s.heap.push {cls:=.type "list_iterator",data:=.fields #[.ref l,.int 0 0]}).push {cls:=.type "enumerate",data:=.fields #[.none,.bool false,.ref s.heap.objs.size,bc k,.none,.none]}}):=by
 refine .of_wp fun prog w A R s h=>?_;obtain⟨hl,h⟩:=h;obtain⟨hp,g,d,tk,os⟩:=s;have hz:(hp.push {cls:=.type "list_iterator",data:=.fields #[.ref l,.int 0 0]}).objs.size=hp.objs.size+1:=dP ..;have hsub:=sub_enumerate;have hL:Heap.IsList (Shared.heap ⟨hp,g,d,tk,os⟩) l items:=⟨_,hl,rfl,n,rfl⟩
 wp_walk using gS hl
 refine wpAny_stack_any fun st=>ao ?_
 split
 ·rename_i c _ _ _ _ _;cases (c==dX "enumerate")<;>
   (wp_walk using gS hl,eM hL;exact⟨_,rfl,by rw[hz];exact h⟩)
 ·wp_walk using gS hl,eM hL
  exact⟨_,rfl,by rw[hz];exact h⟩
theorem xll{T newId:String}{x y:Value}{kw:List (Str×Value)}(hl:ir (.type T) "__init__"=pure (some (.builtin "object.__init__")))(hm:Bind.madeBy (.type T)=pure (some newId))(hne:(some newId != some "object.__new__")=true):
  Meets (ie.«object.__init__» ⟨[x,y],kw⟩) (fun _ R s=>s.TypeIs x T∧R (.ok (.ret .none)) s):=
 .of_wp fun prog w A R s h=>by
  obtain⟨hT,h⟩:=h
  repeat (any_goals (first|assumption|wp_step))
  exact⟨_,rfl,h⟩
section
variable {prog:ai} {w:World} {A:aC} {E:Value→af→Prop} {s:af}
theorem xkd{l:Addr}{items:Array Value}{k:Int}{t:Tok}{Q:Value→af→Prop}(hL:s.heap.IsList l items)(hf:dU k=true)
  (h:∀h',gG h' (s.heap.objs.size+1) s.heap.objs.size k .none→h'.IsListIter s.heap.objs.size l 0→(∀b o,s.heap.get? b=some o→h'.get? b=some o)→Q (.ref (s.heap.objs.size+1)) {s with heap:=h'}):
  wpAny (model prog w) A (call (.type "enumerate") [.ref l] (kwS k t)) Q E s:=by
 obtain⟨⟨c0,dct,dt,sl⟩,hl,hc,n,hd⟩:=hL;obtain rfl:c0= .type "list":=hc;obtain rfl:dt= .seq items n:=hd;have ft:=F.called_enumerate;obtain⟨c,tl,hmro⟩:=ft.mro;have hct:=xnK (.ref l) k t;have hmade:=ft.made;have hsub:=ft.sub;have h1:=ft.notType;have h2:=ft.canCreate;have hz:(s.heap.push {cls:=.type "list_iterator",data:=.fields #[.ref l,.int 0 0]}).objs.size=s.heap.objs.size+1:=dP ..;have he:gG ((s.heap.push {cls:=.type "list_iterator",data:=.fields #[.ref l,.int 0 0]}).push {cls:=.type "enumerate",data:=.fields #[.none,.bool false,.ref s.heap.objs.size,bc k,.none,.none]}) (s.heap.objs.size+1) s.heap.objs.size k .none:=by
  rw[←hz];exact aK _ rfl
 have fin:=h _ he ⟨_,ah _ (aK _ rfl),rfl,rfl⟩ fun b o x=>ah _ (ah _ x);refine cJ (codeAny_of_tree (ao ⟨fZ _ (by decide+kernel),fC F.entry_type_call ?_⟩));rw[Around.under_plain (weight_type_call_type "enumerate" [.ref l] (kwS k t)) (units_type_call_type "enumerate" [.ref l] (kwS k t))]
 repeat (any_goals (first|assumption|wp_step))
 refine bR (dY ft.plain ig (fP (xph (.ref l) k t) (xnM l items n dct sl k t hf prog w A.in1 (wants (fun obj s₁=>s₁.TypeIs obj "enumerate"∧Q obj s₁) E) s ⟨hl,⟨_,he,rfl⟩,fin⟩))) fun r s₁ hr=>?_;rcases r with e|fl
 ·exact hr
 cases fl with
 |ret obj=>
  obtain⟨hT,hq⟩:=(show s₁.TypeIs obj "enumerate"∧Q obj s₁ from hr);have hli:=ft.init.lookup;have hbi:=ft.init.bind obj
  repeat (any_goals (first|assumption|wp_step))
  refine bR (dY ft.init.plain F.entry_object_init (ft.init.check _ _ _ _ _ _ _ _ hT (xnL obj (.ref l) k t) (xll (T:="enumerate") (kw:=kwS k t) ft.init.lookup ft.made (by decide) prog w A.in1 (wants (fun r s₂=>r= .none∧Q obj s₂) E) s₁ ⟨hT,rfl,hq⟩))) fun r₂ s₂ h3=>?_;rcases r₂ with e|f2
  ·exact h3
  cases f2 with
  |ret r=>
   obtain⟨rfl,h4⟩:=(show r= .none∧Q obj s₂ from h3)
   repeat (any_goals (first|assumption|wp_step))
  |_=>exact h3.elim
 |_=>exact hr.elim
end
end PySem
namespace L2
open PySem PySem.Spec PyProof.Rows
theorem xiI{prog:ai}{w:World}{A:aC}{it:Addr}{fp:List Addr}{n:Nat}{Pv:Nat→Value→Prop}{St:Nat→Heap→Prop}(D:Draws prog w A it fp n Pv St)(m:Nat):
  Draws prog w A it fp (m+n) (fun i v=>m≤i∧Pv (i - m) v) (fun i h=>m≤i∧St (i - m) h) where
 live:=fun _ _ st=>D.live _ _ st.2
 frame:=fun _ _ _ st hk=>⟨st.1,D.frame _ _ _ st.2 hk⟩
 item:=fun i s Q E hi st hQ=>D.item (i - m) s Q E (by lia) st.2 fun x h' tk hp hs hb=>hQ x h' tk ⟨st.1,hp⟩ ⟨by lia,by rw[show i+1 - m=i - m+1 by lia];exact hs⟩ hb
 done:=fun s Q E st hE=>D.done s Q E (by have:=st.2;rwa [show m+n - m=n by lia]at this) hE
section
variable {M:Model} {A:aC} {E:Value→af→Prop} {s:af}
theorem xiJ{pos:Pos}{T:String}{args:List (Bool×Sem Value)}{kws:List (Option Str×Sem Value)}{Q:Value→af→Prop}(hp:args.any (·.1)=false)(hk:kws.any (·.1.isNone)=false)
  (h:wpAny M A (iB (.type T) true args kws) (fun a s₁=>wpAny M A (call (.type T) a.pos a.kw) Q E s₁) E s):wpAny M A (dI pos (.type T) [] args kws) Q E s:=by
 unfold dI;refine aa (bt ?_);refine aG h (fun a s₁ h₁=>?_) fun _ _ x=>x;refine aa (bP ?_);simp only[hp,hk,Bool.or_false];refine aa (ao (aa ?_));refine aG h₁ (fun r s₂ hr=>?_) fun _ _ x=>x;exact aa (bt (wpAny_point (ao hr)))
end
def xmn(K:ag)(a:Addr)(m:Nat):It:=
 ⟨fun i H=>∃xs x,SqL K H a xs∧xs[i]? =some x,fun i H v H'=>∃T x,v= .ref T∧H T=none∧H'=upd H T (.tup [.int ((m+i:Nat):Int),x])∧∀xs,SqL K H a xs→xs[i]? =some x,fun i H=>∃xs,SqL K H a xs∧xs.length≤i⟩
theorem xke{P:ai}{w:World}{K:ag}{es:List Expr}{k:Nat}{pos:Pos}(a e it:Addr)(m:Nat)(hne:e≠it):Turn P w K (.Tuple es k pos) (xmn K a m) [e,it] e (fun i h=>(∃old,gG h e it ((m+i:Nat):Int) old)∧h.IsListIter it a i) where
 mem:=by simp
 obj:=fun i h st b hb=>by
  obtain⟨⟨old,he⟩,⟨o,e1,c,d⟩⟩:=st;rcases aw.mp hb with z|z
  ·subst z;exact⟨_,he,fun v z=>by cases z⟩
  ·rw[au.mp z];exact⟨o,e1,fun v z=>by rw[d]at z;cases z⟩
 keep:=fun i h h' st kk=>by
  obtain⟨⟨old,he⟩,hit⟩:=st;exact⟨⟨old,kk e (by simp) _ he⟩,hit.at fun o x=>kk it (by simp) o x⟩
 item:=by
  intro X hP hw hK hc i pins s σ H E I hf st hg;subst hP hw hK;obtain⟨xs,x,hq,hx⟩:=hg;obtain⟨its,rv,p,hz⟩:=I.list hq;obtain⟨u,hu,ru⟩:=rv.get hx;obtain⟨⟨old,he⟩,hit⟩:=st;have he':=ax he;have hi':it<s.heap.objs.size:=by obtain⟨o,q,_⟩:=hit;exact ax q
  have hil:i<its.length:=by
   have:=(aB.mp hu).1;exact this
  have pl:=p.isList;have hai:a≠it:=fun z=>by
   obtain⟨o1,q1,c1,_⟩:=pl;obtain⟨o2,q2,c2,_⟩:=hit;rw[z,q2]at q1;cases q1;rw[c2]at c1;simp at c1
  have hae:e≠a:=fun z=>by
   obtain⟨o1,q1,c1,_⟩:=pl;rw[←z,he]at q1;cases q1;simp at c1
  have D:=xiI (Draws.list (prog:=X.prog) (w:=X.w) (A:=X.A.in1) (I.ok.hd hc) it a hai its.toArray) m;refine gL D he ⟨by lia,by rw[show m+i - m=i by lia];exact⟨hit,pl⟩⟩ (by simp;lia) hne (by simp[hne,hae]) fun y h' tk hy heo hst hT hsz hk=>?_;have ey:y=u:=by
   have h1:=hy.2;rw[show m+i - m=i by lia]at h1;have h2:its.toArray[i]? =some u:=by simpa using hu
   rw[h2]at h1;exact(aX h1).symm
  subst ey;have hit':=hst.2.1;rw[show m+i+1 - m=i+1 by lia]at hit';refine⟨_,rfl,d7 (s:={s with heap:=h',toks:=tk+1}) heo fun h2 he2 hs2=>?_⟩;have hT2:h2.get? s.heap.objs.size=some {cls:=.type "tuple",data:=.seq #[.int ((m+i:Nat):Int) tk,y]}:=(hs2.2 _ (dO he')).trans hT;have I2:Inv X pins σ (upd H s.heap.objs.size (.tup [.int ((m+i:Nat):Int),x])) {s with heap:=h2,toks:=tk+1}:=by
   refine I.turnLaid (ch:=[e,it]) (fun b o hb q=>?_) (av _) ⟨by simp[aQ],[.int ((m+i:Nat):Int) tk,y],.cons ⟨_,rfl⟩ (.cons ru .nil),⟨_,hT2,rfl,_,rfl⟩⟩ (fun b hb=>(hf b hb).1) (fun b hb=>?_) fun b hb=>?_
   ·have b1:b≠e:=fun z=>hb (by simp[z]);have b2:b≠it:=fun z=>hb (by simp[z]);exact(hs2.2 b b1).trans (hk b o b1 b2 q)
   ·rcases aw.mp hb with z|z
    ·rw[z];exact he'
    ·rw[au.mp z];exact hi'
   ·obtain⟨f0,f1,f2,f3,f4,f5⟩:=hf b hb;exact⟨f3,f1,f4,f5⟩
  refine⟨.ref s.heap.objs.size,_,I2,rfl,⟨_,x,rfl,I.hok.fresh (av _),rfl,fun ys hy=>by rw[I.list_inj hy hq];exact hx⟩,⟨⟨y,by rw[show((m+(i+1):Nat):Int)=((m+i:Nat):Int)+1 by lia];exact he2⟩,hit'.extBut hs2.extBut (ak hne)⟩,fun b hb=>?_⟩;have hb':b≠s.heap.objs.size:=by
   rcases aw.mp hb with z|z
   ·rw[z];exact aE he'
   ·rw[au.mp z];exact aE hi'
  rw[xm hb'];exact(hf b hb).1
 done:=by
  intro X hP hw hK hc i pins s σ H E I hf st hg;subst hP hw hK;obtain⟨xs,hq,hx⟩:=hg;obtain⟨its,rv,p,hz⟩:=I.list hq;obtain⟨⟨old,he⟩,hit⟩:=st;obtain⟨f0,f1,f2,f3,f4,f5⟩:=hf it (by simp);have hl:=rv.length;have pl:=p.isList;have D:Draws X.prog X.w X.A.in1 it [it,a] 0 (fun _ _=>False) (fun _ h=>h.IsListIter it a i∧h.IsList a its.toArray):={
   live:=fun _ _ st=>let⟨o,ho,_⟩:=st.1;⟨o,ho⟩
   frame:=fun _ _ _ st hk=>⟨st.1.at fun o e=>hk it (by simp) o e,st.2.at fun o e=>hk a (by simp) o e⟩
   item:=fun j s Q E hj=>absurd hj (gT _)
   done:=fun s Q E st hE=>wpAny_nextOf_list_end (I.ok.hd hc) st.1 st.2 (by simp;lia) hE}
  exact wpAny_pyNext_enum_endD D he ⟨hit,pl⟩ fun h' eb=>⟨rfl,I.turned (t':=s.toks) (fun b o hb e=>eb b o hb e) f0 f1 f3 f4 f5⟩
 self:=fun _ _ _ _ _ st h=>by
  obtain⟨⟨old,he⟩,_⟩:=st;exact cS he h
section
variable {X:Cx} {es:List Expr} {k:Nat} {tp:Pos}
def xpi(K:ag)(ta:TA)(tf:TE):TI:=fun σ H R=>ta σ H fun vs H1=>tf σ H1 fun y H2=>∃(a:Addr) (m:Nat),vs=[.ref a]∧y= .int m∧(m:Int)<2^62∧(∃xs,SqL K H2 a xs)∧R (xmn K a m) H2
theorem xmo{l fe:Expr}{ta:TA}{tf:TE}{p pos kp:Pos}(hg:Gl X "enumerate")(hm:X.mg "enumerate"=none)(ha:PA X [l] ta)(hf:PE X fe tf)
  (he:bC pos (aA [l] X.env)=(false,eval l X.env)::bC pos (aA [] X.env):=by rfl):PI X (.Tuple es k tp) (.Call (.Name "enumerate" p) [l] [⟨some "start",fe,kp⟩] pos) (xpi X.K ta tf):=by
 intro pins s σ H R I h;refine bW (ur I hg hm xav ?_);refine xiJ (by rw[he];rfl) rfl ?_;rw[he];refine evalArgs_kwB rfl ?_;rw[←he];refine thn (ha pos pins s σ H _ I h) fun us s1 h1=>?_;obtain⟨vs,H1,I1,r1,q1⟩:=h1;refine kws_cons (thn (hf pins s1 σ H1 _ I1 q1) fun fu s2 h2=>kws_nil ?_);obtain⟨y,H2,I2,r2,a,m,rfl,rfl,hm2,⟨xs,hq⟩,q⟩:=h2;obtain⟨u,rfl,ru⟩:=Vals.one r1;cases ru;obtain⟨tz,rfl⟩:=r2;obtain⟨its,rv,pl,hz⟩:=I2.list hq;show wpAny _ _ (call (.type "enumerate") [.ref a] (kwS m tz)) _ _ s2;refine xkd pl.isList (by simp[dU];lia) fun h' he hi hk=>cS (s:={s2 with heap:=h'}) he ?_;refine⟨s2.heap.objs.size+1,[s2.heap.objs.size+1,s2.heap.objs.size],_,_,H2,rfl,I2.kept (t':=s2.toks) hk,xke a _ _ m (gH _),⟨⟨.none,by simpa using he⟩,hi⟩,fun b hb=>?_,q⟩;rcases aw.mp hb with z|z
 ·rw[z];exact I2.fpOk (cZ _) (I2.hok.fresh (cZ _))
 ·rw[au.mp z];exact I2.fpOk (av _) (I2.hok.fresh (av _))
end
theorem xiK{K:ag}{l:Addr}{n:Nat}{xs:List V}{g:TG}{tb:TS}{D:Ends}{σ:St}{H:Hp}(Pv:Nat→St→Hp→Prop)(h0:Pv 0 σ H)(hl:∀i σ H,i≤xs.length→Pv i σ H→SqL K H l xs)
  (hs:∀i x σ H T,xs[i]? =some x→Pv i σ H→H T=none→g (.ref T) σ (upd H T (.tup [.int ((n+i:Nat):Int),x])) fun σ2 H2=>tb {D with nx:=Pv (i+1),ct:=Pv (i+1),bk:=D.nx} σ2 H2) (hd:∀σ H,Pv xs.length σ H→D.nx σ H):uh (xmn K l n) g tb D σ H:=by
 unfold uh;refine⟨fun i m σ H=>m=xs.length - i∧i≤xs.length∧Pv i σ H,⟨xs.length,by simp,bK _,h0⟩,?_⟩;rintro i m σ H ⟨rfl,hi,p⟩;have hq:=hl i σ H hi p
 by_cases hlt:i<xs.length
 ·have hx:xs[i]? =some xs[i]:=a8 hlt;refine .inr ⟨⟨xs,xs[i],hq,hx⟩,Pv (i+1),fun σ' H' p'=>⟨xs.length - (i+1),by lia,rfl,hlt,p'⟩,fun v H' y=>?_⟩;obtain⟨T,x,rfl,hT,rfl,hx'⟩:=y;exact hs i x σ H T (hx' xs hq) p hT
 ·obtain rfl:i=xs.length:=by lia
  exact .inl ⟨⟨xs,hq,av _⟩,hd σ H p⟩
end L2
namespace L2
open PySem PySem.Spec PyProof.Rows
abbrev xqP(cap:List Str)(P:ai)(w:World)(K:ag)(mg:Str→Option Value)(base:Heap)(N:List Str)(qual:Str)(sc:Scope)(f:Addr)(cd:Value)(A:aC)(outer:List Env)(s:af)(H:Hp)(E:XK):Cx:=
 (uI cap (CXE P w) P w K mg base N qual sc f cd A outer s H E).wish (XE (uI cap (CXE P w) P w K mg base N qual sc f cd A outer s H E) fun _=>E)
theorem Fun.okXK{P:ai}{w:World}{K:ag}{mg:Str→Option Value}{base:Heap}{x qual:Str}{st:Stmt}{f c:Addr}{fd:aj}{N ps:List Str}{k:Nat}{sp:Sp}(cap:List Str)(F:Fun K x qual st f fd)(hc:fd.code= .ref c)(S:xq N ps (xj st))(len:∀vs H Q E,sp vs H Q E→vs.length=ps.length)
  (hbody:∀(A:aC) (outer:List Env) (s:af) (H:Hp) (vs:List V) (Q:VK) (E:XK),xS k (A.deeper (cR qual (xj st) s.heap.objs.size f (.ref c)))→sp vs H Q E→
   ∃t,PSs (xqP cap P w K mg base N qual (xj st) f (.ref c) A outer s H E) (xN st) t∧t {nx:=fun _ H'=>Q .non H',rt:=Q} (start N vs) H):xA P w K mg base (CXE P w) (k+1) f fd ps sp:=by
 obtain⟨oc,od,kV,doc,pm,an,cdv,ct,osl,rfl,lk,hcd⟩:=F.ex;obtain rfl:cdv= .ref c:=hc;refine⟨len,fun A outer s H args us vs Q E hr e0 hb r hsp=>?_⟩;have hl:=len _ _ _ _ hsp;have KX:K.In s.heap:=e0.mod.kin.keeps fun b o e=>(e0.bs b o e).1;have lim:s.heap.NoLimit:=e0.mod.nolimit.keeps fun b o e=>(e0.bs b o e).1;have hkind:∀y∈ps.zip us,(xj st).names.lookup y.1=some .local∨((xj st).names.lookup y.1=some .cell∧((fh (s.heap.objs.size+1) (xj st).names []).lookup y.1).isSome=true):=fun⟨n,v⟩ hy=>by
  rcases S.par n (cu hy).1 with q|q
  ·exact .inl q
  ·exact .inr ⟨q,c8 _ _ _ (.inl q)⟩
 refine cn hr.depth (KX _ _ lk) rfl S.co S.gen rfl (fy KX hcd) (hb _ _ _ _ ?_);refine cc S.kind hkind fun env he s1 x=>?_;subst he;refine⟨lim.keeps x.toInCall.keep,fz ?_⟩;obtain⟨t,ht0,hq⟩:=hbody A outer s H vs Q E (hr.deeper _) hsp;have ht:PSs (uI cap (CXE P w) P w K mg base N qual (xj st) f (.ref c) A outer s H E) (xN st) t:=ht0.wished fun e s' ⟨a,cls,dx,σ,H',he,I,Fl,z⟩=>by
  subst he;refine xfi ⟨rfl,rfl,rfl⟩ I.ok.frames I Fl fun s2 I2 F2=>?_;obtain⟨oe,vs,a0,T,oT,ts,he,hc,hx,hd,h0,h1,nT,hT,hdT,h3,hn,hnT⟩:=F2;exact⟨a,cls,dx,H',oe,vs,a0,T,oT,ts,rfl,I2.os,I2.bare,I2.base,I2.hok,he,hc,hx,hd,h0,h1,nT,hT,hdT,h3,hn.1,hn.2.1,hnT.1,hnT.2.1,z⟩
 have I:Inv (zU (CXE P w) P w K mg base N qual (xj st) f (.ref c) A outer s H E) [] (start N vs) H s1:=jy S hr.hd e0 hl r x;have I':Inv (uI cap (CXE P w) P w K mg base N qual (xj st) f (.ref c) A outer s H E) [] (start N vs) H s1:=I.capd (fun _=>rfl) (xhw cap);refine aG (ht [] s1 (start N vs) H _ I' hq) (fun fl s' hs=>?_) fun e s' hs=>hs;have fin:∀{σ':St} {H':Hp} {v:V} {u:Value},Inv (uI cap (CXE P w) P w K mg base N qual (xj st) f (.ref c) A outer s H E) [] σ' H' s'→RelV v u→Q v H'→CE outer P w H s Q u s':=
  fun{σ' H' v u} J rv q=>⟨v,H',J.os,J.bare,J.base,J.hok,rv,q⟩
 cases fl with
 |ret u=>
  obtain⟨v,σ',H',J,rv,q⟩:=hs;exact fin J rv q
 |next=>
  obtain⟨σ',H',J,q⟩:=hs;exact fin (v:=V.non) (u:=aS) J rfl q
 |brk=>
  obtain⟨_,_,_,q⟩:=hs;exact aT q
 |cont=>
  obtain⟨_,_,_,q⟩:=hs;exact aT q
end L2
namespace L2
open PySem PySem.Spec PyProof.Rows
def xqj(X:Cx)(H:Hp)(h:Heap)(a:Addr)(cls:Value)(dx:Option Addr):Prop:=
 ∃oe vs a0,h.get? a=some oe∧oe.cls=cls∧oe.dict=dx∧oe.data= .fields vs∧vs[0]? =some a0∧vs[1]? =some .none∧vs[2]? =some .none∧Nu X H a
def xcg(X:Cx)(fl:Value)(H:Hp)(h:Heap)(a:Addr)(cls:Value)(dx:Option Addr):Prop:=
 ∃oe vs a0 T oT ts,h.get? a=some oe∧oe.cls=cls∧oe.dict=dx∧oe.data= .fields vs∧vs[0]? =some a0∧vs[1]? =some (.ref T)∧vs[2]? =some .none∧T≠a∧h.get? T=some oT∧oT.data= .fields ts∧ts[3]? =some fl∧Nu X H a∧Nu X H T
def xmp(X:Cx)(H:Hp)(h:Heap)(a:Addr)(cls:Value)(dx:Option Addr):Prop:=
 xqj X H h a cls dx∨xcg X .none H h a cls dx∨xcg X (bc X.env.locals) H h a cls dx
def XEN(X:Cx)(EE:EEs):Value→af→Prop:=fun e s'=>
 ∃a cls dx σ H,e= .ref a∧Inv X [] σ H s'∧xmp X H s'.heap a cls dx∧EE σ cls dx H
section
variable {X:Cx} {pins:List (Addr×Obj)} {σ:St} {H:Hp} {s:af}
theorem xej{M:Model}{A':aC}{E:Value→af→Prop}{Q:Unit→af→Prop}{a:Addr}{oe:Obj}{vs:Array Value}{a0 head:Value}{had:Bool}(o:Own X)(hfr:A'.frames=some X.stack)(I:Inv X [] σ H s)
  (he:s.heap.get? a=some oe) (hd:oe.data= .fields vs) (h0:vs[0]? =some a0) (h1:1<vs.size) (h2:vs[2]? =some .none) (hn:Nu X H a)
  (h:∀s',Inv X [] σ H s'→xcg X (bc X.env.locals) H s'.heap a oe.cls oe.dict→Q () s'):
  wpAny M A' (do let f ←frameOf X.env;let pl ←entryPlaceOf X.env.locals had;let b ←ek head f .none (bc X.env.locals) .none pl;setField (.ref a) 1 b) Q E s:=by
 have hfs:s.heap.FunFrames X.base (X.env::X.outer):=by have:=I.stack;rwa [o.st]at this
 have hmem:∀b,b∈(X.env::X.outer).filterMap (·.frame)↔b∈frs X.stack:=fun b=>by rw[o.st];rfl
 have hna:a∉frs X.stack:=fun z=>by
  obtain⟨_,u,hu,hnf⟩:=hfs.mem ((hmem a).mpr z);rw[he]at hu;injection hu with hu;subst hu;exact hnf vs hd
 refine aa (wpAny_frameOf_fun (by rw[hfr,o.st]) hfs o.fr fun g1 so=>?_);refine aa (wpAny_entryPlaceOf fun pl hpl=>?_);unfold ek newFields;refine aa (bN ?_ (hpl.sizeOk5 _ _ _ _ _));have g1a:g1.get? a=some oe:=(so.2.1 a fun z=>hna ((hmem a).mp z)).trans he;generalize hT:({cls:=.type "traceback",dict:=none,data:=.fields ([head,.ref X.env.locals,.none,bc X.env.locals,.none]++(if pl.isEmpty then aU 6 aS else pl)).toArray}:Obj)=ot;have g2a:=ah (h:=g1) ot g1a;refine cq g2a hd h1 ?_;have neT:g1.objs.size≠a:=dO (ax g1a);have d3:=cM hd (·.setIfInBounds 1 (az g1.objs.size));have a3:=a5 (ba (·.setIfInBounds 1 (az g1.objs.size))) g2a (cP d3);have t3:((g1.push ot).update a (ba (·.setIfInBounds 1 (az g1.objs.size)))).get? g1.objs.size=some ot:=(aM _ _ (ak neT)).trans (aK g1 (by rw[←hT];rfl));have kp:∀b u,b≠a→g1.get? b=some u→((g1.push ot).update a (ba (·.setIfInBounds 1 (az g1.objs.size)))).get? b=some u:=fun b u nb e=>
  (aM _ _ (ak nb)).trans (ah _ e)
 have old:∀b u,s.heap.get? b=some u→b≠g1.objs.size:=fun b u e=>aE (by rw[so.1];exact ax e);have nT:Nu X H g1.objs.size:=by
  refine⟨I.hok.fresh (by rw[so.1];exact av _),?_,fun p hp z=>old p.1 p.2 (I.pin p (by simpa using hp)).1 z⟩;exact cU (by rw[so.1];exact I.sz)
 have J:Inv X [] σ H {s with heap:=(g1.push ot).update a (ba (·.setIfInBounds 1 (az g1.objs.size)))}:=by
  refine I.flown o (fun b=>b=a) (fun b u n nf e=>kp b u n ((so.2.1 b fun z=>nf ((hmem b).mp z)).trans e)) (fun b u n _ e=>?_) (fun b z=>?_)
  ·obtain⟨sl,e1⟩:=so.2.2 b u e;exact⟨sl,kp b _ n e1⟩
  ·subst z;exact⟨hn,fun u e=>⟨vs,by rw[he]at e;cases e;exact hd⟩⟩
 refine h _ J ?_
 ·refine⟨_,_,a0,g1.objs.size,ot,_,a3,gf _ _,?_,d3,by rw[dw (by decide)];exact h0,by simp[h1],by rw[dw (by decide)];exact h2,neT,t3,by rw[←hT],by simp,hn,nT⟩;obtain⟨c,d,dt,sl⟩:=oe;cases dt<;> rfl
theorem xhR{M:Model}{A':aC}{E:Value→af→Prop}{Q:Unit→af→Prop}{a:Addr}{cls:Value}{dx:Option Addr}(o:Own X)(hfr:A'.frames=some X.stack)(I:Inv X [] σ H s)(F:xmp X H s.heap a cls dx)
  (h:∀s',Inv X [] σ H s'→xcg X (bc X.env.locals) H s'.heap a cls dx→Q () s'):wpAny M A' (fV (.ref a) X.env) Q E s:=by
 unfold fV;simp only[o.fr];rcases F with⟨oe,vs,a0,he,rfl,rfl,hd,h0,h1,h2,hn⟩|⟨oe,vs,a0,T,oT,ts,he,rfl,rfl,hd,h0,h1,h2,nT,hT,hdT,h3,hn,hnT⟩|F
 ·refine aa (bj he hd h1 ?_);rw[if_neg (by decide)];exact xej o hfr I he hd h0 (bB.mp h1).1 h2 hn h
 ·refine aa (bj he hd h1 ?_);rw[if_pos (by simp:(az T != aS)=true)];refine aa (bj hT hdT h3 ?_);rw[if_neg (by simp[bc]:¬((aS==bc X.env.locals)=true))];refine aa (cq hT hdT (bB.mp h3).1 ?_);have ot:∀b,b≠T→(s.heap.update T (ba (·.setIfInBounds 3 aS))).get? b=s.heap.get? b:=fun b nb=>aM _ _ (ak nb);have I':Inv X [] σ H {s with heap:=s.heap.update T (ba (·.setIfInBounds 3 aS))}:=by
   refine I.flown o (fun b=>b=T) (fun b u n _ e=>(ot b n).trans e) (fun b u n _ e=>⟨u.slots,(ot b n).trans e⟩) (fun b z=>?_);subst z;exact⟨hnT,fun u e=>⟨ts,by rw[hT]at e;cases e;exact hdT⟩⟩
  exact xej o hfr I' ((ot a (ak nT)).trans he) hd h0 (bB.mp h1).1 h2 hn h
 ·obtain⟨oe,vs,a0,T,oT,ts,he,hc,hx,hd,h0,h1,h2,nT,hT,hdT,h3,hn,hnT⟩:=id F;refine aa (bj he hd h1 ?_);rw[if_pos (by simp:(az T != aS)=true)];refine aa (bj hT hdT h3 ?_);rw[if_pos (by simp:(bc X.env.locals==bc X.env.locals)=true)];exact ao (h s I F)
theorem xch{M:Model}{A':aC}{E:Value→af→Prop}{Q:Unit→af→Prop}{a:Addr}{cls fl:Value}{dx:Option Addr}{to:Option Addr}(o:Own X)(I:Inv X [] σ H s)(F:xcg X fl H s.heap a cls dx)
  (h:∀s',Inv X [] σ H s'→xcg X (to.elim .none fun f=>bc f) H s'.heap a cls dx→Q () s'):wpAny M A' (gR (.ref a) to) Q E s:=by
 obtain⟨oe,vs,a0,T,oT,ts,he,rfl,rfl,hd,h0,h1,h2,nT,hT,hdT,h3,hn,hnT⟩:=F;unfold gR;refine aa (bj he hd h1 ?_);rw[if_pos (by simp:(az T != aS)=true)];have z3:=(bB.mp h3).1;have ot:∀b,b≠T→(s.heap.update T (ba (·.setIfInBounds 3 (to.elim aS fun f=>bc f)))).get? b=s.heap.get? b:=fun b nb=>aM _ _ (ak nb);have d3:=cM hdT (·.setIfInBounds 3 (to.elim aS fun f=>bc f));refine cq hT hdT z3 (h _ (I.flown o (fun b=>b=T) (fun b u n _ e=>(ot b n).trans e) (fun b u n _ e=>⟨u.slots,(ot b n).trans e⟩) fun b z=>?_) ?_)
 ·subst z;exact⟨hnT,fun u e=>⟨ts,by rw[hT]at e;cases e;exact hdT⟩⟩
 ·exact⟨oe,vs,a0,T,_,_,(ot a (ak nT)).trans he,rfl,rfl,hd,h0,h1,h2,nT,a5 _ hT (cP d3),d3,by simp[z3],hn,hnT⟩
theorem jv{M:Model}{A':aC}{E:Value→af→Prop}{Q:Unit→af→Prop}{a:Addr}{cls:Value}{dx:Option Addr}(o:Own X)(hfr:A'.frames=some X.stack)(I:Inv X [] σ H s)(F:xmp X H s.heap a cls dx)
  (h:∀s',Inv X [] σ H s'→xcg X .none H s'.heap a cls dx→Q () s'):wpAny M A' (hZ X.env (.ref a)) Q E s:=by
 unfold hZ;exact aa (xhR o hfr I F fun s1 I1 F1=>xch (to:=none) o I1 F1 h)
end
def CXN(P:ai)(w:World):CXT:=fun outer H s E e s'=>∃a cls dx H' oe vs a0 T oT ts,e= .ref a∧s'.os=s.os∧d8 s'.gens∧Un (frs outer) [] H H' s.heap s'.heap∧HOk P w H' s'.heap∧
 s'.heap.get? a=some oe∧oe.cls=cls∧oe.dict=dx∧oe.data= .fields vs∧vs[0]? =some a0∧vs[1]? =some (.ref T)∧vs[2]? =some .none∧T≠a∧s'.heap.get? T=some oT∧oT.data= .fields ts∧ts[3]? =some .none∧
 H' a=none∧s.heap.get? a=none∧H' T=none∧s.heap.get? T=none∧E cls dx H'
abbrev cxN(P:ai)(w:World)(K:ag)(mg:Str→Option Value)(base:Heap)(N:List Str)(qual:Str)(sc:Scope)(f:Addr)(cd:Value)(A:aC)(outer:List Env)(s:af)(H:Hp)(E:XK):Cx:=
 (zU (CXN P w) P w K mg base N qual sc f cd A outer s H E).wish (XEN (zU (CXN P w) P w K mg base N qual sc f cd A outer s H E) fun _=>E)
section
variable {P:ai} {w:World} {K:ag} {mg:Str→Option Value} {base:Heap}
theorem Fun.okN{x qual:Str}{st:Stmt}{f:Addr}{fd:aj}{N ps:List Str}{k:Nat}{sp:Sp}(F:Fun K x qual st f fd)(S:xq N ps (xj st))(len:∀vs H Q E,sp vs H Q E→vs.length=ps.length)
  (hbody:∀(cdv:Value) (A:aC) (outer:List Env) (s:af) (H:Hp) (vs:List V) (Q:VK) (E:XK),xS k (A.deeper (cR qual (xj st) s.heap.objs.size f cdv))→sp vs H Q E→
   ∃t,PSs (cxN P w K mg base N qual (xj st) f cdv A outer s H E) (xN st) t∧t {nx:=fun _ H'=>Q .non H',rt:=Q} (start N vs) H):xA P w K mg base (CXN P w) (k+1) f fd ps sp:=by
 obtain⟨oc,od,kV,doc,pm,an,cdv,ct,osl,rfl,lk,hcd⟩:=F.ex;refine xe1 lk hcd S len fun A outer s H vs Q E hr hsp=>?_;obtain⟨t,h,q⟩:=hbody cdv A outer s H vs Q E hr hsp;refine⟨t,h.wished fun e s' ⟨a,cls,dx,σ,H',he,I,Fl,z⟩=>?_,q⟩;subst he;refine jv xeF I.ok.frames I Fl fun s2 I2 F2=>?_;obtain⟨oe,vs,a0,T,oT,ts,he,hc,hx,hd,h0,h1,h2,nT,hT,hdT,h3,hn,hnT⟩:=F2;exact⟨a,cls,dx,H',oe,vs,a0,T,oT,ts,rfl,I2.os,I2.bare,I2.base,I2.hok,he,hc,hx,hd,h0,h1,h2,nT,hT,hdT,h3,hn.1,hn.2.1,hnT.1,hnT.2.1,z⟩
end
section
variable {X:Cx} {EE:EEs}
theorem xek{pins:List (Addr×Obj)}{σ:St}{H:Hp}{s s':af}{e:Value}(o:Own X)(I:Inv (X.wish (XEN X EE)) pins σ H s)(h:CXN X.prog X.w X.stack H s (EE σ) e s'):XEN X EE e s':=by
 obtain⟨a,cls,dx,H',oe,vs,a0,T,oT,ts,rfl,os,bare,un,hok,he,hc,hx,hd,h0,h1,h2,nT,hT,hdT,h3,n1,n2,n3,n4,q⟩:=h;have I0:Inv X pins σ H s:=I.unwish;have I1:Inv X pins σ H' s':=I0.call' os un hok bare fun b z=>absurd z (by simp);have nu:∀b,H' b=none→s.heap.get? b=none→Nu X H' b:=fun b m1 m2=>by
  refine⟨m1,?_,fun p hp z=>?_⟩
  ·cases q:X.s₀.heap.get? b with
   |none=>rfl
   |some u=>
    obtain⟨u',e⟩:=I0.base.there b u q (by rw[o.ex];simp);rw[m2]at e;cases e
  ·have:=(I0.pin p (aV _ hp)).1;rw[z,m2]at this;cases this
 exact⟨a,cls,dx,σ,H',rfl,I1.nopins,.inr (.inl ⟨oe,vs,a0,T,oT,ts,he,hc,hx,hd,h0,h1,h2,nT,hT,hdT,h3,nu a n1 n2,nu T n3 n4⟩),q⟩
variable {k:Nat} {f C:Addr} {fd:aj} {ps:List Str} {sp:Sp} {dvs:List V} {ds:List Value} {x m:Str} {p pos apos:Pos} {e ob:Expr} {es:List Expr} {ta:TE} {t:TA}
theorem xjq{pins:List (Addr×Obj)}{σ:St}{H:Hp}{s:af}{Q:VK}{us:List Value}{vs:List V}(o:Own X)(F:xA X.prog X.w X.K X.mg X.base (CXN X.prog X.w) k f fd ps sp)(hr:xS k X.A)(hb:Binds X.K fd ps ds)(hd:Vals dvs ds)
  (I:Inv (X.wish (XEN X EE)) pins σ H s) (r:Vals vs us) (h:sp (vs++dvs) H Q (EE σ)):wpAny (model X.prog X.w) X.A (call (.ref f) us) (EP (X.wish (XEN X EE)) pins σ Q) (XEN X EE) s:=by
 have r2:Vals (vs++dvs) (us++ds):=r.append hd;have hl:(us++ds).length=ps.length:=r2.length.symm.trans (F.len _ _ _ _ h);refine cJ (bR (F.run X.A X.stack s H ⟨us,[]⟩ (us++ds) (vs++dvs) Q (EE σ) hr I.unwish.env0 (hb s us I.unwish.kIn hl) r2 h) fun z s' hq=>?_)
 match z,hq with
 | .error e,hq=>exact xek o I hq
 | .ok (.ret u),hq=>exact I.after hq
 | .ok .next,hq=>exact hq.elim
 | .ok .brk,hq=>exact hq.elim
 | .ok .cont,hq=>exact hq.elim
end
section
variable {X:Cx} {EE:EEs}
end
end L2
namespace L2
open PySem PySem.Spec PyProof.Rows
section
variable {prog:ai} {w:World} {A:aC} {E:Value→af→Prop} {s:af} {env:Env}
variable {nm q:Str} {C N:Addr} {bs bm:List Value} {hdct:Bool} {sn:List Str} {sub:List Value} {ab:Bool} {col:Option Bool} {dd:Option Addr} {k0 k1 k2 k3 k5:Option Value} {newId:String}
theorem xhS{e:Value}{h:Addr}{oh:Obj}{vh:Array Value}{Q:Value→af→Prop}(he:s.heap.get? h=some oh)(hd:oh.data= .fields vh)(h2:vh[2]? =some .none)(hq:Q .none s):
  wpAny (model prog w) A (runValue (.builtin "proto.unchain" ⟨[e,.ref h,.ref h,.bool false],[]⟩)) Q E s:=by
 refine wpAny_runValue (fC (entryFor_of_fast (by kernel_rfl):entryFor table "proto.unchain"=some ie.«proto.unchain») ?_);show wpAny _ _ (field (.ref h) 2 >>= _) _ _ s;refine aa (bj he hd h2 ?_);rw[if_pos (by rfl)];exact ao hq
end
section
variable {X:Cx} {EE:EEs}
end
end L2
namespace L2
open PySem PySem.Spec PyProof.Rows
section
variable {X:Cx}
def xpj:V→V→V→Hp→(Hp→Prop)→Prop:=fun o i v H Q=>xmT o i v H Q∨∃a H',o= .ref a∧xc8 H a i v H'∧Q H'
theorem xgV(hu:X.A.units+1<cLine):xlX X xpj:=by
 intro pins s σ H o i v ov iv u Q I ro ri rv h;rcases h with h|⟨a,H',rfl,g,q⟩
 ·exact set_list pins s σ H o i v ov iv u Q I ro ri rv h
 ·cases (show ov=az a from ro);exact xgI hu I g ri rv fun s' I'=>⟨H',I',q⟩
end
abbrev xfl(A:aC):aC:={A with handled:=none}
abbrev SpE:=Addr→Value→Option Addr→Sp
structure xkf(P:ai)(w:World)(K:ag)(mg:Str→Option Value)(base:Heap)(k:Nat)(f:Addr)(fd:aj)(ps:List Str)(sp:SpE):Prop where
 len:∀a cls dx vs H Q E,sp a cls dx vs H Q E→vs.length=ps.length
 run:∀(A:aC) (outer:List Env) (s:af) (H:Hp) (args:Args) (us:List Value) (vs:List V) (Q:VK) (E:XK) (a:Addr) (oe:Obj),xS k (xfl A)→jf P w K mg base A outer s H→hX s fd args (ps.zip us)→Vals vs us→
  s.heap.get? a=some oe→H a=none→a∉frs outer→(∃vs,oe.data= .fields vs)→sp a oe.cls oe.dict vs H Q E→b9 (model P w) A (.call (.ref f) args) (CR CX0 outer P w H s Q E) s
abbrev cxE(P:ai)(w:World)(K:ag)(mg:Str→Option Value)(base:Heap)(N:List Str)(qual:Str)(scope:Scope)(f:Addr)(cd:Value)(A:aC)(outer:List Env)(s:af)(H:Hp)(E:XK)(qs:List (Addr×Obj)):Cx:=
 {zU CX0 P w K mg base N qual scope f cd A outer s H E with calm:=false,pn:=qs,xe:=fun _ _=>False}
theorem jf.calm{P:ai}{w:World}{K:ag}{mg:Str→Option Value}{base:Heap}{A:aC}{outer:List Env}{s:af}{H:Hp}(e:jf P w K mg base A outer s H):jf P w K mg base (xfl A) outer s H:=
 ⟨e.frames,e.mod,e.bs,e.bsz,e.funs,e.frf,e.hok,e.bare⟩
theorem Fun.okE{P:ai}{w:World}{K:ag}{mg:Str→Option Value}{base:Heap}{x qual:Str}{st:Stmt}{f:Addr}{fd:aj}{N ps:List Str}{k:Nat}{sp:SpE}(F:Fun K x qual st f fd)(S:xq N ps (xj st))(len:∀a cls dx vs H Q E,sp a cls dx vs H Q E→vs.length=ps.length)
  (hbody:∀(cdv:Value) (A:aC) (outer:List Env) (s:af) (H:Hp) (vs:List V) (Q:VK) (E:XK) (qs:List (Addr×Obj)) (a:Addr) (cls:Value) (dx:Option Addr),(∃oe:Obj,(a,oe)∈qs∧oe.cls=cls∧oe.dict=dx∧∃vs,oe.data= .fields vs)→xS k ((xfl A).deeper (cR qual (xj st) s.heap.objs.size f cdv))→sp a cls dx vs H Q E→
   ∃t,PSs (cxE P w K mg base N qual (xj st) f cdv A outer s H E qs) (xN st) t∧t {nx:=fun _ H'=>Q .non H',rt:=Q} (start N vs) H):xkf P w K mg base (k+1) f fd ps sp:=by
 obtain⟨oc,od,kV,doc,pm,an,cdv,ct,osl,rfl,lk,hcd⟩:=F.ex;refine⟨len,fun A outer s H args us vs Q E a oe hr e0 hb r ha hn hf hdat hsp=>?_⟩;have hl:=len _ _ _ _ _ _ _ hsp;have KX:K.In s.heap:=e0.mod.kin.keeps fun b o e=>(e0.bs b o e).1;have lim:s.heap.NoLimit:=e0.mod.nolimit.keeps fun b o e=>(e0.bs b o e).1;have hkind:∀y∈ps.zip us,(xj st).names.lookup y.1=some .local∨((xj st).names.lookup y.1=some .cell∧((fh (s.heap.objs.size+1) (xj st).names []).lookup y.1).isSome=true):=fun⟨n,v⟩ hy=>by
  rcases S.par n (cu hy).1 with q|q
  ·exact .inl q
  ·exact .inr ⟨q,c8 _ _ _ (.inl q)⟩
 refine cn (show A.depth<hI from hr.depth) (KX _ _ lk) rfl S.co S.gen rfl (fy KX hcd) (hb _ _ _ _ ?_);refine cc S.kind hkind fun env he s1 x=>?_;subst he;refine⟨lim.keeps x.toInCall.keep,fz ?_⟩;obtain⟨t,ht,hq⟩:=hbody cdv A outer s H vs Q E [(a,oe)] a oe.cls oe.dict ⟨oe,au.mpr rfl,rfl,rfl,hdat⟩ (hr.deeper _) hsp;have I0:Inv (zU CX0 P w K mg base N qual (xj st) f cdv (xfl A) outer s H E) [] (start N vs) H s1:=jy S rfl (e0.calm) hl r x;have ok0:=I0.ok;have I:Inv (cxE P w K mg base N qual (xj st) f cdv A outer s H E [(a,oe)]) [] (start N vs) H s1:=by
  refine⟨⟨ok0.mod,ok0.kind,ok0.glob,ok0.blt,ok0.above,ok0.inj,ok0.has,ok0.cab,(fun z=>by cases z),ok0.frames,ok0.stk,ok0.exf,ok0.bs,ok0.bsz,ok0.noex,ok0.exfs,ok0.funs,ok0.frf,ok0.cab2,ok0.hz⟩,I0.os,I0.bare,I0.base,I0.loc,I0.cell,I0.free,I0.freeC,fun p hp=>?_,I0.hok,I0.len⟩;obtain rfl:p=(a,oe):=by simpa using hp
  refine⟨x.toInCall.keep _ _ ha,hn,?_,hf,fun v z=>?_⟩
  ·exact aE (ax ha)
  ·obtain⟨vs,e⟩:=hdat;rw[show(a,oe).2.data=oe.data from rfl,e]at z;cases z
 refine aG (ht [] s1 (start N vs) H _ I hq) (fun fl s' hs=>?_) fun e s' hs=>hs.elim;have fin:∀{σ':St} {H':Hp} {v:V} {u:Value},Inv (cxE P w K mg base N qual (xj st) f cdv A outer s H E [(a,oe)]) [] σ' H' s'→RelV v u→Q v H'→CE outer P w H s Q u s':=
  fun{σ' H' v u} J rv q=>⟨v,H',J.os,J.bare,J.base,J.hok,rv,q⟩
 cases fl with
 |ret u=>
  obtain⟨v,σ',H',J,rv,q⟩:=hs;exact fin J rv q
 |next=>
  obtain⟨σ',H',J,q⟩:=hs;exact fin (v:=V.non) (u:=aS) J rfl q
 |brk=>
  obtain⟨_,_,_,q⟩:=hs;exact aT q
 |cont=>
  obtain⟨_,_,_,q⟩:=hs;exact aT q
section
variable {X:Cx} {k:Nat} {f:Addr} {fd:aj} {ps:List Str} {sp:SpE} {x:Str} {p pos:Pos} {e:Expr} {es:List Expr} {t:TA}
theorem xS.calm{k:Nat}{A:aC}{m:Option Value}(r:xS k A):xS k (xfl (A.mark m)):=by
 cases m with
 |none=>exact⟨rfl,r.dp,r.un⟩
 |some v=>exact⟨rfl,r.dp,r.un⟩
end
end L2
namespace L2
open PySem PySem.Spec PyProof.Rows
theorem xnN{P:ai}{w:World}{outer:List Env}{H:Hp}{s:af}{E:XK}{e:Value}{s':af}(h:CXN P w outer H s E e s'):CXE P w outer H s E e s':=by
 obtain⟨a,cls,dx,H',oe,vs,a0,T,oT,ts,r1,os,bare,un,hok,he,hc,hx,hd,h0,h1,_,nT,hT,hdT,h3,n1,n2,n3,n4,q⟩:=h;exact⟨a,cls,dx,H',oe,vs,a0,T,oT,ts,r1,os,bare,un,hok,he,hc,hx,hd,h0,h1,nT,hT,hdT,h3,n1,n2,n3,n4,q⟩
theorem xA.toX{P:ai}{w:World}{K:ag}{mg:Str→Option Value}{base:Heap}{k:Nat}{f:Addr}{fd:aj}{ps:List Str}{sp:Sp}(F:xA P w K mg base (CXN P w) k f fd ps sp):xA P w K mg base (CXE P w) k f fd ps sp:=
 ⟨F.len,fun A outer s H args us vs Q E hr e0 hb r hsp=>bR (F.run A outer s H args us vs Q E hr e0 hb r hsp) fun z s' hq=>by
  match z,hq with
  | .error e,hq=>exact xnN hq
  | .ok (.ret u),hq=>exact hq
  | .ok .next,hq=>exact hq
  | .ok .brk,hq=>exact hq
  | .ok .cont,hq=>exact hq⟩
section
variable {X:Cx} {pins:List (Addr×Obj)} {σ:St} {H:Hp} {s:af}
end
section
variable {P:ai} {w:World} {K:ag} {mg:Str→Option Value} {base:Heap}
theorem Fun.okNC{x qual:Str}{st:Stmt}{f c:Addr}{fd:aj}{N ps:List Str}{k:Nat}{sp:Sp}(F:Fun K x qual st f fd)(hc:fd.code= .ref c)(S:xq N ps (xj st))(len:∀vs H Q E,sp vs H Q E→vs.length=ps.length)
  (hbody:∀(A:aC) (outer:List Env) (s:af) (H:Hp) (vs:List V) (Q:VK) (E:XK),xS k (A.deeper (cR qual (xj st) s.heap.objs.size f (.ref c)))→sp vs H Q E→
   ∃t,PSs (cxN P w K mg base N qual (xj st) f (.ref c) A outer s H E) (xN st) t∧t {nx:=fun _ H'=>Q .non H',rt:=Q} (start N vs) H):xA P w K mg base (CXN P w) (k+1) f fd ps sp:=by
 obtain⟨oc,od,kV,doc,pm,an,cdv,ct,osl,rfl,lk,hcd⟩:=F.ex;obtain rfl:cdv= .ref c:=hc;refine xe1 lk hcd S len fun A outer s H vs Q E hr hsp=>?_;obtain⟨t,h,q⟩:=hbody A outer s H vs Q E hr hsp;refine⟨t,h.wished fun e s' ⟨a,cls,dx,σ,H',he,I,Fl,z⟩=>?_,q⟩;subst he;refine jv xeF I.ok.frames I Fl fun s2 I2 F2=>?_;obtain⟨oe,vs,a0,T,oT,ts,he,hc,hx,hd,h0,h1,h2,nT,hT,hdT,h3,hn,hnT⟩:=F2;exact⟨a,cls,dx,H',oe,vs,a0,T,oT,ts,rfl,I2.os,I2.bare,I2.base,I2.hok,he,hc,hx,hd,h0,h1,h2,nT,hT,hdT,h3,hn.1,hn.2.1,hnT.1,hnT.2.1,z⟩
end
abbrev xqQ(cap:List Str)(P:ai)(w:World)(K:ag)(mg:Str→Option Value)(base:Heap)(N:List Str)(qual:Str)(sc:Scope)(f:Addr)(cd:Value)(A:aC)(outer:List Env)(s:af)(H:Hp)(E:XK):Cx:=
 (uI cap (CXN P w) P w K mg base N qual sc f cd A outer s H E).wish (XEN (uI cap (CXN P w) P w K mg base N qual sc f cd A outer s H E) fun _=>E)
theorem Fun.okNK{P:ai}{w:World}{K:ag}{mg:Str→Option Value}{base:Heap}{x qual:Str}{st:Stmt}{f c:Addr}{fd:aj}{N ps:List Str}{k:Nat}{sp:Sp}(cap:List Str)(F:Fun K x qual st f fd)(hc:fd.code= .ref c)(S:xq N ps (xj st))(len:∀vs H Q E,sp vs H Q E→vs.length=ps.length)
  (hbody:∀(A:aC) (outer:List Env) (s:af) (H:Hp) (vs:List V) (Q:VK) (E:XK),xS k (A.deeper (cR qual (xj st) s.heap.objs.size f (.ref c)))→sp vs H Q E→
   ∃t,PSs (xqQ cap P w K mg base N qual (xj st) f (.ref c) A outer s H E) (xN st) t∧t {nx:=fun _ H'=>Q .non H',rt:=Q} (start N vs) H):xA P w K mg base (CXN P w) (k+1) f fd ps sp:=by
 obtain⟨oc,od,kV,doc,pm,an,cdv,ct,osl,rfl,lk,hcd⟩:=F.ex;obtain rfl:cdv= .ref c:=hc;refine⟨len,fun A outer s H args us vs Q E hr e0 hb r hsp=>?_⟩;have hl:=len _ _ _ _ hsp;have KX:K.In s.heap:=e0.mod.kin.keeps fun b o e=>(e0.bs b o e).1;have lim:s.heap.NoLimit:=e0.mod.nolimit.keeps fun b o e=>(e0.bs b o e).1;have hkind:∀y∈ps.zip us,(xj st).names.lookup y.1=some .local∨((xj st).names.lookup y.1=some .cell∧((fh (s.heap.objs.size+1) (xj st).names []).lookup y.1).isSome=true):=fun⟨n,v⟩ hy=>by
  rcases S.par n (cu hy).1 with q|q
  ·exact .inl q
  ·exact .inr ⟨q,c8 _ _ _ (.inl q)⟩
 refine cn hr.depth (KX _ _ lk) rfl S.co S.gen rfl (fy KX hcd) (hb _ _ _ _ ?_);refine cc S.kind hkind fun env he s1 x=>?_;subst he;refine⟨lim.keeps x.toInCall.keep,fz ?_⟩;obtain⟨t,ht0,hq⟩:=hbody A outer s H vs Q E (hr.deeper _) hsp;have ht:PSs (uI cap (CXN P w) P w K mg base N qual (xj st) f (.ref c) A outer s H E) (xN st) t:=ht0.wished fun e s' ⟨a,cls,dx,σ,H',he,I,Fl,z⟩=>by
  subst he;refine jv ⟨rfl,rfl,rfl⟩ I.ok.frames I Fl fun s2 I2 F2=>?_;obtain⟨oe,vs,a0,T,oT,ts,he,hc,hx,hd,h0,h1,h2,nT,hT,hdT,h3,hn,hnT⟩:=F2;exact⟨a,cls,dx,H',oe,vs,a0,T,oT,ts,rfl,I2.os,I2.bare,I2.base,I2.hok,he,hc,hx,hd,h0,h1,h2,nT,hT,hdT,h3,hn.1,hn.2.1,hnT.1,hnT.2.1,z⟩
 have I:Inv (zU (CXN P w) P w K mg base N qual (xj st) f (.ref c) A outer s H E) [] (start N vs) H s1:=jy S hr.hd e0 hl r x;have I':Inv (uI cap (CXN P w) P w K mg base N qual (xj st) f (.ref c) A outer s H E) [] (start N vs) H s1:=I.capd (fun _=>rfl) (xhw cap);refine aG (ht [] s1 (start N vs) H _ I' hq) (fun fl s' hs=>?_) fun e s' hs=>hs;have fin:∀{σ':St} {H':Hp} {v:V} {u:Value},Inv (uI cap (CXN P w) P w K mg base N qual (xj st) f (.ref c) A outer s H E) [] σ' H' s'→RelV v u→Q v H'→CE outer P w H s Q u s':=
  fun{σ' H' v u} J rv q=>⟨v,H',J.os,J.bare,J.base,J.hok,rv,q⟩
 cases fl with
 |ret u=>
  obtain⟨v,σ',H',J,rv,q⟩:=hs;exact fin J rv q
 |next=>
  obtain⟨σ',H',J,q⟩:=hs;exact fin (v:=V.non) (u:=aS) J rfl q
 |brk=>
  obtain⟨_,_,_,q⟩:=hs;exact aT q
 |cont=>
  obtain⟨_,_,_,q⟩:=hs;exact aT q
section
variable {X:Cx} {EE:EEs} {k:Nat} {f C:Addr} {fd:aj} {ps:List Str} {sp:Sp} {dvs:List V} {ds:List Value} {x m:Str} {p pos apos:Pos} {e o:Expr} {es:List Expr} {ta:TE} {t:TA}
theorem yi{pl:Sem Bool}(ow:Own X)(he:PE (X.wish (XEN X EE)) o ta)(c:Cls X.K C)(hm:Meth X.K C m f)(F:xA X.prog X.w X.K X.mg X.base (CXN X.prog X.w) k f fd ps sp)(hr:xS k X.A)(hb:Binds X.K fd ps ds)(hd:Vals dvs ds)(ha:PA (X.wish (XEN X EE)) (e::es) t)
  (hst:aA (e::es) X.env=(false,eval e X.env)::aA es X.env:=by rfl) (hpl:(bC pos (aA es X.env)).any (·.1)=false:=by rfl)
  (ht:eval (.Call (.Attribute o m apos) (e::es) [] pos) X.env=(do
   let ov ←eval o X.env
   fg apos.atName
   let(f,first) ←dN [ov] (dW ov m pl)
   dI pos f first (bC pos (aA (e::es) X.env)) (eW pos (dJ [] X.env))):=by rfl):
  PE (X.wish (XEN X EE)) (.Call (.Attribute o m apos) (e::es) [] pos) (xfk C m sp dvs EE ta t):=by
 intro pins s σ H Q I h;refine cO (pl:=pl) (thn (he pins s σ H _ I h) fun u s1 ⟨x,H1,I1,rx,a,dx,fs,ex,ea,l,q⟩=>?_) ht;subst ex;obtain rfl:u=az a:=rx;refine uF I1 ea c hm l ?_;refine eF (first:=[.ref a]) (h₀:=X.base) I.ok.mod.kin hm.kp (thn (ha pos pins s1 σ H1 _ I1 q) fun us s2 ⟨vs,H2,I2,r,q2⟩=>⟨I2.kIn,?_⟩) hst hpl;exact xjq (us:=.ref a::us) (vs:=.ref a::vs) ow F hr hb hd I2 (.cons rfl r) q2
theorem xgW{pl:Sem Bool}(ow:Own X)(he:PE (X.wish (XEN X EE)) o ta)(c:Cls X.K C)(hm:Meth X.K C m f)(F:xA X.prog X.w X.K X.mg X.base (CXN X.prog X.w) k f fd ps sp)(hr:xS k X.A)(hb:Binds X.K fd ps ds)(hd:Vals dvs ds)
  (ht:eval (.Call (.Attribute o m apos) [] [] pos) X.env=(do
   let ov ←eval o X.env
   fg apos.atName
   let(f,first) ←dN [ov] (dW ov m pl)
   dI pos f first (bC pos (aA [] X.env)) (eW pos (dJ [] X.env))):=by rfl):
  PE (X.wish (XEN X EE)) (.Call (.Attribute o m apos) [] [] pos) (xfk C m sp dvs EE ta uP):=by
 intro pins s σ H Q I h;refine cO (pl:=pl) (thn (he pins s σ H _ I h) fun u s1 ⟨x,H1,I1,rx,a,dx,fs,ex,ea,l,q⟩=>?_) ht;subst ex;obtain rfl:u=az a:=rx;refine uF I1 ea c hm l ?_;exact iF (first:=[.ref a]) I1.kIn hm.kp (xjq (us:=[.ref a]) (vs:=[.ref a]) ow F hr hb hd I1 (.cons rfl .nil) q)
end
section
variable {X:Cx} {EE:EEs}
theorem xkg{C g:Addr}{fd:aj}{ps:List Str}{fl x:Str}{k:Nat}{np cpos pos:Pos}{e:Expr}{t:TA}(o:Own X)(hc:X.calm=true)(q:xbq X.K C g)(F:xA X.prog X.w X.K X.mg X.base CX0 k g fd ps (xcf C fl))(hr:xS (k+1) X.A)(hb:Binds X.K fd ps [])
  (hg:Gl X x) (hm:X.mg x=some (.ref C)) (ha:PA (X.wish (XEN X EE)) [e] t)
  (hdb:(x==("__debug__":Str))=false:=by decide) (he:aA [e] X.env=(false,eval e X.env)::aA [] X.env:=by rfl) (hpl:(bC cpos (aA [e] X.env)).any (·.1)=false:=by rfl):
  PS (X.wish (XEN X EE)) (.Raise (some (.Call (.Name x np) [e] [] cpos)) none pos) (xnI C fl EE t):=by
 intro pins s σ H D I h;obtain⟨bm,N,nm,qn,bs,hdct,sn,sub,ab,col,dd,k0,k1,k2,k3,k5,hC,hN,hni,TL⟩:=q.obj I.ok.mod.kin;refine xka (C:=C) (N:=N) (bm:=bm) (nm:=nm) (q:=qn) (bs:=bs) (hdct:=hdct) (sn:=sn) (sub:=sub) (ab:=ab) (col:=col) (dd:=dd) (k0:=k0) (k1:=k1) (k2:=k2) (k3:=k3) (k5:=k5) (newId:="ValueError.__new__") (TL.hasType PySem.F.excBase_ValueError.hasBase) (I.ok.hd hc) hpl (zt I hg hm ⟨rfl,?_⟩ hdb);have ha':=ha cpos pins s σ H _ I h;rw[he]at ha';show wpAny (model X.prog X.w) X.A (iB (.ref C) true (bC cpos (aA [e] X.env)) []) _ _ s;rw[he];refine PySem.evalArgs_kw (keywords:=[]) rfl ?_;refine thn ha' fun us s1 ⟨vs,H1,I1,r,v,hv,y⟩=>?_;subst hv;have hl:us.length=1:=r.length.symm;refine ao ⟨rfl,I1.bk _ _ hC,?_⟩;obtain⟨hh,gg,dr,tt,oss⟩:=s1;have hfn:W.typeIn X.K (.ref g)=some (.type "function"):=beq_iff_eq.mp q.fn;obtain⟨og,hog,hgc⟩:=aR.mp (show(X.K.lookup g).map (·.cls)=_ from hfn);refine xhP PySem.F.excBase_ValueError (TL.keeps I1.bk) (I1.bk _ _ hC) (hN.keeps I1.bk) hni (I1.kIn _ _ hog) hgc (fun h' a mk hsz=>?_) (by show us.length≤aF;rw[hl];decide);obtain⟨t0,ea,_,_⟩:=mk.there;have nu:=xj6 o I1.unwish mk.new;have I2:=I1.laid (a:=a) (o:=HO.exc a C none) (t':=tt) mk.keeps hsz ⟨⟨_,t0,ea,rfl,rfl,rfl⟩,⟨_,ea⟩,fun h1 h2=>xdf⟩;have hl2:(az a::us++[]).length=ps.length:=by
  have:=F.len [.ref a,v] (upd H1 a (HO.exc a C none)) (fun _ _=>True) E0 ⟨a,v,rfl,xp,fun _ _ _=>trivial⟩;rw[←this];simp[hl]
 refine cJ (bR (F.run _ X.stack _ _ ⟨az a::us,[]⟩ (az a::us) [.ref a,v] (fun vv H3=>vv= .non∧∃d,H1 d=none∧d≠a∧H3=upd (upd (upd H1 a (HO.exc a C none)) d (.xd [(fl,v)])) a (HO.exc a C (some d))) E0 (hr.make C us [])
  (I2.env0.make C us []) (by have:=hb _ (az a::us) I2.kIn hl2;rwa [dB]at this) (.cons rfl r) ⟨a,v,rfl,xp,fun d n1 n2=>⟨rfl,d,by rwa [xm n2]at n1,n2,rfl⟩⟩) fun rr s' hq'=>?_)
 cases rr with
 |error e=>exact aT hq'
 |ok fl'=>
  cases fl' with
  |ret u=>
   obtain⟨vv,H',I3,rv,rfl,d,n1,n2,rfl⟩:=I2.after hq';obtain rfl:u=aS:=rv;obtain⟨⟨oe,t1,ea1,oc,od,odat⟩,_⟩:=I3.hok a _ xp;have hrem:rem (upd (upd (upd H1 a (HO.exc a C none)) d (.xd [(fl,v)])) a (HO.exc a C (some d))) a=upd H1 d (.xd [(fl,v)]):=by
    funext b
    unfold rem
    by_cases hb:b=a
    ·rw[if_pos hb,hb,xm (ak n2)];exact nu.1.symm
    ·rw[if_neg hb,xm hb]
     by_cases hd:b=d
     ·rw[hd,xp,xp]
     ·rw[xm hd,xm hd,xm hb]
   have I4:=I3.unwish.forget (a:=a) xp;rw[hrem]at I4;refine⟨rfl,a,t1,some d,oe.slots,rfl,I3.bk _ _ hC,?_,a,.ref C,some d,σ,_,rfl,I4.nopins,.inl ⟨oe,_,.ref t1,ea1,oc,od,odat,rfl,rfl,rfl,?_⟩,y d n1⟩
   ·obtain⟨c1,d1,dt1,sl1⟩:=oe;cases oc;cases od;cases odat;exact ea1
   ·exact⟨by rw[xm (ak n2)];exact nu.1,nu.2⟩
  |next=>exact aT hq'
  |brk=>exact aT hq'
  |cont=>exact aT hq'
end
end L2
namespace L2
open PySem PySem.Spec PyProof.Rows
section
variable {P:ai} {w:World} {K:ag} {mg:Str→Option Value} {base:Heap} {N ps fns:List Str} {nm qual:Str} {params:bX} {scope:Scope} {k:Nat}
theorem xdg{e:Expr}{sp:List (Str×V)→Sp}(S:zp N ps fns scope)(len:∀fv vs H Q E,sp fv vs H Q E→vs.length=ps.length∧fv.map (·.1)=fns)
  (hb:∀(clos:List (Str×Addr)) (doc pm cdv ctv:Value) (us:List Value),us.length=ps.length→
   dH {name:=nm,qualname:=qual,params,body:=.expr e,scope,globals:=a7,closure:=clos,defaults:=.none,kwdefaults:=.none,doc,pyModule:=pm,annotations:=none,code:=cdv,closureTuple:=ctv,builtins:=cb} ⟨us,[]⟩=pure (ps.zip us))
  (hbody:∀(A:aC) (outer:List Env) (s:af) (H:Hp) (f:Addr) (clos:List (Str×Addr)) (cdv:Value) (fv:List (Str×V)) (vs:List V) (Q:VK) (E:XK),xS k (A.deeper (fW qual scope s.heap.objs.size f cdv clos))→sp fv vs H Q E→
   ∃te,PE ((xca (CXN P w) P w K mg base N qual scope f cdv clos A outer s H E).wish (XEN (xca (CXN P w) P w K mg base N qual scope f cdv clos A outer s H E) fun _=>E)) e te∧te (xbP N vs fv) H Q):yO P w K mg base (CXN P w) (k+1) nm qual params (.expr e) scope ps sp:=
 xgQ S len hb fun A outer s H f clos cdv fv vs Q E s1 hr hsp I=>by
  obtain⟨te,ht,hq⟩:=hbody A outer s H f clos cdv fv vs Q E hr hsp;refine W.kla_codeExpr (aG (ht [] s1 _ H Q (I.wish _) hq) (fun v s' ⟨x,H',J,rv,q⟩=>?_) fun e s' hx=>?_)
  ·exact⟨x,H',J.os,J.bare,J.base,J.hok,rv,q⟩
  ·obtain⟨a,cls,dx,σ,H',rfl,I,Fl,z⟩:=hx;refine jv (X:=xca (CXN P w) P w K mg base N qual scope f cdv clos A outer s H E) ⟨rfl,rfl,rfl⟩ I.ok.frames I Fl fun s2 I2 F2=>?_;obtain⟨oe,vs,a0,T,oT,ts,he,hc,hx,hd,h0,h1,h2,nT,hT,hdT,h3,hn,hnT⟩:=F2;exact⟨a,cls,dx,H',oe,vs,a0,T,oT,ts,rfl,I2.os,I2.bare,I2.base,I2.hok,he,hc,hx,hd,h0,h1,h2,nT,hT,hdT,h3,hn.1,hn.2.1,hnT.1,hnT.2.1,z⟩
end
def xpk(P:ai)(w:World)(K:ag)(mg:Str→Option Value)(base:Heap)(k:Nat)(H:Hp)(f:Addr)(vs:List V)(Q:VK)(E:XK):Prop:=
 ∃nm qual params body scope ps sp fv,yO P w K mg base (CXN P w) k nm qual params body scope ps sp∧yG H f nm qual params body scope fv∧sp fv vs H Q E
section
variable {X:Cx} {EE:EEs} {k:Nat} {x:Str} {p pos:Pos}
theorem xmq{nm qual:Str}{params:bX}{body:dk}{scope:Scope}{ps:List Str}{sp:List (Str×V)→Sp}{pins:List (Addr×Obj)}{σ:St}{H:Hp}{s:af}{Q:VK}{us:List Value}{vs:List V}{f:Addr}{fv:List (Str×V)}(o:Own X)(F:yO X.prog X.w X.K X.mg X.base (CXN X.prog X.w) k nm qual params body scope ps sp)(hr:xS k X.A)
  (I:Inv (X.wish (XEN X EE)) pins σ H s) (hc:yG H f nm qual params body scope fv) (r:Vals vs us) (h:sp fv vs H Q (EE σ)):wpAny (model X.prog X.w) X.A (call (.ref f) us) (EP (X.wish (XEN X EE)) pins σ Q) (XEN X EE) s:=by
 refine cJ (bR (F.run X.A X.stack s H f fv us vs Q (EE σ) hr I.unwish.env0 hc r h) fun z s' hq=>?_)
 match z,hq with
 | .error e,hq=>exact xek o I hq
 | .ok (.ret u),hq=>exact I.after hq
 | .ok .next,hq=>exact hq.elim
 | .ok .brk,hq=>exact hq.elim
 | .ok .cont,hq=>exact hq.elim
def xmr(P:ai)(w:World)(K:ag)(mg:Str→Option Value)(base:Heap)(k:Nat)(i:Nat)(EE:EEs):TE:=fun σ H Q=>∃f,σ[i]? =some (some (.ref f))∧xpk P w K mg base k H f [] Q (EE σ)
theorem xkh{P:ai}{w:World}{K:ag}{mg:Str→Option Value}{base:Heap}(i:Nat)(o:Own X)(hr:xS k X.A)(hP:X.prog=P)(hw:X.w=w)(hK:X.K=K)(hmg:X.mg=mg)(hbs:X.base=base)(hN:X.N[i]? =some x:=by rfl)(hv:Vis X.env.scope x:=by first|exact ay rfl|exact cx (ay rfl)|exact cx (cx rfl))(hd:(x==("__debug__":Str))=false:=by decide)
  (hcd:(x==("__classdict__":Str))=false:=by decide):PE (X.wish (XEN X EE)) (.Call (.Name x p) [] [] pos) (xmr P w K mg base k i EE):=by
 subst hP hw hK hmg hbs;intro pins s σ H Q I h;obtain⟨f,e1,nm,qual,params,body,scope,ps,sp,fv,F,hc,q⟩:=h;refine bW (thn (xhA (X:=X.wish (XEN X EE)) (pos:=p) hN hv hd hcd pins s σ H (fun v H1=>v= .ref f∧H1=H) I ⟨_,e1,rfl,rfl⟩) fun u s1 ⟨v,H1,I1,r,q1,q2⟩=>?_);subst q1;subst q2;cases (show u=az f from r);exact W.callWith_F0 (hc.fn I1) (xmq o F hr I1 hc .nil q)
end
section
variable {prog:ai} {w:World} {A:aC} {E:Value→af→Prop} {s:af} {env:Env}
variable {nm q:Str} {C N:Addr} {bs bm:List Value} {hdct:Bool} {sn:List Str} {sub:List Value} {ab:Bool} {col:Option Bool} {dd:Option Addr} {k0 k1 k2 k3 k5:Option Value} {newId:String}
theorem xiL{x c:Sem Value}{h:Addr}{Q:Flow→af→Prop}(hbase:bm.contains (.type "BaseException")=true)(hh:A.handled=some (.ref h))
  (hx:wpAny (model prog w) A x (fun v s₁=>∃e t od sl,v= .ref e∧s₁.heap.get? C=some (dM nm q C N bs bm hdct sn sub ab col dd k0 k1 k2 k3 k5 newId)∧
   s₁.heap.get? e=some {cls:=.ref C,dict:=od,data:=.fields #[.ref t,.none,.none,.none,.bool false,.none],slots:=sl}∧C≠e∧h≠e∧(∃oh vh,s₁.heap.get? h=some oh∧oh.data= .fields vh∧vh[2]? =some .none)∧
   wpAny (model prog w) A c (fun cv s₂=>cv= .none∧s₂=s₁) E s₁∧∀h',eD e s₁.heap h'→h'.get? e=some {cls:=.ref C,dict:=od,data:=.fields #[.ref t,.none,.ref h,.none,.bool true,.none],slots:=sl}→E (.ref e) {s₁ with heap:=h'}) E s):
  wpAny (model prog w) A (raiseStmt env (some x) (some c)) Q E s:=by
 have hcB:(az C::bm).contains (.type "BaseException")=true:=by rw[iX,hbase,Bool.or_true]
 unfold raiseStmt;refine aa (aG hx (fun v s₁ h₁=>?_) fun _ _ z=>z);obtain⟨e,t,od,sl,rfl,hC,he,nCe,nhe,⟨oh,vh,eh,dh,h2⟩,hc,hE⟩:=h₁;refine aa (bt (aG hc (fun cv s₂ z=>?_) fun _ _ z=>z));obtain⟨rfl,rfl⟩:=z;refine aa (ao ?_);dsimp only;obtain⟨hp,g,d,tk,os⟩:=s₂
 repeat (first|with_reducible refine cz he ?_|with_reducible refine cz hC ?_|(with_reducible refine fJ hC ?_;rw[hcB])|wp_step)
 have e1:(hp.update e (ba fun x=>x.setIfInBounds 3 aS)).get? e=some {cls:=.ref C,dict:=od,data:=.fields #[.ref t,.none,.none,.none,.bool false,.none],slots:=sl}:=a5 (ba fun x=>x.setIfInBounds 3 aS) he rfl;have e2:((hp.update e (ba fun x=>x.setIfInBounds 3 aS)).update e (ba fun x=>x.setIfInBounds 4 (cI true))).get? e=some {cls:=.ref C,dict:=od,data:=.fields #[.ref t,.none,.none,.none,.bool true,.none],slots:=sl}:=a5 (ba fun x=>x.setIfInBounds 4 (cI true)) e1 rfl;have ot:∀b,b≠e→((hp.update e (ba fun x=>x.setIfInBounds 3 aS)).update e (ba fun x=>x.setIfInBounds 4 (cI true))).get? b=hp.get? b:=fun b nb=>(aM _ _ (ak nb)).trans (aM _ _ (ak nb));unfold raiseNew;refine aa (wpAny_handled ?_);rw[hh];dsimp only;rw[if_pos (by simpa using nhe)];refine aa (bt (xhS ((ot h nhe).trans eh) dh h2 ?_));show wpAny _ _ (setField (.ref e) 2 (.ref h) >>= fun _=>throw (.ref e)) _ _ _;refine aa (cq e2 rfl (show 2<6 by decide) (wpAny_throw (hE _ ?_ (a5 (ba fun x=>x.setIfInBounds 2 (az h)) e2 rfl))));exact((du hp e _).trans (du _ e _)).trans (du _ e _)
end
section
variable {X:Cx}
theorem xms{M:Model}{A':aC}{E:Value→af→Prop}{Q:Unit→af→Prop}{pins:List (Addr×Obj)}{σ:St}{H:Hp}{s:af}{i:Nat}{n:Str}{pos:Pos}(I:Inv X pins σ H s)(hN:X.N.Nodup)(hi:X.N[i]? =some n)(hk:X.env.kindOf n=some .local)
  (h:∀s',Inv X pins (σ.set i none) H s'→(∀b,b≠X.env.locals→s'.heap.get? b=s.heap.get? b)→Q () s'):wpAny M A' (do bindName X.env n .none;fD X.env n pos) Q E s:=by
 obtain⟨m,hn,hl⟩:=id I.loc;refine wpAny_nameGoes_keeps hk hn (by rw[I.ok.kind];rfl) fun h' v hn' hs=>h _ ?_ (fun b nb=>hs.2 b nb);have neL:∀b u,X.s₀.heap.get? b=some u→b≠X.env.locals:=fun b u e=>aE (aD (ax e) I.ok.above);obtain⟨oL,_,_,hoL,_⟩:=id hn;refine⟨I.ok,I.os,I.bare,⟨fun b o e n hb hx=>?_,fun b o e n hb hx=>?_,I.base.free,fun b o e hx=>?_,I.base.fix⟩,⟨_,hn',fun j y v' e1 e2 e3=>?_⟩,fun y c e=>?_,I.free,fun y c e=>?_,fun p hp=>?_,fun b u e=>?_,by simpa using I.len⟩
 ·exact(hs.2 b (neL b o e)).trans (I.base.keep b o e n hb hx)
 ·obtain⟨sl,e1⟩:=I.base.slot b o e n hb hx;exact⟨sl,(hs.2 b (neL b o e)).trans e1⟩
 ·obtain⟨o',e1⟩:=I.base.there b o e hx;exact⟨o',(hs.2 b (neL b o e)).trans e1⟩
 ·have hj:j≠i:=fun z=>by
   rw[z]at e2
   by_cases hi':i<σ.length
   ·rw[bT hi']at e2;cases e2
   ·rw[dR (by simpa using hi')]at e2;cases e2
  rw[bD (ak hj)]at e2;obtain⟨u',r',q⟩:=hl j y v' e1 e2 e3;refine⟨u',r',q.imp (fun⟨k,e⟩=>⟨k,?_⟩) fun⟨k,c,e,z⟩=>⟨k,c,e,z.sameBut hs (I.cne y c e)⟩⟩;have:y≠n:=fun e=>hj (je hN e1 (e▸hi));simp[this,e]
 ·obtain⟨w',z⟩:=I.cell y c e;exact⟨w',z.sameBut hs (I.cne y c e)⟩
 ·refine(I.freeC y c e).imp id fun⟨hf',o',ho',hno⟩=>⟨hf',o',ho',fun z j v' e1 k e2=>?_⟩;have hj:j≠i:=fun z=>by
   rw[z]at e2
   by_cases hi':i<σ.length
   ·rw[bT hi']at e2;cases e2
   ·rw[dR (by simpa using hi')]at e2;cases e2
  rw[bD (ak hj)]at e2;exact hno z j v' e1 k e2
 ·obtain⟨e,n,ne,nf,d⟩:=I.pin p hp;exact⟨(hs.2 p.1 ne).trans e,n,ne,nf,d⟩
 ·refine(I.hok b u e).stay (fun c w' hc q=>(hs.2 c ?_).trans q) (fun _ q=>q) fun _ _ q _=>q;rintro rfl;rcases hc with rfl|hc
  ·rw[I.free]at e;cases e
  ·rw[I.free]at hc;cases hc
end
def xhT(K:ag)(C' C2:Addr)(i:Nat)(fl:Str)(EE:EEs)(t1:Addr→Value→Option Addr→TS)(ta:Addr→Value→Option Addr→TA):EEs:=fun σ cls dx H=>∃C,cls= .ref C∧aW K (.ref C) (.ref C')=some true∧∀a,H a=none→
 t1 a cls dx {nx:=fun σ2 H2=>ta a cls dx σ2 H2 fun vs H3=>∃v,vs=[v]∧∀d,H3 d=none→EE (σ2.set i none) (.ref C2) (some d) (upd H3 d (.xd [(fl,v)])),rt:=fun _ _=>False} (σ.set i (some (.ref a))) H
def xki(K:ag)(C' C2:Addr)(i:Nat)(fl:Str)(EE:EEs)(tb:EEs→TS)(t1:Addr→Value→Option Addr→TS)(ta:Addr→Value→Option Addr→TA):TS:=fun D σ H=>tb (xhT K C' C2 i fl EE t1 ta) D σ H
section
variable {X:Cx} {EE:EEs}
theorem xhU{C' C2 g:Addr}{fd:aj}{qs:List Str}{fl y n x:Str}{i k:Nat}{np hp pos np2 cpos rpos p2:Pos}{n2:Nat}{body:List Stmt}{st1:Stmt}{e:Expr}{tb:EEs→TS}{t1:Addr→Value→Option Addr→TS}{ta:Addr→Value→Option Addr→TA}
  (o:Own X) (hb:xbp X.K C') (hg:Gl X y) (hm:X.mg y=some (.ref C')) (q2:xbq X.K C2 g) (F:xkf X.prog X.w X.K X.mg X.base k g fd qs (fun _ _ _=>xcf C2 fl)) (hr:xS (k+1) X.A) (hbn:Binds X.K fd qs []) (hg2:Gl X x) (hm2:X.mg x=some (.ref C2))
  (hN:X.N.Nodup) (hi:X.N[i]? =some n) (hk:X.env.kindOf n=some .local)
  (hbody:∀(EE:EEs) (ps:List (Addr×Obj)),PSs ((X.pnd ps).wish (XEN (X.pnd ps) EE)) body (tb EE))
  (hst:∀(ps:List (Addr×Obj)) (a:Addr) (cls:Value) (dx:Option Addr),(∃oe:Obj,(a,oe)∈ps∧oe.cls=cls∧oe.dict=dx∧∃vs,oe.data= .fields vs)→PS (X.held a ps) st1 (t1 a cls dx))
  (ha:∀(ps:List (Addr×Obj)) (a:Addr) (cls:Value) (dx:Option Addr),(∃oe:Obj,(a,oe)∈ps∧oe.cls=cls∧oe.dict=dx∧∃vs,oe.data= .fields vs)→PA (X.held a ps) [e] (ta a cls dx))
  (hdb:(y==("__debug__":Str))=false:=by decide) (hdb2:(x==("__debug__":Str))=false:=by decide) (hse:aA [e] X.env=(false,eval e X.env)::aA [] X.env:=by rfl) (hpl:(bC cpos (aA [e] X.env)).any (·.1)=false:=by rfl):
  PS (X.wish (XE X EE)) (.Try body [.ExceptHandler (some (.Name y np)) (some n) [st1,.Raise (some (.Call (.Name x np2) [e] [] cpos)) (some (.Constant .none n2 p2)) rpos] hp] [] [] pos) (xki X.K C' C2 i fl EE tb t1 ta):=by
 intro pins s σ H D I h;have ok:=I.unwish.ok;refine gI (aG (hbody (xhT X.K C' C2 i fl EE t1 ta) pins [] s σ H D (I.unwish.pnd.wish _) h) (fun f s1 hq=>?_) fun e9 s1 hx=>?_)
 ·have hq0:SP X pins D f s1:=(SP.unwish hq).unpnd ok;have hq':SP (X.wish (XE X EE)) pins D f s1:=by
   cases f with
   |next=>obtain⟨σ',H',I,q⟩:=hq0;exact⟨σ',H',I.wish _,q⟩
   |brk=>obtain⟨σ',H',I,q⟩:=hq0;exact⟨σ',H',I.wish _,q⟩
   |cont=>obtain⟨σ',H',I,q⟩:=hq0;exact⟨σ',H',I.wish _,q⟩
   |ret u=>obtain⟨v,σ',H',I,r,q⟩:=hq0;exact⟨v,σ',H',I.wish _,r,q⟩
  cases f with
  |next=>exact dA hq'
  |brk=>exact hq'
  |cont=>exact hq'
  |ret u=>exact hq'
 ·obtain⟨a,cls,dx,σ1,H1,rfl,I1,F1,C,rfl,hkc,q⟩:=hx;refine xhR (X:=X.pnd pins) o.pnd ok.frames I1 F1 fun s2 I2 F2=>?_;refine xch (X:=X.pnd pins) (to:=none) o.pnd I2 F2 fun s3 I3 F3=>?_;refine eo (dS ?_) (by intro z;cases z);obtain⟨oe,vs,a0,T,oT,ts',he,hc,hx,hd,h0,h1,h2,nT,hT,hdT,h3,hn,hnT⟩:=id F3;have J3:=Inv.held I3 ok he hn.1 hd;refine zt J3 hg hm ?_ hdb;refine xaj (K:=X.K) I3.kIn he hc hkc hb ?_;refine gq ?_;refine xch (X:=X.pnd pins) (to:=none) o.pnd I3 F3 fun s4 I4 F4=>?_;obtain⟨oe',vs',a0',T',oT',ts'',he',hc',hx',hd',h0',h1',h2',nT',hT',hdT',h3',hn',hnT'⟩:=id F4;have J4:=Inv.held I4 ok he' hn'.1 hd';refine xaq (X:=X.held a (pins++[(a,oe')])) (v:=.ref a) J4 hN hi (.inl hk) rfl (fun s5 J5=>?_) (.inr hk);have hex:∃oe9:Obj,(a,oe9)∈pins++[(a,oe')]∧oe9.cls= .ref C∧oe9.dict=dx∧∃vs,oe9.data= .fields vs:=⟨oe',by simp,hc',hx',_,hd'⟩;have key:∀e s',XE X EE e s'→notedBy (model X.prog X.w) (X.A.mark (some (.ref a))) X.env (fun x s2=>fF (model X.prog X.w) X.A X.env (XE X EE) x s2) e s':=by
   rintro e s' ⟨a9,cls,dx,σ,H,rfl,I,F,q⟩;refine xd0 o I.ok.frames I F fun s1 I1 F1=>?_;unfold fF;obtain⟨oe,vs,a0,T,oT,ts,he,hc,hx,hd,h0,h1,_⟩:=id F1;refine aa (bj he hd h1 ?_);rw[if_neg (by simp)];refine vy (to:=X.env.frame) o I1 F1 fun s2 I2 F2=>⟨a9,cls,dx,σ,H,rfl,I2,.inr (.inr ?_),q⟩;rw[o.fr]at F2;exact F2
  have out:∀e s',XE X (fun σ=>EE (σ.set i none)) e s'→wpAny (model X.prog X.w) (X.A.mark (some (.ref a))) (fV e X.env) (fun _ s₃'=>wpAny (model X.prog X.w) (X.A.mark (some (.ref a))) (do bindName X.env n .none;fD X.env n hp)
    (fun _ s₄=>wpAny (model X.prog X.w) (X.A.mark (some (.ref a))) (PySem.passOn "try.except-as" e X.env:Sem Flow) (fun _ _=>False) (notedBy (model X.prog X.w) (X.A.mark (some (.ref a))) X.env (fun x s2=>fF (model X.prog X.w) X.A X.env (XE X EE) x s2)) s₄)
    (fun y s₄=>wpAny (model X.prog X.w) (X.A.mark (some (.ref a))) (gR e none) (fun _ s₅=>(notedBy (model X.prog X.w) (X.A.mark (some (.ref a))) X.env (fun x s2=>fF (model X.prog X.w) X.A X.env (XE X EE) x s2)) y s₅) (notedBy (model X.prog X.w) (X.A.mark (some (.ref a))) X.env (fun x s2=>fF (model X.prog X.w) X.A X.env (XE X EE) x s2)) s₄) s₃') (notedBy (model X.prog X.w) (X.A.mark (some (.ref a))) X.env (fun x s2=>fF (model X.prog X.w) X.A X.env (XE X EE) x s2)) s':=by
   rintro e s' ⟨a9,cls,dx,σ,H,rfl,I,F,q⟩;refine xd0 o I.ok.frames I F fun s1 I1 F1=>?_;refine xms I1 hN hi hk fun s2 I2 hs2=>?_;obtain⟨oe,vs,a0,T,oT,ts,he,hc,hx,hd,h0,h1,nT,hT,hdT,h3,hn,hnT⟩:=id F1;have hnl:∀b ob vb,s1.heap.get? b=some ob→ob.data= .fields vb→b≠X.env.locals:=fun b ob vb e1 e2 z=>by
    obtain⟨m,⟨u,es,ep,e,d⟩,_⟩:=I1.loc;rw[z,e]at e1;cases e1;rw[d.1]at e2;cases e2
   have F2:xaw X (bc X.env.locals) H s2.heap a9 cls dx:=⟨oe,vs,a0,T,oT,ts,(hs2 _ (hnl _ _ _ he hd)).trans he,hc,hx,hd,h0,h1,nT,(hs2 _ (hnl _ _ _ hT hdT)).trans hT,hdT,h3,hn,hnT⟩;unfold PySem.passOn;refine aa (bj ((hs2 _ (hnl _ _ _ he hd)).trans he) hd h1 ?_);rw[if_neg (by simp)];refine aa (vy (to:=X.env.frame) o I2 F2 fun s3 I3 F3=>wpAny_throw (key _ _ ⟨a9,cls,dx,_,H,rfl,I3,.inr (.inr ?_),q⟩));rw[o.fr]at F3;exact F3
  refine aG (Q:=fun _ _=>False) (E:=XE X (fun σ=>EE (σ.set i none))) ?_ (fun _ _ z=>z.elim) out;refine eV ?_;refine aG (hst (pins++[(a,oe')]) a (.ref C) dx hex [] s5 _ H1 _ J5 (q a hn'.1)) (fun f s6 hq=>?_) fun _ _ z=>z.elim;cases f with
  |brk=>obtain⟨_,_,_,z⟩:=hq;exact z.elim
  |cont=>obtain⟨_,_,_,z⟩:=hq;exact z.elim
  |ret u=>obtain⟨_,_,_,_,_,z⟩:=hq;exact z.elim
  |next=>
  obtain⟨σ2,H2,J6,q6⟩:=hq;refine eV ?_;refine aG (Q:=fun _ _=>False) ?_ (fun _ _ z=>z.elim) fun _ _ z=>z;obtain⟨bm,N,nm,qn,bs,hdct,sn,sub,ab,col,dd,k0,k1,k2,k3,k5,hC,hN2,hni,TL⟩:=q2.obj ok.mod.kin;rw[arm_exec_Raise];refine aa (bP ?_);refine xiL (C:=C2) (h:=a) (nm:=nm) (q:=qn) (N:=N) (bs:=bs) (bm:=bm) (hdct:=hdct) (sn:=sn) (sub:=sub) (ab:=ab) (col:=col) (dd:=dd) (k0:=k0) (k1:=k1) (k2:=k2) (k3:=k3) (k5:=k5) (newId:="ValueError.__new__") (TL.hasType PySem.F.excBase_ValueError.hasBase) rfl ?_;refine aa (aG (gj (zt J6 hg2 hm2 ?_ hdb2)) (fun v s₃ h₃=>aa (bP (ao h₃))) fun _ _ z=>z);have hargs:=ha (pins++[(a,oe')]) a (.ref C) dx hex cpos [] s6 σ2 H2 _ J6 q6;rw[show aA [e] (X.held a (pins++[(a,oe')])).env=(false,eval e X.env)::aA [] X.env from hse]at hargs;have hA:wpAny (model X.prog X.w) (X.A.mark (some (.ref a))) (iB (.ref C2) true (bC cpos (aA [e] X.env)) []) (fun ar s6=>ar.kw=[]∧AP (X.held a (pins++[(a,oe')])) [] σ2 (fun vs H3=>∃v,vs=[v]∧∀d,H3 d=none→EE (σ2.set i none) (.ref C2) (some d) (upd H3 d (.xd [(fl,v)]))) ar.pos s6) (XE X (fun σ=>EE (σ.set i none))) s6:=by
   rw[hse];refine PySem.evalArgs_kw (keywords:=[]) rfl ?_;refine aG hargs (fun us s5 h5=>?_) fun _ _ z=>z.elim;exact ao ⟨rfl,h5⟩
  unfold dI;refine aa (bt (aG hA (fun ar s6 h6=>aa (bP ?_)) fun _ _ z=>z));obtain⟨us,kw⟩:=ar;obtain⟨hkw,vs5,H5,I5,r5,v,hv5,y⟩:=h6;obtain rfl:kw=[]:=hkw;subst hv5;have hl:us.length=1:=r5.length.symm;have e5:=(I5.pin (a,oe') (aV _ (aO _ (aO _ (au.mpr rfl)))));obtain⟨hp6,g6,d6,tk6,os6⟩:=s6;simp only[hpl];refine aa (wpAny_keeperOf_exc (I5.bk _ _ hC) ?_);have hfn:W.typeIn X.K (.ref g)=some (.type "function"):=beq_iff_eq.mp q2.fn;obtain⟨og,hog,hgc⟩:=aR.mp (show(X.K.lookup g).map (·.cls)=_ from hfn);refine aa (xhP PySem.F.excBase_ValueError (TL.keeps I5.bk) (I5.bk _ _ hC) (hN2.keeps I5.bk) hni (I5.kIn _ _ hog) hgc (fun h' b mk hsz=>?_) (by show us.length≤aF;rw[hl];decide));obtain⟨t0,ea,_,_⟩:=mk.there;have I5X:Inv X pins σ2 H5 _:=I5.unheld ok;have nu:=xj6 o I5X mk.new;have I6:=I5.laid (a:=b) (o:=HO.exc b C2 none) (t':=tk6) mk.keeps hsz ⟨⟨_,t0,ea,rfl,rfl,rfl⟩,⟨_,ea⟩,fun h1 h2=>xdf⟩;have e6:=(I6.pin (a,oe') (aV _ (aO _ (aO _ (au.mpr rfl)))));have hl2:(az b::us++[]).length=qs.length:=by
   have:=F.len b (.ref C2) none [.ref b,v] (upd H5 b (HO.exc b C2 none)) (fun _ _=>True) E0 ⟨b,v,rfl,xp,fun _ _ _=>trivial⟩;rw[←this];simp[hl]
  have hstk:a∉frs X.stack:=fun z=>by
   rcases o.mem.mp z with z|z
   ·exact e6.2.2.1 z
   ·exact e6.2.2.2.1 z
  refine cJ (bR (F.run _ X.stack _ _ ⟨az b::us,[]⟩ (az b::us) [.ref b,v] (fun vv H3=>vv= .non∧∃d,H5 d=none∧d≠b∧H3=upd (upd (upd H5 b (HO.exc b C2 none)) d (.xd [(fl,v)])) b (HO.exc b C2 (some d))) E0 a oe' ((xS.calm hr).make C2 us [])
   (I6.env0.make C2 us []) (by have:=hbn _ (az b::us) I6.kIn hl2;rwa [dB]at this) (.cons rfl r5) e6.1 e6.2.1 hstk ⟨_,hd'⟩ ⟨b,v,rfl,xp,fun d n1 n2=>⟨rfl,d,by rwa [xm n2]at n1,n2,rfl⟩⟩) fun rr s' hq'=>?_)
  cases rr with
  |error e=>exact aT hq'
  |ok fl'=>
   cases fl' with
   |next=>exact aT hq'
   |brk=>exact aT hq'
   |cont=>exact aT hq'
   |ret u=>
    obtain⟨vv,H',I7,rv,rfl,d,n1,n2,rfl⟩:=I6.after hq';obtain rfl:u=aS:=rv;obtain⟨⟨oe2,t2,ea2,oc,od,odat⟩,_⟩:=I7.hok b _ xp;have hrem:rem (upd (upd (upd H5 b (HO.exc b C2 none)) d (.xd [(fl,v)])) b (HO.exc b C2 (some d))) b=upd H5 d (.xd [(fl,v)]):=by
     funext b'
     unfold rem
     by_cases hb:b'=b
     ·rw[if_pos hb,hb,xm (ak n2)];exact nu.1.symm
     ·rw[if_neg hb,xm hb]
      by_cases hd:b'=d
      ·rw[hd,xp,xp]
      ·rw[xm hd,xm hd,xm hb]
    have e7:=(I7.pin (a,oe') (aV _ (aO _ (aO _ (au.mpr rfl))))).1;have I8:=I7.forget (a:=b) xp;rw[hrem]at I8;have IX:Inv X pins σ2 (upd H5 d (.xd [(fl,v)])) s':=I8.unheld ok;have nub:Nu X (upd H5 d (.xd [(fl,v)])) b:=⟨by rw[xm (ak n2)];exact nu.1,nu.2⟩;have neC:C2≠b:=fun z=>by
     have:=mk.new;rw[←z]at this;rw[I5.bk _ _ hC]at this;cases this
    have nab:a≠b:=fun z=>by
     have:=mk.new;rw[←z,e5.1]at this;cases this
    have ea3:s'.heap.get? b=some {cls:=.ref C2,dict:=some d,data:=.fields #[.ref t2,.none,.none,.none,.bool false,.none],slots:=oe2.slots}:=by
     obtain⟨c1,d1,dt1,sl1⟩:=oe2;cases oc;cases od;cases odat;exact ea2
    refine⟨rfl,?_⟩;refine aa (bt (wpAny_point (ao ?_)));refine⟨b,t2,some d,oe2.slots,rfl,I7.bk _ _ hC,ea3,neC,nab,⟨oe',vs',e7,hd',h2'⟩,aa (f6 (aa (bP (ao ⟨rfl,rfl⟩)))),fun h9 sb ea4=>?_⟩;have I9:Inv X [] σ2 (upd H5 d (.xd [(fl,v)])) {s' with heap:=h9}:=IX.nopins.flown o (fun c=>c=b) (fun c u n _ z=>(sb.2 c n).trans z) (fun c u n _ z=>⟨u.slots,(sb.2 c n).trans z⟩) (fun c z=>by
     subst z;refine⟨nub,fun u z=>?_⟩;rw[ea3]at z;cases z;exact⟨_,rfl⟩)
    exact⟨b,.ref C2,some d,σ2,_,rfl,I9,.inl ⟨_,_,.ref t2,ea4,rfl,rfl,rfl,rfl,rfl,nub⟩,y d n1⟩
end
end L2
namespace L2
open PySem PySem.Spec PyProof.Rows
section
variable {X:Cx}
theorem xiM{C C':Addr}{y:Str}{np hp:Pos}{suite:List Stmt}{b₀:Stmt}{rest:List eS}{ts:Addr→Value→TS}{pins:List (Addr×Obj)}{σ:St}{H:Hp}{s:af}{D:Ends}{a:Addr}{dx:Option Addr}{fl:Value}
  (o:Own X) (hb:xbp X.K C') (hg:Gl X y) (hm:X.mg y=some (.ref C')) (hsuite:∀(ps:List (Addr×Obj)) (a:Addr) (cls:Value),PSs (X.held a ps) (b₀::suite) (ts a cls))
  (hdb:(y==("__debug__":Str))=false) (ok:X.Ok) (I3:Inv (X.pnd pins) [] σ H s) (F3:xaw (X.pnd pins) fl H s.heap a (.ref C) dx) (hkc:aW X.K (.ref C) (.ref C')=some true) (q:ts a (.ref C) D σ H):
  wpAny (model X.prog X.w) X.A (handleBy (.ref a) X.env (.ExceptHandler (some (.Name y np)) none (b₀::suite) hp::rest)) (SP X pins D) X.xe s:=by
 refine eo (dS ?_) (by intro z;cases z);obtain⟨oe,vs,a0,T,oT,ts',he,hc,hx,hd,h0,h1,nT,hT,hdT,h3,hn,hnT⟩:=id F3;have J3:=Inv.held I3 ok he hn.1 hd;refine zt J3 hg hm ?_ hdb;refine xaj (K:=X.K) I3.kIn he hc hkc hb ?_;refine codeAny_handlers_suite ?_;refine vy (X:=X.pnd pins) (to:=none) o.pnd I3 F3 fun s4 I4 F4=>?_;obtain⟨oe',vs',a0',T',oT',ts'',he',hc',hx',hd',h0',h1',nT',hT',hdT',h3',hn',hnT'⟩:=id F4;have J4:=Inv.held I4 ok he' hn'.1 hd';refine aG (hsuite (pins++[(a,oe')]) a (.ref C) [] s4 σ H D J4 q) (fun f s5 hq=>?_) fun _ _ z=>z.elim;exact hq.unheld ok
def xjr(K:ag)(C1 C2:Addr)(i:Nat)(ts1:Addr→Value→Option Addr→TS)(ts2:Addr→Value→TS)(D:Ends):EEs:=fun σ cls dx H=>∃C,cls= .ref C∧((aW K (.ref C) (.ref C1)=some true∧∀a,H a=none→ts1 a cls dx (D.gone i) (σ.set i (some (.ref a))) H)∨
 (aW K (.ref C) (.ref C1)=some false∧aW K (.ref C) (.ref C2)=some true∧∀a,H a=none→ts2 a cls D σ H))
def xpl(K:ag)(C1 C2:Addr)(i:Nat)(tb:EEs→TS)(ts1:Addr→Value→Option Addr→TS)(ts2:Addr→Value→TS):TS:=fun D σ H=>tb (xjr K C1 C2 i ts1 ts2 D) D σ H
theorem xkj{C1 C2:Addr}{y1 y2 n:Str}{i:Nat}{np1 np2 hp1 hp2 pos:Pos}{body suite1 suite2:List Stmt}{b1 b2:Stmt}{tb:EEs→TS}{ts1:Addr→Value→Option Addr→TS}{ts2:Addr→Value→TS}(o:Own X)(hb1:xbp X.K C1)(hg1:Gl X y1)(hm1:X.mg y1=some (.ref C1))(hb2:xbp X.K C2)(hg2:Gl X y2)(hm2:X.mg y2=some (.ref C2))(hN:X.N.Nodup)(hi:X.N[i]? =some n)(hk:X.env.kindOf n=some .local)
  (hbody:∀(EE:EEs) (ps:List (Addr×Obj)),PSs ((X.pnd ps).wish (XE (X.pnd ps) EE)) body (tb EE))
  (hsuite1:∀(ps:List (Addr×Obj)) (a:Addr) (cls:Value) (dx:Option Addr),(∃oe:Obj,(a,oe)∈ps∧oe.cls=cls∧oe.dict=dx∧∃vs,oe.data= .fields vs)→PSs (X.held a ps) (b1::suite1) (ts1 a cls dx))
  (hsuite2:∀(ps:List (Addr×Obj)) (a:Addr) (cls:Value),PSs (X.held a ps) (b2::suite2) (ts2 a cls))
  (hdb1:(y1==("__debug__":Str))=false:=by decide) (hdb2:(y2==("__debug__":Str))=false:=by decide):
  PS X (.Try body [.ExceptHandler (some (.Name y1 np1)) (some n) (b1::suite1) hp1,.ExceptHandler (some (.Name y2 np2)) none (b2::suite2) hp2] [] [] pos) (xpl X.K C1 C2 i tb ts1 ts2):=by
 intro pins s σ H D I h;have ok:=I.ok;refine gI (aG (hbody (xjr X.K C1 C2 i ts1 ts2 D) pins [] s σ H D (I.pnd.wish _) h) (fun f s1 hq=>?_) fun e s1 hx=>?_)
 ·have hq':SP X pins D f s1:=(SP.unwish hq).unpnd ok;cases f with
  |next=>exact dA hq'
  |brk=>exact hq'
  |cont=>exact hq'
  |ret u=>exact hq'
 ·obtain⟨a,cls,dx,σ1,H1,rfl,I1,F1,C,rfl,q⟩:=hx;refine xd0 (X:=X.pnd pins) o.pnd ok.frames I1 F1 fun s2 I2 F2=>?_;refine vy (X:=X.pnd pins) (to:=none) o.pnd I2 F2 fun s3 I3 F3=>?_;have hn:H1 a=none:=by
   obtain⟨oe,vs,a0,T,oT,ts',he,hc,hx,hd,h0,h1,nT,hT,hdT,h3,hn,hnT⟩:=id F3;exact hn.1
  rcases q with⟨k1,q⟩|⟨k1,k2,q⟩
  ·exact xkc o hb1 hg1 hm1 hN hi hk hsuite1 hdb1 ok I3 F3 k1 (q a hn)
  ·exact xiH hb1 hg1 hm1 hdb1 ok I3 F3 k1 (xiM o hb2 hg2 hm2 hsuite2 hdb2 ok I3 F3 k2 (q a hn))
end
end L2
namespace K73
open PySem PySem.Spec PyProof.Rows L2
def top(i:Nat):Stmt:=PySem.Challenge.pw_oneroom_k73_falls_of_a_board.main.body.getD i (.Pass ⟨0,0,0,0⟩)
abbrev jL:Stmt:=inClass (top 4) 0
abbrev xci:Stmt:=inClass (top 13) 0
abbrev xaA:Stmt:=inClass (top 13) 1
abbrev jM:Stmt:=inClass (top 13) 2
abbrev xbr:Stmt:=inClass (top 14) 0
abbrev xaB:Stmt:=inClass (top 14) 1
abbrev xaC:Stmt:=inClass (top 14) 2
abbrev jN:Stmt:=inClass (top 14) 3
abbrev jO:Stmt:=inClass (top 14) 4
abbrev uQ:Stmt:=inClass (top 14) 5
abbrev xbb:Stmt:=inClass (top 14) 6
abbrev xel:Stmt:=inClass (top 14) 8
abbrev xcj:Stmt:=inClass (top 15) 0
abbrev xbs:Stmt:=inClass (top 15) 1
abbrev xaD:Stmt:=inClass (top 15) 2
abbrev xaE:Stmt:=inClass (top 15) 3
abbrev xbQ:Stmt:=inClass (top 15) 4
abbrev xfm:Stmt:=inClass (top 15) 6
abbrev xeG:Stmt:=top 16
abbrev xaF:Stmt:=top 17
abbrev xbt:Stmt:=top 18
abbrev xbu:Stmt:=top 19
abbrev xdh:Stmt:=top 20
abbrev vK:Stmt:=top 21
abbrev xck:Stmt:=top 22
abbrev xbv:Stmt:=top 24
abbrev xf7:Stmt:=top 25
abbrev vi:Stmt:=top 26
abbrev vL:Stmt:=top 27
abbrev vM:Stmt:=top 28
abbrev vN:Stmt:=top 29
abbrev xf8:Stmt:=top 32
abbrev jm:Stmt:=top 33
abbrev xbw:Stmt:=top 34
abbrev uR:Stmt:=top 35
abbrev vj:Stmt:=top 36
abbrev vO:Stmt:=top 37
abbrev xdi:Stmt:=top 38
abbrev xbx:Stmt:=top 39
abbrev xcl:Stmt:=inClass (top 41) 0
abbrev vk:Stmt:=inClass (top 41) 1
abbrev zF:Stmt:=inClass (top 41) 2
abbrev zz:Stmt:=inClass (top 42) 0
abbrev xdj:Stmt:=inClass (top 42) 1
abbrev zR:Stmt:=inClass (top 42) 2
abbrev xdk:Stmt:=inClass (top 42) 3
abbrev jP:Stmt:=inClass (top 42) 4
abbrev jQ:Stmt:=inClass (top 42) 5
abbrev xaG:Stmt:=inClass (top 42) 6
abbrev uX:Stmt:=inClass (top 42) 8
abbrev yj:Stmt:=inClass (top 42) 9
abbrev zA:Stmt:=inClass (top 44) 0
abbrev jR:Stmt:=inClass (top 44) 1
abbrev yx:Stmt:=inClass (top 44) 2
abbrev yU:Stmt:=inClass (top 44) 3
abbrev yp:Stmt:=inClass (top 44) 4
abbrev xaH:Stmt:=inClass (top 44) 5
abbrev xaI:Stmt:=inClass (top 44) 6
abbrev uA:Stmt:=inClass (top 44) 7
abbrev zV:Stmt:=inClass (top 44) 8
abbrev zW:Stmt:=inClass (top 44) 9
abbrev zG:Stmt:=inClass (top 44) 10
abbrev zX:Stmt:=inClass (top 44) 11
abbrev zH:Stmt:=inClass (top 44) 12
abbrev uS:Stmt:=inClass (top 44) 13
abbrev yy:Stmt:=inClass (top 44) 14
abbrev zY:Stmt:=inClass (top 44) 15
abbrev xdl:Stmt:=top 45
abbrev xdm:Stmt:=top 47
abbrev xf9:Stmt:=top 48
abbrev xkk:Stmt:=top 49
abbrev xga:Stmt:=top 50
abbrev xgb:Stmt:=top 51
abbrev s_update:Stmt:=top 52
abbrev xhV:Stmt:=top 53
abbrev xdn:Stmt:=top 54
abbrev xkl:Stmt:=top 55
abbrev xgc:Stmt:=top 56
abbrev xcm:Stmt:=top 57
abbrev q1N:Addr:=418
abbrev uJ:Addr:=414
def xby:List (Pos×Str):=[(⟨166,45,166,70⟩,"do_piece.<locals>.<lambda>")]
abbrev q05:Addr:=536
abbrev zf:Addr:=532
def jn:List (Pos×Str):=[(⟨261,50,261,69⟩,"Store.write.<locals>.<lambda>")]
abbrev q0n:Addr:=583
abbrev yk:Addr:=579
def zk:List (Pos×Str):=[(⟨284,52,284,70⟩,"Store.note_down.<locals>.<lambda>")]
abbrev q0B:Addr:=619
abbrev yz:Addr:=615
def uj:List (Pos×Str):=[(⟨307,32,307,78⟩,"Board.update.<locals>.<lambda>")]
abbrev q01:Addr:=626
abbrev yV:Addr:=622
def vd:List (Pos×Str):=[(⟨314,25,314,54⟩,"Board.fine.<locals>.<lambda>")]
abbrev q0y:Addr:=633
abbrev yq:Addr:=629
def zI:List (Pos×Str):=[(⟨321,25,321,76⟩,"Board.go_back.<locals>.<lambda>")]
abbrev q0C:Addr:=703
abbrev yA:Addr:=699
def uk:List (Pos×Str):=[(⟨388,45,388,63⟩,"Board.change.<locals>.<lambda>")]
abbrev q3X:Addr:=797
abbrev xd2:Addr:=795
def xhW:List (Pos×Str):=[(⟨501,68,501,118⟩,"law.<locals>.<lambda>")]
set_option genInjectivity false in
set_option genSizeOf false in
set_option genSizeOfSpec false in
structure Adr where
 q06:Addr
 ve:aj
 q15:Addr
 xcn:aj
 q02:Addr
 xaJ:aj
 q0K:Addr
 jS:aj
 q1P:Addr
 xbz:aj
 q1D:Addr
 xaK:aj
 q1E:Addr
 xaL:aj
 q1v:Addr
 jT:aj
 q1w:Addr
 jU:aj
 q0D:Addr
 uT:aj
 q16:Addr
 xbc:aj
 q3n:Addr
 xem:aj
 q17:Addr
 xco:aj
 q1Q:Addr
 xbA:aj
 q1F:Addr
 xaM:aj
 q1G:Addr
 xaN:aj
 q2q:Addr
 xbR:aj
 q3w:Addr
 xfn:aj
 q3r:Addr
 xeH:aj
 q1V:Addr
 xaO:aj
 q2f:Addr
 xbB:aj
 q2g:Addr
 xbC:aj
 q2X:Addr
 xdo:aj
 q1f:Addr
 vP:aj
 q2K:Addr
 xcp:aj
 q2h:Addr
 xbD:aj
 q3G:Addr
 xgd:aj
 q08:Addr
 vm:aj
 q1g:Addr
 vQ:aj
 q1h:Addr
 vR:aj
 q2L:Addr
 xcq:aj
 q3H:Addr
 xge:aj
 q1z:Addr
 jo:aj
 q2i:Addr
 xbE:aj
 q0S:Addr
 uU:aj
 q09:Addr
 vn:aj
 q1i:Addr
 vS:aj
 q2Y:Addr
 xdp:aj
 q2j:Addr
 xbF:aj
 q18:Addr
 xcr:aj
 q0I:Addr
 vo:aj
 q0o:Addr
 zJ:aj
 q1j:Addr
 vT:aj
 q2Z:Addr
 xdq:aj
 q1Y:Addr
 jV:aj
 q20:Addr
 xdr:aj
 q1x:Addr
 jW:aj
 q1y:Addr
 jX:aj
 q1H:Addr
 xaP:aj
 q03:Addr
 uY:aj
 q0w:Addr
 zq:aj
 q1k:Addr
 vU:aj
 q07:Addr
 vf:aj
 q0M:Addr
 uK:aj
 q1l:Addr
 vV:aj
 q0G:Addr
 um:aj
 q1I:Addr
 xaQ:aj
 q1J:Addr
 xaR:aj
 q0A:Addr
 uB:aj
 q0s:Addr
 zZ:aj
 q0t:Addr
 ua:aj
 q0p:Addr
 zK:aj
 q0u:Addr
 ub:aj
 q0q:Addr
 zL:aj
 q0E:Addr
 uV:aj
 q0N:Addr
 uL:aj
 q0v:Addr
 uc:aj
 q21:Addr
 xds:aj
 q22:Addr
 xdt:aj
 q3I:Addr
 xgf:aj
 q4n:Addr
 xkm:aj
 q3J:Addr
 xgg:aj
 q3K:Addr
 xgh:aj
 q3s:Addr
 xeI:aj
 q4a:Addr
 xhX:aj
 q23:Addr
 xdu:aj
 q4o:Addr
 xkn:aj
 q3L:Addr
 xgi:aj
 q4g:Addr
 xhx:aj
 q2M:Addr
 q0c:Addr
 q0f:Addr
 q0i:Addr
 q0e:Addr
 q0a:Addr
 q1m:Addr
 q0d:Addr
 q0V:Addr
 q0U:Addr
 q0z:Addr
 q0J:Addr
 q0k:Addr
 q1A:Addr
 q4F:Tok
structure Txt(K:ag)(mg:Str→Option Value)(a:Adr):Prop where
 q1L:Fun K "__init__" "Fallen.__init__" jL a.q06 a.ve
 xcM:Binds K a.ve ["self","count"] []
 q3g:Fun K "__init__" "Row.__init__" xci a.q15 a.xcn
 xfo:Binds K a.xcn ["self","to"] []
 q2r:Fun K "covers" "Row.covers" xaA a.q02 a.xaJ
 xdv:Binds K a.xaJ ["self"] []
 q1Z:Fun K "covered" "Row.covered" jM a.q0K a.jS
 yJ:Binds K a.jS ["self"] []
 q2T:Fun K "__init__" "Take.__init__" xbr a.q1P a.xbz
 xiN:Binds K a.xbz ["self","to","start","count"] []
 q2s:Fun K "stays" "Take.stays" xaB a.q1D a.xaK
 xaS:Binds K a.xaK ["self"] []
 q2t:Fun K "reads" "Take.reads" xaC a.q1E a.xaL
 xhY:Binds K a.xaL ["self"] []
 q10:Fun K "writes" "Take.writes" jN a.q1v a.jT
 xhb:Binds K a.jT ["self"] []
 q11:Fun K "pieces" "Take.pieces" jO a.q1w a.jU
 xhc:Binds K a.jU ["self"] []
 q1t:Fun K "source_for" "Take.source_for" uQ a.q0D a.uT
 xd8:Binds K a.uT ["self","cell"] []
 q19:Fun K "sign_for" "Take.sign_for" xbb a.q16 a.xbc
 xm0:Binds K a.xbc ["self","cell","read"] []
 q3o:Fun K "told" "Take.told" xel a.q3n a.xem
 xpH:Binds K a.xem ["self"] []
 q3h:Fun K "__init__" "Put.__init__" xcj a.q17 a.xco
 xko:Binds K a.xco ["self","to","signs"] []
 q2U:Fun K "reads" "Put.reads" xbs a.q1Q a.xbA
 xiO:Binds K a.xbA ["self"] []
 q2u:Fun K "writes" "Put.writes" xaD a.q1F a.xaM
 xhZ:Binds K a.xaM ["self"] []
 q2v:Fun K "pieces" "Put.pieces" xaE a.q1G a.xaN
 xh0:Binds K a.xaN ["self"] []
 q2w:Fun K "sign_for" "Put.sign_for" xbQ a.q2q a.xbR
 xnO:Binds K a.xbR ["self","cell","read"] []
 q3x:Fun K "told" "Put.told" xfm a.q3w a.xfn
 xqk:Binds K a.xfn ["self"] []
 q1W:Fun K "row_of" "row_of" xeG a.q3r a.xeH
 xaT:Binds K a.xeH ["told"] []
 xaU:mg "row_of"=some (.ref a.q3r)
 q1X:Fun K "tells_take" "tells_take" xaF a.q1V a.xaO
 xh1:Binds K a.xaO ["told"] []
 xh2:mg "tells_take"=some (.ref a.q1V)
 q2k:Fun K "tells_put" "tells_put" xbt a.q2f a.xbB
 xiP:Binds K a.xbB ["told"] []
 xiQ:mg "tells_put"=some (.ref a.q2f)
 q2l:Fun K "are_signs" "are_signs" xbu a.q2g a.xbC
 xiR:Binds K a.xbC ["signs"] []
 xiS:mg "are_signs"=some (.ref a.q2g)
 q24:Fun K "is_sign" "is_sign" xdh a.q2X a.xdo
 xlm:Binds K a.xdo ["value"] []
 xln:mg "is_sign"=some (.ref a.q2X)
 q0r:Fun K "is_whole_from" "is_whole_from" vK a.q1f a.vP
 zl:Binds K a.vP ["least","value"] []
 zm:mg "is_whole_from"=some (.ref a.q1f)
 q2a:Fun K "is_whole" "is_whole" xck a.q2K a.xcp
 xfp:Binds K a.xcp ["value"] []
 xfq:mg "is_whole"=some (.ref a.q2K)
 q2m:Fun K "pieces_of" "pieces_of" xbv a.q2h a.xbD
 xiT:Binds K a.xbD ["paper"] []
 xiU:mg "pieces_of"=some (.ref a.q2h)
 q3M:Fun K "go_on" "go_on" xf7 a.q3G a.xgd
 xnP:Binds K a.xgd ["store","paper"] []
 xnQ:mg "go_on"=some (.ref a.q3G)
 q1a:Fun K "refuse_lengths" "refuse_lengths" vi a.q08 a.vm
 xeJ:Binds K a.vm ["size","paper"] []
 xeK:mg "refuse_lengths"=some (.ref a.q08)
 q1n:Fun K "refuse_beyond" "refuse_beyond" vL a.q1g a.vQ
 xfr:Binds K a.vQ ["size","pieces"] []
 xfs:mg "refuse_beyond"=some (.ref a.q1g)
 q1o:Fun K "places_needed" "places_needed" vM a.q1h a.vR
 xft:Binds K a.vR ["row","cells"] []
 xfu:mg "places_needed"=some (.ref a.q1h)
 xcs:Fun K "do_piece" "do_piece" vN a.q2L a.xcq
 xql:Binds K a.xcq ["store","row","cells"] []
 xqm:mg "do_piece"=some (.ref a.q2L)
 q4A:zy K q1N uJ
 xpI:a.xcq.code= .ref q1N
 q3N:Fun K "judge" "judge" xf8 a.q3H a.xge
 xnR:Binds K a.xge ["paper"] []
 xnS:mg "judge"=some (.ref a.q3H)
 q1B:Fun K "fits_in_size" "fits_in_size" jm a.q1z a.jo
 xgj:Binds K a.jo ["paper"] []
 xgk:mg "fits_in_size"=some (.ref a.q1z)
 q1R:Fun K "is_length" "is_length" xbw a.q2i a.xbE
 xen:Binds K a.xbE ["value"] []
 xeo:mg "is_length"=some (.ref a.q2i)
 q0T:Fun K "first_wrong_row" "first_wrong_row" uR a.q0S a.uU
 xd9:Binds K a.uU ["paper"] []
 xea:mg "first_wrong_row"=some (.ref a.q0S)
 q1b:Fun K "is_fitting_row" "is_fitting_row" vj a.q09 a.vn
 xeL:Binds K a.vn ["told","old","new"] []
 xeM:mg "is_fitting_row"=some (.ref a.q09)
 q1p:Fun K "covered_twice" "covered_twice" vO a.q1i a.vS
 xfv:Binds K a.vS ["rows"] []
 xfw:mg "covered_twice"=some (.ref a.q1i)
 q25:Fun K "lacking" "lacking" xdi a.q2Y a.xdp
 xlo:Binds K a.xdp ["rows","new"] []
 xlp:mg "lacking"=some (.ref a.q2Y)
 q2n:Fun K "read_late" "read_late" xbx a.q2j a.xbF
 xiV:Binds K a.xbF ["rows"] []
 xiW:mg "read_late"=some (.ref a.q2j)
 q3i:Fun K "__init__" "Pen.__init__" xcl a.q18 a.xcr
 xfx:Binds K a.xcr ["self","fall"] []
 q1C:Fun K "write_into" "Pen.write_into" vk a.q0I a.vo
 xaV:Binds K a.vo ["self","kept","at","value","torn"] []
 q0O:Fun K "answer_of_fall" "Pen.answer_of_fall" zF a.q0o a.zJ
 xct:Binds K a.zJ ["self","count"] []
 uC:xeE K "__init__" "Store.__init__" zz a.q1j a.vT [.none]
 jY:Binds K a.vT ["self","cells","fall"] [.none]
 xdw:Binds K a.vT ["self","cells","fall"] []
 q26:Fun K "read" "Store.read" xdj a.q2Z a.xdq
 xpm:Binds K a.xdq ["self","at"] []
 jZ:Fun K "write" "Store.write" zR a.q1Y a.jV
 xoy:Binds K a.jV ["self","at","sign"] []
 q4l:zy K q05 zf
 xnT:a.jV.code= .ref q05
 q27:Fun K "mark" "Store.mark" xdk a.q20 a.xdr
 xpn:Binds K a.xdr ["self","number"] []
 q12:Fun K "noted" "Store.noted" jP a.q1x a.jW
 xhd:Binds K a.jW ["self"] []
 q13:Fun K "begin" "Store.begin" jQ a.q1y a.jX
 xhe:Binds K a.jX ["self"] []
 q2x:Fun K "told" "Store.told" xaG a.q1H a.xaP
 xdx:Binds K a.xaP ["self"] []
 q04:Fun K "refuse_lacking" "Store.refuse_lacking" uX a.q03 a.uY
 xiX:Binds K a.uY ["self","at"] []
 zr:Fun K "note_down" "Store.note_down" yj a.q0w a.zq
 xac:Binds K a.zq ["self","at","number"] []
 q28:zy K q0n yk
 xdy:a.zq.code= .ref q0n
 uD:xeE K "__init__" "Board.__init__" zA a.q1k a.vU [.none]
 xcN:Binds K a.vU ["self","text","size","fall"] [.none]
 xaW:Binds K a.vU ["self","text","size","fall"] []
 q14:Fun K "start" "Board.start" jR a.q07 a.vf
 xhf:Binds K a.vf ["self"] []
 uM:Fun K "update" "Board.update" yx a.q0M a.uK
 xgl:Binds K a.uK ["self","paper","total","tries"] []
 q3y:zy K q0B yz
 xfy:a.uK.code= .ref q0B
 vW:Fun K "fine" "Board.fine" yU a.q1l a.vV
 xh3:Binds K a.vV ["self"] []
 q32:zy K q01 yV
 xhg:a.vV.code= .ref q01
 uo:Fun K "go_back" "Board.go_back" yp a.q0G a.um
 xfz:Binds K a.um ["self"] []
 q3t:zy K q0y yq
 xeN:a.um.code= .ref q0y
 q2y:Fun K "text" "Board.text" xaH a.q1I a.xaQ
 xaX:Binds K a.xaQ ["self","bank"] []
 q2z:Fun K "told" "Board.told" xaI a.q1J a.xaR
 xh4:Binds K a.xaR ["self"] []
 q1e:Fun K "other_bank" "Board.other_bank" uA a.q0A a.uB
 yE:Binds K a.uB ["self"] []
 q0W:Fun K "bank_to_run" "Board.bank_to_run" zV a.q0s a.zZ
 xc2:Binds K a.zZ ["self"] []
 q0X:Fun K "refuse_down" "Board.refuse_down" zW a.q0t a.ua
 ud:Binds K a.ua ["self"] []
 q0P:Fun K "refuse_paper" "Board.refuse_paper" zG a.q0p a.zK
 xcu:Binds K a.zK ["self","paper"] []
 q0Y:Fun K "holds_elder" "Board.holds_elder" zX a.q0u a.ub
 xc3:Binds K a.ub ["self","bank","old"] []
 q0Q:Fun K "put_on_trial" "Board.put_on_trial" zH a.q0q a.zL
 xcv:Binds K a.zL ["self","paper","total","tries"] []
 q1u:Fun K "make_good" "Board.make_good" uS a.q0E a.uV
 xeb:Binds K a.uV ["self","bank"] []
 uN:Fun K "change" "Board.change" yy a.q0N a.uL
 yf:Binds K a.uL ["self","kept","at","value"] []
 q3z:zy K q0C yA
 xfA:a.uL.code= .ref q0C
 q0Z:Fun K "run_or_fall" "Board.run_or_fall" zY a.q0v a.uc
 ue:Binds K a.uc ["self","deed"] []
 q2J:Fun K "bank_of" "bank_of" xdl a.q21 a.xds
 xgX:Binds K a.xds ["cells","pen"] []
 xgY:mg "bank_of"=some (.ref a.q21)
 q2b:Fun K "_law_cell_at" "_law_cell_at" xdm a.q22 a.xdt
 xdz:Binds K a.xdt ["_law_script","_law_k"] []
 xdA:mg "_law_cell_at"=some (.ref a.q22)
 q3j:Fun K "_law_mixed" "_law_mixed" xf9 a.q3I a.xgf
 xgm:Binds K a.xgf ["_law_cell","_law_k"] []
 xgn:mg "_law_mixed"=some (.ref a.q3I)
 q4h:Fun K "_law_how" "_law_how" xkk a.q4n a.xkm
 xm1:Binds K a.xkm ["_law_cell","_law_count"] []
 xm2:mg "_law_how"=some (.ref a.q4n)
 q3O:Fun K "_law_asked" "_law_asked" xga a.q3J a.xgg
 xnU:Binds K a.xgg ["_law_board","_law_deed_here","_law_paper_here","_law_total","_law_tries"] []
 xnV:mg "_law_asked"=some (.ref a.q3J)
 q3P:Fun K "_law_start" "_law_start" xgb a.q3K a.xgh
 xnW:Binds K a.xgh ["_law_stand"] []
 xnX:mg "_law_start"=some (.ref a.q3K)
 q3u:Fun K "_law_update" "_law_update" s_update a.q3s a.xeI
 xmt:Binds K a.xeI ["_law_stand","_law_paper_here","_law_good","_law_tries"] []
 xmu:mg "_law_update"=some (.ref a.q3s)
 q4b:Fun K "_law_deed" "_law_deed" xhV a.q4a a.xhX
 xpo:Binds K a.xhX ["_law_stand","_law_deed_here","_law_paper_here","_law_good","_law_tries"] []
 xpp:mg "_law_deed"=some (.ref a.q4a)
 q29:Fun K "_law_written" "_law_written" xdn a.q23 a.xdu
 xlq:Binds K a.xdu ["_law_stand","_law_write"] []
 xlr:mg "_law_written"=some (.ref a.q23)
 q4p:Fun K "_law_due" "_law_due" xkl a.q4o a.xkn
 xqn:Binds K a.xkn ["_law_stand","_law_plan","_law_cell","_law_count"] []
 xqo:mg "_law_due"=some (.ref a.q4o)
 q3Q:Fun K "_law_paper" "_law_paper" xgc a.q3L a.xgi
 xnY:Binds K a.xgi ["_law_stand","_law_draw"] []
 xnZ:mg "_law_paper"=some (.ref a.q3L)
 xhy:Fun K "law" "law" xcm a.q4g a.xhx
 xqU:Binds K a.xhx ["_law_script"] []
 q5a:zy K q3X xd2
 xpq:a.xhx.code= .ref q3X
 xm3:mg "Row"=some (.ref a.q2M)
 q52:Cls K a.q2M
 q4t:xE K a.q2M "count"
 q40:xE K a.q2M "to"
 xh5:mg "Take"=some (.ref a.q0c)
 q0h:Cls K a.q0c
 q0L:xE K a.q0c "count"
 q0x:xE K a.q0c "source"
 q0R:xE K a.q0c "to"
 q4N:Mk K a.q0c a.q1P
 xqp:mg "Put"=some (.ref a.q0f)
 q1O:Cls K a.q0f
 q1K:xE K a.q0f "count"
 q3A:xE K a.q0f "signs"
 q3a:xE K a.q0f "to"
 q5b:Mk K a.q0f a.q17
 xm4:mg "Pen"=some (.ref a.q0i)
 q3B:Cls K a.q0i
 q2A:xE K a.q0i "asked"
 q3Y:xE K a.q0i "fall"
 q4G:Mk K a.q0i a.q18
 xn0:mg "Store"=some (.ref a.q0e)
 q00:Cls K a.q0e
 q3k:xE K a.q0e "cells"
 q1S:xE K a.q0e "notes"
 q2B:xE K a.q0e "pen"
 q4B:Mk K a.q0e a.q1j
 xn1:mg "Board"=some (.ref a.q0a)
 q0b:Cls K a.q0a
 q2C:xE K a.q0a "banks"
 q1c:xE K a.q0a "lengths"
 q0g:xE K a.q0a "marks"
 q2D:xE K a.q0a "pen"
 q0m:xE K a.q0a "running"
 q0j:xE K a.q0a "settings"
 q3p:xE K a.q0a "size"
 q4C:Mk K a.q0a a.q1k
 xpr:mg "Down"=some (.ref a.q1m)
 xcw:mg "Fallen"=some (.ref a.q0d)
 xqT:mg "NoRow"=some (.ref a.q0V)
 xls:mg "NoTrial"=some (.ref a.q0U)
 xiY:mg "NoWayBack"=some (.ref a.q0z)
 xlt:mg "OnTrial"=some (.ref a.q0J)
 xiZ:mg "RoomError"=some (.ref a.q0k)
 xn2:mg "Unfit"=some (.ref a.q1A)
 q5c:xce K a.q1m
 q2E:aW K (.ref a.q1m) (.ref a.q0d)=some false
 q4q:aW K (.ref a.q1m) (.ref a.q0V)=some false
 q1M:aW K (.ref a.q1m) (.ref a.q0k)=some true
 q3b:xbq K a.q0d a.q06
 jA:fN K a.q0d=true
 q0H:xE K a.q0d "count"
 q1d:aW K (.ref a.q0d) (.ref a.q0d)=some true
 q4i:aW K (.ref a.q0d) (.ref a.q0V)=some false
 q3F:aW K (.ref a.q0d) (.ref a.q0k)=some true
 q3c:xj7 K a.q0d
 q4u:xce K a.q0U
 q3l:aW K (.ref a.q0U) (.ref a.q0d)=some false
 q4c:aW K (.ref a.q0U) (.ref a.q0V)=some false
 q2N:aW K (.ref a.q0U) (.ref a.q0k)=some true
 q4k:xce K a.q0z
 q2W:aW K (.ref a.q0z) (.ref a.q0d)=some false
 q31:aW K (.ref a.q0z) (.ref a.q0V)=some false
 q2o:aW K (.ref a.q0z) (.ref a.q0k)=some true
 q4v:xce K a.q0J
 q3m:aW K (.ref a.q0J) (.ref a.q0d)=some false
 q4d:aW K (.ref a.q0J) (.ref a.q0V)=some false
 q2O:aW K (.ref a.q0J) (.ref a.q0k)=some true
 q4O:xce K a.q1A
 q3C:aW K (.ref a.q1A) (.ref a.q0d)=some false
 q4m:aW K (.ref a.q1A) (.ref a.q0V)=some false
 q3d:aW K (.ref a.q1A) (.ref a.q0k)=some true
 q4j:xbp K a.q0d
 q5d:xbp K a.q0V
 q4e:xbp K a.q0k
 xlu:∀{H:Hp} {o dx:Addr} {fs:List (Str×V)},H o=some (.ins a.q0f dx fs)→zo K H (.ref o) (.ref a.q0f)
 xjs:∀{H:Hp} {o dx:Addr} {fs:List (Str×V)},H o=some (.ins a.q0c dx fs)→zo K H (.ref o) (.ref a.q0c)
 q3Z:gx K (.ref a.q0f) (.ref a.q0c)=some false
 q3D:gx K (.ref a.q0c) (.ref a.q0c)=some true
 xlv:mg "MOST"=some (.int 300 a.q4F)
 q2P:Meth K a.q0a "bank_to_run" a.q0s
 q0l:Meth K a.q0a "change" a.q0N
 q33:Meth K a.q0a "fine" a.q1l
 q3v:Meth K a.q0a "go_back" a.q0G
 q2Q:Meth K a.q0a "holds_elder" a.q0u
 q3e:Meth K a.q0a "make_good" a.q0E
 q0F:Meth K a.q0a "other_bank" a.q0A
 q2F:Meth K a.q0a "put_on_trial" a.q0q
 q1q:Meth K a.q0a "refuse_down" a.q0t
 q2G:Meth K a.q0a "refuse_paper" a.q0p
 q1r:Meth K a.q0a "run_or_fall" a.q0v
 q3R:Meth K a.q0a "start" a.q07
 q2R:Meth K a.q0a "text" a.q1I
 q34:Meth K a.q0a "told" a.q1J
 q3E:Meth K a.q0a "update" a.q0M
 q2H:Meth K a.q0i "answer_of_fall" a.q0o
 q2p:Meth K a.q0i "write_into" a.q0I
 q1T:Meth K a.q0f "covered" a.q0K
 q35:Meth K a.q0f "covers" a.q02
 q36:Meth K a.q0f "pieces" a.q1G
 q4f:Meth K a.q0f "reads" a.q1Q
 q37:Meth K a.q0f "writes" a.q1F
 q3S:Meth K a.q0e "begin" a.q1y
 q2c:Meth K a.q0e "note_down" a.q0w
 q3T:Meth K a.q0e "noted" a.q1x
 q3q:Meth K a.q0e "told" a.q1H
 q2d:Meth K a.q0c "covered" a.q0K
 q3U:Meth K a.q0c "covers" a.q02
 q3V:Meth K a.q0c "pieces" a.q1w
 q38:Meth K a.q0c "reads" a.q1E
 q3f:Meth K a.q0c "source_for" a.q0D
 q2S:Meth K a.q0c "stays" a.q1D
 q3W:Meth K a.q0c "writes" a.q1v
 q30:xmh K a.q2M "__init__" a.q15
 q5w:mg "abs"=none
 q5x:mg "all"=none
 q5e:mg "bool"=none
 q2V:mg "enumerate"=none
 q47:mg "int"=none
 q1s:mg "isinstance"=none
 q2e:mg "len"=none
 q2I:mg "list"=none
 q4w:mg "max"=none
 q48:mg "min"=none
 q1U:mg "range"=none
 q49:mg "sum"=none
 q39:mg "tuple"=none
theorem uO:xq ["self","count"] ["self","count"] (xj jL):=⟨rfl,rfl,rfl,by decide+kernel,rfl,by decide+kernel,by decide+kernel⟩
theorem xep:xq ["self","to"] ["self","to"] (xj xci):=⟨rfl,rfl,rfl,by decide+kernel,rfl,by decide+kernel,by decide+kernel⟩
theorem xcO:xq ["self"] ["self"] (xj xaA):=⟨rfl,rfl,rfl,by decide+kernel,rfl,by decide+kernel,by decide+kernel⟩
theorem xbS:xq ["self"] ["self"] (xj jM):=⟨rfl,rfl,rfl,by decide+kernel,rfl,by decide+kernel,by decide+kernel⟩
theorem xdB:xq ["self","to","start","count"] ["self","to","start","count"] (xj xbr):=⟨rfl,rfl,rfl,by decide+kernel,rfl,by decide+kernel,by decide+kernel⟩
theorem xcP:xq ["self"] ["self"] (xj xaB):=⟨rfl,rfl,rfl,by decide+kernel,rfl,by decide+kernel,by decide+kernel⟩
theorem xcQ:xq ["self"] ["self"] (xj xaC):=⟨rfl,rfl,rfl,by decide+kernel,rfl,by decide+kernel,by decide+kernel⟩
theorem xbT:xq ["self"] ["self"] (xj jN):=⟨rfl,rfl,rfl,by decide+kernel,rfl,by decide+kernel,by decide+kernel⟩
theorem xbU:xq ["self","first","end","step"] ["self"] (xj jO):=⟨rfl,rfl,rfl,by decide+kernel,rfl,by decide+kernel,by decide+kernel⟩
theorem jB:xq ["self","cell"] ["self","cell"] (xj uQ):=⟨rfl,rfl,rfl,by decide+kernel,rfl,by decide+kernel,by decide+kernel⟩
theorem xeq:xq ["self","to","signs"] ["self","to","signs"] (xj xcj):=⟨rfl,rfl,rfl,by decide+kernel,rfl,by decide+kernel,by decide+kernel⟩
theorem xdC:xq ["self"] ["self"] (xj xbs):=⟨rfl,rfl,rfl,by decide+kernel,rfl,by decide+kernel,by decide+kernel⟩
theorem xcR:xq ["self"] ["self"] (xj xaD):=⟨rfl,rfl,rfl,by decide+kernel,rfl,by decide+kernel,by decide+kernel⟩
theorem xcS:xq ["self"] ["self"] (xj xaE):=⟨rfl,rfl,rfl,by decide+kernel,rfl,by decide+kernel,by decide+kernel⟩
theorem xgZ:xq ["told"] ["told"] (xj xeG):=⟨rfl,rfl,rfl,by decide+kernel,rfl,by decide+kernel,by decide+kernel⟩
theorem xcT:xq ["told"] ["told"] (xj xaF):=⟨rfl,rfl,rfl,by decide+kernel,rfl,by decide+kernel,by decide+kernel⟩
theorem xdD:xq ["told"] ["told"] (xj xbt):=⟨rfl,rfl,rfl,by decide+kernel,rfl,by decide+kernel,by decide+kernel⟩
theorem xdE:xq ["signs"] ["signs"] (xj xbu):=⟨rfl,rfl,rfl,by decide+kernel,rfl,by decide+kernel,by decide+kernel⟩
theorem xfB:xq ["value"] ["value"] (xj xdh):=⟨rfl,rfl,rfl,by decide+kernel,rfl,by decide+kernel,by decide+kernel⟩
theorem xaY:xq ["least","value"] ["least","value"] (xj vK):=⟨rfl,rfl,rfl,by decide+kernel,rfl,by decide+kernel,by decide+kernel⟩
theorem xer:xq ["value"] ["value"] (xj xck):=⟨rfl,rfl,rfl,by decide+kernel,rfl,by decide+kernel,by decide+kernel⟩
theorem xdF:xq ["paper","pieces","told"] ["paper"] (xj xbv):=⟨rfl,rfl,rfl,by decide+kernel,rfl,by decide+kernel,by decide+kernel⟩
theorem xh6:xq ["store","paper","size","pieces","first","left","number","piece"] ["store","paper"] (xj xf7):=⟨rfl,rfl,rfl,by decide+kernel,rfl,by decide+kernel,by decide+kernel⟩
theorem xad:xq ["size","paper","greater"] ["size","paper"] (xj vi):=⟨rfl,rfl,rfl,by decide+kernel,rfl,by decide+kernel,by decide+kernel⟩
theorem xaZ:xq ["size","pieces","told","cells","at"] ["size","pieces"] (xj vL):=⟨rfl,rfl,rfl,by decide+kernel,rfl,by decide+kernel,by decide+kernel⟩
theorem xa0:xq ["row","cells","places","cell"] ["row","cells"] (xj vM):=⟨rfl,rfl,rfl,by decide+kernel,rfl,by decide+kernel,by decide+kernel⟩
theorem xh7:xq ["paper","wrong","rows","fault"] ["paper"] (xj xf8):=⟨rfl,rfl,rfl,by decide+kernel,rfl,by decide+kernel,by decide+kernel⟩
theorem xbd:xq ["paper"] ["paper"] (xj jm):=⟨rfl,rfl,rfl,by decide+kernel,rfl,by decide+kernel,by decide+kernel⟩
theorem xdG:xq ["value"] ["value"] (xj xbw):=⟨rfl,rfl,rfl,by decide+kernel,rfl,by decide+kernel,by decide+kernel⟩
theorem jC:xq ["paper","number","told"] ["paper"] (xj uR):=⟨rfl,rfl,rfl,by decide+kernel,rfl,by decide+kernel,by decide+kernel⟩
theorem xae:xq ["told","old","new","row"] ["told","old","new"] (xj vj):=⟨rfl,rfl,rfl,by decide+kernel,rfl,by decide+kernel,by decide+kernel⟩
theorem xa1:xq ["rows","covered","number","row","cell"] ["rows"] (xj vO):=⟨rfl,rfl,rfl,by decide+kernel,rfl,by decide+kernel,by decide+kernel⟩
theorem xfC:xq ["rows","new","covered","row","cell"] ["rows","new"] (xj xdi):=⟨rfl,rfl,rfl,by decide+kernel,rfl,by decide+kernel,by decide+kernel⟩
theorem xdH:xq ["rows","written","number","row","cell"] ["rows"] (xj xbx):=⟨rfl,rfl,rfl,by decide+kernel,rfl,by decide+kernel,by decide+kernel⟩
theorem xes:xq ["self","fall"] ["self","fall"] (xj xcl):=⟨rfl,rfl,rfl,by decide+kernel,rfl,by decide+kernel,by decide+kernel⟩
theorem xaf:xq ["self","kept","at","value","torn","count","answer"] ["self","kept","at","value","torn"] (xj vk):=⟨rfl,rfl,rfl,by decide+kernel,rfl,by decide+kernel,by decide+kernel⟩
theorem vA:xq ["self","count","fall"] ["self","count"] (xj zF):=⟨rfl,rfl,rfl,by decide+kernel,rfl,by decide+kernel,by decide+kernel⟩
theorem xcU:xq ["self","cells","fall"] ["self","cells","fall"] (xj zz):=⟨rfl,rfl,rfl,by decide+kernel,rfl,by decide+kernel,by decide+kernel⟩
theorem xbV:xq ["self"] ["self"] (xj jP):=⟨rfl,rfl,rfl,by decide+kernel,rfl,by decide+kernel,by decide+kernel⟩
theorem xbW:xq ["self"] ["self"] (xj jQ):=⟨rfl,rfl,rfl,by decide+kernel,rfl,by decide+kernel,by decide+kernel⟩
theorem xcV:xq ["self"] ["self"] (xj xaG):=⟨rfl,rfl,rfl,by decide+kernel,rfl,by decide+kernel,by decide+kernel⟩
theorem jD:xq ["self","at","number"] ["self","at","number"] (xj yj):=⟨rfl,rfl,rfl,by decide+kernel,rfl,by decide+kernel,by decide+kernel⟩
theorem xcW:xq ["self","text","size","fall"] ["self","text","size","fall"] (xj zA):=⟨rfl,rfl,rfl,by decide+kernel,rfl,by decide+kernel,by decide+kernel⟩
theorem xbX:xq ["self"] ["self"] (xj jR):=⟨rfl,rfl,rfl,by decide+kernel,rfl,by decide+kernel,by decide+kernel⟩
theorem xbe:xq ["self","paper","total","tries"] ["self","paper","total","tries"] (xj yx):=⟨rfl,rfl,rfl,by decide+kernel,rfl,by decide+kernel,by decide+kernel⟩
theorem xcX:xq ["self","other"] ["self"] (xj yU):=⟨rfl,rfl,rfl,by decide+kernel,rfl,by decide+kernel,by decide+kernel⟩
theorem xa2:xq ["self","other"] ["self"] (xj yp):=⟨rfl,rfl,rfl,by decide+kernel,rfl,by decide+kernel,by decide+kernel⟩
theorem xcY:xq ["self","bank"] ["self","bank"] (xj xaH):=⟨rfl,rfl,rfl,by decide+kernel,rfl,by decide+kernel,by decide+kernel⟩
theorem xcZ:xq ["self","marker","counter"] ["self"] (xj xaI):=⟨rfl,rfl,rfl,by decide+kernel,rfl,by decide+kernel,by decide+kernel⟩
theorem jd:xq ["self"] ["self"] (xj uA):=⟨rfl,rfl,rfl,by decide+kernel,rfl,by decide+kernel,by decide+kernel⟩
theorem vX:xq ["self","marked","other","counter"] ["self"] (xj zV):=⟨rfl,rfl,rfl,by decide+kernel,rfl,by decide+kernel,by decide+kernel⟩
theorem vY:xq ["self"] ["self"] (xj zW):=⟨rfl,rfl,rfl,by decide+kernel,rfl,by decide+kernel,by decide+kernel⟩
theorem vB:xq ["self","paper","other","fault"] ["self","paper"] (xj zG):=⟨rfl,rfl,rfl,by decide+kernel,rfl,by decide+kernel,by decide+kernel⟩
theorem vZ:xq ["self","bank","old"] ["self","bank","old"] (xj zX):=⟨rfl,rfl,rfl,by decide+kernel,rfl,by decide+kernel,by decide+kernel⟩
theorem vC:xq ["self","paper","total","tries","other","bank"] ["self","paper","total","tries"] (xj zH):=⟨rfl,rfl,rfl,by decide+kernel,rfl,by decide+kernel,by decide+kernel⟩
theorem jE:xq ["self","bank"] ["self","bank"] (xj uS):=⟨rfl,rfl,rfl,by decide+kernel,rfl,by decide+kernel,by decide+kernel⟩
theorem xbf:xq ["self","kept","at","value"] ["self","kept","at","value"] (xj yy):=⟨rfl,rfl,rfl,by decide+kernel,rfl,by decide+kernel,by decide+kernel⟩
theorem ja:xq ["self","deed","fallen"] ["self","deed"] (xj zY):=⟨rfl,rfl,rfl,by decide+kernel,rfl,by decide+kernel,by decide+kernel⟩
theorem xfD:xq ["cells","pen","bank"] ["cells","pen"] (xj xdl):=⟨rfl,rfl,rfl,by decide+kernel,rfl,by decide+kernel,by decide+kernel⟩
theorem xfE:xq ["_law_script","_law_k"] ["_law_script","_law_k"] (xj xdm):=⟨rfl,rfl,rfl,by decide+kernel,rfl,by decide+kernel,by decide+kernel⟩
theorem xh8:xq ["_law_cell","_law_k","_law_number"] ["_law_cell","_law_k"] (xj xf9):=⟨rfl,rfl,rfl,by decide+kernel,rfl,by decide+kernel,by decide+kernel⟩
theorem xlw:xq ["_law_cell","_law_count","_law_draw"] ["_law_cell","_law_count"] (xj xkk):=⟨rfl,rfl,rfl,by decide+kernel,rfl,by decide+kernel,by decide+kernel⟩
theorem xh9:xq ["_law_board","_law_deed_here","_law_paper_here","_law_total","_law_tries","_law_word","_law_answer","e"] ["_law_board","_law_deed_here","_law_paper_here","_law_total","_law_tries"] (xj xga):=⟨rfl,rfl,rfl,by decide+kernel,rfl,by decide+kernel,by decide+kernel⟩
theorem xia:xq ["_law_stand","_law_marker","_law_marks","_law_lengths","_law_tries","_law_running","_law_other"] ["_law_stand"] (xj xgb):=⟨rfl,rfl,rfl,by decide+kernel,rfl,by decide+kernel,by decide+kernel⟩
theorem xg0:xq ["_law_stand","_law_paper_here","_law_good","_law_tries","_law_marker","_law_marks","_law_lengths","_law_counter","_law_running","_law_other","_law_writes"] ["_law_stand","_law_paper_here","_law_good","_law_tries"] (xj s_update):=⟨rfl,rfl,rfl,by decide+kernel,rfl,by decide+kernel,by decide+kernel⟩
theorem xjt:xq ["_law_stand","_law_deed_here","_law_paper_here","_law_good","_law_tries","_law_marker","_law_marks","_law_lengths","_law_counter","_law_running","_law_other"] ["_law_stand","_law_deed_here","_law_paper_here","_law_good","_law_tries"] (xj xhV):=⟨rfl,rfl,rfl,by decide+kernel,rfl,by decide+kernel,by decide+kernel⟩
theorem xfF:xq ["_law_stand","_law_write","_law_marker","_law_marks","_law_lengths","_law_counter","_law_running"] ["_law_stand","_law_write"] (xj xdn):=⟨rfl,rfl,rfl,by decide+kernel,rfl,by decide+kernel,by decide+kernel⟩
theorem xlx:xq ["_law_stand","_law_plan","_law_cell","_law_count","_law_writes","_law_running","_law_answer","_law_write","_law_how_here"] ["_law_stand","_law_plan","_law_cell","_law_count"] (xj xkl):=⟨rfl,rfl,rfl,by decide+kernel,rfl,by decide+kernel,by decide+kernel⟩
theorem xib:xq ["_law_stand","_law_draw","_law_other","_law_length"] ["_law_stand","_law_draw"] (xj xgc):=⟨rfl,rfl,rfl,by decide+kernel,rfl,by decide+kernel,by decide+kernel⟩
theorem xly:xq ["_law_script","_law_text","_law_cell","_law_handed","_law_board","_law_stand","_law_cells","_law_count","_law_k","_law_draw","_law_deed_here","_law_paper_here","_law_total","_law_good","_law_tries","_law_plan","_law_due_here","_law_told"] ["_law_script"] (xj xcm):=⟨rfl,rfl,rfl,by decide+kernel,rfl,by decide+kernel,by decide+kernel⟩
def xcx(to st c:Int):List (Str×V):=[("to",.int to),("count",.int c),("source",.int st)]
def xfG(to:Int)(t:Addr)(n:Int):List (Str×V):=[("to",.int to),("count",.int n),("signs",.ref t)]
def za(lo:Int)(n:Nat):List Int:=(cT n).map fun(i:Nat)=>lo+(i:Int)
theorem xd3(lo:Int)(n:Nat):xdc lo n=(za lo n).map V.int:=by simp[xdc,za,Function.comp_def]
theorem yo(lo:Int)(n:Nat):(za lo n).length=n:=by simp[za]
inductive xB where
 |take (to st c:Int)
 |put (to:Int) (sg:List Int)
def xB.isTake:xB→Bool
 | .take .. =>true
 | .put .. =>false
def TupAt(K:ag)(H:Hp)(t:Addr):xB→Prop
 | .take to st c=>H t=some (.tup [.str "take",.int to,.int st,.int c])
 | .put to sg=>∃u,H t=some (.tup [.str "put",.int to,.ref u])∧H u=some (.tup (sg.map V.int))
theorem TupAt.same{K:ag}{H H':Hp}{t:Addr}{r:xB}(h:TupAt K H t r)(s:xc H H'):TupAt K H' t r:=by
 cases r with
 |take to st c=>exact s.at h
 |put to sg=>obtain⟨u,h1,h2⟩:=h;exact⟨u,s.at h1,s.at h2⟩
def uq(K:ag)(a:Adr)(H:Hp)(o:Addr):xB→Prop
 | .take to st c=>∃dx,H o=some (.ins a.q0c dx (xcx to st c))
 | .put to sg=>∃dx u,H o=some (.ins a.q0f dx (xfG to u sg.length))∧H u=some (.tup (sg.map V.int))
theorem uq.same{K:ag}{a:Adr}{H H':Hp}{o:Addr}{r:xB}(h:uq K a H o r)(s:xc H H'):uq K a H' o r:=by
 cases r with
 |take to st c=>obtain⟨dx,h⟩:=h;exact⟨dx,s.at h⟩
 |put to sg=>obtain⟨dx,u,h1,h2⟩:=h;exact⟨dx,u,s.at h1,s.at h2⟩
theorem uq.mv{K:ag}{a:Adr}{H H' H6:Hp}{o:Addr}{r:xB}(h:uq K a H' o r)(k:∀p o,(H p=none∨∀ys,o≠HO.lst ys)→H' p=some o→H6 p=some o):uq K a H6 o r:=by
 cases r with
 |take to st c=>obtain⟨dx,h⟩:=h;exact⟨dx,k _ _ (.inr fun ys z=>by cases z) h⟩
 |put to sg=>obtain⟨dx,u,h1,h2⟩:=h;exact⟨dx,u,k _ _ (.inr fun ys z=>by cases z) h1,k _ _ (.inr fun ys z=>by cases z) h2⟩
def xB.ok:xB→Prop
 | .take to st c=>0≤to∧0≤st∧1≤c
 | .put to sg=>0≤to∧sg≠[]∧sg.length≤100000∧∀x∈sg,(x.natAbs:Int)<10^60
def xic(K:ag)(a:Adr)(H:Hp)(l:Addr)(rs:List xB):Prop:=∃ts:List Addr,SqL K H l (ts.map V.ref)∧Paired (uq K a H) ts rs
theorem xlz{K:ag}{H:Hp}{t p C dx:Addr}{xs:List V}{fs:List (Str×V)}{o:HO}(h:SqT K H t xs)(hp:H p=some (.ins C dx fs)):SqT K (upd H p o) t xs:=by
 rcases h with(h|⟨ob,h⟩)|h
 ·exact .inl (.inl (by rw[xm (xa7 h hp (by intro z;cases z))];exact h))
 ·exact .inl (.inr ⟨ob,by rw[xm (xa7 h hp (by intro z;cases z))];exact h⟩)
 ·exact .inr h
def xi0(K:ag):Sp:=fun vs H Q _=>∃(p C dx:Addr) (to:Int),vs=[.ref p,.int to]∧H p=some (.ins C dx [])∧Cls K C∧xE K C "to"∧xE K C "count"∧Q .non (upd H p (.ins C dx [("to",.int to),("count",.int 0)]))
def xid(a:Adr):Sp:=fun vs H Q _=>∃(p dx:Addr) (to st c:Int),vs=[.ref p,.int to,.int st,.int c]∧H p=some (.ins a.q0c dx [])∧Q .non (upd H p (.ins a.q0c dx (xcx to st c)))
def xi1(K:ag)(a:Adr):Sp:=fun vs H Q _=>∃(p dx t:Addr) (to:Int) (xs:List V),vs=[.ref p,.int to,.ref t]∧H p=some (.ins a.q0f dx [])∧SqT K H t xs∧Q .non (upd H p (.ins a.q0f dx (xfG to t xs.length)))
def xgo(H:Hp)(Q:VK)(ns:List Int):Prop:=∀(l:Addr) (H':Hp),xc H H'→H l=none→H' l=some (.lst (ns.map V.int))→Q (.ref l) H'
def xmv(a:Adr):Sp:=fun vs H Q _=>∃(p dx:Addr) (to st c:Int),vs=[.ref p]∧H p=some (.ins a.q0c dx (xcx to st c))∧Q (.bl (decide (st=to))) H
def xi2:Sp:=fun vs H Q _=>∃i:Int,vs=[.int i]∧Q (.bl true) H
def xeO:Sp:=fun vs H Q _=>∃l i:Int,vs=[.int l,.int i]∧Q (.bl (decide (l≤i))) H
def xkp:Sp:=fun vs H Q _=>∃i:Int,vs=[.int i]∧(i.natAbs:Int)<10^60∧Q (.bl true) H
def xie(K:ag):Sp:=fun vs H Q _=>∃(u:Addr) (sg:List Int),vs=[.ref u]∧H u=some (.tup (sg.map V.int))∧sg≠[]∧sg.length≤100000∧(∀x∈sg,(x.natAbs:Int)<10^60)∧∀H',xc H H'→Q (.bl true) H'
def xhh(K:ag):Sp:=fun vs H Q _=>∃(t:Addr) (r:xB),vs=[.ref t]∧TupAt K H t r∧r.ok∧Q (.bl r.isTake) H
def xif(K:ag):Sp:=fun vs H Q _=>∃(t:Addr) (to:Int) (sg:List Int),vs=[.ref t]∧TupAt K H t (.put to sg)∧xB.ok (.put to sg)∧∀H',xc H H'→Q (.bl true) H'
def jG(K:ag)(a:Adr):Sp:=fun vs H Q _=>∃(t:Addr) (r:xB),vs=[.ref t]∧TupAt K H t r∧r.ok∧∀(o:Addr) (H':Hp),xc H H'→H o=none→uq K a H' o r→Q (.ref o) H'
def mixed(c k:Int):Int:=
 let n:=(c%2147483647+7919*k+1)*48271%2147483647
 n*(n / 1009+69621)%2147483647
def cellAt(ns:List Int)(k:Int):Int:=if k<ns.length then ns.getD k.toNat 0 else 0
def xcy(K:ag):Sp:=fun vs H Q _=>∃(p C dx:Addr) (fs:List (Str×V)) (to c:Int),vs=[.ref p]∧H p=some (.ins C dx fs)∧Cls K C∧xE K C "to"∧xE K C "count"∧fs.lookup ("to":Str)=some (.int to)∧fs.lookup ("count":Str)=some (.int c)∧c.toNat≤2^24∧xgo H Q (za to c.toNat)
def xkq(K:ag):Sp:=fun vs H Q _=>∃(l:Addr) (ns:List Int) (k:Int),vs=[.ref l,.int k]∧SqL K H l (ns.map V.int)∧0≤k∧Q (.int (cellAt ns k)) H
def xmw:Sp:=fun vs H Q _=>∃c k:Int,vs=[.int c,.int k]∧Q (.int (mixed c k)) H
def cN(d k:Nat):Nat:=(k+d - 1) / d
def chs(u:Nat→Nat→List Int)(d k:Nat):List (List Int):=(cT (cN d k)).map (u k)
theorem xju{d:Nat}(hd:0<d):cN d 0=0:=by unfold cN;exact Nat.div_eq_of_lt (by omega)
theorem xd4{d:Nat}(hd:0<d)(k:Nat):cN d (k+1)=k / d+1:=by
 unfold cN;rw[show k+1+d - 1=k+d by lia,Nat.add_div_right _ hd]
def uch(to:Int)(d k j:Nat):List Int:=za (to+((j*d:Nat):Int)) (min d (k - j*d))
def dch(e:Int)(d k j:Nat):List Int:=za (e - ((min ((j+1)*d) k:Nat):Int)) (min d (k - j*d))
def jq(to st c:Int):List (List Int):=
 if st=to then[]else if to<st then chs (uch to (st - to).toNat) (st - to).toNat c.toNat else chs (dch (to+c) (to - st).toNat) (to - st).toNat c.toNat
theorem xd5(u:Nat→Nat→List Int)(d k:Nat)(hd:0<d):(chs u d k).length≤k:=by
 unfold chs;rw[aq,gk];cases k with
 |zero=>rw[xju hd];exact av _
 |succ k=>rw[xd4 hd];have:=Nat.div_le_self k d;lia
theorem xlA{x:Int}(h0:x≠0)(h:x.natAbs<2^200):xk5 x:=by
 refine⟨h0,?_⟩;have:x.natAbs.log2<200:=(Nat.log2_lt (by lia)).mpr h;lia
theorem xn3(to c:Int)(d:Nat)(hc:1≤c)(hd:0<d):yt to (to+c) (d:Int)=cN d c.toNat:=by
 unfold yt a6;rw[if_pos (by lia),if_pos (by lia)];obtain⟨n,rfl⟩:∃n:Nat,c=(n:Int)+1:=⟨(c - 1).toNat,by lia⟩;rw[show((n:Int)+1).toNat=n+1 by lia,xd4 hd,show to+((n:Int)+1) - to - 1=(n:Int)by lia,←Int.natCast_ediv];generalize n / d=q;lia
theorem xlB(to c:Int)(d:Nat)(hc:1≤c)(hd:0<d):yt (to+c) to (-(d:Int))=cN d c.toNat:=by
 unfold yt a6;rw[if_neg (by lia),if_pos (by lia)];obtain⟨n,rfl⟩:∃n:Nat,c=(n:Int)+1:=⟨(c - 1).toNat,by lia⟩;rw[show((n:Int)+1).toNat=n+1 by lia,xd4 hd,show to+((n:Int)+1) - to - 1=(n:Int)by lia,Int.neg_neg,←Int.natCast_ediv];generalize n / d=q;lia
theorem xmx{d i k:Nat}(hd:0<d)(h:i<cN d k):i*d≤k:=by
 cases k with
 |zero=>rw[xju hd]at h;lia
 |succ k=>
  rw[xd4 hd]at h;have h1:i≤k / d:=by lia
  have:=bp (Nat.mul_le_mul_right d h1) (Nat.div_mul_le_self k d);lia
def Kp(S:List Addr)(H H':Hp):Prop:=∀b u,H b=some u→b∉S→H' b=some u
theorem Kp.of{S:List Addr}{H H':Hp}(s:xc H H'):Kp S H H':=fun b u e _=>s b u e
theorem Kp.trans{S:List Addr}{H H1 H2:Hp}(h:Kp S H H1)(g:Kp S H1 H2):Kp S H H2:=fun b u e n=>g b u (h b u e n) n
theorem Kp.mono{S S':List Addr}{H H1:Hp}(h:Kp S H H1)(m:∀x∈S,x∈S'):Kp S' H H1:=fun b u e n=>h b u e fun z=>n (m b z)
theorem Kp.wr{S:List Addr}{H H1:Hp}{p:Addr}{o:HO}(h:Kp S H H1)(m:p∈S):Kp S H (upd H1 p o):=fun b u e n=>by
 rw[xm (fun z=>n (by rw[z];exact m))];exact h b u e n
theorem Kp.mk{S:List Addr}{H H1:Hp}{p:Addr}{o:HO}(h:Kp S H H1)(m:H p=none):Kp S H (upd H1 p o):=fun b u e n=>by
 rw[xm (xC e m)];exact h b u e n
def jr:HO→Prop
 | .ins _ _ _=>True
 | .lst _=>True
 | .dK _=>True
 |_=>False
theorem yG.kp{H H':Hp}{S:List Addr}{f:Addr}{nm qual:Str}{params:bX}{body:dk}{scope:Scope}{fv:List (Str×V)}(h:yG H f nm qual params body scope fv)(mu:∀x∈S,∃u,H x=some u∧jr u)(k:Kp S H H'):yG H' f nm qual params body scope fv:=by
 have e:∀b u,H b=some u→¬jr u→H' b=some u:=fun b u q n=>k b u q fun z=>by
  obtain⟨u',q',m⟩:=mu b z;rw[q]at q';cases q';exact n m
 obtain⟨clos,c,o,u,u',vs,t,doc,pm,ctv,h1,h2,h3,h4,h5,h6,h7,h8⟩:=h;exact⟨clos,c,o,u,u',vs,t,doc,pm,ctv,e _ _ h1 (fun z=>z),e _ _ h2 (fun z=>z),h3,h4,h5,h6,fun x v m=>let⟨a,q1,q2⟩:=h7 x v m;⟨a,q1,e _ _ q2 (fun z=>z)⟩,fun x a q=>let⟨v,q2⟩:=h8 x a q;⟨v,e _ _ q2 (fun z=>z)⟩⟩
abbrev yW(n:Int)(fl:V):List (Str×V):=[("asked",.int n),("fall",fl)]
def xi3(a:Adr):Sp:=fun vs H Q _=>∃(p dp:Addr) (fl:V),vs=[.ref p,fl]∧H p=some (.ins a.q0i dp [])∧Q .non (upd H p (.ins a.q0i dp (yW 0 fl)))
def xd6:Stmt→Expr
 | .Expr v _=>v
 |_=>.Constant .none 0 ⟨0,0,0,0⟩
abbrev MuL(H:Hp)(L:List Addr):Prop:=∀x∈L,∃u,H x=some u∧jr u
structure FM where
 f:Addr
 M:List Addr
 fo:Nat→Int→Option (Option Int)
 At:Hp→Nat→Int→Prop
 keep:∀{H H':Hp} {L:List Addr} {k:Nat} {n:Int},At H k n→Kp L H H'→MuL H L→(∀x∈L,x∉M)→At H' k n
 mu:∀{H:Hp} {k:Nat} {n:Int},At H k n→MuL H M
def xkr(H:Hp)(v:V):Option (Option Int)→Prop
 |none=>v= .non
 |some none=>∃t,v= .ref t∧H t=some (.tup [])
 |some (some x)=>∃t,v= .ref t∧H t=some (.tup [.int x])
def nf(o:Option (Option Int)):Nat:=if o.isSome then 1 else 0
structure vp(P:ai)(w:World)(K:ag)(mg:Str→Option Value)(base:Heap)(F:FM):Prop where
 run:∀{H:Hp} {k:Nat} {n:Int} {Q:VK},F.At H k n→0≤n→(∀v H',Kp F.M H H'→xkr H' v (F.fo k n)→F.At H' (k+nf (F.fo k n)) (n+1)→Q v H')→FnV P w K mg base 3 H F.f [.int n] Q
 clo:∀{H:Hp} {k:Nat} {n:Int},F.At H k n→∃nm qual params body scope fv,yG H F.f nm qual params body scope fv
def xbg(P:ai)(w:World)(K:ag)(mg:Str→Option Value)(base:Heap)(H:Hp)(g:Addr)(tf:Int→V):Prop:=∃nm qual params body scope ps sp fv,yO P w K mg base CX0 1 nm qual params body scope ps sp∧yG H g nm qual params body scope fv∧∀(s:Int) (H':Hp) (Q:VK),Q (tf s) H'→sp fv [.int s] H' Q E0
theorem xbg.fnv{P:ai}{w:World}{K:ag}{mg:Str→Option Value}{base:Heap}{H:Hp}{g:Addr}{tf:Int→V}{s:Int}{Q:VK}(h:xbg P w K mg base H g tf)(q:Q (tf s) H):FnV P w K mg base 1 H g [.int s] Q:=by
 obtain⟨nm,qual,params,body,scope,ps,sp,fv,h1,h2,h3⟩:=h;exact⟨_,_,_,_,_,_,_,_,h1,h2,h3 s H Q q⟩
theorem xbg.clo{P:ai}{w:World}{K:ag}{mg:Str→Option Value}{base:Heap}{H:Hp}{g:Addr}{tf:Int→V}(h:xbg P w K mg base H g tf):∃nm qual params body scope fv,yG H g nm qual params body scope fv:=by
 obtain⟨nm,qual,params,body,scope,ps,sp,fv,_,h2,_⟩:=h;exact⟨_,_,_,_,_,_,h2⟩
theorem xbg.kp{P:ai}{w:World}{K:ag}{mg:Str→Option Value}{base:Heap}{H H':Hp}{S:List Addr}{g:Addr}{tf:Int→V}(h:xbg P w K mg base H g tf)(mu:MuL H S)(k:Kp S H H'):xbg P w K mg base H' g tf:=by
 obtain⟨nm,qual,params,body,scope,ps,sp,fv,h1,h2,h3⟩:=h;exact⟨_,_,_,_,_,_,_,_,h1,yG.kp h2 mu k,h3⟩
inductive Slot:HO→V→(V→HO)→Prop
 |lst (xs:List V) (i:Int):0≤i→i<xs.length→Slot (.lst xs) (.int i) (fun v=>.lst (xs.set i.toNat v))
 |dK (k:Key) (kvs:List (Key×V)):kvs.length<100→Slot (.dK kvs) (kV k) (fun v=>.dK (putK kvs k v))
theorem Slot.mu{o:HO}{at':V}{st:V→HO}(h:Slot o at' st):jr o∧(∀v,jr (st v))∧(∀C dx fs,o≠.ins C dx fs):=by
 cases h with
 |lst xs i _ _=>exact⟨trivial,fun _=>trivial,fun _ _ _ z=>by cases z⟩
 |dK k kvs _=>exact⟨trivial,fun _=>trivial,fun _ _ _ z=>by cases z⟩
def xm5(o:HO)(st:V→HO)(tf:Int→V):Option Int→HO
 |none=>o
 |some x=>st (tf x)
def xhi(P:ai)(w:World)(K:ag)(mg:Str→Option Value)(base:Heap)(a:Adr):Sp:=fun vs H Q _=>∃(F:FM) (p dp:Addr) (n m:Int) (k:Nat),vs=[.ref p,.int n]∧vp P w K mg base F∧H p=some (.ins a.q0i dp (yW m (.ref F.f)))∧F.At H k n∧0≤n∧
 ∀v H',Kp F.M H H'→xkr H' v (F.fo k n)→F.At H' (k+nf (F.fo k n)) (n+1)→Q v H'
inductive xdI(P:ai)(w:World)(K:ag)(mg:Str→Option Value)(base:Heap)(a:Adr)(vs:List V)(H:Hp)(Q:VK)(E:XK):Prop
 |mk (F:FM) (p dp l g:Addr) (at' val:V) (o:HO) (st:V→HO) (n:Int) (k:Nat) (tf:Int→V):vs=[.ref p,.ref l,at',val,.ref g]→vp P w K mg base F→H p=some (.ins a.q0i dp (yW n (.ref F.f)))→0≤n→F.At H k n→p∉F.M→l∉F.M→xbg P w K mg base H g tf→H l=some o→Slot o at' st→
  (F.fo k n=none→∀H',Kp (p::l::F.M) H H'→H' p=some (.ins a.q0i dp (yW (n+1) (.ref F.f)))→F.At H' k (n+1)→H' l=some (st val)→Q .non H')→
  (∀an,F.fo k n=some an→∀d H',Kp (p::l::F.M) H H'→H' p=some (.ins a.q0i dp (yW (n+1) (.ref F.f)))→F.At H' (k+1) (n+1)→H' l=some (xm5 o st tf an)→H d=none→H' d=some (.xd [("count",.int n)])→E (.ref a.q0d) (some d) H')→
  xdI P w K mg base a vs H Q E
def xig(P:ai)(w:World)(K:ag)(mg:Str→Option Value)(base:Heap)(a:Adr):Sp:=xdI P w K mg base a
structure SA where
 st:Addr
 dx:Addr
 ca:Addr
 na:Addr
 p:Addr
 dp:Addr
def nV:Option Int→V
 |none=>.non
 |some i=>.int i
abbrev SS(S:SA):List Addr:=[S.ca,S.na,S.p]
abbrev stF(S:SA):List (Str×V):=[("cells",.ref S.ca),("notes",.ref S.na),("pen",.ref S.p)]
structure zM(a:Adr)(H:Hp)(S:SA)(cells:List Int)(notes:List (Option Int))(n:Int)(fl:V):Prop where
 st:H S.st=some (.ins a.q0e S.dx (stF S))
 ca:H S.ca=some (.lst (cells.map V.int))
 na:H S.na=some (.lst (notes.map nV))
 p:H S.p=some (.ins a.q0i S.dp (yW n fl))
 ne:S.ca≠S.na
 np:S.p≠S.st
theorem zM.mu{a:Adr}{H:Hp}{S:SA}{cells:List Int}{notes:List (Option Int)}{n:Int}{fl:V}(h:zM a H S cells notes n fl):∀x∈SS S,∃u,H x=some u∧jr u:=by
 intro x hx;simp only[aw,bg,or_false]at hx;rcases hx with rfl|rfl|rfl
 ·exact⟨_,h.ca,trivial⟩
 ·exact⟨_,h.na,trivial⟩
 ·exact⟨_,h.p,trivial⟩
theorem zM.kp0{a:Adr}{H H':Hp}{S:SA}{L:List Addr}{cells:List Int}{notes:List (Option Int)}{n:Int}{fl:V}(h:zM a H S cells notes n fl)(k:Kp L H H')(d:∀x∈L,x≠S.st∧x≠S.ca∧x≠S.na∧x≠S.p):zM a H' S cells notes n fl:=
 ⟨k _ _ h.st (fun z=>(d _ z).1 rfl),k _ _ h.ca (fun z=>(d _ z).2.1 rfl),k _ _ h.na (fun z=>(d _ z).2.2.1 rfl),k _ _ h.p (fun z=>(d _ z).2.2.2 rfl),h.ne,h.np⟩
theorem zM.same{a:Adr}{H H':Hp}{S:SA}{cells:List Int}{notes:List (Option Int)}{n:Int}{fl:V}(h:zM a H S cells notes n fl)(s:xc H H'):zM a H' S cells notes n fl:=
 h.kp0 (L:=[]) (Kp.of s) (fun _ z=>nomatch z)
def xhj(K:ag)(a:Adr):Sp:=fun vs H Q _=>∃(st dx l:Addr) (cells:List Int) (fl:V),vs=[.ref st,.ref l,fl]∧H st=some (.ins a.q0e dx [])∧H l=some (.lst (cells.map V.int))∧
 ∀(S:SA) (H':Hp),S.st=st→Kp [st] H H'→zM a H' S cells [some 0,some 0] 0 fl→H S.ca=none→H S.na=none→H S.p=none→Q .non H'
def xn4(a:Adr):Sp:=fun vs H Q _=>∃(S:SA) (cells:List Int) (notes:List (Option Int)) (n:Int) (fl:V),vs=[.ref S.st]∧zM a H S cells notes n fl∧∀t c m H',xc H H'→H c=none→H m=none→c≠m→H' t=some (.tup [.ref c,.ref m,.int n])→H' c=some (.lst (cells.map V.int))→H' m=some (.lst (notes.map nV))→Q (.ref t) H'
def xcz(notes:List (Option Int))(m:Int):Prop:=(notes.filterMap id=[]→m=0)∧(notes.filterMap id≠[]→m∈notes.filterMap id∧∀x∈notes.filterMap id,x≤m)
theorem xcz.uniq{notes:List (Option Int)}{m m':Int}(h:xcz notes m)(h':xcz notes m'):m=m':=by
 by_cases e:notes.filterMap id=[]
 ·rw[h.1 e,h'.1 e]
 ·have a:=h.2 e;have b:=h'.2 e;have:=a.2 _ b.1;have:=b.2 _ a.1;lia
def xlC(a:Adr):Sp:=fun vs H Q _=>∃(S:SA) (cells:List Int) (notes:List (Option Int)) (n:Int) (fl:V),vs=[.ref S.st]∧zM a H S cells notes n fl∧notes.length=2∧∀m H',xc H H'→xcz notes m→Q (.int m) H'
local macro_rules| `(tactic|walk_at"w")=>`(tactic|(conv=>whnf))
local macro_rules| `(tactic|walk_at"few")=>`(tactic|first|exact Nat.lt_of_lt_of_le (xnx (n:=998) (by simp)) (by decide)|(simp;done))
local macro_rules| `(tactic|walk_at"pos")=>`(tactic|first|(show(0:Int)<_;decide)|(show(0:Int)<_;lia)|assumption)
local macro_rules| `(tactic|walk_at"same")=>`(tactic|first|exact xc.refl _|assumption|(refine' xc.trans ?sa ?sb;(case sb=>assumption);(case sa=>walk_at"same")))
local macro_rules| `(tactic|walk_at"get")=>`(tactic|first|assumption|exact xp|(refine' xc.at ?ga ?gb;(case gb=>assumption);(case ga=>walk_at"same")))
local macro_rules| `(tactic|walk_at"sq")=>`(tactic|first|assumption|(refine' SqL.of ?g;(case g=>walk_at"get"))|(refine' SqT.of ?g;(case g=>walk_at"get"))|(refine' xc.seq ?sa ?sb;(case sb=>assumption);(case sa=>walk_at"same"))|(refine' xc.seqT ?sa ?sb;(case sb=>assumption);(case sa=>walk_at"same"))|(refine' Or.inl ?g;(case g=>walk_at"sq"))|(refine' Or.inr ?g;(case g=>walk_at"sq")))
local macro_rules| `(tactic|walk_at"no")=>`(tactic|(intro z;first|cases z|(simp at z;done)))
local macro_rules| `(tactic|walk_at"mul")=>`(tactic|first|exact Or.inl ⟨by decide,by decide⟩|exact Or.inr ⟨by decide,by decide⟩|exact Or.inl ⟨by lia,by lia⟩|exact Or.inr ⟨by lia,by lia⟩)
local macro_rules| `(tactic|walk_at"side")=>`(tactic|first|exact⟨by decide,by decide⟩|exact⟨by decide,by decide,by decide⟩|walk_at"pos" |walk_at"mul" |(show(_:Nat)≤sizeLine;first|decide|(simp only[List.length_cons,List.length_nil];decide)))
local macro_rules| `(tactic|walk_at"s")=>`(tactic|(refine And.intro (by walk_at"side") ?_;walk_at"w"))
local macro_rules| `(tactic|walk_at"ss")=>`(tactic|(repeat (walk_at"s")))
section
variable {P:ai} {w:World} {K:ag} {mg:Str→Option Value} {base:Heap} {a:Adr}
theorem xgp(T:Txt K mg a):xA P w K mg base CX0 1 a.q06 a.ve ["self","count"] (xcf a.q0d "count"):=by
 refine T.q1L.ok uO (fun vs H Q E h=>?_) (fun cdv A outer s H vs Q E hr h=>?_)
 ·obtain⟨p,v,rfl,_⟩:=h;rfl
 ·obtain⟨p,v,rfl,hp,k⟩:=h;have nd:=uO.nd;refine⟨_,(xk (xjo (cv 0) (cv 1) rfl)),?_⟩;walk_at"w";refine⟨p,_,_,rfl,hp,T.q3b,T.q0H,fun d h1 h2=>?_⟩;exact k d h1 h2
theorem xfH(T:Txt K mg a):xkf P w K mg base 1 a.q06 a.ve ["self","count"] (fun _ _ _=>xcf a.q0d "count"):=by
 refine T.q1L.okE uO (fun ae cls dx vs H Q E h=>?_) (fun cdv A outer s H vs Q E qs ae cls dx hs hr h=>?_)
 ·obtain⟨p,v,rfl,_⟩:=h;rfl
 ·obtain⟨p,v,rfl,hp,k⟩:=h;have nd:=uO.nd;refine⟨_,(xk (xjo (cv 0) (cv 1) rfl)),?_⟩;walk_at"w";refine⟨p,_,_,rfl,hp,T.q3b,T.q0H,fun d h1 h2=>?_⟩;exact k d h1 h2
theorem xet(T:Txt K mg a):xA P w K mg base CX0 1 a.q18 a.xcr ["self","fall"] (xi3 a):=by
 refine T.q3i.ok xes (fun vs H Q E h=>?_) (fun cdv A outer s H vs Q E hr h=>?_)
 ·obtain⟨p,dp,fl,rfl,_⟩:=h;rfl
 ·obtain⟨p,dp,fl,rfl,hp,k⟩:=h;have nd:=xes.nd;refine⟨_,(xf (yg (cv 0) xl rfl)
  (xk (yg (cv 0) (cv 1) rfl))),?_⟩
  walk_at"w";refine⟨p,_,dp,_,rfl,hp,T.q3B,T.q2A,by walk_at"few",?_⟩;walk_at"w";refine⟨p,_,dp,_,rfl,xp,T.q3B,T.q3Y,by walk_at"few",?_⟩;walk_at"w";rw[zd];exact k
theorem xbY(T:Txt K mg a):xA P w K mg base CX0 4 a.q0o a.zJ ["self","count"] (xhi P w K mg base a):=by
 refine T.q0O.ok vA (fun vs H Q E h=>?_) (fun cdv A outer s H vs Q E hr h=>?_)
 ·obtain⟨F,p,dp,n,m,k,rfl,_⟩:=h;rfl
 ·obtain⟨F,p,dp,n,m,k,rfl,hF,hp,hat,hn,q⟩:=h;have nd:=vA.nd;refine⟨_,(xf (xx (i:=2) nd rfl (ay rfl) (xw (cv 0) rfl))
  (xf (xI (vJ (cv 2)) (xk (xr yh)) xt)
  (xk (xr (xhQ (k:=3) 2 (hr.mono (by decide)) (xa (cv 1) xg)))))),?_⟩
  walk_at"w";refine⟨p,_,dp,_,.ref F.f,rfl,hp,T.q3B,T.q3Y,rfl,?_⟩;walk_at"w";refine⟨by walk_at"no",fun _=>?_⟩;walk_at"w";refine⟨F.f,rfl,hF.clo hat,?_⟩;walk_at"w";exact hF.run hat hn q
theorem xag(T:Txt K mg a):xA P w K mg base (CXN P w) 5 a.q0I a.vo ["self","kept","at","value","torn"] (xig P w K mg base a):=by
 refine T.q1C.okN xaf (fun vs H Q E h=>?_) (fun cdv A outer s H vs Q E hr h=>?_)
 ·obtain⟨F,p,dp,l,g,at',val,o,st,n,k,tf,rfl,_⟩:=h;rfl
 ·obtain⟨F,p,dp,l,g,at',val,o,st,n,k,tf,rfl,hF,hp,hn,hat,hpM,hlM,ht,hl,hs,q1,q2⟩:=h;have nd:=xaf.nd;refine⟨_,(xf (xx (i:=5) nd rfl (ay rfl) (xw (cv 0) rfl))
  (xf (yg (cv 0) (xJ ug (cv 5) xl) rfl)
  (xf (xx (i:=6) nd rfl (ay rfl) (xak (cv 0) T.q3B T.q2H (xbY T) (hr.mono (by decide)) T.xct .nil xu (xa (cv 5) xg)))
  (xf (xI (vJ (cv 6)) (xf (jx (cv 3) (xkL (cv 1) (cv 2) (xgV (uG hr))))
  (xk xne)) xt)
  (xf (zQ (xI (xH zD (xQ xW (by rfl) T.q2e yT (xa (cv 6) xg)) xl) (xk (jx (xhQ (k:=1) 4 (hr.mono (by decide)) (xa (xy xM (cv 6) xl (fun _ _=>rfl)) xg)) (xkL (cv 1) (cv 2) (xgV (uG hr))))) xt))
  (xk (xkg (k:=1) ⟨rfl,rfl,rfl⟩ rfl T.q3b (xgp T) (hr.mono (by decide)) T.xcM (by rfl) T.xcw (xa (cv 5) xg)))))))),?_⟩
  have nlp:l≠p:=fun z=>by
   rw[z,hp]at hl;exact hs.mu.2.2 _ _ _ (aX hl).symm
  have mup:MuL H [p]:=fun x hx=>by rw[au.mp hx];exact⟨_,hp,trivial⟩
  walk_at"w";refine⟨p,_,dp,_,.int n,rfl,hp,T.q3B,T.q2A,rfl,?_⟩;walk_at"w";refine⟨p,_,dp,_,rfl,hp,T.q3B,T.q2A,by walk_at"few",?_⟩;generalize hU:upd H p _=H1;have c1:Kp [p] H H1:=by rw[←hU];exact(Kp.of (xc.refl _)).wr (by simp)
  have hp1:H1 p=some (.ins a.q0i dp (yW (n+1) (.ref F.f))):=by rw[←hU,xp];rfl
  have hl1:H1 l=some o:=by rw[←hU,xm nlp];exact hl
  clear hU;have hat1:=F.keep hat c1 mup (fun x hx=>by rw[au.mp hx];exact hpM);walk_at"w";refine⟨p,dp,_,rfl,hp1,rfl,?_⟩;walk_at"w";refine⟨F,p,dp,n,_,k,rfl,hF,hp1,hat1,hn,fun v H2 k2 hv hat2=>?_⟩;have mu1:MuL H (p::l::F.M):=fun x hx=>by
   rcases aw.mp hx with rfl|hx
   ·exact⟨_,hp,trivial⟩
   rcases aw.mp hx with rfl|hx
   ·exact⟨_,hl,hs.mu.1⟩
   ·exact F.mu hat x hx
  have kk:Kp (p::l::F.M) H H2:=(c1.mono (fun x hx=>by rw[au.mp hx];simp)).trans (k2.mono fun x hx=>by simp[hx]);have hp2:=k2 _ _ hp1 hpM;have hl2:=k2 _ _ hl1 hlM;have ht2:=ht.kp mu1 kk;clear c1 hp1 hl1 k2 hat1;cases hfo:F.fo k n with
  |none=>
   rw[hfo]at hv hat2;obtain rfl:v= .non:=hv;walk_at"w";refine⟨fun _=>?_,by walk_at"no"⟩;walk_at"w";have hat3:∀H3,Kp [l] H2 H3→F.At H3 k (n+1):=fun H3 z=>F.keep hat2 z (fun x hx=>by rw[au.mp hx];exact⟨_,hl2,hs.mu.1⟩) (fun x hx=>by rw[au.mp hx];exact hlM);cases hs with
   |lst xs i h0 hi=>
    refine .inl ⟨l,xs,i,_,rfl,rfl,hl2,xlg h0 hi,?_⟩;exact q1 hfo _ (kk.wr (by simp)) (by rw[xm (ak nlp)];exact hp2) (hat3 _ ((Kp.of (xc.refl _)).wr (by simp))) xp
   |dK ky kvs h0=>
    refine .inr ⟨l,_,rfl,.inl ⟨kvs,ky,hl2,rfl,by rw[aQ];lia,rfl⟩,?_⟩;exact q1 hfo _ (kk.wr (by simp)) (by rw[xm (ak nlp)];exact hp2) (hat3 _ ((Kp.of (xc.refl _)).wr (by simp))) xp
  |some an=>
   rw[hfo]at hv hat2;have hat2:F.At H2 (k+1) (n+1):=hat2;have q2:=q2 an hfo;have back:∀(H3:Hp) (d:Addr),Kp (p::l::F.M) H H3→H3 p=some (.ins a.q0i dp (yW (n+1) (.ref F.f)))→F.At H3 (k+1) (n+1)→(∃u,H3 l=some u)→H3 d=none→H d=none:=fun H3 d k3 hp3 hat3 hl3 hd=>by
    cases z:H d with
    |none=>rfl
    |some u=>
     by_cases hm:d∈p::l::F.M
     ·rcases aw.mp hm with e|hm
      ·rw[e,hp3]at hd;cases hd
      rcases aw.mp hm with e|hm
      ·obtain⟨u,hu⟩:=hl3;rw[e,hu]at hd;cases hd
      ·obtain⟨u,hu,_⟩:=F.mu hat3 _ hm;rw[hu]at hd;cases hd
     ·rw[k3 d u z hm]at hd;cases hd
   have fin:∀(H3:Hp),Kp (p::l::F.M) H H3→H3 p=some (.ins a.q0i dp (yW (n+1) (.ref F.f)))→F.At H3 (k+1) (n+1)→H3 l=some (xm5 o st tf an)→∀d,H3 d=none→E (.ref a.q0d) (some d) (upd H3 d (.xd [("count",.int n)])):=fun H3 z1 z2 z3 z4 d hd=>by
    have hd0:=back H3 d z1 z2 z3 ⟨_,z4⟩ hd;exact q2 d _ (z1.mk hd0) (by rw[xm (xC z2 hd)];exact z2) (F.keep (L:=[]) z3 (Kp.of (xc.new hd)) (fun _ z=>nomatch z) (fun _ z=>nomatch z)) (by rw[xm (xC z4 hd)];exact z4) hd0 xp
   cases an with
   |none=>
    obtain⟨ta,rfl,hta⟩:=hv;walk_at"w";refine⟨by walk_at"no",fun _=>?_⟩;walk_at"w";refine⟨fun σ' H'=>σ'=[some (.ref p),some (.ref l),some at',some val,some (.ref g),some (.int n),some (.ref ta)]∧H'=H2,?_,?_⟩
    ·walk_at"w";refine⟨ta,_,rfl,.inr (SqT.of hta),?_⟩;walk_at"w";refine⟨by walk_at"no",fun _=>⟨rfl,rfl⟩⟩
    ·rintro σ' H' ⟨rfl,rfl⟩;walk_at"w";exact⟨.int n,rfl,fin _ kk hp2 hat2 hl2⟩
   |some s1=>
    obtain⟨ta,rfl,hta⟩:=hv;walk_at"w";refine⟨by walk_at"no",fun _=>?_⟩;walk_at"w";refine⟨fun σ' H'=>σ'=[some (.ref p),some (.ref l),some at',some val,some (.ref g),some (.int n),some (.ref ta)]∧Kp (p::l::F.M) H H'∧H' p=some (.ins a.q0i dp (yW (n+1) (.ref F.f)))∧F.At H' (k+1) (n+1)∧H' l=some (st (tf s1)),?_,?_⟩
    ·walk_at"w";refine⟨ta,_,rfl,.inr (SqT.of hta),?_⟩;walk_at"w";refine⟨fun _=>?_,by walk_at"no"⟩;walk_at"w";refine⟨g,rfl,ht2.clo,?_⟩;walk_at"w";refine⟨ta,_,0,.int s1,rfl,rfl,SqT.of hta,rfl,?_⟩;walk_at"w";refine ht2.fnv ?_;walk_at"w";have hat3:∀H3,Kp [l] H2 H3→F.At H3 (k+1) (n+1):=fun H3 z=>F.keep hat2 z (fun x hx=>by rw[au.mp hx];exact⟨_,hl2,hs.mu.1⟩) (fun x hx=>by rw[au.mp hx];exact hlM);cases hs with
     |lst xs i h0 hi=>
      refine .inl ⟨l,xs,i,_,rfl,rfl,hl2,xlg h0 hi,?_⟩;exact⟨rfl,kk.wr (by simp),by rw[xm (ak nlp)];exact hp2,hat3 _ ((Kp.of (xc.refl _)).wr (by simp)),xp⟩
     |dK ky kvs h0=>
      refine .inr ⟨l,_,rfl,.inl ⟨kvs,ky,hl2,rfl,by rw[aQ];lia,rfl⟩,?_⟩;exact⟨rfl,kk.wr (by simp),by rw[xm (ak nlp)];exact hp2,hat3 _ ((Kp.of (xc.refl _)).wr (by simp)),xp⟩
    ·rintro σ' H' ⟨rfl,z1,z2,z3,z4⟩;walk_at"w";exact⟨.int n,rfl,fin _ z1 z2 z3 z4⟩
theorem xhk(T:Txt K mg a):xA P w K mg base CX0 3 a.q1j a.vT ["self","cells","fall"] (xhj K a):=by
 refine T.uC.ok xcU (fun vs H Q E h=>?_) (fun cdv A outer s H vs Q E hr h=>?_)
 ·obtain⟨st,dx,l,cells,fl,rfl,_⟩:=h;rfl
 ·obtain⟨st,dx,l,cells,fl,rfl,hst,hl,k⟩:=h;have nd:=xcU.nd;refine⟨_,(xf (yg (cv 0) (ym yQ (by rfl) T.q2I zx (xa (cv 1) xg)) rfl)
  (xf (yg (cv 0) (yd (xa xl (xa xl xg))) rfl)
  (xk (yg (cv 0) (xal T.q4G (xet T) (hr.mono (by decide)) (by rfl) T.xm4 T.xfx .nil xu (xa (cv 2) xg)) rfl)))),?_⟩
  walk_at"w";refine⟨l,_,rfl,.inl (SqL.of hl),?_⟩;intro ca hca;walk_at"w";refine⟨st,_,dx,_,rfl,by rw[xm (xC hst hca)];exact hst,T.q00,T.q3k,by walk_at"few",?_⟩;generalize hU1:upd (upd H ca _) st _=H1;have k1:Kp [st] H H1:=by rw[←hU1];exact((Kp.of (xc.refl _)).mk hca).wr (by simp)
  have f1:H1 st=some (.ins a.q0e dx [("cells",.ref ca)]):=by rw[←hU1,xp];rfl
  have g1:H1 ca=some (.lst (cells.map V.int)):=by rw[←hU1,xm (ak (xC hst hca)),xp]
  have b1:∀b,H1 b=none→H b=none∧b≠st∧b≠ca:=fun b hb=>by
   have n1:b≠st:=fun z=>by rw[z,f1]at hb;cases hb
   have n2:b≠ca:=fun z=>by rw[z,g1]at hb;cases hb
   rw[←hU1,xm n1,xm n2]at hb;exact⟨hb,n1,n2⟩
  clear hU1;walk_at"w";walk_at"ss";intro na hna;obtain⟨na0,na1,na2⟩:=b1 na hna;walk_at"w";refine⟨st,_,dx,_,rfl,by rw[xm (xC f1 hna)];exact f1,T.q00,T.q1S,by walk_at"few",?_⟩;generalize hU2:upd (upd H1 na _) st _=H2;have k2:Kp [st] H H2:=by rw[←hU2];exact(k1.mk na0).wr (by simp)
  have f2:H2 st=some (.ins a.q0e dx [("cells",.ref ca),("notes",.ref na)]):=by rw[←hU2,xp];rfl
  have g2:H2 ca=some (.lst (cells.map V.int)):=by rw[←hU2,xm (xa7 g1 f1 (by intro z;cases z)),xm (ak na2)];exact g1
  have m2:H2 na=some (.lst ([some 0,some 0].map nV)):=by rw[←hU2,xm na1,xp];rfl
  have b2:∀b,H2 b=none→H b=none∧b≠st∧b≠ca∧b≠na:=fun b hb=>by
   have n1:b≠st:=fun z=>by rw[z,f2]at hb;cases hb
   have n3:b≠na:=fun z=>by rw[z,m2]at hb;cases hb
   rw[←hU2,xm n1,xm n3]at hb;exact⟨(b1 b hb).1,n1,(b1 b hb).2.2,n3⟩
  clear hU2 b1;walk_at"w";intro p dp hp hdp nep;obtain⟨p0,p1,p2,p3⟩:=b2 p hp;obtain⟨q0,q1,q2,q3⟩:=b2 dp hdp;refine⟨p,dp,fl,rfl,xp,?_⟩;refine⟨rfl,?_⟩;walk_at"w";rw[zd];have e3:∀b,b≠p→b≠dp→∀o o',upd (upd H2 dp o) p o' b=H2 b:=fun b n1 n2 o o'=>by rw[xm n1,xm n2]
  refine⟨st,_,dx,_,rfl,by rw[e3 _ (ak p1) (ak q1)];exact f2,T.q00,T.q2B,by walk_at"few",?_⟩;refine k ⟨st,dx,ca,na,p,dp⟩ _ rfl (((k2.mk q0).mk p0).wr (by simp)) ⟨?_,?_,?_,?_,ak na2,p1⟩ hca na0 p0
  ·rw[xp];rfl
  ·rw[xm (xa7 g2 f2 (by intro z;cases z)),e3 _ (ak p2) (ak q2)];exact g2
  ·rw[xm na1,e3 _ (ak p3) (ak q3)];exact m2
  ·rw[xm p1,xp]
theorem xc0(T:Txt K mg a):xA P w K mg base CX0 1 a.q1H a.xaP ["self"] (xn4 a):=by
 refine T.q2x.ok xcV (fun vs H Q E h=>?_) (fun cdv A outer s H vs Q E hr h=>?_)
 ·obtain⟨S,cells,notes,n,fl,rfl,_⟩:=h;rfl
 ·obtain⟨S,cells,notes,n,fl,rfl,hS,k⟩:=h;have nd:=xcV.nd;refine⟨_,(xk (xr (xO (xa (ym yQ (by rfl) T.q2I zx (xa (xw (cv 0) rfl) xg)) (xa (ym yQ (by rfl) T.q2I zx (xa (xw (cv 0) rfl) xg)) (xa (xw (xw (cv 0) rfl) rfl) xg)))))),?_⟩;walk_at"w";refine⟨S.st,_,S.dx,_,.ref S.ca,rfl,hS.st,T.q00,T.q3k,rfl,?_⟩;walk_at"w";refine⟨S.ca,_,rfl,.inl (SqL.of hS.ca),?_⟩;intro c hc;generalize hUc:upd H c _=H1;have sH1:=xc.of_eq hc hUc;have ec:=xh hUc;clear hUc;walk_at"w";have hS1:=hS.same sH1;refine⟨S.st,_,S.dx,_,.ref S.na,rfl,hS1.st,T.q00,T.q1S,rfl,?_⟩;walk_at"w";refine⟨S.na,_,rfl,.inl (SqL.of hS1.na),?_⟩;intro m hm;generalize hUm:upd H1 m _=H2;have sH2:=xc.of_eq hm hUm;have em:=xh hUm;clear hUm;walk_at"w";have hS2:=hS1.same sH2;refine⟨S.st,_,S.dx,_,.ref S.p,rfl,hS2.st,T.q00,T.q2B,rfl,?_⟩;walk_at"w";refine⟨S.p,_,S.dp,_,.int n,rfl,hS2.p,T.q3B,T.q2A,rfl,?_⟩;walk_at"w";walk_at"ss";intro t ht;generalize hUt:upd H2 t _=H3;have sH3:=xc.of_eq ht hUt;have et:=xh hUt;clear hUt;walk_at"w";exact k t c m H3 (sH1.trans (sH2.trans sH3)) hc (sH1.back hm) (xC ec hm) et (sH3.at (sH2.at ec)) (sH3.at em)
theorem xcA:∀notes:List (Option Int),((notes.map nV).filter fun v=> !(isN v)).map (fun v=>v)=(notes.filterMap id).map V.int
 |[]=>rfl
 |none::r=>by
  have:=xcA r;simpa [nV,isN]using this
 |some i::r=>by
  have:=xcA r;simpa [nV,isN]using this
theorem xgq(T:Txt K mg a):xA P w K mg base CX0 1 a.q1x a.jW ["self"] (xlC a):=by
 refine T.q12.ok xbV (fun vs H Q E h=>?_) (fun cdv A outer s H vs Q E hr h=>?_)
 ·obtain⟨S,cells,notes,n,fl,rfl,_⟩:=h;rfl
 ·obtain⟨S,cells,notes,n,fl,rfl,hS,h2,k⟩:=h;have nd:=xbV.nd;refine⟨_,(xk (xr (xnD rfl (by rfl) T.q4w (xa (jh (vI (cap:=[]) (ys:=[]) rfl rfl rfl rfl rfl trivial (by decide+kernel)) rfl (zv (xw (cv 0) rfl)) (fun _ _ _ _=>(cv 0)) (fun _ _ _ _=>(xnt (xdY (cv 0))))) xg) xl))),?_⟩;walk_at"w";refine⟨S.st,_,S.dx,_,.ref S.na,rfl,hS.st,T.q00,T.q1S,rfl,?_⟩;walk_at"w";refine⟨S.na,rfl,⟨_,SqL.of hS.na⟩,?_⟩;refine xj4 (fun v=> !(isN v)) (fun v=>v) (SqL.of hS.na) (by rw[aq,h2];decide) (fun x H3 hx s3 R hR=>?_) (fun x H3 hx hp s3 R hR=>?_) (fun D H' hD s' e'=>?_)
  ·exact hR H3 (xc.refl _)
  ·exact hR H3 (xc.refl _)
  ·rw[xcA]at e';exact⟨D,_,0,rfl,rfl,SqL.of e',fun m h1 h2=>k m H' s' ⟨h1,h2⟩⟩
theorem xeu(T:Txt K mg a):xA P w K mg base CX0 1 a.q15 a.xcn ["self","to"] (xi0 K):=by
 refine T.q3g.ok xep (fun vs H Q E h=>?_) (fun cdv A outer s H vs Q E hr h=>?_)
 ·obtain⟨p,C,dx,to,rfl,_⟩:=h;rfl
 ·obtain⟨p,C,dx,to,rfl,hp,c,n1,n2,k⟩:=h;have nd:=xep.nd;refine⟨_,(xf (yg (cv 0) (cv 1) rfl)
  (xk (yg (cv 0) xl rfl))),?_⟩
  walk_at"w";refine⟨p,C,dx,_,rfl,hp,c,n1,by walk_at"few",?_⟩;walk_at"w";refine⟨p,C,dx,_,rfl,xp,c,n2,by walk_at"few",?_⟩;walk_at"w";rw[zd];exact k
theorem xih(T:Txt K mg a):xA P w K mg base CX0 2 a.q1P a.xbz ["self","to","start","count"] (xid a):=by
 refine T.q2T.ok xdB (fun vs H Q E h=>?_) (fun cdv A outer s H vs Q E hr h=>?_)
 ·obtain⟨p,dx,to,st,c,rfl,_⟩:=h;rfl
 ·obtain⟨p,dx,to,st,c,rfl,hp,k⟩:=h;have nd:=xdB.nd;refine⟨_,(xf (xR (xjj (by rfl) T.xm3 T.q30 (xeu T) (hr.mono (by decide)) T.xfo .nil xu (xa (cv 0) (xa (cv 1) xg))))
  (xf (yg (cv 0) (cv 2) rfl)
  (xk (yg (cv 0) (cv 3) rfl)))),?_⟩
  walk_at"w";refine⟨p,_,dx,to,rfl,hp,T.q0h,T.q0R,T.q0L,?_⟩;walk_at"w";refine⟨p,_,dx,_,rfl,xp,T.q0h,T.q0x,by walk_at"few",?_⟩;walk_at"w";refine⟨p,_,dx,_,rfl,xp,T.q0h,T.q0L,by walk_at"few",?_⟩;walk_at"w";rw[zd,zd];exact k
theorem xi4(T:Txt K mg a):xA P w K mg base CX0 2 a.q17 a.xco ["self","to","signs"] (xi1 K a):=by
 refine T.q3h.ok xeq (fun vs H Q E h=>?_) (fun cdv A outer s H vs Q E hr h=>?_)
 ·obtain⟨p,dx,t,to,xs,rfl,_⟩:=h;rfl
 ·obtain⟨p,dx,t,to,xs,rfl,hp,ht,k⟩:=h;have nd:=xeq.nd;have ht1:∀o,SqT K (upd H p o) t xs:=fun o=>xlz ht hp;refine⟨_,(xf (xR (xjj (by rfl) T.xm3 T.q30 (xeu T) (hr.mono (by decide)) T.xfo .nil xu (xa (cv 0) (xa (cv 1) xg))))
  (xf (yg (cv 0) (ym xg8 (by rfl) T.q39 xb9 (xa (cv 2) xg)) rfl)
  (xk (yg (cv 0) (xQ xW (by rfl) T.q2e yT (xa (xw (cv 0) rfl) xg)) rfl)))),?_⟩
  walk_at"w";refine⟨p,_,dx,to,rfl,hp,T.q1O,T.q3a,T.q1K,?_⟩;walk_at"w";refine⟨t,xs,rfl,.inr ⟨ht1 _,?_⟩⟩;walk_at"w";refine⟨p,_,dx,_,rfl,xp,T.q1O,T.q3A,by walk_at"few",?_⟩;walk_at"w";refine⟨p,_,dx,_,.ref t,rfl,xp,T.q1O,T.q3A,rfl,?_⟩;walk_at"w";refine⟨t,xs,rfl,.inr (xlz (ht1 _) xp),?_⟩;walk_at"w";refine⟨p,_,dx,_,rfl,xp,T.q1O,T.q1K,by walk_at"few",?_⟩;walk_at"w";rw[zd,zd];exact k
theorem yB(T:Txt K mg a):xA P w K mg base CX0 1 a.q0K a.jS ["self"] (xcy K):=by
 refine T.q1Z.ok xbS (fun vs H Q E h=>?_) (fun cdv A outer s H vs Q E hr h=>?_)
 ·obtain⟨p,C,dx,fs,to,c,rfl,_⟩:=h;rfl
 ·obtain⟨p,C,dx,fs,to,c,rfl,hp,cl,n1,n2,l1,l2,hc,k⟩:=h;have nd:=xbS.nd;refine⟨_,(xk (xr (ym (vc rfl) (by rfl) T.q2I zx (xa (xba (by rfl) T.q1U (xa (xw (cv 0) rfl) (xa (xJ ug (xw (cv 0) rfl) (xw (cv 0) rfl)) xg))) xg)))),?_⟩;walk_at"w";refine⟨p,C,dx,fs,_,rfl,hp,cl,n1,l1,?_⟩;walk_at"w";refine⟨p,C,dx,fs,_,rfl,hp,cl,n1,l1,?_⟩;walk_at"w";refine⟨p,C,dx,fs,_,rfl,hp,cl,n2,l2,?_⟩;walk_at"w";intro r hr1;walk_at"w";have e:yt to (to+c) 1=c.toNat:=by rw[vg];congr 1;lia
  refine⟨r,to,to+c,rfl,xp,by rw[e];exact hc,fun l hl=>?_⟩;rw[e,xd3];have hl0:H l=none:=xc.free (xc.new hr1) hl;exact k l _ ((xc.new hr1).put hl0) hl0 xp
theorem xaa(T:Txt K mg a):xA P w K mg base CX0 1 a.q1D a.xaK ["self"] (xmv a):=by
 refine T.q2s.ok xcP (fun vs H Q E h=>?_) (fun cdv A outer s H vs Q E hr h=>?_)
 ·obtain⟨p,dx,to,st,c,rfl,_⟩:=h;rfl
 ·obtain⟨p,dx,to,st,c,rfl,hp,k⟩:=h;have nd:=xcP.nd;refine⟨_,(xk (xr (uw zD (xw (cv 0) rfl) (xw (cv 0) rfl)))),?_⟩;walk_at"w";refine⟨p,_,dx,_,.int st,rfl,hp,T.q0h,T.q0x,rfl,?_⟩;walk_at"w";refine⟨p,_,dx,_,.int to,rfl,hp,T.q0h,T.q0R,rfl,?_⟩;exact k
theorem xcB(T:Txt K mg a):xA P w K mg base CX0 1 a.q22 a.xdt ["_law_script","_law_k"] (xkq K):=by
 refine T.q2b.ok xfE (fun vs H Q E h=>?_) (fun cdv A outer s H vs Q E hr h=>?_)
 ·obtain⟨l,ns,k,rfl,_⟩:=h;rfl
 ·obtain⟨l,ns,k,rfl,hl,hk,q⟩:=h;have nd:=xfE.nd;refine⟨_,(xf (xI (xH xjT (cv 1) (xQ xW (by rfl) T.q2e yT (xa (cv 0) xg))) (xk (xr (xy xU (cv 0) (cv 1) (fun _ _=>rfl)))) xt)
  (xk (xr xl))),?_⟩
  walk_at"w";refine⟨l,_,rfl,.inl hl,?_⟩;walk_at"w";refine⟨fun e=>?_,fun e=>?_⟩
  ·have e':=of_decide_eq_true e;rw[aq]at e';walk_at"w";refine⟨l,_,k,.int (ns.getD k.toNat 0),rfl,rfl,hl,?_,?_⟩
   ·have hk':k.toNat<ns.length:=by lia
    have:=xjf (xs:=ns.map V.int) (j:=k.toNat) (v:=.int (ns.getD k.toNat 0)) (by simp[hk'])
    rwa [eg hk]at this
   ·walk_at"w";rw[cellAt,if_pos e']at q;exact q
  ·have e':=of_decide_eq_false e;rw[aq]at e';rw[cellAt,if_neg e']at q;exact q
theorem xks(x:Int):0≤x%2147483647∧x%2147483647<2147483647:=⟨Int.emod_nonneg _ (by decide),Int.emod_lt_of_pos _ (by decide)⟩
theorem xeP(T:Txt K mg a):xA P w K mg base CX0 1 a.q3I a.xgf ["_law_cell","_law_k"] xmw:=by
 refine T.q3j.ok xh8 (fun vs H Q E h=>?_) (fun cdv A outer s H vs Q E hr h=>?_)
 ·obtain⟨c,k,rfl,_⟩:=h;rfl
 ·obtain⟨c,k,rfl,q⟩:=h;have nd:=xh8.nd;refine⟨_,(xf (xx (i:=2) nd rfl (ay rfl) (xJ uH (xJ xjS (xJ ug (xJ ug (xJ uH (cv 0) xl) (xJ xjS xl (cv 1))) xl) xl) xl))
  (xk (xr (xJ uH (xJ xjS (cv 2) (xJ ug (xJ xas (cv 2) xl) xl)) xl)))),?_⟩
  have b:=xks ((c%2147483647+7919*k+1)*48271);walk_at"w";refine⟨by walk_at"pos",?_⟩;walk_at"w";refine⟨.inl ⟨by decide,by decide⟩,?_⟩;walk_at"w";refine⟨.inr ⟨by decide,by decide⟩,?_⟩;walk_at"w";refine⟨by walk_at"pos",?_⟩;walk_at"w";refine⟨⟨by decide,by decide⟩,?_⟩;walk_at"w";refine⟨.inl ⟨by lia,by lia⟩,?_⟩;walk_at"w";refine⟨by walk_at"pos",?_⟩;exact q
theorem xev(T:Txt K mg a):xA P w K mg base CX0 1 a.q2K a.xcp ["value"] xi2:=by
 refine T.q2a.ok xer (fun vs H Q E h=>?_) (fun cdv A outer s H vs Q E hr h=>?_)
 ·obtain⟨i,rfl,_⟩:=h;rfl
 ·obtain⟨i,rfl,q⟩:=h;have nd:=xer.nd;refine⟨_,(xk (xr (zP (xQ ux (by rfl) T.q1s yI (xa (cv 0) (xa (xbJ (v:=.ty "int") (by rfl) T.q47 xk9 rfl) xg))) (vF (xo0 (xQ ux (by rfl) T.q1s yI (xa (cv 0) (xa (xbJ (v:=.ty "bool") (by rfl) T.q5e xnw rfl) xg)))))))),?_⟩;walk_at"w";refine⟨_,_,_,_,true,rfl,rfl,zo.int _,rfl,?_⟩;walk_at"w";refine⟨fun _=>?_,by walk_at"no"⟩;walk_at"w";refine⟨_,_,_,_,false,rfl,rfl,zo.int _,rfl,?_⟩;exact q
theorem yX(T:Txt K mg a):xA P w K mg base CX0 2 a.q1f a.vP ["least","value"] xeO:=by
 refine T.q0r.ok xaY (fun vs H Q E h=>?_) (fun cdv A outer s H vs Q E hr h=>?_)
 ·obtain⟨l,i,rfl,_⟩:=h;rfl
 ·obtain⟨l,i,rfl,q⟩:=h;have nd:=xaY.nd;refine⟨_,(xk (xr (zP (xG (xev T) (hr.mono (by decide)) (by rfl) T.xfq T.q2a.kp T.xfp .nil xu (xa (cv 1) xg)) (vF (uw xoZ (cv 1) (cv 0)))))),?_⟩;walk_at"w";refine⟨i,rfl,?_⟩;walk_at"w";exact⟨fun _=>q,by walk_at"no"⟩
theorem xkt(T:Txt K mg a):xA P w K mg base CX0 2 a.q2X a.xdo ["value"] xkp:=by
 refine T.q24.ok xfB (fun vs H Q E h=>?_) (fun cdv A outer s H vs Q E hr h=>?_)
 ·obtain⟨i,rfl,_⟩:=h;rfl
 ·obtain⟨i,rfl,hi,q⟩:=h;have nd:=xfB.nd;refine⟨_,(xk (xr (zP (xG (xev T) (hr.mono (by decide)) (by rfl) T.xfq T.q2a.kp T.xfp .nil xu (xa (cv 0) xg)) (vF (uw xjT (xQ xp9 (by rfl) T.q5w xo3 (xa (cv 0) xg)) (xJ xp1 xl xl)))))),?_⟩;walk_at"w";refine⟨i,rfl,?_⟩;walk_at"w";refine⟨fun _=>?_,by walk_at"no"⟩;walk_at"w";refine⟨⟨by decide,by decide,by decide⟩,?_⟩;walk_at"w";show Q (.bl (decide ((i.natAbs:Int)<10^(60:Int).toNat))) H;have e:decide ((i.natAbs:Int)<10^(60:Int).toNat)=true:=decide_eq_true hi;rw[e];exact q
theorem xii(T:Txt K mg a):xA P w K mg base CX0 3 a.q2g a.xbC ["signs"] (xie K):=by
 refine T.q2l.ok xdE (fun vs H Q E h=>?_) (fun cdv A outer s H vs Q E hr h=>?_)
 ·obtain⟨u,sg,rfl,_⟩:=h;rfl
 ·obtain⟨u,sg,rfl,hu,hne,hlen,hs,q⟩:=h;have nd:=xdE.nd;refine⟨_,(xk (xr (zP (xQ ux (by rfl) T.q1s yI (xa (cv 0) (xa (xbJ (v:=.ty "tuple") (by rfl) T.q39 xb9 rfl) xg))) (zP (uw xc9 (xQ xW (by rfl) T.q2e yT (xa (cv 0) xg)) xl) (vF (xQ (xle rfl) (by rfl) T.q5x xo4 (xa (jh (vI (cap:=[]) (ys:=[]) rfl rfl rfl rfl rfl trivial (by decide+kernel)) rfl (xhB (cv 0)) (fun _ _ _ _=>(xG (xkt T) (hr.mono (by decide)) (by rfl) T.xln T.q24.kp T.xlm .nil xu (xa (cv 0) xg))) (fun _ _ _ _=>vw)) xg))))))),?_⟩;walk_at"w";refine⟨_,_,_,_,true,rfl,rfl,zo.tup hu,rfl,?_⟩;walk_at"w";refine⟨fun _=>?_,by walk_at"no"⟩;walk_at"w";refine⟨u,_,rfl,.inr (SqT.of hu),?_⟩;walk_at"w";have hpos:0<sg.length:=iN.mpr hne;refine⟨fun _=>?_,fun z=>by have:=of_decide_eq_false z;rw[aq]at this;lia⟩;walk_at"w";refine⟨u,rfl,⟨_,SqT.of hu⟩,?_⟩;refine xgT (fun i acc _=>acc=aU i (V.bl true)) (SqT.of hu) (by rw[aq,aQ];lia) rfl (fun i x acc H3 H3' hx s3 s3' hp R hR=>?_) (fun D acc H3 H3' hD hD3 s3 s3' hp hl hv=>?_)
  ·rw[aJ]at hx;cases hy:sg[i]? with
   |none=>rw[hy]at hx;cases hx
   |some y=>
    rw[hy]at hx;cases hx;walk_at"w";refine⟨y,rfl,hs y (bf hy),hR _ _ (xc.refl _) fun H6 _ _=>?_⟩;rw[hp,List.replicate_succ']
  ·walk_at"w";refine⟨D,aU sg.length true,rfl,SqL.of ?_,?_⟩
   ·rw[hv,hp,aq,List.map_replicate]
   ·walk_at"w";show Q (.bl ((aU sg.length true).all id)) H3';have e:(aU sg.length true).all id=true:=by simp
    rw[e];exact q _ (s3.trans s3')
theorem xhl(T:Txt K mg a):xA P w K mg base CX0 3 a.q1V a.xaO ["told"] (xhh K):=by
 refine T.q1X.ok xcT (fun vs H Q E h=>?_) (fun cdv A outer s H vs Q E hr h=>?_)
 ·obtain⟨t,r,rfl,_⟩:=h;rfl
 ·obtain⟨t,r,rfl,ht,hk,q⟩:=h;have nd:=xcT.nd;refine⟨_,(xf (xI (PW.pt (va (xc5 (zw (xQ ux (by rfl) T.q1s yI (xa (cv 0) (xa (xbJ (v:=.ty "tuple") (by rfl) T.q39 xb9 rfl) xg))))) (va (xH xa8 (xQ xW (by rfl) T.q2e yT (xa (cv 0) xg)) xl) (uW (xH vH (xy xM (cv 0) xl (fun _ _=>rfl)) xv))))) (xk (xr uf)) xt)
  (xk (xr (zP (xG (yX T) (hr.mono (by decide)) (by rfl) T.zm T.q0r.kp T.zl .nil xu (xa xl (xa (xy xM (cv 0) xl (fun _ _=>rfl)) xg))) (zP (xG (yX T) (hr.mono (by decide)) (by rfl) T.zm T.q0r.kp T.zl .nil xu (xa xl (xa (xy xM (cv 0) xl (fun _ _=>rfl)) xg))) (vF (xG (yX T) (hr.mono (by decide)) (by rfl) T.zm T.q0r.kp T.zl .nil xu (xa xl (xa (xy xM (cv 0) xl (fun _ _=>rfl)) xg))))))))),?_⟩
  cases r with
  |put to sg=>
   obtain⟨u,h1,h2⟩:=ht;walk_at"w";refine⟨_,_,_,_,true,rfl,rfl,zo.tup h1,rfl,?_⟩;walk_at"w";refine⟨by walk_at"no",fun _=>?_⟩;walk_at"w";refine⟨t,_,rfl,.inr (SqT.of h1),?_⟩;walk_at"w";refine⟨fun _=>?_,by walk_at"no"⟩;walk_at"w";exact⟨fun _=>q,by walk_at"no"⟩
  |take to st c=>
   walk_at"w";refine⟨_,_,_,_,true,rfl,rfl,zo.tup ht,rfl,?_⟩;walk_at"w";refine⟨by walk_at"no",fun _=>?_⟩;walk_at"w";refine⟨t,_,rfl,.inr (SqT.of ht),?_⟩;walk_at"w";refine⟨by walk_at"no",fun _=>?_⟩;walk_at"w";refine⟨t,_,_,.str "take",rfl,rfl,SqT.of ht,rfl,?_⟩;walk_at"w";refine⟨by walk_at"no",fun _=>?_⟩;walk_at"w";obtain⟨k1,k2,k3⟩:=hk;refine⟨t,_,_,.int to,rfl,rfl,SqT.of ht,rfl,?_⟩;walk_at"w";refine⟨_,_,rfl,?_⟩;walk_at"w";refine⟨fun _=>?_,fun z=>absurd k1 (of_decide_eq_false z)⟩;walk_at"w";refine⟨t,_,_,.int st,rfl,rfl,SqT.of ht,rfl,?_⟩;walk_at"w";refine⟨_,_,rfl,?_⟩;walk_at"w";refine⟨fun _=>?_,fun z=>absurd k2 (of_decide_eq_false z)⟩;walk_at"w";refine⟨t,_,_,.int c,rfl,rfl,SqT.of ht,rfl,?_⟩;walk_at"w";refine⟨_,_,rfl,?_⟩;walk_at"w";rw[decide_eq_true k3];exact q
theorem xij(T:Txt K mg a):xA P w K mg base CX0 4 a.q2f a.xbB ["told"] (xif K):=by
 refine T.q2k.ok xdD (fun vs H Q E h=>?_) (fun cdv A outer s H vs Q E hr h=>?_)
 ·obtain⟨t,to,sg,rfl,_⟩:=h;rfl
 ·obtain⟨t,to,sg,rfl,⟨u,h1,h2⟩,⟨k1,k2,k3,k4⟩,q⟩:=h;have nd:=xdD.nd;refine⟨_,(xf (xI (PW.pt (va (xc5 (zw (xQ ux (by rfl) T.q1s yI (xa (cv 0) (xa (xbJ (v:=.ty "tuple") (by rfl) T.q39 xb9 rfl) xg))))) (va (xH xa8 (xQ xW (by rfl) T.q2e yT (xa (cv 0) xg)) xl) (uW (xH vH (xy xM (cv 0) xl (fun _ _=>rfl)) xv))))) (xk (xr uf)) xt)
  (xk (xr (zP (xG (yX T) (hr.mono (by decide)) (by rfl) T.zm T.q0r.kp T.zl .nil xu (xa xl (xa (xy xM (cv 0) xl (fun _ _=>rfl)) xg))) (vF (xG (xii T) (hr.mono (by decide)) (by rfl) T.xiS T.q2l.kp T.xiR .nil xu (xa (xy xM (cv 0) xl (fun _ _=>rfl)) xg))))))),?_⟩
  walk_at"w";refine⟨_,_,_,_,true,rfl,rfl,zo.tup h1,rfl,?_⟩;walk_at"w";refine⟨by walk_at"no",fun _=>?_⟩;walk_at"w";refine⟨t,_,rfl,.inr (SqT.of h1),?_⟩;walk_at"w";refine⟨by walk_at"no",fun _=>?_⟩;walk_at"w";refine⟨t,_,_,.str "put",rfl,rfl,SqT.of h1,rfl,?_⟩;walk_at"w";refine⟨by walk_at"no",fun _=>?_⟩;walk_at"w";refine⟨t,_,_,.int to,rfl,rfl,SqT.of h1,rfl,?_⟩;walk_at"w";refine⟨_,_,rfl,?_⟩;walk_at"w";refine⟨fun _=>?_,fun z=>absurd k1 (of_decide_eq_false z)⟩;walk_at"w";refine⟨t,_,_,.ref u,rfl,rfl,SqT.of h1,rfl,?_⟩;walk_at"w";exact⟨u,sg,rfl,h2,k2,k3,k4,q⟩
theorem jH(T:Txt K mg a):xA P w K mg base CX0 5 a.q3r a.xeH ["told"] (jG K a):=by
 refine T.q1W.ok xgZ (fun vs H Q E h=>?_) (fun cdv A outer s H vs Q E hr h=>?_)
 ·obtain⟨t,r,rfl,_⟩:=h;rfl
 ·obtain⟨t,r,rfl,ht,hk,q⟩:=h;have nd:=xgZ.nd;refine⟨_,(xf (xI (zw (xG (xhl T) (hr.mono (by decide)) (by rfl) T.xh2 T.q1X.kp T.xh1 .nil xu (xa (cv 0) xg))) (xk (xr (xal T.q4N (xih T) (hr.mono (by decide)) (by rfl) T.xh5 T.xiN .nil xu (xa (xy xM (cv 0) xl (fun _ _=>rfl)) (xa (xy xM (cv 0) xl (fun _ _=>rfl)) (xa (xy xM (cv 0) xl (fun _ _=>rfl)) xg)))))) xt)
  (xf (xI (zw (xG (xij T) (hr.mono (by decide)) (by rfl) T.xiQ T.q2k.kp T.xiP .nil xu (xa (cv 0) xg))) (xk (xr (xal T.q5b (xi4 T) (hr.mono (by decide)) (by rfl) T.xqp T.xko .nil xu (xa (xy xM (cv 0) xl (fun _ _=>rfl)) (xa (xy xM (cv 0) xl (fun _ _=>rfl)) xg))))) xt)
  (xk xao))),?_⟩
  walk_at"w";refine⟨t,r,rfl,ht,hk,?_⟩;cases r with
  |take to st c=>
   walk_at"w";refine⟨fun _=>?_,by walk_at"no"⟩;walk_at"w";refine⟨t,_,_,.int to,rfl,rfl,SqT.of ht,rfl,?_⟩;walk_at"w";refine⟨t,_,_,.int st,rfl,rfl,SqT.of ht,rfl,?_⟩;walk_at"w";refine⟨t,_,_,.int c,rfl,rfl,SqT.of ht,rfl,?_⟩;walk_at"w";intro x dx hx hdx hne;generalize hU:upd H dx (.own x)=H3;have sH3:=xc.of_eq hdx hU;have hx3:H3 x=none:=by rw[←hU,xm (ak hne)];exact hx
   refine⟨x,dx,_,_,_,rfl,xp,?_⟩;rw[zd];walk_at"w";exact⟨rfl,q x _ (sH3.trans (xc.new hx3)) hx ⟨dx,xp⟩⟩
  |put to sg=>
   walk_at"w";refine⟨by walk_at"no",fun _=>?_⟩;walk_at"w";refine⟨t,to,sg,rfl,ht,hk,fun H2 s2=>?_⟩;walk_at"w";obtain⟨u,h1,h2⟩:=ht;refine⟨fun _=>?_,by walk_at"no"⟩;walk_at"w";refine⟨t,_,_,.int to,rfl,rfl,SqT.of (s2.at h1),rfl,?_⟩;walk_at"w";refine⟨t,_,_,.ref u,rfl,rfl,SqT.of (s2.at h1),rfl,?_⟩;walk_at"w";intro x dx hx hdx hne;generalize hU:upd H2 dx (.own x)=H3;have sH3:=xc.of_eq hdx hU;have hx3:H3 x=none:=by rw[←hU,xm (ak hne)];exact hx
   refine⟨x,dx,u,_,_,rfl,xp,(sH3.trans (xc.new hx3)).seqT (SqT.of (s2.at h2)),?_⟩;rw[zd];walk_at"w";refine⟨rfl,q x _ (s2.trans (sH3.trans (xc.new hx3))) (s2.back hx) ⟨dx,u,?_,(s2.trans (sH3.trans (xc.new hx3))).at h2⟩⟩;rw[xp,aq]
end
def xm6(H:Hp)(Q:VK)(xss:List (List Int)):Prop:=∀(l:Addr) (as:List Addr) (H':Hp),xc H H'→zE H H' l as xss→Q (.ref l) H'
def xcC(a:Adr):Sp:=fun vs H Q _=>∃(p dx:Addr) (to st c:Int),vs=[.ref p]∧H p=some (.ins a.q0c dx (xcx to st c))∧1≤c∧c≤1000∧(st - to).natAbs<2^200∧xm6 H Q (jq to st c)
def xcD(a:Adr):Sp:=fun vs H Q _=>∃(p dx t:Addr) (to n:Int),vs=[.ref p]∧H p=some (.ins a.q0f dx (xfG to t n))∧n≤1000∧xm6 H Q [za to n.toNat]
def xlD(K:ag):Sp:=fun vs H Q _=>∃(p C dx:Addr) (fs:List (Str×V)) (to c:Int),vs=[.ref p]∧H p=some (.ins C dx fs)∧Cls K C∧xE K C "to"∧xE K C "count"∧fs.lookup ("to":Str)=some (.int to)∧fs.lookup ("count":Str)=some (.int c)∧∀t,H t=none→Q (.ref t) (upd H t (.tup [.int to,.int (to+c)]))
theorem TupAt.off{K:ag}{H:Hp}{t p:Addr}{r:xB}{xs:List V}{o:HO}(h:TupAt K H t r)(hp:H p=some (.lst xs)):TupAt K (upd H p o) t r:=by
 have ne:∀{q:Addr} {ys:List V},H q=some (.tup ys)→upd H p o q=some (.tup ys):=fun{q ys} e=>by
  rw[xm (fun z=>by rw[z,hp]at e;cases e)];exact e
 cases r with
 |take to st c=>exact ne h
 |put to sg=>obtain⟨u,h1,h2⟩:=h;exact⟨u,ne h1,ne h2⟩
def Sm:xB→Prop
 | .take to st c=>to≤100∧st≤100∧c≤9
 | .put to sg=>to≤100∧sg.length≤9
theorem xbG{α β:Type}{F:α→β→Prop}{x:α}{y:β}:∀{l₁:List α} {l₂:List β},Paired F l₁ l₂→F x y→Paired F (l₁++[x]) (l₂++[y])
 |_,_,.nil,h=>.cons h .nil
 |_,_,.cons r t,h=>.cons r (xbG t h)
theorem Paired.nth{α β:Type}{F:α→β→Prop}:∀{l₁:List α} {l₂:List β} {i:Nat} {x:α},Paired F l₁ l₂→l₁[i]? =some x→∃y,l₂[i]? =some y∧F x y
 |_,_,_,_,.nil,e=>by simp at e
 |_,_,0,_,.cons r _,e=>by simp at e;subst e;exact⟨_,rfl,r⟩
 |_,_,i+1,_,.cons _ t,e=>by
  obtain⟨y,h1,h2⟩:=Paired.nth (i:=i) t (by simpa using e);exact⟨y,by simpa using h1,h2⟩
def GT(K:ag)(H:Hp)(u:Addr)(r:xB):Prop:=TupAt K H u r∧r.ok∧Sm r
def xB.cv:xB→List Int
 | .take to _ c=>za to c.toNat
 | .put to sg=>za to sg.length
def xB.rds:xB→List Int
 | .take to st c=>if st=to then[]else za st c.toNat
 | .put _ _=>[]
def xB.wrs:xB→List Int
 | .take to st c=>if st=to then[]else za to c.toNat
 | .put to sg=>za to sg.length
def num:Nat→List (List Int)→List (Nat×Int)
 |_,[]=>[]
 |k,cs::r=>cs.map (fun c=>(k,c))++num (k+1) r
def tw:List (Nat×Int)→List Int→Option (Nat×Int)
 |[],_=>none
 |(k,c)::r,seen=>if c∈seen then some (k,c)else tw r (c::seen)
def jI(rs:List xB):Option (Nat×Int):=tw (num 0 (rs.map xB.cv)) []
def uZ(rs:List xB)(new:Nat):Option Int:=((cT new).map fun(i:Nat)=>(i:Int)).find? fun c=> !decide (c∈(rs.map xB.cv).flatten)
def xbh:Nat→List xB→List Int→Option (Nat×Int)
 |_,[],_=>none
 |k,r::rest,wr=>match r.rds.find? fun c=>decide (c∈wr)with
  |some c=>some (k,c)
  |none=>xbh (k+1) rest (wr++r.wrs)
def xcE(rs:List xB):Option (Nat×Int):=xbh 0 rs []
def xku(H:Hp)(Q:VK)(w:Str):Option (Nat×Int)→Prop
 |none=>∀H',xc H H'→Q .non H'
 |some (k,c)=>∀t H',xc H H'→H' t=some (.tup [.str w,.int k,.int c])→Q (.ref t) H'
def xps(H:Hp)(Q:VK)(w:Str):Option Int→Prop
 |none=>∀H',xc H H'→Q .non H'
 |some c=>∀t H',xc H H'→H' t=some (.tup [.str w,.int c])→Q (.ref t) H'
def xfI(rs:List xB):Prop:=rs.length≤300∧∀r∈rs,r.cv.length≤300∧r.rds.length≤300∧r.wrs.length≤300
def xmy(K:ag)(a:Adr):Sp:=fun vs H Q _=>∃(l:Addr) (rs:List xB),vs=[.ref l]∧xic K a H l rs∧xfI rs∧jI rs=none∧xku H Q "twice" (jI rs)
def xkv(K:ag)(a:Adr):Sp:=fun vs H Q _=>∃(l:Addr) (rs:List xB) (new:Nat),vs=[.ref l,.int new]∧xic K a H l rs∧xfI rs∧new≤300∧xps H Q "lacks" (uZ rs new)
def xn5(K:ag)(a:Adr):Sp:=fun vs H Q _=>∃(l:Addr) (rs:List xB),vs=[.ref l]∧xic K a H l rs∧xfI rs∧xku H Q "late" (xcE rs)
def xcF(K:ag)(H:Hp)(p:Addr)(o n:Int)(rs:List xB):Prop:=∃t ts,H p=some (.tup [.int o,.int n,.ref t])∧H t=some (.tup (ts.map V.ref))∧Paired (TupAt K H) ts rs
theorem xcF.same{K:ag}{H H':Hp}{p:Addr}{o n:Int}{rs:List xB}(h:xcF K H p o n rs)(s:xc H H'):xcF K H' p o n rs:=by
 obtain⟨t,ts,h1,h2,h3⟩:=h;exact⟨t,ts,s.at h1,s.at h2,L2.Paired.imp' (fun _ _ z=>z.same s) h3⟩
def Fit(old new:Int):xB→Prop
 | .take to st c=>st+c≤old∧to+c≤new
 | .put to sg=>to+sg.length≤new
def xik:Sp:=fun vs H Q _=>∃i:Int,vs=[.int i]∧0≤i∧i≤300∧Q (.bl true) H
inductive xjv(K:ag)(vs:List V)(H:Hp)(Q:VK):Prop
 |mk (p:Addr) (o n:Int) (rs:List xB):(vs=[.ref p])→(xcF K H p o n rs)→(0≤o)→(o≤300)→(0≤n)→(n≤300)→(rs.length≤300)→(Q (.bl true) H)→xjv K vs H Q
def xn6(K:ag):Sp:=fun vs H Q _=>xjv K vs H Q
def xkw(K:ag):Sp:=fun vs H Q _=>∃(t:Addr) (r:xB) (old new:Int),vs=[.ref t,.int old,.int new]∧TupAt K H t r∧r.ok∧Fit old new r∧∀H',xc H H'→Q (.bl true) H'
def xmz(K:ag):Sp:=fun vs H Q _=>∃(p:Addr) (o n:Int) (rs:List xB),vs=[.ref p]∧xcF K H p o n rs∧(∀r∈rs,r.ok∧Fit o n r)∧rs.length≤300∧∀H',xc H H'→Q .non H'
def xil(H:Hp)(Q:VK)(rs:List xB)(n:Int):Prop:=match uZ rs n.toNat with
 |some c=>xps H Q "lacks" (some c)
 |none=>xku H Q "late" (xcE rs)
inductive xim(K:ag)(vs:List V)(H:Hp)(Q:VK):Prop
 |mk (p:Addr) (o n:Int) (rs:List xB):(vs=[.ref p])→(xcF K H p o n rs)→((0≤o∧o≤300))→((0≤n∧n≤300))→(rs.length≤300)→((∀r∈rs,r.ok∧Fit o n r))→(jI rs=none)→(xil H Q rs n)→xim K vs H Q
def xmA(K:ag):Sp:=fun vs H Q _=>xim K vs H Q
section
variable {P:ai} {w:World} {K:ag} {mg:Str→Option Value} {base:Heap} {a:Adr}
theorem xhm(T:Txt K mg a):xA P w K mg base CX0 2 a.q1G a.xaN ["self"] (xcD a):=by
 refine T.q2v.ok xcS (fun vs H Q E h=>?_) (fun cdv A outer s H vs Q E hr h=>?_)
 ·obtain⟨p,dx,t,to,n,rfl,_⟩:=h;rfl
 ·obtain⟨p,dx,t,to,n,rfl,hp,hn,k⟩:=h;have nd:=xcS.nd;refine⟨_,(xk (xr (yd (xa (xT (cv 0) T.q1O T.q1T (yB T) (hr.mono (by decide)) T.yJ .nil xu) xg)))),?_⟩;walk_at"w";refine⟨p,dx,_,rfl,hp,rfl,?_⟩;walk_at"w";refine⟨p,_,dx,_,to,n,rfl,hp,T.q1O,T.q3a,T.q1K,rfl,rfl,by lia,fun l H1 s1 hl e1=>?_⟩;walk_at"w";walk_at"ss";intro D hD;have hD0:=s1.back hD;refine k D [l] _ (s1.put hD0) ⟨xp,?_,rfl,fun i b xs h1 h2=>?_,hD0,fun b hb=>?_⟩
  ·have:D≠l:=fun z=>by rw[z,e1]at hD;cases hD
   simpa using this
  ·cases i with
   |zero=>
    simp at h1 h2;subst h1 h2;rw[xm (xC e1 hD)];exact e1
   |succ i=>simp at h1
  ·rw[au.mp hb];exact hl
theorem xgr(T:Txt K mg a):xA P w K mg base CX0 2 a.q1w a.jU ["self"] (xcC a):=by
 refine T.q11.ok xbU (fun vs H Q E h=>?_) (fun cdv A outer s H vs Q E hr h=>?_)
 ·obtain⟨p,dx,to,st,c,rfl,_⟩:=h;rfl
 ·obtain⟨p,dx,to,st,c,rfl,hp,hc1,hc2,hd,k⟩:=h;have nd:=xbU.nd;refine⟨_,(xf (xI (zw (xT (cv 0) T.q0h T.q2S (xaa T) (hr.mono (by decide)) T.xaS .nil xu)) (xk (xr (yd xg))) xt)
  (xf (xx (i:=1) nd rfl (cx rfl) (xw (cv 0) rfl))
  (xf (xx (i:=2) nd rfl (cx rfl) (xJ ug (xw (cv 0) rfl) (xw (cv 0) rfl)))
  (xf (xI (xH xjT (xw (cv 0) rfl) (xw (cv 0) rfl)) (xf (xx (i:=3) nd rfl (cx rfl) (xJ zC (xw (cv 0) rfl) (xw (cv 0) rfl)))
  (xk (xr (jh (vI (cap:=[2,3]) (ys:=["end","step"]) rfl rfl rfl rfl rfl ⟨⟨rfl,rfl,.inl rfl⟩,⟨⟨rfl,rfl,.inl rfl⟩,trivial⟩⟩ (by decide+kernel)) rfl (xgM (by rfl) T.q1U (xa (cv 1) (xa (cv 2) (xa (cv 3) xg)))) (fun _ _ _ _=>(ym (vc rfl) (by rfl) T.q2I zx (xa (xba (by rfl) T.q1U (xa (cv 0) (xa (xQ (xla rfl) (by rfl) T.q48 xk7 (xa (xJ ug (cv 0) (cv 2)) (xa (cv 1) xg))) xg))) xg))) (fun _ _ _ _=>vw))))) xt)
  (xf (xx (i:=3) nd rfl (cx rfl) (xJ zC (xw (cv 0) rfl) (xw (cv 0) rfl)))
  (xk (xr (jh (vI (cap:=[1,3]) (ys:=["first","step"]) rfl rfl rfl rfl rfl ⟨⟨rfl,rfl,.inl rfl⟩,⟨⟨rfl,rfl,.inl rfl⟩,trivial⟩⟩ (by decide+kernel)) rfl (xgM (by rfl) T.q1U (xa (cv 2) (xa (cv 1) (xa (xpP xp2 (cv 3)) xg)))) (fun _ _ _ _=>(ym (vc rfl) (by rfl) T.q2I zx (xa (xba (by rfl) T.q1U (xa (xQ (xhL rfl) (by rfl) T.q4w xfe (xa (xJ zC (cv 0) (cv 2)) (xa (cv 1) xg))) (xa (cv 0) xg))) xg))) (fun _ _ _ _=>vw))))))))),?_⟩
  walk_at"w";refine⟨p,dx,_,rfl,hp,rfl,?_⟩;walk_at"w";refine⟨p,dx,to,st,c,rfl,hp,?_⟩;walk_at"w";refine⟨fun e=>?_,fun e=>?_⟩
  ·have e':st=to:=of_decide_eq_true e;walk_at"w";walk_at"ss";intro l hl;refine k l [] _ (xc.new hl) ?_;rw[jq,if_pos e'];exact zE.nil (H':=H) hl xp
  ·have e':¬st=to:=of_decide_eq_false e;walk_at"w";refine⟨p,_,dx,_,.int to,rfl,hp,T.q0h,T.q0R,rfl,?_⟩;walk_at"w";refine⟨p,_,dx,_,.int to,rfl,hp,T.q0h,T.q0R,rfl,?_⟩;walk_at"w";refine⟨p,_,dx,_,.int c,rfl,hp,T.q0h,T.q0L,rfl,?_⟩;walk_at"w";refine⟨p,_,dx,_,.int to,rfl,hp,T.q0h,T.q0R,rfl,?_⟩;walk_at"w";refine⟨p,_,dx,_,.int st,rfl,hp,T.q0h,T.q0x,rfl,?_⟩;walk_at"w";refine⟨fun e2=>?_,fun e2=>?_⟩
   ·have e3:to<st:=of_decide_eq_true e2;walk_at"w";refine⟨p,_,dx,_,.int st,rfl,hp,T.q0h,T.q0x,rfl,?_⟩;walk_at"w";refine⟨p,_,dx,_,.int to,rfl,hp,T.q0h,T.q0R,rfl,?_⟩;walk_at"w";refine bo (xlA (by lia) hd) ?_;walk_at"w";obtain⟨d,hdd⟩:∃d:Nat,st - to=(d:Int):=⟨(st - to).toNat,by lia⟩;have hd0:0<d:=by lia
    rw[hdd,xn3 to c d hc1 hd0];refine xff (uch to d c.toNat) (bp ?_ (show 1000≤aF by decide)) (fun i H3 hi s3 R hR=>?_) (fun D H2 as s2 L=>?_)
    ·have:=xd5 (uch to d) d c.toNat hd0;unfold chs at this;rw[aq,gk]at this;lia
    ·walk_at"w";intro r hr;generalize hUr:upd H3 r _=H4;have sH4:=xc.of_eq hr hUr;have er:=xh hUr;clear hUr;walk_at"w";have ep:(i:Int)*(d:Int)=((i*d:Nat):Int):=by rw[Int.natCast_mul]
     have el:yt (to+((i*d:Nat):Int)) (min (to+((i*d:Nat):Int)+(st - to)) (to+c)) 1=min d (c.toNat - i*d):=by
      rw[vg];generalize i*d=q;lia
     rw[ep]at er;refine⟨r,_,_,rfl,er,by rw[el];lia,fun l hl=>?_⟩;rw[el,xd3];exact hR l _ (sH4.put (sH4.back hl)) (sH4.back hl) xp
    ·refine k D as H2 s2 ?_;rw[jq,if_neg e',if_pos e3,hdd];exact L
   ·have e3:¬to<st:=of_decide_eq_false e2;walk_at"w";refine⟨p,_,dx,_,.int to,rfl,hp,T.q0h,T.q0R,rfl,?_⟩;walk_at"w";refine⟨p,_,dx,_,.int st,rfl,hp,T.q0h,T.q0x,rfl,?_⟩;walk_at"w";refine bo (xlA (by lia) (by lia)) ?_;walk_at"w";obtain⟨d,hdd⟩:∃d:Nat,to - st=(d:Int):=⟨(to - st).toNat,by lia⟩;have hd0:0<d:=by lia
    rw[hdd,xlB to c d hc1 hd0];refine xff (dch (to+c) d c.toNat) (bp ?_ (show 1000≤aF by decide)) (fun i H3 hi s3 R hR=>?_) (fun D H2 as s2 L=>?_)
    ·have:=xd5 (dch (to+c) d) d c.toNat hd0;unfold chs at this;rw[aq,gk]at this;lia
    ·walk_at"w";intro r hr;generalize hUr:upd H3 r _=H4;have sH4:=xc.of_eq hr hUr;have er:=xh hUr;clear hUr;walk_at"w";have ep:(i:Int)* -(d:Int)= -((i*d:Nat):Int):=by rw[Int.mul_neg,Int.natCast_mul]
     have hid:i*d≤c.toNat:=xmx hd0 hi;have el:yt (max (to+c+ -((i*d:Nat):Int) - (to - st)) to) (to+c+ -((i*d:Nat):Int)) 1=min d (c.toNat - i*d):=by
      rw[vg];generalize i*d=q at hid;lia
     rw[ep]at er;refine⟨r,_,_,rfl,er,by rw[el];lia,fun l hl=>?_⟩;rw[el,xd3];refine hR l _ (sH4.put (sH4.back hl)) (sH4.back hl) ?_;rw[xp];unfold dch;have e5:max (to+c+ -((i*d:Nat):Int) - (to - st)) to=to+c - ((min ((i+1)*d) c.toNat:Nat):Int):=by
      rw[Nat.succ_mul];generalize i*d=q at hid;lia
     rw[e5]
    ·refine k D as H2 s2 ?_;rw[jq,if_neg e',if_neg e3,hdd];exact L
def xbZ:xB→List (List Int)
 | .take to st c=>jq to st c
 | .put to sg=>[za to sg.length]
theorem xi5{r:xB}(hk:r.ok)(hs:Sm r):(xbZ r).length≤9:=by
 cases r with
 |take to st c=>
  obtain⟨k1,k2,k3⟩:=hk;obtain⟨s1,s2,s3⟩:=hs;show(jq to st c).length≤9;unfold jq
  split
  ·simp
  ·split
   ·have:=xd5 (uch to (st - to).toNat) (st - to).toNat c.toNat (by lia);lia
   ·have:=xd5 (dch (to+c) (to - st).toNat) (to - st).toNat c.toNat (by lia);lia
 |put to sg=>show 1≤9;lia
def zg(K:ag)(H0:Hp)(tl:Addr)(G:Hp)(u:Addr)(x:xB×List Int):Prop:=∃t c:Addr,(c≠tl∧H0 c=none)∧G u=some (.tup [.ref t,.ref c])∧TupAt K G t x.1∧G c=some (.lst (x.2.map V.int))
theorem zg.same{H0:Hp}{tl:Addr}{G G':Hp}{u:Addr}{x:xB×List Int}(h:zg K H0 tl G u x)(s:xc G G'):zg K H0 tl G' u x:=by
 obtain⟨t,c,h1,h2,h3,h4⟩:=h;exact⟨t,c,h1,s.at h2,h3.same s,s.at h4⟩
theorem zg.off{H0:Hp}{tl:Addr}{G:Hp}{u:Addr}{x:xB×List Int}{xs:List V}{o:HO}(h:zg K H0 tl G u x)(hp:G tl=some (.lst xs)):zg K H0 tl (upd G tl o) u x:=by
 obtain⟨t,c,h1,h2,h3,h4⟩:=h;exact⟨t,c,h1,by rw[xm (fun z=>by rw[z,hp]at h2;cases h2)];exact h2,h3.off hp,by rw[xm h1.1];exact h4⟩
def xa3(rs:List xB):List (xB×List Int):=rs.flatMap fun r=>(xbZ r).map fun c=>(r,c)
theorem yr{α β:Type}{F:α→β→Prop}:∀{l₁ l₃:List α} {l₂ l₄:List β},Paired F l₁ l₂→Paired F l₃ l₄→Paired F (l₁++l₃) (l₂++l₄)
 |_,_,_,_,.nil,h=>h
 |_,_,_,_,.cons r t,h=>.cons r (yr t h)
def xin(K:ag):Sp:=fun vs H Q _=>∃(p tt:Addr) (o n:V) (us:List Addr) (rs:List xB),vs=[.ref p]∧H p=some (.tup [o,n,.ref tt])∧H tt=some (.tup (us.map V.ref))∧Paired (GT K H) us rs∧us.length≤58∧
 ∀(l:Addr) (ws:List Addr) (H':Hp),xc H H'→H l=none→H' l=some (.lst (ws.map V.ref))→Paired (zg K H l H') ws (xa3 rs)→Q (.ref l) H'
theorem GT.same{H H':Hp}{u:Addr}{r:xB}(h:GT K H u r)(s:xc H H'):GT K H' u r:=⟨h.1.same s,h.2⟩
theorem xio{H0:Hp}{tl:Addr}{L0 L G:Hp}{l t:Addr}{as:List Addr}{xss:List (List Int)}{r:xB}(s0:xc H0 L0)(hL:zE L0 L l as xss)(sL:xc L G)(hT:TupAt K G t r)(htl:L0 tl≠none):∀{ws:List Addr} {i:Nat},Paired (fun w a=>G w=some (.tup [.ref t,.ref a])) ws (as.drop i)→Paired (zg K H0 tl G) ws ((xss.drop i).map fun c=>(r,c))
 |ws,i,h=>by
  have hlen:=hL.len
  by_cases hi:i<as.length
  ·have e1:as.drop i=as[i]::as.drop (i+1):=bM hi;have hi2:i<xss.length:=by lia
   have e2:xss.drop i=xss[i]::xss.drop (i+1):=bM hi2;rw[e1]at h;rw[e2,bA];cases h with
   |cons h1 h2=>
    have hfr:=hL.frs _ (fb hi);refine .cons ⟨t,as[i],⟨fun z=>htl (by rw[←z];exact hfr),s0.back hfr⟩,h1,hT,sL.at (hL.each i _ _ (a8 hi) (a8 hi2))⟩ (xio s0 hL sL hT htl h2)
  ·rw[cL (by lia)]at h;rw[cL (by lia)];cases h;exact .nil
 termination_by _ i=>as.length - i
theorem xkx(T:Txt K mg a){H:Hp}{t:Addr}{r:xB}{Q:VK}{σ:L2.St}{i:Nat}(hT:GT K H t r)
  (k:∀l as H1 H2,xc H H1→xc H1 H2→zE H1 H2 l as (xbZ r)→Q (.ref l) H2) (hσ:σ[i]? =some (some (.ref t)):=by rfl):
  yY a.q0f "pieces" (xcD a) [] E0 (xdU (jG K a) [] E0 (xeZ (zB i) uP)) uP σ H Q∨yY a.q0c "pieces" (xcC a) [] E0 (xdU (jG K a) [] E0 (xeZ (zB i) uP)) uP σ H Q:=by
 obtain⟨hT,hk,hs⟩:=hT;have go:∀{R:VK},jG K a [.ref t] H R E0→xdU (jG K a) [] E0 (xeZ (zB i) uP) σ H R:=fun h=>by
  unfold xdU xeZ uP zB;rw[hσ];exact h
 cases r with
 |put to sg=>
  left
  unfold yY;refine go ⟨t,_,rfl,hT,hk,fun o H1 s1 ho hob=>?_⟩;obtain⟨dx,u,h1,h2⟩:=hob;have h9:sg.length≤9:=hs.2;refine⟨o,dx,_,rfl,h1,rfl,?_⟩;show xcD a [.ref o] H1 Q E0;refine⟨o,dx,u,to,sg.length,rfl,h1,by lia,fun l as H2 s2 L=>k l as H1 H2 s1 s2 ?_⟩;rw[show((sg.length:Int)).toNat=sg.length by lia]at L;exact L
 |take to st c=>
  right
  unfold yY;refine go ⟨t,_,rfl,hT,hk,fun o H1 s1 ho hob=>?_⟩;obtain⟨dx,h1⟩:=hob;obtain⟨k1,k2,k3⟩:=hk;obtain⟨s1',s2',s3'⟩:=hs;refine⟨o,dx,_,rfl,h1,rfl,?_⟩;show xcC a [.ref o] H1 Q E0;have hb:(st - to).natAbs<2^200:=dC (show(st - to).natAbs≤1000 by lia) (by decide);exact⟨o,dx,to,st,c,rfl,h1,k3,by lia,hb,fun l as H2 s2 L=>k l as H1 H2 s1 s2 L⟩
theorem xip(T:Txt K mg a):xA P w K mg base CX0 6 a.q2h a.xbD ["paper"] (xin K):=by
 refine T.q2m.ok xdF (fun vs H Q E h=>?_) (fun cdv A outer s H vs Q E hr h=>?_)
 ·obtain⟨p,tt,o,n,us,rs,rfl,_⟩:=h;rfl
 ·obtain⟨p,tt,o,n,us,rs,rfl,hp,ht,hus,hul,q⟩:=h;have nd:=xdF.nd;refine⟨_,(xf (xx (i:=1) nd rfl (ay rfl) (yd xg))
  (xf (yK br rfl (xhB (xy xM (cv 0) xl (fun _ _=>rfl))) (xF (i:=2) nd rfl (cx rfl)) (xk (xR (xdV PySem.F.plainAttrs_list PySem.F.slot_list_extend PySem.F.type_list_extend xkW (cv 1) (xa (jh (vI (cap:=[2]) (ys:=["told"]) rfl rfl rfl rfl rfl ⟨⟨rfl,rfl,.inl rfl⟩,trivial⟩ (by decide+kernel)) rfl (zv (xbN (xT (xG (jH T) (hr.mono (by decide)) (by rfl) T.xaU T.q1W.kp T.xaT .nil xu (xa (cv 2) xg)) T.q1O T.q36 (xhm T) (hr.mono (by decide)) T.xh0 .nil xu) (xT (xG (jH T) (hr.mono (by decide)) (by rfl) T.xaU T.q1W.kp T.xaT .nil xu (xa (cv 2) xg)) T.q0h T.q3V (xgr T) (hr.mono (by decide)) T.xhc .nil xu))) (fun _ _ _ _=>(xO (xa (cv 1) (xa (cv 0) xg)))) (fun _ _ _ _=>vw)) xg)))))
  (xk (xr (cv 1))))),?_⟩
  walk_at"w";walk_at"ss";intro pl hpl;generalize hUpl:upd H pl _=H1;have sH1:=xc.of_eq hpl hUpl;have epl:=xh hUpl;clear hUpl;walk_at"w";refine⟨p,_,_,.ref tt,rfl,rfl,SqT.of (sH1.at hp),rfl,?_⟩;walk_at"w";refine⟨tt,rfl,⟨_,SqT.of (sH1.at ht)⟩,?_⟩;walk_at"w";refine xlb (xs:=us.map V.ref) (fun i σ G=>xc H G∧∃(ws:List Addr) (x2:Option V),σ=[some (.ref p),some (.ref pl),x2]∧G pl=some (.lst (ws.map V.ref))∧Paired (zg K H pl G) ws (xa3 (rs.take i))∧ws.length≤9*i)
   ⟨sH1,[],_,rfl,epl,.nil,by simp⟩ (fun i σ G hi hP=>SqT.of (hP.1.at ht)) (fun i x σ G hx hP=>?_) (fun σ G hP=>?_)
  ·obtain⟨sG,ws,x2,rfl,epl',hws,hwl⟩:=hP;rw[aJ]at hx;obtain⟨t,ht',rfl⟩:=aR.mp hx;have hi:i<us.length:=(aB.mp ht').1;obtain⟨r,hr',hT⟩:=Paired.nth hus ht';have hTG:=hT.same sG;walk_at"w";refine⟨.inl ⟨rfl,_,SqL.of epl'⟩,?_⟩;walk_at"w";have hplen:=xi5 hT.2.1 hT.2.2;refine xkx (K:=K) T hTG fun L as G1 G2 s1 s2 hL=>?_;walk_at"w";refine⟨L,rfl,⟨_,SqL.of hL.top⟩,?_⟩;have hal:as.length=(xbZ r).length:=hL.len;refine xj3 (fun i acc G=>∃ws2:List Addr,acc=ws2.map V.ref∧Paired (fun w a=>G w=some (.tup [.ref t,.ref a])) ws2 (as.take i)) (SqL.of hL.top) (by rw[aq,aQ];lia) ⟨[],rfl,by rw[ik];exact .nil⟩ (fun j x acc H3 H3' hx s3 s3' hP R hR=>?_) (fun D acc H9 H9' hD hD3 s9 s9' hP hl9 hv=>?_)
   ·obtain⟨ws2,rfl,hws2⟩:=hP;rw[aJ]at hx;obtain⟨c,hc,rfl⟩:=aR.mp hx;walk_at"w";walk_at"ss";intro w hw;refine hR _ _ (xc.new hw) fun H6 sx kx=>⟨ws2++[w],by simp,?_⟩;rw[cG,hc];exact xbG (L2.Paired.imp' (fun _ _ (z:H3 _=some _)=>sx.at z) hws2) (kx w _ (.inl hw) xp)
   ·obtain⟨ws2,rfl,hws2⟩:=hP;rw[aq,cH]at hws2;rw[aq,aq]at hl9;have sB:xc G H9':=s1.trans (s2.trans (s9.trans s9'));have hpl9:=sB.at epl';have hTr:TupAt K H9' t r:=hTG.1.same sB;have hpi:=xio (K:=K) (H0:=H) (tl:=pl) (G:=H9') (sG.trans s1) hL (s9.trans s9') hTr (by rw[s1.at epl'];exact fun z=>by cases z) (ws:=ws2) (i:=0) (by rw[il];exact L2.Paired.imp' (fun _ _ (z:H9 _=some _)=>s9'.at z) hws2);rw[il]at hpi;walk_at"w";refine⟨pl,D,_,_,rfl,rfl,hpl9,hv,by rw[aq,aq,aQ];lia,?_⟩;generalize hU:upd H9' pl _=G6;refine⟨xc.wr (sG.trans sB) hpl hU,ws++ws2,_,rfl,?_,?_,?_⟩
    ·rw[←hU,xp,bw]
    ·have e:xa3 (rs.take (i+1))=xa3 (rs.take i)++(xbZ r).map fun c=>(r,c):=by
      unfold xa3;rw[cG,hr',iP];simp
     rw[e,←hU];exact yr (L2.Paired.imp' (fun _ _ (z:zg K H pl G _ _)=>(z.same sB).off hpl9) hws) (L2.Paired.imp' (fun _ _ (z:zg K H pl H9' _ _)=>z.off hpl9) hpi)
    ·rw[aY];lia
  ·obtain⟨sG,ws,x2,rfl,epl',hws,hwl⟩:=hP;walk_at"w";have e:rs.take (us.map V.ref).length=rs:=by rw[aq,hus.length,cH]
   rw[e]at hws;exact q pl ws G sG hpl epl' hws
def xky(a:Adr):Sp:=fun vs H Q _=>∃(p dx:Addr) (to st c cell:Int),vs=[.ref p,.int cell]∧H p=some (.ins a.q0c dx (xcx to st c))∧Q (.int (st+cell - to)) H
theorem xdJ(T:Txt K mg a):xA P w K mg base CX0 1 a.q0D a.uT ["self","cell"] (xky a):=by
 refine T.q1t.ok jB (fun vs H Q E h=>?_) (fun cdv A outer s H vs Q E hr h=>?_)
 ·obtain⟨p,dx,to,st,c,cell,rfl,_⟩:=h;rfl
 ·obtain⟨p,dx,to,st,c,cell,rfl,hp,k⟩:=h;have nd:=jB.nd;refine⟨_,(xk (xr (xJ zC (xJ ug (xw (cv 0) rfl) (cv 1)) (xw (cv 0) rfl)))),?_⟩;walk_at"w";refine⟨p,_,dx,_,.int st,rfl,hp,T.q0h,T.q0x,rfl,?_⟩;walk_at"w";refine⟨p,_,dx,_,.int to,rfl,hp,T.q0h,T.q0R,rfl,?_⟩;exact k
def plc(r:xB)(c:Int):List Int:=match r with
 | .take to st _=>[st+c - to,c]
 | .put _ _=>[c]
def zh(r:xB)(cs:List Int):List Int:=cs.flatMap (plc r)
theorem xdK{r:xB}{cs:List Int}{i:Nat}{d:Int}(h:cs[i]? =some d):zh r (cs.take (i+1))=zh r (cs.take i)++plc r d:=by
 unfold zh;rw[cG,h,iP];simp
theorem xbH(r:xB):∀cs:List Int,(zh r cs).length≤2*cs.length
 |[]=>by simp[zh]
 |c::cs=>by
  have:=xbH r cs;have h2:(plc r c).length≤2:=by cases r<;> simp[plc]
  simp only[zh,List.flatMap_cons,aY,bQ]at this⊢;lia
def xlE(K:ag)(a:Adr):Sp:=fun vs H Q _=>∃(o cl:Addr) (r:xB) (cs:List Int),vs=[.ref o,.ref cl]∧uq K a H o r∧H cl=some (.lst (cs.map V.int))∧cs.length≤300∧xgo H Q (zh r cs)
theorem xeQ(T:Txt K mg a):xA P w K mg base CX0 2 a.q1h a.vR ["row","cells"] (xlE K a):=by
 refine T.q1o.ok xa0 (fun vs H Q E h=>?_) (fun cdv A outer s H vs Q E hr h=>?_)
 ·obtain⟨o,cl,r,cs,rfl,_⟩:=h;rfl
 ·obtain⟨o,cl,r,cs,rfl,ho,hcl,hn,q⟩:=h;have nd:=xa0.nd;refine⟨_,(xf (xx (i:=2) nd rfl (ay rfl) (yd xg))
  (xf (yK br rfl (zv (cv 1)) (xF (i:=3) nd rfl (ay rfl)) (xf (zQ (xI (zw (xQ ux (by rfl) T.q1s yI (xa (cv 0) (xa (xdS (v:=.ref a.q0c) (by rfl) T.xh5 rfl) xg)))) (xk (xR (xdV PySem.F.plainAttrs_list PySem.F.slot_list_append PySem.F.type_list_append vq (cv 2) (xa (xak (cv 0) T.q0h T.q3f (xdJ T) (hr.mono (by decide)) T.xd8 .nil xu (xa (cv 3) xg)) xg)))) xt))
  (xk (xR (xdV PySem.F.plainAttrs_list PySem.F.slot_list_append PySem.F.type_list_append vq (cv 2) (xa (cv 3) xg))))))
  (xk (xr (cv 2))))),?_⟩
  walk_at"w";walk_at"ss";intro pl hpl;generalize hUpl:upd H pl _=H1;have sH1:=xc.of_eq hpl hUpl;have epl:=xh hUpl;clear hUpl;walk_at"w";refine⟨cl,rfl,⟨_,SqL.of (sH1.at hcl)⟩,?_⟩;refine yN (xs:=cs.map V.int) (fun i σ G=>xc H G∧∃(x3:Option V),σ=[some (.ref o),some (.ref cl),some (.ref pl),x3]∧G pl=some (.lst ((zh r (cs.take i)).map V.int)))
   ⟨sH1,_,rfl,epl⟩ (fun i σ G hi hP=>SqL.of (hP.1.at hcl)) (fun i x σ G hx hP=>?_) (fun σ G hP=>?_)
  ·obtain⟨sG,x3,rfl,epl'⟩:=hP;rw[aJ]at hx;obtain⟨d,hd,rfl⟩:=aR.mp hx;have hlen:=xbH r (cs.take i);have hi:i<cs.length:=(aB.mp hd).1;have htk:(cs.take i).length≤cs.length:=by rw[cm];lia
   walk_at"w";refine⟨fun σ' G'=>xc H G'∧σ'=[some (.ref o),some (.ref cl),some (.ref pl),some (.int d)]∧∃ys:List Int,G' pl=some (.lst (ys.map V.int))∧ys++[d]=zh r (cs.take (i+1)),?_,?_⟩
   ·have ho':=ho.same sG;cases r with
    |take to st c=>
     obtain⟨dx,h1⟩:=ho';walk_at"w";refine⟨_,_,_,_,true,rfl,rfl,T.xjs h1,T.q3D,?_⟩;walk_at"w";refine⟨fun _=>?_,by walk_at"no"⟩;walk_at"w";refine⟨.inl ⟨rfl,_,SqL.of epl'⟩,?_⟩;walk_at"w";refine⟨o,dx,_,rfl,h1,rfl,?_⟩;walk_at"w";refine⟨o,dx,to,st,c,d,rfl,h1,?_⟩;walk_at"w";refine⟨pl,_,_,rfl,rfl,epl',by rw[aq,aQ];lia,?_⟩;refine⟨sG.put hpl,rfl,zh (.take to st c) (cs.take i)++[st+d - to],by rw[xp,bw];rfl,?_⟩;rw[xdK hd];simp[plc]
    |put to sg=>
     obtain⟨dx,u,h1,h2⟩:=ho';walk_at"w";refine⟨_,_,_,_,false,rfl,rfl,T.xlu h1,T.q3Z,?_⟩;walk_at"w";refine⟨by walk_at"no",fun _=>?_⟩;refine⟨sG,rfl,_,epl',?_⟩;rw[xdK hd];simp[plc]
   ·rintro σ' G' ⟨sG',rfl,ys,eys,hys⟩;walk_at"w";refine⟨.inl ⟨rfl,_,SqL.of eys⟩,?_⟩;walk_at"w";have hyl:=congrArg gX hys;have:=xbH r (cs.take (i+1));have htk2:(cs.take (i+1)).length≤cs.length:=by rw[cm];lia
    rw[aY,ib]at hyl;refine⟨pl,_,_,rfl,rfl,eys,by rw[aq,aQ];lia,?_⟩;refine⟨sG'.put hpl,_,rfl,?_⟩;rw[xp,←hys,bw];rfl
  ·obtain⟨sG,x3,rfl,epl'⟩:=hP;rw[aq,cH]at epl';walk_at"w";exact q pl G sG hpl epl'
def xlF(K:ag):Sp:=fun vs H Q _=>∃(size:Int) (H0:Hp) (pl tl:Addr) (ws:List Addr) (xs:List (xB×List Int)),vs=[.int size,.ref pl]∧H pl=some (.lst (ws.map V.ref))∧Paired (zg K H0 tl H) ws xs∧(∀x∈xs,x.1.ok∧x.2.length≤300∧∀p∈zh x.1 x.2,p<size)∧∀H',xc H H'→Q .non H'
theorem xeR(T:Txt K mg a):xA P w K mg base CX0 6 a.q1g a.vQ ["size","pieces"] (xlF K):=by
 refine T.q1n.ok xaZ (fun vs H Q E h=>?_) (fun cdv A outer s H vs Q E hr h=>?_)
 ·obtain⟨size,H0,pl,tl,ws,xs,rfl,_⟩:=h;rfl
 ·obtain⟨size,H0,pl,tl,ws,xs,rfl,hpl,hws,hx,q⟩:=h;have nd:=xaZ.nd;refine⟨_,(xk (yK br rfl (zv (cv 1)) (uu rfl (xK (xF (i:=2) nd rfl (ay rfl)) (xK (xF (i:=3) nd rfl (ay rfl)) zu))) (xk (yK br rfl (zv (xG (xeQ T) (hr.mono (by decide)) (by rfl) T.xfu T.q1o.kp T.xft .nil xu (xa (xG (jH T) (hr.mono (by decide)) (by rfl) T.xaU T.q1W.kp T.xaT .nil xu (xa (cv 2) xg)) (xa (cv 3) xg)))) (xF (i:=4) nd rfl (ay rfl)) (xk (xI (xH xoZ (cv 4) (cv 0)) (xk xao) xt)))))),?_⟩;walk_at"w";refine⟨pl,rfl,⟨_,SqL.of hpl⟩,?_⟩;refine yN (xs:=ws.map V.ref) (fun i σ G=>xc H G∧∃(x2 x3 x4:Option V),σ=[some (.int size),some (.ref pl),x2,x3,x4])
   ⟨xc.refl _,_,_,_,rfl⟩ (fun i σ G hi hP=>SqL.of (hP.1.at hpl)) (fun i x σ G hx' hP=>?_) (fun σ G hP=>?_)
  ·obtain⟨sG,x2,x3,x4,rfl⟩:=hP;rw[aJ]at hx';obtain⟨u,hu,rfl⟩:=aR.mp hx';obtain⟨⟨r,cs⟩,hr',t,c,nc,h1,h2,h3⟩:=Paired.nth hws hu;obtain⟨hk,hcl,hpp⟩:=hx _ (bf hr');walk_at"w";refine⟨u,_,rfl,SqT.of (sG.at h1),rfl,?_⟩;walk_at"w";refine⟨_,_,rfl,?_⟩;walk_at"w";refine⟨_,_,rfl,?_⟩;walk_at"w";refine bo rfl ?_;walk_at"w";refine⟨t,r,rfl,h2.same sG,hk,fun o H1 s1 ho hob=>?_⟩;walk_at"w";refine⟨o,c,r,cs,rfl,hob,s1.at (sG.at h3),hcl,fun l H2 s2 hl el=>?_⟩;have sA:xc H H2:=sG.trans (s1.trans s2);walk_at"w";refine⟨l,rfl,⟨_,SqL.of el⟩,?_⟩;refine yN (xs:=(zh r cs).map V.int) (fun i σ G=>H2=G∧∃(x4:Option V),σ=[some (.int size),some (.ref pl),some (.ref t),some (.ref c),x4])
    ⟨rfl,_,rfl⟩ (fun i σ G hi hP=>by rw[←hP.1];exact SqL.of el) (fun i x σ G hx' hP=>?_) (fun σ G hP=>?_)
   ·obtain⟨rfl,x4,rfl⟩:=hP;rw[aJ]at hx';obtain⟨p,hp,rfl⟩:=aR.mp hx';have hlt:=hpp p (bf hp);walk_at"w";refine⟨fun e=>absurd (of_decide_eq_true e) (by show¬size≤p;lia),fun _=>?_⟩;exact⟨rfl,_,rfl⟩
   ·obtain⟨rfl,x4,rfl⟩:=hP;exact⟨sA,_,_,_,rfl⟩
  ·obtain⟨sG,x2,x3,x4,rfl⟩:=hP;exact q _ sG
def xkz:Sp:=fun vs H Q _=>∃(size o n:Int) (p:Addr) (x:V),vs=[.int size,.ref p]∧H p=some (.tup [.int o,.int n,x])∧max o n≤size∧Q .non H
theorem xec(T:Txt K mg a):xA P w K mg base CX0 1 a.q08 a.vm ["size","paper"] xkz:=by
 refine T.q1a.ok xad (fun vs H Q E h=>?_) (fun cdv A outer s H vs Q E hr h=>?_)
 ·obtain⟨size,o,n,p,x,rfl,_⟩:=h;rfl
 ·obtain⟨size,o,n,p,x,rfl,hp,hle,k1⟩:=h;have nd:=xad.nd;refine⟨_,(xf (xx (i:=2) nd rfl (ay rfl) (xQ (xhL rfl) (by rfl) T.q4w xfe (xa (xy xM (cv 1) xl (fun _ _=>rfl)) (xa (xy xM (cv 1) xl (fun _ _=>rfl)) xg))))
  (xk (xI (xH xjT (cv 0) (cv 2)) (xk xao) xt))),?_⟩
  walk_at"w";refine⟨p,_,_,.int o,rfl,rfl,SqT.of hp,rfl,?_⟩;walk_at"w";refine⟨p,_,_,.int n,rfl,rfl,SqT.of hp,rfl,?_⟩;walk_at"w";refine⟨fun e=>absurd (of_decide_eq_true e) (by show¬size<max o n;lia),fun e=>?_⟩;exact k1
theorem xn7(m:Int):jK [] (some m) none=[]:=by
 unfold jK;simp
def xlG(K:ag)(a:Adr):Sp:=fun vs H Q _=>∃(S:SA) (p tt:Addr) (o n:Int) (us:List Addr) (rs:List xB) (cells:List Int) (notes:List (Option Int)) (cnt:Int) (fl:V),vs=[.ref S.st,.ref p]∧zM a H S cells notes cnt fl∧H p=some (.tup [.int o,.int n,.ref tt])∧H tt=some (.tup (us.map V.ref))∧Paired (GT K H) us rs∧us.length≤58∧notes.length=2∧xcz notes 0∧xa3 rs=[]∧
 max o n≤cells.length∧∀H',xc H H'→Q (.int 0) H'
theorem xmB(T:Txt K mg a):xA P w K mg base CX0 7 a.q3G a.xgd ["store","paper"] (xlG K a):=by
 refine T.q3M.ok xh6 (fun vs H Q E h=>?_) (fun cdv A outer s H vs Q E hr h=>?_)
 ·obtain⟨S,p,tt,o,n,us,rs,cells,notes,cnt,fl,rfl,_⟩:=h;rfl
 ·obtain⟨S,p,tt,o,n,us,rs,cells,notes,cnt,fl,rfl,hS,hp,ht,hus,hul,hn2,hmx,hdue,hle,k1⟩:=h;have nd:=xh6.nd;refine⟨_,(xf (xx (i:=2) nd rfl (ay rfl) (xQ xW (by rfl) T.q2e yT (xa (xy xM (xT (cv 0) T.q00 T.q3q (xc0 T) (hr.mono (by decide)) T.xdx .nil xu) xl (fun _ _=>rfl)) xg)))
  (xf (xR (xG (xec T) (hr.mono (by decide)) (by rfl) T.xeK T.q1a.kp T.xeJ .nil xu (xa (cv 2) (xa (cv 1) xg))))
  (xf (xx (i:=3) nd rfl (ay rfl) (xG (xip T) (hr.mono (by decide)) (by rfl) T.xiU T.q2m.kp T.xiT .nil xu (xa (cv 1) xg)))
  (xf (xx (i:=4) nd rfl (ay rfl) (xT (cv 0) T.q00 T.q3T (xgq T) (hr.mono (by decide)) T.xhd .nil xu))
  (xf (xx (i:=5) nd rfl (ay rfl) (jg xbK (cv 3) (xan (cv 4)) xam))
  (xf (xR (xG (xeR T) (hr.mono (by decide)) (by rfl) T.xfs T.q1n.kp T.xfr .nil xu (xa (cv 2) (xa (cv 5) xg))))
  (xf (yK br rfl (xmo (by rfl) T.q2V (xa (cv 5) xg) (cv 4)) (uu rfl (xK (xF (i:=6) nd rfl (ay rfl)) (xK (xF (i:=7) nd rfl (ay rfl)) zu))) xcc)
  (xk (xr (xQ xW (by rfl) T.q2e yT (xa (cv 5) xg))))))))))),?_⟩
  walk_at"w";refine⟨S.st,S.dx,_,rfl,hS.st,rfl,?_⟩;walk_at"w";refine⟨S,cells,notes,cnt,fl,rfl,hS,fun t c m H1 s1 hc hm ncm et ec em=>?_⟩;walk_at"w";refine⟨t,_,_,.ref c,rfl,rfl,SqT.of et,rfl,?_⟩;walk_at"w";refine⟨c,_,rfl,.inl (SqL.of ec),?_⟩;walk_at"w";refine⟨_,o,n,p,_,rfl,s1.at hp,by rw[aq];exact hle,?_⟩;have hS1:=hS.same s1;walk_at"w";refine⟨p,tt,.int o,.int n,us,rs,rfl,s1.at hp,s1.at ht,L2.Paired.imp' (fun _ _ z=>z.same s1) hus,hul,fun l ws H2 s2 hl el hws=>?_⟩;rw[hdue]at hws;obtain rfl:ws=[]:=by cases hws;rfl
  have hS2:=hS1.same s2;walk_at"w";refine⟨S.st,S.dx,_,rfl,hS2.st,rfl,?_⟩;walk_at"w";refine⟨S,cells,notes,cnt,fl,rfl,hS2,hn2,fun m H3 s3 hmx'=>?_⟩;obtain rfl:=xcz.uniq hmx' hmx;walk_at"w";refine⟨_,rfl,?_⟩;walk_at"w";refine⟨l,_,rfl,SqL.of (s3.at el),?_⟩;intro lf hlf;generalize hUlf:upd H3 lf _=H4;have sH4:=xc.of_eq hlf hUlf;have elf:=xh hUlf;clear hUlf;walk_at"w";have elf':H4 lf=some (.lst []):=by rw[elf];exact congrArg (fun z=>some (HO.lst z)) (xn7 _)
  refine⟨_,H1,lf,l,[],[],rfl,elf',.nil,(fun x hx=>by cases hx),fun H5 s5=>?_⟩;walk_at"w";refine⟨lf,0,rfl,rfl,by decide,⟨_,SqL.of (s5.at elf')⟩,?_⟩;refine xiK (xs:=[]) (fun i σ G=>xc H5 G∧∃(x6 x7:Option V),σ=[some (.ref S.st),some (.ref p),some (.int ((cells.map V.int).length:Nat)),some (.ref l),some (.int 0),some (.ref lf),x6,x7])
   ⟨xc.refl _,_,_,rfl⟩ (fun i σ G hi hP=>SqL.of (hP.1.at (s5.at elf'))) (fun i x σ G Tt hx hP hTt=>?_) (fun σ G hP=>?_)
  ·simp at hx
  ·obtain⟨sG,x6,x7,rfl⟩:=hP;walk_at"w";refine⟨lf,_,rfl,.inl (SqL.of (sG.at (s5.at elf'))),?_⟩;walk_at"w";exact k1 G (s1.trans (s2.trans (s3.trans (sH4.trans (s5.trans sG)))))
end
section
variable {P:ai} {w:World} {K:ag} {mg:Str→Option Value} {base:Heap} {a:Adr}
theorem xc1(T:Txt K mg a):xA P w K mg base CX0 1 a.q02 a.xaJ ["self"] (xlD K):=by
 refine T.q2r.ok xcO (fun vs H Q E h=>?_) (fun cdv A outer s H vs Q E hr h=>?_)
 ·obtain⟨p,C,dx,fs,to,c,rfl,_⟩:=h;rfl
 ·obtain⟨p,C,dx,fs,to,c,rfl,hp,cl,n1,n2,l1,l2,k⟩:=h;have nd:=xcO.nd;refine⟨_,(xk (xr (xO (xa (xw (cv 0) rfl) (xa (xJ ug (xw (cv 0) rfl) (xw (cv 0) rfl)) xg))))),?_⟩;walk_at"w";refine⟨p,C,dx,fs,_,rfl,hp,cl,n1,l1,?_⟩;walk_at"w";refine⟨p,C,dx,fs,_,rfl,hp,cl,n1,l1,?_⟩;walk_at"w";refine⟨p,C,dx,fs,_,rfl,hp,cl,n2,l2,?_⟩;walk_at"w";exact⟨by walk_at"side",k⟩
def xiq(to st c:Int):List Int:=if st=to then[]else za st c.toNat
def xgs(to st c:Int):List Int:=if st=to then[]else za to c.toNat
def xg1(a:Adr):Sp:=fun vs H Q _=>∃(p dx:Addr) (to st c:Int),vs=[.ref p]∧H p=some (.ins a.q0c dx (xcx to st c))∧c.toNat≤2^24∧xgo H Q (xiq to st c)
def xfJ(a:Adr):Sp:=fun vs H Q _=>∃(p dx:Addr) (to st c:Int),vs=[.ref p]∧H p=some (.ins a.q0c dx (xcx to st c))∧c.toNat≤2^24∧xgo H Q (xgs to st c)
def xg2(a:Adr):Sp:=fun vs H Q _=>∃(p dx t:Addr) (to n:Int),vs=[.ref p]∧H p=some (.ins a.q0f dx (xfG to t n))∧xgo H Q []
def xfK(a:Adr):Sp:=fun vs H Q _=>∃(p dx t:Addr) (to n:Int),vs=[.ref p]∧H p=some (.ins a.q0f dx (xfG to t n))∧n.toNat≤2^24∧xgo H Q (za to n.toNat)
theorem xhn(T:Txt K mg a):xA P w K mg base CX0 2 a.q1E a.xaL ["self"] (xg1 a):=by
 refine T.q2t.ok xcQ (fun vs H Q E h=>?_) (fun cdv A outer s H vs Q E hr h=>?_)
 ·obtain⟨p,dx,to,st,c,rfl,_⟩:=h;rfl
 ·obtain⟨p,dx,to,st,c,rfl,hp,hc,k⟩:=h;have nd:=xcQ.nd;refine⟨_,(xf (xI (zw (xT (cv 0) T.q0h T.q2S (xaa T) (hr.mono (by decide)) T.xaS .nil xu)) (xk (xr (yd xg))) xt)
  (xk (xr (ym (vc rfl) (by rfl) T.q2I zx (xa (xba (by rfl) T.q1U (xa (xw (cv 0) rfl) (xa (xJ ug (xw (cv 0) rfl) (xw (cv 0) rfl)) xg))) xg))))),?_⟩
  walk_at"w";refine⟨p,dx,_,rfl,hp,rfl,?_⟩;walk_at"w";refine⟨p,dx,to,st,c,rfl,hp,?_⟩;walk_at"w";refine⟨fun e=>?_,fun e=>?_⟩
  ·walk_at"w";refine⟨by decide,fun l hl=>?_⟩;have e':st=to:=of_decide_eq_true e;exact k l _ (xc.new hl) hl (by rw[xp,xiq,if_pos e'];rfl)
  ·have e':¬st=to:=of_decide_eq_false e;walk_at"w";refine⟨p,_,dx,_,.int st,rfl,hp,T.q0h,T.q0x,rfl,?_⟩;walk_at"w";refine⟨p,_,dx,_,.int st,rfl,hp,T.q0h,T.q0x,rfl,?_⟩;walk_at"w";refine⟨p,_,dx,_,.int c,rfl,hp,T.q0h,T.q0L,rfl,?_⟩;walk_at"w";intro r hr1;walk_at"w";have e2:yt st (st+c) 1=c.toNat:=by rw[vg];congr 1;lia
   refine⟨r,st,st+c,rfl,xp,by rw[e2];exact hc,fun l hl=>?_⟩;rw[e2,xd3];have hl0:H l=none:=xc.free (xc.new hr1) hl;exact k l _ ((xc.new hr1).put hl0) hl0 (by rw[xp,xiq,if_neg e'])
theorem xgt(T:Txt K mg a):xA P w K mg base CX0 2 a.q1v a.jT ["self"] (xfJ a):=by
 refine T.q10.ok xbT (fun vs H Q E h=>?_) (fun cdv A outer s H vs Q E hr h=>?_)
 ·obtain⟨p,dx,to,st,c,rfl,_⟩:=h;rfl
 ·obtain⟨p,dx,to,st,c,rfl,hp,hc,k⟩:=h;have nd:=xbT.nd;refine⟨_,(xf (xI (zw (xT (cv 0) T.q0h T.q2S (xaa T) (hr.mono (by decide)) T.xaS .nil xu)) (xk (xr (yd xg))) xt)
  (xk (xr (xT (cv 0) T.q0h T.q2d (yB T) (hr.mono (by decide)) T.yJ .nil xu)))),?_⟩
  walk_at"w";refine⟨p,dx,_,rfl,hp,rfl,?_⟩;walk_at"w";refine⟨p,dx,to,st,c,rfl,hp,?_⟩;walk_at"w";refine⟨fun e=>?_,fun e=>?_⟩
  ·walk_at"w";refine⟨by decide,fun l hl=>?_⟩;have e':st=to:=of_decide_eq_true e;exact k l _ (xc.new hl) hl (by rw[xp,xgs,if_pos e'];rfl)
  ·have e':¬st=to:=of_decide_eq_false e;walk_at"w";refine⟨p,dx,_,rfl,hp,rfl,?_⟩;walk_at"w";refine⟨p,_,dx,_,to,c,rfl,hp,T.q0h,T.q0R,T.q0L,rfl,rfl,hc,fun l H' s1 hl hv=>?_⟩;exact k l H' s1 hl (by rw[hv,xgs,if_neg e'])
theorem xir(T:Txt K mg a):xA P w K mg base CX0 1 a.q1Q a.xbA ["self"] (xg2 a):=by
 refine T.q2U.ok xdC (fun vs H Q E h=>?_) (fun cdv A outer s H vs Q E hr h=>?_)
 ·obtain⟨p,dx,t,to,n,rfl,_⟩:=h;rfl
 ·obtain⟨p,dx,t,to,n,rfl,hp,k⟩:=h;have nd:=xdC.nd;refine⟨_,(xk (xr (yd xg))),?_⟩;walk_at"w";exact⟨by decide,fun l hl=>k l _ (xc.new hl) hl (by rw[xp];rfl)⟩
theorem xho(T:Txt K mg a):xA P w K mg base CX0 2 a.q1F a.xaM ["self"] (xfK a):=by
 refine T.q2u.ok xcR (fun vs H Q E h=>?_) (fun cdv A outer s H vs Q E hr h=>?_)
 ·obtain⟨p,dx,t,to,n,rfl,_⟩:=h;rfl
 ·obtain⟨p,dx,t,to,n,rfl,hp,hn,k⟩:=h;have nd:=xcR.nd;refine⟨_,(xk (xr (xT (cv 0) T.q1O T.q1T (yB T) (hr.mono (by decide)) T.yJ .nil xu))),?_⟩;walk_at"w";refine⟨p,dx,_,rfl,hp,rfl,?_⟩;walk_at"w";exact⟨p,_,dx,_,to,n,rfl,hp,T.q1O,T.q3a,T.q1K,rfl,rfl,hn,k⟩
def InD(kvs:List (Key×V))(seen:List Int):Prop:=∀c:Int,(yZ kvs (.inl c)).isSome=decide (c∈seen)
theorem InD.nil:InD [] []:=fun c=>by simp[xl9]
theorem InD.put{kvs:List (Key×V)}{seen:List Int}(h:InD kvs seen)(c:Int)(v:V):InD (putK kvs (.inl c) v) (c::seen):=by
 intro x;rw[xma]
 by_cases e:x=c
 ·subst e;rw[if_pos rfl];simp
 ·rw[if_neg (fun z=>e (by cases z;rfl)),h x]
  congr 1
  exact propext ⟨fun z=>aZ _ z,fun z=>(aw.mp z).resolve_left e⟩
theorem xeS(kvs:List (Key×V))(k:Key)(v:V):(putK kvs k v).length≤kvs.length+1:=by
 unfold putK
 split
 ·rw[aq];lia
 ·rw[aY];simp
theorem xjw(T:Txt K mg a){H:Hp}{o:Addr}{r:xB}{Q:VK}{σ:L2.St}{i:Nat}(ho:uq K a H o r)(hl:r.cv.length≤300)
  (k:∀l H',xc H H'→H l=none→H' l=some (.lst (r.cv.map V.int))→Q (.ref l) H') (hσ:σ[i]? =some (some (.ref o)):=by rfl):
  yY a.q0f "covered" (xcy K) [] E0 (zB i) uP σ H Q∨yY a.q0c "covered" (xcy K) [] E0 (zB i) uP σ H Q:=by
 cases r with
 |put to sg=>
  obtain⟨dx,u,h1,h2⟩:=ho
  left
  unfold yY zB;rw[hσ];have e:(sg.length:Int).toNat=sg.length:=by simp
  have hl':sg.length≤300:=by rw[show xB.cv (.put to sg)=za to sg.length from rfl,yo]at hl;exact hl
  refine⟨o,dx,_,rfl,h1,rfl,o,a.q0f,dx,_,to,sg.length,rfl,h1,T.q1O,T.q3a,T.q1K,rfl,rfl,by rw[e];exact bp hl' (by decide),fun l H' s n eL=>k l H' s n ?_⟩;rw[e]at eL;exact eL
 |take to st c=>
  obtain⟨dx,h1⟩:=ho
  right
  unfold yY zB;rw[hσ];have hl':c.toNat≤300:=by rw[show xB.cv (.take to st c)=za to c.toNat from rfl,yo]at hl;exact hl
  exact⟨o,dx,_,rfl,h1,rfl,o,a.q0c,dx,_,to,c,rfl,h1,T.q0h,T.q0R,T.q0L,rfl,rfl,bp hl' (by decide),fun l H' s n eL=>k l H' s n eL⟩
theorem xmC(k:Nat)(all:List (List Int))(cs:List Int)(h:all[0]? =some cs):num k all=cs.map (fun c=>(k,c))++num (k+1) (all.drop 1):=by
 cases all with
 |nil=>simp at h
 |cons x r=>simp at h;subst h;rfl
theorem xeT(T:Txt K mg a):xA P w K mg base CX0 2 a.q1i a.vS ["rows"] (xmy K a):=by
 refine T.q1p.ok xa1 (fun vs H Q E h=>?_) (fun cdv A outer s H vs Q E hr h=>?_)
 ·obtain⟨l,rs,rfl,_⟩:=h;rfl
 ·obtain⟨l,rs,rfl,⟨ts,hl,hp⟩,⟨hr1,hr2⟩,hN,q⟩:=h;have nd:=xa1.nd;refine⟨_,(xf (xx (i:=1) nd rfl (ay rfl) xeA)
  (xf (yK br rfl (xjl (by rfl) T.q2V (xa (cv 0) xg)) (uu rfl (xK (xF (i:=2) nd rfl (ay rfl)) (xK (xF (i:=3) nd rfl (ay rfl)) zu))) (xk (yK br rfl (zv (xbN (xT (cv 3) T.q1O T.q1T (yB T) (hr.mono (by decide)) T.yJ .nil xu) (xT (cv 3) T.q0h T.q2d (yB T) (hr.mono (by decide)) T.yJ .nil xu))) (xF (i:=4) nd rfl (ay rfl)) (xf (xI (xj2 (xk0 (uG hr) (cv 4) (cv 1)) (by rfl)) xcc xt)
  (xk (xf1 (uG hr) (cv 1) (cv 4) uf rfl))))))
  (xk (xr yh)))),?_⟩
  walk_at"w";intro d hd';generalize hU0:upd H d _=H1;have sH1:=xc.of_eq hd' hU0;have ed:=xh hU0;clear hU0;walk_at"w";have htl:ts.length=rs.length:=hp.length;refine⟨l,rfl,⟨_,sH1.seq hl⟩,?_⟩;walk_at"w";refine xei (xs:=ts.map V.ref) (fun i σ G=>xc H G∧(∃kvs seen,G d=some (.dK kvs)∧InD kvs seen∧kvs.length≤i*300∧jI rs=tw (num i ((rs.map xB.cv).drop i)) seen)∧∃x2 x3 x4,σ=[some (.ref l),some (.ref d),x2,x3,x4]) ⟨sH1,⟨[],[],ed,InD.nil,by simp,rfl⟩,_,_,_,rfl⟩ (fun i σ G hi hP=>hP.1.seq hl) (fun i x σ G T0 hx hP hT0=>?_) (fun σ G hP=>?_)
  ·obtain⟨s1,⟨kvs,seen,hd,hin,hkl,htw⟩,x2,x3,x4,rfl⟩:=hP;rw[aJ]at hx;obtain⟨o,ho,rfl⟩:=aR.mp hx;have hi:i<ts.length:=(aB.mp ho).1;obtain⟨r,hr,hob⟩:=Paired.nth hp ho;generalize hU:upd G T0 _=G2;have s2:=xc.of_eq hT0 hU;have eT:=xh hU;clear hU;walk_at"w";refine⟨T0,_,rfl,SqT.of eT,rfl,?_⟩;walk_at"w";refine⟨_,_,rfl,?_⟩;walk_at"w";refine⟨_,_,rfl,?_⟩;walk_at"w";refine bo rfl ?_;walk_at"w";have hrm:r∈rs:=bf hr;refine xjw (K:=K) T (r:=r) (hob.same (s1.trans s2)) (hr2 r hrm).1 fun L G3 s3 hL eL=>?_;walk_at"w";refine⟨L,rfl,⟨_,SqL.of eL⟩,?_⟩;walk_at"w";have hd3:G3 d=some (.dK kvs):=s3.at (s2.at hd)
   have nLd:L≠d:=xa7 eL hd3 (fun z=>by cases z);have hdr:((rs.map xB.cv).drop i)[0]? =some r.cv:=by rw[iY,Nat.add_zero,aJ,hr];rfl
   rw[xmC i _ _ hdr,List.drop_drop]at htw;refine yN (xs:=r.cv.map V.int) (fun j σ G4=>xc H G4∧G4 L=some (.lst (r.cv.map V.int))∧(∃kvs seen,G4 d=some (.dK kvs)∧InD kvs seen∧kvs.length≤i*300+j∧jI rs=tw ((r.cv.drop j).map (fun c=>(i,c))++num (i+1) ((rs.map xB.cv).drop (i+1))) seen)∧∃x4,σ=[some (.ref l),some (.ref d),some (.int i),some (.ref o),x4])
    ⟨s1.trans (s2.trans s3),eL,⟨kvs,seen,hd3,hin,by lia,by rw[il];exact htw⟩,_,rfl⟩ (fun j σ G4 hj hQ=>SqL.of hQ.2.1) (fun j x σ G4 hx hQ=>?_) (fun σ G4 hQ=>?_)
   ·obtain⟨s4,eL4,⟨kvs4,seen4,hd4,hin4,hk4,htw4⟩,x4,rfl⟩:=hQ;rw[aJ]at hx;obtain⟨c,hc,rfl⟩:=aR.mp hx;have hj:j<r.cv.length:=(aB.mp hc).1;have hb:=(hr2 r hrm).1;have ecut:r.cv.drop j=c::r.cv.drop (j+1):=by
     rw[bM hj,(aB.mp hc).2]
    rw[ecut,bA,eY,tw]at htw4;walk_at"w";refine⟨d,_,rfl,uv.k (k:=cD c) hd4,?_⟩;walk_at"w";rw[hin4 c];refine⟨fun e=>?_,fun e=>?_⟩
    ·have e':=of_decide_eq_true e;rw[if_pos e']at htw4;rw[htw4]at hN;cases hN
    ·have e':=of_decide_eq_false e;rw[if_neg e']at htw4;walk_at"w";refine⟨d,_,rfl,xc8.k (k:=cD c) hd4 (by rw[aQ];lia),?_⟩;generalize hV:upd G4 d _=G5;have s5:xc H G5:=xc.wr s4 hd' hV;have eL5:G5 L=some (.lst (r.cv.map V.int)):=by rw[←hV,xm nLd];exact eL4
     have hd5:=xh hV;clear hV;have:=xeS kvs4 (cD c) (.bl true);exact⟨s5,eL5,⟨_,_,hd5,hin4.put c _,by lia,htw4⟩,_,rfl⟩
   ·obtain⟨s4,eL4,⟨kvs4,seen4,hd4,hin4,hk4,htw4⟩,x4,rfl⟩:=hQ;rw[aq]at hk4 htw4;rw[fc]at htw4;have hb:=(hr2 r hrm).1;exact⟨s4,⟨kvs4,seen4,hd4,hin4,by lia,htw4⟩,_,_,_,rfl⟩
  ·obtain⟨s1,⟨kvs,seen,hd,hin,hkl,htw⟩,x2,x3,x4,rfl⟩:=hP;have e0:(rs.map xB.cv).drop (ts.map V.ref).length=[]:=by
    rw[aq,htl];exact cL (by rw[aq];exact av _)
   rw[e0]at htw;have e1:jI rs=none:=htw;rw[e1]at q;exact q G s1
theorem xn8(T:Txt K mg a){H:Hp}{o:Addr}{r:xB}{Q:VK}{σ:L2.St}{i:Nat}(ho:uq K a H o r)(hc:r.cv.length≤300)
  (k:∀l H',xc H H'→H l=none→H' l=some (.lst (r.rds.map V.int))→Q (.ref l) H') (hσ:σ[i]? =some (some (.ref o)):=by rfl):
  yY a.q0f "reads" (xg2 a) [] E0 (zB i) uP σ H Q∨yY a.q0c "reads" (xg1 a) [] E0 (zB i) uP σ H Q:=by
 cases r with
 |put to sg=>
  obtain⟨dx,u,h1,h2⟩:=ho
  left
  unfold yY zB;rw[hσ];exact⟨o,dx,_,rfl,h1,rfl,o,dx,u,to,sg.length,rfl,h1,fun l H' s n eL=>k l H' s n eL⟩
 |take to st c=>
  obtain⟨dx,h1⟩:=ho
  right
  unfold yY zB;rw[hσ];have hl':c.toNat≤300:=by rw[show xB.cv (.take to st c)=za to c.toNat from rfl,yo]at hc;exact hc
  exact⟨o,dx,_,rfl,h1,rfl,o,dx,to,st,c,rfl,h1,bp hl' (by decide),fun l H' s n eL=>k l H' s n eL⟩
theorem xn9(T:Txt K mg a){H:Hp}{o:Addr}{r:xB}{Q:VK}{σ:L2.St}{i:Nat}(ho:uq K a H o r)(hc:r.cv.length≤300)
  (k:∀l H',xc H H'→H l=none→H' l=some (.lst (r.wrs.map V.int))→Q (.ref l) H') (hσ:σ[i]? =some (some (.ref o)):=by rfl):
  yY a.q0f "writes" (xfK a) [] E0 (zB i) uP σ H Q∨yY a.q0c "writes" (xfJ a) [] E0 (zB i) uP σ H Q:=by
 cases r with
 |put to sg=>
  obtain⟨dx,u,h1,h2⟩:=ho
  left
  unfold yY zB;rw[hσ];have e:(sg.length:Int).toNat=sg.length:=by simp
  have hl':sg.length≤300:=by rw[show xB.cv (.put to sg)=za to sg.length from rfl,yo]at hc;exact hc
  refine⟨o,dx,_,rfl,h1,rfl,o,dx,u,to,sg.length,rfl,h1,by rw[e];exact bp hl' (by decide),fun l H' s n eL=>k l H' s n ?_⟩;rw[e]at eL;exact eL
 |take to st c=>
  obtain⟨dx,h1⟩:=ho
  right
  unfold yY zB;rw[hσ];have hl':c.toNat≤300:=by rw[show xB.cv (.take to st c)=za to c.toNat from rfl,yo]at hc;exact hc
  exact⟨o,dx,_,rfl,h1,rfl,o,dx,to,st,c,rfl,h1,bp hl' (by decide),fun l H' s n eL=>k l H' s n eL⟩
theorem xdL{ls:List Int}{p:Int→Bool}{j:Nat}(h:∀i,i<j→∀c,ls[i]? =some c→p c=false):ls.find? p=(ls.drop j).find? p:=by
 induction j with
 |zero=>rfl
 |succ j ih=>
  rw[ih fun i hi=>h i (by lia)]
  by_cases hj:j<ls.length
  ·have hc:ls[j]? =some ls[j]:=a8 hj;rw[bM hj,b7,h j (by lia) _ hc]
  ·rw[cL (by lia),cL (by lia)]
theorem xkA(T:Txt K mg a):xA P w K mg base CX0 2 a.q2Y a.xdp ["rows","new"] (xkv K a):=by
 refine T.q25.ok xfC (fun vs H Q E h=>?_) (fun cdv A outer s H vs Q E hr h=>?_)
 ·obtain⟨l,rs,new,rfl,_⟩:=h;rfl
 ·obtain⟨l,rs,new,rfl,⟨ts,hl,hp⟩,⟨hr1,hr2⟩,hnew,q⟩:=h;have nd:=xfC.nd;refine⟨_,(xf (xx (i:=2) nd rfl (ay rfl) xeA)
  (xf (yK br rfl (zv (cv 0)) (xF (i:=3) nd rfl (ay rfl)) (xk (yK br rfl (zv (xbN (xT (cv 3) T.q1O T.q1T (yB T) (hr.mono (by decide)) T.yJ .nil xu) (xT (cv 3) T.q0h T.q2d (yB T) (hr.mono (by decide)) T.yJ .nil xu))) (xF (i:=4) nd rfl (ay rfl)) (xk (xf1 (uG hr) (cv 2) (cv 4) uf rfl)))))
  (xf (yK br rfl (xa9 (by rfl) T.q1U (xa (cv 1) xg)) (xF (i:=4) nd rfl (ay rfl)) (xk (xI (xj2 (xk1 (uG hr) (cv 4) (cv 2)) (by rfl)) (xk (xr (xO (xa xv (xa (cv 4) xg))))) xt)))
  (xk (xr yh))))),?_⟩
  walk_at"w";intro d hd';generalize hU0:upd H d _=H1;have sH1:=xc.of_eq hd' hU0;have ed:=xh hU0;clear hU0;walk_at"w";have htl:ts.length=rs.length:=hp.length;refine⟨l,rfl,⟨_,sH1.seq hl⟩,?_⟩;walk_at"w";refine yN (xs:=ts.map V.ref) (fun i σ G=>xc H G∧(∃kvs seen,G d=some (.dK kvs)∧InD kvs seen∧kvs.length≤i*300∧∀c,c∈seen↔c∈((rs.map xB.cv).take i).flatten)∧∃x3 x4,σ=[some (.ref l),some (.int new),some (.ref d),x3,x4]) ⟨sH1,⟨[],[],ed,InD.nil,by simp,fun c=>by simp⟩,_,_,rfl⟩ (fun i σ G hi hP=>hP.1.seq hl) (fun i x σ G hx hP=>?_) (fun σ G hP=>?_)
  ·obtain⟨s1,⟨kvs,seen,hd,hin,hkl,hse⟩,x3,x4,rfl⟩:=hP;rw[aJ]at hx;obtain⟨o,ho,rfl⟩:=aR.mp hx;obtain⟨r,hr,hob⟩:=Paired.nth hp ho;have hrm:r∈rs:=bf hr;have hi:i<ts.length:=(aB.mp ho).1;walk_at"w";refine xjw (K:=K) T (r:=r) (hob.same s1) (hr2 r hrm).1 fun L G3 s3 hL eL=>?_;walk_at"w";refine⟨L,rfl,⟨_,SqL.of eL⟩,?_⟩;walk_at"w";have hd3:G3 d=some (.dK kvs):=s3.at hd;have nLd:L≠d:=xa7 eL hd3 (fun z=>by cases z);refine yN (xs:=r.cv.map V.int) (fun j σ G4=>xc H G4∧G4 L=some (.lst (r.cv.map V.int))∧(∃kvs seen,G4 d=some (.dK kvs)∧InD kvs seen∧kvs.length≤i*300+j∧∀c,c∈seen↔c∈((rs.map xB.cv).take i).flatten++r.cv.take j)∧∃x4,σ=[some (.ref l),some (.int new),some (.ref d),some (.ref o),x4])
    ⟨s1.trans s3,eL,⟨kvs,seen,hd3,hin,by lia,fun c=>by rw[ik,dB];exact hse c⟩,_,rfl⟩ (fun j σ G4 hj hQ=>SqL.of hQ.2.1) (fun j x σ G4 hx hQ=>?_) (fun σ G4 hQ=>?_)
   ·obtain⟨s4,eL4,⟨kvs4,seen4,hd4,hin4,hk4,hse4⟩,x4,rfl⟩:=hQ;rw[aJ]at hx;obtain⟨c,hc,rfl⟩:=aR.mp hx;have hj:j<r.cv.length:=(aB.mp hc).1;have hb:=(hr2 r hrm).1;walk_at"w";refine⟨d,_,rfl,xc8.k (k:=cD c) hd4 (by rw[aQ];lia),?_⟩;generalize hV:upd G4 d _=G5;have s5:xc H G5:=xc.wr s4 hd' hV;have eL5:G5 L=some (.lst (r.cv.map V.int)):=by rw[←hV,xm nLd];exact eL4
    have hd5:=xh hV;clear hV;have:=xeS kvs4 (cD c) (.bl true);refine⟨s5,eL5,⟨_,_,hd5,hin4.put c _,by lia,fun y=>?_⟩,_,rfl⟩;rw[cG,hc,←eP,bu,aw,hse4 y];simp[or_comm]
   ·obtain⟨s4,eL4,⟨kvs4,seen4,hd4,hin4,hk4,hse4⟩,x4,rfl⟩:=hQ;rw[aq]at hk4 hse4;rw[cH]at hse4;have hb:=(hr2 r hrm).1;refine⟨s4,⟨kvs4,seen4,hd4,hin4,by lia,fun c=>?_⟩,_,_,rfl⟩;rw[hse4 c,cG,aJ,hr,List.flatten_append];simp
  ·obtain⟨s1,⟨kvs,seen,hd,hin,hkl,hse⟩,x3,x4,rfl⟩:=hP;rw[aq]at hse;have hse':∀c,c∈seen↔c∈(rs.map xB.cv).flatten:=fun c=>by
    rw[hse c,htl];rw[g8 (by rw[aq];exact av _)]
   walk_at"w";have en:yt 0 ((new:Nat):Int) 1=new:=by rw[vg];lia
   rw[en];refine xgN (fun i σ G2=>G2=G∧(∀j,j<i→((j:Nat):Int)∈(rs.map xB.cv).flatten)∧∃x4,σ=[some (.ref l),some (.int new),some (.ref d),x3,x4]) ⟨rfl,fun j hj=>absurd hj (gT _),_,rfl⟩ (fun i σ G2 hi hQ=>?_) (fun σ G2 hQ=>?_)
   ·obtain⟨rfl,hall,x4,rfl⟩:=hQ;have ei:(0+(i:Int)*1)=(i:Int):=by lia
    rw[ei];walk_at"w";refine⟨d,_,rfl,uv.k (k:=cD (i:Int)) hd,?_⟩;walk_at"w";rw[hin];refine⟨fun e=>?_,fun e=>?_⟩
    ·have e':¬(i:Int)∈seen:=by simpa using e
     have ef:uZ rs new=some (i:Int):=by
      unfold uZ;rw[xdL (j:=i) (fun j hj c hc=>?_),bM (by simp;exact hi),b7]
      ·simp only[List.getElem_map,iT];have:¬(i:Int)∈(rs.map xB.cv).flatten:=fun z=>e' ((hse' _).mpr z);simp only[decide_eq_false this];rfl
      ·rw[aJ,List.getElem?_range (by lia)]at hc;cases hc;simp only[decide_eq_true (hall j hj)];rfl
     rw[ef]at q;walk_at"w";walk_at"ss";intro t ht;exact q t _ (s1.trans (xc.new ht)) xp
    ·have e':(i:Int)∈seen:=by simpa using e
     refine⟨rfl,fun j hj=>?_,_,rfl⟩
     by_cases hji:j=i
     ·rw[hji];exact(hse' _).mp e'
     ·exact hall j (by lia)
   ·obtain⟨rfl,hall,x4,rfl⟩:=hQ;have ef:uZ rs new=none:=by
     unfold uZ;rw[iV];intro c hc;obtain⟨j,hj,rfl⟩:=iU.mp hc;simp[hall j (List.mem_range.mp hj)]
    rw[ef]at q;exact q G2 s1
theorem xkB(k:Nat)(rs:List xB)(r:xB)(wr:List Int)(h:rs[0]? =some r):xbh k rs wr=match r.rds.find? fun c=>decide (c∈wr)with
  |some c=>some (k,c)
  |none=>xbh (k+1) (rs.drop 1) (wr++r.wrs):=by
 cases rs with
 |nil=>simp at h
 |cons x t=>simp at h;subst h;rfl
theorem xg3:∀(k:Nat) (rs:List xB) (w1 w2:List Int),(∀c,c∈w1↔c∈w2)→xbh k rs w1=xbh k rs w2
 |_,[],_,_,_=>rfl
 |k,r::t,w1,w2,h=>by
  unfold xbh;have e:(fun c=>decide (c∈w1))=fun c=>decide (c∈w2):=funext fun c=>by congr 1;exact propext (h c)
  rw[e];cases r.rds.find? fun c=>decide (c∈w2)with
  |some c=>rfl
  |none=>exact xg3 (k+1) t _ _ fun c=>by rw[bu,bu,h c]
theorem xis(T:Txt K mg a):xA P w K mg base CX0 3 a.q2j a.xbF ["rows"] (xn5 K a):=by
 refine T.q2n.ok xdH (fun vs H Q E h=>?_) (fun cdv A outer s H vs Q E hr h=>?_)
 ·obtain⟨l,rs,rfl,_⟩:=h;rfl
 ·obtain⟨l,rs,rfl,⟨ts,hl,hp⟩,⟨hr1,hr2⟩,q⟩:=h;have nd:=xdH.nd;refine⟨_,(xf (xx (i:=1) nd rfl (ay rfl) xeA)
  (xf (yK br rfl (xjl (by rfl) T.q2V (xa (cv 0) xg)) (uu rfl (xK (xF (i:=2) nd rfl (ay rfl)) (xK (xF (i:=3) nd rfl (ay rfl)) zu))) (xf (yK br rfl (zv (xbN (xT (cv 3) T.q1O T.q4f (xir T) (hr.mono (by decide)) T.xiO .nil xu) (xT (cv 3) T.q0h T.q38 (xhn T) (hr.mono (by decide)) T.xhY .nil xu))) (xF (i:=4) nd rfl (ay rfl)) (xk (xI (xj2 (xk0 (uG hr) (cv 4) (cv 1)) (by rfl)) (xk (xr (xO (xa xv (xa (cv 2) (xa (cv 4) xg)))))) xt)))
  (xk (yK br rfl (zv (xbN (xT (cv 3) T.q1O T.q37 (xho T) (hr.mono (by decide)) T.xhZ .nil xu) (xT (cv 3) T.q0h T.q3W (xgt T) (hr.mono (by decide)) T.xhb .nil xu))) (xF (i:=4) nd rfl (ay rfl)) (xk (xf1 (uG hr) (cv 1) (cv 4) uf rfl))))))
  (xk (xr yh)))),?_⟩
  walk_at"w";intro d hd';generalize hU0:upd H d _=H1;have sH1:=xc.of_eq hd' hU0;have ed:=xh hU0;clear hU0;walk_at"w";have htl:ts.length=rs.length:=hp.length;refine⟨l,rfl,⟨_,sH1.seq hl⟩,?_⟩;walk_at"w";refine xei (xs:=ts.map V.ref) (fun i σ G=>xc H G∧(∃kvs seen,G d=some (.dK kvs)∧InD kvs seen∧kvs.length≤i*300∧xcE rs=xbh i (rs.drop i) seen)∧∃x2 x3 x4,σ=[some (.ref l),some (.ref d),x2,x3,x4]) ⟨sH1,⟨[],[],ed,InD.nil,by simp,rfl⟩,_,_,_,rfl⟩ (fun i σ G hi hP=>hP.1.seq hl) (fun i x σ G T0 hx hP hT0=>?_) (fun σ G hP=>?_)
  ·obtain⟨s1,⟨kvs,seen,hd,hin,hkl,hla⟩,x2,x3,x4,rfl⟩:=hP;rw[aJ]at hx;obtain⟨o,ho,rfl⟩:=aR.mp hx;obtain⟨r,hr,hob⟩:=Paired.nth hp ho;have hrm:r∈rs:=bf hr;generalize hU:upd G T0 _=G2;have s2:=xc.of_eq hT0 hU;have eT:=xh hU;clear hU;have hdr:(rs.drop i)[0]? =some r:=by rw[iY,Nat.add_zero];exact hr
   rw[xkB i _ r seen hdr,List.drop_drop]at hla;walk_at"w";refine⟨T0,_,rfl,SqT.of eT,rfl,?_⟩;walk_at"w";refine⟨_,_,rfl,?_⟩;walk_at"w";refine⟨_,_,rfl,?_⟩;walk_at"w";refine bo rfl ?_;walk_at"w";refine xn8 (K:=K) T (r:=r) (hob.same (s1.trans s2)) (hr2 r hrm).1 fun L G3 s3 hL eL=>?_;walk_at"w";refine⟨L,rfl,⟨_,SqL.of eL⟩,?_⟩;walk_at"w";have hd3:G3 d=some (.dK kvs):=s3.at (s2.at hd)
   have s13:xc H G3:=s1.trans (s2.trans s3);refine yN (xs:=r.rds.map V.int) (fun j σ G4=>G4=G3∧(∀i',i'<j→∀c,r.rds[i']? =some c→decide (c∈seen)=false)∧∃x4,σ=[some (.ref l),some (.ref d),some (.int i),some (.ref o),x4])
    ⟨rfl,fun j hj=>absurd hj (gT _),_,rfl⟩ (fun j σ G4 hj hQ=>by rw[hQ.1];exact SqL.of eL) (fun j x σ G4 hx hQ=>?_) (fun σ G4 hQ=>?_)
   ·obtain⟨rfl,hno,x4,rfl⟩:=hQ;rw[aJ]at hx;obtain⟨c,hc,rfl⟩:=aR.mp hx;have hj:j<r.rds.length:=(aB.mp hc).1;walk_at"w";refine⟨d,_,rfl,uv.k (k:=cD c) hd3,?_⟩;walk_at"w";rw[hin c];refine⟨fun e=>?_,fun e=>?_⟩
    ·have ef:r.rds.find? (fun c=>decide (c∈seen))=some c:=by
      rw[xdL (j:=j) hno,bM hj,b7,(aB.mp hc).2,e]
     rw[ef]at hla;rw[hla]at q;walk_at"w";walk_at"ss";intro t ht;exact q t _ (s13.trans (xc.new ht)) xp
    ·refine⟨rfl,fun i' hi' c' hc'=>?_,_,rfl⟩
     by_cases hji:i'=j
     ·rw[hji,hc]at hc';cases hc';exact e
     ·exact hno i' (by lia) c' hc'
   ·obtain⟨rfl,hno,x4,rfl⟩:=hQ;rw[aq]at hno;have ef:r.rds.find? (fun c=>decide (c∈seen))=none:=by
     rw[xdL (j:=r.rds.length) hno,fc];rfl
    rw[ef]at hla;walk_at"w";refine xn9 (K:=K) T (r:=r) (hob.same s13) (hr2 r hrm).1 fun L2 G5 s5 hL2 eL2=>?_;walk_at"w";refine⟨L2,rfl,⟨_,SqL.of eL2⟩,?_⟩;walk_at"w";have hd5:G5 d=some (.dK kvs):=s5.at hd3;have nLd:L2≠d:=xa7 eL2 hd5 (fun z=>by cases z);have hwl:=(hr2 r hrm).2.2;refine yN (xs:=r.wrs.map V.int) (fun j σ G6=>xc H G6∧G6 L2=some (.lst (r.wrs.map V.int))∧(∃kvs' seen',G6 d=some (.dK kvs')∧InD kvs' seen'∧kvs'.length≤i*300+j∧∀c,c∈seen'↔c∈seen++r.wrs.take j)∧∃x4,σ=[some (.ref l),some (.ref d),some (.int i),some (.ref o),x4])
     ⟨s13.trans s5,eL2,⟨kvs,seen,hd5,hin,by lia,fun c=>by rw[ik,dB]⟩,_,rfl⟩ (fun j σ G6 hj hQ=>SqL.of hQ.2.1) (fun j x σ G6 hx hQ=>?_) (fun σ G6 hQ=>?_)
    ·obtain⟨s6,eL6,⟨kvs6,seen6,hd6,hin6,hk6,hse6⟩,x4,rfl⟩:=hQ;rw[aJ]at hx;obtain⟨c,hc,rfl⟩:=aR.mp hx;have hj:j<r.wrs.length:=(aB.mp hc).1;have hi:i<ts.length:=(aB.mp ho).1;walk_at"w";refine⟨d,_,rfl,xc8.k (k:=cD c) hd6 (by rw[aQ];lia),?_⟩;generalize hV:upd G6 d _=G7;have s7:xc H G7:=xc.wr s6 hd' hV;have eL7:G7 L2=some (.lst (r.wrs.map V.int)):=by rw[←hV,xm nLd];exact eL6
     have hd7:=xh hV;clear hV;have:=xeS kvs6 (cD c) (.bl true);refine⟨s7,eL7,⟨_,_,hd7,hin6.put c _,by lia,fun y=>?_⟩,_,rfl⟩;rw[cG,hc,←eP,bu,aw,hse6 y];simp[or_comm]
    ·obtain⟨s6,eL6,⟨kvs6,seen6,hd6,hin6,hk6,hse6⟩,x4,rfl⟩:=hQ;rw[aq]at hk6 hse6;rw[cH]at hse6;refine⟨s6,⟨kvs6,seen6,hd6,hin6,by lia,?_⟩,_,_,_,rfl⟩;rw[hla];exact xg3 _ _ _ _ fun c=>(hse6 c).symm
  ·obtain⟨s1,⟨kvs,seen,hd,hin,hkl,hla⟩,x2,x3,x4,rfl⟩:=hP;have e0:rs.drop (ts.map V.ref).length=[]:=by
    rw[aq,htl];exact fc
   rw[e0]at hla;have e1:xcE rs=none:=hla;rw[e1]at q;exact q G s1
end
section
variable {P:ai} {w:World} {K:ag} {mg:Str→Option Value} {base:Heap} {a:Adr}
theorem xdM(T:Txt K mg a):xA P w K mg base CX0 3 a.q2i a.xbE ["value"] xik:=by
 refine T.q1R.ok xdG (fun vs H Q E h=>?_) (fun cdv A outer s H vs Q E hr h=>?_)
 ·obtain⟨i,rfl,_⟩:=h;rfl
 ·obtain⟨i,rfl,h0,h3,q⟩:=h;have nd:=xdG.nd;refine⟨_,(xk (xr (zP (xG (yX T) (hr.mono (by decide)) (by rfl) T.zm T.q0r.kp T.zl .nil xu (xa xl (xa (cv 0) xg))) (vF (uw xmc (cv 0) (xdS (v:=.int 300) (by rfl) T.xlv ⟨_,rfl⟩)))))),?_⟩;walk_at"w";refine⟨_,i,rfl,?_⟩;rw[decide_eq_true h0];walk_at"w";refine⟨fun _=>?_,by walk_at"no"⟩;show Q (.bl (decide (i≤300))) H;rw[decide_eq_true h3];exact q
theorem xfL(T:Txt K mg a):xA P w K mg base CX0 4 a.q1z a.jo ["paper"] (xn6 K):=by
 refine T.q1B.ok xbd (fun vs H Q E h=>?_) (fun cdv A outer s H vs Q E hr h=>?_)
 ·obtain⟨p,o,n,rs,rfl,_⟩:=h;rfl
 ·obtain⟨p,o,n,rs,rfl,⟨tt,ts,hp,ht,hts⟩,ho0,ho3,hn0,hn3,hl,q⟩:=h;have nd:=xbd.nd;refine⟨_,(xk (xr (zP (xG (xdM T) (hr.mono (by decide)) (by rfl) T.xeo T.q1R.kp T.xen .nil xu (xa (xy xM (cv 0) xl (fun _ _=>rfl)) xg)) (zP (xG (xdM T) (hr.mono (by decide)) (by rfl) T.xeo T.q1R.kp T.xen .nil xu (xa (xy xM (cv 0) xl (fun _ _=>rfl)) xg)) (vF (uw xmc (xQ xW (by rfl) T.q2e yT (xa (xy xM (cv 0) xl (fun _ _=>rfl)) xg)) (xdS (v:=.int 300) (by rfl) T.xlv ⟨_,rfl⟩))))))),?_⟩;walk_at"w";refine⟨p,_,_,.int o,rfl,rfl,SqT.of hp,rfl,?_⟩;walk_at"w";refine⟨o,rfl,ho0,ho3,?_⟩;walk_at"w";refine⟨fun _=>?_,by walk_at"no"⟩;walk_at"w";refine⟨p,_,_,.int n,rfl,rfl,SqT.of hp,rfl,?_⟩;walk_at"w";refine⟨n,rfl,hn0,hn3,?_⟩;walk_at"w";refine⟨fun _=>?_,by walk_at"no"⟩;walk_at"w";refine⟨p,_,_,.ref tt,rfl,rfl,SqT.of hp,rfl,?_⟩;walk_at"w";refine⟨tt,_,rfl,.inr (SqT.of ht),?_⟩;rw[aq,hts.length];show Q (.bl (decide ((rs.length:Int)≤300))) H;rw[decide_eq_true (by lia)];exact q
theorem xed(T:Txt K mg a):xA P w K mg base CX0 6 a.q09 a.vn ["told","old","new"] (xkw K):=by
 refine T.q1b.ok xae (fun vs H Q E h=>?_) (fun cdv A outer s H vs Q E hr h=>?_)
 ·obtain⟨t,r,old,new,rfl,_⟩:=h;rfl
 ·obtain⟨t,r,old,new,rfl,ht,hk,hf,q⟩:=h;have nd:=xae.nd;refine⟨_,(xf (xnE rfl (xk (xx (i:=3) nd rfl (ay rfl) (xG (jH (P:=P) (w:=w) (base:=base) T) (hr.mono (by decide)) (by rfl) T.xaU T.q1W.kp T.xaT .nil xu (xa (cv 0) xg)))))
  (xf (xI (PW.pt (xe9 (zw (xQ ux (by rfl) T.q1s yI (xa (cv 3) (xa (xdS (v:=.ref a.q0c) (by rfl) T.xh5 rfl) xg)))) (xfZ (xH xc9 (xJ ug (xw (cv 3) rfl) (xw (cv 3) rfl)) (cv 1))))) (xk (xr uf)) xt)
  (xk (xr (uw xmc (xy xM (xbN (xT (cv 3) T.q1O T.q35 (xc1 (P:=P) (w:=w) (base:=base) T) (hr.mono (by decide)) T.xdv .nil xu) (xT (cv 3) T.q0h T.q3U (xc1 (P:=P) (w:=w) (base:=base) T) (hr.mono (by decide)) T.xdv .nil xu)) xl (fun _ _=>rfl)) (cv 2)))))),?_⟩
  walk_at"w";refine⟨t,r,rfl,ht,hk,fun o H1 s1 _ ho=>?_⟩;cases r with
  |take to st c=>
   obtain⟨dx,ho⟩:=ho;walk_at"w";refine⟨_,_,_,_,true,rfl,rfl,T.xjs ho,T.q3D,?_⟩;walk_at"w";refine⟨fun _=>?_,by walk_at"no"⟩;walk_at"w";refine⟨o,_,dx,_,.int st,rfl,ho,T.q0h,T.q0x,rfl,?_⟩;walk_at"w";refine⟨o,_,dx,_,.int c,rfl,ho,T.q0h,T.q0L,rfl,?_⟩;walk_at"w";rw[decide_eq_false (show¬old<st+c from by have:=hf.1;lia)];refine⟨by walk_at"no",fun _=>?_⟩;walk_at"w";refine cx ?_;walk_at"w";refine⟨o,dx,_,rfl,ho,rfl,?_⟩;walk_at"w";refine⟨o,a.q0c,dx,_,to,c,rfl,ho,T.q0h,T.q0R,T.q0L,rfl,rfl,?_⟩;intro t3 ht3;generalize hUt3:upd H1 t3 _=H3;have sH3:=xc.of_eq ht3 hUt3;have et3:=xh hUt3;clear hUt3;walk_at"w";refine⟨t3,_,_,.int (to+c),rfl,rfl,SqT.of et3,rfl,?_⟩;show Q (.bl (decide (to+c≤new))) H3;rw[decide_eq_true hf.2];exact q H3 (s1.trans sH3)
  |put to sg=>
   obtain⟨dx,u,ho,hu⟩:=ho;walk_at"w";refine⟨_,_,_,_,false,rfl,rfl,T.xlu ho,T.q3Z,?_⟩;walk_at"w";refine⟨by walk_at"no",fun _=>?_⟩;walk_at"w";refine⟨by walk_at"no",fun _=>?_⟩;walk_at"w";refine ay ?_;walk_at"w";refine⟨o,dx,_,rfl,ho,rfl,?_⟩;walk_at"w";refine⟨o,a.q0f,dx,_,to,sg.length,rfl,ho,T.q1O,T.q3a,T.q1K,rfl,rfl,?_⟩;intro t3 ht3;generalize hUt3:upd H1 t3 _=H3;have sH3:=xc.of_eq ht3 hUt3;have et3:=xh hUt3;clear hUt3;walk_at"w";refine⟨t3,_,_,.int (to+sg.length),rfl,rfl,SqT.of et3,rfl,?_⟩;show Q (.bl (decide (to+(sg.length:Int)≤new))) H3;rw[decide_eq_true (show to+(sg.length:Int)≤new from hf)];exact q H3 (s1.trans sH3)
theorem xdN(T:Txt K mg a):xA P w K mg base CX0 7 a.q0S a.uU ["paper"] (xmz K):=by
 refine T.q0T.ok jC (fun vs H Q E h=>?_) (fun cdv A outer s H vs Q E hr h=>?_)
 ·obtain⟨p,o,n,rs,rfl,_⟩:=h;rfl
 ·obtain⟨p,o,n,rs,rfl,⟨tt,ts,hp,ht,hts⟩,hk,hl,q⟩:=h;have nd:=jC.nd;refine⟨_,(xf (yK br rfl (xmm (by rfl) T.q2V (xa (xy xM (cv 0) xl (fun _ _=>rfl)) xg)) (uu rfl (xK (xF (i:=1) nd rfl (ay rfl)) (xK (xF (i:=2) nd rfl (ay rfl)) zu))) (xk (xI (xc5 (zw (xG (xed T) (hr.mono (by decide)) (by rfl) T.xeM T.q1b.kp T.xeL .nil xu (xa (cv 2) (xa (xy xM (cv 0) xl (fun _ _=>rfl)) (xa (xy xM (cv 0) xl (fun _ _=>rfl)) xg)))))) (xk (xr (cv 1))) xt)))
  (xk (xr yh))),?_⟩
  walk_at"w";refine⟨p,_,_,.ref tt,rfl,rfl,SqT.of hp,rfl,?_⟩;walk_at"w";refine⟨tt,rfl,⟨_,SqT.of ht⟩,?_⟩;walk_at"w";refine xiG (xs:=ts.map V.ref) (fun i σ H1=>xc H H1∧∃x1 x2,σ=[some (.ref p),x1,x2]) ⟨xc.refl _,_,_,rfl⟩ (fun i σ H1 hi hP=>hP.1.seqT (SqT.of ht)) (fun i x σ H1 T0 hx hP hT0=>?_) (fun σ H1 hP=>?_)
  ·obtain⟨s1,x1,x2,rfl⟩:=hP;rw[aJ]at hx;obtain⟨t0,ht0,rfl⟩:=aR.mp hx;obtain⟨r,hr0,pr⟩:=xbo hts ht0;obtain⟨k1,k2⟩:=hk r (bf hr0);generalize hU:upd H1 T0 _=H2;have s2:=xc.of_eq hT0 hU;have eT:=xh hU;clear hU;have s02:=s1.trans s2;walk_at"w";refine⟨T0,_,rfl,SqT.of eT,rfl,?_⟩;walk_at"w";refine⟨_,_,rfl,?_⟩;walk_at"w";refine⟨_,_,rfl,?_⟩;walk_at"w";refine bo rfl ?_;walk_at"w";refine⟨p,_,_,.int o,rfl,rfl,SqT.of (s02.at hp),rfl,?_⟩;walk_at"w";refine⟨p,_,_,.int n,rfl,rfl,SqT.of (s02.at hp),rfl,?_⟩;walk_at"w";refine⟨t0,r,o,n,rfl,pr.same s02,k1,k2,fun H3 s3=>?_⟩;walk_at"w";refine⟨by walk_at"no",fun _=>?_⟩;exact⟨s02.trans s3,_,_,rfl⟩
  ·obtain⟨s1,x1,x2,rfl⟩:=hP;exact q H1 s1
theorem xmD{old new:Int}{r:xB}(hk:r.ok)(hn:new≤300)(h:Fit old new r):r.cv.length≤300∧r.rds.length≤300∧r.wrs.length≤300:=by
 cases r with
 |take to st c=>
  obtain⟨k1,k2,k3⟩:=hk;have h2:=h.2;refine⟨by simp only[xB.cv,yo];lia,?_,?_⟩
  ·simp only[xB.rds];split
   ·simp
   ·rw[yo];lia
  ·simp only[xB.wrs];split
   ·simp
   ·rw[yo];lia
 |put to sg=>
  have h2:to+(sg.length:Int)≤new:=h;have k1:=hk.1;refine⟨by simp only[xB.cv,yo];lia,by simp[xB.rds],by simp only[xB.wrs,yo];lia⟩
theorem xmE(T:Txt K mg a):xA P w K mg base CX0 8 a.q3H a.xge ["paper"] (xmA K):=by
 refine T.q3N.ok xh7 (fun vs H Q E h=>?_) (fun cdv A outer s H vs Q E hr h=>?_)
 ·obtain⟨p,o,n,rs,rfl,_⟩:=h;rfl
 ·obtain⟨p,o,n,rs,rfl,hP,ho,hn,hl,hk,h1,q⟩:=h;have nd:=xh7.nd;refine⟨_,(xf (xI (xc5 (zw (xG (xfL T) (hr.mono (by decide)) (by rfl) T.xgk T.q1B.kp T.xgj .nil xu (xa (cv 0) xg)))) xcc xt)
  (xf (xx (i:=1) nd rfl (ay rfl) (xG (xdN T) (hr.mono (by decide)) (by rfl) T.xea T.q0T.kp T.xd9 .nil xu (xa (cv 0) xg)))
  (xf (xI (xdY (cv 1)) xcc xt)
  (xf (xfc (i:=2) (vI (cap:=[]) (ys:=[]) rfl rfl rfl rfl rfl trivial (by decide+kernel)) rfl nd rfl rfl (xhB (xy xM (cv 0) xl (fun _ _=>rfl))) (fun _ _ _ _=>(xG (jH T) (hr.mono (by decide)) (by rfl) T.xaU T.q1W.kp T.xaT .nil xu (xa (cv 0) xg))) (fun _ _ _ _=>vw))
  (xf (xx (i:=3) nd rfl (ay rfl) (xG (xeT T) (hr.mono (by decide)) (by rfl) T.xfw T.q1p.kp T.xfv .nil xu (xa (cv 2) xg)))
  (xf (zQ (xI (vJ (cv 3)) (xk (xx (i:=3) nd rfl (ay rfl) (xG (xkA T) (hr.mono (by decide)) (by rfl) T.xlp T.q25.kp T.xlo .nil xu (xa (cv 2) (xa (xy xM (cv 0) xl (fun _ _=>rfl)) xg))))) xt))
  (xf (zQ (xI (vJ (cv 3)) (xk (xx (i:=3) nd rfl (ay rfl) (xG (xis T) (hr.mono (by decide)) (by rfl) T.xiW T.q2n.kp T.xiV .nil xu (xa (cv 2) xg)))) xt))
  (xk (xr (cv 3)))))))))),?_⟩
  walk_at"w";refine⟨p,o,n,rs,rfl,hP,ho.1,ho.2,hn.1,hn.2,hl,?_⟩;walk_at"w";refine⟨by walk_at"no",fun _=>?_⟩;walk_at"w";refine⟨p,o,n,rs,rfl,hP,hk,hl,fun H1 s1=>?_⟩;walk_at"w";refine⟨by walk_at"no",fun _=>?_⟩;obtain⟨tt,ts,hp,ht,hts⟩:=hP.same s1;walk_at"w";refine⟨p,_,_,.ref tt,rfl,rfl,SqT.of hp,rfl,?_⟩;walk_at"w";refine⟨tt,rfl,⟨_,SqT.of ht⟩,?_⟩;refine xgT (fun i acc G=>∃(os:List Addr),acc=os.map V.ref∧Paired (uq K a G) os (rs.take i)) (SqT.of ht) (by rw[aq,hts.length,aQ];lia) ⟨[],rfl,.nil⟩ (fun i x acc H3 H3' hx s3 s3' hP R hR=>?_) (fun D acc H3 H3' hD hD3 s3 s3' hP hel he=>?_)
  ·obtain⟨os,rfl,hpr⟩:=hP;rw[aJ]at hx;obtain⟨t0,ht0,rfl⟩:=aR.mp hx;obtain⟨r,hr0,pr⟩:=xbo hts ht0;walk_at"w";refine⟨t0,r,rfl,pr.same (s3.trans s3'),(hk r (bf hr0)).1,fun o H6' s6 hno hob=>hR _ _ s6 fun H6 sx kx=>⟨os++[o],by simp,?_⟩⟩;rw[cG,hr0];exact xbG (L2.Paired.imp' (fun _ _ z=>z.same sx) hpr) (hob.mv kx)
  obtain⟨os,rfl,hpr⟩:=hP;rw[aq,hts.length,cH]at hpr;have hpr':=L2.Paired.imp' (fun _ _ (z:uq K a H3 _ _)=>z.same s3') hpr;have sA:xc H H3':=s1.trans (s3.trans s3');have hrok:xfI rs:=⟨hl,fun r hrm=>xmD (hk r hrm).1 hn.2 (hk r hrm).2⟩;have hp3:=(s3.trans s3').at hp;clear hel hD3 s3 s3' hpr hts ht hp;walk_at"w";refine⟨D,rs,rfl,⟨os,SqL.of he,hpr'⟩,hrok,h1,?_⟩;rw[h1];intro H4 s4;walk_at"w";refine⟨fun σ' G=>(uZ rs n.toNat=none∧σ'=[some (.ref p),some .non,some (.ref D),some .non]∧xc H3' G)∨∃t,σ'=[some (.ref p),some .non,some (.ref D),some (.ref t)]∧Q (.ref t) G,?_,?_⟩
  ·walk_at"w";refine⟨fun _=>?_,by walk_at"no"⟩;walk_at"w";refine⟨p,_,_,.int n,rfl,rfl,SqT.of (s4.at hp3),rfl,?_⟩;walk_at"w";refine⟨D,rs,n.toNat,by rw[eg hn.1];rfl,⟨os,SqL.of (s4.at he),L2.Paired.imp' (fun _ _ z=>z.same s4) hpr'⟩,hrok,by lia,?_⟩;unfold xil at q;cases hlk:uZ rs n.toNat with
   |none=>intro H5 s5;exact .inl ⟨rfl,rfl,s4.trans s5⟩
   |some c=>rw[hlk]at q;intro t H5 s5 et;exact .inr ⟨t,rfl,q t H5 (sA.trans (s4.trans s5)) et⟩
  rintro σ' G (⟨hlk,rfl,sG⟩|⟨t,rfl,qt⟩)
  ·unfold xil at q;rw[hlk]at q;walk_at"w";refine⟨fun σ' G2=>∃v,σ'=[some (.ref p),some .non,some (.ref D),some v]∧Q v G2,?_,?_⟩
   ·walk_at"w";refine⟨fun _=>?_,by walk_at"no"⟩;walk_at"w";refine⟨D,rs,rfl,⟨os,SqL.of (sG.at he),L2.Paired.imp' (fun _ _ z=>z.same sG) hpr'⟩,hrok,?_⟩;cases hlt:xcE rs with
    |none=>
     rw[hlt]at q;intro H5 s5;exact⟨_,rfl,q H5 (sA.trans (sG.trans s5))⟩
    |some kc=>
     rw[hlt]at q;intro t H5 s5 e5;exact⟨_,rfl,q t H5 (sA.trans (sG.trans s5)) e5⟩
   rintro σ' G2 ⟨v,rfl,qv⟩;exact qv
  ·walk_at"w";refine⟨fun σ' G2=>∃v,σ'=[some (.ref p),some .non,some (.ref D),some v]∧Q v G2,?_,?_⟩
   ·walk_at"w";refine⟨by walk_at"no",fun _=>?_⟩;exact⟨_,rfl,qt⟩
   rintro σ' G2 ⟨v,rfl,qv⟩;walk_at"w";exact qv
end
abbrev bI(b:Bool):Int:=if b then 1 else 0
structure BA where
 bd:Addr
 dx:Addr
 p:Addr
 dp:Addr
 bl:Addr
 le:Addr
 ma:Addr
 se:Addr
 S:Bool→SA
structure BdS where
 size:Int
 cells:Bool→List Int
 notes:Bool→List (Option Int)
 len:Bool→Int
 mark:Bool→Str
 mr:Bool
 ct:Int
 run:Option Bool
 cnt:Int
 fl:Nat
def yC:Option Bool→V
 |none=>.non
 |some b=>.int (bI b)
abbrev bdF(B:BA)(size:Int)(run:V):List (Str×V):=[("pen",.ref B.p),("size",.int size),("banks",.ref B.bl),("lengths",.ref B.le),("marks",.ref B.ma),("settings",.ref B.se),("running",run)]
abbrev xeU(mk:Bool)(ct:Int):List (Key×V):=[(.inr "marker",.int (bI mk)),(.inr "counter",.int ct)]
abbrev BS(B:BA):List Addr:=[B.bd,B.le,B.ma,B.se,B.p,(B.S false).ca,(B.S false).na,(B.S true).ca,(B.S true).na]
abbrev BF(F:FM)(B:BA):List Addr:=BS B++F.M
structure xD(a:Adr)(F:FM)(H:Hp)(B:BA)(s:BdS):Prop where
 bd:H B.bd=some (.ins a.q0a B.dx (bdF B s.size (yC s.run)))
 bl:H B.bl=some (.lst [.ref (B.S false).st,.ref (B.S true).st])
 le:H B.le=some (.lst [.int (s.len false),.int (s.len true)])
 ma:H B.ma=some (.lst [.str (s.mark false),.str (s.mark true)])
 se:H B.se=some (.dK (xeU s.mr s.ct))
 st:∀b,zM a H (B.S b) (s.cells b) (s.notes b) s.cnt (.ref F.f)
 sp:∀b,(B.S b).p=B.p∧(B.S b).dp=B.dp
 nl:[B.bl,B.le,B.ma,(B.S false).ca,(B.S false).na,(B.S true).ca,(B.S true).na].Nodup
 ni:[B.bd,(B.S false).st,(B.S true).st,B.p].Nodup
 fm:F.At H s.fl s.cnt
 off:∀x∈F.M,x∉BS B∧x≠B.bl∧∀b,x≠(B.S b).st
 c0:0≤s.cnt
theorem xD.pen{a:Adr}{F:FM}{H:Hp}{B:BA}{s:BdS}(h:xD a F H B s):H B.p=some (.ins a.q0i B.dp (yW s.cnt (.ref F.f))):=by
 have:=(h.st false).p;rw[(h.sp false).1,(h.sp false).2]at this;exact this
theorem xD.same{a:Adr}{F:FM}{H H':Hp}{B:BA}{s:BdS}(h:xD a F H B s)(e:xc H H'):xD a F H' B s:=
 ⟨e.at h.bd,e.at h.bl,e.at h.le,e.at h.ma,e.at h.se,fun b=>(h.st b).same e,h.sp,h.nl,h.ni,F.keep (L:=[]) h.fm (Kp.of e) (fun _ z=>nomatch z) (fun _ z=>nomatch z),h.off,h.c0⟩
def xmF(a:Adr):Sp:=fun vs H Q _=>∃(F:FM) (B:BA) (s:BdS),vs=[.ref B.bd]∧xD a F H B s∧Q (.int (bI (!s.mr))) H
def xmG(a:Adr):Sp:=fun vs H Q _=>∃(F:FM) (B:BA) (s:BdS) (b:Bool) (old:Int),vs=[.ref B.bd,.int (bI b),.int old]∧xD a F H B s∧Q (.bl (decide (s.mark b=("open":Str))||decide (old=0)||(decide (s.mark b=("good":Str))&&decide (s.len b=old)))) H
def xmH(a:Adr):Sp:=fun vs H Q _=>∃(F:FM) (B:BA) (s:BdS),vs=[.ref B.bd]∧xD a F H B s∧∀(t m l:Addr) (H':Hp),xc H H'→H m=none→H l=none→m≠l→H' t=some (.tup [.int (bI s.mr),.ref m,.ref l,.int s.ct,yC s.run])→H' m=some (.lst [.str (s.mark false),.str (s.mark true)])→H' l=some (.lst [.int (s.len false),.int (s.len true)])→Q (.ref t) H'
def xmI(a:Adr):Sp:=fun vs H Q _=>∃(F:FM) (B:BA) (s:BdS) (b:Bool),vs=[.ref B.bd,.int (bI b)]∧xD a F H B s∧0≤s.len b∧∀(t:Addr) (H':Hp),xc H H'→H t=none→H' t=some (.lst (((s.cells b).take (s.len b).toNat).map V.int))→Q (.ref t) H'
inductive Wr
 |mark (b:Bool) (v:Str)
 |leng (b:Bool) (v:Int)
 |cter (v:Int)
 |mrk (b:Bool)
 |note (b:Bool) (i:Nat) (m:Int)
 |cell (b:Bool) (i:Nat) (v:Int)
def upB{α:Type}(f:Bool→α)(b:Bool)(v:α):Bool→α:=fun c=>if c=b then v else f c
def Wr.up:Wr→BdS→BdS
 | .mark b v,s=>{s with mark:=upB s.mark b v}
 | .leng b v,s=>{s with len:=upB s.len b v}
 | .cter v,s=>{s with ct:=v}
 | .mrk b,s=>{s with mr:=b}
 | .note b i m,s=>{s with notes:=upB s.notes b ((s.notes b).set i (some m))}
 | .cell b i v,s=>{s with cells:=upB s.cells b ((s.cells b).set i v)}
def Wr.tn(x:Int):Wr→BdS→BdS
 | .note b i _,s=>{s with notes:=upB s.notes b ((s.notes b).set i none)}
 | .cell b i _,s=>{s with cells:=upB s.cells b ((s.cells b).set i x)}
 |y,s=>y.up s
def w1(F:FM)(s:BdS)(y:Wr):BdS:=match F.fo s.fl s.cnt with
 |none=>{y.up s with cnt:=s.cnt+1,fl:=s.fl}
 |some none=>{s with cnt:=s.cnt+1,fl:=s.fl+1}
 |some (some x)=>{y.tn x s with cnt:=s.cnt+1,fl:=s.fl+1}
def xP(F:FM):BdS→List Wr→BdS×Option Int
 |s,[]=>(s,none)
 |s,y::ys=>if F.fo s.fl s.cnt=none then xP F (w1 F s y) ys else(w1 F s y,some s.cnt)
def xV(a:Adr)(F:FM)(H:Hp)(B:BA)(r:BdS×Option Int)(q:Hp→Prop)(E:XK):Prop:=
 (r.2=none→∀H',Kp (BF F B) H H'→xD a F H' B r.1→q H')∧(∀c,r.2=some c→∀d H',Kp (BF F B) H H'→xD a F H' B r.1→H' d=some (.xd [("count",.int c)])→E (.ref a.q0d) (some d) H')
section
variable {a:Adr} {F:FM} {H H':Hp} {B:BA} {s:BdS}
theorem xbi{p q C dx:Addr}{fs:List (Str×V)}{o:HO}(h1:H p=some (.ins C dx fs))(h2:H q=some o)(n:∀C dx fs,o≠.ins C dx fs):q≠p:=fun z=>by
 rw[z,h1]at h2;exact n _ _ _ (aX h2).symm
theorem xD.np(h:xD a F H B s):B.bd≠B.p∧B.bl≠B.p∧B.le≠B.p∧B.ma≠B.p∧B.se≠B.p∧∀b,(B.S b).st≠B.p∧(B.S b).ca≠B.p∧(B.S b).na≠B.p:=by
 have hp:=h.pen;have ni:=h.ni;simp only[bq,aw,bg,or_false,not_or,not_false_eq_true,c7,and_true]at ni;refine⟨ni.1.2.2,xbi hp h.bl (fun _ _ _ z=>by cases z),xbi hp h.le (fun _ _ _ z=>by cases z),xbi hp h.ma (fun _ _ _ z=>by cases z),xbi hp h.se (fun _ _ _ z=>by cases z),fun b=>⟨?_,xbi hp (h.st b).ca (fun _ _ _ z=>by cases z),xbi hp (h.st b).na (fun _ _ _ z=>by cases z)⟩⟩;cases b
 ·exact ni.2.1.2
 ·exact ni.2.2
theorem xD.nb(h:xD a F H B s){x:Addr}{o:HO}(e:H x=some o)(n:∀C dx fs,o≠.ins C dx fs):x≠B.bd∧∀b,x≠(B.S b).st:=⟨xbi h.bd e n,fun b=>xbi (h.st b).st e n⟩
theorem xD.mu(h:xD a F H B s):∀x∈BS B,∃u,H x=some u∧jr u:=by
 intro x hx;simp only[aw,bg,or_false]at hx;rcases hx with rfl|rfl|rfl|rfl|rfl|rfl|rfl|rfl|rfl
 ·exact⟨_,h.bd,trivial⟩
 ·exact⟨_,h.le,trivial⟩
 ·exact⟨_,h.ma,trivial⟩
 ·exact⟨_,h.se,trivial⟩
 ·exact⟨_,h.pen,trivial⟩
 ·exact⟨_,(h.st false).ca,trivial⟩
 ·exact⟨_,(h.st false).na,trivial⟩
 ·exact⟨_,(h.st true).ca,trivial⟩
 ·exact⟨_,(h.st true).na,trivial⟩
theorem xD.nM(h:xD a F H B s){y:Addr}(hy:y∈BS B∨y=B.bl∨∃b,y=(B.S b).st):y∉F.M:=fun z=>by
 obtain⟨z1,z2,z3⟩:=h.off y z;rcases hy with hy|hy|⟨b,hy⟩
 ·exact z1 hy
 ·exact z2 hy
 ·exact z3 b hy
theorem xD.muF(h:xD a F H B s):MuL H (BF F B):=fun x hx=>by
 rcases bu.mp hx with hx|hx
 ·exact h.mu x hx
 ·exact F.mu h.fm x hx
theorem xD.sM(h:xD a F H B s)(b:Bool):(B.S b).st∉F.M∧(B.S b).ca∉F.M∧(B.S b).na∉F.M:=⟨h.nM (.inr (.inr ⟨b,rfl⟩)),h.nM (.inl (by cases b<;> simp)),h.nM (.inl (by cases b<;> simp))⟩
theorem xD.chg(h:xD a F H B s){x:Addr}(k:Kp (B.p::x::F.M) H H')(hp:H' B.p=some (.ins a.q0i B.dp (yW (s.cnt+1) (.ref F.f))))(hx:x=B.le∨x=B.ma∨x=B.se):
  H' B.bd=some (.ins a.q0a B.dx (bdF B s.size (yC s.run)))∧H' B.bl=some (.lst [.ref (B.S false).st,.ref (B.S true).st])∧(x≠B.le→H' B.le=some (.lst [.int (s.len false),.int (s.len true)]))∧(x≠B.ma→H' B.ma=some (.lst [.str (s.mark false),.str (s.mark true)]))∧
  (x≠B.se→H' B.se=some (.dK (xeU s.mr s.ct)))∧∀b,zM a H' (B.S b) (s.cells b) (s.notes b) (s.cnt+1) (.ref F.f):=by
 obtain⟨n1,n2,n3,n4,n5,n6⟩:=h.np;have nl:=h.nl;simp only[bq,aw,bg,or_false,not_or,not_false_eq_true,c7,and_true]at nl;obtain⟨⟨l1,l2,l3,l4,l5,l6⟩,⟨m1,m2,m3,m4,m5⟩,⟨k1,k2,k3,k4⟩,_⟩:=nl;have xo:∃o,H x=some o∧∀C dx fs,o≠.ins C dx fs:=by
  rcases hx with rfl|rfl|rfl
  ·exact⟨_,h.le,fun _ _ _ z=>by cases z⟩
  ·exact⟨_,h.ma,fun _ _ _ z=>by cases z⟩
  ·exact⟨_,h.se,fun _ _ _ z=>by cases z⟩
 obtain⟨o,xe,xn⟩:=xo;obtain⟨xb,xs⟩:=h.nb xe xn;have two:∀{y:Addr} {u:HO},H y=some u→y≠B.p→y≠x→y∉F.M→H' y=some u:=fun e a b c=>k _ _ e (by simp[a,b,c]);have ld:∀{y:Addr} {ys:List V},H y=some (.lst ys)→y≠B.se:=fun e z=>by rw[z,h.se]at e;cases e
 have lx:∀{y:Addr} {ys:List V},H y=some (.lst ys)→y≠B.le→y≠B.ma→y≠x:=fun e a b=>by
  rcases hx with rfl|rfl|rfl
  ·exact a
  ·exact b
  ·exact ld e
 refine⟨two h.bd n1 (ak xb) (h.nM (.inl (by simp))),two h.bl n2 (lx h.bl l1 l2) (h.nM (.inr (.inl rfl))),fun z=>two h.le n3 (ak z) (h.nM (.inl (by simp))),fun z=>two h.ma n4 (ak z) (h.nM (.inl (by simp))),fun z=>two h.se n5 (ak z) (h.nM (.inl (by simp))),fun b=>?_⟩;have S:=h.st b;have sp:=h.sp b;refine⟨two S.st (n6 b).1 (ak (xs b)) (h.sM b).1,two S.ca (n6 b).2.1 (lx S.ca ?_ ?_) (h.sM b).2.1,two S.na (n6 b).2.2 (lx S.na ?_ ?_) (h.sM b).2.2,by rw[sp.1,sp.2];exact hp,S.ne,S.np⟩
 ·cases b
  ·exact ak m2
  ·exact ak m4
 ·cases b
  ·exact ak k1
  ·exact ak k3
 ·cases b
  ·exact ak m3
  ·exact ak m5
 ·cases b
  ·exact ak k2
  ·exact ak k4
theorem xD.nlm(h:xD a F H B s):B.le≠B.ma∧B.le≠B.se∧B.ma≠B.se:=by
 have nl:=h.nl;simp only[bq,aw,bg,or_false,not_or,not_false_eq_true,c7,and_true]at nl;exact⟨nl.2.1.1,fun z=>(by have:=h.le;rw[z,h.se]at this;cases this),fun z=>(by have:=h.ma;rw[z,h.se]at this;cases this)⟩
theorem xD.mark(h:xD a F H B s){b:Bool}{v:Str}(k:Kp (B.p::B.ma::F.M) H H')(hp:H' B.p=some (.ins a.q0i B.dp (yW (s.cnt+1) (.ref F.f)))){fl:Nat}(hat:F.At H' fl (s.cnt+1))(e:H' B.ma=some (.lst ([V.str (s.mark false),V.str (s.mark true)].set (bI b).toNat (.str v)))):
  xD a F H' B {s with mark:=upB s.mark b v,cnt:=s.cnt+1,fl:=fl}:=by
 obtain⟨h1,h2,h3,_,h5,h6⟩:=h.chg k hp (.inr (.inl rfl));obtain⟨n1,n2,n3⟩:=h.nlm;exact⟨h1,h2,h3 (ak n1),by rw[e];cases b<;> rfl,h5 n3,h6,h.sp,h.nl,h.ni,hat,h.off,by have:=h.c0;show 0≤s.cnt+1;lia⟩
theorem xD.leng(h:xD a F H B s){b:Bool}{v:Int}(k:Kp (B.p::B.le::F.M) H H')(hp:H' B.p=some (.ins a.q0i B.dp (yW (s.cnt+1) (.ref F.f)))){fl:Nat}(hat:F.At H' fl (s.cnt+1))(e:H' B.le=some (.lst ([V.int (s.len false),V.int (s.len true)].set (bI b).toNat (.int v)))):
  xD a F H' B {s with len:=upB s.len b v,cnt:=s.cnt+1,fl:=fl}:=by
 obtain⟨h1,h2,_,h4,h5,h6⟩:=h.chg k hp (.inl rfl);obtain⟨n1,n2,n3⟩:=h.nlm;exact⟨h1,h2,by rw[e];cases b<;> rfl,h4 n1,h5 n2,h6,h.sp,h.nl,h.ni,hat,h.off,by have:=h.c0;show 0≤s.cnt+1;lia⟩
theorem xD.cter(h:xD a F H B s){v:Int}(k:Kp (B.p::B.se::F.M) H H')(hp:H' B.p=some (.ins a.q0i B.dp (yW (s.cnt+1) (.ref F.f)))){fl:Nat}(hat:F.At H' fl (s.cnt+1))(e:H' B.se=some (.dK (putK (xeU s.mr s.ct) (.inr "counter") (.int v)))):
  xD a F H' B {s with ct:=v,cnt:=s.cnt+1,fl:=fl}:=by
 obtain⟨h1,h2,h3,h4,_,h6⟩:=h.chg k hp (.inr (.inr rfl));obtain⟨n1,n2,n3⟩:=h.nlm;exact⟨h1,h2,h3 (ak n2),h4 (ak n3),by rw[e];rfl,h6,h.sp,h.nl,h.ni,hat,h.off,by have:=h.c0;show 0≤s.cnt+1;lia⟩
theorem xD.mrk(h:xD a F H B s){b:Bool}(k:Kp (B.p::B.se::F.M) H H')(hp:H' B.p=some (.ins a.q0i B.dp (yW (s.cnt+1) (.ref F.f)))){fl:Nat}(hat:F.At H' fl (s.cnt+1))(e:H' B.se=some (.dK (putK (xeU s.mr s.ct) (.inr "marker") (.int (bI b))))):
  xD a F H' B {s with mr:=b,cnt:=s.cnt+1,fl:=fl}:=by
 obtain⟨h1,h2,h3,h4,_,h6⟩:=h.chg k hp (.inr (.inr rfl));obtain⟨n1,n2,n3⟩:=h.nlm;exact⟨h1,h2,h3 (ak n2),h4 (ak n3),by rw[e];rfl,h6,h.sp,h.nl,h.ni,hat,h.off,by have:=h.c0;show 0≤s.cnt+1;lia⟩
theorem xD.ahead(h:xD a F H B s)(k:Kp (B.p::F.M) H H')(hp:H' B.p=some (.ins a.q0i B.dp (yW (s.cnt+1) (.ref F.f)))){fl:Nat}(hat:F.At H' fl (s.cnt+1)):xD a F H' B {s with cnt:=s.cnt+1,fl:=fl}:=by
 obtain⟨n1,n2,n3,n4,n5,n6⟩:=h.np;have two:∀{y:Addr} {u:HO},H y=some u→y≠B.p→y∉F.M→H' y=some u:=fun e a c=>k _ _ e (by simp[a,c]);refine⟨two h.bd n1 (h.nM (.inl (by simp))),two h.bl n2 (h.nM (.inr (.inl rfl))),two h.le n3 (h.nM (.inl (by simp))),two h.ma n4 (h.nM (.inl (by simp))),two h.se n5 (h.nM (.inl (by simp))),fun b=>?_,h.sp,h.nl,h.ni,hat,h.off,by have:=h.c0;show 0≤s.cnt+1;lia⟩;have S:=h.st b;exact⟨two S.st (n6 b).1 (h.sM b).1,two S.ca (n6 b).2.1 (h.sM b).2.1,two S.na (n6 b).2.2 (h.sM b).2.2,by rw[(h.sp b).1,(h.sp b).2];exact hp,S.ne,S.np⟩
theorem xD.bank(h:xD a F H B s){b:Bool}{cs:List Int}{ns:List (Option Int)}{n:Int}{fl:Nat}(k:Kp (F.M++SS (B.S b)) H H')(e:zM a H' (B.S b) cs ns n (.ref F.f))(hat:F.At H' fl n)(hn:0≤n):xD a F H' B {s with cells:=upB s.cells b cs,notes:=upB s.notes b ns,cnt:=n,fl:=fl}:=by
 obtain⟨n1,n2,n3,n4,n5,n6⟩:=h.np;have nl:=h.nl;have sp:=h.sp b;simp only[bq,aw,bg,or_false,not_or,not_false_eq_true,c7,and_true]at nl;obtain⟨⟨l1,l2,l3,l4,l5,l6⟩,⟨m1,m2,m3,m4,m5⟩,⟨k1,k2,k3,k4⟩,⟨c1,c2,c3⟩,⟨d1,d2⟩,q1⟩:=nl;have lst:∀{y:Addr} {u:HO},H y=some u→y≠(B.S b).ca→y≠(B.S b).na→y≠B.p→y∉F.M→H' y=some u:=fun e a b c d=>k _ _ e (by simp[a,b,sp.1,c,d]);obtain⟨xb,xs⟩:=h.nb (h.st b).ca (fun _ _ _ z=>by cases z);obtain⟨yb,ys⟩:=h.nb (h.st b).na (fun _ _ _ z=>by cases z);have de:∀{y:Addr} {zs:List V},H y=some (.lst zs)→B.se≠y:=fun e z=>by rw[←z,h.se]at e;cases e
 refine⟨lst h.bd (ak xb) (ak yb) n1 (h.nM (.inl (by simp))),lst h.bl ?_ ?_ n2 (h.nM (.inr (.inl rfl))),lst h.le ?_ ?_ n3 (h.nM (.inl (by simp))),lst h.ma ?_ ?_ n4 (h.nM (.inl (by simp))),lst h.se (de (h.st b).ca) (de (h.st b).na) n5 (h.nM (.inl (by simp))),fun c=>?_,h.sp,h.nl,h.ni,hat,h.off,hn⟩
 ·cases b<;> assumption
 ·cases b<;> assumption
 ·cases b<;> assumption
 ·cases b<;> assumption
 ·cases b<;> assumption
 ·cases b<;> assumption
 ·by_cases hc:c=b
  ·subst hc;show zM a H' (B.S c) (upB s.cells c cs c) (upB s.notes c ns c) n (.ref F.f);unfold upB;rw[if_pos rfl,if_pos rfl];exact e
  ·show zM a H' (B.S c) (upB s.cells b cs c) (upB s.notes b ns c) n (.ref F.f);unfold upB;rw[if_neg hc,if_neg hc];have C:=h.st c;have spc:=h.sp c;refine⟨lst C.st (ak (xs c)) (ak (ys c)) (n6 c).1 (h.sM c).1,lst C.ca ?_ ?_ (n6 c).2.1 (h.sM c).2.1,lst C.na ?_ ?_ (n6 c).2.2 (h.sM c).2.2,by rw[spc.1,spc.2,←sp.1,←sp.2];exact e.p,C.ne,C.np⟩
   ·cases b<;> cases c<;> first|exact absurd rfl hc|assumption|(apply ak;assumption)
   ·cases b<;> cases c<;> first|exact absurd rfl hc|assumption|(apply ak;assumption)
   ·cases b<;> cases c<;> first|exact absurd rfl hc|assumption|(apply ak;assumption)
   ·cases b<;> cases c<;> first|exact absurd rfl hc|assumption|(apply ak;assumption)
theorem xD.rune(h:xD a F H B s){r:Option Bool}:xD a F (upd H B.bd (.ins a.q0a B.dx (bdF B s.size (yC r)))) B {s with run:=r}:=by
 obtain⟨n1,n2,n3,n4,n5,n6⟩:=h.np;have ni:=h.ni;simp only[bq,aw,bg,or_false,not_or,not_false_eq_true,c7,and_true]at ni;have o:∀{y:Addr} {u:HO} (_:∀C dx fs,u≠.ins C dx fs),H y=some u→upd H B.bd (.ins a.q0a B.dx (bdF B s.size (yC r))) y=some u:=fun n e=>by rw[xm (h.nb e n).1];exact e
 refine⟨xp,o (fun _ _ _ z=>by cases z) h.bl,o (fun _ _ _ z=>by cases z) h.le,o (fun _ _ _ z=>by cases z) h.ma,o (fun _ _ _ z=>by cases z) h.se,fun b=>?_,h.sp,h.nl,h.ni,F.keep (L:=[B.bd]) h.fm ((Kp.of (xc.refl _)).wr (by simp)) (fun x hx=>by rw[au.mp hx];exact⟨_,h.bd,trivial⟩) (fun x hx=>by rw[au.mp hx];exact h.nM (.inl (by simp))),h.off,h.c0⟩;have S:=h.st b;refine⟨?_,o (fun _ _ _ z=>by cases z) S.ca,o (fun _ _ _ z=>by cases z) S.na,?_,S.ne,S.np⟩
 ·rw[xm (by cases b;exact ak ni.1.1;exact ak ni.1.2.1)];exact S.st
 ·rw[(h.sp b).1,xm (ak n1),←(h.sp b).1];exact S.p
def Tbs(H:Hp):Prop:=H uJ=some (.tbl xby)∧H zf=some (.tbl jn)∧H yk=some (.tbl zk)∧H yA=some (.tbl uk)∧H yz=some (.tbl uj)∧H yV=some (.tbl vd)∧H yq=some (.tbl zI)
theorem Tbs.kp{L:List Addr}(t:Tbs H)(k:Kp L H H')(mu:∀x∈L,∃u,H x=some u∧jr u):Tbs H':=by
 have one:∀{p:Addr} {q:List (Pos×Str)},H p=some (.tbl q)→H' p=some (.tbl q):=fun{p q} e=>k _ _ e fun z=>by
  obtain⟨u,e',m⟩:=mu p z;rw[e]at e';cases e';exact m
 obtain⟨t1,t2,t3,t4,t5,t6,t7⟩:=t;exact⟨one t1,one t2,one t3,one t4,one t5,one t6,one t7⟩
theorem Tbs.same(t:Tbs H)(e:xc H H'):Tbs H':=t.kp (L:=[]) (Kp.of e) (fun _ z=>nomatch z)
theorem xm7{x:Addr}(k:Kp (B.p::x::F.M) H H')(hx:x∈BS B):Kp (BF F B) H H':=k.mono fun y hy=>by
 rcases aw.mp hy with rfl|hy
 ·simp
 rcases aw.mp hy with rfl|hy
 ·exact aV _ hx
 ·exact aO _ hy
end
theorem xa4{F:FM}{s:BdS}:xP F s []=(s,none):=rfl
theorem zi{F:FM}{s:BdS}{y:Wr}{ys:List Wr}(h:F.fo s.fl s.cnt=none):xP F s (y::ys)=xP F (w1 F s y) ys:=if_pos h
theorem yn{F:FM}{s:BdS}{y:Wr}{ys:List Wr}(h:¬F.fo s.fl s.cnt=none):xP F s (y::ys)=(w1 F s y,some s.cnt):=if_neg h
theorem xV.step{a:Adr}{F:FM}{H:Hp}{B:BA}{s:BdS}{y:Wr}{ys:List Wr}{q:Hp→Prop}{E:XK}(h:xV a F H B (xP F s (y::ys)) q E):xV a F H B (xP F s [y]) (fun H1=>Kp (BF F B) H H1→xV a F H1 B (xP F (w1 F s y) ys) q E) E:=by
 by_cases e:F.fo s.fl s.cnt=none
 ·rw[zi e]at h;rw[zi e,xa4];refine⟨fun _ H1 k1 _ k1'=>⟨fun e2 H2 k2 h2=>h.1 e2 H2 (k1.trans k2) h2,fun c e2 d H2 k2 h2 hd=>h.2 c e2 d H2 (k1.trans k2) h2 hd⟩,fun c z=>by cases z⟩
 ·rw[yn e]at h;rw[yn e];exact⟨(fun z=>by cases z),h.2⟩
def Wr.loc(B:BA):Wr→Option (Addr×V×V)
 | .mark b v=>some (B.ma,.int (bI b),.str v)
 | .leng b v=>some (B.le,.int (bI b),.int v)
 | .cter v=>some (B.se,.str "counter",.int v)
 | .mrk b=>some (B.se,.str "marker",.int (bI b))
 |_=>none
theorem xfM{F:FM}{s:BdS}{y:Wr}(h:F.fo s.fl s.cnt=none):xP F s [y]=({y.up s with cnt:=s.cnt+1,fl:=s.fl},none):=by
 rw[zi h,xa4];unfold w1;rw[h]
theorem xew{F:FM}{s:BdS}{y:Wr}(h:F.fo s.fl s.cnt=some none):xP F s [y]=({s with cnt:=s.cnt+1,fl:=s.fl+1},some s.cnt):=by
 rw[yn (by rw[h];simp)];unfold w1;rw[h]
theorem xfN{F:FM}{s:BdS}{y:Wr}{x:Int}(h:F.fo s.fl s.cnt=some (some x)):xP F s [y]=({y.tn x s with cnt:=s.cnt+1,fl:=s.fl+1},some s.cnt):=by
 rw[yn (by rw[h];simp)];unfold w1;rw[h]
section
variable {a:Adr} {F:FM} {H H':Hp} {B:BA} {s:BdS}
theorem xD.slot(h:xD a F H B s){y:Wr}{l:Addr}{at' val:V}(hy:y.loc B=some (l,at',val)):∃o st,H l=some o∧Slot o at' st∧l∈BS B∧(∀x,y.tn x s=y.up s)∧
  ∀H' fl,Kp (B.p::l::F.M) H H'→H' B.p=some (.ins a.q0i B.dp (yW (s.cnt+1) (.ref F.f)))→F.At H' fl (s.cnt+1)→H' l=some (st val)→xD a F H' B {y.up s with cnt:=s.cnt+1,fl:=fl}:=by
 have b2:∀b:Bool,0≤bI b∧bI b<2:=by intro b;cases b<;> decide
 cases y with
 |mark b v=>
  cases hy;exact⟨_,_,h.ma,.lst _ _ (b2 b).1 (b2 b).2,by simp,fun _=>rfl,fun H' fl k hp hat e=>h.mark k hp hat e⟩
 |leng b v=>
  cases hy;exact⟨_,_,h.le,.lst _ _ (b2 b).1 (b2 b).2,by simp,fun _=>rfl,fun H' fl k hp hat e=>h.leng k hp hat e⟩
 |cter v=>
  cases hy;exact⟨_,_,h.se,.dK (.inr "counter") _ (show 2<100 by decide),by simp,fun _=>rfl,fun H' fl k hp hat e=>h.cter k hp hat e⟩
 |mrk b=>
  cases hy;exact⟨_,_,h.se,.dK (.inr "marker") _ (show 2<100 by decide),by simp,fun _=>rfl,fun H' fl k hp hat e=>h.mrk k hp hat e⟩
 |note b i m=>cases hy
 |cell b i v=>cases hy
theorem xqq(h:xD a F H B s){b:Bool}{x:Addr}(hx:x∈[(B.S b).ca,(B.S b).na])(k:Kp (B.p::x::F.M) H H'):Kp (F.M++SS (B.S b)) H H':=k.mono fun y hy=>by
 rcases aw.mp hy with rfl|hy
 ·rw[←(h.sp b).1];simp
 rcases aw.mp hy with rfl|hy
 ·simp only[aw,bg,or_false]at hx;rcases hx with rfl|rfl<;> simp
 ·exact aV _ hy
theorem xpt{α:Type}(f:Bool→α)(b:Bool):upB f b (f b)=f:=by
 funext c;unfold upB;split
 ·rename_i e;rw[e]
 ·rfl
theorem xD.noted(h:xD a F H B s){b:Bool}{fl:Nat}{i:Nat}{v:Option Int}(k:Kp (B.p::(B.S b).na::F.M) H H')(hp:H' B.p=some (.ins a.q0i B.dp (yW (s.cnt+1) (.ref F.f))))(hat:F.At H' fl (s.cnt+1))(e:H' (B.S b).na=some (.lst (((s.notes b).map nV).set i (nV v)))):
  xD a F H' B {s with notes:=upB s.notes b ((s.notes b).set i v),cnt:=s.cnt+1,fl:=fl}:=by
 have S:=h.st b;obtain⟨_,_,_,_,_,n6⟩:=h.np;have two:∀{y:Addr} {u:HO},H y=some u→y≠B.p→y≠(B.S b).na→y∉F.M→H' y=some u:=fun e a b c=>k _ _ e (by simp[a,b,c]);have St:zM a H' (B.S b) (s.cells b) ((s.notes b).set i v) (s.cnt+1) (.ref F.f):=
  ⟨two S.st (n6 b).1 (fun z=>by have:=S.st;rw[z,S.na]at this;cases this) (h.sM b).1,two S.ca (n6 b).2.1 S.ne (h.sM b).2.1,by rw[e,List.map_set],by rw[(h.sp b).1,(h.sp b).2];exact hp,S.ne,S.np⟩
 have:=h.bank (xqq h (by simp) k) St hat (by have:=h.c0;lia);rw[xpt]at this;exact this
end
def xoa:List (Str×V)→Sp:=fun fv vs H Q _=>∃v x:V,fv=([("value",v)]:List (Str×V))∧vs=[x]∧Q v H
def xob:List (Str×V)→Sp:=fun fv vs H Q _=>∃v:V,fv=([]:List (Str×V))∧vs=[v]∧Q .non H
abbrev xfO:Expr:=xap 3 (xd6 ((xN yy).getD 0 (.Pass ⟨0,0,0,0⟩)))
abbrev xfP:Expr:=xap 3 (xd6 ((xN yj).getD 0 (.Pass ⟨0,0,0,0⟩)))
theorem xjx:zp ["sign","value"] ["sign"] ["value"] (yw xfO):=⟨rfl,rfl,rfl,by decide+kernel,rfl,by decide+kernel,by decide+kernel,by decide+kernel⟩
theorem xjy:zp ["other"] ["other"] [] (yw xfP):=⟨rfl,rfl,rfl,by decide+kernel,rfl,by decide+kernel,by decide+kernel,by decide+kernel⟩
def xlH(P:ai)(w:World)(K:ag)(mg:Str→Option Value)(base:Heap)(a:Adr):Sp:=fun vs H Q E=>∃(F:FM) (B:BA) (s:BdS) (y:Wr) (l:Addr) (at' val:V),vs=[.ref B.bd,.ref l,at',val]∧vp P w K mg base F∧xD a F H B s∧Tbs H∧y.loc B=some (l,at',val)∧xV a F H B (xP F s [y]) (Q .non) E
def xoc(P:ai)(w:World)(K:ag)(mg:Str→Option Value)(base:Heap)(a:Adr):Sp:=fun vs H Q E=>∃(F:FM) (B:BA) (s:BdS) (b:Bool) (i:Nat) (m:Int),vs=[.ref (B.S b).st,.int i,.int m]∧vp P w K mg base F∧xD a F H B s∧Tbs H∧i<(s.notes b).length∧xV a F H B (xP F s [.note b i m]) (Q .non) E
def xmJ(P:ai)(w:World)(K:ag)(mg:Str→Option Value)(base:Heap)(a:Adr):Sp:=fun vs H Q E=>∃(F:FM) (B:BA) (s:BdS) (b:Bool),vs=[.ref (B.S b).st]∧vp P w K mg base F∧xD a F H B s∧Tbs H∧(s.notes b).length=2∧xV a F H B (xP F s [.note b 0 0,.note b 1 0]) (Q .non) E
section
variable {P:ai} {w:World} {K:ag} {mg:Str→Option Value} {base:Heap} {a:Adr}
theorem yu(T:Txt K mg a):xA P w K mg base CX0 1 a.q0A a.uB ["self"] (xmF a):=by
 refine T.q1e.ok jd (fun vs H Q E h=>?_) (fun cdv A outer s H vs Q E hr h=>?_)
 ·obtain⟨F,B,s,rfl,_⟩:=h;rfl
 ·obtain⟨F,B,st,rfl,hB,q⟩:=h;have nd:=jd.nd;refine⟨_,(xk (xr (xJ zC xl (xbL (uG hr) (xw (cv 0) rfl) xv (fun _ _=>rfl))))),?_⟩;walk_at"w";refine⟨B.bd,_,B.dx,_,.ref B.se,rfl,hB.bd,T.q0b,T.q0j,rfl,?_⟩;walk_at"w";refine⟨B.se,.int (bI st.mr),rfl,uv.k (k:=.inr "marker") hB.se,?_⟩;walk_at"w";have e:(1:Int) - bI st.mr=bI (!st.mr):=by cases st.mr<;> rfl
  rw[←e]at q;exact q
theorem xcG(T:Txt K mg a):xA P w K mg base CX0 1 a.q0u a.ub ["self","bank","old"] (xmG a):=by
 refine T.q0Y.ok vZ (fun vs H Q E h=>?_) (fun cdv A outer s H vs Q E hr h=>?_)
 ·obtain⟨F,B,s,b,old,rfl,_⟩:=h;rfl
 ·obtain⟨F,B,st,b,old,rfl,hB,q⟩:=h;have nd:=vZ.nd;refine⟨_,(xf (xI (PW.pt (va (xH ju (xy xU (xw (cv 0) rfl) (cv 1) (fun _ _=>rfl)) xv) (uW (xH zD (cv 2) xl)))) (xk (xr uf)) xt)
  (xk (xr (zP (uw ju (xy xU (xw (cv 0) rfl) (cv 1) (fun _ _=>rfl)) xv) (vF (uw zD (xy xU (xw (cv 0) rfl) (cv 1) (fun _ _=>rfl)) (cv 2))))))),?_⟩
  have atM:atI [V.str (st.mark false),V.str (st.mark true)] (bI b)=some (.str (st.mark b)):=by cases b<;> rfl
  have atL:atI [V.int (st.len false),V.int (st.len true)] (bI b)=some (.int (st.len b)):=by cases b<;> rfl
  walk_at"w";refine⟨B.bd,_,B.dx,_,.ref B.ma,rfl,hB.bd,T.q0b,T.q0g,rfl,?_⟩;walk_at"w";refine⟨B.ma,_,_,_,rfl,rfl,SqL.of hB.ma,atM,?_⟩;walk_at"w";refine⟨fun c=>?_,fun c=>?_⟩
  ·rw[show decide (st.mark b=("open":Str))=true from c,gB,gB]at q;walk_at"w"
   first|exact q|(refine⟨fun _=>?_,by walk_at"no"⟩;walk_at"w";exact q)
  rw[show decide (st.mark b=("open":Str))=false from c,iI]at q;walk_at"w";refine⟨fun c=>?_,fun c=>?_⟩
  ·walk_at"w";rw[show decide (old=0)=true from c,gB]at q;exact q
  ·rw[show decide (old=0)=false from c,iI]at q;walk_at"w";refine⟨B.bd,_,B.dx,_,.ref B.ma,rfl,hB.bd,T.q0b,T.q0g,rfl,?_⟩;walk_at"w";refine⟨B.ma,_,_,_,rfl,rfl,SqL.of hB.ma,atM,?_⟩;walk_at"w";refine⟨fun c2=>?_,fun c2=>?_⟩
   ·rw[show decide (st.mark b=("good":Str))=true from c2,Bool.true_and]at q;walk_at"w";refine⟨B.bd,_,B.dx,_,.ref B.le,rfl,hB.bd,T.q0b,T.q1c,rfl,?_⟩;walk_at"w";refine⟨B.le,_,_,_,rfl,rfl,SqL.of hB.le,atL,?_⟩;walk_at"w";exact q
   ·rw[show decide (st.mark b=("good":Str))=false from c2,Bool.false_and]at q;walk_at"w";have e:decide (st.mark b=aN "good")=false:=c2;exact e▸q
theorem xhp(T:Txt K mg a):xA P w K mg base CX0 1 a.q1J a.xaR ["self"] (xmH a):=by
 refine T.q2z.ok xcZ (fun vs H Q E h=>?_) (fun cdv A outer s H vs Q E hr h=>?_)
 ·obtain⟨F,B,s,rfl,_⟩:=h;rfl
 ·obtain⟨F,B,st,rfl,hB,q⟩:=h;have nd:=xcZ.nd;refine⟨_,(xf (xx (i:=1) nd rfl (ay rfl) (xbL (uG hr) (xw (cv 0) rfl) xv (fun _ _=>rfl)))
  (xf (xx (i:=2) nd rfl (ay rfl) (xbL (uG hr) (xw (cv 0) rfl) xv (fun _ _=>rfl)))
  (xk (xr (xO (xa (cv 1) (xa (ym yQ (by rfl) T.q2I zx (xa (xw (cv 0) rfl) xg)) (xa (ym yQ (by rfl) T.q2I zx (xa (xw (cv 0) rfl) xg)) (xa (cv 2) (xa (xw (cv 0) rfl) xg)))))))))),?_⟩
  walk_at"w";refine⟨B.bd,_,B.dx,_,.ref B.se,rfl,hB.bd,T.q0b,T.q0j,rfl,?_⟩;walk_at"w";refine⟨B.se,.int (bI st.mr),rfl,uv.k (k:=.inr "marker") hB.se,?_⟩;walk_at"w";refine⟨B.bd,_,B.dx,_,.ref B.se,rfl,hB.bd,T.q0b,T.q0j,rfl,?_⟩;walk_at"w";refine⟨B.se,.int st.ct,rfl,uv.k (k:=.inr "counter") hB.se,?_⟩;walk_at"w";refine⟨B.bd,_,B.dx,_,.ref B.ma,rfl,hB.bd,T.q0b,T.q0g,rfl,?_⟩;walk_at"w";refine⟨B.ma,_,rfl,.inl (SqL.of hB.ma),?_⟩;intro m hm;generalize hUm:upd H m _=H1;have sH1:=xc.of_eq hm hUm;have em:=xh hUm;clear hUm;walk_at"w";refine⟨B.bd,_,B.dx,_,.ref B.le,rfl,sH1.at hB.bd,T.q0b,T.q1c,rfl,?_⟩;walk_at"w";refine⟨B.le,_,rfl,.inl (SqL.of (sH1.at hB.le)),?_⟩;intro l hl;generalize hUl:upd H1 l _=H2;have sH2:=xc.of_eq hl hUl;have el:=xh hUl;clear hUl;walk_at"w";refine⟨B.bd,_,B.dx,_,yC st.run,rfl,(sH1.trans sH2).at hB.bd,T.q0b,T.q0m,rfl,?_⟩;walk_at"w";walk_at"ss";intro t ht;generalize hUt:upd H2 t _=H3;have sH3:=xc.of_eq ht hUt;have et:=xh hUt;clear hUt;walk_at"w";exact q t m l H3 (sH1.trans (sH2.trans sH3)) hm (sH1.back hl) (fun z=>by rw[z,hl]at em;cases em) et ((sH2.trans sH3).at em) (sH3.at el)
theorem xgu(xs:List V)(i:Nat):jK xs none (some (i:Int))=xs.take i:=by
 unfold jK;rw[xo8 (by lia),HT.xl6,gi];simp[←List.take_eq_take_min]
theorem xab(T:Txt K mg a):xA P w K mg base CX0 2 a.q1I a.xaQ ["self","bank"] (xmI a):=by
 refine T.q2y.ok xcY (fun vs H Q E h=>?_) (fun cdv A outer s H vs Q E hr h=>?_)
 ·obtain⟨F,B,s,b,rfl,_⟩:=h;rfl
 ·obtain⟨F,B,st,b,rfl,hB,hl0,q⟩:=h;have nd:=xcY.nd;refine⟨_,(xk (xr (jg xbK (xy xM (xT (xy xU (xw (cv 0) rfl) (cv 1) (fun _ _=>rfl)) T.q00 T.q3q (xc0 T) (hr.mono (by decide)) T.xdx .nil xu) xl (fun _ _=>rfl)) xam (xan (xy xU (xw (cv 0) rfl) (cv 1) (fun _ _=>rfl)))))),?_⟩;have atB:atI [V.ref (B.S false).st,V.ref (B.S true).st] (bI b)=some (.ref (B.S b).st):=by cases b<;> rfl
  have atL:atI [V.int (st.len false),V.int (st.len true)] (bI b)=some (.int (st.len b)):=by cases b<;> rfl
  walk_at"w";refine⟨B.bd,_,B.dx,_,.ref B.bl,rfl,hB.bd,T.q0b,T.q2C,rfl,?_⟩;walk_at"w";refine⟨B.bl,_,_,_,rfl,rfl,SqL.of hB.bl,atB,?_⟩;walk_at"w";refine⟨(B.S b).st,(B.S b).dx,_,rfl,(hB.st b).st,rfl,?_⟩;walk_at"w";refine⟨B.S b,_,_,_,_,rfl,hB.st b,fun t c m H1 s1 _ _ _ et ec _=>?_⟩;walk_at"w";refine⟨t,_,_,.ref c,rfl,rfl,SqT.of et,rfl,?_⟩;walk_at"w";refine⟨B.bd,_,B.dx,_,.ref B.le,rfl,s1.at hB.bd,T.q0b,T.q1c,rfl,?_⟩;walk_at"w";refine⟨B.le,_,_,_,rfl,rfl,SqL.of (s1.at hB.le),atL,?_⟩;walk_at"w";refine⟨_,rfl,?_⟩;walk_at"w";refine⟨c,_,rfl,SqL.of ec,?_⟩;rw[show st.len b=((st.len b).toNat:Int)by lia,xgu,←iL];intro y hy;generalize hUy:upd H1 y _=H2;have sH2:=xc.of_eq hy hUy;have ey:=xh hUy;clear hUy;walk_at"w";exact q y H2 (s1.trans sH2) (s1.back hy) ey
theorem xc4(T:Txt K mg a):yO P w K mg base CX0 1 "<lambda>" "Board.change.<locals>.<lambda>" (jk xfO) (.expr (jl xfO)) (yw xfO) ["sign"] xoa:=by
 refine xeD xjx (fun fv vs H Q E h=>?_) (fun _ _ _ _ _ us hl=>match us,hl with|[_],_=>rfl) (fun A outer s H f clos cdv fv vs Q E hr h=>?_)
 ·obtain⟨v,x,rfl,rfl,_⟩:=h;exact⟨rfl,rfl⟩
 ·obtain⟨v,x,rfl,rfl,k⟩:=h;have nd:=xjx.nd;refine⟨_,(cv 1),?_⟩;walk_at"w";exact k
theorem xbI(T:Txt K mg a):yO P w K mg base CX0 1 "<lambda>" "Store.note_down.<locals>.<lambda>" (jk xfP) (.expr (jl xfP)) (yw xfP) ["other"] xob:=by
 refine xeD xjy (fun fv vs H Q E h=>?_) (fun _ _ _ _ _ us hl=>match us,hl with|[_],_=>rfl) (fun A outer s H f clos cdv fv vs Q E hr h=>?_)
 ·obtain⟨v,rfl,rfl,_⟩:=h;exact⟨rfl,rfl⟩
 ·obtain⟨v,rfl,rfl,k⟩:=h;have nd:=xjy.nd;refine⟨_,yh,?_⟩;exact k
theorem ye(T:Txt K mg a):xA P w K mg base (CXN P w) 6 a.q0N a.uL ["self","kept","at","value"] (xlH P w K mg base a):=by
 refine T.uN.okNK ["value"] T.xfA xbf (fun vs H Q E h=>?_) (fun A outer s H vs Q E hr h=>?_)
 ·obtain⟨F,B,s,y,l,at',val,rfl,_⟩:=h;rfl
 ·obtain⟨F,B,st,y,l,at',val,rfl,hF,hB,hT,hy,q⟩:=h;have nd:=xbf.nd;refine⟨_,(yP (x:="value") (i:=3) nd rfl rfl rfl (by kernel_rfl) (xk (xR (yi ⟨rfl,rfl,rfl⟩ (xw (cv 0) rfl) T.q3B T.q2p (xag T) (hr.mono (by decide)) T.xaV .nil (xa (cv 1) (xa (cv 2) (xa (cv 3) (xa (vx (c:=q0C) (P:=yA) (qs:=uk) (fns:=["value"]) rfl T.q3z (q:="Board.change.<locals>.<lambda>") (by kernel_rfl) (.head _) (by kernel_rfl) (by kernel_rfl)) xg)))))))),?_⟩;walk_at"w";intro a1 e1 z1 d1;refine bo z1 ?_;generalize hU1:upd H a1 _=H1;have s1:=xc.of_eq z1 hU1;have c1:=xh hU1;clear hU1;have hB1:=hB.same s1;walk_at"w";refine⟨B.bd,_,B.dx,_,.ref B.p,rfl,hB1.bd,T.q0b,T.q2D,rfl,?_⟩;walk_at"w";refine⟨B.p,B.dp,_,rfl,hB1.pen,rfl,?_⟩;walk_at"w";refine⟨(hT.same s1).2.2.2.1,[("value",val)],rfl,(fun x v m=>?_),fun g H2 hg s2 hc=>?_⟩
  ·simp only[au,eU]at m;obtain⟨rfl,rfl⟩:=m;exact⟨a1,e1,c1⟩
  walk_at"w";have s12:=s1.trans s2;have hB2:=hB.same s12;obtain⟨o,sl,hl,hs,hm,htn,hup⟩:=hB2.slot hy;have kt:∀{H':Hp},Kp (B.p::l::F.M) H2 H'→Kp (BF F B) H H':=fun k=>(Kp.of s12).trans (xm7 k hm);refine⟨F,B.p,B.dp,l,g,at',val,o,sl,st.cnt,st.fl,fun _=>val,rfl,hF,hB2.pen,hB2.c0,hB2.fm,hB2.nM (.inl (by simp)),hB2.nM (.inl hm),⟨_,_,_,_,_,_,_,_,xc4 T,hc,fun s' H' Q' q'=>⟨val,.int s',rfl,rfl,q'⟩⟩,hl,hs,fun hfo H' k' hp' hat' hl'=>?_,fun an hfo d H' k' hp' hat' hl' _ hd=>?_⟩
  ·have:=hup H' st.fl k' hp' hat' hl';rw[xfM hfo]at q;exact q.1 rfl H' (kt k') this
  ·cases an with
   |none=>
    rw[xew hfo]at q;refine q.2 _ rfl d H' (kt k') (hB2.ahead (fun b u e n=>?_) hp' hat') hd
    by_cases hb:b=l
    ·rw[hb]at e⊢;rw[hl]at e;rw[hl'];exact e
    ·exact k' b u e (by simp only[aw,not_or]at n⊢;exact⟨n.1,hb,n.2⟩)
   |some x=>
    rw[xfN hfo,htn]at q;exact q.2 _ rfl d H' (kt k') (hup H' (st.fl+1) k' hp' hat' hl') hd
theorem jJ(T:Txt K mg a):xA P w K mg base (CXN P w) 6 a.q0w a.zq ["self","at","number"] (xoc P w K mg base a):=by
 refine T.zr.okNC T.xdy jD (fun vs H Q E h=>?_) (fun A outer s H vs Q E hr h=>?_)
 ·obtain⟨F,B,s,b,i,m,rfl,_⟩:=h;rfl
 ·obtain⟨F,B,st,b,i,m,rfl,hF,hB,hT,hi,q⟩:=h;have nd:=jD.nd;refine⟨_,(xk (xR (yi ⟨rfl,rfl,rfl⟩ (xw (cv 0) rfl) T.q3B T.q2p (xag T) (hr.mono (by decide)) T.xaV .nil (xa (xw (cv 0) rfl) (xa (cv 1) (xa (cv 2) (xa (vx (c:=q0n) (P:=yk) (qs:=zk) (fns:=[]) rfl T.q28 (q:="Store.note_down.<locals>.<lambda>") (by kernel_rfl) (.head _) (by kernel_rfl) (by kernel_rfl)) xg))))))),?_⟩;have S:=hB.st b;have hpen:H (B.S b).p=some (.ins a.q0i (B.S b).dp (yW st.cnt (.ref F.f))):=S.p;walk_at"w";refine⟨(B.S b).st,_,(B.S b).dx,_,.ref (B.S b).p,rfl,S.st,T.q00,T.q2B,rfl,?_⟩;walk_at"w";refine⟨(B.S b).p,(B.S b).dp,_,rfl,S.p,rfl,?_⟩;walk_at"w";refine⟨(B.S b).st,_,(B.S b).dx,_,.ref (B.S b).na,rfl,S.st,T.q00,T.q1S,rfl,?_⟩;walk_at"w";refine⟨hT.2.2.1,[],rfl,(fun x v m=>nomatch m),fun g H2 hg s2 hc=>?_⟩;walk_at"w";have hB2:=hB.same s2;have S2:=hB2.st b;have hm:(B.S b).na∈BS B:=by cases b<;> simp
  have kt:∀{H':Hp},Kp (B.p::(B.S b).na::F.M) H2 H'→Kp (BF F B) H H':=fun k=>(Kp.of s2).trans (xm7 k hm);rw[(hB.sp b).1];refine⟨F,B.p,B.dp,(B.S b).na,g,.int i,.int m,_,_,st.cnt,st.fl,fun _=>.non,rfl,hF,hB2.pen,hB2.c0,hB2.fm,hB2.nM (.inl (by simp)),hB2.nM (.inl hm),⟨_,_,_,_,_,_,_,_,xbI T,hc,fun s' H' Q' q'=>⟨.int s',rfl,rfl,q'⟩⟩,S2.na,.lst _ (i:Int) (by lia) (by rw[aq];lia),fun hfo H' k' hp' hat' hl'=>?_,fun an hfo d H' k' hp' hat' hl' _ hd=>?_⟩
  ·rw[xfM hfo]at q;exact q.1 rfl H' (kt k') (hB2.noted (v:=some m) k' hp' hat' hl')
  ·cases an with
   |none=>
    rw[xew hfo]at q;refine q.2 _ rfl d H' (kt k') (hB2.ahead (fun c u e n=>?_) hp' hat') hd
    by_cases hb:c=(B.S b).na
    ·rw[hb]at e⊢;rw[S2.na]at e;rw[hl'];exact e
    ·exact k' c u e (by simp only[aw,not_or]at n⊢;exact⟨n.1,hb,n.2⟩)
   |some x=>
    rw[xfN hfo]at q;exact q.2 _ rfl d H' (kt k') (hB2.noted (v:=none) k' hp' hat' hl') hd
theorem xgv(T:Txt K mg a):xA P w K mg base (CXN P w) 7 a.q1y a.jX ["self"] (xmJ P w K mg base a):=by
 refine T.q13.okN xbW (fun vs H Q E h=>?_) (fun cdv A outer s H vs Q E hr h=>?_)
 ·obtain⟨F,B,s,b,rfl,_⟩:=h;rfl
 ·obtain⟨F,B,st,b,rfl,hF,hB,hT,h2,q⟩:=h;have nd:=xbW.nd;refine⟨_,(xf (xR (yi ⟨rfl,rfl,rfl⟩ (cv 0) T.q00 T.q2c (jJ T) (hr.mono (by decide)) T.xac .nil (xa xl (xa xl xg))))
  (xk (xR (yi ⟨rfl,rfl,rfl⟩ (cv 0) T.q00 T.q2c (jJ T) (hr.mono (by decide)) T.xac .nil (xa xl (xa xl xg)))))),?_⟩
  walk_at"w";refine⟨(B.S b).st,(B.S b).dx,_,rfl,(hB.st b).st,rfl,?_⟩;walk_at"w";have q1:=q.step
  by_cases hfo:F.fo st.fl st.cnt=none
  ·refine⟨F,B,st,b,0,0,rfl,hF,hB,hT,by lia,?_⟩;refine⟨fun e H1 k1 hB1=>?_,q1.2⟩;have q2:=q1.1 e H1 k1 hB1 k1;rw[zi hfo,xa4]at hB1;have hT1:=hT.kp k1 hB.muF;walk_at"w";refine⟨(B.S b).st,(B.S b).dx,_,rfl,(hB1.st b).st,rfl,?_⟩;walk_at"w";refine⟨F,B,_,b,1,0,rfl,hF,hB1,hT1,?_,q2⟩;unfold w1;rw[hfo];show 1<(upB st.notes b ((st.notes b).set 0 (some 0)) b).length;rw[show upB st.notes b ((st.notes b).set 0 (some 0)) b=(st.notes b).set 0 (some 0)from if_pos rfl,gO];lia
  ·refine⟨F,B,st,b,0,0,rfl,hF,hB,hT,by lia,?_⟩;refine⟨fun e=>?_,q1.2⟩;rw[yn hfo]at e;cases e
end
theorem vE{F:FM}{s:BdS}{y:Wr}(h:F.fo s.fl s.cnt=none):w1 F s y={y.up s with cnt:=s.cnt+1,fl:=s.fl}:=by unfold w1;rw[h]
theorem xV.chg{a:Adr}{F:FM}{H:Hp}{B:BA}{s:BdS}{y:Wr}{ys:List Wr}{q R:Hp→Prop}{E:XK}(h:xV a F H B (xP F s (y::ys)) q E)
  (c:F.fo s.fl s.cnt=none→∀H1,Kp (BF F B) H H1→xD a F H1 B {y.up s with cnt:=s.cnt+1,fl:=s.fl}→xV a F H1 B (xP F {y.up s with cnt:=s.cnt+1,fl:=s.fl} ys) q E→R H1):xV a F H B (xP F s [y]) R E:=by
 have h1:=h.step
 by_cases hfo:F.fo s.fl s.cnt=none
 ·rw[vE hfo]at h1;refine⟨fun e H1 k1 hB1=>?_,h1.2⟩;have q1:=h1.1 e H1 k1 hB1 k1;rw[zi hfo,xa4,vE hfo]at hB1;exact c hfo H1 k1 hB1 q1
 ·refine⟨fun e=>?_,h1.2⟩;rw[yn hfo]at e;cases e
theorem xV.two{a:Adr}{F:FM}{H:Hp}{B:BA}{s:BdS}{y z:Wr}{ys:List Wr}{q R:Hp→Prop}{E:XK}(h:xV a F H B (xP F s (y::z::ys)) q E)
  (c:∀H1 s1,s1={z.up {y.up s with cnt:=s.cnt+1,fl:=s.fl}with cnt:=s.cnt+1+1,fl:=s.fl}→Kp (BF F B) H H1→xD a F H1 B s1→xV a F H1 B (xP F s1 ys) q E→R H1):xV a F H B (xP F s [y,z]) R E:=by
 by_cases hfo:F.fo s.fl s.cnt=none
 ·rw[zi hfo,vE hfo]at h;rw[zi hfo,vE hfo];exact h.chg fun hfo2 H1 k1 hB1 q1=>c H1 _ rfl k1 hB1 q1
 ·rw[yn hfo]at h;rw[yn hfo];exact⟨(fun e=>by cases e),h.2⟩
theorem xV.kp{a:Adr}{F:FM}{H H1:Hp}{B:BA}{r:BdS×Option Int}{q:Hp→Prop}{E:XK}(h:xV a F H B r q E)(k:Kp (BF F B) H H1):xV a F H1 B r q E:=
 ⟨fun e H2 k2 hB=>h.1 e H2 (k.trans k2) hB,fun c e d H2 k2 hB hd=>h.2 c e d H2 (k.trans k2) hB hd⟩
theorem xV.same{a:Adr}{F:FM}{H H1:Hp}{B:BA}{r:BdS×Option Int}{q:Hp→Prop}{E:XK}(h:xV a F H B r q E)(k:xc H H1):xV a F H1 B r q E:=h.kp (Kp.of k)
theorem xV.done{a:Adr}{F:FM}{H:Hp}{B:BA}{s:BdS}{q:Hp→Prop}{E:XK}(h:xV a F H B (xP F s []) q E)(hB:xD a F H B s):q H:=h.1 rfl H (Kp.of (xc.refl _)) hB
def startB(s:BdS):Bool:=if s.mark (!s.mr)=("trial":Str)∧s.ct≠0 then !s.mr else s.mr
def yL(s:BdS):List Wr:=if s.mark (!s.mr)=("trial":Str)then(if s.ct=0 then[.mark (!s.mr) "bad"]else[.cter (s.ct - 1)])else[]
def zb(b:Option Bool)(r:BdS×Option Int):BdS×Option Int:=match r.2 with
 |none=>({r.1 with run:=b},none)
 |some c=>({r.1 with run:=none},some c)
def xmK(P:ai)(w:World)(K:ag)(mg:Str→Option Value)(base:Heap)(a:Adr):Sp:=fun vs H Q E=>∃(F:FM) (B:BA) (s:BdS),vs=[.ref B.bd]∧vp P w K mg base F∧xD a F H B s∧Tbs H∧xV a F H B (xP F s (yL s)) (Q (.int (bI (startB s)))) E
def xfQ(F:FM)(s:BdS):BdS×Option Int:=zb (some (startB s)) (xP F {s with run:=none} (yL s))
def xit(P:ai)(w:World)(K:ag)(mg:Str→Option Value)(base:Heap)(a:Adr):Sp:=fun vs H Q E=>∃(F:FM) (B:BA) (s:BdS),vs=[.ref B.bd]∧vp P w K mg base F∧xD a F H B s∧Tbs H∧xV a F H B (xfQ F s) (Q (.int (bI (startB s)))) E
def xjz(P:ai)(w:World)(K:ag)(mg:Str→Option Value)(base:Heap)(a:Adr):Sp:=fun vs H Q E=>∃(F:FM) (B:BA) (s:BdS) (b:Bool),vs=[.ref B.bd,.int (bI b)]∧vp P w K mg base F∧xD a F H B s∧Tbs H∧xV a F H B (xP F s [.mark b "good",.mrk b]) (Q .non) E
theorem xod{y:Wr}{s:BdS}:(y.up s).size=s.size∧(y.up s).run=s.run:=by cases y<;> exact⟨rfl,rfl⟩
theorem xoe{y:Wr}{s:BdS}{x:Int}:(y.tn x s).size=s.size∧(y.tn x s).run=s.run:=by cases y<;> exact⟨rfl,rfl⟩
theorem xeV{F:FM}:∀(ys:List Wr) (s:BdS),(xP F s ys).1.size=s.size∧(xP F s ys).1.run=s.run
 |[],_=>⟨rfl,rfl⟩
 |y::ys,s=>by
  have h1:(w1 F s y).size=s.size∧(w1 F s y).run=s.run:=by
   unfold w1
   split
   ·exact xod
   ·exact⟨rfl,rfl⟩
   ·exact xoe
  by_cases e:F.fo s.fl s.cnt=none
  ·rw[zi e];have:=xeV (F:=F) ys (w1 F s y);exact⟨this.1.trans h1.1,this.2.trans h1.2⟩
  ·rw[yn e];exact h1
section
variable {P:ai} {w:World} {K:ag} {mg:Str→Option Value} {base:Heap} {a:Adr}
theorem xcH(T:Txt K mg a):xA P w K mg base (CXN P w) 7 a.q0s a.zZ ["self"] (xmK P w K mg base a):=by
 refine T.q0W.okN vX (fun vs H Q E h=>?_) (fun cdv A outer s H vs Q E hr h=>?_)
 ·obtain⟨F,B,s,rfl,_⟩:=h;rfl
 ·obtain⟨F,B,st,rfl,hF,hB,hT,q⟩:=h;have nd:=vX.nd;refine⟨_,(xf (xx (i:=1) nd rfl (ay rfl) (xbL (uG hr) (xw (cv 0) rfl) xv (fun _ _=>rfl)))
  (xf (xx (i:=2) nd rfl (ay rfl) (xT (cv 0) T.q0b T.q0F (yu T) (hr.mono (by decide)) T.yE .nil xu))
  (xf (xI (xH vH (xy xU (xw (cv 0) rfl) (cv 2) (fun _ _=>rfl)) xv) (xk (xr (cv 1))) xt)
  (xf (xx (i:=3) nd rfl (ay rfl) (xbL (uG hr) (xw (cv 0) rfl) xv (fun _ _=>rfl)))
  (xf (xI (xH zD (cv 3) xl) (xf (xR (yi ⟨rfl,rfl,rfl⟩ (cv 0) T.q0b T.q0l (ye T) (hr.mono (by decide)) T.yf .nil (xa (xw (cv 0) rfl) (xa (cv 2) (xa xv xg)))))
  (xk (xr (cv 1)))) xt)
  (xf (xR (yi ⟨rfl,rfl,rfl⟩ (cv 0) T.q0b T.q0l (ye T) (hr.mono (by decide)) T.yf .nil (xa (xw (cv 0) rfl) (xa xv (xa (xJ zC (cv 3) xl) xg)))))
  (xk (xr (cv 2))))))))),?_⟩
  have atM:atI [V.str (st.mark false),V.str (st.mark true)] (bI (!st.mr))=some (.str (st.mark (!st.mr))):=by cases st.mr<;> rfl
  unfold yL startB at q;walk_at"w";refine⟨B.bd,_,B.dx,_,.ref B.se,rfl,hB.bd,T.q0b,T.q0j,rfl,?_⟩;walk_at"w";refine⟨B.se,.int (bI st.mr),rfl,uv.k (k:=.inr "marker") hB.se,?_⟩;walk_at"w";refine⟨B.bd,B.dx,_,rfl,hB.bd,rfl,?_⟩;walk_at"w";refine⟨F,B,st,rfl,hB,?_⟩;walk_at"w";refine⟨B.bd,_,B.dx,_,.ref B.ma,rfl,hB.bd,T.q0b,T.q0g,rfl,?_⟩;walk_at"w";refine⟨B.ma,_,_,_,rfl,rfl,SqL.of hB.ma,atM,?_⟩;walk_at"w";refine⟨fun c=>?_,fun c=>?_⟩
  ·walk_at"w";have e:¬st.mark (!st.mr)=("trial":Str):=fun e=>by
    rw[show aN "trial"=("trial":Str)from rfl,decide_eq_true e]at c;cases c
   rw[if_neg e,if_neg (fun z=>e z.1)]at q;exact q.done hB
  have e:st.mark (!st.mr)=("trial":Str):=of_decide_eq_true (p:=st.mark (!st.mr)=aN "trial") (by rw[←bh];exact c);rw[if_pos e]at q;walk_at"w";refine⟨B.bd,_,B.dx,_,.ref B.se,rfl,hB.bd,T.q0b,T.q0j,rfl,?_⟩;walk_at"w";refine⟨B.se,.int st.ct,rfl,uv.k (k:=.inr "counter") hB.se,?_⟩;walk_at"w";refine⟨fun c2=>?_,fun c2=>?_⟩
  ·have c2:st.ct=0:=of_decide_eq_true c2;rw[if_pos c2,if_neg (fun z=>z.2 c2)]at q;walk_at"w";refine⟨B.bd,B.dx,_,rfl,hB.bd,rfl,?_⟩;walk_at"w";refine⟨B.bd,_,B.dx,_,.ref B.ma,rfl,hB.bd,T.q0b,T.q0g,rfl,?_⟩;walk_at"w";refine⟨F,B,st,.mark (!st.mr) "bad",B.ma,_,_,rfl,hF,hB,hT,rfl,q.chg fun _ H1 k1 hB1 q1=>?_⟩;walk_at"w";exact q1.done hB1
  ·have c2:¬st.ct=0:=of_decide_eq_false c2;rw[if_neg c2,if_pos ⟨e,c2⟩]at q;walk_at"w";refine⟨B.bd,B.dx,_,rfl,hB.bd,rfl,?_⟩;walk_at"w";refine⟨B.bd,_,B.dx,_,.ref B.se,rfl,hB.bd,T.q0b,T.q0j,rfl,?_⟩;walk_at"w";refine⟨F,B,st,.cter (st.ct - 1),B.se,_,_,rfl,hF,hB,hT,rfl,q.chg fun _ H1 k1 hB1 q1=>?_⟩;walk_at"w";exact q1.done hB1
theorem xkC(B:BA)(n:Int)(r v:V):zT (aN "running") v (bdF B n r)=bdF B n v:=rfl
theorem xfR{F:FM}{H H1:Hp}{B:BA}{o:HO}(k:Kp (BF F B) H H1):Kp (BF F B) H (upd H1 B.bd o):=k.wr (by simp)
theorem xgw(T:Txt K mg a):xA P w K mg base (CXN P w) 8 a.q07 a.vf ["self"] (xit P w K mg base a):=by
 refine T.q14.okN xbX (fun vs H Q E h=>?_) (fun cdv A outer s H vs Q E hr h=>?_)
 ·obtain⟨F,B,s,rfl,_⟩:=h;rfl
 ·obtain⟨F,B,st,rfl,hF,hB,hT,q⟩:=h;have nd:=xbX.nd;refine⟨_,(xf (yg (cv 0) yh rfl)
  (xf (yg (cv 0) (xgW ⟨rfl,rfl,rfl⟩ (cv 0) T.q0b T.q2P (xcH T) (hr.mono (by decide)) T.xc2 .nil) rfl)
  (xk (xr (xw (cv 0) rfl))))),?_⟩
  walk_at"w";refine⟨B.bd,_,B.dx,_,rfl,hB.bd,T.q0b,T.q0m,by walk_at"few",?_⟩;rw[xkC];have hB0:=hB.rune (r:=none);have k0:Kp (BF F B) H (upd H B.bd (.ins a.q0a B.dx (bdF B st.size (yC none)))):=xfR (Kp.of (xc.refl _));have t0:=hT.kp k0 hB.muF;rw[show(V.non)=yC none from rfl];generalize upd H B.bd (.ins a.q0a B.dx (bdF B st.size (yC none)))=H0 at hB0 k0 t0;walk_at"w";refine⟨B.bd,B.dx,_,rfl,hB0.bd,rfl,?_⟩;walk_at"w";unfold xfQ zb at q;have hrn:=xeV (F:=F) (yL st) {st with run:=none};generalize hr9:xP F {st with run:=none} (yL st)=r at q hrn;refine⟨F,B,_,rfl,hF,hB0,t0,?_⟩;rw[show xP F {st with run:=none} (yL {st with run:=none})=r from hr9];obtain⟨s1,rc⟩:=r;cases rc with
  |some c=>
   refine⟨(fun z=>by cases z),fun c' e d H1 k1 hB1 hd=>?_⟩;have:({s1 with run:=none}:BdS)=s1:=by rw[show(none:Option Bool)=s1.run from hrn.2.symm]
   rw[this]at q;exact q.2 c' e d H1 (k0.trans k1) hB1 hd
  |none=>
   refine⟨fun _ H1 k1 hB1=>?_,fun c e=>by cases e⟩;walk_at"w";refine⟨B.bd,_,B.dx,_,rfl,hB1.bd,T.q0b,T.q0m,by walk_at"few",?_⟩;rw[xkC];walk_at"w";refine⟨B.bd,_,B.dx,_,_,rfl,xp,T.q0b,T.q0m,rfl,?_⟩;exact q.1 rfl _ (xfR (k0.trans k1)) (hB1.rune (r:=some (startB st)))
theorem xdO(T:Txt K mg a):xA P w K mg base (CXN P w) 7 a.q0E a.uV ["self","bank"] (xjz P w K mg base a):=by
 refine T.q1u.okN jE (fun vs H Q E h=>?_) (fun cdv A outer s H vs Q E hr h=>?_)
 ·obtain⟨F,B,s,b,rfl,_⟩:=h;rfl
 ·obtain⟨F,B,st,b,rfl,hF,hB,hT,q⟩:=h;have nd:=jE.nd;refine⟨_,(xf (xR (yi ⟨rfl,rfl,rfl⟩ (cv 0) T.q0b T.q0l (ye T) (hr.mono (by decide)) T.yf .nil (xa (xw (cv 0) rfl) (xa (cv 1) (xa xv xg)))))
  (xk (xR (yi ⟨rfl,rfl,rfl⟩ (cv 0) T.q0b T.q0l (ye T) (hr.mono (by decide)) T.yf .nil (xa (xw (cv 0) rfl) (xa xv (xa (cv 1) xg))))))),?_⟩
  walk_at"w";refine⟨B.bd,B.dx,_,rfl,hB.bd,rfl,?_⟩;walk_at"w";refine⟨B.bd,_,B.dx,_,.ref B.ma,rfl,hB.bd,T.q0b,T.q0g,rfl,?_⟩;walk_at"w";refine⟨F,B,st,.mark b "good",B.ma,_,_,rfl,hF,hB,hT,rfl,q.chg fun _ H1 k1 hB1 q1=>?_⟩;have t1:=hT.kp k1 hB.muF;walk_at"w";refine⟨B.bd,B.dx,_,rfl,hB1.bd,rfl,?_⟩;walk_at"w";refine⟨B.bd,_,B.dx,_,.ref B.se,rfl,hB1.bd,T.q0b,T.q0j,rfl,?_⟩;walk_at"w";refine⟨F,B,_,.mrk b,B.se,_,_,rfl,hF,hB1,t1,rfl,q1.chg fun _ H2 k2 hB2 q2=>?_⟩;exact q2.done hB2
end
def zc(s:BdS)(n:Int):Int:=((s.cells (!s.mr)).take n.toNat).sum
def xcI(s:BdS)(n total tries:Int):List Wr:=(if s.mark (!s.mr)=("open":Str)then[]else[.note (!s.mr) 0 0,.note (!s.mr) 1 0,.mark (!s.mr) "open"])++(.leng (!s.mr) n::(if zc s n=total then[.cter tries,.mark (!s.mr) "trial"]else[.mark (!s.mr) "bad"]))
def NZ(ns:List (Option Int)):Prop:=ns.length=2∧∀x∈ns,x=none∨x=some 0
theorem NZ.max{ns:List (Option Int)}(h:NZ ns):xcz ns 0:=by
 have hz:∀x∈ns.filterMap id,x=0:=fun x hx=>by
  obtain⟨y,hy,e⟩:=fU.mp hx;rcases h.2 y hy with rfl|rfl
  ·cases e
  ·exact(aX e).symm
 refine⟨fun _=>rfl,fun e=>⟨?_,fun x hx=>by rw[hz x hx];exact eQ _⟩⟩;cases hl:ns.filterMap id with
 |nil=>exact absurd hl e
 |cons x r=>
  have:=hz x (by rw[hl];simp);rw[this];simp
def xcJ(K:ag)(H:Hp)(p:Addr)(o n:Int)(rs:List xB):Prop:=∃tt us,H p=some (.tup [.int o,.int n,.ref tt])∧H tt=some (.tup (us.map V.ref))∧Paired (GT K H) us rs∧us.length≤58
theorem xa5{L:List Addr}{H H':Hp}{q:Addr}{ys:List V}(k:Kp L H H')(mu:∀x∈L,∃u,H x=some u∧jr u)(e:H q=some (.tup ys)):H' q=some (.tup ys):=k _ _ e fun z=>by
 obtain⟨u,e',m⟩:=mu q z;rw[e]at e';cases e';exact m
theorem xcJ.kp{K:ag}{L:List Addr}{H H':Hp}{p:Addr}{o n:Int}{rs:List xB}(h:xcJ K H p o n rs)(k:Kp L H H')(mu:∀x∈L,∃u,H x=some u∧jr u):xcJ K H' p o n rs:=by
 obtain⟨tt,us,h1,h2,h3,h4⟩:=h;refine⟨tt,us,xa5 k mu h1,xa5 k mu h2,L2.Paired.imp' (fun t r z=>⟨?_,z.2⟩) h3,h4⟩;cases r with
 |take to st c=>exact xa5 k mu z.1
 |put to sg=>obtain⟨u,q1,q2⟩:=z.1;exact⟨u,xa5 k mu q1,xa5 k mu q2⟩
inductive xiu(P:ai)(w:World)(K:ag)(mg:Str→Option Value)(base:Heap)(a:Adr)(vs:List V)(H:Hp)(Q:VK)(E:XK):Prop
 |mk (F:FM) (B:BA) (s:BdS) (p:Addr) (o n:Int) (rs:List xB) (total tries:Int):vs=[.ref B.bd,.ref p,.int total,.int tries]→vp P w K mg base F→xD a F H B s→Tbs H→NZ (s.notes (!s.mr))→xcJ K H p o n rs→xa3 rs=[]→max o n≤(s.cells (!s.mr)).length→0≤n→
  xV a F H B (xP F s (xcI s n total tries)) (Q (.bl (decide (zc s n=total)))) E→xiu P w K mg base a vs H Q E
def xiv(P:ai)(w:World)(K:ag)(mg:Str→Option Value)(base:Heap)(a:Adr):Sp:=xiu P w K mg base a
section
variable {P:ai} {w:World} {K:ag} {mg:Str→Option Value} {base:Heap} {a:Adr}
theorem xcK{α:Type}(f:Bool→α)(b:Bool)(v:α):upB f b v b=v:=if_pos rfl
theorem xb0(T:Txt K mg a):xA P w K mg base (CXN P w) 8 a.q0q a.zL ["self","paper","total","tries"] (xiv P w K mg base a):=by
 refine T.q0Q.okN vC (fun vs H Q E h=>?_) (fun cdv A outer s H vs Q E hr h=>?_)
 ·obtain⟨F,B,s,p,o,n,rs,total,tries,rfl,_⟩:=h;rfl
 ·obtain⟨F,B,st,p,o,n,rs,total,tries,rfl,hF,hB,hT,hnz,hpap,hdue,hmax,hn0,q⟩:=h;have nd:=vC.nd;refine⟨_,(xf (xx (i:=4) nd rfl (ay rfl) (xT (cv 0) T.q0b T.q0F (yu T) (hr.mono (by decide)) T.yE .nil xu))
  (xf (xx (i:=5) nd rfl (ay rfl) (xy xU (xw (cv 0) rfl) (cv 4) (fun _ _=>rfl)))
  (xf (zQ (xI (xH vH (xy xU (xw (cv 0) rfl) (cv 4) (fun _ _=>rfl)) xv) (xf (xR (xgW ⟨rfl,rfl,rfl⟩ (cv 5) T.q00 T.q3S (xgv T) (hr.mono (by decide)) T.xhe .nil))
  (xk (xR (yi ⟨rfl,rfl,rfl⟩ (cv 0) T.q0b T.q0l (ye T) (hr.mono (by decide)) T.yf .nil (xa (xw (cv 0) rfl) (xa (cv 4) (xa xv xg))))))) xt))
  (xf (xR (xG (xmB T) (hr.mono (by decide)) (by rfl) T.xnQ T.q3M.kp T.xnP .nil xu (xa (cv 5) (xa (cv 1) xg))))
  (xf (xR (yi ⟨rfl,rfl,rfl⟩ (cv 0) T.q0b T.q0l (ye T) (hr.mono (by decide)) T.yf .nil (xa (xw (cv 0) rfl) (xa (cv 4) (xa (xy xM (cv 1) xl (fun _ _=>rfl)) xg)))))
  (xf (xI (xH xa8 (xQ (xgR rfl) (by rfl) T.q49 xk8 (xa (xak (cv 0) T.q0b T.q2R (xab T) (hr.mono (by decide)) T.xaX .nil xu (xa (cv 4) xg)) xg)) (cv 2)) (xf (xR (yi ⟨rfl,rfl,rfl⟩ (cv 0) T.q0b T.q0l (ye T) (hr.mono (by decide)) T.yf .nil (xa (xw (cv 0) rfl) (xa (cv 4) (xa xv xg)))))
  (xk (xr uf))) xt)
  (xf (xR (yi ⟨rfl,rfl,rfl⟩ (cv 0) T.q0b T.q0l (ye T) (hr.mono (by decide)) T.yf .nil (xa (xw (cv 0) rfl) (xa xv (xa (cv 3) xg)))))
  (xf (xR (yi ⟨rfl,rfl,rfl⟩ (cv 0) T.q0b T.q0l (ye T) (hr.mono (by decide)) T.yf .nil (xa (xw (cv 0) rfl) (xa (cv 4) (xa xv xg)))))
  (xk (xr uf)))))))))),?_⟩
  unfold xcI at q;unfold zc at q;generalize hb:(!st.mr)=b at*;have atB:atI [V.ref (B.S false).st,V.ref (B.S true).st] (bI b)=some (.ref (B.S b).st):=by cases b<;> rfl
  have atM:atI [V.str (st.mark false),V.str (st.mark true)] (bI b)=some (.str (st.mark b)):=by cases b<;> rfl
  walk_at"w";refine⟨B.bd,B.dx,_,rfl,hB.bd,rfl,?_⟩;walk_at"w";refine⟨F,B,st,rfl,hB,?_⟩;rw[hb];walk_at"w";refine⟨B.bd,_,B.dx,_,.ref B.bl,rfl,hB.bd,T.q0b,T.q2C,rfl,?_⟩;walk_at"w";refine⟨B.bl,_,_,_,rfl,rfl,SqL.of hB.bl,atB,?_⟩;walk_at"w";generalize hys:(Wr.leng b n::(if ((st.cells b).take n.toNat).sum=total then[Wr.cter tries,.mark b "trial"]else[Wr.mark b "bad"]))=ys at q;refine⟨fun σ' G=>σ'=[some (.ref B.bd),some (.ref p),some (.int total),some (.int tries),some (.int (bI b)),some (.ref (B.S b).st)]∧∃s1:BdS,Kp (BF F B) H G∧xD a F G B s1∧s1.cells=st.cells∧NZ (s1.notes b)∧xV a F G B (xP F s1 ys) (Q (.bl (decide (((st.cells b).take n.toNat).sum=total)))) E,?_,?_⟩
  ·walk_at"w";refine⟨B.bd,_,B.dx,_,.ref B.ma,rfl,hB.bd,T.q0b,T.q0g,rfl,?_⟩;walk_at"w";refine⟨B.ma,_,_,_,rfl,rfl,SqL.of hB.ma,atM,?_⟩;walk_at"w";refine⟨fun c=>?_,fun c=>?_⟩
   ·have hno:¬st.mark b=("open":Str):=fun e=>by
     rw[show aN "open"=("open":Str)from rfl,decide_eq_true e]at c;cases c
    rw[if_neg hno]at q;walk_at"w";refine⟨(B.S b).st,(B.S b).dx,_,rfl,(hB.st b).st,rfl,?_⟩;walk_at"w";refine⟨F,B,st,b,rfl,hF,hB,hT,hnz.1,q.two fun H1 s1 es1 k1 hB1 q1=>?_⟩;have hT1:=hT.kp k1 hB.muF;have en:s1.notes b=[some 0,some 0]:=by
     rw[es1];show upB (upB st.notes b ((st.notes b).set 0 (some 0))) b ((upB st.notes b ((st.notes b).set 0 (some 0)) b).set 1 (some 0)) b=_;rw[xcK,xcK]
     match st.notes b,hnz.1 with
     |[x,y],_=>rfl
    have ec:s1.cells=st.cells:=by rw[es1];rfl
    clear es1;walk_at"w";refine⟨B.bd,B.dx,_,rfl,hB1.bd,rfl,?_⟩;walk_at"w";refine⟨B.bd,_,B.dx,_,.ref B.ma,rfl,hB1.bd,T.q0b,T.q0g,rfl,?_⟩;walk_at"w";refine⟨F,B,s1,.mark b "open",B.ma,_,_,rfl,hF,hB1,hT1,rfl,q1.chg fun _ H2 k2 hB2 q2=>?_⟩;exact⟨rfl,_,k1.trans k2,hB2,ec,(by show NZ (s1.notes b);rw[en];exact⟨rfl,fun x hx=>by simp at hx;exact .inr hx⟩),q2⟩
   ·have ho:st.mark b=("open":Str):=of_decide_eq_true (p:=st.mark b=aN "open") (by rw[←bh];exact c);rw[if_pos ho]at q;exact⟨rfl,st,Kp.of (xc.refl _),hB,rfl,hnz,q⟩
  rintro σ' G ⟨rfl,s1,kG,hG,ec,hz,q⟩;have tG:=hT.kp kG hB.muF;have pG:=hpap.kp kG hB.muF;have SG:=hG.st b;rw[ec]at SG;obtain⟨tt,us,p1,p2,p3,p4⟩:=id pG;walk_at"w";refine⟨B.S b,p,tt,o,n,us,rs,_,_,_,_,rfl,SG,p1,p2,p3,p4,hz.1,hz.max,hdue,hmax,fun H3 s3=>?_⟩;have hB3:=hG.same s3;have t3:=tG.same s3;have p13:=s3.at p1;have q3:=q.same s3;rw[←hys]at q3;walk_at"w";refine⟨B.bd,B.dx,_,rfl,hB3.bd,rfl,?_⟩;walk_at"w";refine⟨B.bd,_,B.dx,_,.ref B.le,rfl,hB3.bd,T.q0b,T.q1c,rfl,?_⟩;walk_at"w";refine⟨p,_,_,.int n,rfl,rfl,SqT.of p13,rfl,?_⟩;walk_at"w";refine⟨F,B,s1,.leng b n,B.le,_,_,rfl,hF,hB3,t3,rfl,q3.chg fun _ H4 k4 hB4 q4=>?_⟩;have t4:=t3.kp k4 hB3.muF;walk_at"w";refine⟨B.bd,B.dx,_,rfl,hB4.bd,rfl,?_⟩;walk_at"w";refine⟨F,B,_,b,rfl,hB4,by show 0≤upB s1.len b n b;rw[xcK];exact hn0,fun tx H5 s5 _ et=>?_⟩;have et':H5 tx=some (.lst (((st.cells b).take n.toNat).map V.int)):=by
   have e2:upB s1.len b n b=n:=xcK _ _ _;rw[←ec,←e2];exact et
  have hB5:=hB4.same s5;have t5:=t4.same s5;have q5:=q4.same s5;generalize hsum:(st.cells b).take n.toNat=tx5 at q5 et';walk_at"w";refine⟨tx,_,rfl,SqL.of et',?_⟩;walk_at"w";refine⟨fun c=>?_,fun c=>?_⟩
  ·have ns:¬tx5.sum=total:=fun z=>by
    rw[decide_eq_true z]at c;cases c
   rw[if_neg ns,decide_eq_false ns]at q5;walk_at"w";refine⟨B.bd,B.dx,_,rfl,hB5.bd,rfl,?_⟩;walk_at"w";refine⟨B.bd,_,B.dx,_,.ref B.ma,rfl,hB5.bd,T.q0b,T.q0g,rfl,?_⟩;walk_at"w";refine⟨F,B,_,.mark b "bad",B.ma,_,_,rfl,hF,hB5,t5,rfl,q5.chg fun _ H6 k6 hB6 q6=>?_⟩;walk_at"w";exact q6.done hB6
  ·have ys':tx5.sum=total:=of_decide_eq_true (by rw[←bh];exact c);rw[if_pos ys',decide_eq_true ys']at q5;walk_at"w";refine⟨B.bd,B.dx,_,rfl,hB5.bd,rfl,?_⟩;walk_at"w";refine⟨B.bd,_,B.dx,_,.ref B.se,rfl,hB5.bd,T.q0b,T.q0j,rfl,?_⟩;walk_at"w";refine⟨F,B,_,.cter tries,B.se,_,_,rfl,hF,hB5,t5,rfl,q5.chg fun _ H6 k6 hB6 q6=>?_⟩;have t6:=t5.kp k6 hB5.muF;walk_at"w";refine⟨B.bd,B.dx,_,rfl,hB6.bd,rfl,?_⟩;walk_at"w";refine⟨B.bd,_,B.dx,_,.ref B.ma,rfl,hB6.bd,T.q0b,T.q0g,rfl,?_⟩;walk_at"w";refine⟨F,B,_,.mark b "trial",B.ma,_,_,rfl,hF,hB6,t6,rfl,q6.chg fun _ H7 k7 hB7 q7=>?_⟩;walk_at"w";exact q7.done hB7
end
abbrev xfS:Expr:=xap 0 (xpa ((xN yx).getD 2 (.Pass ⟨0,0,0,0⟩)))
theorem xjA:zp ["paper","self","total","tries"] [] ["paper","self","total","tries"] (yw xfS):=⟨rfl,rfl,rfl,by decide+kernel,rfl,by decide+kernel,by decide+kernel,by decide+kernel⟩
abbrev xfT:Expr:=xap 0 (xd6 ((xN yU).getD 3 (.Pass ⟨0,0,0,0⟩)))
theorem xjB:zp ["other","self"] [] ["other","self"] (yw xfT):=⟨rfl,rfl,rfl,by decide+kernel,rfl,by decide+kernel,by decide+kernel,by decide+kernel⟩
abbrev xfU:Expr:=xap 0 (xd6 ((xN yp).getD 3 (.Pass ⟨0,0,0,0⟩)))
theorem xjC:zp ["other","self"] [] ["other","self"] (yw xfU):=⟨rfl,rfl,rfl,by decide+kernel,rfl,by decide+kernel,by decide+kernel,by decide+kernel⟩
def xof(P:ai)(w:World)(K:ag)(mg:Str→Option Value)(base:Heap)(a:Adr):List (Str×V)→Sp:=fun fv vs H Q E=>∃(bd p:Addr) (total tries:Int),fv=([("paper",.ref p),("self",.ref bd),("total",.int total),("tries",.int tries)]:List (Str×V))∧vs=[]∧xiv P w K mg base a [.ref bd,.ref p,.int total,.int tries] H Q E
def xog(P:ai)(w:World)(K:ag)(mg:Str→Option Value)(base:Heap)(a:Adr):List (Str×V)→Sp:=fun fv vs H Q E=>∃(bd:Addr) (i:Int),fv=([("other",.int i),("self",.ref bd)]:List (Str×V))∧vs=[]∧xjz P w K mg base a [.ref bd,.int i] H Q E
def xoh(P:ai)(w:World)(K:ag)(mg:Str→Option Value)(base:Heap)(a:Adr):List (Str×V)→Sp:=fun fv vs H Q E=>∃(F:FM) (B:BA) (s:BdS) (b:Bool),fv=([("other",.int (bI b)),("self",.ref B.bd)]:List (Str×V))∧vs=[]∧vp P w K mg base F∧xD a F H B s∧Tbs H∧xV a F H B (xP F s [.mrk b]) (Q .non) E
def xm8(a:Adr)(B:BA)(E:XK):XK:=fun cls dx H1=>∃(F:FM) (s:BdS) (d:Addr) (c:Int),cls= .ref a.q0d∧dx=some d∧H1 d=some (.xd [("count",.int c)])∧xD a F H1 B s∧∀d' H2,Kp (BF F B) H1 H2→xD a F H2 B {s with run:=none}→H2 d'=some (.xd [("count",.int c)])→E (.ref a.q0d) (some d') H2
def xpu(P:ai)(w:World)(K:ag)(mg:Str→Option Value)(base:Heap)(a:Adr):Sp:=fun vs H Q E=>∃(B:BA) (f:Addr),vs=[.ref B.bd,.ref f]∧∀E':XK,(∀cls dx H1,xm8 a B E cls dx H1→E' cls dx H1)→xpk P w K mg base 9 H f [] Q E'
def xoi(a:Adr):Sp:=fun vs H Q E=>∃(F:FM) (B:BA) (s:BdS),vs=[.ref B.bd]∧xD a F H B s∧(s.run≠none→Q .non H)∧(s.run=none→∀H',xc H H'→E (.ref a.q1m) none H')
theorem xV.rof{a:Adr}{F:FM}{H:Hp}{B:BA}{r:BdS×Option Int}{b:Option Bool}{q:Hp→Prop}{E:XK}(h:xV a F H B (zb b r) q E):xV a F H B r (fun H1=>∀H2,r.2=none→Kp (BF F B) H H2→xD a F H2 B {r.1 with run:=b}→q H2) (xm8 a B E):=by
 obtain⟨s1,rc⟩:=r;cases rc with
 |none=>exact⟨fun _ H1 k1 hB1 H2 _ k2 hB2=>h.1 rfl H2 k2 hB2,fun c e=>by cases e⟩
 |some c0=>
  refine⟨(fun e=>by cases e),fun c e d H1 k1 hB1 hd=>?_⟩;cases e;exact⟨F,s1,d,c0,rfl,rfl,hd,hB1,fun d' H2 k2 hB2 hd2=>h.2 c0 rfl d' H2 (k1.trans k2) hB2 hd2⟩
theorem xV.imp{a:Adr}{F:FM}{H:Hp}{B:BA}{r:BdS×Option Int}{q q':Hp→Prop}{E E':XK}(h:xV a F H B r q E)(hq:∀H1,xD a F H1 B r.1→Kp (BF F B) H H1→r.2=none→q H1→q' H1)(hE:∀cls dx H1,E cls dx H1→E' cls dx H1):xV a F H B r q' E':=
 ⟨fun e H1 k1 hB=>hq H1 hB k1 e (h.1 e H1 k1 hB),fun c e d H1 k1 hB hd=>hE _ _ _ (h.2 c e d H1 k1 hB hd)⟩
section
variable {P:ai} {w:World} {K:ag} {mg:Str→Option Value} {base:Heap} {a:Adr}
theorem xoj{X:Cx}{K:ag}{o value:Expr}{f:Str}{pos pos':Pos}{ta tv:TE}(e:X.K=K)(ha:PE X o ta)(hv:PE X value tv)(hs:eE value (some (.Attribute o f pos')) pos.line X.env=pure false):PS X (.Assign [.Attribute o f pos'] value pos) (xoQ K ta tv f):=e▸yg ha hv hs
theorem yO.mono{P:ai}{w:World}{K:ag}{mg:Str→Option Value}{base:Heap}{CX:CXT}{j k:Nat}{nm qual:Str}{params:bX}{body:dk}{scope:Scope}{ps:List Str}{sp:List (Str×V)→Sp}(F:yO P w K mg base CX j nm qual params body scope ps sp)(h:j≤k):yO P w K mg base CX k nm qual params body scope ps sp:=
 ⟨F.len,fun A outer s H f fv us vs Q E hr=>F.run A outer s H f fv us vs Q E (hr.mono h)⟩
theorem xok(T:Txt K mg a):yO P w K mg base (CXN P w) 9 "<lambda>" "Board.update.<locals>.<lambda>" (jk xfS) (.expr (jl xfS)) (yw xfS) [] (xof P w K mg base a):=by
 refine xdg xjA (fun fv vs H Q E h=>?_) (fun _ _ _ _ _ us hl=>match us,hl with|[],_=>rfl) (fun A outer s H f clos cdv fv vs Q E hr h=>?_)
 ·obtain⟨bd,p,total,tries,rfl,rfl,_⟩:=h;exact⟨rfl,rfl⟩
 ·obtain⟨bd,p,total,tries,rfl,rfl,h⟩:=h;have nd:=xjA.nd;refine⟨_,(yi ⟨rfl,rfl,rfl⟩ (cv 1) T.q0b T.q2F (xb0 T) (hr.mono (by decide)) T.xcv .nil (xa (cv 0) (xa (cv 2) (xa (cv 3) xg)))),?_⟩;walk_at"w";have h0:=h;obtain⟨F,B,s,p',o,n,rs,t',r',e,hF,hB,_⟩:=h;have eb:bd=B.bd:=by injection e with e _;injection e
  refine⟨bd,B.dx,_,rfl,by rw[eb];exact hB.bd,rfl,?_⟩;exact h0
theorem xol(T:Txt K mg a):yO P w K mg base (CXN P w) 8 "<lambda>" "Board.fine.<locals>.<lambda>" (jk xfT) (.expr (jl xfT)) (yw xfT) [] (xog P w K mg base a):=by
 refine xdg xjB (fun fv vs H Q E h=>?_) (fun _ _ _ _ _ us hl=>match us,hl with|[],_=>rfl) (fun A outer s H f clos cdv fv vs Q E hr h=>?_)
 ·obtain⟨bd,i,rfl,rfl,_⟩:=h;exact⟨rfl,rfl⟩
 ·obtain⟨bd,i,rfl,rfl,h⟩:=h;have nd:=xjB.nd;refine⟨_,(yi ⟨rfl,rfl,rfl⟩ (cv 1) T.q0b T.q3e (xdO T) (hr.mono (by decide)) T.xeb .nil (xa (cv 0) xg)),?_⟩;walk_at"w";have h0:=h;obtain⟨F,B,s,b,e,hF,hB,_⟩:=h;have eb:bd=B.bd:=by injection e with e _;injection e
  refine⟨bd,B.dx,_,rfl,by rw[eb];exact hB.bd,rfl,?_⟩;exact h0
theorem xom(T:Txt K mg a):yO P w K mg base (CXN P w) 7 "<lambda>" "Board.go_back.<locals>.<lambda>" (jk xfU) (.expr (jl xfU)) (yw xfU) [] (xoh P w K mg base a):=by
 refine xdg xjC (fun fv vs H Q E h=>?_) (fun _ _ _ _ _ us hl=>match us,hl with|[],_=>rfl) (fun A outer s H f clos cdv fv vs Q E hr h=>?_)
 ·obtain⟨F,B,s,b,rfl,rfl,_⟩:=h;exact⟨rfl,rfl⟩
 ·obtain⟨F,B,st,b,rfl,rfl,hF,hB,hT,q⟩:=h;have nd:=xjC.nd;refine⟨_,(yi ⟨rfl,rfl,rfl⟩ (cv 1) T.q0b T.q0l (ye T) (hr.mono (by decide)) T.yf .nil (xa (xw (cv 1) rfl) (xa xv (xa (cv 0) xg)))),?_⟩;walk_at"w";refine⟨B.bd,B.dx,_,rfl,hB.bd,rfl,?_⟩;walk_at"w";refine⟨B.bd,_,B.dx,_,.ref B.se,rfl,hB.bd,T.q0b,T.q0j,rfl,?_⟩;walk_at"w";exact⟨F,B,_,.mrk b,B.se,_,_,rfl,hF,hB,hT,rfl,q⟩
theorem zN(T:Txt K mg a):xA P w K mg base (CXE P w) 10 a.q0v a.uc ["self","deed"] (xpu P w K mg base a):=by
 refine T.q0Z.okX ja (fun vs H Q E h=>?_) (fun cdv A outer s H vs Q E hr h=>?_)
 ·obtain⟨B,f,rfl,_⟩:=h;rfl
 ·obtain⟨B,f,rfl,h⟩:=h;have nd:=ja.nd;refine⟨_,(xk (xhU (i:=2) ⟨rfl,rfl,rfl⟩ T.q4j (by rfl) T.xcw T.q3b (xfH T) (hr.mono (by decide)) T.xcM (by rfl) T.xcw nd rfl rfl (fun _ _=>(xk (xr (xkh (P:=P) (w:=w) (K:=K) (mg:=mg) (base:=base) (k:=9) 1 ⟨rfl,rfl,rfl⟩ (hr.mono (by decide)) rfl rfl rfl rfl rfl)))) (fun _ _ _ _ ep=>(xoj (K:=K) rfl (cv 0) yh rfl)) (fun _ _ _ _ ep=>(xa (xjp (K:=K) rfl ep (by exact fun _ z=>aO _ z) (cv 2) rfl) xg)))),?_⟩;walk_at"w";refine⟨f,rfl,?_⟩;refine h _ fun cls dx H1 hf=>?_;obtain⟨F,s1,d,c,rfl,rfl,hd,hB1,k⟩:=hf;walk_at"w";refine⟨a.q0d,rfl,T.q1d,fun ae hae=>?_⟩;walk_at"w";refine⟨B.bd,_,B.dx,_,rfl,hB1.bd,T.q0b,T.q0m,by walk_at"few",?_⟩;rw[xkC];have nd9:d≠B.bd:=fun z=>by rw[z,hB1.bd]at hd;cases hd
  have hd2:upd H1 B.bd (.ins a.q0a B.dx (bdF B s1.size .non)) d=some (.xd [("count",.int c)]):=by rw[xm nd9];exact hd
  have hB2:=hB1.rune (r:=none);have k2:Kp (BF F B) H1 (upd H1 B.bd (.ins a.q0a B.dx (bdF B s1.size (yC none)))):=xfR (Kp.of (xc.refl _));walk_at"w";refine⟨_,d,_,.int c,rfl,rfl,rfl,hd2,T.q3c,T.jA,T.q0H,rfl,?_⟩;walk_at"w";refine⟨.int c,rfl,fun d' hd'=>?_⟩;exact k d' _ (k2.trans (Kp.of (xc.new hd'))) (hB2.same (xc.new hd')) xp
theorem zO(T:Txt K mg a):xA P w K mg base (CXE P w) 1 a.q0t a.ua ["self"] (xoi a):=by
 refine T.q0X.okX vY (fun vs H Q E h=>?_) (fun cdv A outer s H vs Q E hr h=>?_)
 ·obtain⟨F,B,s,rfl,_⟩:=h;rfl
 ·obtain⟨F,B,st,rfl,hB,q1,q2⟩:=h;have nd:=vY.nd;refine⟨_,(xk (xI (vJ (xw (cv 0) rfl)) (xk (xay ⟨rfl,rfl,rfl⟩ rfl T.q5c (by rfl) T.xpr (xa xv xg))) xt)),?_⟩;walk_at"w";refine⟨B.bd,_,B.dx,_,yC st.run,rfl,hB.bd,T.q0b,T.q0m,rfl,?_⟩;walk_at"w";cases hr0:st.run with
  |none=>
   refine⟨fun _=>?_,by walk_at"no"⟩;walk_at"w";exact⟨by decide,q2 hr0 _ (xc.refl _)⟩
  |some b=>
   refine⟨by walk_at"no",fun _=>?_⟩;exact q1 (by rw[hr0];simp)
end
structure PJ(K:ag)(H:Hp)(p:Addr)(o n:Int)(rs:List xB):Prop where
 at':xcF K H p o n rs
 ho:0≤o∧o≤300
 hn:0≤n∧n≤300
 few:rs.length≤300
 ok:∀r∈rs,r.ok∧Fit o n r
 tw:jI rs=none
def jF(rs:List xB)(n:Int):Option (List V):=match uZ rs n.toNat with
 |some c=>some [.str "lacks",.int c]
 |none=>match xcE rs with
  |some (k,c)=>some [.str "late",.int k,.int c]
  |none=>none
theorem xon{H:Hp}{Q:VK}{rs:List xB}{n:Int}(h1:jF rs n=none→∀H',xc H H'→Q .non H')(h2:∀xs,jF rs n=some xs→∀t H',xc H H'→H' t=some (.tup xs)→Q (.ref t) H'):xil H Q rs n:=by
 unfold jF at h1 h2;unfold xil;cases hl:uZ rs n.toNat with
 |some c=>
  rw[hl]at h2;exact fun t H' s e=>h2 _ rfl t H' s e
 |none=>
  rw[hl]at h1 h2;cases ht:xcE rs with
  |none=>rw[ht]at h1;exact fun H' s=>h1 rfl H' s
  |some kc=>rw[ht]at h2;exact fun t H' s e=>h2 _ rfl t H' s e
def yM(s:BdS)(o:Int):Bool:=decide (s.mark (!s.mr)=("open":Str))||decide (o=0)||(decide (s.mark (!s.mr)=("good":Str))&&decide (s.len (!s.mr)=o))
def xlI(K:ag)(a:Adr):Sp:=fun vs H Q E=>∃(F:FM) (B:BA) (s:BdS) (p:Addr) (o n:Int) (rs:List xB),vs=[.ref B.bd,.ref p]∧xD a F H B s∧PJ K H p o n rs∧jF rs n=none∧max o n≤s.size∧
 (s.mark (!s.mr)=("trial":Str)→∀H',xc H H'→E (.ref a.q0J) none H')∧
 (s.mark (!s.mr)≠("trial":Str)→(yM s o=false→∀H',xc H H'→E (.ref a.q1A) none H')∧(yM s o=true→∀H',xc H H'→Q .non H'))
inductive xg4(P:ai)(w:World)(K:ag)(mg:Str→Option Value)(base:Heap)(a:Adr)(vs:List V)(H:Hp)(Q:VK)(E:XK):Prop
 |mk (F:FM) (B:BA) (s:BdS) (p:Addr) (o n:Int) (rs:List xB) (total tries:Int):(vs=[.ref B.bd,.ref p,.int total,.int tries])→vp P w K mg base F→(xD a F H B s)→(Tbs H)→(PJ K H p o n rs)→jF rs n=none→max o n≤s.size→NZ (s.notes (!s.mr))→xcJ K H p o n rs→xa3 rs=[]→max o n≤(s.cells (!s.mr)).length→
  (s.run=none→∀H',xc H H'→E (.ref a.q1m) none H')→(s.run≠none→s.mark (!s.mr)=("trial":Str)→∀H',xc H H'→E (.ref a.q0J) none H')→
  (s.run≠none→s.mark (!s.mr)≠("trial":Str)→yM s o=false→∀H',xc H H'→E (.ref a.q1A) none H')→
  (s.run≠none→s.mark (!s.mr)≠("trial":Str)→yM s o=true→xV a F H B (zb s.run (xP F s (xcI s n total tries))) (Q (.bl (decide (zc s n=total)))) E)→xg4 P w K mg base a vs H Q E
def xlJ(P:ai)(w:World)(K:ag)(mg:Str→Option Value)(base:Heap)(a:Adr):Sp:=xg4 P w K mg base a
def xoo(P:ai)(w:World)(K:ag)(mg:Str→Option Value)(base:Heap)(a:Adr):Sp:=fun vs H Q E=>∃(F:FM) (B:BA) (s:BdS),vs=[.ref B.bd]∧vp P w K mg base F∧xD a F H B s∧Tbs H∧(s.run=none→∀H',xc H H'→E (.ref a.q1m) none H')∧
 (s.run≠none→¬(s.run=some (!s.mr)∧s.mark (!s.mr)=("trial":Str))→∀H',xc H H'→E (.ref a.q0U) none H')∧
 (s.run=some (!s.mr)→s.mark (!s.mr)=("trial":Str)→xV a F H B (zb s.run (xP F s [.mark (!s.mr) "good",.mrk (!s.mr)])) (Q .non) E)
def xlK(P:ai)(w:World)(K:ag)(mg:Str→Option Value)(base:Heap)(a:Adr):Sp:=fun vs H Q E=>∃(F:FM) (B:BA) (s:BdS),vs=[.ref B.bd]∧vp P w K mg base F∧xD a F H B s∧Tbs H∧(s.run=none→∀H',xc H H'→E (.ref a.q1m) none H')∧
 (s.run≠none→s.mark (!s.mr)≠("good":Str)→∀H',xc H H'→E (.ref a.q0z) none H')∧
 (s.run≠none→s.mark (!s.mr)=("good":Str)→xV a F H B (zb none (xP F s [.mrk (!s.mr)])) (Q .non) E)
theorem xg5{F:FM}{s:BdS}{ys:List Wr}:({(xP F s ys).1 with run:=s.run}:BdS)=(xP F s ys).1:=by
 rw[←(xeV (F:=F) ys s).2]
section
variable {P:ai} {w:World} {K:ag} {mg:Str→Option Value} {base:Heap} {a:Adr}
theorem xb1(T:Txt K mg a):xA P w K mg base (CXE P w) 9 a.q0p a.zK ["self","paper"] (xlI K a):=by
 refine T.q0P.okX vB (fun vs H Q E h=>?_) (fun cdv A outer s H vs Q E hr h=>?_)
 ·obtain⟨F,B,s,p,o,n,rs,rfl,_⟩:=h;rfl
 ·obtain⟨F,B,st,p,o,n,rs,rfl,hB,hJ,hj,hmax,q1,q2⟩:=h;have nd:=vB.nd;refine⟨_,(xf (xx (i:=2) nd rfl (ay rfl) (xT (cv 0) T.q0b T.q0F (yu T) (hr.mono (by decide)) T.yE .nil xu))
  (xf (xI (xH ju (xy xU (xw (cv 0) rfl) (cv 2) (fun _ _=>rfl)) xv) (xk (xay ⟨rfl,rfl,rfl⟩ rfl T.q4v (by rfl) T.xlt (xa xv xg))) xt)
  (xf (xx (i:=3) nd rfl (ay rfl) (xG (xmE T) (hr.mono (by decide)) (by rfl) T.xnS T.q3N.kp T.xnR .nil xu (xa (cv 1) xg)))
  (xf (xI (xdY (cv 3)) (xk xao) xt)
  (xf (xI (xH xc9 (xQ (xhL rfl) (by rfl) T.q4w xfe (xa (xy xM (cv 1) xl (fun _ _=>rfl)) (xa (xy xM (cv 1) xl (fun _ _=>rfl)) xg))) (xw (cv 0) rfl)) (xk xao) xt)
  (xk (xI (xc5 (zw (xak (cv 0) T.q0b T.q2Q (xcG T) (hr.mono (by decide)) T.xc3 .nil xu (xa (cv 2) (xa (xy xM (cv 1) xl (fun _ _=>rfl)) xg))))) (xk (xay ⟨rfl,rfl,rfl⟩ rfl T.q4O (by rfl) T.xn2 (xa xv xg))) xt))))))),?_⟩
  have atM:atI [V.str (st.mark false),V.str (st.mark true)] (bI (!st.mr))=some (.str (st.mark (!st.mr))):=by cases st.mr<;> rfl
  walk_at"w";refine⟨B.bd,B.dx,_,rfl,hB.bd,rfl,?_⟩;walk_at"w";refine⟨F,B,st,rfl,hB,?_⟩;walk_at"w";refine⟨B.bd,_,B.dx,_,.ref B.ma,rfl,hB.bd,T.q0b,T.q0g,rfl,?_⟩;walk_at"w";refine⟨B.ma,_,_,_,rfl,rfl,SqL.of hB.ma,atM,?_⟩;walk_at"w";refine⟨fun c=>?_,fun c=>?_⟩
  ·walk_at"w";exact⟨by decide,q1 (of_decide_eq_true c) H (xc.refl _)⟩
  obtain⟨q4,q5⟩:=q2 (of_decide_eq_false c);walk_at"w";refine⟨p,o,n,rs,rfl,hJ.at',hJ.ho,hJ.hn,hJ.few,hJ.ok,hJ.tw,xon (fun _ H1 s1=>?_) (fun xs hx=>by rw[hj]at hx;cases hx)⟩;walk_at"w";refine⟨by walk_at"no",fun _=>?_⟩;obtain⟨tt,us,hp,_⟩:=hJ.at'.same s1;have hB1:=hB.same s1;walk_at"w";refine⟨p,_,_,.int o,rfl,rfl,SqT.of hp,rfl,?_⟩;walk_at"w";refine⟨p,_,_,.int n,rfl,rfl,SqT.of hp,rfl,?_⟩;walk_at"w";refine⟨B.bd,_,B.dx,_,.int st.size,rfl,hB1.bd,T.q0b,T.q3p,rfl,?_⟩;walk_at"w";refine⟨fun c=>absurd (of_decide_eq_true c) (by show¬st.size<max o n;lia),fun c=>?_⟩;walk_at"w";refine⟨B.bd,B.dx,_,rfl,hB1.bd,rfl,?_⟩;walk_at"w";refine⟨p,_,_,.int o,rfl,rfl,SqT.of hp,rfl,?_⟩;walk_at"w";refine⟨F,B,st,(!st.mr),o,rfl,hB1,?_⟩;unfold yM at q4 q5;generalize (decide (st.mark (!st.mr)=("open":Str))||decide (o=0)||(decide (st.mark (!st.mr)=("good":Str))&&decide (st.len (!st.mr)=o)))=bb at q4 q5;cases bb with
  |true=>
   walk_at"w";refine⟨by walk_at"no",fun _=>?_⟩;exact q5 rfl H1 s1
  |false=>
   walk_at"w";refine⟨fun _=>?_,by walk_at"no"⟩;walk_at"w";exact⟨by decide,q4 rfl H1 s1⟩
theorem xfV(T:Txt K mg a):xA P w K mg base (CXE P w) 11 a.q0M a.uK ["self","paper","total","tries"] (xlJ P w K mg base a):=by
 refine T.uM.okXK ["paper","self","total","tries"] T.xfy xbe (fun vs H Q E h=>?_) (fun A outer s H vs Q E hr h=>?_)
 ·obtain⟨F,B,s,p,o,n,rs,total,tries,rfl,_⟩:=h;rfl
 ·obtain⟨F,B,st,p,o,n,rs,total,tries,rfl,hF,hB,hT,hJ,hj,hmx,hnz,pg,hdue,hmax,q1,q2,q4,q5⟩:=h;have nd:=xbe.nd;refine⟨_,(yP (x:="paper") (i:=1) nd rfl rfl rfl (by kernel_rfl) (yP (x:="self") (i:=0) nd rfl rfl rfl (by kernel_rfl) (yP (x:="total") (i:=2) nd rfl rfl rfl (by kernel_rfl) (yP (x:="tries") (i:=3) nd rfl rfl rfl (by kernel_rfl) (xf (xR (vz ⟨rfl,rfl,rfl⟩ (cv 0) T.q0b T.q1q (zO T) (hr.mono (by decide)) T.ud .nil))
  (xf (xR (xaz ⟨rfl,rfl,rfl⟩ (cv 0) T.q0b T.q2G (xb1 T) (hr.mono (by decide)) T.xcu .nil (xa (cv 1) xg)))
  (xk (xr (xaz ⟨rfl,rfl,rfl⟩ (cv 0) T.q0b T.q1r (zN T) (hr.mono (by decide)) T.ue .nil (xa (vx (c:=q0B) (P:=yz) (qs:=uj) (fns:=["paper","self","total","tries"]) rfl T.q3y (q:="Board.update.<locals>.<lambda>") (by kernel_rfl) (.head _) (by kernel_rfl) (by kernel_rfl)) xg)))))))))),?_⟩
  walk_at"w";intro a1 e1 z1 d1;refine bo z1 ?_;generalize hU1:upd H a1 _=H1;have s1:=xc.of_eq z1 hU1;have c1:=xh hU1;walk_at"w";intro a2 e2 z2 d2;have n12:a1≠a2:=d2 _ _ e1 (by decide);have y2:H1 a2=none:=by rw[←hU1,xm (ak n12)];exact z2
  refine bo y2 ?_;generalize hU2:upd H1 a2 _=H2;have s2:=xc.of_eq y2 hU2;have c2:=xh hU2;walk_at"w";intro a3 e3 z3 d3;have n13:a1≠a3:=d3 _ _ e1 (by decide);have n23:a2≠a3:=d3 _ _ e2 (by decide);have y3:H2 a3=none:=by rw[←hU2,xm (ak n23),←hU1,xm (ak n13)];exact z3
  refine bo y3 ?_;generalize hU3:upd H2 a3 _=H3;have s3:=xc.of_eq y3 hU3;have c3:=xh hU3;walk_at"w";intro a4 e4 z4 d4;have n14:a1≠a4:=d4 _ _ e1 (by decide);have n24:a2≠a4:=d4 _ _ e2 (by decide);have n34:a3≠a4:=d4 _ _ e3 (by decide);have y4:H3 a4=none:=by rw[←hU3,xm (ak n34),←hU2,xm (ak n24),←hU1,xm (ak n14)];exact z4
  refine bo y4 ?_;generalize hU4:upd H3 a4 _=H4;have s4:=xc.of_eq y4 hU4;have c4:=xh hU4;clear hU1 hU2 hU3 hU4;have s04:=s1.trans (s2.trans (s3.trans s4));have hB4:=hB.same s04;have hJ4:PJ K H4 p o n rs:=⟨hJ.at'.same s04,hJ.ho,hJ.hn,hJ.few,hJ.ok,hJ.tw⟩;walk_at"w";refine⟨B.bd,B.dx,_,rfl,hB4.bd,rfl,?_⟩;walk_at"w";refine⟨F,B,st,rfl,hB4,fun hrun=>?_,fun hrun H' s'=>?_⟩
  rotate_left
  ·exact q1 hrun H' (s04.trans s')
  walk_at"w";refine⟨B.bd,B.dx,_,rfl,hB4.bd,rfl,?_⟩;walk_at"w";refine⟨F,B,st,p,o,n,rs,rfl,hB4,hJ4,hj,hmx,fun ht H' s'=>q2 hrun ht H' (s04.trans s'),fun ht=>⟨fun hf H' s'=>q4 hrun ht hf H' (s04.trans s'),fun hf H5 s5=>?_⟩⟩;have q:=q5 hrun ht hf;have s05:=s04.trans s5;have s25:=s3.trans (s4.trans s5);walk_at"w";refine⟨B.bd,B.dx,_,rfl,s5.at hB4.bd,rfl,?_⟩;walk_at"w";refine⟨(hT.same s05).2.2.2.2.1,[("paper",.ref p),("self",.ref B.bd),("total",.int total),("tries",.int tries)],rfl,(fun x v m=>?_),fun g H6 hg s6 hc=>?_⟩
  ·simp only[aw,eU,bg,or_false]at m;rcases m with⟨rfl,rfl⟩|⟨rfl,rfl⟩|⟨rfl,rfl⟩|⟨rfl,rfl⟩
   ·exact⟨a1,e1,(s2.trans s25).at c1⟩
   ·exact⟨a2,e2,s25.at c2⟩
   ·exact⟨a3,e3,(s4.trans s5).at c3⟩
   ·exact⟨a4,e4,s5.at c4⟩
  walk_at"w";have s06:=s05.trans s6;have hpg:xcJ K H6 p o n rs:=pg.kp (L:=[]) (Kp.of s06) (fun _ z=>nomatch z);refine⟨B,g,rfl,fun E' hE=>⟨_,_,_,_,_,_,_,_,xok T,hc,B.bd,p,total,tries,rfl,rfl,F,B,st,p,o,n,rs,total,tries,rfl,hF,hB.same s06,hT.same s06,hnz,hpg,hdue,hmax,hJ.hn.1,?_⟩⟩;have q9:=(q.same s06).rof;rw[xg5]at q9;exact q9.imp (fun H1 hB1 k1 e z=>z H1 e k1 hB1) hE
theorem xhq(T:Txt K mg a):xA P w K mg base (CXE P w) 11 a.q1l a.vV ["self"] (xoo P w K mg base a):=by
 refine T.vW.okXK ["other","self"] T.xhg xcX (fun vs H Q E h=>?_) (fun A outer s H vs Q E hr h=>?_)
 ·obtain⟨F,B,s,rfl,_⟩:=h;rfl
 ·obtain⟨F,B,st,rfl,hF,hB,hT,q1,q2,q3⟩:=h;have nd:=xcX.nd;refine⟨_,(yP (x:="other") (i:=1) nd rfl rfl rfl (by kernel_rfl) (yP (x:="self") (i:=0) nd rfl rfl rfl (by kernel_rfl) (xf (xR (vz ⟨rfl,rfl,rfl⟩ (cv 0) T.q0b T.q1q (zO T) (hr.mono (by decide)) T.ud .nil))
  (xf (xf5 (i:=1) nd rfl rfl rfl (by kernel_rfl) (xT (cv 0) T.q0b T.q0F (yu T) (hr.mono (by decide)) T.yE .nil xu))
  (xf (xI (PW.pt (va (xH xa8 (xw (cv 0) rfl) (cv 1)) (uW (xH vH (xy xU (xw (cv 0) rfl) (cv 1) (fun _ _=>rfl)) xv)))) (xk (xay ⟨rfl,rfl,rfl⟩ rfl T.q4u (by rfl) T.xls (xa xv xg))) xt)
  (xk (xR (xaz ⟨rfl,rfl,rfl⟩ (cv 0) T.q0b T.q1r (zN T) (hr.mono (by decide)) T.ue .nil (xa (vx (c:=q01) (P:=yV) (qs:=vd) (fns:=["other","self"]) rfl T.q32 (q:="Board.fine.<locals>.<lambda>") (by kernel_rfl) (.head _) (by kernel_rfl) (by kernel_rfl)) xg))))))))),?_⟩
  have atM:atI [V.str (st.mark false),V.str (st.mark true)] (bI (!st.mr))=some (.str (st.mark (!st.mr))):=by cases st.mr<;> rfl
  walk_at"w";intro a1 e1 z1 d1;refine bo z1 ?_;generalize hU1:upd H a1 _=H1;have s1:=xc.of_eq z1 hU1;have c1:=xh hU1;walk_at"w";intro a2 e2 z2 d2;have n12:a1≠a2:=d2 _ _ e1 (by decide);have y2:H1 a2=none:=by rw[←hU1,xm (ak n12)];exact z2
  refine bo y2 ?_;generalize hU2:upd H1 a2 _=H2;have s2:=xc.of_eq y2 hU2;have c2:=xh hU2;clear hU1 hU2;have s02:=s1.trans s2;have hB2:=hB.same s02;walk_at"w";refine⟨B.bd,B.dx,_,rfl,hB2.bd,rfl,?_⟩;walk_at"w";refine⟨F,B,st,rfl,hB2,fun hrun=>?_,fun hrun H' s'=>?_⟩
  rotate_left
  ·exact q1 hrun H' (s02.trans s')
  walk_at"w";refine⟨B.bd,B.dx,_,rfl,hB2.bd,rfl,?_⟩;walk_at"w";refine⟨F,B,st,rfl,hB2,?_⟩;walk_at"w";refine⟨a1,e1,s2.at c1,?_⟩;generalize hU3:upd H2 a1 _=H3;have s03:xc H H3:=by rw[←hU3];exact s02.put z1
  have c13:H3 a1=some (.cel (some (.int (bI (!st.mr))))):=xh hU3;have c23:H3 a2=some (.cel (some (.ref B.bd))):=by rw[←hU3,xm (ak n12)];exact c2
  clear hU3;have hB3:=hB.same s03;obtain⟨r,hr0⟩:∃r,st.run=some r:=by
   cases h:st.run with
   |none=>exact absurd h hrun
   |some r=>exact⟨r,rfl⟩
  have hbd:H3 B.bd=some (.ins a.q0a B.dx (bdF B st.size (.int (bI r)))):=by have:=hB3.bd;rw[hr0]at this;exact this
  have bIe:∀x y:Bool,bI x=bI y↔x=y:=by intro x y;cases x<;> cases y<;> decide
  walk_at"w";refine⟨B.bd,_,B.dx,_,.int (bI r),rfl,hbd,T.q0b,T.q0m,rfl,?_⟩;walk_at"w";refine⟨fun c=>?_,fun c=>?_⟩
  ·walk_at"w";refine⟨fun _=>?_,by walk_at"no"⟩;walk_at"w";refine⟨by decide,q2 hrun (fun z=>?_) H3 s03⟩;rw[hr0]at z;have e:=(bIe r (!st.mr)).mpr (aX z.1);rw[decide_eq_true e]at c;cases c
  have er:r= !st.mr:=(bIe _ _).mp (of_decide_eq_true (p:=bI r=bI (!st.mr)) (by rw[←bh];exact c));walk_at"w";refine⟨B.bd,_,B.dx,_,.ref B.ma,rfl,hB3.bd,T.q0b,T.q0g,rfl,?_⟩;walk_at"w";refine⟨B.ma,_,_,_,rfl,rfl,SqL.of hB3.ma,atM,?_⟩;walk_at"w";refine⟨fun c2=>?_,fun c2=>?_⟩
  ·walk_at"w";refine⟨by decide,q2 hrun (fun z=>?_) H3 s03⟩;rw[show aN "trial"=("trial":Str)from rfl,decide_eq_true z.2]at c2;cases c2
  have et:st.mark (!st.mr)=("trial":Str):=of_decide_eq_true (p:=st.mark (!st.mr)=aN "trial") (by rw[←bh];exact c2);walk_at"w";refine⟨B.bd,B.dx,_,rfl,hB3.bd,rfl,?_⟩;walk_at"w";refine⟨(hT.same s03).2.2.2.2.2.1,[("other",.int (bI (!st.mr))),("self",.ref B.bd)],rfl,(fun x v m=>?_),fun g H6 hg s6 hc=>?_⟩
  ·simp only[aw,eU,bg,or_false]at m;rcases m with⟨rfl,rfl⟩|⟨rfl,rfl⟩
   ·exact⟨a1,e1,c13⟩
   ·exact⟨a2,e2,c23⟩
  walk_at"w";have s06:=s03.trans s6;refine⟨B,g,rfl,fun E' hE=>⟨_,_,_,_,_,_,_,_,yO.mono (xol T) (by decide),hc,B.bd,bI (!st.mr),rfl,rfl,F,B,st,(!st.mr),rfl,hF,hB.same s06,hT.same s06,?_⟩⟩;have q9:=((q3 (by rw[hr0,er]) et).same s06).rof;rw[xg5]at q9;exact q9.imp (fun H1 hB1 k1 e z=>z H1 e k1 hB1) hE
theorem xeW(T:Txt K mg a):xA P w K mg base (CXE P w) 11 a.q0G a.um ["self"] (xlK P w K mg base a):=by
 refine T.uo.okXK ["other","self"] T.xeN xa2 (fun vs H Q E h=>?_) (fun A outer s H vs Q E hr h=>?_)
 ·obtain⟨F,B,s,rfl,_⟩:=h;rfl
 ·obtain⟨F,B,st,rfl,hF,hB,hT,q1,q2,q3⟩:=h;have nd:=xa2.nd;refine⟨_,(yP (x:="other") (i:=1) nd rfl rfl rfl (by kernel_rfl) (yP (x:="self") (i:=0) nd rfl rfl rfl (by kernel_rfl) (xf (xR (vz ⟨rfl,rfl,rfl⟩ (cv 0) T.q0b T.q1q (zO T) (hr.mono (by decide)) T.ud .nil))
  (xf (xf5 (i:=1) nd rfl rfl rfl (by kernel_rfl) (xT (cv 0) T.q0b T.q0F (yu T) (hr.mono (by decide)) T.yE .nil xu))
  (xf (xI (xH vH (xy xU (xw (cv 0) rfl) (cv 1) (fun _ _=>rfl)) xv) (xk (xay ⟨rfl,rfl,rfl⟩ rfl T.q4k (by rfl) T.xiY (xa xv xg))) xt)
  (xf (xR (xaz ⟨rfl,rfl,rfl⟩ (cv 0) T.q0b T.q1r (zN T) (hr.mono (by decide)) T.ue .nil (xa (vx (c:=q0y) (P:=yq) (qs:=zI) (fns:=["other","self"]) rfl T.q3t (q:="Board.go_back.<locals>.<lambda>") (by kernel_rfl) (.head _) (by kernel_rfl) (by kernel_rfl)) xg)))
  (xk (yg (cv 0) yh rfl)))))))),?_⟩
  have atM:atI [V.str (st.mark false),V.str (st.mark true)] (bI (!st.mr))=some (.str (st.mark (!st.mr))):=by cases st.mr<;> rfl
  walk_at"w";intro a1 e1 z1 d1;refine bo z1 ?_;generalize hU1:upd H a1 _=H1;have s1:=xc.of_eq z1 hU1;have c1:=xh hU1;walk_at"w";intro a2 e2 z2 d2;have n12:a1≠a2:=d2 _ _ e1 (by decide);have y2:H1 a2=none:=by rw[←hU1,xm (ak n12)];exact z2
  refine bo y2 ?_;generalize hU2:upd H1 a2 _=H2;have s2:=xc.of_eq y2 hU2;have c2:=xh hU2;clear hU1 hU2;have s02:=s1.trans s2;have hB2:=hB.same s02;walk_at"w";refine⟨B.bd,B.dx,_,rfl,hB2.bd,rfl,?_⟩;walk_at"w";refine⟨F,B,st,rfl,hB2,fun hrun=>?_,fun hrun H' s'=>?_⟩
  rotate_left
  ·exact q1 hrun H' (s02.trans s')
  walk_at"w";refine⟨B.bd,B.dx,_,rfl,hB2.bd,rfl,?_⟩;walk_at"w";refine⟨F,B,st,rfl,hB2,?_⟩;walk_at"w";refine⟨a1,e1,s2.at c1,?_⟩;generalize hU3:upd H2 a1 _=H3;have s03:xc H H3:=by rw[←hU3];exact s02.put z1
  have c13:H3 a1=some (.cel (some (.int (bI (!st.mr))))):=xh hU3;have c23:H3 a2=some (.cel (some (.ref B.bd))):=by rw[←hU3,xm (ak n12)];exact c2
  clear hU3;have hB3:=hB.same s03;walk_at"w";refine⟨B.bd,_,B.dx,_,.ref B.ma,rfl,hB3.bd,T.q0b,T.q0g,rfl,?_⟩;walk_at"w";refine⟨B.ma,_,_,_,rfl,rfl,SqL.of hB3.ma,atM,?_⟩;walk_at"w";refine⟨fun c=>?_,fun c=>?_⟩
  ·walk_at"w";refine⟨by decide,q2 hrun (fun z=>?_) H3 s03⟩;rw[show aN "good"=("good":Str)from rfl,decide_eq_true z]at c;cases c
  have et:st.mark (!st.mr)=("good":Str):=of_decide_eq_true (p:=st.mark (!st.mr)=aN "good") (by rw[←bh];exact c);walk_at"w";refine⟨B.bd,B.dx,_,rfl,hB3.bd,rfl,?_⟩;walk_at"w";refine⟨(hT.same s03).2.2.2.2.2.2,[("other",.int (bI (!st.mr))),("self",.ref B.bd)],rfl,(fun x v m=>?_),fun g H6 hg s6 hc=>?_⟩
  ·simp only[aw,eU,bg,or_false]at m;rcases m with⟨rfl,rfl⟩|⟨rfl,rfl⟩
   ·exact⟨a1,e1,c13⟩
   ·exact⟨a2,e2,c23⟩
  walk_at"w";have s06:=s03.trans s6;refine⟨B,g,rfl,fun E' hE=>⟨_,_,_,_,_,_,_,_,yO.mono (xom T) (by decide),hc,F,B,st,(!st.mr),rfl,rfl,hF,hB.same s06,hT.same s06,?_⟩⟩;have q9:=((q3 hrun et).same s06).rof;refine q9.imp (fun H1 hB1 k1 e z=>?_) hE;walk_at"w";refine⟨B.bd,_,B.dx,_,rfl,hB1.bd,T.q0b,T.q0m,by walk_at"few",?_⟩;rw[xkC];exact z _ e (xfR k1) (hB1.rune (r:=none))
end
section
variable {P:ai} {w:World} {K:ag} {mg:Str→Option Value} {base:Heap} {a:Adr}
def xkD(a:Adr):Sp:=fun vs H Q _=>∃(l p dp:Addr) (cells:List Int) (n:Int) (fl:V),vs=[.ref l,.ref p]∧H l=some (.lst (cells.map V.int))∧H p=some (.ins a.q0i dp (yW n fl))∧
 ∀(S:SA) (H':Hp),S.p=p→S.dp=dp→xc H H'→H S.st=none→H S.ca=none→H S.na=none→zM a H' S cells [some 0,some 0] n fl→Q (.ref S.st) H'
theorem xdP{H:Hp}{x y z:Addr}{o o':HO}(h:upd (upd H x o) y o' z=none):z≠y∧z≠x∧H z=none:=by
 have n1:z≠y:=fun e=>by rw[e,xp]at h;cases h
 rw[xm n1]at h;have n2:z≠x:=fun e=>by rw[e,xp]at h;cases h
 rw[xm n2]at h;exact⟨n1,n2,h⟩
theorem xfW(T:Txt K mg a):xA P w K mg base CX0 5 a.q21 a.xds ["cells","pen"] (xkD a):=by
 refine T.q2J.ok xfD (fun vs H Q E h=>?_) (fun cdv A outer s H vs Q E hr h=>?_)
 ·obtain⟨l,p,dp,cells,n,fl,rfl,_⟩:=h;rfl
 ·obtain⟨l,p,dp,cells,n,fl,rfl,hl,hp,q⟩:=h;have nd:=xfD.nd;refine⟨_,(xf (xx (i:=2) nd rfl (ay rfl) (xal (dvs:=[.non]) T.q4B (xhk T) (hr.mono (by decide)) (by rfl) T.xn0 T.jY (.cons rfl .nil) xu (xa (cv 0) xg)))
  (xf (yg (cv 2) (cv 1) rfl)
  (xk (xr (cv 2))))),?_⟩
  walk_at"w";intro st dx hst hdx ne;have up:∀{b:Addr} {u:HO},H b=some u→upd (upd H dx (.own st)) st (.ins a.q0e dx []) b=some u:=fun e=>by rw[xm (xC e hst),xm (xC e hdx)];exact e
  refine⟨st,dx,l,cells,.non,rfl,xp,up hl,fun S H1 e1 k1 hS f1 f2 f3=>⟨rfl,?_⟩⟩;have s1:xc H H1:=fun b u e=>k1 b u (up e) (by simp;exact xC e hst);obtain⟨g1,g2,g3⟩:=xdP f1;obtain⟨g4,g5,g6⟩:=xdP f2;walk_at"w";refine⟨st,_,S.dx,_,rfl,by rw[←e1];exact hS.st,T.q00,T.q2B,by walk_at"few",?_⟩;walk_at"w";have hpst:p≠st:=xC hp hst;refine q ⟨st,S.dx,S.ca,S.na,p,dp⟩ _ rfl rfl (s1.put hst) hst g3 g6 ⟨?_,?_,?_,?_,hS.ne,hpst⟩
  ·rw[xp];rfl
  ·show upd H1 st _ S.ca=_;rw[xm g1];exact hS.ca
  ·show upd H1 st _ S.na=_;rw[xm g4];exact hS.na
  ·show upd H1 st _ p=_;rw[xm hpst];exact s1.at hp
def bd0(text:List Int)(size:Int)(k:Int):BdS where
 size:=size
 cells:=fun b=>if b then aU size.toNat 0 else text++aU (size - text.length).toNat 0
 notes:=fun _=>[some 0,some 0]
 len:=fun b=>if b then 0 else text.length
 mark:=fun b=>if b then"bad" else"good"
 mr:=false
 ct:=0
 run:=none
 cnt:=k
 fl:=0
def xmL(K:ag)(a:Adr):Sp:=fun vs H Q E=>∃(F:FM) (bd dx l:Addr) (text:List Int) (size:Int),vs=[.ref bd,.ref l,.int size,.ref F.f]∧H bd=some (.ins a.q0a dx [])∧H l=some (.lst (text.map V.int))∧text.length≤1000∧size≤1000∧text.length≤size∧F.At H 0 0∧bd∉F.M∧
 ∀(B:BA) (H':Hp),B.bd=bd→Kp [bd] H H'→(∀y∈BS B,y=bd∨H y=none)→xD a F H' B (bd0 text size 0)→Q .non H'
theorem xhr(T:Txt K mg a):xA P w K mg base CX0 6 a.q1k a.vU ["self","text","size","fall"] (xmL K a):=by
 refine T.uD.ok xcW (fun vs H Q E h=>?_) (fun cdv A outer s H vs Q E hr h=>?_)
 ·obtain⟨F,bd,dx,l,text,size,rfl,_⟩:=h;rfl
 ·obtain⟨F,bd,dx,l,text,size,rfl,hbd,hl,ht,hs,hts,hat,hbM,q2⟩:=h;have nd:=xcW.nd;refine⟨_,(xf (xI (xH xc9 (xQ xW (by rfl) T.q2e yT (xa (cv 1) xg)) (cv 2)) (xk xao) xt)
  (xf (yg (cv 0) (xal T.q4G (xet T) (hr.mono (by decide)) (by rfl) T.xm4 T.xfx .nil xu (xa (cv 3) xg)) rfl)
  (xf (yg (cv 0) (cv 2) rfl)
  (xf (yg (cv 0) (yd (xa (xG (xfW T) (hr.mono (by decide)) (by rfl) T.xgY T.q2J.kp T.xgX .nil xu (xa (xJ xe3 (ym yQ (by rfl) T.q2I zx (xa (cv 1) xg)) (xJ xkX (yd (xa xl xg)) (xJ zC (cv 2) (xQ xW (by rfl) T.q2e yT (xa (cv 1) xg))))) (xa (xw (cv 0) rfl) xg))) (xa (xG (xfW T) (hr.mono (by decide)) (by rfl) T.xgY T.q2J.kp T.xgX .nil xu (xa (xJ xkX (yd (xa xl xg)) (cv 2)) (xa (xw (cv 0) rfl) xg))) xg))) rfl)
  (xf (yg (cv 0) (yd (xa (xQ xW (by rfl) T.q2e yT (xa (cv 1) xg)) (xa xl xg))) rfl)
  (xf (yg (cv 0) (yd (xa xv (xa xv xg))) rfl)
  (xf (yg (cv 0) (xnr (xhI xv xl (xhI xv xl xnq)) rfl rfl (by simp) (by decide)) rfl)
  (xk (yg (cv 0) yh rfl))))))))),?_⟩
  walk_at"w";refine⟨l,_,rfl,.inl (SqL.of hl),?_⟩;rw[aq];walk_at"w";refine⟨fun c=>absurd (of_decide_eq_true c) (by show¬size<(text.length:Int);lia),fun c=>?_⟩;walk_at"w";intro pp pd hpp hpd npd;have up:∀{b:Addr} {u:HO},H b=some u→upd (upd H pd (.own pp)) pp (.ins a.q0i pd []) b=some u:=fun e=>by rw[xm (xC e hpp),xm (xC e hpd)];exact e
  refine⟨pp,pd,.ref F.f,rfl,xp,rfl,?_⟩;rw[zd];generalize hU1:upd (upd H pd (.own pp)) pp _=H1;have s1:xc H H1:=by
   rw[←hU1];exact fun b u e=>by rw[xm (xC e hpp),xm (xC e hpd)];exact e
  have ep1:H1 pp=some (.ins a.q0i pd (yW 0 (.ref F.f))):=by rw[←hU1,xp]
  clear hU1 up;walk_at"w";refine⟨bd,_,dx,_,rfl,s1.at hbd,T.q0b,T.q2D,by walk_at"few",?_⟩;walk_at"w";refine⟨bd,_,dx,_,rfl,xp,T.q0b,T.q3p,by walk_at"few",?_⟩;rw[zd];have npb:bd≠pp:=xC hbd hpp;generalize hU2:upd H1 bd _=H2;have k2:Kp [bd] H H2:=by rw[←hU2];exact(Kp.of s1).wr (by simp)
  have eb2:H2 bd=some (.ins a.q0a dx [("pen",.ref pp),("size",.int size)]):=by rw[←hU2,xp];rfl
  have ep2:H2 pp=some (.ins a.q0i pd (yW 0 (.ref F.f))):=by rw[←hU2,xm (ak npb)];exact ep1
  clear hU2;have nlb:l≠bd:=fun z=>by rw[z,hbd]at hl;cases hl
  have hl2:H2 l=some (.lst (text.map V.int)):=k2 _ _ hl (by simp[nlb]);walk_at"w";refine⟨l,_,rfl,.inl (SqL.of hl2),?_⟩;intro c1 hc1;generalize hUc1:upd H2 c1 _=H3;have sH3:=xc.of_eq hc1 hUc1;have ec1:=xh hUc1;clear hUc1;walk_at"w";walk_at"ss";intro c2 hc2;generalize hUc2:upd H3 c2 _=H4;have sH4:=xc.of_eq hc2 hUc2;have ec2:=xh hUc2;clear hUc2;walk_at"w";refine⟨l,_,rfl,.inl (SqL.of ((sH3.trans sH4).at hl2)),?_⟩;rw[aq];walk_at"w";refine⟨c2,size - text.length,_,rfl,rfl,ec2,by lia,by lia,(by show 1*_≤_;rw[aQ];lia),?_⟩;intro c3 hc3;generalize hUc3:upd H4 c3 _=H5;have sH5:=xc.of_eq hc3 hUc3;have ec3:=xh hUc3;clear hUc3;walk_at"w";refine⟨c1,c3,_,_,rfl,rfl,(sH4.trans sH5).at ec1,ec3,(by simp[aQ];lia),?_⟩;intro c4 hc4;generalize hUc4:upd H5 c4 _=H6;have sH6:=xc.of_eq hc4 hUc4;have ec4:=xh hUc4;clear hUc4;walk_at"w";have s26:=sH3.trans (sH4.trans (sH5.trans sH6));refine⟨bd,_,dx,_,.ref pp,rfl,s26.at eb2,T.q0b,T.q2D,rfl,?_⟩;walk_at"w";have ec4':H6 c4=some (.lst ((text++aU (size - text.length).toNat 0).map V.int)):=by rw[ec4];simp
  refine⟨c4,pp,pd,_,0,_,rfl,ec4',s26.at ep2,fun S0 H7 e1 e2 s7 f1 f2 f3 hS0=>?_⟩;walk_at"w";walk_at"ss";intro c5 hc5;generalize hUc5:upd H7 c5 _=H8;have sH8:=xc.of_eq hc5 hUc5;have ec5:=xh hUc5;clear hUc5;walk_at"w";refine⟨c5,size,_,rfl,rfl,ec5,by lia,by lia,(by show 1*_≤_;rw[aQ];lia),?_⟩;intro c6 hc6;generalize hUc6:upd H8 c6 _=H9;have sH9:=xc.of_eq hc6 hUc6;have ec6:=xh hUc6;clear hUc6;walk_at"w";have s29:=s26.trans (s7.trans (sH8.trans sH9));refine⟨bd,_,dx,_,.ref pp,rfl,s29.at eb2,T.q0b,T.q2D,rfl,?_⟩;walk_at"w";have ec6':H9 c6=some (.lst ((aU size.toNat (0:Int)).map V.int)):=by rw[ec6];simp
  refine⟨c6,pp,pd,_,0,_,rfl,ec6',s29.at ep2,fun S1 H10 g1 g2 s10 h1 h2 h3 hS1=>?_⟩;walk_at"w";walk_at"ss";intro bl hbl;generalize hUbl:upd H10 bl _=H11;have sH11:=xc.of_eq hbl hUbl;have ebl:=xh hUbl;clear hUbl;walk_at"w";have s211:=s29.trans (s10.trans sH11);have hS0':=hS0.same (sH8.trans (sH9.trans (s10.trans sH11)));have hS1':=hS1.same sH11;refine⟨bd,_,dx,_,rfl,s211.at eb2,T.q0b,T.q2C,by walk_at"few",?_⟩;generalize hU12:upd H11 bd _=H12;have k12:Kp [bd] H11 H12:=by rw[←hU12];exact(Kp.of (xc.refl _)).wr (by simp)
  have eb12:H12 bd=some (.ins a.q0a dx [("pen",.ref pp),("size",.int size),("banks",.ref bl)]):=by rw[←hU12,xp];rfl
  clear hU12;have hl12:H12 l=some (.lst (text.map V.int)):=k12 _ _ (s211.at hl2) (by simp[nlb]);walk_at"w";refine⟨l,_,rfl,.inl (SqL.of hl12),?_⟩;rw[aq];walk_at"w";walk_at"ss";intro le hle;generalize hUle:upd H12 le _=H13;have sH13:=xc.of_eq hle hUle;have ele:=xh hUle;clear hUle;walk_at"w";refine⟨bd,_,dx,_,rfl,sH13.at eb12,T.q0b,T.q1c,by walk_at"few",?_⟩;generalize hU14:upd H13 bd _=H14;have k14:Kp [bd] H13 H14:=by rw[←hU14];exact(Kp.of (xc.refl _)).wr (by simp)
  have eb14:H14 bd=some (.ins a.q0a dx [("pen",.ref pp),("size",.int size),("banks",.ref bl),("lengths",.ref le)]):=by rw[←hU14,xp];rfl
  clear hU14;walk_at"w";walk_at"ss";intro ma hma;generalize hUma:upd H14 ma _=H15;have sH15:=xc.of_eq hma hUma;have ema:=xh hUma;clear hUma;walk_at"w";refine⟨bd,_,dx,_,rfl,sH15.at eb14,T.q0b,T.q0g,by walk_at"few",?_⟩;generalize hU16:upd H15 bd _=H16;have k16:Kp [bd] H15 H16:=by rw[←hU16];exact(Kp.of (xc.refl _)).wr (by simp)
  have eb16:H16 bd=some (.ins a.q0a dx [("pen",.ref pp),("size",.int size),("banks",.ref bl),("lengths",.ref le),("marks",.ref ma)]):=by rw[←hU16,xp];rfl
  clear hU16;walk_at"w";intro se hse;walk_at"w";refine bo xp ⟨xeU false 0,rfl,by decide,?_⟩;rw[zd,show xbM [] (xeU false 0)=xeU false 0 from by decide];generalize hUs:upd H16 se _=H17;have sH17:=xc.of_eq hse hUs;have ese:=xh hUs;clear hUs;walk_at"w";refine⟨bd,_,dx,_,rfl,sH17.at eb16,T.q0b,T.q0j,by walk_at"few",?_⟩;generalize hU18:upd H17 bd _=H18;have k18:Kp [bd] H17 H18:=by rw[←hU18];exact(Kp.of (xc.refl _)).wr (by simp)
  have eb18:H18 bd=some (.ins a.q0a dx [("pen",.ref pp),("size",.int size),("banks",.ref bl),("lengths",.ref le),("marks",.ref ma),("settings",.ref se)]):=by rw[←hU18,xp];rfl
  clear hU18;walk_at"w";refine⟨bd,_,dx,_,rfl,eb18,T.q0b,T.q0m,by walk_at"few",?_⟩;generalize hU19:upd H18 bd _=H19;have k19:Kp [bd] H18 H19:=by rw[←hU19];exact(Kp.of (xc.refl _)).wr (by simp)
  have eb19:H19 bd=some (.ins a.q0a dx [("pen",.ref pp),("size",.int size),("banks",.ref bl),("lengths",.ref le),("marks",.ref ma),("settings",.ref se),("running",.non)]):=by rw[←hU19,xp];rfl
  clear hU19;have nn:∀{G:Hp} {x y:Addr} {u:HO},G x=none→G y=some u→x≠y:=fun h1 h2 z=>by rw[z,h2]at h1;cases h1
  have k1119:Kp [bd] H11 H19:=k12.trans ((Kp.of sH13).trans (k14.trans ((Kp.of sH15).trans (k16.trans ((Kp.of sH17).trans (k18.trans k19))))));have k219:Kp [bd] H2 H19:=(Kp.of s211).trans k1119;have n0:S0.st≠bd:=nn f1 (s26.at eb2);have n1:S1.st≠bd:=nn h1 (s29.at eb2);have b0:∀{G:Hp} {x:Addr} {xs:List V},G bd=some (.ins a.q0a dx [("pen",.ref pp),("size",.int size)])→G x=some (.lst xs)→x≠bd:=fun e1 e2 z=>by rw[z,e1]at e2;cases e2
  have m0:=b0 (s211.at eb2) hS0'.ca;have m1:=b0 (s211.at eb2) hS0'.na;have m2:=b0 (s211.at eb2) hS1'.ca;have m3:=b0 (s211.at eb2) hS1'.na;have m4:=b0 (s211.at eb2) ebl;have d0:∀x∈[bd],x≠S0.st∧x≠S0.ca∧x≠S0.na∧x≠S0.p:=fun x hx=>by
   rw[au.mp hx,e1];exact⟨ak n0,ak m0,ak m1,npb⟩
  have d1:∀x∈[bd],x≠S1.st∧x≠S1.ca∧x≠S1.na∧x≠S1.p:=fun x hx=>by
   rw[au.mp hx,g1];exact⟨ak n1,ak m2,ak m3,npb⟩
  have kk:∀{x:Addr} {u:HO},H11 x=some u→x≠bd→H12 x=some u:=fun e n=>k12 _ _ e (by simp[n]);have kk4:∀{x:Addr} {u:HO},H11 x=some u→x≠bd→H14 x=some u:=fun e n=>k14 _ _ (sH13.at (kk e n)) (by simp[n]);have nle:le≠bd:=nn hle eb12;have nma:ma≠bd:=nn hma eb14;have nse:se≠bd:=nn hse eb16;have ele14:H14 le=some (.lst [.int text.length,.int 0]):=k14 _ _ ele (by simp[nle]);have ele16:=k16 _ _ (sH15.at ele14) (by simp[nle]);have ema16:=k16 _ _ ema (by simp[nma]);have bb9:H9 S0.ca=some _:=(sH8.trans sH9).at hS0.ca;have bb8:H9 S0.na=some _:=(sH8.trans sH9).at hS0.na;have kb:∀{G:Hp} {y:Addr},Kp [bd] H G→G y=none→y=bd∨H y=none:=fun{G y} k e=>by
   by_cases z:y=bd
   ·exact .inl z
   ·right
    cases hh:H y with
    |none=>rfl
    |some u=>rw[k _ _ hh (by simp[z])]at e;cases e
  have k212:Kp [bd] H H12:=(k2.trans (Kp.of s211)).trans k12;have k214:Kp [bd] H H14:=(k212.trans (Kp.of sH13)).trans k14;have k216:Kp [bd] H H16:=(k214.trans (Kp.of sH15)).trans k16;have fr:∀y∈[bd,le,ma,se,pp,S0.ca,S0.na,S1.ca,S1.na],y=bd∨H y=none:=fun y hy=>by
   simp only[aw,bg,or_false]at hy;rcases hy with rfl|rfl|rfl|rfl|rfl|rfl|rfl|rfl|rfl
   ·exact .inl rfl
   ·exact kb k212 hle
   ·exact kb k214 hma
   ·exact kb k216 hse
   ·exact .inr hpp
   ·exact kb (k2.trans (Kp.of s26)) f2
   ·exact kb (k2.trans (Kp.of s26)) f3
   ·exact kb (k2.trans (Kp.of s29)) h2
   ·exact kb (k2.trans (Kp.of s29)) h3
  refine q2 ⟨bd,dx,pp,pd,bl,le,ma,se,fun b=>match b with|false=>S0|true=>S1⟩ H19 rfl (k2.trans k219) fr ⟨eb19,?_,?_,?_,?_,?_,?_,?_,?_,F.keep hat (k2.trans k219) (fun x hx=>by rw[au.mp hx];exact⟨_,hbd,trivial⟩) (fun x hx=>by rw[au.mp hx];exact hbM),fun x hx=>?_,eQ _⟩
  rotate_right
  ·obtain⟨u,hu,_⟩:=F.mu hat x hx;have xn:∀{y:Addr},y=bd∨H y=none→x≠y:=fun h z=>by
    rcases h with h|h
    ·exact hbM (by rw[←h,←z];exact hx)
    ·rw[←z,hu]at h;cases h
   refine⟨fun z=>xn (fr x z) rfl,xn (kb (k2.trans (Kp.of (s29.trans s10))) hbl),fun b=>?_⟩;cases b
   ·exact xn (kb (k2.trans (Kp.of s26)) f1)
   ·exact xn (kb (k2.trans (Kp.of s29)) h1)
  ·exact k1119 _ _ ebl (by simp[m4])
  ·exact k19 _ _ (k18 _ _ (sH17.at ele16) (by simp[nle])) (by simp[nle])
  ·exact k19 _ _ (k18 _ _ (sH17.at ema16) (by simp[nma])) (by simp[nma])
  ·exact k19 _ _ (k18 _ _ ese (by simp[nse])) (by simp[nse])
  ·intro b;cases b
   ·exact hS0'.kp0 k1119 d0
   ·exact hS1'.kp0 k1119 d1
  ·intro b;cases b
   ·exact⟨e1,e2⟩
   ·exact⟨g1,g2⟩
  ·simp only[bq,aw,bg,or_false,not_or,not_false_eq_true,c7,and_true];have q0:=hS0.same (sH8.trans (sH9.trans s10));exact⟨⟨ak (nn hle (kk ebl m4)),ak (nn hma (kk4 ebl m4)),nn hbl q0.ca,nn hbl q0.na,nn hbl hS1.ca,nn hbl hS1.na⟩,⟨ak (nn hma ele14),nn hle (kk hS0'.ca m0),nn hle (kk hS0'.na m1),nn hle (kk hS1'.ca m2),nn hle (kk hS1'.na m3)⟩,⟨nn hma (kk4 hS0'.ca m0),nn hma (kk4 hS0'.na m1),nn hma (kk4 hS1'.ca m2),nn hma (kk4 hS1'.na m3)⟩,⟨hS0.ne,ak (nn h2 bb9),ak (nn h3 bb9)⟩,⟨ak (nn h2 bb8),ak (nn h3 bb8)⟩,hS1.ne⟩
  ·simp only[bq,aw,bg,or_false,not_or,not_false_eq_true,c7,and_true];exact⟨⟨ak n0,ak n1,npb⟩,⟨ak (nn h1 ((sH8.trans sH9).at hS0.st)),nn f1 (s26.at ep2)⟩,nn h1 (s29.at ep2)⟩
end
def xgx(c n:Int):Option (Option Int):=if 1<mixed c n%7 then none else if mixed c n / 64%2=0 then some none else some (some (mixed c n / 8%9 - 4))
def xpv:Sp:=fun vs H Q _=>∃c n:Int,vs=[.int c,.int n]∧∀v H',xc H H'→xkr H' v (xgx c n)→Q v H'
abbrev xa6:Expr:=xap 2 (xo9 ((xN xcm).getD 3 (.Pass ⟨0,0,0,0⟩)))
theorem xjD:zp ["_law_count","_law_cell"] ["_law_count"] ["_law_cell"] (yw xa6):=⟨rfl,rfl,rfl,by decide+kernel,rfl,by decide+kernel,by decide+kernel,by decide+kernel⟩
abbrev xpw(H:Hp)(f:Addr)(c:Int):Prop:=yG H f "<lambda>" "law.<locals>.<lambda>" (jk xa6) (.expr (jl xa6)) (yw xa6) [("_law_cell",.int c)]
def xop:List (Str×V)→Sp:=fun fv vs H Q _=>∃c n:Int,fv=([("_law_cell",.int c)]:List (Str×V))∧vs=[.int n]∧∀v H',xc H H'→xkr H' v (xgx c n)→Q v H'
def FLm(f:Addr)(c:Int):FM where
 f:=f
 M:=[]
 fo:=fun _ n=>xgx c n
 At:=fun H _ _=>xpw H f c
 keep:=fun h k mu _=>yG.kp h mu k
 mu:=fun _ _ z=>nomatch z
section
variable {P:ai} {w:World} {K:ag} {mg:Str→Option Value} {base:Heap} {a:Adr}
theorem xlL(T:Txt K mg a):xA P w K mg base CX0 2 a.q4n a.xkm ["_law_cell","_law_count"] xpv:=by
 refine T.q4h.ok xlw (fun vs H Q E h=>?_) (fun cdv A outer s H vs Q E hr h=>?_)
 ·obtain⟨c,n,rfl,_⟩:=h;rfl
 ·obtain⟨c,n,rfl,q⟩:=h;have nd:=xlw.nd;refine⟨_,(xf (xx (i:=2) nd rfl (ay rfl) (xG (xeP T) (hr.mono (by decide)) (by rfl) T.xgn T.q3j.kp T.xgm .nil xu (xa (cv 0) (xa (cv 1) xg))))
  (xf (xI (xH xc9 (xJ uH (cv 2) xl) xl) (xk (xr yh)) xt)
  (xk (xr (xy xU (yd (xa (xO xg) (xa (xO (xa (xJ zC (xJ uH (xJ xas (cv 2) xl) xl) xl) xg)) xg))) (xJ uH (xJ xas (cv 2) xl) xl) (fun _ _=>rfl)))))),?_⟩
  unfold xgx at q;walk_at"w";refine⟨c,n,rfl,?_⟩;generalize mixed c n=dr at q;walk_at"w";walk_at"ss";refine⟨fun c1=>?_,fun c1=>?_⟩
  ·have c1:1<dr%7:=of_decide_eq_true c1;rw[if_pos c1]at q;walk_at"w";exact q .non H (xc.refl _) rfl
  have c1:¬1<dr%7:=of_decide_eq_false c1;rw[if_neg c1]at q;walk_at"w";walk_at"ss";intro t1 ht1;generalize hUt1:upd H t1 _=H1;have sH1:=xc.of_eq ht1 hUt1;have et1:=xh hUt1;clear hUt1;walk_at"w";walk_at"ss";intro t2 ht2;generalize hUt2:upd H1 t2 _=H2;have sH2:=xc.of_eq ht2 hUt2;have et2:=xh hUt2;clear hUt2;walk_at"w";walk_at"ss";intro so hso;generalize hUso:upd H2 so _=H3;have sH3:=xc.of_eq hso hUso;have eso:=xh hUso;clear hUso;walk_at"w";walk_at"ss";have s3:=sH1.trans (sH2.trans sH3)
  by_cases hz:dr / 64%2=0
  ·rw[if_pos hz]at q;refine⟨so,_,_,.ref t1,rfl,rfl,SqL.of eso,by rw[hz];rfl,?_⟩;exact q _ H3 s3 ⟨t1,rfl,(sH2.trans sH3).at et1⟩
  ·rw[if_neg hz]at q;have h1:dr / 64%2=1:=by lia
   refine⟨so,_,_,.ref t2,rfl,rfl,SqL.of eso,by rw[h1];rfl,?_⟩;exact q _ H3 s3 ⟨t2,rfl,sH3.at et2⟩
theorem xkE(T:Txt K mg a):yO P w K mg base CX0 3 "<lambda>" "law.<locals>.<lambda>" (jk xa6) (.expr (jl xa6)) (yw xa6) ["_law_count"] xop:=by
 refine xeD xjD (fun fv vs H Q E h=>?_) (fun _ _ _ _ _ us hl=>match us,hl with|[_],_=>rfl) (fun A outer s H f clos cdv fv vs Q E hr h=>?_)
 ·obtain⟨c,n,rfl,rfl,_⟩:=h;exact⟨rfl,rfl⟩
 ·obtain⟨c,n,rfl,rfl,q⟩:=h;have nd:=xjD.nd;refine⟨_,(xG (xlL T) (hr.mono (by decide)) (by rfl) T.xm2 T.q4h.kp T.xm1 .nil xu (xa (cv 1) (xa (cv 0) xg))),?_⟩;walk_at"w";exact⟨c,n,rfl,q⟩
theorem xpx(T:Txt K mg a)(f:Addr)(c:Int):vp P w K mg base (FLm f c) where
 run:=fun{H k n Q} h _ q=>⟨_,_,_,_,_,_,_,_,xkE T,h,c,n,rfl,rfl,fun v H' s hv=>q v H' (Kp.of s) hv (yG.kp (S:=[]) h (fun _ z=>nomatch z) (Kp.of s))⟩
 clo:=fun h=>⟨_,_,_,_,_,_,h⟩
end
def Liv(H:Hp)(L:List Addr):Prop:=∀y∈L,∃u,H y=some u
theorem Liv.off{H:Hp}{L:List Addr}{y:Addr}(h:Liv H L)(e:H y=none):y∉L:=fun z=>by
 obtain⟨u,hu⟩:=h y z;rw[hu]at e;cases e
theorem Liv.same{H H':Hp}{L:List Addr}(h:Liv H L)(s:xc H H'):Liv H' L:=fun y z=>by
 obtain⟨u,hu⟩:=h y z;exact⟨u,s.at hu⟩
def S5(H:Hp)(t:Addr)(s:BdS)(L:List Addr):Prop:=∃m l,H t=some (.tup [.int (bI s.mr),.ref m,.ref l,.int s.ct,yC s.run])∧H m=some (.lst [.str (s.mark false),.str (s.mark true)])∧H l=some (.lst [.int (s.len false),.int (s.len true)])∧m∉L∧l∉L
theorem S5.same{H H':Hp}{t:Addr}{s:BdS}{L:List Addr}(h:S5 H t s L)(e:xc H H'):S5 H' t s L:=by
 obtain⟨m,l,h1,h2,h3,o⟩:=h;exact⟨m,l,e.at h1,e.at h2,e.at h3,o⟩
theorem S5.kp{H H':Hp}{t:Addr}{s:BdS}{L:List Addr}(h:S5 H t s L)(e:Kp L H H')(mu:∀x∈L,∃u,H x=some u∧jr u):S5 H' t s L:=by
 obtain⟨m,l,h1,h2,h3,o1,o2⟩:=h;exact⟨m,l,xa5 e mu h1,e _ _ h2 o1,e _ _ h3 o2,o1,o2⟩
def BdS.alike(s s':BdS):Prop:=s.mr=s'.mr∧s.ct=s'.ct∧s.run=s'.run∧s.mark=s'.mark∧s.len=s'.len
theorem S5.cg{H:Hp}{t:Addr}{s s':BdS}{L:List Addr}(h:S5 H t s L)(e:s.alike s'):S5 H t s' L:=by
 obtain⟨e1,e2,e3,e4,e5⟩:=e;unfold S5 at h⊢;rw[←e1,←e2,←e3,←e4,←e5];exact h
def Wr.vs:Wr→List V
 | .mark b v=>[.str "mark",.int (bI b),.str v]
 | .leng b v=>[.str "length",.int (bI b),.int v]
 | .cter v=>[.str "tries",.int v]
 | .mrk b=>[.str "marker",.int (bI b)]
 | .note .. =>[.str "note"]
 | .cell .. =>[.str "cell"]
def WAt(H:Hp)(t:Addr)(y:Wr):Prop:=H t=some (.tup y.vs)
def xkF(H:Hp)(l:Addr)(ys:List Wr):Prop:=∃ts:List Addr,H l=some (.lst (ts.map V.ref))∧Paired (WAt H) ts ys
def xb2(H:Hp)(v:V):Option (List Wr×Option Bool×V)→Prop
 |none=>v= .non
 |some (ys,rb,an)=>∃t wl,v= .ref t∧H t=some (.tup [.ref wl,yC rb,an])∧xkF H wl ys
def xdQ(s:BdS)(n:Int)(good:Bool)(tries:Int):List Wr:=(if s.mark (!s.mr)=("open":Str)then[]else[.note (!s.mr) 0 0,.note (!s.mr) 1 0,.mark (!s.mr) "open"])++(.leng (!s.mr) n::(if good=true then[.cter tries,.mark (!s.mr) "trial"]else[.mark (!s.mr) "bad"]))
def xbj(s:BdS)(o n:Int)(good:Bool)(tries:Int):Option (List Wr×Option Bool×V):=if s.run=none∨s.mark (!s.mr)=("trial":Str)then none else if yM s o=true then some (xdQ s n good tries,s.run,.bl good)else none
def jb(s:BdS)(d:Nat)(o n:Int)(good:Bool)(tries:Int):Option (List Wr×Option Bool×V):=match d with
 |0=>some (yL s,some (startB s),.int (bI (startB s)))
 |1=>xbj s o n good tries
 |2=>if s.run=some (!s.mr)∧s.mark (!s.mr)=("trial":Str)then some ([.mark (!s.mr) "good",.mrk (!s.mr)],s.run,.non)else none
 |_=>if s.run≠none∧s.mark (!s.mr)=("good":Str)then some ([.mrk (!s.mr)],none,.non)else none
def xlM:Sp:=fun vs H Q _=>∃(t:Addr) (s:BdS) (L:List Addr),vs=[.ref t]∧S5 H t s L∧0≤s.ct∧∀v H',xc H H'→xb2 H' v (some (yL s,some (startB s),.int (bI (startB s))))→Q v H'
def xoq:Sp:=fun vs H Q _=>∃(t p tt:Addr) (s:BdS) (L:List Addr) (o n tries:Int) (good:Bool),vs=[.ref t,.ref p,.bl good,.int tries]∧S5 H t s L∧H p=some (.tup [.int o,.int n,.ref tt])∧0≤o∧∀v H',xc H H'→xb2 H' v (xbj s o n good tries)→Q v H'
def xmM:Sp:=fun vs H Q _=>∃(t p tt:Addr) (s:BdS) (L:List Addr) (d:Nat) (o n tries:Int) (good:Bool),vs=[.ref t,.int d,.ref p,.bl good,.int tries]∧d≤3∧S5 H t s L∧0≤s.ct∧H p=some (.tup [.int o,.int n,.ref tt])∧0≤o∧∀v H',xc H H'→xb2 H' v (jb s d o n good tries)→Q v H'
section
variable {P:ai} {w:World} {K:ag} {mg:Str→Option Value} {base:Heap} {a:Adr}
theorem xmN(T:Txt K mg a):xA P w K mg base CX0 1 a.q3K a.xgh ["_law_stand"] xlM:=by
 refine T.q3P.ok xia (fun vs H Q E h=>?_) (fun cdv A outer s H vs Q E hr h=>?_)
 ·obtain⟨t,s,L,rfl,_⟩:=h;rfl
 ·obtain⟨t,st,L,rfl,hS,hc,q⟩:=h;have nd:=xia.nd;refine⟨_,(xf (jx (cv 0) (uu rfl (xK (xF (i:=1) nd rfl (ay rfl)) (xK (xF (i:=2) nd rfl (ay rfl)) (xK (xF (i:=3) nd rfl (ay rfl)) (xK (xF (i:=4) nd rfl (ay rfl)) (xK (xF (i:=5) nd rfl (ay rfl)) zu)))))))
  (xf (xx (i:=6) nd rfl (ay rfl) (xJ zC xl (cv 1)))
  (xf (xI (PW.pt (xe9 (xH ju (xy xU (cv 2) (cv 6) (fun _ _=>rfl)) xv) (xfZ (xH xc9 (cv 4) xl)))) (xk (xr (xO (xa (yd (xa (xO (xa xv (xa (xJ zC (cv 4) xl) xg))) xg)) (xa (cv 6) (xa (cv 6) xg)))))) xt)
  (xf (xI (xH ju (xy xU (cv 2) (cv 6) (fun _ _=>rfl)) xv) (xk (xr (xO (xa (yd (xa (xO (xa xv (xa (cv 6) (xa xv xg)))) xg)) (xa (cv 1) (xa (cv 1) xg)))))) xt)
  (xk (xr (xO (xa (yd xg) (xa (cv 1) (xa (cv 1) xg)))))))))),?_⟩
  obtain⟨m,l,h1,h2,h3,_⟩:=id hS;have e1:(1:Int) - bI st.mr=bI (!st.mr):=by cases st.mr<;> rfl
  have atM:atI [V.str (st.mark false),V.str (st.mark true)] (1 - bI st.mr)=some (.str (st.mark (!st.mr))):=by cases st.mr<;> rfl
  unfold yL startB at q;walk_at"w";refine⟨t,_,rfl,SqT.of h1,rfl,?_⟩;walk_at"w";refine⟨_,_,rfl,?_⟩;walk_at"w";refine⟨_,_,rfl,?_⟩;walk_at"w";refine⟨_,_,rfl,?_⟩;walk_at"w";refine⟨_,_,rfl,?_⟩;walk_at"w";refine⟨_,_,rfl,?_⟩;walk_at"w";refine bo rfl ?_;walk_at"w";refine⟨m,_,_,_,rfl,rfl,SqL.of h2,atM,?_⟩;walk_at"w";refine⟨fun c=>?_,fun c=>?_⟩
  ·have e:st.mark (!st.mr)=("trial":Str):=of_decide_eq_true c;rw[if_pos e]at q;walk_at"w";refine⟨fun c2=>?_,fun c2=>?_⟩
   ·have c2:¬st.ct=0:=by have:0<st.ct:=of_decide_eq_true c2;lia
    rw[if_neg c2,if_pos ⟨e,c2⟩]at q;walk_at"w";walk_at"ss";intro w1 hw1;generalize hUw1:upd H w1 _=H1;have sH1:=xc.of_eq hw1 hUw1;have ew1:=xh hUw1;clear hUw1;walk_at"w";walk_at"ss";intro wl hwl;generalize hUwl:upd H1 wl _=H2;have sH2:=xc.of_eq hwl hUwl;have ewl:=xh hUwl;clear hUwl;walk_at"w";walk_at"ss";intro p hp;generalize hUp:upd H2 p _=H3;have sH3:=xc.of_eq hp hUp;have ep:=xh hUp;clear hUp;walk_at"w";refine q _ H3 (sH1.trans (sH2.trans sH3)) ⟨p,wl,rfl,?_,[w1],sH3.at ewl,.cons ((sH2.trans sH3).at ew1) .nil⟩;rw[ep];show some (HO.tup [.ref wl,.int (1 - bI st.mr),.int (1 - bI st.mr)])=_;rw[e1];rfl
   ·have c2:st.ct=0:=by have:¬0<st.ct:=of_decide_eq_false c2;lia
    rw[if_pos c2,if_neg (fun z=>z.2 c2)]at q;walk_at"w";refine⟨m,_,_,_,rfl,rfl,SqL.of h2,atM,?_⟩;walk_at"w";refine⟨fun _=>?_,fun z=>by rw[show decide (st.mark (!st.mr)=aN "trial")=true from c]at z;cases z⟩;walk_at"w";walk_at"ss";intro w1 hw1;generalize hUw1:upd H w1 _=H1;have sH1:=xc.of_eq hw1 hUw1;have ew1:=xh hUw1;clear hUw1;walk_at"w";walk_at"ss";intro wl hwl;generalize hUwl:upd H1 wl _=H2;have sH2:=xc.of_eq hwl hUwl;have ewl:=xh hUwl;clear hUwl;walk_at"w";walk_at"ss";intro p hp;generalize hUp:upd H2 p _=H3;have sH3:=xc.of_eq hp hUp;have ep:=xh hUp;clear hUp;walk_at"w";have ew1':H1 w1=some (.tup [.str "mark",.int (1 - bI st.mr),.str "bad"]):=ew1;rw[e1]at ew1';exact q _ H3 (sH1.trans (sH2.trans sH3)) ⟨p,wl,rfl,ep,[w1],sH3.at ewl,.cons ((sH2.trans sH3).at ew1') .nil⟩
  ·have e:¬st.mark (!st.mr)=("trial":Str):=of_decide_eq_false c;rw[if_neg e,if_neg (fun z=>e z.1)]at q;walk_at"w"
   first|(refine⟨by walk_at"no",fun _=>?_⟩;walk_at"w")|skip
   refine⟨m,_,_,_,rfl,rfl,SqL.of h2,atM,?_⟩;walk_at"w";refine⟨fun z=>(by rw[show decide (st.mark (!st.mr)=aN "trial")=false from c]at z;cases z),fun _=>?_⟩;walk_at"w";walk_at"ss";intro wl hwl;generalize hUwl:upd H wl _=H1;have sH1:=xc.of_eq hwl hUwl;have ewl:=xh hUwl;clear hUwl;walk_at"w";walk_at"ss";intro p hp;generalize hUp:upd H1 p _=H2;have sH2:=xc.of_eq hp hUp;have ep:=xh hUp;clear hUp;walk_at"w";exact q _ H2 (sH1.trans sH2) ⟨p,wl,rfl,ep,[],sH2.at ewl,.nil⟩
theorem xlN(T:Txt K mg a):xA P w K mg base CX0 1 a.q3s a.xeI ["_law_stand","_law_paper_here","_law_good","_law_tries"] xoq:=by
 refine T.q3u.ok xg0 (fun vs H Q E h=>?_) (fun cdv A outer s H vs Q E hr h=>?_)
 ·obtain⟨t,p,tt,s,L,o,n,tries,good,rfl,_⟩:=h;rfl
 ·obtain⟨t,p,tt,st,L,o,n,tries,good,rfl,hS,hp,ho,q⟩:=h;have nd:=xg0.nd;refine⟨_,(xf (jx (cv 0) (uu rfl (xK (xF (i:=4) nd rfl (ay rfl)) (xK (xF (i:=5) nd rfl (ay rfl)) (xK (xF (i:=6) nd rfl (ay rfl)) (xK (xF (i:=7) nd rfl (ay rfl)) (xK (xF (i:=8) nd rfl (ay rfl)) zu)))))))
  (xf (xx (i:=9) nd rfl (ay rfl) (xJ zC xl (cv 4)))
  (xf (xI (PW.pt (va (vJ (cv 8)) (uW (xH ju (xy xU (cv 5) (cv 9) (fun _ _=>rfl)) xv)))) (xk (xr yh)) xt)
  (xf (xI (PW.pt (xe9 (xH vH (xy xU (cv 5) (cv 9) (fun _ _=>rfl)) xv) (xe9 (xH xc9 (xy xM (cv 1) xl (fun _ _=>rfl)) xl) (xfZ (PW.pt (va (xH vH (xy xU (cv 5) (cv 9) (fun _ _=>rfl)) xv) (uW (xH xa8 (xy xU (cv 6) (cv 9) (fun _ _=>rfl)) (xy xM (cv 1) xl (fun _ _=>rfl)))))))))) (xk (xr yh)) xt)
  (xf (xx (i:=10) nd rfl (ay rfl) (yd (xa (xO (xa xv (xa (cv 9) (xa (xy xM (cv 1) xl (fun _ _=>rfl)) xg)))) xg)))
  (xf (zQ (xI (xH vH (xy xU (cv 5) (cv 9) (fun _ _=>rfl)) xv) (xk (xx (i:=10) nd rfl (ay rfl) (xJ xe3 (yd (xa (xO (xa xv xg)) (xa (xO (xa xv xg)) (xa (xO (xa xv (xa (cv 9) (xa xv xg)))) xg)))) (cv 10)))) xt))
  (xf (xI (zw (cv 2)) (xk (xr (xO (xa (xJ xe3 (cv 10) (yd (xa (xO (xa xv (xa (cv 3) xg))) (xa (xO (xa xv (xa (cv 9) (xa xv xg)))) xg)))) (xa (cv 8) (xa uf xg)))))) xt)
  (xk (xr (xO (xa (xJ xe3 (cv 10) (yd (xa (xO (xa xv (xa (cv 9) (xa xv xg)))) xg))) (xa (cv 8) (xa uf xg))))))))))))),?_⟩
  obtain⟨m,l,h1,h2,h3,_⟩:=id hS;have e1:(1:Int) - bI st.mr=bI (!st.mr):=by cases st.mr<;> rfl
  have atM:atI [V.str (st.mark false),V.str (st.mark true)] (1 - bI st.mr)=some (.str (st.mark (!st.mr))):=by cases st.mr<;> rfl
  have atL:atI [V.int (st.len false),V.int (st.len true)] (1 - bI st.mr)=some (.int (st.len (!st.mr))):=by cases st.mr<;> rfl
  unfold xbj at q;walk_at"w";refine⟨t,_,rfl,SqT.of h1,rfl,?_⟩;walk_at"w";refine⟨_,_,rfl,?_⟩;walk_at"w";refine⟨_,_,rfl,?_⟩;walk_at"w";refine⟨_,_,rfl,?_⟩;walk_at"w";refine⟨_,_,rfl,?_⟩;walk_at"w";refine⟨_,_,rfl,?_⟩;walk_at"w";refine bo rfl ?_
  -- BODY
  walk_at"w";cases hrun:st.run with
  |none=>
   refine⟨fun _=>?_,by walk_at"no"⟩;walk_at"w"
   first|exact q .non H (xc.refl _) (by rw[if_pos (.inl hrun)];rfl)|(refine⟨fun _=>?_,by walk_at"no"⟩;walk_at"w";exact q .non H (xc.refl _) (by rw[if_pos (.inl hrun)];rfl))
  |some rb=>
   refine⟨by walk_at"no",fun _=>?_⟩;walk_at"w";refine⟨m,_,_,_,rfl,rfl,SqL.of h2,atM,?_⟩;walk_at"w";refine⟨fun c=>?_,fun c=>?_⟩
   ·have c:st.mark (!st.mr)=("trial":Str):=of_decide_eq_true c;walk_at"w"
    first|exact q .non H (xc.refl _) (by rw[if_pos (.inr c)];rfl)|(refine⟨fun _=>?_,by walk_at"no"⟩;walk_at"w";exact q .non H (xc.refl _) (by rw[if_pos (.inr c)];rfl))
   have c:¬st.mark (!st.mr)=("trial":Str):=of_decide_eq_false c;have hnn:¬(st.run=none∨st.mark (!st.mr)=("trial":Str)):=fun z=>by
    rcases z with z|z
    ·rw[hrun]at z;cases z
    ·exact c z
   walk_at"w";refine⟨m,_,_,_,rfl,rfl,SqL.of h2,atM,?_⟩;walk_at"w";refine⟨fun c1=>?_,fun c1=>?_⟩
   ·have c1':¬st.mark (!st.mr)=("open":Str):=fun z=>by
     rw[show aN "open"=("open":Str)from rfl,decide_eq_true z]at c1;cases c1
    walk_at"w";refine⟨p,_,_,.int o,rfl,rfl,SqT.of hp,rfl,?_⟩;walk_at"w";refine⟨fun c2=>?_,fun c2=>?_⟩
    ·have c2:0<o:=of_decide_eq_true c2;walk_at"w";refine⟨m,_,_,_,rfl,rfl,SqL.of h2,atM,?_⟩;walk_at"w";refine⟨fun c3=>?_,fun c3=>?_⟩
     ·have c3':¬st.mark (!st.mr)=("good":Str):=fun z=>by
       rw[show aN "good"=("good":Str)from rfl,decide_eq_true z]at c3;cases c3
      have hh:¬yM st o=true:=by unfold yM;rw[decide_eq_false c1',decide_eq_false (show¬o=0 by lia),decide_eq_false c3'];simp
      walk_at"w"
      first|exact q .non H (xc.refl _) (by rw[if_neg hnn,if_neg hh];rfl)|(refine⟨fun _=>?_,by walk_at"no"⟩;walk_at"w";exact q .non H (xc.refl _) (by rw[if_neg hnn,if_neg hh];rfl))
     have c3':st.mark (!st.mr)=("good":Str):=of_decide_eq_true (p:=st.mark (!st.mr)=aN "good") (by rw[←bh];exact c3);walk_at"w";refine⟨l,_,_,_,rfl,rfl,SqL.of h3,atL,?_⟩;walk_at"w";refine⟨p,_,_,.int o,rfl,rfl,SqT.of hp,rfl,?_⟩;walk_at"w";refine⟨fun c4=>?_,fun c4=>?_⟩
     ·have c4':¬st.len (!st.mr)=o:=fun z=>by
       rw[decide_eq_true z]at c4;cases c4
      have hh:¬yM st o=true:=by unfold yM;rw[decide_eq_false c1',decide_eq_false (show¬o=0 by lia),decide_eq_true c3',decide_eq_false c4'];simp
      walk_at"w"
      first|exact q .non H (xc.refl _) (by rw[if_neg hnn,if_neg hh];rfl)|(refine⟨fun _=>?_,by walk_at"no"⟩;walk_at"w";exact q .non H (xc.refl _) (by rw[if_neg hnn,if_neg hh];rfl))
     have c4':st.len (!st.mr)=o:=of_decide_eq_true (by rw[←bh];exact c4);have hh:yM st o=true:=by unfold yM;rw[decide_eq_true c3',decide_eq_true c4'];simp
     rw[if_neg hnn,if_pos hh]at q;unfold xdQ at q;walk_at"w"
     first|refine⟨p,_,_,.int n,rfl,rfl,SqT.of hp,rfl,?_⟩|(refine⟨by walk_at"no",fun _=>?_⟩;walk_at"w";refine⟨p,_,_,.int n,rfl,rfl,SqT.of hp,rfl,?_⟩)
     walk_at"w";walk_at"ss";intro w1 hw1;generalize hUw1:upd H w1 _=H1;have sH1:=xc.of_eq hw1 hUw1;have ew1:=xh hUw1;clear hUw1;walk_at"w";walk_at"ss";intro wl hwl;generalize hUwl:upd H1 wl _=H2;have sH2:=xc.of_eq hwl hUwl;have ewl:=xh hUwl;clear hUwl;walk_at"w";have ew1':H1 w1=some (.tup [.str "length",.int (1 - bI st.mr),.int n]):=ew1;rw[e1]at ew1';generalize hy0:(if st.mark (!st.mr)=("open":Str)then[]else[Wr.note (!st.mr) 0 0,.note (!st.mr) 1 0,.mark (!st.mr) "open"])=y0 at q;refine⟨fun σ' G=>∃wl',σ'=[some (.ref t),some (.ref p),some (.bl good),some (.int tries),some (.int (bI st.mr)),some (.ref m),some (.ref l),some (.int st.ct),some (.int (bI rb)),some (.int (1 - bI st.mr)),some (.ref wl')]∧xc H2 G∧xkF G wl' (y0++[.leng (!st.mr) n]),?_,?_⟩
     ·walk_at"w";refine⟨m,_,_,_,rfl,rfl,SqL.of ((sH1.trans sH2).at h2),atM,?_⟩;walk_at"w";refine⟨fun c9=>?_,fun c9=>?_⟩
      ·have c9':¬st.mark (!st.mr)=("open":Str):=fun z=>by
        rw[show aN "open"=("open":Str)from rfl,decide_eq_true z]at c9;cases c9
       rw[if_neg c9']at hy0;walk_at"w";walk_at"ss";intro n1 hn1;generalize hUn1:upd H2 n1 _=H3;have sH3:=xc.of_eq hn1 hUn1;have en1:=xh hUn1;clear hUn1;walk_at"w";walk_at"ss";intro n2 hn2;generalize hUn2:upd H3 n2 _=H4;have sH4:=xc.of_eq hn2 hUn2;have en2:=xh hUn2;clear hUn2;walk_at"w";walk_at"ss";intro n3 hn3;generalize hUn3:upd H4 n3 _=H5;have sH5:=xc.of_eq hn3 hUn3;have en3:=xh hUn3;clear hUn3;walk_at"w";walk_at"ss";intro l3 hl3;generalize hUl3:upd H5 l3 _=H6;have sH6:=xc.of_eq hl3 hUl3;have el3:=xh hUl3;clear hUl3;walk_at"w";have en3':H5 n3=some (.tup [.str "mark",.int (1 - bI st.mr),.str "open"]):=en3;rw[e1]at en3';have s26:=sH3.trans (sH4.trans (sH5.trans sH6));refine⟨l3,wl,_,_,rfl,rfl,el3,s26.at ewl,(by simp[aQ]),?_⟩;intro l4 hl4;generalize hUl4:upd H6 l4 _=H7;have sH7:=xc.of_eq hl4 hUl4;have el4:=xh hUl4;clear hUl4;walk_at"w";refine⟨l4,rfl,s26.trans sH7,[n1,n2,n3,w1],el4,?_⟩;rw[←hy0];exact .cons ((sH4.trans (sH5.trans (sH6.trans sH7))).at en1) (.cons ((sH5.trans (sH6.trans sH7)).at en2) (.cons ((sH6.trans sH7).at en3') (.cons ((sH2.trans (s26.trans sH7)).at ew1') .nil)))
      ·have c9':st.mark (!st.mr)=("open":Str):=of_decide_eq_true (p:=st.mark (!st.mr)=aN "open") (by rw[←bh];exact c9);rw[if_pos c9']at hy0;walk_at"w";refine⟨wl,rfl,xc.refl _,[w1],ewl,?_⟩;rw[←hy0];exact .cons (sH2.at ew1') .nil
     rintro σ' G ⟨wl',rfl,sG,ts,ets,hts⟩;have hlen:ts.length≤4:=by
      rw[hts.length,aY];rw[←hy0];split<;> simp
     have s0G:=sH1.trans (sH2.trans sG);cases good with
     |true=>
      walk_at"w";refine⟨fun _=>?_,by walk_at"no"⟩;walk_at"w";walk_at"ss";intro x1 hx1;generalize hUx1:upd G x1 _=G1;have sG1:=xc.of_eq hx1 hUx1;have ex1:=xh hUx1;clear hUx1;walk_at"w";walk_at"ss";intro x2 hx2;generalize hUx2:upd G1 x2 _=G2;have sG2:=xc.of_eq hx2 hUx2;have ex2:=xh hUx2;clear hUx2;walk_at"w";walk_at"ss";intro x3 hx3;generalize hUx3:upd G2 x3 _=G3;have sG3:=xc.of_eq hx3 hUx3;have ex3:=xh hUx3;clear hUx3;walk_at"w";have ex2':G2 x2=some (.tup [.str "mark",.int (1 - bI st.mr),.str "trial"]):=ex2;rw[e1]at ex2';have sg3:=sG1.trans (sG2.trans sG3);refine⟨wl',x3,_,_,rfl,rfl,sg3.at ets,ex3,(by simp[aQ];lia),?_⟩;intro x4 hx4;generalize hUx4:upd G3 x4 _=G4;have sG4:=xc.of_eq hx4 hUx4;have ex4:=xh hUx4;clear hUx4;walk_at"w";walk_at"ss";intro pp hpp;generalize hUpp:upd G4 pp _=G5;have sG5:=xc.of_eq hpp hUpp;have epp:=xh hUpp;clear hUpp;walk_at"w";refine q _ G5 (s0G.trans (sg3.trans (sG4.trans sG5))) ⟨pp,x4,rfl,(by rw[epp,hrun];rfl),ts++[x1,x2],(by rw[sG5.at ex4,bw];rfl),?_⟩;rw[if_pos rfl,show y0++Wr.leng (!st.mr) n::[Wr.cter tries,.mark (!st.mr) "trial"]=(y0++[.leng (!st.mr) n])++[Wr.cter tries,.mark (!st.mr) "trial"]by simp];exact yr (L2.Paired.imp' (fun _ _ z=>(sg3.trans (sG4.trans sG5)).at z) hts) (.cons ((sG2.trans (sG3.trans (sG4.trans sG5))).at ex1) (.cons ((sG3.trans (sG4.trans sG5)).at ex2') .nil))
     |false=>
      walk_at"w";refine⟨by walk_at"no",fun _=>?_⟩;walk_at"w";walk_at"ss";intro x2 hx2;generalize hUx2:upd G x2 _=G2;have sG2:=xc.of_eq hx2 hUx2;have ex2:=xh hUx2;clear hUx2;walk_at"w";walk_at"ss";intro x3 hx3;generalize hUx3:upd G2 x3 _=G3;have sG3:=xc.of_eq hx3 hUx3;have ex3:=xh hUx3;clear hUx3;walk_at"w";have ex2':G2 x2=some (.tup [.str "mark",.int (1 - bI st.mr),.str "bad"]):=ex2;rw[e1]at ex2';have sg3:=sG2.trans sG3;refine⟨wl',x3,_,_,rfl,rfl,sg3.at ets,ex3,(by simp[aQ];lia),?_⟩;intro x4 hx4;generalize hUx4:upd G3 x4 _=G4;have sG4:=xc.of_eq hx4 hUx4;have ex4:=xh hUx4;clear hUx4;walk_at"w";walk_at"ss";intro pp hpp;generalize hUpp:upd G4 pp _=G5;have sG5:=xc.of_eq hpp hUpp;have epp:=xh hUpp;clear hUpp;walk_at"w";refine q _ G5 (s0G.trans (sg3.trans (sG4.trans sG5))) ⟨pp,x4,rfl,(by rw[epp,hrun];rfl),ts++[x2],(by rw[sG5.at ex4,bw];rfl),?_⟩;rw[if_neg (by simp),show y0++Wr.leng (!st.mr) n::[Wr.mark (!st.mr) "bad"]=(y0++[.leng (!st.mr) n])++[Wr.mark (!st.mr) "bad"]by simp];exact yr (L2.Paired.imp' (fun _ _ z=>(sg3.trans (sG4.trans sG5)).at z) hts) (.cons ((sG3.trans (sG4.trans sG5)).at ex2') .nil)
    ·have c2:o=0:=by have:¬0<o:=of_decide_eq_false c2;lia
     have hh:yM st o=true:=by unfold yM;rw[decide_eq_true c2];simp
     rw[if_neg hnn,if_pos hh]at q;unfold xdQ at q;walk_at"w"
     first|refine⟨p,_,_,.int n,rfl,rfl,SqT.of hp,rfl,?_⟩|(refine⟨by walk_at"no",fun _=>?_⟩;walk_at"w";refine⟨p,_,_,.int n,rfl,rfl,SqT.of hp,rfl,?_⟩)
     walk_at"w";walk_at"ss";intro w1 hw1;generalize hUw1:upd H w1 _=H1;have sH1:=xc.of_eq hw1 hUw1;have ew1:=xh hUw1;clear hUw1;walk_at"w";walk_at"ss";intro wl hwl;generalize hUwl:upd H1 wl _=H2;have sH2:=xc.of_eq hwl hUwl;have ewl:=xh hUwl;clear hUwl;walk_at"w";have ew1':H1 w1=some (.tup [.str "length",.int (1 - bI st.mr),.int n]):=ew1;rw[e1]at ew1';generalize hy0:(if st.mark (!st.mr)=("open":Str)then[]else[Wr.note (!st.mr) 0 0,.note (!st.mr) 1 0,.mark (!st.mr) "open"])=y0 at q;refine⟨fun σ' G=>∃wl',σ'=[some (.ref t),some (.ref p),some (.bl good),some (.int tries),some (.int (bI st.mr)),some (.ref m),some (.ref l),some (.int st.ct),some (.int (bI rb)),some (.int (1 - bI st.mr)),some (.ref wl')]∧xc H2 G∧xkF G wl' (y0++[.leng (!st.mr) n]),?_,?_⟩
     ·walk_at"w";refine⟨m,_,_,_,rfl,rfl,SqL.of ((sH1.trans sH2).at h2),atM,?_⟩;walk_at"w";refine⟨fun c9=>?_,fun c9=>?_⟩
      ·have c9':¬st.mark (!st.mr)=("open":Str):=fun z=>by
        rw[show aN "open"=("open":Str)from rfl,decide_eq_true z]at c9;cases c9
       rw[if_neg c9']at hy0;walk_at"w";walk_at"ss";intro n1 hn1;generalize hUn1:upd H2 n1 _=H3;have sH3:=xc.of_eq hn1 hUn1;have en1:=xh hUn1;clear hUn1;walk_at"w";walk_at"ss";intro n2 hn2;generalize hUn2:upd H3 n2 _=H4;have sH4:=xc.of_eq hn2 hUn2;have en2:=xh hUn2;clear hUn2;walk_at"w";walk_at"ss";intro n3 hn3;generalize hUn3:upd H4 n3 _=H5;have sH5:=xc.of_eq hn3 hUn3;have en3:=xh hUn3;clear hUn3;walk_at"w";walk_at"ss";intro l3 hl3;generalize hUl3:upd H5 l3 _=H6;have sH6:=xc.of_eq hl3 hUl3;have el3:=xh hUl3;clear hUl3;walk_at"w";have en3':H5 n3=some (.tup [.str "mark",.int (1 - bI st.mr),.str "open"]):=en3;rw[e1]at en3';have s26:=sH3.trans (sH4.trans (sH5.trans sH6));refine⟨l3,wl,_,_,rfl,rfl,el3,s26.at ewl,(by simp[aQ]),?_⟩;intro l4 hl4;generalize hUl4:upd H6 l4 _=H7;have sH7:=xc.of_eq hl4 hUl4;have el4:=xh hUl4;clear hUl4;walk_at"w";refine⟨l4,rfl,s26.trans sH7,[n1,n2,n3,w1],el4,?_⟩;rw[←hy0];exact .cons ((sH4.trans (sH5.trans (sH6.trans sH7))).at en1) (.cons ((sH5.trans (sH6.trans sH7)).at en2) (.cons ((sH6.trans sH7).at en3') (.cons ((sH2.trans (s26.trans sH7)).at ew1') .nil)))
      ·have c9':st.mark (!st.mr)=("open":Str):=of_decide_eq_true (p:=st.mark (!st.mr)=aN "open") (by rw[←bh];exact c9);rw[if_pos c9']at hy0;walk_at"w";refine⟨wl,rfl,xc.refl _,[w1],ewl,?_⟩;rw[←hy0];exact .cons (sH2.at ew1') .nil
     rintro σ' G ⟨wl',rfl,sG,ts,ets,hts⟩;have hlen:ts.length≤4:=by
      rw[hts.length,aY];rw[←hy0];split<;> simp
     have s0G:=sH1.trans (sH2.trans sG);cases good with
     |true=>
      walk_at"w";refine⟨fun _=>?_,by walk_at"no"⟩;walk_at"w";walk_at"ss";intro x1 hx1;generalize hUx1:upd G x1 _=G1;have sG1:=xc.of_eq hx1 hUx1;have ex1:=xh hUx1;clear hUx1;walk_at"w";walk_at"ss";intro x2 hx2;generalize hUx2:upd G1 x2 _=G2;have sG2:=xc.of_eq hx2 hUx2;have ex2:=xh hUx2;clear hUx2;walk_at"w";walk_at"ss";intro x3 hx3;generalize hUx3:upd G2 x3 _=G3;have sG3:=xc.of_eq hx3 hUx3;have ex3:=xh hUx3;clear hUx3;walk_at"w";have ex2':G2 x2=some (.tup [.str "mark",.int (1 - bI st.mr),.str "trial"]):=ex2;rw[e1]at ex2';have sg3:=sG1.trans (sG2.trans sG3);refine⟨wl',x3,_,_,rfl,rfl,sg3.at ets,ex3,(by simp[aQ];lia),?_⟩;intro x4 hx4;generalize hUx4:upd G3 x4 _=G4;have sG4:=xc.of_eq hx4 hUx4;have ex4:=xh hUx4;clear hUx4;walk_at"w";walk_at"ss";intro pp hpp;generalize hUpp:upd G4 pp _=G5;have sG5:=xc.of_eq hpp hUpp;have epp:=xh hUpp;clear hUpp;walk_at"w";refine q _ G5 (s0G.trans (sg3.trans (sG4.trans sG5))) ⟨pp,x4,rfl,(by rw[epp,hrun];rfl),ts++[x1,x2],(by rw[sG5.at ex4,bw];rfl),?_⟩;rw[if_pos rfl,show y0++Wr.leng (!st.mr) n::[Wr.cter tries,.mark (!st.mr) "trial"]=(y0++[.leng (!st.mr) n])++[Wr.cter tries,.mark (!st.mr) "trial"]by simp];exact yr (L2.Paired.imp' (fun _ _ z=>(sg3.trans (sG4.trans sG5)).at z) hts) (.cons ((sG2.trans (sG3.trans (sG4.trans sG5))).at ex1) (.cons ((sG3.trans (sG4.trans sG5)).at ex2') .nil))
     |false=>
      walk_at"w";refine⟨by walk_at"no",fun _=>?_⟩;walk_at"w";walk_at"ss";intro x2 hx2;generalize hUx2:upd G x2 _=G2;have sG2:=xc.of_eq hx2 hUx2;have ex2:=xh hUx2;clear hUx2;walk_at"w";walk_at"ss";intro x3 hx3;generalize hUx3:upd G2 x3 _=G3;have sG3:=xc.of_eq hx3 hUx3;have ex3:=xh hUx3;clear hUx3;walk_at"w";have ex2':G2 x2=some (.tup [.str "mark",.int (1 - bI st.mr),.str "bad"]):=ex2;rw[e1]at ex2';have sg3:=sG2.trans sG3;refine⟨wl',x3,_,_,rfl,rfl,sg3.at ets,ex3,(by simp[aQ];lia),?_⟩;intro x4 hx4;generalize hUx4:upd G3 x4 _=G4;have sG4:=xc.of_eq hx4 hUx4;have ex4:=xh hUx4;clear hUx4;walk_at"w";walk_at"ss";intro pp hpp;generalize hUpp:upd G4 pp _=G5;have sG5:=xc.of_eq hpp hUpp;have epp:=xh hUpp;clear hUpp;walk_at"w";refine q _ G5 (s0G.trans (sg3.trans (sG4.trans sG5))) ⟨pp,x4,rfl,(by rw[epp,hrun];rfl),ts++[x2],(by rw[sG5.at ex4,bw];rfl),?_⟩;rw[if_neg (by simp),show y0++Wr.leng (!st.mr) n::[Wr.mark (!st.mr) "bad"]=(y0++[.leng (!st.mr) n])++[Wr.mark (!st.mr) "bad"]by simp];exact yr (L2.Paired.imp' (fun _ _ z=>(sg3.trans (sG4.trans sG5)).at z) hts) (.cons ((sG3.trans (sG4.trans sG5)).at ex2') .nil)
   ·have c1':st.mark (!st.mr)=("open":Str):=of_decide_eq_true (p:=st.mark (!st.mr)=aN "open") (by rw[←bh];exact c1);have hh:yM st o=true:=by unfold yM;rw[decide_eq_true c1'];simp
    rw[if_neg hnn,if_pos hh]at q;unfold xdQ at q;walk_at"w"
    first|refine⟨p,_,_,.int n,rfl,rfl,SqT.of hp,rfl,?_⟩|(refine⟨by walk_at"no",fun _=>?_⟩;walk_at"w";refine⟨p,_,_,.int n,rfl,rfl,SqT.of hp,rfl,?_⟩)
    walk_at"w";walk_at"ss";intro w1 hw1;generalize hUw1:upd H w1 _=H1;have sH1:=xc.of_eq hw1 hUw1;have ew1:=xh hUw1;clear hUw1;walk_at"w";walk_at"ss";intro wl hwl;generalize hUwl:upd H1 wl _=H2;have sH2:=xc.of_eq hwl hUwl;have ewl:=xh hUwl;clear hUwl;walk_at"w";have ew1':H1 w1=some (.tup [.str "length",.int (1 - bI st.mr),.int n]):=ew1;rw[e1]at ew1';generalize hy0:(if st.mark (!st.mr)=("open":Str)then[]else[Wr.note (!st.mr) 0 0,.note (!st.mr) 1 0,.mark (!st.mr) "open"])=y0 at q;refine⟨fun σ' G=>∃wl',σ'=[some (.ref t),some (.ref p),some (.bl good),some (.int tries),some (.int (bI st.mr)),some (.ref m),some (.ref l),some (.int st.ct),some (.int (bI rb)),some (.int (1 - bI st.mr)),some (.ref wl')]∧xc H2 G∧xkF G wl' (y0++[.leng (!st.mr) n]),?_,?_⟩
    ·walk_at"w";refine⟨m,_,_,_,rfl,rfl,SqL.of ((sH1.trans sH2).at h2),atM,?_⟩;walk_at"w";refine⟨fun c9=>?_,fun c9=>?_⟩
     ·have c9':¬st.mark (!st.mr)=("open":Str):=fun z=>by
       rw[show aN "open"=("open":Str)from rfl,decide_eq_true z]at c9;cases c9
      rw[if_neg c9']at hy0;walk_at"w";walk_at"ss";intro n1 hn1;generalize hUn1:upd H2 n1 _=H3;have sH3:=xc.of_eq hn1 hUn1;have en1:=xh hUn1;clear hUn1;walk_at"w";walk_at"ss";intro n2 hn2;generalize hUn2:upd H3 n2 _=H4;have sH4:=xc.of_eq hn2 hUn2;have en2:=xh hUn2;clear hUn2;walk_at"w";walk_at"ss";intro n3 hn3;generalize hUn3:upd H4 n3 _=H5;have sH5:=xc.of_eq hn3 hUn3;have en3:=xh hUn3;clear hUn3;walk_at"w";walk_at"ss";intro l3 hl3;generalize hUl3:upd H5 l3 _=H6;have sH6:=xc.of_eq hl3 hUl3;have el3:=xh hUl3;clear hUl3;walk_at"w";have en3':H5 n3=some (.tup [.str "mark",.int (1 - bI st.mr),.str "open"]):=en3;rw[e1]at en3';have s26:=sH3.trans (sH4.trans (sH5.trans sH6));refine⟨l3,wl,_,_,rfl,rfl,el3,s26.at ewl,(by simp[aQ]),?_⟩;intro l4 hl4;generalize hUl4:upd H6 l4 _=H7;have sH7:=xc.of_eq hl4 hUl4;have el4:=xh hUl4;clear hUl4;walk_at"w";refine⟨l4,rfl,s26.trans sH7,[n1,n2,n3,w1],el4,?_⟩;rw[←hy0];exact .cons ((sH4.trans (sH5.trans (sH6.trans sH7))).at en1) (.cons ((sH5.trans (sH6.trans sH7)).at en2) (.cons ((sH6.trans sH7).at en3') (.cons ((sH2.trans (s26.trans sH7)).at ew1') .nil)))
     ·have c9':st.mark (!st.mr)=("open":Str):=of_decide_eq_true (p:=st.mark (!st.mr)=aN "open") (by rw[←bh];exact c9);rw[if_pos c9']at hy0;walk_at"w";refine⟨wl,rfl,xc.refl _,[w1],ewl,?_⟩;rw[←hy0];exact .cons (sH2.at ew1') .nil
    rintro σ' G ⟨wl',rfl,sG,ts,ets,hts⟩;have hlen:ts.length≤4:=by
     rw[hts.length,aY];rw[←hy0];split<;> simp
    have s0G:=sH1.trans (sH2.trans sG);cases good with
    |true=>
     walk_at"w";refine⟨fun _=>?_,by walk_at"no"⟩;walk_at"w";walk_at"ss";intro x1 hx1;generalize hUx1:upd G x1 _=G1;have sG1:=xc.of_eq hx1 hUx1;have ex1:=xh hUx1;clear hUx1;walk_at"w";walk_at"ss";intro x2 hx2;generalize hUx2:upd G1 x2 _=G2;have sG2:=xc.of_eq hx2 hUx2;have ex2:=xh hUx2;clear hUx2;walk_at"w";walk_at"ss";intro x3 hx3;generalize hUx3:upd G2 x3 _=G3;have sG3:=xc.of_eq hx3 hUx3;have ex3:=xh hUx3;clear hUx3;walk_at"w";have ex2':G2 x2=some (.tup [.str "mark",.int (1 - bI st.mr),.str "trial"]):=ex2;rw[e1]at ex2';have sg3:=sG1.trans (sG2.trans sG3);refine⟨wl',x3,_,_,rfl,rfl,sg3.at ets,ex3,(by simp[aQ];lia),?_⟩;intro x4 hx4;generalize hUx4:upd G3 x4 _=G4;have sG4:=xc.of_eq hx4 hUx4;have ex4:=xh hUx4;clear hUx4;walk_at"w";walk_at"ss";intro pp hpp;generalize hUpp:upd G4 pp _=G5;have sG5:=xc.of_eq hpp hUpp;have epp:=xh hUpp;clear hUpp;walk_at"w";refine q _ G5 (s0G.trans (sg3.trans (sG4.trans sG5))) ⟨pp,x4,rfl,(by rw[epp,hrun];rfl),ts++[x1,x2],(by rw[sG5.at ex4,bw];rfl),?_⟩;rw[if_pos rfl,show y0++Wr.leng (!st.mr) n::[Wr.cter tries,.mark (!st.mr) "trial"]=(y0++[.leng (!st.mr) n])++[Wr.cter tries,.mark (!st.mr) "trial"]by simp];exact yr (L2.Paired.imp' (fun _ _ z=>(sg3.trans (sG4.trans sG5)).at z) hts) (.cons ((sG2.trans (sG3.trans (sG4.trans sG5))).at ex1) (.cons ((sG3.trans (sG4.trans sG5)).at ex2') .nil))
    |false=>
     walk_at"w";refine⟨by walk_at"no",fun _=>?_⟩;walk_at"w";walk_at"ss";intro x2 hx2;generalize hUx2:upd G x2 _=G2;have sG2:=xc.of_eq hx2 hUx2;have ex2:=xh hUx2;clear hUx2;walk_at"w";walk_at"ss";intro x3 hx3;generalize hUx3:upd G2 x3 _=G3;have sG3:=xc.of_eq hx3 hUx3;have ex3:=xh hUx3;clear hUx3;walk_at"w";have ex2':G2 x2=some (.tup [.str "mark",.int (1 - bI st.mr),.str "bad"]):=ex2;rw[e1]at ex2';have sg3:=sG2.trans sG3;refine⟨wl',x3,_,_,rfl,rfl,sg3.at ets,ex3,(by simp[aQ];lia),?_⟩;intro x4 hx4;generalize hUx4:upd G3 x4 _=G4;have sG4:=xc.of_eq hx4 hUx4;have ex4:=xh hUx4;clear hUx4;walk_at"w";walk_at"ss";intro pp hpp;generalize hUpp:upd G4 pp _=G5;have sG5:=xc.of_eq hpp hUpp;have epp:=xh hUpp;clear hUpp;walk_at"w";refine q _ G5 (s0G.trans (sg3.trans (sG4.trans sG5))) ⟨pp,x4,rfl,(by rw[epp,hrun];rfl),ts++[x2],(by rw[sG5.at ex4,bw];rfl),?_⟩;rw[if_neg (by simp),show y0++Wr.leng (!st.mr) n::[Wr.mark (!st.mr) "bad"]=(y0++[.leng (!st.mr) n])++[Wr.mark (!st.mr) "bad"]by simp];exact yr (L2.Paired.imp' (fun _ _ z=>(sg3.trans (sG4.trans sG5)).at z) hts) (.cons ((sG3.trans (sG4.trans sG5)).at ex2') .nil)
end
section
variable {P:ai} {w:World} {K:ag} {mg:Str→Option Value} {base:Heap} {a:Adr}
theorem xos(T:Txt K mg a):xA P w K mg base CX0 2 a.q4a a.xhX ["_law_stand","_law_deed_here","_law_paper_here","_law_good","_law_tries"] xmM:=by
 refine T.q4b.ok xjt (fun vs H Q E h=>?_) (fun cdv A outer s H vs Q E hr h=>?_)
 ·obtain⟨t,p,tt,s,L,d,o,n,tries,good,rfl,_⟩:=h;rfl
 ·obtain⟨t,p,tt,st,L,d,o,n,tries,good,rfl,hd3,hS,hc,hp,ho,q⟩:=h;have nd:=xjt.nd;refine⟨_,(xf (jx (cv 0) (uu rfl (xK (xF (i:=5) nd rfl (ay rfl)) (xK (xF (i:=6) nd rfl (ay rfl)) (xK (xF (i:=7) nd rfl (ay rfl)) (xK (xF (i:=8) nd rfl (ay rfl)) (xK (xF (i:=9) nd rfl (ay rfl)) zu)))))))
  (xf (xx (i:=10) nd rfl (ay rfl) (xJ zC xl (cv 5)))
  (xf (xI (xH zD (cv 1) xl) (xk (xr (xG (xmN T) (hr.mono (by decide)) (by rfl) T.xnX T.q3P.kp T.xnW .nil xu (xa (cv 0) xg)))) xt)
  (xf (xI (xH zD (cv 1) xl) (xk (xr (xG (xlN T) (hr.mono (by decide)) (by rfl) T.xmu T.q3u.kp T.xmt .nil xu (xa (cv 0) (xa (cv 2) (xa (cv 3) (xa (cv 4) xg))))))) xt)
  (xf (xI (vJ (cv 9)) (xk (xr yh)) xt)
  (xf (xI (xH zD (cv 1) xl) (xf (xI (PW.pt (va (xH vH (xy xU (cv 6) (cv 10) (fun _ _=>rfl)) xv) (uW (xH xa8 (cv 9) (cv 10))))) (xk (xr yh)) xt)
  (xk (xr (xO (xa (yd (xa (xO (xa xv (xa (cv 10) (xa xv xg)))) (xa (xO (xa xv (xa (cv 10) xg))) xg))) (xa (cv 9) (xa yh xg))))))) xt)
  (xf (xI (xH vH (xy xU (cv 6) (cv 10) (fun _ _=>rfl)) xv) (xk (xr yh)) xt)
  (xk (xr (xO (xa (yd (xa (xO (xa xv (xa (cv 10) xg))) xg)) (xa yh (xa yh xg))))))))))))),?_⟩
  obtain⟨m,l,h1,h2,h3,_⟩:=id hS;have e1:(1:Int) - bI st.mr=bI (!st.mr):=by cases st.mr<;> rfl
  have atM:atI [V.str (st.mark false),V.str (st.mark true)] (1 - bI st.mr)=some (.str (st.mark (!st.mr))):=by cases st.mr<;> rfl
  walk_at"w";refine⟨t,_,rfl,SqT.of h1,rfl,?_⟩;walk_at"w";refine⟨_,_,rfl,?_⟩;walk_at"w";refine⟨_,_,rfl,?_⟩;walk_at"w";refine⟨_,_,rfl,?_⟩;walk_at"w";refine⟨_,_,rfl,?_⟩;walk_at"w";refine⟨_,_,rfl,?_⟩;walk_at"w";refine bo rfl ?_;walk_at"w";have hdc:d=0∨d=1∨d=2∨d=3:=by lia
  rcases hdc with rfl|rfl|rfl|rfl
  ·refine⟨fun _=>?_,by walk_at"no"⟩;walk_at"w";exact⟨t,st,L,rfl,hS,hc,q⟩
  ·refine⟨by walk_at"no",fun _=>?_⟩;walk_at"w";refine⟨fun _=>?_,by walk_at"no"⟩;walk_at"w";exact⟨t,p,tt,st,L,o,n,tries,good,rfl,hS,hp,ho,q⟩
  ·have q:∀v H',xc H H'→xb2 H' v (if st.run=some (!st.mr)∧st.mark (!st.mr)=("trial":Str)then some ([.mark (!st.mr) "good",.mrk (!st.mr)],st.run,.non)else none)→Q v H':=q;refine⟨by walk_at"no",fun _=>?_⟩;walk_at"w";refine⟨by walk_at"no",fun _=>?_⟩;walk_at"w";cases hrun:st.run with
   |none=>
    refine⟨fun _=>?_,by walk_at"no"⟩;walk_at"w";exact q .non H (xc.refl _) (by rw[if_neg (fun z=>by have:=z.1;rw[hrun]at this;cases this)];rfl)
   |some rb=>
    refine⟨by walk_at"no",fun _=>?_⟩;walk_at"w";refine⟨fun _=>?_,by walk_at"no"⟩;walk_at"w";refine⟨m,_,_,_,rfl,rfl,SqL.of h2,atM,?_⟩;walk_at"w";refine⟨fun c=>?_,fun c=>?_⟩
    ·have c':¬st.mark (!st.mr)=("trial":Str):=fun z=>by
      rw[show aN "trial"=("trial":Str)from rfl,decide_eq_true z]at c;cases c
     walk_at"w"
     first|exact q .non H (xc.refl _) (by rw[if_neg (fun z=>c' z.2)];rfl)|(refine⟨fun _=>?_,by walk_at"no"⟩;walk_at"w";exact q .non H (xc.refl _) (by rw[if_neg (fun z=>c' z.2)];rfl))
    have c':st.mark (!st.mr)=("trial":Str):=of_decide_eq_true (p:=st.mark (!st.mr)=aN "trial") (by rw[←bh];exact c);walk_at"w";refine⟨fun c2=>?_,fun c2=>?_⟩
    ·have c2':¬bI rb=1 - bI st.mr:=fun z=>by
      rw[decide_eq_true z]at c2;cases c2
     walk_at"w";refine q .non H (xc.refl _) ?_;rw[if_neg (fun z=>?_)]
     ·rfl
     have z1:=z.1;rw[hrun]at z1;exact c2' (by rw[aX z1,e1])
    have c2':bI rb=1 - bI st.mr:=of_decide_eq_true (by rw[←bh];exact c2);have erb:rb= !st.mr:=by
     rw[e1]at c2';cases hb:rb<;> cases hm:st.mr<;> rw[hb,hm]at c2'<;> first|rfl|exact absurd c2' (by decide)
    walk_at"w";walk_at"ss";intro w1 hw1;generalize hUw1:upd H w1 _=H1;have sH1:=xc.of_eq hw1 hUw1;have ew1:=xh hUw1;clear hUw1;walk_at"w";walk_at"ss";intro w2 hw2;generalize hUw2:upd H1 w2 _=H2;have sH2:=xc.of_eq hw2 hUw2;have ew2:=xh hUw2;clear hUw2;walk_at"w";walk_at"ss";intro wl hwl;generalize hUwl:upd H2 wl _=H3;have sH3:=xc.of_eq hwl hUwl;have ewl:=xh hUwl;clear hUwl;walk_at"w";walk_at"ss";intro pp hpp;generalize hUpp:upd H3 pp _=H4;have sH4:=xc.of_eq hpp hUpp;have epp:=xh hUpp;clear hUpp;walk_at"w";have ew1':H1 w1=some (.tup [.str "mark",.int (1 - bI st.mr),.str "good"]):=ew1;have ew2':H2 w2=some (.tup [.str "marker",.int (1 - bI st.mr)]):=ew2;rw[e1]at ew1' ew2';refine q _ H4 (sH1.trans (sH2.trans (sH3.trans sH4))) ?_;rw[if_pos ⟨by rw[hrun,erb],c'⟩];exact⟨pp,wl,rfl,(by rw[epp,hrun]),[w1,w2],sH4.at ewl,.cons ((sH2.trans (sH3.trans sH4)).at ew1') (.cons ((sH3.trans sH4).at ew2') .nil)⟩
  ·have q:∀v H',xc H H'→xb2 H' v (if st.run≠none∧st.mark (!st.mr)=("good":Str)then some ([.mrk (!st.mr)],none,.non)else none)→Q v H':=q;refine⟨by walk_at"no",fun _=>?_⟩;walk_at"w";refine⟨by walk_at"no",fun _=>?_⟩;walk_at"w";cases hrun:st.run with
   |none=>
    refine⟨fun _=>?_,by walk_at"no"⟩;walk_at"w";exact q .non H (xc.refl _) (by rw[if_neg (fun z=>z.1 hrun)];rfl)
   |some rb=>
    refine⟨by walk_at"no",fun _=>?_⟩;walk_at"w";refine⟨by walk_at"no",fun _=>?_⟩;walk_at"w";refine⟨m,_,_,_,rfl,rfl,SqL.of h2,atM,?_⟩;walk_at"w";refine⟨fun c=>?_,fun c=>?_⟩
    ·have c':¬st.mark (!st.mr)=("good":Str):=fun z=>by
      rw[show aN "good"=("good":Str)from rfl,decide_eq_true z]at c;cases c
     walk_at"w";exact q .non H (xc.refl _) (by rw[if_neg (fun z=>c' z.2)];rfl)
    have c':st.mark (!st.mr)=("good":Str):=of_decide_eq_true (p:=st.mark (!st.mr)=aN "good") (by rw[←bh];exact c);walk_at"w";walk_at"ss";intro w2 hw2;generalize hUw2:upd H w2 _=H2;have sH2:=xc.of_eq hw2 hUw2;have ew2:=xh hUw2;clear hUw2;walk_at"w";walk_at"ss";intro wl hwl;generalize hUwl:upd H2 wl _=H3;have sH3:=xc.of_eq hwl hUwl;have ewl:=xh hUwl;clear hUwl;walk_at"w";walk_at"ss";intro pp hpp;generalize hUpp:upd H3 pp _=H4;have sH4:=xc.of_eq hpp hUpp;have epp:=xh hUpp;clear hUpp;walk_at"w";have ew2':H2 w2=some (.tup [.str "marker",.int (1 - bI st.mr)]):=ew2;rw[e1]at ew2';refine q _ H4 (sH2.trans (sH3.trans sH4)) ?_;rw[if_pos ⟨by rw[hrun];simp,c'⟩];exact⟨pp,wl,rfl,epp,[w2],sH4.at ewl,.cons ((sH3.trans sH4).at ew2') .nil⟩
def xi6:Sp:=fun vs H Q _=>∃(t wt:Addr) (s:BdS) (L:List Addr) (y:Wr),vs=[.ref t,.ref wt]∧S5 H t s L∧Liv H L∧WAt H wt y∧(∀b i v,y≠.cell b i v)∧∀(t':Addr) (H':Hp),xc H H'→S5 H' t' (y.up s) L→Q (.ref t') H'
theorem xm9{te:TE}{caps:L2.St}{Q:VK}{H2:Hp}(v:Bool→V)(hs:∀(b:Bool) (H3:Hp),xc H2 H3→∀R:VK,(∀H6,xc H3 H6→R (v b) H6)→te (some (.int (bI b))::caps) H3 R)
  (hd:∀(D:Addr) (H':Hp),H2 D=none→xc H2 H'→H' D=some (.lst [v false,v true])→Q (.ref D) H'):zj (Its 0 1 (yt 0 2 1)) caps xf2 te Q H2:=by
 rw[show yt 0 2 1=2 from rfl];refine xgS (fun i acc _=>acc=[v false,v true].take i) (by decide) rfl (fun i acc H3 H3' hi s3 s3' hP R hR=>?_) (fun D acc H H' hD _ s3 s3' hP _ hv=>hd D H' hD (s3.trans s3') (by rw[hv,hP];rfl));subst hP
 match i,hi with
 |0,_=>exact hs false H3' (s3.trans s3') R fun H6 s6=>hR _ H6 s6 fun _ _ _=>rfl
 |1,_=>exact hs true H3' (s3.trans s3') R fun H6 s6=>hR _ H6 s6 fun _ _ _=>rfl
theorem xna{b c:Bool}:(!decide (bI b=bI c))=true↔b≠c:=by cases b<;> cases c<;> decide
theorem xnb{b c:Bool}:(!decide (bI b=bI c))=false↔b=c:=by cases b<;> cases c<;> decide
theorem xkG(T:Txt K mg a):xA P w K mg base CX0 1 a.q23 a.xdu ["_law_stand","_law_write"] xi6:=by
 refine T.q29.ok xfF (fun vs H Q E h=>?_) (fun cdv A outer s H vs Q E hr h=>?_)
 ·obtain⟨t,wt,s,L,y,rfl,_⟩:=h;rfl
 ·obtain⟨t,wt,st,L,y,rfl,hS,hL,hw,hnc,q⟩:=h;have nd:=xfF.nd;refine⟨_,(xf (jx (cv 0) (uu rfl (xK (xF (i:=2) nd rfl (ay rfl)) (xK (xF (i:=3) nd rfl (cx rfl)) (xK (xF (i:=4) nd rfl (cx rfl)) (xK (xF (i:=5) nd rfl (ay rfl)) (xK (xF (i:=6) nd rfl (ay rfl)) zu)))))))
  (xf (xI (xH ju (xy xM (cv 1) xl (fun _ _=>rfl)) xv) (xk (xr (xO (xa (xy xM (cv 1) xl (fun _ _=>rfl)) (xa (cv 3) (xa (cv 4) (xa (cv 5) (xa (cv 6) xg)))))))) xt)
  (xf (xI (xH ju (xy xM (cv 1) xl (fun _ _=>rfl)) xv) (xk (xr (xO (xa (cv 2) (xa (cv 3) (xa (cv 4) (xa (xy xM (cv 1) xl (fun _ _=>rfl)) (xa (cv 6) xg)))))))) xt)
  (xf (zQ (xI (xH ju (xy xM (cv 1) xl (fun _ _=>rfl)) xv) (xk (xx (i:=3) nd rfl (cx rfl) (jh (vI (cap:=[1,3]) (ys:=["_law_write","_law_marks"]) rfl rfl rfl rfl rfl ⟨⟨rfl,rfl,.inl rfl⟩,⟨⟨rfl,rfl,.inl rfl⟩,trivial⟩⟩ (by decide+kernel)) rfl (xa9 (by rfl) T.q1U (xa xl xg)) (fun _ _ _ _=>(xmX (xH xa8 (cv 0) (xy (xdZ (K:=K) rfl) (cv 1) xl (fun _ _=>rfl))) (xy (xhN (K:=K) rfl) (cv 2) (cv 0) (fun _ _=>rfl)) (xy (xdZ (K:=K) rfl) (cv 1) xl (fun _ _=>rfl)))) (fun _ _ _ _=>vw)))) xt))
  (xf (zQ (xI (xH ju (xy xM (cv 1) xl (fun _ _=>rfl)) xv) (xk (xx (i:=4) nd rfl (cx rfl) (jh (vI (cap:=[1,4]) (ys:=["_law_write","_law_lengths"]) rfl rfl rfl rfl rfl ⟨⟨rfl,rfl,.inl rfl⟩,⟨⟨rfl,rfl,.inl rfl⟩,trivial⟩⟩ (by decide+kernel)) rfl (xa9 (by rfl) T.q1U (xa xl xg)) (fun _ _ _ _=>(xmX (xH xa8 (cv 0) (xy (xdZ (K:=K) rfl) (cv 1) xl (fun _ _=>rfl))) (xy (xhN (K:=K) rfl) (cv 2) (cv 0) (fun _ _=>rfl)) (xy (xdZ (K:=K) rfl) (cv 1) xl (fun _ _=>rfl)))) (fun _ _ _ _=>vw)))) xt))
  (xk (xr (xO (xa (cv 2) (xa (cv 3) (xa (cv 4) (xa (cv 5) (xa (cv 6) xg))))))))))))),?_⟩
  obtain⟨m,l,h1,h2,h3,o1,o2⟩:=id hS;walk_at"w";refine⟨t,_,rfl,SqT.of h1,rfl,?_⟩;walk_at"w";refine⟨_,_,rfl,?_⟩;walk_at"w";refine⟨_,_,rfl,?_⟩;walk_at"w";refine⟨_,_,rfl,?_⟩;walk_at"w";refine⟨_,_,rfl,?_⟩;walk_at"w";refine⟨_,_,rfl,?_⟩;walk_at"w";refine bo rfl ?_;walk_at"w";cases y with
  |cell b i v=>exact absurd rfl (hnc b i v)
  |mrk b=>
   have hw:H wt=some (.tup [.str "marker",.int (bI b)]):=hw;refine⟨wt,_,_,.str "marker",rfl,rfl,SqT.of hw,rfl,?_⟩;walk_at"w";refine⟨fun _=>?_,by walk_at"no"⟩;walk_at"w";refine⟨wt,_,_,.int (bI b),rfl,rfl,SqT.of hw,rfl,?_⟩;walk_at"w";walk_at"ss";intro tn htn;generalize hUtn:upd H tn _=H1;have sH1:=xc.of_eq htn hUtn;have etn:=xh hUtn;clear hUtn;walk_at"w";exact q tn H1 sH1 ⟨m,l,etn,sH1.at h2,sH1.at h3,o1,o2⟩
  |cter v=>
   have hw:H wt=some (.tup [.str "tries",.int v]):=hw;refine⟨wt,_,_,.str "tries",rfl,rfl,SqT.of hw,rfl,?_⟩;walk_at"w";refine⟨by walk_at"no",fun _=>?_⟩;walk_at"w";refine⟨wt,_,_,.str "tries",rfl,rfl,SqT.of hw,rfl,?_⟩;walk_at"w";refine⟨fun _=>?_,by walk_at"no"⟩;walk_at"w";refine⟨wt,_,_,.int v,rfl,rfl,SqT.of hw,rfl,?_⟩;walk_at"w";walk_at"ss";intro tn htn;generalize hUtn:upd H tn _=H1;have sH1:=xc.of_eq htn hUtn;have etn:=xh hUtn;clear hUtn;walk_at"w";exact q tn H1 sH1 ⟨m,l,etn,sH1.at h2,sH1.at h3,o1,o2⟩
  |note b i v=>
   have hw:H wt=some (.tup [.str "note"]):=hw;refine⟨wt,_,_,.str "note",rfl,rfl,SqT.of hw,rfl,?_⟩;walk_at"w";refine⟨by walk_at"no",fun _=>?_⟩;walk_at"w";refine⟨wt,_,_,.str "note",rfl,rfl,SqT.of hw,rfl,?_⟩;walk_at"w";refine⟨by walk_at"no",fun _=>?_⟩;walk_at"w";refine⟨fun σ' G=>σ'=[some (.ref t),some (.ref wt),some (.int (bI st.mr)),some (.ref m),some (.ref l),some (.int st.ct),some (yC st.run)]∧H=G,?_,?_⟩
   ·walk_at"w";refine⟨wt,_,_,.str "note",rfl,rfl,SqT.of hw,rfl,?_⟩;walk_at"w";refine⟨by walk_at"no",fun _=>?_⟩;exact⟨rfl,rfl⟩
   rintro σ' _ ⟨rfl,rfl⟩;walk_at"w";refine⟨fun σ' G=>σ'=[some (.ref t),some (.ref wt),some (.int (bI st.mr)),some (.ref m),some (.ref l),some (.int st.ct),some (yC st.run)]∧H=G,?_,?_⟩
   ·walk_at"w";refine⟨wt,_,_,.str "note",rfl,rfl,SqT.of hw,rfl,?_⟩;walk_at"w";refine⟨by walk_at"no",fun _=>?_⟩;exact⟨rfl,rfl⟩
   rintro σ' _ ⟨rfl,rfl⟩;walk_at"w";walk_at"ss";intro tn htn;generalize hUtn:upd H tn _=H1;have sH1:=xc.of_eq htn hUtn;have etn:=xh hUtn;clear hUtn;walk_at"w";exact q tn H1 sH1 ⟨m,l,etn,sH1.at h2,sH1.at h3,o1,o2⟩
  |mark b v=>
   have hw:H wt=some (.tup [.str "mark",.int (bI b),.str v]):=hw;refine⟨wt,_,_,.str "mark",rfl,rfl,SqT.of hw,rfl,?_⟩;walk_at"w";refine⟨by walk_at"no",fun _=>?_⟩;walk_at"w";refine⟨wt,_,_,.str "mark",rfl,rfl,SqT.of hw,rfl,?_⟩;walk_at"w";refine⟨by walk_at"no",fun _=>?_⟩;walk_at"w";refine⟨fun σ' G=>∃m',σ'=[some (.ref t),some (.ref wt),some (.int (bI st.mr)),some (.ref m'),some (.ref l),some (.int st.ct),some (yC st.run)]∧xc H G∧H m'=none∧G m'=some (.lst [.str (upB st.mark b v false),.str (upB st.mark b v true)]),?_,?_⟩
   ·walk_at"w";refine⟨wt,_,_,.str "mark",rfl,rfl,SqT.of hw,rfl,?_⟩;walk_at"w";refine⟨fun _=>?_,by walk_at"no"⟩;walk_at"w";refine xm9 (fun c=>.str (upB st.mark b v c)) (fun c H3 s3 R hR=>?_) (fun tl H2 htl s2 etl=>?_)
    ·walk_at"w";refine⟨wt,_,_,.int (bI b),rfl,rfl,SqT.of (s3.at hw),rfl,?_⟩;walk_at"w";refine⟨fun e=>?_,fun e=>?_⟩
     ·have e:=xna.mp e;walk_at"w";refine⟨m,_,_,.str (st.mark c),rfl,rfl,SqL.of (s3.at h2),by cases c<;> rfl,?_⟩;have:=hR H3 (xc.refl _);rw[show upB st.mark b v c=st.mark c from if_neg e]at this;exact this
     ·have e:=xnb.mp e;walk_at"w";refine⟨wt,_,_,.str v,rfl,rfl,SqT.of (s3.at hw),rfl,?_⟩;have:=hR H3 (xc.refl _);rw[show upB st.mark b v c=v from if_pos e]at this;exact this
    exact⟨tl,rfl,s2,htl,etl⟩
   rintro σ' G ⟨m',rfl,sG,hm',em'⟩;walk_at"w";refine⟨fun σ' G'=>σ'=[some (.ref t),some (.ref wt),some (.int (bI st.mr)),some (.ref m'),some (.ref l),some (.int st.ct),some (yC st.run)]∧G=G',?_,?_⟩
   ·walk_at"w";refine⟨wt,_,_,.str "mark",rfl,rfl,SqT.of (sG.at hw),rfl,?_⟩;walk_at"w";refine⟨by walk_at"no",fun _=>?_⟩;exact⟨rfl,rfl⟩
   rintro σ' _ ⟨rfl,rfl⟩;walk_at"w";walk_at"ss";intro tn htn;generalize hUtn:upd G tn _=H1;have sH1:=xc.of_eq htn hUtn;have etn:=xh hUtn;clear hUtn;walk_at"w";exact q tn H1 (sG.trans sH1) ⟨m',l,etn,sH1.at em',(sG.trans sH1).at h3,hL.off hm',o2⟩
  |leng b v=>
   have hw:H wt=some (.tup [.str "length",.int (bI b),.int v]):=hw;refine⟨wt,_,_,.str "length",rfl,rfl,SqT.of hw,rfl,?_⟩;walk_at"w";refine⟨by walk_at"no",fun _=>?_⟩;walk_at"w";refine⟨wt,_,_,.str "length",rfl,rfl,SqT.of hw,rfl,?_⟩;walk_at"w";refine⟨by walk_at"no",fun _=>?_⟩;walk_at"w";refine⟨fun σ' G=>σ'=[some (.ref t),some (.ref wt),some (.int (bI st.mr)),some (.ref m),some (.ref l),some (.int st.ct),some (yC st.run)]∧H=G,?_,?_⟩
   ·walk_at"w";refine⟨wt,_,_,.str "length",rfl,rfl,SqT.of hw,rfl,?_⟩;walk_at"w";refine⟨by walk_at"no",fun _=>?_⟩;exact⟨rfl,rfl⟩
   rintro σ' _ ⟨rfl,rfl⟩;walk_at"w";refine⟨fun σ' G=>∃l',σ'=[some (.ref t),some (.ref wt),some (.int (bI st.mr)),some (.ref m),some (.ref l'),some (.int st.ct),some (yC st.run)]∧xc H G∧H l'=none∧G l'=some (.lst [.int (upB st.len b v false),.int (upB st.len b v true)]),?_,?_⟩
   ·walk_at"w";refine⟨wt,_,_,.str "length",rfl,rfl,SqT.of hw,rfl,?_⟩;walk_at"w";refine⟨fun _=>?_,by walk_at"no"⟩;walk_at"w";refine xm9 (fun c=>.int (upB st.len b v c)) (fun c H3 s3 R hR=>?_) (fun tl H2 htl s2 etl=>?_)
    ·walk_at"w";refine⟨wt,_,_,.int (bI b),rfl,rfl,SqT.of (s3.at hw),rfl,?_⟩;walk_at"w";refine⟨fun e=>?_,fun e=>?_⟩
     ·have e:=xna.mp e;walk_at"w";refine⟨l,_,_,.int (st.len c),rfl,rfl,SqL.of (s3.at h3),by cases c<;> rfl,?_⟩;have:=hR H3 (xc.refl _);rw[show upB st.len b v c=st.len c from if_neg e]at this;exact this
     ·have e:=xnb.mp e;walk_at"w";refine⟨wt,_,_,.int v,rfl,rfl,SqT.of (s3.at hw),rfl,?_⟩;have:=hR H3 (xc.refl _);rw[show upB st.len b v c=v from if_pos e]at this;exact this
    exact⟨tl,rfl,s2,htl,etl⟩
   rintro σ' G ⟨l',rfl,sG,hl',el'⟩;walk_at"w";walk_at"ss";intro tn htn;generalize hUtn:upd G tn _=H1;have sH1:=xc.of_eq htn hUtn;have etn:=xh hUtn;clear hUtn;walk_at"w";exact q tn H1 (sG.trans sH1) ⟨m,l',etn,(sG.trans sH1).at h2,sH1.at el',o1,hL.off hl'⟩
end
section
variable {P:ai} {w:World} {K:ag} {mg:Str→Option Value} {base:Heap} {a:Adr}
def xiw(r:Option Int)(an:V):Str×V:=match r with
 |none=>("done",an)
 |some c=>("fallen",.int c)
def jt(F:FM)(s:BdS):Option (List Wr×Option Bool×V)→(Str×V)×BdS
 |none=>(("refused",.non),s)
 |some (ys,rb,an)=>(xiw (xP F s ys).2 an,(zb rb (xP F s ys)).1)
def jw(H:Hp)(t:Addr)(r:Str×V):Prop:=H t=some (.tup [.str r.1,r.2])
theorem xlO{F:FM}{y:Wr}{s:BdS}(h:F.fo s.fl s.cnt=none):(y.up s).alike (w1 F s y):=by rw[vE h];exact⟨rfl,rfl,rfl,rfl,rfl⟩
theorem xpy{F:FM}{y:Wr}{s:BdS}:(w1 F s y).cnt=s.cnt+1:=by unfold w1;split<;> rfl
theorem xpz(x:Int):cy (.tuple [.int x])=true:=by
 unfold cy;have h1:bF (.tuple [.int x])=true:=by simp[bF,gm]
 have h2:dn (.tuple [.int x])≤64:=by simp[dn,gU]
 rw[h1,decide_eq_true h2];rfl
theorem xpA(x:Int):PyData.eqv (.tuple [.int x]) (.tuple [])=false:=rfl
theorem uE{F:FM}{s s1:BdS}{ys:List Wr}{rb:Option Bool}{an:V}{c:Int}(h:xP F s ys=(s1,some c)):jt F s (some (ys,rb,an))=((("fallen":Str),V.int c),({s1 with run:=none}:BdS)):=by
 show(xiw (xP F s ys).2 an,(zb rb (xP F s ys)).1)=_;rw[h];rfl
theorem xbk{F:FM}{s s1:BdS}{ys:List Wr}{rb:Option Bool}{an:V}(h:xP F s ys=(s1,none)):jt F s (some (ys,rb,an))=((("done":Str),an),({s1 with run:=rb}:BdS)):=by
 show(xiw (xP F s ys).2 an,(zb rb (xP F s ys)).1)=_;rw[h];rfl
def xpB(ys:List Wr):Prop:=∀y∈ys,∀b i v,y≠.cell b i v
inductive xjE(vs:List V)(H:Hp)(Q:VK):Prop
 |mk (t:Addr) (v:V) (s:BdS) (L:List Addr) (f:Addr) (c:Int) (pl:Option (List Wr×Option Bool×V)):vs=[.ref t,v,.int c,.int s.cnt]→S5 H t s L→Liv H L→xb2 H v pl→(∀ys rb an,pl=some (ys,rb,an)→xpB ys)→
  (∀(p pr t':Addr) (H':Hp),xc H H'→H' p=some (.tup [.ref pr,.ref t',.int (jt (FLm f c) s pl).2.cnt])→jw H' pr (jt (FLm f c) s pl).1→S5 H' t' (jt (FLm f c) s pl).2 L→Q (.ref p) H')→xjE vs H Q
def xot:Sp:=fun vs H Q _=>xjE vs H Q
theorem xpC(T:Txt K mg a):xA P w K mg base CX0 3 a.q4o a.xkn ["_law_stand","_law_plan","_law_cell","_law_count"] xot:=by
 refine T.q4p.ok xlx (fun vs H Q E h=>?_) (fun cdv A outer s H vs Q E hr h=>?_)
 ·obtain⟨t,v,s,L,f,c,pl,rfl,_⟩:=h;rfl
 ·obtain⟨t,v,st,L,f,c,pl,rfl,hS,hL,hP,hnc,q⟩:=h;have nd:=xlx.nd;refine⟨_,(xf (xI (vJ (cv 1)) (xk (xr (xO (xa (xO (xa xv (xa yh xg))) (xa (cv 0) (xa (cv 3) xg)))))) xt)
  (xf (jx (cv 1) (uu rfl (xK (xF (i:=4) nd rfl (ay rfl)) (xK (xF (i:=5) nd rfl (ay rfl)) (xK (xF (i:=6) nd rfl (ay rfl)) zu)))))
  (xf (yK br rfl (zv (cv 4)) (xF (i:=7) nd rfl (ay rfl)) (xf (xx (i:=8) nd rfl (ay rfl) (xG (xlL T) (hr.mono (by decide)) (by rfl) T.xm2 T.q4h.kp T.xm1 .nil xu (xa (cv 2) (xa (cv 3) xg))))
  (xf (xx (i:=3) nd rfl (ay rfl) (xJ ug (cv 3) xl))
  (xf (zQ (xI (PW.pt (va (vJ (cv 8)) (uW (xH (xfd hr.units) (cv 8) (xO xg))))) (xk (xx (i:=0) nd rfl (ay rfl) (xG (xkG T) (hr.mono (by decide)) (by rfl) T.xlr T.q29.kp T.xlq .nil xu (xa (cv 0) (xa (cv 7) xg))))) xt))
  (xk (xI (xdY (cv 8)) (xk (xr (xO (xa (xO (xa xv (xa (xJ zC (cv 3) xl) xg))) (xa (xJ xjc (jg xkU (cv 0) xam (xan xl)) (xO (xa yh xg))) (xa (cv 3) xg)))))) xt))))))
  (xk (xr (xO (xa (xO (xa xv (xa (cv 6) xg))) (xa (xJ xjc (jg xkU (cv 0) xam (xan xl)) (xO (xa (cv 5) xg))) (xa (cv 3) xg))))))))),?_⟩
  walk_at"w"
  match pl,hP,hnc,q with
  |none,hP,_,q=>
   obtain rfl:v= .non:=hP;refine⟨fun _=>?_,by walk_at"no"⟩;walk_at"w";walk_at"ss";intro pr hpr;generalize hUpr:upd H pr _=H1;have sH1:=xc.of_eq hpr hUpr;have epr:=xh hUpr;clear hUpr;walk_at"w";walk_at"ss";intro p hp;generalize hUp:upd H1 p _=H2;have sH2:=xc.of_eq hp hUp;have ep:=xh hUp;clear hUp;walk_at"w";exact q p pr t H2 (sH1.trans sH2) ep (sH2.at epr) (hS.same (sH1.trans sH2))
  |some (ys,rb,an),hP,hnc,q=>
   obtain⟨pt,wl,rfl,ept,ts,ewl,hts⟩:=hP;have hnc:=hnc ys rb an rfl;refine⟨by walk_at"no",fun _=>?_⟩;walk_at"w";refine⟨pt,_,rfl,SqT.of ept,rfl,?_⟩;walk_at"w";refine⟨_,_,rfl,?_⟩;walk_at"w";refine⟨_,_,rfl,?_⟩;walk_at"w";refine⟨_,_,rfl,?_⟩;walk_at"w";refine bo rfl ?_;walk_at"w";refine⟨wl,rfl,⟨_,SqL.of ewl⟩,?_⟩;refine yN (xs:=ts.map V.ref) (fun i σ G=>xc H G∧∃(t':Addr) (s1:BdS) (y7 y8:Option V),σ=[some (.ref t'),some (.ref pt),some (.int c),some (.int s1.cnt),some (.ref wl),some (yC rb),some an,y7,y8]∧S5 G t' s1 L∧xP (FLm f c) st ys=xP (FLm f c) s1 (ys.drop i))
    ⟨xc.refl _,t,st,_,_,rfl,hS,rfl⟩ (fun i σ G hi hP=>SqL.of (hP.1.at ewl)) (fun i x σ G hx hP=>?_) (fun σ G hP=>?_)
   ·obtain⟨sG,t',s1,y7,y8,rfl,hSG,hW⟩:=hP;rw[aJ]at hx;obtain⟨wt,hwt,rfl⟩:=aR.mp hx;obtain⟨y,hy,hwa⟩:=Paired.nth hts hwt;have hdr:ys.drop i=y::ys.drop (i+1):=by
     rw[bM (aB.mp hy).1];rw[(aB.mp hy).2]
    rw[hdr]at hW;have hny:=hnc y (bf hy);have hfo:(FLm f c).fo s1.fl s1.cnt=xgx c s1.cnt:=rfl;walk_at"w";refine⟨c,s1.cnt,rfl,fun hv G1 s1' hA=>?_⟩;have sG1:=sG.trans s1';have hS1:=hSG.same s1';have hL1:=hL.same sG1;have hw1:WAt G1 wt y:=sG1.at hwa;walk_at"w";cases ho:xgx c s1.cnt with
    |none=>
     rw[ho]at hA;obtain rfl:hv= .non:=hA;rw[ho]at hfo;refine⟨fun σ' G'=>∃t2,σ'=[some (.ref t2),some (.ref pt),some (.int c),some (.int (s1.cnt+1)),some (.ref wl),some (yC rb),some an,some (.ref wt),some .non]∧xc G1 G'∧S5 G' t2 (y.up s1) L,?_,?_⟩
     ·walk_at"w";refine⟨fun _=>?_,by walk_at"no"⟩;walk_at"w";refine⟨fun _=>?_,by walk_at"no"⟩;walk_at"w";exact⟨t',wt,s1,L,y,rfl,hS1,hL1,hw1,hny,fun t2 G2 s2 hS2=>⟨t2,rfl,s2,hS2⟩⟩
     rintro σ' G2 ⟨t2,rfl,s2,hS2⟩;walk_at"w";refine⟨by walk_at"no",fun _=>?_⟩;rw[zi hfo]at hW;refine⟨sG1.trans s2,t2,w1 (FLm f c) s1 y,some (.ref wt),some .non,(by rw[xpy]),hS2.cg (xlO hfo),hW⟩
    |some an'=>
     rw[ho]at hA hfo;have hW':xP (FLm f c) st ys=(w1 (FLm f c) s1 y,some s1.cnt):=by rw[hW,yn (by rw[hfo];simp)]
     cases an' with
     |none=>
      obtain⟨ta,rfl,eta⟩:=hA;have fell:∀(G5:Hp) (p pr t3:Addr),xc H G5→G5 p=some (.tup [.ref pr,.ref t3,.int (s1.cnt+1)])→G5 pr=some (.tup [.str "fallen",.int s1.cnt])→S5 G5 t3 {s1 with run:=none} L→Q (.ref p) G5:=fun G5 p pr t3 z1 z2 z3 z4=>by
       have ew:w1 (FLm f c) s1 y={s1 with cnt:=s1.cnt+1,fl:=s1.fl+1}:=by unfold w1;rw[hfo]
       refine q p pr t3 G5 z1 ?_ ?_ ?_
       ·rw[z2,uE hW',ew]
       ·rw[uE hW'];exact z3
       ·rw[uE hW',ew];exact z4.cg ⟨rfl,rfl,rfl,rfl,rfl⟩
      refine⟨fun σ' G'=>σ'=[some (.ref t'),some (.ref pt),some (.int c),some (.int (s1.cnt+1)),some (.ref wl),some (yC rb),some an,some (.ref wt),some (.ref ta)]∧xc G1 G',?_,?_⟩
      ·walk_at"w";refine⟨by walk_at"no",fun _=>?_⟩;walk_at"w";walk_at"ss";intro e0 he0;generalize hUe0:upd G1 e0 _=G2;have sG2:=xc.of_eq he0 hUe0;have ee0:=xh hUe0;clear hUe0;walk_at"w";refine xcb (f:=fun b=> !b) (d:=.tuple []) (.tup (SqT.of (sG2.at eta)) .nil) (.tup (SqT.of ee0) .nil) (by decide+kernel) ?_;walk_at"w";refine⟨by walk_at"no",fun _=>?_⟩;exact⟨rfl,sG2⟩
      rintro σ' G2 ⟨rfl,s2'⟩;have hS2:=hS1.same s2';obtain⟨t2,rfl⟩:∃t2,t2=t':=⟨_,rfl⟩;obtain⟨s2,rfl⟩:∃s2,s2=s1:=⟨_,rfl⟩;walk_at"w";refine⟨fun _=>?_,by walk_at"no"⟩;obtain⟨m,l,g1,g2,g3,o1,o2⟩:=id hS2;walk_at"w";walk_at"ss";intro pr hpr;generalize hUpr:upd G2 pr _=G3;have sG3:=xc.of_eq hpr hUpr;have epr:=xh hUpr;clear hUpr;walk_at"w";refine⟨_,rfl,?_⟩;walk_at"w";refine⟨t2,_,rfl,SqT.of (sG3.at g1),(by decide:¬(HT.sIx 5 0 none=0∧HT.sIx 5 5 (some 4)=5)),?_⟩;intro sl hsl;generalize hUsl:upd G3 sl _=G4;have sG4:=xc.of_eq hsl hUsl;have esl:=xh hUsl;clear hUsl;walk_at"w";walk_at"ss";intro nt hnt;generalize hUnt:upd G4 nt _=G5;have sG5:=xc.of_eq hnt hUnt;have ent:=xh hUnt;clear hUnt;walk_at"w";have esl':G4 sl=some (.tup [.int (bI s2.mr),.ref m,.ref l,.int s2.ct]):=esl;refine⟨sl,nt,_,_,rfl,rfl,SqT.of (sG5.at esl'),SqT.of ent,by simp,(show 4+1≤aF by rw[aQ];lia),(fun z=>by cases z),fun _=>?_⟩;intro t3 ht3;generalize hUt3:upd G5 t3 _=G6;have sG6:=xc.of_eq ht3 hUt3;have et3:=xh hUt3;clear hUt3;walk_at"w";walk_at"ss";intro p hp;generalize hUp:upd G6 p _=G7;have sG7:=xc.of_eq hp hUp;have ep:=xh hUp;clear hUp;walk_at"w";have s37:=sG3.trans (sG4.trans (sG5.trans (sG6.trans sG7)));have epr':G3 pr=some (.tup [.str "fallen",.int (s2.cnt+1 - 1)]):=epr;rw[show s2.cnt+1 - 1=s2.cnt by lia]at epr';exact fell G7 p pr t3 ((sG1.trans s2').trans s37) ep ((sG4.trans (sG5.trans (sG6.trans sG7))).at epr') ⟨m,l,sG7.at et3,s37.at g2,s37.at g3,o1,o2⟩
     |some x=>
      obtain⟨ta,rfl,eta⟩:=hA;have fell:∀(G5:Hp) (p pr t3:Addr),xc H G5→G5 p=some (.tup [.ref pr,.ref t3,.int (s1.cnt+1)])→G5 pr=some (.tup [.str "fallen",.int s1.cnt])→S5 G5 t3 {y.up s1 with run:=none} L→Q (.ref p) G5:=fun G5 p pr t3 z1 z2 z3 z4=>by
       have ew:w1 (FLm f c) s1 y={y.tn x s1 with cnt:=s1.cnt+1,fl:=s1.fl+1}:=by unfold w1;rw[hfo]
       refine q p pr t3 G5 z1 ?_ ?_ ?_
       ·rw[z2,uE hW',ew]
       ·rw[uE hW'];exact z3
       ·rw[uE hW',ew];exact z4.cg (by cases y<;> exact⟨rfl,rfl,rfl,rfl,rfl⟩)
      refine⟨fun σ' G'=>∃t2,σ'=[some (.ref t2),some (.ref pt),some (.int c),some (.int (s1.cnt+1)),some (.ref wl),some (yC rb),some an,some (.ref wt),some (.ref ta)]∧xc G1 G'∧S5 G' t2 (y.up s1) L,?_,?_⟩
      ·walk_at"w";refine⟨by walk_at"no",fun _=>?_⟩;walk_at"w";walk_at"ss";intro e0 he0;generalize hUe0:upd G1 e0 _=G2;have sG2:=xc.of_eq he0 hUe0;have ee0:=xh hUe0;clear hUe0;walk_at"w";refine⟨.tuple [.int x],.tuple [],.tup (SqT.of (sG2.at eta)) (.cons (.int _) .nil),.tup (SqT.of ee0) .nil,xpz x,by decide+kernel,?_⟩;rw[xpA x];walk_at"w";refine⟨fun _=>?_,by walk_at"no"⟩;walk_at"w";exact⟨t',wt,s1,L,y,rfl,hS1.same sG2,hL1.same sG2,sG2.at hw1,hny,fun t2 G3 s3 hS3=>⟨t2,rfl,sG2.trans s3,hS3⟩⟩
      rintro σ' G2 ⟨t2,rfl,s2',hS2⟩;obtain⟨s2,hs2⟩:∃s2,s2=y.up s1:=⟨_,rfl⟩;rw[←hs2]at hS2 fell;walk_at"w";refine⟨fun _=>?_,by walk_at"no"⟩;obtain⟨m,l,g1,g2,g3,o1,o2⟩:=id hS2;walk_at"w";walk_at"ss";intro pr hpr;generalize hUpr:upd G2 pr _=G3;have sG3:=xc.of_eq hpr hUpr;have epr:=xh hUpr;clear hUpr;walk_at"w";refine⟨_,rfl,?_⟩;walk_at"w";refine⟨t2,_,rfl,SqT.of (sG3.at g1),(by decide:¬(HT.sIx 5 0 none=0∧HT.sIx 5 5 (some 4)=5)),?_⟩;intro sl hsl;generalize hUsl:upd G3 sl _=G4;have sG4:=xc.of_eq hsl hUsl;have esl:=xh hUsl;clear hUsl;walk_at"w";walk_at"ss";intro nt hnt;generalize hUnt:upd G4 nt _=G5;have sG5:=xc.of_eq hnt hUnt;have ent:=xh hUnt;clear hUnt;walk_at"w";have esl':G4 sl=some (.tup [.int (bI s2.mr),.ref m,.ref l,.int s2.ct]):=esl;refine⟨sl,nt,_,_,rfl,rfl,SqT.of (sG5.at esl'),SqT.of ent,by simp,(show 4+1≤aF by rw[aQ];lia),(fun z=>by cases z),fun _=>?_⟩;intro t3 ht3;generalize hUt3:upd G5 t3 _=G6;have sG6:=xc.of_eq ht3 hUt3;have et3:=xh hUt3;clear hUt3;walk_at"w";walk_at"ss";intro p hp;generalize hUp:upd G6 p _=G7;have sG7:=xc.of_eq hp hUp;have ep:=xh hUp;clear hUp;walk_at"w";have s37:=sG3.trans (sG4.trans (sG5.trans (sG6.trans sG7)));have epr':G3 pr=some (.tup [.str "fallen",.int (s1.cnt+1 - 1)]):=epr;rw[show s1.cnt+1 - 1=s1.cnt by lia]at epr';exact fell G7 p pr t3 ((sG1.trans s2').trans s37) ep ((sG4.trans (sG5.trans (sG6.trans sG7))).at epr') ⟨m,l,sG7.at et3,s37.at g2,s37.at g3,o1,o2⟩
   ·obtain⟨sG,t2,s2,y7,y8,rfl,hS2,hW⟩:=hP;rw[aq,hts.length,fc,xa4]at hW;obtain⟨m,l,g1,g2,g3,o1,o2⟩:=id hS2;walk_at"w";walk_at"ss";intro pr hpr;generalize hUpr:upd G pr _=G3;have sG3:=xc.of_eq hpr hUpr;have epr:=xh hUpr;clear hUpr;walk_at"w";refine⟨_,rfl,?_⟩;walk_at"w";refine⟨t2,_,rfl,SqT.of (sG3.at g1),(by decide:¬(HT.sIx 5 0 none=0∧HT.sIx 5 5 (some 4)=5)),?_⟩;intro sl hsl;generalize hUsl:upd G3 sl _=G4;have sG4:=xc.of_eq hsl hUsl;have esl:=xh hUsl;clear hUsl;walk_at"w";walk_at"ss";intro nt hnt;generalize hUnt:upd G4 nt _=G5;have sG5:=xc.of_eq hnt hUnt;have ent:=xh hUnt;clear hUnt;walk_at"w";have esl':G4 sl=some (.tup [.int (bI s2.mr),.ref m,.ref l,.int s2.ct]):=esl;refine⟨sl,nt,_,_,rfl,rfl,SqT.of (sG5.at esl'),SqT.of ent,by simp,(show 4+1≤aF by rw[aQ];lia),(fun z=>by cases z),fun _=>?_⟩;intro t3 ht3;generalize hUt3:upd G5 t3 _=G6;have sG6:=xc.of_eq ht3 hUt3;have et3:=xh hUt3;clear hUt3;walk_at"w";walk_at"ss";intro p hp;generalize hUp:upd G6 p _=G7;have sG7:=xc.of_eq hp hUp;have ep:=xh hUp;clear hUp;walk_at"w";have s37:=sG3.trans (sG4.trans (sG5.trans (sG6.trans sG7)));refine q p pr t3 G7 (sG.trans s37) ?_ ?_ ?_
    ·rw[ep,xbk hW]
    ·rw[xbk hW];exact(sG4.trans (sG5.trans (sG6.trans sG7))).at epr
    ·rw[xbk hW];exact⟨m,l,sG7.at et3,s37.at g2,s37.at g3,o1,o2⟩
end
section
variable {P:ai} {w:World} {K:ag} {mg:Str→Option Value} {base:Heap} {a:Adr}
def xlP(K:ag):Sp:=fun vs H Q _=>∃(t:Addr) (s:BdS) (L:List Addr) (draw:Int),vs=[.ref t,.int draw]∧S5 H t s L∧0≤s.len (!s.mr)∧s.len (!s.mr)≤6∧
 ∀(p:Addr) (n:Int) (rs:List xB) (H':Hp),xc H H'→(n=0∨n=s.len (!s.mr))→0≤n→PJ K H' p n n rs→jF rs n=none→xcJ K H' p n n rs→xa3 rs=[]→Q (.ref p) H'
theorem six{n:Int}(h0:1≤n)(h6:n≤6):jF [xB.take 0 0 n] n=none∧jI [xB.take 0 0 n]=none∧xa3 [xB.take 0 0 n]=[]:=by
 have:n=1∨n=2∨n=3∨n=4∨n=5∨n=6:=by lia
 rcases this with rfl|rfl|rfl|rfl|rfl|rfl<;> exact⟨by decide,by decide,by decide⟩
theorem xmO(T:Txt K mg a):xA P w K mg base CX0 1 a.q3L a.xgi ["_law_stand","_law_draw"] (xlP K):=by
 refine T.q3Q.ok xib (fun vs H Q E h=>?_) (fun cdv A outer s H vs Q E hr h=>?_)
 ·obtain⟨t,s,L,draw,rfl,_⟩:=h;rfl
 ·obtain⟨t,st,L,draw,rfl,hS,hl0,hl6,q⟩:=h;have nd:=xib.nd;refine⟨_,(xf (xx (i:=2) nd rfl (ay rfl) (xJ zC xl (xy xM (cv 0) xl (fun _ _=>rfl))))
  (xf (xx (i:=3) nd rfl (ay rfl) (xy xU (xy xM (cv 0) xl (fun _ _=>rfl)) (cv 2) (fun _ _=>rfl)))
  (xf (xI (PW.pt (va (xH zD (cv 3) xl) (uW (xH zD (xJ uH (cv 1) xl) xl)))) (xk (xr (xO (xa xl (xa xl (xa (xO xg) xg)))))) xt)
  (xk (xr (xO (xa (cv 3) (xa (cv 3) (xa (xO (xa (xO (xa xv (xa xl (xa xl (xa (cv 3) xg))))) xg)) xg))))))))),?_⟩
  obtain⟨m,l,h1,h2,h3,_⟩:=id hS;have atL:atI [V.int (st.len false),V.int (st.len true)] (1 - bI st.mr)=some (.int (st.len (!st.mr))):=by cases st.mr<;> rfl
  have non:∀(p tt:Addr) (H':Hp),xc H H'→H' p=some (.tup [.int 0,.int 0,.ref tt])→H' tt=some (.tup [])→Q (.ref p) H':=fun p tt H' s' ep et=>
   q p 0 [] H' s' (.inl rfl) (eQ _) ⟨⟨tt,[],ep,et,.nil⟩,by decide,by decide,by decide,(fun r hr=>by cases hr),by decide⟩ (by decide) ⟨tt,[],ep,et,.nil,by decide⟩ rfl
  walk_at"w";refine⟨t,_,_,.int (bI st.mr),rfl,rfl,SqT.of h1,rfl,?_⟩;walk_at"w";refine⟨t,_,_,.ref l,rfl,rfl,SqT.of h1,rfl,?_⟩;walk_at"w";refine⟨l,_,_,_,rfl,rfl,SqL.of h3,atL,?_⟩;walk_at"w";refine⟨fun c=>?_,fun c=>?_⟩
  ·walk_at"w"
   first|skip|skip
   refine⟨fun _=>?_,by walk_at"no"⟩;walk_at"w";walk_at"ss";intro tt htt;generalize hUtt:upd H tt _=H1;have sH1:=xc.of_eq htt hUtt;have ett:=xh hUtt;clear hUtt;walk_at"w";walk_at"ss";intro p hp;generalize hUp:upd H1 p _=H2;have sH2:=xc.of_eq hp hUp;have ep:=xh hUp;clear hUp;walk_at"w";exact non p tt H2 (sH1.trans sH2) ep (sH2.at ett)
  have c:¬st.len (!st.mr)=0:=of_decide_eq_false c;walk_at"w";walk_at"ss";refine⟨fun c2=>?_,fun c2=>?_⟩
  ·walk_at"w";walk_at"ss";intro tt htt;generalize hUtt:upd H tt _=H1;have sH1:=xc.of_eq htt hUtt;have ett:=xh hUtt;clear hUtt;walk_at"w";walk_at"ss";intro p hp;generalize hUp:upd H1 p _=H2;have sH2:=xc.of_eq hp hUp;have ep:=xh hUp;clear hUp;walk_at"w";exact non p tt H2 (sH1.trans sH2) ep (sH2.at ett)
  walk_at"w";walk_at"ss";intro t1 ht1;generalize hUt1:upd H t1 _=H1;have sH1:=xc.of_eq ht1 hUt1;have et1:=xh hUt1;clear hUt1;walk_at"w";walk_at"ss";intro tt htt;generalize hUtt:upd H1 tt _=H2;have sH2:=xc.of_eq htt hUtt;have ett:=xh hUtt;clear hUtt;walk_at"w";walk_at"ss";intro p hp;generalize hUp:upd H2 p _=H3;have sH3:=xc.of_eq hp hUp;have ep:=xh hUp;clear hUp;walk_at"w";obtain⟨j1,j2,j3⟩:=six (n:=st.len (!st.mr)) (by lia) hl6;have hok:xB.ok (.take 0 0 (st.len (!st.mr))):=⟨by decide,by decide,by lia⟩;have et1':=(sH2.trans sH3).at et1;refine q p (st.len (!st.mr)) [.take 0 0 (st.len (!st.mr))] H3 (sH1.trans (sH2.trans sH3)) (.inr rfl) hl0 ⟨⟨tt,[t1],ep,sH3.at ett,.cons et1' .nil⟩,⟨hl0,by lia⟩,⟨hl0,by lia⟩,(show 1≤300 by decide),fun r hr=>?_,j2⟩ j1 ⟨tt,[t1],ep,sH3.at ett,.cons ⟨et1',hok,by decide,by decide,by show st.len (!st.mr)≤9;lia⟩ .nil,(show 1≤58 by decide)⟩ j3;rw[au.mp hr];exact⟨hok,by show(0:Int)+_≤_;lia,by show(0:Int)+_≤_;lia⟩
theorem xlQ{y:Wr}{s:BdS}{r:Option Bool}:y.up {s with run:=r}={y.up s with run:=r}:=by cases y<;> rfl
theorem xlR{y:Wr}{s:BdS}{r:Option Bool}{x:Int}:y.tn x {s with run:=r}={y.tn x s with run:=r}:=by cases y<;> rfl
theorem xeX{F:FM}{s:BdS}{y:Wr}(h:F.fo s.fl s.cnt=some none):w1 F s y={s with cnt:=s.cnt+1,fl:=s.fl+1}:=by unfold w1;rw[h]
theorem xgy{F:FM}{s:BdS}{y:Wr}{x:Int}(h:F.fo s.fl s.cnt=some (some x)):w1 F s y={y.tn x s with cnt:=s.cnt+1,fl:=s.fl+1}:=by unfold w1;rw[h]
theorem xg6{F:FM}{y:Wr}{s:BdS}{r:Option Bool}:w1 F {s with run:=r} y={w1 F s y with run:=r}:=by
 cases e:F.fo s.fl s.cnt with
 |none=>rw[vE e,vE (s:={s with run:=r}) e,xlQ]
 |some z=>
  cases z with
  |none=>rw[xeX e,xeX (s:={s with run:=r}) e]
  |some x=>rw[xgy e,xgy (s:={s with run:=r}) e,xlR]
theorem xex{F:FM}{r:Option Bool}:∀(ys:List Wr) (s:BdS),xP F {s with run:=r} ys=({(xP F s ys).1 with run:=r},(xP F s ys).2)
 |[],_=>rfl
 |y::ys,s=>by
  by_cases e:F.fo s.fl s.cnt=none
  ·rw[zi e,zi (s:={s with run:=r}) e,xg6];exact xex ys _
  ·rw[yn e,yn (s:={s with run:=r}) e,xg6]
theorem xlS{F:FM}{s:BdS}:xfQ F s=zb (some (startB s)) (xP F s (yL s)):=by
 unfold xfQ;rw[xex];unfold zb;cases (xP F s (yL s)).2<;> rfl
theorem xix{b:Option Bool}{r:BdS×Option Int}:(zb b r).2=r.2:=by
 obtain⟨s,c⟩:=r;cases c<;> rfl
def jc(s:BdS)(d:Nat)(o n total tries:Int):Option (List Wr×Option Bool×V):=jb s d o n (decide (zc s n=total)) tries
theorem xou{s:BdS}{n total tries:Int}:xcI s n total tries=xdQ s n (decide (zc s n=total)) tries:=by
 have e:∀X Y:List Wr,(if zc s n=total then X else Y)=(if decide (zc s n=total)=true then X else Y):=fun X Y=>by
  by_cases h:zc s n=total<;> simp[h]
 unfold xcI xdQ;rw[e]
end
section
variable {P:ai} {w:World} {K:ag} {mg:Str→Option Value} {base:Heap} {a:Adr}
theorem xfX(T:Txt K mg a):xA P w K mg base (CXE P w) 8 a.q07 a.vf ["self"] (xit P w K mg base a):=(xgw T).toX
inductive xiy(P:ai)(w:World)(K:ag)(mg:Str→Option Value)(base:Heap)(a:Adr)(vs:List V)(H:Hp)(Q:VK):Prop
 |mk (F:FM) (B:BA) (s:BdS) (p:Addr) (n:Int) (rs:List xB) (d:Nat) (total tries:Int):vs=[.ref B.bd,.int d,.ref p,.int total,.int tries]→vp P w K mg base F→xD a F H B s→Tbs H→PJ K H p n n rs→jF rs n=none→max n n≤s.size→NZ (s.notes (!s.mr))→xcJ K H p n n rs→xa3 rs=[]→max n n≤(s.cells (!s.mr)).length→d≤3→
  (∀(t:Addr) (H':Hp),Kp (BF F B) H H'→xD a F H' B (jt F s (jc s d n n total tries)).2→jw H' t (jt F s (jc s d n n total tries)).1→Q (.ref t) H')→xiy P w K mg base a vs H Q
def xmP(P:ai)(w:World)(K:ag)(mg:Str→Option Value)(base:Heap)(a:Adr):Sp:=fun vs H Q _=>xiy P w K mg base a vs H Q
theorem xmQ(T:Txt K mg a):xA P w K mg base CX0 12 a.q3J a.xgg ["_law_board","_law_deed_here","_law_paper_here","_law_total","_law_tries"] (xmP P w K mg base a):=by
 refine T.q3O.ok xh9 (fun vs H Q E h=>?_) (fun cdv A outer s H vs Q E hr h=>?_)
 ·obtain⟨F,B,s,p,n,rs,d,total,tries,rfl,_⟩:=h;rfl
 ·obtain⟨F,B,st,p,n,rs,d,total,tries,rfl,hF,hB,hT,hJ,hj,hmx,hnz,hpg,hdue,hmax,hd3,q⟩:=h;have nd:=xh9.nd;refine⟨_,(xf (xx (i:=5) nd rfl (ay rfl) xv)
  (xf (xx (i:=6) nd rfl (ay rfl) yh)
  (xf (xkj (i:=7) ⟨rfl,rfl,rfl⟩ T.q4j (by rfl) T.xcw T.q4e (by rfl) T.xiZ nd rfl rfl (fun _ _=>(xf (zQ (xI (xH zD (cv 1) xl) (xk (xx (i:=6) nd rfl (ay rfl) (vz ⟨rfl,rfl,rfl⟩ (cv 0) T.q0b T.q3R (xfX (P:=P) (w:=w) (base:=base) T) (hr.mono (by decide)) T.xhf .nil))) xt))
  (xf (zQ (xI (xH zD (cv 1) xl) (xk (xx (i:=6) nd rfl (ay rfl) (xaz ⟨rfl,rfl,rfl⟩ (cv 0) T.q0b T.q3E (xfV (P:=P) (w:=w) (base:=base) T) (hr.mono (by decide)) T.xgl .nil (xa (cv 2) (xa (cv 3) (xa (cv 4) xg)))))) xt))
  (xf (zQ (xI (xH zD (cv 1) xl) (xk (xx (i:=6) nd rfl (ay rfl) (vz ⟨rfl,rfl,rfl⟩ (cv 0) T.q0b T.q33 (xhq (P:=P) (w:=w) (base:=base) T) (hr.mono (by decide)) T.xh3 .nil))) xt))
  (xk (xI (xH zD (cv 1) xl) (xk (xx (i:=6) nd rfl (ay rfl) (vz ⟨rfl,rfl,rfl⟩ (cv 0) T.q0b T.q3v (xeW (P:=P) (w:=w) (base:=base) T) (hr.mono (by decide)) T.xfz .nil))) xt)))))) (fun _ _ _ _ ep=>(xf (xx (i:=5) nd rfl (ay rfl) xv)
  (xk (xx (i:=6) nd rfl (ay rfl) (xjp (K:=K) rfl ep (by exact fun _ z=>aO _ z) (cv 7) rfl))))) (fun _ _ _=>(xk (xx (i:=5) nd rfl (ay rfl) xv))))
  (xk (xr (xO (xa (cv 5) (xa (cv 6) xg)))))))),?_⟩
  walk_at"w";have no:jc st d n n total tries=none→∀(t:Addr) (G:Hp),xc H G→G t=some (.tup [.str "refused",.non])→Q (.ref t) G:=fun e t G sG et=>by
   refine q t G (Kp.of sG) ?_ ?_
   ·rw[e];exact hB.same sG
   ·rw[e];exact et
  have yes:∀ys rb an,jc st d n n total tries=some (ys,rb,an)→∀(t:Addr) (G G1:Hp),Kp (BF F B) H G→(zb rb (xP F st ys)).2=none→xD a F G B (zb rb (xP F st ys)).1→xc G G1→G1 t=some (.tup [.str "done",an])→Q (.ref t) G1:=fun ys rb an e t G G1 kG hn hG s1 et=>by
   rw[xix]at hn;refine q t G1 (kG.trans (Kp.of s1)) ?_ ?_
   ·rw[e];exact hG.same s1
   ·rw[e];show jw G1 t (xiw (xP F st ys).2 an);rw[hn];exact et
  have fel:∀ys rb an,jc st d n n total tries=some (ys,rb,an)→∀(t:Addr) (G G1:Hp) (c:Int),Kp (BF F B) H G→(zb rb (xP F st ys)).2=some c→xD a F G B (zb rb (xP F st ys)).1→xc G G1→G1 t=some (.tup [.str "fallen",.int c])→Q (.ref t) G1:=fun ys rb an e t G G1 c kG hn hG s1 et=>by
   rw[xix]at hn;refine q t G1 (kG.trans (Kp.of s1)) ?_ ?_
   ·rw[e];exact hG.same s1
   ·rw[e];show jw G1 t (xiw (xP F st ys).2 an);rw[hn];exact et
  have hdc:d=0∨d=1∨d=2∨d=3:=by lia
  rcases hdc with rfl|rfl|rfl|rfl
  ·walk_at"w";refine⟨fun σ' G=>σ'=[some (.ref B.bd),some (.int ((0:Nat):Int)),some (.ref p),some (.int total),some (.int tries),some (.str "done"),some (.int (bI (startB st))),none]∧Kp (BF F B) H G∧jc st 0 n n total tries=some ((yL st),(some (startB st)),(.int (bI (startB st))))∧(zb (some (startB st)) (xP F st (yL st))).2=none∧xD a F G B (zb (some (startB st)) (xP F st (yL st))).1,?_,?_⟩
   ·walk_at"w";refine⟨fun _=>?_,by walk_at"no"⟩;walk_at"w";refine⟨B.bd,B.dx,_,rfl,hB.bd,rfl,?_⟩;walk_at"w";refine⟨F,B,st,rfl,hF,hB,hT,?_⟩;rw[xlS];refine⟨fun e H2 k2 hB2=>?_,fun c ec dd H2 k2 hB2 hdd=>?_⟩
    ·exact⟨rfl,k2,rfl,e,hB2⟩
    ·walk_at"w";refine⟨a.q0d,rfl,.inl ⟨T.q1d,fun ae hae=>?_⟩⟩;walk_at"w";refine⟨_,dd,_,.int c,rfl,rfl,rfl,hdd,T.q3c,T.jA,T.q0H,rfl,?_⟩;walk_at"w";walk_at"ss";intro t ht;generalize hUt:upd H2 t _=H3;have sH3:=xc.of_eq ht hUt;have et:=xh hUt;clear hUt;walk_at"w";exact fel _ _ _ rfl t H2 H3 c k2 ec hB2 sH3 et
   rintro σ' G ⟨rfl,kG,hpl,hn,hG⟩;walk_at"w";refine⟨fun σ' G'=>σ'=[some (.ref B.bd),some (.int ((0:Nat):Int)),some (.ref p),some (.int total),some (.int tries),some (.str "done"),some (.int (bI (startB st))),none]∧G=G',?_,?_⟩
   ·walk_at"w";refine⟨by walk_at"no",fun _=>?_⟩;exact⟨rfl,rfl⟩
   rintro σ' _ ⟨rfl,rfl⟩;walk_at"w";refine⟨fun σ' G'=>σ'=[some (.ref B.bd),some (.int ((0:Nat):Int)),some (.ref p),some (.int total),some (.int tries),some (.str "done"),some (.int (bI (startB st))),none]∧G=G',?_,?_⟩
   ·walk_at"w";refine⟨by walk_at"no",fun _=>?_⟩;exact⟨rfl,rfl⟩
   rintro σ' _ ⟨rfl,rfl⟩;walk_at"w";refine⟨by walk_at"no",fun _=>?_⟩;walk_at"w";walk_at"ss";intro t ht;generalize hUt:upd G t _=G1;have sG1:=xc.of_eq ht hUt;have et:=xh hUt;clear hUt;walk_at"w";exact yes _ _ _ hpl t G G1 kG hn hG sG1 et
  ·walk_at"w";refine⟨fun σ' G=>σ'=[some (.ref B.bd),some (.int ((1:Nat):Int)),some (.ref p),some (.int total),some (.int tries),some (.str "done"),some (.non),none]∧H=G,?_,?_⟩
   ·walk_at"w";refine⟨by walk_at"no",fun _=>?_⟩;exact⟨rfl,rfl⟩
   rintro σ' _ ⟨rfl,rfl⟩;walk_at"w";refine⟨fun σ' G=>σ'=[some (.ref B.bd),some (.int ((1:Nat):Int)),some (.ref p),some (.int total),some (.int tries),some (.str "done"),some (.bl (decide (zc st n=total))),none]∧Kp (BF F B) H G∧jc st 1 n n total tries=some ((xcI st n total tries),st.run,(.bl (decide (zc st n=total))))∧(zb st.run (xP F st (xcI st n total tries))).2=none∧xD a F G B (zb st.run (xP F st (xcI st n total tries))).1,?_,?_⟩
   ·walk_at"w";refine⟨fun _=>?_,by walk_at"no"⟩;walk_at"w";refine⟨B.bd,B.dx,_,rfl,hB.bd,rfl,?_⟩;walk_at"w";refine⟨F,B,st,p,n,n,rs,total,tries,rfl,hF,hB,hT,hJ,hj,hmx,hnz,hpg,hdue,hmax,fun c H2 s2=>?_,fun c1 c2 H2 s2=>?_,fun c1 c2 c4 H2 s2=>?_,fun c1 c2 c4=>?_⟩
    ·walk_at"w";refine⟨a.q1m,rfl,.inr ⟨T.q2E,T.q1M,fun ae hae=>?_⟩⟩;walk_at"w";walk_at"ss";intro t ht;generalize hUt:upd H2 t _=H3;have sH3:=xc.of_eq ht hUt;have et:=xh hUt;clear hUt;walk_at"w";exact no (if_pos (.inl c)) t H3 (s2.trans sH3) et
    ·walk_at"w";refine⟨a.q0J,rfl,.inr ⟨T.q3m,T.q2O,fun ae hae=>?_⟩⟩;walk_at"w";walk_at"ss";intro t ht;generalize hUt:upd H2 t _=H3;have sH3:=xc.of_eq ht hUt;have et:=xh hUt;clear hUt;walk_at"w";exact no (if_pos (.inr c2)) t H3 (s2.trans sH3) et
    ·walk_at"w";refine⟨a.q1A,rfl,.inr ⟨T.q3C,T.q3d,fun ae hae=>?_⟩⟩;walk_at"w";walk_at"ss";intro t ht;generalize hUt:upd H2 t _=H3;have sH3:=xc.of_eq ht hUt;have et:=xh hUt;clear hUt;walk_at"w";exact no (by show xbj st n n _ tries=none;unfold xbj;rw[if_neg (fun z=>z.elim c1 c2),if_neg (by rw[c4];simp)]) t H3 (s2.trans sH3) et
    ·have hpl:jc st 1 n n total tries=some (xcI st n total tries,st.run,.bl (decide (zc st n=total))):=by show xbj st n n _ tries=_;unfold xbj;rw[if_neg (fun z=>z.elim c1 c2),if_pos c4,xou]
     refine⟨fun e H2 k2 hB2=>?_,fun c ec dd H2 k2 hB2 hdd=>?_⟩
     ·exact⟨rfl,k2,hpl,e,hB2⟩
     ·walk_at"w";refine⟨a.q0d,rfl,.inl ⟨T.q1d,fun ae hae=>?_⟩⟩;walk_at"w";refine⟨_,dd,_,.int c,rfl,rfl,rfl,hdd,T.q3c,T.jA,T.q0H,rfl,?_⟩;walk_at"w";walk_at"ss";intro t ht;generalize hUt:upd H2 t _=H3;have sH3:=xc.of_eq ht hUt;have et:=xh hUt;clear hUt;walk_at"w";exact fel _ _ _ hpl t H2 H3 c k2 ec hB2 sH3 et
   rintro σ' G ⟨rfl,kG,hpl,hn,hG⟩;walk_at"w";refine⟨fun σ' G'=>σ'=[some (.ref B.bd),some (.int ((1:Nat):Int)),some (.ref p),some (.int total),some (.int tries),some (.str "done"),some (.bl (decide (zc st n=total))),none]∧G=G',?_,?_⟩
   ·walk_at"w";refine⟨by walk_at"no",fun _=>?_⟩;exact⟨rfl,rfl⟩
   rintro σ' _ ⟨rfl,rfl⟩;walk_at"w";refine⟨by walk_at"no",fun _=>?_⟩;walk_at"w";walk_at"ss";intro t ht;generalize hUt:upd G t _=G1;have sG1:=xc.of_eq ht hUt;have et:=xh hUt;clear hUt;walk_at"w";exact yes _ _ _ hpl t G G1 kG hn hG sG1 et
  ·walk_at"w";refine⟨fun σ' G=>σ'=[some (.ref B.bd),some (.int ((2:Nat):Int)),some (.ref p),some (.int total),some (.int tries),some (.str "done"),some (.non),none]∧H=G,?_,?_⟩
   ·walk_at"w";refine⟨by walk_at"no",fun _=>?_⟩;exact⟨rfl,rfl⟩
   rintro σ' _ ⟨rfl,rfl⟩;walk_at"w";refine⟨fun σ' G=>σ'=[some (.ref B.bd),some (.int ((2:Nat):Int)),some (.ref p),some (.int total),some (.int tries),some (.str "done"),some (.non),none]∧H=G,?_,?_⟩
   ·walk_at"w";refine⟨by walk_at"no",fun _=>?_⟩;exact⟨rfl,rfl⟩
   rintro σ' _ ⟨rfl,rfl⟩;walk_at"w";refine⟨fun σ' G=>σ'=[some (.ref B.bd),some (.int ((2:Nat):Int)),some (.ref p),some (.int total),some (.int tries),some (.str "done"),some (.non),none]∧Kp (BF F B) H G∧jc st 2 n n total tries=some ([.mark (!st.mr) "good",.mrk (!st.mr)],st.run,.non)∧(zb st.run (xP F st [.mark (!st.mr) "good",.mrk (!st.mr)])).2=none∧xD a F G B (zb st.run (xP F st [.mark (!st.mr) "good",.mrk (!st.mr)])).1,?_,?_⟩
   ·walk_at"w";refine⟨fun _=>?_,by walk_at"no"⟩;walk_at"w";refine⟨B.bd,B.dx,_,rfl,hB.bd,rfl,?_⟩;walk_at"w";refine⟨F,B,st,rfl,hF,hB,hT,fun c H2 s2=>?_,fun c1 c2 H2 s2=>?_,fun c1 c2=>?_⟩
    ·walk_at"w";refine⟨a.q1m,rfl,.inr ⟨T.q2E,T.q1M,fun ae hae=>?_⟩⟩;walk_at"w";walk_at"ss";intro t ht;generalize hUt:upd H2 t _=H3;have sH3:=xc.of_eq ht hUt;have et:=xh hUt;clear hUt;walk_at"w";exact no (if_neg (fun z=>by have:=z.1;rw[c]at this;cases this)) t H3 (s2.trans sH3) et
    ·walk_at"w";refine⟨a.q0U,rfl,.inr ⟨T.q3l,T.q2N,fun ae hae=>?_⟩⟩;walk_at"w";walk_at"ss";intro t ht;generalize hUt:upd H2 t _=H3;have sH3:=xc.of_eq ht hUt;have et:=xh hUt;clear hUt;walk_at"w";exact no (if_neg c2) t H3 (s2.trans sH3) et
    ·have hpl:jc st 2 n n total tries=some ([.mark (!st.mr) "good",.mrk (!st.mr)],st.run,.non):=if_pos ⟨c1,c2⟩;refine⟨fun e H2 k2 hB2=>?_,fun c ec dd H2 k2 hB2 hdd=>?_⟩
     ·exact⟨rfl,k2,hpl,e,hB2⟩
     ·walk_at"w";refine⟨a.q0d,rfl,.inl ⟨T.q1d,fun ae hae=>?_⟩⟩;walk_at"w";refine⟨_,dd,_,.int c,rfl,rfl,rfl,hdd,T.q3c,T.jA,T.q0H,rfl,?_⟩;walk_at"w";walk_at"ss";intro t ht;generalize hUt:upd H2 t _=H3;have sH3:=xc.of_eq ht hUt;have et:=xh hUt;clear hUt;walk_at"w";exact fel _ _ _ hpl t H2 H3 c k2 ec hB2 sH3 et
   rintro σ' G ⟨rfl,kG,hpl,hn,hG⟩;walk_at"w";refine⟨by walk_at"no",fun _=>?_⟩;walk_at"w";walk_at"ss";intro t ht;generalize hUt:upd G t _=G1;have sG1:=xc.of_eq ht hUt;have et:=xh hUt;clear hUt;walk_at"w";exact yes _ _ _ hpl t G G1 kG hn hG sG1 et
  ·walk_at"w";refine⟨fun σ' G=>σ'=[some (.ref B.bd),some (.int ((3:Nat):Int)),some (.ref p),some (.int total),some (.int tries),some (.str "done"),some (.non),none]∧H=G,?_,?_⟩
   ·walk_at"w";refine⟨by walk_at"no",fun _=>?_⟩;exact⟨rfl,rfl⟩
   rintro σ' _ ⟨rfl,rfl⟩;walk_at"w";refine⟨fun σ' G=>σ'=[some (.ref B.bd),some (.int ((3:Nat):Int)),some (.ref p),some (.int total),some (.int tries),some (.str "done"),some (.non),none]∧H=G,?_,?_⟩
   ·walk_at"w";refine⟨by walk_at"no",fun _=>?_⟩;exact⟨rfl,rfl⟩
   rintro σ' _ ⟨rfl,rfl⟩;walk_at"w";refine⟨fun σ' G=>σ'=[some (.ref B.bd),some (.int ((3:Nat):Int)),some (.ref p),some (.int total),some (.int tries),some (.str "done"),some (.non),none]∧H=G,?_,?_⟩
   ·walk_at"w";refine⟨by walk_at"no",fun _=>?_⟩;exact⟨rfl,rfl⟩
   rintro σ' _ ⟨rfl,rfl⟩;walk_at"w";refine⟨fun _=>?_,by walk_at"no"⟩;walk_at"w";refine⟨B.bd,B.dx,_,rfl,hB.bd,rfl,?_⟩;walk_at"w";refine⟨F,B,st,rfl,hF,hB,hT,fun c H2 s2=>?_,fun c1 c2 H2 s2=>?_,fun c1 c2=>?_⟩
   ·walk_at"w";refine⟨a.q1m,rfl,.inr ⟨T.q2E,T.q1M,fun ae hae=>?_⟩⟩;walk_at"w";walk_at"ss";intro t ht;generalize hUt:upd H2 t _=H3;have sH3:=xc.of_eq ht hUt;have et:=xh hUt;clear hUt;walk_at"w";exact no (if_neg (fun z=>z.1 c)) t H3 (s2.trans sH3) et
   ·walk_at"w";refine⟨a.q0z,rfl,.inr ⟨T.q2W,T.q2o,fun ae hae=>?_⟩⟩;walk_at"w";walk_at"ss";intro t ht;generalize hUt:upd H2 t _=H3;have sH3:=xc.of_eq ht hUt;have et:=xh hUt;clear hUt;walk_at"w";exact no (if_neg (fun z=>c2 z.2)) t H3 (s2.trans sH3) et
   ·have hpl:jc st 3 n n total tries=some ([.mrk (!st.mr)],none,.non):=if_pos ⟨c1,c2⟩;refine⟨fun e H2 k2 hB2=>?_,fun c ec dd H2 k2 hB2 hdd=>?_⟩
    ·walk_at"w";walk_at"ss";intro t ht;generalize hUt:upd H2 t _=H3;have sH3:=xc.of_eq ht hUt;have et:=xh hUt;clear hUt;walk_at"w";exact yes _ _ _ hpl t H2 H3 k2 e hB2 sH3 et
    ·walk_at"w";refine⟨a.q0d,rfl,.inl ⟨T.q1d,fun ae hae=>?_⟩⟩;walk_at"w";refine⟨_,dd,_,.int c,rfl,rfl,rfl,hdd,T.q3c,T.jA,T.q0H,rfl,?_⟩;walk_at"w";walk_at"ss";intro t ht;generalize hUt:upd H2 t _=H3;have sH3:=xc.of_eq ht hUt;have et:=xh hUt;clear hUt;walk_at"w";exact fel _ _ _ hpl t H2 H3 c k2 ec hB2 sH3 et
end
theorem shp{d:d5}(h1:bF d=true)(h2:dn d≤64):cy d=true:=by
 unfold cy;rw[h1,decide_eq_true h2];rfl
def vD:V→d5
 | .int i=>.int i
 | .str x=>.str x
 | .bl b=>.bool b
 |_=>.none
inductive Pl:V→Prop
 |non:Pl .non
 |bl (b:Bool):Pl (.bl b)
 |int (i:Int):Pl (.int i)
 |str (x:Str) (h:bF (.str x)=true):Pl (.str x)
theorem Pl.rp{K:ag}{H:Hp}{v:V}(h:Pl v):Rp K H v (vD v):=by
 cases h with
 |non=>exact .non
 |bl b=>exact .bl b
 |int i=>exact .int i
 |str x _=>exact .str x
theorem Pl.can{v:V}(h:Pl v):bF (vD v)=true:=by
 cases h with
 |non=>simp[vD,bF]
 |bl b=>simp[vD,bF]
 |int i=>simp[vD,bF]
 |str x h=>exact h
theorem Pl.dep{v:V}(h:Pl v):dn (vD v)≤0:=by
 cases h<;> simp[vD,dn]
def xhz(s:BdS):d5:=.tuple [.int (bI s.mr),.list [.str (s.mark false),.str (s.mark true)],.list [.int (s.len false),.int (s.len true)],.int s.ct,vD (yC s.run)]
theorem xiz(r:Option Bool):Pl (yC r):=by cases r with|none=>exact .non|some b=>exact .int _
theorem xjF{K:ag}{H:Hp}{s:BdS}{t m l:Addr}(h1:H t=some (.tup [.int (bI s.mr),.ref m,.ref l,.int s.ct,yC s.run]))(h2:H m=some (.lst [.str (s.mark false),.str (s.mark true)]))(h3:H l=some (.lst [.int (s.len false),.int (s.len true)])):Rp K H (.ref t) (xhz s):=
 .tup (SqT.of h1) (.cons (.int _) (.cons (.lst (SqL.of h2) (.cons (.str _) (.cons (.str _) .nil))) (.cons (.lst (SqL.of h3) (.cons (.int _) (.cons (.int _) .nil))) (.cons (.int _) (.cons (xiz s.run).rp .nil)))))
def Mk4(m:Str):Prop:=m=("good":Str)∨m=("bad":Str)∨m=("trial":Str)∨m=("open":Str)
theorem xjG{m:Str}(h:Mk4 m):bF (.str m)=true:=by
 rcases h with rfl|rfl|rfl|rfl<;> decide+kernel
structure Ok(tx:List Int)(size:Int)(s:BdS):Prop where
 cs:s.cells=(bd0 tx size 0).cells
 sz:s.size=size
 l0:s.len false=0∨s.len false=tx.length
 l1:s.len true=0
 nz:∀b,NZ (s.notes b)
 mk4:∀b,Mk4 (s.mark b)
 ct:0≤s.ct
theorem xov{tx:List Int}{size:Int}{s:BdS}(h:Ok tx size s):cy (xhz s)=true:=by
 refine shp ?_ ?_
 ·have e1:=xjG (h.mk4 false);have e2:=xjG (h.mk4 true);have e3:=(xiz s.run).can;simp only[bF]at e1 e2;simp[xhz,bF,gm,e1,e2,e3]
 ·have:=(xiz s.run).dep;simp[xhz,dn,gU];lia
def WOk(tx:List Int):Wr→Prop
 | .mark _ v=>Mk4 v
 | .leng b n=>(n=0∨n=tx.length)∧(b=true→n=0)
 | .cter v=>0≤v
 | .mrk _=>True
 | .note _ i m=>i<2∧m=0
 | .cell .. =>False
theorem NZ.set{ns:List (Option Int)}{i:Nat}{v:Option Int}(h:NZ ns)(hv:v=none∨v=some 0):NZ (ns.set i v):=by
 refine⟨by rw[gO];exact h.1,fun x hx=>?_⟩;rcases List.mem_or_eq_of_mem_set hx with hx|hx
 ·exact h.2 x hx
 ·rw[hx];exact hv
theorem Ok.up{tx:List Int}{size:Int}{s:BdS}{y:Wr}(h:Ok tx size s)(hy:WOk tx y):Ok tx size (y.up s):=by
 cases y with
 |mark b v=>
  refine⟨h.cs,h.sz,h.l0,h.l1,h.nz,fun c=>?_,h.ct⟩;show Mk4 (upB s.mark b v c);unfold upB;split
  ·exact hy
  ·exact h.mk4 c
 |leng b n=>
  refine⟨h.cs,h.sz,?_,?_,h.nz,h.mk4,h.ct⟩
  ·show upB s.len b n false=0∨upB s.len b n false=tx.length;unfold upB;split
   ·exact hy.1
   ·exact h.l0
  ·show upB s.len b n true=0;unfold upB;split
   ·rename_i e;exact hy.2 e.symm
   ·exact h.l1
 |cter v=>exact⟨h.cs,h.sz,h.l0,h.l1,h.nz,h.mk4,hy⟩
 |mrk b=>exact⟨h.cs,h.sz,h.l0,h.l1,h.nz,h.mk4,h.ct⟩
 |note b i m=>
  refine⟨h.cs,h.sz,h.l0,h.l1,fun c=>?_,h.mk4,h.ct⟩;show NZ (upB s.notes b ((s.notes b).set i (some m)) c);unfold upB;split
  ·exact(h.nz b).set (.inr (by rw[hy.2]))
  ·exact h.nz c
 |cell b i v=>exact hy.elim
theorem Ok.tn{tx:List Int}{size:Int}{s:BdS}{y:Wr}{x:Int}(h:Ok tx size s)(hy:WOk tx y):Ok tx size (y.tn x s):=by
 cases y with
 |note b i m=>
  refine⟨h.cs,h.sz,h.l0,h.l1,fun c=>?_,h.mk4,h.ct⟩;show NZ (upB s.notes b ((s.notes b).set i none) c);unfold upB;split
  ·exact(h.nz b).set (.inl rfl)
  ·exact h.nz c
 |cell b i v=>exact hy.elim
 |mark b v=>exact h.up hy
 |leng b n=>exact h.up hy
 |cter v=>exact h.up hy
 |mrk b=>exact h.up hy
theorem Ok.setc{tx:List Int}{size:Int}{s:BdS}{k:Int}{f:Nat}(h:Ok tx size s):Ok tx size {s with cnt:=k,fl:=f}:=⟨h.cs,h.sz,h.l0,h.l1,h.nz,h.mk4,h.ct⟩
theorem Ok.setr{tx:List Int}{size:Int}{s:BdS}{r:Option Bool}(h:Ok tx size s):Ok tx size {s with run:=r}:=⟨h.cs,h.sz,h.l0,h.l1,h.nz,h.mk4,h.ct⟩
theorem Ok.w1{F:FM}{tx:List Int}{size:Int}{s:BdS}{y:Wr}(h:Ok tx size s)(hy:WOk tx y):Ok tx size (w1 F s y):=by
 cases e:F.fo s.fl s.cnt with
 |none=>rw[vE e];exact(h.up hy).setc
 |some z=>
  cases z with
  |none=>rw[xeX e];exact h.setc
  |some x=>rw[xgy e];exact(h.tn hy).setc
theorem Ok.xP{F:FM}{tx:List Int}{size:Int}:∀{ys:List Wr} {s:BdS},Ok tx size s→(∀y∈ys,WOk tx y)→Ok tx size (xP F s ys).1
 |[],_,h,_=>h
 |y::ys,s,h,hy=>by
  by_cases e:F.fo s.fl s.cnt=none
  ·rw[zi e];exact Ok.xP (h.w1 (hy y bz)) fun z hz=>hy z (aZ _ hz)
  ·rw[yn e];exact h.w1 (hy y bz)
theorem xlT{tx:List Int}{size:Int}{s:BdS}(h:Ok tx size s):∀y∈yL s,WOk tx y:=fun y hy=>by
 unfold yL at hy
 split at hy
 ·split at hy
  ·rw[au.mp hy];exact .inr (.inl rfl)
  ·rename_i hc;rw[au.mp hy];have:=h.ct;show 0≤s.ct - 1;lia
 ·cases hy
theorem xow{tx:List Int}{size n tries:Int}{s:BdS}{good:Bool}(h:Ok tx size s)(hn:n=0∨n=s.len (!s.mr))(ht:0≤tries):∀y∈xdQ s n good tries,WOk tx y:=fun y hy=>by
 unfold xdQ at hy;rcases bu.mp hy with hy|hy
 ·split at hy
  ·cases hy
  ·simp only[aw,bg,or_false]at hy;rcases hy with rfl|rfl|rfl
   ·exact⟨by decide,rfl⟩
   ·exact⟨by decide,rfl⟩
   ·exact .inr (.inr (.inr rfl))
 rcases aw.mp hy with rfl|hy
 ·rcases hn with hn|hn
  ·exact⟨.inl hn,fun _=>hn⟩
  ·refine⟨?_,fun e=>?_⟩
   ·cases hm:(!s.mr)with
    |false=>rw[hm]at hn;rw[hn];exact h.l0
    |true=>rw[hm]at hn;exact .inl (by rw[hn];exact h.l1)
   ·rw[hn,e];exact h.l1
 ·split at hy
  ·simp only[aw,bg,or_false]at hy;rcases hy with rfl|rfl
   ·exact ht
   ·exact .inr (.inr (.inl rfl))
  ·rw[au.mp hy];exact .inr (.inl rfl)
theorem xjH{tx:List Int}{size n tries:Int}{s:BdS}{d:Nat}{good:Bool}(h:Ok tx size s)(hn:n=0∨n=s.len (!s.mr))(ht:0≤tries){ys:List Wr}{rb:Option Bool}{an:V}(e:jb s d n n good tries=some (ys,rb,an)):(∀y∈ys,WOk tx y)∧Pl an:=by
 unfold jb at e
 split at e
 ·cases e;exact⟨xlT h,.int _⟩
 ·unfold xbj at e
  split at e
  ·cases e
  split at e
  ·cases e;exact⟨xow h hn ht,.bl _⟩
  ·cases e
 ·split at e
  ·cases e;refine⟨fun y hy=>?_,.non⟩;simp only[aw,bg,or_false]at hy;rcases hy with rfl|rfl
   ·exact .inl rfl
   ·trivial
  ·cases e
 ·split at e
  ·cases e;refine⟨fun y hy=>?_,.non⟩;rw[au.mp hy];trivial
  ·cases e
theorem Ok.res{F:FM}{tx:List Int}{size n tries:Int}{s:BdS}{d:Nat}{good:Bool}(h:Ok tx size s)(hn:n=0∨n=s.len (!s.mr))(ht:0≤tries):Ok tx size (jt F s (jb s d n n good tries)).2∧Pl (.str (jt F s (jb s d n n good tries)).1.1)∧Pl (jt F s (jb s d n n good tries)).1.2:=by
 cases e:jb s d n n good tries with
 |none=>exact⟨h,show Pl (.str ("refused":Str))from .str _ (by decide+kernel),.non⟩
 |some p=>
  obtain⟨ys,rb,an⟩:=p;obtain⟨h1,h2⟩:=xjH h hn ht e;have h3:=h.xP (F:=F) h1;cases hr:K73.xP F s ys with
  |mk s1 rc=>
   rw[hr]at h3;cases rc with
   |none=>rw[xbk hr];exact⟨h3.setr,show Pl (.str ("done":Str))from .str _ (by decide+kernel),h2⟩
   |some c=>rw[uE hr];exact⟨h3.setr,show Pl (.str ("fallen":Str))from .str _ (by decide+kernel),.int _⟩
def xfY(r:Str×V):d5:=.tuple [.str r.1,vD r.2]
theorem jw.rp{K:ag}{H:Hp}{t:Addr}{r:Str×V}(h:jw H t r)(hp:Pl r.2):Rp K H (.ref t) (xfY r):=.tup (SqT.of h) (.cons (.str _) (.cons hp.rp .nil))
theorem xpD{r:Str×V}(h1:Pl (.str r.1))(h2:Pl r.2):cy (xfY r)=true:=by
 have e1:=h1.can;have e2:=h2.can;have e3:=h2.dep;refine shp ?_ ?_
 ·simp only[vD,bF]at e1;simp[xfY,bF,gm,e1,e2]
 ·simp[xfY,dn,gU];lia
theorem jw.kp{L:List Addr}{H H':Hp}{t:Addr}{r:Str×V}(h:jw H t r)(e:Kp L H H')(mu:∀x∈L,∃u,H x=some u∧jr u):jw H' t r:=xa5 e mu h
theorem xD.liv{a:Adr}{F:FM}{H:Hp}{B:BA}{s:BdS}(h:xD a F H B s):Liv H (BF F B):=fun y hy=>by
 obtain⟨u,e,_⟩:=h.muF y hy;exact⟨u,e⟩
theorem Kp.fresh{L:List Addr}{H G:Hp}(h:Kp L H G)(f:∀y∈L,H y=none):xc H G:=fun b u e=>h b u e fun z=>by rw[f b z]at e;cases e
theorem xD.kp1{a:Adr}{F:FM}{H H':Hp}{B:BA}{s:BdS}(h:xD a F H B s){x:Addr}(k:Kp [x] H H')(hx:x∉BF F B)(hbl:x≠B.bl)(hst:∀b,x≠(B.S b).st)(mu:∃u,H x=some u∧jr u):xD a F H' B s:=by
 have two:∀{y:Addr} {u:HO},H y=some u→y≠x→H' y=some u:=fun e n=>k _ _ e (by simp[n]);have nb:∀{y:Addr},y∈BS B→y≠x:=fun hy z=>hx (by rw[←z];exact aV _ hy);refine⟨two h.bd (nb (by simp)),two h.bl (ak hbl),two h.le (nb (by simp)),two h.ma (nb (by simp)),two h.se (nb (by simp)),fun b=>?_,h.sp,h.nl,h.ni,F.keep h.fm k (fun y hy=>by rw[au.mp hy];exact mu) (fun y hy z=>by rw[au.mp hy]at z;exact hx (aO _ z)),h.off,h.c0⟩;have S:=h.st b;exact⟨two S.st (ak (hst b)),two S.ca (nb (by cases b<;> simp)),two S.na (nb (by cases b<;> simp)),two S.p (by rw[(h.sp b).1];exact nb (by simp)),S.ne,S.np⟩
theorem Ok.sum{tx:List Int}{size n:Int}{s:BdS}(h:Ok tx size s)(hn:n=0∨n=s.len (!s.mr)):(s.cells (!s.mr)).take n.toNat=(if s.mr then tx else[]).take n.toNat:=by
 rw[h.cs];rcases hn with rfl|hn
 ·simp
 ·cases hm:s.mr with
  |true=>
   rw[hm]at hn;have hl:=h.l0;have hn:n=s.len false:=hn;show(tx++aU _ 0).take n.toNat=tx.take n.toNat;rw[fG (by rcases hl with z|z<;> lia)]
  |false=>
   rw[hm]at hn;have hn:n=s.len true:=hn;rw[h.l1]at hn;subst hn;simp
theorem xox(xs:List Int):cy (.list (xs.map i8))=true:=by
 refine shp ?_ ?_
 ·simp[bF,W.ke_canLayAll0]
 ·simp[dn,W.ke_depthAll]
theorem Ok.text{tx:List Int}{size:Int}{s:BdS}(h:Ok tx size s):(s.cells false).take (s.len false).toNat=tx.take (s.len false).toNat:=by
 rw[h.cs];show(tx++aU _ 0).take _=_;rw[fG (by rcases h.l0 with z|z<;> lia)]
theorem xpE{tx:List Int}{size:Int}:Ok tx size (bd0 tx size 0):=by
 refine⟨rfl,rfl,.inr rfl,rfl,fun b=>⟨rfl,fun x hx=>?_⟩,fun b=>?_,eQ _⟩
 ·have hx:x∈[some (0:Int),some 0]:=hx;simp at hx;exact .inr hx
 ·cases b
  ·exact .inl rfl
  ·exact .inr (.inl rfl)
def xiA(K:ag):Sp:=fun vs H Q _=>∃(l:Addr) (ns:List Int),vs=[.ref l]∧SqL K H l (ns.map V.int)∧ns.length≤63∧H uJ=some (.tbl xby)∧H zf=some (.tbl jn)∧H yk=some (.tbl zk)∧H yz=some (.tbl uj)∧H yV=some (.tbl vd)∧H yq=some (.tbl zI)∧H yA=some (.tbl uk)∧H xd2=some (.tbl xhW)∧∀H',Q (.bl true) H'
section
variable {P:ai} {w:World} {K:ag} {mg:Str→Option Value} {base:Heap} {a:Adr}
theorem xpF(T:Txt K mg a):xA P w K mg base CX0 13 a.q4g a.xhx ["_law_script"] (xiA K):=by
 refine T.xhy.okC ["_law_cell"] T.xpq xly (fun vs H Q E h=>?_) (fun A outer s H vs Q E hr h=>?_)
 ·obtain⟨l,ns,rfl,_⟩:=h;rfl
 ·obtain⟨l,ns,rfl,hl,hns,hP1,hP2,hP3,hP4,hP5,hP6,hP7,hP8,q⟩:=h;have nd:=xly.nd;have hT:Tbs H:=⟨hP1,hP2,hP3,hP7,hP4,hP5,hP6⟩;refine⟨_,(yP (x:="_law_cell") (i:=2) nd rfl rfl rfl (by kernel_rfl) (xf (xfc (i:=1) (vI (cap:=[0]) (ys:=["_law_script"]) rfl rfl rfl rfl rfl ⟨⟨rfl,rfl,.inl rfl⟩,trivial⟩ (by decide+kernel)) rfl nd rfl rfl (xa9 (by rfl) T.q1U (xa (xJ uH (xG (xcB T) (hr.mono (by decide)) (by rfl) T.xdA T.q2b.kp T.xdz .nil xu (xa (cv 0) (xa xl xg))) xl) xg)) (fun _ _ _ _=>(xG (xeP T) (hr.mono (by decide)) (by rfl) T.xgn T.q3j.kp T.xgm .nil xu (xa (xG (xcB T) (hr.mono (by decide)) (by rfl) T.xdA T.q2b.kp T.xdz .nil xu (xa (cv 1) (xa xl xg))) (xa (cv 0) xg)))) (fun _ _ _ _=>vw))
  (xf (xf5 (i:=2) nd rfl rfl rfl (by kernel_rfl) (xG (xcB T) (hr.mono (by decide)) (by rfl) T.xdA T.q2b.kp T.xdz .nil xu (xa (cv 0) (xa xl xg))))
  (xf (xx (i:=3) nd rfl (ay rfl) (ym yQ (by rfl) T.q2I zx (xa (cv 1) xg)))
  (xf (xx (i:=4) nd rfl (ay rfl) (xal T.q4C (xhr T) (hr.mono (by decide)) (by rfl) T.xn1 T.xaW .nil xu (xa (cv 3) (xa (xJ ug (xQ xW (by rfl) T.q2e yT (xa (cv 1) xg)) (xJ uH (cv 2) xl)) (xa (vx (c:=q3X) (P:=xd2) (qs:=xhW) (fns:=["_law_cell"]) rfl T.q5a (q:="law.<locals>.<lambda>") (by kernel_rfl) (.head _) (by kernel_rfl) (by kernel_rfl)) xg)))))
  (xf (xR (xdV PySem.F.plainAttrs_list PySem.F.slot_list_append PySem.F.type_list_append vq (cv 3) (xa (cv 2) xg)))
  (xf (xx (i:=5) nd rfl (ay rfl) (xO (xa xl (xa (yd (xa xv (xa xv xg))) (xa (yd (xa (xQ xW (by rfl) T.q2e yT (xa (cv 1) xg)) (xa xl xg))) (xa xl (xa yh xg)))))))
  (xf (xx (i:=6) nd rfl (ay rfl) (yd (xa (cv 1) (xa (yd xg) xg))))
  (xf (xx (i:=7) nd rfl (ay rfl) xl)
  (xf (yK br rfl (xk6 (by rfl) T.q1U (xa xl (xa (xQ (xla rfl) (by rfl) T.q48 xk7 (xa (xQ xW (by rfl) T.q2e yT (xa (cv 0) xg)) (xa xl xg))) xg))) (xF (i:=8) nd rfl (ay rfl)) (xf (xx (i:=9) nd rfl (ay rfl) (xG (xeP T) (hr.mono (by decide)) (by rfl) T.xgn T.q3j.kp T.xgm .nil xu (xa (xy xU (cv 0) (cv 8) (fun _ _=>rfl)) (xa (cv 8) xg))))
  (xf (xx (i:=10) nd rfl (ay rfl) (xy xU (yd (xa xl (xa xl (xa xl (xa xl (xa xl (xa xl (xa xl (xa xl (xa xl xg)))))))))) (xJ uH (cv 9) xl) (fun _ _=>rfl)))
  (xf (xx (i:=11) nd rfl (ay rfl) (xG (xmO T) (hr.mono (by decide)) (by rfl) T.xnZ T.q3Q.kp T.xnY .nil xu (xa (cv 5) (xa (xJ xas (cv 9) xl) xg))))
  (xf (xx (i:=12) nd rfl (ay rfl) (xJ ug (xQ (xgR rfl) (by rfl) T.q49 xk8 (xa (jg xbK (xy xU (cv 6) (xJ zC xl (xy xM (cv 5) xl (fun _ _=>rfl))) (fun _ _=>rfl)) xam (xan (xy xM (cv 11) xl (fun _ _=>rfl)))) xg)) (ym xkS (by rfl) T.q47 xk9 (xa (uw zD (xJ uH (xJ xas (cv 9) xl) xl) xl) xg))))
  (xf (xx (i:=13) nd rfl (ay rfl) (uw xc9 (xJ uH (xJ xas (cv 9) xl) xl) xl))
  (xf (xx (i:=14) nd rfl (ay rfl) (xJ uH (xJ xas (cv 9) xl) xl))
  (xf (xx (i:=15) nd rfl (ay rfl) (xG (xos T) (hr.mono (by decide)) (by rfl) T.xpp T.q4b.kp T.xpo .nil xu (xa (cv 5) (xa (cv 10) (xa (cv 11) (xa (cv 13) (xa (cv 14) xg)))))))
  (xf (jx (xG (xpC T) (hr.mono (by decide)) (by rfl) T.xqo T.q4p.kp T.xqn .nil xu (xa (cv 5) (xa (cv 15) (xa (cv 2) (xa (cv 7) xg))))) (uu rfl (xK (xF (i:=16) nd rfl (ay rfl)) (xK (xF (i:=5) nd rfl (ay rfl)) (xK (xF (i:=7) nd rfl (ay rfl)) zu)))))
  (xf (xI (xH (xfd hr.units) (xG (xmQ T) (hr.mono (by decide)) (by rfl) T.xnV T.q3O.kp T.xnU .nil xu (xa (cv 4) (xa (cv 10) (xa (cv 11) (xa (cv 12) (xa (cv 14) xg)))))) (cv 16)) (xk (xr uf)) xt)
  (xf (xx (i:=17) nd rfl (ay rfl) (xT (cv 4) T.q0b T.q34 (xhp T) (hr.mono (by decide)) T.xh4 .nil xu))
  (xf (xI (PW.pt (va (xH (xfd hr.units) (cv 17) (cv 5)) (uW (xH (xfd hr.units) (xak (cv 4) T.q0b T.q2R (xab T) (hr.mono (by decide)) T.xaX .nil xu (xa xl xg)) (jg xbK (cv 1) xam (xan (xy xU (xy xM (cv 5) xl (fun _ _=>rfl)) xl (fun _ _=>rfl)))))))) (xk (xr uf)) xt)
  (xf (xR (xoV PySem.F.plainAttrs_list PySem.F.slot_list_clear PySem.F.type_list_clear xl8 (xy xM (cv 17) xl (fun _ _=>rfl))))
  (xf (xR (xdV PySem.F.plainAttrs_list PySem.F.slot_list_append PySem.F.type_list_append vq (xy xM (cv 17) xl (fun _ _=>rfl)) (xa (cv 8) xg)))
  (xk (xR (xdV PySem.F.plainAttrs_list PySem.F.slot_list_append PySem.F.type_list_append vq (xak (cv 4) T.q0b T.q2R (xab T) (hr.mono (by decide)) T.xaX .nil xu (xa xl xg)) (xa (cv 8) xg))))))))))))))))))
  (xk (xr uf)))))))))))),?_⟩
  walk_at"w";intro f1 e1 z1 d1;refine bo z1 ?_;generalize hU1:upd H f1 _=H1;have s1:=xc.of_eq z1 hU1;have c1:H1 f1=some (.cel none):=xh hU1;clear hU1;walk_at"w";refine⟨l,ns,0,rfl,s1.seq hl,by decide,?_⟩;walk_at"w";walk_at"ss";have en:yt 0 (cellAt ns 0%7) 1=(cellAt ns 0%7).toNat:=by rw[vg];lia
  rw[en];refine xgS (fun i acc _=>∃xs:List Int,acc=xs.map V.int∧xs.length=i) (by rw[aQ];lia) ⟨[],rfl,rfl⟩ (fun i acc H3 H3' hi s3 s3' hP R hR=>?_) (fun tl acc H2 H2' hD hD3 s2 s2' hP hacc etl=>?_)
  ·obtain⟨xs,rfl,hxl⟩:=hP;walk_at"w";refine⟨l,ns,0,rfl,(s1.trans (s3.trans s3')).seq hl,by decide,?_⟩;walk_at"w";refine⟨cellAt ns 0,_,rfl,?_⟩;refine hR _ H3' (xc.refl _) fun H6 _ _=>⟨xs++[_],by rw[bw];rfl,by simp[hxl]⟩
  obtain⟨tx,rfl,htx⟩:=hP;have htl:tx.length≤6:=by lia
  have s02:xc H1 H2':=s2.trans s2';clear s2 s2' hD3;walk_at"w";refine⟨l,ns,1,rfl,(s1.trans s02).seq hl,by decide,?_⟩;generalize hcell:cellAt ns 1=c;walk_at"w";refine⟨f1,e1,s02.at c1,?_⟩;generalize hU2:upd H2' f1 _=H3;have sH3:xc H H3:=by rw[←hU2];exact(s1.trans s02).put z1
  have cf:H3 f1=some (.cel (some (.int c))):=xh hU2;have ntf:tl≠f1:=fun z=>by rw[z,s02.at c1]at etl;cases etl
  have etl3:H3 tl=some (.lst (tx.map V.int)):=by rw[←hU2,xm ntf];exact etl
  clear hU2;walk_at"w";refine⟨tl,_,rfl,.inl (SqL.of etl3),?_⟩;intro hd hhd;generalize hUhd:upd H3 hd _=H4;have sH4:=xc.of_eq hhd hUhd;have ehd:=xh hUhd;clear hUhd;walk_at"w";refine⟨tl,_,rfl,.inl (SqL.of (sH4.at etl3)),?_⟩;rw[aq];walk_at"w";walk_at"ss";generalize hsv:(fun(i j:Int)=>V.int (i+j)) (tx.length:Int) (c%5)=sv;obtain⟨size,rfl,hsz1,hsz2⟩:∃size:Int,sv= .int size∧tx.length≤size∧size≤11:=⟨tx.length+c%5,hsv.symm,by lia,by lia⟩;clear hsv;refine⟨(sH3.trans sH4).at hP8,[("_law_cell",.int c)],rfl,(fun x v m=>?_),fun g H5 hg s5 hc=>?_⟩
  ·simp only[au,eU]at m;obtain⟨rfl,rfl⟩:=m;exact⟨f1,e1,sH4.at cf⟩
  walk_at"w";intro bd dx hb hdx ne;have up:∀{b:Addr} {u:HO},H5 b=some u→upd (upd H5 dx (.own bd)) bd (.ins a.q0a dx []) b=some u:=fun e=>by rw[xm (xC e hb),xm (xC e hdx)];exact e
  have hcU:xpw (upd (upd H5 dx (.own bd)) bd (.ins a.q0a dx [])) g c:=yG.kp (S:=[]) hc (fun _ z=>nomatch z) (Kp.of fun b u e=>up e);refine⟨FLm g c,bd,dx,hd,tx,size,rfl,xp,up (s5.at ehd),by lia,by lia,hsz1,hcU,(fun z=>nomatch z),fun B H6 eb kp fr hB=>⟨rfl,?_⟩⟩;have fr5:∀y∈BF (FLm g c) B,H5 y=none:=fun y hy=>by
   rcases bu.mp hy with hy|hy
   ·rcases fr y hy with rfl|h
    ·exact hb
    ·exact(xdP h).2.2
   ·cases hy
  have s56:xc H5 H6:=fun b u e=>kp b u (up e) (by simp;exact xC e hb);have off5:∀{y:Addr} {u:HO},H5 y=some u→y∉BF (FLm g c) B:=fun e z=>by rw[fr5 _ z]at e;cases e
  rw[←eb];clear eb kp fr up hcU;walk_at"w";have ehd6:=(s5.trans s56).at ehd;have nhb:hd∉BF (FLm g c) B:=off5 (s5.at ehd);have nhl:hd≠B.bl:=fun z=>by
   have:=hB.bl;rw[←z,ehd6]at this;have:=HO.lst.inj (aX this);cases tx with
   |nil=>cases this
   |cons x r=>simp at this
  refine bo (.inl ⟨rfl,_,SqL.of ehd6⟩) ?_;walk_at"w";refine⟨hd,_,_,rfl,rfl,ehd6,(by rw[aq,aQ];lia),?_⟩;generalize hU7:upd H6 hd _=H7;have k67:Kp [hd] H6 H7:=by rw[←hU7];exact(Kp.of (xc.refl _)).wr (by simp)
  have s37:xc H3 H7:=by rw[←hU7];exact(sH4.trans (s5.trans s56)).put hhd
  clear hU7;have hB7:=hB.kp1 k67 nhb nhl (fun b z=>by have:=(hB.st b).st;rw[←z,ehd6]at this;cases this) ⟨_,ehd6,trivial⟩;have fr3:∀y∈BF (FLm g c) B,H3 y=none:=fun y hy=>(sH4.trans s5).back (fr5 y hy);clear hB k67 s56 off5 fr5 hc s5 ehd6;walk_at"w";walk_at"ss";intro ml hml;generalize hUml:upd H7 ml _=H8;have sH8:=xc.of_eq hml hUml;have eml:=xh hUml;clear hUml;walk_at"w";refine⟨tl,_,rfl,.inl (SqL.of ((s37.trans sH8).at etl3)),?_⟩;rw[aq];walk_at"w";walk_at"ss";intro ll hll;generalize hUll:upd H8 ll _=H9;have sH9:=xc.of_eq hll hUll;have ell:=xh hUll;clear hUll;walk_at"w";walk_at"ss";intro t0 ht0;generalize hUt0:upd H9 t0 _=H10;have sH10:=xc.of_eq ht0 hUt0;have et0:=xh hUt0;clear hUt0;walk_at"w";walk_at"ss";intro el hel;generalize hUel:upd H10 el _=H11;have sH11:=xc.of_eq hel hUel;have eel:=xh hUel;clear hUel;walk_at"w";walk_at"ss";intro cl hcl;generalize hUcl:upd H11 cl _=H12;have sH12:=xc.of_eq hcl hUcl;have ecl:=xh hUcl;clear hUcl;walk_at"w";have s712:xc H7 H12:=sH8.trans (sH9.trans (sH10.trans (sH11.trans sH12)));have lv:=hB7.liv;have hS0:S5 H12 t0 (bd0 tx size 0) (BF (FLm g c) B):=⟨ml,ll,(sH11.trans sH12).at et0,(sH9.trans (sH10.trans (sH11.trans sH12))).at eml,(sH10.trans (sH11.trans sH12)).at ell,lv.off hml,(lv.same sH8).off hll⟩;have ncl:cl∉BF (FLm g c) B:=(lv.same (sH8.trans (sH9.trans (sH10.trans sH11)))).off hcl;have nel:el∉BF (FLm g c) B:=(lv.same (sH8.trans (sH9.trans sH10))).off hel;have s312:=s37.trans s712;refine⟨l,_,rfl,.inl ((sH3.trans s312).seq hl),?_⟩;rw[aq];walk_at"w";generalize hn:yt 2 (min (ns.length:Int) 52) 1=n;have hnn:n+2≤ns.length∨n=0:=by
   rw[vg]at hn;lia
  refine xgN (fun i σ G=>∃(s:BdS) (t:Addr) (y8 y9 y10 y11 y12 y13 y14 y15 y16 y17:Option V),σ=[some (.ref l),some (.ref tl),some (.int c),some (.ref hd),some (.ref B.bd),some (.ref t),some (.ref cl),some (.int s.cnt),y8,y9,y10,y11,y12,y13,y14,y15,y16,y17]∧xc H3 G∧xD a (FLm g c) G B s∧S5 G t s (BF (FLm g c) B)∧Ok tx size s∧G cl=some (.lst [.ref tl,.ref el])∧G el=some (.lst []))
   ⟨_,t0,_,_,_,_,_,_,_,_,_,_,rfl,s312,hB7.same s712,hS0,xpE,ecl,sH12.at eel⟩ (fun i σ G hi hP=>?_) (fun σ G hP=>?_)
  rotate_left
  ·obtain⟨s',t,y8,y9,y10,y11,y12,y13,y14,y15,y16,y17,rfl,_⟩:=hP;walk_at"w";exact q G
  obtain⟨st,t,y8,y9,y10,y11,y12,y13,y14,y15,y16,y17,rfl,sG,hBG,hSG,hO,eclG,eelG⟩:=hP;clear ecl eel et0 eml ell hS0 hB7 s312 s712 sH8 sH9 sH10 sH11 sH12 lv s37;generalize hk:(2:Int)+(i:Int)*1=kk;obtain⟨v,hv⟩:∃v,ns[kk.toNat]? =some v:=⟨_,a8 (by lia)⟩;have hatv:atI (ns.map V.int) kk=some (.int v):=xpb (by lia) hv;walk_at"w";refine⟨l,_,_,.int v,rfl,rfl,(sH3.trans sG).seq hl,hatv,?_⟩;walk_at"w";refine⟨v,kk,rfl,?_⟩;generalize hdr:mixed v kk=draw;walk_at"w";walk_at"ss";intro dl hdl;generalize hUdl:upd G dl _=G1;have sG1:=xc.of_eq hdl hUdl;have edl:=xh hUdl;clear hUdl;walk_at"w";walk_at"ss";obtain⟨d,hd3,hatd⟩:∃d:Nat,d≤3∧atI [V.int 0,V.int 0,V.int 0,V.int 1,V.int 1,V.int 1,V.int 2,V.int 2,V.int 3] (draw%9)=some (.int d):=by
   obtain⟨j,ej,hj⟩:∃j:Nat,draw%9=(j:Int)∧j<9:=⟨(draw%9).toNat,by lia,by lia⟩;rw[ej]
   match j,hj with
   |0,_=>exact⟨0,by decide,rfl⟩
   |1,_=>exact⟨0,by decide,rfl⟩
   |2,_=>exact⟨0,by decide,rfl⟩
   |3,_=>exact⟨1,by decide,rfl⟩
   |4,_=>exact⟨1,by decide,rfl⟩
   |5,_=>exact⟨1,by decide,rfl⟩
   |6,_=>exact⟨2,by decide,rfl⟩
   |7,_=>exact⟨2,by decide,rfl⟩
   |8,_=>exact⟨3,by decide,rfl⟩
  refine⟨dl,_,_,.int d,rfl,rfl,SqL.of edl,hatd,?_⟩;walk_at"w";walk_at"ss";have hlo:0≤st.len (!st.mr)∧st.len (!st.mr)≤6:=by
   cases hm:(!st.mr)with
   |false=>rcases hO.l0 with z|z<;> lia
   |true=>rw[hO.l1];lia
  refine⟨t,st,BF (FLm g c) B,draw / 16,rfl,hSG.same sG1,hlo.1,hlo.2,fun p n' rs G2 s2 hn' hn0 hJ hj hpg hdue=>?_⟩;walk_at"w";have sG2:=sG1.trans s2;have hS2:=hSG.same sG2;obtain⟨m,ll',h1,h2,h3,_⟩:=id hS2;obtain⟨tt,us,hp,_⟩:=id hJ.at';have atC:atI [V.ref tl,V.ref el] (1 - bI st.mr)=some (.ref (if st.mr then tl else el)):=by cases st.mr<;> rfl
  have hce:G2 (if st.mr then tl else el)=some (.lst ((if st.mr then tx else[]).map V.int)):=by
   cases st.mr
   ·exact sG2.at eelG
   ·exact(sG.trans sG2).at etl3
  refine⟨t,_,_,.int (bI st.mr),rfl,rfl,SqT.of h1,rfl,?_⟩;walk_at"w";refine⟨cl,_,_,_,rfl,rfl,SqL.of (sG2.at eclG),atC,?_⟩;walk_at"w";refine⟨p,_,_,.int n',rfl,rfl,SqT.of hp,rfl,?_⟩;walk_at"w";refine⟨_,rfl,?_⟩;walk_at"w";refine⟨_,_,rfl,SqL.of hce,?_⟩;have cutE:jK ((if st.mr=true then tx else[]).map V.int) none (some n')=((st.cells (!st.mr)).take n'.toNat).map V.int:=by
   have e:n'=((n'.toNat:Nat):Int):=by lia
   rw[hO.sum hn',e,xgu,←iL,←e]
  rw[cutE];intro sl hsl;generalize hUsl:upd G2 sl _=G3;have sG3:=xc.of_eq hsl hUsl;have esl:=xh hUsl;clear hUsl;walk_at"w";refine⟨sl,_,rfl,SqL.of esl,?_⟩;walk_at"w";walk_at"ss";refine .inr ⟨decide (draw / 64%4=0),rfl,?_⟩;walk_at"w";generalize htv:(fun(i j:Int)=>V.int (i+j)) ((st.cells (!st.mr)).take n'.toNat).sum (if decide (draw / 64%4=0)=true then 1 else 0)=tv;obtain⟨tot,rfl,htot⟩:∃tot:Int,tv= .int tot∧tot=zc st n'+(if draw / 64%4=0 then 1 else 0):=⟨_,htv.symm,by unfold zc;by_cases z:draw / 64%4=0<;> simp[z]⟩;clear htv;walk_at"w";walk_at"ss";have hgood:(decide (0<draw / 64%4))=decide (zc st n'=tot):=by
   rw[htot];apply decide_eq_decide.mpr;have h0:0≤draw / 64%4:=by lia
   by_cases z:draw / 64%4=0
   ·rw[if_pos z];lia
   ·rw[if_neg z];lia
  have s03:=sG2.trans sG3;have hS3:=hSG.same s03;have hp3:=sG3.at hp;rw[show(fun(i j:Int)=>V.bl (decide (j<i))) (draw / 64%4) 0=V.bl (decide (zc st n'=tot))by rw[←hgood]];refine⟨t,p,tt,st,BF (FLm g c) B,d,n',n',draw / 256%3,decide (zc st n'=tot),rfl,hd3,hS3,hO.ct,hp3,hn0,fun pv G4 s4 hPl=>?_⟩;walk_at"w";have s04:=s03.trans s4;have ht3:0≤draw / 256%3:=by lia
  refine⟨t,pv,st,BF (FLm g c) B,g,c,_,rfl,hSG.same s04,(hBG.same s04).liv,hPl,(fun ys rb an e y hy b i v z=>by have:=(xjH hO hn' ht3 e).1 y hy;rw[z]at this;exact this),fun pq pr t' G5 s5 epq hR5 hS5=>?_⟩;walk_at"w";refine⟨pq,_,rfl,SqT.of epq,rfl,?_⟩;walk_at"w";refine⟨_,_,rfl,?_⟩;walk_at"w";refine⟨_,_,rfl,?_⟩;walk_at"w";refine⟨_,_,rfl,?_⟩;walk_at"w";refine bo rfl ?_;walk_at"w";have s05:=s04.trans s5;have hB5:=hBG.same s05;have hT5:Tbs G5:=hT.same (sH3.trans (sG.trans s05));have s25:=sG3.trans (s4.trans s5);have hJ5:PJ K G5 p n' n' rs:=⟨hJ.at'.same s25,hJ.ho,hJ.hn,hJ.few,hJ.ok,hJ.tw⟩;have hpg5:xcJ K G5 p n' n' rs:=hpg.kp (L:=[]) (Kp.of s25) (fun _ z=>nomatch z);have hcl5:(st.cells (!st.mr)).length=size.toNat:=by
   rw[hO.cs];cases (!st.mr)
   ·show(tx++aU (size - tx.length).toNat 0).length=_;rw[aY,dQ];lia
   ·show(aU size.toNat (0:Int)).length=_;rw[dQ]
  have hnb:n'≤tx.length:=by
   rcases hn' with z|z
   ·lia
   ·cases hm:(!st.mr)with
    |false=>rw[hm]at z;rcases hO.l0 with y|y<;> lia
    |true=>rw[hm]at z;rw[hO.l1]at z;lia
  have hsz:=hO.sz;refine⟨FLm g c,B,st,p,n',rs,d,tot,draw / 256%3,rfl,xpx T g c,hB5,hT5,hJ5,hj,by lia,hO.nz _,hpg5,hdue,by lia,hd3,fun tb G6 k56 hB6 hR6=>?_⟩;obtain⟨hO6,pl1,pl2⟩:=hO.res (F:=FLm g c) (d:=d) (good:=decide (zc st n'=tot)) hn' ht3;have hB6:xD a (FLm g c) G6 B (jt (FLm g c) st (jb st d n' n' (decide (zc st n'=tot)) (draw / 256%3))).2:=hB6;have hR6:jw G6 tb (jt (FLm g c) st (jb st d n' n' (decide (zc st n'=tot)) (draw / 256%3))).1:=hR6;refine xcb (f:=fun b=> !b) (hR6.rp pl2) ((hR5.kp k56 hB5.muF).rp pl2) (xpD pl1 pl2) ?_;have hS6:=hS5.kp k56 hB5.muF;clear hR5 hR6 pl1 pl2;generalize (jt (FLm g c) st (jb st d n' n' (decide (zc st n'=tot)) (draw / 256%3))).2=s6 at hO6 hB6 hS6;walk_at"w";refine⟨by walk_at"no",fun _=>?_⟩;walk_at"w";refine⟨B.bd,B.dx,_,rfl,hB6.bd,rfl,?_⟩;walk_at"w";refine⟨FLm g c,B,s6,rfl,hB6,fun tt6 m6 l6 G7 s7 hm6 hl6 nml e1 e2 e3=>?_⟩;walk_at"w";obtain⟨m',l',g1,g2,g3,_⟩:=id (hS6.same s7);refine xcb (f:=fun b=> !b) (xjF e1 e2 e3) (xjF g1 g2 g3) (xov hO6) ?_;walk_at"w";refine⟨by walk_at"no",fun _=>?_⟩;have hB7:=hB6.same s7;have hl0:0≤s6.len false:=by rcases hO6.l0 with z|z<;> lia
  walk_at"w";refine⟨B.bd,B.dx,_,rfl,hB7.bd,rfl,?_⟩;walk_at"w";refine⟨FLm g c,B,s6,false,rfl,hB7,hl0,fun ya G8 s8 hya eya=>?_⟩;walk_at"w";refine⟨t',_,_,.ref l',rfl,rfl,SqT.of (s8.at g1),rfl,?_⟩;walk_at"w";refine⟨l',_,_,.int (s6.len false),rfl,rfl,SqL.of (s8.at g3),rfl,?_⟩;walk_at"w";refine⟨_,rfl,?_⟩;walk_at"w";have kall:Kp (BF (FLm g c) B) H3 G6:=(Kp.of (sG.trans s05)).trans k56;have s36:xc H3 G6:=kall.fresh fr3;refine⟨tl,_,rfl,SqL.of ((s36.trans (s7.trans s8)).at etl3),?_⟩;have cutE2:jK (tx.map V.int) none (some (s6.len false))=((s6.cells false).take (s6.len false).toNat).map V.int:=by
   have e:s6.len false=(((s6.len false).toNat:Nat):Int):=by lia
   rw[hO6.text,e,xgu,←iL,←e]
  rw[cutE2];intro yb hyb;generalize hUyb:upd G8 yb _=G9;have sG9:=xc.of_eq hyb hUyb;have eyb:=xh hUyb;clear hUyb;walk_at"w";refine xcb (f:=fun b=> !b) (.ints (SqL.of (sG9.at eya))) (.ints (SqL.of eyb)) (xox _) ?_;walk_at"w";refine⟨by walk_at"no",fun _=>?_⟩;walk_at"w";refine⟨tt6,_,_,.ref m6,rfl,rfl,SqT.of ((s8.trans sG9).at e1),rfl,?_⟩;walk_at"w";have s79:=s8.trans sG9;have s69:=s7.trans s79;refine bo (.inl ⟨rfl,_,SqL.of (s79.at e2)⟩) ?_;refine⟨m6,_,rfl,rfl,s79.at e2,?_⟩;have ntm:tt6≠m6:=fun z=>by rw[z,e2]at e1;cases e1
  have e1':=s79.at e1;have e3':=s79.at e3;generalize hU10:upd G9 m6 _=G10;have s610:xc G6 G10:=by rw[←hU10];exact s69.put hm6
  have e1'':G10 tt6=some (.tup [.int (bI s6.mr),.ref m6,.ref l6,.int s6.ct,yC s6.run]):=by rw[←hU10,xm ntm];exact e1'
  have e3'':G10 l6=some (.lst [.int (s6.len false),.int (s6.len true)]):=by rw[←hU10,xm (ak nml)];exact e3'
  clear hU10;walk_at"w";refine⟨tt6,_,_,.ref l6,rfl,rfl,SqT.of e1'',rfl,?_⟩;walk_at"w";refine bo (.inl ⟨rfl,_,SqL.of e3''⟩) ?_;walk_at"w";refine⟨l6,_,_,rfl,rfl,e3'',(show 2+1≤aF by rw[aQ];lia),?_⟩;generalize hU11:upd G10 l6 _=G11;have s611:xc G6 G11:=by rw[←hU11];exact s610.put hl6
  clear hU11;walk_at"w";have hB11:=hB6.same s611;refine⟨B.bd,B.dx,_,rfl,hB11.bd,rfl,?_⟩;walk_at"w";refine⟨FLm g c,B,s6,false,rfl,hB11,hl0,fun yc G12 s12 hyc eyc=>?_⟩;walk_at"w";refine bo (.inl ⟨rfl,_,SqL.of eyc⟩) ?_;walk_at"w";refine⟨yc,_,_,rfl,rfl,eyc,(by rw[aq,hO6.text,cm,aQ];lia),?_⟩;generalize hU13:upd G12 yc _=G13;have s613:xc G6 G13:=by rw[←hU13];exact(s611.trans s12).put (s611.back hyc)
  clear hU13;exact⟨s6,t',_,_,_,_,_,_,_,_,_,_,rfl,s36.trans s613,hB6.same s613,hS6.same s613,hO6,s613.at (k56 _ _ (s05.at eclG) ncl),s613.at (k56 _ _ (s05.at eelG) nel)⟩
end
abbrev NI(K:ag)(x:Str)(f:Addr):Prop:=gJ K a7 x=some (some (.ref f))
abbrev NN(K:ag)(x:Str):Prop:=gJ K a7 x=some none
def FL(K:ag)(x q:Str)(st:Stmt)(f:Addr):Prop:=∃fd,Fun K x q st f fd
theorem yl{n:Nat}{us:List Value}(h:us.length=n+1):∃u r,us=u::r∧r.length=n:=by
 cases us with
 |nil=>cases h
 |cons u r=>exact⟨u,r,rfl,Nat.succ.inj h⟩
theorem xb3{us:List Value}(h:us.length=0):us=[]:=List.length_eq_zero_iff.mp h
theorem bn1{K:ag}{x q:Str}{st:Stmt}{f:Addr}{fd:aj}{p1:Str}(F:Fun K x q st f fd)(h:∀(kV doc pm:Value) (an:Option Addr) (cdv ct u1:Value),dH (bU x q (xZ st) (xN st) (xj st) .none kV doc pm an cdv ct) ⟨[u1],[]⟩=pure [(p1,u1)]:=by intros;exact rfl):Binds K fd [p1] []:=by
 refine F.binds fun kV doc pm an cdv ct us hl=>?_;obtain⟨u1,r1,rfl,k1⟩:=yl hl;obtain rfl:=xb3 k1;exact h kV doc pm an cdv ct u1
theorem bn2{K:ag}{x q:Str}{st:Stmt}{f:Addr}{fd:aj}{p1 p2:Str}(F:Fun K x q st f fd)(h:∀(kV doc pm:Value) (an:Option Addr) (cdv ct u1 u2:Value),dH (bU x q (xZ st) (xN st) (xj st) .none kV doc pm an cdv ct) ⟨[u1,u2],[]⟩=pure [(p1,u1),(p2,u2)]:=by intros;exact rfl):Binds K fd [p1,p2] []:=by
 refine F.binds fun kV doc pm an cdv ct us hl=>?_;obtain⟨u1,r1,rfl,k1⟩:=yl hl;obtain⟨u2,r2,rfl,k2⟩:=yl k1;obtain rfl:=xb3 k2;exact h kV doc pm an cdv ct u1 u2
theorem bn3{K:ag}{x q:Str}{st:Stmt}{f:Addr}{fd:aj}{p1 p2 p3:Str}(F:Fun K x q st f fd)(h:∀(kV doc pm:Value) (an:Option Addr) (cdv ct u1 u2 u3:Value),dH (bU x q (xZ st) (xN st) (xj st) .none kV doc pm an cdv ct) ⟨[u1,u2,u3],[]⟩=pure [(p1,u1),(p2,u2),(p3,u3)]:=by intros;exact rfl):Binds K fd [p1,p2,p3] []:=by
 refine F.binds fun kV doc pm an cdv ct us hl=>?_;obtain⟨u1,r1,rfl,k1⟩:=yl hl;obtain⟨u2,r2,rfl,k2⟩:=yl k1;obtain⟨u3,r3,rfl,k3⟩:=yl k2;obtain rfl:=xb3 k3;exact h kV doc pm an cdv ct u1 u2 u3
theorem bn4{K:ag}{x q:Str}{st:Stmt}{f:Addr}{fd:aj}{p1 p2 p3 p4:Str}(F:Fun K x q st f fd)(h:∀(kV doc pm:Value) (an:Option Addr) (cdv ct u1 u2 u3 u4:Value),dH (bU x q (xZ st) (xN st) (xj st) .none kV doc pm an cdv ct) ⟨[u1,u2,u3,u4],[]⟩=pure [(p1,u1),(p2,u2),(p3,u3),(p4,u4)]:=by intros;exact rfl):Binds K fd [p1,p2,p3,p4] []:=by
 refine F.binds fun kV doc pm an cdv ct us hl=>?_;obtain⟨u1,r1,rfl,k1⟩:=yl hl;obtain⟨u2,r2,rfl,k2⟩:=yl k1;obtain⟨u3,r3,rfl,k3⟩:=yl k2;obtain⟨u4,r4,rfl,k4⟩:=yl k3;obtain rfl:=xb3 k4;exact h kV doc pm an cdv ct u1 u2 u3 u4
theorem bn5{K:ag}{x q:Str}{st:Stmt}{f:Addr}{fd:aj}{p1 p2 p3 p4 p5:Str}(F:Fun K x q st f fd)(h:∀(kV doc pm:Value) (an:Option Addr) (cdv ct u1 u2 u3 u4 u5:Value),dH (bU x q (xZ st) (xN st) (xj st) .none kV doc pm an cdv ct) ⟨[u1,u2,u3,u4,u5],[]⟩=pure [(p1,u1),(p2,u2),(p3,u3),(p4,u4),(p5,u5)]:=by intros;exact rfl):Binds K fd [p1,p2,p3,p4,p5] []:=by
 refine F.binds fun kV doc pm an cdv ct us hl=>?_;obtain⟨u1,r1,rfl,k1⟩:=yl hl;obtain⟨u2,r2,rfl,k2⟩:=yl k1;obtain⟨u3,r3,rfl,k3⟩:=yl k2;obtain⟨u4,r4,rfl,k4⟩:=yl k3;obtain⟨u5,r5,rfl,k5⟩:=yl k4;obtain rfl:=xb3 k5;exact h kV doc pm an cdv ct u1 u2 u3 u4 u5
theorem xpG{l:W.OpenLaw}{w:World}{K:ag}{h:Heap}{mg:Str→Option Value}{fa:Addr}{q06 q15 q02 q0K q1P q1D q1E q1v q1w q0D q16 q3n q17 q1Q q1F q1G q2q q3w q3r q1V q2f q2g q2X q1f q2K q2h q3G q08 q1g q1h q2L q3H q1z q2i q0S q09 q1i q2Y q2j q18 q0I q0o q1j q2Z q1Y q20 q1x q1y q1H q03 q0w q1k q07 q0M q1l q0G q1I q1J q0A q0s q0t q0p q0u q0q q0E q0N q0v q21 q22 q3I q4n q3J q3K q3s q4a q23 q4o q3L q4g q2M q0c q0f q0i q0e q0a q1m q0d q0V q0U q0z q0J q0k q1A:Addr}{q4F:Tok}{q4r:Addr}{q4P:Option Addr}{q41:Nat}{q4Q:Array (Option Value)}{q4R:Value}{q4s:Addr}{q4S:Option Addr}{q42:Nat}{q4T:Array (Option Value)}{q4U:Value}{q62 q63 q64 q65 q66 q67 q68 q69 q7a q7b q7c q7d q7e q7f q7g q7h q7i q7j q7k q7l:Option Addr}{q7m q7n q7o q7p q7q q7r q7s q7t q7u q7v:Array (Option Value)}{q7w q7x q7y q7z q7A q7B q7C q7D q7E q6t q7F q7G q7H q7I q7J q7K q7L q7M q7N q7O q7P q7Q q7R q7S q7T q6u q7U q7V q7W q7X q7Y q7Z q70 q71 q72 q73 q74 q75 q76 q77 q78 q79 q8a q8b q8c q8d q8e q8f q8g q8h q8i q8j:Value}(X:K.In h)(G:h.Ns a7 mg)(hfa:mg "law"=some (.ref fa))
  (q6v:NI K "Row" q2M)
  (q55:NI K "Take" q0c)
  (q6w:NI K "Put" q0f)
  (q6x:NI K "Pen" q0i)
  (q5V:NI K "Store" q0e)
  (q5W:NI K "Board" q0a)
  (q56:NI K "Down" q1m)
  (q5L:NI K "Fallen" q0d)
  (q5X:NI K "NoRow" q0V)
  (q5y:NI K "NoTrial" q0U)
  (q5f:NI K "NoWayBack" q0z)
  (q5z:NI K "OnTrial" q0J)
  (q5g:NI K "RoomError" q0k)
  (q5Y:NI K "Unfit" q1A)
  (q5c:gv K q1m L2.xax "ValueError.__new__"=true)
  (q2E:aW K (.ref q1m) (.ref q0d)=some false)
  (q4q:aW K (.ref q1m) (.ref q0V)=some false)
  (q1M:aW K (.ref q1m) (.ref q0k)=some true)
  (q3b:xbq K q0d q06)
  (q0H:xE K q0d "count")
  (q1d:aW K (.ref q0d) (.ref q0d)=some true)
  (q4i:aW K (.ref q0d) (.ref q0V)=some false)
  (q3F:aW K (.ref q0d) (.ref q0k)=some true)
  (q3c:xj7 K q0d)
  (q4u:gv K q0U L2.xax "ValueError.__new__"=true)
  (q3l:aW K (.ref q0U) (.ref q0d)=some false)
  (q4c:aW K (.ref q0U) (.ref q0V)=some false)
  (q2N:aW K (.ref q0U) (.ref q0k)=some true)
  (q4k:gv K q0z L2.xax "ValueError.__new__"=true)
  (q2W:aW K (.ref q0z) (.ref q0d)=some false)
  (q31:aW K (.ref q0z) (.ref q0V)=some false)
  (q2o:aW K (.ref q0z) (.ref q0k)=some true)
  (q4v:gv K q0J L2.xax "ValueError.__new__"=true)
  (q3m:aW K (.ref q0J) (.ref q0d)=some false)
  (q4d:aW K (.ref q0J) (.ref q0V)=some false)
  (q2O:aW K (.ref q0J) (.ref q0k)=some true)
  (q4O:gv K q1A L2.xax "ValueError.__new__"=true)
  (q3C:aW K (.ref q1A) (.ref q0d)=some false)
  (q4m:aW K (.ref q1A) (.ref q0V)=some false)
  (q3d:aW K (.ref q1A) (.ref q0k)=some true)
  (q4j:fK K q0d (.type "BaseException")=some true)
  (q5d:fK K q0V (.type "BaseException")=some true)
  (q4e:fK K q0k (.type "BaseException")=some true)
  (q6l:aL K (.ref q0d) "__init__"=some (some (.ref q06)))
  (q1L:FL K "__init__" "Fallen.__init__" jL q06)
  (q6T:aL K (.ref q2M) "__init__"=some (some (.ref q15)))
  (q3g:FL K "__init__" "Row.__init__" xci q15)
  (q6y:aL K (.ref q2M) "covers"=some (some (.ref q02)))
  (q2r:FL K "covers" "Row.covers" xaA q02)
  (q6m:aL K (.ref q2M) "covered"=some (some (.ref q0K)))
  (q1Z:FL K "covered" "Row.covered" jM q0K)
  (q6Q:aL K (.ref q0c) "__init__"=some (some (.ref q1P)))
  (q2T:FL K "__init__" "Take.__init__" xbr q1P)
  (q6z:aL K (.ref q0c) "stays"=some (some (.ref q1D)))
  (q2s:FL K "stays" "Take.stays" xaB q1D)
  (q6A:aL K (.ref q0c) "reads"=some (some (.ref q1E)))
  (q2t:FL K "reads" "Take.reads" xaC q1E)
  (q6n:aL K (.ref q0c) "writes"=some (some (.ref q1v)))
  (q10:FL K "writes" "Take.writes" jN q1v)
  (q6o:aL K (.ref q0c) "pieces"=some (some (.ref q1w)))
  (q11:FL K "pieces" "Take.pieces" jO q1w)
  (q5S:aL K (.ref q0c) "source_for"=some (some (.ref q0D)))
  (q1t:FL K "source_for" "Take.source_for" uQ q0D)
  (q53:aL K (.ref q0c) "sign_for"=some (some (.ref q16)))
  (q19:FL K "sign_for" "Take.sign_for" xbb q16)
  (q6R:aL K (.ref q0c) "told"=some (some (.ref q3n)))
  (q3o:FL K "told" "Take.told" xel q3n)
  (q6U:aL K (.ref q0f) "__init__"=some (some (.ref q17)))
  (q3h:FL K "__init__" "Put.__init__" xcj q17)
  (q6S:aL K (.ref q0f) "reads"=some (some (.ref q1Q)))
  (q2U:FL K "reads" "Put.reads" xbs q1Q)
  (q6B:aL K (.ref q0f) "writes"=some (some (.ref q1F)))
  (q2u:FL K "writes" "Put.writes" xaD q1F)
  (q6C:aL K (.ref q0f) "pieces"=some (some (.ref q1G)))
  (q2v:FL K "pieces" "Put.pieces" xaE q1G)
  (q57:aL K (.ref q0f) "sign_for"=some (some (.ref q2q)))
  (q2w:FL K "sign_for" "Put.sign_for" xbQ q2q)
  (q6V:aL K (.ref q0f) "told"=some (some (.ref q3w)))
  (q3x:FL K "told" "Put.told" xfm q3w)
  (q5Z:NI K "row_of" q3r)
  (q1W:FL K "row_of" "row_of" xeG q3r)
  (q5h:NI K "tells_take" q1V)
  (q1X:FL K "tells_take" "tells_take" xaF q1V)
  (q5q:NI K "tells_put" q2f)
  (q2k:FL K "tells_put" "tells_put" xbt q2f)
  (q5r:NI K "are_signs" q2g)
  (q2l:FL K "are_signs" "are_signs" xbu q2g)
  (q5M:NI K "is_sign" q2X)
  (q24:FL K "is_sign" "is_sign" xdh q2X)
  (q4H:NI K "is_whole_from" q1f)
  (q0r:FL K "is_whole_from" "is_whole_from" vK q1f)
  (q5A:NI K "is_whole" q2K)
  (q2a:FL K "is_whole" "is_whole" xck q2K)
  (q5s:NI K "pieces_of" q2h)
  (q2m:FL K "pieces_of" "pieces_of" xbv q2h)
  (q58:NI K "go_on" q3G)
  (q3M:FL K "go_on" "go_on" xf7 q3G)
  (q4D:NI K "refuse_lengths" q08)
  (q1a:FL K "refuse_lengths" "refuse_lengths" vi q08)
  (q4I:NI K "refuse_beyond" q1g)
  (q1n:FL K "refuse_beyond" "refuse_beyond" vL q1g)
  (q4J:NI K "places_needed" q1h)
  (q1o:FL K "places_needed" "places_needed" vM q1h)
  (q5B:NI K "do_piece" q2L)
  (q4A:zy K q1N uJ)
  (q5C:K.lookup q2L=some ⟨q7w,q62,.func (bU "do_piece" "do_piece" (xZ vN) (xN vN) (xj vN) .none q7x q7y q7z q63 (.ref q1N) q7A),q7m⟩)
  (q1N:cw K (.ref q1N) "do_piece"=true)
  (q5D:bV K (.ref q2L)=true)
  (q59:NI K "judge" q3H)
  (q3N:FL K "judge" "judge" xf8 q3H)
  (q4V:NI K "fits_in_size" q1z)
  (q1B:FL K "fits_in_size" "fits_in_size" jm q1z)
  (q5t:NI K "is_length" q2i)
  (q1R:FL K "is_length" "is_length" xbw q2i)
  (q4x:NI K "first_wrong_row" q0S)
  (q0T:FL K "first_wrong_row" "first_wrong_row" uR q0S)
  (q4E:NI K "is_fitting_row" q09)
  (q1b:FL K "is_fitting_row" "is_fitting_row" vj q09)
  (q4K:NI K "covered_twice" q1i)
  (q1p:FL K "covered_twice" "covered_twice" vO q1i)
  (q5N:NI K "lacking" q2Y)
  (q25:FL K "lacking" "lacking" xdi q2Y)
  (q5u:NI K "read_late" q2j)
  (q2n:FL K "read_late" "read_late" xbx q2j)
  (q6W:aL K (.ref q0i) "__init__"=some (some (.ref q18)))
  (q3i:FL K "__init__" "Pen.__init__" xcl q18)
  (q50:aL K (.ref q0i) "write_into"=some (some (.ref q0I)))
  (q1C:FL K "write_into" "Pen.write_into" vk q0I)
  (q5E:aL K (.ref q0i) "answer_of_fall"=some (some (.ref q0o)))
  (q0O:FL K "answer_of_fall" "Pen.answer_of_fall" zF q0o)
  (q6D:aL K (.ref q0e) "__init__"=some (some (.ref q1j)))
  (q5i:K.lookup q1j=some ⟨q7B,q64,.func (bU "__init__" "Store.__init__" (xZ zz) (xN zz) (xj zz) (.ref q4r) q7C q7D q7E q65 q6t q7F),q7n⟩)
  (q43:K.lookup q4r=some ⟨q4R,q4P,.seq #[.none] q41,q4Q⟩)
  (q5j:cw K q6t "Store.__init__"=true)
  (q5k:bV K (.ref q1j)=true)
  (q6E:aL K (.ref q0e) "read"=some (some (.ref q2Z)))
  (q26:FL K "read" "Store.read" xdj q2Z)
  (q6p:aL K (.ref q0e) "write"=some (some (.ref q1Y)))
  (q4l:zy K q05 zf)
  (q44:K.lookup q1Y=some ⟨q7G,q66,.func (bU "write" "Store.write" (xZ zR) (xN zR) (xj zR) .none q7H q7I q7J q67 (.ref q05) q7K),q7o⟩)
  (q05:cw K (.ref q05) "Store.write"=true)
  (q45:bV K (.ref q1Y)=true)
  (q6F:aL K (.ref q0e) "mark"=some (some (.ref q20)))
  (q27:FL K "mark" "Store.mark" xdk q20)
  (q6q:aL K (.ref q0e) "noted"=some (some (.ref q1x)))
  (q12:FL K "noted" "Store.noted" jP q1x)
  (q6r:aL K (.ref q0e) "begin"=some (some (.ref q1y)))
  (q13:FL K "begin" "Store.begin" jQ q1y)
  (q6G:aL K (.ref q0e) "told"=some (some (.ref q1H)))
  (q2x:FL K "told" "Store.told" xaG q1H)
  (q5v:aL K (.ref q0e) "refuse_lacking"=some (some (.ref q03)))
  (q04:FL K "refuse_lacking" "Store.refuse_lacking" uX q03)
  (q5T:aL K (.ref q0e) "note_down"=some (some (.ref q0w)))
  (q28:zy K q0n yk)
  (q4y:K.lookup q0w=some ⟨q7L,q68,.func (bU "note_down" "Store.note_down" (xZ yj) (xN yj) (xj yj) .none q7M q7N q7O q69 (.ref q0n) q7P),q7p⟩)
  (q0n:cw K (.ref q0n) "Store.note_down"=true)
  (q4z:bV K (.ref q0w)=true)
  (q6H:aL K (.ref q0a) "__init__"=some (some (.ref q1k)))
  (q5l:K.lookup q1k=some ⟨q7Q,q7a,.func (bU "__init__" "Board.__init__" (xZ zA) (xN zA) (xj zA) (.ref q4s) q7R q7S q7T q7b q6u q7U),q7q⟩)
  (q46:K.lookup q4s=some ⟨q4U,q4S,.seq #[.none] q42,q4T⟩)
  (q5m:cw K q6u "Board.__init__"=true)
  (q5n:bV K (.ref q1k)=true)
  (q6s:aL K (.ref q0a) "start"=some (some (.ref q07)))
  (q14:FL K "start" "Board.start" jR q07)
  (q6a:aL K (.ref q0a) "update"=some (some (.ref q0M)))
  (q3y:zy K q0B yz)
  (q4W:K.lookup q0M=some ⟨q7V,q7c,.func (bU "update" "Board.update" (xZ yx) (xN yx) (xj yx) .none q7W q7X q7Y q7d (.ref q0B) q7Z),q7r⟩)
  (q0B:cw K (.ref q0B) "Board.update"=true)
  (q4X:bV K (.ref q0M)=true)
  (q6I:aL K (.ref q0a) "fine"=some (some (.ref q1l)))
  (q32:zy K q01 yV)
  (q5o:K.lookup q1l=some ⟨q70,q7e,.func (bU "fine" "Board.fine" (xZ yU) (xN yU) (xj yU) .none q71 q72 q73 q7f (.ref q01) q74),q7s⟩)
  (q01:cw K (.ref q01) "Board.fine"=true)
  (q5p:bV K (.ref q1l)=true)
  (q54:aL K (.ref q0a) "go_back"=some (some (.ref q0G)))
  (q3t:zy K q0y yq)
  (q4L:K.lookup q0G=some ⟨q75,q7g,.func (bU "go_back" "Board.go_back" (xZ yp) (xN yp) (xj yp) .none q76 q77 q78 q7h (.ref q0y) q79),q7t⟩)
  (q0y:cw K (.ref q0y) "Board.go_back"=true)
  (q4M:bV K (.ref q0G)=true)
  (q6J:aL K (.ref q0a) "text"=some (some (.ref q1I)))
  (q2y:FL K "text" "Board.text" xaH q1I)
  (q6K:aL K (.ref q0a) "told"=some (some (.ref q1J)))
  (q2z:FL K "told" "Board.told" xaI q1J)
  (q5O:aL K (.ref q0a) "other_bank"=some (some (.ref q0A)))
  (q1e:FL K "other_bank" "Board.other_bank" uA q0A)
  (q5H:aL K (.ref q0a) "bank_to_run"=some (some (.ref q0s)))
  (q0W:FL K "bank_to_run" "Board.bank_to_run" zV q0s)
  (q5I:aL K (.ref q0a) "refuse_down"=some (some (.ref q0t)))
  (q0X:FL K "refuse_down" "Board.refuse_down" zW q0t)
  (q5F:aL K (.ref q0a) "refuse_paper"=some (some (.ref q0p)))
  (q0P:FL K "refuse_paper" "Board.refuse_paper" zG q0p)
  (q5J:aL K (.ref q0a) "holds_elder"=some (some (.ref q0u)))
  (q0Y:FL K "holds_elder" "Board.holds_elder" zX q0u)
  (q5G:aL K (.ref q0a) "put_on_trial"=some (some (.ref q0q)))
  (q0Q:FL K "put_on_trial" "Board.put_on_trial" zH q0q)
  (q5U:aL K (.ref q0a) "make_good"=some (some (.ref q0E)))
  (q1u:FL K "make_good" "Board.make_good" uS q0E)
  (q6b:aL K (.ref q0a) "change"=some (some (.ref q0N)))
  (q3z:zy K q0C yA)
  (q4Y:K.lookup q0N=some ⟨q8a,q7i,.func (bU "change" "Board.change" (xZ yy) (xN yy) (xj yy) .none q8b q8c q8d q7j (.ref q0C) q8e),q7u⟩)
  (q0C:cw K (.ref q0C) "Board.change"=true)
  (q4Z:bV K (.ref q0N)=true)
  (q5K:aL K (.ref q0a) "run_or_fall"=some (some (.ref q0v)))
  (q0Z:FL K "run_or_fall" "Board.run_or_fall" zY q0v)
  (q5P:NI K "bank_of" q21)
  (q2J:FL K "bank_of" "bank_of" xdl q21)
  (q5Q:NI K "_law_cell_at" q22)
  (q2b:FL K "_law_cell_at" "_law_cell_at" xdm q22)
  (q6c:NI K "_law_mixed" q3I)
  (q3j:FL K "_law_mixed" "_law_mixed" xf9 q3I)
  (q6X:NI K "_law_how" q4n)
  (q4h:FL K "_law_how" "_law_how" xkk q4n)
  (q6d:NI K "_law_asked" q3J)
  (q3O:FL K "_law_asked" "_law_asked" xga q3J)
  (q6e:NI K "_law_start" q3K)
  (q3P:FL K "_law_start" "_law_start" xgb q3K)
  (q51:NI K "_law_update" q3s)
  (q3u:FL K "_law_update" "_law_update" s_update q3s)
  (q6L:NI K "_law_deed" q4a)
  (q4b:FL K "_law_deed" "_law_deed" xhV q4a)
  (q5R:NI K "_law_written" q23)
  (q29:FL K "_law_written" "_law_written" xdn q23)
  (q6Y:NI K "_law_due" q4o)
  (q4p:FL K "_law_due" "_law_due" xkl q4o)
  (q6f:NI K "_law_paper" q3L)
  (q3Q:FL K "_law_paper" "_law_paper" xgc q3L)
  (q6Z:NI K "law" q4g)
  (q5a:zy K q3X xd2)
  (q60:K.lookup q4g=some ⟨q8f,q7k,.func (bU "law" "law" (xZ xcm) (xN xcm) (xj xcm) .none q8g q8h q8i q7l (.ref q3X) q8j),q7v⟩)
  (q3X:cw K (.ref q3X) "law"=true)
  (q61:bV K (.ref q4g)=true)
  (q52:Cls K q2M)
  (q4t:xE K q2M "count")
  (q40:xE K q2M "to")
  (q0h:Cls K q0c)
  (q0L:xE K q0c "count")
  (q0x:xE K q0c "source")
  (q0R:xE K q0c "to")
  (q4N:Mk K q0c q1P)
  (q1O:Cls K q0f)
  (q1K:xE K q0f "count")
  (q3A:xE K q0f "signs")
  (q3a:xE K q0f "to")
  (q5b:Mk K q0f q17)
  (q3B:Cls K q0i)
  (q2A:xE K q0i "asked")
  (q3Y:xE K q0i "fall")
  (q4G:Mk K q0i q18)
  (q00:Cls K q0e)
  (q3k:xE K q0e "cells")
  (q1S:xE K q0e "notes")
  (q2B:xE K q0e "pen")
  (q4B:Mk K q0e q1j)
  (q0b:Cls K q0a)
  (q2C:xE K q0a "banks")
  (q1c:xE K q0a "lengths")
  (q0g:xE K q0a "marks")
  (q2D:xE K q0a "pen")
  (q0m:xE K q0a "running")
  (q0j:xE K q0a "settings")
  (q3p:xE K q0a "size")
  (q4C:Mk K q0a q1k)
  (q2P:Meth K q0a "bank_to_run" q0s)
  (q0l:Meth K q0a "change" q0N)
  (q33:Meth K q0a "fine" q1l)
  (q3v:Meth K q0a "go_back" q0G)
  (q2Q:Meth K q0a "holds_elder" q0u)
  (q3e:Meth K q0a "make_good" q0E)
  (q0F:Meth K q0a "other_bank" q0A)
  (q2F:Meth K q0a "put_on_trial" q0q)
  (q1q:Meth K q0a "refuse_down" q0t)
  (q2G:Meth K q0a "refuse_paper" q0p)
  (q1r:Meth K q0a "run_or_fall" q0v)
  (q3R:Meth K q0a "start" q07)
  (q2R:Meth K q0a "text" q1I)
  (q34:Meth K q0a "told" q1J)
  (q3E:Meth K q0a "update" q0M)
  (q2H:Meth K q0i "answer_of_fall" q0o)
  (q2p:Meth K q0i "write_into" q0I)
  (q1T:Meth K q0f "covered" q0K)
  (q35:Meth K q0f "covers" q02)
  (q36:Meth K q0f "pieces" q1G)
  (q4f:Meth K q0f "reads" q1Q)
  (q37:Meth K q0f "writes" q1F)
  (q3S:Meth K q0e "begin" q1y)
  (q2c:Meth K q0e "note_down" q0w)
  (q3T:Meth K q0e "noted" q1x)
  (q3q:Meth K q0e "told" q1H)
  (q2d:Meth K q0c "covered" q0K)
  (q3U:Meth K q0c "covers" q02)
  (q3V:Meth K q0c "pieces" q1w)
  (q38:Meth K q0c "reads" q1E)
  (q3f:Meth K q0c "source_for" q0D)
  (q2S:Meth K q0c "stays" q1D)
  (q3W:Meth K q0c "writes" q1v)
  (q30:xmh K q2M "__init__" q15)
  (q6M:aL K (.ref q0f) "__class__"=some (some (.builtin "object.__class__")))
  (q6N:gW K (.builtin "object.__class__") "__get__"=some (some (.builtin "getset_descriptor.__get__")))
  (q6O:W.takesIn K (.builtin "object.__class__")=some true)
  (q6P:fK K q0f (.type "object")=some true)
  (q6g:aL K (.ref q0c) "__class__"=some (some (.builtin "object.__class__")))
  (q6h:gW K (.builtin "object.__class__") "__get__"=some (some (.builtin "getset_descriptor.__get__")))
  (q6i:W.takesIn K (.builtin "object.__class__")=some true)
  (q6j:fK K q0c (.type "object")=some true)
  (q3Z:gx K (.ref q0f) (.ref q0c)=some false)
  (q3D:gx K (.ref q0c) (.ref q0c)=some true)
  (q6k:gJ K a7 "MOST"=some (some (.int 300 q4F)))
  (q5w:NN K "abs")
  (q5x:NN K "all")
  (q5e:NN K "bool")
  (q2V:NN K "enumerate")
  (q47:NN K "int")
  (q1s:NN K "isinstance")
  (q2e:NN K "len")
  (q2I:NN K "list")
  (q4w:NN K "max")
  (q48:NN K "min")
  (q1U:NN K "range")
  (q49:NN K "sum")
  (q39:NN K "tuple")
  :∃fd:aj,(∀(s:af) (v:Value),hX s fd ⟨[v],[]⟩ [("_law_script",v)])∧∀base:Heap,K.In base→base.Ns a7 mg→xA l.prog w K mg base CX0 13 fa fd ["_law_script"] (xiA K):=by
 have e:=hfa.symm.trans (W.mg_of X G q6Z);have e2:q4g=fa:=by injection e with e;injection e with e;exact e.symm
 subst e2;obtain⟨_,q1L⟩:=q1L;obtain⟨_,q3g⟩:=q3g;obtain⟨_,q2r⟩:=q2r;obtain⟨_,q1Z⟩:=q1Z;obtain⟨_,q2T⟩:=q2T;obtain⟨_,q2s⟩:=q2s;obtain⟨_,q2t⟩:=q2t;obtain⟨_,q10⟩:=q10;obtain⟨_,q11⟩:=q11;obtain⟨_,q1t⟩:=q1t;obtain⟨_,q19⟩:=q19;obtain⟨_,q3o⟩:=q3o;obtain⟨_,q3h⟩:=q3h;obtain⟨_,q2U⟩:=q2U;obtain⟨_,q2u⟩:=q2u;obtain⟨_,q2v⟩:=q2v;obtain⟨_,q2w⟩:=q2w;obtain⟨_,q3x⟩:=q3x;obtain⟨_,q1W⟩:=q1W;obtain⟨_,q1X⟩:=q1X;obtain⟨_,q2k⟩:=q2k;obtain⟨_,q2l⟩:=q2l;obtain⟨_,q24⟩:=q24;obtain⟨_,q0r⟩:=q0r;obtain⟨_,q2a⟩:=q2a;obtain⟨_,q2m⟩:=q2m;obtain⟨_,q3M⟩:=q3M;obtain⟨_,q1a⟩:=q1a;obtain⟨_,q1n⟩:=q1n;obtain⟨_,q1o⟩:=q1o;have xcs:=vG (st:=vN) q5C q1N q5D;obtain⟨_,q3N⟩:=q3N;obtain⟨_,q1B⟩:=q1B;obtain⟨_,q1R⟩:=q1R;obtain⟨_,q0T⟩:=q0T;obtain⟨_,q1b⟩:=q1b;obtain⟨_,q1p⟩:=q1p;obtain⟨_,q25⟩:=q25;obtain⟨_,q2n⟩:=q2n;obtain⟨_,q3i⟩:=q3i;obtain⟨_,q1C⟩:=q1C;obtain⟨_,q0O⟩:=q0O;have uC:=xjm (st:=zz) (ds:=[.none]) q5i q5j q5k q43;have xdw:=uC.binds (ps:=["self","cells","fall"]) (es:=[]) 3 rfl fun _ _ _ _ _ _ _ us hl=>match us,hl with|[_,_,_],_=>⟨_,rfl,rfl⟩
 have jY:=uC.binds (ps:=["self","cells","fall"]) (es:=[.none]) 2 rfl fun _ _ _ _ _ _ _ us hl=>match us,hl with|[_,_],_=>⟨_,rfl,rfl⟩
 obtain⟨_,q26⟩:=q26;have jZ:=vG (st:=zR) q44 q05 q45;obtain⟨_,q27⟩:=q27;obtain⟨_,q12⟩:=q12;obtain⟨_,q13⟩:=q13;obtain⟨_,q2x⟩:=q2x;obtain⟨_,q04⟩:=q04;have zr:=vG (st:=yj) q4y q0n q4z;have uD:=xjm (st:=zA) (ds:=[.none]) q5l q5m q5n q46;have xaW:=uD.binds (ps:=["self","text","size","fall"]) (es:=[]) 4 rfl fun _ _ _ _ _ _ _ us hl=>match us,hl with|[_,_,_,_],_=>⟨_,rfl,rfl⟩
 have xcN:=uD.binds (ps:=["self","text","size","fall"]) (es:=[.none]) 3 rfl fun _ _ _ _ _ _ _ us hl=>match us,hl with|[_,_,_],_=>⟨_,rfl,rfl⟩
 obtain⟨_,q14⟩:=q14;have uM:=vG (st:=yx) q4W q0B q4X;have vW:=vG (st:=yU) q5o q01 q5p;have uo:=vG (st:=yp) q4L q0y q4M;obtain⟨_,q2y⟩:=q2y;obtain⟨_,q2z⟩:=q2z;obtain⟨_,q1e⟩:=q1e;obtain⟨_,q0W⟩:=q0W;obtain⟨_,q0X⟩:=q0X;obtain⟨_,q0P⟩:=q0P;obtain⟨_,q0Y⟩:=q0Y;obtain⟨_,q0Q⟩:=q0Q;obtain⟨_,q1u⟩:=q1u;have uN:=vG (st:=yy) q4Y q0C q4Z;obtain⟨_,q0Z⟩:=q0Z;obtain⟨_,q2J⟩:=q2J;obtain⟨_,q2b⟩:=q2b;obtain⟨_,q3j⟩:=q3j;obtain⟨_,q4h⟩:=q4h;obtain⟨_,q3O⟩:=q3O;obtain⟨_,q3P⟩:=q3P;obtain⟨_,q3u⟩:=q3u;obtain⟨_,q4b⟩:=q4b;obtain⟨_,q29⟩:=q29;obtain⟨_,q4p⟩:=q4p;obtain⟨_,q3Q⟩:=q3Q;have xhy:=vG (st:=xcm) q60 q3X q61;have g {x v} (q:gJ K a7 x=some (some v)):=W.mg_of X G q;have g0 {x} (q:gJ K a7 x=some none):=W.mg_none_of X G q;have T:Txt K mg ⟨q06,_,q15,_,q02,_,q0K,_,q1P,_,q1D,_,q1E,_,q1v,_,q1w,_,q0D,_,q16,_,q3n,_,q17,_,q1Q,_,q1F,_,q1G,_,q2q,_,q3w,_,q3r,_,q1V,_,q2f,_,q2g,_,q2X,_,q1f,_,q2K,_,q2h,_,q3G,_,q08,_,q1g,_,q1h,_,q2L,_,q3H,_,q1z,_,q2i,_,q0S,_,q09,_,q1i,_,q2Y,_,q2j,_,q18,_,q0I,_,q0o,_,q1j,_,q2Z,_,q1Y,_,q20,_,q1x,_,q1y,_,q1H,_,q03,_,q0w,_,q1k,_,q07,_,q0M,_,q1l,_,q0G,_,q1I,_,q1J,_,q0A,_,q0s,_,q0t,_,q0p,_,q0u,_,q0q,_,q0E,_,q0N,_,q0v,_,q21,_,q22,_,q3I,_,q4n,_,q3J,_,q3K,_,q3s,_,q4a,_,q23,_,q4o,_,q3L,_,q4g,_,q2M,q0c,q0f,q0i,q0e,q0a,q1m,q0d,q0V,q0U,q0z,q0J,q0k,q1A,q4F⟩:=⟨q1L,bn2 q1L,q3g,bn2 q3g,q2r,bn1 q2r,q1Z,bn1 q1Z,q2T,bn4 q2T,q2s,bn1 q2s,q2t,bn1 q2t,q10,bn1 q10,q11,bn1 q11,q1t,bn2 q1t,q19,bn3 q19,q3o,bn1 q3o,q3h,bn3 q3h,q2U,bn1 q2U,q2u,bn1 q2u,q2v,bn1 q2v,q2w,bn3 q2w,q3x,bn1 q3x,q1W,bn1 q1W,g q5Z,q1X,bn1 q1X,g q5h,q2k,bn1 q2k,g q5q,q2l,bn1 q2l,g q5r,q24,bn1 q24,g q5M,q0r,bn2 q0r,g q4H,q2a,bn1 q2a,g q5A,q2m,bn1 q2m,g q5s,q3M,bn2 q3M,g q58,q1a,bn2 q1a,g q4D,q1n,bn2 q1n,g q4I,q1o,bn2 q1o,g q4J,xcs,bn3 xcs,g q5B,q4A,rfl,q3N,bn1 q3N,g q59,q1B,bn1 q1B,g q4V,q1R,bn1 q1R,g q5t,q0T,bn1 q0T,g q4x,q1b,bn3 q1b,g q4E,q1p,bn1 q1p,g q4K,q25,bn2 q25,g q5N,q2n,bn1 q2n,g q5u,q3i,bn2 q3i,q1C,bn5 q1C,q0O,bn2 q0O,uC,jY,xdw,q26,bn2 q26,jZ,bn3 jZ,q4l,rfl,q27,bn2 q27,q12,bn1 q12,q13,bn1 q13,q2x,bn1 q2x,q04,bn2 q04,zr,bn3 zr,q28,rfl,uD,xcN,xaW,q14,bn1 q14,uM,bn4 uM,q3y,rfl,vW,bn1 vW,q32,rfl,uo,bn1 uo,q3t,rfl,q2y,bn2 q2y,q2z,bn1 q2z,q1e,bn1 q1e,q0W,bn1 q0W,q0X,bn1 q0X,q0P,bn2 q0P,q0Y,bn3 q0Y,q0Q,bn4 q0Q,q1u,bn2 q1u,uN,bn4 uN,q3z,rfl,q0Z,bn2 q0Z,q2J,bn2 q2J,g q5P,q2b,bn2 q2b,g q5Q,q3j,bn2 q3j,g q6c,q4h,bn2 q4h,g q6X,q3O,bn5 q3O,g q6d,q3P,bn1 q3P,g q6e,q3u,bn4 q3u,g q51,q4b,bn5 q4b,g q6L,q29,bn2 q29,g q5R,q4p,bn4 q4p,g q6Y,q3Q,bn2 q3Q,g q6f,xhy,bn1 xhy,q5a,rfl,g q6v,q52,q4t,q40,g q55,q0h,q0L,q0x,q0R,q4N,g q6w,q1O,q1K,q3A,q3a,q5b,g q6x,q3B,q2A,q3Y,q4G,g q5V,q00,q3k,q1S,q2B,q4B,g q5W,q0b,q2C,q1c,q0g,q2D,q0m,q0j,q3p,q4C,g q56,g q5L,g q5X,g q5y,g q5f,g q5z,g q5g,g q5Y,q5c,q2E,q4q,q1M,q3b,q3b.hd,q0H,q1d,q4i,q3F,q3c,q4u,q3l,q4c,q2N,q4k,q2W,q31,q2o,q4v,q3m,q4d,q2O,q4O,q3C,q4m,q3d,⟨q4j⟩,⟨q5d⟩,⟨q4e⟩,fun e=>.ins e q1O q6M q6N q6O q6P,fun e=>.ins e q0h q6g q6h q6i q6j,q3Z,q3D,g q6k,q2P,q0l,q33,q3v,q2Q,q3e,q0F,q2F,q1q,q2G,q1r,q3R,q2R,q34,q3E,q2H,q2p,q1T,q35,q36,q4f,q37,q3S,q2c,q3T,q3q,q2d,q3U,q3V,q38,q3f,q2S,q3W,q30,g0 q5w,g0 q5x,g0 q5e,g0 q2V,g0 q47,g0 q1s,g0 q2e,g0 q2I,g0 q4w,g0 q48,g0 q1U,g0 q49,g0 q39⟩;exact⟨_,fun s v=>.of_eq rfl,fun base _ _=>xpF T⟩
end K73
open PySem PySem.W PyProof.Rows
namespace PySem.W.Fast
theorem tw1525717643898149952:True:=trivial
theorem tw893779593870960192:True:=trivial
theorem tw17674220323536319168:True:=trivial
theorem tw12255795219297861793:True:=trivial
theorem tw8468734548909308641:True:=trivial
theorem tw12695428979549274081:True:=trivial
theorem tw13668338586911406338:True:=trivial
theorem tw1073939086047386306:True:=trivial
theorem tw12658389086485809443:True:=trivial
theorem tw13319529738526738596:True:=trivial
theorem tw14952105270401322244:True:=trivial
theorem tw2176471371151326628:True:=trivial
theorem tw16673977531944302725:True:=trivial
theorem tw10428919954679300389:True:=trivial
theorem tw11162524320171414149:True:=trivial
theorem tw6222041181289302439:True:=trivial
theorem tw12127843682836345288:True:=trivial
theorem tw7353948443474875016:True:=trivial
theorem tw12951329548167454953:True:=trivial
theorem tw8371946255249175017:True:=trivial
theorem tw7191136099827401674:True:=trivial
theorem tw13513542191659678763:True:=trivial
theorem tw15675418903906257387:True:=trivial
theorem tw4949813508084983723:True:=trivial
theorem tw4130376488165342187:True:=trivial
theorem tw9598564223251537903:True:=trivial
theorem tw17132020223295010896:True:=trivial
theorem tw12944972013605199120:True:=trivial
theorem tw873525586858464688:True:=trivial
theorem tw11367286217562361394:True:=trivial
theorem tw3919595114602487891:True:=trivial
theorem tw3961184486624715507:True:=trivial
theorem tw12597737302047673620:True:=trivial
theorem tw9228814645075416693:True:=trivial
theorem tw11451937922349859509:True:=trivial
theorem tw6657385729029100598:True:=trivial
theorem tw13588891591309196726:True:=trivial
theorem tw3343628154202220951:True:=trivial
theorem tw2340865593240804472:True:=trivial
theorem tw17688608333795695608:True:=trivial
theorem tw11912076328185290586:True:=trivial
theorem tw12477752881160848732:True:=trivial
theorem tw758609740803970428:True:=trivial
theorem tw1539194427141559964:True:=trivial
theorem tw3845616589536497693:True:=trivial
theorem tw454396053099455229:True:=trivial
theorem tw6982313292652527549:True:=trivial
theorem tw10458438240105280766:True:=trivial
theorem tw10713428754308728051:True:=trivial
theorem tw11753255762735823117:True:=trivial
theorem tw17794531419883812211:True:=trivial
theorem tw15767282154377273946:True:=trivial
theorem tw18308376180572480037:True:=trivial
theorem tw7570712228121623491:True:=trivial
theorem tw14175491349031495696:True:=trivial
theorem tw12777117988835942095:True:=trivial
theorem tw6516696501387946425:True:=trivial
theorem tw711543738315061023:True:=trivial
theorem tw11261724758888007269:True:=trivial
theorem tw9984807797002934526:True:=trivial
theorem tw10363712000856790309:True:=trivial
theorem tw16051957005667962889:True:=trivial
theorem tw17987371346585587082:True:=trivial
theorem tw7702185230870065796:True:=trivial
theorem tw16239465824854026945:True:=trivial
theorem tw4116800267956545392:True:=trivial
theorem tw901308588918420609:True:=trivial
theorem tw1715431535507032780:True:=trivial
theorem tw504652390106485910:True:=trivial
theorem tw15032156126719577684:True:=trivial
theorem tw9489446642096153444:True:=trivial
theorem tw11945711153313642522:True:=trivial
theorem tw5407687406371847559:True:=trivial
theorem tw6746474306134119200:True:=trivial
theorem tw2405070536278297482:True:=trivial
theorem tw884115197639314876:True:=trivial
theorem tw5115806456890739296:True:=trivial
theorem tw3370455817321459161:True:=trivial
theorem tw12544193019997916274:True:=trivial
theorem tw15042329966729048367:True:=trivial
theorem tw9701641172490644551:True:=trivial
theorem tw11423377240901530752:True:=trivial
theorem tw12105494652063270216:True:=trivial
theorem tw2044046431594867382:True:=trivial
theorem tw13508980630021162298:True:=trivial
theorem tw12056408191967502941:True:=trivial
theorem tw16122793711331276142:True:=trivial
theorem tw15130730462091497746:True:=trivial
theorem tw5262721382308635714:True:=trivial
theorem tw17570874885392243059:True:=trivial
theorem tw3793305172487609107:True:=trivial
theorem tw12936479535524061760:True:=trivial
theorem tw8152630792734978587:True:=trivial
theorem tw12598379191745700490:True:=trivial
theorem tw4926293848320692495:True:=trivial
theorem tw529517719151023008:True:=trivial
theorem tw5955326845075882931:True:=trivial
theorem tw18230757307655100398:True:=trivial
theorem tw3422408497150084625:True:=trivial
theorem tw9570157143752312467:True:=trivial
theorem tw6273002883564917306:True:=trivial
theorem tw8677638812088402125:True:=trivial
theorem tw13181942050457170717:True:=trivial
theorem tw4168549751200423142:True:=trivial
theorem tw2576302679131507526:True:=trivial
theorem tw4687051742494428234:True:=trivial
theorem tw13687057546074169079:True:=trivial
theorem tw17913502736849599378:True:=trivial
theorem tw15772861528732500786:True:=trivial
theorem tw3915074227742679247:True:=trivial
theorem tw4337012763141304359:True:=trivial
theorem tw2431027942422287056:True:=trivial
theorem tw1576763145802466212:True:=trivial
theorem tw14759329309002670391:True:=trivial
theorem tw18241997089263938625:True:=trivial
theorem tw12899902563831992682:True:=trivial
theorem tw1058409660114916673:True:=trivial
theorem tw11233867596773879893:True:=trivial
theorem tw13654346944787649185:True:=trivial
theorem tw3457104505683797927:True:=trivial
theorem tw13450960221704563602:True:=trivial
theorem tw5887960205582337038:True:=trivial
theorem tw16697801344356670164:True:=trivial
theorem tw3616790959319889277:True:=trivial
theorem tw4951486706266242949:True:=trivial
theorem tw14049431981954531090:True:=trivial
theorem tw10130177002562955452:True:=trivial
theorem tw10607417071157069995:True:=trivial
theorem tw5189080631805890669:True:=trivial
theorem tw1411332734043352583:True:=trivial
theorem tw7079319163452555430:True:=trivial
theorem tw14017406002787699062:True:=trivial
theorem tw6324275878998396986:True:=trivial
theorem tw16411540321584145915:True:=trivial
theorem tw2011088845667062158:True:=trivial
theorem tw5056991233091086445:True:=trivial
theorem tw2099616511554140745:True:=trivial
theorem tw13680116356040981072:True:=trivial
theorem tw838631089620414602:True:=trivial
theorem tw9922452403759558702:True:=trivial
theorem tw2686686629762542191:True:=trivial
theorem tw12339430519724521745:True:=trivial
theorem tw14188533471253653349:True:=trivial
theorem tw8338823729945283479:True:=trivial
theorem tw8565068259702911902:True:=trivial
theorem tw181500008230019255:True:=trivial
theorem tw17793102798001822280:True:=trivial
theorem tw16844907920995740277:True:=trivial
theorem tw3624543609154884193:True:=trivial
theorem tw1089918771773367238:True:=trivial
theorem tw338144491491550149:True:=trivial
theorem tw17174105961899308946:True:=trivial
theorem tw3374304089698148798:True:=trivial
theorem tw16481222406886552199:True:=trivial
theorem tw4805891970409056646:True:=trivial
theorem tw4831586864888303461:True:=trivial
theorem tw5364868906934150999:True:=trivial
theorem tw15166469154467851311:True:=trivial
theorem tw12160607327209045653:True:=trivial
theorem tw7536318285204572168:True:=trivial
theorem tw18430331170848103298:True:=trivial
theorem tw11614348660753796996:True:=trivial
theorem tw18297800381774933535:True:=trivial
theorem tw16796441088788475021:True:=trivial
theorem tw13964958827070817426:True:=trivial
theorem tw6185159982013895688:True:=trivial
theorem tw5758690756454452674:True:=trivial
theorem tw10361747255320749329:True:=trivial
theorem tw13571457586098467246:True:=trivial
theorem tw15137313434740132425:True:=trivial
theorem tw4010742955721758506:True:=trivial
theorem tw12241818467137239223:True:=trivial
theorem tw18367229951086172823:True:=trivial
theorem tw5300167057032077356:True:=trivial
theorem tw16819280971499065271:True:=trivial
theorem tw16743645229316856578:True:=trivial
theorem tw6600603159925346428:True:=trivial
theorem tw5978797687511456638:True:=trivial
theorem tw1002379835681106818:True:=trivial
theorem tw10668766263978399384:True:=trivial
theorem tw17495296551191509766:True:=trivial
theorem tw15524433692357411302:True:=trivial
theorem tw285167148117846582:True:=trivial
theorem tw218783467880930117:True:=trivial
theorem tw9609039130006494027:True:=trivial
theorem tw13975046798455486559:True:=trivial
theorem tw10416826480426875977:True:=trivial
theorem tw2968079588392842497:True:=trivial
theorem tw5727553026614121402:True:=trivial
theorem tw12131048930440659779:True:=trivial
theorem tw5028710662286488882:True:=trivial
theorem tw4089746571326825623:True:=trivial
theorem tw1424706544116121225:True:=trivial
theorem tw14842767245994574930:True:=trivial
theorem tw11964366044605288242:True:=trivial
theorem tw803261379079983731:True:=trivial
theorem tw10084761162054365125:True:=trivial
theorem tw6813374073135000450:True:=trivial
theorem tw5641118472886013736:True:=trivial
theorem tw10936313886196757903:True:=trivial
theorem tw5072340418561198220:True:=trivial
theorem tw7258836031651774300:True:=trivial
theorem tw15824514911752106677:True:=trivial
theorem tw9183403480705804145:True:=trivial
theorem tw4369164854246428576:True:=trivial
theorem tw15792799569884801597:True:=trivial
theorem tw5185515338677753276:True:=trivial
theorem tw16907657687125825027:True:=trivial
theorem tw8676873163309108280:True:=trivial
theorem tw10338398628675122453:True:=trivial
theorem tw10381588752537895359:True:=trivial
theorem tw14512234562238867232:True:=trivial
theorem tw16737911681703662059:True:=trivial
theorem tw10966399041241369523:True:=trivial
theorem tw11099213569155698055:True:=trivial
theorem tw16784227004738980829:True:=trivial
theorem tw6561958223555862664:True:=trivial
theorem tw17292303553141649401:True:=trivial
theorem tw1903298096684186164:True:=trivial
theorem tw17063935423655897420:True:=trivial
theorem tw14837143444429364810:True:=trivial
theorem tw15083156640617501174:True:=trivial
theorem tw1853894090444810690:True:=trivial
theorem tw17448351352151236870:True:=trivial
theorem tw3555100955541327596:True:=trivial
theorem tw10946214871876667764:True:=trivial
theorem tw13989185987859634156:True:=trivial
theorem tw2664077989233763363:True:=trivial
theorem tw9415927493057481599:True:=trivial
theorem tw2441468196074678447:True:=trivial
theorem tw5645162281925287029:True:=trivial
theorem tw12817714156092299541:True:=trivial
theorem tw13169136679831706240:True:=trivial
theorem tw16154362367976629238:True:=trivial
theorem tw2190973611749935525:True:=trivial
theorem tw9162165861634063273:True:=trivial
theorem tw9211423313364352232:True:=trivial
theorem tw15676610895050976277:True:=trivial
theorem tw4942788781631064640:True:=trivial
theorem tw5820621845569513446:True:=trivial
theorem tw7836499461946845588:True:=trivial
theorem tw7602980398821867153:True:=trivial
theorem tw4203859018481348678:True:=trivial
theorem tw219694373470156778:True:=trivial
theorem tw12442303747377105163:True:=trivial
theorem tw3138391887170959309:True:=trivial
theorem tw15292967242881317532:True:=trivial
theorem tw2922222598150594711:True:=trivial
theorem tw5589250073449608256:True:=trivial
theorem tw9621262848867225107:True:=trivial
theorem tw1374573318611712323:True:=trivial
theorem tw13812353071500147502:True:=trivial
theorem tw13815780631096585050:True:=trivial
theorem tw15080579876564884834:True:=trivial
theorem tw194523548909197440:True:=trivial
theorem tw4120597645783310468:True:=trivial
theorem tw7268775935152784729:True:=trivial
theorem tw7962442821277436550:True:=trivial
theorem tw9085856392584978863:True:=trivial
theorem tw14423562049621783195:True:=trivial
theorem tw415078033010781153:True:=trivial
theorem tw8879751608862026358:True:=trivial
theorem tw13403962756591052188:True:=trivial
theorem tw4995448640021080481:True:=trivial
theorem tw15840821935298912729:True:=trivial
theorem tw17575454614699936497:True:=trivial
theorem tw3200645309031094599:True:=trivial
theorem tw4779356506985354764:True:=trivial
theorem tw8328994382849721760:True:=trivial
theorem tw3864953118153869448:True:=trivial
theorem tw11190809533406120766:True:=trivial
theorem tw2370325137046125192:True:=trivial
theorem tw7142843491352659355:True:=trivial
theorem tw14026110950465198873:True:=trivial
theorem tw16325937360940345739:True:=trivial
theorem tw17571511443535313079:True:=trivial
theorem tw4406519798929633810:True:=trivial
theorem tw4561459095528095720:True:=trivial
theorem tw8157854587662937070:True:=trivial
theorem tw16651354046404037580:True:=trivial
theorem tw4082906412707931894:True:=trivial
theorem tw3001327129890087809:True:=trivial
theorem tw445919322556544940:True:=trivial
theorem tw14380197760242030877:True:=trivial
theorem tw15846175165178059449:True:=trivial
theorem tw3960772357096205377:True:=trivial
theorem tw8502115286433759743:True:=trivial
theorem tw9846449915203744561:True:=trivial
theorem tw10678009852624330618:True:=trivial
theorem tw17247414290746460639:True:=trivial
theorem tw8848302632275331572:True:=trivial
theorem tw6387123297416346002:True:=trivial
theorem tw17247801810603404833:True:=trivial
theorem tw13961831658634839274:True:=trivial
theorem tw11050911310224601677:True:=trivial
theorem tw14627058637001245877:True:=trivial
theorem tw7173074032966059698:True:=trivial
theorem tw1479766124517416740:True:=trivial
theorem tw8174140619665108135:True:=trivial
theorem tw1221705409480764529:True:=trivial
theorem tw12973807098291114305:True:=trivial
theorem tw6595334619282806518:True:=trivial
theorem tw9292115603771932912:True:=trivial
theorem tw17500471108879505264:True:=trivial
theorem tw2328932597311607593:True:=trivial
theorem tw15807675954247561675:True:=trivial
theorem tw17607642675850388885:True:=trivial
theorem tw2634244408122045742:True:=trivial
theorem tw11283511849024086226:True:=trivial
theorem tw15872446287164461389:True:=trivial
theorem tw8158844231165511161:True:=trivial
theorem tw17180074811848025927:True:=trivial
theorem tw17723056224020517861:True:=trivial
theorem tw2372956475706732227:True:=trivial
theorem tw4440850790487991621:True:=trivial
theorem tw651972412821401472:True:=trivial
theorem tw2218124888537896475:True:=trivial
theorem tw363676935956273696:True:=trivial
theorem tw1955392692485229444:True:=trivial
theorem tw2893398636400717471:True:=trivial
theorem tw6143897234395999573:True:=trivial
theorem tw17696968651321726291:True:=trivial
theorem tw4724796647904155530:True:=trivial
theorem tw54212073779987733:True:=trivial
theorem tw10469346185040146746:True:=trivial
theorem tw11069586825503725421:True:=trivial
theorem tw11489459320390935689:True:=trivial
theorem tw11569033999410395639:True:=trivial
theorem tw11603615008055530569:True:=trivial
theorem tw11624316736437377554:True:=trivial
theorem tw12136003250924786583:True:=trivial
theorem tw12727136893519550398:True:=trivial
theorem tw12817808412538902467:True:=trivial
theorem tw1311090212165191590:True:=trivial
theorem tw13309372185547131198:True:=trivial
theorem tw13378940251848372976:True:=trivial
theorem tw13854477292941846665:True:=trivial
theorem tw14082340900033692184:True:=trivial
theorem tw14441023335266746514:True:=trivial
theorem tw14850516841531557148:True:=trivial
theorem tw14865702105281825561:True:=trivial
theorem tw15731478225489897013:True:=trivial
theorem tw16090859281523960102:True:=trivial
theorem tw16149616147579534029:True:=trivial
theorem tw16324107291624217238:True:=trivial
theorem tw16600040443648813096:True:=trivial
theorem tw16605780229593524799:True:=trivial
theorem tw16849181494286774161:True:=trivial
theorem tw17390961735236831528:True:=trivial
theorem tw17395292072689139057:True:=trivial
theorem tw17729355265029738827:True:=trivial
theorem tw18440679873270765321:True:=trivial
theorem tw2093366339835185326:True:=trivial
theorem tw2607263381004449101:True:=trivial
theorem tw3318995648600587362:True:=trivial
theorem tw342909612856277712:True:=trivial
theorem tw3516442914805140706:True:=trivial
theorem tw3638459663212963062:True:=trivial
theorem tw4117520225787567690:True:=trivial
theorem tw4381471021050213809:True:=trivial
theorem tw4407947830085579717:True:=trivial
theorem tw4641450028080933042:True:=trivial
theorem tw4869654412633866213:True:=trivial
theorem tw5429615094283572434:True:=trivial
theorem tw5931989387868367074:True:=trivial
theorem tw6874135186433624345:True:=trivial
theorem tw6968192530702228122:True:=trivial
theorem tw7751994816278856823:True:=trivial
theorem tw7889308620919341296:True:=trivial
theorem tw8141573066302612207:True:=trivial
theorem tw8209283550034659543:True:=trivial
theorem tw8847513473271882029:True:=trivial
theorem tw9357627210251876892:True:=trivial
theorem tw975549255283798665:True:=trivial
theorem tw13367025433700359796:True:=trivial
theorem tw2733780875042840789:True:=trivial
theorem tw10537785679092216012:True:=trivial
theorem tw10784661197195723601:True:=trivial
theorem tw11651771841018010523:True:=trivial
theorem tw12021432951266170290:True:=trivial
theorem tw12217114391531055202:True:=trivial
theorem tw12453179763932975221:True:=trivial
end PySem.W.Fast
set_option maxRecDepth 100000 in
set_option maxHeartbeats 0 in
theorem PySem.Challenge.cw_oneroom_k73_falls_of_a_board_holds : PySem.Challenge.rw_oneroom_k73_falls_of_a_board.Holds := by
 w_on;o_law;k_head;(case hw=>w_witness2)
 k_fill
 refine L2.xmi (l:=PySem.Challenge.rw_oneroom_k73_falls_of_a_board) (n:=63) (k:=13) (x:="_law_script") (CX:=L2.CX0) (sp:=K73.xiA) (tabs:=[(K73.q1N,K73.uJ,K73.xby),(K73.q05,K73.zf,K73.jn),(K73.q0n,K73.yk,K73.zk),(K73.q0B,K73.yz,K73.uj),(K73.q01,K73.yV,K73.vd),(K73.q0y,K73.yq,K73.zI),(K73.q0C,K73.yA,K73.uk),(K73.q3X,K73.xd2,K73.xhW)]) rfl (by decide) rfl ⟨rfl,by decide,by decide⟩ (fun w h Y=>PySem.W.km_in_of Y) (fun w h Y KX=>(List.forall_mem_cons.mpr ⟨⟨PySem.W.codeHd_of_K (c:=K73.q1N) (P:=K73.uJ) KX (by kernel_rfl),PySem.W.km_tabs_of Y _ (by decide)⟩,(List.forall_mem_cons.mpr ⟨⟨PySem.W.codeHd_of_K (c:=K73.q05) (P:=K73.zf) KX (by kernel_rfl),PySem.W.km_tabs_of Y _ (by decide)⟩,(List.forall_mem_cons.mpr ⟨⟨PySem.W.codeHd_of_K (c:=K73.q0n) (P:=K73.yk) KX (by kernel_rfl),PySem.W.km_tabs_of Y _ (by decide)⟩,(List.forall_mem_cons.mpr ⟨⟨PySem.W.codeHd_of_K (c:=K73.q0B) (P:=K73.yz) KX (by kernel_rfl),PySem.W.km_tabs_of Y _ (by decide)⟩,(List.forall_mem_cons.mpr ⟨⟨PySem.W.codeHd_of_K (c:=K73.q01) (P:=K73.yV) KX (by kernel_rfl),PySem.W.km_tabs_of Y _ (by decide)⟩,(List.forall_mem_cons.mpr ⟨⟨PySem.W.codeHd_of_K (c:=K73.q0y) (P:=K73.yq) KX (by kernel_rfl),PySem.W.km_tabs_of Y _ (by decide)⟩,(List.forall_mem_cons.mpr ⟨⟨PySem.W.codeHd_of_K (c:=K73.q0C) (P:=K73.yA) KX (by kernel_rfl),PySem.W.km_tabs_of Y _ (by decide)⟩,(List.forall_mem_cons.mpr ⟨⟨PySem.W.codeHd_of_K (c:=K73.q3X) (P:=K73.xd2) KX (by kernel_rfl),PySem.W.km_tabs_of Y _ (by decide)⟩,(fun _ z=>nomatch z)⟩)⟩)⟩)⟩)⟩)⟩)⟩)⟩)) (fun w=>by kernel_rfl) (by decide) ?F ?S ?C
 case F=>
  intro w mg fa h KX G hmg
  refine' K73.xpG KX G hmg ?_ ?_ ?_ ?_ ?_ ?_ ?_ ?_ ?_ ?_ ?_ ?_ ?_ ?_ ?_ ?_ ?_ ?_ ?_ ?_ ?_ ?_ ?_ ?_ ?_ ?_ ?_ ?_ ?_ ?_ ?_ ?_ ?_ ?_ ?_ ?_ ?_ ?_ ?_ ?_ ?_ ?_ ?_ ?_ ?_ ?_ ?_ ?_ ?_ ?_ ?_ ?_ ?_ ?_ ?_ ?_ ?_ ?_ ?_ ?_ ?_ ?_ ?_ ?_ ?_ ?_ ?_ ?_ ?_ ?_ ?_ ?_ ?_ ?_ ?_ ?_ ?_ ?_ ?_ ?_ ?_ ?_ ?_ ?_ ?_ ?_ ?_ ?_ ?_ ?_ ?_ ?_ ?_ ?_ ?_ ?_ ?_ ?_ ?_ ?_ ?_ ?_ ?_ ?_ ?_ ?_ ?_ ?_ ?_ ?_ ?_ ?_ ?_ ?_ ?_ ?_ ?_ ?_ ?_ ?_ ?_ ?_ ?_ ?_ ?_ ?_ ?_ ?_ ?_ ?_ ?_ ?_ ?_ ?_ ?_ ?_ ?_ ?_ ?_ ?_ ?_ ?_ ?_ ?_ ?_ ?_ ?_ ?_ ?_ ?_ ?_ ?_ ?_ ?_ ?_ ?_ ?_ ?_ ?_ ?_ ?_ ?_ ?_ ?_ ?_ ?_ ?_ ?_ ?_ ?_ ?_ ?_ ?_ ?_ ?_ ?_ ?_ ?_ ?_ ?_ ?_ ?_ ?_ ?_ ?_ ?_ ?_ ?_ ?_ ?_ ?_ ?_ ?_ ?_ ?_ ?_ ?_ ?_ ?_ ?_ ?_ ?_ ?_ ?_ ?_ ?_ ?_ ?_ ?_ ?_ ?_ ?_ ?_ ?_ ?_ ?_ ?_ ?_ ?_ ?_ ?_ ?_ ?_ ?_ ?_ ?_ ?_ ?_ ?_ ?_ ?_ ?_ ?_ ?_ ?_ ?_ ?_ ?_ ?_ ?_ ?_ ?_ ?_ ?_ ?_ ?_ ?_ ?_ ?_ ?_ ?_ ?_ ?_ ?_ ?_ ?_ ?_ ?_ ?_ ?_ ?_ ?_ ?_ ?_ ?_ ?_ ?_ ?_ ?_ ?_ ?_ ?_ ?_ ?_ ?_ ?_ ?_ ?_ ?_ ?_ ?_ ?_ ?_ ?_ ?_ ?_ ?_ ?_ ?_ ?_ ?_ ?_ ?_ ?_ ?_ ?_ ?_ ?_ ?_ ?_ ?_ ?_ ?_ ?_ ?_ ?_ ?_ ?_ ?_ ?_ ?_ ?_ ?_ ?_ ?_ ?_ ?_ ?_ ?_ ?_
  iterate 2 all_goals first|(show(_:Prop);first|exact⟨_,L2.vG (by k_is) (by k_is) (by k_is)⟩|exact L2.xnC (by kernel_rfl)|exact⟨by k_is,by k_is,by k_is⟩|exact⟨by k_is,by k_is,by k_is,by k_is⟩|exact⟨by kernel_rfl,by kernel_rfl,by kernel_rfl,by kernel_rfl,by kernel_rfl,by kernel_rfl⟩|exact⟨by kernel_rfl,by kernel_rfl,by kernel_rfl,by kernel_rfl,by kernel_rfl,by kernel_rfl,by kernel_rfl,by kernel_rfl⟩|k_is|(show _=_;k_is)|kernel_rfl)|skip
 case S=>exact fun K H a ns hl hS hT=>⟨a,ns,rfl,hS,hl,hT _ (.head _),hT _ (.tail _ (.head _)),hT _ (.tail _ (.tail _ (.head _))),hT _ (.tail _ (.tail _ (.tail _ (.head _)))),hT _ (.tail _ (.tail _ (.tail _ (.tail _ (.head _))))),hT _ (.tail _ (.tail _ (.tail _ (.tail _ (.tail _ (.head _)))))),hT _ (.tail _ (.tail _ (.tail _ (.tail _ (.tail _ (.tail _ (.head _))))))),hT _ (.tail _ (.tail _ (.tail _ (.tail _ (.tail _ (.tail _ (.tail _ (.head _)))))))),fun _=>rfl⟩
 case C=>exact fun _ _ _ _ z=>z
#print axioms PySem.Challenge.cw_oneroom_k73_falls_of_a_board_holds
