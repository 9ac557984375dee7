import PyProof.Rows.All
import Wide.All
import OpenK.AllK
import Wide.FinOn
import Lean
import PyProof.EqAt
import PyProof.EqKinds
import PyProof.TupleCall
import PySem.Challenge.RW_oneroom_k71_a_board
set_option Elab.async false
set_option linter.all false
set_option maxRecDepth 100000
open And renaming intro→a7
open Array renaming length_toList→cG,getElem?_eq_some_iff→cY,find?_toList→i8
open Bool renaming false_ne_true→aI,not_eq_false'→bP,and_eq_true→bR,false_eq_true→cS,eq_iff_iff→eA,false_and→fR,true_and→gw,not_eq_true'→gz,and_false→iy,false_or→iW,not_true→iY,true_or→j3
open False renaming elim→aS
open ForInStep renaming yield→dJ
open Function renaming comp_def→ka
open Int renaming toNat_natCast→cD,toNat_of_nonneg→cH,emod_lt_of_pos→eU,le_refl→fh,emod_nonneg→fM,zero_add→j7
open List renaming length_map→ai,mem_singleton→ao,mem_cons→aq,getElem?_eq_some_iff→ax,getElem?_map→aA,getElem?_eq_getElem→aC,replicate→aD,size_toArray→aO,mem_cons_of_mem→aQ,not_mem_nil→aR,mem_of_getElem?→aU,mem_append→aV,length_append→aW,mem_append_right→aY,mem_append_left→a5,mem_cons_self→a9,getElem?_append_left→bg,nodup_cons→bh,map_cons→bp,length_replicate→bq,getElem?_append_right→bw,length_cons→bB,length_take→bC,lookup_cons→bD,mem_iff_getElem?→bF,take_succ→bH,map_append→bN,getElem?_set_ne→bQ,take_length→bS,drop_eq_nil_of_le→bV,append_nil→bZ,drop_eq_getElem_cons→b7,range→b8,find?_cons→cc,mem_map→cy,flatten_cons→cA,append_assoc→cC,all_eq_true→cL,nodup_nil→cM,getElem?_set_self→cO,take_of_length_le→cR,find?_eq_none→cT,of_mem_zip→cU,getElem?_eq_none→cW,getD_eq_getElem?_getD→c7,getElem?_take_of_lt→dm,length_drop→dn,cons_append→dv,mem_flatten→dz,replicate_succ→dB,getElem?_drop→dO,getElem?_take→dP,lookup→dQ,mem_range→dU,filterMap_cons→eu,length_set→eD,nil_append→eE,length_nil→eF,foldl_append→ff,getElem_mem→fw,flatten_replicate_singleton→fx,mem_filter→fE,flatMap_append→fP,getElem?_range→fQ,drop_zero→fV,length→fX,length_range→gA,mem_of_find?_eq_some→gB,pairwise_iff_getElem→gD,map_nil→gP,mem_flatMap→g9,drop_length→hW,getElem?_replicate→hX,length_singleton→ix,take_zero→iD,mem_iff_getElem→iM,mem_of_mem_drop→iP,any_cons→iV,mem_map_of_mem→iZ,length_pos_iff→i3,mem_filterMap→i7,getElem_range→j4,filter_append→j5,map_replicate→j6
open Nat renaming le_refl→ar,lt_of_lt_of_le→aG,ne_of_lt→aH,le_trans→bo,zero_le→bL,lt_irrefl→bM,le_succ→cP,lt_of_le_of_lt→dI,le_of_lt→dW,not_lt_zero→eI,ne_of_gt→eN,succ_mul→eP,mul_le_mul_right→fL,lt_succ_self→gK,mul_comm→gQ,succ_ne_self→gY,div_add_mod→ik
open Ne renaming symm→au
open Option renaming map_eq_some_iff→aJ,isSome_iff_exists→eO,map_some→fJ,isSome_map→gy,getD_none→kh,bind_some→ki,map→kj
open Option.some renaming inj→bc,injEq→j9
open Or renaming inl→az,inr→bT
open Prod renaming snd→iQ
open Prod.mk renaming injEq→eg
open PyProof renaming noPylong_of_log2→gR
open PyProof.Rows renaming callWith_type1→bE,slot_tuple_getitem→dC,envOfC→dH,AllBare→eV,IntsAre→iw,boot_range→iK,Constant_none→iR,subscriptTail→iU
open PySem renaming wpAny_bind→aa,Shared→af,FuncData→aj,wpAny_pure→ak,Program→av,starEach→aE,Around→aL,sizeLine→aM,wpAny_mono→aT,sizeLine_eq→a6,mainGlobals→ba,wpAny_holding→br,bootBuiltins→bt,rawInt→bx,compareOp→bz,backTo→bG,wpAny_Call_Name_kw→bK,wpAny_field→bU,wpAny_truthy_bool→bW,wpAny_newObj_type→bX,codeAny→ck,codeAny_mono→cm,Arguments→cq,builtinsNs→cu,wpAny_call→cw,behindInMarks→cE,wpAny_standAt→cF,binaryOp→cJ,NameKind→cK,codeAny_call_function→cV,wpAny_newFunctionEnv_cells→cX,wpAny_pyIter_enum→c8,codeAny_call_builtin→df,bindArgs→dk,wpAny_callSpecial?_slot→dD,sysModules→dF,wpAny_execs_nil→dG,wpAny_updateSeq→dM,PyData→dN,FuncBody→dR,wpAny_loadPart_at→dS,plainId_quiet→d9,wpAny_letOwnedTupleGo_enum→ee,sliceBounds→eh,excClassObj→eo,wpAny_passesOwn→ez,codeAmong→eK,swapsWith→eM,tupleKind_room_in1→eQ,holding→eW,wpAny_seqItems→eY,wpAny_setField→eZ,wpAny_pyIter_list→fb,foldedSetIterable→fc,keywordEach→fg,wpAny_of_eq→fi,callWith→fk,wpAny_call_entry→fm,wpAny_isTrue_Compare1→fy,getMethod→fz,codeAny_handlers_test→fB,plainObj_wpAny_Assign_Attribute→fC,assignEach→fG,letOwnedTupleGo→fH,wpAny_handleBy_cons→fO,wpAny_loadPart→fS,getItem→fT,wpAny_letGo→fY,assign→gc,wpAny_pyIter_tuple→gf,cellsFrom→gi,attributeBase→gq,ExceptHandler→gs,wpAny_attempt→gu,wpAny_assign_Name→gx,isInstance→gC,standAt→gF,valueAt→gG,callerA→gH,Result→gJ,backToKw→gL,codeAny_func→gN,IsPart→gO,wpAny_comprehension_free→gS,intItems→gW,IsEnum→gX,wpAny_Try_except→gZ,wpAny_pyNext_enum_itemD→hZ,tupleKind→ia,TriplesOk→ib,updateSeq→ic,codeAny_builtin→ie,seqItems?→ig,wpAny_loadPart'→ij,subscripted→ip,recursionLimit→ir,BindsTo→iu,wpAny_tryCatch→iz,Builtin→iA,typeLookup→iG,call_meets→iH,closureFor→iI,IsLongIter→iJ
open PySem.Around renaming frames_deeper→iF,under_plainId→iO,under→i9
open PySem.AutoSeq1 renaming wpAny_loadPart'→eS
open PySem.Builtin.Builtins renaming bindParams→gj
open PySem.Builtin.List renaming listExtendWith→cf,listTooLong→du,listSameRef→gT,listItems→iq
open PySem.Builtin.ObjectAttr renaming storeInDict→fK,attrName→gk
open PySem.Builtin.Range renaming rangeSize→a8,small→fN
open PySem.Builtin.Slice renaming slicePlaces→c9,sliceAdjust→eC,sliceApplied→gr
open PySem.Builtin.SmallTypes renaming nextOf→dg,fitsIndex→dZ
open PySem.Builtin.Tuple renaming tupleExact→dq
open PySem.Calls renaming Name_function_global→gp
open PySem.Code renaming quiet_builtin→gn,isFrame→j0
open PySem.EntryCells renaming newEntry→i4
open PySem.F renaming slot_tuple_iterator_next→cZ,plain_max_loop→dy,args_tuple_iterator_next_1→fU,entry_tuple_iterator_next→gm,entry_enumerate_new→iB,slot_enumerate_next→iC
open PySem.Heap renaming get?_push_of_some→ah,lt_size→ay,get?_push_size→aN,get?_update_other→aZ,get?_update_self→bu,size_push→dX,get?_none_of_le→d7,SameBut→fF,get?_update_ne→i6,ExtBut→kg
open PySem.Heap.Ns1 renaming of_empty→j8
open PySem.Heap.SameBut renaming update→i5
open PySem.IsRange renaming new→ke
open PySem.NameKind renaming free→bA,cell→iX
open PySem.Obj renaming mapSeq→cQ,mapFields→dE,data_mapFields→eR,isFreed_of_fields→fA
open PySem.PassesOwn renaming never→bf
open PySem.PyData renaming canLay0→bJ,canLayAll0→cb,depthAll→cz,depth→dA,int→iL
open PySem.SeqAt renaming shaped→dw
open PySem.Str renaming ofString→aX
open PySem.Value renaming ref→aB,none→bj,bool→d5,type→d6,builtin→fj,int→fZ,str→f9,float→kd
open PySem.W renaming Frag→ag,kitOne→aw,kitCls→aF,findIn→aK,fnOf→bO,keepIn→bY,codeIn→cx,emptyDict→dh,kia_one→di,callWith_K→dY,cellsFrom_some→d8,methodCall_KW→eB,instObj→eJ,mroIn→eX,tabObj→fq,hasDictIn→fW,excIn→gI,codeRec_of→gM,envX→gU,looks_findIn→g7,nsIn→g8,specialIn→il,plainGet→iE,CodeHd→iN,plainGet_of→iS,looks_clsIn→iT
open Sum renaming inl→cI,inr→gE
open True renaming intro→b9
namespace L2
open PySem PySem.Spec PyProof.Rows
abbrev Key:=Sum Int Str
def xep:Key→Value→Bool
 | .inl k,v=>Value.isInt k v
 | .inr x,v=>Value.isStrOf x v
def xrm(w:World):Key→Int
 | .inl k=>hashInt k
 | .inr x=>hashStr w x
theorem yQ:∀{k:Key} {v:Value},xep k v=true→(∃i t,k=cI i∧v=fZ i t)∨(∃x t,k=gE x∧v=f9 x t)
 | .inl i,v,h=>by
  obtain⟨t,e⟩:=Value.isInt_shape (k:=i) (v:=v) h;exact .inl ⟨i,t,rfl,e⟩
 | .inr x,v,h=>by
  obtain⟨t,e⟩:=Value.isStrOf_shape (x:=x) (v:=v) h;exact .inr ⟨x,t,rfl,e⟩
theorem xlT(i:Int)(t:Tok):xep (.inl i) (.int i t)=true:=by simp[xep,Value.isInt]
theorem xlU(x:Str)(t:Tok):xep (.inr x) (.str x t)=true:=by simp[xep,Value.isStrOf]
theorem xpJ(a b:Int):decide ((cI a:Key)=cI b)=(a==b):=by
 by_cases e:a=b
 ·subst e;simp
 ·have h:¬(cI a:Key)=cI b:=fun q=>e (Sum.inl.inj q);rw[decide_eq_false h];exact(beq_eq_false_iff_ne.mpr e).symm
theorem xpK(a b:Str):decide ((gE a:Key)=gE b)=decide (a=b):=by
 by_cases e:a=b
 ·subst e;simp
 ·have h:¬(gE a:Key)=gE b:=fun q=>e (Sum.inr.inj q);rw[decide_eq_false h,decide_eq_false e]
theorem xpL(a:Int)(b:Str):decide ((cI a:Key)=gE b)=false:=decide_eq_false (fun q=>nomatch q)
theorem xpM(a:Str)(b:Int):decide ((gE a:Key)=cI b)=false:=decide_eq_false (fun q=>nomatch q)
def yM(prog:av)(w:World):PySem.KeyKind prog w Key where
 is:=xep
 hash:=xrm w
 inj:=fun v a b ha hb=>by
  rcases yQ ha with⟨i,t,rfl,rfl⟩|⟨x,t,rfl,rfl⟩
  ·rcases yQ hb with⟨j,u,rfl,e⟩|⟨y,u,rfl,e⟩
   ·injection e with e1 _;rw[e1]
   ·exact nomatch e
  ·rcases yQ hb with⟨j,u,rfl,e⟩|⟨y,u,rfl,e⟩
   ·exact nomatch e
   ·injection e with e1 _;rw[e1]
 byValue:=fun k v h=>by
  rcases yQ h with⟨i,t,rfl,rfl⟩|⟨x,t,rfl,rfl⟩<;> rfl
 pyHash:=fun hv h=>by
  rcases yQ hv with⟨i,t,rfl,rfl⟩|⟨x,t,rfl,rfl⟩
  ·exact wpAny_pyHash_int h
  ·exact wpAny_pyHash_str h
 eqBool:=fun hu hv h=>by
  rcases yQ hu with⟨i,t,rfl,rfl⟩|⟨x,t,rfl,rfl⟩
  ·rcases yQ hv with⟨j,u,rfl,rfl⟩|⟨y,u,rfl,rfl⟩
   ·rw[xpJ]at h;exact wpAny_eqBool_int h
   ·rw[xpL]at h;exact SeqAt.EqAt.int_str i t y u _ _ _ _ h
  ·rcases yQ hv with⟨j,u,rfl,rfl⟩|⟨y,u,rfl,rfl⟩
   ·rw[xpM]at h;exact SeqAt.EqAt.str_int x t j u _ _ _ _ h
   ·rw[xpK]at h;exact wpAny_eqBool_str h
 «strs»:=fun k x t v h=>by
  rcases yQ h with⟨i,u,rfl,e⟩|⟨y,u,rfl,e⟩
  ·exact nomatch e
  ·injection e with e1 _;subst e1;cases v<;> rfl
theorem xjJ(prog:av)(w:World)(i:Int)(t:Tok):(yM prog w).is (.inl i) (.int i t)=true:=xlT i t
theorem xjK(prog:av)(w:World)(x:Str)(t:Tok):(yM prog w).is (.inr x) (.str x t)=true:=xlU x t
end L2
namespace L2
open PySem PySem.Spec PyProof.Rows
inductive V where
 |non|bl (b:Bool)|int (i:Int)|str (x:Str)|byt (b:Array UInt8)|flt (b:UInt64)|ref (a:Addr)|ty (n:String)
 deriving DecidableEq
def RelV:V→Value→Prop
 | .non,u=>u=bj
 | .bl b,u=>u=d5 b
 | .int i,u=>∃t,u=fZ i t
 | .str x,u=>∃t,u=f9 x t
 | .byt b,u=>∃t,u=Value.bytes b t
 | .flt b,u=>∃t,u=kd b t
 | .ref a,u=>u=aB a
 | .ty n,u=>u=d6 n
theorem RelV.fn{x y:V}{u:Value}(a:RelV x u)(b:RelV y u):x=y:=by
 cases x<;> simp only[RelV]at a<;> (first|subst a|(obtain⟨_,rfl⟩:=a))<;> cases y<;> simp only[RelV]at b<;> first|rfl|(cases b;done)|(cases b;rfl)|(obtain⟨_,b⟩:=b;cases b;done)|(obtain⟨_,b⟩:=b;cases b;rfl)
abbrev Vals:List V→List Value→Prop:=Paired RelV
theorem Vals.length{xs:List V}{us:List Value}(r:Vals xs us):xs.length=us.length:=Paired.length r
theorem Vals.get:∀{xs:List V} {us:List Value} {i:Nat} {x:V},Vals xs us→xs[i]? =some x→∃u,us[i]? =some u∧RelV x u
 |_,_,_,_,.nil,e=>by simp at e
 |_,_,0,_,.cons r _,e=>by simp at e;subst e;exact⟨_,rfl,r⟩
 |_,_,i+1,x,.cons _ t,e=>by
  obtain⟨u,h1,h2⟩:=Vals.get (i:=i) (x:=x) t (by simpa using e);exact⟨u,by simpa using h1,h2⟩
theorem Vals.set{x:V}{u:Value}(r:RelV x u):∀{xs:List V} {us:List Value} (i:Nat),Vals xs us→Vals (xs.set i x) (us.set i u)
 |_,_,_,.nil=>.nil
 |_,_,0,.cons _ t=>.cons r t
 |_,_,i+1,.cons q t=>.cons q (Vals.set r i t)
theorem Vals.append:∀{xs ys:List V} {us ws:List Value},Vals xs us→Vals ys ws→Vals (xs++ys) (us++ws)
 |_,_,_,_,.nil,s=>s
 |_,_,_,_,.cons r t,s=>.cons r (Vals.append t s)
theorem Vals.take:∀{xs:List V} {us:List Value} (n:Nat),Vals xs us→Vals (xs.take n) (us.take n)
 |_,_,0,_=>.nil
 |_,_,_+1,.nil=>.nil
 |_,_,n+1,.cons r t=>.cons r (Vals.take n t)
theorem Vals.drop:∀{xs:List V} {us:List Value} (n:Nat),Vals xs us→Vals (xs.drop n) (us.drop n)
 |_,_,0,r=>r
 |_,_,_+1,.nil=>.nil
 |_,_,n+1,.cons _ t=>Vals.drop n t
def ux:Option V→Option Value→Prop
 |some v,some u=>RelV v u
 |none,none=>True
 |_,_=>False
def KV{κ:Type}:List (κ×V)→List (κ×Value)→Prop:=Paired fun(p:κ×V) (q:κ×Value)=>p.1=q.1∧RelV p.2 q.2
def kV:Key→V
 | .inl i=>.int i
 | .inr x=>.str x
inductive HO where
 |lst (xs:List V)
 |tup (xs:List V)
 |dK (kvs:List (Key×V))|dT (kvs:List (List Key×V))
 |set (S:Int→Bool) (n:Nat)
 |ins (C dx:Addr) (fs:List (Str×V))
 |own (x:Addr)
 |xd (fs:List (Str×V))
 |met (f x:Addr)
 |rng (lo hi:Int)
 |frz (o:Obj) (u:HO)
 |tbl (qs:List (Pos×Str))
 |cel (v:Option V)
 |ext (φ:Heap→Prop)
abbrev Hp:=Addr→Option HO
def upd(H:Hp)(a:Addr)(o:HO):Hp:=fun b=>if b=a then some o else H b
theorem xt{H:Hp}{a:Addr}{o:HO}:upd H a o a=some o:=by unfold upd;rw[if_pos rfl]
theorem xr{H:Hp}{a b:Addr}{o:HO}(h:b≠a):upd H a o b=H b:=by unfold upd;rw[if_neg h]
theorem zq{H:Hp}{a:Addr}{o u:HO}:upd (upd H a o) a u=upd H a u:=by
 funext b;unfold upd;split<;> rfl
theorem vL{H:Hp}{a b:Addr}{o u:HO}(h:H a=some o)(h':H b=some u)(d:o≠u):a≠b:=by
 intro e;subst e;rw[h]at h';exact d (bc h')
theorem xF{H:Hp}{a b:Addr}{o:HO}(h:H a=some o)(h':H b=none):a≠b:=by
 intro e;subst e;rw[h]at h';cases h'
section
variable (P:av) (w:World)
def yh(H:Hp)(h:Heap)(a:Addr):HO→Prop
 | .lst xs=>xs.length≤aM∧∃(its:List Value) (n:Nat),Vals xs its∧h.get? a=some {cls:=.type "list",data:=.seq its.toArray n}
 | .tup xs=>xs.length≤aM∧∃its:List Value,Vals xs its∧IsTup h a its.toArray
 | .dK kvs=>kvs.length≤aM∧(a==dF)=false∧∃vs,KV kvs vs∧h.DictOf (yM P w) a vs
 | .dT kvs=>kvs.length≤aM∧(a==dF)=false∧∃xs:List (List Key×Addr×Value),
   Paired (fun(p:List Key×V) (q:List Key×Addr×Value)=>p.1=q.1∧H q.2.1=some (.tup (p.1.map kV))∧RelV p.2 q.2.2) kvs xs∧
   ∃o es ep,h.get? a=some o∧o.ExactDict∧o.data= .dict es ep∧es.toList=xs.map (entryOfKey (ia (yM P w)))∧(xs.map (·.1)).Nodup
 | .set S n=>h.SetOf (intKind P w) a S n
 | .ins C dx fs=>H dx=some (.own a)∧fs.length≤1000∧dx≠a∧h.get? a=some (eJ C dx)∧
   ∃mA,h.Ns1 dx mA∧(∀f,ux (fs.lookup f) (mA f))∧PySem.Within mA (fs.map (·.1))
 | .own _=>∃o,h.get? a=some o
 | .xd fs=>∃mA,h.Ns1 a mA∧∀f,ux (fs.lookup f) (mA f)
 | .rng lo hi=>∃t u v,h.get? a=some {cls:=.type "range",data:=.fields #[.int lo t,.int hi u,.int 1 v]}
 | .frz o u=>h.get? a=some o∧yh H h a u
 | .tbl qs=>∃ps:Array Value,h.get? a=some {cls:=.none,data:=.fields ps}∧ib ps.toList∧∀pos q,(pos,q)∈qs→
   eK pos ps.toList=none∨∃c o u vs t,eK pos ps.toList=some (.ref c)∧H c=some (.frz o u)∧o.data= .fields vs∧vs[1]? =some (.str q t)
 | .cel v=>∃u,h.IsCell a u∧∀x,v=some x→∃y,u=some y∧RelV x y
 | .met f x=>h.get? a=some (W.methodObj (.ref f) (.ref x))
 | .ext φ=>φ h∧(∃o,h.get? a=some o)∧∀h1 h2:Heap,φ h1→(∀o,h1.get? a=some o→h2.get? a=some o)→φ h2
def HOk(H:Hp)(h:Heap):Prop:=∀a o,H a=some o→yh P w H h a o
end
section
variable {P:av} {w:World} {H H':Hp} {h h':Heap} {a:Addr} {o:HO}
def xpN:HO→Prop
 | .tup _=>True
 | .frz _ _=>True
 |_=>False
def Fix:HO→Prop
 | .tup _=>True
 | .frz _ _=>True
 | .tbl _=>True
 | .cel _=>True
 |_=>False
theorem yh.lt(x:yh P w H h a o):a<h.objs.size:=by
 cases o with
 |lst xs=>obtain⟨_,_,_,_,e⟩:=x;exact ay e
 |tup xs=>obtain⟨_,_,_,p⟩:=x;exact p.lt
 |dK kvs=>obtain⟨_,_,_,_,o,_,_,e,_⟩:=x;exact ay e
 |dT kvs=>obtain⟨_,_,_,_,o,_,_,e,_⟩:=x;exact ay e
 |set S n=>obtain⟨o,_,_,_,e,_⟩:=x;exact ay e
 |ins C dx fs=>obtain⟨_,_,_,e,_⟩:=x;exact ay e
 |own y=>obtain⟨_,e⟩:=x;exact ay e
 |xd fs=>obtain⟨_,⟨_,_,_,e,_⟩,_⟩:=x;exact ay e
 |rng lo hi=>obtain⟨_,_,_,e⟩:=x;exact ay e
 |frz ob u=>obtain⟨e,_⟩:=x;exact ay e
 |tbl qs=>obtain⟨_,e,_⟩:=x;exact ay e
 |cel v=>obtain⟨_,⟨_,e,_⟩,_⟩:=x;exact ay e
 |met f y=>exact ay (show h.get? a=some _ from x)
 |ext φ=>obtain⟨_,⟨_,e⟩,_⟩:=x;exact ay e
theorem Paired.mapP{α β:Type}{F G:α→β→Prop}:∀{l₁:List α} {l₂:List β},Paired F l₁ l₂→(∀a b,F a b→G a b)→Paired G l₁ l₂
 |_,_,.nil,_=>.nil
 |_,_,.cons r t,f=>.cons (f _ _ r) (Paired.mapP t f)
theorem Paired.imp'{α β:Type}{F G:α→β→Prop}(f:∀a b,F a b→G a b){l₁:List α}{l₂:List β}(r:Paired F l₁ l₂):Paired G l₁ l₂:=Paired.mapP r f
theorem yh.stay(x:yh P w H h a o)(k:∀b u,(b=a∨H b=some (.own a))→h.get? b=some u→h'.get? b=some u)
  (ho:∀b,H b=some (.own a)→H' b=some (.own a)) (ht:∀b u,H b=some u→xpN u→H' b=some u):yh P w H' h' a o:=by
 induction o with
 |lst xs=>obtain⟨z,its,n,r,e⟩:=x;exact⟨z,its,n,r,k _ _ (.inl rfl) e⟩
 |tup xs=>obtain⟨z,its,r,ob,e,c⟩:=x;exact⟨z,its,r,ob,k _ _ (.inl rfl) e,c⟩
 |dK kvs=>obtain⟨z,y,vs,r,ob,es,ep,e,c⟩:=x;exact⟨z,y,vs,r,ob,es,ep,k _ _ (.inl rfl) e,c⟩
 |dT kvs=>
  obtain⟨z,y,xs,r,ob,es,ep,e,c⟩:=x;exact⟨z,y,xs,Paired.mapP r fun p q z=>⟨z.1,ht _ _ z.2.1 trivial,z.2.2⟩,ob,es,ep,k _ _ (.inl rfl) e,c⟩
 |set S n=>obtain⟨ob,es,ep,t,e,c⟩:=x;exact⟨ob,es,ep,t,k _ _ (.inl rfl) e,c⟩
 |ins C dx fs=>
  obtain⟨d,z,ne,e,mA,⟨od,es,ep,e2,c⟩,r⟩:=x;exact⟨ho _ d,z,ne,k _ _ (.inl rfl) e,mA,⟨od,es,ep,k _ _ (.inr d) e2,c⟩,r⟩
 |own y=>obtain⟨ob,e⟩:=x;exact⟨ob,k _ _ (.inl rfl) e⟩
 |xd fs=>obtain⟨mA,⟨od,es,ep,e,c⟩,r⟩:=x;exact⟨mA,⟨od,es,ep,k _ _ (.inl rfl) e,c⟩,r⟩
 |rng lo hi=>obtain⟨t,u,v,e⟩:=x;exact⟨t,u,v,k _ _ (.inl rfl) e⟩
 |frz ob u ih=>obtain⟨e,q⟩:=x;exact⟨k _ _ (.inl rfl) e,ih q⟩
 |tbl qs=>
  obtain⟨ps,e,tr,r⟩:=x;refine⟨ps,k _ _ (.inl rfl) e,tr,fun pos q m=>?_⟩;rcases r pos q m with z|⟨c,ob,u,vs,t,z1,z2,z3⟩
  ·exact .inl z
  ·exact .inr ⟨c,ob,u,vs,t,z1,ht _ _ z2 trivial,z3⟩
 |cel v=>obtain⟨u,⟨ob,e,d⟩,r⟩:=x;exact⟨u,⟨ob,k _ _ (.inl rfl) e,d⟩,r⟩
 |met f y=>
  have e:h.get? a=some (W.methodObj (.ref f) (.ref y)):=x;show h'.get? a=some (W.methodObj (.ref f) (.ref y));exact k a _ (.inl rfl) e
 |ext φ=>obtain⟨p,⟨o,e⟩,st⟩:=x;exact⟨st _ _ p fun o q=>k _ _ (.inl rfl) q,⟨o,k _ _ (.inl rfl) e⟩,st⟩
theorem HOk.lt(x:HOk P w H h)(e:H a=some o):a<h.objs.size:=(x a o e).lt
theorem HOk.fresh(x:HOk P w H h)(e:h.objs.size≤a):H a=none:=by
 cases q:H a with
 |none=>rfl
 |some u=>exact absurd (aG (x.lt q) e) (bM _)
theorem HOk.kept(x:HOk P w H h)(k:∀b u,h.get? b=some u→h'.get? b=some u):HOk P w H h':=fun a o e=>
 (x a o e).stay (fun b u _ q=>k b u q) (fun _ q=>q) fun _ _ q _=>q
theorem HOk.laid(x:HOk P w H h)(k:∀b u,h.get? b=some u→h'.get? b=some u)(hp:h.objs.size≤a)(new:yh P w (upd H a o) h' a o):HOk P w (upd H a o) h':=fun b u e=>by
 have hn:=x.fresh hp
 by_cases hb:b=a
 ·subst hb;rw[xt]at e;cases e;exact new
 ·rw[xr hb]at e;exact(x b u e).stay (fun c v _ q=>k c v q) (fun c q=>by rw[xr (xF q hn)];exact q) fun c xs q _=>by rw[xr (xF q hn)];exact q
end
def Rd(H:Hp)(a:Addr)(u:HO):Prop:=H a=some u∨∃o,H a=some (.frz o u)
theorem Rd.ok{P:av}{w:World}{H:Hp}{h:Heap}{a:Addr}{u:HO}(r:Rd H a u)(x:HOk P w H h):yh P w H h a u:=by
 rcases r with r|⟨o,r⟩
 ·exact x a u r
 ·obtain⟨_,q⟩:=x a _ r;exact q
def Mut:Option HO→Prop
 |some (.lst _)=>True
 |some (.dK _)=>True
 |some (.dT _)=>True
 |some (.set _ _)=>True
 |some (.ins _ _ _)=>True
 |some (.ext _)=>True
 |_=>False
section
variable {P:av} {w:World} {H:Hp} {h h':Heap} {x e:Addr} {o':HO}
theorem HOk.write(ok:HOk P w H h)(mu:Mut (H x))(he:e=x∨H e=some (.own x))(k:∀b u,b≠e→h.get? b=some u→h'.get? b=some u)(heo:∃u,h'.get? e=some u)
  (new:yh P w (upd H x o') h' x o'):HOk P w (upd H x o') h':=fun b u q=>by
 have nown:∀c y,H c=some (.own y)→c≠x:=fun c y r z=>by subst z;rw[r]at mu;exact mu
 have ntup:∀c u,H c=some u→xpN u→c≠x:=fun c u r hf z=>by
  subst z;rw[r]at mu;cases u<;> first|exact mu|exact hf
 by_cases hb:b=x
 ·subst hb;rw[xt]at q;cases q;exact new
 ·rw[xr hb]at q
  by_cases hbe:b=e
  ·have q':H b=some (.own x):=by
    rcases he with z|z
    ·exact absurd (hbe.trans z) hb
    ·rw[hbe];exact z
   rw[q]at q';cases q';obtain⟨v,hv⟩:=heo;exact⟨v,by rw[hbe];exact hv⟩
  ·refine(ok b u q).stay (fun c v hc r=>k c v ?_ r) (fun c r=>by rw[xr (nown c b r)];exact r) fun c xs r hf=>by rw[xr (ntup c xs r hf)];exact r
   rcases hc with rfl|hc
   ·exact hbe
   ·rintro rfl;rcases he with z|z
    ·exact nown c b hc z
    ·rw[hc]at z;cases z;exact hb rfl
end
structure Un(fs ex:List Addr)(H H':Hp)(h h':Heap):Prop where
 keep:∀b o,h.get? b=some o→H b=none→b∉fs→b∉ex→h'.get? b=some o
 slot:∀b o,h.get? b=some o→H b=none→b∈fs→b∉ex→∃sl,h'.get? b=some {o with slots:=sl}
 free:∀b o,h.get? b=some o→H b=none→b∉ex→H' b=none
 there:∀b o,h.get? b=some o→b∉ex→∃o',h'.get? b=some o'
 fix:∀b u,H b=some u→Fix u→H' b=some u
section
variable {fs fs' ex ex':List Addr} {H H1 H2:Hp} {h h1 h2 h':Heap} {a x e:Addr} {o:HO}
theorem Un.any(u:Un fs ex H H1 h h1){b:Addr}{ob:Obj}(q:h.get? b=some ob)(n:H b=none)(hx:b∉ex):∃sl,h1.get? b=some {ob with slots:=sl}:=by
 by_cases hb:b∈fs
 ·exact u.slot b ob q n hb hx
 ·exact⟨ob.slots,u.keep b ob q n hb hx⟩
theorem Un.kept(k:∀b u,h.get? b=some u→h'.get? b=some u):Un fs ex H H h h':=
 ⟨fun b ob q _ _ _=>k b ob q,fun b ob q _ _ _=>⟨ob.slots,k b ob q⟩,fun _ _ _ n _=>n,fun b ob q _=>⟨ob,k b ob q⟩,fun _ _ q _=>q⟩
theorem Un.refl:Un fs ex H H h h:=Un.kept fun _ _ q=>q
theorem Un.laid(k:∀b u,h.get? b=some u→h'.get? b=some u)(hp:h.objs.size≤a)(hn:H a=none):Un fs ex H (upd H a o) h h' where
 keep:=fun b u q _ _ _=>k b u q
 slot:=fun b u q _ _ _=>⟨u.slots,k b u q⟩
 free:=fun b u q n _=>by rw[xr (aH (aG (ay q) hp))];exact n
 there:=fun b u q _=>⟨u,k b u q⟩
 fix:=fun b u q _=>by rw[xr (xF q hn)];exact q
theorem Un.write(mu:Mut (H x))(he:e=x∨H e=some (.own x))(k:∀b u,b≠e→h.get? b=some u→h'.get? b=some u)(heo:∃u,h'.get? e=some u):Un fs ex H (upd H x o) h h':=by
 have hx:∀b,H b=none→b≠x:=fun b n z=>by subst z;rw[n]at mu;exact mu
 have hb:∀b,H b=none→b≠e:=fun b n z=>by
  subst z;rcases he with r|r
  ·exact hx b n r
  ·rw[n]at r;cases r
 have hm:∀b u,H b=some u→¬Mut (some u)→b≠x:=fun b u q nm z=>by subst z;rw[q]at mu;exact nm mu
 refine⟨fun b u q n _ _=>k b u (hb b n) q,fun b u q n _ _=>⟨u.slots,k b u (hb b n) q⟩,fun b u q n _=>by rw[xr (hx b n)];exact n,fun b u q _=>?_,
  fun b u q hf=>by rw[xr (hm b _ q fun z=>by cases u<;> first|exact z|exact hf)];exact q⟩
 by_cases hbe:b=e
 ·subst hbe;exact heo
 ·exact⟨u,k b u hbe q⟩
end
def trk(h:Heap)(H:Hp):List Addr:=(b8 h.objs.size).filter fun a=>(H a).isSome
def xcC(h:Heap)(H:Hp):Heap:=W.hideAll h (trk h H)
theorem xlV(h:Heap)(H:Hp):(xcC h H).objs.size=h.objs.size:=W.hideAll_size _ _
theorem xm7{h:Heap}{H:Hp}{b:Addr}{o:Obj}(e:h.get? b=some o)(n:H b=none):(xcC h H).get? b=some o:=
 W.hideAll_get _ e fun hm=>by
  have q:(H b).isSome=true:=(fE.mp hm).2;rw[n]at q;simp at q
theorem xoz{h:Heap}{H:Hp}{b:Addr}{o:Obj}(e:(xcC h H).get? b=some o):h.get? b=some o∧H b=none:=by
 have e':h.get? b=some o:=W.of_hideAll (trk h H) e;refine⟨e',?_⟩;cases q:H b with
 |none=>rfl
 |some x=>
  have hm:b∈trk h H:=fE.mpr ⟨dU.mpr (ay e'),by simp[q]⟩;have z:(xcC h H).get? b=none:=W.hideAll_none (trk h H) hm;rw[z]at e;cases e
end L2
namespace L2
open PySem PySem.Spec PyProof.Rows
structure Mod(K:ag)(mg:Str→Option Value)(base:Heap):Prop where
 kin:K.In base
 glob:base.Ns ba mg
 blt:∃mb,base.Ns cu mb∧∀x:Str,x≠"__name__"→mb x=bt x
 nolimit:base.NoLimit
 bm:∃b o,mg "__builtins__"=some (.ref b)∧b≠cu∧base.get? b=some o∧o.cls= .type "module"∧o.dict=some cu∧o.data= .plain
structure Cx where
 prog:av
 w:World
 K:ag
 mg:Str→Option Value
 base:Heap
 A:aL
 N:List Str
 s₀:af
 H₀:Hp
 env:Env
 outer:List Env
 stack:List Env
 ex:List Addr
 fn:Str→Bool
 calm:Bool
 pn:List (Addr×Obj)
 xe:Value→af→Prop
 cp:Str→Bool
def frs(l:List Env):List Addr:=l.filterMap (·.frame)
abbrev Cx.fs(X:Cx):List Addr:=frs X.outer
def Vis(sc:Scope)(x:Str):Prop:=sc.names.lookup x=some .local∨sc.names.lookup x=some .cell∨sc.names.lookup x=some .free
def Loc(sc:Scope)(x:Str):Prop:=sc.names.lookup x=some .local∨sc.names.lookup x=some .cell
def Look(env:Env)(h:Heap)(m:Str→Option Value)(x:Str)(u:Value):Prop:=
 (env.kindOf x=some .local∧m x=some u)∨((env.kindOf x=some .cell∨env.kindOf x=some .free)∧∃c,env.cells.lookup x=some c∧h.IsCell c (some u))
structure Cx.Ok(X:Cx):Prop where
 mod:Mod X.K X.mg X.base
 kind:X.env.scope.kind= .function
 glob:X.env.globals=ba
 blt:X.env.builtins=cu
 above:X.s₀.heap.objs.size≤X.env.locals
 inj:∀x y c,X.env.cells.lookup x=some c→X.env.cells.lookup y=some c→x=y
 has:∀x,(X.env.kindOf x=some .cell∨X.env.kindOf x=some .free)→∃c,X.env.cells.lookup x=some c
 cab:∀x c,X.fn x=true→X.env.cells.lookup x=some c→X.s₀.heap.objs.size≤c
 hd:X.calm=true→X.A.handled=none
 frames:X.A.frames=some X.stack
 stk:X.stack=X.outer∨(X.stack=X.env::X.outer∧X.env.frame=some X.env.locals)
 exf:∀b∈X.ex,b≠X.env.locals∧∀x c,X.env.cells.lookup x=some c→c≠b
 bs:∀b o,X.base.get? b=some o→X.s₀.heap.get? b=some o∧X.H₀ b=none
 bsz:X.base.objs.size≤X.s₀.heap.objs.size
 noex:∀b o,X.base.get? b=some o→b∉X.ex
 exfs:∀b∈X.ex,b∉X.fs
 funs:X.s₀.heap.FunFrames X.base X.outer
 frf:∀b∈X.fs,X.H₀ b=none
 cab2:∀x c,X.cp x=true→X.env.cells.lookup x=some c→X.s₀.heap.objs.size≤c
 hz:∀b,X.s₀.heap.objs.size≤b→X.H₀ b=none
structure Inv(X:Cx)(pins:List (Addr×Obj))(σ:List (Option V))(H:Hp)(s:af):Prop where
 ok:X.Ok
 os:s.os=X.s₀.os
 bare:eV s.gens
 base:Un X.fs X.ex X.H₀ H X.s₀.heap s.heap
 loc:∃m,s.heap.Ns X.env.locals m∧∀(i:Nat) (x:Str) (v:V),X.N[i]? =some x→σ[i]? =some (some v)→Vis X.env.scope x→∃u,RelV v u∧Look X.env s.heap m x u
 cell:∀x c,X.env.cells.lookup x=some c→∃v,s.heap.IsCell c v
 free:H X.env.locals=none
 freeC:∀x c,X.env.cells.lookup x=some c→H c=none∨(X.fn x=false∧∃o,H c=some (.cel o)∧(o=none→∀(i:Nat) v,X.N[i]? =some x→(X.env.kindOf x=some .cell∨X.env.kindOf x=some .free)→σ[i]?≠some (some v)))
 pin:∀p∈X.pn++pins,s.heap.get? p.1=some p.2∧H p.1=none∧p.1≠X.env.locals∧p.1∉X.fs∧∀v,p.2.data≠.cell v
 hok:HOk X.prog X.w H s.heap
 len:σ.length=X.N.length
section
variable {X:Cx} {pins:List (Addr×Obj)} {σ:List (Option V)} {H H':Hp} {s:af} {h':Heap}
theorem Cx.Ok.nofr(ok:X.Ok){b:Addr}{o:Obj}(e:X.base.get? b=some o):b∉X.fs:=fun hb=>by
 have:=(ok.funs.mem hb).1;rw[e]at this;cases this
theorem Inv.bs(I:Inv X pins σ H s):∀b o,X.base.get? b=some o→s.heap.get? b=some o∧H b=none:=fun b o e=>
 ⟨I.base.keep b o (I.ok.bs b o e).1 (I.ok.bs b o e).2 (I.ok.nofr e) (I.ok.noex b o e),I.base.free b o (I.ok.bs b o e).1 (I.ok.bs b o e).2 (I.ok.noex b o e)⟩
theorem Inv.bk(I:Inv X pins σ H s):∀b o,X.base.get? b=some o→s.heap.get? b=some o:=fun b o e=>(I.bs b o e).1
theorem Inv.mod(I:Inv X pins σ H s):Mod X.K X.mg X.base:=I.ok.mod
theorem Inv.kIn(I:Inv X pins σ H s):X.K.In s.heap:=I.ok.mod.kin.keeps I.bk
theorem Inv.lt(I:Inv X pins σ H s):X.env.locals<s.heap.objs.size:=let⟨_,hn,_⟩:=I.loc;hn.lt
theorem Inv.sz(I:Inv X pins σ H s):X.s₀.heap.objs.size≤s.heap.objs.size:=bo I.ok.above (dW I.lt)
theorem Inv.nofs(I:Inv X pins σ H s){a:Addr}(h:s.heap.objs.size≤a):a∉X.fs:=fun hb=>by
 obtain⟨_,o,ho,_⟩:=I.ok.funs.mem hb;exact absurd (aG (ay ho) (bo I.sz h)) (bM _)
theorem Inv.cne(I:Inv X pins σ H s):∀x c,X.env.cells.lookup x=some c→c≠X.env.locals:=fun x c e z=>by
 obtain⟨v,o,ho,hd⟩:=I.cell x c e;obtain⟨m,⟨o',es,ep,ho',hd',_⟩,_⟩:=I.loc;rw[z,ho']at ho;cases ho;rw[hd']at hd;cases hd
theorem Inv.funs(I:Inv X pins σ H s):s.heap.FunFrames X.base X.outer:=by
 have all:∀(l:List Env),(∀b∈frs l,b∈X.fs)→X.s₀.heap.FunFrames X.base l→s.heap.FunFrames X.base l:=by
  intro l
  induction l with
  |nil=>intro _ _;trivial
  |cons env r ih=>
   intro hs hl;obtain⟨hk,⟨L,o,hf,hn,ho,hd⟩,hr⟩:=hl;have hL:L∈X.fs:=hs L (by unfold frs;rw[eu,hf];exact a9);obtain⟨sl,e⟩:=I.base.slot L o ho (I.ok.frf L hL) hL fun z=>I.ok.exfs L z hL;exact⟨hk,⟨L,_,hf,hn,e,hd⟩,ih (fun b hb=>hs b (by unfold frs;rw[eu,hf];exact aQ _ hb)) hr⟩
 exact all X.outer (fun _ hb=>hb) I.ok.funs
theorem Inv.stack(I:Inv X pins σ H s):s.heap.FunFrames X.base X.stack:=by
 rcases I.ok.stk with e|⟨e,hf⟩
 ·rw[e];exact I.funs
 ·rw[e];obtain⟨m,hn,_⟩:=I.loc;refine .cons (by rw[I.ok.kind];decide) hf hn ?_ I.funs;exact d7 (bo I.ok.bsz I.ok.above)
theorem Inv.stkSub(I:Inv X pins σ H s):∀b∈frs X.stack,b∈X.env.locals::X.fs:=fun b hb=>by
 rcases I.ok.stk with e|⟨e,hf⟩
 ·rw[e]at hb;exact aQ _ hb
 ·rw[e]at hb;unfold frs at hb;rw[eu,hf]at hb;exact hb
theorem Inv.stkFree(I:Inv X pins σ H s):∀b∈frs X.stack,H b=none:=fun b hb=>by
 rcases aq.mp (I.stkSub b hb)with e|hb
 ·rw[e];exact I.free
 ·obtain⟨_,o,ho,_⟩:=I.ok.funs.mem hb;exact I.base.free b o ho (I.ok.frf b hb) fun z=>I.ok.exfs b z hb
theorem Inv.step{g':Array GenState}{t':Nat}{d':Drawn}{ch:List Addr}(I:Inv X pins σ H s)
  (hch:∀b∈ch,(b∈X.ex∨X.s₀.heap.objs.size≤b)∧b≠X.env.locals∧(∀x c,X.env.cells.lookup x=some c→c≠b)∧∀p∈X.pn++pins,p.1≠b)
  (keep:∀b o,b≠X.env.locals→b∉X.fs→b∉ch→s.heap.get? b=some o→H b=none→h'.get? b=some o)
  (slot:∀b o,b≠X.env.locals→b∈X.fs→b∉ch→s.heap.get? b=some o→H b=none→∃sl,h'.get? b=some {o with slots:=sl}) (free:∀b o,b∉ch→s.heap.get? b=some o→H b=none→H' b=none)
  (there:∀b o,b∉ch→s.heap.get? b=some o→∃o',h'.get? b=some o')
  (fix:∀b u,H b=some u→Fix u→H' b=some u)
  (ns:∀m,s.heap.Ns X.env.locals m→h'.Ns X.env.locals m) (hok:HOk X.prog X.w H' h') (hg:eV g'):
  Inv X pins σ H' {s with heap:=h',gens:=g',drawn:=d',toks:=t'}:=by
 have neL:∀b o,X.s₀.heap.get? b=some o→b≠X.env.locals:=fun b o e=>aH (aG (ay e) I.ok.above);have neC:∀b o,X.s₀.heap.get? b=some o→b∉X.ex→b∉ch:=fun b o e hx hb=>by
  rcases(hch b hb).1 with z|z
  ·exact hx z
  ·exact absurd (aG (ay e) z) (bM _)
 have cellK:∀x c,X.env.cells.lookup x=some c→H c=none→∀v,s.heap.IsCell c v→h'.IsCell c v:=fun x c e hn v ⟨o,ho,hd⟩=>by
  have nch:c∉ch:=fun z=>(hch c z).2.2.1 x c e rfl
  by_cases hc:c∈X.fs
  ·obtain⟨sl,q⟩:=slot c o (I.cne x c e) hc nch ho hn;exact⟨_,q,hd⟩
  ·exact⟨o,keep c o (I.cne x c e) hc nch ho hn,hd⟩
 refine⟨I.ok,I.os,hg,⟨fun b o e n hb hx=>?_,fun b o e n hb hx=>?_,fun b o e n hx=>?_,fun b o e hx=>?_,fun b u e f=>fix b u (I.base.fix b u e f) f⟩,?_,fun x c e=>?_,?_,fun x c e=>?_,fun p hp=>?_,hok,I.len⟩
 ·exact keep b o (neL b o e) hb (neC b o e hx) (I.base.keep b o e n hb hx) (I.base.free b o e n hx)
 ·obtain⟨sl,e1⟩:=I.base.slot b o e n hb hx;obtain⟨sl',e2⟩:=slot b _ (neL b o e) hb (neC b o e hx) e1 (I.base.free b o e n hx);exact⟨sl',e2⟩
 ·obtain⟨o',e1⟩:=I.base.there b o e hx;exact free b o' (neC b o e hx) e1 (I.base.free b o e n hx)
 ·obtain⟨o',e1⟩:=I.base.there b o e hx;exact there b o' (neC b o e hx) e1
 ·obtain⟨m,hn,hl⟩:=I.loc;refine⟨m,ns m hn,fun i x v e1 e2 e3=>?_⟩;obtain⟨u,r,l⟩:=hl i x v e1 e2 e3;rcases l with l|⟨k,c,e,z⟩
  ·exact⟨u,r,.inl l⟩
  ·rcases I.freeC x c e with hn'|⟨_,o,ho,hno⟩
   ·exact⟨u,r,.inr ⟨k,c,e,cellK x c e hn' _ z⟩⟩
   ·cases o with
    |none=>exact absurd e2 (hno rfl i v e1 k)
    |some v'=>
     obtain⟨y,hy,hr⟩:=I.hok c _ ho;obtain⟨y',hy',hr'⟩:=hok c _ (fix c _ ho trivial);obtain⟨y2,rfl,r2⟩:=hr v' rfl;obtain⟨y3,rfl,r3⟩:=hr' v' rfl;have:v=v':=RelV.fn r (by
      obtain⟨o1,q1,q2⟩:=z;obtain⟨o2,q3,q4⟩:=hy;rw[q1]at q3;cases q3;rw[q2]at q4;cases q4;exact r2)
     subst this;exact⟨y3,r3,.inr ⟨k,c,e,hy'⟩⟩
 ·rcases I.freeC x c e with hn'|⟨_,o,ho,_⟩
  ·obtain⟨v,z⟩:=I.cell x c e;exact⟨v,cellK x c e hn' v z⟩
  ·obtain⟨y',hy',_⟩:=hok c _ (fix c _ ho trivial);exact⟨y',hy'⟩
 ·obtain⟨m,⟨o,_,_,ho,_⟩,_⟩:=I.loc;exact free _ o (fun z=>(hch _ z).2.1 rfl) ho I.free
 ·rcases I.freeC x c e with hn'|⟨hf,o,ho,hno⟩
  ·obtain⟨v,o,ho,hd⟩:=I.cell x c e;exact .inl (free c o (fun z=>(hch c z).2.2.1 x c e rfl) ho hn')
  ·exact .inr ⟨hf,o,fix c _ ho trivial,hno⟩
 ·obtain⟨e,n,ne,nf,d⟩:=I.pin p hp;have nch:p.1∉ch:=fun z=>(hch p.1 z).2.2.2 p hp rfl;exact⟨keep p.1 p.2 ne nf nch e n,free p.1 p.2 nch e n,ne,nf,d⟩
theorem Inv.un{t':Nat}(I:Inv X pins σ H s)(u:Un X.fs [] H H' s.heap h')(hok:HOk X.prog X.w H' h'):Inv X pins σ H' {s with heap:=h',toks:=t'}:=by
 obtain⟨m,⟨o,es,ep,ho,r⟩,_⟩:=id I.loc;obtain⟨sl,hL⟩:=u.any ho I.free (by simp);exact I.step (g':=s.gens) (d':=s.drawn) (ch:=[]) (fun _ z=>nomatch z) (fun b o _ hb _ e n=>u.keep b o e n hb (by simp)) (fun b o _ hb _ e n=>u.slot b o e n hb (by simp)) (fun b o _ e n=>u.free b o e n (by simp)) (fun b o _ e=>u.there b o e (by simp)) u.fix (fun m' hm=>by
  obtain⟨o',es',ep',ho',r'⟩:=hm;rw[ho]at ho';cases ho';exact⟨_,es',ep',hL,r'⟩) hok I.bare
theorem Inv.call{g':Array GenState}{t':Nat}{d':Drawn}{ch:List Addr}(I:Inv X pins σ H s)(u:Un (frs X.stack) ch H H' s.heap h')(hok:HOk X.prog X.w H' h')(hg:eV g')
  (hch:∀b∈ch,(b∈X.ex∨X.s₀.heap.objs.size≤b)∧b≠X.env.locals∧(∀x c,X.env.cells.lookup x=some c→c≠b)∧∀p∈X.pn++pins,p.1≠b):
  Inv X pins σ H' {s with heap:=h',gens:=g',drawn:=d',toks:=t'}:=by
 obtain⟨m,⟨o,es,ep,ho,r⟩,_⟩:=id I.loc;obtain⟨sl,hL⟩:=u.any ho I.free fun z=>(hch _ z).2.1 rfl;exact I.step (ch:=ch) hch (fun b o hL hb hc e n=>u.keep b o e n (fun z=>(aq.mp (I.stkSub b z)).elim hL hb) hc) (fun b o _ _ hc e n=>u.any e n hc) (fun b o hc e n=>u.free b o e n hc) (fun b o hc e=>u.there b o e hc) u.fix (fun m' hm=>by
  obtain⟨o',es',ep',ho',r'⟩:=hm;rw[ho]at ho';cases ho';exact⟨_,es',ep',hL,r'⟩) hok hg
theorem Inv.turned{t':Nat}{it:Addr}(I:Inv X pins σ H s)(k:∀b o,b≠it→s.heap.get? b=some o→h'.get? b=some o)(hn:H it=none)(hL:it≠X.env.locals)
  (h1:it∈X.ex∨X.s₀.heap.objs.size≤it) (h2:∀x c,X.env.cells.lookup x=some c→c≠it) (h3:∀p∈X.pn++pins,p.1≠it):Inv X pins σ H {s with heap:=h',toks:=t'}:=by
 have nit:∀b u,H b=some u→b≠it:=fun b u e z=>by rw[z,hn]at e;cases e
 refine I.step (g':=s.gens) (d':=s.drawn) (ch:=[it]) (fun b hb=>?_) (fun b o _ _ hc e _=>k b o (fun z=>hc (by simp[z])) e) (fun b o _ _ hc e _=>⟨o.slots,k b o (fun z=>hc (by simp[z])) e⟩) (fun _ _ _ _ n=>n)
  (fun b o hc e=>⟨o,k b o (fun z=>hc (by simp[z])) e⟩) (fun _ _ e _=>e) (fun m hm=>?_) (fun b u e=>?_) I.bare
 ·have e:b=it:=by simpa using hb
  subst e;exact⟨h1,hL,h2,h3⟩
 ·obtain⟨o,es,ep,ho,r⟩:=hm;exact⟨o,es,ep,k _ o (au hL) ho,r⟩
 ·refine(I.hok b u e).stay (fun c v hc q=>k c v ?_ q) (fun _ q=>q) fun _ _ q _=>q;rcases hc with z|z
  ·rw[z];exact nit b u e
  ·exact nit c _ z
theorem Inv.tok(I:Inv X pins σ H s)(t:Nat):Inv X pins σ H {s with toks:=t}:=I.un (h':=s.heap) (t':=t) Un.refl I.hok
theorem Inv.kept{t':Nat}(I:Inv X pins σ H s)(k:∀b u,s.heap.get? b=some u→h'.get? b=some u):Inv X pins σ H {s with heap:=h',toks:=t'}:=I.un (Un.kept k) (I.hok.kept k)
theorem Inv.laid{a:Addr}{o:HO}{t':Nat}(I:Inv X pins σ H s)(k:∀b u,s.heap.get? b=some u→h'.get? b=some u)(hp:s.heap.objs.size≤a)(new:yh X.prog X.w (upd H a o) h' a o):
  Inv X pins σ (upd H a o) {s with heap:=h',toks:=t'}:=I.un (Un.laid k hp (I.hok.fresh hp)) (I.hok.laid k hp new)
theorem Inv.write{x e:Addr}{o:HO}{t':Nat}(I:Inv X pins σ H s)(mu:Mut (H x))(he:e=x∨H e=some (.own x))(k:∀b u,b≠e→s.heap.get? b=some u→h'.get? b=some u)(heo:∃u,h'.get? e=some u)
  (new:yh X.prog X.w (upd H x o) h' x o):Inv X pins σ (upd H x o) {s with heap:=h',toks:=t'}:=I.un (Un.write mu he k heo) (I.hok.write mu he k heo new)
theorem Inv.weak{σ':List (Option V)}(I:Inv X pins σ H s)(hl:σ'.length=σ.length)(w:∀(i:Nat) v,σ'[i]? =some (some v)→σ[i]? =some (some v)):Inv X pins σ' H s:=
 ⟨I.ok,I.os,I.bare,I.base,let⟨m,hn,hl'⟩:=I.loc;⟨m,hn,fun i x v e1 e2 e3=>hl' i x v e1 (w i v e2) e3⟩,I.cell,I.free,fun x c e=>(I.freeC x c e).imp id fun⟨hf,o,ho,hno⟩=>⟨hf,o,ho,fun z i v e1 k e2=>hno z i v e1 k (w i v e2)⟩,I.pin,I.hok,hl.trans I.len⟩
theorem Inv.pins_of{pins':List (Addr×Obj)}(I:Inv X pins σ H s)(h:∀p∈pins',s.heap.get? p.1=some p.2∧H p.1=none∧p.1≠X.env.locals∧p.1∉X.fs∧∀v,p.2.data≠.cell v):Inv X pins' σ H s:=
 ⟨I.ok,I.os,I.bare,I.base,I.loc,I.cell,I.free,I.freeC,fun p hp=>(aV.mp hp).elim (fun z=>I.pin p (a5 _ z)) (h p),I.hok,I.len⟩
theorem xaY{N:List Str}(hN:N.Nodup){i j:Nat}{x:Str}(a:N[i]? =some x)(b:N[j]? =some x):i=j:=by
 obtain⟨h1,e1⟩:=ax.mp a;obtain⟨h2,e2⟩:=ax.mp b;exact(List.getElem_inj hN).mp (e1.trans e2.symm)
theorem xho{M:Model}{A:aL}{E:Value→af→Prop}{i:Nat}{x:Str}{v:V}{u:Value}{Q:Unit→af→Prop}(I:Inv X pins σ H s)(hN:X.N.Nodup)(hi:X.N[i]? =some x)(hx:Loc X.env.scope x)(r:RelV v u)
  (h:∀s',Inv X pins (σ.set i (some v)) H s'→(∃a,fF a s.heap s'.heap∧(a=X.env.locals∨X.env.cells.lookup x=some a))→Q () s') (hf:X.fn x=true∨X.env.scope.names.lookup x=some .local:=by first|exact .inl rfl|exact .inr rfl|assumption):wpAny M A (storeName X.env x u) Q E s:=by
 obtain⟨m,hn,hl⟩:=id I.loc;have hcls:(X.env.scope.kind== .class||(X.env.scope.kind== .module&&X.env.locals != X.env.globals))=false:=by rw[I.ok.kind];rfl
 have hiσ:i<σ.length:=by rw[I.len];exact(ax.mp hi).1
 have cne:=I.cne;have tracked:∀{a:Addr} {h':Heap},(∃o,s.heap.get? a=some o∧H a=none)→fF a s.heap h'→HOk X.prog X.w H h':=fun{a h'} ha hs b ob e=>by
  obtain⟨_,_,hfree⟩:=ha;refine(I.hok b ob e).stay (fun c w' hc q=>(hs.2 c ?_).trans q) (fun _ q=>q) fun _ _ q _=>q;rintro rfl;rcases hc with rfl|hc
  ·rw[hfree]at e;cases e
  ·rw[hfree]at hc;cases hc
 rcases hx with hk|hk
 ·refine wpAny_storeName_local hk hn (fun h' hn' hs=>?_) hcls;obtain⟨oL,_,_,hoL,_⟩:=id hn;refine h _ ⟨I.ok,I.os,I.bare,⟨fun b o e n hb hx=>?_,fun b o e n hb hx=>?_,I.base.free,fun b o e hx=>?_,I.base.fix⟩,⟨_,hn',fun j y v' e1 e2 e3=>?_⟩,fun y c e=>?_,I.free,fun y c e=>?_,fun p hp=>?_,tracked ⟨oL,hoL,I.free⟩ hs,by simpa using I.len⟩ ⟨_,hs,.inl rfl⟩
  ·exact(hs.2 b (aH (aG (ay e) I.ok.above))).trans (I.base.keep b o e n hb hx)
  ·obtain⟨sl,e1⟩:=I.base.slot b o e n hb hx;exact⟨sl,(hs.2 b (aH (aG (ay e) I.ok.above))).trans e1⟩
  ·obtain⟨o',e1⟩:=I.base.there b o e hx;exact⟨o',(hs.2 b (aH (aG (ay e) I.ok.above))).trans e1⟩
  ·by_cases hj:j=i
   ·subst hj;rw[hi]at e1;cases e1;rw[cO hiσ]at e2;cases e2;exact⟨u,r,.inl ⟨hk,by simp⟩⟩
   ·rw[bQ (au hj)]at e2;obtain⟨u',r',q⟩:=hl j y v' e1 e2 e3;refine⟨u',r',?_⟩;rcases q with⟨k,e⟩|⟨k,c,e,z⟩
    ·refine .inl ⟨k,?_⟩;have:y≠x:=fun e=>hj (xaY hN e1 (e▸hi));simp[this,e]
    ·exact .inr ⟨k,c,e,z.sameBut hs (cne y c e)⟩
  ·obtain⟨w',z⟩:=I.cell y c e;exact⟨w',z.sameBut hs (cne y c e)⟩
  ·refine(I.freeC y c e).imp id fun⟨hf',o',ho',hno⟩=>⟨hf',o',ho',fun z j v' e1 k e2=>?_⟩
   by_cases hj:j=i
   ·subst hj;rw[hi]at e1;cases e1;have hk':X.env.kindOf x=some .local:=hk;rw[hk']at k;rcases k with k|k<;> cases k
   ·rw[bQ (au hj)]at e2;exact hno z j v' e1 k e2
  ·obtain⟨e,n,ne,nf,d⟩:=I.pin p hp;exact⟨(hs.2 p.1 ne).trans e,n,ne,nf,d⟩
 ·have hfn:X.fn x=true:=by
   rcases hf with z|z
   ·exact z
   ·rw[z]at hk;cases hk
  obtain⟨c,hc⟩:=I.ok.has x (.inl hk);have hHc:H c=none:=by
   rcases I.freeC x c hc with z|⟨z,_⟩
   ·exact z
   ·rw[hfn]at z;cases z
  obtain⟨w',z⟩:=I.cell x c hc;refine wpAny_storeName_cell I.ok.kind hk hc z (fun h' hc' hs=>?_);obtain⟨oc,hoc,hocd⟩:=id z;refine h {s with heap:=h'} ⟨I.ok,I.os,I.bare,⟨fun b o e n hb hx=>?_,fun b o e n hb hx=>?_,I.base.free,fun b o e hx=>?_,I.base.fix⟩,⟨m,hn.sameBut hs (au (cne x c hc)),fun j y v' e1 e2 e3=>?_⟩,fun y c' e=>?_,I.free,fun y c' e=>?_,fun p hp=>?_,tracked ⟨oc,hoc,hHc⟩ hs,by simpa using I.len⟩ ⟨c,hs,.inr hc⟩
  ·exact(hs.2 b (aH (aG (ay e) (I.ok.cab x c hfn hc)))).trans (I.base.keep b o e n hb hx)
  ·obtain⟨sl,e1⟩:=I.base.slot b o e n hb hx;exact⟨sl,(hs.2 b (aH (aG (ay e) (I.ok.cab x c hfn hc)))).trans e1⟩
  ·obtain⟨o',e1⟩:=I.base.there b o e hx;exact⟨o',(hs.2 b (aH (aG (ay e) (I.ok.cab x c hfn hc)))).trans e1⟩
  ·by_cases hj:j=i
   ·subst hj;rw[hi]at e1;cases e1;rw[cO hiσ]at e2;cases e2;exact⟨u,r,.inr ⟨.inl hk,c,hc,hc'⟩⟩
   ·rw[bQ (au hj)]at e2;obtain⟨u',r',q⟩:=hl j y v' e1 e2 e3;refine⟨u',r',?_⟩;rcases q with q|⟨k,c',e,z'⟩
    ·exact .inl q
    ·refine .inr ⟨k,c',e,z'.sameBut hs ?_⟩;rintro rfl;exact hj (xaY hN e1 (I.ok.inj _ _ _ e hc▸hi))
  ·by_cases hcc:c'=c
   ·subst hcc;exact⟨_,hc'⟩
   ·obtain⟨w2,z2⟩:=I.cell y c' e;exact⟨w2,z2.sameBut hs hcc⟩
  ·refine(I.freeC y c' e).imp id fun⟨hf',o',ho',hno⟩=>⟨hf',o',ho',fun z j v' e1 k e2=>?_⟩
   by_cases hj:j=i
   ·subst hj;rw[hi]at e1;cases e1;rw[hfn]at hf';cases hf'
   ·rw[bQ (au hj)]at e2;exact hno z j v' e1 k e2
  ·obtain⟨e,n,ne,nf,d⟩:=I.pin p hp;refine⟨(hs.2 p.1 ?_).trans e,n,ne,nf,d⟩;intro q;rw[q,hoc]at e;have q':oc=p.2:=bc e;exact d w' (by rw[←q'];exact hocd)
theorem xcD{M:Model}{A:aL}{E:Value→af→Prop}{i:Nat}{x:Str}{v:V}{u:Value}{Q:Unit→af→Prop}(I:Inv X pins σ H s)(hN:X.N.Nodup)(hi:X.N[i]? =some x)(hx:Loc X.env.scope x)(r:RelV v u)
  (h:∀s',Inv X pins (σ.set i (some v)) H s'→Q () s') (hf:X.fn x=true∨X.env.scope.names.lookup x=some .local:=by first|exact .inl rfl|exact .inr rfl|assumption):wpAny M A (storeName X.env x u) Q E s:=
 xho I hN hi hx r (fun s' I' _=>h s' I') hf
theorem Inv.call'{s':af}{ch:List Addr}(I:Inv X pins σ H s)(ho:s'.os=s.os)(u:Un (frs X.stack) ch H H' s.heap s'.heap)(hok:HOk X.prog X.w H' s'.heap)(hg:eV s'.gens)
  (hch:∀b∈ch,(b∈X.ex∨X.s₀.heap.objs.size≤b)∧b≠X.env.locals∧(∀x c,X.env.cells.lookup x=some c→c≠b)∧∀p∈X.pn++pins,p.1≠b):Inv X pins σ H' s':=by
 obtain⟨h',g',d',t',o'⟩:=s';have e:o'=s.os:=ho;subst e;exact I.call (g':=g') (t':=t') (d':=d') u hok hg hch
end
abbrev XK:=Value→Option Addr→Hp→Prop
abbrev St:=List (Option V)
abbrev VK:=V→Hp→Prop
abbrev TE:=St→Hp→VK→Prop
abbrev TT:=St→Hp→(Bool→Hp→Prop)→Prop
abbrev TA:=St→Hp→(List V→Hp→Prop)→Prop
structure Ends where
 nx:St→Hp→Prop
 rt:VK
 bk:St→Hp→Prop:=fun _ _=>False
 ct:St→Hp→Prop:=fun _ _=>False
abbrev TS:=Ends→St→Hp→Prop
def EP(X:Cx)(pins:List (Addr×Obj))(σ:St)(Q:VK)(u:Value)(s':af):Prop:=∃v H',Inv X pins σ H' s'∧RelV v u∧Q v H'
def TP(X:Cx)(pins:List (Addr×Obj))(σ:St)(Q:Bool→Hp→Prop)(b:Bool)(s':af):Prop:=∃H',Inv X pins σ H' s'∧Q b H'
def AP(X:Cx)(pins:List (Addr×Obj))(σ:St)(Q:List V→Hp→Prop)(us:List Value)(s':af):Prop:=∃vs H',Inv X pins σ H' s'∧Vals vs us∧Q vs H'
def SP(X:Cx)(pins:List (Addr×Obj))(D:Ends)(f:Flow)(s':af):Prop:=
 match f with
 | .next=>∃σ' H',Inv X pins σ' H' s'∧D.nx σ' H'
 | .brk=>∃σ' H',Inv X pins σ' H' s'∧D.bk σ' H'
 | .cont=>∃σ' H',Inv X pins σ' H' s'∧D.ct σ' H'
 | .ret u=>∃v σ' H',Inv X pins σ' H' s'∧RelV v u∧D.rt v H'
def PE(X:Cx)(e:Expr)(t:TE):Prop:=
 ∀(pins:List (Addr×Obj)) (s:af) (σ:St) (H:Hp) (Q:VK),Inv X pins σ H s→t σ H Q→wpAny (model X.prog X.w) X.A (eval e X.env) (EP X pins σ Q) X.xe s
def PT(X:Cx)(e:Expr)(t:TT):Prop:=
 ∀(pins:List (Addr×Obj)) (s:af) (σ:St) (H:Hp) (Q:Bool→Hp→Prop),Inv X pins σ H s→t σ H Q→wpAny (model X.prog X.w) X.A (isTrue e X.env (eval e X.env)) (TP X pins σ Q) X.xe s
def PW(X:Cx)(e:Expr)(t:TT):Prop:=
 ∀(whole:Sem Value) (pins:List (Addr×Obj)) (s:af) (σ:St) (H:Hp) (Q:Bool→Hp→Prop),Inv X pins σ H s→t σ H Q→wpAny (model X.prog X.w) X.A (isTrue e X.env whole) (TP X pins σ Q) X.xe s
theorem PW.pt{X:Cx}{e:Expr}{t:TT}(h:PW X e t):PT X e t:=h _
def PA(X:Cx)(es:List Expr)(t:TA):Prop:=
 ∀(pos:Pos) (pins:List (Addr×Obj)) (s:af) (σ:St) (H:Hp) (Q:List V→Hp→Prop),Inv X pins σ H s→t σ H Q→wpAny (model X.prog X.w) X.A (spliced (bG pos (aE es X.env))) (AP X pins σ Q) X.xe s
def PS(X:Cx)(st:Stmt)(t:TS):Prop:=
 ∀(pins:List (Addr×Obj)) (s:af) (σ:St) (H:Hp) (D:Ends),Inv X pins σ H s→t D σ H→wpAny (model X.prog X.w) X.A (exec st X.env) (SP X pins D) X.xe s
def PSs(X:Cx)(st:List Stmt)(t:TS):Prop:=
 ∀(pins:List (Addr×Obj)) (s:af) (σ:St) (H:Hp) (D:Ends),Inv X pins σ H s→t D σ H→wpAny (model X.prog X.w) X.A (execs st X.env) (SP X pins D) X.xe s
theorem thn{α:Type}{t:Sem α}{Q Q':α→af→Prop}{M:Model}{A:aL}{E:Value→af→Prop}{s:af}(h:wpAny M A t Q E s)(hQ:∀a s,Q a s→Q' a s):wpAny M A t Q' E s:=aT h hQ fun _ _ x=>x
end L2
namespace L2
open PySem PySem.Spec PyProof.Rows
section
variable {X:Cx}
def xpO(i:Nat):TE:=fun σ H Q=>∃v,σ[i]? =some (some v)∧Q v H
def tC(v:V):TE:=fun _ H Q=>Q v H
theorem xiv{i:Nat}{x:Str}{pos:Pos}(hN:X.N[i]? =some x)(hv:Vis X.env.scope x)(hd:(x==("__debug__":Str))=false:=by decide)(hcd:(x==("__classdict__":Str))=false:=by decide):PE X (.Name x pos) (xpO i):=by
 intro pins s σ H Q I h;obtain⟨v,e,h⟩:=h;obtain⟨m,hn,hl⟩:=I.loc;obtain⟨u,r,l⟩:=hl i x v hN e hv;have fin:EP X pins σ Q u s:=⟨v,H,I,r,h⟩;rcases l with⟨hk,hm⟩|⟨hk,c,hc,hcell⟩
 ·exact wpAny_Name (wpAny_loadName_local I.ok.kind hk hn hm fin) hd
 ·rcases hk with hk|hk
  ·exact wpAny_Name (wpAny_loadName_cell I.ok.kind hk hc hcell fin) hd
  ·exact wpAny_Name (wpAny_loadName_free I.ok.kind hk hc hcell fin hcd) hd
theorem xk{i j pos}:PE X (.Constant (.int i) j pos) (tC (.int i)):=fun _ _ _ H _ I h=>wpAny_Constant_int ⟨.int i,H,I.tok _,⟨_,rfl⟩,h⟩
theorem zT{b j pos}:PE X (.Constant (.bool b) j pos) (tC (.bl b)):=fun _ _ _ H _ I h=>Constant_bool ⟨.bl b,H,I,rfl,h⟩
theorem yi{j pos}:PE X (.Constant .none j pos) (tC .non):=fun _ _ _ H _ I h=>iR ⟨.non,H,I,rfl,h⟩
theorem xG{x j pos}:PE X (.Constant (.str x) j pos) (tC (.str x)):=fun _ _ _ H _ I h=>Calls.Constant_str ⟨.str x,H,I.tok _,⟨_,rfl⟩,h⟩
def Gl(X:Cx)(x:Str):Prop:=X.env.kindOf x=some .globalImplicit
theorem zH{E:Value→af→Prop}{pins:List (Addr×Obj)}{s:af}{σ:St}{H:Hp}{x:Str}{u:Value}{pos:Pos}{Q:Value→af→Prop}(I:Inv X pins σ H s)(hg:Gl X x)(hm:X.mg x=some u)(h:Q u s)
  (hd:(x==("__debug__":Str))=false:=by decide):wpAny (model X.prog X.w) X.A (eval (.Name x pos) X.env) Q E s:=
 gp I.ok.kind hg (Calls.loadGlobal_global (by rw[I.ok.glob];exact I.mod.glob.keeps I.bk) hm h) hd
theorem uS{E:Value→af→Prop}{pins:List (Addr×Obj)}{s:af}{σ:St}{H:Hp}{x:Str}{u:Value}{pos:Pos}{Q:Value→af→Prop}(I:Inv X pins σ H s)(hg:Gl X x)(hm:X.mg x=none)(hv:bt x=some u)(h:Q u s)
  (hn:x≠"__name__":=by decide) (hd:(x==("__debug__":Str))=false:=by decide):wpAny (model X.prog X.w) X.A (eval (.Name x pos) X.env) Q E s:=by
 obtain⟨mb,h1,h2⟩:=I.mod.blt;exact gp I.ok.kind hg (Calls.loadGlobal_builtin (by rw[I.ok.glob];exact I.mod.glob.keeps I.bk) hm (by rw[I.ok.blt];exact h1.keeps I.bk) ((h2 x hn).trans hv) h) hd
theorem uq{x:Str}{v:V}{u:Value}{pos:Pos}(hg:Gl X x)(hm:X.mg x=some u)(r:RelV v u)(hd:(x==("__debug__":Str))=false:=by decide):PE X (.Name x pos) (tC v):=
 fun _ _ _ H _ I h=>zH I hg hm ⟨v,H,I,r,h⟩ hd
theorem xaS{x:Str}{v:V}{u:Value}{pos:Pos}(hg:Gl X x)(hm:X.mg x=none)(hv:bt x=some u)(r:RelV v u)(hn:x≠"__name__":=by decide)(hd:(x==("__debug__":Str))=false:=by decide):PE X (.Name x pos) (tC v):=
 fun _ _ _ H _ I h=>uS I hg hm hv ⟨v,H,I,r,h⟩ hn hd
variable {a b:Expr} {ta tb:TE} {pos:Pos}
def PC(X:Cx)(op:CmpOp)(a b:Expr)(t:TE):Prop:=
 ∀(pins:List (Addr×Obj)) (s:af) (σ:St) (H:Hp) (Q:VK),Inv X pins σ H s→t σ H Q→
  wpAny (model X.prog X.w) X.A (eval a X.env) (fun v s₁=>wpAny (model X.prog X.w) X.A (eval b X.env) (fun u s₂=>wpAny (model X.prog X.w) X.A (bz op v u) (EP X pins σ Q) X.xe s₂) X.xe s₁) X.xe s
theorem xm8(b:Expr){op:CmpOp}(h:op≠.In)(h2:op≠.NotIn):cE op b=false:=by
 have e1:(op==CmpOp.In)=false:=by cases op<;> first|rfl|exact absurd rfl h
 have e2:(op==CmpOp.NotIn)=false:=by cases op<;> first|rfl|exact absurd rfl h2
 cases b<;> simp[cE,e1,e2]
def xrn(ta:TE):TE:=fun σ H Q=>ta σ H fun x H1=>Q (.bl (decide (x= .non))) H1
def xqE(ta:TE):TE:=fun σ H Q=>ta σ H fun x H1=>Q (.bl (!decide (x= .non))) H1
theorem RelV.none_iff{x:V}{v:Value}(r:RelV x v):(v==bj)=decide (x= .non):=by
 cases x with
 |non=>cases r;rfl
 |bl _=>cases r;rfl
 |int _=>obtain⟨t,rfl⟩:=r;rfl
 |str _=>obtain⟨t,rfl⟩:=r;rfl
 |byt _=>obtain⟨t,rfl⟩:=r;rfl
 |flt _=>obtain⟨t,rfl⟩:=r;rfl
 |ref _=>cases r;rfl
 |ty _=>cases r;rfl
theorem xpP{j pos'}(ha:PE X a ta):PC X .Is a (.Constant .none j pos') (xrn ta):=by
 intro pins s σ H Q I h;refine thn (ha pins s σ H _ I h) fun v s1 ⟨x,H1,I1,r1,q1⟩=>?_;exact iR (is_none_gen ⟨.bl _,H1,I1,by rw[r1.none_iff];rfl,q1⟩)
theorem xoA{j pos'}(ha:PE X a ta):PC X .IsNot a (.Constant .none j pos') (xqE ta):=by
 intro pins s σ H Q I h;refine thn (ha pins s σ H _ I h) fun v s1 ⟨x,H1,I1,r1,q1⟩=>?_;exact iR (isnot_none_gen ⟨.bl _,H1,I1,by rw[r1.none_iff];rfl,q1⟩)
def tB(t:TE):TT:=fun σ H Q=>t σ H fun x H1=>∃c,x= .bl c∧Q c H1
theorem xlW{op:CmpOp}{t:TE}(h:PC X op a b t)(h1:cE op b=false:=by first|exact xm8 _ (by decide) (by decide)|rfl):PT X (.Compare a [op] [b] pos) (tB t):=by
 intro pins s σ H Q I hw;refine fy (thn (h pins s σ H _ I hw) fun v s1 h1=>thn h1 fun u s2 h2=>thn h2 fun c s3 ⟨x,H1,I1,r1,q1⟩=>?_) h1;obtain⟨d,rfl,q⟩:=q1;cases r1;exact bW ⟨H1,I1,q⟩
variable {tA tB':TT} {rest:List Expr}
def xro(t:TT):TT:=fun σ H Q=>t σ H fun c H1=>Q (!c) H1
theorem xce(ha:PT X a tA):PW X (.BoolOp .And [a] pos) tA:=by
 intro wh pins s σ H Q I h;refine isTrue_and (thn (ha pins s σ H Q I h) fun c s1 e=>?_);cases c with
 |true=>exact isTrue_and_nil e
 |false=>exact e
theorem xaZ(ha:PT X a tA):PW X (.BoolOp .Or [a] pos) tA:=by
 intro wh pins s σ H Q I h;refine isTrue_or (thn (ha pins s σ H Q I h) fun c s1 e=>?_);cases c with
 |false=>exact isTrue_or_nil e
 |true=>exact e
theorem xcf(ha:PT X a tA):PT X (.UnaryOp .Not a pos) (xro tA):=by
 intro pins s σ H Q I h;exact isTrue_not (ha pins s σ H (fun c H1=>Q (!c) H1) I h)
theorem uT{op}{t:TE}(h:PE X a t):PE X (.BoolOp op [a] pos) t:=fun pins s σ H Q I hw=>BoolOp_one (h pins s σ H Q I hw)
end
end L2
namespace L2
open PySem PySem.Spec PyProof.Rows
def SqL(K:ag)(H:Hp)(a:Addr)(xs:List V):Prop:=
 Rd H a (.lst xs)∨
  ∃(o:Obj) (its:Array Value) (n:Nat),K.lookup a=some o∧o.cls= .type "list"∧o.dict=none∧o.data= .seq its n∧its.size≤aM∧Vals xs its.toList
def SqT(K:ag)(H:Hp)(a:Addr)(xs:List V):Prop:=
 Rd H a (.tup xs)∨
  ∃(o:Obj) (its:Array Value) (n:Nat),K.lookup a=some o∧o.cls= .type "tuple"∧o.data= .seq its n∧its.size≤aM∧Vals xs its.toList
def xrp:Value→Option V
 | .none=>some .non
 | .bool b=>some (.bl b)
 | .int i _=>some (.int i)
 | .str x _=>some (.str x)
 | .bytes b _=>some (.byt b)
 | .float b _=>some (.flt b)
 | .ref a=>some (.ref a)
 | .type n=>some (.ty n)
 |_=>none
theorem RelV.abs{x:V}{u:Value}(r:RelV x u):xrp u=some x:=by
 cases x with
 |non=>cases r;rfl
 |bl _=>cases r;rfl
 |int _=>obtain⟨t,rfl⟩:=r;rfl
 |str _=>obtain⟨t,rfl⟩:=r;rfl
 |byt _=>obtain⟨t,rfl⟩:=r;rfl
 |flt _=>obtain⟨t,rfl⟩:=r;rfl
 |ref _=>cases r;rfl
 |ty _=>cases r;rfl
theorem RelV.inj{x y:V}{u:Value}(r:RelV x u)(q:RelV y u):x=y:=bc (r.abs.symm.trans q.abs)
theorem Vals.inj:∀{xs ys:List V} {us:List Value},Vals xs us→Vals ys us→xs=ys
 |_,_,_,.nil,.nil=>rfl
 |_,_,_,.cons r t,.cons r' t'=>by rw[r.inj r',Vals.inj t t']
section
variable {X:Cx} {pins:List (Addr×Obj)} {σ:St} {H:Hp} {s:af} {a:Addr} {xs ys:List V}
theorem SqL.of{K:ag}(h:H a=some (.lst xs)):SqL K H a xs:=.inl (.inl h)
theorem SqT.of{K:ag}(h:H a=some (.tup xs)):SqT K H a xs:=.inl (.inl h)
theorem Inv.list(I:Inv X pins σ H s)(h:SqL X.K H a xs):∃its:List Value,Vals xs its∧PlainL s.heap a its.toArray∧xs.length≤aM:=by
 rcases h with h|⟨o,its,n,hk,hc,hd,hs,hz,r⟩
 ·obtain⟨z,its,n,r,e⟩:=h.ok I.hok;exact⟨its,r,⟨_,n,e,rfl,rfl,rfl⟩,z⟩
 ·refine⟨its.toList,r,⟨o,n,I.kIn a o hk,hc,hd,by simpa using hs⟩,?_⟩;have e:=r.length;simp only[cG]at e;lia
theorem Inv.tuple(I:Inv X pins σ H s)(h:SqT X.K H a xs):∃its:List Value,Vals xs its∧IsTup s.heap a its.toArray∧xs.length≤aM:=by
 rcases h with h|⟨o,its,n,hk,hc,hs,hz,r⟩
 ·obtain⟨z,its,r,p⟩:=h.ok I.hok;exact⟨its,r,p,z⟩
 ·refine⟨its.toList,r,⟨o,I.kIn a o hk,hc,n,by simpa using hs⟩,?_⟩;have e:=r.length;simp only[cG]at e;lia
theorem Inv.list_inj(I:Inv X pins σ H s)(h:SqL X.K H a xs)(h':SqL X.K H a ys):xs=ys:=by
 obtain⟨its,r,⟨o,n,e,_,_,d⟩,_⟩:=I.list h;obtain⟨its',r',⟨o',n',e',_,_,d'⟩,_⟩:=I.list h';rw[e]at e';cases e';rw[d]at d';injection d' with d1 _;have:its=its':=by simpa using congrArg Array.toList d1
 subst this;exact r.inj r'
theorem Inv.tuple_inj(I:Inv X pins σ H s)(h:SqT X.K H a xs)(h':SqT X.K H a ys):xs=ys:=by
 obtain⟨its,r,⟨o,e,_,n,d⟩,_⟩:=I.tuple h;obtain⟨its',r',⟨o',e',_,n',d'⟩,_⟩:=I.tuple h';rw[e]at e';cases e';rw[d]at d';injection d' with d1 _;have:its=its':=by simpa using congrArg Array.toList d1
 subst this;exact r.inj r'
end
abbrev Cx.wish(X:Cx)(E:Value→af→Prop):Cx:={X with xe:=E}
abbrev Cx.nox(X:Cx):Cx:=X.wish fun _ _=>False
theorem Cx.Ok.wish{X:Cx}(ok:X.Ok)(E:Value→af→Prop):(X.wish E).Ok:=
 ⟨ok.mod,ok.kind,ok.glob,ok.blt,ok.above,ok.inj,ok.has,ok.cab,ok.hd,ok.frames,ok.stk,ok.exf,ok.bs,ok.bsz,ok.noex,ok.exfs,ok.funs,ok.frf,ok.cab2,ok.hz⟩
theorem Cx.Ok.unwish{X:Cx}{E:Value→af→Prop}(ok:(X.wish E).Ok):X.Ok:=
 ⟨ok.mod,ok.kind,ok.glob,ok.blt,ok.above,ok.inj,ok.has,ok.cab,ok.hd,ok.frames,ok.stk,ok.exf,ok.bs,ok.bsz,ok.noex,ok.exfs,ok.funs,ok.frf,ok.cab2,ok.hz⟩
section
variable {X:Cx} {pins:List (Addr×Obj)} {σ:St} {H:Hp} {s:af} {E:Value→af→Prop}
theorem Inv.wish(I:Inv X pins σ H s)(E:Value→af→Prop):Inv (X.wish E) pins σ H s:=⟨I.ok.wish E,I.os,I.bare,I.base,I.loc,I.cell,I.free,I.freeC,I.pin,I.hok,I.len⟩
theorem Inv.unwish(I:Inv (X.wish E) pins σ H s):Inv X pins σ H s:=⟨I.ok.unwish,I.os,I.bare,I.base,I.loc,I.cell,I.free,I.freeC,I.pin,I.hok,I.len⟩
theorem SP.unwish{D:Ends}{f:Flow}{s':af}(h:SP (X.wish E) pins D f s'):SP X pins D f s':=by
 cases f with
 |next=>obtain⟨σ',H',I,q⟩:=h;exact⟨σ',H',I.unwish,q⟩
 |brk=>obtain⟨σ',H',I,q⟩:=h;exact⟨σ',H',I.unwish,q⟩
 |cont=>obtain⟨σ',H',I,q⟩:=h;exact⟨σ',H',I.unwish,q⟩
 |ret u=>obtain⟨v,σ',H',I,r,q⟩:=h;exact⟨v,σ',H',I.unwish,r,q⟩
theorem PSs.nox{st:List Stmt}{t:TS}(h:PSs X.nox st t):PSs X st t:=fun pins s σ H D I hw=>
 aT (h pins s σ H D (I.wish _) hw) (fun _ _ q=>q.unwish) fun _ _ z=>aS z
end
section
variable {X:Cx} {st:Stmt} {rest:List Stmt} {t u:TS} {e:Expr} {te:TE} {pos:Pos}
def xqF:TS:=fun D σ H=>D.nx σ H
def xrq(t u:TS):TS:=fun D σ H=>t {D with nx:=u D} σ H
theorem xx:PSs X [] xqF:=fun _ _ σ H _ I h=>dG ⟨σ,H,I,h⟩
theorem xh(h1:PS X st t)(h2:PSs X rest u):PSs X (st::rest) (xrq t u):=by
 intro pins s σ H D I h;refine wpAny_execs_cons (thn (h1 pins s σ H {D with nx:=u D} I h) fun f s1 q=>?_);cases f with
 |next=>
  obtain⟨σ',H',I',q⟩:=q;exact h2 pins s1 σ' H' D I' q
 |ret v=>exact q
 |brk=>exact q
 |cont=>exact q
theorem xm(h1:PS X st t):PSs X [st] t:=by
 intro pins s σ H D I h;refine wpAny_execs_cons (thn (h1 pins s σ H D I h) fun f s1 q=>?_);cases f with
 |next=>exact dG q
 |ret v=>exact q
 |brk=>exact q
 |cont=>exact q
theorem Inv.quiet{pins:List (Addr×Obj)}{σ:St}{H:Hp}{s:af}(I:Inv X pins σ H s):interactive X.env=false:=by simp[interactive,I.ok.kind]
def xqG(te:TE):TS:=fun D σ H=>te σ H fun _ H1=>D.nx σ H1
theorem xR(he:PE X e te)(hs:eM e none pos.line X.env=pure false:=by rfl):PS X (.Expr e pos) (xqG te):=by
 intro pins s σ H D I h;exact wpAny_Expr_any (thn (he pins s σ H _ I h) fun v s1 ⟨x,H1,I1,r1,q1⟩=>⟨σ,H1,I1,q1⟩) I.quiet hs
def xrr(te:TE):TS:=fun D σ H=>te σ H D.rt
theorem xw(he:PE X e te):PS X (.Return (some e) pos) (xrr te):=by
 intro pins s σ H D I h;exact wpAny_Return_some (thn (he pins s σ H _ I h) fun v s1 ⟨x,H1,I1,r1,q1⟩=>⟨x,σ,H1,I1,r1,q1⟩)
def xqH:TS:=fun D _ H=>D.rt .non H
theorem xoB:PS X (.Return none pos) xqH:=fun _ _ σ H _ I h=>wpAny_Return_none ⟨.non,σ,H,I,rfl,h⟩
end
abbrev TG:=V→St→Hp→(St→Hp→Prop)→Prop
abbrev TGs:=List V→St→Hp→(St→Hp→Prop)→Prop
def PG(X:Cx)(target:Expr)(t:TG):Prop:=
 ∀(pins:List (Addr×Obj)) (s:af) (σ:St) (H:Hp) (v:V) (u:Value) (Q:St→Hp→Prop),Inv X pins σ H s→RelV v u→t v σ H Q→
  wpAny (model X.prog X.w) X.A (gc target X.env u) (fun _ s'=>∃σ' H',Inv X pins σ' H' s'∧Q σ' H') X.xe s
def PGs(X:Cx)(ts:List Expr)(t:TGs):Prop:=
 ∀(pins:List (Addr×Obj)) (s:af) (σ:St) (H:Hp) (vs:List V) (us:List Value) (Q:St→Hp→Prop),Inv X pins σ H s→Vals vs us→t vs σ H Q→
  wpAny (model X.prog X.w) X.A (assignInOrder ((fG ts X.env).map (·.2)) us) (fun _ s'=>∃σ' H',Inv X pins σ' H' s'∧Q σ' H') X.xe s
abbrev xm9:=V→V→V→Hp→(Hp→Prop)→Prop
def xna(X:Cx)(t:xm9):Prop:=
 ∀(pins:List (Addr×Obj)) (s:af) (σ:St) (H:Hp) (o i v:V) (ov iv u:Value) (Q:Hp→Prop),Inv X pins σ H s→RelV o ov→RelV i iv→RelV v u→t o i v H Q→
  wpAny (model X.prog X.w) X.A (setItem ov iv u) (fun _ s'=>∃H',Inv X pins σ H' s'∧Q H') X.xe s
section
variable {X:Cx} {pos:Pos}
def xfv(i:Nat):TG:=fun v σ H Q=>Q (σ.set i (some v)) H
theorem xN{i:Nat}{x:Str}(hN:X.N.Nodup)(hi:X.N[i]? =some x)(hx:Loc X.env.scope x)(hf:X.fn x=true∨X.env.scope.names.lookup x=some .local:=by first|exact .inl rfl|exact .inr rfl|assumption):PG X (.Name x pos) (xfv i):=by
 intro pins s σ H v u Q I r h;exact gx (xcD I hN hi hx r (fun s' I'=>⟨_,H,I',h⟩) hf)
def xrs:TGs:=fun vs σ H Q=>vs=[]∧Q σ H
def xqI(t:TG)(u:TGs):TGs:=fun vs σ H Q=>∃v r,vs=v::r∧t v σ H fun σ' H'=>u r σ' H' Q
theorem zI:PGs X [] xrs:=by
 intro pins s σ H vs us Q I r h;obtain⟨e,h⟩:=h;subst e;cases r;exact assignInOrder_nil ⟨σ,H,I,h⟩
theorem xQ{e:Expr}{es:List Expr}{t:TG}{u:TGs}(h1:PG X e t)(h2:PGs X es u)
  (hs:(fG (e::es) X.env).map (·.2)=gc e X.env::(fG es X.env).map (·.2):=by rfl):PGs X (e::es) (xqI t u):=by
 intro pins s σ H vs us Q I r h;obtain⟨v,vr,e1,h⟩:=h;subst e1;cases r with
 |cons r rr=>
  rw[hs];refine assignInOrder_cons (thn (h1 pins s σ H _ _ _ I r h) fun _ s1 ⟨σ1,H1,I1,q1⟩=>?_);exact h2 pins s1 σ1 H1 _ _ Q I1 rr q1
def xrt(K:ag)(n:Nat)(t:TGs):TG:=fun v σ H Q=>∃a xs,v= .ref a∧SqT K H a xs∧xs.length=n∧t xs σ H Q
theorem uU{es:List Expr}{k:Nat}{t:TGs}{n:Nat}(hc:X.calm=true)(h:PGs X es t)
  (hn:(fG es X.env).length=n:=by rfl) (hst:(fG es X.env).findIdx? (·.1)=none:=by rfl):PG X (.Tuple es k pos) (xrt X.K n t):=by
 intro pins s σ H v u Q I r hw;obtain⟨a,xs,e1,hq,hl,hw⟩:=hw;subst e1;cases r;obtain⟨its,rv,ht,hz⟩:=I.tuple hq;refine assign_Tuple_tuple (I.ok.hd hc) ht (by simp[hn,←hl,rv.length]) hst fun h' hx=>?_;have I1:Inv X pins σ H {s with heap:=h'}:=I.kept (t':=s.toks) fun b o e=>hx b o (aH (ay e)) e;exact h pins _ σ H xs _ Q I1 (by simpa using rv) hw
def xru(to ti:TE)(t:xm9):TG:=fun v σ H Q=>to σ H fun o H1=>ti σ H1 fun i H2=>t o i v H2 fun H3=>Q σ H3
theorem xfw{o i:Expr}{to ti:TE}{t:xm9}(ho:PE X o to)(hi:PE X i ti)(hs:xna X t)
  (ha:∀v,gc (.Subscript o i pos) X.env v=(do
   let ov ←eW [v] (eval o X.env)
   let iv ←eW [v,ov] (eval i X.env)
   gF pos
   eW [v,ov,iv] (setItem ov iv v)
   release [v,ov,iv] []):=by intro _;rfl):PG X (.Subscript o i pos) (xru to ti t):=by
 intro pins s σ H v u Q I r h;rw[ha];refine aa (br (thn (ho pins s σ H _ I h) fun ov s1 ⟨x,H1,I1,r1,q1⟩=>?_));refine aa (br (thn (hi pins s1 σ H1 _ I1 q1) fun iv s2 ⟨y,H2,I2,r2,q2⟩=>?_));refine aa (cF (aa (br (thn (hs pins s2 σ H2 x y v ov iv u _ I2 r1 r2 r q2) fun _ s3 ⟨H3,I3,q3⟩=>?_))));exact wpAny_release ⟨σ,H3,I3,q3⟩
def xe3(te:TE)(g:TG):TS:=fun D σ H=>te σ H fun x H1=>g x σ H1 D.nx
theorem vI{tg e:Expr}{te:TE}{g:TG}(he:PE X e te)(hg:PG X tg g)(hs:swapsWithSole [tg] e pos.line X.env=pure false:=by rfl)(hw:swappedStores [tg] e X.env=pure none:=by rfl)
  (h1:(fG [tg] X.env).map (·.2)=[gc tg X.env]:=by rfl):PS X (.Assign [tg] e pos) (xe3 te g):=by
 intro pins s σ H D I h;refine wpAny_Assign_stores (thn (he pins s σ H _ I h) fun v s1 ⟨x,H1,I1,r1,q1⟩=>?_) hs hw;rw[h1];exact thn (hg pins s1 σ H1 x v _ I1 r1 q1) fun _ s2 q=>q
theorem xD{i:Nat}{x:Str}{e:Expr}{te:TE}{pos':Pos}(hN:X.N.Nodup)(hi:X.N[i]? =some x)(hx:Loc X.env.scope x)(he:PE X e te)(hs:eM e (some (.Name x pos')) pos.line X.env=pure false:=by rfl)(hf:X.fn x=true∨X.env.scope.names.lookup x=some .local:=by first|exact .inl rfl|exact .inr rfl|assumption):
  PS X (.Assign [.Name x pos'] e pos) (xe3 te (xfv i)):=by
 intro pins s σ H D I h;refine wpAny_Assign_Name (thn (he pins s σ H _ I h) fun v s1 ⟨y,H1,I1,r1,q1⟩=>?_) hs;exact xcD I1 hN hi hx r1 (fun s2 I2=>⟨_,H1,I2,q1⟩) hf
end
section
variable {X:Cx} {pos:Pos}
end
structure It where
 go:Nat→Hp→Prop
 yld:Nat→Hp→V→Hp→Prop
 stop:Nat→Hp→Prop
def xbR(X:Cx)(pins:List (Addr×Obj))(H:Hp)(b:Addr):Prop:=
 H b=none∧b≠X.env.locals∧b∉X.fs∧(b∈X.ex∨X.s₀.heap.objs.size≤b)∧(∀x c,X.env.cells.lookup x=some c→c≠b)∧∀p∈X.pn++pins,p.1≠b
theorem Inv.fpOk{X:Cx}{pins:List (Addr×Obj)}{σ:St}{H H':Hp}{s:af}{b:Addr}(I:Inv X pins σ H s)(hb:s.heap.objs.size≤b)(hn:H' b=none):xbR X pins H' b:=by
 refine⟨hn,eN (aG I.lt hb),I.nofs hb,.inr (bo I.sz hb),fun x c e z=>?_,fun p hp z=>?_⟩
 ·obtain⟨v,q⟩:=I.cell x c e;exact absurd (aG q.lt (by rw[z];exact hb)) (bM _)
 ·exact absurd (aG (ay (I.pin p hp).1) (by rw[z];exact hb)) (bM _)
structure Turn(P:av)(w:World)(K:ag)(tg:Expr)(J:It)(fp:List Addr)(it:Addr)(tn:Nat→Heap→Prop):Prop where
 mem:it∈fp
 obj:∀i h,tn i h→∀b∈fp,∃o,h.get? b=some o∧∀v,o.data≠.cell v
 keep:∀i h h',tn i h→(∀b∈fp,∀o,h.get? b=some o→h'.get? b=some o)→tn i h'
 item:∀(X:Cx),X.prog=P→X.w=w→X.K=K→X.calm=true→∀(i:Nat) (pins:List (Addr×Obj)) (s:af) (σ:St) (H:Hp) (E:Value→af→Prop),Inv X pins σ H s→(∀b∈fp,xbR X pins H b)→tn i s.heap→J.go i H→
  wpAny (model P w) X.A (pyNext (.ref it)) (fun r s1=>∃u,r=some u∧
   wpAny (model P w) X.A (fH tg (.ref it) u) (fun _ s2=>∃x H',Inv X pins σ H' s2∧RelV x u∧J.yld i H x H'∧tn (i+1) s2.heap∧∀b∈fp,H' b=none) E s1) E s
 done:∀(X:Cx),X.prog=P→X.w=w→X.K=K→X.calm=true→∀(i:Nat) (pins:List (Addr×Obj)) (s:af) (σ:St) (H:Hp) (E:Value→af→Prop),Inv X pins σ H s→(∀b∈fp,xbR X pins H b)→tn i s.heap→J.stop i H→
  wpAny (model P w) X.A (pyNext (.ref it)) (fun r s1=>r=none∧Inv X pins σ H s1) E s
 self:∀(A:aL) (i:Nat) (s:af) (Q:Value→af→Prop) (E:Value→af→Prop),tn i s.heap→Q (.ref it) s→wpAny (model P w) A (pyIter (.ref it)) Q E s
abbrev TI:=St→Hp→(It→Hp→Prop)→Prop
def PIE(X:Cx)(pins:List (Addr×Obj))(σ:St)(tg:Expr)(R:It→Hp→Prop)(itv:Value)(s2:af):Prop:=
 ∃(it:Addr) (fp:List Addr) (tn:Nat→Heap→Prop) (J:It) (H':Hp),itv= .ref it∧Inv X pins σ H' s2∧Turn X.prog X.w X.K tg J fp it tn∧tn 0 s2.heap∧(∀b∈fp,xbR X pins H' b)∧R J H'
def PI(X:Cx)(tg iter:Expr)(wi:TI):Prop:=
 ∀(pins:List (Addr×Obj)) (s:af) (σ:St) (H:Hp) (R:It→Hp→Prop),Inv X pins σ H s→wi σ H R→
  wpAny (model X.prog X.w) X.A (eval iter X.env) (fun v s1=>wpAny (model X.prog X.w) X.A (pyIter v) (PIE X pins σ tg R) X.xe s1) X.xe s
theorem xim{M:Model}{A:aL}{E:Value→af→Prop}{s:af}{tg:Expr}{it:Addr}{u:Value}{o:Obj}{n:String}{vs:Array Value}{Q:Unit→af→Prop}(ho:s.heap.get? it=some o)(hc:o.cls= .type n)(hd:o.data= .fields vs)
  (hn:["enumerate","zip","dict_itemiterator","dict_reverseitemiterator","odict_iterator","itertools.zip_longest","itertools.pairwise"].contains n=false) (hQ:Q () s):wpAny M A (fH tg (.ref it) u) Q E s:=by
 unfold fH;cases tg<;> first
  |exact ak hQ
  |(cases u<;> first
    |exact ak hQ
    |(refine aa (wpAny_load ho ?_)
      rw[hc,hd];show wpAny M A (if (["enumerate","zip","dict_itemiterator","dict_reverseitemiterator","odict_iterator","itertools.zip_longest","itertools.pairwise"].contains n&&vs[0]? ==some (bx _))=true then _ else _) Q E s;rw[if_neg (by intro h;rw[hn,fR]at h;cases h)];exact ak hQ))
def Itl(K:ag)(a:Addr):It:=
 ⟨fun i H=>∃xs x,SqL K H a xs∧xs[i]? =some x,fun i H x H'=>H'=H∧∀xs,SqL K H a xs→xs[i]? =some x,fun i H=>∃xs,SqL K H a xs∧xs.length≤i⟩
def Itt(K:ag)(a:Addr):It:=
 ⟨fun i H=>∃xs x,SqT K H a xs∧xs[i]? =some x,fun i H x H'=>H'=H∧∀xs,SqT K H a xs→xs[i]? =some x,fun i H=>∃xs,SqT K H a xs∧xs.length≤i⟩
theorem xlX{P:av}{w:World}{K:ag}{tg:Expr}(a it:Addr):Turn P w K tg (Itl K a) [it] it (fun i h=>h.IsListIter it a i) where
 mem:=by simp
 obj:=fun i h st b hb=>by
  have e:b=it:=by simpa using hb
  subst e;obtain⟨o,e,c,d⟩:=st;exact⟨o,e,fun v z=>by rw[d]at z;cases z⟩
 keep:=fun i h h' st k=>st.at fun o e=>k it (by simp) o e
 item:=by
  intro X hP hw hK hc i pins s σ H E I hf st hg;subst hP hw hK;obtain⟨xs,x,hq,hx⟩:=hg;obtain⟨its,rv,p,hz⟩:=I.list hq;obtain⟨u,hu,ru⟩:=rv.get hx;obtain⟨f0,f1,f2,f3,f4,f5⟩:=hf it (by simp);refine wpAny_pyNext_list_item st p.isList (x:=u) (by simpa using hu) fun h' st' sb=>?_;have I1:Inv X pins σ H {s with heap:=h'}:=I.turned (t':=s.toks) (fun b o hb e=>(sb.2 b hb).trans e) f0 f1 f3 f4 f5;obtain⟨o,e,c,d⟩:=id st';exact⟨u,rfl,xim (s:={s with heap:=h'}) e c d (by decide) ⟨x,H,I1,ru,⟨rfl,fun ys hy=>by rw[I.list_inj hy hq];exact hx⟩,st',fun b hb=>(hf b hb).1⟩⟩
 done:=by
  intro X hP hw hK hc i pins s σ H E I hf st hg;subst hP hw hK;obtain⟨xs,hq,hx⟩:=hg;obtain⟨its,rv,p,hz⟩:=I.list hq;obtain⟨f0,f1,f2,f3,f4,f5⟩:=hf it (by simp);have hl:=rv.length;exact wpAny_pyNext_list_end (I.ok.hd hc) st p.isList (by simp;lia) fun h' eb=>⟨rfl,I.turned (t':=s.toks) (fun b o hb e=>eb b o hb e) f0 f1 f3 f4 f5⟩
 self:=fun _ _ _ _ _ st h=>wpAny_pyIter_listiter st h
theorem xkX{P:av}{w:World}{K:ag}{tg:Expr}(a it:Addr):Turn P w K tg (Itt K a) [it] it (fun i h=>h.IsTupleIter it a i) where
 mem:=by simp
 obj:=fun i h st b hb=>by
  have e:b=it:=by simpa using hb
  subst e;obtain⟨o,e,c,d⟩:=st;exact⟨o,e,fun v z=>by rw[d]at z;cases z⟩
 keep:=fun i h h' st k=>st.at fun o e=>k it (by simp) o e
 item:=by
  intro X hP hw hK hc i pins s σ H E I hf st hg;subst hP hw hK;obtain⟨xs,x,hq,hx⟩:=hg;obtain⟨its,rv,p,hz⟩:=I.tuple hq;obtain⟨u,hu,ru⟩:=rv.get hx;obtain⟨f0,f1,f2,f3,f4,f5⟩:=hf it (by simp);refine wpAny_pyNext_tuple_item st (show s.heap.IsTuple a its.toArray from p) (x:=u) (by simpa using hu) fun h' st' sb=>?_;have I1:Inv X pins σ H {s with heap:=h'}:=I.turned (t':=s.toks) (fun b o hb e=>(sb.2 b hb).trans e) f0 f1 f3 f4 f5;obtain⟨o,e,c,d⟩:=id st';exact⟨u,rfl,xim (s:={s with heap:=h'}) e c d (by decide) ⟨x,H,I1,ru,⟨rfl,fun ys hy=>by rw[I.tuple_inj hy hq];exact hx⟩,st',fun b hb=>(hf b hb).1⟩⟩
 done:=by
  intro X hP hw hK hc i pins s σ H E I hf st hg;subst hP hw hK;obtain⟨xs,hq,hx⟩:=hg;obtain⟨its,rv,p,hz⟩:=I.tuple hq;obtain⟨f0,f1,f2,f3,f4,f5⟩:=hf it (by simp);have hl:=rv.length;exact wpAny_pyNext_tuple_end (I.ok.hd hc) st (show s.heap.IsTuple a its.toArray from p) (by simp;lia) fun h' eb=>⟨rfl,I.turned (t':=s.toks) (fun b o hb e=>eb b o hb e) f0 f1 f3 f4 f5⟩
 self:=fun _ _ _ _ _ st h=>wpAny_pyIter_tupleiter st h
end L2
namespace L2
open PySem PySem.Spec PyProof.Rows
section
variable {X:Cx} {tg:Expr}
def xqJ(K:ag)(tl:TE):TI:=fun σ H R=>tl σ H fun x H1=>∃a,x= .ref a∧(∃xs,SqL K H1 a xs)∧R (Itl K a) H1
def xrv(K:ag)(tl:TE):TI:=fun σ H R=>tl σ H fun x H1=>∃a,x= .ref a∧(∃xs,SqT K H1 a xs)∧R (Itt K a) H1
theorem zJ{l:Expr}{tl:TE}(hl:PE X l tl):PI X tg l (xqJ X.K tl):=by
 intro pins s σ H R I h;refine thn (hl pins s σ H _ I h) fun v s1 ⟨x,H1,I1,r1,q1⟩=>?_;obtain⟨a,e,⟨xs,hq⟩,q⟩:=q1;subst e;cases r1;obtain⟨its,rv,p,hz⟩:=I1.list hq;refine fb p.isList ?_;refine⟨s1.heap.objs.size,[s1.heap.objs.size],_,_,H1,rfl,I1.kept (t':=s1.toks) fun b o e=>ah _ e,xlX a _,⟨_,aN _ rfl,rfl,rfl⟩,fun b hb=>?_,q⟩;have e:b=s1.heap.objs.size:=by simpa using hb
 subst e;exact I1.fpOk (ar _) (I1.hok.fresh (ar _))
theorem xfx{l:Expr}{tl:TE}(hl:PE X l tl):PI X tg l (xrv X.K tl):=by
 intro pins s σ H R I h;refine thn (hl pins s σ H _ I h) fun v s1 ⟨x,H1,I1,r1,q1⟩=>?_;obtain⟨a,e,⟨xs,hq⟩,q⟩:=q1;subst e;cases r1;obtain⟨its,rv,p,hz⟩:=I1.tuple hq;refine gf (show s1.heap.IsTuple a its.toArray from p) ?_;refine⟨s1.heap.objs.size,[s1.heap.objs.size],_,_,H1,rfl,I1.kept (t':=s1.toks) fun b o e=>ah _ e,xkX a _,⟨_,aN _ rfl,rfl,rfl⟩,fun b hb=>?_,q⟩;have e:b=s1.heap.objs.size:=by simpa using hb
 subst e;exact I1.fpOk (ar _) (I1.hok.fresh (ar _))
def xnb(wi:TI)(g:TG)(tb:TS):TS:=fun D σ H=>wi σ H fun J H1=>∃W:Nat→Nat→St→Hp→Prop,(∃m,W 0 m σ H1)∧∀i m σ H,W i m σ H→
 (J.stop i H∧D.nx σ H)∨(J.go i H∧∃N:St→Hp→Prop,(∀σ' H',N σ' H'→∃m',m'<m∧W (i+1) m' σ' H')∧∀x H',J.yld i H x H'→g x σ H' fun σ2 H2=>tb {D with nx:=N,ct:=N,bk:=D.nx} σ2 H2)
def xa0(fp:List Addr)(h:Heap):List (Addr×Obj):=fp.filterMap fun b=>(h.get? b).map fun o=>(b,o)
theorem xaK{fp:List Addr}{h:Heap}{b:Addr}{o:Obj}(hb:b∈fp)(e:h.get? b=some o):(b,o)∈xa0 fp h:=i7.mpr ⟨b,hb,by rw[e];rfl⟩
theorem xlY{fp:List Addr}{h:Heap}{p:Addr×Obj}(hp:p∈xa0 fp h):p.1∈fp∧h.get? p.1=some p.2:=by
 obtain⟨b,hb,e⟩:=i7.mp hp;cases q:h.get? b with
 |none=>rw[q]at e;cases e
 |some o=>
  rw[q]at e;have e':(b,o)=p:=bc e;subst e';exact⟨hb,q⟩
theorem Inv.pinned{pins:List (Addr×Obj)}{σ:St}{H:Hp}{s:af}{fp:List Addr}(I:Inv X pins σ H s)(hf:∀b∈fp,xbR X pins H b)(ho:∀b∈fp,∃o,s.heap.get? b=some o∧∀v,o.data≠.cell v):Inv X (pins++xa0 fp s.heap) σ H s:=
 I.pins_of fun p hp=>(aV.mp hp).elim (fun z=>I.pin p (aY _ z)) fun z=>by
  obtain⟨hb,e⟩:=xlY z;obtain⟨f0,f1,f2,_⟩:=hf p.1 hb;obtain⟨o,e',d⟩:=ho p.1 hb;rw[e]at e';cases e';exact⟨e,f0,f1,f2,d⟩
theorem Inv.unpinned{pins pl:List (Addr×Obj)}{σ:St}{H:Hp}{s:af}(I:Inv X (pins++pl) σ H s):Inv X pins σ H s:=I.pins_of fun p hp=>I.pin p (aY _ (a5 _ hp))
theorem xpQ{iter:Expr}{body:List Stmt}{wi:TI}{g:TG}{tb:TS}{pos:Pos}(hp:PassesOwn (model X.prog X.w) X.A X.env X.xe)(hc:X.calm=true)(hi:PI X tg iter wi)(hg:PG X tg g)(hb:PSs X body tb)
  (hs:∀x,fc iter X.env x=pure x:=by intro _;rfl):PS X (.For tg iter body [] pos) (xnb wi g tb):=by
 intro pins s σ H D I h;refine wpAny_For (thn (hi pins s σ H _ I h) fun v s1 h1=>thn h1 fun itv s2 h2=>?_) hs;obtain⟨it,fp,tn,J,H2,e,I2,T,st2,f2,W,⟨m0,w0⟩,turn⟩:=h2;subst e
 -- what stays true of the iterator's objects through the loop
 have stat:∀{H':Hp},(∀b∈fp,H' b=none)→∀b∈fp,xbR X pins H' b:=fun hn b hb=>⟨hn b hb,(f2 b hb).2⟩;refine codeAny_forLoop_any (fun n s'=>∃i σ' H',Inv X pins σ' H' s'∧tn i s'.heap∧(∀b∈fp,H' b=none)∧W i n σ' H') ?_ m0 ⟨0,σ,H2,I2,st2,fun b hb=>(f2 b hb).1,w0⟩;rintro n s3 ⟨i,σ3,H3,I3,st3,fr3,w3⟩;rcases turn i n σ3 H3 w3 with⟨stop,qn⟩|⟨go,N,hN,step⟩
 ·refine ez hp (thn (T.done X rfl rfl rfl hc i pins s3 σ3 H3 X.xe I3 (stat fr3) st3 stop) fun r s4 ⟨hr,I4⟩=>?_);subst hr;exact dG ⟨σ3,H3,I4,qn⟩
 ·refine ez hp (thn (T.item X rfl rfl rfl hc i pins s3 σ3 H3 X.xe I3 (stat fr3) st3 go) fun r s4 ⟨u,hr,h4⟩=>?_);subst hr;refine ez hp (thn h4 fun _ s5 ⟨x,H5,I5,r5,y5,st5,fr5⟩=>?_);have I5':=I5.pinned (stat fr5) (T.obj _ _ st5);refine ez hp (thn (hg _ s5 σ3 H5 x u _ I5' r5 (step x H5 y5)) fun _ s6 ⟨σ6,H6,I6,q6⟩=>?_);refine ez hp (thn (hb _ s6 σ6 H6 _ I6 q6) fun f s7 q7=>?_);have again:∀{σ7:St} {H7:Hp},Inv X (pins++xa0 fp s5.heap) σ7 H7 s7→N σ7 H7→∃m,m<n∧∃i σ' H',Inv X pins σ' H' s7∧tn i s7.heap∧(∀b∈fp,H' b=none)∧W i m σ' H':=fun{σ7 H7} I7 n7=>by
   obtain⟨m',hm,w7⟩:=hN σ7 H7 n7;refine⟨m',hm,i+1,σ7,H7,I7.unpinned,T.keep _ _ _ st5 fun b hb o e=>(I7.pin (b,o) (aY _ (aY _ (xaK hb e)))).1,fun b hb=>?_,w7⟩;obtain⟨o,e,d⟩:=T.obj _ _ st5 b hb;exact(I7.pin (b,o) (aY _ (aY _ (xaK hb e)))).2.1
  cases f with
  |next=>obtain⟨σ7,H7,I7,n7⟩:=q7;exact again I7 n7
  |cont=>obtain⟨σ7,H7,I7,n7⟩:=q7;exact again I7 n7
  |brk=>obtain⟨σ7,H7,I7,q7⟩:=q7;exact⟨σ7,H7,I7.unpinned,q7⟩
  |ret v=>obtain⟨x7,σ7,H7,I7,r7,q7⟩:=q7;exact⟨x7,σ7,H7,I7.unpinned,r7,q7⟩
end
theorem xnc{K:ag}{a:Addr}{xs:List V}{g:TG}{tb:TS}{D:Ends}{σ:St}{H:Hp}(Pv:Nat→St→Hp→Prop)(h0:Pv 0 σ H)(hl:∀i σ H,i≤xs.length→Pv i σ H→SqL K H a xs)
  (hs:∀i x σ H,xs[i]? =some x→Pv i σ H→g x σ H fun σ2 H2=>tb {D with nx:=Pv (i+1),ct:=Pv (i+1),bk:=D.nx} σ2 H2) (hd:∀σ H,Pv xs.length σ H→D.nx σ H):
  ∃W:Nat→Nat→St→Hp→Prop,(∃m,W 0 m σ H)∧∀i m σ H,W i m σ H→
   ((Itl K a).stop i H∧D.nx σ H)∨((Itl K a).go i H∧∃N:St→Hp→Prop,(∀σ' H',N σ' H'→∃m',m'<m∧W (i+1) m' σ' H')∧∀x H',(Itl K a).yld i H x H'→g x σ H' fun σ2 H2=>tb {D with nx:=N,ct:=N,bk:=D.nx} σ2 H2):=by
 refine⟨fun i m σ H=>m=xs.length - i∧i≤xs.length∧Pv i σ H,⟨xs.length,by simp,bL _,h0⟩,?_⟩;rintro i m σ H ⟨rfl,hi,p⟩;have q:=hl i σ H hi p
 by_cases hlt:i<xs.length
 ·refine .inr ⟨⟨xs,xs[i],q,by simp[hlt]⟩,Pv (i+1),fun σ' H' p'=>⟨xs.length - (i+1),by lia,rfl,hlt,p'⟩,fun x H' y=>?_⟩;obtain⟨e,y⟩:=y;subst e;exact hs i x σ _ (y xs q) p
 ·have e:i=xs.length:=by lia
  subst e;exact .inl ⟨⟨xs,q,ar _⟩,hd σ H p⟩
theorem xoC{K:ag}{a:Addr}{xs:List V}{g:TG}{tb:TS}{D:Ends}{σ:St}{H:Hp}(Pv:Nat→St→Hp→Prop)(h0:Pv 0 σ H)(hl:∀i σ H,i≤xs.length→Pv i σ H→SqT K H a xs)
  (hs:∀i x σ H,xs[i]? =some x→Pv i σ H→g x σ H fun σ2 H2=>tb {D with nx:=Pv (i+1),ct:=Pv (i+1),bk:=D.nx} σ2 H2) (hd:∀σ H,Pv xs.length σ H→D.nx σ H):
  ∃W:Nat→Nat→St→Hp→Prop,(∃m,W 0 m σ H)∧∀i m σ H,W i m σ H→
   ((Itt K a).stop i H∧D.nx σ H)∨((Itt K a).go i H∧∃N:St→Hp→Prop,(∀σ' H',N σ' H'→∃m',m'<m∧W (i+1) m' σ' H')∧∀x H',(Itt K a).yld i H x H'→g x σ H' fun σ2 H2=>tb {D with nx:=N,ct:=N,bk:=D.nx} σ2 H2):=by
 refine⟨fun i m σ H=>m=xs.length - i∧i≤xs.length∧Pv i σ H,⟨xs.length,by simp,bL _,h0⟩,?_⟩;rintro i m σ H ⟨rfl,hi,p⟩;have q:=hl i σ H hi p
 by_cases hlt:i<xs.length
 ·refine .inr ⟨⟨xs,xs[i],q,by simp[hlt]⟩,Pv (i+1),fun σ' H' p'=>⟨xs.length - (i+1),by lia,rfl,hlt,p'⟩,fun x H' y=>?_⟩;obtain⟨e,y⟩:=y;subst e;exact hs i x σ _ (y xs q) p
 ·have e:i=xs.length:=by lia
  subst e;exact .inl ⟨⟨xs,q,ar _⟩,hd σ H p⟩
end L2
namespace L2
open PySem PySem.Spec PyProof.Rows
abbrev R2:=V→V→Hp→VK→Prop
def OpR(X:Cx)(f:Value→Value→Sem Value)(r:R2):Prop:=
 ∀(pins:List (Addr×Obj)) (s:af) (σ:St) (H:Hp) (x y:V) (v u:Value) (Q:VK),Inv X pins σ H s→RelV x v→RelV y u→r x y H Q→
  wpAny (model X.prog X.w) X.A (f v u) (EP X pins σ Q) X.xe s
def UnR(X:Cx)(f:Value→Sem Value)(r:V→Hp→VK→Prop):Prop:=
 ∀(pins:List (Addr×Obj)) (s:af) (σ:St) (H:Hp) (x:V) (v:Value) (Q:VK),Inv X pins σ H s→RelV x v→r x H Q→
  wpAny (model X.prog X.w) X.A (f v) (EP X pins σ Q) X.xe s
def yD(X:Cx)(f:Value)(r:List V→Hp→VK→Prop):Prop:=
 ∀(pins:List (Addr×Obj)) (s:af) (σ:St) (H:Hp) (xs:List V) (us:List Value) (Q:VK),Inv X pins σ H s→Vals xs us→r xs H Q→
  wpAny (model X.prog X.w) X.A (call f us) (EP X pins σ Q) X.xe s
def tOp(r:R2)(ta tb:TE):TE:=fun σ H Q=>ta σ H fun x H1=>tb σ H1 fun y H2=>r x y H2 Q
def tUn(r:V→Hp→VK→Prop)(ta:TE):TE:=fun σ H Q=>ta σ H fun x H1=>r x H1 Q
def rI(C:Int→Int→Prop)(g:Int→Int→V):R2:=fun x y H Q=>∃i j,x= .int i∧y= .int j∧C i j∧Q (g i j) H
def rI0(g:Int→Int→V):R2:=fun x y H Q=>∃i j,x= .int i∧y= .int j∧Q (g i j) H
def rU(g:Int→V):V→Hp→VK→Prop:=fun x H Q=>∃i,x= .int i∧Q (g i) H
section
variable {X:Cx} {a b c:Expr} {ta tb tc:TE} {pos:Pos}
theorem xnd(ha:PE X a ta)(hb:PE X b tb){pins:List (Addr×Obj)}{s:af}{σ:St}{H:Hp}{R:V→V→Hp→Prop}(I:Inv X pins σ H s)
  (h:ta σ H fun x H1=>tb σ H1 fun y H2=>R x y H2) {Q:Value→af→Prop} {f:Value→Value→Sem Value}
  (hf:∀v u s2 x y H2,Inv X pins σ H2 s2→RelV x v→RelV y u→R x y H2→wpAny (model X.prog X.w) X.A (f v u) Q X.xe s2):
  wpAny (model X.prog X.w) X.A (eval a X.env) (fun v s₁=>wpAny (model X.prog X.w) X.A (eval b X.env) (fun u s₂=>wpAny (model X.prog X.w) X.A (f v u) Q X.xe s₂) X.xe s₁) X.xe s:=by
 refine thn (ha pins s σ H _ I h) fun v s1 ⟨x,H1,I1,r1,q1⟩=>?_;refine thn (hb pins s1 σ H1 _ I1 q1) fun u s2 ⟨y,H2,I2,r2,q2⟩=>?_;exact hf v u s2 x y H2 I2 r1 r2 q2
theorem xy{op:Operator}{r:R2}(ho:OpR X (cJ op) r)(ha:PE X a ta)(hb:PE X b tb):PE X (.BinOp a op b pos) (tOp r ta tb):=by
 intro pins s σ H Q I h;exact wpAny_BinOp (xnd ha hb I h fun v u s2 x y H2 I2 rx ry q=>ho pins s2 σ H2 x y v u Q I2 rx ry q)
theorem xqK{op:UnaryOp}{r:V→Hp→VK→Prop}(ho:UnR X (unaryOp op) r)(ha:PE X a ta):PE X (.UnaryOp op a pos) (tUn r ta):=by
 intro pins s σ H Q I h;exact UnaryOp_ (thn (ha pins s σ H _ I h) fun v s1 ⟨x,H1,I1,r1,q1⟩=>ho pins s1 σ H1 x v Q I1 r1 q1)
theorem opI{f:Value→Value→Sem Value}{C:Int→Int→Prop}{g:Int→Int→Int}
  (rule:∀(i j:Int) (t u:Tok) (s:af) (Q:Value→af→Prop) (E:Value→af→Prop),C i j→Q (.int (g i j) s.toks) {s with toks:=s.toks+1}→wpAny (model X.prog X.w) X.A (f (.int i t) (.int j u)) Q E s):
  OpR X f (rI C fun i j=>.int (g i j)):=by
 intro pins s σ H x y v u Q I rx ry h;obtain⟨i,j,rfl,rfl,hc,q⟩:=h;obtain⟨t,rfl⟩:=rx;obtain⟨t',rfl⟩:=ry;exact rule i j t t' s _ _ hc ⟨.int (g i j),H,I.tok _,⟨_,rfl⟩,q⟩
theorem xpR{f:Value→Value→Sem Value}{g:Int→Int→Int}
  (rule:∀(i j:Int) (t u:Tok) (s:af) (Q:Value→af→Prop) (E:Value→af→Prop),Q (.int (g i j) s.toks) {s with toks:=s.toks+1}→wpAny (model X.prog X.w) X.A (f (.int i t) (.int j u)) Q E s):
  OpR X f (rI0 fun i j=>.int (g i j)):=by
 intro pins s σ H x y v u Q I rx ry h;obtain⟨i,j,rfl,rfl,q⟩:=h;obtain⟨t,rfl⟩:=rx;obtain⟨t',rfl⟩:=ry;exact rule i j t t' s _ _ ⟨.int (g i j),H,I.tok _,⟨_,rfl⟩,q⟩
theorem xkY{f:Value→Value→Sem Value}{g:Int→Int→Bool}
  (rule:∀(i j:Int) (t u:Tok) (s:af) (Q:Value→af→Prop) (E:Value→af→Prop),Q (.bool (g i j)) s→wpAny (model X.prog X.w) X.A (f (.int i t) (.int j u)) Q E s):
  OpR X f (rI0 fun i j=>.bl (g i j)):=by
 intro pins s σ H x y v u Q I rx ry h;obtain⟨i,j,rfl,rfl,q⟩:=h;obtain⟨t,rfl⟩:=rx;obtain⟨t',rfl⟩:=ry;exact rule i j t t' s _ _ ⟨.bl (g i j),H,I,rfl,q⟩
def xpS(i j:Int):Prop:=0≤j∧j≤1000000∧i.natAbs<2^64
def xkZ(i j:Int):Prop:=(-(2^64)<i∧i<2^64)∨(-(2^64)<j∧j<2^64)
theorem xkZ.ok{i j:Int}(h:xkZ i j):IntMulOk i j:=by
 rcases h with⟨h1,h2⟩|⟨h1,h2⟩
 ·exact .of_left (intBits_le_64 h1 h2)
 ·exact .of_right (intBits_le_64 h1 h2)
theorem xpT:OpR X (cJ .Add) (rI0 fun i j=>.int (i+j)):=xpR fun _ _ _ _ _ _ _ q=>add_int q
theorem xpU:OpR X (cJ .Sub) (rI0 fun i j=>.int (i - j)):=xpR fun _ _ _ _ _ _ _ q=>sub_int q
theorem xpV:OpR X (cJ .Mult) (rI xkZ fun i j=>.int (i*j)):=opI fun _ _ _ _ _ _ _ hc q=>mul_int q hc.ok
theorem xpW:OpR X (cJ .Mod) (rI (fun _ j=>0<j) fun i j=>.int (i%j)):=opI fun i j _ _ _ _ _ hc q=>by
 have h1:(0:Int)<j:=hc;exact mod_int' (by lia) (by rw[Int.fmod_eq_emod_of_nonneg i (by lia)];exact q)
theorem xpX:OpR X (cJ .Pow) (rI xpS fun i j=>.int (i^j.toNat)):=opI fun _ _ _ _ _ _ _ hc q=>pow_int_small hc.1 hc.2.1 hc.2.2 q
theorem unI{f:Value→Sem Value}{g:Int→Int}
  (rule:∀(i:Int) (t:Tok) (s:af) (Q:Value→af→Prop) (E:Value→af→Prop),Q (.int (g i) s.toks) {s with toks:=s.toks+1}→wpAny (model X.prog X.w) X.A (f (.int i t)) Q E s):
  UnR X f (rU fun i=>.int (g i)):=by
 intro pins s σ H x v Q I rx h;obtain⟨i,rfl,q⟩:=h;obtain⟨t,rfl⟩:=rx;exact rule i t s _ _ ⟨.int (g i),H,I.tok _,⟨_,rfl⟩,q⟩
theorem xpY:UnR X (unaryOp .USub) (rU fun i=>.int (-i)):=unI fun _ _ _ _ _ q=>neg_int q
end
def xpZ:V→V→Bool
 | .non,.non=>true| .non,.int _=>true| .int _,.non=>true| .non,.bl _=>true| .bl _,.non=>true| .non,.str _=>true| .str _,.non=>true
 | .int _,.int _=>true| .bl _,.bl _=>true| .str _,.str _=>true| .byt _,.byt _=>true
 | .int _,.str _=>true| .str _,.int _=>true| .bl _,.str _=>true| .str _,.bl _=>true
 |_,_=>false
def rEq:R2:=fun x y H Q=>xpZ x y=true∧Q (.bl (decide (x=y))) H
def rNe:R2:=fun x y H Q=>xpZ x y=true∧Q (.bl (!decide (x=y))) H
theorem xkf{i j:Int}:decide (V.int i=V.int j)=(i==j):=by
 rw[eA];simp
theorem xlZ{i j:Bool}:decide (V.bl i=V.bl j)=(i==j):=by
 rw[eA];simp
theorem xkg{i j:Str}:decide (V.str i=V.str j)=(i==j):=by
 rw[eA];simp
theorem xkh{i j:Array UInt8}:decide (V.byt i=V.byt j)=(i.toList==j.toList):=by
 rw[eA];cases i;cases j;simp
section
variable {X:Cx} {a b c:Expr} {ta tb tc:TE} {pos:Pos}
theorem yg{pins:List (Addr×Obj)}{σ:St}{H:Hp}{s:af}{Q:VK}{k k':Bool}(I:Inv X pins σ H s)(q:Q (.bl k) H)(e:k=k'):EP X pins σ Q (.bool k') s:=by
 subst e;exact⟨.bl k,H,I,rfl,q⟩
theorem xoi:OpR X (bz .Eq) rEq:=by
 intro pins s σ H x y v u Q I rx ry h;obtain⟨hs,q⟩:=h;cases x with
 |non=>
  cases rx;cases y with
  |non=>cases ry;exact PySem.EqNone.eq_none_none (yg I q (by simp))
  |bl j=>cases ry;exact PySem.EqNone.eq_none_bool (yg I q (by simp))
  |int j=>obtain⟨t',rfl⟩:=ry;exact PySem.EqNone.eq_none_int (yg I q (by simp))
  |str j=>obtain⟨t',rfl⟩:=ry;exact PySem.EqNone.eq_none_str (yg I q (by simp))
  |_=>exact absurd (show false=true from hs) aI
 |bl i=>
  cases rx;cases y with
  |non=>cases ry;exact PySem.EqNone.eq_bool_none (yg I q (by simp))
  |bl j=>cases ry;exact eq_bool (yg I q xlZ)
  |str j=>obtain⟨t',rfl⟩:=ry;exact PySem.EqMixed.eq_bool_str (yg I q (by simp))
  |_=>exact absurd (show false=true from hs) aI
 |int i=>
  obtain⟨t,rfl⟩:=rx;cases y with
  |non=>cases ry;exact PySem.EqNone.eq_int_none (yg I q (by simp))
  |int j=>obtain⟨t',rfl⟩:=ry;exact eq_int (yg I q xkf)
  |str j=>obtain⟨t',rfl⟩:=ry;exact PySem.EqMixed.eq_int_str (yg I q (by simp))
  |_=>exact absurd (show false=true from hs) aI
 |str i=>
  obtain⟨t,rfl⟩:=rx;cases y with
  |non=>cases ry;exact PySem.EqNone.eq_str_none (yg I q (by simp))
  |bl j=>cases ry;exact PySem.EqMixed.eq_str_bool (yg I q (by simp))
  |int j=>obtain⟨t',rfl⟩:=ry;exact PySem.EqMixed.eq_str_int (yg I q (by simp))
  |str j=>obtain⟨t',rfl⟩:=ry;exact eq_str (yg I q xkg)
  |_=>exact absurd (show false=true from hs) aI
 |byt i=>
  obtain⟨t,rfl⟩:=rx;cases y with
  |byt j=>obtain⟨t',rfl⟩:=ry;exact W.eq_bytes (yg I q xkh)
  |_=>exact absurd (show false=true from hs) aI
 |_=>cases y<;> exact absurd (show false=true from hs) aI
theorem xoj:OpR X (bz .NotEq) rNe:=by
 intro pins s σ H x y v u Q I rx ry h;obtain⟨hs,q⟩:=h;cases x with
 |non=>
  cases rx;cases y with
  |non=>cases ry;exact PySem.EqNone.ne_none_none (yg I q (by simp))
  |bl j=>cases ry;exact PySem.EqNone.ne_none_bool (yg I q (by simp))
  |int j=>obtain⟨t',rfl⟩:=ry;exact PySem.EqNone.ne_none_int (yg I q (by simp))
  |str j=>obtain⟨t',rfl⟩:=ry;exact PySem.EqNone.ne_none_str (yg I q (by simp))
  |_=>exact absurd (show false=true from hs) aI
 |bl i=>
  cases rx;cases y with
  |non=>cases ry;exact PySem.EqNone.ne_bool_none (yg I q (by simp))
  |bl j=>cases ry;exact ne_bool (yg I q (congrArg not xlZ))
  |str j=>obtain⟨t',rfl⟩:=ry;exact PySem.EqMixed.ne_bool_str (yg I q (by simp))
  |_=>exact absurd (show false=true from hs) aI
 |int i=>
  obtain⟨t,rfl⟩:=rx;cases y with
  |non=>cases ry;exact PySem.EqNone.ne_int_none (yg I q (by simp))
  |int j=>obtain⟨t',rfl⟩:=ry;exact ne_int (yg I q (congrArg not xkf))
  |str j=>obtain⟨t',rfl⟩:=ry;exact PySem.EqMixed.ne_int_str (yg I q (by simp))
  |_=>exact absurd (show false=true from hs) aI
 |str i=>
  obtain⟨t,rfl⟩:=rx;cases y with
  |non=>cases ry;exact PySem.EqNone.ne_str_none (yg I q (by simp))
  |bl j=>cases ry;exact PySem.EqMixed.ne_str_bool (yg I q (by simp))
  |int j=>obtain⟨t',rfl⟩:=ry;exact PySem.EqMixed.ne_str_int (yg I q (by simp))
  |str j=>obtain⟨t',rfl⟩:=ry;exact ne_str (yg I q (congrArg not xkg))
  |_=>exact absurd (show false=true from hs) aI
 |byt i=>
  obtain⟨t,rfl⟩:=rx;cases y with
  |byt j=>obtain⟨t',rfl⟩:=ry;exact W.ne_bytes (yg I q (congrArg not xkh))
  |_=>exact absurd (show false=true from hs) aI
 |_=>cases y<;> exact absurd (show false=true from hs) aI
theorem xqL:OpR X (bz .Lt) (rI0 fun i j=>.bl (decide (i<j))):=xkY fun _ _ _ _ _ _ _ q=>lt_int q
theorem xqM:OpR X (bz .LtE) (rI0 fun i j=>.bl (decide (i≤j))):=xkY fun _ _ _ _ _ _ _ q=>le_int q
theorem xqN:OpR X (bz .Gt) (rI0 fun i j=>.bl (decide (j<i))):=xkY fun _ _ _ _ _ _ _ q=>gt_int q
theorem xqO:OpR X (bz .GtE) (rI0 fun i j=>.bl (decide (j≤i))):=xkY fun _ _ _ _ _ _ _ q=>ge_int q
theorem xl0(b:Expr){op:CmpOp}(h:op≠.In:=by decide)(h2:op≠.NotIn:=by decide):cE op b=false:=by
 have e1:(op==CmpOp.In)=false:=by cases op<;> first|rfl|exact absurd rfl h
 have e2:(op==CmpOp.NotIn)=false:=by cases op<;> first|rfl|exact absurd rfl h2
 cases b<;> simp[cE,e1,e2]
theorem xoD{op:CmpOp}{r:R2}(ho:OpR X (bz op) r)(ha:PE X a ta)(hb:PE X b tb)(hm:cE op b=false):PE X (.Compare a [op] [b] pos) (tOp r ta tb):=by
 intro pins s σ H Q I h;exact wpAny_Compare1 (xnd ha hb I h fun v u s2 x y H2 I2 rx ry q=>ho pins s2 σ H2 x y v u Q I2 rx ry q) hm
theorem xdA:(aM:Nat)<2^63:=by rw[a6];decide
theorem vals1{x:V}{us:List Value}(r:Vals [x] us):∃u,us=[u]∧RelV x u:=by
 cases r with
 |cons r1 r2=>cases r2;exact⟨_,rfl,r1⟩
theorem vals2{x y:V}{us:List Value}(r:Vals [x,y] us):∃u w',us=[u,w']∧RelV x u∧RelV y w':=by
 cases r with
 |cons r1 r2=>
  cases r2 with
  |cons r3 r4=>cases r4;exact⟨_,_,rfl,r1,r3⟩
theorem xne:yD X (.builtin "abs") (fun xs H Q=>∃i,xs=[.int i]∧Q (.int (if i<0 then -i else i)) H):=by
 intro pins s σ H xs us Q I r h;obtain⟨i,rfl,q⟩:=h;obtain⟨u,rfl,t,rfl⟩:=vals1 r;exact call_abs_int fun u tk=>⟨.int (if i<0 then -i else i),H,I.tok _,⟨_,rfl⟩,q⟩
theorem xl1(hc:X.calm=true):yD X (.builtin "max") (fun xs H Q=>∃i j,xs=[.int i,.int j]∧Q (.int (if j > i then j else i)) H):=by
 intro pins s σ H xs us Q I r h;obtain⟨i,j,rfl,q⟩:=h;obtain⟨u,w',rfl,⟨t,rfl⟩,⟨t',rfl⟩⟩:=vals2 r;refine max_two_ints (I.ok.hd hc) fun h' tk k=>⟨_,H,I.kept k,?_,q⟩
 by_cases hj:j > i
 ·rw[if_pos hj,if_pos hj];exact⟨_,rfl⟩
 ·rw[if_neg hj,if_neg hj];exact⟨_,rfl⟩
theorem xl2(hc:X.calm=true):yD X (.builtin "min") (fun xs H Q=>∃i j,xs=[.int i,.int j]∧Q (.int (if j<i then j else i)) H):=by
 intro pins s σ H xs us Q I r h;obtain⟨i,j,rfl,q⟩:=h;obtain⟨u,w',rfl,⟨t,rfl⟩,⟨t',rfl⟩⟩:=vals2 r;refine min_two_ints (I.ok.hd hc) fun h' tk k=>⟨_,H,I.kept k,?_,q⟩
 by_cases hj:j<i
 ·rw[if_pos hj,if_pos hj];exact⟨_,rfl⟩
 ·rw[if_neg hj,if_neg hj];exact⟨_,rfl⟩
theorem xdB:yD X (.type "int") (fun xs H Q=>(∃i,xs=[.int i]∧Q (.int i) H)∨∃k,xs=[.bl k]∧Q (.int (if k then 1 else 0)) H):=by
 intro pins s σ H xs us Q I r h;rcases h with⟨i,rfl,q⟩|⟨k,rfl,q⟩
 ·obtain⟨u,rfl,t,rfl⟩:=vals1 r;exact call_int_int ⟨.int i,H,I,⟨_,rfl⟩,q⟩
 ·obtain⟨u,rfl,r1⟩:=vals1 r;cases r1;exact call_int_bool ⟨.int (if k then 1 else 0),H,I.tok _,⟨_,rfl⟩,q⟩
end
end L2
namespace L2
open PySem PySem.Spec PyProof.Rows
structure xe4(h:Heap)(x dx C:Addr)(mA:Str→Option Value):Prop where
 obj:h.get? x=some (eJ C dx)
 ns:h.Ns1 dx mA
 ne:dx≠x
theorem xhp{h:Heap}{dx:Addr}{mA:Str→Option Value}(n:h.Ns1 dx mA):∃od,h.get? dx=some od∧∀name,W.lookIn name od=some (mA name):=by
 obtain⟨o,es,ep,ho,hd,hk,_,hm⟩:=n;refine⟨o,ho,fun name=>?_⟩;have e:=hm name;unfold nsFind findBy at e;rw[←i8]at e;unfold W.lookIn;rw[hd];dsimp only
 split
 ·rename_i y q;rw[q]at e;exact congrArg some e
 ·rename_i q;rw[q]at e;have a:es.toList.any (·.refKey)=false:=by
   rw[List.any_eq_false];intro y hy;obtain⟨z,t,hkey⟩:=hk y (Array.mem_toList_iff.mp hy);simp[DictEntry.refKey,hkey]
  have a':¬es.toList.any (·.refKey)=true:=by rw[a];exact aI
  rw[if_neg a'];exact congrArg some e
theorem xe4.look{h:Heap}{x dx C:Addr}{mA:Str→Option Value}(I:xe4 h x dx C mA):∃od,W.InstAt h x (eJ C dx) C (some od)∧∀name,W.lookIn name od=some (mA name):=
 let⟨od,ho,hl⟩:=xhp I.ns
 ⟨od,⟨I.obj,rfl,rfl,ho⟩,hl⟩
section
variable {prog:av} {w:World} {A:aL} {E:Value→af→Prop} {s:af} {K:ag} {x dx C f:Addr} {mA:Str→Option Value} {name:Str} {v:Value}
theorem get_map{expr:Bool}{Q:Value→af→Prop}(X:K.In s.heap)(I:xe4 s.heap x dx C mA)(hg:iE K C name=true)(hh:fW K C=true)
  (ha:aK K (.ref C) name=some none) (hv:mA name=some v) (hv':W.handedIn v=true) (h:Q v {s with toks:=s.toks+1}):
  wpAny (model prog w) A (getAttr (.ref x) name expr) Q E s:=by
 obtain⟨od,J,hl⟩:=I.look;exact W.get_value X J (iS hg).1 (W.findObj_own hh ha rfl (by rw[hl,hv])) hv' h
theorem xnf{pl:Sem Bool}{Q:Value×List Value→af→Prop}(X:K.In s.heap)(I:xe4 s.heap x dx C mA)(hg:iE K C name=true)
  (hf:aK K (.ref C) name=some (some (.ref f))) (ht:W.isFn K (.ref f)=true) (hv:mA name=none) (h:Q (.ref f,[.ref x]) s):
  wpAny (model prog w) A (fz (.ref x) name pl) Q E s:=by
 obtain⟨od,J,hl⟩:=I.look;exact W.method_fn X J (iS hg).1 (iS hg).2 hf (beq_iff_eq.mp ht) (by show(W.lookIn name od).map (·.isSome)=some false;rw[hl,hv];rfl) h
theorem xoE{ns:List Str}{Q:Unit→af→Prop}(X:K.In s.heap)(I:xe4 s.heap x dx C mA)
  (hs:aK K (.ref C) "__setattr__"=some (some (.builtin "object.__setattr__"))) (hp:W.plainOver K C=true) (ht:W.takerIn K C name=some none) (hh:fW K C=true)
  (hw:PySem.Within mA ns) (hsz:ns.length≤aM)
  (h:∀h',xe4 h' x dx C (fun y=>if y=name then some v else mA y)→fF dx s.heap h'→Q () {s with heap:=h',toks:=s.toks+2}):
  wpAny (model prog w) A (setAttr (.ref x) name v) Q E s:=by
 obtain⟨od,J,hl⟩:=I.look;refine W.set_plain X J hs (W.osa_open (s:={s with toks:=s.toks+1}) (r:=none) X J hp ht fun b=>?_);obtain⟨cd,hc,hd'⟩:=W.any_some hh;have hx:s.heap.get? x=some ⟨.ref C,some dx,.plain,#[]⟩:=I.obj;refine aa (ak (aa (aa (fS hx (aa (W.Looks.here (s:={s with toks:=s.toks+1}) (iT X hc) ?_))))));rw[hd'];refine ak (a:=some dx) (aa (ak (aa ?_)));refine wpAny_nsSet1 (s:={s with toks:=s.toks+1}) I.ns fun h' hn2 hs2=>?_;obtain⟨oD,esD,epD,hoD,hdD,hcD⟩:=hn2.count (PySem.Within.cons name v hw);refine aa (wpAny_lookBehind hoD (by rw[hdD];exact pastItsLine_dict (bo hcD (by rw[bB];lia))) ?_);exact ak (h _ ⟨(hs2.2 _ (au I.ne)).trans I.obj,hn2,I.ne⟩ hs2)
theorem xiw{R:gJ→af→Prop}{vs:List Value}{kw:List (Str×Value)}(X:K.In s.heap)(hm:W.makesIn K C=true)
  (hi:aK K (.ref C) "__init__"=some (some (.ref f))) (hf:W.typeIn K (.ref f)=some (.type "function"))
  (h:ck (model prog w) (A.under (.builtin "type.__call__" ⟨.ref C::vs,kw⟩)) (.call (.ref f) ⟨.ref (s.heap.objs.size+1)::vs,kw⟩) (W.InitBack (s.heap.objs.size+1) R)
   {s with heap:=(s.heap.push dh).push (eJ C s.heap.objs.size)}):
  ck (model prog w) A (.call (.ref C) ⟨vs,kw⟩) R s:=by
 obtain⟨hh,g,d,t,os⟩:=s;exact W.make_core (W.makes_of X hm) (W.looks_findIn X hi) (fun self=>W.bind_fn X self hf) (.inl rfl) h
end
def uy(f:Str)(v:V):List (Str×V)→List (Str×V)
 |[]=>[(f,v)]
 |(g,x)::r=>if g=f then(g,v)::r else(g,x)::uy f v r
theorem xeK(f g:Str)(v:V):∀fs:List (Str×V),(uy f v fs).lookup g=if g=f then some v else fs.lookup g
 |[]=>by
  show dQ g [(f,v)]=_
  by_cases h:g=f
  ·have hb:(g==f)=true:=beq_iff_eq.mpr h;simp only[dQ,hb,if_pos h]
  ·have hb:(g==f)=false:=beq_eq_false_iff_ne.mpr h;simp only[dQ,hb,if_neg h]
 |(k,x)::r=>by
  have ih:=xeK f g v r;rw[show uy f v ((k,x)::r)=(if k=f then(k,v)::r else(k,x)::uy f v r)from rfl]
  by_cases hk:k=f
  ·rw[if_pos hk]
   by_cases h:g=k
   ·have hb:(g==k)=true:=beq_iff_eq.mpr h;simp only[dQ,hb,if_pos (h.trans hk)]
   ·have hb:(g==k)=false:=beq_eq_false_iff_ne.mpr h;simp only[dQ,hb,if_neg (fun e:g=f=>h (e.trans hk.symm))]
  ·rw[if_neg hk]
   by_cases h:g=k
   ·have hb:(g==k)=true:=beq_iff_eq.mpr h;simp only[dQ,hb,if_neg (fun e:g=f=>hk (h.symm.trans e))]
   ·have hb:(g==k)=false:=beq_eq_false_iff_ne.mpr h;simp only[dQ,hb];exact ih
theorem xdC(f:Str)(v:V):∀fs:List (Str×V),f∈(uy f v fs).map (·.1)∧∀g,g∈fs.map (·.1)→g∈(uy f v fs).map (·.1)
 |[]=>⟨by simp[uy],fun g h=>by simp at h⟩
 |(k,x)::r=>by
  obtain⟨i1,i2⟩:=xdC f v r;rw[show uy f v ((k,x)::r)=(if k=f then(k,v)::r else(k,x)::uy f v r)from rfl]
  by_cases hk:k=f
  ·rw[if_pos hk];subst hk;exact⟨by simp,fun g h=>by simpa using h⟩
  ·rw[if_neg hk];refine⟨?_,fun g h=>?_⟩
   ·rw[bp];exact aQ _ i1
   ·rw[bp]at h⊢;rcases aq.mp h with e|e
    ·exact aq.mpr (.inl e)
    ·exact aQ _ (i2 g e)
theorem xbS(f:Str)(v:V):∀fs:List (Str×V),(uy f v fs).length≤fs.length+1
 |[]=>by simp[uy]
 |(k,x)::r=>by
  have ih:=xbS f v r;rw[show uy f v ((k,x)::r)=(if k=f then(k,v)::r else(k,x)::uy f v r)from rfl]
  by_cases hk:k=f
  ·rw[if_pos hk,bB,bB];lia
  ·rw[if_neg hk,bB,bB];lia
theorem ux.some_of{v:V}{o:Option Value}(r:ux (some v) o):∃u,o=some u∧RelV v u:=by
 cases o with
 |none=>exact(show False from r).elim
 |some u=>exact⟨u,rfl,r⟩
theorem ux.none_of{o:Option Value}(r:ux none o):o=none:=by
 cases o with
 |none=>rfl
 |some u=>exact(show False from r).elim
theorem xhq{v:V}{u:Value}(r:RelV v u):W.handedIn u=true:=by
 cases v with
 |non=>cases (show u=bj from r);rfl
 |bl b=>cases (show u=d5 b from r);rfl
 |int i=>obtain⟨t,e⟩:=(show∃t,u=fZ i t from r);cases e;rfl
 |str x=>obtain⟨t,e⟩:=(show∃t,u=f9 x t from r);cases e;rfl
 |byt b=>obtain⟨t,e⟩:=(show∃t,u=Value.bytes b t from r);cases e;rfl
 |flt b=>obtain⟨t,e⟩:=(show∃t,u=kd b t from r);cases e;rfl
 |ref a=>cases (show u=aB a from r);rfl
 |ty n=>cases (show u=d6 n from r);rfl
section
variable {P:av} {w:World} {H H':Hp} {h h':Heap} {a C dx:Addr} {fs fs':List (Str×V)}
theorem xeq(hok:HOk P w H h)(e:H a=some (.ins C dx fs)):∃mA,xe4 h a dx C mA∧(∀f,ux (fs.lookup f) (mA f))∧PySem.Within mA (fs.map (·.1))∧fs.length≤1000∧H dx=some (.own a):=by
 obtain⟨d,z,ne,ob,mA,n,r,q⟩:=(show yh P w H h a (.ins C dx fs)from hok a _ e);exact⟨mA,⟨ob,n,ne⟩,r,q,z,d⟩
end
structure Cls(K:ag)(C:Addr):Prop where
 pg:iE K C Str.empty=true
 hd:fW K C=true
 po:W.plainOver K C=true
 sa:aK K (.ref C) "__setattr__"=some (some (.builtin "object.__setattr__"))
theorem Cls.get{K:ag}{C:Addr}(c:Cls K C)(f:Str):iE K C f=true:=c.pg
def xJ(K:ag)(C:Addr)(f:Str):Prop:=aK K (.ref C) f=some none
theorem xJ.taker{K:ag}{C:Addr}{f:Str}(n:xJ K C f):W.takerIn K C f=some none:=by
 unfold W.takerIn;rw[show aK K (.ref C) f=some none from n];rfl
structure Meth(K:ag)(C:Addr)(m:Str)(f:Addr):Prop where
 at_:aK K (.ref C) m=some (some (.ref f))
 fn:W.isFn K (.ref f)=true
 kp:bY K (.ref f)=true
section
variable {X:Cx} {pins:List (Addr×Obj)} {σ:St} {H:Hp} {s:af} {a C dx:Addr} {fs:List (Str×V)} {f:Str} {v:V} {A:aL} {E:Value→af→Prop}
theorem xk0{b:Bool}{Q:Value→af→Prop}(I:Inv X pins σ H s)(e:H a=some (.ins C dx fs))(c:Cls X.K C)(n:xJ X.K C f)(l:fs.lookup f=some v)
  (h:∀u s',Inv X pins σ H s'→RelV v u→Q u s'):wpAny (model X.prog X.w) A (getAttr (.ref a) f b) Q E s:=by
 obtain⟨mA,O,r,_,_,_⟩:=xeq I.hok e;obtain⟨u,hu,ru⟩:=ux.some_of (v:=v) (o:=mA f) (by rw[←l];exact r f);exact get_map I.kIn O (c.get f) c.hd n hu (xhq ru) (h u _ (I.tok _) ru)
theorem xaL{m:Str}{g:Addr}{pl:Sem Bool}{Q:Value×List Value→af→Prop}(I:Inv X pins σ H s)(e:H a=some (.ins C dx fs))(c:Cls X.K C)(k:Meth X.K C m g)(l:fs.lookup m=none)
  (h:Q (.ref g,[.ref a]) s):wpAny (model X.prog X.w) A (fz (.ref a) m pl) Q E s:=by
 obtain⟨mA,O,r,_,_,_⟩:=xeq I.hok e;have hn:mA m=none:=ux.none_of (by rw[←l];exact r m);exact xnf I.kIn O (c.get m) k.at_ k.fn hn h
theorem xk1{y:V}{u:Value}{Q:Unit→af→Prop}(I:Inv X pins σ H s)(e:H a=some (.ins C dx fs))(c:Cls X.K C)(n:xJ X.K C f)(hl:fs.length<1000)(ry:RelV y u)
  (h:∀s',Inv X pins σ (upd H a (.ins C dx (uy f y fs))) s'→Q () s'):wpAny (model X.prog X.w) A (setAttr (.ref a) f u) Q E s:=by
 obtain⟨mA,O,r,wi,_,ho⟩:=xeq I.hok e;have hz:(fs.map (·.1)).length≤aM:=by rw[ai,a6];lia
 refine xoE I.kIn O c.sa c.po n.taker c.hd wi hz fun h' O' sb=>h _ ?_;have hd:∃o,h'.get? dx=some o:=let⟨o,_,_,e',_⟩:=O'.ns;⟨o,e'⟩
 refine I.write (x:=a) (e:=dx) (by rw[e];exact b9) (.inr ho) (fun b q hb z=>(sb.2 b hb).trans z) hd ?_;refine⟨by rw[xr O.ne];exact ho,?_,O.ne,O'.obj,_,O'.ns,fun g=>?_,fun g hg=>?_⟩
 ·have:=xbS f y fs;lia
 ·show ux ((uy f y fs).lookup g) (if g=f then some u else mA g);rw[xeK]
  by_cases q:g=f
  ·rw[if_pos q,if_pos q];exact ry
  ·rw[if_neg q,if_neg q];exact r g
 ·by_cases q:g=f
  ·rw[q];exact(xdC f y fs).1
  ·refine(xdC f y fs).2 g (wi g fun z=>hg ?_);show(if g=f then some u else mA g)=none;rw[if_neg q];exact z
theorem Inv.made(I:Inv X pins σ H s):Inv X pins σ (upd (upd H s.heap.objs.size (.own (s.heap.objs.size+1))) (s.heap.objs.size+1) (.ins C s.heap.objs.size []))
  {s with heap:=(s.heap.push dh).push (eJ C s.heap.objs.size)}:=by
 have e1:(s.heap.push dh).get? s.heap.objs.size=some dh:=aN s.heap rfl;have e2:((s.heap.push dh).push (eJ C s.heap.objs.size)).get? (s.heap.objs.size+1)=some (eJ C s.heap.objs.size):=by
  have:=aN (s.heap.push dh) (o:=eJ C s.heap.objs.size) rfl
  rwa [dX]at this
 have e3:(s.heap.push dh).Ns s.heap.objs.size (fun _=>none):=⟨dh,#[],_,e1,rfl,(fun e he=>absurd he (by simp)),fun _=>rfl⟩;have I1:=I.laid (a:=s.heap.objs.size) (o:=.own (s.heap.objs.size+1)) (h':=s.heap.push dh) (t':=s.toks) (fun b u q=>ah _ q) (ar _) ⟨_,e1⟩;refine I1.laid (a:=s.heap.objs.size+1) (o:=.ins C s.heap.objs.size []) (t':=s.toks) (fun b u q=>ah _ q) (Nat.le_of_eq (dX _ _)) ?_;have ne:s.heap.objs.size≠s.heap.objs.size+1:=aH (gK _);refine⟨by rw[xr ne,xt],bL _,ne,e2,fun _=>none,(j8 e3).at fun o q=>ah _ q,fun _=>b9,fun y hy=>absurd rfl hy⟩
theorem xki{prog:av}{w:World}{env:Env}{e:Expr}{f:Str}{pos:Pos}{s:af}{Q:Value→af→Prop}(hb:gq e f env (eval e env)=eval e env)
  (h:wpAny (model prog w) A (eval e env) (fun o s₁=>wpAny (model prog w) A (getAttr o f true) Q E s₁) E s):wpAny (model prog w) A (eval (.Attribute e f pos) env) Q E s:=
 Attribute_any_ h (by rw[arm_eval_Attribute,hb])
end
def xrw(K:ag)(ta:TE)(f:Str):TE:=fun σ H Q=>ta σ H fun x H1=>∃a C dx fs v,x= .ref a∧H1 a=some (.ins C dx fs)∧Cls K C∧xJ K C f∧fs.lookup f=some v∧Q v H1
def xrx(K:ag)(ta tv:TE)(f:Str):TS:=fun D σ H=>tv σ H fun y H1=>ta σ H1 fun x H2=>∃a C dx fs,x= .ref a∧H2 a=some (.ins C dx fs)∧Cls K C∧xJ K C f∧fs.length<1000∧
 D.nx σ (upd H2 a (.ins C dx (uy f y fs)))
section
variable {X:Cx} {o e value:Expr} {f:Str} {pos pos' tpos:Pos} {ta tv:TE}
theorem xA(he:PE X e ta)(hb:gq e f X.env (eval e X.env)=eval e X.env):PE X (.Attribute e f pos) (xrw X.K ta f):=by
 intro pins s σ H Q I h;refine xki hb (thn (he pins s σ H _ I h) fun u s1 ⟨x,H1,I1,rx,a,C,dx,fs,v,ex,ea,c,n,l,q⟩=>?_);subst ex;obtain rfl:u=aB a:=rx;exact xk0 I1 ea c n l fun u' s2 I2 ru=>⟨v,H1,I2,ru,q⟩
theorem yt(ha:PE X o ta)(hv:PE X value tv)(hs:eM value (some (.Attribute o f pos')) pos.line X.env=pure false):PS X (.Assign [.Attribute o f pos'] value pos) (xrx X.K ta tv f):=by
 intro pins s σ H D I h;refine fC (thn (hv pins s σ H _ I h) fun u s1 ⟨y,H1,I1,ry,q⟩=>thn (ha pins s1 σ H1 _ I1 q) fun ov s2 ⟨x,H2,I2,rx,a,C,dx,fs,ex,ea,c,n,l,q2⟩=>?_) hs;subst ex;obtain rfl:ov=aB a:=rx;exact xk1 I2 ea c n l ry fun s3 I3=>⟨σ,_,I3,q2⟩
end
section
variable {X:Cx} {pins:List (Addr×Obj)} {σ:St} {H:Hp} {s:af} {A:aL} {E:Value→af→Prop} {Q:Value→af→Prop} {c:Value} {b:Bool}
inductive zA(K:ag)(H:Hp):V→Value→Prop where
 |non:zA K H .non (.type "NoneType")
 |bl (x:Bool):zA K H (.bl x) (.type "bool")
 |int (i:Int):zA K H (.int i) (.type "int")
 |str (x:Str):zA K H (.str x) (.type "str")
 |flt (x:UInt64):zA K H (.flt x) (.type "float")
 |lst {a:Addr} {xs:List V} (e:H a=some (.lst xs)):zA K H (.ref a) (.type "list")
 |frz {a:Addr} {o:Obj} {xs:List V} (e:H a=some (.frz o (.lst xs))):zA K H (.ref a) (.type "list")
 |tup {a:Addr} {xs:List V} (e:H a=some (.tup xs)):zA K H (.ref a) (.type "tuple")
 |dK {a:Addr} {kvs:List (Key×V)} (e:H a=some (.dK kvs)):zA K H (.ref a) (.type "dict")
 |dT {a:Addr} {kvs:List (List Key×V)} (e:H a=some (.dT kvs)):zA K H (.ref a) (.type "dict")
 |ins {a C dx:Addr} {fs:List (Str×V)} (e:H a=some (.ins C dx fs)) (cl:Cls K C) (ha:aK K (.ref C) "__class__"=some (some (.builtin "object.__class__")))
   (hn:il K (.builtin "object.__class__") "__get__"=some (some (.builtin "getset_descriptor.__get__"))) (htk:W.takesIn K (.builtin "object.__class__")=some true)
   (hm:eX K C (.type "object")=some true):zA K H (.ref a) (.ref C)
theorem xl3{x:V}{u t:Value}(I:Inv X pins σ H s)(rx:RelV x u)(ty:zA X.K H x t)(e:aw X.K t c=some b)(h:∀tk,Q (.bool b) {s with toks:=tk}):
  wpAny (model X.prog X.w) A (call (.builtin "isinstance") [u,c]) Q E s:=by
 cases ty with
 |non=>cases (show u=bj from rx);exact di W.kitx_none I.kIn b9 e (fun z=>nomatch z) h
 |bl y=>cases (show u=d5 y from rx);exact di W.kitx_bool I.kIn b9 e (fun z=>nomatch z) h
 |int i=>obtain⟨t,q⟩:=(show∃t,u=fZ i t from rx);cases q;exact di W.kitx_int I.kIn b9 e (fun z=>nomatch z) h
 |str y=>obtain⟨t,q⟩:=(show∃t,u=f9 y t from rx);cases q;exact di W.kitx_str I.kIn b9 e (fun z=>nomatch z) h
 |flt y=>obtain⟨t,q⟩:=(show∃t,u=kd y t from rx);cases q;exact di W.kitx_float I.kIn b9 e (fun z=>nomatch z) h
 | @lst a xs ea=>
  cases (show u=aB a from rx);obtain⟨_,_,n,_,h1⟩:=(show yh X.prog X.w H s.heap a (.lst xs)from I.hok a _ ea);exact di W.kitx_list I.kIn ⟨_,h1,rfl⟩ e (fun z=>nomatch z) h
 | @frz a ob xs ea=>
  cases (show u=aB a from rx);obtain⟨_,_,_,n,_,h1⟩:=(show yh X.prog X.w H s.heap a (.frz ob (.lst xs))from I.hok a _ ea);exact di W.kitx_list I.kIn ⟨_,h1,rfl⟩ e (fun z=>nomatch z) h
 | @tup a xs ea=>
  cases (show u=aB a from rx);obtain⟨_,_,_,p⟩:=(show yh X.prog X.w H s.heap a (.tup xs)from I.hok a _ ea);obtain⟨o,h1,h2,_⟩:=p;exact di W.kitx_tuple I.kIn ⟨o,h1,h2⟩ e (fun z=>nomatch z) h
 | @dK a kvs ea=>
  cases (show u=aB a from rx);obtain⟨_,_,vs,_,p⟩:=(show yh X.prog X.w H s.heap a (.dK kvs)from I.hok a _ ea);obtain⟨o,es,ep,h1,h2,_⟩:=p;exact di W.kitx_dict I.kIn ⟨o,h1,h2.1⟩ e (fun z=>nomatch z) h
 | @dT a kvs ea=>
  cases (show u=aB a from rx);obtain⟨_,_,xs,_,o,es,ep,h1,h2,_⟩:=(show yh X.prog X.w H s.heap a (.dT kvs)from I.hok a _ ea);exact di W.kitx_dict I.kIn ⟨o,h1,h2.1⟩ e (fun z=>nomatch z) h
 | @ins a C dx fs ea cl ha hn htk hm=>
  cases (show u=aB a from rx);obtain⟨mA,O,_⟩:=xeq I.hok ea;obtain⟨od,J,_⟩:=O.look;exact di (W.kitx_own (cl.get _) cl.hd ha hn htk hm) I.kIn J e (fun z=>nomatch z) h
end
end L2
namespace L2
open PySem PySem.Spec PyProof.Rows
structure xX(k:Nat)(A:aL):Prop where
 hd:A.handled=none
 dp:A.depth+3*k+5<ir
 un:A.units+16*k+200<cLine
theorem xX.mono{j k:Nat}{A:aL}(r:xX k A)(h:j≤k):xX j A:=⟨r.hd,by have:=r.dp;lia,by have:=r.un;lia⟩
theorem xX.deeper{k:Nat}{A:aL}(r:xX (k+1) A)(env:Env):xX k (A.deeper env):=
 ⟨r.hd,by have:=r.dp;show A.depth+1+3*k+5<_;lia,by have:=r.un;show A.units+3+16*k+200<_;lia⟩
theorem xk2{A:aL}{C:Addr}{us:List Value}{kw:List (Str×Value)}:(A.under (.builtin "type.__call__" ⟨.ref C::us,kw⟩)).depth=A.depth+1:=by
 first|rfl|simp[i9,Code.weight,Code.isCreation,Code.isGuard,Code.isCaller,Code.frames,j0,guardIds]
theorem xk3{A:aL}{C:Addr}{us:List Value}{kw:List (Str×Value)}:(A.under (.builtin "type.__call__" ⟨.ref C::us,kw⟩)).units=A.units+1:=by
 first|rfl|simp[i9,Code.cUnits,Code.frames,j0]
theorem xX.make{k:Nat}{A:aL}(r:xX (k+1) A)(C:Addr)(us:List Value)(kw:List (Str×Value)):xX k (A.under (.builtin "type.__call__" ⟨.ref C::us,kw⟩)):=
 ⟨r.hd,by have:=r.dp;rw[xk2];lia,by have:=r.un;rw[xk3];lia⟩
theorem xX.depth{k:Nat}{A:aL}(r:xX k A):A.depth<ir:=by have:=r.dp;lia
theorem xX.units{k:Nat}{A:aL}(r:xX k A):A.units+64<cLine:=by have:=r.un;lia
def vU:TA:=fun _ H Q=>Q [] H
def xfy(ta:TE)(tr:TA):TA:=fun σ H Q=>ta σ H fun x H1=>tr σ H1 fun xs H2=>Q (x::xs) H2
section
variable {X:Cx} {e:Expr} {es:List Expr} {te:TE} {t:TA} {pos:Pos}
theorem xf:PA X [] vU:=fun _ _ _ _ H Q I h=>Calls.spliced_nil ⟨[],H,I,.nil,h⟩
theorem xc(ha:PE X e te)(hr:PA X es t)(hs:aE (e::es) X.env=(false,eval e X.env)::aE es X.env:=by rfl):PA X (e::es) (xfy te t):=by
 intro pos pins s σ H Q I h;rw[hs];show wpAny _ _ (spliced ((false,eval e X.env)::bG pos (aE es X.env))) _ _ s;refine Calls.spliced_cons (thn (ha pins s σ H _ I h) fun u s1 ⟨x,H1,I1,r1,q1⟩=>?_);exact thn (hr pos pins s1 σ H1 _ I1 q1) fun us s2 ⟨xs,H2,I2,r2,q2⟩=>⟨x::xs,H2,I2,.cons r1 r2,q2⟩
def xry(t:TA):TE:=fun σ H Q=>t σ H fun xs H1=>xs.length≤aM∧∀p,H1 p=none→Q (.ref p) (upd H1 p (.tup xs))
def xrz(t:TA):TE:=fun σ H Q=>t σ H fun xs H1=>xs.length≤aM∧∀p,H1 p=none→Q (.ref p) (upd H1 p (.lst xs))
theorem xH{x1}(h:PA X es t):PE X (.Tuple es x1 pos) (xry t):=by
 intro pins s σ H Q I hq;refine wpAny_Tuple_spliced (thn (h pos pins s σ H _ I hq) fun us s1 ⟨xs,H1,I1,r,z,q⟩=>⟨by rw[←r.length];exact z,?_⟩);have hf:H1 s1.heap.objs.size=none:=I1.hok.fresh (ar _);refine⟨.ref s1.heap.objs.size,upd H1 s1.heap.objs.size (.tup xs),I1.laid (t':=s1.toks) (fun b u e=>ah _ e) (ar _) ?_,rfl,q _ hf⟩;exact⟨z,us,r,⟨_,aN _ rfl,rfl,_,rfl⟩⟩
theorem xY(h:PA X es t):PE X (.List es pos) (xrz t):=by
 intro pins s σ H Q I hq;refine wpAny_List_spliced (thn (h pos pins s σ H _ I hq) fun us s1 ⟨xs,H1,I1,r,z,q⟩=>⟨by rw[←r.length];exact z,?_⟩);have hf:H1 s1.heap.objs.size=none:=I1.hok.fresh (ar _);refine⟨.ref s1.heap.objs.size,upd H1 s1.heap.objs.size (.lst xs),I1.laid (t':=s1.toks) (fun b u e=>ah _ e) (ar _) ?_,rfl,q _ hf⟩;exact⟨z,us,0,r,aN _ rfl⟩
end
abbrev Sp:=List V→Hp→VK→XK→Prop
abbrev CXT:=List Env→Hp→af→XK→Value→af→Prop
structure jJ(P:av)(w:World)(K:ag)(mg:Str→Option Value)(base:Heap)(A:aL)(outer:List Env)(s:af)(H:Hp):Prop where
 frames:A.frames=some outer
 mod:Mod K mg base
 bs:∀b o,base.get? b=some o→s.heap.get? b=some o∧H b=none
 bsz:base.objs.size≤s.heap.objs.size
 funs:s.heap.FunFrames base outer
 frf:∀b∈frs outer,H b=none
 hok:HOk P w H s.heap
 bare:eV s.gens
def CE(outer:List Env)(P:av)(w:World)(H:Hp)(s:af)(Q:VK)(u:Value)(s':af):Prop:=
 ∃v H',s'.os=s.os∧eV s'.gens∧Un (frs outer) [] H H' s.heap s'.heap∧HOk P w H' s'.heap∧RelV v u∧Q v H'
def CR(CX:CXT)(outer:List Env)(P:av)(w:World)(H:Hp)(s:af)(Q:VK)(E:XK)(r:gJ)(s':af):Prop:=
 match r with
 | .ok (.ret u)=>CE outer P w H s Q u s'
 | .ok _=>False
 | .error e=>CX outer H s E e s'
structure xE(P:av)(w:World)(K:ag)(mg:Str→Option Value)(base:Heap)(CX:CXT)(k:Nat)(f:Addr)(fd:aj)(ps:List Str)(sp:Sp):Prop where
 len:∀vs H Q E,sp vs H Q E→vs.length=ps.length
 run:∀(A:aL) (outer:List Env) (s:af) (H:Hp) (args:Args) (us:List Value) (vs:List V) (Q:VK) (E:XK),xX k A→jJ P w K mg base A outer s H→iu s fd args (ps.zip us)→Vals vs us→sp vs H Q E→
  ck (model P w) A (.call (.ref f) args) (CR CX outer P w H s Q E) s
theorem jJ.make{P:av}{w:World}{K:ag}{mg:Str→Option Value}{base:Heap}{A:aL}{outer:List Env}{s:af}{H:Hp}(e:jJ P w K mg base A outer s H)(C:Addr)(us:List Value)(kw:List (Str×Value)):
  jJ P w K mg base (A.under (.builtin "type.__call__" ⟨.ref C::us,kw⟩)) outer s H:=⟨by first|exact e.frames|(simpa [i9,Code.envs,j0,pushEnvs]using e.frames),e.mod,e.bs,e.bsz,e.funs,e.frf,e.hok,e.bare⟩
section
variable {X:Cx} {pins:List (Addr×Obj)} {σ:St} {H:Hp} {s s':af}
theorem Inv.env0(I:Inv X pins σ H s):jJ X.prog X.w X.K X.mg X.base X.A X.stack s H:=
 ⟨I.ok.frames,I.ok.mod,I.bs,bo I.ok.bsz I.sz,I.stack,I.stkFree,I.hok,I.bare⟩
theorem Inv.after{Q:VK}{u:Value}(I:Inv X pins σ H s)(h:CE X.stack X.prog X.w H s Q u s'):EP X pins σ Q u s':=by
 obtain⟨v,H',os,bare,un,hok,r,q⟩:=h;obtain⟨hh,g,d,t,os'⟩:=s';obtain rfl:os'=s.os:=os;exact⟨v,H',I.call (h':=hh) (g':=g) (d':=d) (t':=t) (ch:=[]) un hok bare (fun b z=>absurd z (by simp)),r,q⟩
end
def xer(sp:Sp)(dvs:List V)(E:XK)(t:TA):TE:=fun σ H Q=>t σ H fun vs H1=>sp (vs++dvs) H1 Q E
def zm(C:Addr)(m:Str)(sp:Sp)(dvs:List V)(E:XK)(ta:TE)(t:TA):TE:=fun σ H Q=>ta σ H fun x H1=>∃a dx fs,x= .ref a∧H1 a=some (.ins C dx fs)∧fs.lookup m=none∧
 t σ H1 fun vs H2=>sp (x::(vs++dvs)) H2 Q E
def xqP(C:Addr)(sp:Sp)(dvs:List V)(E:XK)(t:TA):TE:=fun σ H Q=>t σ H fun vs H1=>∀x dx,H1 x=none→H1 dx=none→dx≠x→
 sp (.ref x::(vs++dvs)) (upd (upd H1 dx (.own x)) x (.ins C dx [])) (fun v H2=>v= .non∧Q (.ref x) H2) E
def Binds(K:ag)(fd:aj)(ps:List Str)(ds:List Value):Prop:=
 ∀(s:af) (us:List Value),K.In s.heap→(us++ds).length=ps.length→iu s fd ⟨us,[]⟩ (ps.zip (us++ds))
theorem Binds.all{K:ag}{fd:aj}{ps:List Str}(h:∀us:List Value,us.length=ps.length→dk fd ⟨us,[]⟩=pure (ps.zip us)):Binds K fd ps []:=fun s us _ hl=>by
 rw[bZ]at hl⊢;exact .of_eq (h us hl)
def Passes(CX:CXT)(X:Cx)(E:XK):Prop:=∀(pins:List (Addr×Obj)) (σ:St) (H:Hp) (s:af) (e:Value) (s':af),Inv X pins σ H s→CX X.stack H s E e s'→X.xe e s'
section
variable {X:Cx} {CX:CXT} {k:Nat} {f C:Addr} {fd:aj} {ps:List Str} {sp:Sp} {dvs:List V} {ds:List Value} {E:XK} {x m:Str} {p pos apos:Pos} {e o:Expr} {es:List Expr} {ta:TE} {t:TA}
theorem xfz{pins:List (Addr×Obj)}{σ:St}{H:Hp}{s:af}{Q:VK}{us:List Value}{vs:List V}(F:xE X.prog X.w X.K X.mg X.base CX k f fd ps sp)(hr:xX k X.A)(hb:Binds X.K fd ps ds)(hd:Vals dvs ds)(hx:Passes CX X E)
  (I:Inv X pins σ H s) (r:Vals vs us) (h:sp (vs++dvs) H Q E):wpAny (model X.prog X.w) X.A (call (.ref f) us) (EP X pins σ Q) X.xe s:=by
 have r2:Vals (vs++dvs) (us++ds):=r.append hd;have hl:(us++ds).length=ps.length:=by rw[←r2.length];exact F.len _ _ _ _ h
 refine cw (cm (F.run X.A X.stack s H ⟨us,[]⟩ (us++ds) (vs++dvs) Q E hr I.env0 (hb s us I.kIn hl) r2 h) fun r s' hq=>?_);cases r with
 |error e=>exact hx pins σ H s e s' I hq
 |ok fl=>
  cases fl with
  |ret u=>exact I.after hq
  |next=>exact aS hq
  |brk=>exact aS hq
  |cont=>exact aS hq
theorem xB(F:xE X.prog X.w X.K X.mg X.base CX k f fd ps sp)(hr:xX k X.A)(hg:Gl X x)(hm:X.mg x=some (.ref f))(hk:bY X.K (.ref f)=true)(hb:Binds X.K fd ps ds)(hd:Vals dvs ds)(hx:Passes CX X E)
  (ha:PA X (e::es) t) (hdb:(x==("__debug__":Str))=false:=by decide) (he:aE (e::es) X.env=(false,eval e X.env)::aE es X.env:=by rfl) (hpl:(bG pos (aE es X.env)).any (·.1)=false:=by rfl):
  PE X (.Call (.Name x p) (e::es) [] pos) (xer sp dvs E t):=by
 intro pins s σ H Q I h;refine bK (zH I hg hm ?_ hdb);refine dY (h₀:=X.base) I.ok.mod.kin hk (thn (ha pos pins s σ H _ I h) fun us s1 ⟨vs,H1,I1,r,q⟩=>⟨I1.kIn,?_⟩) he hpl;exact xfz F hr hb hd hx I1 r q
theorem xT{pl:Sem Bool}(he:PE X o ta)(c:Cls X.K C)(hm:Meth X.K C m f)(F:xE X.prog X.w X.K X.mg X.base CX k f fd ps sp)(hr:xX k X.A)(hb:Binds X.K fd ps ds)(hd:Vals dvs ds)(hx:Passes CX X E)(ha:PA X (e::es) t)
  (hst:aE (e::es) X.env=(false,eval e X.env)::aE es X.env:=by rfl) (hpl:(bG pos (aE es X.env)).any (·.1)=false:=by rfl)
  (ht:eval (.Call (.Attribute o m apos) (e::es) [] pos) X.env=(do
   let ov ←eval o X.env
   gF apos.atName
   let(f,first) ←eW [ov] (fz ov m pl)
   fk pos f first (bG pos (aE (e::es) X.env)) (gL pos (fg [] X.env))):=by rfl):
  PE X (.Call (.Attribute o m apos) (e::es) [] pos) (zm C m sp dvs E ta t):=by
 intro pins s σ H Q I h;refine eB (pl:=pl) (thn (he pins s σ H _ I h) fun u s1 ⟨x,H1,I1,rx,a,dx,fs,ex,ea,l,q⟩=>?_) ht;subst ex;obtain rfl:u=aB a:=rx;refine xaL I1 ea c hm l ?_;refine dY (first:=[.ref a]) (h₀:=X.base) I.ok.mod.kin hm.kp (thn (ha pos pins s1 σ H1 _ I1 q) fun us s2 ⟨vs,H2,I2,r,q2⟩=>⟨I2.kIn,?_⟩) hst hpl;exact xfz (us:=.ref a::us) (vs:=.ref a::vs) F hr hb hd hx I2 (.cons rfl r) q2
theorem xU{pl:Sem Bool}(he:PE X o ta)(c:Cls X.K C)(hm:Meth X.K C m f)(F:xE X.prog X.w X.K X.mg X.base CX k f fd ps sp)(hr:xX k X.A)(hb:Binds X.K fd ps ds)(hd:Vals dvs ds)(hx:Passes CX X E)
  (ht:eval (.Call (.Attribute o m apos) [] [] pos) X.env=(do
   let ov ←eval o X.env
   gF apos.atName
   let(f,first) ←eW [ov] (fz ov m pl)
   fk pos f first (bG pos (aE [] X.env)) (gL pos (fg [] X.env))):=by rfl):
  PE X (.Call (.Attribute o m apos) [] [] pos) (zm C m sp dvs E ta vU):=by
 intro pins s σ H Q I h;refine eB (pl:=pl) (thn (he pins s σ H _ I h) fun u s1 ⟨x,H1,I1,rx,a,dx,fs,ex,ea,l,q⟩=>?_) ht;subst ex;obtain rfl:u=aB a:=rx;refine xaL I1 ea c hm l ?_;exact W.callWith_K0 (first:=[.ref a]) I1.kIn hm.kp (xfz (us:=[.ref a]) (vs:=[.ref a]) F hr hb hd hx I1 (.cons rfl .nil) q)
structure Mk(K:ag)(C f:Addr):Prop where
 makes:W.makesIn K C=true
 init:aK K (.ref C) "__init__"=some (some (.ref f))
 fn:W.isFn K (.ref f)=true
 kp:bY K (.ref C)=true
theorem xng{pins:List (Addr×Obj)}{σ:St}{H:Hp}{s:af}{Q:VK}{us:List Value}{vs:List V}(M:Mk X.K C f)(F:xE X.prog X.w X.K X.mg X.base CX k f fd ps sp)(hr:xX (k+1) X.A)(hb:Binds X.K fd ps ds)(hd:Vals dvs ds)
  (hx:Passes CX X E) (I:Inv X pins σ H s) (r:Vals vs us)
  (h:∀x dx,H x=none→H dx=none→dx≠x→sp (.ref x::(vs++dvs)) (upd (upd H dx (.own x)) x (.ins C dx [])) (fun v H2=>v= .non∧Q (.ref x) H2) E):
  wpAny (model X.prog X.w) X.A (call (.ref C) us) (EP X pins σ Q) X.xe s:=by
 have hq:=h (s.heap.objs.size+1) s.heap.objs.size (I.hok.fresh (cP _)) (I.hok.fresh (ar _)) (aH (gK _));have I2:=Inv.made (C:=C) I;have r2:Vals (V.ref (s.heap.objs.size+1)::(vs++dvs)) (aB (s.heap.objs.size+1)::(us++ds)):=.cons rfl (r.append hd);have hl:(aB (s.heap.objs.size+1)::us++ds).length=ps.length:=by
  have e:=r2.length;rw[F.len _ _ _ _ hq]at e;exact e.symm
 refine cw (xiw (f:=f) I.kIn M.makes M.init (beq_iff_eq.mp M.fn) (cm (F.run _ X.stack _ _ ⟨aB (s.heap.objs.size+1)::us,[]⟩ (aB (s.heap.objs.size+1)::(us++ds)) _ _ E (hr.make C us [])
  (I2.env0.make C us []) (hb _ (aB (s.heap.objs.size+1)::us) I2.kIn hl) r2 hq) fun r s' hq'=>?_))
 cases r with
 |error e=>exact hx pins σ _ _ e s' I2 hq'
 |ok fl=>
  cases fl with
  |ret u=>
   obtain⟨v,H',I3,rv,ev,q3⟩:=I2.after hq';subst ev;exact⟨rv,⟨V.ref (s.heap.objs.size+1),H',I3,rfl,q3⟩⟩
  |next=>exact aS hq'
  |brk=>exact aS hq'
  |cont=>exact aS hq'
theorem xaT(M:Mk X.K C f)(F:xE X.prog X.w X.K X.mg X.base CX k f fd ps sp)(hr:xX (k+1) X.A)(hg:Gl X x)(hm:X.mg x=some (.ref C))(hb:Binds X.K fd ps ds)(hd:Vals dvs ds)(hx:Passes CX X E)
  (ha:PA X (e::es) t) (hdb:(x==("__debug__":Str))=false:=by decide) (he:aE (e::es) X.env=(false,eval e X.env)::aE es X.env:=by rfl) (hpl:(bG pos (aE es X.env)).any (·.1)=false:=by rfl):
  PE X (.Call (.Name x p) (e::es) [] pos) (xqP C sp dvs E t):=by
 intro pins s σ H Q I h;refine bK (zH I hg hm ?_ hdb);refine dY (h₀:=X.base) I.ok.mod.kin M.kp (thn (ha pos pins s σ H _ I h) fun us s1 ⟨vs,H1,I1,r,q⟩=>⟨I1.kIn,?_⟩) he hpl;exact xng M F hr hb hd hx I1 r q
end
section
variable {X:Cx} {CX:CXT} {k:Nat} {f C:Addr} {fd:aj} {ps ks:List Str} {sp:Sp} {E:XK} {x m:Str} {p pos apos kpos:Pos} {e o:Expr} {es:List Expr} {kws:List Keyword} {te ta:TE} {t tk:TA} {nm:Option Str}
variable {g:List Value→List Value→List Value} {gV:List V→List V→List V}
end
structure xv(N P:List Str)(sc:Scope):Prop where
 kind:sc.kind= .function
 co:sc.isCoroutine=false
 gen:sc.isGenerator=false
 nd:N.Nodup
 pre:N.take P.length=P
 par:∀x∈P,sc.names.lookup x=some .local∨sc.names.lookup x=some .cell
 nofree:∀y∈sc.names,y.2≠.free
theorem xhr{kindOf:Str→Option cK}{x:Str}:∀{binds:List (Str×Value)} {m:Str→Option Value},(∀v,(x,v)∉binds)→bindL kindOf binds m x=m x
 |[],_,_=>rfl
 |(n,v)::r,m,h=>by
  unfold bindL;rw[xhr fun w hw=>h w (aQ _ hw)]
  split
  ·have:x≠n:=by rintro rfl;exact h v a9
   simp[this]
  ·rfl
theorem xhs{kindOf:Str→Option cK}{x:Str}:∀{binds:List (Str×Value)} {m:Str→Option Value},(∀v,(x,v)∉binds)→bindC kindOf binds m x=m x
 |[],_,_=>rfl
 |(n,v)::r,m,h=>by
  unfold bindC;rw[xhs fun w hw=>h w (aQ _ hw)]
  split
  ·rfl
  ·have:x≠n:=by rintro rfl;exact h v a9
   simp[this]
theorem xht{kindOf:Str→Option cK}{x:Str}{v:Value}:∀{P:List Str} {vs:List Value} {i:Nat} {m:Str→Option Value},P.Nodup→P[i]? =some x→vs[i]? =some v→kindOf x=some .local→
  bindL kindOf (P.zip vs) m x=some v
 |[],_,_,_,_,h,_,_=>by simp at h
 |_::_,[],_,_,_,_,h,_=>by simp at h
 |p::P,w::vs,0,m,nd,h1,h2,hk=>by
  simp at h1 h2;subst h1;subst h2;show bindL kindOf ((p,w)::P.zip vs) m p=_;unfold bindL;rw[xhr fun v hv=>(bh.mp nd).1 (cU hv).1,if_pos hk];simp
 |p::P,w::vs,i+1,m,nd,h1,h2,hk=>by
  show bindL kindOf ((p,w)::P.zip vs) m x=_;unfold bindL;exact xht (i:=i) (bh.mp nd).2 (by simpa using h1) (by simpa using h2) hk
theorem xhu{kindOf:Str→Option cK}{x:Str}{v:Value}:∀{P:List Str} {vs:List Value} {i:Nat} {m:Str→Option Value},P.Nodup→P[i]? =some x→vs[i]? =some v→kindOf x≠some .local→
  bindC kindOf (P.zip vs) m x=some v
 |[],_,_,_,_,h,_,_=>by simp at h
 |_::_,[],_,_,_,_,h,_=>by simp at h
 |p::P,w::vs,0,m,nd,h1,h2,hk=>by
  simp at h1 h2;subst h1;subst h2;show bindC kindOf ((p,w)::P.zip vs) m p=_;unfold bindC;rw[xhs fun v hv=>(bh.mp nd).1 (cU hv).1,if_neg hk];simp
 |p::P,w::vs,i+1,m,nd,h1,h2,hk=>by
  show bindC kindOf ((p,w)::P.zip vs) m x=_;unfold bindC;exact xhu (i:=i) (bh.mp nd).2 (by simpa using h1) (by simpa using h2) hk
def start(N:List Str)(vs:List V):St:=vs.map some++aD (N.length - vs.length) none
def vV(CX:CXT)(P:av)(w:World)(K:ag)(mg:Str→Option Value)(base:Heap)(N:List Str)(qual:Str)(scope:Scope)(f:Addr)(cd:Value)(A:aL)(outer:List Env)(s:af)(H:Hp)(E:XK):Cx where
 prog:=P
 w:=w
 K:=K
 mg:=mg
 base:=base
 A:=A.deeper (dH qual scope s.heap.objs.size f cd)
 N:=N
 s₀:=s
 H₀:=H
 env:=dH qual scope s.heap.objs.size f cd
 outer:=outer
 stack:=dH qual scope s.heap.objs.size f cd::outer
 ex:=[]
 calm:=true
 cp:=fun _=>true
 fn:=fun _=>true
 pn:=[]
 xe:=fun e s'=>wpAny (model P w) (A.deeper (dH qual scope s.heap.objs.size f cd)) (leaving (dH qual scope s.heap.objs.size f cd) e) (fun _ s''=>CX outer H s E e s'') (fun e' s''=>CX outer H s E e' s'') s'
theorem xix{sc:Scope}{n:Nat}{x:Str}(h:sc.names.lookup x=some .cell):∃c,(gi n sc.names []).lookup x=some c:=by
 have q:=d8 sc.names n [] (.inl h);exact eO.mp q
theorem xbE{CX:CXT}{P:av}{w:World}{K:ag}{mg:Str→Option Value}{base:Heap}{N ps:List Str}{qual:Str}{scope:Scope}{f:Addr}{cd:Value}{A:aL}{outer:List Env}{s s1:af}{H:Hp}{E:XK}{us:List Value}{vs:List V}
  (S:xv N ps scope) (hd:A.handled=none) (e0:jJ P w K mg base A outer s H) (hl:vs.length=ps.length) (r:Vals vs us)
  (x:InCallC s s.heap.objs.size (bindL (dH qual scope s.heap.objs.size f cd).kindOf (ps.zip us) fun _=>none) (gi (s.heap.objs.size+1) scope.names []) (bindC (dH qual scope s.heap.objs.size f cd).kindOf (ps.zip us) fun _=>none) s1):
  Inv (vV CX P w K mg base N qual scope f cd A outer s H E) [] (start N vs) H s1:=by
 have hpl:ps.length≤N.length:=by have:=congrArg fX S.pre;rw[bC]at this;lia
 obtain⟨h1,tk,rfl,hk⟩:=x.done;have noA:∀b:Addr,b∉(vV CX P w K mg base N qual scope f cd A outer s H E).ex:=fun b z=>absurd (show b∈([]:List Addr)from z) (by simp);refine⟨⟨e0.mod,S.kind,rfl,rfl,ar _,fun y z c h1 h2=>?_,fun y hy=>?_,fun y c _ h=>?_,fun _=>hd,iF e0.frames,.inr ⟨rfl,rfl⟩,fun b z=>absurd z (noA b),e0.bs,e0.bsz,fun b _ _=>noA b,fun b z=>absurd z (noA b),e0.funs,e0.frf,fun y c _ h=>dW (x.above y c (PySem.mem_of_lookup h)),fun b hb=>e0.hok.fresh hb⟩,
  rfl,e0.bare,Un.kept hk,⟨_,x.toInCall.ns,fun i y v h1 h2 h3=>?_⟩,fun y c h=>⟨_,x.cell y c h⟩,e0.hok.fresh (ar _),fun y c h=>.inl ?_,fun p hp=>absurd (show p∈([]:List (Addr×Obj))from hp) (by simp),e0.hok.kept hk,?_⟩
 ·exact name_of_addr x.apart (PySem.mem_of_lookup h1) (PySem.mem_of_lookup h2)
 ·have hy:scope.names.lookup y=some .cell∨scope.names.lookup y=some .free:=hy;rcases hy with hy|hy
  ·exact xix hy
  ·exact absurd rfl (S.nofree _ (PySem.mem_of_lookup hy))
 ·exact dW (x.above y c (PySem.mem_of_lookup h))
 ·have hi:i<vs.length:=by
   unfold start at h2
   by_cases hi:i<vs.length
   ·exact hi
   ·rw[bw (by simpa using hi)]at h2;rw[hX]at h2
    split at h2<;> cases h2
  have ha:vs[i]? =some v:=by
   unfold start at h2;rw[bg (by simpa using hi),aA]at h2;cases e:vs[i]? with
   |none=>rw[e]at h2;cases h2
   |some a=>rw[e]at h2;cases h2;rfl
  obtain⟨u,hu,rv⟩:=r.get ha;have hp:ps[i]? =some y:=by
   rw[←S.pre,dm (by lia)];exact h1
  have ndP:ps.Nodup:=by rw[←S.pre];exact S.nd.sublist (List.take_sublist _ _)
  refine⟨u,rv,?_⟩;rcases S.par y (aU hp)with k|k
  ·exact .inl ⟨k,xht ndP hp hu k⟩
  ·obtain⟨c,e⟩:=xix (n:=s.heap.objs.size+1) k;refine .inr ⟨.inl k,c,e,?_⟩;have q:=x.cell y c e;rw[xhu ndP hp hu (by show scope.names.lookup y≠_;rw[k];decide)]at q;exact q
 ·exact e0.hok.fresh (dW (x.above y c (PySem.mem_of_lookup h)))
 ·unfold start;show _=N.length;rw[aW,ai,bq];lia
theorem xin{CX:CXT}{P:av}{w:World}{K:ag}{mg:Str→Option Value}{base:Heap}{k:Nat}{f:Addr}{name qual:Str}{params:cq}{body:List Stmt}{scope:Scope}{dV kV doc pm cdv ct oc:Value}{an od:Option Addr}
  {osl:Array (Option Value)} {N ps:List Str} {sp:Sp} (lk:K.lookup f=some ⟨oc,od,.func (bO name qual params body scope dV kV doc pm an cdv ct),osl⟩) (hcd:cx K cdv qual=true) (S:xv N ps scope)
  (len:∀vs H Q E,sp vs H Q E→vs.length=ps.length)
  (hbody:∀(A:aL) (outer:List Env) (s:af) (H:Hp) (vs:List V) (Q:VK) (E:XK),xX k (A.deeper (dH qual scope s.heap.objs.size f cdv))→sp vs H Q E→
   ∃t,PSs (vV CX P w K mg base N qual scope f cdv A outer s H E) body t∧t {nx:=fun _ H'=>Q .non H',rt:=Q} (start N vs) H):
  xE P w K mg base CX (k+1) f (bO name qual params body scope dV kV doc pm an cdv ct) ps sp:=by
 refine⟨len,fun A outer s H args us vs Q E hr e0 hb r hsp=>?_⟩;have hl:=len _ _ _ _ hsp;have KX:K.In s.heap:=e0.mod.kin.keeps fun b o e=>(e0.bs b o e).1;have lim:s.heap.NoLimit:=e0.mod.nolimit.keeps fun b o e=>(e0.bs b o e).1;have hkind:∀y∈ps.zip us,scope.names.lookup y.1=some .local∨(scope.names.lookup y.1=some .cell∧((gi (s.heap.objs.size+1) scope.names []).lookup y.1).isSome=true):=fun⟨n,v⟩ hy=>by
  rcases S.par n (cU hy).1 with q|q
  ·exact .inl q
  ·exact .inr ⟨q,d8 _ _ _ (.inl q)⟩
 refine cV hr.depth (KX _ _ lk) rfl S.co S.gen rfl (gM KX hcd) (hb _ _ _ _ ?_);refine cX S.kind hkind fun env he s1 x=>?_;subst he;refine⟨lim.keeps x.toInCall.keep,gN ?_⟩;obtain⟨t,ht,hq⟩:=hbody A outer s H vs Q E (hr.deeper _) hsp;have I:Inv (vV CX P w K mg base N qual scope f cdv A outer s H E) [] (start N vs) H s1:=xbE S hr.hd e0 hl r x;refine aT (ht [] s1 (start N vs) H _ I hq) (fun fl s' hs=>?_) fun e s' hs=>hs;have fin:∀{σ':St} {H':Hp} {v:V} {u:Value},Inv (vV CX P w K mg base N qual scope f cdv A outer s H E) [] σ' H' s'→RelV v u→Q v H'→CE outer P w H s Q u s':=
  fun{σ' H' v u} J rv q=>⟨v,H',J.os,J.bare,J.base,J.hok,rv,q⟩
 cases fl with
 |ret u=>
  obtain⟨v,σ',H',J,rv,q⟩:=hs;exact fin J rv q
 |next=>
  obtain⟨σ',H',J,q⟩:=hs;exact fin (v:=V.non) (u:=bj) J rfl q
 |brk=>
  obtain⟨_,_,_,q⟩:=hs;exact aS q
 |cont=>
  obtain⟨_,_,_,q⟩:=hs;exact aS q
end L2
namespace L2
open PySem PySem.Spec PyProof.Rows
section
variable {X:Cx} {x:Str} {p pos:Pos} {e:Expr} {es:List Expr} {t:TA} {id T:String} {r:List V→Hp→VK→Prop}
def tCB(r:List V→Hp→VK→Prop)(t:TA):TE:=fun σ H Q=>t σ H fun vs H1=>r vs H1 Q
theorem xI(hc:yD X (.builtin id) r)(hg:Gl X x)(hm:X.mg x=none)(hv:bt x=some (.builtin id))(ha:PA X (e::es) t)(hn:x≠"__name__":=by decide)(hdb:(x==("__debug__":Str))=false:=by decide)
  (he:aE (e::es) X.env=(false,eval e X.env)::aE es X.env:=by rfl) (hpl:(bG pos (aE es X.env)).any (·.1)=false:=by rfl):PE X (.Call (.Name x p) (e::es) [] pos) (tCB r t):=by
 intro pins s σ H Q I h;refine bK (uS I hg hm hv ?_ hn hdb);exact PyProof.Rows.callWith_builtin1 (thn (ha pos pins s σ H _ I h) fun us s1 ⟨vs,H1,I1,r1,q1⟩=>hc pins s1 σ H1 vs us Q I1 r1 q1) he hpl
theorem yd(hc:yD X (.type T) r)(hg:Gl X x)(hm:X.mg x=none)(hv:bt x=some (.type T))(ha:PA X (e::es) t)(hn:x≠"__name__":=by decide)(hdb:(x==("__debug__":Str))=false:=by decide)
  (he:aE (e::es) X.env=(false,eval e X.env)::aE es X.env:=by rfl) (hpl:(bG pos (aE es X.env)).any (·.1)=false:=by rfl):PE X (.Call (.Name x p) (e::es) [] pos) (tCB r t):=by
 intro pins s σ H Q I h;refine bK (uS I hg hm hv ?_ hn hdb);exact bE (thn (ha pos pins s σ H _ I h) fun us s1 ⟨vs,H1,I1,r1,q1⟩=>hc pins s1 σ H1 vs us Q I1 r1 q1) he hpl
end
end L2
namespace HT
open PySem PyProof.Rows
section
open PySem.SeqAt
open PySem.AutoSeq1 (wpAny_loadPart')
open PySem.MeetsSeq PySem.MeetsSeq2 PySem.MeetsSeq3
end
section
variable {prog:av} {w:World} {A:aL} {E:Value→af→Prop} {s:af}
def sIx(n d:Nat):Option Int→Nat
 |none=>d
 |some v=>if v<0 then(v+(n:Int)).toNat else min v.toNat n
theorem xiy(n d:Nat):sIx n d none=d:=rfl
theorem xp0(n d:Nat)(hd:d≤n)(o:Option Int):sIx n d o≤n:=by
 cases o with
 |none=>exact hd
 |some v=>
  show(if v<0 then(v+(n:Int)).toNat else min v.toNat n)≤n
  by_cases hv:v<0
  ·rw[if_pos hv];lia
  ·rw[if_neg hv];exact Nat.min_le_right _ _
theorem xkj(v:Int)(n d:Nat):(if v<0 then max (v+(n:Int)) 0 else min v (n:Int))=((sIx n d (some v):Nat):Int):=by
 show(if v<0 then max (v+(n:Int)) 0 else min v (n:Int))=(((if v<0 then(v+(n:Int)).toNat else min v.toNat n):Nat):Int)
 by_cases hv:v<0
 ·simp only[if_pos hv];lia
 ·simp only[if_neg hv];lia
theorem xk4(lo hi:Option Int)(n:Nat):eC lo hi 1 (n:Int)=(((sIx n 0 lo:Nat):Int),((sIx n n hi:Nat):Int)):=by
 have h1:¬((1:Int)<0):=by lia
 unfold eC;simp only[h1,if_false];refine Prod.ext ?_ ?_
 ·cases lo with
  |none=>rfl
  |some v=>exact xkj v n 0
 ·cases hi with
  |none=>rfl
  |some v=>exact xkj v n n
theorem xk5(i j:Nat):c9 (i:Int) (j:Int) 1=j - i:=by
 unfold c9;have h1:(1:Int) > 0:=by lia
 simp only[h1,if_true,Int.ediv_one]
 split<;> lia
theorem xfA{v:Value}{o:Option Int}{Q:Option Int→af→Prop}(p:gO v o)(h:Q o s):wpAny (model prog w) A (Builtin.Slice.slicePartIndex v) Q E s:=by
 cases p with
 |none=>exact slicePart_none h
 |int i t=>exact slicePart_int h
theorem xe5{sl:Addr}{vl vu:Value}{lo hi:Option Int}{n:Nat}{Q:Int×Int×Nat→af→Prop}(hs:s.heap.IsSliceOf sl vl vu .none)(pl:gO vl lo)(pu:gO vu hi)
  (h:Q (((sIx n 0 lo:Nat):Int),1,sIx n n hi - sIx n 0 lo) s):wpAny (model prog w) A (gr (.ref sl) (pure (n:Int))) Q E s:=by
 obtain⟨os,hos,hcs,hds⟩:=id hs;unfold gr Builtin.Slice.sliceFields;refine aa (aa (bU hos hds (x:=vl) rfl (aa (bU hos hds (x:=vu) rfl (aa (bU hos hds (x:=.none) rfl (ak ?_)))))));refine aa (slicePart_none ?_);show wpAny _ _ (if ((1:Int)==0)=true then _ else _) _ _ s;rw[if_neg (by decide)];refine aa (xfA pl (aa (xfA pu (aa (ak ?_)))));show wpAny _ _ (match eC lo hi 1 (n:Int)with|(lo,hi)=>pure (lo,(1:Int),c9 lo hi 1)) _ _ s;rw[xk4 lo hi n];show wpAny _ _ (pure (((sIx n 0 lo:Nat):Int),(1:Int),c9 ((sIx n 0 lo:Nat):Int) ((sIx n n hi:Nat):Int) 1)) _ _ s;rw[xk5];exact ak h
theorem xnh(xs:Array Value)(i k:Nat):((b8 k).filterMap fun(m:Nat)=>xs[((i:Int)+(m:Int)*1).toNat]?).toArray=((xs.toList.drop i).take k).toArray:=by
 have e:(fun(m:Nat)=>xs[((i:Int)+(m:Int)*1).toNat]?)=fun m=>xs[i+m]? :=by
  funext m
  have:((i:Int)+(m:Int)*1).toNat=i+m:=by lia
  rw[this]
 rw[e];have:=pick_run xs i k;rw[List.filterMap_map]at this;have e2:((fun x=>xs[x]?)∘fun x=>i+x)=fun m=>xs[i+m]? :=rfl;rw[e2]at this;rw[this]
theorem xeE{t sl:Addr}{items:Array Value}{vl vu:Value}{lo hi:Option Int}{Q:Value→af→Prop}(ht:IsTup s.heap t items)(hs:s.heap.IsSliceOf sl vl vu .none)(pl:gO vl lo)(pu:gO vu hi)
  (hw:¬(sIx items.size 0 lo=0∧sIx items.size items.size hi=items.size))
  (h:Q (.ref s.heap.objs.size) {s with heap:=s.heap.push {cls:=.type "tuple",data:=.seq ((items.toList.drop (sIx items.size 0 lo)).take (sIx items.size items.size hi - sIx items.size 0 lo)).toArray}})
  (hsz:items.size≤aM):wpAny (model prog w) A (fT (.ref t) (.ref sl)) Q E s:=by
 have htake:sizeOk (.seq ((items.toList.drop (sIx items.size 0 lo)).take (sIx items.size items.size hi - sIx items.size 0 lo)).toArray):=by
  show((items.toList.drop (sIx items.size 0 lo)).take (sIx items.size items.size hi - sIx items.size 0 lo)).toArray.size≤aM;rw[aO,bC,dn,cG];lia
 have hj:sIx items.size items.size hi≤items.size:=xp0 _ _ (ar _) hi;obtain⟨os,hos,hcs,hds⟩:=id hs;have hTs:s.TypeIs (.ref sl) "slice":=⟨os,hos,hcs⟩;unfold fT
 try with_reducible refine br ?_
 first|refine aa (ak ?_)|skip
 refine aa (wpAny_sequenceKey ht.typeIs (by decide) ?_);refine aa (dD (name:=aX "__getitem__") ht.typeIs dC
  (fm dC ht.typeIs entry_tuple_getitem ?_ (args_tuple_getitem _ _)))
 show wpAny _ _ (Builtin.Tuple.tupleItemsOf (.ref t) >>= _) _ _ s;refine aa (tupleItemsOf_ ht ?_);refine aa (wpAny_typeOf hTs ?_);rw[if_pos (by decide)];refine aa (xe5 hs pl pu ?_);have hno:¬((((sIx items.size 0 lo:Nat):Int)==0&&(1:Int)==1&&(sIx items.size items.size hi - sIx items.size 0 lo)==items.size)=true):=by
  intro q;rw[bR,bR]at q;have q1:((sIx items.size 0 lo:Nat):Int)=0:=eq_of_beq q.1.1;have q2:sIx items.size items.size hi - sIx items.size 0 lo=items.size:=eq_of_beq q.2;exact hw ⟨by lia,by lia⟩
 show wpAny _ _ (if (((sIx items.size 0 lo:Nat):Int)==0&&(1:Int)==1&&(sIx items.size items.size hi - sIx items.size 0 lo)==items.size)=true then _ else _) _ _ s;rw[if_neg hno,xnh]
 first
  |exact aa (m:=dq _) (bX (ak ⟨_,rfl,ak h⟩) htake)
  |exact aa (m:=dq _) (bX (aa (ak (ak ⟨_,rfl,ak h⟩))) htake)
  |exact aa (aa (m:=dq _) (bX (ak (ak ⟨_,rfl,ak h⟩)) htake))
  |exact aa (aa (m:=dq _) (bX (ak ⟨_,rfl,ak h⟩) htake))
end
end HT
namespace L2
open PySem PySem.Spec PyProof.Rows
abbrev TO:=St→Hp→(Option Int→Hp→Prop)→Prop
def PO(X:Cx)(e:Option Expr)(t:TO):Prop:=
 ∀(pins:List (Addr×Obj)) (s:af) (σ:St) (H:Hp) (Q:Option Int→Hp→Prop),Inv X pins σ H s→t σ H Q→
  wpAny (model X.prog X.w) X.A (evalPart e X.env) (fun u s'=>∃o H',Inv X pins σ H' s'∧gO u o∧Q o H') X.xe s
def xoF:TO:=fun _ H Q=>Q none H
def xqQ(t:TE):TO:=fun σ H Q=>t σ H fun x H1=>∃i,x= .int i∧Q (some i) H1
theorem intsAre_of{ns:List Int}:∀{us:List Value},Vals (ns.map V.int) us→iw us ns:=by
 induction ns with
 |nil=>intro us r;rw[gP]at r;cases r;exact .nil
 |cons n ns ih=>
  intro us r;rw[bp]at r;cases r with
  |cons r1 r2=>
   obtain⟨t,e⟩:=r1;subst e;exact .cons n t (ih r2)
section
variable {X:Cx} {e:Expr} {te:TE} {lo hi:Option Expr} {tl th:TO} {pos p2:Pos}
theorem xaU:PO X none xoF:=by
 intro pins s σ H Q I h;rw[evalPart_none];exact ak ⟨none,H,I,.none,h⟩
theorem xaV(h:PE X e te):PO X (some e) (xqQ te):=by
 intro pins s σ H Q I hw;rw[evalPart_some];refine thn (h pins s σ H _ I hw) fun u s1 ⟨x,H1,I1,r1,q1⟩=>?_;obtain⟨i,rfl,q⟩:=q1;obtain⟨t,rfl⟩:=r1;exact⟨some i,H1,I1,.int i t,q⟩
def SlR(X:Cx)(r:V→Option Int→Option Int→Hp→VK→Prop):Prop:=
 ∀(pins:List (Addr×Obj)) (s:af) (σ:St) (H:Hp) (x:V) (v vl vu:Value) (lo hi:Option Int) (sl:Addr) (Q:VK),Inv X pins σ H s→RelV x v→s.heap.IsSliceOf sl vl vu .none→gO vl lo→gO vu hi→r x lo hi H Q→
  ∃T id,iG (.type T) "__getitem__"=pure (some (.builtin id))∧s.TypeIs v T∧wpAny (model X.prog X.w) X.A (fT v (.ref sl)) (EP X pins σ Q) X.xe s
def tSl(r:V→Option Int→Option Int→Hp→VK→Prop)(te:TE)(tl th:TO):TE:=fun σ H Q=>te σ H fun x H1=>tl σ H1 fun l H2=>th σ H2 fun u H3=>r x l u H3 Q
theorem jK{r:V→Option Int→Option Int→Hp→VK→Prop}(hr:SlR X r)(he:PE X e te)(hl:PO X lo tl)(hu:PO X hi th):PE X (.Subscript e (.Slice lo hi none p2) pos) (tSl r te tl th):=by
 intro pins s σ H Q I h;refine Subscript_ (thn (he pins s σ H _ I h) fun v s1 ⟨x,H1,I1,r1,q1⟩=>?_);refine wpAny_Slice (thn (hl pins s1 σ H1 _ I1 q1) fun vl s2 ⟨l,H2,I2,pl,q2⟩=>thn (hu pins s2 σ H2 _ I2 q2) fun vu s3 ⟨u,H3,I3,pu,q3⟩=>?_);rw[evalPart_none];refine ak ?_;have I4:Inv X pins σ H3 {s3 with heap:=s3.heap.push {cls:=.type "slice",data:=.fields #[vl,vu,.none]}}:=I3.kept (t':=s3.toks) fun b ob q=>ah _ q;obtain⟨T,id,hT,ht,hg⟩:=hr pins {s3 with heap:=s3.heap.push {cls:=.type "slice",data:=.fields #[vl,vu,.none]}} σ H3 x v vl vu l u s3.heap.objs.size Q I4 r1 (Heap.IsSliceOf.new ..) pl pu q3;show wpAny (model X.prog X.w) X.A (iU e (.Slice lo hi none p2) v (.ref s3.heap.objs.size)) (EP X pins σ Q) X.xe {s3 with heap:=s3.heap.push {cls:=.type "slice",data:=.fields #[vl,vu,.none]}};exact tail_any (ops:=[.ref s3.heap.objs.size,v]) ht hT hg (by with_unfolding_all rfl)
def xam(xs:List V)(lo hi:Option Int):List V:=(xs.drop (HT.sIx xs.length 0 lo)).take (HT.sIx xs.length xs.length hi - HT.sIx xs.length 0 lo)
theorem xeL(xs:List V)(lo hi:Option Int):(xam xs lo hi).length≤xs.length:=by
 unfold xam;rw[bC,dn];lia
def xrA(K:ag):V→Option Int→Option Int→Hp→VK→Prop:=fun x lo hi H Q=>∃a xs,x= .ref a∧SqT K H a xs∧
 ¬(HT.sIx xs.length 0 lo=0∧HT.sIx xs.length xs.length hi=xs.length)∧∀p,H p=none→Q (.ref p) (upd H p (.tup (xam xs lo hi)))
theorem xp1:SlR X (xrA X.K):=by
 intro pins s σ H x v vl vu lo hi sl Q I rx hs pl pu h;obtain⟨a,xs,rfl,hx,hw,q⟩:=h;cases rx;obtain⟨its,r,ht,hz⟩:=I.tuple hx;have hlen:its.toArray.size=xs.length:=by rw[aO];exact r.length.symm
 refine⟨"tuple",_,dC.lookup,ht.typeIs,?_⟩;refine HT.xeE ht hs pl pu (by rw[hlen];exact hw) ?_ (by rw[hlen];exact hz);rw[hlen];refine⟨.ref s.heap.objs.size,_,I.laid (t':=s.toks) (o:=.tup (xam xs lo hi)) (fun b ob q=>ah _ q) (ar _) ?_,rfl,q _ (I.hok.fresh (ar _))⟩;exact⟨bo (xeL xs lo hi) hz,_,(r.drop (HT.sIx xs.length 0 lo)).take (HT.sIx xs.length xs.length hi - HT.sIx xs.length 0 lo),IsTup.new _ _⟩
end
end L2
namespace L2
open PySem PySem.Spec PyProof.Rows
def ixN(n:Nat)(i:Int):Option Nat:=if 0≤i then(if i<n then some i.toNat else none)else if -(n:Int)≤i then some (i+n).toNat else none
def atI{α:Type}(xs:List α)(i:Int):Option α:=(ixN xs.length i).bind fun j=>xs[j]?
theorem xkk{n:Nat}{i:Int}{j:Nat}(h:ixN n i=some j):seqIndex? i n=some j∧j<n∧-(n:Int)≤i∧i<n:=by
 unfold ixN at h
 by_cases h0:0≤i
 ·rw[if_pos h0]at h
  by_cases h1:i<n
  ·rw[if_pos h1]at h;have e:i.toNat=j:=bc h;exact⟨by rw[seqIndex_of h0 h1,e],by lia,by lia,h1⟩
  ·rw[if_neg h1]at h;cases h
 ·rw[if_neg h0]at h
  by_cases h1: -(n:Int)≤i
  ·rw[if_pos h1]at h;have e:(i+n).toNat=j:=bc h;exact⟨by rw[seqIndex_neg (by lia) h1,e],by lia,h1,by lia⟩
  ·rw[if_neg h1]at h;cases h
theorem xkl{α:Type}{xs:List α}{i:Int}{v:α}(h:atI xs i=some v):∃j,seqIndex? i xs.length=some j∧xs[j]? =some v∧j<xs.length∧-(xs.length:Int)≤i∧i<xs.length:=by
 unfold atI at h;cases e:ixN xs.length i with
 |none=>rw[e]at h;cases h
 |some j=>
  rw[e]at h;obtain⟨h1,h2,h3,h4⟩:=xkk e;exact⟨j,h1,h,h2,h3,h4⟩
theorem xgD{α:Type}{xs:List α}{j:Nat}{v:α}(h:xs[j]? =some v):atI xs (j:Int)=some v:=by
 have hj:j<xs.length:=(ax.mp h).1;have e:ixN xs.length (j:Int)=some j:=by
  unfold ixN;rw[if_pos (by lia),if_pos (by lia)];simp
 unfold atI;rw[e];exact h
def xoG(b:Expr):Prop:=∀o i,ip b false o i=operate [o,i] (fT o i)
def IxR(X:Cx)(r:R2):Prop:=
 ∀(value slice:Expr) (pins:List (Addr×Obj)) (s:af) (σ:St) (H:Hp) (x y:V) (v u:Value) (Q:VK),Inv X pins σ H s→RelV x v→RelV y u→r x y H Q→
  ip slice false v u=operate [v,u] (fT v u)→wpAny (model X.prog X.w) X.A (iU value slice v u) (EP X pins σ Q) X.xe s
def MtR(X:Cx)(id:String)(r:V→List V→Hp→VK→Prop):Prop:=
 ∀(pins:List (Addr×Obj)) (s:af) (σ:St) (H:Hp) (x:V) (xs:List V) (v:Value) (us:List Value) (Q:VK),Inv X pins σ H s→RelV x v→Vals xs us→r x xs H Q→
  wpAny (model X.prog X.w) X.A (call (.builtin id) (v::us)) (EP X pins σ Q) X.xe s
section
variable {X:Cx} {a b:Expr} {ta tb:TE} {pos:Pos}
theorem xC{r:R2}(hr:IxR X r)(ha:PE X a ta)(hb:PE X b tb)(hs:xoG b):PE X (.Subscript a b pos) (tOp r ta tb):=by
 intro pins s σ H Q I h;exact Subscript_ (xnd ha hb I h fun v u s2 x y H2 I2 rx ry q=>hr a b pins s2 σ H2 x y v u Q I2 rx ry q (hs _ _))
def xp2(K:ag):R2:=fun x y H Q=>∃p xs i v,x= .ref p∧y= .int i∧SqL K H p xs∧atI xs i=some v∧Q v H
def xp3(K:ag):R2:=fun x y H Q=>∃p xs i v,x= .ref p∧y= .int i∧SqT K H p xs∧atI xs i=some v∧Q v H
theorem yc:IxR X (xp2 X.K):=by
 intro value slice pins s σ H x y v u Q I rx ry h hs;obtain⟨p,xs,i,z,rfl,rfl,hq,he,q⟩:=h;cases rx;obtain⟨t,rfl⟩:=ry;obtain⟨its,r,pl,hz⟩:=I.list hq;obtain⟨j,h1,h2,h3,h4,h5⟩:=xkl he;obtain⟨w,ew,rw'⟩:=r.get h2;have hl:=r.length;have hn:=xdA;have fin:EP X pins σ Q w s:=⟨z,H,I,rw',q⟩
 by_cases h0:0≤i
 ·have hj:i.toNat=j:=by
   rw[seqIndex_of h0 h5]at h1;exact bc h1
  exact item_listR pl.isList h0 (by lia) (by rw[hj];simpa using ew) fin hs
 ·have hj:(i+(its.toArray.size:Int)).toNat=j:=by
   rw[seqIndex_neg (by lia) h4]at h1;rw[aO,←hl];exact bc h1
  exact subscriptTail_builtinR (x:=w) pl.isList.typeIs slot_list_getitem.lookup
   (wpAny_getItem_list_neg (Q:=fun r s'=>r=w∧EP X pins σ Q r s') pl.isList (by lia) (by rw[aO]<;> lia) (by lia) (by rw[hj];simpa using ew) ⟨rfl,fin⟩) hs
theorem xK:IxR X (xp3 X.K):=by
 intro value slice pins s σ H x y v u Q I rx ry h hs;obtain⟨p,xs,i,z,rfl,rfl,hq,he,q⟩:=h;cases rx;obtain⟨t,rfl⟩:=ry;obtain⟨its,r,pl,hz⟩:=I.tuple hq;obtain⟨j,h1,h2,h3,h4,h5⟩:=xkl he;obtain⟨w,ew,rw'⟩:=r.get h2;have hl:=r.length;have hn:=xdA;have fin:EP X pins σ Q w s:=⟨z,H,I,rw',q⟩;exact subscriptTail_builtinR (x:=w) pl.typeIs slot_tuple_getitem.lookup
  (getItem_tuple (j:=j) (Q:=fun r s'=>r=w∧EP X pins σ Q r s') pl (by lia) (by lia) (by rw[aO,←hl];exact h1) (by simpa using ew) ⟨rfl,fin⟩) hs
theorem xk6(its:List Value)(n j:Nat)(u:Value):cQ (·.setIfInBounds j u) {cls:=.type "list",data:=.seq its.toArray n}={cls:=.type "list",data:=.seq (its.set j u).toArray n}:=by
 simp[cQ]
theorem Inv.lst{pins:List (Addr×Obj)}{σ:St}{H:Hp}{s:af}{p:Addr}{xs:List V}(I:Inv X pins σ H s)(h:H p=some (.lst xs)):
  ∃(its:List Value) (n:Nat),Vals xs its∧s.heap.get? p=some {cls:=.type "list",data:=.seq its.toArray n}∧xs.length≤aM:=by
 obtain⟨z,its,n,r,e⟩:=I.hok p _ h;exact⟨its,n,r,e,z⟩
theorem Inv.lstUpd{pins:List (Addr×Obj)}{σ:St}{H:Hp}{s:af}{p:Addr}{xs ys:List V}{its its':List Value}{n n':Nat}{f:Obj→Obj}(I:Inv X pins σ H s)(h:H p=some (.lst xs))
  (ho:s.heap.get? p=some {cls:=.type "list",data:=.seq its.toArray n}) (hf:f {cls:=.type "list",data:=.seq its.toArray n}={cls:=.type "list",data:=.seq its'.toArray n'}) (r:Vals ys its') (hz:ys.length≤aM) (t:Nat):
  Inv X pins σ (upd H p (.lst ys)) {s with heap:=s.heap.update p f,toks:=t}:=by
 have e:(s.heap.update p f).get? p=some {cls:=.type "list",data:=.seq its'.toArray n'}:=by
  rw[bu f ho (by rw[hf]<;> rfl),hf]
 refine I.write (x:=p) (e:=p) (by rw[h];trivial) (.inl rfl) (fun b u hb q=>(aZ _ _ (au hb)).trans q) ⟨_,e⟩ ?_;exact⟨hz,its',n',r,e⟩
def xok:V→V→V→Hp→(Hp→Prop)→Prop:=fun o i v H Q=>∃p xs k j,o= .ref p∧i= .int k∧H p=some (.lst xs)∧ixN xs.length k=some j∧Q (upd H p (.lst (xs.set j v)))
theorem set_list:xna X xok:=by
 intro pins s σ H o i v ov iv u Q I ro ri rv h;obtain⟨p,xs,k,j,rfl,rfl,hp,hj,q⟩:=h;cases ro;obtain⟨t,rfl⟩:=ri;obtain⟨its,n,r,ho,hz⟩:=I.lst hp;obtain⟨h1,h2,h3,h4⟩:=xkk hj;have hl:=r.length;have hn:=xdA;have I':Inv X pins σ (upd H p (.lst (xs.set j v))) {s with heap:=s.heap.update p (cQ (·.setIfInBounds j u))}:=
  I.lstUpd hp ho (xk6 its n j u) (r.set rv j) (by rw[eD];exact hz) s.toks
 by_cases h0:0≤k
 ·have hk:k.toNat=j:=by
   rw[seqIndex_of h0 h4]at h1;exact bc h1
  exact W.ki_setAt ho h0 (by lia) (by rw[aO,←hl];exact h4) (by rw[hk];exact⟨_,I',q⟩)
 ·have hk:(k+(its.toArray.size:Int)).toNat=j:=by
   rw[seqIndex_neg (by lia) h3]at h1;rw[aO,←hl];exact bc h1
  exact W.ki_setBack ho (by lia) (by rw[aO,←hl];exact h3) (by lia) (by rw[hk];exact⟨_,I',q⟩)
theorem xiz(lo hi:Option Int)(n:Nat):(eh lo hi none n).1=((HT.sIx n 0 lo:Nat):Int)∧(eh lo hi none n).2.1=((HT.sIx n n hi:Nat):Int)∧(eh lo hi none n).2.2=1:=by
 refine⟨?_,?_,rfl⟩
 ·cases lo with
  |none=>simp[eh,HT.sIx]
  |some i=>
   simp only[eh,HT.sIx,kh,show(1:Int) > 0 by decide,if_true]
   by_cases h:i<0
   ·simp only[h,if_true]<;> lia
   ·simp only[h,if_false]<;> lia
 ·cases hi with
  |none=>simp[eh,HT.sIx]
  |some i=>
   simp only[eh,HT.sIx,kh,show(1:Int) > 0 by decide,if_true]
   by_cases h:i<0
   ·simp only[h,if_true]<;> lia
   ·simp only[h,if_false]<;> lia
theorem xhX(its:List Value)(lo hi:Option Int):slicePick its.toArray lo hi none=((its.drop (HT.sIx its.length 0 lo)).take (HT.sIx its.length its.length hi - HT.sIx its.length 0 lo)).toArray:=by
 obtain⟨h1,h2,h3⟩:=xiz lo hi its.toArray.size;unfold slicePick;rw[h1,h2,h3];simp only[sliceRange_one,pick_run,aO]<;> rfl
def xp4(K:ag):V→Option Int→Option Int→Hp→VK→Prop:=fun x lo hi H Q=>∃a xs,x= .ref a∧SqL K H a xs∧∀p,H p=none→Q (.ref p) (upd H p (.lst (xam xs lo hi)))
theorem xaW:SlR X (xp4 X.K):=by
 intro pins s σ H x v vl vu lo hi sl Q I rx hs pl pu h;obtain⟨a,xs,rfl,hx,q⟩:=h;cases rx;obtain⟨its,r,ht,hz⟩:=I.list hx;have hlen:=r.length;refine⟨"list",_,slot_list_getitem.lookup,ht.isList.typeIs,?_⟩;refine wpAny_getItem_list_slice ht.isList hs pl pu .none (by simp) ?_ (by rw[aO]<;> lia);rw[xhX,←hlen];refine⟨.ref s.heap.objs.size,_,I.laid (t':=s.toks) (o:=.lst (xam xs lo hi)) (fun b ob q=>ah _ q) (ar _) ?_,rfl,q _ (I.hok.fresh (ar _))⟩;exact⟨bo (xeL xs lo hi) hz,_,0,(r.drop (HT.sIx xs.length 0 lo)).take (HT.sIx xs.length xs.length hi - HT.sIx xs.length 0 lo),aN _ rfl⟩
theorem xZ:yD X (.builtin "len") (fun xs H Q=>∃p ys,xs=[.ref p]∧(SqL X.K H p ys∨SqT X.K H p ys)∧Q (.int ys.length) H):=by
 intro pins s σ H xs us Q I r h;obtain⟨p,ys,rfl,hq,q⟩:=h;obtain⟨u,rfl,rx⟩:=vals1 r;cases rx;have hn:=xdA;rcases hq with hq|hq
 ·obtain⟨its,r',pl,hz⟩:=I.list hq;have hlen:=r'.length;exact Calls.call_len_list pl.isList (by simp only[aO]<;> lia) ⟨.int ys.length,H,I.tok _,⟨s.toks+1,by rw[aO,hlen]⟩,q⟩
 ·obtain⟨its,r',pl,hz⟩:=I.tuple hq;have hlen:=r'.length;exact len_tuple pl (by simp only[aO]<;> lia) ⟨.int ys.length,H,I.tok _,⟨s.toks+1,by rw[aO,hlen]⟩,q⟩
theorem xiA:yD X (.builtin "len") (fun xs H Q=>∃z,xs=[.str z]∧z.length≤aM∧Q (.int z.length) H):=by
 intro pins s σ H xs us Q I r h;obtain⟨z,rfl,hz,q⟩:=h;obtain⟨u,rfl,t,rfl⟩:=vals1 r;have hn:=xdA;exact len_str (by lia) ⟨.int z.length,H,I.tok _,⟨_,rfl⟩,q⟩
theorem ze:yD X (.type "list") (fun xs H Q=>∃p ys,xs=[.ref p]∧(SqL X.K H p ys∨SqT X.K H p ys)∧∀l,H l=none→Q (.ref l) (upd H l (.lst ys))):=by
 intro pins s σ H xs us Q I r h;obtain⟨p,ys,rfl,hq,q⟩:=h;obtain⟨u,rfl,rx⟩:=vals1 r;cases rx;have fin:∀(its:List Value),Vals ys its→ys.length≤aM→∀(h':Heap) (c':Nat),(∀b o',s.heap.get? b=some o'→h'.get? b=some o')→
   h'.get? s.heap.objs.size=some {cls:=.type "list",dict:=none,data:=.seq its.toArray c',slots:=#[]}→EP X pins σ Q (.ref s.heap.objs.size) {s with heap:=h'}:=fun its r' hz h' c' kp e=>
  ⟨.ref s.heap.objs.size,_,I.laid (t':=s.toks) kp (ar _) (show yh X.prog X.w _ h' _ (.lst ys)from⟨hz,its,c',r',e⟩),rfl,q _ (I.hok.fresh (ar _))⟩
 rcases hq with hq|hq
 ·obtain⟨its,r',pl,hz⟩:=I.list hq;have hlen:=r'.length;obtain⟨o,ho,hc,n,hd⟩:=pl.isList;exact call_list_seq p (.inl rfl) ho hc hd (fun h' c' kp e=>fin its r' hz h' c' kp e) (by simp only[aO]<;> lia)
 ·obtain⟨its,r',pl,hz⟩:=I.tuple hq;have hlen:=r'.length;obtain⟨o,ho,hc,n,hd⟩:=pl;exact call_list_seq p (.inr rfl) ho hc hd (fun h' c' kp e=>fin its r' hz h' c' kp e) (by simp only[aO]<;> lia)
theorem yU:yD X (.type "tuple") (fun xs H Q=>∃p ys,xs=[.ref p]∧((SqL X.K H p ys∧∀l,H l=none→Q (.ref l) (upd H l (.tup ys)))∨(SqT X.K H p ys∧Q (.ref p) H))):=by
 intro pins s σ H xs us Q I r h;obtain⟨p,ys,rfl,h⟩:=h;obtain⟨u,rfl,rx⟩:=vals1 r;cases rx;rcases h with⟨hq,q⟩|⟨hq,q⟩
 ·obtain⟨its,r',pl,hz⟩:=I.list hq;have hlen:=r'.length;refine call_tuple_list pl.isList (fun h' kp=>?_) (by simp only[aO]<;> lia);have I1:Inv X pins σ H {s with heap:=h'}:=I.kept (t':=s.toks) kp;have I2:Inv X pins σ (upd H h'.objs.size (.tup ys)) {s with heap:=h'.push {cls:=.type "tuple",data:=.seq its.toArray}}:=
   I1.laid (t':=s.toks) (fun b o e=>ah _ e) (ar _) (show yh X.prog X.w _ _ _ (.tup ys)from⟨hz,its,r',IsTup.new _ _⟩)
  exact⟨.ref h'.objs.size,_,I2,rfl,q _ (I1.hok.fresh (ar _))⟩
 ·obtain⟨its,r',pl,hz⟩:=I.tuple hq;exact call_tuple_same pl ⟨.ref p,H,I,rfl,q⟩
def tyV(K:ag)(T:String)(x:V)(H:Hp):Prop:=match x with
 | .str _=>T="str"
 | .int _=>T="int"
 | .ref p=>(T="list"∧∃xs,SqL K H p xs)∨(T="tuple"∧∃o,K.lookup p=some o∧o.cls= .type "tuple"∧o.dict=none)∨
   (T="dict"∧((∃kvs,H p=some (.dK kvs))∨∃kvs,H p=some (.dT kvs)))∨(T="set"∧∃S n,H p=some (.set S n))
 |_=>False
theorem xp5{pins:List (Addr×Obj)}{σ:St}{H:Hp}{s:af}{T:String}{x:V}{v:Value}(I:Inv X pins σ H s)(r:RelV x v)(ty:tyV X.K T x H):
  s.TypeIs v T∧∀a,v= .ref a→∃ob,s.heap.get? a=some ob∧ob.dict=none:=by
 cases x with
 |str z=>
  obtain⟨t,rfl⟩:=r;cases (show T="str" from ty);exact⟨typeIs_str s z t,fun _ e=>nomatch e⟩
 |int i=>
  obtain⟨t,rfl⟩:=r;cases (show T="int" from ty);exact⟨typeIs_int s i t,fun _ e=>nomatch e⟩
 |ref p=>
  cases r;rcases ty with⟨rfl,xs,hq⟩|⟨rfl,o,hk,hc,hd⟩|⟨rfl,hk⟩|⟨rfl,S,n,hk⟩
  ·obtain⟨its,_,pl,_⟩:=I.list hq;refine⟨pl.isList.typeIs,fun a e=>?_⟩;cases e;obtain⟨o,n,e,c,hd,_⟩:=pl;exact⟨o,e,hd⟩
  ·refine⟨⟨o,I.kIn p o hk,hc⟩,fun a e=>?_⟩;cases e;exact⟨o,I.kIn _ o hk,hd⟩
  ·have z:∃o,s.heap.get? p=some o∧o.ExactDict:=by
    rcases hk with⟨kvs,hk⟩|⟨kvs,hk⟩
    ·obtain⟨_,_,_,_,o,_,_,e,ex,_⟩:=I.hok p _ hk;exact⟨o,e,ex⟩
    ·obtain⟨_,_,_,_,o,_,_,e,ex,_⟩:=I.hok p _ hk;exact⟨o,e,ex⟩
   obtain⟨o,e,ex⟩:=z;refine⟨⟨o,e,ex.1⟩,fun a e2=>?_⟩;cases e2;exact⟨o,e,ex.2.1⟩
  ·obtain⟨o,_,_,_,e,ex,_⟩:=I.hok p _ hk;refine⟨⟨o,e,ex.1⟩,fun a e2=>?_⟩;cases e2;exact⟨o,e,ex.2.1⟩
 |_=>exact aS ty
def tBM(K:ag)(T:String)(r:V→List V→Hp→VK→Prop)(to:TE)(t:TA):TE:=fun σ H Q=>to σ H fun x H1=>tyV K T x H1∧t σ H1 fun xs H2=>r x xs H2 Q
variable {o e:Expr} {es:List Expr} {to:TE} {t:TA} {name:Str} {apos cpos:Pos} {T id:String} {r:V→List V→Hp→VK→Prop}
theorem xfB(pa:PlainAttrs T)(slot:Slot T name id)(hty:typeOf (.builtin id)=pure (.type "method_descriptor"))(hm:MtR X id r)(ho:PE X o to)(ha:PA X (e::es) t)
  (hbase:gq o name X.env (eval o X.env)=eval o X.env:=by rfl)
  (hfew:((bG cpos (aE (e::es) X.env)).all (fun x=> !x.1)&&(gL cpos (fg [] X.env)).all (fun x=>x.1.isSome)
   &&decide ((e::es).length+([]:List Keyword).length+(if ([]:List Keyword).isEmpty then 0 else 1)<30))=true:=by rfl)
  (hline:(apos.endLine==cpos.line)=true:=by rfl) (hs:aE (e::es) X.env=(false,eval e X.env)::aE es X.env:=by rfl) (hplain:(bG cpos (aE es X.env)).any (·.1)=false:=by rfl):
  PE X (.Call (.Attribute o name apos) (e::es) [] cpos) (tBM X.K T r to t):=by
 intro pins s σ H Q I h;refine wpAny_Call_method_late hbase hfew hline rfl (thn (ho pins s σ H _ I h) fun v s1 ⟨x,H1,I1,r1,ty,q1⟩=>?_);obtain⟨h1,h2⟩:=xp5 I1 r1 ty;refine⟨T,id,pa,slot,hty,h1,h2,?_⟩;have hA:=ha cpos pins s1 σ H1 _ I1 q1;rw[hs]at hA⊢;refine Calls.callWith_builtin (by show(false||(bG cpos (aE es X.env)).any (·.1))=false;rw[hplain]<;> rfl) (Calls.evalArgs_plain ?_);exact thn hA fun us s2 ⟨vs,H2,I2,r2,q2⟩=>hm pins s2 σ H2 x vs v us Q I2 r1 r2 q2
end
end L2
namespace L2
open PySem PySem.Spec PyProof.Rows
def MtM(X:Cx)(id:String)(r:V→List V→Hp→VK→Prop):Prop:=
 ∀(pins:List (Addr×Obj)) (s:af) (σ:St) (H:Hp) (x:V) (xs:List V) (v:Value) (us:List Value) (Q:VK),Inv X pins σ H s→RelV x v→Vals xs us→r x xs H Q→
  wpAny (model X.prog X.w) X.A (call (.builtin id) (v::us)) (EP X pins σ Q) X.xe s
theorem Vals.one:∀{x:V} {us:List Value},Vals [x] us→∃u,us=[u]∧RelV x u
 |_,_,.cons r .nil=>⟨_,rfl,r⟩
theorem Vals.two:∀{x y:V} {us:List Value},Vals [x,y] us→∃u v,us=[u,v]∧RelV x u∧RelV y v
 |_,_,_,.cons r (.cons q .nil)=>⟨_,_,rfl,r,q⟩
theorem Vals.rep{xs:List V}{us:List Value}(h:Vals xs us):∀k:Nat,Vals (aD k xs).flatten (aD k us).flatten
 |0=>.nil
 |k+1=>by
  rw[dB,dB,cA,cA];exact Vals.append h (Vals.rep h k)
theorem foldl_rep(its:List Value):∀(k:Nat) (acc:List Value),
  List.foldl (fun x1 x2=>x1++x2) acc.toArray (aD k its.toArray)=(acc++(aD k its).flatten).toArray
 |0,acc=>by simp
 |k+1,acc=>by
  have e:acc.toArray++its.toArray=(acc++its).toArray:=by simp
  have e2:(acc++its)++(aD k its).flatten=acc++(aD (k+1) its).flatten:=by
   rw[dB,cA,cC]
  rw[←e2,←foldl_rep its k (acc++its),←e,dB,List.foldl_cons]
section
variable {X:Cx} {pins:List (Addr×Obj)} {σ:St} {H:Hp} {s:af} {l b:Addr} {xs ys zs:List V}
theorem Inv.lset{its its':List Value}{n:Nat}{f:Array Value→Array Value}{t':Nat}(I:Inv X pins σ H s)(hH:H l=some (.lst xs))
  (e:s.heap.get? l=some {cls:=.type "list",data:=.seq its.toArray n}) (hf:f its.toArray=its'.toArray) (hv:Vals ys its') (hz:ys.length≤aM):
  Inv X pins σ (upd H l (.lst ys)) {s with heap:=s.heap.update l (cQ f),toks:=t'}:=by
 have q:=PySem.IsL.update e f;rw[hf]at q;refine I.write (x:=l) (e:=l) (by rw[hH];exact trivial) (.inl rfl) (fun b' u hb hu=>(aZ s.heap (cQ f) (au hb)).trans hu) ⟨_,q⟩ ?_;exact⟨hz,its',_,hv,q⟩
theorem Inv.lnew{its:List Value}{t':Nat}(I:Inv X pins σ H s)(hv:Vals ys its)(hz:ys.length≤aM):
  Inv X pins σ (upd H s.heap.objs.size (.lst ys)) {s with heap:=s.heap.push {cls:=.type "list",data:=.seq its.toArray},toks:=t'}:=
 I.laid (fun _ _ q=>ah _ q) (ar _) ⟨hz,its,0,hv,aN _ rfl⟩
theorem Inv.fresh(I:Inv X pins σ H s):H s.heap.objs.size=none:=I.hok.fresh (ar _)
theorem Inv.lstM(I:Inv X pins σ H s)(hH:H l=some (.lst xs)):xs.length≤aM∧∃(its:List Value) (n:Nat),Vals xs its∧xs.length=its.length∧s.heap.get? l=some {cls:=.type "list",data:=.seq its.toArray n}:=by
 obtain⟨z,its,n,r,e⟩:=I.hok l _ hH;exact⟨z,its,n,r,r.length,e⟩
theorem xiB{n:Nat}(h:n≤aM):du n=false:=by
 unfold du;exact decide_eq_false (by lia)
end
section
variable {X:Cx}
def xoH:V→List V→Hp→VK→Prop:=fun x vs H Q=>∃l xs y,x= .ref l∧vs=[y]∧H l=some (.lst xs)∧xs.length<aM∧Q .non (upd H l (.lst (xs++[y])))
theorem jY:MtM X "list.append" xoH:=by
 intro pins s σ H x vs v us Q I rx rv h;obtain⟨l,xs,y,rfl,rfl,hH,hz,q⟩:=h;cases rx;obtain⟨u,rfl,ru⟩:=rv.one;obtain⟨z,its,n,r,hl,e⟩:=I.lstM hH;refine iH F.slot_list_append ⟨_,e,rfl⟩ F.entry_list_append (F.args_list_append_2 _ _) (PySem.list_append l its.toArray n u (by rw[aO];lia)) ⟨e,?_⟩;refine⟨.non,_,I.lset (its':=its++[u]) hH e (by simp) (r.append (.cons ru .nil)) ?_,rfl,q⟩;rw[aW,ix];lia
def xoI:V→List V→Hp→VK→Prop:=fun x vs H Q=>∃l b xs zs,x= .ref l∧vs=[.ref b]∧H l=some (.lst xs)∧H b=some (.lst zs)∧xs.length+zs.length≤aM∧Q .non (upd H l (.lst (xs++zs)))
theorem xl4:MtM X "list.extend" xoI:=by
 intro pins s σ H x vs v us Q I rx rv h;obtain⟨l,b,xs,zs,rfl,rfl,hH,hB,hz,q⟩:=h;cases rx;obtain⟨u,rfl,ru⟩:=rv.one;cases ru;obtain⟨z,its,n,r,hl,e⟩:=I.lstM hH;obtain⟨z2,its2,n2,r2,hl2,e2⟩:=I.lstM hB;have hsz:its.toArray.size+its2.toArray.size≤aM:=by rw[aO,aO];lia
 have hlong:¬(!its.toArray.isEmpty&&du (its.toArray.size+its2.toArray.size))=true:=by
  rw[xiB hsz,iy];exact aI
 refine iH F.slot_list_extend ⟨_,e,rfl⟩ F.entry_list_extend (F.args_list_extend_2 _ _)
  (AutoSeq1.list_extend_list_list_0 l its.toArray n b its2.toArray n2 hlong (by rw[aO];lia) (by lia)) ⟨e,e2,?_⟩
 refine⟨.non,_,I.lset (its':=its++its2) hH e (by simp) (r.append r2) ?_,rfl,q⟩;rw[aW];lia
def xrB:R2:=fun x y H Q=>∃l b xs zs,x= .ref l∧y= .ref b∧H l=some (.lst xs)∧H b=some (.lst zs)∧xs.length+zs.length≤aM∧∀p,H p=none→Q (.ref p) (upd H p (.lst (xs++zs)))
theorem xfC:OpR X (cJ .Add) xrB:=by
 intro pins s σ H x y v u Q I rx ry h;obtain⟨l,b,xs,zs,rfl,rfl,hH,hB,hz,q⟩:=h;cases rx;cases ry;obtain⟨z,its,n,r,hl,e⟩:=I.lstM hH;obtain⟨z2,its2,n2,r2,hl2,e2⟩:=I.lstM hB;refine PySem.P.add_list e e2 ?_ (by rw[aO,aO];lia);have ea:its.toArray++its2.toArray=(its++its2).toArray:=by simp
 rw[ea];exact⟨.ref _,_,I.lnew (t':=s.toks) (r.append r2) (by rw[aW];lia),rfl,q _ I.fresh⟩
def xrC:R2:=fun x y H Q=>∃l k xs,x= .ref l∧y= .int k∧H l=some (.lst xs)∧-(2^63)≤k∧k<2^63∧xs.length*k.toNat≤aM∧
 ∀p,H p=none→Q (.ref p) (upd H p (.lst (aD k.toNat xs).flatten))
theorem len_rep{α:Type}(xs:List α)(k:Nat):(aD k xs).flatten.length=k*xs.length:=by
 induction k with
 |zero=>simp
 |succ k ih=>rw[dB,cA,aW,ih,eP,Nat.add_comm]
theorem xfD:OpR X (cJ .Mult) xrC:=by
 intro pins s σ H x y v u Q I rx ry h;obtain⟨l,k,xs,rfl,rfl,hH,h1,h2,hz,q⟩:=h;cases rx;obtain⟨t,rfl⟩:=ry;obtain⟨z,its,n,r,hl,e⟩:=I.lstM hH;have hlen:its.toArray.size*k.toNat≤aM:=by rw[aO,←hl];exact hz
 have hcap:¬its.toArray.size*k.toNat > (2^63 - 1) / 8:=by
  have:(aM:Nat)≤(2^63 - 1) / 8:=by decide
  lia
 have hfit:¬(!Builtin.List.listFitsIndex k)=true:=by
  rw[fitsIndex_both h1 h2];exact aI
 have hlong:¬du (its.toArray.size*k.toNat)=true:=by
  rw[xiB hlen];exact aI
 have hnew:List.foldl (fun x1 x2=>x1++x2) #[] (aD (if its.toArray.isEmpty=true then 0 else k.toNat) its.toArray)=(aD k.toNat its).flatten.toArray:=by
  have f0:∀m:Nat,List.foldl (fun x1 x2=>x1++x2) #[] (aD m its.toArray)=(aD m its).flatten.toArray:=fun m=>by
   have:=foldl_rep its m [];rw[eE]at this;exact this
  rw[f0];cases its with
  |nil=>simp
  |cons a r'=>rw[if_neg (by simp)]
 refine wpAny_binaryOp_repeat_ref (T:="list") (U:="int") (by decide) ⟨_,e,rfl⟩ (fun s'=>typeIs_int s' k t) noFill_list_mul F.fills_int_mul F.slot_int_rmul repeat_list F.slot_int_index.lookup
  (iH F.slot_int_rmul (typeIs_int s k t) F.entry_int_rmul (F.args_int_rmul_2 _ _) (int___rmul___int_list k t l its.toArray n)
   ⟨e,rfl,⟨_,e,rfl⟩,iH F.slot_list_mul ⟨_,e,rfl⟩ F.entry_list_mul (F.args_list_mul_2 _ _) (AutoListH.list___mul___list_int_3 l its.toArray n k t hfit hcap hlong) ⟨e,?_⟩⟩)
 rw[hnew];exact⟨.ref _,_,I.lnew (t':=s.toks) (r.rep k.toNat) (by rw[len_rep,gQ];exact hz),rfl,q _ I.fresh⟩
end
section
variable {prog:av} {w:World} {A:aL} {E:Value→af→Prop} {s:af}
set_option maxRecDepth 100000 in
end
section
variable {X:Cx}
end
end L2
namespace L2
open PySem PySem.Spec PyProof.Rows
section
variable {κ:Type} [DecidableEq κ]
def zp(kvs:List (κ×V))(k:κ):Option V:=(kvs.find? fun kv=>decide (kv.1=k)).map (·.2)
def putK(kvs:List (κ×V))(k:κ)(v:V):List (κ×V):=
 if (kvs.any fun kv=>decide (kv.1=k))=true then kvs.map (fun kv=>if kv.1=k then(kv.1,v)else kv)else kvs++[(k,v)]
theorem xni{k:κ}:zp ([]:List (κ×V)) k=none:=rfl
theorem zf{p:κ×V}{r:List (κ×V)}{k:κ}(e:p.1=k):zp (p::r) k=some p.2:=by simp[zp,cc,e]
theorem zg{p:κ×V}{r:List (κ×V)}{k:κ}(e:¬p.1=k):zp (p::r) k=zp r k:=by simp[zp,cc,e]
theorem xcE(k:κ):∀kvs:List (κ×V),(kvs.any fun kv=>decide (kv.1=k))=(zp kvs k).isSome
 |[]=>rfl
 |p::r=>by
  rw[iV]
  by_cases e:p.1=k
  ·simp only[zf e,decide_eq_true e,j3,Option.isSome_some]
  ·rw[zg e,decide_eq_false e,iW];exact xcE k r
theorem xiC(k j:κ)(y:V):∀kvs:List (κ×V),zp (kvs.map fun kv=>if kv.1=k then(kv.1,y)else kv) j=(zp kvs j).map fun x=>if j=k then y else x
 |[]=>rfl
 |p::r=>by
  have ih:=xiC k j y r;rw[bp]
  by_cases h:p.1=k
  ·rw[if_pos h]
   by_cases e:p.1=j
   ·rw[zf (p:=(p.1,y)) e,zf e,fJ,if_pos (e.symm.trans h)]
   ·rw[zg (p:=(p.1,y)) e,zg e,ih]
  ·rw[if_neg h]
   by_cases e:p.1=j
   ·rw[zf (p:=p) e,zf e,fJ,if_neg (fun z=>h (e.trans z))]
   ·rw[zg (p:=p) e,zg e,ih]
theorem xhv(k j:κ)(y:V):∀kvs:List (κ×V),zp kvs k=none→zp (kvs++[(k,y)]) j=if j=k then some y else zp kvs j
 |[],_=>by
  by_cases e:k=j
  ·rw[if_pos e.symm];exact zf (p:=(k,y)) e
  ·rw[if_neg (fun z=>e z.symm)];exact zg (p:=(k,y)) e
 |p::r,hn=>by
  rw[dv];have hk:¬p.1=k:=fun z=>by rw[zf z]at hn;cases hn
  rw[zg hk]at hn;have ih:=xhv k j y r hn
  by_cases e:p.1=j
  ·rw[zf e,zf e,if_neg (fun z=>hk (e.trans z))]
  ·rw[zg e,zg e,ih]
theorem xnj(kvs:List (κ×V))(k j:κ)(y:V):zp (putK kvs k y) j=if j=k then some y else zp kvs j:=by
 unfold putK
 by_cases a:(kvs.any fun kv=>decide (kv.1=k))=true
 ·rw[if_pos a,xiC];rw[xcE]at a
  by_cases e:j=k
  ·obtain⟨x,hx⟩:=eO.mp a;rw[if_pos e,e,hx,fJ,if_pos rfl]
  ·rw[if_neg e];cases zp kvs j with
   |none=>rfl
   |some x=>rw[fJ,if_neg e]
 ·rw[if_neg a];refine xhv k j y kvs ?_;rw[xcE]at a;cases q:zp kvs k with
  |none=>rfl
  |some x=>rw[q]at a;exact(a rfl).elim
theorem xbT(kvs:List (κ×V))(k:κ)(v:V):(putK kvs k v).length≤kvs.length+1:=by
 unfold putK
 split
 ·rw[ai];lia
 ·rw[aW,bB,eF];lia
theorem ux.isSome_eq{o:Option V}{u:Option Value}(r:ux o u):o.isSome=u.isSome:=by
 cases o with
 |none=>cases u with
  |none=>rfl
  |some _=>exact(show False from r).elim
 |some _=>cases u with
  |none=>exact(show False from r).elim
  |some _=>rfl
theorem KV.val{kvs:List (κ×V)}{vs:List (κ×Value)}(r:KV kvs vs)(k:κ):ux (zp kvs k) (gG vs k):=by
 unfold KV at r
 induction r with
 |nil=>exact b9
 | @cons p q ps qs h t ih=>
  obtain⟨h1,h2⟩:=h
  by_cases e:p.1=k
  ·have e':q.1=k:=h1.symm.trans e;have b:gG (q::qs) k=some q.2:=by simp[gG,cc,e']
   rw[zf e,b];exact h2
  ·have e':¬q.1=k:=fun z=>e (h1.trans z);have b:gG (q::qs) k=gG qs k:=by simp[gG,cc,e']
   rw[zg e,b];exact ih
theorem KV.any{kvs:List (κ×V)}{vs:List (κ×Value)}(r:KV kvs vs)(k:κ):(kvs.any fun kv=>decide (kv.1=k))=vs.any fun kv=>decide (kv.1=k):=by
 unfold KV at r
 induction r with
 |nil=>rfl
 |cons h t ih=>rw[iV,iV,ih,h.1]
theorem KV.repl{kvs:List (κ×V)}{vs:List (κ×Value)}(r:KV kvs vs)(k:κ){y:V}{u:Value}(ry:RelV y u):
  KV (kvs.map fun kv=>if kv.1=k then(kv.1,y)else kv) (vs.map fun kv=>if kv.1=k then(kv.1,u)else kv):=by
 unfold KV at r⊢
 induction r with
 |nil=>exact .nil
 | @cons p q ps qs h t ih=>
  rw[bp,bp];refine .cons ?_ ih;obtain⟨h1,h2⟩:=h
  by_cases e:p.1=k
  ·rw[if_pos e,if_pos (h1.symm.trans e)];exact⟨h1,ry⟩
  ·rw[if_neg e,if_neg (fun z=>e (h1.trans z))];exact⟨h1,h2⟩
theorem KV.put{kvs:List (κ×V)}{vs:List (κ×Value)}(r:KV kvs vs)(k:κ){y:V}{u:Value}(ry:RelV y u):KV (putK kvs k y) (stored vs k u):=by
 unfold putK stored;rw[r.any k]
 by_cases e:(vs.any fun kv=>decide (kv.1=k))=true
 ·rw[if_pos e,if_pos e];exact r.repl k ry
 ·rw[if_neg e,if_neg e];exact Paired.snoc r ⟨rfl,ry⟩
theorem KV.length{kvs:List (κ×V)}{vs:List (κ×Value)}(r:KV kvs vs):kvs.length=vs.length:=Paired.length r
end
theorem xes{P:av}{w:World}{k:Key}{u:Value}(r:RelV (kV k) u):(yM P w).is k u=true:=by
 cases k with
 |inl i=>obtain⟨t,e⟩:=(show∃t,u=fZ i t from r);subst e;exact xjJ P w i t
 |inr x=>obtain⟨t,e⟩:=(show∃t,u=f9 x t from r);subst e;exact xjK P w x t
theorem xhw{P:av}{w:World}:∀{ks:List Key} {us:List Value},Vals (ks.map kV) us→ItemsAre (yM P w) ks us
 |[],_,r=>by rw[gP]at r;cases r;exact .nil
 |k::ks,_,r=>by
  rw[bp]at r;cases r with
  |cons h t=>exact .cons (xes h) (xhw t)
abbrev KT(H:Hp):List (List Key×V)→List (List Key×Addr×Value)→Prop:=Paired fun p q=>p.1=q.1∧H q.2.1=some (.tup (p.1.map kV))∧RelV p.2 q.2.2
theorem KT.val{H:Hp}{kvs:List (List Key×V)}{xs:List (List Key×Addr×Value)}(r:KT H kvs xs)(k:List Key):ux (zp kvs k) ((atKey xs k).map (·.2)):=by
 induction r with
 |nil=>exact b9
 | @cons p q ps qs h t ih=>
  obtain⟨h1,_,h2⟩:=h
  by_cases e:p.1=k
  ·have e':q.1=k:=h1.symm.trans e;have b:atKey (q::qs) k=some q.2:=by simp[atKey,cc,e']
   rw[zf e,b];exact h2
  ·have e':¬q.1=k:=fun z=>e (h1.trans z);have b:atKey (q::qs) k=atKey qs k:=by simp[atKey,cc,e']
   rw[zg e,b];exact ih
theorem KT.repl{H:Hp}{kvs:List (List Key×V)}{xs:List (List Key×Addr×Value)}(r:KT H kvs xs)(k:List Key){y:V}{u:Value}(ry:RelV y u):
  KT H (kvs.map fun kv=>if kv.1=k then(kv.1,y)else kv) (xs.map (putAt k u)):=by
 induction r with
 |nil=>exact .nil
 | @cons p q ps qs h t ih=>
  rw[bp,bp];refine .cons ?_ ih;obtain⟨h1,h2,h3⟩:=h;unfold putAt
  by_cases e:p.1=k
  ·rw[if_pos e,if_pos (h1.symm.trans e)];exact⟨h1,h2,ry⟩
  ·rw[if_neg e,if_neg (fun z=>e (h1.trans z))];exact⟨h1,h2,h3⟩
theorem KT.put{H:Hp}{kvs:List (List Key×V)}{xs:List (List Key×Addr×Value)}(r:KT H kvs xs)(k:List Key){b:Addr}{y:V}{u:Value}(hb:H b=some (.tup (k.map kV)))(ry:RelV y u):
  KT H (putK kvs k y) (storedH xs k b u):=by
 have e:(kvs.any fun kv=>decide (kv.1=k))=(atKey xs k).isSome:=by
  rw[xcE,(r.val k).isSome_eq,gy]
 unfold putK storedH;rw[e]
 by_cases q:(atKey xs k).isSome=true
 ·rw[if_pos q,if_pos q];exact r.repl k ry
 ·rw[if_neg q,if_neg q];exact Paired.snoc r ⟨rfl,hb,ry⟩
theorem KT.keeps{H H':Hp}{kvs:List (List Key×V)}{xs:List (List Key×Addr×Value)}(r:KT H kvs xs)(ht:∀b ys,H b=some (.tup ys)→H' b=some (.tup ys)):KT H' kvs xs:=
 Paired.mapP r fun _ _ z=>⟨z.1,ht _ _ z.2.1,z.2.2⟩
section
variable {P:av} {w:World} {H:Hp} {h:Heap} {a:Addr}
theorem xol{u:HO}(ok:HOk P w H h)(e:Rd H a u):yh P w H h a u:=e.ok ok
theorem xfE{kvs:List (Key×V)}(ok:HOk P w H h)(e:Rd H a (.dK kvs)):kvs.length≤aM∧(a==dF)=false∧∃vs,KV kvs vs∧h.DictOf (yM P w) a vs:=
 show yh P w H h a (.dK kvs)from xol ok e
theorem xom{kvs:List (Key×V)}(ok:HOk P w H h)(e:H a=some (.dK kvs)):kvs.length≤aM∧(a==dF)=false∧∃vs,KV kvs vs∧h.DictOf (yM P w) a vs:=xfE ok (.inl e)
theorem xdD{ks:List Key}(ok:HOk P w H h)(e:H a=some (.tup (ks.map kV))):(ia (yM P w)).is h ks a:=by
 obtain⟨_,its,r,o,h1,h2,n,h3⟩:=(show yh P w H h a (.tup (ks.map kV))from ok a _ e);exact⟨o,its.toArray,n,h1,h2,h3,by simpa using xhw r⟩
theorem xfF{kvs:List (List Key×V)}(ok:HOk P w H h)(e:Rd H a (.dT kvs)):kvs.length≤aM∧(a==dF)=false∧
  ∃xs,KT H kvs xs∧h.DictOfH (ia (yM P w)) a xs:=by
 obtain⟨z,y,xs,r,o,es,ep,h1,h2,h3,h4,h5⟩:=(show yh P w H h a (.dT kvs)from xol ok e);refine⟨z,y,xs,r,o,es,ep,h1,h2,h3,h4,fun x hx=>?_,h5⟩;have all:∀{l:List (List Key×V)} {m:List (List Key×Addr×Value)},KT H l m→∀x∈m,(ia (yM P w)).is h x.1 x.2.1:=by
  intro l m q
  induction q with
  |nil=>intro x hx;exact nomatch hx
  | @cons p q ps qs hq t ih=>
   intro x hx;rcases aq.mp hx with e|hx
   ·subst e;exact xdD ok (by rw[←hq.1];exact hq.2.1)
   ·exact ih x hx
 exact all r x hx
theorem xqR{kvs:List (List Key×V)}(ok:HOk P w H h)(e:H a=some (.dT kvs)):kvs.length≤aM∧(a==dF)=false∧
  ∃xs,KT H kvs xs∧h.DictOfH (ia (yM P w)) a xs:=xfF ok (.inl e)
end
def uV(H:Hp)(a:Addr)(y:V)(r:Option V):Prop:=
 (∃kvs k,Rd H a (.dK kvs)∧y=kV k∧r=zp kvs k)∨∃kvs k b,Rd H a (.dT kvs)∧y= .ref b∧H b=some (.tup (k.map kV))∧r=zp kvs k
def xdE(H:Hp)(a:Addr)(y v:V)(H':Hp):Prop:=
 (∃kvs k,H a=some (.dK kvs)∧y=kV k∧kvs.length<aM∧H'=upd H a (.dK (putK kvs k v)))∨
 ∃kvs k b,H a=some (.dT kvs)∧y= .ref b∧H b=some (.tup (k.map kV))∧kvs.length<aM∧H'=upd H a (.dT (putK kvs k v))
theorem uV.k{H:Hp}{a:Addr}{kvs:List (Key×V)}{k:Key}(e:H a=some (.dK kvs)):uV H a (kV k) (zp kvs k):=.inl ⟨kvs,k,.inl e,rfl,rfl⟩
theorem xdE.k{H:Hp}{a:Addr}{kvs:List (Key×V)}{k:Key}{v:V}(e:H a=some (.dK kvs))(hl:kvs.length<aM):xdE H a (kV k) v (upd H a (.dK (putK kvs k v))):=.inl ⟨kvs,k,e,rfl,hl,rfl⟩
section
variable {X:Cx} {pins:List (Addr×Obj)} {σ:St} {H:Hp} {s:af} {a:Addr} {y v:V} {u r:Value} {o:Option V} {A:aL} {E:Value→af→Prop}
theorem Inv.big(I:Inv X pins σ H s):dF<s.heap.objs.size:=by
 have h:ba<s.heap.objs.size:=(I.mod.glob.keeps I.bk).lt;exact Nat.lt_trans (by decide) h
theorem xl6{Q:Value→af→Prop}(hu:A.units+1<cLine)(I:Inv X pins σ H s)(g:uV H a y (some v))(ry:RelV y u)(h:∀w' s',Inv X pins σ H s'→RelV v w'→Q w' s'):
  wpAny (model X.prog X.w) A (fT (.ref a) u) Q E s:=by
 rcases g with⟨kvs,k,e,ey,l⟩|⟨kvs,k,b,e,ey,eb,l⟩
 ·subst ey;obtain⟨z,hd,vs,rel,dd⟩:=xfE I.hok e;obtain⟨w',hw,rw'⟩:=ux.some_of (v:=v) (o:=gG vs k) (by rw[l];exact rel.val k);exact wpAny_getItem_of (xes ry) dd.mapOf hw (h w' _ (I.tok _) rw')
 ·subst ey;cases (show u=aB b from ry);obtain⟨z,hd,xs,rel,dd⟩:=xfF I.hok e;obtain⟨w',hw,rw'⟩:=ux.some_of (v:=v) (o:=(atKey xs k).map (·.2)) (by rw[l];exact rel.val k);obtain⟨p,hp,hp2⟩:=aJ.mp hw;refine wpAny_getItem_heap (eQ hu) (xdD I.hok eb) dd hp ?_;rw[hp2];exact h w' _ (I.tok _) rw'
theorem xrD{Q:Value→af→Prop}(hu:A.units+1<cLine)(I:Inv X pins σ H s)(g:uV H a y o)(ry:RelV y u)(h:∀s',Inv X pins σ H s'→Q (.bool o.isSome) s'):
  wpAny (model X.prog X.w) A (bz .In u (.ref a)) Q E s:=by
 rcases g with⟨kvs,k,e,ey,l⟩|⟨kvs,k,b,e,ey,eb,l⟩
 ·subst ey;obtain⟨z,hd,vs,rel,dd⟩:=xfE I.hok e;refine wpAny_in_of (xes ry) hd dd.mapOf ?_;rw[←(rel.val k).isSome_eq,←l];exact h _ (I.tok _)
 ·subst ey;cases (show u=aB b from ry);obtain⟨z,hd,xs,rel,dd⟩:=xfF I.hok e;refine wpAny_in_heap (eQ hu) (xdD I.hok eb) hd dd ?_;have q:=(rel.val k).isSome_eq;rw[gy]at q;rw[←q,←l];exact h _ (I.tok _)
theorem xoJ{Q:Value→af→Prop}(hu:A.units+1<cLine)(I:Inv X pins σ H s)(g:uV H a y o)(ry:RelV y u)(h:∀s',Inv X pins σ H s'→Q (.bool (!o.isSome)) s'):
  wpAny (model X.prog X.w) A (bz .NotIn u (.ref a)) Q E s:=by
 rcases g with⟨kvs,k,e,ey,l⟩|⟨kvs,k,b,e,ey,eb,l⟩
 ·subst ey;obtain⟨z,hd,vs,rel,dd⟩:=xfE I.hok e;refine wpAny_notIn_of (xes ry) hd dd.mapOf ?_;rw[←(rel.val k).isSome_eq,←l];exact h _ (I.tok _)
 ·subst ey;cases (show u=aB b from ry);obtain⟨z,hd,xs,rel,dd⟩:=xfF I.hok e;refine wpAny_notIn_heap (eQ hu) (xdD I.hok eb) hd dd ?_;have q:=(rel.val k).isSome_eq;rw[gy]at q;rw[←q,←l];exact h _ (I.tok _)
theorem xgE{h':Heap}{t':Nat}{ob:HO}(I:Inv X pins σ H s)(mu:Mut (H a))(hs:fF a s.heap h')(he:∃q,h'.get? a=some q)(new:yh X.prog X.w (upd H a ob) h' a ob):
  Inv X pins σ (upd H a ob) {s with heap:=h',toks:=t'}:=
 I.write (x:=a) (e:=a) mu (.inl rfl) (fun b q hb z=>(hs.2 b hb).trans z) he new
theorem xl7{P:av}{w:World}{H':Hp}{h':Heap}{kvs:List (Key×V)}{vs:List (Key×Value)}(z:kvs.length≤aM)(hd:(a==dF)=false)(rel:KV kvs vs)(dd:h'.DictOf (yM P w) a vs):
  yh P w H' h' a (.dK kvs):=⟨z,hd,vs,rel,dd⟩
theorem xhx{H':Hp}{Q:Unit→af→Prop}(hu:A.units+1<cLine)(I:Inv X pins σ H s)(g:xdE H a y v H')(ry:RelV y u)(rv:RelV v r)(h:∀s',Inv X pins σ H' s'→Q () s'):
  wpAny (model X.prog X.w) A (setItem (.ref a) u r) Q E s:=by
 rcases g with⟨kvs,k,e,ey,l,eH⟩|⟨kvs,k,b,e,ey,eb,l,eH⟩
 ·subst ey eH;obtain⟨z,hd,vs,rel,dd⟩:=xom I.hok e;have hz:vs.length≤aM:=by rw[←rel.length];exact z
  have hl:(putK kvs k v).length≤aM:=by have:=xbT kvs k v;lia
  refine wpAny_setItem_pairs (hsz:=hz) (xes ry) dd fun h' dd' hs=>h _ ?_;have he:∃q,h'.get? a=some q:=let⟨q,_,_,hq,_⟩:=dd';⟨q,hq⟩
  exact xgE I (by rw[e];exact b9) hs he (xl7 hl hd (rel.put k rv) dd')
 ·subst ey eH;cases (show u=aB b from ry);obtain⟨z,hd,xs,rel,dd⟩:=xqR I.hok e;have hz:xs.length≤aM:=by rw[←Paired.length rel];exact z
  have hl:(putK kvs k v).length≤aM:=by have:=xbT kvs k v;lia
  refine wpAny_setItem_heap (hsz:=hz) (eQ hu) (xdD I.hok eb) dd fun h' dd' hs=>h _ ?_;obtain⟨q,es,ep,hq,h2,h3,h4,_,h5⟩:=dd';refine xgE I (by rw[e];exact b9) hs ⟨q,hq⟩ ⟨hl,hd,_,(rel.put k eb rv).keeps fun c ys ec=>?_,q,es,ep,hq,h2,h3,h4,h5⟩;rw[xr (vL ec e (fun z=>nomatch z))];exact ec
end
section
variable {X:Cx} {pins:List (Addr×Obj)} {σ:St} {H:Hp} {s:af} {a:Addr} {kvs:List (Key×V)} {k:Key} {u:Value} {A:aL} {E:Value→af→Prop}
end
def xp6(i:Expr):Prop:=∀ov iv,ip i false ov iv=operate [ov,iv] (fT ov iv)
theorem xoK{prog:av}{w:World}{A:aL}{E:Value→af→Prop}{s:af}{env:Env}{value slice:Expr}{pos:Pos}{T id:String}{Q:Value→af→Prop}
  (hl:iG (.type T) "__getitem__"=pure (some (.builtin id))) (hs:xp6 slice)
  (h:wpAny (model prog w) A (eval value env) (fun o s₁=>wpAny (model prog w) A (eval slice env) (fun i s₂=>s₂.TypeIs o T∧wpAny (model prog w) A (fT o i) Q E s₂) E s₁) E s):
  wpAny (model prog w) A (eval (.Subscript value slice pos) env) Q E s:=by
 refine Subscript_ (aT h (fun o s₁ h₁=>aT h₁ (fun i s₂ h₂=>?_) fun _ _ x=>x) fun _ _ x=>x);obtain⟨hT,h₂⟩:=h₂;unfold iU;refine aa ?_;rw[getitemInPython_of_ne hT.not_modules];refine aa (wpAny_specialOf hT hl ?_);have fin:wpAny (model prog w) A (ip slice false o i) (fun r s₃=>wpAny (model prog w) A (letTemporaryGo value o r >>= fun _=>pure r) Q E s₃) E s₂:=by
  rw[hs o i];exact wpAny_operating (aT h₂ (fun r s₃ h₃=>aa (wpAny_letTemporaryGo (ak h₃))) fun _ _ x=>x)
 first
  |exact ak (aa fin)
  |exact aa (ak (aa fin))
  |exact aa fin
theorem xjL{X:Cx}{pins:List (Addr×Obj)}{σ:St}{H:Hp}{s:af}{a:Addr}{y:V}{o:Option V}(I:Inv X pins σ H s)(g:uV H a y o):s.TypeIs (.ref a) "dict":=by
 rcases g with⟨kvs,k,e,_,_⟩|⟨kvs,k,b,e,_,_,_⟩
 ·obtain⟨_,_,vs,_,dd⟩:=xfE I.hok e;exact dd.typeIs
 ·obtain⟨_,_,xs,_,dd⟩:=xfF I.hok e;exact dd.typeIs
def xqS(td ty:TE):TE:=fun σ H Q=>td σ H fun x H1=>ty σ H1 fun y H2=>∃a v,x= .ref a∧uV H2 a y (some v)∧Q v H2
def xrE(ty td:TE):TE:=fun σ H Q=>ty σ H fun y H1=>td σ H1 fun x H2=>∃a o,x= .ref a∧uV H2 a y o∧Q (.bl o.isSome) H2
def xoL(ty td:TE):TE:=fun σ H Q=>ty σ H fun y H1=>td σ H1 fun x H2=>∃a o,x= .ref a∧uV H2 a y o∧Q (.bl (!o.isSome)) H2
def xqT(td ty tv:TE):TS:=fun D σ H=>tv σ H fun v H1=>td σ H1 fun x H2=>ty σ H2 fun y H3=>∃a H4,x= .ref a∧xdE H3 a y v H4∧D.nx σ H4
section
variable {X:Cx} {o i e value:Expr} {pos pos' tpos:Pos} {td ty tv:TE}
theorem xcg(hu:X.A.units+1<cLine)(ho:PE X o td)(hi:PE X i ty)(hs:xp6 i):PE X (.Subscript o i pos) (xqS td ty):=by
 intro pins s σ H Q I h;refine xoK PySem.F.slot_dict_getitem.lookup hs (thn (ho pins s σ H _ I h) fun u s1 ⟨x,H1,I1,rx,q1⟩=>thn (hi pins s1 σ H1 _ I1 q1) fun iv s2 ⟨y,H2,I2,ry,a,v,ex,g,q2⟩=>?_);subst ex;obtain rfl:u=aB a:=rx;exact⟨xjL I2 g,xl6 hu I2 g ry fun w' s3 I3 rw'=>⟨v,H2,I3,rw',q2⟩⟩
theorem xl8(hu:X.A.units+1<cLine)(hi:PE X i ty)(ho:PE X o td):PC X .In i o (xrE ty td):=by
 intro pins s σ H Q I h;refine thn (hi pins s σ H _ I h) fun iv s1 ⟨y,H1,I1,ry,q1⟩=>thn (ho pins s1 σ H1 _ I1 q1) fun u s2 ⟨x,H2,I2,rx,a,ov,ex,g,q2⟩=>?_;subst ex;obtain rfl:u=aB a:=rx;exact xrD hu I2 g ry fun s3 I3=>⟨.bl ov.isSome,H2,I3,rfl,q2⟩
theorem xl9(hu:X.A.units+1<cLine)(hi:PE X i ty)(ho:PE X o td):PC X .NotIn i o (xoL ty td):=by
 intro pins s σ H Q I h;refine thn (hi pins s σ H _ I h) fun iv s1 ⟨y,H1,I1,ry,q1⟩=>thn (ho pins s1 σ H1 _ I1 q1) fun u s2 ⟨x,H2,I2,rx,a,ov,ex,g,q2⟩=>?_;subst ex;obtain rfl:u=aB a:=rx;exact xoJ hu I2 g ry fun s3 I3=>⟨.bl (!ov.isSome),H2,I3,rfl,q2⟩
theorem xgF(hu:X.A.units+1<cLine)(ho:PE X o td)(hi:PE X i ty)(hv:PE X value tv)(hs:eM value (some (.Subscript o i pos')) pos.line X.env=pure false):
  PS X (.Assign [.Subscript o i pos'] value pos) (xqT td ty tv):=by
 intro pins s σ H D I h;refine wpAny_Assign_Subscript (thn (hv pins s σ H _ I h) fun r s1 ⟨v,H1,I1,rv,q1⟩=>thn (ho pins s1 σ H1 _ I1 q1) fun u s2 ⟨x,H2,I2,rx,q2⟩=>thn (hi pins s2 σ H2 _ I2 q2) fun iv s3 ⟨y,H3,I3,ry,a,H4,ex,g,q3⟩=>?_) hs;subst ex;obtain rfl:u=aB a:=rx;exact xhx hu I3 g ry rv fun s4 I4=>⟨σ,H4,I4,q3⟩
end
theorem xiD{P:av}{w:World}{H:Hp}(h:Heap)(hb:dF<h.objs.size):yh P w H (h.push {cls:=.type "dict",data:=.dict #[]}) h.objs.size (.dK []):=
 ⟨bL _,beq_eq_false_iff_ne.mpr (au (aH hb)),[],.nil,Heap.DictOf.new h⟩
def xp7:TE:=fun _ H Q=>∀p,H p=none→Q (.ref p) (upd H p (.dK []))
section
variable {X:Cx} {pos:Pos}
theorem xe6:PE X (.Dict [] [] pos) xp7:=fun pins s σ H Q I h=>
 wpAny_Dict_empty ⟨.ref s.heap.objs.size,_,I.laid (a:=s.heap.objs.size) (o:=.dK []) (t':=s.toks) (fun _ _ q=>ah _ q) (ar _) (xiD s.heap I.big),rfl,h _ (I.hok.fresh (ar _))⟩
end
def xiE:List (TE×TE)→St→Hp→(List (V×V)→Hp→Prop)→Prop
 |[],_,H,Q=>Q [] H
 |(tk,tv)::r,σ,H,Q=>tk σ H fun x H1=>tv σ H1 fun y H2=>xiE r σ H2 fun ps H3=>Q ((x,y)::ps) H3
abbrev VV:List (V×V)→List (Value×Value)→Prop:=Paired fun p q=>RelV p.1 q.1∧RelV p.2 q.2
def PPs(X:Cx)(pos:Pos)(keys:List (Option Expr))(values:List Expr)(trs:List (TE×TE)):Prop:=
 ∀(pins:List (Addr×Obj)) (s:af) (σ:St) (H:Hp) (Q:List (V×V)→Hp→Prop),Inv X pins σ H s→xiE trs σ H Q→
  wpAny (model X.prog X.w) X.A (evalPairs (pairTrees keys values X.env pos)) (fun vs s'=>∃ps H',Inv X pins σ H' s'∧VV ps vs∧Q ps H') X.xe s
theorem xoM{X:Cx}{pos:Pos}:PPs X pos [] [] []:=fun pins s σ H Q I h=>pairTrees_nil_walk ⟨[],H,I,.nil,h⟩
theorem xiF{X:Cx}{pos:Pos}{k v:Expr}{ks:List (Option Expr)}{vs:List Expr}{tk tv:TE}{trs:List (TE×TE)}(hk:PE X k tk)(hv:PE X v tv)(hr:PPs X pos ks vs trs):
  PPs X pos (some k::ks) (v::vs) ((tk,tv)::trs):=fun pins s σ H Q I h=>
 pairTrees_cons_walk (thn (hk pins s σ H _ I h) fun u s1 ⟨x,H1,I1,rx,q1⟩=>thn (hv pins s1 σ H1 _ I1 q1) fun w2 s2 ⟨y,H2,I2,ry,q2⟩=>
  thn (hr pins s2 σ H2 _ I2 q2) fun ws s3 ⟨ps,H3,I3,rel,q3⟩=>⟨(x,y)::ps,H3,I3,.cons ⟨rx,ry⟩ rel,q3⟩)
def xch(kvs more:List (Key×V)):List (Key×V):=more.foldl (fun acc kv=>putK acc kv.1 kv.2) kvs
theorem KV.merge:∀{more:List (Key×V)} {rs:List (Key×Value)} {kvs:List (Key×V)} {vs:List (Key×Value)},KV more rs→KV kvs vs→KV (xch kvs more) (merged vs rs):=by
 intro more rs kvs vs r;unfold KV at r
 induction r generalizing kvs vs with
 |nil=>intro q;exact q
 | @cons p q ps qs h t ih=>
  intro r0;have e:KV (putK kvs p.1 p.2) (stored vs q.1 q.2):=by
   have:=r0.put p.1 h.2;rw[←h.1];exact this
  exact ih e
theorem xdc:∀(more kvs:List (Key×V)),(xch kvs more).length≤kvs.length+more.length
 |[],kvs=>by show kvs.length≤kvs.length+0;lia
 |p::r,kvs=>by
  have h1:=xdc r (putK kvs p.1 p.2);have h2:=xbT kvs p.1 p.2;show(xch (putK kvs p.1 p.2) r).length≤_;rw[bB];lia
theorem xfG{P:av}{w:World}:∀{kvs:List (Key×V)} {ws:List (Value×Value)},VV (kvs.map fun kv=>(kV kv.1,kv.2)) ws→∃rs,Carries (yM P w) ws rs∧KV kvs rs
 |[],_,r=>by rw[gP]at r;cases r;exact⟨[],b9,.nil⟩
 |p::kvs,_,r=>by
  rw[bp]at r;cases r with
  | @cons a b as bs h t=>
   obtain⟨rs,c,q⟩:=xfG (P:=P) (w:=w) t;obtain⟨b1,b2⟩:=b;exact⟨(p.1,b2)::rs,⟨xes h.1,rfl,c⟩,.cons ⟨rfl,h.2⟩ q⟩
def xqU(trs:List (TE×TE)):TE:=fun σ H Q=>∀p,H p=none→xiE trs σ (upd H p (.dK [])) fun ps H2=>H2 p=some (.dK [])∧∃kvs:List (Key×V),ps=kvs.map (fun kv=>(kV kv.1,kv.2))∧kvs.length≤15∧Q (.ref p) (upd H2 p (.dK (xch [] kvs)))
theorem xoN{X:Cx}{pos:Pos}{keys:List (Option Expr)}{values:List Expr}{trs:List (TE×TE)}(h:PPs X pos keys values trs)(hall:keys.all (·.isSome)=true)(hl:keys.length=values.length)(h0:keys≠[])
  (h15:keys.length≤15):PE X (.Dict keys values pos) (xqU trs):=by
 intro pins s σ H Q I q;have hn:=I.hok.fresh (ar s.heap.objs.size);have I1:=I.laid (a:=s.heap.objs.size) (o:=.dK []) (h':=s.heap.push {cls:=.type "dict",data:=.dict #[]}) (t':=s.toks) (fun _ _ q=>ah _ q) (ar _) (xiD s.heap I.big);refine wpAny_Dict_walk (knd:=yM X.prog X.w) hall hl h0 h15 (thn (h pins _ σ _ _ I1 (q _ hn)) fun ws s2 ⟨ps,H2,I2,rel,e,kvs,ep,lk,q2⟩=>?_);subst ep;obtain⟨rs,c,rk⟩:=xfG (P:=X.prog) (w:=X.w) rel;obtain⟨z,hd,vs0,r0,dd⟩:=xom I2.hok e;cases r0;refine⟨rs,c,dd,fun h' dd' hs=>⟨.ref s.heap.objs.size,_,?_,rfl,q2⟩⟩;have hz:(xch [] kvs).length≤aM:=by
  have h1:=xdc kvs [];rw[eF]at h1;rw[a6];lia
 have he:∃q,h'.get? s.heap.objs.size=some q:=let⟨q,_,_,hq,_⟩:=dd';⟨q,hq⟩
 exact xgE I2 (by rw[e];exact b9) hs he (xl7 hz hd (rk.merge .nil) dd')
section
variable {X:Cx} {pins:List (Addr×Obj)} {σ:St} {H:Hp} {s:af} {a:Addr} {y d:V} {u r:Value} {o:Option V} {A:aL} {E:Value→af→Prop}
end
section
variable {X:Cx} {o e f:Expr} {apos cpos:Pos} {td ty tx:TE}
end
section
variable {X:Cx} {pins:List (Addr×Obj)} {σ:St} {H:Hp} {s:af} {a:Addr} {kvs:List (Key×V)} {A:aL} {E:Value→af→Prop}
end
section
variable {X:Cx} {pins:List (Addr×Obj)} {σ:St} {H:Hp} {s:af} {a:Addr} {y:V} {u:Value} {A:aL} {E:Value→af→Prop}
end
end L2
namespace Att
open PySem PySem.W PySem.Calls PyProof.Rows
theorem xfH{P:Params}{h:Heap}:∀(ns:List Int) (vs:List Value),WellAll P h vs (ns.map WData.int)→iw vs ns:=by
 intro ns
 induction ns with
 |nil=>
  intro vs w;rw[gP]at w;cases w;exact .nil
 |cons n ns ih=>
  intro vs w;rw[bp]at w;cases w with
  |cons a b=>
   cases a;exact .cons _ _ (ih _ b)
theorem xma{l:OpenLaw}{n:Nat}(hn:l.most=some n){P:Params}{h:Heap}{args:List WData}{vals:List Value}
  (hpre:l.row.toRowW.claim.pre args=true) (hwl:WellAll P h vals args):
  ∃a vs ns,vals=[aB a]∧args=[WData.list (ns.map WData.int)]∧h.get? a=some {cls:=.type "list",data:=.seq vs.toArray}∧iw vs ns∧ns.length≤n:=by
 have hsh:WShape.hasAll [] args [.list .int]=true:=(pre_splitW hpre).1;have hc:l.pre.holds [] {args:=args}=true:=(pre_splitW hpre).2;obtain⟨d,r,rfl,h1,h2⟩:=hasAllW_cons hsh;obtain rfl:=hasAllW_nil h2;obtain⟨xs,rfl,h3⟩:=hasW_list h1;obtain⟨ns,rfl⟩:=items_int h3;have hlen:ns.length≤n:=by
  unfold OpenLaw.pre at hc;have h4:(WTm.not (.lt (.lit (.int (n:Int))) (.len (.arg 0)))).holds [] {args:=[.list (ns.map .int)]}=true:=by
   have h4:=(holds_andW hc).1;rw[hn]at h4;exact h4
  have h5:=condW_of h4 (w_not (w_lt w_lit (w_len_list (w_arg rfl))));rw[ai]at h5;refine Nat.le_of_not_lt fun q=>?_;have q':(n:Int)<((ns.length:Nat):Int):=by omega
  first
   |(rw[decide_eq_true q']at h5;exact absurd h5 (by decide))
   |(simp at h5;omega)
 cases hwl with
 |cons w1 w2=>
  cases w2;cases w1 with
  |list ho hall=>exact⟨_,_,ns,rfl,rfl,ho,xfH ns _ hall,hlen⟩
theorem xmb(l:OpenLaw)(args:List WData):l.row.toRowW.claim.post args (.bool true) args=true:=
 postW_of (r:=l.row.toRowW) (X:=(true==true))
  (show WShape.has [] (.bool true) .bool=true by first|rfl|decide|simp[WShape.has,WShape.arms,WShape.armsAll])
  (show(WTm.eq .res (.lit (.bool true))).value [] {args:=args,res:=some (.bool true),after:=args}=some (.bool (true==true))from w_eq_bool (w_res rfl) w_lit) rfl
theorem xjM{l:OpenLaw}{n:Nat}{q:av}{loose:List Str}{XP:(Str→Option Value)→Heap→Prop}{YP:World→Heap→Prop}{d:DefRec}
  (hn:l.most=some n) (hdf:d.params.defaults=[])
  (call:∀(w:World) (s₀ s₁:af) (mg mb:Str→Option Value) (fa:Addr) (o:Obj) (pm cd doc:Value) (a:Addr) (vs:List Value) (ns:List Int),
   Ground q loose [] XP w s₀ mg mb s₁.heap→YP w s₁.heap→
   s₁.heap.get? fa=some o→o.data= .func (docDef d.name d.params d.body d.scope pm cd doc)→s₁.heap.CodeRec cd d.name→mg d.name=some (.ref fa)→
   s₁.heap.get? a=some {cls:=.type "list",data:=.seq vs.toArray}→iw vs ns→ns.length≤n→s₁.gens=#[]→
   ck (model l.prog w) gH (.call (.ref fa) ⟨[.ref a],[]⟩) (fun r s'=>r= .ok (.ret (.bool true))∧OldK s₁.heap s'.heap∧s'.os=s₁.os∧eV s'.gens) s₁):
  WalkO q loose XP YP l.row.toRowW d [] (fun f vs=>PySem.call f vs):=by
 intro w s₀ s₁ mg mb G Y fa o pm cd doc dV kV ho hd hcd hD hmg hg args vals as hpre hlay hrd hwl hlo;obtain rfl:dV= .none:=Dflts.none hD hdf;obtain rfl:kV= .none:=Dflts.noKw hD;obtain⟨a,vs,ns,rfl,rfl,hobj,hints,hlen⟩:=xma hn hpre hwl;refine enter_call (cm (call w s₀ s₁ mg mb fa o pm cd doc a vs ns G Y ho (fd_plain hd) hcd hmg hobj hints hlen hg) fun r s' hq=>?_);obtain⟨rfl,h2,h3,h4⟩:=hq;exact⟨.inl ⟨.bool true,.bool true,[],rfl,fun _=>rfl,.bool true,xmb l _,fun _=>⟨List.Pairwise.nil,fun _ hm=>(nomatch hm)⟩⟩,h2,h3,h4⟩
section
variable {prog:av} {w:World} {A:aL} {E:Value→af→Prop} {s:af} {K:Frag}
end
end Att
namespace L2
open PySem PySem.Spec PyProof.Rows
theorem xhy:∀{vs:List Value} {ns:List Int},iw vs ns→Vals (ns.map V.int) vs
 |_,_,.nil=>.nil
 |_,_,.cons n t h=>.cons ⟨t,rfl⟩ (xhy h)
end L2
namespace L2
open PySem PySem.Spec PyProof.Rows
end L2
namespace L2
open PySem PySem.Spec PyProof.Rows
def inClass(s:Stmt)(j:Nat):Stmt:=match s with
 | .ClassDef _ _ _ body _ _ _ _ _ _ _=>body.getD j (.Pass ⟨0,0,0,0⟩)
 |_=>.Pass ⟨0,0,0,0⟩
def yf(s:Stmt):cq:=match s with
 | .FunctionDef _ a _ _ _ _ _ _ _ _=>a
 |_=>{posonlyargs:=[],args:=[],vararg:=none,kwonlyargs:=[],kw_defaults:=[],kwarg:=none,defaults:=[]}
def xS(s:Stmt):List Stmt:=match s with
 | .FunctionDef _ _ b _ _ _ _ _ _ _=>b
 |_=>[]
def xp(s:Stmt):Scope:=match s with
 | .FunctionDef _ _ _ _ _ _ sc _ _ _=>sc
 |_=>{kind:=.function,names:=[],isGenerator:=false,isCoroutine:=false}
abbrev CX0:CXT:=fun _ _ _ _ _ _=>False
abbrev E0:XK:=fun _ _ _=>False
theorem xu{X:Cx}:Passes CX0 X E0:=fun _ _ _ _ _ _ _ h=>h.elim
structure Fun(K:ag)(x qual:Str)(st:Stmt)(f:Addr)(fd:aj):Prop where
 ex:∃(oc:Value) (od:Option Addr) (kV doc pm:Value) (an:Option Addr) (cdv ct:Value) (osl:Array (Option Value)),
  fd=bO x qual (yf st) (xS st) (xp st) .none kV doc pm an cdv ct∧K.lookup f=some ⟨oc,od,.func fd,osl⟩∧cx K cdv qual=true
 kp:bY K (.ref f)=true
section
variable {P:av} {w:World} {K:ag} {mg:Str→Option Value} {base:Heap}
theorem Fun.ok{x qual:Str}{st:Stmt}{f:Addr}{fd:aj}{N ps:List Str}{k:Nat}{sp:Sp}(F:Fun K x qual st f fd)(S:xv N ps (xp st))(len:∀vs H Q E,sp vs H Q E→vs.length=ps.length)
  (hbody:∀(cdv:Value) (A:aL) (outer:List Env) (s:af) (H:Hp) (vs:List V) (Q:VK) (E:XK),xX k (A.deeper (dH qual (xp st) s.heap.objs.size f cdv))→sp vs H Q E→
   ∃t,PSs (vV CX0 P w K mg base N qual (xp st) f cdv A outer s H E).nox (xS st) t∧t {nx:=fun _ H'=>Q .non H',rt:=Q} (start N vs) H):xE P w K mg base CX0 (k+1) f fd ps sp:=by
 obtain⟨oc,od,kV,doc,pm,an,cdv,ct,osl,rfl,lk,hcd⟩:=F.ex;refine xin lk hcd S len fun A outer s H vs Q E hr hsp=>?_;obtain⟨t,h,q⟩:=hbody cdv A outer s H vs Q E hr hsp;exact⟨t,h.nox,q⟩
theorem Fun.binds{x qual:Str}{st:Stmt}{f:Addr}{fd:aj}{ps:List Str}(F:Fun K x qual st f fd)
  (h:∀(kV doc pm:Value) (an:Option Addr) (cdv ct:Value) (us:List Value),us.length=ps.length→dk (bO x qual (yf st) (xS st) (xp st) .none kV doc pm an cdv ct) ⟨us,[]⟩=pure (ps.zip us)):Binds K fd ps []:=by
 obtain⟨oc,od,kV,doc,pm,an,cdv,ct,osl,rfl,lk,hcd⟩:=F.ex;exact .all (h kV doc pm an cdv ct)
theorem jk{x qual:Str}{st:Stmt}{f:Addr}{oc:Value}{od an:Option Addr}{osl:Array (Option Value)}{kV doc pm cdv ct:Value}(l:K.lookup f=some ⟨oc,od,.func (bO x qual (yf st) (xS st) (xp st) .none kV doc pm an cdv ct),osl⟩)
  (c:cx K cdv qual=true) (k:bY K (.ref f)=true):Fun K x qual st f (bO x qual (yf st) (xS st) (xp st) .none kV doc pm an cdv ct):=⟨⟨oc,od,kV,doc,pm,an,cdv,ct,osl,rfl,l,c⟩,k⟩
end
theorem vM{A:aL}{k:Nat}(hr:xX k A):A.units+1<cLine:=dI (Nat.add_le_add_left (by decide:1≤64) _) hr.units
section
variable {X:Cx}
end
def xg(H H':Hp):Prop:=∀b o,H b=some o→H' b=some o
theorem xg.refl(H:Hp):xg H H:=fun _ _ h=>h
theorem xg.trans{H H1 H2:Hp}(a:xg H H1)(b:xg H1 H2):xg H H2:=fun c o h=>b c o (a c o h)
theorem xg.free{H H':Hp}(e:xg H H'){l:Addr}(h:H' l=Option.none):H l=Option.none:=by
 cases q:H l with
 |none=>rfl
 |some o=>
  rw[e l o q]at h;cases h
theorem xg.seq{K:ag}{H H':Hp}{a:Addr}{xs:List V}(e:xg H H')(h:SqL K H a xs):SqL K H' a xs:=by
 rcases h with(h|⟨o,h⟩)|h
 ·exact .inl (.inl (e _ _ h))
 ·exact .inl (.inr ⟨o,e _ _ h⟩)
 ·exact .inr h
section
variable {X:Cx}
end
section
variable {κ:Type} [DecidableEq κ]
theorem xkm:∀{l:List κ} {k:κ},l.Nodup→¬k∈l→(l++[k]).Nodup
 |[],k,_,_=>by simp
 |a::r,k,h,hk=>by
  obtain⟨h1,h2⟩:=bh.mp h;show(a::(r++[k])).Nodup;refine bh.mpr ⟨fun m=>?_,xkm h2 fun m=>hk (aq.mpr (bT m))⟩;rcases aV.mp m with q|q
  ·exact h1 q
  ·exact hk (aq.mpr (az (ao.mp q).symm))
end
end L2
set_option maxHeartbeats 4000000
namespace L2
open PySem PySem.Spec PyProof.Rows
section
variable {X:Cx}
theorem PE.imp{e:Expr}{t t':TE}(h:PE X e t)(i:∀σ H Q,t' σ H Q→t σ H Q):PE X e t':=
 fun pins s σ H Q I q=>h pins s σ H Q I (i σ H Q q)
theorem PT.imp{e:Expr}{t t':TT}(h:PT X e t)(i:∀σ H Q,t' σ H Q→t σ H Q):PT X e t':=
 fun pins s σ H Q I q=>h pins s σ H Q I (i σ H Q q)
theorem OpR.imp{f:Value→Value→Sem Value}{r r':R2}(h:OpR X f r)(i:∀x y H Q,r' x y H Q→r x y H Q):OpR X f r':=
 fun pins s σ H x y v u Q I rx ry q=>h pins s σ H x y v u Q I rx ry (i x y H Q q)
theorem UnR.imp{f:Value→Sem Value}{r r':V→Hp→VK→Prop}(h:UnR X f r)(i:∀x H Q,r' x H Q→r x H Q):UnR X f r':=
 fun pins s σ H x v Q I rx q=>h pins s σ H x v Q I rx (i x H Q q)
theorem yD.imp{f:Value}{r r':List V→Hp→VK→Prop}(h:yD X f r)(i:∀xs H Q,r' xs H Q→r xs H Q):yD X f r':=
 fun pins s σ H xs us Q I rv q=>h pins s σ H xs us Q I rv (i xs H Q q)
theorem xa1{e:Expr}{t u:TE}(h:PE X e t)(k:PE X e u):PE X e (fun σ H Q=>t σ H Q∨u σ H Q):=
 fun pins s σ H Q I q=>q.elim (fun z=>h pins s σ H Q I z) (fun z=>k pins s σ H Q I z)
def zU(i:Nat):TE:=fun σ H Q=>match σ[i]? with
 |some (some v)=>Q v H
 |_=>False
theorem xnk{i:Nat}{σ:St}{H:Hp}{Q:VK}(q:zU i σ H Q):xpO i σ H Q:=by
 unfold zU at q
 split at q
 ·rename_i v e;exact⟨v,e,q⟩
 ·exact q.elim
theorem cv(i:Nat){x:Str}{pos:Pos}(hN:X.N[i]? =some x:=by rfl)(hv:Vis X.env.scope x:=by first|exact az rfl|exact bT (az rfl)|exact bT (bT rfl))(hd:(x==("__debug__":Str))=false:=by decide)
  (hcd:(x==("__classdict__":Str))=false:=by decide):PE X (.Name x pos) (zU i):=(xiv hN hv hd hcd).imp fun _ _ _ q=>xnk q
def kI(C:Int→Int→Prop)(g:Int→Int→V):R2:=fun x y H Q=>match x with
 | .int i=>(match y with
  | .int j=>C i j∧Q (g i j) H
  |_=>False)
 |_=>False
def kI0(g:Int→Int→V):R2:=fun x y H Q=>match x with
 | .int i=>(match y with
  | .int j=>Q (g i j) H
  |_=>False)
 |_=>False
theorem xfI{C:Int→Int→Prop}{g:Int→Int→V}{x y:V}{H:Hp}{Q:VK}(q:kI C g x y H Q):rI C g x y H Q:=by
 cases x with
 |int i=>
  cases y with
  |int j=>exact⟨i,j,rfl,rfl,q.1,q.2⟩
  |_=>exact aS q
 |_=>exact aS q
theorem jf{g:Int→Int→V}{x y:V}{H:Hp}{Q:VK}(q:kI0 g x y H Q):rI0 g x y H Q:=by
 cases x with
 |int i=>
  cases y with
  |int j=>exact⟨i,j,rfl,rfl,q⟩
  |_=>exact aS q
 |_=>exact aS q
theorem yv:OpR X (cJ .Add) (kI0 fun i j=>.int (i+j)):=xpT.imp fun _ _ _ _=>jf
theorem yw:OpR X (cJ .Sub) (kI0 fun i j=>.int (i - j)):=xpU.imp fun _ _ _ _=>jf
theorem xet:OpR X (cJ .Mult) (kI xkZ fun i j=>.int (i*j)):=xpV.imp fun _ _ _ _=>xfI
def xon(_i j:Int):Prop:=0<j∧j.natAbs.log2<9000
theorem xfJ:OpR X (cJ .FloorDiv) (kI xon fun i j=>.int (i / j)):=
 (opI (C:=xon) (g:=fun i j=>i / j) fun i j _ _ _ _ _ hc q=>by
  have h0:0<j:=hc.1;rw[←Int.fdiv_eq_ediv_of_nonneg i (Int.le_of_lt h0)]at q;exact floordiv_int (Int.ne_of_gt h0) q (.inl (gR hc.2))).imp fun _ _ _ _=>xfI
theorem zo:OpR X (cJ .Mod) (kI (fun _ j=>0<j) fun i j=>.int (i%j)):=xpW.imp fun _ _ _ _=>xfI
theorem xio:OpR X (cJ .Pow) (kI xpS fun i j=>.int (i^j.toNat)):=xpX.imp fun _ _ _ _=>xfI
theorem xgG:OpR X (bz .Lt) (kI0 fun i j=>.bl (decide (i<j))):=xqL.imp fun _ _ _ _=>jf
theorem xnl:OpR X (bz .LtE) (kI0 fun i j=>.bl (decide (i≤j))):=xqM.imp fun _ _ _ _=>jf
theorem xbU:OpR X (bz .Gt) (kI0 fun i j=>.bl (decide (j<i))):=xqN.imp fun _ _ _ _=>jf
theorem xnm:OpR X (bz .GtE) (kI0 fun i j=>.bl (decide (j≤i))):=xqO.imp fun _ _ _ _=>jf
theorem xip{a b:V}{p:Prop}[Decidable p](h:a=b↔p):decide (a=b)=decide p:=by
 by_cases e:p
 ·rw[decide_eq_true e,decide_eq_true (h.mpr e)]
 ·rw[decide_eq_false e,decide_eq_false (fun q=>e (h.mp q))]
theorem yJ:OpR X (bz .Eq) (kI0 fun i j=>.bl (decide (i=j))):=xoi.imp fun x y H Q q=>by
 obtain⟨i,j,rfl,rfl,q⟩:=jf q;exact⟨rfl,by rw[xip (p:=i=j) ⟨fun e=>V.int.inj e,fun e=>by rw[e]⟩];exact q⟩
theorem xbF:OpR X (bz .NotEq) (kI0 fun i j=>.bl (!decide (i=j))):=xoj.imp fun x y H Q q=>by
 obtain⟨i,j,rfl,rfl,q⟩:=jf q;exact⟨rfl,by rw[xip (p:=i=j) ⟨fun e=>V.int.inj e,fun e=>by rw[e]⟩];exact q⟩
def kS0(g:Str→Str→V):R2:=fun x y H Q=>match x with
 | .str i=>(match y with
  | .str j=>Q (g i j) H
  |_=>False)
 |_=>False
theorem xkn{g:Str→Str→V}{x y:V}{H:Hp}{Q:VK}(q:kS0 g x y H Q):∃i j,x= .str i∧y= .str j∧Q (g i j) H:=by
 cases x with
 |str i=>
  cases y with
  |str j=>exact⟨i,j,rfl,rfl,q⟩
  |_=>exact aS q
 |_=>exact aS q
theorem xbG:OpR X (bz .Eq) (kS0 fun i j=>.bl (decide (i=j))):=xoi.imp fun x y H Q q=>by
 obtain⟨i,j,rfl,rfl,q⟩:=xkn q;exact⟨rfl,by rw[xip (p:=i=j) ⟨fun e=>V.str.inj e,fun e=>by rw[e]⟩];exact q⟩
theorem xaM:OpR X (bz .NotEq) (kS0 fun i j=>.bl (!decide (i=j))):=xoj.imp fun x y H Q q=>by
 obtain⟨i,j,rfl,rfl,q⟩:=xkn q;exact⟨rfl,by rw[xip (p:=i=j) ⟨fun e=>V.str.inj e,fun e=>by rw[e]⟩];exact q⟩
def kU(g:Int→V):V→Hp→VK→Prop:=fun x H Q=>match x with
 | .int i=>Q (g i) H
 |_=>False
theorem xqV:UnR X (unaryOp .USub) (kU fun i=>.int (-i)):=xpY.imp fun x H Q q=>by
 cases x with
 |int i=>exact⟨i,rfl,q⟩
 |_=>exact aS q
def xfK(Q:Bool→Hp→Prop):VK:=fun x H1=>match x with
 | .bl k=>Q k H1
 |_=>False
theorem jL{Q:Bool→Hp→Prop}{x:V}{H1:Hp}(q:xfK Q x H1):∃k,x= .bl k∧Q k H1:=by
 cases x with
 |bl k=>exact⟨k,rfl,q⟩
 |_=>exact aS q
def cB(t:TE):TT:=fun σ H Q=>t σ H (xfK Q)
variable {a b c:Expr} {ta tb tc:TE} {tA tB':TT} {pos:Pos} {rest:List Expr}
theorem xO{op:CmpOp}{r:R2}(ho:OpR X (bz op) r)(ha:PE X a ta)(hb:PE X b tb)(hm:cE op b=false:=by exact xl0 _):PT X (.Compare a [op] [b] pos) (cB (tOp r ta tb)):=by
 intro pins s σ H Q I h;refine fy (thn (ha pins s σ H _ I h) fun v s1 ⟨x,H1,I1,r1,q1⟩=>thn (hb pins s1 σ H1 _ I1 q1) fun u s2 ⟨y,H2,I2,r2,q2⟩=>
  thn (ho pins s2 σ H2 x y v u _ I2 r1 r2 q2) fun c s3 ⟨z,H3,I3,r3,q3⟩=>?_) hm
 obtain⟨k,rfl,q⟩:=jL q3;cases r3;exact bW ⟨H3,I3,q⟩
theorem yY{op:CmpOp}{r:R2}(ho:OpR X (bz op) r)(ha:PE X a ta)(hb:PE X b tb)(hm:cE op b=false:=by exact xl0 _):PE X (.Compare a [op] [b] pos) (tOp r ta tb):=xoD ho ha hb hm
theorem zh{e:Expr}{t:TE}(h:PE X e t)(he:∀whole,isTrue e X.env whole=(do let v ←whole;gF e.pos;eW [v] (truthy v)):=by intro _;rfl):PT X e (cB t):=by
 intro pins s σ H Q I hw;refine isTrue_plain (thn (h pins s σ H _ I hw) fun v s1 ⟨x,H1,I1,r1,q1⟩=>?_) (he _);obtain⟨d,rfl,q⟩:=jL q1;cases r1;exact bW ⟨H1,I1,q⟩
def xrF(t u:TT):TT:=fun σ H Q=>t σ H fun c H1=>(c=true→u σ H1 Q)∧(c=false→Q false H1)
def cOr(t u:TT):TT:=fun σ H Q=>t σ H fun c H1=>(c=true→Q true H1)∧(c=false→u σ H1 Q)
theorem xdF(ha:PT X a tA)(hb:PW X (.BoolOp .And (b::rest) pos) tB'):PW X (.BoolOp .And (a::b::rest) pos) (xrF tA tB'):=by
 intro wh pins s σ H Q I h;refine isTrue_and (thn (ha pins s σ H _ I h) fun c s1 ⟨H1,I1,q1⟩=>?_);cases c with
 |true=>exact hb wh pins s1 σ H1 Q I1 (q1.1 rfl)
 |false=>exact⟨H1,I1,q1.2 rfl⟩
theorem xaN(ha:PT X a tA)(hb:PW X (.BoolOp .Or (b::rest) pos) tB'):PW X (.BoolOp .Or (a::b::rest) pos) (cOr tA tB'):=by
 intro wh pins s σ H Q I h;refine isTrue_or (thn (ha pins s σ H _ I h) fun c s1 ⟨H1,I1,q1⟩=>?_);cases c with
 |true=>exact⟨H1,I1,q1.1 rfl⟩
 |false=>exact hb wh pins s1 σ H1 Q I1 (q1.2 rfl)
def xqW(ta tb:TE):TE:=fun σ H Q=>ta σ H (xfK fun c H1=>(c=true→tb σ H1 Q)∧(c=false→Q (.bl false) H1))
def xrG(ta tb:TE):TE:=fun σ H Q=>ta σ H (xfK fun c H1=>(c=true→Q (.bl true) H1)∧(c=false→tb σ H1 Q))
def xqX(ta:TE):TE:=fun σ H Q=>ta σ H (xfK fun c H1=>Q (.bl (!c)) H1)
theorem zK(ha:PE X a ta)(hb:PE X (.BoolOp .And (b::rest) pos) tb):PE X (.BoolOp .And (a::b::rest) pos) (xqW ta tb):=by
 intro pins s σ H Q I h;refine BoolOp_and (thn (ha pins s σ H _ I h) fun v s1 ⟨x,H1,I1,r1,q1⟩=>?_);obtain⟨c,rfl,q1⟩:=jL q1;cases r1;refine bW ?_;cases c with
 |true=>exact hb pins s1 σ H1 Q I1 (q1.1 rfl)
 |false=>exact⟨.bl false,H1,I1,rfl,q1.2 rfl⟩
theorem xqY(ha:PE X a ta)(hb:PE X (.BoolOp .Or (b::rest) pos) tb):PE X (.BoolOp .Or (a::b::rest) pos) (xrG ta tb):=by
 intro pins s σ H Q I h;refine BoolOp_or (thn (ha pins s σ H _ I h) fun v s1 ⟨x,H1,I1,r1,q1⟩=>?_);obtain⟨c,rfl,q1⟩:=jL q1;cases r1;refine bW ?_;cases c with
 |false=>exact hb pins s1 σ H1 Q I1 (q1.2 rfl)
 |true=>exact⟨.bl true,H1,I1,rfl,q1.1 rfl⟩
theorem xp8(ha:PE X a ta):PE X (.UnaryOp .Not a pos) (xqX ta):=by
 intro pins s σ H Q I h;refine UnaryOp_ (thn (ha pins s σ H _ I h) fun v s1 ⟨x,H1,I1,r1,q1⟩=>?_);obtain⟨c,rfl,q1⟩:=jL q1;cases r1;exact not_of (bW ⟨.bl (!c),H1,I1,rfl,q1⟩)
def cIf(t:TT)(ta tb:TE):TE:=fun σ H Q=>t σ H fun c H1=>(c=true→ta σ H1 Q)∧(c=false→tb σ H1 Q)
theorem xk7{c:Expr}(hc:PT X c tA)(ha:PE X a ta)(hb:PE X b tb):PE X (.IfExp c a b pos) (cIf tA ta tb):=by
 intro pins s σ H Q I h;refine wpAny_IfExp (thn (hc pins s σ H _ I h) fun d s1 ⟨H1,I1,q1⟩=>?_);cases d with
 |true=>exact ha pins s1 σ H1 Q I1 (q1.1 rfl)
 |false=>exact hb pins s1 σ H1 Q I1 (q1.2 rfl)
def xrH(c:TT)(t u:TS):TS:=fun D σ H=>c σ H fun b H1=>(b=true→t D σ H1)∧(b=false→u D σ H1)
theorem xM{c:Expr}{p q:List Stmt}{tc:TT}{t u:TS}(hc:PT X c tc)(ha:PSs X p t)(hb:PSs X q u):PS X (.If c p q pos) (xrH tc t u):=by
 intro pins s σ H D I h;refine wpAny_If (thn (hc pins s σ H _ I h) fun d s1 ⟨H1,I1,q1⟩=>?_);cases d with
 |true=>exact ha pins s1 σ H1 D I1 (q1.1 rfl)
 |false=>exact hb pins s1 σ H1 D I1 (q1.2 rfl)
@[irreducible] def xrR(c:TT)(tb:TS)(D:Ends)(σ:St)(H:Hp):Prop:=∃W:Nat→St→Hp→Prop,(∃m,W m σ H)∧∀m σ H,W m σ H→
 c σ H fun b H1=>(b=true→∃N:St→Hp→Prop,(∀σ' H',N σ' H'→∃m',m'<m∧W m' σ' H')∧tb {D with nx:=N,ct:=N,bk:=D.nx} σ H1)∧(b=false→D.nx σ H1)
@[irreducible] def uL(J:It)(g:TG)(tb:TS)(D:Ends)(σ:St)(H1:Hp):Prop:=∃W:Nat→Nat→St→Hp→Prop,(∃m,W 0 m σ H1)∧∀i m σ H,W i m σ H→
 (J.stop i H∧D.nx σ H)∨(J.go i H∧∃N:St→Hp→Prop,(∀σ' H',N σ' H'→∃m',m'<m∧W (i+1) m' σ' H')∧∀x H',J.yld i H x H'→g x σ H' fun σ2 H2=>tb {D with nx:=N,ct:=N,bk:=D.nx} σ2 H2)
def xnn(wi:TI)(g:TG)(tb:TS):TS:=fun D σ H=>wi σ H fun J H1=>uL J g tb D σ H1
theorem xoO(wi:TI)(g:TG)(tb:TS):xnn wi g tb=xnb wi g tb:=by
 funext D σ H
 unfold xnn xnb
 congr 1
 funext J H1
 unfold uL;rfl
theorem yE{tg iter:Expr}{body:List Stmt}{wi:TI}{g:TG}{tb:TS}{pos:Pos}(hp:PassesOwn (model X.prog X.w) X.A X.env X.xe)(hc:X.calm=true)(hi:PI X tg iter wi)(hg:PG X tg g)(hb:PSs X body tb)
  (hs:∀x,fc iter X.env x=pure x:=by intro _;rfl):PS X (.For tg iter body [] pos) (xnn wi g tb):=by
 rw[xoO];exact xpQ hp hc hi hg hb hs
def xrI(t:TS):TS:=fun D σ H=>∃M:L2.St→Hp→Prop,t {D with nx:=M} σ H∧∀σ' H',M σ' H'→D.nx σ' H'
theorem zu{st:Stmt}{t:TS}(h:PS X st t):PS X st (xrI t):=by
 intro pins s σ H D I q;obtain⟨M,q1,q2⟩:=q;refine thn (h pins s σ H _ I q1) fun f s' z=>?_;cases f with
 |next=>obtain⟨σ',H',I',m⟩:=z;exact⟨σ',H',I',q2 σ' H' m⟩
 |brk=>exact z
 |cont=>exact z
 |ret v=>exact z
def xp9(i:Nat):TG:=fun v σ H Q=>∀y,y=v→Q (σ.set i (some y)) H
theorem xoP(te:TE)(i:Nat):xe3 te (xp9 i)=xe3 te (xfv i):=by
 funext D σ H
 unfold xe3
 congr 1
 funext x H1
 exact propext ⟨fun q=>q x rfl,fun q y e=>by rw[e];exact q⟩
theorem jZ{i:Nat}{x:Str}{e:Expr}{te:TE}{pos':Pos}(hN:X.N.Nodup)(hi:X.N[i]? =some x)(hx:Loc X.env.scope x)(he:PE X e te)(hs:eM e (some (.Name x pos')) pos.line X.env=pure false:=by rfl)
  (hf:X.fn x=true∨X.env.scope.names.lookup x=some .local:=by first|exact .inl rfl|exact .inr rfl|assumption):PS X (.Assign [.Name x pos'] e pos) (xe3 te (xp9 i)):=by
 rw[xoP];exact xD hN hi hx he hs hf
theorem xci{e:Int}{G:V→Prop}(h:∀i,i=e→G (.int i)):∀y,y=V.int e→G y:=fun y q=>by rw[q];exact h e rfl
theorem xgH{v:V}{G:V→Prop}(h:G v):∀y,y=v→G y:=fun y q=>by rw[q];exact h
end
end L2
namespace L2
open PySem PySem.Spec PyProof.Rows
def yV(cells:List (Str×Addr)):List (Str×cK)→List (Str×Addr)→List (Str×Addr)
 |[],cs=>cs
 |(n,k)::r,cs=>yV cells r (if k== .free then(n,(cells.lookup n).getD 0)::cs else cs)
theorem xcF{scope:Scope}{env:Env}(h:∀y∈scope.names,y.2= .free→∃c,env.cells.lookup y.1=some c):iI scope env=pure (yV env.cells scope.names []):=by
 have all:∀(l:List (Str×cK)) (cs:List (Str×Addr)),(∀y∈l,y.2= .free→∃c,env.cells.lookup y.1=some c)→
   (forIn l cs fun x r=>match x with
    |(name,kind)=>if (kind==bA)=true then do let a ←cellOf env name;pure (dJ ((name,a)::r))else pure (dJ r):Sem (List (Str×Addr)))=pure (yV env.cells l cs):=by
  intro l
  induction l with
  |nil=>intro cs _;rfl
  |cons y r ih=>
   intro cs hl;obtain⟨n,k⟩:=y;rw[List.forIn_cons]
   by_cases hk:k= .free
   ·subst hk;obtain⟨c,hc⟩:=hl (n,.free) a9 rfl;have e:cellOf env n=pure c:=by unfold cellOf;rw[hc]
    simp only[beq_self_eq_true,if_true,e,pure_bind];rw[ih _ fun z hz=>hl z (aQ _ hz)];simp[yV,hc]
   ·have hb:(k==bA)=false:=by simpa using hk
    simp only[hb,cS,if_false,pure_bind];rw[ih _ fun z hz=>hl z (aQ _ hz)];simp[yV,hb]
 unfold iI;have:=all scope.names [] h;simp only[bind_pure]at this⊢;exact this
theorem xe7{cells:List (Str×Addr)}:∀{l:List (Str×cK)} {cs:List (Str×Addr)} {x:Str} {c:Addr},(∀y∈l,y.2= .free→∃c,cells.lookup y.1=some c)→(yV cells l cs).lookup x=some c→
  cs.lookup x=some c∨cells.lookup x=some c
 |[],cs,x,c,_,h=>.inl h
 |(n,k)::r,cs,x,c,hl,h=>by
  unfold yV at h;rcases xe7 (fun z hz=>hl z (aQ _ hz)) h with q|q
  ·split at q
   ·rename_i hk;rw[bD]at q
    split at q
    ·rename_i hx;obtain⟨c',hc⟩:=hl (n,k) a9 (by simpa using hk);have e:x=n:=by simpa using hx
     subst e;rw[hc]at q
     right
     rw[hc];simpa using q
    ·exact .inl q
   ·exact .inl q
  ·exact .inr q
theorem xcG{cells:List (Str×Addr)}:∀{l:List (Str×cK)} {cs:List (Str×Addr)} {x:Str},(x,bA)∈l∨(∃c,cs.lookup x=some c)→∃c,(yV cells l cs).lookup x=some c
 |[],cs,x,h=>by
  rcases h with h|h
  ·simp at h
  ·exact h
 |(n,k)::r,cs,x,h=>by
  unfold yV;refine xcG ?_;rcases h with h|⟨c,h⟩
  ·rcases aq.mp h with h|h
   ·cases h
    right
    simp
   ·exact .inl h
  ·right
   split
   ·rw[bD]
    split
    ·exact⟨_,rfl⟩
    ·exact⟨c,h⟩
   ·exact⟨c,h⟩
def Cx.blk(X:Cx)(scope:Scope)(C:Addr)(Nc:List Str)(s₂:af)(H₂:Hp)(fp:List Addr):Cx:=
 {X with N:=Nc,s₀:=s₂,H₀:=H₂,env:=compEnvC scope (yV X.env.cells scope.names []) C X.env,outer:=X.stack,stack:=X.stack,ex:=fp,fn:=fun _=>false,pn:=[],xe:=fun _ _=>False,cp:=fun _=>false}
def xfL(X:Cx)(scope:Scope):List Nat→List Str→Prop
 |[],[]=>True
 |j::js,y::ys=>(X.N[j]? =some y∧scope.names.lookup y=some .free∧(X.env.kindOf y=some .cell∨X.env.kindOf y=some .free))∧xfL X scope js ys
 |_,_=>False
def xa2(σ:St)(cap:List Nat):St:=cap.map fun j=>(σ[j]?).getD none
structure uM(X:Cx)(scope:Scope)(x:Str)(cap:List Nat)(ys:List Str):Prop where
 kind:scope.kind= .function
 nocell:∀y∈scope.names,y.2≠.cell
 locs:∀y∈scope.names,y.2= .local→scope.names.lookup y.1=some .local
 lx:scope.names.lookup x=some .local
 fr:∀y∈scope.names,y.2= .free→X.env.kindOf y.1=some .cell∨X.env.kindOf y.1=some .free
 cap:xfL X scope cap ys
 nd:(x::ys).Nodup
theorem uW{X:Cx}{scope:Scope}{x:Str}{cap:List Nat}{ys:List Str}(kind:scope.kind= .function)(h1:(scope.names.all fun y=> !(y.2== .cell))=true)(h2:(scope.names.all fun y=> !(y.2== .local)||scope.names.lookup y.1==some .local)=true)
  (hx:scope.names.lookup x=some .local) (h3:(scope.names.all fun y=> !(y.2== .free)||(X.env.kindOf y.1==some .cell||X.env.kindOf y.1==some .free))=true) (hcap:xfL X scope cap ys) (hnd:(x::ys).Nodup):uM X scope x cap ys:=by
 refine⟨kind,fun y hy e=>?_,fun y hy e=>?_,hx,fun y hy e=>?_,hcap,hnd⟩
 ·have:=cL.mp h1 y hy;rw[e]at this;exact absurd this (by decide)
 ·have:=cL.mp h2 y hy;rw[e]at this;simpa using this
 ·have:=cL.mp h3 y hy;rw[e]at this;simpa using this
theorem xdG{X:Cx}{scope:Scope}{σ:St}:∀{cap:List Nat} {ys:List Str} {i:Nat} {y:Str} {v:V},xfL X scope cap ys→ys[i]? =some y→(xa2 σ cap)[i]? =some (some v)→
  ∃j:Nat,X.N[j]? =some y∧σ[j]? =some (some v)∧scope.names.lookup y=some .free∧(X.env.kindOf y=some .cell∨X.env.kindOf y=some .free)
 |[],[],i,y,v,_,h,_=>by simp at h
 |j::js,z::zs,0,y,v,⟨⟨h1,h2,h3⟩,_⟩,e1,e2=>by
  simp at e1;subst e1;refine⟨j,h1,?_,h2,h3⟩;simp only[xa2,bp,List.getElem?_cons_zero,j9]at e2;cases q:σ[j]? with
  |none=>rw[q]at e2;cases e2
  |some w=>rw[q]at e2;simp at e2;rw[e2]
 |j::js,z::zs,i+1,y,v,⟨_,h⟩,e1,e2=>xdG (i:=i) h (by simpa using e1) (by simpa [xa2]using e2)
 |[],_::_,_,_,_,h,_,_=>h.elim
 |_::_,[],_,_,_,h,_,_=>h.elim
theorem xhz{X:Cx}{scope:Scope}:∀{cap:List Nat} {ys:List Str},xfL X scope cap ys→cap.length=ys.length
 |[],[],_=>rfl
 |_::_,_::_,⟨_,h⟩=>by simp[xhz h]
 |[],_::_,h=>h.elim
 |_::_,[],h=>h.elim
theorem xe8{l:List (Str×cK)}{y:Str}{k:cK}(h:l.lookup y=some k):(y,k)∈l:=PySem.mem_of_lookup h
theorem xdH{env:Env}:∀{names:List (Str×cK)} {x:Str},names.lookup x=some .free→
  (names.map fun(n,k)=>if (k==bA&&env.scope.kind== .function&&env.kindOf n==some .cell)then(n,iX)else(n,k)).lookup x=some .cell∨
  (names.map fun(n,k)=>if (k==bA&&env.scope.kind== .function&&env.kindOf n==some .cell)then(n,iX)else(n,k)).lookup x=some .free
 |[],_,h=>by simp at h
 |(n,k)::r,x,h=>by
  have ih:= @xdH env r x;rw[bp];rw[bD]at h;cases hx:x==n with
  |true=>
   rw[hx]at h;simp only[j9]at h;subst h;dsimp only
   split
   ·left;rw[bD,hx]
   ·right;rw[bD,hx]
  |false=>
   rw[hx]at h;dsimp only
   split
   ·rw[bD,hx];exact ih h
   ·rw[bD,hx];exact ih h
theorem xaO{env:Env}:∀{names:List (Str×cK)} {x:Str} {k:cK},
  (names.map fun(n,k)=>if (k==bA&&env.scope.kind== .function&&env.kindOf n==some .cell)then(n,iX)else(n,k)).lookup x=some k→(k= .cell∨k= .free)→(∀y∈names,y.2≠.cell)→(x,bA)∈names
 |[],_,_,h,_,_=>by simp at h
 |(n,k')::r,x,k,h,hk,hc=>by
  rw[bp]at h;have hc':∀y∈r,y.2≠.cell:=fun y hy=>hc y (aQ _ hy);have nk:k'≠.cell:=hc (n,k') a9;dsimp only at h
  split at h
  ·rename_i q;rw[bD]at h
   split at h
   ·rename_i hx;have e:x=n:=by simpa using hx
    have e2:k'= .free:=by
     simp only[bR,beq_iff_eq]at q;exact q.1.1
    rw[e,e2];exact a9
   ·exact aQ _ (xaO h hk hc')
  ·rw[bD]at h
   split at h
   ·rename_i hx;have e:x=n:=by simpa using hx
    have e3:k'=k:=by simpa using h
    rcases hk with q|q
    ·exact absurd (e3.trans q) nk
    ·rw[e,e3,q];exact a9
   ·exact aQ _ (xaO h hk hc')
section
variable {X:Cx} {scope:Scope} {x:Str} {cap:List Nat} {ys:List Str}
theorem uM.clos(B:uM X scope x cap ys)(ok:X.Ok):∀y∈scope.names,y.2= .free→∃c,X.env.cells.lookup y.1=some c:=fun y hy e=>ok.has y.1 (B.fr y hy e)
theorem uM.sub(B:uM X scope x cap ys)(ok:X.Ok){z:Str}{c:Addr}(h:(yV X.env.cells scope.names []).lookup z=some c):X.env.cells.lookup z=some c:=by
 rcases xe7 (B.clos ok) h with q|q
 ·simp at q
 ·exact q
theorem uM.start{pins:List (Addr×Obj)}{σ:St}{H₂:Hp}{s₂:af}{fp:List Addr}{h₁:Heap}{tk:Nat}{C D:Addr}(B:uM X scope x cap ys)(I:Inv X pins σ H₂ s₂)
  (hf:∀b∈fp,xbR X pins H₂ b) (hD:s₂.heap.objs.size≤D) (hC:s₂.heap.objs.size≤C) (hDC:D≠C) (hk:∀b o,s₂.heap.get? b=some o→h₁.get? b=some o)
  (hns:∃m,h₁.Ns C m) (hl:h₁.get? D=some {cls:=.type "list",data:=.seq ([]:List Value).toArray}) (hfp:∀b∈fp,b<s₂.heap.objs.size):
  Inv (X.blk scope C (x::ys) s₂ H₂ fp) [] (none::xa2 σ cap) (upd H₂ D (.lst [])) {s₂ with heap:=h₁,toks:=tk}:=by
 have ok:=I.ok;have freshC:H₂ C=none:=I.hok.fresh hC;have freshD:H₂ D=none:=I.hok.fresh hD;have lt:∀b o,s₂.heap.get? b=some o→b<s₂.heap.objs.size:=fun b o e=>ay e;refine⟨⟨ok.mod,B.kind,ok.glob,ok.blt,hC,fun y z c h1 h2=>ok.inj y z c (B.sub ok h1) (B.sub ok h2),fun y hy=>?_,fun y c h=>(aI h).elim,ok.hd,ok.frames,.inl rfl,fun b hb=>⟨?_,fun y c h e=>?_⟩,I.bs,bo ok.bsz I.sz,fun b o e hb=>?_,fun b hb hs=>?_,I.stack,I.stkFree,fun y c h=>(aI h).elim,fun b hb=>I.hok.fresh hb⟩,
  rfl,I.bare,Un.laid hk hD freshD,?_,fun y c h=>?_,?_,fun y c h=>?_,fun p hp=>?_,?_,?_⟩
 ·have hy':(relabel scope X.env).names.lookup y=some .cell∨(relabel scope X.env).names.lookup y=some .free:=hy;have m:(y,bA)∈scope.names:=by
   rcases hy' with q|q
   ·exact xaO q (.inl rfl) B.nocell
   ·exact xaO q (.inr rfl) B.nocell
  exact xcG (.inl m)
 ·exact aH (aG (hfp b hb) hC)
 ·exact(hf b hb).2.2.2.2.1 y c (B.sub ok h) e
 ·rcases(hf b hb).2.2.2.1 with q|q
  ·exact ok.noex b o e q
  ·exact absurd (aG (ay (ok.bs b o e).1) q) (bM _)
 ·rcases aq.mp (I.stkSub b hs)with q|q
  ·exact(hf b hb).2.1 q
  ·exact(hf b hb).2.2.1 q
 ·obtain⟨m,hm⟩:=hns;refine⟨m,hm,fun i y v e1 e2 e3=>?_⟩;cases i with
  |zero=>simp at e2
  |succ i=>
   obtain⟨j,n1,n2,n3,n4⟩:=xdG (i:=i) B.cap (by simpa [Cx.blk]using e1) (by simpa using e2);obtain⟨m0,hn0,hl0⟩:=I.loc;have vis:Vis X.env.scope y:=by
    rcases n4 with q|q
    ·exact .inr (.inl q)
    ·exact .inr (.inr q)
   obtain⟨u,ru,l⟩:=hl0 j y v n1 n2 vis;refine⟨u,ru,.inr ⟨xdH n3,?_⟩⟩;rcases l with⟨k,_⟩|⟨_,c,ec,z⟩
   ·rw[k]at n4;rcases n4 with q|q<;> cases q
   ·obtain⟨c',ec'⟩:=xcG (cells:=X.env.cells) (cs:=[]) (.inl (xe8 n3));have:=B.sub ok ec';rw[ec]at this;cases this;obtain⟨o,ho,hd⟩:=z;exact⟨c,ec',o,hk c o ho,hd⟩
 ·obtain⟨v,o,ho,hd⟩:=I.cell y c (B.sub ok h);exact⟨v,o,hk c o ho,hd⟩
 ·show upd H₂ D _ C=none;rw[xr (au hDC)];exact freshC
 ·obtain⟨v,o,ho,hd⟩:=I.cell y c (B.sub ok h);rw[xr (aH (aG (lt c o ho) hD))];refine(I.freeC y c (B.sub ok h)).imp id fun⟨_,o',ho',hno⟩=>⟨rfl,o',ho',fun z i v e1 k e2=>?_⟩;cases i with
  |zero=>simp at e2
  |succ i=>
   obtain⟨j,n1,n2,n3,n4⟩:=xdG (i:=i) B.cap (by simpa [Cx.blk]using e1) (by simpa using e2);exact hno z j v n1 n4 n2
 ·exact absurd (show p∈([]:List (Addr×Obj))from hp) (by simp)
 ·exact I.hok.laid hk hD ⟨bL _,[],0,.nil,hl⟩
 ·simp[Cx.blk,xa2,xhz B.cap]
theorem uM.back{pins:List (Addr×Obj)}{σ:St}{H₂ H':Hp}{s₂ s':af}{fp:List Addr}{C:Addr}{pl:List (Addr×Obj)}{σ':St}(B:uM X scope x cap ys)(I:Inv X pins σ H₂ s₂)
  (hf:∀b∈fp,xbR X pins H₂ b) (J:Inv (X.blk scope C (x::ys) s₂ H₂ fp) pl σ' H' s'):Inv X pins σ H' s':=
 I.call' (ch:=fp) J.os J.base J.hok J.bare fun b hb=>by
  obtain⟨f0,f1,f2,f3,f4,f5⟩:=hf b hb;refine⟨?_,f1,f4,f5⟩;rcases f3 with q|q
  ·exact .inl q
  ·exact .inr q
theorem uM.far{pins:List (Addr×Obj)}{σ:St}{H₂ H':Hp}{s₂ s':af}{fp:List Addr}{C:Addr}{pl:List (Addr×Obj)}{σ':St}(I:Inv X pins σ H₂ s₂)
  (hC:s₂.heap.objs.size≤C) (J:Inv (X.blk scope C (x::ys) s₂ H₂ fp) pl σ' H' s'):
  H' C=none∧C≠X.env.locals∧X.s₀.heap.objs.size≤C∧(∀z c,X.env.cells.lookup z=some c→c≠C)∧∀p∈X.pn++pins,p.1≠C:=by
 refine⟨J.free,eN (aG I.lt hC),bo I.sz hC,fun z c e q=>?_,fun p hp q=>?_⟩
 ·obtain⟨v,w⟩:=I.cell z c e;exact absurd (aG w.lt (by rw[q];exact hC)) (bM _)
 ·exact absurd (aG (ay (I.pin p hp).1) (by rw[q];exact hC)) (bM _)
end
theorem xk8{prog:av}{w:World}{A:aL}{R:gJ→af→Prop}{s:af}{elt tg iter:Expr}{ifs:List Expr}{scope:Scope}{pos:Pos}{it acc:Value}{env:Env}(J:Nat→af→Prop)
  (go:∀n s,J n s→wpAny (model prog w) A (pyNext it) (fun r s1=>match r with
   |none=>R (.ok .next) s1
   |some v=>wpAny (model prog w) A (fH tg it v) (fun _ s2=>wpAny (model prog w) A (gc tg env v) (fun _ s3=>
     wpAny (model prog w) A (forIn ifs true fun c r=>if r=true then do let ok ←isTrue c env (eval c env);pure (dJ ok)else pure (dJ r)) (fun ok s4=>
      if ok=true then wpAny (model prog w) A (eval elt env) (fun y s5=>wpAny (model prog w) A (call (.builtin "list.append") [acc,y]) (fun _ s6=>∃m,m<n∧J m s6) (fun _ _=>False) s5) (fun _ _=>False) s4
      else∃m,m<n∧J m s4) (fun _ _=>False) s3) (fun _ _=>False) s2) (fun _ _=>False) s1) (fun _ _=>False) s)
  (n:Nat) (h:J n s):ck (model prog w) A (.compLoop (.ListComp elt [⟨tg,iter,ifs,0⟩] scope pos) 0 it acc env) R s:=by
 refine codeAny_loop rfl J (fun n s hJ=>?_) n h;show wpAny _ A ((compTurn (.ListComp elt [⟨tg,iter,ifs,0⟩] scope pos) 0 it acc env).onRaise (fun x=>do noteFrame x env;theTreesLotGoes x)) _ _ s;refine wpAny_noted ?_;rw[compTurn_list];refine aa (cF (aa (aT (go n s hJ) (fun r s1 h1=>?_) fun _ _ z=>z.elim)));cases r with
 |none=>exact ak h1
 |some v=>
  refine aa (aT h1 (fun _ s2 h2=>aa (aT h2 (fun _ s3 h3=>aa (aT h3 (fun ok s4 h4=>?_) fun _ _ z=>z.elim)) fun _ _ z=>z.elim)) fun _ _ z=>z.elim);cases ok with
  |false=>exact ak ⟨rfl,h4⟩
  |true=>
   exact aa (aa (aT h4 (fun y s5 h5=>aa (aT h5 (fun _ s6 h6=>ak (ak ⟨rfl,h6⟩)) fun _ _ z=>z.elim)) fun _ _ z=>z.elim))
def CTs(Xc:Cx)(ifs:List Expr)(t:TT):Prop:=
 ∀(pins:List (Addr×Obj)) (s:af) (σ:St) (H:Hp) (Q:Bool→Hp→Prop),Inv Xc pins σ H s→t σ H Q→
  wpAny (model Xc.prog Xc.w) Xc.A (forIn ifs true fun c r=>if r=true then do let ok ←isTrue c Xc.env (eval c Xc.env);pure (dJ ok)else pure (dJ r)) (TP Xc pins σ Q) Xc.xe s
def xgI:TT:=fun _ H Q=>Q true H
theorem ur{Xc:Cx}:CTs Xc [] xgI:=fun _ _ _ H _ I q=>wpAny_tests_nil ⟨H,I,q⟩
theorem xoQ{Xc:Cx}{c:Expr}{t:TT}(h:PT Xc c t):CTs Xc [c] t:=fun pins s σ H Q I q=>wpAny_tests_one (h pins s σ H Q I q)
abbrev CW:=Nat→Nat→List V→Hp→Prop
@[irreducible] def zv(J:It)(caps:St)(tt:TT)(te:TE)(Q:VK)(H2:Hp):Prop:=∀D,H2 D=none→∃W:CW,(∃m,W 0 m [] (upd H2 D (.lst [])))∧
 ∀i m acc H3,W i m acc H3→H3 D=some (.lst acc)∧((J.stop i H3∧Q (.ref D) H3)∨(J.go i H3∧acc.length<aM∧∀v H4,J.yld i H3 v H4→tt (some v::caps) H4 fun b H5=>
  (b=true→te (some v::caps) H5 fun u H6=>H6 D=some (.lst acc)∧∃m',m'<m∧W (i+1) m' (acc++[u]) (upd H6 D (.lst (acc++[u]))))∧(b=false→∃m',m'<m∧W (i+1) m' acc H5)))
def xoo(cap:List Nat)(wi:TI)(tt:TT)(te:TE):TE:=fun σ H Q=>wi σ H fun J H2=>zv J (xa2 σ cap) tt te Q H2
section
variable {X:Cx} {scope:Scope} {x:Str} {cap:List Nat} {ys:List Str} {elt iter:Expr} {ifs:List Expr} {px pos:Pos} {wi:TI} {tt:TT} {te:TE}
theorem xfM(B:uM X scope x cap ys)(hc:X.calm=true)(he:∀C s H fp,PE (X.blk scope C (x::ys) s H fp) elt te)(ht:∀C s H fp,CTs (X.blk scope C (x::ys) s H fp) ifs tt)
  {pins:List (Addr×Obj)} {σ:St} {s₂:af} {Q:VK} {RR:Value→Addr→gJ→af→Prop} {itv:Value} {E:Value→af→Prop}
  (hp:PIE X pins σ (.Name x px) (fun J H2=>zv J (xa2 σ cap) tt te Q H2) itv s₂)
  (hR:∀(D C:Addr) (H':Hp) (s':af),Inv X pins σ H' s'→(∃m,s'.heap.Ns C m)→H' C=none→C≠X.env.locals→X.s₀.heap.objs.size≤C→(∀z c,X.env.cells.lookup z=some c→c≠C)→(∀p∈X.pn++pins,p.1≠C)→Q (.ref D) H'→RR (.ref D) C (.ok .next) s'):
  wpAny (model X.prog X.w) X.A (newList []) (fun acc s₃=>wpAny (model X.prog X.w) X.A (newFunctionEnv scope X.env.globals (yV X.env.cells scope.names []) [] X.env.qual none .none (some X.env)) (fun cenv s₄=>
   ck (model X.prog X.w) X.A (.compStart (.ListComp elt [⟨.Name x px,iter,ifs,0⟩] scope pos) 0 itv acc {cenv with scope:=relabel scope X.env}) (RR acc cenv.locals) s₄) E s₃) E s₂:=by
 obtain⟨it,fp,tn,J,H2,e,I2,T,st2,f2,hw⟩:=hp;subst e;unfold zv at hw;refine bX (wpAny_newFunctionEnv B.nocell (by intro y hy;simp at hy) (fun h₁ hns₁ hsb₁=>?_) B.kind);dsimp only at hns₁ hsb₁⊢;generalize hG:s₂.heap.push {cls:=.type "list",dict:=none,data:=.seq ([]:List Value).toArray}=G at hns₁ hsb₁⊢;have hsz:G.objs.size=s₂.heap.objs.size+1:=by rw[←hG,dX]
 have hCle:s₂.heap.objs.size≤G.objs.size:=by lia
 have hDC:s₂.heap.objs.size≠G.objs.size:=by lia
 have old:∀b o,s₂.heap.get? b=some o→h₁.get? b=some o:=fun b o q=>by
  have lt:=ay q;refine hsb₁.extBut b o (aH (aG lt hCle)) (ah _ ?_);rw[←hG];exact ah _ q
 have accAt:h₁.get? s₂.heap.objs.size=some {cls:=.type "list",data:=.seq ([]:List Value).toArray}:=by
  refine hsb₁.extBut _ _ hDC (ah _ ?_);rw[←hG];exact aN _ rfl
 have hfp:∀b∈fp,b<s₂.heap.objs.size:=fun b hb=>by
  obtain⟨o,ho,_⟩:=T.obj _ _ st2 b hb;exact ay ho
 obtain⟨W,⟨m0,w0⟩,turn⟩:=hw s₂.heap.objs.size (I2.hok.fresh (ar _));generalize htk:s₂.toks+([]:List (Str×Value)).length=tk;have I0:=B.start (tk:=tk) (C:=G.objs.size) I2 f2 (ar _) hCle hDC old ⟨_,hns₁⟩ accAt hfp;have st0:tn 0 h₁:=T.keep _ _ _ st2 fun b hb o q=>old b o q
 -- what stays true of the iterator's objects
 have f3:∀{H':Hp},(∀b∈fp,H' b=none)→∀b∈fp,xbR (X.blk scope G.objs.size (x::ys) s₂ H2 fp) [] H' b:=fun hn b hb=>by
  obtain⟨f0,f1,f2',f3',f4,f5⟩:=f2 b hb;refine⟨hn b hb,aH (aG (hfp b hb) hCle),fun hs=>?_,.inl hb,fun z c q=>f4 z c (B.sub I2.ok q),fun p hp=>absurd (show p∈([]:List (Addr×Obj))from hp) (by simp)⟩;rcases aq.mp (I2.stkSub b hs)with q|q
  ·exact f1 q
  ·exact f2' q
 have n0:∀b∈fp,upd H2 s₂.heap.objs.size (.lst []) b=none:=fun b hb=>by
  rw[xr (aH (hfp b hb))];exact(f2 b hb).1
 have loop:∀sx:af,sx={s₂ with heap:=h₁,toks:=tk}→
   ck (model X.prog X.w) X.A (.compLoop (.ListComp elt [⟨.Name x px,iter,ifs,0⟩] scope pos) 0 (.ref it) (.ref s₂.heap.objs.size) (compEnvC scope (yV X.env.cells scope.names []) G.objs.size X.env)) (RR (.ref s₂.heap.objs.size) G.objs.size) sx:=by
  rintro sx rfl;refine xk8 (fun n s'=>∃i acc H',Inv (X.blk scope G.objs.size (x::ys) s₂ H2 fp) [] (none::xa2 σ cap) H' s'∧tn i s'.heap∧(∀b∈fp,H' b=none)∧W i n acc H') ?_ m0 ⟨0,[],_,I0,st0,n0,w0⟩;rintro n s3 ⟨i,acc,H3,I3,st3,fr3,w3⟩;obtain⟨hD3,alt⟩:=turn i n acc H3 w3;rcases alt with⟨stop,q⟩|⟨go,hlen,step⟩
  ·refine aT (T.done (X.blk scope G.objs.size (x::ys) s₂ H2 fp) rfl rfl rfl hc i [] s3 _ H3 (fun _ _=>False) I3 (f3 fr3) st3 stop) (fun r s4 ⟨hr,I4⟩=>?_) fun _ _ z=>z.elim;subst hr;obtain⟨g1,g2,g3,g4,g5⟩:=uM.far I2 hCle I4;obtain⟨m4,hm4,_⟩:=I4.loc;exact hR _ _ H3 s4 (B.back I2 f2 I4) ⟨m4,hm4⟩ g1 g2 g3 g4 g5 q
  ·refine aT (T.item (X.blk scope G.objs.size (x::ys) s₂ H2 fp) rfl rfl rfl hc i [] s3 _ H3 (fun _ _=>False) I3 (f3 fr3) st3 go) (fun r s4 ⟨u,hr,h4⟩=>?_) fun _ _ z=>z.elim;subst hr;refine aT h4 (fun _ s4 ⟨v,H4,I4,rv,y4,st4,fr4⟩=>?_) fun _ _ z=>z.elim;have I4':=I4.pinned (f3 fr4) (T.obj _ _ st4);refine gx (xcD (X:=X.blk scope G.objs.size (x::ys) s₂ H2 fp) (i:=0) I4' B.nd rfl (.inl (lookup_relabel_local B.lx)) rv (fun s5 I5=>?_) (.inr (lookup_relabel_local B.lx)));have I5':Inv (X.blk scope G.objs.size (x::ys) s₂ H2 fp) ([]++xa0 fp s4.heap) (some v::xa2 σ cap) H4 s5:=I5;refine aT (ht _ _ _ _ _ s5 _ H4 _ I5' (step v H4 y4)) (fun ok s6 ⟨H6,I6,q6⟩=>?_) fun _ _ z=>z.elim;have pinned:∀{σ7:St} {H7:Hp} {s7:af},Inv (X.blk scope G.objs.size (x::ys) s₂ H2 fp) ([]++xa0 fp s4.heap) σ7 H7 s7→tn (i+1) s7.heap∧∀b∈fp,H7 b=none:=fun{σ7 H7 s7} I7=>by
    refine⟨T.keep _ _ _ st4 fun b hb o e=>(I7.pin (b,o) (aY _ (aY _ (xaK hb e)))).1,fun b hb=>?_⟩;obtain⟨o,e,d⟩:=T.obj _ _ st4 b hb;exact(I7.pin (b,o) (aY _ (aY _ (xaK hb e)))).2.1
   have weak:∀{H7:Hp} {s7:af},Inv (X.blk scope G.objs.size (x::ys) s₂ H2 fp) ([]++xa0 fp s4.heap) (some v::xa2 σ cap) H7 s7→Inv (X.blk scope G.objs.size (x::ys) s₂ H2 fp) [] (none::xa2 σ cap) H7 s7:=fun I7=>
    (I7.unpinned (pins:=[])).weak rfl fun j z e=>by
     cases j with
     |zero=>simp at e
     |succ j=>simpa using e
   cases ok with
   |false=>
    rw[if_neg aI];obtain⟨m',hm',w'⟩:=q6.2 rfl;exact⟨m',hm',i+1,acc,H6,weak I6,(pinned I6).1,(pinned I6).2,w'⟩
   |true=>
    rw[if_pos rfl];refine aT (he _ _ _ _ _ s6 _ H6 _ I6 (q6.1 rfl)) (fun y s7 ⟨z,H7,I7,rz,hD7,m',hm',w'⟩=>?_) fun _ _ z=>z.elim;refine aT (jY (X:=X.blk scope G.objs.size (x::ys) s₂ H2 fp) _ s7 _ H7 (.ref s₂.heap.objs.size) [z] (.ref s₂.heap.objs.size) [y] (fun _ H8=>H8=upd H7 s₂.heap.objs.size (.lst (acc++[z]))) I7 rfl (.cons rz .nil) ⟨_,acc,z,rfl,rfl,hD7,hlen,rfl⟩) (fun _ s8 ⟨_,H8,I8,_,e8⟩=>?_) fun _ _ z=>z.elim;subst e8;exact⟨m',hm',i+1,_,_,weak I8,(pinned I8).1,(pinned I8).2,w'⟩
 exact codeAny_compStart_list (loop _ rfl) (T.self _ 0 _ _ _ st0 (loop _ rfl))
theorem uu(B:uM X scope x cap ys)(hc:X.calm=true)(hi:PI X (.Name x px) iter wi)(he:∀C s H fp,PE (X.blk scope C (x::ys) s H fp) elt te)(ht:∀C s H fp,CTs (X.blk scope C (x::ys) s H fp) ifs tt)
  (hs:∀x,fc iter X.env x=pure x:=by intro _;rfl):PE X (.ListComp elt [⟨.Name x px,iter,ifs,0⟩] scope pos) (xoo cap wi tt te):=by
 intro pins s σ H Q I h;rw[eval_ListComp];refine gS (use:=none) rfl hs (xcF (B.clos I.ok)) B.kind B.locs ?_;refine thn (hi pins s σ H _ I h) fun v s1 h1=>thn h1 fun itv s2 h2=>?_;refine xfM (Q:=Q) (RR:=fun acc C=>compPost (model X.prog X.w) X.A X.xe none (EP X pins σ Q) acc C) B hc he ht h2 ?_;rintro D C H' s' J ⟨m,hm⟩ g1 g2 g3 g4 g5 q;exact⟨m,hm,fun h' sb=>⟨.ref D,H',J.turned (t':=s'.toks) (fun b o hb e=>(sb.2 b hb).trans e) g1 g2 (.inr g3) g4 g5,rfl,q⟩⟩
theorem xk9{i:Nat}{y:Str}{pos' spos:Pos}(B:uM X scope x cap ys)(hc:X.calm=true)(hN:X.N.Nodup)(hi:X.N[i]? =some y)(hy:X.env.scope.names.lookup y=some .local)(hit:PI X (.Name x px) iter wi)
  (he:∀C s H fp,PE (X.blk scope C (x::ys) s H fp) elt te) (ht:∀C s H fp,CTs (X.blk scope C (x::ys) s H fp) ifs tt)
  (hsw:eM (.ListComp elt [⟨.Name x px,iter,ifs,0⟩] scope pos) (some (.Name y pos')) spos.line X.env=pure true:=by rfl)
  (hs:∀x,fc iter X.env x=pure x:=by intro _;rfl):
  PS X (.Assign [.Name y pos'] (.ListComp elt [⟨.Name x px,iter,ifs,0⟩] scope pos) spos) (xe3 (xoo cap wi tt te) (xfv i)):=by
 intro pins s σ H D I h;rw[exec_Assign_Name_used _ _ _ _ hsw];refine aa (cF (aa ?_));show wpAny _ X.A (do let _ ←comprehension (.ListComp elt [⟨.Name x px,iter,ifs,0⟩] scope pos) scope X.env _ (newList []) false (eval iter X.env) (some (gc (.Name y pos') X.env))) _ _ s;refine aa (aT (gS (use:=some (gc (.Name y pos') X.env)) (Q:=fun _ s'=>SP X pins D .next s') rfl hs (xcF (B.clos I.ok)) B.kind B.locs
  (thn (hit pins s σ H _ I h) fun v s1 h1=>thn h1 fun itv s2 h2=>?_)) (fun _ s' hq=>ak (ak hq)) fun _ _ e=>e)
 refine xfM (Q:=fun v H1=>xfv i v σ H1 D.nx) (RR:=fun acc C=>compPost (model X.prog X.w) X.A X.xe (some (gc (.Name y pos') X.env)) (fun _ s'=>SP X pins D .next s') acc C) B hc he ht h2 ?_;rintro Da C H' s' J ⟨m,hm⟩ g1 g2 g3 g4 g5 q;show wpAny _ X.A (gc (.Name y pos') X.env (.ref Da)) _ _ s';refine(gx (xho (v:=.ref Da) J hN hi (.inl hy) rfl (fun s4 J4 ⟨a,sb,ha⟩=>?_) (.inr hy)));have hCa:C≠a:=by
  rcases ha with z|z
  ·rw[z];exact g2
  ·exact fun w=>g4 y a z w.symm
 refine⟨m,hm.sameBut sb hCa,fun h' sb'=>?_⟩;exact⟨_,H',J4.turned (t':=s4.toks) (fun b o hb e=>(sb'.2 b hb).trans e) g1 g2 (.inr g3) g4 g5,q⟩
end
end L2
namespace L2
open PySem PySem.Spec PyProof.Rows
def Its(lo st:Int)(n:Nat):It:=⟨fun i _=>i<n,fun i H x H'=>H'=H∧x= .int (lo+i*st),fun i _=>n≤i⟩
theorem xla{P:av}{w:World}{K:ag}{tg:Expr}(it:Addr)(lo st:Int)(n:Nat):Turn P w K tg (Its lo st n) [it] it (fun i h=>IsRangeIter h it (lo+(i:Nat)*st) ((n:Int) - (i:Nat)) st) where
 mem:=by simp
 obj:=fun i h q b hb=>by
  have e:b=it:=by simpa using hb
  subst e;exact⟨_,q,fun v z=>by
   have z':Data.fields _=Data.cell v:=z;cases z'⟩
 keep:=fun i h h' q k=>k it (by simp) _ q
 item:=by
  intro X hP hw hK hc i pins s σ H E I hf q hg;subst hP hw hK;obtain⟨f0,f1,f2,f3,f4,f5⟩:=hf it (by simp);refine(Walks.range (prog:=X.prog) (w:=X.w) (I.ok.hd hc) it lo st n).item i s _ _ hg q fun v h' tk hv q' kk=>?_;obtain⟨t,rfl⟩:=hv;have I1:Inv X pins σ H {s with heap:=h',toks:=tk}:=I.turned (fun b o hb e=>kk b o (by simpa using hb) e) f0 f1 f3 f4 f5;exact⟨_,rfl,xim (s:={s with heap:=h',toks:=tk}) (n:="range_iterator") q' rfl rfl (by decide) ⟨.int (lo+i*st),H,I1,⟨t,rfl⟩,⟨rfl,rfl⟩,q',fun b hb=>(hf b hb).1⟩⟩
 done:=by
  intro X hP hw hK hc i pins s σ H E I hf q hg;subst hP hw hK;obtain⟨f0,f1,f2,f3,f4,f5⟩:=hf it (by simp);exact wpAny_pyNext_range_end (I.ok.hd hc) q (by have:n≤i:=hg;lia) fun h' eb=>⟨rfl,I.turned (t':=s.toks) (fun b o hb e=>eb b o hb e) f0 f1 f3 f4 f5⟩
 self:=fun _ _ _ _ _ q h=>wpAny_pyIter_rangeiter q h
theorem xmc{P:av}{w:World}{K:ag}{tg:Expr}(it:Addr)(lo st:Int)(n:Nat):Turn P w K tg (Its lo st n) [it] it (fun i h=>iJ h it (lo+(i:Nat)*st) ((n:Int) - (i:Nat)) st) where
 mem:=by simp
 obj:=fun i h q b hb=>by
  have e:b=it:=by simpa using hb
  subst e;exact⟨_,q,fun v z=>by
   have z':Data.fields _=Data.cell v:=z;cases z'⟩
 keep:=fun i h h' q k=>k it (by simp) _ q
 item:=by
  intro X hP hw hK hc i pins s σ H E I hf q hg;subst hP hw hK;obtain⟨f0,f1,f2,f3,f4,f5⟩:=hf it (by simp);refine(Walks.longrange (prog:=X.prog) (w:=X.w) (I.ok.hd hc) it lo st n).item i s _ _ hg q fun v h' tk hv q' kk=>?_;obtain⟨t,rfl⟩:=hv;have I1:Inv X pins σ H {s with heap:=h',toks:=tk}:=I.turned (fun b o hb e=>kk b o (by simpa using hb) e) f0 f1 f3 f4 f5;exact⟨_,rfl,xim (s:={s with heap:=h',toks:=tk}) (n:="longrange_iterator") q' rfl rfl (by decide) ⟨.int (lo+i*st),H,I1,⟨t,rfl⟩,⟨rfl,rfl⟩,q',fun b hb=>(hf b hb).1⟩⟩
 done:=by
  intro X hP hw hK hc i pins s σ H E I hf q hg;subst hP hw hK;obtain⟨f0,f1,f2,f3,f4,f5⟩:=hf it (by simp);exact wpAny_pyNext_long_end (I.ok.hd hc) q (by have:n≤i:=hg;lia) fun h' eb=>⟨rfl,I.turned (t':=s.toks) (fun b o hb e=>eb b o hb e) f0 f1 f3 f4 f5⟩
 self:=fun _ _ _ _ _ q h=>wpAny_pyIter_longiter q h
def yy(a b c:Int):Nat:=(a8 a b c).toNat
theorem xiG(a b c:Int):0≤a8 a b c:=by
 unfold a8
 split
 ·split
  ·have:=Int.ediv_nonneg (a:=b - a - 1) (b:=c) (by lia) (by lia);lia
  ·lia
 ·split
  ·have:=Int.ediv_nonneg (a:=a - b - 1) (b:= -c) (by lia) (by lia);lia
  ·lia
theorem xhA(a b c:Int):((yy a b c:Nat):Int)=a8 a b c:=cH (xiG a b c)
theorem zV(a b:Int):yy a b 1=(b - a).toNat:=by
 unfold yy a8;simp only[show(1:Int) > 0 by decide,if_true]
 split<;> simp<;> lia
section
variable {X:Cx} {tg:Expr}
theorem xiH{pins:List (Addr×Obj)}{σ:St}{H:Hp}{s:af}{R:It→Hp→Prop}{E:Value→af→Prop}{a b c:Int}{t u v:Tok}{r:Addr}(I:Inv X pins σ H s)(hr:IsRange s.heap r a b c t u v)
  (q:R (Its a c (yy a b c)) H):wpAny (model X.prog X.w) X.A (pyIter (.ref r)) (PIE X pins σ tg R) E s:=by
 have e2:a8 a b c=((yy a b c:Nat):Int) - ((0:Nat):Int):=by rw[xhA];simp
 have e1:a=a+((0:Nat):Int)*c:=by simp
 have fp:∀b'∈[s.heap.objs.size],xbR X pins H b':=fun b' hb=>by
  have e:b'=s.heap.objs.size:=by simpa using hb
  subst e;exact I.fpOk (ar _) (I.hok.fresh (ar _))
 cases hsm:fN a b c with
 |true=>
  refine wpAny_pyIter_range hr hsm ⟨s.heap.objs.size,[s.heap.objs.size],_,_,H,rfl,I.kept (t':=s.toks) fun b o e=>ah _ e,xla _ a c (yy a b c),?_,fp,q⟩;show IsRangeIter _ _ (a+((0:Nat):Int)*c) (((yy a b c:Nat):Int) - ((0:Nat):Int)) c;rw[←e1,←e2];exact aN _ rfl
 |false=>
  refine wpAny_pyIter_longrange hr hsm ⟨s.heap.objs.size,[s.heap.objs.size],_,_,H,rfl,I.kept (t':=s.toks) fun b o e=>ah _ e,xmc _ a c (yy a b c),?_,fp,q⟩;show iJ _ _ (a+((0:Nat):Int)*c) (((yy a b c:Nat):Int) - ((0:Nat):Int)) c;rw[←e1,←e2];exact aN _ rfl
def xlb(k:Int→Hp→Prop):List V→Hp→Prop:=fun vs H=>match vs with
 |[.int j]=>k j H
 |_=>False
def xeu(k:Int→Int→Hp→Prop):List V→Hp→Prop:=fun vs H=>match vs with
 |[.int i,.int j]=>k i j H
 |_=>False
def xlc(k:Int→Int→Int→Hp→Prop):List V→Hp→Prop:=fun vs H=>match vs with
 |[.int i,.int j,.int l]=>k i j l H
 |_=>False
theorem xko{k:Int→Hp→Prop}{vs:List V}{H:Hp}(h:xlb k vs H):∃j,vs=[.int j]∧k j H:=by
 unfold xlb at h
 split at h
 ·exact⟨_,rfl,h⟩
 ·exact h.elim
theorem xcH{k:Int→Int→Hp→Prop}{vs:List V}{H:Hp}(h:xeu k vs H):∃i j,vs=[.int i,.int j]∧k i j H:=by
 unfold xeu at h
 split at h
 ·exact⟨_,_,rfl,h⟩
 ·exact h.elim
theorem xno{k:Int→Int→Int→Hp→Prop}{vs:List V}{H:Hp}(h:xlc k vs H):∃i j l,vs=[.int i,.int j,.int l]∧k i j l H:=by
 unfold xlc at h
 split at h
 ·exact⟨_,_,_,rfl,h⟩
 ·exact h.elim
theorem xoR{us:List Value}{i:Int}(r:Vals [.int i] us):∃t,us=[.int i t]:=by
 obtain⟨u,rfl,t,rfl⟩:=Vals.one r;exact⟨t,rfl⟩
theorem xgJ{us:List Value}{i j:Int}(r:Vals [.int i,.int j] us):∃t t',us=[.int i t,.int j t']:=by
 obtain⟨u,v,rfl,⟨t,rfl⟩,⟨t',rfl⟩⟩:=Vals.two r;exact⟨t,t',rfl⟩
theorem xoS{us:List Value}{i j l:Int}(r:Vals [.int i,.int j,.int l] us):∃t t' t'',us=[.int i t,.int j t',.int l t'']:=by
 cases r with
 |cons r rr=>
  obtain⟨t',t'',rfl⟩:=xgJ rr;obtain⟨t,rfl⟩:=r;exact⟨t,t',t'',rfl⟩
def xmd(c:Int):Prop:=c≠0∧c.natAbs.log2<9000
def xqZ(ta:TA):TI:=fun σ H R=>ta σ H (xlb fun j H1=>R (Its 0 1 (yy 0 j 1)) H1)
def xq0(ta:TA):TI:=fun σ H R=>ta σ H (xeu fun i j H1=>R (Its i 1 (yy i j 1)) H1)
def xq1(ta:TA):TI:=fun σ H R=>ta σ H (xlc fun i j c H1=>xmd c∧R (Its i c (yy i j c)) H1)
theorem zR{a:Expr}{ta:TA}{p pos:Pos}(hg:Gl X "range")(hm:X.mg "range"=none)(ha:PA X [a] ta)(hs:aE [a] X.env=[(false,eval a X.env)]:=by rfl):PI X tg (.Call (.Name "range" p) [a] [] pos) (xqZ ta):=by
 intro pins s σ H R I h;refine Call_ (uS I hg hm iK (bE (thn (ha pos pins s σ H _ I h) fun us s1 ⟨vs,H1,I1,r1,q1⟩=>?_) hs rfl));obtain⟨j,rfl,q⟩:=xko q1;obtain⟨t,rfl⟩:=xoR r1;refine call_range_1 (xiH (I1.kept (t':=_) fun b o e=>ah _ e) (ke ..) q)
theorem xme{a b:Expr}{ta:TA}{p pos:Pos}(hg:Gl X "range")(hm:X.mg "range"=none)(ha:PA X [a,b] ta)(hs:aE [a,b] X.env=[(false,eval a X.env),(false,eval b X.env)]:=by rfl)(hs2:aE [b] X.env=[(false,eval b X.env)]:=by rfl):
  PI X tg (.Call (.Name "range" p) [a,b] [] pos) (xq0 ta):=by
 intro pins s σ H R I h;refine Call_ (uS I hg hm iK (bE (thn (ha pos pins s σ H _ I h) fun us s1 ⟨vs,H1,I1,r1,q1⟩=>?_) (by rw[hs,hs2]) (by rw[hs2];rfl)));obtain⟨i,j,rfl,q⟩:=xcH q1;obtain⟨t,t',rfl⟩:=xgJ r1;exact call_range_2 (xiH (I1.kept (t':=_) fun b o e=>ah _ e) (ke ..) q)
theorem xhB{a b c:Expr}{ta:TA}{p pos:Pos}(hg:Gl X "range")(hm:X.mg "range"=none)(ha:PA X [a,b,c] ta)(hs:aE [a,b,c] X.env=(false,eval a X.env)::aE [b,c] X.env:=by rfl)(hpl:(bG pos (aE [b,c] X.env)).any (·.1)=false:=by rfl):
  PI X tg (.Call (.Name "range" p) [a,b,c] [] pos) (xq1 ta):=by
 intro pins s σ H R I h;refine Call_ (uS I hg hm iK (bE (thn (ha pos pins s σ H _ I h) fun us s1 ⟨vs,H1,I1,r1,q1⟩=>?_) hs hpl));obtain⟨i,j,l,rfl,⟨h0,hl⟩,q⟩:=xno q1;obtain⟨t,t',t'',rfl⟩:=xoS r1;exact call_range_3 h0 (xiH (I1.kept (t':=_) fun b o e=>ah _ e) (ke ..) q) (.inl (gR hl))
def xq2(ta:TA):TE:=fun σ H Q=>ta σ H (xeu fun i j H1=>∀p,H1 p=none→Q (.ref p) (upd H1 p (.rng i j)))
theorem xbH{a b:Expr}{ta:TA}{p pos:Pos}(hg:Gl X "range")(hm:X.mg "range"=none)(ha:PA X [a,b] ta)(hs:aE [a,b] X.env=[(false,eval a X.env),(false,eval b X.env)]:=by rfl)(hs2:aE [b] X.env=[(false,eval b X.env)]:=by rfl):
  PE X (.Call (.Name "range" p) [a,b] [] pos) (xq2 ta):=by
 intro pins s σ H Q I h;refine Call_ (uS I hg hm iK (bE (thn (ha pos pins s σ H _ I h) fun us s1 ⟨vs,H1,I1,r1,q1⟩=>?_) (by rw[hs,hs2]) (by rw[hs2];rfl)));obtain⟨i,j,rfl,q⟩:=xcH q1;obtain⟨t,t',rfl⟩:=xgJ r1;refine call_range_2 ⟨.ref s1.heap.objs.size,upd H1 s1.heap.objs.size (.rng i j),I1.laid (fun b o e=>ah _ e) (ar _) ⟨_,_,_,aN _ rfl⟩,rfl,q _ (I1.hok.fresh (ar _))⟩
end
end L2
namespace PySem
open Sem (wp)
section
variable {prog:av} {w:World} {A:aL} {E:Value→af→Prop} {s:af}
theorem xld{R:gJ→af→Prop}{r:Addr}{a b c:Int}{t u v:Tok}{k:Nat}(hnd:A.handled=none)(hr:IsRange s.heap r a b c t u v)(hbig:fN a b c=false)
  (hk:a8 a b c=k) (hle:k≤2^24) (D:Addr) (z:Value) (m₀:Nat) (hD:s.heap.get? D=some {cls:=.type "list",data:=.seq #[] m₀})
  (hR:∀g tk xs m,(∀b o,b≠D→s.heap.get? b=some o→g.get? b=some o)→g.get? D=some {cls:=.type "list",dict:=none,data:=.seq xs m,slots:=#[]}→
   ItemsOf (fun i v=>∃t,v= .int (a+i*c) t) xs k→R (.ok (.ret z)) {s with heap:=g,toks:=tk}):
  wpAny (model prog w) A.in1 (cf (.ref D) (.ref r) z)
   (fun fin s'=>match fin with| .done f=>R (.ok f) s'| .again d=>d.quiet=true∧ck (model prog w) A d R s') (fun e s'=>R (.error e) s') s:=by
 have nDr:D≠r:=fun e=>by rw[e,hr]at hD;simp at hD
 have nDI:D≠s.heap.objs.size:=aH (ay hD);have nDf:D∉[s.heap.objs.size]:=fun q=>nDI (ao.mp q);have Wk:=(Walks.longrange (prog:=prog) (w:=w) (A:=A.in1) hnd s.heap.objs.size a c k).toS;have fin:∀(g:Heap) (m₁ tk:Nat),iJ g s.heap.objs.size (a+((0:Nat):Int)*c) ((k:Int) - ((0:Nat):Int)) c→(∀b o,b≠D→s.heap.get? b=some o→g.get? b=some o)→
   g.get? D=some {cls:=.type "list",data:=.seq #[] m₁}→ck (model prog w) A (.builtin "list.extend.loop" ⟨[.ref D,.ref s.heap.objs.size,z],[]⟩) R {s with heap:=g,toks:=tk}:=by
  intro g m₁ tk q1 q2 q3;refine codeAny_extend_loopS Wk (by rw[a6];omega) D nDf z k 0 _ #[] m₁ rfl (bL _) q1 q3 (ItemsOf.nil _) fun s' xs m hm hD' hx=>?_;rw[Moved.eq_with hm];refine hR s'.heap s'.toks xs m (fun b o hb e=>hm.heap b o (fun hq=>?_) (q2 b o hb e)) hD' hx;rcases aq.mp hq with e'|hq
  ·exact hb e'
  ·exact absurd (ay e) (by rw[ao.mp hq];exact bM _)
 unfold cf;refine aa (wpAny_typeOf (T:="range") ⟨_,hr,rfl⟩ ?_);have x1:gT (.ref D) (.ref r)=false:=by simp[gT,nDr]
 have x2:(d6 "range"==d6 "list")=false:=by decide
 have x3:(d6 "range"==d6 "tuple")=false:=by decide
 simp only[x1,x2,x3,Bool.or_false,cS,if_false];refine aa (wpAny_pyIter_longrange hr hbig ?_);refine aa (br (wpAny_hint_range (n:=k) (ah _ hr) hk hle ?_));generalize hG:s.heap.push {cls:=.type "longrange_iterator",data:=.fields #[bx a,bx (a8 a b c),bx c]}=G;have i1:iJ G s.heap.objs.size (a+((0:Nat):Int)*c) ((k:Int) - ((0:Nat):Int)) c:=by
  have q:G.get? s.heap.objs.size=some {cls:=.type "longrange_iterator",data:=.fields #[bx a,bx (a8 a b c),bx c]}:=by rw[←hG];exact aN _ rfl
  rw[hk]at q;show G.get? _=_;rw[q];simp
 have old:∀b o,s.heap.get? b=some o→G.get? b=some o:=fun b o e=>by rw[←hG];exact ah _ e
 have d1:=old D _ hD;refine wpAny_ite_split (fun _=>?_) (fun _=>ak ⟨d9 F.plain_extend_loop _,fin _ m₀ _ i1 (fun b o _ e=>old b o e) d1⟩);refine aa (wpAny_rule ?_);refine aa ?_;show wpAny _ _ (ic D (·.push .none) >>= fun _=>ic D (·.pop)) _ _ _;refine aa (dM d1 rfl ?_);have d2:=bu (cQ (·.push bj)) d1 rfl;refine dM (hz:=by seq_fits) d2 rfl ?_;have d3:=bu (cQ (·.pop)) d2 rfl;refine ak ⟨d9 F.plain_extend_loop _,fin _ _ _ ?_ (fun b o hb e=>?_) d3⟩
 ·exact(aZ _ _ nDI).trans ((aZ _ _ nDI).trans i1)
 ·exact(aZ _ _ (au hb)).trans ((aZ _ _ (au hb)).trans (old b o e))
theorem xle{R:gJ→af→Prop}{r:Addr}{a b c:Int}{t u v:Tok}{k:Nat}(hnd:A.handled=none)(hr:IsRange s.heap r a b c t u v)
  (hk:a8 a b c=k) (hle:k≤2^24) (D:Addr) (z:Value) (m₀:Nat) (hD:s.heap.get? D=some {cls:=.type "list",data:=.seq #[] m₀})
  (hR:∀g tk xs m,(∀b o,b≠D→s.heap.get? b=some o→g.get? b=some o)→g.get? D=some {cls:=.type "list",dict:=none,data:=.seq xs m,slots:=#[]}→
   ItemsOf (fun i v=>∃t,v= .int (a+i*c) t) xs k→R (.ok (.ret z)) {s with heap:=g,toks:=tk}):
  wpAny (model prog w) A.in1 (cf (.ref D) (.ref r) z)
   (fun fin s'=>match fin with| .done f=>R (.ok f) s'| .again d=>d.quiet=true∧ck (model prog w) A d R s') (fun e s'=>R (.error e) s') s:=by
 cases hs:fN a b c with
 |true=>exact wpAny_extend_range hnd hr hs hk hle D z m₀ hD hR
 |false=>exact xld hnd hr hs hk hle D z m₀ hD hR
theorem xgK{Q:Value→af→Prop}{r:Addr}{a b c:Int}{t u v:Tok}{k:Nat}(hnd:A.handled=none)(hr:IsRange s.heap r a b c t u v)
  (hk:a8 a b c=k) (hle:k≤2^24)
  (hQ:∀g tk xs m,(∀b o,s.heap.get? b=some o→g.get? b=some o)→
   g.get? s.heap.objs.size=some {cls:=.type "list",dict:=none,data:=.seq xs m,slots:=#[]}→ItemsOf (fun i v=>∃t,v= .int (a+i*c) t) xs k→Q (.ref s.heap.objs.size) {s with heap:=g,toks:=tk}):
  wpAny (model prog w) A (call (.type "list") [.ref r]) Q E s:=by
 refine callType_codes (Q₁:=fun obj s₁=>obj= .ref s.heap.objs.size∧s₁={s with heap:=s.heap.push {cls:=.type "list",data:=.seq #[]}}) F.called_list (F.typeCall_list_1 _) F.entry_list_init
  (code_list_new _ ⟨rfl,rfl⟩) fun obj s₁ q₁=>?_
 obtain⟨rfl,rfl⟩:=q₁;generalize hG:s.heap.push {cls:=.type "list",data:=.seq #[]}=G;have old:∀b o,s.heap.get? b=some o→G.get? b=some o:=fun b o e=>by rw[←hG];exact ah _ e
 have hD:G.get? s.heap.objs.size=some {cls:=.type "list",data:=.seq #[]}:=by rw[←hG];exact aN _ rfl
 have nDr:s.heap.objs.size≠r:=fun e=>absurd (ay hr) (by rw[←e];exact bM _);refine⟨⟨_,hD,rfl⟩,F.args_list_init_2 _ _,?_⟩;show wpAny _ _ (do let old ←iq (.ref s.heap.objs.size);Builtin.List.listUpdate (.ref s.heap.objs.size) (fun _=>#[]);letGo old.toList.reverse;cf (.ref s.heap.objs.size) (.ref r) .none) _ _ _;refine aa ?_;unfold iq;refine aa (eY hD rfl (ak ?_));show wpAny _ _ (ic s.heap.objs.size (fun _=>#[]) >>= fun _=>letGo (#[]:Array Value).toList.reverse >>= fun _=>cf (.ref s.heap.objs.size) (.ref r) .none) _ _ _;refine aa (dM hD rfl ?_);have d2:=bu (cQ (fun _=>(#[]:Array Value))) hD rfl;have oth:∀b o,b≠s.heap.objs.size→G.get? b=some o→(G.update s.heap.objs.size (cQ (fun _=>(#[]:Array Value)))).get? b=some o:=
  fun b o hb e=>(aZ _ _ (au hb)).trans e
 refine aa (fY ?_);refine xle (A:=A.in1) hnd (oth r _ (au nDr) (old r _ hr)) hk hle s.heap.objs.size .none _ d2 fun g tk xs m q1 q2 q3=>⟨rfl,?_⟩;exact hQ g tk xs m (fun b o e=>q1 b o (aH (ay e)) (oth b o (aH (ay e)) (old b o e))) q2 q3
end
end PySem
namespace L2
open PySem PySem.Spec PyProof.Rows
def xdI(lo:Int)(n:Nat):List V:=(b8 n).map fun(i:Nat)=>V.int (lo+(i:Int))
theorem xeM(lo:Int)(n:Nat):(xdI lo n).length=n:=by simp[xdI]
theorem xeN:∀{xs:List V} {us:List Value},xs.length=us.length→(∀(j:Nat) (x:V) (u:Value),xs[j]? =some x→us[j]? =some u→RelV x u)→Vals xs us
 |[],[],_,_=>.nil
 |[],_::_,h,_=>by simp at h
 |_::_,[],h,_=>by simp at h
 |x::xs,u::us,h,k=>.cons (k 0 x u rfl rfl) (xeN (by simpa using h) fun j y v e1 e2=>k (j+1) y v (by simpa using e1) (by simpa using e2))
theorem xlf{lo:Int}{n:Nat}{xs:Array Value}(h:ItemsOf (fun i v=>∃t,v= .int (lo+(i:Int)*1) t) xs n):Vals (xdI lo n) xs.toList:=by
 obtain⟨hl,hv⟩:=h;refine xeN (by rw[xeM];simp[hl]) fun j x u e1 e2=>?_;obtain⟨t,rfl⟩:=hv j u (by simpa using e2);unfold xdI at e1;rw[aA]at e1;cases q:(b8 n)[j]? with
 |none=>rw[q]at e1;cases e1
 |some i=>
  rw[q]at e1;have e3:i=j:=by
   obtain⟨h1,h2⟩:=ax.mp q;rw[j4]at h2;exact h2.symm
  subst e3;cases e1;exact⟨t,by rw[Int.mul_one]⟩
section
variable {X:Cx}
theorem vN(hc:X.calm=true):yD X (.type "list") (fun xs H Q=>∃p lo hi,xs=[.ref p]∧H p=some (.rng lo hi)∧yy lo hi 1≤2^24∧∀l,H l=none→Q (.ref l) (upd H l (.lst (xdI lo (yy lo hi 1))))):=by
 intro pins s σ H xs us Q I r h;obtain⟨p,lo,hi,rfl,hp,hz,q⟩:=h;obtain⟨u,rfl,ru⟩:=Vals.one r;cases ru;obtain⟨t,u,v,hr⟩:=I.hok p _ hp;refine xgK (I.ok.hd hc) hr (xhA lo hi 1).symm hz fun g tk xs m k1 k2 k3=>?_;have fr:H s.heap.objs.size=none:=I.hok.fresh (ar _);refine⟨.ref s.heap.objs.size,upd H s.heap.objs.size (.lst (xdI lo (yy lo hi 1))),I.laid (h':=g) (t':=tk) k1 (ar _) ⟨?_,xs.toList,m,xlf k3,by simpa using k2⟩,rfl,q _ fr⟩;rw[xeM,a6];omega
end
end L2
namespace L2
open PySem PySem.Spec PyProof.Rows
mutual
inductive Rp(K:ag)(H:Hp):V→dN→Prop
 |non:Rp K H .non .none
 |bl (b:Bool):Rp K H (.bl b) (.bool b)
 |int (i:Int):Rp K H (.int i) (.int i)
 |str (x:Str):Rp K H (.str x) (.str x)
 |lst {a:Addr} {xs:List V} {ds:List dN}:SqL K H a xs→Rps K H xs ds→Rp K H (.ref a) (.list ds)
 |tup {a:Addr} {xs:List V} {ds:List dN}:SqT K H a xs→Rps K H xs ds→Rp K H (.ref a) (.tuple ds)
inductive Rps(K:ag)(H:Hp):List V→List dN→Prop
 |nil:Rps K H [] []
 |cons {x:V} {d:dN} {xs:List V} {ds:List dN}:Rp K H x d→Rps K H xs ds→Rps K H (x::xs) (d::ds)
end
theorem xg.seqT{K:ag}{H H':Hp}{a:Addr}{xs:List V}(e:xg H H')(h:SqT K H a xs):SqT K H' a xs:=by
 rcases h with(h|⟨o,h⟩)|h
 ·exact .inl (.inl (e _ _ h))
 ·exact .inl (.inr ⟨o,e _ _ h⟩)
 ·exact .inr h
theorem Rps.ints{K:ag}{H:Hp}:∀ns:List Int,Rps K H (ns.map V.int) (ns.map iL)
 |[]=>.nil
 |i::r=>.cons (.int i) (Rps.ints r)
theorem Rp.ints{K:ag}{H:Hp}{a:Addr}{ns:List Int}(h:SqL K H a (ns.map V.int)):Rp K H (.ref a) (.list (ns.map iL)):=.lst h (.ints ns)
section
variable {X:Cx} {pins:List (Addr×Obj)} {σ:St} {H:Hp} {s:af}
mutual
theorem Rp.reads(I:Inv X pins σ H s):∀{v:V} {d:dN} {u:Value},Rp X.K H v d→RelV v u→∃as,Reads s.heap u d as
 |_,_,u,.non,r=>by cases (show u=bj from r);exact⟨_,.none⟩
 |_,_,u,.bl b,r=>by cases (show u=d5 b from r);exact⟨_,.bool b⟩
 |_,_,u,.int i,r=>by obtain⟨t,e⟩:=(show∃t,u=fZ i t from r);subst e;exact⟨_,.int i t⟩
 |_,_,u,.str x,r=>by obtain⟨t,e⟩:=(show∃t,u=f9 x t from r);subst e;exact⟨_,.str x t⟩
 |_,_,u,.lst (a:=a) q rr,r=>by
  cases (show u=aB a from r);obtain⟨its,rv,p,hz⟩:=I.list q;obtain⟨as,ra⟩:=Rps.reads I rr rv;obtain⟨o,ho,hc,n,hd⟩:=p.isList;exact⟨_,.list ho hc hd (by simpa using ra)⟩
 |_,_,u,.tup (a:=a) q rr,r=>by
  cases (show u=aB a from r);obtain⟨its,rv,p,hz⟩:=I.tuple q;obtain⟨as,ra⟩:=Rps.reads I rr rv;obtain⟨o,ho,hc,n,hd⟩:=p;exact⟨_,.tuple ho hc hd (by simpa using ra)⟩
theorem Rps.reads(I:Inv X pins σ H s):∀{v:List V} {d:List dN} {u:List Value},Rps X.K H v d→Vals v u→∃as,ReadsAll s.heap u d as
 |_,_,_,.nil,.nil=>⟨_,.nil⟩
 |_,_,_,.cons q rr,.cons r t=>by
  obtain⟨as,h1⟩:=Rp.reads I q r;obtain⟨bs,h2⟩:=Rps.reads I rr t;exact⟨_,.cons h1 h2⟩
end
end
def xnp(K:ag)(f:Bool→Bool):R2:=fun x y H Q=>∃da db,Rp K H x da∧Rp K H y db∧dw da=true∧dw db=true∧Q (.bl (f (PyData.eqv da db))) H
section
variable {X:Cx}
theorem xiq(hu:X.A.units+64<cLine):OpR X (bz .NotEq) (xnp X.K fun b=> !b):=by
 intro pins s σ H x y v u Q I rx ry q;obtain⟨da,db,hx,hy,sa,sb,q⟩:=q;obtain⟨as,ra⟩:=hx.reads I rx;obtain⟨bs,rb⟩:=hy.reads I ry;exact ne_dataH ra rb sa sb hu ⟨.bl (!PyData.eqv da db),H,I,rfl,q⟩
def xnq:V→Option Value
 | .ty n=>some (.type n)
 | .ref a=>some (.ref a)
 |_=>none
theorem xiI{c:V}{cv v:Value}(h:xnq c=some cv)(r:RelV c v):v=cv:=by
 cases c with
 |ref a=>cases h;exact r
 |ty n=>cases h;exact r
 |_=>cases h
def xqa(K:ag):List V→Hp→VK→Prop:=fun xs H Q=>∃x c t cv b,xs=[x,c]∧xnq c=some cv∧zA K H x t∧aw K t cv=some b∧Q (.bl b) H
theorem uX:yD X (.builtin "isinstance") (xqa X.K):=by
 intro pins s σ H xs us Q I r h;obtain⟨x,c,t,cv,b,rfl,rc,ty,e,q⟩:=h;obtain⟨u,v,rfl,ru,rv⟩:=Vals.two r;have e2:=xiI rc rv;subst e2;exact xl3 I ru ty e fun tk=>⟨.bl b,H,I.tok _,rfl,q⟩
structure xnr(K:ag)(C:Addr)(m:Str)(f:Addr):Prop where
 sp:il K (.ref C) "__getattribute__"=some (some (.builtin "type.__getattribute__"))
 rd:W.readsIn K C (.type "type")=true
 fd:W.findCls K (.ref C) (.type "type") m=some (.val (.ref f))
 kp:bY K (.ref f)=true
theorem xkp{x m:Str}{C f:Addr}{fd:aj}{ps:List Str}{sp:Sp}{dvs:List V}{ds:List Value}{E:XK}{CX:CXT}{k:Nat}{p apos pos:Pos}{e:Expr}{es:List Expr}{t:TA}{pl:Sem Bool}
  (hg:Gl X x) (hm:X.mg x=some (.ref C)) (M:xnr X.K C m f) (F:xE X.prog X.w X.K X.mg X.base CX k f fd ps sp) (hr:xX k X.A) (hb:Binds X.K fd ps ds) (hd:Vals dvs ds) (hx:Passes CX X E) (ha:PA X (e::es) t)
  (hst:aE (e::es) X.env=(false,eval e X.env)::aE es X.env:=by rfl) (hpl:(bG pos (aE es X.env)).any (·.1)=false:=by rfl) (hdb:(x==("__debug__":Str))=false:=by decide)
  (ht:eval (.Call (.Attribute (.Name x p) m apos) (e::es) [] pos) X.env=(do
   let ov ←eval (.Name x p) X.env
   gF apos.atName
   let(f,first) ←eW [ov] (fz ov m pl)
   fk pos f first (bG pos (aE (e::es) X.env)) (gL pos (fg [] X.env))):=by rfl):
  PE X (.Call (.Attribute (.Name x p) m apos) (e::es) [] pos) (xer sp dvs E t):=by
 intro pins s σ H Q I h;refine eB (pl:=pl) (zH I hg hm ?_ hdb) ht;refine W.method_cls I.kIn M.sp (W.cls_value I.kIn M.rd M.fd rfl ?_);have I1:=I.tok (s.toks+1);refine dY (first:=[]) (h₀:=X.base) I.ok.mod.kin M.kp (thn (ha pos pins _ σ H _ I1 h) fun us s2 ⟨vs,H2,I2,r,q2⟩=>⟨I2.kIn,?_⟩) hst hpl;exact xfz F hr hb hd hx I2 r q2
end
end L2
namespace L2
open PySem PySem.Spec PyProof.Rows
theorem yK:bt "len"=some (.builtin "len"):=by decide+kernel
theorem xdJ:bt "max"=some (.builtin "max"):=by decide+kernel
theorem xfN:bt "min"=some (.builtin "min"):=by decide+kernel
theorem xqb:bt "abs"=some (.builtin "abs"):=by decide+kernel
theorem ye:bt "isinstance"=some (.builtin "isinstance"):=by decide+kernel
theorem xiJ:bt "sum"=some (.builtin "sum"):=by decide+kernel
theorem xqc:bt "all"=some (.builtin "all"):=by decide+kernel
theorem zL:bt "list"=some (.type "list"):=by decide+kernel
theorem zB:bt "tuple"=some (.type "tuple"):=by decide+kernel
theorem xfO:bt "int"=some (.type "int"):=by decide+kernel
theorem xoT:bt "bool"=some (.type "bool"):=by decide+kernel
theorem xa3:bt "enumerate"=some (.type "enumerate"):=by decide+kernel
theorem xoU{f:Str}{v:V}{fs:List (Str×V)}{n:Nat}(h:fs.length<n):(uy f v fs).length<n+1:=dI (xbS f v fs) (by lia)
section
variable {X:Cx} {a b c:Expr} {ta tb:TE} {pos:Pos}
theorem xfP(hc:X.calm=true):yD X (.builtin "max") (fun xs H Q=>xeu (fun i j H1=>Q (.int (max i j)) H1) xs H):=(xl1 hc).imp fun xs H Q q=>by
 obtain⟨i,j,rfl,q⟩:=xcH q;refine⟨i,j,rfl,?_⟩;have e:(if j > i then j else i)=max i j:=by split<;> lia
 rw[e];exact q
theorem xfQ(hc:X.calm=true):yD X (.builtin "min") (fun xs H Q=>xeu (fun i j H1=>Q (.int (min i j)) H1) xs H):=(xl2 hc).imp fun xs H Q q=>by
 obtain⟨i,j,rfl,q⟩:=xcH q;refine⟨i,j,rfl,?_⟩;have e:(if j<i then j else i)=min i j:=by split<;> lia
 rw[e];exact q
theorem xq3:yD X (.builtin "abs") (fun xs H Q=>xlb (fun i H1=>Q (.int (i.natAbs:Int)) H1) xs H):=xne.imp fun xs H Q q=>by
 obtain⟨i,rfl,q⟩:=xko q;refine⟨i,rfl,?_⟩;have e:(if i<0 then -i else i)=(i.natAbs:Int):=by split<;> lia
 rw[e];exact q
def isN:V→Bool
 | .non=>true
 |_=>false
theorem xkq(x:V):decide (x= .non)=isN x:=by cases x<;> simp[isN]
def xq4(ta:TE):TT:=fun σ H Q=>ta σ H fun x H1=>Q (isN x) H1
def xqd(ta:TE):TT:=fun σ H Q=>ta σ H fun x H1=>Q (!isN x) H1
theorem xaa{j pos'}(ha:PE X a ta):PT X (.Compare a [.Is] [.Constant .none j pos'] pos) (xq4 ta):=(xlW (xpP ha)).imp fun σ H Q q=>by
 show ta σ H _;have e:(fun x H1=>∃c,V.bl (decide (x=V.non))= .bl c∧Q c H1)=fun x H1=>Q (isN x) H1:=by
  funext x H1;rw[xkq];apply propext;exact⟨fun⟨c,e,q⟩=>by cases e;exact q,fun q=>⟨_,rfl,q⟩⟩
 rw[e];exact q
theorem xev{j pos'}(ha:PE X a ta):PT X (.Compare a [.IsNot] [.Constant .none j pos'] pos) (xqd ta):=(xlW (xoA ha)).imp fun σ H Q q=>by
 show ta σ H _;have e:(fun x H1=>∃c,V.bl (!decide (x=V.non))= .bl c∧Q c H1)=fun x H1=>Q (!isN x) H1:=by
  funext x H1;rw[xkq];apply propext;exact⟨fun⟨c,e,q⟩=>by cases e;exact q,fun q=>⟨_,rfl,q⟩⟩
 rw[e];exact q
end
theorem xbI{lo st:Int}{n:Nat}{g:TG}{tb:TS}{D:Ends}{σ:St}{H:Hp}(Pv:Nat→St→Hp→Prop)(h0:Pv 0 σ H)
  (hs:∀(i:Nat) σ H,i<n→Pv i σ H→g (.int (lo+i*st)) σ H fun σ2 H2=>tb {D with nx:=Pv (i+1),ct:=Pv (i+1),bk:=D.nx} σ2 H2) (hd:∀σ H,Pv n σ H→D.nx σ H):uL (Its lo st n) g tb D σ H:=by
 unfold uL;refine⟨fun i m σ H=>m=n - i∧i≤n∧Pv i σ H,⟨n,by simp,bL _,h0⟩,?_⟩;rintro i m σ H ⟨rfl,hi,p⟩
 by_cases hlt:i<n
 ·refine .inr ⟨hlt,Pv (i+1),fun σ' H' p'=>⟨n - (i+1),by lia,rfl,hlt,p'⟩,fun x H' y=>?_⟩;obtain⟨e,y⟩:=y;subst e y;exact hs i σ _ hlt p
 ·have e:i=n:=by lia
  subst e;exact .inl ⟨ar _,hd σ H p⟩
theorem yZ{K:ag}{l:Addr}{xs:List V}{g:TG}{tb:TS}{D:Ends}{σ:St}{H:Hp}(Pv:Nat→St→Hp→Prop)(h0:Pv 0 σ H)(hl:∀i σ H,i≤xs.length→Pv i σ H→SqL K H l xs)
  (hs:∀i x σ H,xs[i]? =some x→Pv i σ H→g x σ H fun σ2 H2=>tb {D with nx:=Pv (i+1),ct:=Pv (i+1),bk:=D.nx} σ2 H2) (hd:∀σ H,Pv xs.length σ H→D.nx σ H):uL (Itl K l) g tb D σ H:=by
 unfold uL;exact xnc Pv h0 hl hs hd
theorem xhC{K:ag}{l:Addr}{xs:List V}{g:TG}{tb:TS}{D:Ends}{σ:St}{H:Hp}(Pv:Nat→St→Hp→Prop)(h0:Pv 0 σ H)(hl:∀i σ H,i≤xs.length→Pv i σ H→SqT K H l xs)
  (hs:∀i x σ H,xs[i]? =some x→Pv i σ H→g x σ H fun σ2 H2=>tb {D with nx:=Pv (i+1),ct:=Pv (i+1),bk:=D.nx} σ2 H2) (hd:∀σ H,Pv xs.length σ H→D.nx σ H):uL (Itt K l) g tb D σ H:=by
 unfold uL;exact xoC Pv h0 hl hs hd
theorem xg.new{H:Hp}{p:Addr}{o:HO}(h:H p=none):xg H (upd H p o):=fun b u e=>by rw[xr (xF e h)];exact e
theorem xg.put{H H':Hp}{p:Addr}{o:HO}(e:xg H H')(h:H p=none):xg H (upd H' p o):=fun b u q=>by rw[xr (xF q h)];exact e b u q
theorem xg.at{H H':Hp}{p:Addr}{o:HO}(e:xg H H')(h:H p=some o):H' p=some o:=e p o h
end L2
namespace L2
open PySem PySem.Spec PyProof.Rows
theorem xg.of_eq{H H':Hp}{p:Addr}{o:HO}(h:H p=none)(e:upd H p o=H'):xg H H':=by rw[←e];exact xg.new h
theorem xj{H H':Hp}{p:Addr}{o:HO}(e:upd H p o=H'):H' p=some o:=by rw[←e];exact xt
theorem xg.back{H H':Hp}{p:Addr}(e:xg H H')(h:H' p=none):H p=none:=xg.free e h
theorem xg.wr{H0 H H':Hp}{p:Addr}{o:HO}(s:xg H0 H)(f:H0 p=none)(e:upd H p o=H'):xg H0 H':=by rw[←e];exact s.put f
end L2
namespace L2
open PySem PySem.Spec PyProof.Rows
structure zW(H0 H:Hp)(l:Addr)(as:List Addr)(xss:List (List Int)):Prop where
 top:H l=some (.lst (as.map V.ref))
 nd:(l::as).Nodup
 len:as.length=xss.length
 each:∀(i:Nat) (a:Addr) (xs:List Int),as[i]? =some a→xss[i]? =some xs→H a=some (.lst (xs.map V.int))
 fr:H0 l=none
 frs:∀a∈as,H0 a=none
theorem zW.same{H0 H H':Hp}{l:Addr}{as:List Addr}{xss:List (List Int)}(L:zW H0 H l as xss)(s:xg H H'):zW H0 H' l as xss:=
 ⟨s.at L.top,L.nd,L.len,fun i a xs h1 h2=>s.at (L.each i a xs h1 h2),L.fr,L.frs⟩
theorem zW.nil{H0 H H':Hp}{l:Addr}(h:H0 l=none)(e:H l=some (.lst [])):zW H0 H l [] []:=
 ⟨e,by simp,rfl,fun i a xs h1 _=>by simp at h1,h,fun a ha=>by simp at ha⟩
theorem zW.tracked{H0 H:Hp}{l:Addr}{as:List Addr}{xss:List (List Int)}(L:zW H0 H l as xss){a:Addr}(ha:a∈as):∃xs:List Int,H a=some (.lst (xs.map V.int)):=by
 obtain⟨i,hi,rfl⟩:=iM.mp ha;have h2:i<xss.length:=by rw[←L.len];exact hi
 exact⟨xss[i],L.each i _ _ (aC hi) (aC h2)⟩
theorem zW.apart{H0 H:Hp}{l:Addr}{as:List Addr}{xss:List (List Int)}(L:zW H0 H l as xss){p:Addr}(h:H p=none):p∉l::as:=by
 intro z;rcases aq.mp z with rfl|z
 ·rw[L.top]at h;cases h
 ·obtain⟨xs,e⟩:=L.tracked z;rw[e]at h;cases h
theorem zW.push{H0 H H':Hp}{l p:Addr}{as:List Addr}{xss:List (List Int)}{xs:List Int}(L:zW H0 H l as xss)(hp:H p=some (.lst (xs.map V.int)))(hne:p∉l::as)(hf:H0 p=none)
  (e:upd H l (.lst (as.map V.ref++[.ref p]))=H'):zW H0 H' l (as++[p]) (xss++[xs]):=by
 subst e;have hpl:p≠l:=fun z=>hne (by rw[z];exact a9);have hpa:p∉as:=fun z=>hne (aQ _ z);obtain⟨n1,n2⟩:=bh.mp L.nd;refine⟨by rw[xt,bN];rfl,?_,by simp[L.len],fun i a ys h1 h2=>?_,L.fr,fun a ha=>?_⟩
 ·refine bh.mpr ⟨fun z=>?_,xkm n2 hpa⟩;rcases aV.mp z with z|z
  ·exact n1 z
  ·exact hpl (ao.mp z).symm
 ·have hla:a∈as++[p]:=aU h1;have nal:a≠l:=fun z=>by
   subst z;rcases aV.mp hla with z|z
   ·exact n1 z
   ·exact hpl (ao.mp z).symm
  rw[xr nal]
  by_cases hi:i<as.length
  ·rw[bg hi]at h1;rw[bg (by rw[←L.len];exact hi)]at h2;exact L.each i a ys h1 h2
  ·rw[bw (by lia)]at h1;rw[bw (by rw[←L.len];lia)]at h2;have e1:i - as.length=0:=by
    cases hq:i - as.length with
    |zero=>rfl
    |succ k=>rw[hq]at h1;simp at h1
   rw[e1]at h1;rw[←L.len,e1]at h2;simp at h1 h2;rw[←h1,←h2];exact hp
 ·rcases aV.mp ha with z|z
  ·exact L.frs a z
  ·have z':a=p:=by simpa using z
   rw[z'];exact hf
theorem xfR{lo st:Int}{n:Nat}{te:TE}{caps:L2.St}{Q:VK}{H2:Hp}(f:Nat→List Int)(hn:n≤aM)
  (hs:∀(i:Nat) (H3:Hp),i<n→xg H2 H3→∀R:VK,(∀l H6,xg H3 H6→H3 l=none→H6 l=some (.lst ((f i).map V.int))→R (.ref l) H6)→te (some (.int (lo+i*st))::caps) H3 R)
  (hd:∀D H' as,xg H2 H'→zW H2 H' D as ((b8 n).map f)→Q (.ref D) H'):zv (Its lo st n) caps xgI te Q H2:=by
 unfold zv;intro D hD;refine⟨fun i m acc H3=>m=n - i∧i≤n∧xg H2 H3∧∃as,acc=as.map V.ref∧zW H2 H3 D as ((b8 i).map f),⟨n,by simp,bL _,xg.new hD,[],rfl,zW.nil (H':=H2) hD xt⟩,?_⟩;rintro i m acc H3 ⟨rfl,hi,s3,as,rfl,L⟩;refine⟨L.top,?_⟩
 by_cases hlt:i<n
 ·have hl:as.length=i:=by rw[L.len];simp
  refine .inr ⟨hlt,by simp[hl];lia,fun v H4 y=>?_⟩;obtain⟨e,y⟩:=y;subst e y;refine⟨fun _=>?_,fun z=>by cases z⟩;refine hs i _ hlt s3 _ fun l H6 s6 hl0 hl6=>⟨s6.at L.top,n - (i+1),by lia,rfl,hlt,(s3.trans s6).put hD,as++[l],by rw[bN];rfl,?_⟩;rw[List.range_succ,bN];exact(L.same s6).push hl6 (L.apart hl0) (s3.back hl0) rfl
 ·have e:i=n:=by lia
  subst e;exact .inl ⟨ar _,hd D H3 as s3 L⟩
section
variable {X:Cx}
end
end L2
namespace L2
open PySem PySem.Spec PyProof.Rows
abbrev HO.any:HO:=.ext fun _=>True
theorem yh.anyOf{P:av}{w:World}{H:Hp}{h:Heap}{a:Addr}{o:Obj}(e:h.get? a=some o):yh P w H h a (.frz o HO.any):=⟨e,trivial,⟨o,e⟩,fun _ _ _ _=>trivial⟩
def xaP(H:Hp)(f:Addr)(nm qual:Str)(params:cq)(body:dR)(scope:Scope)(fv:List (Str×V)):Prop:=
 ∃(clos:List (Str×Addr)) (c:Addr) (o:Obj) (u u':HO) (vs:Array Value) (t:Tok) (doc pm ctv:Value),
  H f=some (.frz {cls:=.type "function",data:=.func {name:=nm,qualname:=qual,params,body,scope,globals:=ba,closure:=clos,defaults:=.none,kwdefaults:=.none,doc,pyModule:=pm,annotations:=none,code:=.ref c,closureTuple:=ctv,builtins:=cu}} u)∧
  H c=some (.frz o u')∧o.data= .fields vs∧vs[1]? =some (.str qual t)∧
  (∀x y a,clos.lookup x=some a→clos.lookup y=some a→x=y)∧(∀x,(x,bA)∈scope.names→∃a,clos.lookup x=some a)∧
  (∀x v,(x,v)∈fv→∃a,clos.lookup x=some a∧H a=some (.cel (some v)))∧∀x a,clos.lookup x=some a→∃v,H a=some (.cel (some v))
theorem xoV{pos pos':Pos}{c:Value}(l:List Value)(h:ib l):
  eK pos' (l++[bx pos.line,bx pos.col,c])=(match eK pos' l with
   |some d=>some d
   |none=>if ((pos.line:Int)==pos'.line&&(pos.col:Int)==pos'.col)=true then some c else none):=by
 fun_induction ib l with
 |case1=>simp[eK,bx]
 |case2 a t b u x rest ih=>
  simp only[dv,eK]
  split
  ·rfl
  ·exact ih h
 |case3 l h1 h2=>exact h.elim
def uz(K:ag)(c P:Addr):Prop:=∀h:Heap,K.In h→iN h c P
theorem xhD{cells:List (Str×Addr)}:∀{l:List (Str×cK)} {cs:List (Str×Addr)} {x:Str} {c:Addr},(yV cells l cs).lookup x=some c→(x,bA)∈l∨∃a,cs.lookup x=some a
 |[],cs,x,c,h=>.inr ⟨c,h⟩
 |(n,k)::r,cs,x,c,h=>by
  unfold yV at h;rcases xhD h with q|⟨a,q⟩
  ·exact .inl (aQ _ q)
  ·split at q
   ·rename_i hk;rw[bD]at q
    split at q
    ·rename_i hx;have e:x=n:=by simpa using hx
     have e2:k= .free:=by simpa using hk
     subst e;subst e2;exact .inl a9
    ·exact .inr ⟨a,q⟩
   ·exact .inr ⟨a,q⟩
abbrev xcj(name qual:Str)(params:cq)(body:dR)(scope:Scope)(clos:List (Str×Addr))(doc pm cdv ctv:Value):Obj:=
 {cls:=.type "function",data:=.func {name,qualname:=qual,params,body,scope,globals:=ba,closure:=clos,defaults:=.none,kwdefaults:=.none,doc,pyModule:=pm,annotations:=none,code:=cdv,closureTuple:=ctv,builtins:=cu}}
section
variable {M:Model} {A:aL} {E:Value→af→Prop} {s:af} {name qual:Str} {params:cq} {body:dR} {scope:Scope} {env:Env} {c P:Addr} {ps:Array Value} {pos:Pos} {firstLine:Nat} {mg:Str→Option Value}
 {clos:List (Str×Addr)} {Q:Value→af→Prop}
theorem xoW(hcl:iI scope env=pure clos)(hge0:env.globals=ba)(hg:s.heap.Ns ba mg)(hcode:env.code= .ref c)(C:iN s.heap c P)(hP:s.heap.get? P=some (fq ps))(ht:ib ps.toList)
  (hnf:eK pos ps.toList=none) (hgP:ba≠P) (hb:s.heap.BuiltinsAt mg P)
  (h:∀c' ctv doc h' tk,kg P s.heap h'→s.heap.objs.size≤c'→c'<h'.objs.size→h'.CodeRec (.ref c') qual→h'.get? P=some (fq (ps++#[bx pos.line,bx pos.col,.ref c']))→
   Q (.ref h'.objs.size) {s with heap:=h'.push (xcj name qual params body scope clos doc ((mg "__name__").getD .none) (.ref c') ctv),toks:=tk}):
  wpAny M A (makeFunction name qual params body scope env [] [] [] pos firstLine) Q E s:=by
 cases body with
 |stmts b=>exact W.makeFunction_K hcl hge0 hg hcode C hP ht hnf hgP hb h
 |expr e=>exact W.kla_makeFunction hcl hge0 hg hcode C hP ht hnf hgP hb fun c' ctv h' tk=>h c' ctv .none h' tk
theorem xqe{cv:Value}(hcl:iI scope env=pure clos)(hge0:env.globals=ba)(hg:s.heap.Ns ba mg)(hcode:env.code= .ref c)(C:iN s.heap c P)(hP:s.heap.get? P=some (fq ps))(ht:ib ps.toList)
  (hf:eK pos ps.toList=some cv) (hb:s.heap.BuiltinsAt mg P)
  (h:∀(ctv doc:Value) (h':Heap) (tk:Tok),(∀b o,s.heap.get? b=some o→h'.get? b=some o)→s.heap.objs.size≤h'.objs.size→
   Q (.ref h'.objs.size) {s with heap:=h'.push (xcj name qual params body scope clos doc ((mg "__name__").getD .none) cv ctv),toks:=tk}):
  wpAny M A (makeFunction name qual params body scope env [] [] [] pos firstLine) Q E s:=by
 cases body with
 |stmts b=>exact W.makeFunction_hit hcl hge0 hg hcode C hP ht hf hb h
 |expr e=>exact W.kla_makeFunctionHit hcl hge0 hg hcode C hP ht hf hb fun ctv h' tk=>h ctv .none h' tk
end
section
variable {X:Cx} {pins:List (Addr×Obj)} {σ:St} {H:Hp} {s:af} {c P:Addr} {qs:List (Pos×Str)} {name qual:Str} {params:cq} {body:dR} {scope:Scope} {pos:Pos} {fv:List (Str×V)} {Q:VK} {fns:List Str}
def tFn(X:Cx)(P:Addr)(qs:List (Pos×Str))(fns:List Str)(name qual:Str)(params:cq)(body:dR)(scope:Scope):TE:=fun σ H Q=>
 H P=some (.tbl qs)∧∃fv:List (Str×V),fv.map (·.1)=fns∧(∀x v,(x,v)∈fv→∃a,X.env.cells.lookup x=some a∧H a=some (.cel (some v)))∧
  ∀f H',H f=none→xg H H'→xaP H' f name qual params body scope fv→Q (.ref f) H'
theorem xoX(I:Inv X pins σ H s)(hcode:X.env.code= .ref c)(T:uz X.K c P)(hq:(pos,qual)∈qs)(hu:(qs.all fun p=> !((pos.line==p.1.line)&&(pos.col==p.1.col))||(p.2==qual))=true)
  (hfr:(scope.names.filter fun y=>y.2== .free).map (·.1)=fns) (h:tFn X P qs fns name qual params body scope σ H Q) {n:Nat}:
  wpAny (model X.prog X.w) X.A (makeFunction name qual params body scope X.env [] [] [] pos n) (EP X pins σ Q) X.xe s:=by
 obtain⟨hP,fv,hn,hf,h⟩:=h;have isfr:∀x,(x,bA)∈scope.names↔x∈fns:=fun x=>by
  rw[←hfr,cy];constructor
  ·exact fun m=>⟨(x,.free),fE.mpr ⟨m,rfl⟩,rfl⟩
  ·rintro⟨⟨y,k⟩,m,rfl⟩;have m2:=fE.mp m;have e:k= .free:=by simpa using m2.2
   subst e;exact m2.1
 have names:∀x,(x,bA)∈scope.names→∃v a,(x,v)∈fv∧X.env.cells.lookup x=some a∧H a=some (.cel (some v)):=fun x hx=>by
  have m:=(isfr x).mp hx;rw[←hn]at m;obtain⟨⟨x',v⟩,hm,rfl⟩:=cy.mp m;obtain⟨a,h1,h2⟩:=hf _ _ hm;exact⟨v,a,hm,h1,h2⟩
 have hcs:∀y∈scope.names,y.2= .free→∃c,X.env.cells.lookup y.1=some c:=fun y hy e=>by
  obtain⟨y1,y2⟩:=y;have e:y2= .free:=e;subst e;obtain⟨_,a,_,h1,_⟩:=names y1 hy;exact⟨a,h1⟩
 have hcl:=xcF (scope:=scope) (env:=X.env) hcs;have sub:∀{z:Str} {a:Addr},(yV X.env.cells scope.names []).lookup z=some a→X.env.cells.lookup z=some a:=fun{z a} e=>by
  rcases xe7 hcs e with q|q
  ·cases q
  ·exact q
 have subF:∀{z:Str} {a:Addr},(yV X.env.cells scope.names []).lookup z=some a→(z,bA)∈scope.names:=fun{z a} e=>by
  rcases xhD e with q|⟨_,q⟩
  ·exact q
  ·cases q
 have cInj:∀x y a,(yV X.env.cells scope.names []).lookup x=some a→(yV X.env.cells scope.names []).lookup y=some a→x=y:=fun x y a e1 e2=>I.ok.inj x y a (sub e1) (sub e2);have cHas:∀x,(x,bA)∈scope.names→∃a,(yV X.env.cells scope.names []).lookup x=some a:=fun x m=>xcG (.inl m);have cVal:∀x v,(x,v)∈fv→∃a,(yV X.env.cells scope.names []).lookup x=some a∧H a=some (.cel (some v)):=fun x v m=>by
  obtain⟨a,e1,e2⟩:=hf x v m;obtain⟨a',e3⟩:=cHas x ((isfr x).mpr (by rw[←hn];exact iZ m));have e4:=sub e3;rw[e1]at e4;cases e4;exact⟨a,e3,e2⟩
 have cAll:∀x a,(yV X.env.cells scope.names []).lookup x=some a→∃v,H a=some (.cel (some v)):=fun x a e=>by
  obtain⟨v,a',_,e1,e2⟩:=names x (subF e);rw[sub e]at e1;cases e1;exact⟨v,e2⟩
 have hg:s.heap.Ns ba X.mg:=I.mod.glob.keeps I.bk;obtain⟨ps,hPo,ht,hent⟩:=I.hok P _ hP;have C:=T s.heap I.kIn;have hgP:ba≠P:=fun q=>by
  obtain⟨o,es,ep,e,hd,_⟩:=hg;rw[q,hPo]at e;cases e;cases hd
 have hB:s.heap.BuiltinsAt X.mg P:=by
  obtain⟨bm,ob,b1,b2,b3,b4,b5,b6⟩:=I.mod.bm;have b3':=I.bk _ _ b3;refine⟨bm,ob,b1,b2,fun q=>?_,fun q=>?_,b3',b4,b5,b6⟩
  ·obtain⟨o,es,ep,e,hd,_⟩:=hg;rw[←q,b3']at e;cases e;rw[b6]at hd;cases hd
  ·rw[q,hPo]at b3';cases b3';cases b4
 rcases hent pos qual hq with hnf|⟨c',o,u,vs,t,hit,hc',hd,hv⟩
 ·refine xoW hcl I.ok.glob hg hcode C hPo ht hnf hgP hB fun c' ctv doc h' tk hx hge hlt hrec htb=>?_;obtain⟨c2,oc,vs,t,e2,hoc,hd,hv⟩:=hrec;cases e2;have hc0:H c'=none:=I.hok.fresh hge;have hsz:s.heap.objs.size≤h'.objs.size:=dW (dI hge hlt);have hf0:H h'.objs.size=none:=I.hok.fresh hsz;have hcf:c'≠h'.objs.size:=aH hlt
  let fo:=xcj name qual params body scope (yV X.env.cells scope.names []) doc ((X.mg "__name__").getD .none) (.ref c') ctv
  let H':=upd (upd H c' (.frz oc HO.any)) h'.objs.size (.frz fo HO.any)
  have sm:∀b u,H b=some u→H' b=some u:=fun b u e=>by
   show upd _ _ _ b=_;rw[xr (xF e hf0),xr (xF e hc0)];exact e
  have H'c:H' c'=some (.frz oc HO.any):=by
   show upd _ _ _ c'=_;rw[xr hcf,xt]
  have H'f:H' h'.objs.size=some (.frz fo HO.any):=xt;have keep:∀b o,b≠P→s.heap.get? b=some o→(h'.push fo).get? b=some o:=fun b o hb e=>ah _ (hx b o hb e);have nP:∀b,H b=none→b≠P:=fun b e q=>by rw[q,hP]at e;cases e
  refine⟨.ref h'.objs.size,H',I.un ⟨fun b o e n _ _=>keep b o (nP b n) e,fun b o e n _ _=>⟨o.slots,keep b o (nP b n) e⟩,fun b o e n _=>?_,fun b o e _=>?_,fun b u e _=>sm b u e⟩ fun b u e=>?_,rfl,?_⟩
  ·have lt:=ay e;show upd _ _ _ b=_;rw[xr (aH (aG lt hsz)),xr (aH (aG lt hge))];exact n
  ·by_cases hb:b=P
   ·exact⟨_,ah _ (by rw[hb];exact htb)⟩
   ·exact⟨o,keep b o hb e⟩
  ·by_cases h1:b=h'.objs.size
   ·subst h1;rw[H'f]at e;cases e;exact yh.anyOf (aN _ rfl)
   ·have e1:upd H c' (.frz oc HO.any) b=some u:=(xr h1).symm.trans e
    by_cases h2:b=c'
    ·subst h2;rw[xt]at e1;cases e1;exact yh.anyOf (ah _ hoc)
    ·rw[xr h2]at e1
     by_cases hb:b=P
     ·subst hb;rw[hP]at e1;cases e1;refine⟨_,ah _ htb,?_,fun pos' q m=>?_⟩
      ·simpa using TriplesOk_snoc (pos.line:Int) (pos.col:Int) (.ref c') ps.toList ht
      ·have e3:(ps++#[bx pos.line,bx pos.col,aB c']).toList=ps.toList++[bx pos.line,bx pos.col,aB c']:=by simp
       rw[e3,xoV _ ht];rcases hent pos' q m with z|⟨d,o,u,vs',t',z1,z2,z3,z4⟩
       ·rw[z]
        by_cases hl:((pos.line:Int)==pos'.line&&(pos.col:Int)==pos'.col)=true
        ·right
         have hqq:q=qual:=by
          have:=cL.mp hu (pos',q) m;simp only[bR,beq_iff_eq,Int.ofNat_inj,Int.natCast_inj]at hl;have a1:pos.line=pos'.line:=by have:=hl.1;omega
          have a2:pos.col=pos'.col:=by have:=hl.2;omega
          simpa [a1,a2]using this
         subst hqq;exact⟨c',oc,HO.any,vs,t,if_pos hl,H'c,hd,hv⟩
        ·exact .inl (if_neg hl)
       ·right
        rw[z1];exact⟨d,o,u,vs',t',rfl,sm _ _ z2,z3,z4⟩
     ·refine(I.hok b u e1).stay (fun d v hc q=>keep d v ?_ q) (fun d q=>sm _ _ q) fun d u q _=>sm _ _ q;rcases hc with rfl|hc
      ·exact hb
      ·intro z;rw[z,hP]at hc;cases hc
  ·exact h h'.objs.size H' hf0 sm ⟨_,c',oc,HO.any,HO.any,vs,t,doc,_,ctv,H'f,H'c,hd,hv,cInj,cHas,fun x v m=>let⟨a,q1,q2⟩:=cVal x v m;⟨a,q1,sm _ _ q2⟩,fun x a q=>let⟨v,q2⟩:=cAll x a q;⟨v,sm _ _ q2⟩⟩
 ·refine xqe hcl I.ok.glob hg hcode C hPo ht hit hB fun ctv doc h' tk hk hsz=>?_;have hf0:H h'.objs.size=none:=I.hok.fresh hsz;have sm:xg H (upd H h'.objs.size (.frz (xcj name qual params body scope (yV X.env.cells scope.names []) doc ((X.mg "__name__").getD .none) (.ref c') ctv) HO.any)):=fun b u e=>by
   rw[xr (xF e hf0)];exact e
  refine⟨.ref h'.objs.size,_,I.laid (o:=.frz (xcj name qual params body scope (yV X.env.cells scope.names []) doc ((X.mg "__name__").getD .none) (.ref c') ctv) HO.any) (fun b o e=>ah _ (hk b o e)) hsz (yh.anyOf (aN _ rfl)),rfl,?_⟩;exact h _ _ hf0 sm ⟨_,c',o,HO.any,u,vs,t,doc,_,ctv,xt,sm _ _ hc',hd,hv,cInj,cHas,fun x v m=>let⟨a,q1,q2⟩:=cVal x v m;⟨a,q1,sm _ _ q2⟩,fun x a q=>let⟨v,q2⟩:=cAll x a q;⟨v,sm _ _ q2⟩⟩
theorem xmf{e:Expr}(hcode:X.env.code= .ref c)(T:uz X.K c P)(hq:(pos,X.env.qual++"<lambda>")∈qs)(hu:(qs.all fun p=> !((pos.line==p.1.line)&&(pos.col==p.1.col))||(p.2==X.env.qual++"<lambda>"))=true)
  (hfr:(scope.names.filter fun y=>y.2== .free).map (·.1)=fns) (hdef:defaultsOf params X.env=([],[]):=by rfl):
  PE X (.Lambda params e scope pos) (tFn X P qs fns "<lambda>" (X.env.qual++"<lambda>") params (.expr e) scope):=fun _ _ _ _ _ I h=>
 W.kla_eval hdef (xoX I hcode T hq hu hfr h)
theorem Inv.track{x:Str}{a:Addr}{i:Nat}(I:Inv X pins σ H s)(hN:X.N.Nodup)(hi:X.N[i]? =some x)(hk:X.env.kindOf x=some .cell)(hcp:X.cp x=true)(hfn:X.fn x=false)(ha:X.env.cells.lookup x=some a)(hH:H a=none):
  Inv X pins σ (upd H a (.cel (σ[i]?.join))) s:=by
 have hab:∀b o,X.s₀.heap.get? b=some o→b≠a:=fun b o e=>aH (aG (ay e) (I.ok.cab2 x a hcp ha));obtain⟨v0,hv0⟩:=I.cell x a ha;refine⟨I.ok,I.os,I.bare,⟨I.base.keep,I.base.slot,fun b o e n hx=>?_,I.base.there,fun b u e f=>?_⟩,I.loc,I.cell,?_,fun y c e=>?_,fun p hp=>?_,fun b u e=>?_,I.len⟩
 ·rw[xr (hab b o e)];exact I.base.free b o e n hx
 ·have:=I.base.fix b u e f;rw[xr (xF this hH)];exact this
 ·rw[xr (au (I.cne x a ha))];exact I.free
 ·by_cases hc:c=a
  ·subst hc;obtain rfl:=I.ok.inj _ _ _ e ha;refine .inr ⟨hfn,_,xt,fun z j v e1 k e2=>?_⟩;have:=xaY hN e1 hi;subst this;rw[e2]at z;cases z
  ·rw[xr hc];exact I.freeC y c e
 ·obtain⟨e,n,ne,nf,d⟩:=I.pin p hp;refine⟨e,?_,ne,nf,d⟩;rw[xr fun z=>?_]
  ·exact n
  ·obtain⟨o,q1,q2⟩:=hv0;rw[←z,e]at q1;cases q1;exact d _ q2
 ·by_cases hb:b=a
  ·subst hb;rw[xt]at e;cases e;cases hσ:σ[i]?.join with
   |none=>exact⟨v0,hv0,fun x z=>by cases z⟩
   |some v=>
    have hσ':σ[i]? =some (some v):=by
     cases q:σ[i]? with
     |none=>rw[q]at hσ;cases hσ
     |some w=>rw[q]at hσ;cases w with
      |none=>cases hσ
      |some w=>cases hσ;rfl
    obtain⟨m,hn,hl⟩:=I.loc;obtain⟨u,r,l⟩:=hl i x v hi hσ' (.inr (.inl hk));rcases l with⟨k,_⟩|⟨_,c,hc,hcell⟩
    ·rw[hk]at k;cases k
    ·rw[ha]at hc;cases hc;exact⟨_,hcell,fun y z=>by cases z;exact⟨u,rfl,r⟩⟩
  ·rw[xr hb]at e;exact(I.hok b u e).stay (fun _ _ _ q=>q) (fun d q=>by rw[xr (xF q hH)];exact q) fun d u q _=>by rw[xr (xF q hH)];exact q
def xqf(X:Cx)(x:Str)(i:Nat)(t:TS):TS:=fun D σ H=>∀a,X.env.cells.lookup x=some a→X.H₀ a=none→(∀y b,X.env.cells.lookup y=some b→y≠x→b≠a)→H a=none∧t D σ (upd H a (.cel (σ[i]?.join)))
theorem za{x:Str}{i:Nat}{b:List Stmt}{t:TS}(hN:X.N.Nodup)(hi:X.N[i]? =some x)(hk:X.env.kindOf x=some .cell)(hcp:X.cp x=true)(hfn:X.fn x=false)
  (h:PSs X b t):PSs X b (xqf X x i t):=fun pins s σ H D I q=>by
 obtain⟨a,ha⟩:=I.ok.has x (.inl hk);obtain⟨z,q⟩:=q a ha (I.ok.hz a (I.ok.cab2 x a hcp ha)) fun y b e ne z=>ne (I.ok.inj y x b e (z▸ha));exact h pins s σ _ D (I.track hN hi hk hcp hfn ha z) q
def xq5(X:Cx)(x:Str)(i:Nat)(te:TE):TS:=fun D σ H=>te σ H fun v H1=>∃a,X.env.cells.lookup x=some a∧H1 a=some (.cel none)∧D.nx (σ.set i (some v)) (upd H1 a (.cel (some v)))
theorem xkr{i:Nat}{x:Str}{e:Expr}{te:TE}{pos':Pos}(hN:X.N.Nodup)(hi:X.N[i]? =some x)(hk:X.env.kindOf x=some .cell)(hcp:X.cp x=true)(hfn:X.fn x=false)(he:PE X e te)(hs:eM e (some (.Name x pos')) pos.line X.env=pure false:=by rfl):
  PS X (.Assign [.Name x pos'] e pos) (xq5 X x i te):=by
 intro pins s σ H D I h;refine wpAny_Assign_Name (thn (he pins s σ H _ I h) fun u s1 ⟨v,H1,I,r,q⟩=>?_) hs;obtain⟨a,ha,hH,q⟩:=q;obtain⟨w0,z⟩:=I.cell x a ha;obtain⟨m,hn,hl⟩:=id I.loc;have hiσ:i<σ.length:=by rw[I.len];exact(ax.mp hi).1
 have hab:∀b o,X.s₀.heap.get? b=some o→b≠a:=fun b o e=>aH (aG (ay e) (I.ok.cab2 x a hcp ha));refine wpAny_storeName_cell I.ok.kind hk ha z fun h' hc' hs=>?_;refine⟨_,_,⟨I.ok,I.os,I.bare,⟨fun b o e n hb hx=>?_,fun b o e n hb hx=>?_,fun b o e n hx=>?_,fun b o e hx=>?_,fun b u e f=>?_⟩,⟨m,hn.sameBut hs (au (I.cne x a ha)),fun j y v' e1 e2 e3=>?_⟩,fun y c' e=>?_,?_,fun y c' e=>?_,fun p hp=>?_,fun b u e=>?_,by simpa using I.len⟩,q⟩
 ·exact(hs.2 b (hab b o e)).trans (I.base.keep b o e n hb hx)
 ·obtain⟨sl,e1⟩:=I.base.slot b o e n hb hx;exact⟨sl,(hs.2 b (hab b o e)).trans e1⟩
 ·rw[xr (hab b o e)];exact I.base.free b o e n hx
 ·obtain⟨o',e1⟩:=I.base.there b o e hx;exact⟨o',(hs.2 b (hab b o e)).trans e1⟩
 ·have h0:=I.ok.hz a (I.ok.cab2 x a hcp ha);rw[xr (xF e h0)];exact I.base.fix b u e f
 ·by_cases hj:j=i
  ·subst hj;rw[hi]at e1;cases e1;rw[cO hiσ]at e2;cases e2;exact⟨u,r,.inr ⟨.inl hk,a,ha,hc'⟩⟩
  ·rw[bQ (au hj)]at e2;obtain⟨u',r',q⟩:=hl j y v' e1 e2 e3;refine⟨u',r',?_⟩;rcases q with q|⟨k,c',e,z'⟩
   ·exact .inl q
   ·refine .inr ⟨k,c',e,z'.sameBut hs ?_⟩;rintro rfl;exact hj (xaY hN e1 (I.ok.inj _ _ _ e ha▸hi))
 ·by_cases hcc:c'=a
  ·subst hcc;exact⟨_,hc'⟩
  ·obtain⟨w2,z2⟩:=I.cell y c' e;exact⟨w2,z2.sameBut hs hcc⟩
 ·rw[xr (au (I.cne x a ha))];exact I.free
 ·by_cases hcc:c'=a
  ·subst hcc;obtain rfl:=I.ok.inj _ _ _ e ha;exact .inr ⟨hfn,some v,xt,fun z=>by cases z⟩
  ·rw[xr hcc];refine(I.freeC y c' e).imp id fun⟨hf',o',ho',hno⟩=>⟨hf',o',ho',fun z j v' e1 k e2=>?_⟩
   by_cases hj:j=i
   ·subst hj;rw[hi]at e1;cases e1;rw[ha]at e;cases e;exact hcc rfl
   ·rw[bQ (au hj)]at e2;exact hno z j v' e1 k e2
 ·obtain⟨e,n,ne,nf,d⟩:=I.pin p hp;have hpa:p.1≠a:=fun q=>by
   obtain⟨oc,hoc,hocd⟩:=z;rw[q,hoc]at e;have q':oc=p.2:=bc e;exact d w0 (by rw[←q'];exact hocd)
  exact⟨(hs.2 p.1 hpa).trans e,by rw[xr hpa];exact n,ne,nf,d⟩
 ·by_cases hb:b=a
  ·subst hb;rw[xt]at e;cases e;exact⟨_,hc',fun y z=>by cases z;exact⟨u,rfl,r⟩⟩
  ·rw[xr hb]at e;have nfix:∀d u',H1 d=some u'→u'≠.cel none→upd H1 a (.cel (some v)) d=some u':=fun d u' e' hu=>by
    rw[xr fun z=>?_]
    ·exact e'
    ·rw[z,hH]at e';cases e';exact hu rfl
   refine(I.hok b u e).stay (fun d w' hc q=>(hs.2 d ?_).trans q) (fun d q=>nfix _ _ q (by simp)) fun d u' q hf=>nfix _ _ q (by rintro rfl;exact hf);rcases hc with rfl|hc
   ·exact hb
   ·intro z;rw[z,hH]at hc;cases hc
end
end L2
namespace L2
open PySem PySem.Spec PyProof.Rows
theorem xmg{P:av}{w:World}{K:ag}{mg mb:Str→Option Value}{CX:CXT}{k:Nat}{fa a:Addr}{fd:aj}{x:Str}{sp:Sp}{s₁:af}{vs:List Value}{ns:List Int}{tabs:List (Addr×Addr×List (Pos×Str))}
  (KX:K.In s₁.heap) (hns:s₁.heap.Ns ba mg) (hb:s₁.heap.Ns cu mb) (hbb:∀x:Str,x≠"__name__"→mb x=bt x) (hlim:s₁.heap.NoLimit) (hbm:∃b o,mg "__builtins__"=some (.ref b)∧b≠cu∧s₁.heap.get? b=some o∧o.cls= .type "module"∧o.dict=some cu∧o.data= .plain) (hg:s₁.gens=#[])
  (ha:s₁.heap.get? a=some {cls:=.type "list",data:=.seq vs.toArray}) (hi:iw vs ns) (hl:ns.length≤aM) (hr:xX k gH)
  (hT:∀q∈tabs,iN s₁.heap q.1 q.2.1∧s₁.heap.get? q.2.1=some (fq #[])) (hnt:W.noTabs K=true) (nd:(tabs.map fun q=>q.2.1).Nodup)
  (F:∀base:Heap,K.In base→base.Ns ba mg→xE P w K mg base CX k fa fd [x] sp) (hbind:∀(s:af) (u:Value),iu s fd ⟨[u],[]⟩ [(x,u)])
  (hsp:∀H:Hp,SqL K H a (ns.map V.int)→(∀q∈tabs,H q.2.1=some (.tbl q.2.2))→sp [.ref a] H (fun v _=>v= .bl true) fun _ _ _=>False)
  (hCX:∀H e s',CX [] H s₁ (fun _ _ _=>False) e s'→False):
  ck (model P w) gH (.call (.ref fa) ⟨[.ref a],[]⟩) (fun r s'=>r= .ok (.ret (.bool true))∧OldK s₁.heap s'.heap∧s'.os=s₁.os∧eV s'.gens) s₁:=by
 have rv:=xhy hi;have lenV:=hi.length;have aP:∀q∈tabs,q.2.1≠a:=fun q hq z=>by
  have e:=(hT q hq).2;rw[z,ha]at e;cases e
 have core:∀H:Hp,SqL K H a (ns.map V.int)→(∀q∈tabs,H q.2.1=some (.tbl q.2.2))→
   (∀b u,H b=some u→(b=a∧K.lookup a=none∧∃xs,u= .frz {cls:=.type "list",data:=.seq vs.toArray} (.lst xs))∨∃q∈tabs,b=q.2.1∧u= .tbl q.2.2)→HOk P w H s₁.heap→
   ck (model P w) gH (.call (.ref fa) ⟨[.ref a],[]⟩) (fun r s'=>r= .ok (.ret (.bool true))∧OldK s₁.heap s'.heap∧s'.os=s₁.os∧eV s'.gens) s₁:=by
  intro H hS hP hA hok;have base_of:∀{b:Addr} {o:Obj},s₁.heap.get? b=some o→H b=none→(xcC s₁.heap H).get? b=some o:=fun e n=>xm7 e n;have noA:∀{b:Addr} {o:Obj},s₁.heap.get? b=some o→o.cls≠.type "list"∨(∀n,o.data≠.seq vs.toArray n)→o≠fq #[]→H b=none:=fun{b o} e d1 d2=>by
   cases q:H b with
   |none=>rfl
   |some u=>
    rcases hA b u q with⟨rfl,_,_⟩|⟨t,ht,rfl,_⟩
    ·rw[ha]at e;cases e;rcases d1 with d1|d1
     ·exact absurd rfl d1
     ·exact absurd rfl (d1 _)
    ·have e2:=(hT t ht).2;rw[e]at e2;cases e2;exact absurd rfl d2
  have nsK:∀{b:Addr} {m:Str→Option Value},s₁.heap.Ns b m→(xcC s₁.heap H).Ns b m:=fun{b m} ⟨o,es,ep,e,d,r⟩=>
   ⟨o,es,ep,base_of e (noA e (.inr fun n z=>by rw[d]at z;cases z) fun z=>by rw[z]at d;cases d),d,r⟩
  have hKb:K.In (xcC s₁.heap H):=fun b o e=>base_of (KX b o e) (by
   cases q:H b with
   |none=>rfl
   |some u=>
    rcases hA b u q with⟨rfl,z,_⟩|⟨t,ht,rfl,_⟩
    ·rw[z]at e;cases e
    ·have e2:=KX _ _ e;rw[(hT t ht).2]at e2;cases e2;have h2:=cL.mp hnt _ (W.mem_of_lookupK e);exact absurd (show false=true from h2) aI)
  have hM:Mod K mg (xcC s₁.heap H):=⟨hKb,nsK hns,⟨mb,nsK hb,hbb⟩,let⟨mc,h1,h2⟩:=hlim;⟨mc,nsK h1,h2⟩,let⟨b,o,a1,a2,a3,a4⟩:=hbm;⟨b,o,a1,a2,base_of a3 (noA a3 (.inl fun z=>by rw[a4.1]at z;simp at z) fun z=>by rw[z]at a4;cases a4.1),a4⟩⟩;have e0:jJ P w K mg (xcC s₁.heap H) gH [] s₁ H:=⟨rfl,hM,fun b o e=>xoz e,Nat.le_of_eq (xlV _ _),trivial,fun b hb=>absurd (show b∈([]:List Addr)from hb) (by simp),hok,.of_eq hg⟩;refine cm ((F _ hKb (nsK hns)).run gH [] s₁ H ⟨[.ref a],[]⟩ [.ref a] [.ref a] _ _ hr e0 (hbind s₁ (.ref a)) (.cons rfl .nil) (hsp H hS hP)) fun r s' h=>?_;cases r with
  |error e=>exact(hCX H e s' h).elim
  |ok fl=>
   cases fl with
   |next=>exact aS h
   |brk=>exact aS h
   |cont=>exact aS h
   |ret u=>
    obtain⟨v,H',os,bare,un,hok',r',q⟩:=h;have q':v= .bl true:=q;subst q';obtain rfl:u=d5 true:=r';have old:∀b o,s₁.heap.get? b=some o→s'.heap.get? b=some o∨∃t∈tabs,b=t.2.1∧o=fq #[]∧∃ps,s'.heap.get? b=some (fq ps):=fun b o e=>by
     cases q:H b with
     |none=>exact .inl (un.keep b o e q (by intro z;exact absurd (show b∈([]:List Addr)from z) (by simp)) (by simp))
     |some u=>
      rcases hA b u q with⟨rfl,_,xs,rfl⟩|⟨t,ht,rfl,rfl⟩
      ·obtain⟨e1,_⟩:=hok _ _ q;obtain⟨e2,_⟩:=hok' _ _ (un.fix _ _ q trivial);rw[e]at e1;cases e1;exact .inl e2
      ·obtain⟨ps,e2,_⟩:=hok' _ _ (un.fix _ _ q trivial);have e3:=(hT t ht).2;rw[e]at e3;cases e3;exact .inr ⟨t,ht,rfl,rfl,ps,e2⟩
    refine⟨rfl,⟨fun b o e=>?_,fun b o e=>?_⟩,os,bare⟩
    ·rcases old b o e with z|⟨t,ht,rfl,rfl,ps,z⟩
     ·exact .inl z
     ·exact .inr (.inl ⟨((hT t ht).1.tab (hT t ht).2).isCodeTable,rfl,#[],ps,rfl,by rw[Array.empty_append];exact z⟩)
    ·rcases old b o e with z|⟨t,ht,rfl,rfl,ps,z⟩
     ·exact⟨o,z⟩
     ·exact⟨_,z⟩
 let Ht:Hp:=fun b=>(tabs.find? fun q=>q.2.1==b).map fun q=>HO.tbl q.2.2
 have HtP:∀q∈tabs,Ht q.2.1=some (.tbl q.2.2):=fun q hq=>by
  show kj _ (tabs.find? _)=_;cases e:tabs.find? fun r=>r.2.1==q.2.1 with
  |none=>
   have:=cT.mp e q hq;simp at this
  |some r=>
   have h1:=List.find?_some e;have h2:=gB e;have h3:r.2.1=q.2.1:=by simpa using h1
   have:r=q:=by
    obtain⟨i,hi⟩:=bF.mp h2;obtain⟨j,hj⟩:=bF.mp hq;have ei:(tabs.map fun q=>q.2.1)[i]? =some r.2.1:=by rw[aA,hi];rfl
    have ej:(tabs.map fun q=>q.2.1)[j]? =some r.2.1:=by rw[aA,hj,h3];rfl
    obtain⟨i1,i2⟩:=ax.mp ei;obtain⟨j1,j2⟩:=ax.mp ej;have:=(List.getElem_inj nd).mp (i2.trans j2.symm);subst this;rw[hi]at hj;exact bc hj
   subst this;rfl
 have HtA:∀b u,Ht b=some u→∃q∈tabs,b=q.2.1∧u= .tbl q.2.2:=fun b u e=>by
  have e:kj (fun q=>HO.tbl q.2.2) (tabs.find? fun q=>q.2.1==b)=some u:=e;obtain⟨q,hq,rfl⟩:=aJ.mp e;have h1:=List.find?_some hq;exact⟨q,gB hq,(show q.2.1=b by simpa using h1).symm,rfl⟩
 have tok:∀{H:Hp} {q},q∈tabs→yh P w H s₁.heap q.2.1 (.tbl q.2.2):=fun{H q} hq=>⟨#[],(hT q hq).2,trivial,fun _ _ _=>.inl rfl⟩;cases hk:K.lookup a with
 |some o=>
  have e:=KX a o hk;rw[ha]at e;cases e;refine core Ht (.inr ⟨_,vs.toArray,_,hk,rfl,rfl,rfl,by rw[aO,lenV];exact hl,by simpa using rv⟩) HtP (fun b u z=>.inr (HtA b u z)) fun b u z=>?_;obtain⟨q,hq,rfl,rfl⟩:=HtA b u z;exact tok hq
 |none=>
  refine core (fun b=>if b=a then some (.frz {cls:=.type "list",data:=.seq vs.toArray} (.lst (ns.map V.int)))else Ht b) (.inl (.inr ⟨{cls:=.type "list",data:=.seq vs.toArray},if_pos rfl⟩)) (fun q hq=>(if_neg (aP q hq)).trans (HtP q hq)) (fun b u z=>?_) fun b u z=>?_
  ·by_cases hb:b=a
   ·have z':=(if_pos hb).symm.trans z;cases z';exact .inl ⟨hb,hk,_,rfl⟩
   ·exact .inr (HtA b u ((if_neg hb).symm.trans z))
  ·by_cases hb:b=a
   ·have z':=(if_pos hb).symm.trans z;cases z';subst hb;exact⟨ha,by rw[ai];exact hl,vs,_,rv,ha⟩
   ·obtain⟨q,hq,rfl,rfl⟩:=HtA b u ((if_neg hb).symm.trans z);exact tok hq
theorem xns{l:W.OpenLaw}{n k:Nat}{q:av}{loose:List Str}{XP:(Str→Option Value)→Heap→Prop}{YP:World→Heap→Prop}{d:DefRec}{K:Params→ag}{CX:CXT}{sp:ag→Sp}{x:Str}{tabs:List (Addr×Addr×List (Pos×Str))}
  (hn:l.most=some n) (hn2:n≤aM) (hdf:d.params.defaults=[]) (hr:xX k gH)
  (hY:∀(w:World) (h:Heap),YP w h→(K w.params).In h)
  (hT:∀(w:World) (h:Heap),YP w h→(K w.params).In h→∀t∈tabs,iN h t.1 t.2.1∧h.get? t.2.1=some (fq #[])) (hnt:∀w:World,W.noTabs (K w.params)=true) (nd:(tabs.map fun q=>q.2.1).Nodup)
  (F:∀(w:World) (mg:Str→Option Value) (fa:Addr) (h:Heap),(K w.params).In h→h.Ns ba mg→mg d.name=some (.ref fa)→
   ∃fd:aj,(∀(s:af) (u:Value),iu s fd ⟨[u],[]⟩ [(x,u)])∧
    ∀base:Heap,(K w.params).In base→base.Ns ba mg→xE l.prog w (K w.params) mg base CX k fa fd [x] (sp (K w.params)))
  (hsp:∀(K:ag) (H:Hp) (a:Addr) (ns:List Int),ns.length≤n→SqL K H a (ns.map V.int)→(∀q∈tabs,H q.2.1=some (.tbl q.2.2))→sp K [.ref a] H (fun v _=>v= .bl true) fun _ _ _=>False)
  (hCX:∀(H:Hp) (s:af) (e:Value) (s':af),CX [] H s (fun _ _ _=>False) e s'→False):
  W.WalkO q loose XP YP l.row.toRowW d [] (fun f vs=>PySem.call f vs):=by
 refine Att.xjM hn hdf fun w s₀ s₁ mg mb fa o pm cd doc a vs ns G Y ho hd hcd hmg hobj hints hlen hg=>?_;have KX:=hY w _ Y;obtain⟨fd,hb,hF⟩:=F w mg fa _ KX G.T.g hmg;exact xmg KX G.T.g G.T.b G.T.builtins G.T.nolimit G.T.bmain hg hobj hints (bo hlen hn2) hr (hT w _ Y KX) (hnt w) nd hF hb (fun H hS hP=>hsp (K w.params) H a ns hlen hS hP) fun H e s'=>hCX H s₁ e s'
end L2
namespace L2
open PySem PySem.Spec PyProof.Rows
structure vW(N ps fns:List Str)(sc:Scope):Prop where
 kind:sc.kind= .function
 co:sc.isCoroutine=false
 gen:sc.isGenerator=false
 nd:N.Nodup
 pre:N.take (ps.length+fns.length)=ps++fns
 par:∀x∈ps,sc.names.lookup x=some .local
 fre:∀x∈fns,sc.names.lookup x=some .free
 nocell:∀y∈sc.names,y.2≠.cell
def xdK(N:List Str)(vs:List V)(fv:List (Str×V)):St:=vs.map some++fv.map (fun p=>some p.2)++aD (N.length - vs.length - fv.length) none
def xir(CX:CXT)(P:av)(w:World)(K:ag)(mg:Str→Option Value)(base:Heap)(N:List Str)(qual:Str)(scope:Scope)(f:Addr)(cd:Value)(clos:List (Str×Addr))(A:aL)(outer:List Env)(s:af)(H:Hp)(E:XK):Cx where
 prog:=P
 w:=w
 K:=K
 mg:=mg
 base:=base
 A:=A.deeper (gU qual scope s.heap.objs.size f cd clos)
 N:=N
 s₀:=s
 H₀:=H
 env:=gU qual scope s.heap.objs.size f cd clos
 outer:=outer
 stack:=gU qual scope s.heap.objs.size f cd clos::outer
 ex:=[]
 calm:=true
 cp:=fun _=>false
 fn:=fun _=>false
 pn:=[]
 xe:=fun e s'=>wpAny (model P w) (A.deeper (gU qual scope s.heap.objs.size f cd clos)) (leaving (gU qual scope s.heap.objs.size f cd clos) e) (fun _ s''=>CX outer H s E e s'') (fun e' s''=>CX outer H s E e' s'') s'
theorem xhE{α:Type}:∀{l:List (Str×α)} {x:Str} {v:α},(l.map (·.1)).Nodup→(x,v)∈l→l.lookup x=some v
 |[],_,_,_,m=>by simp at m
 |(y,u)::r,x,v,nd,m=>by
  obtain⟨n1,n2⟩:=bh.mp nd;rw[bD];rcases aq.mp m with e|m
  ·cases e;simp
  ·have:x≠y:=fun e=>n1 (by rw[←e];exact iZ (f:=(·.1)) m);rw[beq_false_of_ne this];exact xhE n2 m
theorem xiK:∀{ps:List Str} {us:List Value},us.length=ps.length→(ps.zip us).map (·.1)=ps
 |[],[],_=>rfl
 |p::ps,u::us,h=>by simp[xiK (ps:=ps) (us:=us) (by simpa using h)]
 |[],_::_,h=>by simp at h
 |_::_,[],h=>by simp at h
theorem xgL{ps:List Str}{us:List Value}{i:Nat}{x:Str}{u:Value}(hl:us.length=ps.length)(nd:ps.Nodup)(h1:ps[i]? =some x)(h2:us[i]? =some u):(ps.zip us).reverse.lookup x=some u:=by
 refine xhE ?_ (List.mem_reverse.mpr ?_)
 ·rw[List.map_reverse,xiK hl];exact List.pairwise_reverse.mpr (nd.imp fun h=>au h)
 ·refine bF.mpr ⟨i,?_⟩;rw[List.getElem?_zip_eq_some];exact⟨h1,h2⟩
def codeOf(body:dR)(env:Env):Code:=match body with
 | .stmts b=>.func b env
 | .expr e=>.expr e env
section
variable {CX:CXT} {P:av} {w:World} {K:ag} {mg:Str→Option Value} {base:Heap} {N ps fns:List Str} {nm qual:Str} {params:cq} {scope:Scope} {f:Addr} {cd:Value} {clos:List (Str×Addr)} {A:aL} {outer:List Env} {s:af} {H:Hp} {E:XK} {us:List Value} {vs:List V} {fv:List (Str×V)} {k:Nat}
theorem xlg{h':Heap}{tk:Tok}(S:vW N ps fns scope)(hd:A.handled=none)(e0:jJ P w K mg base A outer s H)(hl:vs.length=ps.length)(r:Vals vs us)(hfv:fv.map (·.1)=fns)
  (hin:∀x y a,clos.lookup x=some a→clos.lookup y=some a→x=y) (hhas:∀x,(x,bA)∈scope.names→∃a,clos.lookup x=some a)
  (hval:∀x v,(x,v)∈fv→∃a,clos.lookup x=some a∧H a=some (.cel (some v))) (hall:∀x a,clos.lookup x=some a→∃v,H a=some (.cel (some v)))
  (hns:h'.Ns s.heap.objs.size fun x=>(ps.zip us).reverse.lookup x) (hk:∀b o,s.heap.get? b=some o→h'.get? b=some o):
  Inv (xir CX P w K mg base N qual scope f cd clos A outer s H E) [] (xdK N vs fv) H {s with heap:=h',toks:=tk}:=by
 have lenF:fv.length=fns.length:=by rw[←hfv,ai]
 have hpl:ps.length+fns.length≤N.length:=by have:=congrArg fX S.pre;rw[bC,aW]at this;lia
 have noA:∀b:Addr,b∉(xir CX P w K mg base N qual scope f cd clos A outer s H E).ex:=fun b z=>absurd (show b∈([]:List Addr)from z) (by simp);have lu:us.length=ps.length:=by rw[←r.length];exact hl
 have ndP:(ps++fns).Nodup:=by rw[←S.pre];exact S.nd.sublist (List.take_sublist _ _)
 refine⟨⟨e0.mod,S.kind,rfl,rfl,ar _,fun y z c h1 h2=>hin y z c h1 h2,fun y hy=>?_,fun y c h _=>(aI h).elim,fun _=>hd,iF e0.frames,.inr ⟨rfl,rfl⟩,fun b z=>absurd z (noA b),e0.bs,e0.bsz,fun b _ _=>noA b,fun b z=>absurd z (noA b),e0.funs,e0.frf,fun y c h _=>(aI h).elim,fun b hb=>e0.hok.fresh hb⟩,
  rfl,e0.bare,Un.kept hk,⟨_,hns,fun i y v h1 h2 h3=>?_⟩,fun y c h=>?_,e0.hok.fresh (ar _),fun y c h=>?_,fun p hp=>absurd (show p∈([]:List (Addr×Obj))from hp) (by simp),e0.hok.kept hk,?_⟩
 ·have hy:scope.names.lookup y=some .cell∨scope.names.lookup y=some .free:=hy;rcases hy with hy|hy
  ·exact absurd rfl (S.nocell _ (PySem.mem_of_lookup hy))
  ·exact hhas y (PySem.mem_of_lookup hy)
 ·have h1:N[i]? =some y:=h1;unfold xdK at h2
  by_cases hi:i<vs.length
  ·rw[bg (by simp;lia),bg (by simpa using hi),aA]at h2;cases e:vs[i]? with
   |none=>rw[e]at h2;cases h2
   |some a=>
    rw[e]at h2;cases h2;obtain⟨u,hu,rv⟩:=r.get e;have hp:ps[i]? =some y:=by
     have:(N.take (ps.length+fns.length))[i]? =some y:=by rw[dm (by lia)];exact h1
     rw[S.pre,bg (by lia)]at this;exact this
    exact⟨u,rv,.inl ⟨S.par y (aU hp),xgL lu (ndP.sublist (List.sublist_append_left _ _)) hp hu⟩⟩
  ·by_cases hj:i<vs.length+fv.length
   ·rw[bg (by simp;lia),bw (by simpa using hi),ai,aA]at h2;cases e:fv[i - vs.length]? with
    |none=>rw[e]at h2;cases h2
    |some p=>
     obtain⟨z,v'⟩:=p;rw[e]at h2;cases h2;have hp:fns[i - vs.length]? =some y:=by
      have:(N.take (ps.length+fns.length))[i]? =some y:=by rw[dm (by lia)];exact h1
      rw[S.pre,bw (by lia),←hl]at this;exact this
     have hz:z=y:=by
      rw[←hfv,aA,e]at hp;exact bc hp
     subst hz;obtain⟨a,q1,q2⟩:=hval _ _ (aU e);obtain⟨u,q3,q4⟩:=e0.hok a _ q2;obtain⟨y',rfl,r'⟩:=q4 v' rfl;exact⟨y',r',.inr ⟨.inr (S.fre z (aU hp)),a,q1,q3.keeps hk⟩⟩
   ·rw[bw (by simp;lia),hX]at h2
    split at h2<;> cases h2
 ·obtain⟨v,q2⟩:=hall y c h;obtain⟨u,q3,_⟩:=e0.hok c _ q2;exact⟨u,q3.keeps hk⟩
 ·obtain⟨v,q2⟩:=hall y c h;exact .inr ⟨rfl,some v,q2,fun z=>by cases z⟩
 ·unfold xdK;show _=N.length;simp only[aW,ai,bq];lia
structure uN(P:av)(w:World)(K:ag)(mg:Str→Option Value)(base:Heap)(CX:CXT)(k:Nat)(nm qual:Str)(params:cq)(body:dR)(scope:Scope)(ps:List Str)(sp:List (Str×V)→Sp):Prop where
 len:∀fv vs H Q E,sp fv vs H Q E→vs.length=ps.length
 run:∀(A:aL) (outer:List Env) (s:af) (H:Hp) (f:Addr) (fv:List (Str×V)) (us:List Value) (vs:List V) (Q:VK) (E:XK),xX k A→jJ P w K mg base A outer s H→xaP H f nm qual params body scope fv→Vals vs us→sp fv vs H Q E→
  ck (model P w) A (.call (.ref f) ⟨us,[]⟩) (CR CX outer P w H s Q E) s
theorem xmh{body:dR}{sp:List (Str×V)→Sp}(S:vW N ps fns scope)(len:∀fv vs H Q E,sp fv vs H Q E→vs.length=ps.length∧fv.map (·.1)=fns)
  (hb:∀(clos:List (Str×Addr)) (doc pm cdv ctv:Value) (us:List Value),us.length=ps.length→
   dk {name:=nm,qualname:=qual,params,body,scope,globals:=ba,closure:=clos,defaults:=.none,kwdefaults:=.none,doc,pyModule:=pm,annotations:=none,code:=cdv,closureTuple:=ctv,builtins:=cu} ⟨us,[]⟩=pure (ps.zip us))
  (hgo:∀(A:aL) (outer:List Env) (s:af) (H:Hp) (f:Addr) (clos:List (Str×Addr)) (cdv:Value) (fv:List (Str×V)) (vs:List V) (Q:VK) (E:XK) (s1:af),xX k (A.deeper (gU qual scope s.heap.objs.size f cdv clos))→sp fv vs H Q E→
   Inv (xir CX P w K mg base N qual scope f cdv clos A outer s H E) [] (xdK N vs fv) H s1→
   ck (model P w) A (codeOf body (gU qual scope s.heap.objs.size f cdv clos)) (CR CX outer P w H s Q E) s1):
  uN P w K mg base CX (k+1) nm qual params body scope ps sp:=by
 refine⟨fun fv vs H Q E h=>(len fv vs H Q E h).1,fun A outer s H f fv us vs Q E hr e0 hc r hsp=>?_⟩;obtain⟨clos,c,o,u,u',xs,t,doc,pm,ctv,h1,h2,h3,h4,h5,h6,h7,h8⟩:=hc;obtain⟨hl,hfv⟩:=len fv vs H Q E hsp;have lu:us.length=ps.length:=by rw[←r.length];exact hl
 obtain⟨hf,_⟩:=e0.hok f _ h1;obtain⟨hcO,_⟩:=e0.hok c _ h2;have lim:s.heap.NoLimit:=e0.mod.nolimit.keeps fun b o e=>(e0.bs b o e).1;have hloc:∀y∈ps.zip us,scope.names.lookup y.1=some .local:=fun⟨n,v⟩ hy=>S.par n (cU hy).1;have cr:s.heap.CodeRec (.ref c) qual:=⟨c,o,xs,t,rfl,hcO,h3,h4⟩;have fin:wpAny (model P w) A.in1 (newFunctionEnv scope ba clos (ps.zip us) (qual++".<locals>.") (some f) (.ref c) none cu)
   (fun env s₂=>s₂.heap.NoLimit∧ck (model P w) A (codeOf body env) (CR CX outer P w H s Q E) s₂) (fun e s'=>CR CX outer P w H s Q E (.error e) s') s:=by
  refine wpAny_newFunctionEnv S.nocell hloc (fun h' hns hsb=>?_) S.kind;have hk:∀b o,s.heap.get? b=some o→h'.get? b=some o:=fun b o e=>hsb.extBut b o (aH (ay e)) (ah _ e);exact⟨lim.keeps hk,hgo A outer s H f clos (.ref c) fv vs Q E _ (hr.deeper _) hsp (xlg S hr.hd e0 hl r hfv h5 h6 h7 h8 hns hk)⟩
 cases body with
 |stmts b=>
  refine cV hr.depth hf rfl S.co S.gen rfl cr ?_;rw[hb clos doc pm (.ref c) ctv us lu];exact ak fin
 |expr e=>
  refine W.kla_callFunE hr.depth hf rfl S.co S.gen rfl cr ?_;rw[hb clos doc pm (.ref c) ctv us lu];exact ak fin
theorem xcI{e:Expr}{sp:List (Str×V)→Sp}(S:vW N ps fns scope)(len:∀fv vs H Q E,sp fv vs H Q E→vs.length=ps.length∧fv.map (·.1)=fns)
  (hb:∀(clos:List (Str×Addr)) (doc pm cdv ctv:Value) (us:List Value),us.length=ps.length→
   dk {name:=nm,qualname:=qual,params,body:=.expr e,scope,globals:=ba,closure:=clos,defaults:=.none,kwdefaults:=.none,doc,pyModule:=pm,annotations:=none,code:=cdv,closureTuple:=ctv,builtins:=cu} ⟨us,[]⟩=pure (ps.zip us))
  (hbody:∀(A:aL) (outer:List Env) (s:af) (H:Hp) (f:Addr) (clos:List (Str×Addr)) (cdv:Value) (fv:List (Str×V)) (vs:List V) (Q:VK) (E:XK),xX k (A.deeper (gU qual scope s.heap.objs.size f cdv clos))→sp fv vs H Q E→
   ∃te,PE (xir CX0 P w K mg base N qual scope f cdv clos A outer s H E).nox e te∧te (xdK N vs fv) H Q):uN P w K mg base CX0 (k+1) nm qual params (.expr e) scope ps sp:=
 xmh S len hb fun A outer s H f clos cdv fv vs Q E s1 hr hsp I=>by
  obtain⟨te,ht,hq⟩:=hbody A outer s H f clos cdv fv vs Q E hr hsp;refine W.kla_codeExpr (aT (ht [] s1 _ H Q (I.wish _) hq) (fun v s' ⟨x,H',J,rv,q⟩=>?_) fun _ _ z=>z.elim);exact⟨x,H',J.os,J.bare,J.base,J.hok,rv,q⟩
end
section
variable {X:Cx} {CX:CXT} {k:Nat} {nm qual x:Str} {params:cq} {body:dR} {scope:Scope} {ps:List Str} {sp:List (Str×V)→Sp} {p pos:Pos} {e:Expr} {es:List Expr} {t:TA} {E:XK} {i:Nat}
theorem xks{pins:List (Addr×Obj)}{σ:St}{H:Hp}{s:af}{Q:VK}{us:List Value}{vs:List V}{f:Addr}{fv:List (Str×V)}(F:uN X.prog X.w X.K X.mg X.base CX k nm qual params body scope ps sp)(hr:xX k X.A)(hx:Passes CX X E)
  (I:Inv X pins σ H s) (hc:xaP H f nm qual params body scope fv) (r:Vals vs us) (h:sp fv vs H Q E):wpAny (model X.prog X.w) X.A (call (.ref f) us) (EP X pins σ Q) X.xe s:=by
 refine cw (cm (F.run X.A X.stack s H f fv us vs Q E hr I.env0 hc r h) fun r s' hq=>?_);cases r with
 |error e=>exact hx pins σ H s e s' I hq
 |ok fl=>
  cases fl with
  |ret u=>exact I.after hq
  |next=>exact aS hq
  |brk=>exact aS hq
  |cont=>exact aS hq
theorem xaP.fn{pins:List (Addr×Obj)}{σ:St}{H:Hp}{s:af}{f:Addr}{fv:List (Str×V)}(hc:xaP H f nm qual params body scope fv)(I:Inv X pins σ H s):W.FnAt f s.heap:=by
 obtain⟨clos,c,o,u,u',xs,t,doc,pm,ctv,h1,_⟩:=hc;obtain⟨e,_⟩:=I.hok f _ h1;exact⟨_,_,_,_,e⟩
def xqg(nm qual:Str)(params:cq)(body:dR)(scope:Scope)(sp:List (Str×V)→Sp)(E:XK)(i:Nat)(t:TA):TE:=fun σ H Q=>∃f fv,σ[i]? =some (some (.ref f))∧xaP H f nm qual params body scope fv∧t σ H fun vs H1=>xaP H1 f nm qual params body scope fv∧sp fv vs H1 Q E
theorem xnt(i:Nat)(F:uN X.prog X.w X.K X.mg X.base CX k nm qual params body scope ps sp)(hr:xX k X.A)(hx:Passes CX X E)(ha:PA X (e::es) t)(hN:X.N[i]? =some x:=by rfl)(hv:Vis X.env.scope x:=by first|exact az rfl|exact bT (az rfl)|exact bT (bT rfl))(hd:(x==("__debug__":Str))=false:=by decide)
  (hcd:(x==("__classdict__":Str))=false:=by decide) (he:aE (e::es) X.env=(false,eval e X.env)::aE es X.env:=by rfl) (hpl:(bG pos (aE es X.env)).any (·.1)=false:=by rfl):
  PE X (.Call (.Name x p) (e::es) [] pos) (xqg nm qual params body scope sp E i t):=by
 intro pins s σ H Q I h;obtain⟨f,fv,e1,hc,h⟩:=h;refine bK (thn (xiv (pos:=p) hN hv hd hcd pins s σ H (fun v H1=>v= .ref f∧H1=H) I ⟨_,e1,rfl,rfl⟩) fun u s1 ⟨v,H1,I1,r,q1,q2⟩=>?_);subst q1;subst q2;cases (show u=aB f from r);refine W.callWith_F (hc.fn I1) (thn (ha pos pins s1 σ H1 _ I1 h) fun us s2 ⟨vs,H2,I2,r2,q⟩=>⟨q.1.fn I2,?_⟩) he hpl;exact xks F hr hx I2 q.1 r2 q.2
end
theorem Inv.capd{X:Cx}{pins:List (Addr×Obj)}{σ:St}{H:Hp}{s:af}(hfn:∀x,X.fn x=true)(I:Inv X pins σ H s)(g:Str→Bool):Inv {X with fn:=g} pins σ H s:=by
 have ok:=I.ok;refine⟨⟨ok.mod,ok.kind,ok.glob,ok.blt,ok.above,ok.inj,ok.has,fun x c _ h=>ok.cab x c (hfn x) h,ok.hd,ok.frames,ok.stk,ok.exf,ok.bs,ok.bsz,ok.noex,ok.exfs,ok.funs,ok.frf,ok.cab2,ok.hz⟩,I.os,I.bare,I.base,I.loc,I.cell,I.free,fun x c e=>?_,I.pin,I.hok,I.len⟩;rcases I.freeC x c e with z|⟨z,_⟩
 ·exact .inl z
 ·rw[hfn x]at z;cases z
abbrev xlh(cap:List Str):Str→Bool:=fun x=> !(cap.contains x)
abbrev xbJ(cap:List Str)(CX:CXT)(P:av)(w:World)(K:ag)(mg:Str→Option Value)(base:Heap)(N:List Str)(qual:Str)(scope:Scope)(f:Addr)(cd:Value)(A:aL)(outer:List Env)(s:af)(H:Hp)(E:XK):Cx:=
 {vV CX P w K mg base N qual scope f cd A outer s H E with fn:=xlh cap}
theorem Fun.okC{P:av}{w:World}{K:ag}{mg:Str→Option Value}{base:Heap}{x qual:Str}{st:Stmt}{f c:Addr}{fd:aj}{N ps:List Str}{k:Nat}{sp:Sp}(cap:List Str)(F:Fun K x qual st f fd)(hc:fd.code= .ref c)(S:xv N ps (xp st))(len:∀vs H Q E,sp vs H Q E→vs.length=ps.length)
  (hbody:∀(A:aL) (outer:List Env) (s:af) (H:Hp) (vs:List V) (Q:VK) (E:XK),xX k (A.deeper (dH qual (xp st) s.heap.objs.size f (.ref c)))→sp vs H Q E→
   ∃t,PSs (xbJ cap CX0 P w K mg base N qual (xp st) f (.ref c) A outer s H E).nox (xS st) t∧t {nx:=fun _ H'=>Q .non H',rt:=Q} (start N vs) H):xE P w K mg base CX0 (k+1) f fd ps sp:=by
 obtain⟨oc,od,kV,doc,pm,an,cdv,ct,osl,rfl,lk,hcd⟩:=F.ex;obtain rfl:cdv= .ref c:=hc;refine⟨len,fun A outer s H args us vs Q E hr e0 hb r hsp=>?_⟩;have hl:=len _ _ _ _ hsp;have KX:K.In s.heap:=e0.mod.kin.keeps fun b o e=>(e0.bs b o e).1;have lim:s.heap.NoLimit:=e0.mod.nolimit.keeps fun b o e=>(e0.bs b o e).1;have hkind:∀y∈ps.zip us,(xp st).names.lookup y.1=some .local∨((xp st).names.lookup y.1=some .cell∧((gi (s.heap.objs.size+1) (xp st).names []).lookup y.1).isSome=true):=fun⟨n,v⟩ hy=>by
  rcases S.par n (cU hy).1 with q|q
  ·exact .inl q
  ·exact .inr ⟨q,d8 _ _ _ (.inl q)⟩
 refine cV hr.depth (KX _ _ lk) rfl S.co S.gen rfl (gM KX hcd) (hb _ _ _ _ ?_);refine cX S.kind hkind fun env he s1 x=>?_;subst he;refine⟨lim.keeps x.toInCall.keep,gN ?_⟩;obtain⟨t,ht,hq⟩:=hbody A outer s H vs Q E (hr.deeper _) hsp;have I:Inv (vV CX0 P w K mg base N qual (xp st) f (.ref c) A outer s H E) [] (start N vs) H s1:=xbE S hr.hd e0 hl r x;have I':Inv (xbJ cap CX0 P w K mg base N qual (xp st) f (.ref c) A outer s H E).nox [] (start N vs) H s1:=(I.capd (fun _=>rfl) (xlh cap)).wish _;refine aT (ht [] s1 (start N vs) H _ I' hq) (fun fl s' hs=>?_) fun e s' hs=>hs.elim;have fin:∀{σ':St} {H':Hp} {v:V} {u:Value},Inv (xbJ cap CX0 P w K mg base N qual (xp st) f (.ref c) A outer s H E).nox [] σ' H' s'→RelV v u→Q v H'→CE outer P w H s Q u s':=
  fun{σ' H' v u} J rv q=>⟨v,H',J.os,J.bare,J.base,J.hok,rv,q⟩
 cases fl with
 |ret u=>
  obtain⟨v,σ',H',J,rv,q⟩:=hs;exact fin J rv q
 |next=>
  obtain⟨σ',H',J,q⟩:=hs;exact fin (v:=V.non) (u:=bj) J rfl q
 |brk=>
  obtain⟨_,_,_,q⟩:=hs;exact aS q
 |cont=>
  obtain⟨_,_,_,q⟩:=hs;exact aS q
section
variable {X:Cx} {c P:Addr} {qs:List (Pos×Str)} {name q:Str} {params:cq} {scope:Scope} {pos:Pos} {fns:List Str}
theorem zS{e:Expr}(hcode:X.env.code= .ref c)(T:uz X.K c P)(hql:X.env.qual++"<lambda>"=q)(hq:(pos,q)∈qs)(hu:(qs.all fun p=> !((pos.line==p.1.line)&&(pos.col==p.1.col))||(p.2==q))=true)
  (hfr:(scope.names.filter fun y=>y.2== .free).map (·.1)=fns) (hdef:defaultsOf params X.env=([],[]):=by rfl):
  PE X (.Lambda params e scope pos) (tFn X P qs fns "<lambda>" q params (.expr e) scope):=by
 subst hql;exact xmf hcode T hq hu hfr hdef
end
theorem xoY{K:ag}{c P:Addr}(e:W.codeHdIn K c P=true):uz K c P:=fun _ X=>W.codeHd_of_K X e
end L2
namespace L2
open PySem PySem.Spec PyProof.Rows
theorem xli{X:Cx}{a b:Expr}{pos:Pos}{op:CmpOp}{t:TE}(h:PC X op a b t)(h1:cE op b=false):PT X (.Compare a [op] [b] pos) (cB t):=by
 intro pins s σ H Q I hw;refine fy (thn (h pins s σ H _ I hw) fun v s1 h1=>thn h1 fun u s2 h2=>thn h2 fun c s3 ⟨x,H1,I1,r1,q1⟩=>?_) h1;obtain⟨d,rfl,q⟩:=jL q1;cases r1;exact bW ⟨H1,I1,q⟩
end L2
namespace L2
open PySem PySem.Spec PyProof.Rows
end L2
namespace L2
open PySem PySem.Spec PyProof.Rows
section
variable {X:Cx}
theorem xaX{st:Stmt}:PS X st (fun _ _ _=>False):=fun _ _ _ _ _ _ q=>q.elim
theorem xfS:∀{bs:List Bool} {us:List Value},Vals (bs.map V.bl) us→us=bs.map d5
 |[],[],_=>rfl
 |[],_::_,h=>by cases h
 |_::_,[],h=>by cases h
 |b::bs,u::us,h=>by
  cases h with
  |cons h1 h2=>
   rw[xfS h2];cases h1;rfl
theorem range_all(bs:List Bool)(d:Bool):(b8 bs.length).all (fun i=>bs.getD i d)=bs.all id:=by
 rw[eA,cL,cL];constructor
 ·intro h x hx;obtain⟨i,hi,rfl⟩:=iM.mp hx;have:=h i (by simpa using hi);simpa [hi]using this
 ·intro h i hi;have hi':i<bs.length:=by simpa using hi
  have:=h bs[i] (fw hi');simpa [hi']using this
def xq6(K:ag)(f:List Bool→Bool):List V→Hp→VK→Prop:=fun xs H Q=>∃p bs,xs=[.ref p]∧SqL K H p (bs.map V.bl)∧Q (.bl (f bs)) H
theorem xjN{prog:av}{w:World}{A:aL}(bs:List Bool):TruthOf prog w A (fun i v=>(bs.map d5).toArray[i]? =some v) (fun i=>bs.getD i true):=by
 intro i v s Q E hP hQ;have e:v= .bool (bs.getD i true):=by
  simp only[List.getElem?_toArray,aA]at hP;cases q:bs[i]? with
  |none=>rw[q]at hP;cases hP
  |some b=>rw[q]at hP;simp at hP;rw[←hP];simp[List.getD,q]
 rw[e];exact bW hQ
theorem xmi(hc:X.calm=true):yD X (.builtin "all") (xq6 X.K fun bs=>bs.all id):=by
 intro pins s σ H xs us Q I r h;obtain⟨p,bs,rfl,hq,q⟩:=h;obtain⟨u,rfl,rx⟩:=vals1 r;cases rx;obtain⟨its,r',pl,hz⟩:=I.list hq;have e:=xfS r';subst e;have hL:=pl.isList;have hlt:p<s.heap.objs.size:=by obtain⟨_,e,_⟩:=hL;exact ay e
 refine call_all_walk (fb hL ⟨_,_,_,_,_,_,fun i=>bs.getD i true,rfl,Walks.list (A:=X.A.in1) (I.ok.hd hc) _ p (aH hlt) (bs.map d5).toArray,⟨⟨_,aN _ rfl,rfl,rfl⟩,hL.push _⟩,xjN bs,fun h' tk hk=>?_⟩);refine⟨.bl (bs.all id),H,I.kept (t':=tk) (fun b o e=>hk b o (fun hb=>?_) (ah _ e)),?_,q⟩
 ·exact absurd (ay e) (by rw[ao.mp hb];exact bM _)
 ·have e:=range_all bs true;simp only[aO,ai];rw[e];rfl
def xq7(K:ag):List V→Hp→VK→Prop:=fun xs H Q=>∃(p:Addr) (ns:List Int),xs=[.ref p]∧SqL K H p (ns.map V.int)∧Q (.int ns.sum) H
theorem xdL(hc:X.calm=true):yD X (.builtin "sum") (xq7 X.K):=by
 intro pins s σ H xs us Q I r h;obtain⟨p,ns,rfl,hq,q⟩:=h;obtain⟨u,rfl,rx⟩:=vals1 r;cases rx;obtain⟨its,r',pl,hz⟩:=I.list hq;have hi:=intsAre_of r';have hL:=pl.isList;have hn:=hi.numsOf;obtain⟨ys,e⟩:=hi.allInts.items;rw[e]at hL;have e2:numsOf its=numsOf (gW ys).toList:=by rw[←e]
 rw[e2,nums_intItems]at hn;refine sum_intListG (I.ok.hd hc) hL fun h' tk t' hk=>⟨.int ns.sum,H,I.kept (t':=tk) hk,⟨t',?_⟩,q⟩;rw[preSum_eq,cR (by simp),hn]
end
end L2
namespace L2
open PySem PySem.Spec PyProof.Rows
section
variable {X:Cx} {pins:List (Addr×Obj)} {σ:St} {H:Hp} {s:af} {h':Heap}
theorem Inv.turnLaid{t':Nat}{ch:List Addr}{a:Addr}{o:HO}(I:Inv X pins σ H s)(k:∀b u,b∉ch→s.heap.get? b=some u→h'.get? b=some u)(hp:s.heap.objs.size≤a)(new:yh X.prog X.w (upd H a o) h' a o)
  (hn:∀b∈ch,H b=none) (hl:∀b∈ch,b<s.heap.objs.size) (hch:∀b∈ch,(b∈X.ex∨X.s₀.heap.objs.size≤b)∧b≠X.env.locals∧(∀x c,X.env.cells.lookup x=some c→c≠b)∧∀p∈X.pn++pins,p.1≠b):
  Inv X pins σ (upd H a o) {s with heap:=h',toks:=t'}:=by
 have nit:∀b u,H b=some u→b∉ch:=fun b u e z=>by rw[hn b z]at e;cases e
 have fr:=I.hok.fresh hp;refine I.call' (s':={s with heap:=h',toks:=t'}) (ch:=ch) rfl ⟨fun b o q _ _ hx=>k b o hx q,fun b o q _ _ hx=>⟨o.slots,k b o hx q⟩,fun b o q n _=>?_,fun b o q hx=>⟨o,k b o hx q⟩,fun b u q _=>?_⟩ (fun b u e=>?_) I.bare hch
 ·rw[xr (aH (aG (ay q) hp))];exact n
 ·rw[xr (xF q fr)];exact q
 ·by_cases hb:b=a
  ·subst hb;rw[xt]at e;cases e;exact new
  ·rw[xr hb]at e;refine(I.hok b u e).stay (fun c v hc q=>k c v ?_ q) (fun c q=>by rw[xr (xF q fr)];exact q) fun c xs q _=>by rw[xr (xF q fr)];exact q
   rcases hc with z|z
   ·rw[z];exact nit b u e
   ·exact nit c _ z
end
def Ite(K:ag)(a:Addr):It:=
 ⟨fun i H=>∃xs x,SqL K H a xs∧xs[i]? =some x,fun i H v H'=>∃T x,v= .ref T∧H T=none∧H'=upd H T (.tup [.int i,x])∧∀xs,SqL K H a xs→xs[i]? =some x,fun i H=>∃xs,SqL K H a xs∧xs.length≤i⟩
theorem xmj{P:av}{w:World}{K:ag}{es:List Expr}{k:Nat}{pos:Pos}(a e it:Addr)(hne:e≠it):Turn P w K (.Tuple es k pos) (Ite K a) [e,it] e (fun i h=>(∃old,gX h e it (i:Nat) old)∧h.IsListIter it a i) where
 mem:=by simp
 obj:=fun i h st b hb=>by
  obtain⟨⟨old,he⟩,⟨o,e1,c,d⟩⟩:=st;rcases aq.mp hb with z|z
  ·subst z;exact⟨_,he,fun v z=>by cases z⟩
  ·rw[ao.mp z];exact⟨o,e1,fun v z=>by rw[d]at z;cases z⟩
 keep:=fun i h h' st kk=>by
  obtain⟨⟨old,he⟩,hit⟩:=st;exact⟨⟨old,kk e (by simp) _ he⟩,hit.at fun o x=>kk it (by simp) o x⟩
 item:=by
  intro X hP hw hK hc i pins s σ H E I hf st hg;subst hP hw hK;obtain⟨xs,x,hq,hx⟩:=hg;obtain⟨its,rv,p,hz⟩:=I.list hq;obtain⟨u,hu,ru⟩:=rv.get hx;obtain⟨⟨old,he⟩,hit⟩:=st;have he':=ay he;have hi':it<s.heap.objs.size:=by obtain⟨o,q,_⟩:=hit;exact ay q
  refine wpAny_pyNext_enum_item he hit p.isList (x:=u) (by simpa using hu) hne fun h' heo hit' hT hsz hk=>?_;refine⟨_,rfl,ee (s:={s with heap:=h',toks:=s.toks+1}) heo fun h2 he2 hs2=>?_⟩;have hT2:h2.get? s.heap.objs.size=some {cls:=.type "tuple",data:=.seq #[.int i s.toks,u]}:=(hs2.2 _ (eN he')).trans hT;have I2:Inv X pins σ (upd H s.heap.objs.size (.tup [.int i,x])) {s with heap:=h2,toks:=s.toks+1}:=by
   refine I.turnLaid (ch:=[e,it]) (fun b o hb q=>?_) (ar _) ⟨by simp[a6],[.int i s.toks,u],.cons ⟨_,rfl⟩ (.cons ru .nil),⟨_,hT2,rfl,_,rfl⟩⟩ (fun b hb=>(hf b hb).1) (fun b hb=>?_) fun b hb=>?_
   ·have b1:b≠e:=fun z=>hb (by simp[z]);have b2:b≠it:=fun z=>hb (by simp[z]);exact(hs2.2 b b1).trans (hk b o b1 b2 q)
   ·rcases aq.mp hb with z|z
    ·rw[z];exact he'
    ·rw[ao.mp z];exact hi'
   ·obtain⟨f0,f1,f2,f3,f4,f5⟩:=hf b hb;exact⟨f3,f1,f4,f5⟩
  refine⟨.ref s.heap.objs.size,_,I2,rfl,⟨_,x,rfl,I.hok.fresh (ar _),rfl,fun ys hy=>by rw[I.list_inj hy hq];exact hx⟩,⟨⟨u,by simpa using he2⟩,hit'.extBut hs2.extBut (au hne)⟩,fun b hb=>?_⟩;have hb':b≠s.heap.objs.size:=by
   rcases aq.mp hb with z|z
   ·rw[z];exact aH he'
   ·rw[ao.mp z];exact aH hi'
  rw[xr hb'];exact(hf b hb).1
 done:=by
  intro X hP hw hK hc i pins s σ H E I hf st hg;subst hP hw hK;obtain⟨xs,hq,hx⟩:=hg;obtain⟨its,rv,p,hz⟩:=I.list hq;obtain⟨⟨old,he⟩,hit⟩:=st;obtain⟨f0,f1,f2,f3,f4,f5⟩:=hf it (by simp);have hl:=rv.length;exact wpAny_pyNext_enum_end (I.ok.hd hc) he hit p.isList (by simp;lia) fun h' eb=>⟨rfl,I.turned (t':=s.toks) (fun b o hb e=>eb b o hb e) f0 f1 f3 f4 f5⟩
 self:=fun _ _ _ _ _ st h=>by
  obtain⟨⟨old,he⟩,_⟩:=st;exact c8 he h
section
variable {X:Cx} {es:List Expr} {k:Nat} {tp:Pos}
def xq8(K:ag)(ta:TA):TI:=fun σ H R=>ta σ H fun vs H1=>∃a,vs=[.ref a]∧(∃xs,SqL K H1 a xs)∧R (Ite K a) H1
theorem xkt{l:Expr}{ta:TA}{p pos:Pos}(hg:Gl X "enumerate")(hm:X.mg "enumerate"=none)(ha:PA X [l] ta)(hs:aE [l] X.env=[(false,eval l X.env)]:=by rfl):PI X (.Tuple es k tp) (.Call (.Name "enumerate" p) [l] [] pos) (xq8 X.K ta):=by
 intro pins s σ H R I h;refine Call_ (uS I hg hm xa3 (bE (thn (ha pos pins s σ H _ I h) fun us s1 ⟨vs,H1,I1,r1,q1⟩=>?_) hs rfl));obtain⟨a,e,⟨xs,hq⟩,q⟩:=q1;subst e;obtain⟨u,rfl,ru⟩:=Vals.one r1;cases ru;obtain⟨its,rv,pl,hz⟩:=I1.list hq;refine call_enumerate_list pl.isList fun h' he hi hsz hk=>c8 (s:={s1 with heap:=h'}) he ?_;refine⟨s1.heap.objs.size+1,[s1.heap.objs.size+1,s1.heap.objs.size],_,_,H1,rfl,I1.kept (t':=s1.toks) hk,xmj a _ _ (gY _),⟨⟨.none,by simpa using he⟩,hi⟩,fun b hb=>?_,q⟩;rcases aq.mp hb with z|z
 ·rw[z];exact I1.fpOk (cP _) (I1.hok.fresh (cP _))
 ·rw[ao.mp z];exact I1.fpOk (ar _) (I1.hok.fresh (ar _))
end
section
variable {X:Cx} {scope:Scope} {x1 x2:Str} {cap:List Nat} {ys:List Str}
end
@[irreducible] def xrS(K:ag)(J:It)(caps:St)(tt:TT)(te:TE)(Q:VK)(H2:Hp):Prop:=∀D,H2 D=none→∃W:CW,(∃m,W 0 m [] (upd H2 D (.lst [])))∧
 ∀i m acc H3,W i m acc H3→H3 D=some (.lst acc)∧((J.stop i H3∧Q (.ref D) H3)∨(J.go i H3∧acc.length<aM∧∀v H4,J.yld i H3 v H4→∃T v1 v2,v= .ref T∧SqT K H4 T [v1,v2]∧tt (some v1::some v2::caps) H4 fun b H5=>
  (b=true→te (some v1::some v2::caps) H5 fun u H6=>H6 D=some (.lst acc)∧∃m',m'<m∧W (i+1) m' (acc++[u]) (upd H6 D (.lst (acc++[u]))))∧(b=false→∃m',m'<m∧W (i+1) m' acc H5)))
section
variable {X:Cx} {scope:Scope} {x1 x2:Str} {cap:List Nat} {ys:List Str} {elt iter:Expr} {ifs:List Expr} {px1 px2 px pos:Pos} {kx:Nat} {wi:TI} {tt:TT} {te:TE}
end
end L2
namespace L2
open PySem PySem.Spec PyProof.Rows
theorem xbV{α β:Type}{F:α→β→Prop}:∀{as:List α} {bs:List β} {i:Nat} {a:α},Paired F as bs→as[i]? =some a→∃b,bs[i]? =some b∧F a b
 |_,_,i,b,.nil,h=>by simp at h
 |_,_,0,b,.cons x xs,h=>by simp at h;subst h;exact⟨_,rfl,x⟩
 |_,_,i+1,b,.cons x xs,h=>by obtain⟨a,h1,h2⟩:=xbV (i:=i) xs (by simpa using h);exact⟨a,by simpa using h1,h2⟩
def del(H:Hp)(D:Addr):Hp:=fun b=>if b=D then none else H b
theorem uY{H:Hp}{D:Addr}:del H D D=none:=by unfold del;rw[if_pos rfl]
theorem xab{H:Hp}{D b:Addr}(h:b≠D):del H D b=H b:=by unfold del;rw[if_neg h]
theorem uZ{H:Hp}{D:Addr}:xg (del H D) H:=fun b u e=>by
 by_cases h:b=D
 ·rw[h,uY]at e;cases e
 ·rw[xab h]at e;exact e
theorem zr{H:Hp}{D:Addr}{o:HO}:del (upd H D o) D=del H D:=by
 funext b
 by_cases h:b=D
 ·rw[h,uY,uY]
 ·rw[xab h,xab h,xr h]
theorem jM{H:Hp}{D:Addr}(h:H D=none):del H D=H:=by
 funext b
 by_cases e:b=D
 ·rw[e,uY,h]
 ·rw[xab e]
theorem jN{H H':Hp}{D:Addr}(s:xg H H'):xg (del H D) (del H' D):=fun b u e=>by
 by_cases h:b=D
 ·rw[h,uY]at e;cases e
 ·rw[xab h]at e⊢;exact s b u e
theorem xdM{lo st:Int}{n:Nat}{te:TE}{caps:L2.St}{Q:VK}{H2:Hp}(Pv:Nat→List V→Hp→Prop)(hn:n≤aM)(h0:Pv 0 [] H2)
  (hs:∀(i:Nat) acc H3 H3',i<n→xg H2 H3→xg H3 H3'→Pv i acc H3→∀R:VK,(∀u H6',xg H3' H6'→(∀H6,xg H3 H6→(∀p o,(H3' p=none∨∀ys,o≠HO.lst ys)→H6' p=some o→H6 p=some o)→Pv (i+1) (acc++[u]) H6)→R u H6')→te (some (.int (lo+i*st))::caps) H3' R)
  (hd:∀D acc H H',H2 D=none→H D=none→xg H2 H→xg H H'→Pv n acc H→acc.length=n→H' D=some (.lst acc)→Q (.ref D) H'):zv (Its lo st n) caps xgI te Q H2:=by
 unfold zv;intro D hD;refine⟨fun i m acc H3=>m=n - i∧i≤n∧acc.length=i∧H3 D=some (.lst acc)∧xg H2 (del H3 D)∧Pv i acc (del H3 D),⟨n,by simp,bL _,rfl,xt,?_,?_⟩,?_⟩
 ·rw[zr,jM hD];exact xg.refl _
 ·rw[zr,jM hD];exact h0
 rintro i m acc H3 ⟨rfl,hi,hacc,hD3,s3,p3⟩;refine⟨hD3,?_⟩
 by_cases hlt:i<n
 ·refine .inr ⟨hlt,by lia,fun v H4 y=>?_⟩;obtain⟨e,y⟩:=y;subst e y;refine⟨fun _=>?_,fun z=>by cases z⟩;refine hs i acc _ _ hlt s3 uZ p3 _ fun u H6' s6 k=>⟨s6.at hD3,n - (i+1),by lia,rfl,hlt,by simp[hacc],xt,?_,?_⟩
  ·rw[zr];exact s3.trans (jN s6)
  ·rw[zr];refine k _ (jN s6) fun p o q1 q2=>?_;rw[xab (fun z=>by
    rcases q1 with q1|q1
    ·rw[z,hD3]at q1;cases q1
    ·rw[z,s6.at hD3]at q2;cases q2;exact q1 _ rfl)]
   exact q2
 ·have e:i=n:=by lia
  subst e;exact .inl ⟨ar _,hd D acc _ H3 hD uY s3 uZ p3 hacc hD3⟩
theorem xlj{K:ag}{l:Addr}{xs:List V}{te:TE}{caps:L2.St}{Q:VK}{H2:Hp}(Pv:Nat→List V→Hp→Prop)(hl:SqL K H2 l xs)(hn:xs.length≤aM)(h0:Pv 0 [] H2)
  (hs:∀(i:Nat) x acc H3 H3',xs[i]? =some x→xg H2 H3→xg H3 H3'→Pv i acc H3→∀R:VK,(∀u H6',xg H3' H6'→(∀H6,xg H3 H6→(∀p o,(H3' p=none∨∀ys,o≠HO.lst ys)→H6' p=some o→H6 p=some o)→Pv (i+1) (acc++[u]) H6)→R u H6')→te (some x::caps) H3' R)
  (hd:∀D acc H H',H2 D=none→H D=none→xg H2 H→xg H H'→Pv xs.length acc H→acc.length=xs.length→H' D=some (.lst acc)→Q (.ref D) H'):zv (Itl K l) caps xgI te Q H2:=by
 unfold zv;intro D hD;refine⟨fun i m acc H3=>m=xs.length - i∧i≤xs.length∧acc.length=i∧H3 D=some (.lst acc)∧xg H2 (del H3 D)∧Pv i acc (del H3 D),⟨xs.length,by simp,bL _,rfl,xt,?_,?_⟩,?_⟩
 ·rw[zr,jM hD];exact xg.refl _
 ·rw[zr,jM hD];exact h0
 rintro i m acc H3 ⟨rfl,hi,hacc,hD3,s3,p3⟩;refine⟨hD3,?_⟩;have q:=(s3.trans uZ).seq hl
 by_cases hlt:i<xs.length
 ·have hx:xs[i]? =some xs[i]:=aC hlt;refine .inr ⟨⟨xs,xs[i],q,hx⟩,by lia,fun v H4 y=>?_⟩;obtain⟨e,y⟩:=y;have ev:=y xs q;rw[hx]at ev;cases ev;subst e;refine⟨fun _=>?_,fun z=>by cases z⟩;refine hs i _ acc _ _ hx s3 uZ p3 _ fun u H6' s6 k=>⟨s6.at hD3,xs.length - (i+1),by lia,rfl,hlt,by simp[hacc],xt,?_,?_⟩
  ·rw[zr];exact s3.trans (jN s6)
  ·rw[zr];refine k _ (jN s6) fun p o q1 q2=>?_;rw[xab (fun z=>by
    rcases q1 with q1|q1
    ·rw[z,hD3]at q1;cases q1
    ·rw[z,s6.at hD3]at q2;cases q2;exact q1 _ rfl)]
   exact q2
 ·have e:i=xs.length:=by lia
  subst e;exact .inl ⟨⟨xs,q,ar _⟩,hd D acc _ H3 hD uY s3 uZ p3 hacc hD3⟩
theorem xhF{K:ag}{l:Addr}{xs:List V}{te:TE}{caps:L2.St}{Q:VK}{H2:Hp}(Pv:Nat→List V→Hp→Prop)(hl:SqT K H2 l xs)(hn:xs.length≤aM)(h0:Pv 0 [] H2)
  (hs:∀(i:Nat) x acc H3 H3',xs[i]? =some x→xg H2 H3→xg H3 H3'→Pv i acc H3→∀R:VK,(∀u H6',xg H3' H6'→(∀H6,xg H3 H6→(∀p o,(H3' p=none∨∀ys,o≠HO.lst ys)→H6' p=some o→H6 p=some o)→Pv (i+1) (acc++[u]) H6)→R u H6')→te (some x::caps) H3' R)
  (hd:∀D acc H H',H2 D=none→H D=none→xg H2 H→xg H H'→Pv xs.length acc H→acc.length=xs.length→H' D=some (.lst acc)→Q (.ref D) H'):zv (Itt K l) caps xgI te Q H2:=by
 unfold zv;intro D hD;refine⟨fun i m acc H3=>m=xs.length - i∧i≤xs.length∧acc.length=i∧H3 D=some (.lst acc)∧xg H2 (del H3 D)∧Pv i acc (del H3 D),⟨xs.length,by simp,bL _,rfl,xt,?_,?_⟩,?_⟩
 ·rw[zr,jM hD];exact xg.refl _
 ·rw[zr,jM hD];exact h0
 rintro i m acc H3 ⟨rfl,hi,hacc,hD3,s3,p3⟩;refine⟨hD3,?_⟩;have q:=(s3.trans uZ).seqT hl
 by_cases hlt:i<xs.length
 ·have hx:xs[i]? =some xs[i]:=aC hlt;refine .inr ⟨⟨xs,xs[i],q,hx⟩,by lia,fun v H4 y=>?_⟩;obtain⟨e,y⟩:=y;have ev:=y xs q;rw[hx]at ev;cases ev;subst e;refine⟨fun _=>?_,fun z=>by cases z⟩;refine hs i _ acc _ _ hx s3 uZ p3 _ fun u H6' s6 k=>⟨s6.at hD3,xs.length - (i+1),by lia,rfl,hlt,by simp[hacc],xt,?_,?_⟩
  ·rw[zr];exact s3.trans (jN s6)
  ·rw[zr];refine k _ (jN s6) fun p o q1 q2=>?_;rw[xab (fun z=>by
    rcases q1 with q1|q1
    ·rw[z,hD3]at q1;cases q1
    ·rw[z,s6.at hD3]at q2;cases q2;exact q1 _ rfl)]
   exact q2
 ·have e:i=xs.length:=by lia
  subst e;exact .inl ⟨⟨xs,q,ar _⟩,hd D acc _ H3 hD uY s3 uZ p3 hacc hD3⟩
theorem xlk{K:ag}{l:Addr}{xs:List V}{tt:TT}{te:TE}{caps:L2.St}{Q:VK}{H2:Hp}(p:V→Bool)(f:V→V)(hl:SqL K H2 l xs)(hn:xs.length<aM)
  (ht:∀(x:V) (H3:Hp),x∈xs→xg H2 H3→∀R:Bool→Hp→Prop,(∀H6,xg H3 H6→R (p x) H6)→tt (some x::caps) H3 R)
  (hs:∀(x:V) (H3:Hp),x∈xs→p x=true→xg H2 H3→∀R:VK,(∀H6,xg H3 H6→R (f x) H6)→te (some x::caps) H3 R)
  (hd:∀D H',H2 D=none→xg H2 H'→H' D=some (.lst ((xs.filter p).map f))→Q (.ref D) H'):zv (Itl K l) caps tt te Q H2:=by
 unfold zv;intro D hD;refine⟨fun i m acc H3=>m=xs.length - i∧i≤xs.length∧acc=((xs.take i).filter p).map f∧H3 D=some (.lst acc)∧xg H2 H3,⟨xs.length,by simp,bL _,rfl,xt,xg.new hD⟩,?_⟩;rintro i m acc H3 ⟨rfl,hi,rfl,hD3,s3⟩;refine⟨hD3,?_⟩;have q:=s3.seq hl
 by_cases hlt:i<xs.length
 ·have hx:xs[i]? =some xs[i]:=aC hlt;have hle:(((xs.take i).filter p).map f).length<aM:=by
   rw[ai];refine dI (List.length_filter_le _ _) ?_;rw[bC];lia
  have et:xs.take (i+1)=xs.take i++[xs[i]]:=by rw[bH,hx];rfl
  refine .inr ⟨⟨xs,xs[i],q,hx⟩,hle,fun v H4 y=>?_⟩;obtain⟨e,y⟩:=y;have ev:=y xs q;rw[hx]at ev;cases ev;subst e;refine ht _ _ (fw hlt) s3 _ fun H5 s5=>⟨fun hp=>?_,fun hp=>?_⟩
  ·refine hs _ _ (fw hlt) hp (s3.trans s5) _ fun H6 s6=>⟨s6.at (s5.at hD3),xs.length - (i+1),by lia,rfl,hlt,?_,xt,(s3.trans (s5.trans s6)).put hD⟩;rw[et,j5,bN];simp[hp]
  ·refine⟨xs.length - (i+1),by lia,rfl,hlt,?_,s5.at hD3,s3.trans s5⟩;rw[et,j5,bN];simp[hp]
 ·have e:i=xs.length:=by lia
  subst e;rw[bS]at hD3⊢;exact .inl ⟨⟨xs,q,ar _⟩,hd D H3 hD s3 hD3⟩
theorem xe9{K:ag}{f:Bool→Bool}{x y:V}{H:Hp}{Q:VK}{d:dN}(hx:Rp K H x d)(hy:Rp K H y d)(hd:dw d=true)(q:Q (.bl (f true)) H):xnp K f x y H Q:=
 ⟨d,d,hx,hy,hd,hd,by rw[PySem.SeqAt.eqv_refl d (SeqAt.canLay_of_shaped hd)];exact q⟩
end L2
namespace L2
open PySem PySem.Spec PyProof.Rows
section
variable {X:Cx} {K:ag}
theorem xa4(e:X.K=K):IxR X (xp2 K):=e▸yc
theorem xoZ(e:X.K=K):IxR X (xp3 K):=e▸xK
theorem xrJ(e:X.K=K):SlR X (xp4 K):=e▸xaW
theorem xrV(e:X.K=K):yD X (.builtin "isinstance") (xqa K):=e▸uX
theorem xrW(e:X.K=K)(hu:X.A.units+64<cLine):OpR X (bz .NotEq) (xnp K fun b=> !b):=e▸xiq hu
end
end L2
namespace L2
open PySem PySem.Spec PyProof.Rows
end L2
namespace L2
open PySem PySem.Spec PyProof.Rows
theorem xmk{n d:Nat}{i:Int}(h0:0≤i):HT.sIx n d (some i)=min i.toNat n:=by
 show(if i<0 then(i+(n:Int)).toNat else min i.toNat n)=_;rw[if_neg (by lia)]
end L2
namespace L2
open PySem PySem.Spec PyProof.Rows
section
variable {X:Cx}
end
def xo0:Stmt→List Stmt
 | .For _ _ b _ _=>b
 |_=>[]
def xqh:Stmt→Expr
 | .Return (some v) _=>v
 |_=>.Constant .none 0 ⟨0,0,0,0⟩
def xck(i:Nat):Expr→Expr
 | .Call _ as _ _=>as.getD i (.Constant .none 0 ⟨0,0,0,0⟩)
 |_=>.Constant .none 0 ⟨0,0,0,0⟩
def xcl:Expr→cq
 | .Lambda a _ _ _=>a
 |_=>yf (.Pass ⟨0,0,0,0⟩)
def xcm:Expr→Expr
 | .Lambda _ b _ _=>b
 |e=>e
def zX:Expr→Scope
 | .Lambda _ _ s _=>s
 |_=>xp (.Pass ⟨0,0,0,0⟩)
theorem xfT{xs:List Int}{x v:Int}(h0:0≤x)(h:xs[x.toNat]? =some v):atI (xs.map V.int) x=some (.int v):=by
 have:=xgD (xs:=xs.map V.int) (j:=x.toNat) (v:=.int v) (by rw[aA,h];rfl)
 rwa [cH h0]at this
theorem xiL{n:Nat}{x:Int}(h0:0≤x)(h:x<n):ixN n x=some x.toNat:=by
 unfold ixN;rw[if_pos h0,if_pos h]
end L2
namespace PySem
open Sem (wp)
open PyProof.Rows
namespace F
end F
section
variable {prog:av} {w:World} {A:aL} {E:Value→af→Prop} {s:af}
end
end PySem
namespace L2
open PySem PySem.Spec PyProof.Rows
section
variable {X:Cx}
end
end L2
namespace L2
open PySem PySem.Spec PyProof.Rows
section
variable {X:Cx} {K:ag}
theorem xnu(e:X.K=K):yD X (.builtin "len") (fun xs H Q=>∃p ys,xs=[.ref p]∧(SqL K H p ys∨SqT K H p ys)∧Q (.int ys.length) H):=e▸xZ
end
end L2
namespace L2
open PySem PySem.Spec PyProof.Rows
theorem xcJ{X:Cx}{sts:List Stmt}:PSs X sts (fun _ _ _=>False):=fun _ _ _ _ _ _ q=>q.elim
end L2
namespace L2
open PySem PySem.Spec PyProof.Rows PySem.W
def xqi:Option (Int×Tok)→Array Value
 |none=>#[]
 |some (m,t)=>#[.int m t,.int m t]
def xq9(f:Nat→Int)(j:Nat):Option (Int×Tok)→Prop
 |none=>j=0
 |some (m,_)=>(∃i,i<j∧f i=m)∧∀i,i<j→f i≤m
def xml(f:Nat→Int)(n:Nat)(d v:Value):Prop:=(n=0→v=d)∧(0<n→∃m t,v= .int m t∧(∃i,i<n∧f i=m)∧∀i,i<n→f i≤m)
theorem xnv(a v:Value):argsOk "max" ⟨[a],[(aX "default",v)]⟩:=by unfold argsOk;kernel_rfl
section
variable {prog:av} {w:World} {A:aL} {R:gJ→af→Prop} {I:Addr} {fp wr:List Addr} {n:Nat} {P:Nat→Value→Prop} {St:Nat→Heap→Prop}
theorem xcK(W:Walks prog w A.in1 I fp wr n P St)(f:Nat→Int)(hP:∀i v,P i v→∃t,v= .int (f i) t)(S:Addr)(hSf:S∉fp)(d:Value):∀(k j:Nat) (s:af) (b:Option (Int×Tok)) (c:Nat),n - j=k→j≤n→St j s.heap→
  s.heap.get? S=some {cls:=.type "list",dict:=none,data:=.seq (xqi b) c,slots:=#[]}→xq9 f j b→
  (∀v h' tk,xml f n d v→(∀b o,b∉wr→b≠S→s.heap.get? b=some o→h'.get? b=some o)→R (.ok (.ret v)) {s with heap:=h',toks:=tk})→
  ck (model prog w) A (.builtin "max.loop" ⟨[.ref I,.none,.ref S],[(aX "default",d)]⟩) R s
 |0,j,s,b,c,hk,hj,hst,hS,hb,hR=>by
  have hin:j=n:=by lia
  subst hin;have hSw:S∉wr:=fun h=>hSf (W.sub _ h);refine ie F.entry_max_loop ?_;rw[iO dy _];show wpAny _ A.in1 (ig (.ref S) >>= _) _ _ s;refine aa (eY hS rfl ?_);show wpAny _ A.in1 (tryCatch (pyNext (.ref I)) _ >>= _) _ _ s;refine aa (iz (W.done s _ _ hst fun h' tk hk'=>?_));have hS':=hk' S _ hSw hS;cases b with
  |none=>
   cases hb;exact aa (m:=rule _) (wpAny_rule (ak (hR d _ tk ⟨fun _=>rfl,fun q=>absurd q (bM _)⟩ fun b o hbw _ e=>hk' b o hbw e)))
  |some p=>
   obtain⟨m,t⟩:=p;show wpAny _ A.in1 (ic S (fun _=>#[]) >>= _) _ _ _;refine aa (dM hS' rfl (aa (fY (ak ?_))) (by show(2:Nat)≤_;decide));refine hR _ _ tk ⟨fun q=>?_,fun _=>⟨m,t,rfl,hb⟩⟩ fun b o hbw hbS e=>(aZ _ _ (au hbS)).trans (hk' b o hbw e);obtain⟨⟨i,hi,_⟩,_⟩:=hb;lia
 |k+1,j,s,b,c,hk,hj,hst,hS,hb,hR=>by
  have hlt:j<n:=by lia
  have hSw:S∉wr:=fun h=>hSf (W.sub _ h);have hname:(toString "max"++toString ".loop":String)="max.loop":=by decide
  refine ie F.entry_max_loop ?_;rw[iO dy _];show wpAny _ A.in1 (ig (.ref S) >>= _) _ _ s;refine aa (eY hS rfl ?_);show wpAny _ A.in1 (tryCatch (pyNext (.ref I)) _ >>= _) _ _ s;refine aa (iz (W.item j s _ _ hlt hst fun v h' tk hv hst' hk'=>?_));have hS':=hk' S _ hSw hS;obtain⟨t,rfl⟩:=hP _ _ hv;have turned:∀(g:Array Value→Array Value),(∀b∈fp,∀o,h'.get? b=some o→(h'.update S (cQ g)).get? b=some o):=fun g b hbf o e=>(aZ _ _ (fun h:S=b=>hSf (by rw[h];exact hbf))).trans e;cases b with
  |none=>
   cases hb;show wpAny _ A.in1 (ic S (fun _=>#[.int (f 0) t,.int (f 0) t]) >>= _) _ _ _;refine aa (dM hS' rfl ?_);rw[hname];refine ak ⟨d9 dy _,xcK W f hP S hSf d k 1 _ (some (f 0,t)) (c+1) (by lia) (by lia) (W.frame _ _ _ hst' (turned _)) ?_ ⟨⟨0,by lia,rfl⟩,fun i hi=>?_⟩ fun v' h'' tk'' ho hk''=>?_⟩
   ·exact(bu _ hS' rfl).trans rfl
   ·rw[show i=0 by lia];exact fh _
   exact hR v' h'' tk'' ho fun b o hbw hbS e=>hk'' b o hbw hbS ((aZ _ _ (au hbS)).trans (hk' b o hbw e))
  |some p=>
   obtain⟨m,u⟩:=p;obtain⟨⟨i0,hi0,e0⟩,hle⟩:=hb;show wpAny _ A.in1 (tryCatch (eW [.int (f j) t,.int (f j) t] (richCompare .Gt (.int (f j) t) (.int m u) >>= _)) _ >>= _) _ _ _;have hcmp:=CmpOf.ints_gt (prog:=prog) (w:=w) (A:=A.in1) (P:=fun i v=>∃t,v= .int (if i=0 then f j else m) t) (fun i=>if i=0 then f j else m) (fun i v e=>e);refine aa (iz (br (aa (hcmp 0 1 _ _ _ _ _ ⟨t,rfl⟩ ⟨u,rfl⟩ ?_))));refine aa (br (bW ?_));refine aa (fY (ak ?_))
   by_cases hb:f j > m
   ·show wpAny _ _ (if decide (f j > m)=true then _ else _) _ _ _;rw[if_pos (decide_eq_true hb)];refine aa (dM hS' rfl (aa (fY ?_)) (by show(2:Nat)≤_;decide));rw[hname];obtain⟨c',e'⟩:∃c',(h'.update S (cQ fun _=>#[.int (f j) t,.int (f j) t])).get? S=some {cls:=.type "list",dict:=none,data:=.seq #[.int (f j) t,.int (f j) t] c',slots:=#[]}:=⟨_,bu _ hS' rfl⟩;refine ak ⟨d9 dy _,xcK W f hP S hSf d k (j+1) _ (some (f j,t)) c' (by lia) hlt (W.frame _ _ _ hst' (turned _)) e' ⟨⟨j,by lia,rfl⟩,fun i hi=>?_⟩ fun v' h'' tk'' ho hk''=>?_⟩
    ·by_cases q:i=j
     ·subst q;exact fh _
     ·have:=hle i (by lia);lia
    ·exact hR v' h'' tk'' ho fun b o hbw hbS e=>hk'' b o hbw hbS ((aZ _ _ (au hbS)).trans (hk' b o hbw e))
   ·show wpAny _ _ (if decide (f j > m)=true then _ else _) _ _ _;rw[if_neg (by rw[decide_eq_false hb];exact aI)];refine aa (fY ?_);rw[hname];refine ak ⟨d9 dy _,xcK W f hP S hSf d k (j+1) _ (some (m,u)) c (by lia) hlt hst' hS' ⟨⟨i0,by lia,e0⟩,fun i hi=>?_⟩ fun v' h'' tk'' ho hk''=>hR v' h'' tk'' ho fun b o hbw hbS e=>hk'' b o hbw hbS (hk' b o hbw e)⟩
    by_cases q:i=j
    ·subst q;lia
    ·exact hle i (by lia)
theorem xnw{E:Value→af→Prop}{s:af}{l:Addr}{xs:Array (Int×Tok)}{d:Value}{Q:Value→af→Prop}(hh:A.handled=none)(hl:s.heap.IsList l (gW xs))
  (h:∀v h' tk,xml (numAt xs) xs.size d v→(∀b o,s.heap.get? b=some o→h'.get? b=some o)→Q v {s with heap:=h',toks:=tk}):
  wpAny (model prog w) A (call (.builtin "max") [.ref l] [(aX "default",d)]) Q E s:=by
 have hname:(toString "max"++toString ".loop":String)="max.loop":=by decide
 refine kmk_tree F.kind_max F.plain_max F.entry_max (xnv _ _) ?_;show wpAny _ A.in1 (gj "max" ["key","default"] 0 ⟨[],[(aX "default",d)]⟩ >>= _) _ _ s;refine aa (fi (show gj "max" ["key","default"] 0 ⟨[],[(aX "default",d)]⟩=pure [none,some d]from rfl) ?_);refine aa (ak (aa (iter_intList hl fun s₂ e st hfp hlI=>?_)));subst e;refine aa (bX ?_);rw[hname];have W:=Walks.list (prog:=prog) (w:=w) (A:=A.in1) hh s.heap.objs.size l hlI (gW xs);have hsz:(gW xs).size=xs.size:=by simp[gW]
 refine ak ⟨d9 dy _,xcK W (numAt xs) (fun i v e=>intItems_at e) _ (fun hm=>bM _ (hfp _ hm)) d _ 0 _ none 0 rfl (bL _) (W.frame _ _ _ st fun b _ o e=>ah _ e) (aN _ rfl) rfl fun v h' tk ho hk=>?_⟩;rw[hsz]at ho;exact h v h' tk ho (old_kept fun b o hbw e=>hk b o hbw (aH (ay e)) (ah _ e))
end
section
variable {X:Cx}
def xra(K:ag)(ta:TA)(tf:TE):TE:=fun σ H Q=>ta σ H fun xs H1=>tf σ H1 fun y H2=>
 ∃(l:Addr) (ns:List Int) (z:Int),xs=[.ref l]∧y= .int z∧SqL K H2 l (ns.map V.int)∧∀m,(ns=[]→m=z)→(ns≠[]→m∈ns∧∀a∈ns,a≤m)→Q (.int m) H2
theorem xo1{e fe:Expr}{ta:TA}{tf:TE}{p pos kp:Pos}(hc:X.calm=true)(hg:Gl X "max")(hm:X.mg "max"=none)(ha:PA X [e] ta)(hf:PE X fe tf)
  (he:bG pos (aE [e] X.env)=(false,eval e X.env)::bG pos (aE [] X.env):=by rfl):
  PE X (.Call (.Name "max" p) [e] [⟨some "default",fe,kp⟩] pos) (xra X.K ta tf):=by
 intro pins s σ H Q I h;refine bK (uS I hg hm xdJ ?_ (by decide) (by decide));refine callWith_kw (thn (ha pos pins s σ H _ I h) fun us s1 ⟨xs,H1,I1,r1,q1⟩=>?_) he (by rw[he];rfl) rfl rfl;refine kws_cons (thn (hf pins s1 σ H1 _ I1 q1) fun fu s2 ⟨y,H2,I2,r2,q2⟩=>kws_nil ?_);obtain⟨l,ns,z,rfl,rfl,hl,q⟩:=q2;obtain⟨u,rfl,ru⟩:=Vals.one r1;cases ru;obtain⟨tz,rfl⟩:=r2;obtain⟨its,r',pl,hz⟩:=I2.list hl;have hi:=intsAre_of r';have hL:=pl.isList;have hn:=hi.numsOf;obtain⟨ys,e⟩:=hi.allInts.items;rw[e]at hL;have e2:numsOf its=numsOf (gW ys).toList:=by rw[←e]
 rw[e2,nums_intItems]at hn;have hlen:=congrArg fX hn;rw[ai,cG]at hlen;show wpAny _ _ (call (.builtin "max") [.ref l] [(aX "default",.int z tz)]) _ _ s2;refine xnw (I.ok.hd hc) hL fun v h' tk ho hk=>?_
 by_cases hne:ns=[]
 ·have h0:ys.size=0:=by rw[hlen,hne];rfl
  have:=ho.1 h0;subst this;exact⟨.int z,H2,I2.kept (t':=tk) hk,⟨tz,rfl⟩,q z (fun _=>rfl) fun x=>absurd hne x⟩
 ·have hpos:0<ns.length:=i3.mpr hne;obtain⟨m,t,rfl,⟨i,hi',ei⟩,hle⟩:=ho.2 (by omega);refine⟨.int m,H2,I2.kept (t':=tk) hk,⟨t,rfl⟩,q m (fun x=>absurd x hne) fun _=>⟨?_,fun a ha'=>?_⟩⟩
  ·rw[←hn,←ei,numAt_eq];exact getD_mem (by rw[ai,cG];omega)
  ·rw[←hn]at ha';obtain⟨j,hj,rfl⟩:=mem_getD ha';rw[ai,cG]at hj;rw[←numAt_eq];exact hle j hj
end
end L2
namespace L2
open PySem PySem.Spec PyProof.Rows PySem.W
structure xcL(K:ag)(x qual:Str)(st:Stmt)(f:Addr)(fd:aj)(ds:List Value):Prop where
 ex:∃(oc:Value) (od:Option Addr) (dT:Addr) (o:Obj) (n:Nat) (kV doc pm:Value) (an:Option Addr) (cdv ct:Value) (osl:Array (Option Value)),
  fd=bO x qual (yf st) (xS st) (xp st) (.ref dT) kV doc pm an cdv ct∧K.lookup f=some ⟨oc,od,.func fd,osl⟩∧cx K cdv qual=true∧K.lookup dT=some o∧o.data= .seq ds.toArray n
 kp:bY K (.ref f)=true
section
variable {P:av} {w:World} {K:ag} {mg:Str→Option Value} {base:Heap}
theorem xcL.ok{x qual:Str}{st:Stmt}{f:Addr}{fd:aj}{ds:List Value}{N ps:List Str}{k:Nat}{sp:Sp}(F:xcL K x qual st f fd ds)(S:xv N ps (xp st))(len:∀vs H Q E,sp vs H Q E→vs.length=ps.length)
  (hbody:∀(cdv:Value) (A:aL) (outer:List Env) (s:af) (H:Hp) (vs:List V) (Q:VK) (E:XK),xX k (A.deeper (dH qual (xp st) s.heap.objs.size f cdv))→sp vs H Q E→
   ∃t,PSs (vV CX0 P w K mg base N qual (xp st) f cdv A outer s H E).nox (xS st) t∧t {nx:=fun _ H'=>Q .non H',rt:=Q} (start N vs) H):xE P w K mg base CX0 (k+1) f fd ps sp:=by
 obtain⟨oc,od,dT,o,n,kV,doc,pm,an,cdv,ct,osl,rfl,lk,hcd,_⟩:=F.ex;refine xin lk hcd S len fun A outer s H vs Q E hr hsp=>?_;obtain⟨t,h,q⟩:=hbody cdv A outer s H vs Q E hr hsp;exact⟨t,h.nox,q⟩
theorem xcL.binds{x qual:Str}{st:Stmt}{f:Addr}{fd:aj}{ps:List Str}{ds es:List Value}(F:xcL K x qual st f fd ds)(n:Nat)(hn:n+es.length=ps.length)
  (h:∀(dT:Addr) (kV doc pm:Value) (an:Option Addr) (cdv ct:Value) (us:List Value),us.length=n→
   ∃k:Option (Array Value)→Sem (List (Str×Value)),dk (bO x qual (yf st) (xS st) (xp st) (.ref dT) kV doc pm an cdv ct) ⟨us,[]⟩=ig (.ref dT) >>= k∧k (some ds.toArray)=pure (ps.zip (us++es))):Binds K fd ps es:=by
 obtain⟨oc,od,dT,o,n,kV,doc,pm,an,cdv,ct,osl,rfl,lk,hcd,ho,hs⟩:=F.ex;intro s us X hl;obtain⟨k,h1,h2⟩:=h dT kV doc pm an cdv ct us (by rw[aW]at hl;lia);exact binds_K X rfl ho hs h1 h2
theorem xku{x qual:Str}{st:Stmt}{f dT:Addr}{oc:Value}{od an dod:Option Addr}{osl dsl:Array (Option Value)}{kV doc pm cdv ct dc:Value}{ds:List Value}{n:Nat}(l:K.lookup f=some ⟨oc,od,.func (bO x qual (yf st) (xS st) (xp st) (.ref dT) kV doc pm an cdv ct),osl⟩)
  (c:cx K cdv qual=true) (k:bY K (.ref f)=true) (d:K.lookup dT=some ⟨dc,dod,.seq ds.toArray n,dsl⟩):xcL K x qual st f (bO x qual (yf st) (xS st) (xp st) (.ref dT) kV doc pm an cdv ct) ds:=
 ⟨⟨oc,od,dT,_,n,kV,doc,pm,an,cdv,ct,osl,rfl,l,c,d,rfl⟩,k⟩
end
end L2
namespace L2
open PySem PySem.Spec PyProof.Rows
def Nu(X:Cx)(H:Hp)(b:Addr):Prop:=H b=none∧X.s₀.heap.get? b=none∧∀p∈X.pn,p.1≠b
def xrK(X:Cx)(H:Hp)(h:Heap)(a:Addr)(cls:Value)(dx:Option Addr):Prop:=
 ∃oe vs a0,h.get? a=some oe∧oe.cls=cls∧oe.dict=dx∧oe.data= .fields vs∧vs[0]? =some a0∧vs[1]? =some .none∧Nu X H a
def xcM(X:Cx)(fl:Value)(H:Hp)(h:Heap)(a:Addr)(cls:Value)(dx:Option Addr):Prop:=
 ∃oe vs a0 T oT ts,h.get? a=some oe∧oe.cls=cls∧oe.dict=dx∧oe.data= .fields vs∧vs[0]? =some a0∧vs[1]? =some (.ref T)∧T≠a∧h.get? T=some oT∧oT.data= .fields ts∧ts[3]? =some fl∧Nu X H a∧Nu X H T
def Fly(X:Cx)(H:Hp)(h:Heap)(a:Addr)(cls:Value)(dx:Option Addr):Prop:=
 xrK X H h a cls dx∨xcM X .none H h a cls dx∨xcM X (bx X.env.locals) H h a cls dx
structure Own(X:Cx):Prop where
 ex:X.ex=[]
 st:X.stack=X.env::X.outer
 fr:X.env.frame=some X.env.locals
abbrev EEs:=St→XK
def XE(X:Cx)(EE:EEs):Value→af→Prop:=fun e s'=>
 ∃a cls dx σ H,e= .ref a∧Inv X [] σ H s'∧Fly X H s'.heap a cls dx∧EE σ cls dx H
section
variable {X:Cx} {pins:List (Addr×Obj)} {σ:St} {H:Hp} {s:af}
theorem Inv.nopins(I:Inv X pins σ H s):Inv X [] σ H s:=I.pins_of fun p hp=>nomatch hp
theorem Own.mem(o:Own X){b:Addr}:b∈frs X.stack↔b=X.env.locals∨b∈X.fs:=by
 rw[o.st];unfold frs;rw[eu,o.fr];exact aq
theorem Inv.flown{h':Heap}(o:Own X)(I:Inv X [] σ H s)(ch:Addr→Prop)
  (keep:∀b u,¬ch b→b∉frs X.stack→s.heap.get? b=some u→h'.get? b=some u)
  (slot:∀b u,¬ch b→b∈frs X.stack→s.heap.get? b=some u→∃sl,h'.get? b=some {u with slots:=sl})
  (new:∀b,ch b→Nu X H b∧∀u,s.heap.get? b=some u→∃vs,u.data= .fields vs):Inv X [] σ H {s with heap:=h'}:=by
 have any:∀b u,¬ch b→s.heap.get? b=some u→∃sl,h'.get? b=some {u with slots:=sl}:=fun b u n e=>by
  by_cases hb:b∈frs X.stack
  ·exact slot b u n hb e
  ·exact⟨u.slots,keep b u n hb e⟩
 have old:∀b u,X.s₀.heap.get? b=some u→¬ch b:=fun b u e z=>by
  have:=(new b z).1.2.1;rw[e]at this;cases this
 have neL:∀b u,X.s₀.heap.get? b=some u→b≠X.env.locals:=fun b u e=>aH (aG (ay e) I.ok.above);have cel:∀c v,s.heap.IsCell c v→h'.IsCell c v:=fun c v ⟨u,e,d⟩=>by
  obtain⟨sl,q⟩:=any c u (fun z=>by
   obtain⟨vs,w⟩:=(new c z).2 u e;rw[d]at w;cases w) e
  exact⟨_,q,d⟩
 refine⟨I.ok,I.os,I.bare,⟨fun b u e n hb hx=>?_,fun b u e n hb hx=>?_,I.base.free,fun b u e hx=>?_,I.base.fix⟩,?_,fun x c e=>?_,I.free,I.freeC,fun p hp=>?_,fun b u e=>?_,I.len⟩
 ·exact keep b u (old b u e) (fun z=>(o.mem.mp z).elim (neL b u e) hb) (I.base.keep b u e n hb hx)
 ·obtain⟨sl,e1⟩:=I.base.slot b u e n hb hx;obtain⟨sl',e2⟩:=slot b _ (old b u e) (o.mem.mpr (.inr hb)) e1;exact⟨sl',e2⟩
 ·by_cases hb:b∈X.fs
  ·obtain⟨o',e1⟩:=I.base.there b u e hx;obtain⟨sl,e2⟩:=any b _ (old b u e) e1;exact⟨_,e2⟩
  ·obtain⟨o',e1⟩:=I.base.there b u e hx;obtain⟨sl,e2⟩:=any b _ (old b u e) e1;exact⟨_,e2⟩
 ·obtain⟨m,⟨u,es,ep,e,d⟩,l⟩:=I.loc;obtain⟨sl,q⟩:=any _ u (fun z=>by
   obtain⟨vs,w⟩:=(new _ z).2 u e;rw[d.1]at w;cases w) e
  refine⟨m,⟨_,es,ep,q,d⟩,fun i x v e1 e2 e3=>?_⟩;obtain⟨y,r,z⟩:=l i x v e1 e2 e3;exact⟨y,r,z.imp id fun⟨k,c,e,z⟩=>⟨k,c,e,cel c _ z⟩⟩
 ·obtain⟨v,z⟩:=I.cell x c e;exact⟨v,cel c v z⟩
 ·obtain⟨e,n,ne,nf,d⟩:=I.pin p hp;have hp':p∈X.pn:=by simpa using hp
  exact⟨keep p.1 p.2 (fun z=>(new _ z).1.2.2 p hp' rfl) (fun z=>(o.mem.mp z).elim ne nf) e,n,ne,nf,d⟩
 ·refine(I.hok b u e).stay (fun c v hc q=>?_) (fun _ q=>q) fun _ _ q _=>q;have tr:∃u,H c=some u:=by
   rcases hc with rfl|hc
   ·exact⟨u,e⟩
   ·exact⟨_,hc⟩
  obtain⟨u',tr⟩:=tr;refine keep c v (fun z=>?_) (fun z=>?_) q
  ·rw[(new c z).1.1]at tr;cases tr
  ·rw[I.stkFree c z]at tr;cases tr
theorem xfU{M:Model}{A':aL}{E:Value→af→Prop}{Q:Unit→af→Prop}{a:Addr}{oe:Obj}{vs:Array Value}{a0 head:Value}{had:Bool}(o:Own X)(hfr:A'.frames=some X.stack)(I:Inv X [] σ H s)
  (he:s.heap.get? a=some oe) (hd:oe.data= .fields vs) (h0:vs[0]? =some a0) (h1:1<vs.size) (hn:Nu X H a)
  (h:∀s',Inv X [] σ H s'→xcM X (bx X.env.locals) H s'.heap a oe.cls oe.dict→Q () s'):
  wpAny M A' (do let f ←frameOf X.env;let pl ←entryPlaceOf X.env.locals had;let b ←i4 head f .none (bx X.env.locals) .none pl;setField (.ref a) 1 b) Q E s:=by
 have hfs:s.heap.FunFrames X.base (X.env::X.outer):=by have:=I.stack;rwa [o.st]at this
 have hmem:∀b,b∈(X.env::X.outer).filterMap (·.frame)↔b∈frs X.stack:=fun b=>by rw[o.st];rfl
 have hna:a∉frs X.stack:=fun z=>by
  obtain⟨_,u,hu,hnf⟩:=hfs.mem ((hmem a).mpr z);rw[he]at hu;injection hu with hu;subst hu;exact hnf vs hd
 refine aa (wpAny_frameOf_fun (by rw[hfr,o.st]) hfs o.fr fun g1 so=>?_);refine aa (wpAny_entryPlaceOf fun pl hpl=>?_);unfold i4 newFields;refine aa (bX ?_ (hpl.sizeOk5 _ _ _ _ _));have g1a:g1.get? a=some oe:=(so.2.1 a fun z=>hna ((hmem a).mp z)).trans he;generalize hT:({cls:=.type "traceback",dict:=none,data:=.fields ([head,.ref X.env.locals,.none,bx X.env.locals,.none]++(if pl.isEmpty then aD 6 bj else pl)).toArray}:Obj)=ot;have g2a:=ah (h:=g1) ot g1a;refine eZ g2a hd h1 ?_;have neT:g1.objs.size≠a:=eN (ay g1a);have d3:=eR hd (·.setIfInBounds 1 (aB g1.objs.size));have a3:=bu (dE (·.setIfInBounds 1 (aB g1.objs.size))) g2a (fA d3);have t3:((g1.push ot).update a (dE (·.setIfInBounds 1 (aB g1.objs.size)))).get? g1.objs.size=some ot:=(aZ _ _ (au neT)).trans (aN g1 (by rw[←hT];rfl));have kp:∀b u,b≠a→g1.get? b=some u→((g1.push ot).update a (dE (·.setIfInBounds 1 (aB g1.objs.size)))).get? b=some u:=fun b u nb e=>
  (aZ _ _ (au nb)).trans (ah _ e)
 have old:∀b u,s.heap.get? b=some u→b≠g1.objs.size:=fun b u e=>aH (by rw[so.1];exact ay e);have nT:Nu X H g1.objs.size:=by
  refine⟨I.hok.fresh (by rw[so.1];exact ar _),?_,fun p hp z=>old p.1 p.2 (I.pin p (by simpa using hp)).1 z⟩;exact d7 (by rw[so.1];exact I.sz)
 have J:Inv X [] σ H {s with heap:=(g1.push ot).update a (dE (·.setIfInBounds 1 (aB g1.objs.size)))}:=by
  refine I.flown o (fun b=>b=a) (fun b u n nf e=>kp b u n ((so.2.1 b fun z=>nf ((hmem b).mp z)).trans e)) (fun b u n _ e=>?_) (fun b z=>?_)
  ·obtain⟨sl,e1⟩:=so.2.2 b u e;exact⟨sl,kp b _ n e1⟩
  ·subst z;exact⟨hn,fun u e=>⟨vs,by rw[he]at e;cases e;exact hd⟩⟩
 refine h _ J ?_
 ·refine⟨_,_,a0,g1.objs.size,ot,_,a3,Obj.cls_mapFields _ _,?_,d3,by rw[Array.getElem?_setIfInBounds_ne (by decide)];exact h0,by simp[h1],neT,t3,by rw[←hT],by simp,hn,nT⟩;obtain⟨c,d,dt,sl⟩:=oe;cases dt<;> rfl
theorem xgM{M:Model}{A':aL}{E:Value→af→Prop}{Q:Unit→af→Prop}{a:Addr}{cls:Value}{dx:Option Addr}(o:Own X)(hfr:A'.frames=some X.stack)(I:Inv X [] σ H s)(F:Fly X H s.heap a cls dx)
  (h:∀s',Inv X [] σ H s'→xcM X (bx X.env.locals) H s'.heap a cls dx→Q () s'):wpAny M A' (noteFrame (.ref a) X.env) Q E s:=by
 unfold noteFrame;simp only[o.fr];rcases F with⟨oe,vs,a0,he,rfl,rfl,hd,h0,h1,hn⟩|⟨oe,vs,a0,T,oT,ts,he,rfl,rfl,hd,h0,h1,nT,hT,hdT,h3,hn,hnT⟩|F
 ·refine aa (bU he hd h1 ?_);rw[if_neg (by decide)];exact xfU o hfr I he hd h0 (cY.mp h1).1 hn h
 ·refine aa (bU he hd h1 ?_);rw[if_pos (by simp:(aB T != bj)=true)];refine aa (bU hT hdT h3 ?_);rw[if_neg (by simp[bx]:¬((bj==bx X.env.locals)=true))];refine aa (eZ hT hdT (cY.mp h3).1 ?_);have ot:∀b,b≠T→(s.heap.update T (dE (·.setIfInBounds 3 bj))).get? b=s.heap.get? b:=fun b nb=>aZ _ _ (au nb);have I':Inv X [] σ H {s with heap:=s.heap.update T (dE (·.setIfInBounds 3 bj))}:=by
   refine I.flown o (fun b=>b=T) (fun b u n _ e=>(ot b n).trans e) (fun b u n _ e=>⟨u.slots,(ot b n).trans e⟩) (fun b z=>?_);subst z;exact⟨hnT,fun u e=>⟨ts,by rw[hT]at e;cases e;exact hdT⟩⟩
  exact xfU o hfr I' ((ot a (au nT)).trans he) hd h0 (cY.mp h1).1 hn h
 ·obtain⟨oe,vs,a0,T,oT,ts,he,hc,hx,hd,h0,h1,nT,hT,hdT,h3,hn,hnT⟩:=id F;refine aa (bU he hd h1 ?_);rw[if_pos (by simp:(aB T != bj)=true)];refine aa (bU hT hdT h3 ?_);rw[if_pos (by simp:(bx X.env.locals==bx X.env.locals)=true)];exact ak (h s I F)
theorem xac{M:Model}{A':aL}{E:Value→af→Prop}{Q:Unit→af→Prop}{a:Addr}{cls fl:Value}{dx:Option Addr}{to:Option Addr}(o:Own X)(I:Inv X [] σ H s)(F:xcM X fl H s.heap a cls dx)
  (h:∀s',Inv X [] σ H s'→xcM X (to.elim .none fun f=>bx f) H s'.heap a cls dx→Q () s'):wpAny M A' (setFlight (.ref a) to) Q E s:=by
 obtain⟨oe,vs,a0,T,oT,ts,he,rfl,rfl,hd,h0,h1,nT,hT,hdT,h3,hn,hnT⟩:=F;unfold setFlight;refine aa (bU he hd h1 ?_);rw[if_pos (by simp:(aB T != bj)=true)];have z3:=(cY.mp h3).1;have ot:∀b,b≠T→(s.heap.update T (dE (·.setIfInBounds 3 (to.elim bj fun f=>bx f)))).get? b=s.heap.get? b:=fun b nb=>aZ _ _ (au nb);have d3:=eR hdT (·.setIfInBounds 3 (to.elim bj fun f=>bx f));refine eZ hT hdT z3 (h _ (I.flown o (fun b=>b=T) (fun b u n _ e=>(ot b n).trans e) (fun b u n _ e=>⟨u.slots,(ot b n).trans e⟩) fun b z=>?_) ?_)
 ·subst z;exact⟨hnT,fun u e=>⟨ts,by rw[hT]at e;cases e;exact hdT⟩⟩
 ·exact⟨oe,vs,a0,T,_,_,(ot a (au nT)).trans he,rfl,rfl,hd,h0,h1,nT,bu _ hT (fA d3),d3,by simp[z3],hn,hnT⟩
theorem xcN{M:Model}{A':aL}{E:Value→af→Prop}{Q:Unit→af→Prop}{a:Addr}{cls:Value}{dx:Option Addr}(o:Own X)(hfr:A'.frames=some X.stack)(I:Inv X [] σ H s)(F:Fly X H s.heap a cls dx)
  (h:∀s',Inv X [] σ H s'→xcM X .none H s'.heap a cls dx→Q () s'):wpAny M A' (leaving X.env (.ref a)) Q E s:=by
 unfold leaving;exact aa (xgM o hfr I F fun s1 I1 F1=>xac (to:=none) o I1 F1 h)
end
def CXE(P:av)(w:World):CXT:=fun outer H s E e s'=>∃a cls dx H' oe vs a0 T oT ts,e= .ref a∧s'.os=s.os∧eV s'.gens∧Un (frs outer) [] H H' s.heap s'.heap∧HOk P w H' s'.heap∧
 s'.heap.get? a=some oe∧oe.cls=cls∧oe.dict=dx∧oe.data= .fields vs∧vs[0]? =some a0∧vs[1]? =some (.ref T)∧T≠a∧s'.heap.get? T=some oT∧oT.data= .fields ts∧ts[3]? =some .none∧
 H' a=none∧s.heap.get? a=none∧H' T=none∧s.heap.get? T=none∧E cls dx H'
theorem xiM{CX:CXT}{P:av}{w:World}{K:ag}{mg:Str→Option Value}{base:Heap}{N:List Str}{qual:Str}{sc:Scope}{f:Addr}{cd:Value}{A:aL}{outer:List Env}{s:af}{H:Hp}{E:XK}:
  Own (vV CX P w K mg base N qual sc f cd A outer s H E):=⟨rfl,rfl,rfl⟩
theorem PSs.wished{X:Cx}{E:Value→af→Prop}{st:List Stmt}{t:TS}(h:PSs (X.wish E) st t)(hE:∀e s,E e s→X.xe e s):PSs X st t:=fun pins s σ H D I hw=>
 aT (h pins s σ H D (I.wish _) hw) (fun _ _ q=>q.unwish) hE
abbrev cxX(P:av)(w:World)(K:ag)(mg:Str→Option Value)(base:Heap)(N:List Str)(qual:Str)(sc:Scope)(f:Addr)(cd:Value)(A:aL)(outer:List Env)(s:af)(H:Hp)(E:XK):Cx:=
 (vV (CXE P w) P w K mg base N qual sc f cd A outer s H E).wish (XE (vV (CXE P w) P w K mg base N qual sc f cd A outer s H E) fun _=>E)
section
variable {P:av} {w:World} {K:ag} {mg:Str→Option Value} {base:Heap}
theorem Fun.okX{x qual:Str}{st:Stmt}{f:Addr}{fd:aj}{N ps:List Str}{k:Nat}{sp:Sp}(F:Fun K x qual st f fd)(S:xv N ps (xp st))(len:∀vs H Q E,sp vs H Q E→vs.length=ps.length)
  (hbody:∀(cdv:Value) (A:aL) (outer:List Env) (s:af) (H:Hp) (vs:List V) (Q:VK) (E:XK),xX k (A.deeper (dH qual (xp st) s.heap.objs.size f cdv))→sp vs H Q E→
   ∃t,PSs (cxX P w K mg base N qual (xp st) f cdv A outer s H E) (xS st) t∧t {nx:=fun _ H'=>Q .non H',rt:=Q} (start N vs) H):xE P w K mg base (CXE P w) (k+1) f fd ps sp:=by
 obtain⟨oc,od,kV,doc,pm,an,cdv,ct,osl,rfl,lk,hcd⟩:=F.ex;refine xin lk hcd S len fun A outer s H vs Q E hr hsp=>?_;obtain⟨t,h,q⟩:=hbody cdv A outer s H vs Q E hr hsp;refine⟨t,h.wished fun e s' ⟨a,cls,dx,σ,H',he,I,Fl,z⟩=>?_,q⟩;subst he;refine xcN xiM I.ok.frames I Fl fun s2 I2 F2=>?_;obtain⟨oe,vs,a0,T,oT,ts,he,hc,hx,hd,h0,h1,nT,hT,hdT,h3,hn,hnT⟩:=F2;exact⟨a,cls,dx,H',oe,vs,a0,T,oT,ts,rfl,I2.os,I2.bare,I2.base,I2.hok,he,hc,hx,hd,h0,h1,nT,hT,hdT,h3,hn.1,hn.2.1,hnT.1,hnT.2.1,z⟩
end
section
variable {X:Cx} {EE:EEs}
theorem xfV{pins:List (Addr×Obj)}{σ:St}{H:Hp}{s s':af}{e:Value}(o:Own X)(I:Inv (X.wish (XE X EE)) pins σ H s)(h:CXE X.prog X.w X.stack H s (EE σ) e s'):XE X EE e s':=by
 obtain⟨a,cls,dx,H',oe,vs,a0,T,oT,ts,rfl,os,bare,un,hok,he,hc,hx,hd,h0,h1,nT,hT,hdT,h3,n1,n2,n3,n4,q⟩:=h;have I0:Inv X pins σ H s:=I.unwish;have I1:Inv X pins σ H' s':=I0.call' os un hok bare fun b z=>absurd z (by simp);have nu:∀b,H' b=none→s.heap.get? b=none→Nu X H' b:=fun b m1 m2=>by
  refine⟨m1,?_,fun p hp z=>?_⟩
  ·cases q:X.s₀.heap.get? b with
   |none=>rfl
   |some u=>
    obtain⟨u',e⟩:=I0.base.there b u q (by rw[o.ex];simp);rw[m2]at e;cases e
  ·have:=(I0.pin p (a5 _ hp)).1;rw[z,m2]at this;cases this
 exact⟨a,cls,dx,σ,H',rfl,I1.nopins,.inr (.inl ⟨oe,vs,a0,T,oT,ts,he,hc,hx,hd,h0,h1,nT,hT,hdT,h3,nu a n1 n2,nu T n3 n4⟩),q⟩
variable {k:Nat} {f C:Addr} {fd:aj} {ps:List Str} {sp:Sp} {dvs:List V} {ds:List Value} {x m:Str} {p pos apos:Pos} {e ob:Expr} {es:List Expr} {ta:TE} {t:TA}
theorem xkv{pins:List (Addr×Obj)}{σ:St}{H:Hp}{s:af}{Q:VK}{us:List Value}{vs:List V}(o:Own X)(F:xE X.prog X.w X.K X.mg X.base (CXE X.prog X.w) k f fd ps sp)(hr:xX k X.A)(hb:Binds X.K fd ps ds)(hd:Vals dvs ds)
  (I:Inv (X.wish (XE X EE)) pins σ H s) (r:Vals vs us) (h:sp (vs++dvs) H Q (EE σ)):wpAny (model X.prog X.w) X.A (call (.ref f) us) (EP (X.wish (XE X EE)) pins σ Q) (XE X EE) s:=by
 have r2:Vals (vs++dvs) (us++ds):=r.append hd;have hl:(us++ds).length=ps.length:=r2.length.symm.trans (F.len _ _ _ _ h);refine cw (cm (F.run X.A X.stack s H ⟨us,[]⟩ (us++ds) (vs++dvs) Q (EE σ) hr I.unwish.env0 (hb s us I.unwish.kIn hl) r2 h) fun z s' hq=>?_)
 match z,hq with
 | .error e,hq=>exact xfV o I hq
 | .ok (.ret u),hq=>exact I.after hq
 | .ok .next,hq=>exact hq.elim
 | .ok .brk,hq=>exact hq.elim
 | .ok .cont,hq=>exact hq.elim
end
end L2
namespace L2
open PySem PySem.Spec PyProof.Rows
def xa6:List Value:=[.type "ValueError",.type "Exception",.type "BaseException",.type "object"]
def xcO(K:ag)(C:Addr):Prop:=gI K C xa6 "ValueError.__new__"=true
theorem xcO.obj{K:ag}{C:Addr}{h:Heap}(q:xcO K C)(X:K.In h):∃bm N nm qn bs hdct sn sub ab col dd k0 k1 k2 k3 k5,
  h.get? C=some (eo nm qn C N bs bm hdct sn sub ab col dd k0 k1 k2 k3 k5 "ValueError.__new__")∧h.Ns N (h.nsMap N)∧h.nsMap N "__init__"=none∧OwnTail h xa6 bm:=by
 unfold xcO gI at q
 split at q
 ·rename_i dd cd sl ho
  split at q
  ·rename_i C' bm k0 k1 k2 k3 n k5 hm hs;simp only[bR,beq_iff_eq,gz]at q;obtain⟨⟨⟨⟨⟨rfl,rfl⟩,hdel⟩,ht⟩,hok⟩,hni⟩:=q;obtain⟨nm,bs,mro,ns,qn,hd,sn,sub,ab,col,del⟩:=cd;obtain⟨l⟩:=sl;dsimp only at hm hdel hok hni hs;subst hm hdel hs;exact⟨bm,ns,nm,qn,bs,hd,sn,sub,ab,col,dd,k0,k1,k2,k3,k5,X _ _ ho,.of_isNs (W.isNs_of_in X hok),W.nsMap_none_of_in X hok hni,W.tail_of_in X ht⟩
  ·cases q
 ·cases q
theorem yh.here{P:av}{w:World}{H:Hp}{h:Heap}{a:Addr}{o:HO}(x:yh P w H h a o):∃u,h.get? a=some u:=by
 cases o with
 |lst xs=>obtain⟨_,_,_,_,e⟩:=x;exact⟨_,e⟩
 |tup xs=>obtain⟨_,_,_,u,e,_⟩:=x;exact⟨_,e⟩
 |dK kvs=>obtain⟨_,_,_,_,o,_,_,e,_⟩:=x;exact⟨_,e⟩
 |dT kvs=>obtain⟨_,_,_,_,o,_,_,e,_⟩:=x;exact⟨_,e⟩
 |set S n=>obtain⟨o,_,_,_,e,_⟩:=x;exact⟨_,e⟩
 |ins C dx fs=>obtain⟨_,_,_,e,_⟩:=x;exact⟨_,e⟩
 |own y=>exact x
 |xd fs=>obtain⟨_,⟨_,_,_,e,_⟩,_⟩:=x;exact⟨_,e⟩
 |rng lo hi=>obtain⟨_,_,_,e⟩:=x;exact⟨_,e⟩
 |frz ob u=>obtain⟨e,_⟩:=x;exact⟨_,e⟩
 |tbl qs=>obtain⟨_,e,_⟩:=x;exact⟨_,e⟩
 |cel v=>obtain⟨_,⟨_,e,_⟩,_⟩:=x;exact⟨_,e⟩
 |met f y=>exact⟨_,x⟩
 |ext φ=>exact x.2.1
section
variable {X:Cx} {EE:EEs}
theorem xop{pins:List (Addr×Obj)}{σ:St}{H:Hp}{s:af}(o:Own X)(I:Inv X pins σ H s){b:Addr}(m:s.heap.get? b=none):Nu X H b:=by
 refine⟨?_,?_,fun p hp z=>?_⟩
 ·cases q:H b with
  |none=>rfl
  |some u=>
   obtain⟨v,e⟩:=(I.hok b u q).here;rw[m]at e;cases e
 ·cases q:X.s₀.heap.get? b with
  |none=>rfl
  |some u=>
   obtain⟨u',e⟩:=I.base.there b u q (by rw[o.ex];simp);rw[m]at e;cases e
 ·have:=(I.pin p (a5 _ hp)).1;rw[z,m]at this;cases this
def xqj(C:Addr)(EE:EEs)(t:TA):TS:=fun _ σ H=>t σ H fun vs H1=>vs.length≤aM∧EE σ (.ref C) none H1
theorem vX{C:Addr}{x:Str}{np cpos pos:Pos}{e:Expr}{es:List Expr}{t:TA}(o:Own X)(hc:X.calm=true)(q:xcO X.K C)(hg:Gl X x)(hm:X.mg x=some (.ref C))(ha:PA (X.wish (XE X EE)) (e::es) t)
  (hdb:(x==("__debug__":Str))=false:=by decide) (he:aE (e::es) X.env=(false,eval e X.env)::aE es X.env:=by rfl) (hpl:(bG cpos (aE (e::es) X.env)).any (·.1)=false:=by rfl):
  PS (X.wish (XE X EE)) (.Raise (some (.Call (.Name x np) (e::es) [] cpos)) none pos) (xqj C EE t):=by
 intro pins s σ H D I h;obtain⟨bm,N,nm,qn,bs,hdct,sn,sub,ab,col,dd,k0,k1,k2,k3,k5,hC,hN,hni,TL⟩:=q.obj I.ok.mod.kin;refine wpAny_Raise_call_subT (C:=C) (N:=N) (bm:=bm) (nm:=nm) (q:=qn) (bs:=bs) (hdct:=hdct) (sn:=sn) (sub:=sub) (ab:=ab) (col:=col) (dd:=dd) (k0:=k0) (k1:=k1) (k2:=k2) (k3:=k3) (k5:=k5) PySem.F.excBase_ValueError (TL.hasType PySem.F.excBase_ValueError.hasBase) (I.ok.hd hc) hpl hni (zH I hg hm ⟨rfl,?_⟩ hdb);have ha':=ha cpos pins s σ H _ I h;rw[he]at ha';show wpAny (model X.prog X.w) X.A (evalArgs (.ref C) true (bG cpos (aE (e::es) X.env)) []) _ _ s;rw[he];refine PySem.evalArgs_kw (keywords:=[]) rfl ?_;refine thn ha' fun us s1 ⟨vs,H1,I1,r,z,y⟩=>?_;refine ak ?_;refine⟨rfl,by rw[←r.length];exact z,I1.bk _ _ hC,hN.keeps I1.bk,TL.keeps I1.bk,fun h' a mk=>?_⟩;obtain⟨t0,ea,_,_⟩:=mk.there;have I2:Inv X pins σ H1 {s1 with heap:=h'}:=I1.unwish.kept (t':=s1.toks) mk.keeps;exact⟨a,.ref C,none,σ,H1,rfl,I2.nopins,.inl ⟨_,_,.ref t0,ea,rfl,rfl,rfl,rfl,rfl,xop o I1.unwish mk.new⟩,y⟩
abbrev Cx.pnd(X:Cx)(ps:List (Addr×Obj)):Cx:={X with pn:=X.pn++ps}
abbrev Cx.held(X:Cx)(a:Addr)(ps:List (Addr×Obj)):Cx:={X with A:=X.A.mark (some (.ref a)),calm:=false,xe:=fun _ _=>False,pn:=X.pn++ps}
theorem Cx.Ok.pnd{ps:List (Addr×Obj)}(ok:X.Ok):(X.pnd ps).Ok:=
 ⟨ok.mod,ok.kind,ok.glob,ok.blt,ok.above,ok.inj,ok.has,ok.cab,ok.hd,ok.frames,ok.stk,ok.exf,ok.bs,ok.bsz,ok.noex,ok.exfs,ok.funs,ok.frf,ok.cab2,ok.hz⟩
theorem Cx.Ok.held{a:Addr}{ps:List (Addr×Obj)}(ok:X.Ok):(X.held a ps).Ok:=
 ⟨ok.mod,ok.kind,ok.glob,ok.blt,ok.above,ok.inj,ok.has,ok.cab,(fun z=>by cases z),ok.frames,ok.stk,ok.exf,ok.bs,ok.bsz,ok.noex,ok.exfs,ok.funs,ok.frf,ok.cab2,ok.hz⟩
theorem Own.pnd{ps:List (Addr×Obj)}(o:Own X):Own (X.pnd ps):=⟨o.ex,o.st,o.fr⟩
section
variable {pins ps:List (Addr×Obj)} {σ:St} {H:Hp} {s:af}
theorem Inv.pnd(I:Inv X pins σ H s):Inv (X.pnd pins) [] σ H s:=
 ⟨I.ok.pnd,I.os,I.bare,I.base,I.loc,I.cell,I.free,I.freeC,fun p hp=>I.pin p (by simpa using hp),I.hok,I.len⟩
theorem Inv.unpnd{qs:List (Addr×Obj)}(ok:X.Ok)(I:Inv (X.pnd pins) qs σ H s):Inv X pins σ H s:=
 ⟨ok,I.os,I.bare,I.base,I.loc,I.cell,I.free,I.freeC,fun p hp=>I.pin p (a5 _ hp),I.hok,I.len⟩
theorem SP.unpnd{qs:List (Addr×Obj)}(ok:X.Ok){D:Ends}{f:Flow}{s':af}(h:SP (X.pnd pins) qs D f s'):SP X pins D f s':=by
 cases f with
 |next=>obtain⟨σ',H',I,q⟩:=h;exact⟨σ',H',I.unpnd ok,q⟩
 |brk=>obtain⟨σ',H',I,q⟩:=h;exact⟨σ',H',I.unpnd ok,q⟩
 |cont=>obtain⟨σ',H',I,q⟩:=h;exact⟨σ',H',I.unpnd ok,q⟩
 |ret u=>obtain⟨v,σ',H',I,r,q⟩:=h;exact⟨v,σ',H',I.unpnd ok,r,q⟩
theorem Inv.held{a:Addr}{oe:Obj}(I:Inv (X.pnd pins) [] σ H s)(ok:X.Ok)(he:s.heap.get? a=some oe)(hn:H a=none){vs:Array Value}(hd:oe.data= .fields vs):Inv (X.held a (pins++[(a,oe)])) [] σ H s:=by
 refine⟨ok.held,I.os,I.bare,I.base,I.loc,I.cell,I.free,I.freeC,fun p hp=>?_,I.hok,I.len⟩;have hp':p∈X.pn++pins∨p=(a,oe):=by
  have:p∈(X.pn++(pins++[(a,oe)]))++[]:=hp;rw[bZ,←cC]at this;rcases aV.mp this with z|z
  ·exact .inl z
  ·exact .inr (ao.mp z)
 rcases hp' with hp'|rfl
 ·exact I.pin p (a5 _ hp')
 ·refine⟨he,hn,fun z=>?_,fun z=>?_,fun v z=>?_⟩
  ·obtain⟨m,⟨u,es,ep,e,d⟩,_⟩:=I.loc;have z':a=X.env.locals:=z;rw[z']at he;rw[show s.heap.get? X.env.locals=some u from e]at he;cases he;rw[d.1]at hd;cases hd
  ·obtain⟨_,u,hu,hnf⟩:=I.funs.mem z;have hu':s.heap.get? a=some u:=hu;rw[he]at hu';cases hu';exact hnf vs hd
  ·have z':oe.data= .cell v:=z;rw[hd]at z';cases z'
theorem Inv.unheld{a:Addr}{oe:Obj}{qs:List (Addr×Obj)}(ok:X.Ok)(I:Inv (X.held a (pins++[(a,oe)])) qs σ H s):Inv X pins σ H s:=
 ⟨ok,I.os,I.bare,I.base,I.loc,I.cell,I.free,I.freeC,fun p hp=>I.pin p (by
  show p∈(X.pn++(pins++[(a,oe)]))++qs;rcases aV.mp hp with z|z
  ·exact a5 _ (a5 _ z)
  ·exact a5 _ (aY _ (a5 _ z))),I.hok,I.len⟩
theorem SP.unheld{a:Addr}{oe:Obj}{qs:List (Addr×Obj)}(ok:X.Ok){D:Ends}{f:Flow}{s':af}(h:SP (X.held a (pins++[(a,oe)])) qs D f s'):SP X pins D f s':=by
 cases f with
 |next=>obtain⟨σ',H',I,q⟩:=h;exact⟨σ',H',I.unheld ok,q⟩
 |brk=>obtain⟨σ',H',I,q⟩:=h;exact⟨σ',H',I.unheld ok,q⟩
 |cont=>obtain⟨σ',H',I,q⟩:=h;exact⟨σ',H',I.unheld ok,q⟩
 |ret u=>obtain⟨v,σ',H',I,r,q⟩:=h;exact⟨v,σ',H',I.unheld ok,r,q⟩
end
structure xa7(K:ag)(C':Addr):Prop where
 base:eX K C' (.type "BaseException")=some true
theorem xcP{M:Model}{A':aL}{E:Value→af→Prop}{K:ag}{s:af}{a C C':Addr}{oe:Obj}{b:Bool}{Q:Bool→af→Prop}(KX:K.In s.heap)(he:s.heap.get? a=some oe)(hcls:oe.cls= .ref C)
  (hk:aF K (.ref C) (.ref C')=some b) (hb:xa7 K C') (hq:Q b s):wpAny M A' (excMatches (.ref a) (.ref C')) Q E s:=by
 obtain⟨l1,l2,l3⟩:=W.kit_cls (M:=M) KX hk;have l4:=W.looks_mroIn (M:=M) KX hb.base;have kk:∀b o,s.heap.get? b=some o→s.heap.get? b=some o:=fun _ _ e=>e;unfold excMatches gC;refine aa (aa (l1 _ _ _ s kk ?_));refine fi tc_notTuple ?_;simp only[cS,if_false];refine aa (ak ?_);simp only[List.forIn_cons,List.forIn_nil];unfold isExcClass;refine aa (aa (aa (aa (l2 _ _ _ s kk ?_))));simp only[if_true];refine l4 _ _ _ s kk ?_;simp only[iY,cS,if_false];refine ak (ak ?_);have lt:wpAny M A' (typeOf (.ref a)) (fun v s'=>v=oe.cls∧s'=s) E s:=by
  unfold typeOf;exact aa (fS he (ak ⟨rfl,rfl⟩))
 refine aa (aT lt (fun v s' z=>?_) fun _ _ x=>x);obtain⟨rfl,rfl⟩:=z;rw[hcls];refine aa (aa (aa (l3 _ _ _ s' kk ?_)));cases b with
 |true=>exact ak (ak (ak hq))
 |false=>exact ak (ak (ak hq))
def xoq(K:ag)(C':Addr)(ts:Addr→Value→TS)(D:Ends):EEs:=fun σ cls _ H=>∃C,cls= .ref C∧aF K (.ref C) (.ref C')=some true∧∀a,H a=none→ts a cls D σ H
def xrL(K:ag)(C':Addr)(tb:EEs→TS)(ts:Addr→Value→TS):TS:=fun D σ H=>tb (xoq K C' ts D) D σ H
theorem xqk{C':Addr}{y:Str}{np hp pos:Pos}{body suite:List Stmt}{b₀:Stmt}{tb:EEs→TS}{ts:Addr→Value→TS}(o:Own X)(hb:xa7 X.K C')(hg:Gl X y)(hm:X.mg y=some (.ref C'))
  (hbody:∀(EE:EEs) (ps:List (Addr×Obj)),PSs ((X.pnd ps).wish (XE (X.pnd ps) EE)) body (tb EE)) (hsuite:∀(ps:List (Addr×Obj)) (a:Addr) (cls:Value),PSs (X.held a ps) (b₀::suite) (ts a cls))
  (hdb:(y==("__debug__":Str))=false:=by decide):PS X (.Try body [.ExceptHandler (some (.Name y np)) none (b₀::suite) hp] [] [] pos) (xrL X.K C' tb ts):=by
 intro pins s σ H D I h;have ok:=I.ok;refine gZ (aT (hbody (xoq X.K C' ts D) pins [] s σ H D (I.pnd.wish _) h) (fun f s1 hq=>?_) fun e s1 hx=>?_)
 ·have hq':SP X pins D f s1:=(SP.unwish hq).unpnd ok;cases f with
  |next=>exact dG hq'
  |brk=>exact hq'
  |cont=>exact hq'
  |ret u=>exact hq'
 ·obtain⟨a,cls,dx,σ1,H1,rfl,I1,F1,C,rfl,hk,q⟩:=hx;refine xgM (X:=X.pnd pins) o.pnd ok.frames I1 F1 fun s2 I2 F2=>?_;refine xac (X:=X.pnd pins) (to:=none) o.pnd I2 F2 fun s3 I3 F3=>?_;refine fO (fB ?_) (by intro z;cases z);obtain⟨oe,vs,a0,T,oT,ts',he,hc,hx,hd,h0,h1,nT,hT,hdT,h3,hn,hnT⟩:=id F3;have J3:=Inv.held I3 ok he hn.1 hd;refine zH J3 hg hm ?_ hdb;refine xcP (K:=X.K) I3.kIn he hc hk hb ?_;refine codeAny_handlers_suite ?_;refine xac (X:=X.pnd pins) (to:=none) o.pnd I3 F3 fun s4 I4 F4=>?_;obtain⟨oe',vs',a0',T',oT',ts'',he',hc',hx',hd',h0',h1',nT',hT',hdT',h3',hn',hnT'⟩:=id F4;have J4:=Inv.held I4 ok he' hn'.1 hd';refine aT (hsuite (pins++[(a,oe')]) a (.ref C) [] s4 σ1 H1 D J4 (q a hn'.1)) (fun f s5 hq=>?_) fun _ _ z=>z.elim;exact hq.unheld ok
theorem xkw{h₀:gs}{hs:List gs}{pos:Pos}{body:List Stmt}{tb:TS}(hx:X.xe=fun _ _=>False)(hbody:PSs X body tb):PS X (.Try body (h₀::hs) [] [] pos) tb:=by
 intro pins s σ H D I h;refine gZ (aT (hbody pins s σ H D I h) (fun f s1 hq=>?_) fun e s1 z=>?_)
 ·cases f with
  |next=>exact dG hq
  |brk=>exact hq
  |cont=>exact hq
  |ret u=>exact hq
 ·rw[hx]at z;exact z.elim
end
theorem xrb{P:av}{w:World}{X:Cx}:Passes (CXE P w) X E0:=fun _ _ _ _ _ _ _ h=>by
 obtain⟨_,_,_,_,_,_,_,_,_,_,_,_,_,_,_,_,_,_,_,_,_,_,_,_,_,_,_,_,_,z⟩:=h;exact z.elim
end L2
namespace L2
open PySem PySem.Spec PyProof.Rows
section
variable {X:Cx}
def Ends.gone(D:Ends)(i:Nat):Ends:={nx:=fun σ H=>D.nx (σ.set i none) H,rt:=D.rt,bk:=fun σ H=>D.bk (σ.set i none) H,ct:=fun σ H=>D.ct (σ.set i none) H}
theorem xew{M:Model}{A':aL}{E:Value→af→Prop}{Q:Unit→af→Prop}{pins:List (Addr×Obj)}{σ:St}{H:Hp}{s:af}{i:Nat}{n:Str}{pos:Pos}(I:Inv X pins σ H s)(hN:X.N.Nodup)(hi:X.N[i]? =some n)(hk:X.env.kindOf n=some .local)
  (h:∀s',Inv X pins (σ.set i none) H s'→Q () s'):wpAny M A' (do bindName X.env n .none;unbindBehindTheSuite X.env n pos) Q E s:=by
 obtain⟨m,hn,hl⟩:=id I.loc;refine wpAny_nameGoes_keeps hk hn (by rw[I.ok.kind];rfl) fun h' v hn' hs=>h _ ?_;have neL:∀b u,X.s₀.heap.get? b=some u→b≠X.env.locals:=fun b u e=>aH (aG (ay e) I.ok.above);obtain⟨oL,_,_,hoL,_⟩:=id hn;refine⟨I.ok,I.os,I.bare,⟨fun b o e n hb hx=>?_,fun b o e n hb hx=>?_,I.base.free,fun b o e hx=>?_,I.base.fix⟩,⟨_,hn',fun j y v' e1 e2 e3=>?_⟩,fun y c e=>?_,I.free,fun y c e=>?_,fun p hp=>?_,fun b u e=>?_,by simpa using I.len⟩
 ·exact(hs.2 b (neL b o e)).trans (I.base.keep b o e n hb hx)
 ·obtain⟨sl,e1⟩:=I.base.slot b o e n hb hx;exact⟨sl,(hs.2 b (neL b o e)).trans e1⟩
 ·obtain⟨o',e1⟩:=I.base.there b o e hx;exact⟨o',(hs.2 b (neL b o e)).trans e1⟩
 ·have hj:j≠i:=fun z=>by
   rw[z]at e2
   by_cases hi':i<σ.length
   ·rw[cO hi']at e2;cases e2
   ·rw[cW (by simpa using hi')]at e2;cases e2
  rw[bQ (au hj)]at e2;obtain⟨u',r',q⟩:=hl j y v' e1 e2 e3;refine⟨u',r',q.imp (fun⟨k,e⟩=>⟨k,?_⟩) fun⟨k,c,e,z⟩=>⟨k,c,e,z.sameBut hs (I.cne y c e)⟩⟩;have:y≠n:=fun e=>hj (xaY hN e1 (e▸hi));simp[this,e]
 ·obtain⟨w',z⟩:=I.cell y c e;exact⟨w',z.sameBut hs (I.cne y c e)⟩
 ·refine(I.freeC y c e).imp id fun⟨hf',o',ho',hno⟩=>⟨hf',o',ho',fun z j v' e1 k e2=>?_⟩;have hj:j≠i:=fun z=>by
   rw[z]at e2
   by_cases hi':i<σ.length
   ·rw[cO hi']at e2;cases e2
   ·rw[cW (by simpa using hi')]at e2;cases e2
  rw[bQ (au hj)]at e2;exact hno z j v' e1 k e2
 ·obtain⟨e,n,ne,nf,d⟩:=I.pin p hp;exact⟨(hs.2 p.1 ne).trans e,n,ne,nf,d⟩
 ·refine(I.hok b u e).stay (fun c w' hc q=>(hs.2 c ?_).trans q) (fun _ q=>q) fun _ _ q _=>q;rintro rfl;rcases hc with rfl|hc
  ·rw[I.free]at e;cases e
  ·rw[I.free]at hc;cases hc
end
end L2
namespace L2
open PySem PySem.Spec PyProof.Rows PySem.W
structure va(K:Frag)(D:Addr):Prop where
 ga:findIn K (.ref D) "__getattribute__"=some (some (.builtin "BaseException.__getattribute__"))
 gh:findIn K (.ref D) "__getattr__"=some none
 cl:findIn K (.ref D) "__class__"=some (some (.builtin "object.__class__"))
 gt:specialIn K (.builtin "object.__class__") "__get__"=some (some (.builtin "getset_descriptor.__get__"))
 tk:takesIn K (.builtin "object.__class__")=some true
 ob:mroIn K D (.type "object")=some true
 bs:mroIn K D (.type "BaseException")=some true
 is:(clsIn K D).isSome=true
theorem xdN:builtinKind "BaseException.__getattribute__"=some .slot:=by kernel_rfl
theorem xdd:splitId "BaseException.__getattribute__"=some ("BaseException","__getattribute__"):=by kernel_rfl
section
variable {prog:av} {w:World} {A:aL} {E:Value→af→Prop} {s:af} {K:Frag} {x D:Addr} {ox:Obj} {od:Option Obj}
theorem xmm{a g:Value}{name:Str}(hc:(clsIn K D).isSome=true)(ha:findIn K (.ref D) name=some (some a))(hg:specialIn K a "__get__"=some (some g))(ht:takesIn K a=some true):findObj K D od name=some (.bind g a):=by
 obtain⟨cd,hc⟩:=eO.mp hc;unfold findObj;rw[hc,ki,ha,ki];simp[hg,ht]
theorem xmn{Q:Option Value→af→Prop}(F:va K D)(X:K.In s.heap)(I:InstAt s.heap x ox D od)(h:Q (some (.ref D)) {s with toks:=s.toks+1}):wpAny (model prog w) A (getAttr? (.ref x) "__class__") Q E s:=by
 obtain⟨hh,g,d,t,os⟩:=s;have l0:=I.type (M:=model prog w);have l1:=g7 (M:=model prog w) X F.ga;have l2:=g7 (M:=model prog w) X F.gh;have l3:=looks_find (M:=model prog w) X I (xmm (od:=od) F.is F.cl F.gt F.tk);unfold getAttr? getAttrBy? getAttrBy;refine aa (wpAny_mkText (aa (gu (br (aa (l0.at (aa (l1.at ?_))))))));dsimp only;rw[if_neg (by rw[show(fj "BaseException.__getattribute__"==fj "object.__getattribute__")=false by decide,iy];exact aI)];unfold getAttrByItsOwn hookBefore;rw[if_pos (show onTheHeap (aB D)=true from rfl)];refine aa (l2.at (aa (gu (br ?_))));unfold callGetattribute boundAndCalled;rw[if_neg (by simp)];refine aa (fi (PySem.F.excAttr_ValueError.ga.bind (.ref x)) ?_);have li:Looks (model prog w) hh (gC (.ref x) (.type "BaseException")) true:=l0.andThen (looks_mroIn X F.bs);dsimp only;refine cw ?_;refine df PySem.F.excAttr_ValueError.ga.plain PySem.F.entry_bexc_ga ?_;have hs:=PySem.F.args_bexc_ga (.ref x) (.str "__class__" t);simp only[dv,eE];refine check_slot (M:=model prog w) (A:=A.in1) (i:="BaseException.__getattribute__") (owner:="BaseException") (n:="__getattribute__") (self:=.ref x) (rest:=[.str "__class__" t]) (kw:=[]) xdN xdd ?_ ?_ ?_
 ·exact li
 ·exact hs
 unfold iA.«object.__getattribute__» slotArgs;simp only[List.isEmpty_nil,iY,cS,if_false,bB,eF,Nat.zero_add,bne_self_eq_false];refine aa (ak ?_);dsimp only;unfold gk;simp only;refine aa (ak ?_);refine aa (l0.at ?_);refine aa (l3.at ?_);dsimp only;unfold Builtin.ObjectAttr.bindTo;dsimp only;refine aa (br (cw (class_get (s:=⟨hh,g,d,t+1,os⟩) (ox:=ox) (od:=od) X I F.ob ?_)));refine ak ?_;exact handed_on rfl (ak h)
theorem xnx(F:va K D):KitX K (.ref x) (.ref D) (fun h=>InstAt h x ox D od) where
 ty:=fun _ _ _ I=>I.type
 it:=fun _ _ X _=>by
  have hc:=F.is;unfold clsIn at hc
  split at hc
  ·rename_i c1 d1 cd1 sl1 ho;intro A' Q' E' s' k q;unfold isType loadHead;exact aa (fS (k _ _ (X _ _ ho)) (ak q))
  ·cases hc
 ne:=fun h tp dd its n sl X htp=>by
  have hc:=F.is;refine Bool.eq_false_iff.mpr fun q=>?_;have e:D=tp:=Value.ref.inj (beq_iff_eq.mp q);subst e;unfold clsIn at hc
  split at hc
  ·rename_i c1 d1 cd1 sl1 ho;have z:=(X _ _ ho).symm.trans htp;cases z
  ·cases hc
 ca:=fun X I k=>xmn F X I k
end
section
variable {X:Cx}
def xbK(K:Frag)(a:Addr)(cls:Value)(dx:Option Addr):List V→Hp→VK→Prop:=fun xs H Q=>∃D c cv b,cls= .ref D∧(dx=none∨∃d fs,dx=some d∧H d=some (.xd fs))∧va K D∧xs=[.ref a,c]∧xnq c=some cv∧kitOne K cls cv=some b∧Q (.bl b) H
theorem vb{a:Addr}{cls:Value}{dx:Option Addr}{ps:List (Addr×Obj)}(hs:∃oe:Obj,(a,oe)∈ps∧oe.cls=cls∧oe.dict=dx∧∃vs,oe.data= .fields vs)(hp:∀p∈ps,p∈X.pn):yD X (.builtin "isinstance") (xbK X.K a cls dx):=by
 intro pins s σ H xs us Q I r h;obtain⟨oe,hp',rfl,rfl,hv⟩:=hs;have hp:=hp _ hp';obtain⟨D,c,cv,b,hc,hd,F,rfl,rc,e,q⟩:=h;obtain⟨u,v,rfl,ru,rv⟩:=Vals.two r;have e2:=xiI rc rv;subst e2;cases (show u=aB a from ru);rw[hc]at e;have hn:notCls oe=true:=by
  obtain⟨vs,z⟩:=hv;obtain⟨c1,d1,dt,sl⟩:=oe;cases z;rfl
 have J:∃od,InstAt s.heap a oe D od:=by
  rcases hd with hd|⟨d,fs,hd,hx⟩
  ·exact⟨none,(I.pin _ (a5 _ hp)).1,hc,hn,by rw[hd];trivial⟩
  ·obtain⟨mA,⟨ob,es,ep,eb,_⟩,_⟩:=I.hok d _ hx;exact⟨some ob,(I.pin _ (a5 _ hp)).1,hc,hn,by rw[hd];exact eb⟩
 obtain⟨od,J⟩:=J;exact kia_one (xnx F) I.kIn J e (fun z=>nomatch z) fun tk=>⟨.bl b,H,I.tok _,rfl,q⟩
end
end L2
namespace L2
open PySem PySem.Spec PyProof.Rows
section
variable {prog:av} {w:World} {A:aL} {E:Value→af→Prop} {s:af}
theorem xql{j t:Addr}{i:Nat}{its:Array Value}{x:Value}{Q:Value→af→Prop}(hj:s.heap.IsTupleIter j t i)(ht:s.heap.IsTuple t its)(hx:its[i]? =some x)
  (q:∀h',h'.IsTupleIter j t (i+1)→fF j s.heap h'→Q x {s with heap:=h'}):wpAny (model prog w) A (dg (.ref j)) Q E s:=by
 obtain⟨oj,ej,cj,dj⟩:=id hj;obtain⟨ot,et,_,nt,dt⟩:=ht;unfold dg;refine aa (dD (name:=aX "__next__") hj.typeIs cZ (fm cZ hj.typeIs gm ?_ (fU _)));show wpAny _ _ (field (.ref j) 0 >>= _) _ _ s;refine aa (bU ej dj (x:=.ref t) rfl ?_);show wpAny _ _ (if (aB t==bj)=true then _ else _) _ _ s;rw[if_neg (show¬((aB t==bj)=true)from aI)];show wpAny _ _ (field (.ref j) 1 >>= _) _ _ s;refine aa (bU ej dj (x:=.int i 0) rfl ?_);show wpAny _ _ (ig (.ref t) >>= _) _ _ s;refine aa (eY et dt ?_);simp only[cD,hx];refine aa (eZ ej dj (by simp) (ak ⟨x,rfl,ak (q _ ?_ (i5 ..))⟩));exact⟨_,bu _ ej (fA (eR dj _)),(Obj.cls_mapFields ..).trans cj,by rw[eR dj];simp[bx]⟩
theorem xhG{j t:Addr}{i:Nat}{its:Array Value}{Q:Value→af→Prop}(hh:A.handled=none)(hj:s.heap.IsTupleIter j t i)(ht:s.heap.IsTuple t its)(hx:its[i]? =none)
  (q:∀h' e,kg j s.heap h'→(∃o,h'.get? e=some o∧o.cls= .type "StopIteration")→E (.ref e) {s with heap:=h'}):wpAny (model prog w) A (dg (.ref j)) Q E s:=by
 obtain⟨oj,ej,cj,dj⟩:=id hj;obtain⟨ot,et,_,nt,dt⟩:=ht;unfold dg;refine aa (dD (name:=aX "__next__") hj.typeIs cZ (fm cZ hj.typeIs gm ?_ (fU _)));show wpAny _ _ (field (.ref j) 0 >>= _) _ _ s;refine aa (bU ej dj (x:=.ref t) rfl ?_);show wpAny _ _ (if (aB t==bj)=true then _ else _) _ _ s;rw[if_neg (show¬((aB t==bj)=true)from aI)];show wpAny _ _ (field (.ref j) 1 >>= _) _ _ s;refine aa (bU ej dj (x:=.int i 0) rfl ?_);show wpAny _ _ (ig (.ref t) >>= _) _ _ s;refine aa (eY et dt ?_);simp only[cD,hx];refine aa (wpAny_rule (aa (eZ ej dj (by simp) ?_)));show wpAny _ _ (newExc (.type "StopIteration") [] >>= _) _ _ _;refine aa ?_;simp only[newExc,newTuple];refine aa (bX ?_ (by size_fits));refine aa (m:=firstArgMember _ _) (fi (a:=bj) (by first|rfl|(simp only[firstArgMember];rfl)) ?_);refine bX ?_ (by size_fits);simp only[raiseNew];refine aa (wpAny_handled ?_);first|rw[show A.in1.handled=none from hh]|rw[hh]
 refine aa (ak (wpAny_throw ?_));exact q _ _ (((i5 ..).extBut.push _).push _) ⟨_,aN _ rfl,rfl⟩
theorem xmo(hh:A.handled=none)(j t:Addr)(hne:t≠j)(its:Array Value):Draws prog w A j [j,t] its.size (fun i v=>its[i]? =some v) (fun i h=>h.IsTupleIter j t i∧h.IsTuple t its) where
 live:=fun _ _ st=>let⟨o,ho,_⟩:=st.1;⟨o,ho⟩
 frame:=fun _ _ _ ⟨⟨o,e,r⟩,o2,e2,r2⟩ hk=>⟨⟨o,hk j (by simp) o e,r⟩,o2,hk t (by simp) o2 e2,r2⟩
 item:=fun i s Q E hi st q=>by
  refine xql st.1 st.2 (x:=its[i]) (by simp[hi]) fun h' hj' hs'=>q _ h' s.toks (by simp[hi]) ⟨hj',?_⟩ hs';obtain⟨o2,e2,r2⟩:=st.2;exact⟨o2,(hs'.2 t hne).trans e2,r2⟩
 done:=fun s Q E st q=>xhG hh st.1 st.2 (by simp) q
end
set_option maxHeartbeats 8000000 in
theorem xmp(l:Addr)(its:Array Value)(n:Nat)(dct:Option Addr)(sl:Array (Option Value)):
  Meets (iA.«enumerate.__new__» ⟨[.type "enumerate",.ref l],[]⟩) (fun _ R s=>s.heap.get? l=some {cls:=.type "tuple",dict:=dct,data:=.seq its n,slots:=sl}∧
   R (.ok (.ret (.ref (s.heap.push {cls:=.type "tuple_iterator",data:=.fields #[.ref l,.int 0 0]}).objs.size)))
    {s with heap:=(s.heap.push {cls:=.type "tuple_iterator",data:=.fields #[.ref l,.int 0 0]}).push {cls:=.type "enumerate",data:=.fields #[.none,.bool false,.ref s.heap.objs.size,bx 0,.none,.none]}}):=
 .of_wp fun prog w A R s h=>by
  obtain⟨hp,g,d,tk,os⟩:=s;obtain⟨el,h⟩:=h;have hsub:=sub_enumerate;have hL:Heap.IsTuple (Shared.heap ⟨hp,g,d,tk,os⟩) l its:=⟨_,el,rfl,n,rfl⟩
  wp_walk using eS el
  refine wpAny_stack_any fun st=>ak ?_
  split
  ·rename_i c _ _ _ _ _;cases (c==d6 "enumerate")<;> (wp_walk using eS el,gf hL;exact⟨_,rfl,h⟩)
  ·wp_walk using eS el,gf hL;exact⟨_,rfl,h⟩
section
variable {prog:av} {w:World} {A:aL} {E:Value→af→Prop} {s:af}
theorem xll{l:Addr}{its:Array Value}{Q:Value→af→Prop}(hL:s.heap.IsTuple l its)
  (q:∀h',gX h' (s.heap.objs.size+1) s.heap.objs.size 0 .none→h'.IsTupleIter s.heap.objs.size l 0→(∀b o,s.heap.get? b=some o→h'.get? b=some o)→Q (.ref (s.heap.objs.size+1)) {s with heap:=h'}):
  wpAny (model prog w) A (call (.type "enumerate") [.ref l]) Q E s:=by
 obtain⟨⟨c,dct,dt,sl⟩,el,hc,n,hd⟩:=hL;cases (show c= .type "tuple" from hc);cases (show dt= .seq its n from hd);refine callType_new F.called_enumerate (by decide) (F.typeCall_enumerate_1 _) (F.newCall_enumerate_1 _) (fun obj=>F.args_object_init_2 obj _) iB (xmp l its n dct sl) ⟨el,?_⟩;generalize hO:({cls:=.type "tuple_iterator",data:=.fields #[.ref l,.int 0 0]}:Obj)=oi;have hz:(s.heap.push oi).objs.size=s.heap.objs.size+1:=dX ..;have f0:oi.isFreed=false:=by rw[←hO];rfl
 show _∧_;rw[hz];have he:gX ((s.heap.push oi).push {cls:=.type "enumerate",data:=.fields #[.none,.bool false,.ref s.heap.objs.size,bx 0,.none,.none]}) (s.heap.objs.size+1) s.heap.objs.size 0 .none:=by
  have e:=aN (s.heap.push oi) (o:={cls:=.type "enumerate",data:=.fields #[.none,.bool false,.ref s.heap.objs.size,bx 0,.none,.none]}) rfl;rw[hz]at e;exact e
 refine⟨⟨_,he,rfl⟩,q _ he ⟨oi,ah _ (aN _ f0),by rw[←hO],by rw[←hO];rfl⟩ fun b o x=>ah _ (ah _ x)⟩
theorem xo2{e j t:Addr}{i:Nat}{k:Int}{its:Array Value}{old:Value}{Q:Option Value→af→Prop}(hh:A.handled=none)(he:gX s.heap e j k old)(hj:s.heap.IsTupleIter j t i)(ht:s.heap.IsTuple t its)(hx:its[i]? =none)
  (q:∀h',kg j s.heap h'→Q none {s with heap:=h'}):wpAny (model prog w) A (pyNext (.ref e)) Q E s:=by
 have hT:s.TypeIs (.ref e) "enumerate":=⟨_,he,rfl⟩;unfold pyNext;refine aa (gu (dD (name:=aX "__next__") hT iC (fm iC hT F.entry_enumerate_next ?_ (F.args_enumerate_next_1 _))));show wpAny _ _ (field (.ref e) 2 >>= _) _ _ _;refine aa (bU he rfl (x:=.ref j) rfl ?_);refine aa (xhG hh hj ht hx fun h' x eb ⟨o,ho,hc⟩=>?_);refine aa (wpAny_isInstance (T:="StopIteration") (b:=true) ⟨o,ho,hc⟩ isSubtype_stop ?_);exact ak (q _ eb)
end
def xny(K:ag)(a:Addr):It:=
 ⟨fun i H=>∃xs x,SqT K H a xs∧xs[i]? =some x,fun i H v H'=>∃T x,v= .ref T∧H T=none∧H'=upd H T (.tup [.int i,x])∧∀xs,SqT K H a xs→xs[i]? =some x,fun i H=>∃xs,SqT K H a xs∧xs.length≤i⟩
theorem xlm{P:av}{w:World}{K:ag}{es:List Expr}{k:Nat}{pos:Pos}(a e it:Addr)(hne:e≠it):Turn P w K (.Tuple es k pos) (xny K a) [e,it] e (fun i h=>(∃old,gX h e it (i:Nat) old)∧h.IsTupleIter it a i) where
 mem:=by simp
 obj:=fun i h st b hb=>by
  obtain⟨⟨old,he⟩,⟨o,e1,c,d⟩⟩:=st;rcases aq.mp hb with z|z
  ·subst z;exact⟨_,he,fun v z=>by cases z⟩
  ·rw[ao.mp z];exact⟨o,e1,fun v z=>by rw[d]at z;cases z⟩
 keep:=fun i h h' st kk=>by
  obtain⟨⟨old,he⟩,⟨o,e1,r⟩⟩:=st;exact⟨⟨old,kk e (by simp) _ he⟩,⟨o,kk it (by simp) o e1,r⟩⟩
 item:=by
  intro X hP hw hK hc i pins s σ H E I hf st hg;subst hP hw hK;obtain⟨xs,x,hq,hx⟩:=hg;obtain⟨its,rv,p,hz⟩:=I.tuple hq;obtain⟨u,hu,ru⟩:=rv.get hx;obtain⟨⟨old,he⟩,hit⟩:=st;have he':=ay he;have hi':it<s.heap.objs.size:=by obtain⟨o,q,_⟩:=hit;exact ay q
  have p':s.heap.IsTuple a its.toArray:=p;have hai:a≠it:=fun z=>by
   obtain⟨o,e1,c,d⟩:=hit;obtain⟨o2,e2,c2,_⟩:=p';rw[z,e1]at e2;cases e2;rw[c]at c2;injection c2 with c2;exact absurd c2 (by decide)
  have hae:e≠a:=fun z=>by
   obtain⟨o2,e2,c2,_⟩:=p';have he2:s.heap.get? e=_:=he;rw[z,e2]at he2;cases he2;injection c2 with c2;exact absurd c2 (by decide)
  have hlt:i<its.toArray.size:=by simpa using(ax.mp hu).1
  refine hZ (xmo (A:=X.A.in1) (I.ok.hd hc) it a hai its.toArray) he ⟨hit,p'⟩ hlt hne (by simp[hne,hae]) fun x2 h' tk px heo st' hT hsz hk=>?_;have ex:x2=u:=by
   have:its.toArray[i]? =some u:=by simpa using hu
   rw[this]at px;cases px;rfl
  subst ex;refine⟨_,rfl,ee (s:={s with heap:=h',toks:=tk+1}) heo fun h2 he2 hs2=>?_⟩;have hT2:h2.get? s.heap.objs.size=some {cls:=.type "tuple",data:=.seq #[.int i tk,x2]}:=(hs2.2 _ (eN he')).trans hT;have I2:Inv X pins σ (upd H s.heap.objs.size (.tup [.int i,x])) {s with heap:=h2,toks:=tk+1}:=by
   refine I.turnLaid (ch:=[e,it]) (fun b o hb q=>?_) (ar _) ⟨by simp[a6],[.int i tk,x2],.cons ⟨_,rfl⟩ (.cons ru .nil),⟨_,hT2,rfl,_,rfl⟩⟩ (fun b hb=>(hf b hb).1) (fun b hb=>?_) fun b hb=>?_
   ·have b1:b≠e:=fun z=>hb (by simp[z]);have b2:b≠it:=fun z=>hb (by simp[z]);exact(hs2.2 b b1).trans (hk b o b1 b2 q)
   ·rcases aq.mp hb with z|z
    ·rw[z];exact he'
    ·rw[ao.mp z];exact hi'
   ·obtain⟨f0,f1,f2,f3,f4,f5⟩:=hf b hb;exact⟨f3,f1,f4,f5⟩
  refine⟨.ref s.heap.objs.size,_,I2,rfl,⟨_,x,rfl,I.hok.fresh (ar _),rfl,fun ys hy=>by rw[I.tuple_inj hy hq];exact hx⟩,⟨⟨x2,by simpa using he2⟩,?_⟩,fun b hb=>?_⟩
  ·obtain⟨⟨o,e1,r⟩,_⟩:=st';exact⟨o,(hs2.2 it (au hne)).trans e1,r⟩
  have hb':b≠s.heap.objs.size:=by
   rcases aq.mp hb with z|z
   ·rw[z];exact aH he'
   ·rw[ao.mp z];exact aH hi'
  rw[xr hb'];exact(hf b hb).1
 done:=by
  intro X hP hw hK hc i pins s σ H E I hf st hg;subst hP hw hK;obtain⟨xs,hq,hx⟩:=hg;obtain⟨its,rv,p,hz⟩:=I.tuple hq;obtain⟨⟨old,he⟩,hit⟩:=st;obtain⟨f0,f1,f2,f3,f4,f5⟩:=hf it (by simp);have hl:=rv.length;exact xo2 (I.ok.hd hc) he hit p (by simp;lia) fun h' eb=>⟨rfl,I.turned (t':=s.toks) (fun b o hb e=>eb b o hb e) f0 f1 f3 f4 f5⟩
 self:=fun _ _ _ _ _ st h=>by
  obtain⟨⟨old,he⟩,_⟩:=st;exact c8 he h
section
variable {X:Cx} {es:List Expr} {k:Nat} {tp:Pos}
def xqm(K:ag)(ta:TA):TI:=fun σ H R=>ta σ H fun vs H1=>∃a,vs=[.ref a]∧(∃xs,SqT K H1 a xs)∧R (xny K a) H1
theorem xnz{l:Expr}{ta:TA}{p pos:Pos}(hg:Gl X "enumerate")(hm:X.mg "enumerate"=none)(ha:PA X [l] ta)(hs:aE [l] X.env=[(false,eval l X.env)]:=by rfl):PI X (.Tuple es k tp) (.Call (.Name "enumerate" p) [l] [] pos) (xqm X.K ta):=by
 intro pins s σ H R I h;refine Call_ (uS I hg hm xa3 (bE (thn (ha pos pins s σ H _ I h) fun us s1 ⟨vs,H1,I1,r1,q1⟩=>?_) hs rfl));obtain⟨a,e,⟨xs,hq⟩,q⟩:=q1;subst e;obtain⟨u,rfl,ru⟩:=Vals.one r1;cases ru;obtain⟨its,rv,pl,hz⟩:=I1.tuple hq;refine xll (show s1.heap.IsTuple a its.toArray from pl) fun h' he hi hk=>c8 (s:={s1 with heap:=h'}) he ?_;refine⟨s1.heap.objs.size+1,[s1.heap.objs.size+1,s1.heap.objs.size],_,_,H1,rfl,I1.kept (t':=s1.toks) hk,xlm a _ _ (gY _),⟨⟨.none,by simpa using he⟩,hi⟩,fun b hb=>?_,q⟩;rcases aq.mp hb with z|z
 ·rw[z];exact I1.fpOk (cP _) (I1.hok.fresh (cP _))
 ·rw[ao.mp z];exact I1.fpOk (ar _) (I1.hok.fresh (ar _))
theorem xjO{K:ag}{l:Addr}{xs:List V}{g:TG}{tb:TS}{D:Ends}{σ:St}{H:Hp}(Pv:Nat→St→Hp→Prop)(h0:Pv 0 σ H)(hl:∀i σ H,i≤xs.length→Pv i σ H→SqT K H l xs)
  (hs:∀i x σ H T,xs[i]? =some x→Pv i σ H→H T=none→g (.ref T) σ (upd H T (.tup [.int i,x])) fun σ2 H2=>tb {D with nx:=Pv (i+1),ct:=Pv (i+1),bk:=D.nx} σ2 H2) (hd:∀σ H,Pv xs.length σ H→D.nx σ H):uL (xny K l) g tb D σ H:=by
 unfold uL;refine⟨fun i m σ H=>m=xs.length - i∧i≤xs.length∧Pv i σ H,⟨xs.length,by simp,bL _,h0⟩,?_⟩;rintro i m σ H ⟨rfl,hi,p⟩;have hq:=hl i σ H hi p
 by_cases hlt:i<xs.length
 ·have hx:xs[i]? =some xs[i]:=aC hlt;refine .inr ⟨⟨xs,xs[i],hq,hx⟩,Pv (i+1),fun σ' H' p'=>⟨xs.length - (i+1),by lia,rfl,hlt,p'⟩,fun v H' y=>?_⟩;obtain⟨T,x,rfl,hT,rfl,hx'⟩:=y;have:=hx' xs hq;exact hs i x σ H T this p hT
 ·have e:i=xs.length:=by lia
  subst e;exact .inl ⟨⟨xs,hq,ar _⟩,hd σ H p⟩
theorem xeO{K:ag}{l:Addr}{xs:List V}{g:TG}{tb:TS}{D:Ends}{σ:St}{H:Hp}(Pv:Nat→St→Hp→Prop)(h0:Pv 0 σ H)(hl:∀i σ H,i≤xs.length→Pv i σ H→SqL K H l xs)
  (hs:∀i x σ H T,xs[i]? =some x→Pv i σ H→H T=none→g (.ref T) σ (upd H T (.tup [.int i,x])) fun σ2 H2=>tb {D with nx:=Pv (i+1),ct:=Pv (i+1),bk:=D.nx} σ2 H2) (hd:∀σ H,Pv xs.length σ H→D.nx σ H):uL (Ite K l) g tb D σ H:=by
 unfold uL;refine⟨fun i m σ H=>m=xs.length - i∧i≤xs.length∧Pv i σ H,⟨xs.length,by simp,bL _,h0⟩,?_⟩;rintro i m σ H ⟨rfl,hi,p⟩;have hq:=hl i σ H hi p
 by_cases hlt:i<xs.length
 ·have hx:xs[i]? =some xs[i]:=aC hlt;refine .inr ⟨⟨xs,xs[i],hq,hx⟩,Pv (i+1),fun σ' H' p'=>⟨xs.length - (i+1),by lia,rfl,hlt,p'⟩,fun v H' y=>?_⟩;obtain⟨T,x,rfl,hT,rfl,hx'⟩:=y;have:=hx' xs hq;exact hs i x σ H T this p hT
 ·have e:i=xs.length:=by lia
  subst e;exact .inl ⟨⟨xs,hq,ar _⟩,hd σ H p⟩
end
end L2
namespace L2
open PySem PySem.Spec PyProof.Rows
def xos(K:ag)(C f:Addr):Bool:=match K.lookup C with
 |some ⟨.type "type",_,.cls cd,sl⟩=>(match cd.mro,sl.toList with
  | .ref C'::bm,[_,_,_,_,some (.builtin n),_]=>C'==C&&n=="ValueError.__new__"&& !cd.hasDel&&W.tailIn K xa6 bm&&W.nsOkIn K cd.ns&&g8 K cd.ns "__init__"==some (some (.ref f))
  |_,_=>false)
 |_=>false
def xdO:List Value→List Value
 | .ref _::r=>xdO r
 |l=>l
structure xcQ(K:ag)(C f:Addr):Prop where
 xi:xos K C f=true
 fn:W.isFn K (.ref f)=true
 hd:fW K C=true
 mr:(W.clsIn K C).any (fun cd=>xdO cd.mro==xa6)=true
 ob:eX K C (.type "object")=some true
 sa:aK K (.ref C) "__setattr__"=some (some (.builtin "object.__setattr__"))
theorem xdP(self:Value)(what:Str):∀l:List Value,refuseLoop self what l=refuseLoop self what (xdO l)
 |[]=>rfl
 |v::r=>by
  cases v with
  |ref C=>rw[refuseLoop_ref];exact xdP self what r
  |_=>rfl
section
variable {prog:av} {w:World} {A:aL} {E:Value→af→Prop} {s:af} {K:ag} {x C f:Addr} {ox:Obj} {name:Str} {v:Value}
theorem xo3{od:Option Obj}{tk:Tok}{R:gJ→af→Prop}(X:K.In s.heap)(I:W.InstAt s.heap x ox C od)(F:xcQ K C f)(n:xJ K C name)
  (h:∀b,wpAny (model prog w) A.in1 (Builtin.ObjectAttr.storeInOwnDict (.ref x) (.ref C) (.str name tk) name v b) (fun fin s'=>match fin with| .done f=>R (.ok f) s'| .again c'=>c'.quiet=true∧ck (model prog w) A c' R s') (fun e s'=>R (.error e) s') s):
  ck (model prog w) A (.call (.builtin "object.__setattr__") ⟨[.ref x,.str name tk,v],[]⟩) R s:=by
 have SF:=PySem.F.store_object;obtain⟨cd,hc,hm0⟩:=W.any_some F.mr;have sub:W.Looks (model prog w) s.heap (gC (.ref x) (.type "object")) true:=I.type.andThen (W.looks_mroIn X F.ob);refine df SF.slot.plain SF.entry (@W.check_slot (model prog w) _ _ s "object.__setattr__" "object" "__setattr__" (.ref x) [.str name tk,v] [] _ SF.kind SF.split sub (SF.args (.ref x) (.str name tk) v) ?_);have hm:W.Looks (model prog w) s.heap (mroOf (.ref C)) cd.mro:=(iT X hc).andThen .now;have L3:W.Looks (model prog w) s.heap (Builtin.ObjectAttr.storeTaker? none) none:=.now;rw[W.osa_eq,refuse_eq];refine aa (aa (I.type.here (aa (hm.here ?_))));rw[xdP,beq_iff_eq.mp hm0,show refuseLoop (aB x) "__setattr__" xa6=pure ()from PySem.F.store_ValueError.passes _];refine ak (aa (I.type.here (aa ((W.looks_findIn X n).here (aa (L3.here ?_))))));exact h _
theorem xo4{Q:Unit→af→Prop}(X:K.In s.heap)(I:W.InstAt s.heap x ox C none)(hdx:ox.dict=none){vs:Array Value}(hdat:ox.data= .fields vs)(F:xcQ K C f)(n:xJ K C name)
  (h:∀h' t',h'.Ns1 s.heap.objs.size (fun y=>if y=name then some v else none)→h'.get? x=some {ox with dict:=some s.heap.objs.size}→(∀b o,b≠x→s.heap.get? b=some o→h'.get? b=some o)→Q () {s with heap:=h',toks:=t'}):
  wpAny (model prog w) A (setAttr (.ref x) name v) Q E s:=by
 refine W.set_plain X I F.sa (xo3 (s:={s with toks:=s.toks+1}) X I F n fun b=>?_);obtain⟨cd,hc,hd'⟩:=W.any_some F.hd;have hx:=I.at_;obtain⟨c0,d0,dt0,sl0⟩:=ox;cases hdx;cases hdat;cases I.cls;refine aa (ak (aa (aa (fS hx (aa (W.Looks.here (s:={s with toks:=s.toks+1}) (iT X hc) ?_))))));rw[hd'];have hx₁:(s.heap.push {cls:=.type "dict",data:=.dict #[]}).get? x=some ⟨.ref C,none,.fields vs,sl0⟩:=ah _ hx;have hxs:x≠s.heap.objs.size:=aH (ay hx);refine aa (wpAny_alloc' ?_);refine aa (wpAny_update' hx₁ ?_);refine ak ?_;have hgd:((s.heap.push {cls:=.type "dict",data:=.dict #[]}).update x fun o=>{cls:=o.cls,dict:=some s.heap.objs.size,data:=o.data,slots:=o.slots}).get? s.heap.objs.size
   =some {cls:=.type "dict",data:=.dict #[]}:=
  (i6 _ _ _ _ hxs.symm).trans (Heap.get?_push_at rfl rfl)
 have hnd:((s.heap.push {cls:=.type "dict",data:=.dict #[]}).update x fun o=>{cls:=o.cls,dict:=some s.heap.objs.size,data:=o.data,slots:=o.slots}).Ns s.heap.objs.size (fun _=>none):=
  ⟨_,#[],_,hgd,rfl,fun e he=>absurd he (by simp),fun _=>rfl⟩
 show wpAny _ _ (fK s.heap.objs.size (.str name _) name v) _ _ _;unfold fK Builtin.ObjectAttr.newKeyGuard;refine aa (ak (aa (wpAny_nsSet1 (j8 hnd) fun h' hn' hs=>?_)));obtain⟨oD,esD,epD,hoD,hdD,hcD⟩:=hn'.count (Within.cons name v Within.nil);refine aa (wpAny_lookBehind hoD (by rw[hdD];exact pastItsLine_dict (bo hcD (by rw[bB,eF,a6];lia))) ?_);refine ak (h h' _ hn' ((hs.2 x hxs).trans (bu _ hx₁ rfl)) fun b ob hbx hb=>?_);exact(hs.2 b (aH (ay hb))).trans ((i6 _ _ _ _ hbx).trans (ah _ hb))
end
def HO.exc(a C:Addr)(dx:Option Addr):HO:=.ext fun h=>∃o t,h.get? a=some o∧o.cls= .ref C∧o.dict=dx∧o.data= .fields #[.ref t,.none,.none,.none,.bool false,.none]
def rem(H:Hp)(a:Addr):Hp:=fun b=>if b=a then none else H b
section
variable {X:Cx} {pins:List (Addr×Obj)} {σ:St} {H:Hp} {s:af} {a C f:Addr} {fl:Str} {y:V} {u:Value} {A:aL} {E:Value→af→Prop}
theorem xhH{dx:Option Addr}{h1 h2:Heap}(q:∃o t,h1.get? a=some o∧o.cls= .ref C∧o.dict=dx∧o.data= .fields #[.ref t,.none,.none,.none,.bool false,.none])(k:∀o,h1.get? a=some o→h2.get? a=some o):
  ∃o t,h2.get? a=some o∧o.cls= .ref C∧o.dict=dx∧o.data= .fields #[.ref t,.none,.none,.none,.bool false,.none]:=by
 obtain⟨o,t,e,r⟩:=q;exact⟨o,t,k o e,r⟩
theorem xmq{Q:Unit→af→Prop}(I:Inv X pins σ H s)(e:H a=some (HO.exc a C none))(F:xcQ X.K C f)(n:xJ X.K C fl)(ry:RelV y u)
  (h:∀d s',H d=none→d≠a→Inv X pins σ (upd (upd H d (.xd [(fl,y)])) a (HO.exc a C (some d))) s'→Q () s'):wpAny (model X.prog X.w) A (setAttr (.ref a) fl u) Q E s:=by
 obtain⟨⟨o,t,ea,hc,hd,hdat⟩,_⟩:=I.hok a _ e;have J:W.InstAt s.heap a o C none:=⟨ea,hc,by obtain⟨c1,d1,dt,sl⟩:=o;cases hdat;rfl,by rw[hd];trivial⟩;refine xo4 I.kIn J hd hdat F n fun h' t' hn hx kp=>?_;have hd0:H s.heap.objs.size=none:=I.hok.fresh (ar _);have nda:s.heap.objs.size≠a:=fun z=>by rw[z,e]at hd0;cases hd0
 have nA:∀b,H b=none→b≠a:=fun b n z=>by rw[z,e]at n;cases n
 have oth:∀b,b≠a→b≠s.heap.objs.size→upd (upd H s.heap.objs.size (.xd [(fl,y)])) a (HO.exc a C (some s.heap.objs.size)) b=H b:=fun b h1 h2=>by rw[xr h1,xr h2]
 have own:∀b u,H b=some u→u≠HO.exc a C none→upd (upd H s.heap.objs.size (.xd [(fl,y)])) a (HO.exc a C (some s.heap.objs.size)) b=some u:=fun b u q nu=>by
  rw[oth b (fun z=>by rw[z,e]at q;exact nu (bc q).symm) (xF q hd0)];exact q
 refine h s.heap.objs.size _ hd0 nda (I.un ⟨fun b o q n _ _=>kp b o (nA b n) q,fun b o q n _ _=>⟨o.slots,kp b o (nA b n) q⟩,fun b o q n _=>?_,fun b o q _=>?_,fun b u q f=>own b u q (by rintro rfl;exact f)⟩ fun b u q=>?_)
 ·rw[oth b (nA b n) (aH (ay q))];exact n
 ·by_cases hb:b=a
  ·subst hb;exact⟨_,hx⟩
  ·exact⟨o,kp b o hb q⟩
 ·by_cases hb:b=a
  ·subst hb;rw[xt]at q;cases q;exact⟨⟨_,t,hx,hc,rfl,hdat⟩,⟨_,hx⟩,fun h1 h2=>xhH⟩
  ·rw[xr hb]at q
   by_cases hb2:b=s.heap.objs.size
   ·subst hb2;rw[xt]at q;cases q;refine⟨_,hn,fun g=>?_⟩;show ux (dQ g [(fl,y)]) (if g=fl then some u else none);rw[bD]
    by_cases q:g=fl
    ·subst q;simp;exact ry
    ·rw[beq_false_of_ne q,if_neg q];exact b9
   ·rw[xr hb2]at q;refine(I.hok b u q).stay (fun c v hc q'=>kp c v ?_ q') (fun c q'=>own _ _ q' (fun z=>by cases z)) fun c u' q' hf=>own _ _ q' (by rintro rfl;exact hf);rcases hc with rfl|hc
    ·exact hb
    ·intro z;rw[z,e]at hc;cases hc
theorem Inv.forget(I:Inv X pins σ H s){φ:Heap→Prop}(e:H a=some (.ext φ)):Inv X pins σ (rem H a) s:=by
 have non:∀b,H b=none→rem H a b=none:=fun b n=>by unfold rem;split<;> first|rfl|exact n
 have kp:∀b u,H b=some u→(∀φ,u≠.ext φ)→rem H a b=some u:=fun b u q n=>by
  unfold rem;rw[if_neg]
  ·exact q
  ·intro z;rw[z,e]at q;exact n φ (bc q).symm
 refine⟨I.ok,I.os,I.bare,⟨I.base.keep,I.base.slot,fun b o q n x=>non b (I.base.free b o q n x),I.base.there,fun b u q f=>kp b u (I.base.fix b u q f) (by rintro φ rfl;exact f)⟩,I.loc,I.cell,non _ I.free,fun x c q=>?_,fun p hp=>?_,fun b u q=>?_,I.len⟩
 ·rcases I.freeC x c q with z|⟨z1,o,z2,z3⟩
  ·exact .inl (non c z)
  ·exact .inr ⟨z1,o,kp c _ z2 (fun φ z=>by cases z),z3⟩
 ·obtain⟨e1,n,r⟩:=I.pin p hp;exact⟨e1,non _ n,r⟩
 ·have q':H b=some u:=by
   unfold rem at q
   split at q
   ·cases q
   ·exact q
  exact(I.hok b u q').stay (fun _ _ _ z=>z) (fun c z=>kp c _ z (fun φ z=>by cases z)) fun c u' z hf=>kp c _ z (by rintro φ rfl;exact hf)
end
def xrc(K:ag)(ta tv:TE)(f:Str):TS:=fun D σ H=>tv σ H fun y H1=>ta σ H1 fun x H2=>∃a C g,x= .ref a∧H2 a=some (HO.exc a C none)∧xcQ K C g∧xJ K C f∧
 ∀d,H2 d=none→d≠a→D.nx σ (upd (upd H2 d (.xd [(f,y)])) a (HO.exc a C (some d)))
theorem xo5{X:Cx}{o value:Expr}{f:Str}{pos pos':Pos}{ta tv:TE}(ha:PE X o ta)(hv:PE X value tv)(hs:eM value (some (.Attribute o f pos')) pos.line X.env=pure false):PS X (.Assign [.Attribute o f pos'] value pos) (xrc X.K ta tv f):=by
 intro pins s σ H D I h;refine fC (thn (hv pins s σ H _ I h) fun u s1 ⟨y,H1,I1,ry,q⟩=>thn (ha pins s1 σ H1 _ I1 q) fun ov s2 ⟨x,H2,I2,rx,a,C,g,ex,ea,F,n,q2⟩=>?_) hs;subst ex;obtain rfl:ov=aB a:=rx;exact xmq I2 ea F n ry fun d s3 n1 n2 I3=>⟨σ,_,I3,q2 d n1 n2⟩
def xiN(C:Addr)(f:Str):Sp:=fun vs H Q _=>∃a v,vs=[.ref a,v]∧H a=some (HO.exc a C none)∧∀d,H d=none→d≠a→Q .non (upd (upd H d (.xd [(f,v)])) a (HO.exc a C (some d)))
section
variable {prog:av} {w:World} {A:aL} {E:Value→af→Prop} {h:Heap} {g:Array GenState} {d:Drawn} {t:Nat} {os:OsState}
variable {nm q:Str} {C N:Addr} {bs bm bmB:List Value} {hdct:Bool} {sn:List Str} {sub:List Value} {ab:Bool} {col:Option Bool} {dd:Option Addr} {k0 k1 k2 k3 k5:Option Value} {B newId initId:String}
theorem xhY(F:ExcBaseFacts B newId initId bmB)(T:OwnTail h bmB bm){mN:Str→Option Value}{rest:List Value}{fI:Addr}{oI:Obj}{Q:Fin→af→Prop}
  (hC:h.get? C=some (eo nm q C N bs bm hdct sn sub ab col dd k0 k1 k2 k3 k5 newId)) (hn:h.Ns N mN) (hi:mN "__init__"=some (.ref fI))
  (hfI:h.get? fI=some oI) (hfc:oI.cls= .type "function")
  (hq:∀h' e,Heap.MadeExcOf h h' e (.ref C) rest→h.objs.size≤e→
   wpAny (model prog w) A (call (.ref fI) (.ref e::rest)) (fun r s'=>r= .none∧Q (.done (.ret (.ref e))) s') E ⟨h',g,d,t,os⟩) (hrest:rest.length≤aM:=by size_fits):
  wpAny (model prog w) A (iA.«type.__call__» ⟨.ref C::rest,[]⟩) Q E ⟨h,g,d,t,os⟩:=by
 repeat (first|with_reducible refine dS hC ?_|with_reducible refine wpAny_madeBy_exc hC ?_|wp_step)
 refine codeAny_call_builtin_code (gn _ F.quiet) (wpAny_check_new_subT F T hC ?_);refine codeAny_exc_new_subT F T hC ?_ hrest;show wpAny _ _ _ _ _ _;have hC₁:=ah {cls:=.ref C,data:=.fields #[.ref h.objs.size,.none,.none,.none,.bool false,.none]}
  (ah {cls:=.type "tuple",data:=.seq rest.toArray} hC)
 have hfI₁:=ah {cls:=.ref C,data:=.fields #[.ref h.objs.size,.none,.none,.none,.bool false,.none]}
  (ah {cls:=.type "tuple",data:=.seq rest.toArray} hfI)
 have hn₁:((h.push {cls:=.type "tuple",data:=.seq rest.toArray}).push {cls:=.ref C,data:=.fields #[.ref h.objs.size,.none,.none,.none,.bool false,.none]}).Ns N mN:=
  let⟨o,es,ep,e,r⟩:=hn;⟨o,es,ep,ah _ (ah _ e),r⟩
 have hget:((h.push {cls:=.type "tuple",data:=.seq rest.toArray}).push
   {cls:=.ref C,data:=.fields #[.ref h.objs.size,.none,.none,.none,.bool false,.none]}).get? (h.objs.size+1)=some
   {cls:=.ref C,data:=.fields #[.ref h.objs.size,.none,.none,.none,.bool false,.none]}:=by heap_get
 have hcC:(aB C::bm).contains (.ref C)=true:=by simp
 have T₁:=T.keeps (h':=(h.push {cls:=.type "tuple",data:=.seq rest.toArray}).push {cls:=.ref C,data:=.fields #[.ref h.objs.size,.none,.none,.none,.bool false,.none]})
  fun b o e=>ah _ (ah _ e)
 unfold gC
 repeat (first|with_reducible refine dS hget ?_|(with_reducible refine wpAny_isSubtype_exc hC₁ ?_;rw[hcC])|wp_step)
 show wpAny _ _ (iG (.ref C) _) _ _ _;refine wpAny_typeLookup_tail hC₁ hn₁ T₁ F.mroIs F.init.lookup ?_;rw[hi];refine br (aa ?_);unfold bindSpecial;refine aa (wpAny_typeOf (T:="function") ⟨_,hfI₁,hfc⟩ ?_);rw[if_pos (by decide)];refine ak (aa (aT (hq _ (h.objs.size+1) ⟨fun b o hb=>ah _ (ah _ hb),d7 (cP _),h.objs.size,hget,d7 (ar _),?_⟩ (cP _)) (fun r s' hr=>?_) fun _ _ x=>x))
 ·exact ah _ (Heap.get?_push_at rfl rfl)
 ·obtain⟨rfl,hQ⟩:=hr
  wp_walk
  exact hQ
theorem xnA(F:ExcBaseFacts B newId initId bmB)(T:OwnTail h bmB bm){mN:Str→Option Value}{rest:List Value}{fI:Addr}{oI:Obj}{Q:Value→af→Prop}
  (hC:h.get? C=some (eo nm q C N bs bm hdct sn sub ab col dd k0 k1 k2 k3 k5 newId)) (hn:h.Ns N mN) (hi:mN "__init__"=some (.ref fI))
  (hfI:h.get? fI=some oI) (hfc:oI.cls= .type "function")
  (hq:∀h' e,Heap.MadeExcOf h h' e (.ref C) rest→h.objs.size≤e→
   wpAny (model prog w) (A.under (.builtin "type.__call__" ⟨.ref C::rest,[]⟩)) (call (.ref fI) (.ref e::rest)) (fun r s'=>r= .none∧Q (.ref e) s') E ⟨h',g,d,t,os⟩) (hrest:rest.length≤aM:=by size_fits):
  wpAny (model prog w) A (call (.ref C) rest) Q E ⟨h,g,d,t,os⟩:=by
 have f1:=tc_lookup;have f2:=tc_bind (.ref C);have hT:(⟨h,g,d,t,os⟩:af).TypeIs (.ref C) "type":=⟨_,hC,rfl⟩;refine cw (codeAny_of_tree ?_);show wpAny _ _ (callAny (.ref C) _) _ _ _
 repeat (any_goals (first|assumption|with_reducible refine dS hC ?_|wp_step))
 refine⟨rfl,?_⟩;refine codeAny_call_builtin_at (gn _ (by decide+kernel)) entry_typeCall (wpAny_check_type_call_sub hC (xhY (hrest:=hrest) F T hC hn hi hfI hfc fun h' e hm hl=>?_));exact hq h' e hm hl
end
section
variable {M:Model} {A:aL} {E:Value→af→Prop} {env:Env}
variable {nm q:Str} {C N:Addr} {bs bm:List Value} {hdct:Bool} {sn:List Str} {sub:List Value} {ab:Bool} {col:Option Bool} {dd:Option Addr} {k0 k1 k2 k3 k5:Option Value} {newId:String}
theorem xfW{s:af}{x:Sem Value}{Q:Flow→af→Prop}(hbase:bm.contains (.type "BaseException")=true)(hh:A.handled=none)
  (h:wpAny M A x (fun v s₁=>∃e t od sl,v= .ref e∧s₁.heap.get? C=some (eo nm q C N bs bm hdct sn sub ab col dd k0 k1 k2 k3 k5 newId)∧
   s₁.heap.get? e=some {cls:=.ref C,dict:=od,data:=.fields #[.ref t,.none,.none,.none,.bool false,.none],slots:=sl}∧E (.ref e) s₁) E s):
  wpAny M A (raiseStmt env (some x) none) Q E s:=by
 have hcB:(aB C::bm).contains (.type "BaseException")=true:=by rw[List.contains_cons,hbase,Bool.or_true]
 unfold raiseStmt;refine aa (aT h (fun v s₁ h₁=>?_) fun _ _ x=>x);obtain⟨e,t,od,sl,rfl,hC,he,hE⟩:=h₁;obtain⟨hp,g,d,tk,os⟩:=s₁
 repeat (first|with_reducible refine dS he ?_|with_reducible refine dS hC ?_|(with_reducible refine wpAny_isSubtype_exc hC ?_;rw[hcB])|wp_step)
 exact wpAny_raiseNew_none hh hE
end
section
variable {prog:av} {w:World} {A:aL} {E:Value→af→Prop} {s:af} {env:Env}
variable {nm q:Str} {C N:Addr} {bs bm:List Value} {hdct:Bool} {sn:List Str} {sub:List Value} {ab:Bool} {col:Option Bool} {dd:Option Addr} {k0 k1 k2 k3 k5:Option Value} {newId:String}
theorem xln{x:Str}{np cpos pos:Pos}{args:List Expr}{Q:Flow→af→Prop}
  (hbase:bm.contains (.type "BaseException")=true) (hh:A.handled=none) (hplain:(bG cpos (aE args env)).any (·.1)=false)
  (h:wpAny (model prog w) A (eval (.Name x np) env) (fun f s₁=>f= .ref C∧wpAny (model prog w) A (evalArgs (.ref C) true (bG cpos (aE args env)) [])
   (fun a s₂=>a.kw=[]∧s₂.heap.get? C=some (eo nm q C N bs bm hdct sn sub ab col dd k0 k1 k2 k3 k5 newId)∧
    wpAny (model prog w) A (call (.ref C) a.pos) (fun v s₃=>∃e t od sl,v= .ref e∧s₃.heap.get? C=some (eo nm q C N bs bm hdct sn sub ab col dd k0 k1 k2 k3 k5 newId)∧
     s₃.heap.get? e=some {cls:=.ref C,dict:=od,data:=.fields #[.ref t,.none,.none,.none,.bool false,.none],slots:=sl}∧E (.ref e) s₃) E s₂) E s₁) E s):
  wpAny (model prog w) A (exec (.Raise (some (.Call (.Name x np) args [] cpos)) none pos) env) Q E s:=by
 rw[arm_exec_Raise]
 first
  |refine aa (cF (xfW (C:=C) (nm:=nm) (q:=q) (N:=N) (bs:=bs) (bm:=bm) (hdct:=hdct) (sn:=sn) (sub:=sub) (ab:=ab) (col:=col) (dd:=dd) (k0:=k0) (k1:=k1) (k2:=k2) (k3:=k3) (k5:=k5) (newId:=newId) hbase hh (aa (aT (wpAny_Call_ofName (aT h (fun f s₁ h₁=>?_) fun _ _ x=>x)) (fun v s₃ h₃=>aa (cF (ak h₃))) fun _ _ x=>x))))
  |(simp only[evalOpt,kj];refine aa (cF (xfW (C:=C) (nm:=nm) (q:=q) (N:=N) (bs:=bs) (bm:=bm) (hdct:=hdct) (sn:=sn) (sub:=sub) (ab:=ab) (col:=col) (dd:=dd) (k0:=k0) (k1:=k1) (k2:=k2) (k3:=k3) (k5:=k5) (newId:=newId) hbase hh (aa (aT (wpAny_Call_ofName (aT h (fun f s₁ h₁=>?_) fun _ _ x=>x)) (fun v s₃ h₃=>aa (cF (ak h₃))) fun _ _ x=>x)))))
 obtain⟨rfl,h₁⟩:=h₁;unfold fk;refine aa (br (aT h₁ (fun a s₂ h₂=>aa (cF ?_)) fun _ _ x=>x));obtain⟨apos,akw⟩:=a;obtain⟨hkw,hC,h₂⟩:=h₂;obtain rfl:akw=[]:=hkw;obtain⟨hp,g,d,tk,os⟩:=s₂;simp only[hplain];refine aa (wpAny_keeperOf_exc hC ?_);refine aa (aT h₂ (fun v s₃ h₃=>aa (br (wpAny_point (ak h₃)))) fun _ _ x=>x)
end
theorem xlo{K:ag}{h:Heap}{N:Addr}{mg:Str→Option Value}{n:Str}{v:Value}(X:K.In h)(G:h.Ns N mg)(e:g8 K N n=some (some v)):mg n=some v:=by
 obtain⟨o,es,ep,ho,hd,_,hf⟩:=G;unfold g8 at e
 split at e
 ·rename_i c d es' n' sl q;have:=X _ _ q;rw[ho]at this;cases this;cases hd
  split at e
  ·rename_i en he;cases e;rw[←hf];unfold nsFind findBy;rw[←i8,he];rfl
  ·split at e<;> cases e
 ·cases e
theorem xcQ.obj{K:ag}{C f:Addr}{h:Heap}(F:xcQ K C f)(X:K.In h):∃bm N nm qn bs hdct sn sub ab col dd k0 k1 k2 k3 k5,
  h.get? C=some (eo nm qn C N bs bm hdct sn sub ab col dd k0 k1 k2 k3 k5 "ValueError.__new__")∧h.Ns N (h.nsMap N)∧h.nsMap N "__init__"=some (.ref f)∧OwnTail h xa6 bm:=by
 have q:=F.xi;unfold xos at q
 split at q
 ·rename_i dd cd sl ho
  split at q
  ·rename_i C' bm k0 k1 k2 k3 n k5 hm hs;simp only[bR,beq_iff_eq,gz]at q;obtain⟨⟨⟨⟨⟨rfl,rfl⟩,hdel⟩,ht⟩,hok⟩,hni⟩:=q;obtain⟨nm,bs,mro,ns,qn,hd,sn,sub,ab,col,del⟩:=cd;obtain⟨l⟩:=sl;dsimp only at hm hdel hok hni hs;subst hm hdel hs;have N1:h.Ns ns (h.nsMap ns):=.of_isNs (W.isNs_of_in X hok);exact⟨bm,ns,nm,qn,bs,hd,sn,sub,ab,col,dd,k0,k1,k2,k3,k5,X _ _ ho,N1,xlo X N1 hni,W.tail_of_in X ht⟩
  ·cases q
 ·cases q
section
variable {X:Cx} {EE:EEs}
def xo6(C:Addr)(f:Str)(EE:EEs)(t:TA):TS:=fun _ σ H=>t σ H fun vs H1=>∃v,vs=[v]∧∀d,H1 d=none→EE σ (.ref C) (some d) (upd H1 d (.xd [(f,v)]))
theorem xmr{C g:Addr}{fd:aj}{ps:List Str}{fl x:Str}{k:Nat}{np cpos pos:Pos}{e:Expr}{t:TA}(o:Own X)(hc:X.calm=true)(q:xcQ X.K C g)(F:xE X.prog X.w X.K X.mg X.base CX0 k g fd ps (xiN C fl))(hr:xX (k+1) X.A)(hb:Binds X.K fd ps [])
  (hg:Gl X x) (hm:X.mg x=some (.ref C)) (ha:PA (X.wish (XE X EE)) [e] t)
  (hdb:(x==("__debug__":Str))=false:=by decide) (he:aE [e] X.env=(false,eval e X.env)::aE [] X.env:=by rfl) (hpl:(bG cpos (aE [e] X.env)).any (·.1)=false:=by rfl):
  PS (X.wish (XE X EE)) (.Raise (some (.Call (.Name x np) [e] [] cpos)) none pos) (xo6 C fl EE t):=by
 intro pins s σ H D I h;obtain⟨bm,N,nm,qn,bs,hdct,sn,sub,ab,col,dd,k0,k1,k2,k3,k5,hC,hN,hni,TL⟩:=q.obj I.ok.mod.kin;refine xln (C:=C) (N:=N) (bm:=bm) (nm:=nm) (q:=qn) (bs:=bs) (hdct:=hdct) (sn:=sn) (sub:=sub) (ab:=ab) (col:=col) (dd:=dd) (k0:=k0) (k1:=k1) (k2:=k2) (k3:=k3) (k5:=k5) (newId:="ValueError.__new__") (TL.hasType PySem.F.excBase_ValueError.hasBase) (I.ok.hd hc) hpl (zH I hg hm ⟨rfl,?_⟩ hdb);have ha':=ha cpos pins s σ H _ I h;rw[he]at ha';show wpAny (model X.prog X.w) X.A (evalArgs (.ref C) true (bG cpos (aE [e] X.env)) []) _ _ s;rw[he];refine PySem.evalArgs_kw (keywords:=[]) rfl ?_;refine thn ha' fun us s1 ⟨vs,H1,I1,r,v,hv,y⟩=>?_;subst hv;have hl:us.length=1:=r.length.symm;refine ak ⟨rfl,I1.bk _ _ hC,?_⟩;obtain⟨hh,gg,dr,tt,oss⟩:=s1;have hfn:W.typeIn X.K (.ref g)=some (.type "function"):=beq_iff_eq.mp q.fn;obtain⟨og,hog,hgc⟩:=aJ.mp (show(X.K.lookup g).map (·.cls)=_ from hfn);refine xnA PySem.F.excBase_ValueError (TL.keeps I1.bk) (I1.bk _ _ hC) (hN.keeps I1.bk) hni (I1.kIn _ _ hog) hgc (fun h' a mk hsz=>?_) (by show us.length≤aM;rw[hl];decide);obtain⟨t0,ea,_,_⟩:=mk.there;have nu:=xop o I1.unwish mk.new;have I2:=I1.laid (a:=a) (o:=HO.exc a C none) (t':=tt) mk.keeps hsz ⟨⟨_,t0,ea,rfl,rfl,rfl⟩,⟨_,ea⟩,fun h1 h2=>xhH⟩;have hl2:(aB a::us++[]).length=ps.length:=by
  have:=F.len [.ref a,v] (upd H1 a (HO.exc a C none)) (fun _ _=>True) E0 ⟨a,v,rfl,xt,fun _ _ _=>trivial⟩;rw[←this];simp[hl]
 refine cw (cm (F.run _ X.stack _ _ ⟨aB a::us,[]⟩ (aB a::us) [.ref a,v] (fun vv H3=>vv= .non∧∃d,H1 d=none∧d≠a∧H3=upd (upd (upd H1 a (HO.exc a C none)) d (.xd [(fl,v)])) a (HO.exc a C (some d))) E0 (hr.make C us [])
  (I2.env0.make C us []) (by have:=hb _ (aB a::us) I2.kIn hl2;rwa [bZ]at this) (.cons rfl r) ⟨a,v,rfl,xt,fun d n1 n2=>⟨rfl,d,by rwa [xr n2]at n1,n2,rfl⟩⟩) fun rr s' hq'=>?_)
 cases rr with
 |error e=>exact aS hq'
 |ok fl'=>
  cases fl' with
  |ret u=>
   obtain⟨vv,H',I3,rv,rfl,d,n1,n2,rfl⟩:=I2.after hq';obtain rfl:u=bj:=rv;obtain⟨⟨oe,t1,ea1,oc,od,odat⟩,_⟩:=I3.hok a _ xt;have hrem:rem (upd (upd (upd H1 a (HO.exc a C none)) d (.xd [(fl,v)])) a (HO.exc a C (some d))) a=upd H1 d (.xd [(fl,v)]):=by
    funext b
    unfold rem
    by_cases hb:b=a
    ·rw[if_pos hb,hb,xr (au n2)];exact nu.1.symm
    ·rw[if_neg hb,xr hb]
     by_cases hd:b=d
     ·rw[hd,xt,xt]
     ·rw[xr hd,xr hd,xr hb]
   have I4:=I3.unwish.forget (a:=a) xt;rw[hrem]at I4;refine⟨rfl,a,t1,some d,oe.slots,rfl,I3.bk _ _ hC,?_,a,.ref C,some d,σ,_,rfl,I4.nopins,.inl ⟨oe,_,.ref t1,ea1,oc,od,odat,rfl,rfl,?_⟩,y d n1⟩
   ·obtain⟨c1,d1,dt1,sl1⟩:=oe;cases oc;cases od;cases odat;exact ea1
   ·exact⟨by rw[xr (au n2)];exact nu.1,nu.2⟩
  |next=>exact aS hq'
  |brk=>exact aS hq'
  |cont=>exact aS hq'
end
end L2
namespace L2
open PySem PySem.Spec PyProof.Rows PySem.W
section
variable {prog:av} {w:World} {A:aL} {E:Value→af→Prop} {s:af} {K:Frag} {x D:Addr} {ox:Obj} {od:Obj}
theorem xo7{Q:Value→af→Prop}{expr:Bool}{name:Str}{v:Value}(F:va K D)(hd:hasDictIn K D=true)(X:K.In s.heap)(I:InstAt s.heap x ox D (some od))(na:findIn K (.ref D) name=some none)(hl:lookIn name od=some (some v))(hv:handedIn v=true)
  (h:Q v {s with toks:=s.toks+1}):wpAny (model prog w) A (getAttr (.ref x) name expr) Q E s:=by
 obtain⟨hh,g,d,t,os⟩:=s;have l0:=I.type (M:=model prog w);have l1:=g7 (M:=model prog w) X F.ga;have l2:=g7 (M:=model prog w) X F.gh;have l3:=looks_find (M:=model prog w) X I (findObj_own hd na rfl hl);unfold getAttr getAttrBy;refine aa (wpAny_mkText (br (aa (l0.at (aa (l1.at ?_))))));dsimp only;rw[if_neg (by rw[show(fj "BaseException.__getattribute__"==fj "object.__getattribute__")=false by decide,iy];exact aI)];unfold getAttrByItsOwn hookBefore;rw[if_pos (show onTheHeap (aB D)=true from rfl)];refine aa (l2.at (aa (gu (br ?_))));unfold callGetattribute boundAndCalled;have hx0:(expr&&onTheHeap (fj "BaseException.__getattribute__"))=false:=by cases expr<;> rfl
 rw[if_neg (by rw[hx0];exact aI)];refine aa (fi (PySem.F.excAttr_ValueError.ga.bind (.ref x)) ?_);have li:Looks (model prog w) hh (gC (.ref x) (.type "BaseException")) true:=l0.andThen (looks_mroIn X F.bs);dsimp only;refine cw ?_;refine df PySem.F.excAttr_ValueError.ga.plain PySem.F.entry_bexc_ga ?_;have hs:=PySem.F.args_bexc_ga (.ref x) (.str name t);simp only[dv,eE];refine check_slot (M:=model prog w) (A:=A.in1) (i:="BaseException.__getattribute__") (owner:="BaseException") (n:="__getattribute__") (self:=.ref x) (rest:=[.str name t]) (kw:=[]) xdN xdd ?_ ?_ ?_
 ·exact li
 ·exact hs
 unfold iA.«object.__getattribute__» slotArgs;simp only[List.isEmpty_nil,iY,cS,if_false,bB,eF,Nat.zero_add,bne_self_eq_false];refine aa (ak ?_);dsimp only;unfold gk;simp only;refine aa (ak ?_);refine aa (l0.at ?_);refine aa (l3.at ?_);dsimp only;refine ak ?_;exact handed_on hv h
end
section
variable {X:Cx}
def xrd(K:Frag)(a:Addr)(cls:Value)(dx:Option Addr)(ta:TE)(f:Str):TE:=fun σ H Q=>ta σ H fun x H1=>∃D d fs v,x= .ref a∧cls= .ref D∧dx=some d∧H1 d=some (.xd fs)∧va K D∧hasDictIn K D=true∧xJ K D f∧fs.lookup f=some v∧Q v H1
theorem xo8{K:Frag}{a:Addr}{cls:Value}{dx:Option Addr}{ps:List (Addr×Obj)}{e:Expr}{f:Str}{pos:Pos}{ta:TE}(hK:X.K=K)(hs:∃oe:Obj,(a,oe)∈ps∧oe.cls=cls∧oe.dict=dx∧∃vs,oe.data= .fields vs)(hp:∀p∈ps,p∈X.pn)
  (he:PE X e ta) (hb:gq e f X.env (eval e X.env)=eval e X.env):PE X (.Attribute e f pos) (xrd K a cls dx ta f):=by
 subst hK;intro pins s σ H Q I h;refine xki hb (thn (he pins s σ H _ I h) fun u s1 ⟨x,H1,I1,rx,D,d,fs,v,ex,ec,ed,hx,F,hd,na,l,q⟩=>?_);subst ex;obtain rfl:u=aB a:=rx;obtain⟨oe,hp',hc,hdx,vs,hdat⟩:=hs;have hp:=hp _ hp';have hn:notCls oe=true:=by
  obtain⟨c1,d1,dt,sl⟩:=oe;cases hdat;rfl
 obtain⟨mA,N1,r⟩:=I1.hok d _ hx;obtain⟨od,ho,hl⟩:=xhp N1;obtain⟨u,hu,ru⟩:=ux.some_of (v:=v) (o:=mA f) (by rw[←l];exact r f);have J:InstAt s1.heap a oe D (some od):=⟨(I1.pin _ (a5 _ hp)).1,hc.trans ec,hn,by rw[hdx,ed];exact ho⟩;exact xo7 F hd I1.kIn J na (by rw[hl,hu]) (xhq ru) ⟨v,H1,I1.tok _,ru,q⟩
end
section
variable {X:Cx}
theorem xfX{C C':Addr}{y n:Str}{i:Nat}{np hp:Pos}{suite:List Stmt}{b₀:Stmt}{rest:List gs}{ts:Addr→Value→Option Addr→TS}{pins:List (Addr×Obj)}{σ:St}{H:Hp}{s:af}{D:Ends}{a:Addr}{dx:Option Addr}{fl:Value}
  (o:Own X) (hb:xa7 X.K C') (hg:Gl X y) (hm:X.mg y=some (.ref C')) (hN:X.N.Nodup) (hi:X.N[i]? =some n) (hk:X.env.kindOf n=some .local)
  (hsuite:∀(ps:List (Addr×Obj)) (a:Addr) (cls:Value) (dx:Option Addr),(∃oe:Obj,(a,oe)∈ps∧oe.cls=cls∧oe.dict=dx∧∃vs,oe.data= .fields vs)→PSs (X.held a ps) (b₀::suite) (ts a cls dx))
  (hdb:(y==("__debug__":Str))=false) (ok:X.Ok) (I3:Inv (X.pnd pins) [] σ H s) (F3:xcM (X.pnd pins) fl H s.heap a (.ref C) dx) (hkc:aF X.K (.ref C) (.ref C')=some true) (q:ts a (.ref C) dx (D.gone i) (σ.set i (some (.ref a))) H):
  wpAny (model X.prog X.w) X.A (handleBy (.ref a) X.env (.ExceptHandler (some (.Name y np)) (some n) (b₀::suite) hp::rest)) (SP X pins D) X.xe s:=by
 refine fO (fB ?_) (by intro z;cases z);obtain⟨oe,vs,a0,T,oT,ts',he,hc,hx,hd,h0,h1,nT,hT,hdT,h3,hn,hnT⟩:=id F3;have J3:=Inv.held I3 ok he hn.1 hd;refine zH J3 hg hm ?_ hdb;refine xcP (K:=X.K) I3.kIn he hc hkc hb ?_;refine codeAny_handlers_suite_as ?_;refine xac (X:=X.pnd pins) (to:=none) o.pnd I3 F3 fun s4 I4 F4=>?_;obtain⟨oe',vs',a0',T',oT',ts'',he',hc',hx',hd',h0',h1',nT',hT',hdT',h3',hn',hnT'⟩:=id F4;have J4:=Inv.held I4 ok he' hn'.1 hd';refine xcD (X:=X.held a (pins++[(a,oe')])) (v:=.ref a) J4 hN hi (.inl hk) rfl (fun s5 J5=>?_) (.inr hk);refine aT (hsuite (pins++[(a,oe')]) a (.ref C) dx ⟨oe',by simp,hc',hx',_,hd'⟩ [] s5 _ H (D.gone i) J5 q) (fun f s6 hq=>?_) fun _ _ z=>z.elim;have hq':SP X pins (D.gone i) f s6:=hq.unheld ok;cases f with
 |next=>
  obtain⟨σ',H',J,z⟩:=hq';exact xew J hN hi hk fun s7 J7=>⟨_,_,J7,z⟩
 |brk=>
  obtain⟨σ',H',J,z⟩:=hq';exact xew J hN hi hk fun s7 J7=>⟨_,_,J7,z⟩
 |cont=>
  obtain⟨σ',H',J,z⟩:=hq';exact xew J hN hi hk fun s7 J7=>⟨_,_,J7,z⟩
 |ret u=>
  obtain⟨v,σ',H',J,r,z⟩:=hq';exact xew J hN hi hk fun s7 J7=>⟨_,_,_,J7,r,z⟩
theorem xjP{C C':Addr}{y:Str}{n:Option Str}{np hp:Pos}{suite:List Stmt}{rest:List gs}{pins:List (Addr×Obj)}{σ:St}{H:Hp}{s:af}{Q:Flow→af→Prop}{a:Addr}{dx:Option Addr}{fl:Value}
  (hb:xa7 X.K C') (hg:Gl X y) (hm:X.mg y=some (.ref C')) (hdb:(y==("__debug__":Str))=false) (ok:X.Ok) (I3:Inv (X.pnd pins) [] σ H s) (F3:xcM (X.pnd pins) fl H s.heap a (.ref C) dx) (hkc:aF X.K (.ref C) (.ref C')=some false)
  (h:wpAny (model X.prog X.w) X.A (handleBy (.ref a) X.env rest) Q X.xe s):
  wpAny (model X.prog X.w) X.A (handleBy (.ref a) X.env (.ExceptHandler (some (.Name y np)) n suite hp::rest)) Q X.xe s:=by
 refine fO (fB ?_) (by intro z;cases z);obtain⟨oe,vs,a0,T,oT,ts',he,hc,hx,hd,h0,h1,nT,hT,hdT,h3,hn,hnT⟩:=id F3;have J3:=Inv.held I3 ok he hn.1 hd;refine zH J3 hg hm ?_ hdb;refine xcP (K:=X.K) I3.kIn he hc hkc hb ?_;exact h
def xms(K:ag)(C1 C2:Addr)(i:Nat)(ts1 ts2:Addr→Value→Option Addr→TS)(D:Ends):EEs:=fun σ cls dx H=>∃C,cls= .ref C∧((aF K (.ref C) (.ref C1)=some true∧∀a,H a=none→ts1 a cls dx (D.gone i) (σ.set i (some (.ref a))) H)∨
 (aF K (.ref C) (.ref C1)=some false∧aF K (.ref C) (.ref C2)=some true∧∀a,H a=none→ts2 a cls dx (D.gone i) (σ.set i (some (.ref a))) H))
def xre(K:ag)(C1 C2:Addr)(i:Nat)(tb:EEs→TS)(ts1 ts2:Addr→Value→Option Addr→TS):TS:=fun D σ H=>tb (xms K C1 C2 i ts1 ts2 D) D σ H
theorem xmt{C1 C2:Addr}{y1 y2 n:Str}{i:Nat}{np1 np2 hp1 hp2 pos:Pos}{body suite1 suite2:List Stmt}{b1 b2:Stmt}{tb:EEs→TS}{ts1 ts2:Addr→Value→Option Addr→TS}(o:Own X)(hb1:xa7 X.K C1)(hg1:Gl X y1)(hm1:X.mg y1=some (.ref C1))(hb2:xa7 X.K C2)(hg2:Gl X y2)(hm2:X.mg y2=some (.ref C2))(hN:X.N.Nodup)(hi:X.N[i]? =some n)(hk:X.env.kindOf n=some .local)
  (hbody:∀(EE:EEs) (ps:List (Addr×Obj)),PSs ((X.pnd ps).wish (XE (X.pnd ps) EE)) body (tb EE))
  (hsuite1:∀(ps:List (Addr×Obj)) (a:Addr) (cls:Value) (dx:Option Addr),(∃oe:Obj,(a,oe)∈ps∧oe.cls=cls∧oe.dict=dx∧∃vs,oe.data= .fields vs)→PSs (X.held a ps) (b1::suite1) (ts1 a cls dx))
  (hsuite2:∀(ps:List (Addr×Obj)) (a:Addr) (cls:Value) (dx:Option Addr),(∃oe:Obj,(a,oe)∈ps∧oe.cls=cls∧oe.dict=dx∧∃vs,oe.data= .fields vs)→PSs (X.held a ps) (b2::suite2) (ts2 a cls dx))
  (hdb1:(y1==("__debug__":Str))=false:=by decide) (hdb2:(y2==("__debug__":Str))=false:=by decide):
  PS X (.Try body [.ExceptHandler (some (.Name y1 np1)) (some n) (b1::suite1) hp1,.ExceptHandler (some (.Name y2 np2)) (some n) (b2::suite2) hp2] [] [] pos) (xre X.K C1 C2 i tb ts1 ts2):=by
 intro pins s σ H D I h;have ok:=I.ok;refine gZ (aT (hbody (xms X.K C1 C2 i ts1 ts2 D) pins [] s σ H D (I.pnd.wish _) h) (fun f s1 hq=>?_) fun e s1 hx=>?_)
 ·have hq':SP X pins D f s1:=(SP.unwish hq).unpnd ok;cases f with
  |next=>exact dG hq'
  |brk=>exact hq'
  |cont=>exact hq'
  |ret u=>exact hq'
 ·obtain⟨a,cls,dx,σ1,H1,rfl,I1,F1,C,rfl,q⟩:=hx;refine xgM (X:=X.pnd pins) o.pnd ok.frames I1 F1 fun s2 I2 F2=>?_;refine xac (X:=X.pnd pins) (to:=none) o.pnd I2 F2 fun s3 I3 F3=>?_;have hn:H1 a=none:=by
   obtain⟨oe,vs,a0,T,oT,ts',he,hc,hx,hd,h0,h1,nT,hT,hdT,h3,hn,hnT⟩:=id F3;exact hn.1
  rcases q with⟨k1,q⟩|⟨k1,k2,q⟩
  ·exact xfX o hb1 hg1 hm1 hN hi hk hsuite1 hdb1 ok I3 F3 k1 (q a hn)
  ·exact xjP hb1 hg1 hm1 hdb1 ok I3 F3 k1 (xfX o hb2 hg2 hm2 hN hi hk hsuite2 hdb2 ok I3 F3 k2 (q a hn))
end
section
variable {P:av} {w:World} {K:ag} {mg:Str→Option Value} {base:Heap}
end
section
variable {X:Cx} {EE:EEs} {k:Nat} {f C:Addr} {fd:aj} {ps:List Str} {sp:Sp} {dvs:List V} {ds:List Value} {x m:Str} {p pos apos:Pos} {e o:Expr} {es:List Expr} {ta:TE} {t:TA}
def xmu(C:Addr)(m:Str)(sp:Sp)(dvs:List V)(EE:EEs)(ta:TE)(t:TA):TE:=fun σ H Q=>ta σ H fun x H1=>∃a dx fs,x= .ref a∧H1 a=some (.ins C dx fs)∧fs.lookup m=none∧
 t σ H1 fun vs H2=>sp (x::(vs++dvs)) H2 Q (EE σ)
theorem xiO{pl:Sem Bool}(ow:Own X)(he:PE (X.wish (XE X EE)) o ta)(c:Cls X.K C)(hm:Meth X.K C m f)(F:xE X.prog X.w X.K X.mg X.base (CXE X.prog X.w) k f fd ps sp)(hr:xX k X.A)(hb:Binds X.K fd ps ds)(hd:Vals dvs ds)(ha:PA (X.wish (XE X EE)) (e::es) t)
  (hst:aE (e::es) X.env=(false,eval e X.env)::aE es X.env:=by rfl) (hpl:(bG pos (aE es X.env)).any (·.1)=false:=by rfl)
  (ht:eval (.Call (.Attribute o m apos) (e::es) [] pos) X.env=(do
   let ov ←eval o X.env
   gF apos.atName
   let(f,first) ←eW [ov] (fz ov m pl)
   fk pos f first (bG pos (aE (e::es) X.env)) (gL pos (fg [] X.env))):=by rfl):
  PE (X.wish (XE X EE)) (.Call (.Attribute o m apos) (e::es) [] pos) (xmu C m sp dvs EE ta t):=by
 intro pins s σ H Q I h;refine eB (pl:=pl) (thn (he pins s σ H _ I h) fun u s1 ⟨x,H1,I1,rx,a,dx,fs,ex,ea,l,q⟩=>?_) ht;subst ex;obtain rfl:u=aB a:=rx;refine xaL I1 ea c hm l ?_;refine dY (first:=[.ref a]) (h₀:=X.base) I.ok.mod.kin hm.kp (thn (ha pos pins s1 σ H1 _ I1 q) fun us s2 ⟨vs,H2,I2,r,q2⟩=>⟨I2.kIn,?_⟩) hst hpl;exact xkv (us:=.ref a::us) (vs:=.ref a::vs) ow F hr hb hd I2 (.cons rfl r) q2
theorem xad{pl:Sem Bool}(ow:Own X)(he:PE (X.wish (XE X EE)) o ta)(c:Cls X.K C)(hm:Meth X.K C m f)(F:xE X.prog X.w X.K X.mg X.base (CXE X.prog X.w) k f fd ps sp)(hr:xX k X.A)(hb:Binds X.K fd ps ds)(hd:Vals dvs ds)
  (ht:eval (.Call (.Attribute o m apos) [] [] pos) X.env=(do
   let ov ←eval o X.env
   gF apos.atName
   let(f,first) ←eW [ov] (fz ov m pl)
   fk pos f first (bG pos (aE [] X.env)) (gL pos (fg [] X.env))):=by rfl):
  PE (X.wish (XE X EE)) (.Call (.Attribute o m apos) [] [] pos) (xmu C m sp dvs EE ta vU):=by
 intro pins s σ H Q I h;refine eB (pl:=pl) (thn (he pins s σ H _ I h) fun u s1 ⟨x,H1,I1,rx,a,dx,fs,ex,ea,l,q⟩=>?_) ht;subst ex;obtain rfl:u=aB a:=rx;refine xaL I1 ea c hm l ?_;exact W.callWith_K0 (first:=[.ref a]) I1.kIn hm.kp (xkv (us:=[.ref a]) (vs:=[.ref a]) ow F hr hb hd I1 (.cons rfl .nil) q)
end
def FnV(P:av)(w:World)(K:ag)(mg:Str→Option Value)(base:Heap)(k:Nat)(H:Hp)(f:Addr)(vs:List V)(Q:VK):Prop:=
 ∃nm qual params body scope ps sp fv,uN P w K mg base CX0 k nm qual params body scope ps sp∧xaP H f nm qual params body scope fv∧sp fv vs H Q E0
section
variable {X:Cx} {k:Nat} {x:Str} {p pos:Pos} {e:Expr} {es:List Expr} {t:TA}
end
end L2
namespace PySem
open Sem (wp)
open AutoSeq1 (wpAny_loadPart')
abbrev kwS(k:Int)(t:Tok):List (Str×Value):=[(aX "start",.int k t)]
theorem xo9(a:Value)(k:Int)(t:Tok):checkTypeCall "enumerate" ⟨[a],kwS k t⟩=pure ():=by kernel_rfl
theorem xqn(a:Value)(k:Int)(t:Tok):checkBuiltinCall "enumerate.__new__" ⟨[.type "enumerate",a],kwS k t⟩=pure ():=by kernel_rfl
theorem xpa(x a:Value)(k:Int)(t:Tok):argsOk "object.__init__" ⟨[x,a],kwS k t⟩:=by
 unfold argsOk;rw[signature?_of (id:="object.__init__") (n:="__tini__".toList) (o:="tcejbo".toList) (by kernel_rfl) F.owner_object]
 kernel_rfl
theorem xpb(l:Addr)(items:Array Value)(n:Nat)(dct:Option Addr)(sl:Array (Option Value))(k:Int)(t:Tok)(hf:dZ k=true):
  Meets (iA.«enumerate.__new__» ⟨[.type "enumerate",.ref l],kwS k t⟩) (fun _ R s=>s.heap.get? l=some ⟨.type "list",dct,.seq items n,sl⟩∧
   R (.ok (.ret (.ref (s.heap.objs.size+1))))
    {s with heap:=(s.heap.push {cls:=.type "list_iterator",data:=.fields #[.ref l,.int 0 0]}).push {cls:=.type "enumerate",data:=.fields #[.none,.bool false,.ref s.heap.objs.size,bx k,.none,.none]}}):=by
 refine .of_wp fun prog w A R s h=>?_;obtain⟨hl,h⟩:=h;obtain⟨hp,g,d,tk,os⟩:=s;have hz:(hp.push {cls:=.type "list_iterator",data:=.fields #[.ref l,.int 0 0]}).objs.size=hp.objs.size+1:=dX ..;have hsub:=sub_enumerate;have hL:Heap.IsList (Shared.heap ⟨hp,g,d,tk,os⟩) l items:=⟨_,hl,rfl,n,rfl⟩
 wp_walk using ij hl
 refine wpAny_stack_any fun st=>ak ?_
 split
 ·rename_i c _ _ _ _ _;cases (c==d6 "enumerate")<;>
   (wp_walk using ij hl,fb hL;exact⟨_,rfl,by rw[hz];exact h⟩)
 ·wp_walk using ij hl,fb hL
  exact⟨_,rfl,by rw[hz];exact h⟩
theorem xmv{T newId:String}{x y:Value}{kw:List (Str×Value)}(hl:iG (.type T) "__init__"=pure (some (.builtin "object.__init__")))(hm:Bind.madeBy (.type T)=pure (some newId))(hne:(some newId != some "object.__new__")=true):
  Meets (iA.«object.__init__» ⟨[x,y],kw⟩) (fun _ R s=>s.TypeIs x T∧R (.ok (.ret .none)) s):=
 .of_wp fun prog w A R s h=>by
  obtain⟨hT,h⟩:=h
  repeat (any_goals (first|assumption|wp_step))
  exact⟨_,rfl,h⟩
section
variable {prog:av} {w:World} {A:aL} {E:Value→af→Prop} {s:af}
theorem xlp{l:Addr}{items:Array Value}{k:Int}{t:Tok}{Q:Value→af→Prop}(hL:s.heap.IsList l items)(hf:dZ k=true)
  (h:∀h',gX h' (s.heap.objs.size+1) s.heap.objs.size k .none→h'.IsListIter s.heap.objs.size l 0→(∀b o,s.heap.get? b=some o→h'.get? b=some o)→Q (.ref (s.heap.objs.size+1)) {s with heap:=h'}):
  wpAny (model prog w) A (call (.type "enumerate") [.ref l] (kwS k t)) Q E s:=by
 obtain⟨⟨c0,dct,dt,sl⟩,hl,hc,n,hd⟩:=hL;obtain rfl:c0= .type "list":=hc;obtain rfl:dt= .seq items n:=hd;have ft:=F.called_enumerate;obtain⟨c,tl,hmro⟩:=ft.mro;have hct:=xo9 (.ref l) k t;have hmade:=ft.made;have hsub:=ft.sub;have h1:=ft.notType;have h2:=ft.canCreate;have hz:(s.heap.push {cls:=.type "list_iterator",data:=.fields #[.ref l,.int 0 0]}).objs.size=s.heap.objs.size+1:=dX ..;have he:gX ((s.heap.push {cls:=.type "list_iterator",data:=.fields #[.ref l,.int 0 0]}).push {cls:=.type "enumerate",data:=.fields #[.none,.bool false,.ref s.heap.objs.size,bx k,.none,.none]}) (s.heap.objs.size+1) s.heap.objs.size k .none:=by
  rw[←hz];exact aN _ rfl
 have fin:=h _ he ⟨_,ah _ (aN _ rfl),rfl,rfl⟩ fun b o x=>ah _ (ah _ x);refine cw (codeAny_of_tree (ak ⟨gn _ (by decide+kernel),ie F.entry_type_call ?_⟩));rw[Around.under_plain (weight_type_call_type "enumerate" [.ref l] (kwS k t)) (units_type_call_type "enumerate" [.ref l] (kwS k t))]
 repeat (any_goals (first|assumption|wp_step))
 refine cm (df ft.plain iB (fi (xqn (.ref l) k t) (xpb l items n dct sl k t hf prog w A.in1 (wants (fun obj s₁=>s₁.TypeIs obj "enumerate"∧Q obj s₁) E) s ⟨hl,⟨_,he,rfl⟩,fin⟩))) fun r s₁ hr=>?_;rcases r with e|fl
 ·exact hr
 cases fl with
 |ret obj=>
  obtain⟨hT,hq⟩:=(show s₁.TypeIs obj "enumerate"∧Q obj s₁ from hr);have hli:=ft.init.lookup;have hbi:=ft.init.bind obj
  repeat (any_goals (first|assumption|wp_step))
  refine cm (df ft.init.plain F.entry_object_init (ft.init.check _ _ _ _ _ _ _ _ hT (xpa obj (.ref l) k t) (xmv (T:="enumerate") (kw:=kwS k t) ft.init.lookup ft.made (by decide) prog w A.in1 (wants (fun r s₂=>r= .none∧Q obj s₂) E) s₁ ⟨hT,rfl,hq⟩))) fun r₂ s₂ h3=>?_;rcases r₂ with e|f2
  ·exact h3
  cases f2 with
  |ret r=>
   obtain⟨rfl,h4⟩:=(show r= .none∧Q obj s₂ from h3)
   repeat (any_goals (first|assumption|wp_step))
  |_=>exact h3.elim
 |_=>exact hr.elim
end
end PySem
namespace L2
open PySem PySem.Spec PyProof.Rows
theorem xjQ{prog:av}{w:World}{A:aL}{it:Addr}{fp:List Addr}{n:Nat}{Pv:Nat→Value→Prop}{St:Nat→Heap→Prop}(D:Draws prog w A it fp n Pv St)(m:Nat):
  Draws prog w A it fp (m+n) (fun i v=>m≤i∧Pv (i - m) v) (fun i h=>m≤i∧St (i - m) h) where
 live:=fun _ _ st=>D.live _ _ st.2
 frame:=fun _ _ _ st hk=>⟨st.1,D.frame _ _ _ st.2 hk⟩
 item:=fun i s Q E hi st hQ=>D.item (i - m) s Q E (by lia) st.2 fun x h' tk hp hs hb=>hQ x h' tk ⟨st.1,hp⟩ ⟨by lia,by rw[show i+1 - m=i - m+1 by lia];exact hs⟩ hb
 done:=fun s Q E st hE=>D.done s Q E (by have:=st.2;rwa [show m+n - m=n by lia]at this) hE
section
variable {M:Model} {A:aL} {E:Value→af→Prop} {s:af}
theorem xjR{pos:Pos}{T:String}{args:List (Bool×Sem Value)}{kws:List (Option Str×Sem Value)}{Q:Value→af→Prop}(hp:args.any (·.1)=false)(hk:kws.any (·.1.isNone)=false)
  (h:wpAny M A (evalArgs (.type T) true args kws) (fun a s₁=>wpAny M A (call (.type T) a.pos a.kw) Q E s₁) E s):wpAny M A (fk pos (.type T) [] args kws) Q E s:=by
 unfold fk;refine aa (br ?_);refine aT h (fun a s₁ h₁=>?_) fun _ _ x=>x;refine aa (cF ?_);simp only[hp,hk,Bool.or_false];refine aa (ak (aa ?_));refine aT h₁ (fun r s₂ hr=>?_) fun _ _ x=>x;exact aa (br (wpAny_point (ak hr)))
end
def xnB(K:ag)(a:Addr)(m:Nat):It:=
 ⟨fun i H=>∃xs x,SqL K H a xs∧xs[i]? =some x,fun i H v H'=>∃T x,v= .ref T∧H T=none∧H'=upd H T (.tup [.int ((m+i:Nat):Int),x])∧∀xs,SqL K H a xs→xs[i]? =some x,fun i H=>∃xs,SqL K H a xs∧xs.length≤i⟩
theorem xlq{P:av}{w:World}{K:ag}{es:List Expr}{k:Nat}{pos:Pos}(a e it:Addr)(m:Nat)(hne:e≠it):Turn P w K (.Tuple es k pos) (xnB K a m) [e,it] e (fun i h=>(∃old,gX h e it ((m+i:Nat):Int) old)∧h.IsListIter it a i) where
 mem:=by simp
 obj:=fun i h st b hb=>by
  obtain⟨⟨old,he⟩,⟨o,e1,c,d⟩⟩:=st;rcases aq.mp hb with z|z
  ·subst z;exact⟨_,he,fun v z=>by cases z⟩
  ·rw[ao.mp z];exact⟨o,e1,fun v z=>by rw[d]at z;cases z⟩
 keep:=fun i h h' st kk=>by
  obtain⟨⟨old,he⟩,hit⟩:=st;exact⟨⟨old,kk e (by simp) _ he⟩,hit.at fun o x=>kk it (by simp) o x⟩
 item:=by
  intro X hP hw hK hc i pins s σ H E I hf st hg;subst hP hw hK;obtain⟨xs,x,hq,hx⟩:=hg;obtain⟨its,rv,p,hz⟩:=I.list hq;obtain⟨u,hu,ru⟩:=rv.get hx;obtain⟨⟨old,he⟩,hit⟩:=st;have he':=ay he;have hi':it<s.heap.objs.size:=by obtain⟨o,q,_⟩:=hit;exact ay q
  have hil:i<its.length:=by
   have:=(ax.mp hu).1;exact this
  have pl:=p.isList;have hai:a≠it:=fun z=>by
   obtain⟨o1,q1,c1,_⟩:=pl;obtain⟨o2,q2,c2,_⟩:=hit;rw[z,q2]at q1;cases q1;rw[c2]at c1;simp at c1
  have hae:e≠a:=fun z=>by
   obtain⟨o1,q1,c1,_⟩:=pl;rw[←z,he]at q1;cases q1;simp at c1
  have D:=xjQ (Draws.list (prog:=X.prog) (w:=X.w) (A:=X.A.in1) (I.ok.hd hc) it a hai its.toArray) m;refine hZ D he ⟨by lia,by rw[show m+i - m=i by lia];exact⟨hit,pl⟩⟩ (by simp;lia) hne (by simp[hne,hae]) fun y h' tk hy heo hst hT hsz hk=>?_;have ey:y=u:=by
   have h1:=hy.2;rw[show m+i - m=i by lia]at h1;have h2:its.toArray[i]? =some u:=by simpa using hu
   rw[h2]at h1;exact(bc h1).symm
  subst ey;have hit':=hst.2.1;rw[show m+i+1 - m=i+1 by lia]at hit';refine⟨_,rfl,ee (s:={s with heap:=h',toks:=tk+1}) heo fun h2 he2 hs2=>?_⟩;have hT2:h2.get? s.heap.objs.size=some {cls:=.type "tuple",data:=.seq #[.int ((m+i:Nat):Int) tk,y]}:=(hs2.2 _ (eN he')).trans hT;have I2:Inv X pins σ (upd H s.heap.objs.size (.tup [.int ((m+i:Nat):Int),x])) {s with heap:=h2,toks:=tk+1}:=by
   refine I.turnLaid (ch:=[e,it]) (fun b o hb q=>?_) (ar _) ⟨by simp[a6],[.int ((m+i:Nat):Int) tk,y],.cons ⟨_,rfl⟩ (.cons ru .nil),⟨_,hT2,rfl,_,rfl⟩⟩ (fun b hb=>(hf b hb).1) (fun b hb=>?_) fun b hb=>?_
   ·have b1:b≠e:=fun z=>hb (by simp[z]);have b2:b≠it:=fun z=>hb (by simp[z]);exact(hs2.2 b b1).trans (hk b o b1 b2 q)
   ·rcases aq.mp hb with z|z
    ·rw[z];exact he'
    ·rw[ao.mp z];exact hi'
   ·obtain⟨f0,f1,f2,f3,f4,f5⟩:=hf b hb;exact⟨f3,f1,f4,f5⟩
  refine⟨.ref s.heap.objs.size,_,I2,rfl,⟨_,x,rfl,I.hok.fresh (ar _),rfl,fun ys hy=>by rw[I.list_inj hy hq];exact hx⟩,⟨⟨y,by rw[show((m+(i+1):Nat):Int)=((m+i:Nat):Int)+1 by lia];exact he2⟩,hit'.extBut hs2.extBut (au hne)⟩,fun b hb=>?_⟩;have hb':b≠s.heap.objs.size:=by
   rcases aq.mp hb with z|z
   ·rw[z];exact aH he'
   ·rw[ao.mp z];exact aH hi'
  rw[xr hb'];exact(hf b hb).1
 done:=by
  intro X hP hw hK hc i pins s σ H E I hf st hg;subst hP hw hK;obtain⟨xs,hq,hx⟩:=hg;obtain⟨its,rv,p,hz⟩:=I.list hq;obtain⟨⟨old,he⟩,hit⟩:=st;obtain⟨f0,f1,f2,f3,f4,f5⟩:=hf it (by simp);have hl:=rv.length;have pl:=p.isList;have D:Draws X.prog X.w X.A.in1 it [it,a] 0 (fun _ _=>False) (fun _ h=>h.IsListIter it a i∧h.IsList a its.toArray):={
   live:=fun _ _ st=>let⟨o,ho,_⟩:=st.1;⟨o,ho⟩
   frame:=fun _ _ _ st hk=>⟨st.1.at fun o e=>hk it (by simp) o e,st.2.at fun o e=>hk a (by simp) o e⟩
   item:=fun j s Q E hj=>absurd hj (eI _)
   done:=fun s Q E st hE=>wpAny_nextOf_list_end (I.ok.hd hc) st.1 st.2 (by simp;lia) hE}
  exact wpAny_pyNext_enum_endD D he ⟨hit,pl⟩ fun h' eb=>⟨rfl,I.turned (t':=s.toks) (fun b o hb e=>eb b o hb e) f0 f1 f3 f4 f5⟩
 self:=fun _ _ _ _ _ st h=>by
  obtain⟨⟨old,he⟩,_⟩:=st;exact c8 he h
section
variable {X:Cx} {es:List Expr} {k:Nat} {tp:Pos}
def xqo(K:ag)(ta:TA)(tf:TE):TI:=fun σ H R=>ta σ H fun vs H1=>tf σ H1 fun y H2=>∃(a:Addr) (m:Nat),vs=[.ref a]∧y= .int m∧(m:Int)<2^62∧(∃xs,SqL K H2 a xs)∧R (xnB K a m) H2
theorem xnC{l fe:Expr}{ta:TA}{tf:TE}{p pos kp:Pos}(hg:Gl X "enumerate")(hm:X.mg "enumerate"=none)(ha:PA X [l] ta)(hf:PE X fe tf)
  (he:bG pos (aE [l] X.env)=(false,eval l X.env)::bG pos (aE [] X.env):=by rfl):PI X (.Tuple es k tp) (.Call (.Name "enumerate" p) [l] [⟨some "start",fe,kp⟩] pos) (xqo X.K ta tf):=by
 intro pins s σ H R I h;refine bK (uS I hg hm xa3 ?_);refine xjR (by rw[he];rfl) rfl ?_;rw[he];refine evalArgs_kwB rfl ?_;rw[←he];refine thn (ha pos pins s σ H _ I h) fun us s1 h1=>?_;obtain⟨vs,H1,I1,r1,q1⟩:=h1;refine kws_cons (thn (hf pins s1 σ H1 _ I1 q1) fun fu s2 h2=>kws_nil ?_);obtain⟨y,H2,I2,r2,a,m,rfl,rfl,hm2,⟨xs,hq⟩,q⟩:=h2;obtain⟨u,rfl,ru⟩:=Vals.one r1;cases ru;obtain⟨tz,rfl⟩:=r2;obtain⟨its,rv,pl,hz⟩:=I2.list hq;show wpAny _ _ (call (.type "enumerate") [.ref a] (kwS m tz)) _ _ s2;refine xlp pl.isList (by simp[dZ];lia) fun h' he hi hk=>c8 (s:={s2 with heap:=h'}) he ?_;refine⟨s2.heap.objs.size+1,[s2.heap.objs.size+1,s2.heap.objs.size],_,_,H2,rfl,I2.kept (t':=s2.toks) hk,xlq a _ _ m (gY _),⟨⟨.none,by simpa using he⟩,hi⟩,fun b hb=>?_,q⟩;rcases aq.mp hb with z|z
 ·rw[z];exact I2.fpOk (cP _) (I2.hok.fresh (cP _))
 ·rw[ao.mp z];exact I2.fpOk (ar _) (I2.hok.fresh (ar _))
end
theorem xjS{K:ag}{l:Addr}{n:Nat}{xs:List V}{g:TG}{tb:TS}{D:Ends}{σ:St}{H:Hp}(Pv:Nat→St→Hp→Prop)(h0:Pv 0 σ H)(hl:∀i σ H,i≤xs.length→Pv i σ H→SqL K H l xs)
  (hs:∀i x σ H T,xs[i]? =some x→Pv i σ H→H T=none→g (.ref T) σ (upd H T (.tup [.int ((n+i:Nat):Int),x])) fun σ2 H2=>tb {D with nx:=Pv (i+1),ct:=Pv (i+1),bk:=D.nx} σ2 H2) (hd:∀σ H,Pv xs.length σ H→D.nx σ H):uL (xnB K l n) g tb D σ H:=by
 unfold uL;refine⟨fun i m σ H=>m=xs.length - i∧i≤xs.length∧Pv i σ H,⟨xs.length,by simp,bL _,h0⟩,?_⟩;rintro i m σ H ⟨rfl,hi,p⟩;have hq:=hl i σ H hi p
 by_cases hlt:i<xs.length
 ·have hx:xs[i]? =some xs[i]:=aC hlt;refine .inr ⟨⟨xs,xs[i],hq,hx⟩,Pv (i+1),fun σ' H' p'=>⟨xs.length - (i+1),by lia,rfl,hlt,p'⟩,fun v H' y=>?_⟩;obtain⟨T,x,rfl,hT,rfl,hx'⟩:=y;exact hs i x σ H T (hx' xs hq) p hT
 ·obtain rfl:i=xs.length:=by lia
  exact .inl ⟨⟨xs,hq,ar _⟩,hd σ H p⟩
end L2
namespace L2
open PySem PySem.Spec PyProof.Rows
abbrev xrM(cap:List Str)(P:av)(w:World)(K:ag)(mg:Str→Option Value)(base:Heap)(N:List Str)(qual:Str)(sc:Scope)(f:Addr)(cd:Value)(A:aL)(outer:List Env)(s:af)(H:Hp)(E:XK):Cx:=
 (xbJ cap (CXE P w) P w K mg base N qual sc f cd A outer s H E).wish (XE (xbJ cap (CXE P w) P w K mg base N qual sc f cd A outer s H E) fun _=>E)
theorem Fun.okXK{P:av}{w:World}{K:ag}{mg:Str→Option Value}{base:Heap}{x qual:Str}{st:Stmt}{f c:Addr}{fd:aj}{N ps:List Str}{k:Nat}{sp:Sp}(cap:List Str)(F:Fun K x qual st f fd)(hc:fd.code= .ref c)(S:xv N ps (xp st))(len:∀vs H Q E,sp vs H Q E→vs.length=ps.length)
  (hbody:∀(A:aL) (outer:List Env) (s:af) (H:Hp) (vs:List V) (Q:VK) (E:XK),xX k (A.deeper (dH qual (xp st) s.heap.objs.size f (.ref c)))→sp vs H Q E→
   ∃t,PSs (xrM cap P w K mg base N qual (xp st) f (.ref c) A outer s H E) (xS st) t∧t {nx:=fun _ H'=>Q .non H',rt:=Q} (start N vs) H):xE P w K mg base (CXE P w) (k+1) f fd ps sp:=by
 obtain⟨oc,od,kV,doc,pm,an,cdv,ct,osl,rfl,lk,hcd⟩:=F.ex;obtain rfl:cdv= .ref c:=hc;refine⟨len,fun A outer s H args us vs Q E hr e0 hb r hsp=>?_⟩;have hl:=len _ _ _ _ hsp;have KX:K.In s.heap:=e0.mod.kin.keeps fun b o e=>(e0.bs b o e).1;have lim:s.heap.NoLimit:=e0.mod.nolimit.keeps fun b o e=>(e0.bs b o e).1;have hkind:∀y∈ps.zip us,(xp st).names.lookup y.1=some .local∨((xp st).names.lookup y.1=some .cell∧((gi (s.heap.objs.size+1) (xp st).names []).lookup y.1).isSome=true):=fun⟨n,v⟩ hy=>by
  rcases S.par n (cU hy).1 with q|q
  ·exact .inl q
  ·exact .inr ⟨q,d8 _ _ _ (.inl q)⟩
 refine cV hr.depth (KX _ _ lk) rfl S.co S.gen rfl (gM KX hcd) (hb _ _ _ _ ?_);refine cX S.kind hkind fun env he s1 x=>?_;subst he;refine⟨lim.keeps x.toInCall.keep,gN ?_⟩;obtain⟨t,ht0,hq⟩:=hbody A outer s H vs Q E (hr.deeper _) hsp;have ht:PSs (xbJ cap (CXE P w) P w K mg base N qual (xp st) f (.ref c) A outer s H E) (xS st) t:=ht0.wished fun e s' ⟨a,cls,dx,σ,H',he,I,Fl,z⟩=>by
  subst he;refine xcN ⟨rfl,rfl,rfl⟩ I.ok.frames I Fl fun s2 I2 F2=>?_;obtain⟨oe,vs,a0,T,oT,ts,he,hc,hx,hd,h0,h1,nT,hT,hdT,h3,hn,hnT⟩:=F2;exact⟨a,cls,dx,H',oe,vs,a0,T,oT,ts,rfl,I2.os,I2.bare,I2.base,I2.hok,he,hc,hx,hd,h0,h1,nT,hT,hdT,h3,hn.1,hn.2.1,hnT.1,hnT.2.1,z⟩
 have I:Inv (vV (CXE P w) P w K mg base N qual (xp st) f (.ref c) A outer s H E) [] (start N vs) H s1:=xbE S hr.hd e0 hl r x;have I':Inv (xbJ cap (CXE P w) P w K mg base N qual (xp st) f (.ref c) A outer s H E) [] (start N vs) H s1:=I.capd (fun _=>rfl) (xlh cap);refine aT (ht [] s1 (start N vs) H _ I' hq) (fun fl s' hs=>?_) fun e s' hs=>hs;have fin:∀{σ':St} {H':Hp} {v:V} {u:Value},Inv (xbJ cap (CXE P w) P w K mg base N qual (xp st) f (.ref c) A outer s H E) [] σ' H' s'→RelV v u→Q v H'→CE outer P w H s Q u s':=
  fun{σ' H' v u} J rv q=>⟨v,H',J.os,J.bare,J.base,J.hok,rv,q⟩
 cases fl with
 |ret u=>
  obtain⟨v,σ',H',J,rv,q⟩:=hs;exact fin J rv q
 |next=>
  obtain⟨σ',H',J,q⟩:=hs;exact fin (v:=V.non) (u:=bj) J rfl q
 |brk=>
  obtain⟨_,_,_,q⟩:=hs;exact aS q
 |cont=>
  obtain⟨_,_,_,q⟩:=hs;exact aS q
end L2
namespace L2
open PySem PySem.Spec PyProof.Rows
section
variable {X:Cx}
def xqp:V→V→V→Hp→(Hp→Prop)→Prop:=fun o i v H Q=>xok o i v H Q∨∃a H',o= .ref a∧xdE H a i v H'∧Q H'
theorem xmw(hu:X.A.units+1<cLine):xna X xqp:=by
 intro pins s σ H o i v ov iv u Q I ro ri rv h;rcases h with h|⟨a,H',rfl,g,q⟩
 ·exact set_list pins s σ H o i v ov iv u Q I ro ri rv h
 ·cases (show ov=aB a from ro);exact xhx hu I g ri rv fun s' I'=>⟨H',I',q⟩
end
abbrev xex(A:aL):aL:={A with handled:=none}
abbrev SpE:=Addr→Value→Option Addr→Sp
structure xlr(P:av)(w:World)(K:ag)(mg:Str→Option Value)(base:Heap)(k:Nat)(f:Addr)(fd:aj)(ps:List Str)(sp:SpE):Prop where
 len:∀a cls dx vs H Q E,sp a cls dx vs H Q E→vs.length=ps.length
 run:∀(A:aL) (outer:List Env) (s:af) (H:Hp) (args:Args) (us:List Value) (vs:List V) (Q:VK) (E:XK) (a:Addr) (oe:Obj),xX k (xex A)→jJ P w K mg base A outer s H→iu s fd args (ps.zip us)→Vals vs us→
  s.heap.get? a=some oe→H a=none→a∉frs outer→(∃vs,oe.data= .fields vs)→sp a oe.cls oe.dict vs H Q E→ck (model P w) A (.call (.ref f) args) (CR CX0 outer P w H s Q E) s
abbrev cxE(P:av)(w:World)(K:ag)(mg:Str→Option Value)(base:Heap)(N:List Str)(qual:Str)(scope:Scope)(f:Addr)(cd:Value)(A:aL)(outer:List Env)(s:af)(H:Hp)(E:XK)(qs:List (Addr×Obj)):Cx:=
 {vV CX0 P w K mg base N qual scope f cd A outer s H E with calm:=false,pn:=qs,xe:=fun _ _=>False}
theorem jJ.calm{P:av}{w:World}{K:ag}{mg:Str→Option Value}{base:Heap}{A:aL}{outer:List Env}{s:af}{H:Hp}(e:jJ P w K mg base A outer s H):jJ P w K mg base (xex A) outer s H:=
 ⟨e.frames,e.mod,e.bs,e.bsz,e.funs,e.frf,e.hok,e.bare⟩
theorem Fun.okE{P:av}{w:World}{K:ag}{mg:Str→Option Value}{base:Heap}{x qual:Str}{st:Stmt}{f:Addr}{fd:aj}{N ps:List Str}{k:Nat}{sp:SpE}(F:Fun K x qual st f fd)(S:xv N ps (xp st))(len:∀a cls dx vs H Q E,sp a cls dx vs H Q E→vs.length=ps.length)
  (hbody:∀(cdv:Value) (A:aL) (outer:List Env) (s:af) (H:Hp) (vs:List V) (Q:VK) (E:XK) (qs:List (Addr×Obj)) (a:Addr) (cls:Value) (dx:Option Addr),(∃oe:Obj,(a,oe)∈qs∧oe.cls=cls∧oe.dict=dx∧∃vs,oe.data= .fields vs)→xX k ((xex A).deeper (dH qual (xp st) s.heap.objs.size f cdv))→sp a cls dx vs H Q E→
   ∃t,PSs (cxE P w K mg base N qual (xp st) f cdv A outer s H E qs) (xS st) t∧t {nx:=fun _ H'=>Q .non H',rt:=Q} (start N vs) H):xlr P w K mg base (k+1) f fd ps sp:=by
 obtain⟨oc,od,kV,doc,pm,an,cdv,ct,osl,rfl,lk,hcd⟩:=F.ex;refine⟨len,fun A outer s H args us vs Q E a oe hr e0 hb r ha hn hf hdat hsp=>?_⟩;have hl:=len _ _ _ _ _ _ _ hsp;have KX:K.In s.heap:=e0.mod.kin.keeps fun b o e=>(e0.bs b o e).1;have lim:s.heap.NoLimit:=e0.mod.nolimit.keeps fun b o e=>(e0.bs b o e).1;have hkind:∀y∈ps.zip us,(xp st).names.lookup y.1=some .local∨((xp st).names.lookup y.1=some .cell∧((gi (s.heap.objs.size+1) (xp st).names []).lookup y.1).isSome=true):=fun⟨n,v⟩ hy=>by
  rcases S.par n (cU hy).1 with q|q
  ·exact .inl q
  ·exact .inr ⟨q,d8 _ _ _ (.inl q)⟩
 refine cV (show A.depth<ir from hr.depth) (KX _ _ lk) rfl S.co S.gen rfl (gM KX hcd) (hb _ _ _ _ ?_);refine cX S.kind hkind fun env he s1 x=>?_;subst he;refine⟨lim.keeps x.toInCall.keep,gN ?_⟩;obtain⟨t,ht,hq⟩:=hbody cdv A outer s H vs Q E [(a,oe)] a oe.cls oe.dict ⟨oe,ao.mpr rfl,rfl,rfl,hdat⟩ (hr.deeper _) hsp;have I0:Inv (vV CX0 P w K mg base N qual (xp st) f cdv (xex A) outer s H E) [] (start N vs) H s1:=xbE S rfl (e0.calm) hl r x;have ok0:=I0.ok;have I:Inv (cxE P w K mg base N qual (xp st) f cdv A outer s H E [(a,oe)]) [] (start N vs) H s1:=by
  refine⟨⟨ok0.mod,ok0.kind,ok0.glob,ok0.blt,ok0.above,ok0.inj,ok0.has,ok0.cab,(fun z=>by cases z),ok0.frames,ok0.stk,ok0.exf,ok0.bs,ok0.bsz,ok0.noex,ok0.exfs,ok0.funs,ok0.frf,ok0.cab2,ok0.hz⟩,I0.os,I0.bare,I0.base,I0.loc,I0.cell,I0.free,I0.freeC,fun p hp=>?_,I0.hok,I0.len⟩;obtain rfl:p=(a,oe):=by simpa using hp
  refine⟨x.toInCall.keep _ _ ha,hn,?_,hf,fun v z=>?_⟩
  ·exact aH (ay ha)
  ·obtain⟨vs,e⟩:=hdat;rw[show(a,oe).2.data=oe.data from rfl,e]at z;cases z
 refine aT (ht [] s1 (start N vs) H _ I hq) (fun fl s' hs=>?_) fun e s' hs=>hs.elim;have fin:∀{σ':St} {H':Hp} {v:V} {u:Value},Inv (cxE P w K mg base N qual (xp st) f cdv A outer s H E [(a,oe)]) [] σ' H' s'→RelV v u→Q v H'→CE outer P w H s Q u s':=
  fun{σ' H' v u} J rv q=>⟨v,H',J.os,J.bare,J.base,J.hok,rv,q⟩
 cases fl with
 |ret u=>
  obtain⟨v,σ',H',J,rv,q⟩:=hs;exact fin J rv q
 |next=>
  obtain⟨σ',H',J,q⟩:=hs;exact fin (v:=V.non) (u:=bj) J rfl q
 |brk=>
  obtain⟨_,_,_,q⟩:=hs;exact aS q
 |cont=>
  obtain⟨_,_,_,q⟩:=hs;exact aS q
section
variable {X:Cx} {k:Nat} {f:Addr} {fd:aj} {ps:List Str} {sp:SpE} {x:Str} {p pos:Pos} {e:Expr} {es:List Expr} {t:TA}
def xqq(sp:SpE)(a:Addr)(cls:Value)(dx:Option Addr)(t:TA):TE:=fun σ H Q=>t σ H fun vs H1=>sp a cls dx (vs++[]) H1 Q E0
theorem xiP{a:Addr}{cls:Value}{dx:Option Addr}{qs:List (Addr×Obj)}(hs:∃oe:Obj,(a,oe)∈qs∧oe.cls=cls∧oe.dict=dx∧∃vs,oe.data= .fields vs)(hp:∀p∈qs,p∈X.pn)(F:xlr X.prog X.w X.K X.mg X.base k f fd ps sp)(hr:xX k (xex X.A))(hg:Gl X x)(hm:X.mg x=some (.ref f))(hk:bY X.K (.ref f)=true)(hb:Binds X.K fd ps [])
  (ha:PA X (e::es) t) (hdb:(x==("__debug__":Str))=false:=by decide) (he:aE (e::es) X.env=(false,eval e X.env)::aE es X.env:=by rfl) (hpl:(bG pos (aE es X.env)).any (·.1)=false:=by rfl):
  PE X (.Call (.Name x p) (e::es) [] pos) (xqq sp a cls dx t):=by
 intro pins s σ H Q I h;refine bK (zH I hg hm ?_ hdb);refine dY (h₀:=X.base) I.ok.mod.kin hk (thn (ha pos pins s σ H _ I h) fun us s1 ⟨vs,H1,I1,r,q⟩=>⟨I1.kIn,?_⟩) he hpl;obtain⟨oe,hin,rfl,rfl,hdat⟩:=hs;obtain⟨p1,p2,p3,p4,_⟩:=I1.pin _ (a5 _ (hp _ hin));have r2:Vals (vs++[]) (us++[]):=by rw[bZ,bZ];exact r
 have hl:(us++[]).length=ps.length:=by rw[←r2.length];exact F.len _ _ _ _ _ _ _ q
 refine cw (cm (F.run X.A X.stack s1 H1 ⟨us,[]⟩ (us++[]) (vs++[]) Q E0 a oe hr I1.env0 (hb s1 us I1.kIn hl) r2 p1 p2 (fun z=>?_) hdat q) fun r s' hq=>?_)
 ·rcases aq.mp (I1.stkSub _ z)with z|z
  ·exact p3 z
  ·exact p4 z
 cases r with
 |error e=>exact aS hq
 |ok fl=>
  cases fl with
  |ret u=>exact I1.after hq
  |next=>exact aS hq
  |brk=>exact aS hq
  |cont=>exact aS hq
theorem xX.calm{k:Nat}{A:aL}{m:Option Value}(r:xX k A):xX k (xex (A.mark m)):=by
 cases m with
 |none=>exact⟨rfl,r.dp,r.un⟩
 |some v=>exact⟨rfl,r.dp,r.un⟩
end
end L2
namespace L2
open PySem PySem.Spec PyProof.Rows
section
variable {X:Cx} {k:Nat} {x:Str} {p pos:Pos}
def xpc(X:Cx)(k:Nat)(i:Nat):TE:=fun σ H Q=>∃f,σ[i]? =some (some (.ref f))∧FnV X.prog X.w X.K X.mg X.base k H f [] Q
theorem xmx(i:Nat)(hr:xX k X.A)(hN:X.N[i]? =some x:=by rfl)(hv:Vis X.env.scope x:=by first|exact az rfl|exact bT (az rfl)|exact bT (bT rfl))(hd:(x==("__debug__":Str))=false:=by decide)
  (hcd:(x==("__classdict__":Str))=false:=by decide):PE X (.Call (.Name x p) [] [] pos) (xpc X k i):=by
 intro pins s σ H Q I h;obtain⟨f,e1,nm,qual,params,body,scope,ps,sp,fv,F,hc,q⟩:=h;refine bK (thn (xiv (pos:=p) hN hv hd hcd pins s σ H (fun v H1=>v= .ref f∧H1=H) I ⟨_,e1,rfl,rfl⟩) fun u s1 ⟨v,H1,I1,r,q1,q2⟩=>?_);subst q1;subst q2;cases (show u=aB f from r);exact W.callWith_F0 (hc.fn I1) (xks F hr xu I1 hc .nil q)
end
end L2
namespace L2
open PySem PySem.Spec PyProof.Rows
section
variable {X:Cx} {EE:EEs} {k:Nat} {f C:Addr} {fd:aj} {ps:List Str} {sp:Sp} {dvs:List V} {ds:List Value} {x:Str} {p pos:Pos} {e:Expr} {es:List Expr} {t:TA}
theorem xmy{pins:List (Addr×Obj)}{σ:St}{H:Hp}{s:af}{Q:VK}{us:List Value}{vs:List V}(o:Own X)(M:Mk X.K C f)(F:xE X.prog X.w X.K X.mg X.base (CXE X.prog X.w) k f fd ps sp)(hr:xX (k+1) X.A)(hb:Binds X.K fd ps ds)(hd:Vals dvs ds)
  (I:Inv (X.wish (XE X EE)) pins σ H s) (r:Vals vs us)
  (h:∀x dx,H x=none→H dx=none→dx≠x→sp (.ref x::(vs++dvs)) (upd (upd H dx (.own x)) x (.ins C dx [])) (fun v H2=>v= .non∧Q (.ref x) H2) (EE σ)):
  wpAny (model X.prog X.w) X.A (call (.ref C) us) (EP (X.wish (XE X EE)) pins σ Q) (XE X EE) s:=by
 have hq:=h (s.heap.objs.size+1) s.heap.objs.size (I.hok.fresh (cP _)) (I.hok.fresh (ar _)) (aH (gK _));have I2:=Inv.made (C:=C) I;have r2:Vals (V.ref (s.heap.objs.size+1)::(vs++dvs)) (aB (s.heap.objs.size+1)::(us++ds)):=.cons rfl (r.append hd);have hl:(aB (s.heap.objs.size+1)::us++ds).length=ps.length:=by
  have e:=r2.length;rw[F.len _ _ _ _ hq]at e;exact e.symm
 refine cw (xiw (f:=f) I.unwish.kIn M.makes M.init (beq_iff_eq.mp M.fn) (cm (F.run _ X.stack _ _ ⟨aB (s.heap.objs.size+1)::us,[]⟩ (aB (s.heap.objs.size+1)::(us++ds)) _ _ (EE σ) (hr.make C us [])
  (I2.unwish.env0.make C us []) (hb _ (aB (s.heap.objs.size+1)::us) I2.unwish.kIn hl) r2 hq) fun r s' hq'=>?_))
 cases r with
 |error e=>exact xfV o I2 hq'
 |ok fl=>
  cases fl with
  |ret u=>
   obtain⟨v,H',I3,rv,ev,q3⟩:=I2.after hq';subst ev;exact⟨rv,⟨V.ref (s.heap.objs.size+1),H',I3,rfl,q3⟩⟩
  |next=>exact aS hq'
  |brk=>exact aS hq'
  |cont=>exact aS hq'
def xqr(C:Addr)(sp:Sp)(dvs:List V)(EE:EEs)(t:TA):TE:=fun σ H Q=>t σ H fun vs H1=>∀x dx,H1 x=none→H1 dx=none→dx≠x→
 sp (.ref x::(vs++dvs)) (upd (upd H1 dx (.own x)) x (.ins C dx [])) (fun v H2=>v= .non∧Q (.ref x) H2) (EE σ)
theorem xnD(o:Own X)(M:Mk X.K C f)(F:xE X.prog X.w X.K X.mg X.base (CXE X.prog X.w) k f fd ps sp)(hr:xX (k+1) X.A)(hg:Gl X x)(hm:X.mg x=some (.ref C))(hb:Binds X.K fd ps ds)(hd:Vals dvs ds)
  (ha:PA (X.wish (XE X EE)) (e::es) t) (hdb:(x==("__debug__":Str))=false:=by decide) (he:aE (e::es) X.env=(false,eval e X.env)::aE es X.env:=by rfl) (hpl:(bG pos (aE es X.env)).any (·.1)=false:=by rfl):
  PE (X.wish (XE X EE)) (.Call (.Name x p) (e::es) [] pos) (xqr C sp dvs EE t):=by
 intro pins s σ H Q I h;refine bK (zH I hg hm ?_ hdb);refine dY (h₀:=X.base) I.ok.mod.kin M.kp (thn (ha pos pins s σ H _ I h) fun us s1 ⟨vs,H1,I1,r,q⟩=>⟨I1.kIn,?_⟩) he hpl;exact xmy o M F hr hb hd I1 r q
end
section
variable {P:av} {w:World} {K:ag} {mg:Str→Option Value} {base:Heap}
theorem xcL.okX{x qual:Str}{st:Stmt}{f:Addr}{fd:aj}{ds:List Value}{N ps:List Str}{k:Nat}{sp:Sp}(F:xcL K x qual st f fd ds)(S:xv N ps (xp st))(len:∀vs H Q E,sp vs H Q E→vs.length=ps.length)
  (hbody:∀(cdv:Value) (A:aL) (outer:List Env) (s:af) (H:Hp) (vs:List V) (Q:VK) (E:XK),xX k (A.deeper (dH qual (xp st) s.heap.objs.size f cdv))→sp vs H Q E→
   ∃t,PSs (cxX P w K mg base N qual (xp st) f cdv A outer s H E) (xS st) t∧t {nx:=fun _ H'=>Q .non H',rt:=Q} (start N vs) H):xE P w K mg base (CXE P w) (k+1) f fd ps sp:=by
 obtain⟨oc,od,dT,o,n,kV,doc,pm,an,cdv,ct,osl,rfl,lk,hcd,_⟩:=F.ex;refine xin lk hcd S len fun A outer s H vs Q E hr hsp=>?_;obtain⟨t,h,q⟩:=hbody cdv A outer s H vs Q E hr hsp;refine⟨t,h.wished fun e s' ⟨a,cls,dx,σ,H',he,I,Fl,z⟩=>?_,q⟩;subst he;refine xcN xiM I.ok.frames I Fl fun s2 I2 F2=>?_;obtain⟨oe,vs,a0,T,oT,ts,he,hc,hx,hd,h0,h1,nT,hT,hdT,h3,hn,hnT⟩:=F2;exact⟨a,cls,dx,H',oe,vs,a0,T,oT,ts,rfl,I2.os,I2.bare,I2.base,I2.hok,he,hc,hx,hd,h0,h1,nT,hT,hdT,h3,hn.1,hn.2.1,hnT.1,hnT.2.1,z⟩
end
end L2
namespace K71
open PySem PySem.Spec PyProof.Rows L2
def top(i:Nat):Stmt:=PySem.Challenge.pw_oneroom_k71_a_board.main.body.getD i (.Pass ⟨0,0,0,0⟩)
abbrev xde:Stmt:=inClass (top 4) 0
abbrev xan:Stmt:=inClass (top 9) 0
abbrev xcR:Stmt:=inClass (top 13) 0
abbrev xa8:Stmt:=inClass (top 13) 1
abbrev xao:Stmt:=inClass (top 13) 2
abbrev xbW:Stmt:=inClass (top 14) 0
abbrev xa9:Stmt:=inClass (top 14) 1
abbrev xba:Stmt:=inClass (top 14) 2
abbrev xap:Stmt:=inClass (top 14) 3
abbrev xaq:Stmt:=inClass (top 14) 4
abbrev vz:Stmt:=inClass (top 14) 5
abbrev jl:Stmt:=inClass (top 14) 6
abbrev xeP:Stmt:=inClass (top 14) 8
abbrev xcS:Stmt:=inClass (top 15) 0
abbrev xbX:Stmt:=inClass (top 15) 1
abbrev xbb:Stmt:=inClass (top 15) 2
abbrev xbc:Stmt:=inClass (top 15) 3
abbrev jO:Stmt:=inClass (top 15) 4
abbrev xfY:Stmt:=inClass (top 15) 6
abbrev xfa:Stmt:=top 16
abbrev xbd:Stmt:=top 17
abbrev xbY:Stmt:=top 18
abbrev xbZ:Stmt:=top 19
abbrev xdQ:Stmt:=top 20
abbrev jm:Stmt:=top 21
abbrev xcT:Stmt:=top 22
abbrev xb0:Stmt:=top 24
abbrev xgN:Stmt:=top 25
abbrev vY:Stmt:=top 26
abbrev jn:Stmt:=top 27
abbrev jo:Stmt:=top 28
abbrev zY:Stmt:=top 29
abbrev xgO:Stmt:=top 32
abbrev jP:Stmt:=top 33
abbrev xb1:Stmt:=top 34
abbrev vA:Stmt:=top 35
abbrev vZ:Stmt:=top 36
abbrev jq:Stmt:=top 37
abbrev xdR:Stmt:=top 38
abbrev xb2:Stmt:=top 39
abbrev xcU:Stmt:=inClass (top 41) 0
abbrev ja:Stmt:=inClass (top 41) 1
abbrev zZ:Stmt:=inClass (top 41) 2
abbrev zM:Stmt:=inClass (top 42) 0
abbrev xbe:Stmt:=inClass (top 42) 1
abbrev zt:Stmt:=inClass (top 42) 2
abbrev xbf:Stmt:=inClass (top 42) 3
abbrev xar:Stmt:=inClass (top 42) 4
abbrev xas:Stmt:=inClass (top 42) 5
abbrev xbg:Stmt:=inClass (top 42) 6
abbrev zC:Stmt:=inClass (top 42) 8
abbrev yI:Stmt:=inClass (top 42) 9
abbrev zN:Stmt:=inClass (top 44) 0
abbrev xat:Stmt:=inClass (top 44) 1
abbrev yN:Stmt:=inClass (top 44) 2
abbrev zi:Stmt:=inClass (top 44) 3
abbrev yF:Stmt:=inClass (top 44) 4
abbrev xbh:Stmt:=inClass (top 44) 5
abbrev xbi:Stmt:=inClass (top 44) 6
abbrev vc:Stmt:=inClass (top 44) 7
abbrev uA:Stmt:=inClass (top 44) 8
abbrev uB:Stmt:=inClass (top 44) 9
abbrev ua:Stmt:=inClass (top 44) 10
abbrev uC:Stmt:=inClass (top 44) 11
abbrev ub:Stmt:=inClass (top 44) 12
abbrev vB:Stmt:=inClass (top 44) 13
abbrev zc:Stmt:=inClass (top 44) 14
abbrev uD:Stmt:=inClass (top 44) 15
abbrev xdS:Stmt:=top 45
abbrev xdT:Stmt:=top 47
abbrev xgP:Stmt:=top 48
abbrev xiQ:Stmt:=top 49
abbrev xb3:Stmt:=top 50
abbrev xgQ:Stmt:=top 51
abbrev xgR:Stmt:=top 52
abbrev xgS:Stmt:=top 53
abbrev xdU:Stmt:=top 54
abbrev xgT:Stmt:=top 55
abbrev xgU:Stmt:=top 56
abbrev s_update:Stmt:=top 57
abbrev xls:Stmt:=top 58
abbrev xgV:Stmt:=top 59
abbrev xey:Stmt:=top 60
abbrev q1k:Addr:=418
abbrev yG:Addr:=414
def zb:List (Pos×Str):=[(⟨166,45,166,70⟩,"do_piece.<locals>.<lambda>")]
abbrev q0R:Addr:=536
abbrev yp:Addr:=532
def yA:List (Pos×Str):=[(⟨261,50,261,69⟩,"Store.write.<locals>.<lambda>")]
abbrev q0v:Addr:=583
abbrev xV:Addr:=579
def yj:List (Pos×Str):=[(⟨284,52,284,70⟩,"Store.note_down.<locals>.<lambda>")]
abbrev q0J:Addr:=619
abbrev yO:Addr:=615
def uO:List (Pos×Str):=[(⟨307,32,307,78⟩,"Board.update.<locals>.<lambda>")]
abbrev q08:Addr:=626
abbrev zj:Addr:=622
def vO:List (Pos×Str):=[(⟨314,25,314,54⟩,"Board.fine.<locals>.<lambda>")]
abbrev q0G:Addr:=633
abbrev yH:Addr:=629
def uc:List (Pos×Str):=[(⟨321,25,321,76⟩,"Board.go_back.<locals>.<lambda>")]
abbrev q0K:Addr:=703
abbrev yB:Addr:=699
def zw:List (Pos×Str):=[(⟨388,45,388,63⟩,"Board.change.<locals>.<lambda>")]
set_option genInjectivity false in
set_option genSizeOf false in
set_option genSizeOfSpec false in
structure Adr where
 q3h:Addr
 xdf:aj
 q1A:Addr
 xau:aj
 q2o:Addr
 xcV:aj
 q09:Addr
 xbj:aj
 q0S:Addr
 xav:aj
 q15:Addr
 xb4:aj
 q1N:Addr
 xbk:aj
 q1O:Addr
 xbl:aj
 q1B:Addr
 xaw:aj
 q1C:Addr
 xax:aj
 q0M:Addr
 vC:aj
 q02:Addr
 jr:aj
 q3X:Addr
 xeQ:aj
 q2p:Addr
 xcW:aj
 q16:Addr
 xb6:aj
 q1P:Addr
 xbm:aj
 q1Q:Addr
 xbn:aj
 q1g:Addr
 jQ:aj
 q4h:Addr
 xfZ:aj
 q32:Addr
 xfb:aj
 q2c:Addr
 xbo:aj
 q2w:Addr
 xb7:aj
 q2x:Addr
 xb8:aj
 q3t:Addr
 xdV:aj
 q1l:Addr
 jt:aj
 q25:Addr
 xcX:aj
 q2y:Addr
 xb9:aj
 q4x:Addr
 xgW:aj
 q1b:Addr
 jb:aj
 q1m:Addr
 ju:aj
 q1n:Addr
 jv:aj
 q2q:Addr
 xaQ:aj
 q4y:Addr
 xgX:aj
 q1I:Addr
 jR:aj
 q2z:Addr
 xca:aj
 q00:Addr
 vE:aj
 q1c:Addr
 jc:aj
 q1o:Addr
 jw:aj
 q3u:Addr
 xdW:aj
 q2A:Addr
 xcb:aj
 q2r:Addr
 xcY:aj
 q0Q:Addr
 jd:aj
 q0w:Addr
 ud:aj
 q1p:Addr
 jx:aj
 q1R:Addr
 xbp:aj
 q1a:Addr
 vP:aj
 q1S:Addr
 xbq:aj
 q1D:Addr
 xay:aj
 q1E:Addr
 xaz:aj
 q1T:Addr
 xbr:aj
 q0t:Addr
 zD:aj
 q0E:Addr
 zF:aj
 q1q:Addr
 jy:aj
 q1F:Addr
 xaA:aj
 q0U:Addr
 vn:aj
 q1r:Addr
 jz:aj
 q0P:Addr
 uP:aj
 q1U:Addr
 xbs:aj
 q1V:Addr
 xbt:aj
 q0H:Addr
 vd:aj
 q0A:Addr
 uE:aj
 q0B:Addr
 uF:aj
 q0x:Addr
 ue:aj
 q0C:Addr
 uG:aj
 q0y:Addr
 uf:aj
 q0N:Addr
 vF:aj
 q0V:Addr
 vo:aj
 q0D:Addr
 uH:aj
 q3v:Addr
 xdX:aj
 q3w:Addr
 xdY:aj
 q4z:Addr
 xgY:aj
 q5i:Addr
 xiR:aj
 q2B:Addr
 xcc:aj
 q4A:Addr
 xgZ:aj
 q4B:Addr
 xg0:aj
 q4C:Addr
 xg1:aj
 q3x:Addr
 xdZ:aj
 q4D:Addr
 xg2:aj
 q4E:Addr
 xg3:aj
 q33:Addr
 xfc:aj
 q5A:Addr
 xlt:aj
 q4F:Addr
 xg4:aj
 q5s:Addr
 xlu:aj
 q26:Addr
 q0h:Addr
 q0k:Addr
 q0s:Addr
 q0j:Addr
 q0d:Addr
 q0i:Addr
 q0I:Addr
 q0b:Addr
 q03:Addr
 q0g:Addr
 q0a:Addr
 q0e:Addr
 q0p:Addr
 q0f:Addr
 q5V:Tok
structure Txt(K:ag)(mg:Str→Option Value)(a:Adr):Prop where
 q3i:Fun K "__init__" "Fallen.__init__" xde a.q3h a.xdf
 xpI:Binds K a.xdf ["self","count"] []
 q2g:Fun K "__init__" "Faulty.__init__" xan a.q1A a.xau
 xhZ:Binds K a.xau ["self","fault"] []
 q3L:Fun K "__init__" "Row.__init__" xcR a.q2o a.xcV
 xf0:Binds K a.xcV ["self","to"] []
 q2J:Fun K "covers" "Row.covers" xa8 a.q09 a.xbj
 xd0:Binds K a.xbj ["self"] []
 q2h:Fun K "covered" "Row.covered" xao a.q0S a.xav
 yW:Binds K a.xav ["self"] []
 q3l:Fun K "__init__" "Take.__init__" xbW a.q15 a.xb4
 xjT:Binds K a.xb4 ["self","to","start","count"] []
 q2K:Fun K "stays" "Take.stays" xa9 a.q1N a.xbk
 xbu:Binds K a.xbk ["self"] []
 q2L:Fun K "reads" "Take.reads" xba a.q1O a.xbl
 xiS:Binds K a.xbl ["self"] []
 q2i:Fun K "writes" "Take.writes" xap a.q1B a.xaw
 xh0:Binds K a.xaw ["self"] []
 q2j:Fun K "pieces" "Take.pieces" xaq a.q1C a.xax
 xh1:Binds K a.xax ["self"] []
 q1y:Fun K "source_for" "Take.source_for" vz a.q0M a.vC
 xaG:Binds K a.vC ["self","cell"] []
 q1Y:Fun K "sign_for" "Take.sign_for" jl a.q02 a.jr
 xf1:Binds K a.jr ["self","cell","read"] []
 q3Y:Fun K "told" "Take.told" xeP a.q3X a.xeQ
 xqD:Binds K a.xeQ ["self"] []
 q3M:Fun K "__init__" "Put.__init__" xcS a.q2p a.xcW
 xlv:Binds K a.xcW ["self","to","signs"] []
 q3m:Fun K "reads" "Put.reads" xbX a.q16 a.xb6
 xjU:Binds K a.xb6 ["self"] []
 q2M:Fun K "writes" "Put.writes" xbb a.q1P a.xbm
 xiT:Binds K a.xbm ["self"] []
 q2N:Fun K "pieces" "Put.pieces" xbc a.q1Q a.xbn
 xiU:Binds K a.xbn ["self"] []
 q19:Fun K "sign_for" "Put.sign_for" jO a.q1g a.jQ
 xg5:Binds K a.jQ ["self","cell","read"] []
 q4i:Fun K "told" "Put.told" xfY a.q4h a.xfZ
 xrf:Binds K a.xfZ ["self"] []
 q10:Fun K "row_of" "row_of" xfa a.q32 a.xfb
 jS:Binds K a.xfb ["told"] []
 jT:mg "row_of"=some (.ref a.q32)
 q2d:Fun K "tells_take" "tells_take" xbd a.q2c a.xbo
 xiV:Binds K a.xbo ["told"] []
 xiW:mg "tells_take"=some (.ref a.q2c)
 q2C:Fun K "tells_put" "tells_put" xbY a.q2w a.xb7
 xjV:Binds K a.xb7 ["told"] []
 xjW:mg "tells_put"=some (.ref a.q2w)
 q2D:Fun K "are_signs" "are_signs" xbZ a.q2x a.xb8
 xjX:Binds K a.xb8 ["signs"] []
 xjY:mg "are_signs"=some (.ref a.q2x)
 q3y:Fun K "is_sign" "is_sign" xdQ a.q3t a.xdV
 xmz:Binds K a.xdV ["value"] []
 xmA:mg "is_sign"=some (.ref a.q3t)
 q0z:Fun K "is_whole_from" "is_whole_from" jm a.q1l a.jt
 zx:Binds K a.jt ["least","value"] []
 zy:mg "is_whole_from"=some (.ref a.q1l)
 q2s:Fun K "is_whole" "is_whole" xcT a.q25 a.xcX
 xf2:Binds K a.xcX ["value"] []
 xf3:mg "is_whole"=some (.ref a.q25)
 q2E:Fun K "pieces_of" "pieces_of" xb0 a.q2y a.xb9
 xjZ:Binds K a.xb9 ["paper"] []
 xj0:mg "pieces_of"=some (.ref a.q2y)
 q4G:Fun K "go_on" "go_on" xgN a.q4x a.xgW
 xpd:Binds K a.xgW ["store","paper"] []
 xpe:mg "go_on"=some (.ref a.q4x)
 q1d:Fun K "refuse_lengths" "refuse_lengths" vY a.q1b a.jb
 xfd:Binds K a.jb ["size","paper"] []
 xfe:mg "refuse_lengths"=some (.ref a.q1b)
 q1s:Fun K "refuse_beyond" "refuse_beyond" jn a.q1m a.ju
 xf4:Binds K a.ju ["size","pieces"] []
 xf5:mg "refuse_beyond"=some (.ref a.q1m)
 q1t:Fun K "places_needed" "places_needed" jo a.q1n a.jv
 xf6:Binds K a.jv ["row","cells"] []
 xf7:mg "places_needed"=some (.ref a.q1n)
 jA:Fun K "do_piece" "do_piece" zY a.q2q a.xaQ
 xlw:Binds K a.xaQ ["store","row","cells"] []
 xlx:mg "do_piece"=some (.ref a.q2q)
 q4X:uz K q1k yG
 xj1:a.xaQ.code= .ref q1k
 q4H:Fun K "judge" "judge" xgO a.q4y a.xgX
 xpf:Binds K a.xgX ["paper"] []
 xpg:mg "judge"=some (.ref a.q4y)
 q1J:Fun K "fits_in_size" "fits_in_size" jP a.q1I a.jR
 xg6:Binds K a.jR ["paper"] []
 xg7:mg "fits_in_size"=some (.ref a.q1I)
 q17:Fun K "is_length" "is_length" xb1 a.q2z a.xca
 xeR:Binds K a.xca ["value"] []
 xeS:mg "is_length"=some (.ref a.q2z)
 q01:Fun K "first_wrong_row" "first_wrong_row" vA a.q00 a.vE
 xeF:Binds K a.vE ["paper"] []
 xeG:mg "first_wrong_row"=some (.ref a.q00)
 q1e:Fun K "is_fitting_row" "is_fitting_row" vZ a.q1c a.jc
 xff:Binds K a.jc ["told","old","new"] []
 xfg:mg "is_fitting_row"=some (.ref a.q1c)
 q1u:Fun K "covered_twice" "covered_twice" jq a.q1o a.jw
 xf8:Binds K a.jw ["rows"] []
 xf9:mg "covered_twice"=some (.ref a.q1o)
 q3z:Fun K "lacking" "lacking" xdR a.q3u a.xdW
 xmB:Binds K a.xdW ["rows","new"] []
 xmC:mg "lacking"=some (.ref a.q3u)
 q2F:Fun K "read_late" "read_late" xb2 a.q2A a.xcb
 xj2:Binds K a.xcb ["rows"] []
 xj3:mg "read_late"=some (.ref a.q2A)
 q3N:Fun K "__init__" "Pen.__init__" xcU a.q2r a.xcY
 xga:Binds K a.xcY ["self","fall"] []
 q1K:Fun K "write_into" "Pen.write_into" ja a.q0Q a.jd
 je:Binds K a.jd ["self","kept","at","value","torn"] []
 q0W:Fun K "answer_of_fall" "Pen.answer_of_fall" zZ a.q0w a.ud
 xcZ:Binds K a.ud ["self","count"] []
 ve:xcL K "__init__" "Store.__init__" zM a.q1p a.jx [.none]
 xaB:Binds K a.jx ["self","cells","fall"] [.none]
 xd1:Binds K a.jx ["self","cells","fall"] []
 q2O:Fun K "read" "Store.read" xbe a.q1R a.xbp
 xiX:Binds K a.xbp ["self","at"] []
 vQ:Fun K "write" "Store.write" zt a.q1a a.vP
 xh2:Binds K a.vP ["self","at","sign"] []
 q4I:uz K q0R yp
 xg8:a.vP.code= .ref q0R
 q2P:Fun K "mark" "Store.mark" xbf a.q1S a.xbq
 xiY:Binds K a.xbq ["self","number"] []
 q2k:Fun K "noted" "Store.noted" xar a.q1D a.xay
 xh3:Binds K a.xay ["self"] []
 q2l:Fun K "begin" "Store.begin" xas a.q1E a.xaz
 xh4:Binds K a.xaz ["self"] []
 q2Q:Fun K "told" "Store.told" xbg a.q1T a.xbr
 xd2:Binds K a.xbr ["self"] []
 q0L:Fun K "refuse_lacking" "Store.refuse_lacking" zC a.q0t a.zD
 vJ:Binds K a.zD ["self","at"] []
 zG:Fun K "note_down" "Store.note_down" yI a.q0E a.zF
 vG:Binds K a.zF ["self","at","number"] []
 q3A:uz K q0v xV
 xd3:a.zF.code= .ref q0v
 vf:xcL K "__init__" "Board.__init__" zN a.q1q a.jy [.none]
 vR:Binds K a.jy ["self","text","size","fall"] [.none]
 xd4:Binds K a.jy ["self","text","size","fall"] []
 q2m:Fun K "start" "Board.start" xat a.q1F a.xaA
 xh5:Binds K a.xaA ["self"] []
 vp:Fun K "update" "Board.update" yN a.q0U a.vn
 xg9:Binds K a.vn ["self","paper","total","tries"] []
 q4j:uz K q0J yO
 xgb:a.vn.code= .ref q0J
 jB:Fun K "fine" "Board.fine" zi a.q1r a.jz
 xiZ:Binds K a.jz ["self"] []
 q45:uz K q08 zj
 xh6:a.jz.code= .ref q08
 uQ:Fun K "go_back" "Board.go_back" yF a.q0P a.uP
 xgc:Binds K a.uP ["self"] []
 q34:uz K q0G yH
 xfh:a.uP.code= .ref q0G
 q2R:Fun K "text" "Board.text" xbh a.q1U a.xbs
 xbv:Binds K a.xbs ["self","bank"] []
 q2S:Fun K "told" "Board.told" xbi a.q1V a.xbt
 xi0:Binds K a.xbt ["self"] []
 q1h:Fun K "other_bank" "Board.other_bank" vc a.q0H a.vd
 yR:Binds K a.vd ["self"] []
 q04:Fun K "bank_to_run" "Board.bank_to_run" uA a.q0A a.uE
 xdy:Binds K a.uE ["self"] []
 q05:Fun K "refuse_down" "Board.refuse_down" uB a.q0B a.uF
 uI:Binds K a.uF ["self"] []
 q0X:Fun K "refuse_paper" "Board.refuse_paper" ua a.q0x a.ue
 xc0:Binds K a.ue ["self","paper"] []
 q06:Fun K "holds_elder" "Board.holds_elder" uC a.q0C a.uG
 xdz:Binds K a.uG ["self","bank","old"] []
 q0Y:Fun K "put_on_trial" "Board.put_on_trial" ub a.q0y a.uf
 xc1:Binds K a.uf ["self","paper","total","tries"] []
 q1z:Fun K "make_good" "Board.make_good" vB a.q0N a.vF
 xeH:Binds K a.vF ["self","bank"] []
 vq:Fun K "change" "Board.change" zc a.q0V a.vo
 yq:Binds K a.vo ["self","kept","at","value"] []
 q4k:uz K q0K yB
 xgd:a.vo.code= .ref q0K
 q07:Fun K "run_or_fall" "Board.run_or_fall" uD a.q0D a.uH
 uJ:Binds K a.uH ["self","deed"] []
 q23:Fun K "bank_of" "bank_of" xdS a.q3v a.xdX
 xhI:Binds K a.xdX ["cells","pen"] []
 xhJ:mg "bank_of"=some (.ref a.q3v)
 q2t:Fun K "_law_cell_at" "_law_cell_at" xdT a.q3w a.xdY
 xd5:Binds K a.xdY ["_law_script","_law_k"] []
 xd6:mg "_law_cell_at"=some (.ref a.q3w)
 q1L:Fun K "_law_mixed" "_law_mixed" xgP a.q4z a.xgY
 vt:Binds K a.xgY ["_law_cell","_law_k"] []
 vw:mg "_law_mixed"=some (.ref a.q4z)
 q41:Fun K "_law_text" "_law_text" xiQ a.q5i a.xiR
 xmD:Binds K a.xiR ["_law_cell","_law_size"] []
 xmE:mg "_law_text"=some (.ref a.q5i)
 q2G:Fun K "_law_new_paper" "_law_new_paper" xb3 a.q2B a.xcc
 xj4:Binds K a.xcc ["_law_old","_law_cell"] []
 xj5:mg "_law_new_paper"=some (.ref a.q2B)
 q4e:Fun K "_law_meant" "_law_meant" xgQ a.q4A a.xgZ
 xkx:Binds K a.xgZ ["_law_paper_here","_law_elder"] []
 xky:mg "_law_meant"=some (.ref a.q4A)
 q4f:Fun K "_law_kinds" "_law_kinds" xgR a.q4B a.xg0
 xkz:Binds K a.xg0 ["_law_e"] []
 xkA:mg "_law_kinds"=some (.ref a.q4B)
 q4J:Fun K "_law_asked" "_law_asked" xgS a.q4C a.xg1
 xph:Binds K a.xg1 ["_law_board","_law_deed","_law_paper_here","_law_total","_law_tries"] []
 xpi:mg "_law_asked"=some (.ref a.q4C)
 q1i:Fun K "_law_refusal" "_law_refusal" xdU a.q3x a.xdZ
 vg:Binds K a.xdZ ["_law_which","_law_fault"] []
 vh:mg "_law_refusal"=some (.ref a.q3x)
 q4K:Fun K "_law_start" "_law_start" xgT a.q4D a.xg2
 xpj:Binds K a.xg2 ["_law_stand"] []
 xpk:mg "_law_start"=some (.ref a.q4D)
 q4g:Fun K "_law_unfit" "_law_unfit" xgU a.q4E a.xg3
 xkB:Binds K a.xg3 ["_law_stand","_law_paper_here","_law_size"] []
 xkC:mg "_law_unfit"=some (.ref a.q4E)
 q35:Fun K "_law_update" "_law_update" s_update a.q33 a.xfc
 xnE:Binds K a.xfc ["_law_stand","_law_paper_here","_law_fault","_law_size","_law_total","_law_tries"] []
 xnF:mg "_law_update"=some (.ref a.q33)
 q5B:Fun K "_law_due" "_law_due" xls a.q5A a.xlt
 xrg:Binds K a.xlt ["_law_stand","_law_deed","_law_paper_here","_law_fault","_law_size","_law_total","_law_tries"] []
 xrh:mg "_law_due"=some (.ref a.q5A)
 q4L:Fun K "_law_paper" "_law_paper" xgV a.q4F a.xg4
 xpl:Binds K a.xg4 ["_law_stand","_law_cell","_law_size"] []
 xpm:mg "_law_paper"=some (.ref a.q4F)
 xis:Fun K "law" "law" xey a.q5s a.xlu
 xrU:Binds K a.xlu ["_law_script"] []
 xot:mg "Row"=some (.ref a.q26)
 q7h:Cls K a.q26
 q5I:xJ K a.q26 "count"
 q6g:xJ K a.q26 "to"
 xi1:mg "Take"=some (.ref a.q0h)
 q0l:Cls K a.q0h
 q0T:xJ K a.q0h "count"
 q0F:xJ K a.q0h "source"
 q0Z:xJ K a.q0h "to"
 q54:Mk K a.q0h a.q15
 xri:mg "Put"=some (.ref a.q0k)
 q1G:Cls K a.q0k
 q1W:xJ K a.q0k "count"
 q3B:xJ K a.q0k "signs"
 q24:xJ K a.q0k "to"
 q6o:Mk K a.q0k a.q2p
 xou:mg "Pen"=some (.ref a.q0s)
 q3Z:Cls K a.q0s
 q2T:xJ K a.q0s "asked"
 q4Y:xJ K a.q0s "fall"
 q5W:Mk K a.q0s a.q2r
 xpn:mg "Store"=some (.ref a.q0j)
 q0r:Cls K a.q0j
 q1M:xJ K a.q0j "cells"
 q2a:xJ K a.q0j "notes"
 q2e:xJ K a.q0j "pen"
 q5R:Mk K a.q0j a.q1p
 xkD:mg "Board"=some (.ref a.q0d)
 q0c:Cls K a.q0d
 q2U:xJ K a.q0d "banks"
 q1f:xJ K a.q0d "lengths"
 q0n:xJ K a.q0d "marks"
 q2V:xJ K a.q0d "pen"
 q0m:xJ K a.q0d "running"
 q0o:xJ K a.q0d "settings"
 q30:xJ K a.q0d "size"
 q5C:Mk K a.q0d a.q1q
 xmF:mg "Down"=some (.ref a.q0i)
 xrN:mg "Fallen"=some (.ref a.q0I)
 xfi:mg "Faulty"=some (.ref a.q0b)
 xrT:mg "NoRow"=some (.ref a.q03)
 xhK:mg "NoTrial"=some (.ref a.q0g)
 xeT:mg "NoWayBack"=some (.ref a.q0a)
 xhL:mg "OnTrial"=some (.ref a.q0e)
 xj6:mg "RoomError"=some (.ref a.q0p)
 xcn:mg "Unfit"=some (.ref a.q0f)
 q6p:xcO K a.q0i
 q5x:aF K (.ref a.q0i) (.ref a.q0I)=some false
 q2W:aF K (.ref a.q0i) (.ref a.q0b)=some false
 q5E:aF K (.ref a.q0i) (.ref a.q03)=some false
 q11:aF K (.ref a.q0i) (.ref a.q0p)=some true
 q5F:aF K (.ref a.q0i) (.ref a.q0f)=some false
 q3C:aw K (.ref a.q0i) (.type "ValueError")=some true
 q3O:va K a.q0i
 q42:xcQ K a.q0b a.q1A
 xmG:fW K a.q0b=true
 q3s:xJ K a.q0b "fault"
 q5j:aF K (.ref a.q0b) (.ref a.q0I)=some false
 q36:aF K (.ref a.q0b) (.ref a.q0b)=some true
 q5t:aF K (.ref a.q0b) (.ref a.q03)=some false
 q4v:aF K (.ref a.q0b) (.ref a.q0p)=some true
 q5u:aF K (.ref a.q0b) (.ref a.q0f)=some false
 q27:aw K (.ref a.q0b) (.type "ValueError")=some true
 q18:va K a.q0b
 q5J:xcO K a.q0g
 q5g:aF K (.ref a.q0g) (.ref a.q0I)=some false
 q3P:aF K (.ref a.q0g) (.ref a.q0b)=some false
 q5k:aF K (.ref a.q0g) (.ref a.q03)=some false
 q28:aF K (.ref a.q0g) (.ref a.q0p)=some true
 q5l:aF K (.ref a.q0g) (.ref a.q0f)=some false
 q2X:aw K (.ref a.q0g) (.type "ValueError")=some true
 q13:va K a.q0g
 q5w:xcO K a.q0a
 q4w:aF K (.ref a.q0a) (.ref a.q0I)=some false
 q3o:aF K (.ref a.q0a) (.ref a.q0b)=some false
 q43:aF K (.ref a.q0a) (.ref a.q03)=some false
 q2H:aF K (.ref a.q0a) (.ref a.q0p)=some true
 q44:aF K (.ref a.q0a) (.ref a.q0f)=some false
 q2f:aw K (.ref a.q0a) (.type "ValueError")=some true
 q1v:va K a.q0a
 q5K:xcO K a.q0e
 q5h:aF K (.ref a.q0e) (.ref a.q0I)=some false
 q3Q:aF K (.ref a.q0e) (.ref a.q0b)=some false
 q5m:aF K (.ref a.q0e) (.ref a.q03)=some false
 q29:aF K (.ref a.q0e) (.ref a.q0p)=some true
 q5n:aF K (.ref a.q0e) (.ref a.q0f)=some false
 q2Y:aw K (.ref a.q0e) (.type "ValueError")=some true
 q14:va K a.q0e
 q5y:xcO K a.q0f
 q5v:aF K (.ref a.q0f) (.ref a.q0I)=some false
 q4l:aF K (.ref a.q0f) (.ref a.q0b)=some false
 q5z:aF K (.ref a.q0f) (.ref a.q03)=some false
 q3D:aF K (.ref a.q0f) (.ref a.q0p)=some true
 q4M:aF K (.ref a.q0f) (.ref a.q0f)=some true
 q3p:aw K (.ref a.q0f) (.type "ValueError")=some true
 q3a:va K a.q0f
 q6h:xa7 K a.q0I
 q5L:xa7 K a.q0b
 q6q:xa7 K a.q03
 q5o:xa7 K a.q0p
 q5S:xa7 K a.q0f
 xmH:∀{H:Hp} {o dx:Addr} {fs:List (Str×V)},H o=some (.ins a.q0k dx fs)→zA K H (.ref o) (.ref a.q0k)
 xkE:∀{H:Hp} {o dx:Addr} {fs:List (Str×V)},H o=some (.ins a.q0h dx fs)→zA K H (.ref o) (.ref a.q0h)
 q5p:aw K (.ref a.q0i) (.ref a.q0i)=some true
 q4N:aw K (.ref a.q0i) (.ref a.q0b)=some false
 q4m:aw K (.ref a.q0i) (.ref a.q0g)=some false
 q3R:aw K (.ref a.q0i) (.ref a.q0a)=some false
 q4n:aw K (.ref a.q0i) (.ref a.q0e)=some false
 q46:aw K (.ref a.q0i) (.ref a.q0f)=some false
 q4O:aw K (.ref a.q0b) (.ref a.q0i)=some false
 q37:aw K (.ref a.q0b) (.ref a.q0b)=some true
 q3S:aw K (.ref a.q0b) (.ref a.q0g)=some false
 q3q:aw K (.ref a.q0b) (.ref a.q0a)=some false
 q3T:aw K (.ref a.q0b) (.ref a.q0e)=some false
 q4o:aw K (.ref a.q0b) (.ref a.q0f)=some false
 q4p:aw K (.ref a.q0g) (.ref a.q0i)=some false
 q3U:aw K (.ref a.q0g) (.ref a.q0b)=some false
 q3E:aw K (.ref a.q0g) (.ref a.q0g)=some true
 q3b:aw K (.ref a.q0g) (.ref a.q0a)=some false
 q3F:aw K (.ref a.q0g) (.ref a.q0e)=some false
 q38:aw K (.ref a.q0g) (.ref a.q0f)=some false
 q3V:aw K (.ref a.q0a) (.ref a.q0i)=some false
 q3r:aw K (.ref a.q0a) (.ref a.q0b)=some false
 q3c:aw K (.ref a.q0a) (.ref a.q0g)=some false
 q2I:aw K (.ref a.q0a) (.ref a.q0a)=some true
 q3d:aw K (.ref a.q0a) (.ref a.q0e)=some false
 q3G:aw K (.ref a.q0a) (.ref a.q0f)=some false
 q4q:aw K (.ref a.q0e) (.ref a.q0i)=some false
 q3W:aw K (.ref a.q0e) (.ref a.q0b)=some false
 q3H:aw K (.ref a.q0e) (.ref a.q0g)=some false
 q3e:aw K (.ref a.q0e) (.ref a.q0a)=some false
 q3I:aw K (.ref a.q0e) (.ref a.q0e)=some true
 q39:aw K (.ref a.q0e) (.ref a.q0f)=some false
 q4Z:aw K (.ref a.q0k) (.ref a.q0h)=some false
 q4r:aw K (.ref a.q0h) (.ref a.q0h)=some true
 q47:aw K (.ref a.q0f) (.ref a.q0i)=some false
 q4s:aw K (.ref a.q0f) (.ref a.q0b)=some false
 q4a:aw K (.ref a.q0f) (.ref a.q0g)=some false
 q3J:aw K (.ref a.q0f) (.ref a.q0a)=some false
 q4b:aw K (.ref a.q0f) (.ref a.q0e)=some false
 q4P:aw K (.ref a.q0f) (.ref a.q0f)=some true
 xmI:mg "MOST"=some (.int 300 a.q5V)
 q3f:Meth K a.q0d "bank_to_run" a.q0A
 q0u:Meth K a.q0d "change" a.q0V
 q48:Meth K a.q0d "fine" a.q1r
 q4c:Meth K a.q0d "go_back" a.q0P
 q3g:Meth K a.q0d "holds_elder" a.q0C
 q3K:Meth K a.q0d "make_good" a.q0N
 q0O:Meth K a.q0d "other_bank" a.q0H
 q2Z:Meth K a.q0d "put_on_trial" a.q0y
 q1w:Meth K a.q0d "refuse_down" a.q0B
 q20:Meth K a.q0d "refuse_paper" a.q0x
 q1x:Meth K a.q0d "run_or_fall" a.q0D
 q4Q:Meth K a.q0d "start" a.q1F
 q3j:Meth K a.q0d "text" a.q1U
 q49:Meth K a.q0d "told" a.q1V
 q4t:Meth K a.q0d "update" a.q0U
 q21:Meth K a.q0s "answer_of_fall" a.q0w
 q12:Meth K a.q0s "write_into" a.q0Q
 q2b:Meth K a.q0k "covered" a.q0S
 q5a:Meth K a.q0k "covers" a.q09
 q5b:Meth K a.q0k "pieces" a.q1Q
 q5q:Meth K a.q0k "reads" a.q16
 q4u:Meth K a.q0k "sign_for" a.q1g
 q5c:Meth K a.q0k "writes" a.q1P
 q4R:Meth K a.q0j "begin" a.q1E
 q5d:Meth K a.q0j "mark" a.q1S
 q1X:Meth K a.q0j "note_down" a.q0E
 q4S:Meth K a.q0j "noted" a.q1D
 q5e:Meth K a.q0j "read" a.q1R
 q1H:Meth K a.q0j "refuse_lacking" a.q0t
 q31:Meth K a.q0j "told" a.q1T
 q4T:Meth K a.q0j "write" a.q1a
 q2u:Meth K a.q0h "covered" a.q0S
 q4U:Meth K a.q0h "covers" a.q09
 q4V:Meth K a.q0h "pieces" a.q1C
 q5f:Meth K a.q0h "reads" a.q1O
 q4d:Meth K a.q0h "sign_for" a.q02
 q2v:Meth K a.q0h "source_for" a.q0M
 q3k:Meth K a.q0h "stays" a.q1N
 q4W:Meth K a.q0h "writes" a.q1B
 q40:xnr K a.q26 "__init__" a.q2o
 q5r:mg "ValueError"=none
 q6K:mg "abs"=none
 q6L:mg "all"=none
 q6r:mg "bool"=none
 q3n:mg "enumerate"=none
 q5M:mg "int"=none
 q0q:mg "isinstance"=none
 q1Z:mg "len"=none
 q22:mg "list"=none
 q5D:mg "max"=none
 q5N:mg "min"=none
 q1j:mg "range"=none
 q5X:mg "sum"=none
 q2n:mg "tuple"=none
theorem xco:xv ["self","fault"] ["self","fault"] (xp xan):=⟨rfl,rfl,rfl,by decide+kernel,rfl,by decide+kernel,by decide+kernel⟩
theorem xeU:xv ["self","to"] ["self","to"] (xp xcR):=⟨rfl,rfl,rfl,by decide+kernel,rfl,by decide+kernel,by decide+kernel⟩
theorem xdg:xv ["self"] ["self"] (xp xa8):=⟨rfl,rfl,rfl,by decide+kernel,rfl,by decide+kernel,by decide+kernel⟩
theorem xcp:xv ["self"] ["self"] (xp xao):=⟨rfl,rfl,rfl,by decide+kernel,rfl,by decide+kernel,by decide+kernel⟩
theorem xd7:xv ["self","to","start","count"] ["self","to","start","count"] (xp xbW):=⟨rfl,rfl,rfl,by decide+kernel,rfl,by decide+kernel,by decide+kernel⟩
theorem xdh:xv ["self"] ["self"] (xp xa9):=⟨rfl,rfl,rfl,by decide+kernel,rfl,by decide+kernel,by decide+kernel⟩
theorem xdi:xv ["self"] ["self"] (xp xba):=⟨rfl,rfl,rfl,by decide+kernel,rfl,by decide+kernel,by decide+kernel⟩
theorem xcq:xv ["self"] ["self"] (xp xap):=⟨rfl,rfl,rfl,by decide+kernel,rfl,by decide+kernel,by decide+kernel⟩
theorem xcr:xv ["self","first","end","step"] ["self"] (xp xaq):=⟨rfl,rfl,rfl,by decide+kernel,rfl,by decide+kernel,by decide+kernel⟩
theorem xae:xv ["self","cell"] ["self","cell"] (xp vz):=⟨rfl,rfl,rfl,by decide+kernel,rfl,by decide+kernel,by decide+kernel⟩
theorem xbw:xv ["self","cell","read"] ["self","cell","read"] (xp jl):=⟨rfl,rfl,rfl,by decide+kernel,rfl,by decide+kernel,by decide+kernel⟩
theorem xeV:xv ["self","to","signs"] ["self","to","signs"] (xp xcS):=⟨rfl,rfl,rfl,by decide+kernel,rfl,by decide+kernel,by decide+kernel⟩
theorem xd8:xv ["self"] ["self"] (xp xbX):=⟨rfl,rfl,rfl,by decide+kernel,rfl,by decide+kernel,by decide+kernel⟩
theorem xdj:xv ["self"] ["self"] (xp xbb):=⟨rfl,rfl,rfl,by decide+kernel,rfl,by decide+kernel,by decide+kernel⟩
theorem xdk:xv ["self"] ["self"] (xp xbc):=⟨rfl,rfl,rfl,by decide+kernel,rfl,by decide+kernel,by decide+kernel⟩
theorem xbL:xv ["self","cell","read"] ["self","cell","read"] (xp jO):=⟨rfl,rfl,rfl,by decide+kernel,rfl,by decide+kernel,by decide+kernel⟩
theorem xhM:xv ["told"] ["told"] (xp xfa):=⟨rfl,rfl,rfl,by decide+kernel,rfl,by decide+kernel,by decide+kernel⟩
theorem xdl:xv ["told"] ["told"] (xp xbd):=⟨rfl,rfl,rfl,by decide+kernel,rfl,by decide+kernel,by decide+kernel⟩
theorem xd9:xv ["told"] ["told"] (xp xbY):=⟨rfl,rfl,rfl,by decide+kernel,rfl,by decide+kernel,by decide+kernel⟩
theorem xea:xv ["signs"] ["signs"] (xp xbZ):=⟨rfl,rfl,rfl,by decide+kernel,rfl,by decide+kernel,by decide+kernel⟩
theorem xge:xv ["value"] ["value"] (xp xdQ):=⟨rfl,rfl,rfl,by decide+kernel,rfl,by decide+kernel,by decide+kernel⟩
theorem xbx:xv ["least","value"] ["least","value"] (xp jm):=⟨rfl,rfl,rfl,by decide+kernel,rfl,by decide+kernel,by decide+kernel⟩
theorem xeW:xv ["value"] ["value"] (xp xcT):=⟨rfl,rfl,rfl,by decide+kernel,rfl,by decide+kernel,by decide+kernel⟩
theorem xeb:xv ["paper","pieces","told"] ["paper"] (xp xb0):=⟨rfl,rfl,rfl,by decide+kernel,rfl,by decide+kernel,by decide+kernel⟩
theorem xi2:xv ["store","paper","size","pieces","first","left","number","piece"] ["store","paper"] (xp xgN):=⟨rfl,rfl,rfl,by decide+kernel,rfl,by decide+kernel,by decide+kernel⟩
theorem xaH:xv ["size","paper","greater"] ["size","paper"] (xp vY):=⟨rfl,rfl,rfl,by decide+kernel,rfl,by decide+kernel,by decide+kernel⟩
theorem xby:xv ["size","pieces","told","cells","at"] ["size","pieces"] (xp jn):=⟨rfl,rfl,rfl,by decide+kernel,rfl,by decide+kernel,by decide+kernel⟩
theorem xbz:xv ["row","cells","places","cell"] ["row","cells"] (xp jo):=⟨rfl,rfl,rfl,by decide+kernel,rfl,by decide+kernel,by decide+kernel⟩
theorem xeX:xv ["store","row","cells","cell"] ["store","row","cells"] (xp zY):=⟨rfl,rfl,rfl,by decide+kernel,rfl,by decide+kernel,by decide+kernel⟩
theorem xi3:xv ["paper","wrong","rows","fault"] ["paper"] (xp xgO):=⟨rfl,rfl,rfl,by decide+kernel,rfl,by decide+kernel,by decide+kernel⟩
theorem xbM:xv ["paper"] ["paper"] (xp jP):=⟨rfl,rfl,rfl,by decide+kernel,rfl,by decide+kernel,by decide+kernel⟩
theorem xec:xv ["value"] ["value"] (xp xb1):=⟨rfl,rfl,rfl,by decide+kernel,rfl,by decide+kernel,by decide+kernel⟩
theorem xaf:xv ["paper","number","told"] ["paper"] (xp vA):=⟨rfl,rfl,rfl,by decide+kernel,rfl,by decide+kernel,by decide+kernel⟩
theorem xaI:xv ["told","old","new","row"] ["told","old","new"] (xp vZ):=⟨rfl,rfl,rfl,by decide+kernel,rfl,by decide+kernel,by decide+kernel⟩
theorem xbA:xv ["rows","covered","number","row","cell"] ["rows"] (xp jq):=⟨rfl,rfl,rfl,by decide+kernel,rfl,by decide+kernel,by decide+kernel⟩
theorem xgf:xv ["rows","new","covered","row","cell"] ["rows","new"] (xp xdR):=⟨rfl,rfl,rfl,by decide+kernel,rfl,by decide+kernel,by decide+kernel⟩
theorem xed:xv ["rows","written","number","row","cell"] ["rows"] (xp xb2):=⟨rfl,rfl,rfl,by decide+kernel,rfl,by decide+kernel,by decide+kernel⟩
theorem xeY:xv ["self","fall"] ["self","fall"] (xp xcU):=⟨rfl,rfl,rfl,by decide+kernel,rfl,by decide+kernel,by decide+kernel⟩
theorem xaJ:xv ["self","kept","at","value","torn","count","answer"] ["self","kept","at","value","torn"] (xp ja):=⟨rfl,rfl,rfl,by decide+kernel,rfl,by decide+kernel,by decide+kernel⟩
theorem jg:xv ["self","count","fall"] ["self","count"] (xp zZ):=⟨rfl,rfl,rfl,by decide+kernel,rfl,by decide+kernel,by decide+kernel⟩
theorem xdm:xv ["self","cells","fall"] ["self","cells","fall"] (xp zM):=⟨rfl,rfl,rfl,by decide+kernel,rfl,by decide+kernel,by decide+kernel⟩
theorem xdn:xv ["self","at"] ["self","at"] (xp xbe):=⟨rfl,rfl,rfl,by decide+kernel,rfl,by decide+kernel,by decide+kernel⟩
theorem xcs:xv ["self","at","sign"] ["self","at","sign"] (xp zt):=⟨rfl,rfl,rfl,by decide+kernel,rfl,by decide+kernel,by decide+kernel⟩
theorem xdo:xv ["self","number"] ["self","number"] (xp xbf):=⟨rfl,rfl,rfl,by decide+kernel,rfl,by decide+kernel,by decide+kernel⟩
theorem xct:xv ["self"] ["self"] (xp xar):=⟨rfl,rfl,rfl,by decide+kernel,rfl,by decide+kernel,by decide+kernel⟩
theorem xcu:xv ["self"] ["self"] (xp xas):=⟨rfl,rfl,rfl,by decide+kernel,rfl,by decide+kernel,by decide+kernel⟩
theorem xdp:xv ["self"] ["self"] (xp xbg):=⟨rfl,rfl,rfl,by decide+kernel,rfl,by decide+kernel,by decide+kernel⟩
theorem vx:xv ["self","at"] ["self","at"] (xp zC):=⟨rfl,rfl,rfl,by decide+kernel,rfl,by decide+kernel,by decide+kernel⟩
theorem xag:xv ["self","at","number"] ["self","at","number"] (xp yI):=⟨rfl,rfl,rfl,by decide+kernel,rfl,by decide+kernel,by decide+kernel⟩
theorem xdq:xv ["self","text","size","fall"] ["self","text","size","fall"] (xp zN):=⟨rfl,rfl,rfl,by decide+kernel,rfl,by decide+kernel,by decide+kernel⟩
theorem xcv:xv ["self"] ["self"] (xp xat):=⟨rfl,rfl,rfl,by decide+kernel,rfl,by decide+kernel,by decide+kernel⟩
theorem xbN:xv ["self","paper","total","tries"] ["self","paper","total","tries"] (xp yN):=⟨rfl,rfl,rfl,by decide+kernel,rfl,by decide+kernel,by decide+kernel⟩
theorem xdr:xv ["self","other"] ["self"] (xp zi):=⟨rfl,rfl,rfl,by decide+kernel,rfl,by decide+kernel,by decide+kernel⟩
theorem xbB:xv ["self","other"] ["self"] (xp yF):=⟨rfl,rfl,rfl,by decide+kernel,rfl,by decide+kernel,by decide+kernel⟩
theorem xds:xv ["self","bank"] ["self","bank"] (xp xbh):=⟨rfl,rfl,rfl,by decide+kernel,rfl,by decide+kernel,by decide+kernel⟩
theorem xdt:xv ["self","marker","counter"] ["self"] (xp xbi):=⟨rfl,rfl,rfl,by decide+kernel,rfl,by decide+kernel,by decide+kernel⟩
theorem jI:xv ["self"] ["self"] (xp vc):=⟨rfl,rfl,rfl,by decide+kernel,rfl,by decide+kernel,by decide+kernel⟩
theorem jC:xv ["self","marked","other","counter"] ["self"] (xp uA):=⟨rfl,rfl,rfl,by decide+kernel,rfl,by decide+kernel,by decide+kernel⟩
theorem jD:xv ["self"] ["self"] (xp uB):=⟨rfl,rfl,rfl,by decide+kernel,rfl,by decide+kernel,by decide+kernel⟩
theorem jh:xv ["self","paper","other","fault"] ["self","paper"] (xp ua):=⟨rfl,rfl,rfl,by decide+kernel,rfl,by decide+kernel,by decide+kernel⟩
theorem jE:xv ["self","bank","old"] ["self","bank","old"] (xp uC):=⟨rfl,rfl,rfl,by decide+kernel,rfl,by decide+kernel,by decide+kernel⟩
theorem ji:xv ["self","paper","total","tries","other","bank"] ["self","paper","total","tries"] (xp ub):=⟨rfl,rfl,rfl,by decide+kernel,rfl,by decide+kernel,by decide+kernel⟩
theorem xah:xv ["self","bank"] ["self","bank"] (xp vB):=⟨rfl,rfl,rfl,by decide+kernel,rfl,by decide+kernel,by decide+kernel⟩
theorem xbO:xv ["self","kept","at","value"] ["self","kept","at","value"] (xp zc):=⟨rfl,rfl,rfl,by decide+kernel,rfl,by decide+kernel,by decide+kernel⟩
theorem jG:xv ["self","deed","fallen"] ["self","deed"] (xp uD):=⟨rfl,rfl,rfl,by decide+kernel,rfl,by decide+kernel,by decide+kernel⟩
theorem xgg:xv ["cells","pen","bank"] ["cells","pen"] (xp xdS):=⟨rfl,rfl,rfl,by decide+kernel,rfl,by decide+kernel,by decide+kernel⟩
theorem xgh:xv ["_law_script","_law_k"] ["_law_script","_law_k"] (xp xdT):=⟨rfl,rfl,rfl,by decide+kernel,rfl,by decide+kernel,by decide+kernel⟩
theorem xi4:xv ["_law_cell","_law_k","_law_number"] ["_law_cell","_law_k"] (xp xgP):=⟨rfl,rfl,rfl,by decide+kernel,rfl,by decide+kernel,by decide+kernel⟩
theorem xkF:xv ["_law_cell","_law_size","_law_sizes"] ["_law_cell","_law_size"] (xp xiQ):=⟨rfl,rfl,rfl,by decide+kernel,rfl,by decide+kernel,by decide+kernel⟩
theorem xee:xv ["_law_old","_law_cell","_law_size","_law_signs","_law_count","_law_rows","_law_start_here","_law_to"] ["_law_old","_law_cell"] (xp xb3):=⟨rfl,rfl,rfl,by decide+kernel,rfl,by decide+kernel,by decide+kernel⟩
theorem xi5:xv ["_law_paper_here","_law_elder","_law_cells","_law_row","_law_j"] ["_law_paper_here","_law_elder"] (xp xgQ):=⟨rfl,rfl,rfl,by decide+kernel,rfl,by decide+kernel,by decide+kernel⟩
theorem xi6:xv ["_law_e","_law_some"] ["_law_e"] (xp xgR):=⟨rfl,rfl,rfl,by decide+kernel,rfl,by decide+kernel,by decide+kernel⟩
theorem xi7:xv ["_law_board","_law_deed","_law_paper_here","_law_total","_law_tries","_law_answer","_law_kinds_here","_law_fault","_law_e"] ["_law_board","_law_deed","_law_paper_here","_law_total","_law_tries"] (xp xgS):=⟨rfl,rfl,rfl,by decide+kernel,rfl,by decide+kernel,by decide+kernel⟩
theorem xgi:xv ["_law_which","_law_fault"] ["_law_which","_law_fault"] (xp xdU):=⟨rfl,rfl,rfl,by decide+kernel,rfl,by decide+kernel,by decide+kernel⟩
theorem xi8:xv ["_law_stand","_law_marker","_law_marks","_law_lengths","_law_tries","_law_running","_law_texts"] ["_law_stand"] (xp xgT):=⟨rfl,rfl,rfl,by decide+kernel,rfl,by decide+kernel,by decide+kernel⟩
theorem xi9:xv ["_law_stand","_law_paper_here","_law_size","_law_other"] ["_law_stand","_law_paper_here","_law_size"] (xp xgU):=⟨rfl,rfl,rfl,by decide+kernel,rfl,by decide+kernel,by decide+kernel⟩
theorem xhN:xv ["_law_stand","_law_paper_here","_law_fault","_law_size","_law_total","_law_tries","_law_marker","_law_marks","_law_lengths","_law_counter","_law_running","_law_texts","_law_newer","_law_good"] ["_law_stand","_law_paper_here","_law_fault","_law_size","_law_total","_law_tries"] (xp s_update):=⟨rfl,rfl,rfl,by decide+kernel,rfl,by decide+kernel,by decide+kernel⟩
theorem xmJ:xv ["_law_stand","_law_deed","_law_paper_here","_law_fault","_law_size","_law_total","_law_tries","_law_marker","_law_marks","_law_lengths","_law_counter","_law_running","_law_texts","_law_bank","_law_behind"] ["_law_stand","_law_deed","_law_paper_here","_law_fault","_law_size","_law_total","_law_tries"] (xp xls):=⟨rfl,rfl,rfl,by decide+kernel,rfl,by decide+kernel,by decide+kernel⟩
theorem xja:xv ["_law_stand","_law_cell","_law_size","_law_other","_law_old","_law_kind"] ["_law_stand","_law_cell","_law_size"] (xp xgV):=⟨rfl,rfl,rfl,by decide+kernel,rfl,by decide+kernel,by decide+kernel⟩
theorem xmK:xv ["_law_script","_law_text_here","_law_size","_law_refused","_law_board","_law_stand","_law_k","_law_draw","_law_deed","_law_paper_here","_law_fault","_law_total","_law_due_here"] ["_law_script"] (xp xey):=⟨rfl,rfl,rfl,by decide+kernel,rfl,by decide+kernel,by decide+kernel⟩
def xbP(to st c:Int):List (Str×V):=[("to",.int to),("count",.int c),("source",.int st)]
def xez(to:Int)(t:Addr)(n:Int):List (Str×V):=[("to",.int to),("count",.int n),("signs",.ref t)]
def yx(lo:Int)(n:Nat):List Int:=(b8 n).map fun(i:Nat)=>lo+(i:Int)
theorem xeA(lo:Int)(n:Nat):xdI lo n=(yx lo n).map V.int:=by simp[xdI,yx,ka]
theorem yu(lo:Int)(n:Nat):(yx lo n).length=n:=by simp[yx]
theorem yX{x lo:Int}{n:Nat}:x∈yx lo n↔lo≤x∧x<lo+n:=by
 unfold yx;rw[cy];constructor
 ·rintro⟨i,hi,rfl⟩;have:=dU.mp hi;lia
 ·rintro⟨h1,h2⟩;exact⟨(x - lo).toNat,dU.mpr (by lia),by lia⟩
inductive xq where
 |take (to st c:Int)
 |put (to:Int) (sg:List Int)
def xq.isTake:xq→Bool
 | .take .. =>true
 | .put .. =>false
def TupAt(K:ag)(H:Hp)(t:Addr):xq→Prop
 | .take to st c=>H t=some (.tup [.str "take",.int to,.int st,.int c])
 | .put to sg=>∃u,H t=some (.tup [.str "put",.int to,.ref u])∧H u=some (.tup (sg.map V.int))
theorem TupAt.same{K:ag}{H H':Hp}{t:Addr}{r:xq}(h:TupAt K H t r)(s:xg H H'):TupAt K H' t r:=by
 cases r with
 |take to st c=>exact s.at h
 |put to sg=>obtain⟨u,h1,h2⟩:=h;exact⟨u,s.at h1,s.at h2⟩
def yS(K:ag)(a:Adr)(H:Hp)(o:Addr):xq→Prop
 | .take to st c=>∃dx,H o=some (.ins a.q0h dx (xbP to st c))
 | .put to sg=>∃dx u,H o=some (.ins a.q0k dx (xez to u sg.length))∧H u=some (.tup (sg.map V.int))
theorem yS.same{K:ag}{a:Adr}{H H':Hp}{o:Addr}{r:xq}(h:yS K a H o r)(s:xg H H'):yS K a H' o r:=by
 cases r with
 |take to st c=>obtain⟨dx,h⟩:=h;exact⟨dx,s.at h⟩
 |put to sg=>obtain⟨dx,u,h1,h2⟩:=h;exact⟨dx,u,s.at h1,s.at h2⟩
theorem yS.mv{K:ag}{a:Adr}{H H' H6:Hp}{o:Addr}{r:xq}(h:yS K a H' o r)(k:∀p o,(H p=none∨∀ys,o≠HO.lst ys)→H' p=some o→H6 p=some o):yS K a H6 o r:=by
 cases r with
 |take to st c=>obtain⟨dx,h⟩:=h;exact⟨dx,k _ _ (.inr fun ys z=>by cases z) h⟩
 |put to sg=>obtain⟨dx,u,h1,h2⟩:=h;exact⟨dx,u,k _ _ (.inr fun ys z=>by cases z) h1,k _ _ (.inr fun ys z=>by cases z) h2⟩
def xq.ok:xq→Prop
 | .take to st c=>0≤to∧0≤st∧1≤c
 | .put to sg=>0≤to∧sg≠[]∧sg.length≤100000∧∀x∈sg,(x.natAbs:Int)<10^60
def xjb(K:ag)(a:Adr)(H:Hp)(l:Addr)(rs:List xq):Prop:=∃ts:List Addr,SqL K H l (ts.map V.ref)∧Paired (yS K a H) ts rs
theorem xmL{K:ag}{H:Hp}{t p C dx:Addr}{xs:List V}{fs:List (Str×V)}{o:HO}(h:SqT K H t xs)(hp:H p=some (.ins C dx fs)):SqT K (upd H p o) t xs:=by
 rcases h with(h|⟨ob,h⟩)|h
 ·exact .inl (.inl (by rw[xr (vL h hp (by intro z;cases z))];exact h))
 ·exact .inl (.inr ⟨ob,by rw[xr (vL h hp (by intro z;cases z))];exact h⟩)
 ·exact .inr h
def xj7(K:ag):Sp:=fun vs H Q _=>∃(p C dx:Addr) (to:Int),vs=[.ref p,.int to]∧H p=some (.ins C dx [])∧Cls K C∧xJ K C "to"∧xJ K C "count"∧Q .non (upd H p (.ins C dx [("to",.int to),("count",.int 0)]))
def xjc(a:Adr):Sp:=fun vs H Q _=>∃(p dx:Addr) (to st c:Int),vs=[.ref p,.int to,.int st,.int c]∧H p=some (.ins a.q0h dx [])∧Q .non (upd H p (.ins a.q0h dx (xbP to st c)))
def xj8(K:ag)(a:Adr):Sp:=fun vs H Q _=>∃(p dx t:Addr) (to:Int) (xs:List V),vs=[.ref p,.int to,.ref t]∧H p=some (.ins a.q0k dx [])∧SqT K H t xs∧Q .non (upd H p (.ins a.q0k dx (xez to t xs.length)))
def xfj(H:Hp)(Q:VK)(ns:List Int):Prop:=∀(l:Addr) (H':Hp),xg H H'→H l=none→H' l=some (.lst (ns.map V.int))→Q (.ref l) H'
def xnG(a:Adr):Sp:=fun vs H Q _=>∃(p dx:Addr) (to st c:Int),vs=[.ref p]∧H p=some (.ins a.q0h dx (xbP to st c))∧Q (.bl (decide (st=to))) H
def xj9:Sp:=fun vs H Q _=>∃i:Int,vs=[.int i]∧Q (.bl true) H
def xfk:Sp:=fun vs H Q _=>∃l i:Int,vs=[.int l,.int i]∧Q (.bl (decide (l≤i))) H
def xly:Sp:=fun vs H Q _=>∃i:Int,vs=[.int i]∧(i.natAbs:Int)<10^60∧Q (.bl true) H
def xjd(K:ag):Sp:=fun vs H Q _=>∃(u:Addr) (sg:List Int),vs=[.ref u]∧H u=some (.tup (sg.map V.int))∧sg≠[]∧sg.length≤100000∧(∀x∈sg,(x.natAbs:Int)<10^60)∧∀H',xg H H'→Q (.bl true) H'
def xh7(K:ag):Sp:=fun vs H Q _=>∃(t:Addr) (r:xq),vs=[.ref t]∧TupAt K H t r∧r.ok∧Q (.bl r.isTake) H
def xje(K:ag):Sp:=fun vs H Q _=>∃(t:Addr) (to:Int) (sg:List Int),vs=[.ref t]∧TupAt K H t (.put to sg)∧xq.ok (.put to sg)∧∀H',xg H H'→Q (.bl true) H'
def xai(K:ag)(a:Adr):Sp:=fun vs H Q _=>∃(t:Addr) (r:xq),vs=[.ref t]∧TupAt K H t r∧r.ok∧∀(o:Addr) (H':Hp),xg H H'→H o=none→yS K a H' o r→Q (.ref o) H'
def mixed(c k:Int):Int:=
 let n:=(c%2147483647+7919*k+1)*48271%2147483647
 n*(n / 1009+69621)%2147483647
def cellAt(ns:List Int)(k:Int):Int:=if k<ns.length then ns.getD k.toNat 0 else 0
def xc2(K:ag):Sp:=fun vs H Q _=>∃(p C dx:Addr) (fs:List (Str×V)) (to c:Int),vs=[.ref p]∧H p=some (.ins C dx fs)∧Cls K C∧xJ K C "to"∧xJ K C "count"∧fs.lookup ("to":Str)=some (.int to)∧fs.lookup ("count":Str)=some (.int c)∧c.toNat≤2^24∧xfj H Q (yx to c.toNat)
def xlz(K:ag):Sp:=fun vs H Q _=>∃(l:Addr) (ns:List Int) (k:Int),vs=[.ref l,.int k]∧SqL K H l (ns.map V.int)∧0≤k∧Q (.int (cellAt ns k)) H
def xnH:Sp:=fun vs H Q _=>∃c k:Int,vs=[.int c,.int k]∧Q (.int (mixed c k)) H
def cN(d k:Nat):Nat:=(k+d - 1) / d
def chs(u:Nat→Nat→List Int)(d k:Nat):List (List Int):=(b8 (cN d k)).map (u k)
theorem xkG{d:Nat}(hd:0<d):cN d 0=0:=by unfold cN;exact Nat.div_eq_of_lt (by omega)
theorem xeB{d:Nat}(hd:0<d)(k:Nat):cN d (k+1)=k / d+1:=by
 unfold cN;rw[show k+1+d - 1=k+d by lia,Nat.add_div_right _ hd]
def uch(to:Int)(d k j:Nat):List Int:=yx (to+((j*d:Nat):Int)) (min d (k - j*d))
def dch(e:Int)(d k j:Nat):List Int:=yx (e - ((min ((j+1)*d) k:Nat):Int)) (min d (k - j*d))
def yC(to st c:Int):List (List Int):=
 if st=to then[]else if to<st then chs (uch to (st - to).toNat) (st - to).toNat c.toNat else chs (dch (to+c) (to - st).toNat) (to - st).toNat c.toNat
theorem xeC(u:Nat→Nat→List Int)(d k:Nat)(hd:0<d):(chs u d k).length≤k:=by
 unfold chs;rw[ai,gA];cases k with
 |zero=>rw[xkG hd];exact ar _
 |succ k=>rw[xeB hd];have:=Nat.div_le_self k d;lia
theorem xmM{x:Int}(h0:x≠0)(h:x.natAbs<2^200):xmd x:=by
 refine⟨h0,?_⟩;have:x.natAbs.log2<200:=(Nat.log2_lt (by lia)).mpr h;lia
theorem xpo(to c:Int)(d:Nat)(hc:1≤c)(hd:0<d):yy to (to+c) (d:Int)=cN d c.toNat:=by
 unfold yy a8;rw[if_pos (by lia),if_pos (by lia)];obtain⟨n,rfl⟩:∃n:Nat,c=(n:Int)+1:=⟨(c - 1).toNat,by lia⟩;rw[show((n:Int)+1).toNat=n+1 by lia,xeB hd,show to+((n:Int)+1) - to - 1=(n:Int)by lia,←Int.natCast_ediv];generalize n / d=q;lia
theorem xmN(to c:Int)(d:Nat)(hc:1≤c)(hd:0<d):yy (to+c) to (-(d:Int))=cN d c.toNat:=by
 unfold yy a8;rw[if_neg (by lia),if_pos (by lia)];obtain⟨n,rfl⟩:∃n:Nat,c=(n:Int)+1:=⟨(c - 1).toNat,by lia⟩;rw[show((n:Int)+1).toNat=n+1 by lia,xeB hd,show to+((n:Int)+1) - to - 1=(n:Int)by lia,Int.neg_neg,←Int.natCast_ediv];generalize n / d=q;lia
theorem xnI{d i k:Nat}(hd:0<d)(h:i<cN d k):i*d≤k:=by
 cases k with
 |zero=>rw[xkG hd]at h;lia
 |succ k=>
  rw[xeB hd]at h;have h1:i≤k / d:=by lia
  have:=bo (fL d h1) (Nat.div_mul_le_self k d);lia
def xha:Stmt→Expr
 | .Expr v _=>v
 |_=>.Constant .none 0 ⟨0,0,0,0⟩
def Kp(S:List Addr)(H H':Hp):Prop:=∀b u,H b=some u→b∉S→H' b=some u
theorem Kp.of{S:List Addr}{H H':Hp}(s:xg H H'):Kp S H H':=fun b u e _=>s b u e
theorem Kp.trans{S:List Addr}{H H1 H2:Hp}(h:Kp S H H1)(g:Kp S H1 H2):Kp S H H2:=fun b u e n=>g b u (h b u e n) n
theorem Kp.mono{S S':List Addr}{H H1:Hp}(h:Kp S H H1)(m:∀x∈S,x∈S'):Kp S' H H1:=fun b u e n=>h b u e fun z=>n (m b z)
theorem Kp.wr{S:List Addr}{H H1:Hp}{p:Addr}{o:HO}(h:Kp S H H1)(m:p∈S):Kp S H (upd H1 p o):=fun b u e n=>by
 rw[xr (fun z=>n (by rw[z];exact m))];exact h b u e n
theorem Kp.mk{S:List Addr}{H H1:Hp}{p:Addr}{o:HO}(h:Kp S H H1)(m:H p=none):Kp S H (upd H1 p o):=fun b u e n=>by
 rw[xr (xF e m)];exact h b u e n
theorem Kp.same{S:List Addr}{H H1 H2:Hp}(h:Kp S H H1)(s:xg H1 H2):Kp S H H2:=h.trans (.of s)
def xaC:HO→Prop
 | .ins _ _ _=>True
 | .lst _=>True
 | .dK _=>True
 |_=>False
abbrev uK(n:Int)(fl:V):List (Str×V):=[("asked",.int n),("fall",fl)]
def xka(a:Adr):Sp:=fun vs H Q _=>∃(p dp:Addr) (fl:V),vs=[.ref p,fl]∧H p=some (.ins a.q0s dp [])∧Q .non (upd H p (.ins a.q0s dp (uK 0 fl)))
def xh8(a:Adr):Sp:=fun vs H Q _=>∃(p dp:Addr) (n m:Int),vs=[.ref p,.int n]∧H p=some (.ins a.q0s dp (uK m .non))∧Q .non H
def xjf(a:Adr):Sp:=fun vs H Q _=>∃(p dp l g:Addr) (at' val:V) (n:Int),vs=[.ref p,.ref l,at',val,.ref g]∧H p=some (.ins a.q0s dp (uK n .non))∧
 ((∃(i:Int) (xs:List V),at'= .int i∧H l=some (.lst xs)∧0≤i∧i<xs.length∧∀H',Kp [p,l] H H'→H' p=some (.ins a.q0s dp (uK (n+1) .non))→H' l=some (.lst (xs.set i.toNat val))→Q .non H')∨
  ∃(k:Key) (kvs:List (Key×V)),at'=kV k∧H l=some (.dK kvs)∧kvs.length<100∧∀H',Kp [p,l] H H'→H' p=some (.ins a.q0s dp (uK (n+1) .non))→H' l=some (.dK (putK kvs k val))→Q .non H')
structure SA where
 st:Addr
 dx:Addr
 ca:Addr
 na:Addr
 p:Addr
 dp:Addr
def nV:Option Int→V
 |none=>.non
 |some i=>.int i
abbrev SS(S:SA):List Addr:=[S.ca,S.na,S.p]
abbrev stF(S:SA):List (Str×V):=[("cells",.ref S.ca),("notes",.ref S.na),("pen",.ref S.p)]
structure yo(a:Adr)(H:Hp)(S:SA)(cells:List Int)(notes:List (Option Int))(n:Int)(fl:V):Prop where
 st:H S.st=some (.ins a.q0j S.dx (stF S))
 ca:H S.ca=some (.lst (cells.map V.int))
 na:H S.na=some (.lst (notes.map nV))
 p:H S.p=some (.ins a.q0s S.dp (uK n fl))
 ne:S.ca≠S.na
 np:S.p≠S.st
theorem yo.mu{a:Adr}{H:Hp}{S:SA}{cells:List Int}{notes:List (Option Int)}{n:Int}{fl:V}(h:yo a H S cells notes n fl):∀x∈SS S,∃u,H x=some u∧xaC u:=by
 intro x hx;simp only[aq,aR,or_false]at hx;rcases hx with rfl|rfl|rfl
 ·exact⟨_,h.ca,trivial⟩
 ·exact⟨_,h.na,trivial⟩
 ·exact⟨_,h.p,trivial⟩
theorem yo.kp0{a:Adr}{H H':Hp}{S:SA}{L:List Addr}{cells:List Int}{notes:List (Option Int)}{n:Int}{fl:V}(h:yo a H S cells notes n fl)(k:Kp L H H')(d:∀x∈L,x≠S.st∧x≠S.ca∧x≠S.na∧x≠S.p):yo a H' S cells notes n fl:=
 ⟨k _ _ h.st (fun z=>(d _ z).1 rfl),k _ _ h.ca (fun z=>(d _ z).2.1 rfl),k _ _ h.na (fun z=>(d _ z).2.2.1 rfl),k _ _ h.p (fun z=>(d _ z).2.2.2 rfl),h.ne,h.np⟩
theorem yo.same{a:Adr}{H H':Hp}{S:SA}{cells:List Int}{notes:List (Option Int)}{n:Int}{fl:V}(h:yo a H S cells notes n fl)(s:xg H H'):yo a H' S cells notes n fl:=
 h.kp0 (L:=[]) (Kp.of s) (fun _ z=>nomatch z)
theorem yo.nst{a:Adr}{H:Hp}{S:SA}{cells:List Int}{notes:List (Option Int)}{n:Int}{fl:V}(h:yo a H S cells notes n fl):S.st∉SS S:=by
 simp only[aq,aR,or_false];rintro(z|z|z)
 ·have:=h.st;rw[z,h.ca]at this;cases this
 ·have:=h.st;rw[z,h.na]at this;cases this
 ·exact h.np z.symm
theorem yo.npc{a:Adr}{H:Hp}{S:SA}{cells:List Int}{notes:List (Option Int)}{n:Int}{fl:V}(h:yo a H S cells notes n fl):S.p≠S.ca:=vL h.p h.ca (by intro z;cases z)
theorem yo.npn{a:Adr}{H:Hp}{S:SA}{cells:List Int}{notes:List (Option Int)}{n:Int}{fl:V}(h:yo a H S cells notes n fl):S.p≠S.na:=vL h.p h.na (by intro z;cases z)
def xjg(a:Adr)(H:Hp)(S:SA)(cells:List Int)(notes:List (Option Int))(n:Int)(fl:V)(q:Hp→Prop):Prop:=∀H',Kp (SS S) H H'→yo a H' S cells notes n fl→q H'
abbrev inR(cells:List Int)(i:Int):Prop:=0≤i∧i<cells.length
def xh9(K:ag)(a:Adr):Sp:=fun vs H Q _=>∃(st dx l:Addr) (cells:List Int) (fl:V),vs=[.ref st,.ref l,fl]∧H st=some (.ins a.q0j dx [])∧H l=some (.lst (cells.map V.int))∧
 ∀(S:SA) (H':Hp),S.st=st→Kp [st] H H'→yo a H' S cells [some 0,some 0] 0 fl→H S.ca=none→H S.na=none→H S.p=none→Q .non H'
def xgj(a:Adr):Sp:=fun vs H Q _=>∃(S:SA) (cells:List Int) (notes:List (Option Int)) (n i:Int) (fl:V),vs=[.ref S.st,.int i]∧yo a H S cells notes n fl∧inR cells i∧Q .non H
def xia(a:Adr):Sp:=fun vs H Q _=>∃(S:SA) (cells:List Int) (notes:List (Option Int)) (n i v:Int) (fl:V),vs=[.ref S.st,.int i]∧yo a H S cells notes n fl∧inR cells i∧cells[i.toNat]? =some v∧Q (.int v) H
def xhb(a:Adr):Sp:=fun vs H Q _=>∃(S:SA) (cells:List Int) (notes:List (Option Int)) (n i s:Int),vs=[.ref S.st,.int i,.int s]∧yo a H S cells notes n .non∧H yp=some (.tbl yA)∧inR cells i∧xjg a H S (cells.set i.toNat s) notes (n+1) .non (Q .non)
def xib(a:Adr):Sp:=fun vs H Q _=>∃(S:SA) (cells:List Int) (notes:List (Option Int)) (n i m:Int),vs=[.ref S.st,.int i,.int m]∧yo a H S cells notes n .non∧H xV=some (.tbl yj)∧0≤i∧i<notes.length∧xjg a H S cells (notes.set i.toNat (some m)) (n+1) .non (Q .non)
def xic(a:Adr):Sp:=fun vs H Q _=>∃(S:SA) (cells:List Int) (notes:List (Option Int)) (n m:Int),vs=[.ref S.st,.int m]∧yo a H S cells notes n .non∧H xV=some (.tbl yj)∧notes.length=2∧xjg a H S cells (notes.set (m%2).toNat (some m)) (n+1) .non (Q .non)
def xpp(a:Adr):Sp:=fun vs H Q _=>∃(S:SA) (cells:List Int) (notes:List (Option Int)) (n:Int) (fl:V),vs=[.ref S.st]∧yo a H S cells notes n fl∧∀t c m H',xg H H'→H c=none→H m=none→c≠m→H' t=some (.tup [.ref c,.ref m,.int n])→H' c=some (.lst (cells.map V.int))→H' m=some (.lst (notes.map nV))→Q (.ref t) H'
def xc3(notes:List (Option Int))(m:Int):Prop:=(notes.filterMap id=[]→m=0)∧(notes.filterMap id≠[]→m∈notes.filterMap id∧∀x∈notes.filterMap id,x≤m)
theorem xc3.uniq{notes:List (Option Int)}{m m':Int}(h:xc3 notes m)(h':xc3 notes m'):m=m':=by
 by_cases e:notes.filterMap id=[]
 ·rw[h.1 e,h'.1 e]
 ·have a:=h.2 e;have b:=h'.2 e;have:=a.2 _ b.1;have:=b.2 _ a.1;lia
def xmO(a:Adr):Sp:=fun vs H Q _=>∃(S:SA) (cells:List Int) (notes:List (Option Int)) (n:Int) (fl:V),vs=[.ref S.st]∧yo a H S cells notes n fl∧notes.length=2∧∀m H',xg H H'→xc3 notes m→Q (.int m) H'
local macro_rules| `(tactic|walk_at"w")=>`(tactic|(conv=>whnf))
local macro_rules| `(tactic|walk_at"few")=>`(tactic|first|exact Nat.lt_of_lt_of_le (xoU (n:=998) (by simp)) (by decide)|(simp;done))
local macro_rules| `(tactic|walk_at"pos")=>`(tactic|first|(show(0:Int)<_;decide)|(show(0:Int)<_;lia)|assumption)
local macro_rules| `(tactic|walk_at"same")=>`(tactic|first|exact xg.refl _|assumption|(refine' xg.trans ?sa ?sb;(case sb=>assumption);(case sa=>walk_at"same")))
local macro_rules| `(tactic|walk_at"get")=>`(tactic|first|assumption|exact xt|(refine' xg.at ?ga ?gb;(case gb=>assumption);(case ga=>walk_at"same")))
local macro_rules| `(tactic|walk_at"sq")=>`(tactic|first|assumption|(refine' SqL.of ?g;(case g=>walk_at"get"))|(refine' SqT.of ?g;(case g=>walk_at"get"))|(refine' xg.seq ?sa ?sb;(case sb=>assumption);(case sa=>walk_at"same"))|(refine' xg.seqT ?sa ?sb;(case sb=>assumption);(case sa=>walk_at"same"))|(refine' Or.inl ?g;(case g=>walk_at"sq"))|(refine' Or.inr ?g;(case g=>walk_at"sq")))
local macro_rules| `(tactic|walk_at"no")=>`(tactic|(intro z;first|cases z|(simp at z;done)))
local macro_rules| `(tactic|walk_at"mul")=>`(tactic|first|exact Or.inl ⟨by decide,by decide⟩|exact Or.inr ⟨by decide,by decide⟩|exact Or.inl ⟨by lia,by lia⟩|exact Or.inr ⟨by lia,by lia⟩)
local macro_rules| `(tactic|walk_at"side")=>`(tactic|first|exact⟨by decide,by decide⟩|exact⟨by decide,by decide,by decide⟩|walk_at"pos" |walk_at"mul" |(show(_:Nat)≤sizeLine;first|decide|(simp only[List.length_cons,List.length_nil];decide)))
local macro_rules| `(tactic|walk_at"s")=>`(tactic|(refine And.intro (by walk_at"side") ?_;walk_at"w"))
local macro_rules| `(tactic|walk_at"ss")=>`(tactic|(repeat (walk_at"s")))
section
variable {P:av} {w:World} {K:ag} {mg:Str→Option Value} {base:Heap} {a:Adr}
theorem xeZ(T:Txt K mg a):xE P w K mg base CX0 1 a.q2r a.xcY ["self","fall"] (xka a):=by
 refine T.q3N.ok xeY (fun vs H Q E h=>?_) (fun cdv A outer s H vs Q E hr h=>?_)
 ·obtain⟨p,dp,fl,rfl,_⟩:=h;rfl
 ·obtain⟨p,dp,fl,rfl,hp,k⟩:=h;have nd:=xeY.nd;refine⟨_,(xh (yt (cv 0) xk rfl)
  (xm (yt (cv 0) (cv 1) rfl))),?_⟩
  walk_at"w";refine⟨p,_,dp,_,rfl,hp,T.q3Z,T.q2T,by walk_at"few",?_⟩;walk_at"w";refine⟨p,_,dp,_,rfl,xt,T.q3Z,T.q4Y,by walk_at"few",?_⟩;walk_at"w";rw[zq];exact k
theorem xcw(T:Txt K mg a):xE P w K mg base CX0 1 a.q0w a.ud ["self","count"] (xh8 a):=by
 refine T.q0W.ok jg (fun vs H Q E h=>?_) (fun cdv A outer s H vs Q E hr h=>?_)
 ·obtain⟨p,dp,n,m,rfl,_⟩:=h;rfl
 ·obtain⟨p,dp,n,m,rfl,hp,k⟩:=h;have nd:=jg.nd;refine⟨_,(xh (xD (i:=2) nd rfl (az rfl) (xA (cv 0) rfl))
  (xh (xM (xaa (cv 2)) (xm (xw yi)) xx)
  (xm xaX))),?_⟩
  walk_at"w";refine⟨p,_,dp,_,.non,rfl,hp,T.q3Z,T.q4Y,rfl,?_⟩;walk_at"w";refine⟨fun _=>?_,by walk_at"no"⟩;exact k
theorem vH(T:Txt K mg a):xE P w K mg base CX0 2 a.q0Q a.jd ["self","kept","at","value","torn"] (xjf a):=by
 refine T.q1K.ok xaJ (fun vs H Q E h=>?_) (fun cdv A outer s H vs Q E hr h=>?_)
 ·obtain⟨p,dp,l,g,at',val,n,rfl,_⟩:=h;rfl
 ·obtain⟨p,dp,l,g,at',val,n,rfl,hp,k⟩:=h;have nd:=xaJ.nd;refine⟨_,(xh (xD (i:=5) nd rfl (az rfl) (xA (cv 0) rfl))
  (xh (yt (cv 0) (xy yv (cv 5) xk) rfl)
  (xh (xD (i:=6) nd rfl (az rfl) (xT (cv 0) T.q3Z T.q21 (xcw T) (hr.mono (by decide)) T.xcZ .nil xu (xc (cv 5) xf)))
  (xh (xM (xaa (cv 6)) (xh (vI (cv 3) (xfw (cv 1) (cv 2) (xmw (vM hr))))
  (xm xoB)) xx)
  (xh (zu (xM (xO yJ (xI xiA (by rfl) T.q1Z yK (xc (cv 6) xf)) xk) xcJ xx))
  (xm xaX)))))),?_⟩
  have nlp:l≠p:=by
   rcases k with⟨_,_,_,hl,_⟩|⟨_,_,_,hl,_⟩
   ·exact vL hl hp (by intro z;cases z)
   ·exact vL hl hp (by intro z;cases z)
  walk_at"w";refine⟨p,_,dp,_,.int n,rfl,hp,T.q3Z,T.q2T,rfl,?_⟩;walk_at"w";refine⟨p,_,dp,_,rfl,hp,T.q3Z,T.q2T,by walk_at"few",?_⟩;generalize hU:upd H p _=H1;have c1:Kp [p,l] H H1:=by rw[←hU];exact(Kp.of (xg.refl _)).wr (by simp)
  have hp1:H1 p=some (.ins a.q0s dp (uK (n+1) .non)):=by rw[←hU,xt];rfl
  have hl0:H1 l=H l:=by rw[←hU,xr nlp]
  clear hU;walk_at"w";refine⟨p,dp,_,rfl,hp1,rfl,?_⟩;walk_at"w";refine⟨p,dp,n,_,rfl,hp1,?_⟩;walk_at"w";refine⟨fun _=>?_,by walk_at"no"⟩;walk_at"w";rcases k with⟨i,xs,rfl,hl,h0,hi,k⟩|⟨ky,kvs,rfl,hl,h0,k⟩
  ·refine .inl ⟨l,xs,i,_,rfl,rfl,hl0.trans hl,xiL h0 hi,?_⟩;exact k _ (c1.wr (by simp)) (by rw[xr (au nlp)];exact hp1) xt
  ·refine .inr ⟨l,_,rfl,.inl ⟨kvs,ky,hl0.trans hl,rfl,by rw[a6];lia,rfl⟩,?_⟩;exact k _ (c1.wr (by simp)) (by rw[xr (au nlp)];exact hp1) xt
theorem xid(T:Txt K mg a):xE P w K mg base CX0 3 a.q1p a.jx ["self","cells","fall"] (xh9 K a):=by
 refine T.ve.ok xdm (fun vs H Q E h=>?_) (fun cdv A outer s H vs Q E hr h=>?_)
 ·obtain⟨st,dx,l,cells,fl,rfl,_⟩:=h;rfl
 ·obtain⟨st,dx,l,cells,fl,rfl,hst,hl,k⟩:=h;have nd:=xdm.nd;refine⟨_,(xh (yt (cv 0) (yd ze (by rfl) T.q22 zL (xc (cv 1) xf)) rfl)
  (xh (yt (cv 0) (xY (xc xk (xc xk xf))) rfl)
  (xm (yt (cv 0) (xaT T.q5W (xeZ T) (hr.mono (by decide)) (by rfl) T.xou T.xga .nil xu (xc (cv 2) xf)) rfl)))),?_⟩
  walk_at"w";refine⟨l,_,rfl,.inl (SqL.of hl),?_⟩;intro ca hca;walk_at"w";refine⟨st,_,dx,_,rfl,by rw[xr (xF hst hca)];exact hst,T.q0r,T.q1M,by walk_at"few",?_⟩;generalize hU1:upd (upd H ca _) st _=H1;have k1:Kp [st] H H1:=by rw[←hU1];exact((Kp.of (xg.refl _)).mk hca).wr (by simp)
  have f1:H1 st=some (.ins a.q0j dx [("cells",.ref ca)]):=by rw[←hU1,xt];rfl
  have g1:H1 ca=some (.lst (cells.map V.int)):=by rw[←hU1,xr (au (xF hst hca)),xt]
  have b1:∀b,H1 b=none→H b=none∧b≠st∧b≠ca:=fun b hb=>by
   have n1:b≠st:=fun z=>by rw[z,f1]at hb;cases hb
   have n2:b≠ca:=fun z=>by rw[z,g1]at hb;cases hb
   rw[←hU1,xr n1,xr n2]at hb;exact⟨hb,n1,n2⟩
  clear hU1;walk_at"w";walk_at"ss";intro na hna;obtain⟨na0,na1,na2⟩:=b1 na hna;walk_at"w";refine⟨st,_,dx,_,rfl,by rw[xr (xF f1 hna)];exact f1,T.q0r,T.q2a,by walk_at"few",?_⟩;generalize hU2:upd (upd H1 na _) st _=H2;have k2:Kp [st] H H2:=by rw[←hU2];exact(k1.mk na0).wr (by simp)
  have f2:H2 st=some (.ins a.q0j dx [("cells",.ref ca),("notes",.ref na)]):=by rw[←hU2,xt];rfl
  have g2:H2 ca=some (.lst (cells.map V.int)):=by rw[←hU2,xr (vL g1 f1 (by intro z;cases z)),xr (au na2)];exact g1
  have m2:H2 na=some (.lst ([some 0,some 0].map nV)):=by rw[←hU2,xr na1,xt];rfl
  have b2:∀b,H2 b=none→H b=none∧b≠st∧b≠ca∧b≠na:=fun b hb=>by
   have n1:b≠st:=fun z=>by rw[z,f2]at hb;cases hb
   have n3:b≠na:=fun z=>by rw[z,m2]at hb;cases hb
   rw[←hU2,xr n1,xr n3]at hb;exact⟨(b1 b hb).1,n1,(b1 b hb).2.2,n3⟩
  clear hU2 b1;walk_at"w";intro p dp hp hdp nep;obtain⟨p0,p1,p2,p3⟩:=b2 p hp;obtain⟨q0,q1,q2,q3⟩:=b2 dp hdp;refine⟨p,dp,fl,rfl,xt,?_⟩;refine⟨rfl,?_⟩;walk_at"w";rw[zq];have e3:∀b,b≠p→b≠dp→∀o o',upd (upd H2 dp o) p o' b=H2 b:=fun b n1 n2 o o'=>by rw[xr n1,xr n2]
  refine⟨st,_,dx,_,rfl,by rw[e3 _ (au p1) (au q1)];exact f2,T.q0r,T.q2e,by walk_at"few",?_⟩;refine k ⟨st,dx,ca,na,p,dp⟩ _ rfl (((k2.mk q0).mk p0).wr (by simp)) ⟨?_,?_,?_,?_,au na2,p1⟩ hca na0 p0
  ·rw[xt];rfl
  ·rw[xr (vL g2 f2 (by intro z;cases z)),e3 _ (au p2) (au q2)];exact g2
  ·rw[xr na1,e3 _ (au p3) (au q3)];exact m2
  ·rw[xr p1,xt]
theorem vy(T:Txt K mg a):xE P w K mg base CX0 1 a.q0t a.zD ["self","at"] (xgj a):=by
 refine T.q0L.ok vx (fun vs H Q E h=>?_) (fun cdv A outer s H vs Q E hr h=>?_)
 ·obtain⟨S,cells,notes,n,i,fl,rfl,_⟩:=h;rfl
 ·obtain⟨S,cells,notes,n,i,fl,rfl,hS,hi,k⟩:=h;have nd:=vx.nd;refine⟨_,(xm (xM (PW.pt (xaN (xO xgG (cv 1) xk) (xaZ (xO xnm (cv 1) (xI xZ (by rfl) T.q1Z yK (xc (xA (cv 0) rfl) xf)))))) (xm xaX) xx)),?_⟩;walk_at"w";refine⟨fun e=>absurd (of_decide_eq_true e) (by have:=hi.1;omega),fun e=>?_⟩;walk_at"w";refine⟨S.st,_,S.dx,_,.ref S.ca,rfl,hS.st,T.q0r,T.q1M,rfl,?_⟩;walk_at"w";refine⟨S.ca,_,rfl,.inl (SqL.of hS.ca),?_⟩;walk_at"w";rw[ai];refine⟨fun e1=>absurd (of_decide_eq_true e1) (by have:=hi.2;omega),fun e1=>?_⟩;exact k
theorem xie(T:Txt K mg a):xE P w K mg base CX0 2 a.q1R a.xbp ["self","at"] (xia a):=by
 refine T.q2O.ok xdn (fun vs H Q E h=>?_) (fun cdv A outer s H vs Q E hr h=>?_)
 ·obtain⟨S,cells,notes,n,i,v,fl,rfl,_⟩:=h;rfl
 ·obtain⟨S,cells,notes,n,i,v,fl,rfl,hS,hi,hv,k⟩:=h;have nd:=xdn.nd;refine⟨_,(xh (xR (xT (cv 0) T.q0r T.q1H (vy T) (hr.mono (by decide)) T.vJ .nil xu (xc (cv 1) xf)))
  (xm (xw (xC yc (xA (cv 0) rfl) (cv 1) (fun _ _=>rfl))))),?_⟩
  walk_at"w";refine⟨S.st,S.dx,_,rfl,hS.st,rfl,?_⟩;walk_at"w";refine⟨S,cells,notes,n,i,fl,rfl,hS,hi,?_⟩;walk_at"w";refine⟨S.st,_,S.dx,_,.ref S.ca,rfl,hS.st,T.q0r,T.q1M,rfl,?_⟩;walk_at"w";refine⟨S.ca,_,i,.int v,rfl,rfl,SqL.of hS.ca,xfT hi.1 hv,?_⟩;exact k
theorem xhc(T:Txt K mg a):xE P w K mg base CX0 3 a.q1a a.vP ["self","at","sign"] (xhb a):=by
 refine T.vQ.okC [] T.xg8 xcs (fun vs H Q E h=>?_) (fun A outer s H vs Q E hr h=>?_)
 ·obtain⟨S,cells,notes,n,i,s,rfl,_⟩:=h;rfl
 ·obtain⟨S,cells,notes,n,i,sg,rfl,hS,hP,hi,k⟩:=h;have nd:=xcs.nd;refine⟨_,(xh (xR (xT (cv 0) T.q0r T.q1H (vy T) (hr.mono (by decide)) T.vJ .nil xu (xc (cv 1) xf)))
  (xm (xR (xT (xA (cv 0) rfl) T.q3Z T.q12 (vH T) (hr.mono (by decide)) T.je .nil xu (xc (xA (cv 0) rfl) (xc (cv 1) (xc (cv 2) (xc (zS (c:=q0R) (P:=yp) (qs:=yA) (fns:=[]) rfl T.q4I (q:="Store.write.<locals>.<lambda>") (by kernel_rfl) (.head _) (by kernel_rfl) (by kernel_rfl)) xf)))))))),?_⟩
  walk_at"w";refine⟨S.st,S.dx,_,rfl,hS.st,rfl,?_⟩;walk_at"w";refine⟨S,cells,notes,n,i,.non,rfl,hS,hi,?_⟩;walk_at"w";refine⟨S.st,_,S.dx,_,.ref S.p,rfl,hS.st,T.q0r,T.q2e,rfl,?_⟩;walk_at"w";refine⟨S.p,S.dp,_,rfl,hS.p,rfl,?_⟩;walk_at"w";refine⟨S.st,_,S.dx,_,.ref S.ca,rfl,hS.st,T.q0r,T.q1M,rfl,?_⟩;walk_at"w";refine⟨hP,[],rfl,(fun x v m=>nomatch m),fun g H1 hg s1 hc=>?_⟩;walk_at"w";have c1:Kp (SS S) H H1:=Kp.of s1;have hS1:=hS.same s1;refine⟨S.p,S.dp,S.ca,g,.int i,.int sg,n,rfl,hS1.p,.inl ⟨i,_,rfl,hS1.ca,hi.1,by rw[ai];exact hi.2,fun H2 q1 q2 q3=>?_⟩⟩;have q:Kp (SS S) H H2:=c1.trans (q1.mono (by simp));exact k H2 q ⟨q _ _ hS.st hS.nst,by rw[q3,List.map_set],q1 _ _ hS1.na (by simp[au hS.npn,au hS.ne]),q2,hS.ne,hS.np⟩
theorem vi(T:Txt K mg a):xE P w K mg base CX0 3 a.q0E a.zF ["self","at","number"] (xib a):=by
 refine T.zG.okC [] T.xd3 xag (fun vs H Q E h=>?_) (fun A outer s H vs Q E hr h=>?_)
 ·obtain⟨S,cells,notes,n,i,m,rfl,_⟩:=h;rfl
 ·obtain⟨S,cells,notes,n,i,m,rfl,hS,hP,h0,hi,k⟩:=h;have nd:=xag.nd;refine⟨_,(xm (xR (xT (xA (cv 0) rfl) T.q3Z T.q12 (vH T) (hr.mono (by decide)) T.je .nil xu (xc (xA (cv 0) rfl) (xc (cv 1) (xc (cv 2) (xc (zS (c:=q0v) (P:=xV) (qs:=yj) (fns:=[]) rfl T.q3A (q:="Store.note_down.<locals>.<lambda>") (by kernel_rfl) (.head _) (by kernel_rfl) (by kernel_rfl)) xf))))))),?_⟩;walk_at"w";refine⟨S.st,_,S.dx,_,.ref S.p,rfl,hS.st,T.q0r,T.q2e,rfl,?_⟩;walk_at"w";refine⟨S.p,S.dp,_,rfl,hS.p,rfl,?_⟩;walk_at"w";refine⟨S.st,_,S.dx,_,.ref S.na,rfl,hS.st,T.q0r,T.q2a,rfl,?_⟩;walk_at"w";refine⟨hP,[],rfl,(fun x v m=>nomatch m),fun g H1 hg s1 hc=>?_⟩;walk_at"w";have c1:Kp (SS S) H H1:=Kp.of s1;have hS1:=hS.same s1;refine⟨S.p,S.dp,S.na,g,.int i,.int m,n,rfl,hS1.p,.inl ⟨i,_,rfl,hS1.na,h0,by rw[ai];exact hi,fun H2 q1 q2 q3=>?_⟩⟩;have q:Kp (SS S) H H2:=c1.trans (q1.mono (by simp));exact k H2 q ⟨q _ _ hS.st hS.nst,q1 _ _ hS1.ca (by simp[au hS.npc,hS.ne]),by rw[q3,List.map_set];rfl,q2,hS.ne,hS.np⟩
theorem xif(T:Txt K mg a):xE P w K mg base CX0 4 a.q1S a.xbq ["self","number"] (xic a):=by
 refine T.q2P.ok xdo (fun vs H Q E h=>?_) (fun cdv A outer s H vs Q E hr h=>?_)
 ·obtain⟨S,cells,notes,n,m,rfl,_⟩:=h;rfl
 ·obtain⟨S,cells,notes,n,m,rfl,hS,hP,h2,k⟩:=h;have nd:=xdo.nd;refine⟨_,(xm (xR (xT (cv 0) T.q0r T.q1X (vi T) (hr.mono (by decide)) T.vG .nil xu (xc (xy zo (cv 1) xk) (xc (cv 1) xf))))),?_⟩;walk_at"w";refine⟨S.st,S.dx,_,rfl,hS.st,rfl,?_⟩;walk_at"w";walk_at"ss";exact⟨S,cells,notes,n,m%2,m,rfl,hS,hP,by lia,by rw[h2];lia,k⟩
theorem xdu(T:Txt K mg a):xE P w K mg base CX0 1 a.q1T a.xbr ["self"] (xpp a):=by
 refine T.q2Q.ok xdp (fun vs H Q E h=>?_) (fun cdv A outer s H vs Q E hr h=>?_)
 ·obtain⟨S,cells,notes,n,fl,rfl,_⟩:=h;rfl
 ·obtain⟨S,cells,notes,n,fl,rfl,hS,k⟩:=h;have nd:=xdp.nd;refine⟨_,(xm (xw (xH (xc (yd ze (by rfl) T.q22 zL (xc (xA (cv 0) rfl) xf)) (xc (yd ze (by rfl) T.q22 zL (xc (xA (cv 0) rfl) xf)) (xc (xA (xA (cv 0) rfl) rfl) xf)))))),?_⟩;walk_at"w";refine⟨S.st,_,S.dx,_,.ref S.ca,rfl,hS.st,T.q0r,T.q1M,rfl,?_⟩;walk_at"w";refine⟨S.ca,_,rfl,.inl (SqL.of hS.ca),?_⟩;intro c hc;generalize hUc:upd H c _=H1;have sH1:=xg.of_eq hc hUc;have ec:=xj hUc;clear hUc;walk_at"w";have hS1:=hS.same sH1;refine⟨S.st,_,S.dx,_,.ref S.na,rfl,hS1.st,T.q0r,T.q2a,rfl,?_⟩;walk_at"w";refine⟨S.na,_,rfl,.inl (SqL.of hS1.na),?_⟩;intro m hm;generalize hUm:upd H1 m _=H2;have sH2:=xg.of_eq hm hUm;have em:=xj hUm;clear hUm;walk_at"w";have hS2:=hS1.same sH2;refine⟨S.st,_,S.dx,_,.ref S.p,rfl,hS2.st,T.q0r,T.q2e,rfl,?_⟩;walk_at"w";refine⟨S.p,_,S.dp,_,.int n,rfl,hS2.p,T.q3Z,T.q2T,rfl,?_⟩;walk_at"w";walk_at"ss";intro t ht;generalize hUt:upd H2 t _=H3;have sH3:=xg.of_eq ht hUt;have et:=xj hUt;clear hUt;walk_at"w";exact k t c m H3 (sH1.trans (sH2.trans sH3)) hc (sH1.back hm) (xF ec hm) et (sH3.at (sH2.at ec)) (sH3.at em)
theorem xc4:∀notes:List (Option Int),((notes.map nV).filter fun v=> !(isN v)).map (fun v=>v)=(notes.filterMap id).map V.int
 |[]=>rfl
 |none::r=>by
  have:=xc4 r;simpa [nV,isN]using this
 |some i::r=>by
  have:=xc4 r;simpa [nV,isN]using this
theorem xhd(T:Txt K mg a):xE P w K mg base CX0 1 a.q1D a.xay ["self"] (xmO a):=by
 refine T.q2k.ok xct (fun vs H Q E h=>?_) (fun cdv A outer s H vs Q E hr h=>?_)
 ·obtain⟨S,cells,notes,n,fl,rfl,_⟩:=h;rfl
 ·obtain⟨S,cells,notes,n,fl,rfl,hS,h2,k⟩:=h;have nd:=xct.nd;refine⟨_,(xm (xw (xo1 rfl (by rfl) T.q5D (xc (uu (uW (cap:=[]) (ys:=[]) rfl rfl rfl rfl rfl trivial (by decide+kernel)) rfl (zJ (xA (cv 0) rfl)) (fun _ _ _ _=>(cv 0)) (fun _ _ _ _=>(xoQ (xev (cv 0))))) xf) xk))),?_⟩;walk_at"w";refine⟨S.st,_,S.dx,_,.ref S.na,rfl,hS.st,T.q0r,T.q2a,rfl,?_⟩;walk_at"w";refine⟨S.na,rfl,⟨_,SqL.of hS.na⟩,?_⟩;refine xlk (fun v=> !(isN v)) (fun v=>v) (SqL.of hS.na) (by rw[ai,h2];decide) (fun x H3 hx s3 R hR=>?_) (fun x H3 hx hp s3 R hR=>?_) (fun D H' hD s' e'=>?_)
  ·exact hR H3 (xg.refl _)
  ·exact hR H3 (xg.refl _)
  ·rw[xc4]at e';exact⟨D,_,0,rfl,rfl,SqL.of e',fun m h1 h2=>k m H' s' ⟨h1,h2⟩⟩
theorem xe0(T:Txt K mg a):xE P w K mg base CX0 1 a.q2o a.xcV ["self","to"] (xj7 K):=by
 refine T.q3L.ok xeU (fun vs H Q E h=>?_) (fun cdv A outer s H vs Q E hr h=>?_)
 ·obtain⟨p,C,dx,to,rfl,_⟩:=h;rfl
 ·obtain⟨p,C,dx,to,rfl,hp,c,n1,n2,k⟩:=h;have nd:=xeU.nd;refine⟨_,(xh (yt (cv 0) (cv 1) rfl)
  (xm (yt (cv 0) xk rfl))),?_⟩
  walk_at"w";refine⟨p,C,dx,_,rfl,hp,c,n1,by walk_at"few",?_⟩;walk_at"w";refine⟨p,C,dx,_,rfl,xt,c,n2,by walk_at"few",?_⟩;walk_at"w";rw[zq];exact k
theorem xjh(T:Txt K mg a):xE P w K mg base CX0 2 a.q15 a.xb4 ["self","to","start","count"] (xjc a):=by
 refine T.q3l.ok xd7 (fun vs H Q E h=>?_) (fun cdv A outer s H vs Q E hr h=>?_)
 ·obtain⟨p,dx,to,st,c,rfl,_⟩:=h;rfl
 ·obtain⟨p,dx,to,st,c,rfl,hp,k⟩:=h;have nd:=xd7.nd;refine⟨_,(xh (xR (xkp (by rfl) T.xot T.q40 (xe0 T) (hr.mono (by decide)) T.xf0 .nil xu (xc (cv 0) (xc (cv 1) xf))))
  (xh (yt (cv 0) (cv 2) rfl)
  (xm (yt (cv 0) (cv 3) rfl)))),?_⟩
  walk_at"w";refine⟨p,_,dx,to,rfl,hp,T.q0l,T.q0Z,T.q0T,?_⟩;walk_at"w";refine⟨p,_,dx,_,rfl,xt,T.q0l,T.q0F,by walk_at"few",?_⟩;walk_at"w";refine⟨p,_,dx,_,rfl,xt,T.q0l,T.q0T,by walk_at"few",?_⟩;walk_at"w";rw[zq,zq];exact k
theorem xkb(T:Txt K mg a):xE P w K mg base CX0 2 a.q2p a.xcW ["self","to","signs"] (xj8 K a):=by
 refine T.q3M.ok xeV (fun vs H Q E h=>?_) (fun cdv A outer s H vs Q E hr h=>?_)
 ·obtain⟨p,dx,t,to,xs,rfl,_⟩:=h;rfl
 ·obtain⟨p,dx,t,to,xs,rfl,hp,ht,k⟩:=h;have nd:=xeV.nd;have ht1:∀o,SqT K (upd H p o) t xs:=fun o=>xmL ht hp;refine⟨_,(xh (xR (xkp (by rfl) T.xot T.q40 (xe0 T) (hr.mono (by decide)) T.xf0 .nil xu (xc (cv 0) (xc (cv 1) xf))))
  (xh (yt (cv 0) (yd yU (by rfl) T.q2n zB (xc (cv 2) xf)) rfl)
  (xm (yt (cv 0) (xI xZ (by rfl) T.q1Z yK (xc (xA (cv 0) rfl) xf)) rfl)))),?_⟩
  walk_at"w";refine⟨p,_,dx,to,rfl,hp,T.q1G,T.q24,T.q1W,?_⟩;walk_at"w";refine⟨t,xs,rfl,.inr ⟨ht1 _,?_⟩⟩;walk_at"w";refine⟨p,_,dx,_,rfl,xt,T.q1G,T.q3B,by walk_at"few",?_⟩;walk_at"w";refine⟨p,_,dx,_,.ref t,rfl,xt,T.q1G,T.q3B,rfl,?_⟩;walk_at"w";refine⟨t,xs,rfl,.inr (xmL (ht1 _) xt),?_⟩;walk_at"w";refine⟨p,_,dx,_,rfl,xt,T.q1G,T.q1W,by walk_at"few",?_⟩;walk_at"w";rw[zq,zq];exact k
theorem yP(T:Txt K mg a):xE P w K mg base CX0 1 a.q0S a.xav ["self"] (xc2 K):=by
 refine T.q2h.ok xcp (fun vs H Q E h=>?_) (fun cdv A outer s H vs Q E hr h=>?_)
 ·obtain⟨p,C,dx,fs,to,c,rfl,_⟩:=h;rfl
 ·obtain⟨p,C,dx,fs,to,c,rfl,hp,cl,n1,n2,l1,l2,hc,k⟩:=h;have nd:=xcp.nd;refine⟨_,(xm (xw (yd (vN rfl) (by rfl) T.q22 zL (xc (xbH (by rfl) T.q1j (xc (xA (cv 0) rfl) (xc (xy yv (xA (cv 0) rfl) (xA (cv 0) rfl)) xf))) xf)))),?_⟩;walk_at"w";refine⟨p,C,dx,fs,_,rfl,hp,cl,n1,l1,?_⟩;walk_at"w";refine⟨p,C,dx,fs,_,rfl,hp,cl,n1,l1,?_⟩;walk_at"w";refine⟨p,C,dx,fs,_,rfl,hp,cl,n2,l2,?_⟩;walk_at"w";intro r hr1;walk_at"w";have e:yy to (to+c) 1=c.toNat:=by rw[zV];congr 1;lia
  refine⟨r,to,to+c,rfl,xt,by rw[e];exact hc,fun l hl=>?_⟩;rw[e,xeA];have hl0:H l=none:=xg.free (xg.new hr1) hl;exact k l _ ((xg.new hr1).put hl0) hl0 xt
theorem xaD(T:Txt K mg a):xE P w K mg base CX0 1 a.q1N a.xbk ["self"] (xnG a):=by
 refine T.q2K.ok xdh (fun vs H Q E h=>?_) (fun cdv A outer s H vs Q E hr h=>?_)
 ·obtain⟨p,dx,to,st,c,rfl,_⟩:=h;rfl
 ·obtain⟨p,dx,to,st,c,rfl,hp,k⟩:=h;have nd:=xdh.nd;refine⟨_,(xm (xw (yY yJ (xA (cv 0) rfl) (xA (cv 0) rfl)))),?_⟩;walk_at"w";refine⟨p,_,dx,_,.int st,rfl,hp,T.q0l,T.q0F,rfl,?_⟩;walk_at"w";refine⟨p,_,dx,_,.int to,rfl,hp,T.q0l,T.q0Z,rfl,?_⟩;exact k
theorem xc5(T:Txt K mg a):xE P w K mg base CX0 1 a.q3w a.xdY ["_law_script","_law_k"] (xlz K):=by
 refine T.q2t.ok xgh (fun vs H Q E h=>?_) (fun cdv A outer s H vs Q E hr h=>?_)
 ·obtain⟨l,ns,k,rfl,_⟩:=h;rfl
 ·obtain⟨l,ns,k,rfl,hl,hk,q⟩:=h;have nd:=xgh.nd;refine⟨_,(xh (xM (xO xgG (cv 1) (xI xZ (by rfl) T.q1Z yK (xc (cv 0) xf))) (xm (xw (xC yc (cv 0) (cv 1) (fun _ _=>rfl)))) xx)
  (xm (xw xk))),?_⟩
  walk_at"w";refine⟨l,_,rfl,.inl hl,?_⟩;walk_at"w";refine⟨fun e=>?_,fun e=>?_⟩
  ·have e':=of_decide_eq_true e;rw[ai]at e';walk_at"w";refine⟨l,_,k,.int (ns.getD k.toNat 0),rfl,rfl,hl,?_,?_⟩
   ·have hk':k.toNat<ns.length:=by lia
    have:=xgD (xs:=ns.map V.int) (j:=k.toNat) (v:=.int (ns.getD k.toNat 0)) (by simp[hk'])
    rwa [cH hk]at this
   ·walk_at"w";rw[cellAt,if_pos e']at q;exact q
  ·have e':=of_decide_eq_false e;rw[ai]at e';rw[cellAt,if_neg e']at q;exact q
theorem xlA(x:Int):0≤x%2147483647∧x%2147483647<2147483647:=⟨fM _ (by decide),eU _ (by decide)⟩
theorem ug(T:Txt K mg a):xE P w K mg base CX0 1 a.q4z a.xgY ["_law_cell","_law_k"] xnH:=by
 refine T.q1L.ok xi4 (fun vs H Q E h=>?_) (fun cdv A outer s H vs Q E hr h=>?_)
 ·obtain⟨c,k,rfl,_⟩:=h;rfl
 ·obtain⟨c,k,rfl,q⟩:=h;have nd:=xi4.nd;refine⟨_,(xh (xD (i:=2) nd rfl (az rfl) (xy zo (xy xet (xy yv (xy yv (xy zo (cv 0) xk) (xy xet xk (cv 1))) xk) xk) xk))
  (xm (xw (xy zo (xy xet (cv 2) (xy yv (xy xfJ (cv 2) xk) xk)) xk)))),?_⟩
  have b:=xlA ((c%2147483647+7919*k+1)*48271);walk_at"w";refine⟨by walk_at"pos",?_⟩;walk_at"w";refine⟨.inl ⟨by decide,by decide⟩,?_⟩;walk_at"w";refine⟨.inr ⟨by decide,by decide⟩,?_⟩;walk_at"w";refine⟨by walk_at"pos",?_⟩;walk_at"w";refine⟨⟨by decide,by decide⟩,?_⟩;walk_at"w";refine⟨.inl ⟨by lia,by lia⟩,?_⟩;walk_at"w";refine⟨by walk_at"pos",?_⟩;exact q
theorem xe1(T:Txt K mg a):xE P w K mg base CX0 1 a.q25 a.xcX ["value"] xj9:=by
 refine T.q2s.ok xeW (fun vs H Q E h=>?_) (fun cdv A outer s H vs Q E hr h=>?_)
 ·obtain⟨i,rfl,_⟩:=h;rfl
 ·obtain⟨i,rfl,q⟩:=h;have nd:=xeW.nd;refine⟨_,(xm (xw (zK (xI uX (by rfl) T.q0q ye (xc (cv 0) (xc (xaS (v:=.ty "int") (by rfl) T.q5M xfO rfl) xf))) (uT (xp8 (xI uX (by rfl) T.q0q ye (xc (cv 0) (xc (xaS (v:=.ty "bool") (by rfl) T.q6r xoT rfl) xf)))))))),?_⟩;walk_at"w";refine⟨_,_,_,_,true,rfl,rfl,zA.int _,rfl,?_⟩;walk_at"w";refine⟨fun _=>?_,by walk_at"no"⟩;walk_at"w";refine⟨_,_,_,_,false,rfl,rfl,zA.int _,rfl,?_⟩;exact q
theorem zk(T:Txt K mg a):xE P w K mg base CX0 2 a.q1l a.jt ["least","value"] xfk:=by
 refine T.q0z.ok xbx (fun vs H Q E h=>?_) (fun cdv A outer s H vs Q E hr h=>?_)
 ·obtain⟨l,i,rfl,_⟩:=h;rfl
 ·obtain⟨l,i,rfl,q⟩:=h;have nd:=xbx.nd;refine⟨_,(xm (xw (zK (xB (xe1 T) (hr.mono (by decide)) (by rfl) T.xf3 T.q2s.kp T.xf2 .nil xu (xc (cv 1) xf)) (uT (yY xnm (cv 1) (cv 0)))))),?_⟩;walk_at"w";refine⟨i,rfl,?_⟩;walk_at"w";exact⟨fun _=>q,by walk_at"no"⟩
theorem xlB(T:Txt K mg a):xE P w K mg base CX0 2 a.q3t a.xdV ["value"] xly:=by
 refine T.q3y.ok xge (fun vs H Q E h=>?_) (fun cdv A outer s H vs Q E hr h=>?_)
 ·obtain⟨i,rfl,_⟩:=h;rfl
 ·obtain⟨i,rfl,hi,q⟩:=h;have nd:=xge.nd;refine⟨_,(xm (xw (zK (xB (xe1 T) (hr.mono (by decide)) (by rfl) T.xf3 T.q2s.kp T.xf2 .nil xu (xc (cv 0) xf)) (uT (yY xgG (xI xq3 (by rfl) T.q6K xqb (xc (cv 0) xf)) (xy xio xk xk)))))),?_⟩;walk_at"w";refine⟨i,rfl,?_⟩;walk_at"w";refine⟨fun _=>?_,by walk_at"no"⟩;walk_at"w";refine⟨⟨by decide,by decide,by decide⟩,?_⟩;walk_at"w";show Q (.bl (decide ((i.natAbs:Int)<10^(60:Int).toNat))) H;have e:decide ((i.natAbs:Int)<10^(60:Int).toNat)=true:=decide_eq_true hi;rw[e];exact q
theorem xji(T:Txt K mg a):xE P w K mg base CX0 3 a.q2x a.xb8 ["signs"] (xjd K):=by
 refine T.q2D.ok xea (fun vs H Q E h=>?_) (fun cdv A outer s H vs Q E hr h=>?_)
 ·obtain⟨u,sg,rfl,_⟩:=h;rfl
 ·obtain⟨u,sg,rfl,hu,hne,hlen,hs,q⟩:=h;have nd:=xea.nd;refine⟨_,(xm (xw (zK (xI uX (by rfl) T.q0q ye (xc (cv 0) (xc (xaS (v:=.ty "tuple") (by rfl) T.q2n zB rfl) xf))) (zK (yY xbU (xI xZ (by rfl) T.q1Z yK (xc (cv 0) xf)) xk) (uT (xI (xmi rfl) (by rfl) T.q6L xqc (xc (uu (uW (cap:=[]) (ys:=[]) rfl rfl rfl rfl rfl trivial (by decide+kernel)) rfl (xfx (cv 0)) (fun _ _ _ _=>(xB (xlB T) (hr.mono (by decide)) (by rfl) T.xmA T.q3y.kp T.xmz .nil xu (xc (cv 0) xf))) (fun _ _ _ _=>ur)) xf))))))),?_⟩;walk_at"w";refine⟨_,_,_,_,true,rfl,rfl,zA.tup hu,rfl,?_⟩;walk_at"w";refine⟨fun _=>?_,by walk_at"no"⟩;walk_at"w";refine⟨u,_,rfl,.inr (SqT.of hu),?_⟩;walk_at"w";have hpos:0<sg.length:=i3.mpr hne;refine⟨fun _=>?_,fun z=>by have:=of_decide_eq_false z;rw[ai]at this;lia⟩;walk_at"w";refine⟨u,rfl,⟨_,SqT.of hu⟩,?_⟩;refine xhF (fun i acc _=>acc=aD i (V.bl true)) (SqT.of hu) (by rw[ai,a6];lia) rfl (fun i x acc H3 H3' hx s3 s3' hp R hR=>?_) (fun D acc H3 H3' hD hD3 s3 s3' hp hl hv=>?_)
  ·rw[aA]at hx;cases hy:sg[i]? with
   |none=>rw[hy]at hx;cases hx
   |some y=>
    rw[hy]at hx;cases hx;walk_at"w";refine⟨y,rfl,hs y (aU hy),hR _ _ (xg.refl _) fun H6 _ _=>?_⟩;rw[hp,List.replicate_succ']
  ·walk_at"w";refine⟨D,aD sg.length true,rfl,SqL.of ?_,?_⟩
   ·rw[hv,hp,ai,j6]
   ·walk_at"w";show Q (.bl ((aD sg.length true).all id)) H3';have e:(aD sg.length true).all id=true:=by simp
    rw[e];exact q _ (s3.trans s3')
theorem xig(T:Txt K mg a):xE P w K mg base CX0 3 a.q2c a.xbo ["told"] (xh7 K):=by
 refine T.q2d.ok xdl (fun vs H Q E h=>?_) (fun cdv A outer s H vs Q E hr h=>?_)
 ·obtain⟨t,r,rfl,_⟩:=h;rfl
 ·obtain⟨t,r,rfl,ht,hk,q⟩:=h;have nd:=xdl.nd;refine⟨_,(xh (xM (PW.pt (xaN (xcf (zh (xI uX (by rfl) T.q0q ye (xc (cv 0) (xc (xaS (v:=.ty "tuple") (by rfl) T.q2n zB rfl) xf))))) (xaN (xO xbF (xI xZ (by rfl) T.q1Z yK (xc (cv 0) xf)) xk) (xaZ (xO xaM (xC xK (cv 0) xk (fun _ _=>rfl)) xG))))) (xm (xw zT)) xx)
  (xm (xw (zK (xB (zk T) (hr.mono (by decide)) (by rfl) T.zy T.q0z.kp T.zx .nil xu (xc xk (xc (xC xK (cv 0) xk (fun _ _=>rfl)) xf))) (zK (xB (zk T) (hr.mono (by decide)) (by rfl) T.zy T.q0z.kp T.zx .nil xu (xc xk (xc (xC xK (cv 0) xk (fun _ _=>rfl)) xf))) (uT (xB (zk T) (hr.mono (by decide)) (by rfl) T.zy T.q0z.kp T.zx .nil xu (xc xk (xc (xC xK (cv 0) xk (fun _ _=>rfl)) xf))))))))),?_⟩
  cases r with
  |put to sg=>
   obtain⟨u,h1,h2⟩:=ht;walk_at"w";refine⟨_,_,_,_,true,rfl,rfl,zA.tup h1,rfl,?_⟩;walk_at"w";refine⟨by walk_at"no",fun _=>?_⟩;walk_at"w";refine⟨t,_,rfl,.inr (SqT.of h1),?_⟩;walk_at"w";refine⟨fun _=>?_,by walk_at"no"⟩;walk_at"w";exact⟨fun _=>q,by walk_at"no"⟩
  |take to st c=>
   walk_at"w";refine⟨_,_,_,_,true,rfl,rfl,zA.tup ht,rfl,?_⟩;walk_at"w";refine⟨by walk_at"no",fun _=>?_⟩;walk_at"w";refine⟨t,_,rfl,.inr (SqT.of ht),?_⟩;walk_at"w";refine⟨by walk_at"no",fun _=>?_⟩;walk_at"w";refine⟨t,_,_,.str "take",rfl,rfl,SqT.of ht,rfl,?_⟩;walk_at"w";refine⟨by walk_at"no",fun _=>?_⟩;walk_at"w";obtain⟨k1,k2,k3⟩:=hk;refine⟨t,_,_,.int to,rfl,rfl,SqT.of ht,rfl,?_⟩;walk_at"w";refine⟨_,_,rfl,?_⟩;walk_at"w";refine⟨fun _=>?_,fun z=>absurd k1 (of_decide_eq_false z)⟩;walk_at"w";refine⟨t,_,_,.int st,rfl,rfl,SqT.of ht,rfl,?_⟩;walk_at"w";refine⟨_,_,rfl,?_⟩;walk_at"w";refine⟨fun _=>?_,fun z=>absurd k2 (of_decide_eq_false z)⟩;walk_at"w";refine⟨t,_,_,.int c,rfl,rfl,SqT.of ht,rfl,?_⟩;walk_at"w";refine⟨_,_,rfl,?_⟩;walk_at"w";rw[decide_eq_true k3];exact q
theorem xjj(T:Txt K mg a):xE P w K mg base CX0 4 a.q2w a.xb7 ["told"] (xje K):=by
 refine T.q2C.ok xd9 (fun vs H Q E h=>?_) (fun cdv A outer s H vs Q E hr h=>?_)
 ·obtain⟨t,to,sg,rfl,_⟩:=h;rfl
 ·obtain⟨t,to,sg,rfl,⟨u,h1,h2⟩,⟨k1,k2,k3,k4⟩,q⟩:=h;have nd:=xd9.nd;refine⟨_,(xh (xM (PW.pt (xaN (xcf (zh (xI uX (by rfl) T.q0q ye (xc (cv 0) (xc (xaS (v:=.ty "tuple") (by rfl) T.q2n zB rfl) xf))))) (xaN (xO xbF (xI xZ (by rfl) T.q1Z yK (xc (cv 0) xf)) xk) (xaZ (xO xaM (xC xK (cv 0) xk (fun _ _=>rfl)) xG))))) (xm (xw zT)) xx)
  (xm (xw (zK (xB (zk T) (hr.mono (by decide)) (by rfl) T.zy T.q0z.kp T.zx .nil xu (xc xk (xc (xC xK (cv 0) xk (fun _ _=>rfl)) xf))) (uT (xB (xji T) (hr.mono (by decide)) (by rfl) T.xjY T.q2D.kp T.xjX .nil xu (xc (xC xK (cv 0) xk (fun _ _=>rfl)) xf))))))),?_⟩
  walk_at"w";refine⟨_,_,_,_,true,rfl,rfl,zA.tup h1,rfl,?_⟩;walk_at"w";refine⟨by walk_at"no",fun _=>?_⟩;walk_at"w";refine⟨t,_,rfl,.inr (SqT.of h1),?_⟩;walk_at"w";refine⟨by walk_at"no",fun _=>?_⟩;walk_at"w";refine⟨t,_,_,.str "put",rfl,rfl,SqT.of h1,rfl,?_⟩;walk_at"w";refine⟨by walk_at"no",fun _=>?_⟩;walk_at"w";refine⟨t,_,_,.int to,rfl,rfl,SqT.of h1,rfl,?_⟩;walk_at"w";refine⟨_,_,rfl,?_⟩;walk_at"w";refine⟨fun _=>?_,fun z=>absurd k1 (of_decide_eq_false z)⟩;walk_at"w";refine⟨t,_,_,.ref u,rfl,rfl,SqT.of h1,rfl,?_⟩;walk_at"w";exact⟨u,sg,rfl,h2,k2,k3,k4,q⟩
theorem jj(T:Txt K mg a):xE P w K mg base CX0 5 a.q32 a.xfb ["told"] (xai K a):=by
 refine T.q10.ok xhM (fun vs H Q E h=>?_) (fun cdv A outer s H vs Q E hr h=>?_)
 ·obtain⟨t,r,rfl,_⟩:=h;rfl
 ·obtain⟨t,r,rfl,ht,hk,q⟩:=h;have nd:=xhM.nd;refine⟨_,(xh (xM (zh (xB (xig T) (hr.mono (by decide)) (by rfl) T.xiW T.q2d.kp T.xiV .nil xu (xc (cv 0) xf))) (xm (xw (xaT T.q54 (xjh T) (hr.mono (by decide)) (by rfl) T.xi1 T.xjT .nil xu (xc (xC xK (cv 0) xk (fun _ _=>rfl)) (xc (xC xK (cv 0) xk (fun _ _=>rfl)) (xc (xC xK (cv 0) xk (fun _ _=>rfl)) xf)))))) xx)
  (xh (xM (zh (xB (xjj T) (hr.mono (by decide)) (by rfl) T.xjW T.q2C.kp T.xjV .nil xu (xc (cv 0) xf))) (xm (xw (xaT T.q6o (xkb T) (hr.mono (by decide)) (by rfl) T.xri T.xlv .nil xu (xc (xC xK (cv 0) xk (fun _ _=>rfl)) (xc (xC xK (cv 0) xk (fun _ _=>rfl)) xf))))) xx)
  (xm xaX))),?_⟩
  walk_at"w";refine⟨t,r,rfl,ht,hk,?_⟩;cases r with
  |take to st c=>
   walk_at"w";refine⟨fun _=>?_,by walk_at"no"⟩;walk_at"w";refine⟨t,_,_,.int to,rfl,rfl,SqT.of ht,rfl,?_⟩;walk_at"w";refine⟨t,_,_,.int st,rfl,rfl,SqT.of ht,rfl,?_⟩;walk_at"w";refine⟨t,_,_,.int c,rfl,rfl,SqT.of ht,rfl,?_⟩;walk_at"w";intro x dx hx hdx hne;generalize hU:upd H dx (.own x)=H3;have sH3:=xg.of_eq hdx hU;have hx3:H3 x=none:=by rw[←hU,xr (au hne)];exact hx
   refine⟨x,dx,_,_,_,rfl,xt,?_⟩;rw[zq];walk_at"w";exact⟨rfl,q x _ (sH3.trans (xg.new hx3)) hx ⟨dx,xt⟩⟩
  |put to sg=>
   walk_at"w";refine⟨by walk_at"no",fun _=>?_⟩;walk_at"w";refine⟨t,to,sg,rfl,ht,hk,fun H2 s2=>?_⟩;walk_at"w";obtain⟨u,h1,h2⟩:=ht;refine⟨fun _=>?_,by walk_at"no"⟩;walk_at"w";refine⟨t,_,_,.int to,rfl,rfl,SqT.of (s2.at h1),rfl,?_⟩;walk_at"w";refine⟨t,_,_,.ref u,rfl,rfl,SqT.of (s2.at h1),rfl,?_⟩;walk_at"w";intro x dx hx hdx hne;generalize hU:upd H2 dx (.own x)=H3;have sH3:=xg.of_eq hdx hU;have hx3:H3 x=none:=by rw[←hU,xr (au hne)];exact hx
   refine⟨x,dx,u,_,_,rfl,xt,(sH3.trans (xg.new hx3)).seqT (SqT.of (s2.at h2)),?_⟩;rw[zq];walk_at"w";refine⟨rfl,q x _ (s2.trans (sH3.trans (xg.new hx3))) (s2.back hx) ⟨dx,u,?_,(s2.trans (sH3.trans (xg.new hx3))).at h2⟩⟩;rw[xt,ai]
end
def xov(H:Hp)(Q:VK)(xss:List (List Int)):Prop:=∀(l:Addr) (as:List Addr) (H':Hp),xg H H'→zW H H' l as xss→Q (.ref l) H'
def xc6(a:Adr):Sp:=fun vs H Q _=>∃(p dx:Addr) (to st c:Int),vs=[.ref p]∧H p=some (.ins a.q0h dx (xbP to st c))∧1≤c∧c≤1000∧(st - to).natAbs<2^200∧xov H Q (yC to st c)
def xc7(a:Adr):Sp:=fun vs H Q _=>∃(p dx t:Addr) (to n:Int),vs=[.ref p]∧H p=some (.ins a.q0k dx (xez to t n))∧n≤1000∧xov H Q [yx to n.toNat]
def xmP(K:ag):Sp:=fun vs H Q _=>∃(p C dx:Addr) (fs:List (Str×V)) (to c:Int),vs=[.ref p]∧H p=some (.ins C dx fs)∧Cls K C∧xJ K C "to"∧xJ K C "count"∧fs.lookup ("to":Str)=some (.int to)∧fs.lookup ("count":Str)=some (.int c)∧∀t,H t=none→Q (.ref t) (upd H t (.tup [.int to,.int (to+c)]))
theorem TupAt.off{K:ag}{H:Hp}{t p:Addr}{r:xq}{xs:List V}{o:HO}(h:TupAt K H t r)(hp:H p=some (.lst xs)):TupAt K (upd H p o) t r:=by
 have ne:∀{q:Addr} {ys:List V},H q=some (.tup ys)→upd H p o q=some (.tup ys):=fun{q ys} e=>by
  rw[xr (fun z=>by rw[z,hp]at e;cases e)];exact e
 cases r with
 |take to st c=>exact ne h
 |put to sg=>obtain⟨u,h1,h2⟩:=h;exact⟨u,ne h1,ne h2⟩
def Sm:xq→Prop
 | .take to st c=>to≤100∧st≤100∧c≤9
 | .put to sg=>to≤100∧sg.length≤9
theorem jW{α β:Type}{F:α→β→Prop}{x:α}{y:β}:∀{l₁:List α} {l₂:List β},Paired F l₁ l₂→F x y→Paired F (l₁++[x]) (l₂++[y])
 |_,_,.nil,h=>.cons h .nil
 |_,_,.cons r t,h=>.cons r (jW t h)
def xrO(old new:Int):xq→Prop
 | .take to st c=>st+c≤old∧to+c≤new
 | .put to sg=>to+sg.length≤new
theorem Paired.nth{α β:Type}{F:α→β→Prop}:∀{l₁:List α} {l₂:List β} {i:Nat} {x:α},Paired F l₁ l₂→l₁[i]? =some x→∃y,l₂[i]? =some y∧F x y
 |_,_,_,_,.nil,e=>by simp at e
 |_,_,0,_,.cons r _,e=>by simp at e;subst e;exact⟨_,rfl,r⟩
 |_,_,i+1,_,.cons _ t,e=>by
  obtain⟨y,h1,h2⟩:=Paired.nth (i:=i) t (by simpa using e);exact⟨y,by simpa using h1,h2⟩
def GT(K:ag)(H:Hp)(u:Addr)(r:xq):Prop:=TupAt K H u r∧r.ok∧Sm r
def xq.cv:xq→List Int
 | .take to _ c=>yx to c.toNat
 | .put to sg=>yx to sg.length
def xq.rds:xq→List Int
 | .take to st c=>if st=to then[]else yx st c.toNat
 | .put _ _=>[]
def xq.wrs:xq→List Int
 | .take to st c=>if st=to then[]else yx to c.toNat
 | .put to sg=>yx to sg.length
def num:Nat→List (List Int)→List (Nat×Int)
 |_,[]=>[]
 |k,cs::r=>cs.map (fun c=>(k,c))++num (k+1) r
def tw:List (Nat×Int)→List Int→Option (Nat×Int)
 |[],_=>none
 |(k,c)::r,seen=>if c∈seen then some (k,c)else tw r (c::seen)
def uk(rs:List xq):Option (Nat×Int):=tw (num 0 (rs.map xq.cv)) []
def um(rs:List xq)(new:Nat):Option Int:=((b8 new).map fun(i:Nat)=>(i:Int)).find? fun c=> !decide (c∈(rs.map xq.cv).flatten)
def uR:Nat→List xq→List Int→Option (Nat×Int)
 |_,[],_=>none
 |k,r::rest,wr=>match r.rds.find? fun c=>decide (c∈wr)with
  |some c=>some (k,c)
  |none=>uR (k+1) rest (wr++r.wrs)
def vS(rs:List xq):Option (Nat×Int):=uR 0 rs []
def xlC(H:Hp)(Q:VK)(w:Str):Option (Nat×Int)→Prop
 |none=>∀H',xg H H'→Q .non H'
 |some (k,c)=>∀t H',xg H H'→H' t=some (.tup [.str w,.int k,.int c])→Q (.ref t) H'
def xqs(H:Hp)(Q:VK)(w:Str):Option Int→Prop
 |none=>∀H',xg H H'→Q .non H'
 |some c=>∀t H',xg H H'→H' t=some (.tup [.str w,.int c])→Q (.ref t) H'
def xgk(rs:List xq):Prop:=rs.length≤300∧∀r∈rs,r.cv.length≤300∧r.rds.length≤300∧r.wrs.length≤300
def xnJ(K:ag)(a:Adr):Sp:=fun vs H Q _=>∃(l:Addr) (rs:List xq),vs=[.ref l]∧xjb K a H l rs∧xgk rs∧uk rs=none∧xlC H Q "twice" (uk rs)
def xlD(K:ag)(a:Adr):Sp:=fun vs H Q _=>∃(l:Addr) (rs:List xq) (new:Nat),vs=[.ref l,.int new]∧xjb K a H l rs∧xgk rs∧new≤300∧xqs H Q "lacks" (um rs new)
def xpq(K:ag)(a:Adr):Sp:=fun vs H Q _=>∃(l:Addr) (rs:List xq),vs=[.ref l]∧xjb K a H l rs∧xgk rs∧xlC H Q "late" (vS rs)
def xq.to:xq→Int
 | .take t _ _=>t
 | .put t _=>t
def xq.cnt:xq→Nat
 | .take _ _ c=>c.toNat
 | .put _ sg=>sg.length
def xq.sg(es:List Int):xq→List Int
 | .take _ st c=>(es.drop st.toNat).take c.toNat
 | .put _ sg=>sg
def xq.fits(es:List Int):xq→Prop
 | .take _ st c=>st+c≤es.length
 | .put _ _=>True
theorem xq.sg_len{es:List Int}{r:xq}(ok:r.ok)(f:r.fits es):(r.sg es).length=r.cnt:=by
 cases r with
 |take to st c=>
  obtain⟨k1,k2,k3⟩:=ok;have f':st+c≤es.length:=f;simp only[xq.sg,xq.cnt,bC,dn];lia
 |put to sg=>rfl
theorem xq.ok.to{r:xq}(ok:r.ok):0≤r.to:=by
 cases r with
 |take to st c=>exact ok.1
 |put to sg=>exact ok.1
def Tells(es nw:List Int)(r:xq):Prop:=r.ok∧r.fits es∧r.to+r.cnt≤nw.length∧∀i:Nat,i<r.cnt→nw[(r.to+i).toNat]? =(r.sg es)[i]?
def zO(r:xq)(j:Nat):Prop:=r.to≤j∧(j:Int)<r.to+r.cnt
def jH(K:ag)(H:Hp)(p:Addr)(o n:Int)(rs:List xq):Prop:=∃t ts,H p=some (.tup [.int o,.int n,.ref t])∧H t=some (.tup (ts.map V.ref))∧Paired (TupAt K H) ts rs
theorem jH.same{K:ag}{H H':Hp}{p:Addr}{o n:Int}{rs:List xq}(h:jH K H p o n rs)(s:xg H H'):jH K H' p o n rs:=by
 obtain⟨t,ts,h1,h2,h3⟩:=h;exact⟨t,ts,s.at h1,s.at h2,L2.Paired.imp' (fun _ _ z=>z.same s) h3⟩
def Fit(old new:Int):xq→Prop
 | .take to st c=>st+c≤old∧to+c≤new
 | .put to sg=>to+sg.length≤new
def xjk:Sp:=fun vs H Q _=>∃i:Int,vs=[.int i]∧0≤i∧i≤300∧Q (.bl true) H
inductive xkH(K:ag)(vs:List V)(H:Hp)(Q:VK):Prop
 |mk (p:Addr) (o n:Int) (rs:List xq):(vs=[.ref p])→(jH K H p o n rs)→(0≤o)→(o≤300)→(0≤n)→(n≤300)→(rs.length≤300)→(Q (.bl true) H)→xkH K vs H Q
def xpr(K:ag):Sp:=fun vs H Q _=>xkH K vs H Q
def xlE(K:ag):Sp:=fun vs H Q _=>∃(t:Addr) (r:xq) (old new:Int),vs=[.ref t,.int old,.int new]∧TupAt K H t r∧r.ok∧Fit old new r∧∀H',xg H H'→Q (.bl true) H'
def xnK(K:ag):Sp:=fun vs H Q _=>∃(p:Addr) (o n:Int) (rs:List xq),vs=[.ref p]∧jH K H p o n rs∧(∀r∈rs,r.ok∧Fit o n r)∧rs.length≤300∧∀H',xg H H'→Q .non H'
def xjl(H:Hp)(Q:VK)(rs:List xq)(n:Int):Prop:=match um rs n.toNat with
 |some c=>xqs H Q "lacks" (some c)
 |none=>xlC H Q "late" (vS rs)
inductive xjm(K:ag)(vs:List V)(H:Hp)(Q:VK):Prop
 |mk (p:Addr) (o n:Int) (rs:List xq):(vs=[.ref p])→(jH K H p o n rs)→((0≤o∧o≤300))→((0≤n∧n≤300))→(rs.length≤300)→((∀r∈rs,r.ok∧Fit o n r))→(uk rs=none)→(xjl H Q rs n)→xjm K vs H Q
def xnL(K:ag):Sp:=fun vs H Q _=>xjm K vs H Q
def xq.neg(_:xq):Prop:=True
def xq.inO(old:Int):xq→Prop
 | .take _ st c=>st+c≤old
 | .put .. =>True
def Good(old:Int)(r:xq):Prop:=r.ok∧r.neg∧r.inO old
inductive Tl(old:Int):List xq→Int→Prop
 |nil:Tl old [] 0
 |snoc {rs:List xq} {at' n:Int} {r:xq}:Tl old rs at'→Good old r→r.to=at'→(r.cnt:Int)=n→Tl old (rs++[r]) (at'+n)
def pcs:xq→List (List Int)
 | .take to st c=>yC to st c
 | .put to sg=>[yx to sg.length]
def xlF(C:List Int):xq→Int→Option Int
 | .take to st _,j=>C[(st+j - to).toNat]?
 | .put to sg,j=>sg[(j - to).toNat]?
def Part(C:List Int)(r:xq)(D cur:List Int):Prop:=cur.length=C.length∧∀j:Nat,j<C.length→cur[j]? =if (j:Int)∈D then xlF C r j else C[j]?
def xow(rs:List xq)(C0:List Int)(Cs:Nat→List Int)(k:Nat):Prop:=Cs 0=C0∧(∀j,(Cs j).length=C0.length)∧∀j r,j<k→rs[j]? =some r→Part (Cs j) r (pcs r).flatten (Cs (j+1))
section
variable {P:av} {w:World} {K:ag} {mg:Str→Option Value} {base:Heap} {a:Adr}
theorem xih(T:Txt K mg a):xE P w K mg base CX0 2 a.q1Q a.xbn ["self"] (xc7 a):=by
 refine T.q2N.ok xdk (fun vs H Q E h=>?_) (fun cdv A outer s H vs Q E hr h=>?_)
 ·obtain⟨p,dx,t,to,n,rfl,_⟩:=h;rfl
 ·obtain⟨p,dx,t,to,n,rfl,hp,hn,k⟩:=h;have nd:=xdk.nd;refine⟨_,(xm (xw (xY (xc (xU (cv 0) T.q1G T.q2b (yP T) (hr.mono (by decide)) T.yW .nil xu) xf)))),?_⟩;walk_at"w";refine⟨p,dx,_,rfl,hp,rfl,?_⟩;walk_at"w";refine⟨p,_,dx,_,to,n,rfl,hp,T.q1G,T.q24,T.q1W,rfl,rfl,by lia,fun l H1 s1 hl e1=>?_⟩;walk_at"w";walk_at"ss";intro D hD;have hD0:=s1.back hD;refine k D [l] _ (s1.put hD0) ⟨xt,?_,rfl,fun i b xs h1 h2=>?_,hD0,fun b hb=>?_⟩
  ·have:D≠l:=fun z=>by rw[z,e1]at hD;cases hD
   simpa using this
  ·cases i with
   |zero=>
    simp at h1 h2;subst h1 h2;rw[xr (xF e1 hD)];exact e1
   |succ i=>simp at h1
  ·rw[ao.mp hb];exact hl
theorem xhe(T:Txt K mg a):xE P w K mg base CX0 2 a.q1C a.xax ["self"] (xc6 a):=by
 refine T.q2j.ok xcr (fun vs H Q E h=>?_) (fun cdv A outer s H vs Q E hr h=>?_)
 ·obtain⟨p,dx,to,st,c,rfl,_⟩:=h;rfl
 ·obtain⟨p,dx,to,st,c,rfl,hp,hc1,hc2,hd,k⟩:=h;have nd:=xcr.nd;refine⟨_,(xh (xM (zh (xU (cv 0) T.q0l T.q3k (xaD T) (hr.mono (by decide)) T.xbu .nil xu)) (xm (xw (xY xf))) xx)
  (xh (xD (i:=1) nd rfl (bT rfl) (xA (cv 0) rfl))
  (xh (xD (i:=2) nd rfl (bT rfl) (xy yv (xA (cv 0) rfl) (xA (cv 0) rfl)))
  (xh (xM (xO xgG (xA (cv 0) rfl) (xA (cv 0) rfl)) (xh (xD (i:=3) nd rfl (bT rfl) (xy yw (xA (cv 0) rfl) (xA (cv 0) rfl)))
  (xm (xw (uu (uW (cap:=[2,3]) (ys:=["end","step"]) rfl rfl rfl rfl rfl ⟨⟨rfl,rfl,.inl rfl⟩,⟨⟨rfl,rfl,.inl rfl⟩,trivial⟩⟩ (by decide+kernel)) rfl (xhB (by rfl) T.q1j (xc (cv 1) (xc (cv 2) (xc (cv 3) xf)))) (fun _ _ _ _=>(yd (vN rfl) (by rfl) T.q22 zL (xc (xbH (by rfl) T.q1j (xc (cv 0) (xc (xI (xfQ rfl) (by rfl) T.q5N xfN (xc (xy yv (cv 0) (cv 2)) (xc (cv 1) xf))) xf))) xf))) (fun _ _ _ _=>ur))))) xx)
  (xh (xD (i:=3) nd rfl (bT rfl) (xy yw (xA (cv 0) rfl) (xA (cv 0) rfl)))
  (xm (xw (uu (uW (cap:=[1,3]) (ys:=["first","step"]) rfl rfl rfl rfl rfl ⟨⟨rfl,rfl,.inl rfl⟩,⟨⟨rfl,rfl,.inl rfl⟩,trivial⟩⟩ (by decide+kernel)) rfl (xhB (by rfl) T.q1j (xc (cv 2) (xc (cv 1) (xc (xqK xqV (cv 3)) xf)))) (fun _ _ _ _=>(yd (vN rfl) (by rfl) T.q22 zL (xc (xbH (by rfl) T.q1j (xc (xI (xfP rfl) (by rfl) T.q5D xdJ (xc (xy yw (cv 0) (cv 2)) (xc (cv 1) xf))) (xc (cv 0) xf))) xf))) (fun _ _ _ _=>ur))))))))),?_⟩
  walk_at"w";refine⟨p,dx,_,rfl,hp,rfl,?_⟩;walk_at"w";refine⟨p,dx,to,st,c,rfl,hp,?_⟩;walk_at"w";refine⟨fun e=>?_,fun e=>?_⟩
  ·have e':st=to:=of_decide_eq_true e;walk_at"w";walk_at"ss";intro l hl;refine k l [] _ (xg.new hl) ?_;rw[yC,if_pos e'];exact zW.nil (H':=H) hl xt
  ·have e':¬st=to:=of_decide_eq_false e;walk_at"w";refine⟨p,_,dx,_,.int to,rfl,hp,T.q0l,T.q0Z,rfl,?_⟩;walk_at"w";refine⟨p,_,dx,_,.int to,rfl,hp,T.q0l,T.q0Z,rfl,?_⟩;walk_at"w";refine⟨p,_,dx,_,.int c,rfl,hp,T.q0l,T.q0T,rfl,?_⟩;walk_at"w";refine⟨p,_,dx,_,.int to,rfl,hp,T.q0l,T.q0Z,rfl,?_⟩;walk_at"w";refine⟨p,_,dx,_,.int st,rfl,hp,T.q0l,T.q0F,rfl,?_⟩;walk_at"w";refine⟨fun e2=>?_,fun e2=>?_⟩
   ·have e3:to<st:=of_decide_eq_true e2;walk_at"w";refine⟨p,_,dx,_,.int st,rfl,hp,T.q0l,T.q0F,rfl,?_⟩;walk_at"w";refine⟨p,_,dx,_,.int to,rfl,hp,T.q0l,T.q0Z,rfl,?_⟩;walk_at"w";refine a7 (xmM (by lia) hd) ?_;walk_at"w";obtain⟨d,hdd⟩:∃d:Nat,st - to=(d:Int):=⟨(st - to).toNat,by lia⟩;have hd0:0<d:=by lia
    rw[hdd,xpo to c d hc1 hd0];refine xfR (uch to d c.toNat) (bo ?_ (show 1000≤aM by decide)) (fun i H3 hi s3 R hR=>?_) (fun D H2 as s2 L=>?_)
    ·have:=xeC (uch to d) d c.toNat hd0;unfold chs at this;rw[ai,gA]at this;lia
    ·walk_at"w";intro r hr;generalize hUr:upd H3 r _=H4;have sH4:=xg.of_eq hr hUr;have er:=xj hUr;clear hUr;walk_at"w";have ep:(i:Int)*(d:Int)=((i*d:Nat):Int):=by rw[Int.natCast_mul]
     have el:yy (to+((i*d:Nat):Int)) (min (to+((i*d:Nat):Int)+(st - to)) (to+c)) 1=min d (c.toNat - i*d):=by
      rw[zV];generalize i*d=q;lia
     rw[ep]at er;refine⟨r,_,_,rfl,er,by rw[el];lia,fun l hl=>?_⟩;rw[el,xeA];exact hR l _ (sH4.put (sH4.back hl)) (sH4.back hl) xt
    ·refine k D as H2 s2 ?_;rw[yC,if_neg e',if_pos e3,hdd];exact L
   ·have e3:¬to<st:=of_decide_eq_false e2;walk_at"w";refine⟨p,_,dx,_,.int to,rfl,hp,T.q0l,T.q0Z,rfl,?_⟩;walk_at"w";refine⟨p,_,dx,_,.int st,rfl,hp,T.q0l,T.q0F,rfl,?_⟩;walk_at"w";refine a7 (xmM (by lia) (by lia)) ?_;walk_at"w";obtain⟨d,hdd⟩:∃d:Nat,to - st=(d:Int):=⟨(to - st).toNat,by lia⟩;have hd0:0<d:=by lia
    rw[hdd,xmN to c d hc1 hd0];refine xfR (dch (to+c) d c.toNat) (bo ?_ (show 1000≤aM by decide)) (fun i H3 hi s3 R hR=>?_) (fun D H2 as s2 L=>?_)
    ·have:=xeC (dch (to+c) d) d c.toNat hd0;unfold chs at this;rw[ai,gA]at this;lia
    ·walk_at"w";intro r hr;generalize hUr:upd H3 r _=H4;have sH4:=xg.of_eq hr hUr;have er:=xj hUr;clear hUr;walk_at"w";have ep:(i:Int)* -(d:Int)= -((i*d:Nat):Int):=by rw[Int.mul_neg,Int.natCast_mul]
     have hid:i*d≤c.toNat:=xnI hd0 hi;have el:yy (max (to+c+ -((i*d:Nat):Int) - (to - st)) to) (to+c+ -((i*d:Nat):Int)) 1=min d (c.toNat - i*d):=by
      rw[zV];generalize i*d=q at hid;lia
     rw[ep]at er;refine⟨r,_,_,rfl,er,by rw[el];lia,fun l hl=>?_⟩;rw[el,xeA];refine hR l _ (sH4.put (sH4.back hl)) (sH4.back hl) ?_;rw[xt];unfold dch;have e5:max (to+c+ -((i*d:Nat):Int) - (to - st)) to=to+c - ((min ((i+1)*d) c.toNat:Nat):Int):=by
      rw[eP];generalize i*d=q at hid;lia
     rw[e5]
    ·refine k D as H2 s2 ?_;rw[yC,if_neg e',if_neg e3,hdd];exact L
def uv:xq→List (List Int)
 | .take to st c=>yC to st c
 | .put to sg=>[yx to sg.length]
theorem xkc{r:xq}(hk:r.ok)(hs:Sm r):(uv r).length≤9:=by
 cases r with
 |take to st c=>
  obtain⟨k1,k2,k3⟩:=hk;obtain⟨s1,s2,s3⟩:=hs;show(yC to st c).length≤9;unfold yC
  split
  ·simp
  ·split
   ·have:=xeC (uch to (st - to).toNat) (st - to).toNat c.toNat (by lia);lia
   ·have:=xeC (dch (to+c) (to - st).toNat) (to - st).toNat c.toNat (by lia);lia
 |put to sg=>show 1≤9;lia
def zd(K:ag)(H0:Hp)(tl:Addr)(G:Hp)(u:Addr)(x:xq×List Int):Prop:=∃t c:Addr,(c≠tl∧H0 c=none)∧G u=some (.tup [.ref t,.ref c])∧TupAt K G t x.1∧G c=some (.lst (x.2.map V.int))
theorem zd.same{H0:Hp}{tl:Addr}{G G':Hp}{u:Addr}{x:xq×List Int}(h:zd K H0 tl G u x)(s:xg G G'):zd K H0 tl G' u x:=by
 obtain⟨t,c,h1,h2,h3,h4⟩:=h;exact⟨t,c,h1,s.at h2,h3.same s,s.at h4⟩
theorem zd.off{H0:Hp}{tl:Addr}{G:Hp}{u:Addr}{x:xq×List Int}{xs:List V}{o:HO}(h:zd K H0 tl G u x)(hp:G tl=some (.lst xs)):zd K H0 tl (upd G tl o) u x:=by
 obtain⟨t,c,h1,h2,h3,h4⟩:=h;exact⟨t,c,h1,by rw[xr (fun z=>by rw[z,hp]at h2;cases h2)];exact h2,h3.off hp,by rw[xr h1.1];exact h4⟩
def yn(rs:List xq):List (xq×List Int):=rs.flatMap fun r=>(uv r).map fun c=>(r,c)
theorem xdv{α β:Type}{F:α→β→Prop}:∀{l₁ l₃:List α} {l₂ l₄:List β},Paired F l₁ l₂→Paired F l₃ l₄→Paired F (l₁++l₃) (l₂++l₄)
 |_,_,_,_,.nil,h=>h
 |_,_,_,_,.cons r t,h=>.cons r (xdv t h)
def xjn(K:ag):Sp:=fun vs H Q _=>∃(p tt:Addr) (o n:V) (us:List Addr) (rs:List xq),vs=[.ref p]∧H p=some (.tup [o,n,.ref tt])∧H tt=some (.tup (us.map V.ref))∧Paired (GT K H) us rs∧us.length≤58∧
 ∀(l:Addr) (ws:List Addr) (H':Hp),xg H H'→H l=none→H' l=some (.lst (ws.map V.ref))→Paired (zd K H l H') ws (yn rs)→Q (.ref l) H'
theorem GT.same{H H':Hp}{u:Addr}{r:xq}(h:GT K H u r)(s:xg H H'):GT K H' u r:=⟨h.1.same s,h.2⟩
theorem xjo{H0:Hp}{tl:Addr}{L0 L G:Hp}{l t:Addr}{as:List Addr}{xss:List (List Int)}{r:xq}(s0:xg H0 L0)(hL:zW L0 L l as xss)(sL:xg L G)(hT:TupAt K G t r)(htl:L0 tl≠none):∀{ws:List Addr} {i:Nat},Paired (fun w a=>G w=some (.tup [.ref t,.ref a])) ws (as.drop i)→Paired (zd K H0 tl G) ws ((xss.drop i).map fun c=>(r,c))
 |ws,i,h=>by
  have hlen:=hL.len
  by_cases hi:i<as.length
  ·have e1:as.drop i=as[i]::as.drop (i+1):=b7 hi;have hi2:i<xss.length:=by lia
   have e2:xss.drop i=xss[i]::xss.drop (i+1):=b7 hi2;rw[e1]at h;rw[e2,bp];cases h with
   |cons h1 h2=>
    have hfr:=hL.frs _ (fw hi);refine .cons ⟨t,as[i],⟨fun z=>htl (by rw[←z];exact hfr),s0.back hfr⟩,h1,hT,sL.at (hL.each i _ _ (aC hi) (aC hi2))⟩ (xjo s0 hL sL hT htl h2)
  ·rw[bV (by lia)]at h;rw[bV (by lia)];cases h;exact .nil
 termination_by _ i=>as.length - i
theorem xlG(T:Txt K mg a){H:Hp}{t:Addr}{r:xq}{Q:VK}{σ:L2.St}{i:Nat}(hT:GT K H t r)
  (k:∀l as H1 H2,xg H H1→xg H1 H2→zW H1 H2 l as (uv r)→Q (.ref l) H2) (hσ:σ[i]? =some (some (.ref t)):=by rfl):
  zm a.q0k "pieces" (xc7 a) [] E0 (xer (xai K a) [] E0 (xfy (zU i) vU)) vU σ H Q∨zm a.q0h "pieces" (xc6 a) [] E0 (xer (xai K a) [] E0 (xfy (zU i) vU)) vU σ H Q:=by
 obtain⟨hT,hk,hs⟩:=hT;have go:∀{R:VK},xai K a [.ref t] H R E0→xer (xai K a) [] E0 (xfy (zU i) vU) σ H R:=fun h=>by
  unfold xer xfy vU zU;rw[hσ];exact h
 cases r with
 |put to sg=>
  left
  unfold zm;refine go ⟨t,_,rfl,hT,hk,fun o H1 s1 ho hob=>?_⟩;obtain⟨dx,u,h1,h2⟩:=hob;have h9:sg.length≤9:=hs.2;refine⟨o,dx,_,rfl,h1,rfl,?_⟩;show xc7 a [.ref o] H1 Q E0;refine⟨o,dx,u,to,sg.length,rfl,h1,by lia,fun l as H2 s2 L=>k l as H1 H2 s1 s2 ?_⟩;rw[show((sg.length:Int)).toNat=sg.length by lia]at L;exact L
 |take to st c=>
  right
  unfold zm;refine go ⟨t,_,rfl,hT,hk,fun o H1 s1 ho hob=>?_⟩;obtain⟨dx,h1⟩:=hob;obtain⟨k1,k2,k3⟩:=hk;obtain⟨s1',s2',s3'⟩:=hs;refine⟨o,dx,_,rfl,h1,rfl,?_⟩;show xc6 a [.ref o] H1 Q E0;have hb:(st - to).natAbs<2^200:=dI (show(st - to).natAbs≤1000 by lia) (by decide);exact⟨o,dx,to,st,c,rfl,h1,k3,by lia,hb,fun l as H2 s2 L=>k l as H1 H2 s1 s2 L⟩
theorem xjp(T:Txt K mg a):xE P w K mg base CX0 6 a.q2y a.xb9 ["paper"] (xjn K):=by
 refine T.q2E.ok xeb (fun vs H Q E h=>?_) (fun cdv A outer s H vs Q E hr h=>?_)
 ·obtain⟨p,tt,o,n,us,rs,rfl,_⟩:=h;rfl
 ·obtain⟨p,tt,o,n,us,rs,rfl,hp,ht,hus,hul,q⟩:=h;have nd:=xeb.nd;refine⟨_,(xh (xD (i:=1) nd rfl (az rfl) (xY xf))
  (xh (yE bf rfl (xfx (xC xK (cv 0) xk (fun _ _=>rfl))) (xN (i:=2) nd rfl (bT rfl)) (xm (xR (xfB PySem.F.plainAttrs_list PySem.F.slot_list_extend PySem.F.type_list_extend xl4 (cv 1) (xc (uu (uW (cap:=[2]) (ys:=["told"]) rfl rfl rfl rfl rfl ⟨⟨rfl,rfl,.inl rfl⟩,trivial⟩ (by decide+kernel)) rfl (zJ (xa1 (xU (xB (jj T) (hr.mono (by decide)) (by rfl) T.jT T.q10.kp T.jS .nil xu (xc (cv 2) xf)) T.q1G T.q5b (xih T) (hr.mono (by decide)) T.xiU .nil xu) (xU (xB (jj T) (hr.mono (by decide)) (by rfl) T.jT T.q10.kp T.jS .nil xu (xc (cv 2) xf)) T.q0l T.q4V (xhe T) (hr.mono (by decide)) T.xh1 .nil xu))) (fun _ _ _ _=>(xH (xc (cv 1) (xc (cv 0) xf)))) (fun _ _ _ _=>ur)) xf)))))
  (xm (xw (cv 1))))),?_⟩
  walk_at"w";walk_at"ss";intro pl hpl;generalize hUpl:upd H pl _=H1;have sH1:=xg.of_eq hpl hUpl;have epl:=xj hUpl;clear hUpl;walk_at"w";refine⟨p,_,_,.ref tt,rfl,rfl,SqT.of (sH1.at hp),rfl,?_⟩;walk_at"w";refine⟨tt,rfl,⟨_,SqT.of (sH1.at ht)⟩,?_⟩;walk_at"w";refine xhC (xs:=us.map V.ref) (fun i σ G=>xg H G∧∃(ws:List Addr) (x2:Option V),σ=[some (.ref p),some (.ref pl),x2]∧G pl=some (.lst (ws.map V.ref))∧Paired (zd K H pl G) ws (yn (rs.take i))∧ws.length≤9*i)
   ⟨sH1,[],_,rfl,epl,.nil,by simp⟩ (fun i σ G hi hP=>SqT.of (hP.1.at ht)) (fun i x σ G hx hP=>?_) (fun σ G hP=>?_)
  ·obtain⟨sG,ws,x2,rfl,epl',hws,hwl⟩:=hP;rw[aA]at hx;obtain⟨t,ht',rfl⟩:=aJ.mp hx;have hi:i<us.length:=(ax.mp ht').1;obtain⟨r,hr',hT⟩:=Paired.nth hus ht';have hTG:=hT.same sG;walk_at"w";refine⟨.inl ⟨rfl,_,SqL.of epl'⟩,?_⟩;walk_at"w";have hplen:=xkc hT.2.1 hT.2.2;refine xlG (K:=K) T hTG fun L as G1 G2 s1 s2 hL=>?_;walk_at"w";refine⟨L,rfl,⟨_,SqL.of hL.top⟩,?_⟩;have hal:as.length=(uv r).length:=hL.len;refine xlj (fun i acc G=>∃ws2:List Addr,acc=ws2.map V.ref∧Paired (fun w a=>G w=some (.tup [.ref t,.ref a])) ws2 (as.take i)) (SqL.of hL.top) (by rw[ai,a6];lia) ⟨[],rfl,by rw[iD];exact .nil⟩ (fun j x acc H3 H3' hx s3 s3' hP R hR=>?_) (fun D acc H9 H9' hD hD3 s9 s9' hP hl9 hv=>?_)
   ·obtain⟨ws2,rfl,hws2⟩:=hP;rw[aA]at hx;obtain⟨c,hc,rfl⟩:=aJ.mp hx;walk_at"w";walk_at"ss";intro w hw;refine hR _ _ (xg.new hw) fun H6 sx kx=>⟨ws2++[w],by simp,?_⟩;rw[bH,hc];exact jW (L2.Paired.imp' (fun _ _ (z:H3 _=some _)=>sx.at z) hws2) (kx w _ (.inl hw) xt)
   ·obtain⟨ws2,rfl,hws2⟩:=hP;rw[ai,bS]at hws2;rw[ai,ai]at hl9;have sB:xg G H9':=s1.trans (s2.trans (s9.trans s9'));have hpl9:=sB.at epl';have hTr:TupAt K H9' t r:=hTG.1.same sB;have hpi:=xjo (K:=K) (H0:=H) (tl:=pl) (G:=H9') (sG.trans s1) hL (s9.trans s9') hTr (by rw[s1.at epl'];exact fun z=>by cases z) (ws:=ws2) (i:=0) (by rw[fV];exact L2.Paired.imp' (fun _ _ (z:H9 _=some _)=>s9'.at z) hws2);rw[fV]at hpi;walk_at"w";refine⟨pl,D,_,_,rfl,rfl,hpl9,hv,by rw[ai,ai,a6];lia,?_⟩;generalize hU:upd H9' pl _=G6;refine⟨xg.wr (sG.trans sB) hpl hU,ws++ws2,_,rfl,?_,?_,?_⟩
    ·rw[←hU,xt,bN]
    ·have e:yn (rs.take (i+1))=yn (rs.take i)++(uv r).map fun c=>(r,c):=by
      unfold yn;rw[bH,hr',fP];simp
     rw[e,←hU];exact xdv (L2.Paired.imp' (fun _ _ (z:zd K H pl G _ _)=>(z.same sB).off hpl9) hws) (L2.Paired.imp' (fun _ _ (z:zd K H pl H9' _ _)=>z.off hpl9) hpi)
    ·rw[aW];lia
  ·obtain⟨sG,ws,x2,rfl,epl',hws,hwl⟩:=hP;walk_at"w";have e:rs.take (us.map V.ref).length=rs:=by rw[ai,hus.length,bS]
   rw[e]at hws;exact q pl ws G sG hpl epl' hws
def xlH(a:Adr):Sp:=fun vs H Q _=>∃(p dx:Addr) (to st c cell:Int),vs=[.ref p,.int cell]∧H p=some (.ins a.q0h dx (xbP to st c))∧Q (.int (st+cell - to)) H
theorem xaj(T:Txt K mg a):xE P w K mg base CX0 1 a.q0M a.vC ["self","cell"] (xlH a):=by
 refine T.q1y.ok xae (fun vs H Q E h=>?_) (fun cdv A outer s H vs Q E hr h=>?_)
 ·obtain⟨p,dx,to,st,c,cell,rfl,_⟩:=h;rfl
 ·obtain⟨p,dx,to,st,c,cell,rfl,hp,k⟩:=h;have nd:=xae.nd;refine⟨_,(xm (xw (xy yw (xy yv (xA (cv 0) rfl) (cv 1)) (xA (cv 0) rfl)))),?_⟩;walk_at"w";refine⟨p,_,dx,_,.int st,rfl,hp,T.q0l,T.q0F,rfl,?_⟩;walk_at"w";refine⟨p,_,dx,_,.int to,rfl,hp,T.q0l,T.q0Z,rfl,?_⟩;exact k
def plc(r:xq)(c:Int):List Int:=match r with
 | .take to st _=>[st+c - to,c]
 | .put _ _=>[c]
def yT(r:xq)(cs:List Int):List Int:=cs.flatMap (plc r)
theorem xef{r:xq}{cs:List Int}{i:Nat}{d:Int}(h:cs[i]? =some d):yT r (cs.take (i+1))=yT r (cs.take i)++plc r d:=by
 unfold yT;rw[bH,h,fP];simp
theorem xcd(r:xq):∀cs:List Int,(yT r cs).length≤2*cs.length
 |[]=>by simp[yT]
 |c::cs=>by
  have:=xcd r cs;have h2:(plc r c).length≤2:=by cases r<;> simp[plc]
  simp only[yT,List.flatMap_cons,aW,bB]at this⊢;lia
def xmQ(K:ag)(a:Adr):Sp:=fun vs H Q _=>∃(o cl:Addr) (r:xq) (cs:List Int),vs=[.ref o,.ref cl]∧yS K a H o r∧H cl=some (.lst (cs.map V.int))∧cs.length≤300∧xfj H Q (yT r cs)
theorem xfl(T:Txt K mg a):xE P w K mg base CX0 2 a.q1n a.jv ["row","cells"] (xmQ K a):=by
 refine T.q1t.ok xbz (fun vs H Q E h=>?_) (fun cdv A outer s H vs Q E hr h=>?_)
 ·obtain⟨o,cl,r,cs,rfl,_⟩:=h;rfl
 ·obtain⟨o,cl,r,cs,rfl,ho,hcl,hn,q⟩:=h;have nd:=xbz.nd;refine⟨_,(xh (xD (i:=2) nd rfl (az rfl) (xY xf))
  (xh (yE bf rfl (zJ (cv 1)) (xN (i:=3) nd rfl (az rfl)) (xh (zu (xM (zh (xI uX (by rfl) T.q0q ye (xc (cv 0) (xc (uq (v:=.ref a.q0h) (by rfl) T.xi1 rfl) xf)))) (xm (xR (xfB PySem.F.plainAttrs_list PySem.F.slot_list_append PySem.F.type_list_append jY (cv 2) (xc (xT (cv 0) T.q0l T.q2v (xaj T) (hr.mono (by decide)) T.xaG .nil xu (xc (cv 3) xf)) xf)))) xx))
  (xm (xR (xfB PySem.F.plainAttrs_list PySem.F.slot_list_append PySem.F.type_list_append jY (cv 2) (xc (cv 3) xf))))))
  (xm (xw (cv 2))))),?_⟩
  walk_at"w";walk_at"ss";intro pl hpl;generalize hUpl:upd H pl _=H1;have sH1:=xg.of_eq hpl hUpl;have epl:=xj hUpl;clear hUpl;walk_at"w";refine⟨cl,rfl,⟨_,SqL.of (sH1.at hcl)⟩,?_⟩;refine yZ (xs:=cs.map V.int) (fun i σ G=>xg H G∧∃(x3:Option V),σ=[some (.ref o),some (.ref cl),some (.ref pl),x3]∧G pl=some (.lst ((yT r (cs.take i)).map V.int)))
   ⟨sH1,_,rfl,epl⟩ (fun i σ G hi hP=>SqL.of (hP.1.at hcl)) (fun i x σ G hx hP=>?_) (fun σ G hP=>?_)
  ·obtain⟨sG,x3,rfl,epl'⟩:=hP;rw[aA]at hx;obtain⟨d,hd,rfl⟩:=aJ.mp hx;have hlen:=xcd r (cs.take i);have hi:i<cs.length:=(ax.mp hd).1;have htk:(cs.take i).length≤cs.length:=by rw[bC];lia
   walk_at"w";refine⟨fun σ' G'=>xg H G'∧σ'=[some (.ref o),some (.ref cl),some (.ref pl),some (.int d)]∧∃ys:List Int,G' pl=some (.lst (ys.map V.int))∧ys++[d]=yT r (cs.take (i+1)),?_,?_⟩
   ·have ho':=ho.same sG;cases r with
    |take to st c=>
     obtain⟨dx,h1⟩:=ho';walk_at"w";refine⟨_,_,_,_,true,rfl,rfl,T.xkE h1,T.q4r,?_⟩;walk_at"w";refine⟨fun _=>?_,by walk_at"no"⟩;walk_at"w";refine⟨.inl ⟨rfl,_,SqL.of epl'⟩,?_⟩;walk_at"w";refine⟨o,dx,_,rfl,h1,rfl,?_⟩;walk_at"w";refine⟨o,dx,to,st,c,d,rfl,h1,?_⟩;walk_at"w";refine⟨pl,_,_,rfl,rfl,epl',by rw[ai,a6];lia,?_⟩;refine⟨sG.put hpl,rfl,yT (.take to st c) (cs.take i)++[st+d - to],by rw[xt,bN];rfl,?_⟩;rw[xef hd];simp[plc]
    |put to sg=>
     obtain⟨dx,u,h1,h2⟩:=ho';walk_at"w";refine⟨_,_,_,_,false,rfl,rfl,T.xmH h1,T.q4Z,?_⟩;walk_at"w";refine⟨by walk_at"no",fun _=>?_⟩;refine⟨sG,rfl,_,epl',?_⟩;rw[xef hd];simp[plc]
   ·rintro σ' G' ⟨sG',rfl,ys,eys,hys⟩;walk_at"w";refine⟨.inl ⟨rfl,_,SqL.of eys⟩,?_⟩;walk_at"w";have hyl:=congrArg fX hys;have:=xcd r (cs.take (i+1));have htk2:(cs.take (i+1)).length≤cs.length:=by rw[bC];lia
    rw[aW,ix]at hyl;refine⟨pl,_,_,rfl,rfl,eys,by rw[ai,a6];lia,?_⟩;refine⟨sG'.put hpl,_,rfl,?_⟩;rw[xt,←hys,bN];rfl
  ·obtain⟨sG,x3,rfl,epl'⟩:=hP;rw[ai,bS]at epl';walk_at"w";exact q pl G sG hpl epl'
def xmR(K:ag):Sp:=fun vs H Q _=>∃(size:Int) (H0:Hp) (pl tl:Addr) (ws:List Addr) (xs:List (xq×List Int)),vs=[.int size,.ref pl]∧H pl=some (.lst (ws.map V.ref))∧Paired (zd K H0 tl H) ws xs∧(∀x∈xs,x.1.ok∧x.2.length≤300∧∀p∈yT x.1 x.2,p<size)∧∀H',xg H H'→Q .non H'
theorem xfm(T:Txt K mg a):xE P w K mg base CX0 6 a.q1m a.ju ["size","pieces"] (xmR K):=by
 refine T.q1s.ok xby (fun vs H Q E h=>?_) (fun cdv A outer s H vs Q E hr h=>?_)
 ·obtain⟨size,H0,pl,tl,ws,xs,rfl,_⟩:=h;rfl
 ·obtain⟨size,H0,pl,tl,ws,xs,rfl,hpl,hws,hx,q⟩:=h;have nd:=xby.nd;refine⟨_,(xm (yE bf rfl (zJ (cv 1)) (uU rfl (xQ (xN (i:=2) nd rfl (az rfl)) (xQ (xN (i:=3) nd rfl (az rfl)) zI))) (xm (yE bf rfl (zJ (xB (xfl T) (hr.mono (by decide)) (by rfl) T.xf7 T.q1t.kp T.xf6 .nil xu (xc (xB (jj T) (hr.mono (by decide)) (by rfl) T.jT T.q10.kp T.jS .nil xu (xc (cv 2) xf)) (xc (cv 3) xf)))) (xN (i:=4) nd rfl (az rfl)) (xm (xM (xO xnm (cv 4) (cv 0)) (xm xaX) xx)))))),?_⟩;walk_at"w";refine⟨pl,rfl,⟨_,SqL.of hpl⟩,?_⟩;refine yZ (xs:=ws.map V.ref) (fun i σ G=>xg H G∧∃(x2 x3 x4:Option V),σ=[some (.int size),some (.ref pl),x2,x3,x4])
   ⟨xg.refl _,_,_,_,rfl⟩ (fun i σ G hi hP=>SqL.of (hP.1.at hpl)) (fun i x σ G hx' hP=>?_) (fun σ G hP=>?_)
  ·obtain⟨sG,x2,x3,x4,rfl⟩:=hP;rw[aA]at hx';obtain⟨u,hu,rfl⟩:=aJ.mp hx';obtain⟨⟨r,cs⟩,hr',t,c,nc,h1,h2,h3⟩:=Paired.nth hws hu;obtain⟨hk,hcl,hpp⟩:=hx _ (aU hr');walk_at"w";refine⟨u,_,rfl,SqT.of (sG.at h1),rfl,?_⟩;walk_at"w";refine⟨_,_,rfl,?_⟩;walk_at"w";refine⟨_,_,rfl,?_⟩;walk_at"w";refine a7 rfl ?_;walk_at"w";refine⟨t,r,rfl,h2.same sG,hk,fun o H1 s1 ho hob=>?_⟩;walk_at"w";refine⟨o,c,r,cs,rfl,hob,s1.at (sG.at h3),hcl,fun l H2 s2 hl el=>?_⟩;have sA:xg H H2:=sG.trans (s1.trans s2);walk_at"w";refine⟨l,rfl,⟨_,SqL.of el⟩,?_⟩;refine yZ (xs:=(yT r cs).map V.int) (fun i σ G=>H2=G∧∃(x4:Option V),σ=[some (.int size),some (.ref pl),some (.ref t),some (.ref c),x4])
    ⟨rfl,_,rfl⟩ (fun i σ G hi hP=>by rw[←hP.1];exact SqL.of el) (fun i x σ G hx' hP=>?_) (fun σ G hP=>?_)
   ·obtain⟨rfl,x4,rfl⟩:=hP;rw[aA]at hx';obtain⟨p,hp,rfl⟩:=aJ.mp hx';have hlt:=hpp p (aU hp);walk_at"w";refine⟨fun e=>absurd (of_decide_eq_true e) (by show¬size≤p;lia),fun _=>?_⟩;exact⟨rfl,_,rfl⟩
   ·obtain⟨rfl,x4,rfl⟩:=hP;exact⟨sA,_,_,_,rfl⟩
  ·obtain⟨sG,x2,x3,x4,rfl⟩:=hP;exact q _ sG
def xlI:Sp:=fun vs H Q _=>∃(size o n:Int) (p:Addr) (x:V),vs=[.int size,.ref p]∧H p=some (.tup [.int o,.int n,x])∧max o n≤size∧Q .non H
theorem xeI(T:Txt K mg a):xE P w K mg base CX0 1 a.q1b a.jb ["size","paper"] xlI:=by
 refine T.q1d.ok xaH (fun vs H Q E h=>?_) (fun cdv A outer s H vs Q E hr h=>?_)
 ·obtain⟨size,o,n,p,x,rfl,_⟩:=h;rfl
 ·obtain⟨size,o,n,p,x,rfl,hp,hle,k1⟩:=h;have nd:=xaH.nd;refine⟨_,(xh (xD (i:=2) nd rfl (az rfl) (xI (xfP rfl) (by rfl) T.q5D xdJ (xc (xC xK (cv 1) xk (fun _ _=>rfl)) (xc (xC xK (cv 1) xk (fun _ _=>rfl)) xf))))
  (xm (xM (xO xgG (cv 0) (cv 2)) (xm xaX) xx))),?_⟩
  walk_at"w";refine⟨p,_,_,.int o,rfl,rfl,SqT.of hp,rfl,?_⟩;walk_at"w";refine⟨p,_,_,.int n,rfl,rfl,SqT.of hp,rfl,?_⟩;walk_at"w";refine⟨fun e=>absurd (of_decide_eq_true e) (by show¬size<max o n;lia),fun e=>?_⟩;exact k1
def vT(r:xq)(C:List Int)(d:Int):List Int:=match r with
 | .take to st _=>C.set d.toNat (C.getD (st+d - to).toNat 0)
 | .put to sg=>C.set d.toNat (sg.getD (d - to).toNat 0)
def doP(r:xq)(C cs:List Int):List Int:=cs.foldl (vT r) C
theorem xmS(r:xq)(C:List Int)(d:Int):(vT r C d).length=C.length:=by cases r<;> simp[vT]
theorem xhf(r:xq):∀(cs C:List Int),(doP r C cs).length=C.length
 |[],_=>rfl
 |d::cs,C=>by
  show(doP r (vT r C d) cs).length=_;rw[xhf r cs,xmS]
theorem xnM{r:xq}{C cs:List Int}{i:Nat}{d:Int}(h:cs[i]? =some d):doP r C (cs.take (i+1))=vT r (doP r C (cs.take i)) d:=by
 unfold doP;rw[bH,h];simp[ff]
abbrev xbC:Expr:=xck 1 (xck 1 (xha ((xo0 ((xS zY).getD 0 (.Pass ⟨0,0,0,0⟩))).getD 0 (.Pass ⟨0,0,0,0⟩))))
theorem xkI:vW ["at","store"] ["at"] ["store"] (zX xbC):=⟨rfl,rfl,rfl,by decide+kernel,rfl,by decide+kernel,by decide+kernel,by decide+kernel⟩
abbrev xrP(H:Hp)(f:Addr)(fv:List (Str×V)):Prop:=xaP H f "<lambda>" "do_piece.<locals>.<lambda>" (xcl xbC) (.expr (xcm xbC)) (zX xbC) fv
def xkJ(a:Adr):List (Str×V)→Sp:=fun fv vs H Q _=>∃(S:SA) (cells:List Int) (notes:List (Option Int)) (n i v:Int) (fl:V),fv=([("store",.ref S.st)]:List (Str×V))∧vs=[.int i]∧yo a H S cells notes n fl∧inR cells i∧cells[i.toNat]? =some v∧Q (.int v) H
theorem xgl(T:Txt K mg a):uN P w K mg base CX0 3 "<lambda>" "do_piece.<locals>.<lambda>" (xcl xbC) (.expr (xcm xbC)) (zX xbC) ["at"] (xkJ a):=by
 refine xcI xkI (fun fv vs H Q E h=>?_) (fun _ _ _ _ _ us hl=>match us,hl with|[_],_=>rfl) (fun A outer s H f clos cdv fv vs Q E hr h=>?_)
 ·obtain⟨S,cells,notes,n,i,v,fl,rfl,rfl,_⟩:=h;exact⟨rfl,rfl⟩
 ·obtain⟨S,cells,notes,n,i,v,fl,rfl,rfl,hS,hi,hv,k⟩:=h;have nd:=xkI.nd;refine⟨_,(xT (cv 1) T.q0r T.q5e (xie T) (hr.mono (by decide)) T.xiX .nil xu (xc (cv 0) xf)),?_⟩;walk_at"w";refine⟨S.st,S.dx,_,rfl,hS.st,rfl,?_⟩;exact⟨S,cells,notes,n,i,v,fl,rfl,hS,hi,hv,k⟩
def xnN(a:Adr):Sp:=fun vs H Q E=>∃(p dx u:Addr) (to n cell v:Int) (f:V) (sg:List Int),vs=[.ref p,.int cell,f]∧H p=some (.ins a.q0k dx (xez to u n))∧H u=some (.tup (sg.map V.int))∧0≤cell - to∧sg[(cell - to).toNat]? =some v∧Q (.int v) H
def xnO(a:Adr):Sp:=fun vs H Q _=>∃(p dx:Addr) (to st c cell:Int) (f:Addr) (fv:List (Str×V)),vs=[.ref p,.int cell,.ref f]∧H p=some (.ins a.q0h dx (xbP to st c))∧xrP H f fv∧xkJ a fv [.int (st+cell - to)] H Q E0
theorem xfn(T:Txt K mg a):xE P w K mg base CX0 4 a.q02 a.jr ["self","cell","read"] (xnO a):=by
 refine T.q1Y.ok xbw (fun vs H Q E h=>?_) (fun cdv A outer s H vs Q E hr h=>?_)
 ·obtain⟨p,dx,to,st,c,cell,f,fv,rfl,_⟩:=h;rfl
 ·obtain⟨p,dx,to,st,c,cell,f,fv,rfl,hp,hf,k⟩:=h;have nd:=xbw.nd;refine⟨_,(xm (xw (xnt 2 (xgl T) (hr.mono (by decide)) xu (xc (xT (cv 0) T.q0l T.q2v (xaj T) (hr.mono (by decide)) T.xaG .nil xu (xc (cv 1) xf)) xf)))),?_⟩;walk_at"w";refine⟨f,fv,rfl,hf,?_⟩;walk_at"w";refine⟨p,dx,_,rfl,hp,rfl,?_⟩;walk_at"w";refine⟨p,dx,to,st,c,cell,rfl,hp,?_⟩;walk_at"w";exact⟨hf,k⟩
theorem xgm(T:Txt K mg a):xE P w K mg base CX0 1 a.q1g a.jQ ["self","cell","read"] (xnN a):=by
 refine T.q19.ok xbL (fun vs H Q E h=>?_) (fun cdv A outer s H vs Q E hr h=>?_)
 ·obtain⟨p,dx,u,to,n,cell,v,f,sg,rfl,_⟩:=h;rfl
 ·obtain⟨p,dx,u,to,n,cell,v,f,sg,rfl,hp,hu,hi,hv,k⟩:=h;have nd:=xbL.nd;refine⟨_,(xm (xw (xC xK (xA (cv 0) rfl) (xy yw (cv 1) (xA (cv 0) rfl)) (fun _ _=>rfl)))),?_⟩;walk_at"w";refine⟨p,_,dx,_,.ref u,rfl,hp,T.q1G,T.q3B,rfl,?_⟩;walk_at"w";refine⟨p,_,dx,_,.int to,rfl,hp,T.q1G,T.q24,rfl,?_⟩;walk_at"w";exact⟨u,_,_,.int v,rfl,rfl,SqT.of hu,xfT hi hv,k⟩
def xcx(r:xq)(L:Nat)(d:Int):Prop:=0≤d∧d<L∧match r with
 | .take to st _=>0≤st+d - to∧st+d - to<L
 | .put to sg=>0≤d - to∧d - to<sg.length
theorem yS.kp{K:ag}{a:Adr}{H H':Hp}{S:SA}{cells:List Int}{notes:List (Option Int)}{n:Int}{fl:V}{o:Addr}{r:xq}(h:yS K a H o r)(hS:yo a H S cells notes n fl)(hn:o≠S.p)(k:Kp (SS S) H H'):yS K a H' o r:=by
 cases r with
 |take to st c=>
  obtain⟨dx,h⟩:=h;refine⟨dx,k _ _ h ?_⟩;simp only[aq,aR,or_false];rintro(z|z|z)
  ·rw[z,hS.ca]at h;cases h
  ·rw[z,hS.na]at h;cases h
  ·exact hn z
 |put to sg=>
  obtain⟨dx,u,h1,h2⟩:=h;refine⟨dx,u,k _ _ h1 ?_,k _ _ h2 ?_⟩
  ·simp only[aq,aR,or_false];rintro(z|z|z)
   ·rw[z,hS.ca]at h1;cases h1
   ·rw[z,hS.na]at h1;cases h1
   ·exact hn z
  ·simp only[aq,aR,or_false];rintro(z|z|z)
   ·rw[z,hS.ca]at h2;cases h2
   ·rw[z,hS.na]at h2;cases h2
   ·rw[z,hS.p]at h2;cases h2
def xkd(K:ag)(a:Adr):Sp:=fun vs H Q _=>∃(S:SA) (o c:Addr) (r:xq) (cs cells:List Int) (notes:List (Option Int)) (n:Int),vs=[.ref S.st,.ref o,.ref c]∧H yG=some (.tbl zb)∧H yp=some (.tbl yA)∧yo a H S cells notes n .non∧yS K a H o r∧o≠S.p∧H c=some (.lst (cs.map V.int))∧c∉SS S∧(∀d∈cs,xcx r cells.length d)∧
 xjg a H S (doP r cells cs) notes (n+cs.length) .non (Q .non)
theorem xke(T:Txt K mg a):xE P w K mg base CX0 5 a.q2q a.xaQ ["store","row","cells"] (xkd K a):=by
 refine T.jA.okC ["store"] T.xj1 xeX (fun vs H Q E h=>?_) (fun A outer s H vs Q E hr h=>?_)
 ·obtain⟨S,o,c,r,cs,cells,notes,n,rfl,_⟩:=h;rfl
 ·obtain⟨S,o,c,r,cs,cells,notes,n,rfl,hPd,hPw,hS,ho,hop,hc,hcS,hin,k⟩:=h;have nd:=xeX.nd;refine⟨_,(za (x:="store") (i:=0) nd rfl rfl rfl (by kernel_rfl) (xm (yE bf rfl (zJ (cv 2)) (xN (i:=3) nd rfl (az rfl)) (xm (xR (xT (cv 0) T.q0r T.q4T (xhc T) (hr.mono (by decide)) T.xh2 .nil xu (xc (cv 3) (xc (xa1 (xT (cv 1) T.q1G T.q4u (xgm T) (hr.mono (by decide)) T.xg5 .nil xu (xc (cv 3) (xc (zS (c:=q1k) (P:=yG) (qs:=zb) (fns:=["store"]) rfl T.q4X (q:="do_piece.<locals>.<lambda>") (by kernel_rfl) (.head _) (by kernel_rfl) (by kernel_rfl)) xf))) (xT (cv 1) T.q0l T.q4d (xfn T) (hr.mono (by decide)) T.xf1 .nil xu (xc (cv 3) (xc (zS (c:=q1k) (P:=yG) (qs:=zb) (fns:=["store"]) rfl T.q4X (q:="do_piece.<locals>.<lambda>") (by kernel_rfl) (.head _) (by kernel_rfl) (by kernel_rfl)) xf)))) xf)))))))),?_⟩;walk_at"w";intro a1 e1 z1 d1;refine a7 z1 ?_;generalize hU1:upd H a1 _=H1;have s1:=xg.of_eq z1 hU1;have c1:=xj hU1;clear hU1;walk_at"w";refine⟨c,rfl,⟨_,SqL.of (s1.at hc)⟩,?_⟩;refine yZ (xs:=cs.map V.int) (fun i σ G=>Kp (SS S) H1 G∧yo a G S (doP r cells (cs.take i)) notes (n+i) .non∧∃(x3:Option V),σ=[some (.ref S.st),some (.ref o),some (.ref c),x3])
   ⟨Kp.of (xg.refl _),by have:=hS.same s1;simpa [doP]using this,_,rfl⟩ (fun i σ G hi hP=>SqL.of (hP.1 _ _ (s1.at hc) hcS)) (fun i x σ G hx hP=>?_) (fun σ G hP=>?_)
  ·obtain⟨kp,hSG,x3,rfl⟩:=hP;rw[aA]at hx;obtain⟨d,hd,rfl⟩:=aJ.mp hx;have hcell:=hin d (aU hd);have hdl:=xhf r (cs.take i) cells;obtain⟨hd0,hd1,hd2⟩:=hcell;have hS1:=hS.same s1;have nSS:∀b u,H1 b=some u→¬xaC u→b∉SS S:=fun b u e m z=>by
    obtain⟨u',q',m'⟩:=hS1.mu b z;rw[e]at q';cases q';exact m m'
   have hOG:yS K a G o r:=yS.kp (ho.same s1) hS1 hop kp;have hPG:G yG=some (.tbl zb):=kp _ _ (s1.at hPd) (nSS _ _ (s1.at hPd) (fun z=>z));have hPG2:G yp=some (.tbl yA):=kp _ _ (s1.at hPw) (nSS _ _ (s1.at hPw) (fun z=>z));have c1':H1 a1=some (.cel (some (.ref S.st))):=c1;have c1G:G a1=some (.cel (some (.ref S.st))):=kp _ _ c1' (nSS _ _ c1' (fun z=>z));have fin:∀(G5:Hp) (v:Int),xg G G5→vT r (doP r cells (cs.take i)) d=(doP r cells (cs.take i)).set d.toNat v→∀G6,Kp (SS S) G5 G6→yo a G6 S ((doP r cells (cs.take i)).set d.toNat v) notes (n+i+1) .non→Kp (SS S) H1 G6∧yo a G6 S (doP r cells (cs.take (i+1))) notes (n+(i+1:Nat)) .non∧∃(x3:Option V),[some (V.ref S.st),some (.ref o),some (.ref c),some (.int d)]=[some (.ref S.st),some (.ref o),some (.ref c),x3]:=fun G5 v s5 e G6 k6 h6=>by
    refine⟨(kp.same s5).trans k6,?_,_,rfl⟩;rw[xnM hd,e,show n+((i+1:Nat):Int)=n+i+1 by omega];exact h6
   walk_at"w";refine⟨S.st,S.dx,_,rfl,hSG.st,rfl,?_⟩;walk_at"w";cases r with
   |put to sg=>
    obtain⟨dx,u,q1,q2⟩:=hOG;have hd2:0≤d - to∧d - to<sg.length:=hd2;obtain⟨v,hv⟩:∃v,sg[(d - to).toNat]? =some v:=⟨_,aC (by omega)⟩
    left
    refine⟨o,dx,_,rfl,q1,rfl,?_⟩;walk_at"w";refine⟨hPG,[("store",.ref S.st)],rfl,fun x v m=>?_,fun f G5 hf s5 hc=>?_⟩
    ·simp only[aq,eg,aR,or_false]at m;obtain⟨rfl,rfl⟩:=m;exact⟨a1,e1,c1G⟩
    walk_at"w";refine⟨o,dx,u,to,_,d,v,_,sg,rfl,s5.at q1,s5.at q2,hd2.1,hv,?_⟩;walk_at"w";refine⟨S,_,notes,n+i,d,v,rfl,hSG.same s5,s5.at hPG2,⟨hd0,by rw[hdl];exact hd1⟩,fun G6 k6 h6=>?_⟩;walk_at"w";exact fin G5 v s5 (by simp[vT,c7,hv]) G6 k6 h6
   |take to st cn=>
    obtain⟨dx,q1⟩:=hOG;have hd2:0≤st+d - to∧st+d - to<cells.length:=hd2;obtain⟨v,hv⟩:∃v,(doP (.take to st cn) cells (cs.take i))[(st+d - to).toNat]? =some v:=⟨_,aC (by rw[hdl];omega)⟩
    right
    refine⟨o,dx,_,rfl,q1,rfl,?_⟩;walk_at"w";refine⟨hPG,[("store",.ref S.st)],rfl,fun x v m=>?_,fun f G5 hf s5 hc=>?_⟩
    ·simp only[aq,eg,aR,or_false]at m;obtain⟨rfl,rfl⟩:=m;exact⟨a1,e1,c1G⟩
    walk_at"w";refine⟨o,dx,to,st,cn,d,f,_,rfl,s5.at q1,hc,S,_,notes,n+i,_,v,.non,rfl,rfl,hSG.same s5,⟨hd2.1,by rw[hdl];exact hd2.2⟩,hv,?_⟩;walk_at"w";refine⟨S,_,notes,n+i,d,v,rfl,hSG.same s5,s5.at hPG2,⟨hd0,by rw[hdl];exact hd1⟩,fun G6 k6 h6=>?_⟩;walk_at"w";exact fin G5 v s5 (by simp[vT,c7,hv]) G6 k6 h6
  ·obtain⟨kp,hSG,x3,rfl⟩:=hP;rw[ai,bS]at hSG;walk_at"w";refine k G (fun b u e n=>kp b u (s1 b u e) n) ?_;exact hSG
def doL(C:List Int)(xs:List (xq×List Int)):List Int:=xs.foldl (fun C x=>doP x.1 C x.2) C
theorem xcy:∀(xs:List (xq×List Int)) (C:List Int),(doL C xs).length=C.length
 |[],_=>rfl
 |x::xs,C=>by
  show(doL (doP x.1 C x.2) xs).length=_;rw[xcy xs,xhf]
theorem xnP{C:List Int}{xs:List (xq×List Int)}{i:Nat}{x:xq×List Int}(h:xs[i]? =some x):doL C (xs.take (i+1))=doP x.1 (doL C (xs.take i)) x.2:=by
 unfold doL;rw[bH,h];simp[ff]
def wrN(xs:List (xq×List Int)):Nat:=(xs.map fun x=>x.2.length+1).sum
theorem xnQ{xs:List (xq×List Int)}{i:Nat}{x:xq×List Int}(h:xs[i]? =some x):wrN (xs.take (i+1))=wrN (xs.take i)+(x.2.length+1):=by
 unfold wrN;rw[bH,h];simp
def xc8(notes:List (Option Int))(first:Nat):Nat→List (Option Int)
 |0=>notes
 |j+1=>(xc8 notes first j).set ((((first+j:Nat):Int)+1)%2).toNat (some (((first+j:Nat):Int)+1))
theorem xeg(notes:List (Option Int))(first:Nat):∀j,(xc8 notes first j).length=notes.length
 |0=>rfl
 |j+1=>by rw[xc8,eD,xeg notes first j]
def uw(L:Nat)(x:xq×List Int):Prop:=x.1.ok∧x.2.length≤300∧∀d∈x.2,xcx x.1 L d
def xnR(K:ag)(a:Adr):Sp:=fun vs H Q _=>∃(S:SA) (p tt:Addr) (o n:Int) (us:List Addr) (rs:List xq) (cells:List Int) (notes:List (Option Int)) (cnt:Int) (first:Nat),vs=[.ref S.st,.ref p]∧H yG=some (.tbl zb)∧H yp=some (.tbl yA)∧H xV=some (.tbl yj)∧yo a H S cells notes cnt .non∧H p=some (.tup [.int o,.int n,.ref tt])∧H tt=some (.tup (us.map V.ref))∧Paired (GT K H) us rs∧us.length≤58∧notes.length=2∧xc3 notes first∧first≤10000∧
 max o n≤cells.length∧(∀x∈yn rs,uw cells.length x)∧∀H',Kp (SS S) H H'→yo a H' S (doL cells ((yn rs).drop first)) (xc8 notes first ((yn rs).drop first).length) (cnt+wrN ((yn rs).drop first)) .non→Q (.int ((yn rs).drop first).length) H'
theorem xhO(xs:List V)(i:Nat):xam xs (some (i:Int)) none=xs.drop i:=by
 unfold xam;rw[xmk (by lia),HT.xiy,cD]
 by_cases h:i≤xs.length
 ·rw[Nat.min_eq_left h];exact cR (by rw[dn];lia)
 ·rw[Nat.min_eq_right (by lia),bV (ar _),bV (by lia)];simp
theorem xe2{α β:Type}{F:α→β→Prop}:∀{l₁:List α} {l₂:List β} (n:Nat),Paired F l₁ l₂→Paired F (l₁.drop n) (l₂.drop n)
 |_,_,0,h=>h
 |_,_,n+1,.nil=>.nil
 |_,_,n+1,.cons _ t=>xe2 n t
theorem xmT{r:xq}{L:Nat}{cs:List Int}(h:∀d∈cs,xcx r L d):∀p∈yT r cs,p<(L:Int):=by
 intro p hp;unfold yT at hp;obtain⟨d,hd,hp⟩:=g9.mp hp;have h1:=h d hd;cases r with
 |take to st c=>
  have h2:0≤st+d - to∧st+d - to<L:=h1.2.2;simp only[plc,aq,aR,or_false]at hp;rcases hp with rfl|rfl
  ·exact h2.2
  ·exact h1.2.1
 |put to sg=>
  simp only[plc,ao]at hp;rw[hp];exact h1.2.1
theorem TupAt.kpS{K:ag}{H H':Hp}{t:Addr}{r:xq}(h:TupAt K H t r)(k:∀b u,H b=some u→¬xaC u→H' b=some u):TupAt K H' t r:=by
 cases r with
 |take to st c=>exact k _ _ h (fun z=>z)
 |put to sg=>obtain⟨u,h1,h2⟩:=h;exact⟨u,k _ _ h1 (fun z=>z),k _ _ h2 (fun z=>z)⟩
theorem xnS(T:Txt K mg a):xE P w K mg base CX0 7 a.q4x a.xgW ["store","paper"] (xnR K a):=by
 refine T.q4G.ok xi2 (fun vs H Q E h=>?_) (fun cdv A outer s H vs Q E hr h=>?_)
 ·obtain⟨S,p,tt,o,n,us,rs,cells,notes,cnt,first,rfl,_⟩:=h;rfl
 ·obtain⟨S,p,tt,o,n,us,rs,cells,notes,cnt,first,rfl,hPd,hPw,hPn,hS,hp,ht,hus,hul,hn2,hmx,hf4,hle,hok,k1⟩:=h;have nd:=xi2.nd;refine⟨_,(xh (xD (i:=2) nd rfl (az rfl) (xI xZ (by rfl) T.q1Z yK (xc (xC xK (xU (cv 0) T.q0r T.q31 (xdu T) (hr.mono (by decide)) T.xd2 .nil xu) xk (fun _ _=>rfl)) xf)))
  (xh (xR (xB (xeI T) (hr.mono (by decide)) (by rfl) T.xfe T.q1d.kp T.xfd .nil xu (xc (cv 2) (xc (cv 1) xf))))
  (xh (xD (i:=3) nd rfl (az rfl) (xB (xjp T) (hr.mono (by decide)) (by rfl) T.xj0 T.q2E.kp T.xjZ .nil xu (xc (cv 1) xf)))
  (xh (xD (i:=4) nd rfl (az rfl) (xU (cv 0) T.q0r T.q4S (xhd T) (hr.mono (by decide)) T.xh3 .nil xu))
  (xh (xD (i:=5) nd rfl (az rfl) (jK xaW (cv 3) (xaV (cv 4)) xaU))
  (xh (xR (xB (xfm T) (hr.mono (by decide)) (by rfl) T.xf5 T.q1s.kp T.xf4 .nil xu (xc (cv 2) (xc (cv 5) xf))))
  (xh (yE bf rfl (xnC (by rfl) T.q3n (xc (cv 5) xf) (cv 4)) (uU rfl (xQ (xN (i:=6) nd rfl (az rfl)) (xQ (xN (i:=7) nd rfl (az rfl)) zI))) (xh (xR (xB (xke T) (hr.mono (by decide)) (by rfl) T.xlx T.jA.kp T.xlw .nil xu (xc (cv 0) (xc (xB (jj T) (hr.mono (by decide)) (by rfl) T.jT T.q10.kp T.jS .nil xu (xc (xC xK (cv 7) xk (fun _ _=>rfl)) xf)) (xc (xC xK (cv 7) xk (fun _ _=>rfl)) xf)))))
  (xm (xR (xT (cv 0) T.q0r T.q5d (xif T) (hr.mono (by decide)) T.xiY .nil xu (xc (xy yv (cv 6) xk) xf))))))
  (xm (xw (xI xZ (by rfl) T.q1Z yK (xc (cv 5) xf))))))))))),?_⟩
  walk_at"w";refine⟨S.st,S.dx,_,rfl,hS.st,rfl,?_⟩;walk_at"w";refine⟨S,cells,notes,cnt,.non,rfl,hS,fun t c m H1 s1 hc hm ncm et ec em=>?_⟩;walk_at"w";refine⟨t,_,_,.ref c,rfl,rfl,SqT.of et,rfl,?_⟩;walk_at"w";refine⟨c,_,rfl,.inl (SqL.of ec),?_⟩;walk_at"w";refine⟨_,o,n,p,_,rfl,s1.at hp,by rw[ai];exact hle,?_⟩;have hS1:=hS.same s1;walk_at"w";refine⟨p,tt,.int o,.int n,us,rs,rfl,s1.at hp,s1.at ht,L2.Paired.imp' (fun _ _ z=>z.same s1) hus,hul,fun l ws H2 s2 hl el hws=>?_⟩;have hS2:=hS1.same s2;walk_at"w";refine⟨S.st,S.dx,_,rfl,hS2.st,rfl,?_⟩;walk_at"w";refine⟨S,cells,notes,cnt,.non,rfl,hS2,hn2,fun m H3 s3 hmx'=>?_⟩;obtain rfl:=xc3.uniq hmx' hmx;have hS3:=hS2.same s3;walk_at"w";refine⟨(first:Int),rfl,?_⟩;walk_at"w";refine⟨l,_,rfl,SqL.of (s3.at el),?_⟩;intro lf hlf;generalize hUlf:upd H3 lf _=H4;have sH4:=xg.of_eq hlf hUlf;have elf:=xj hUlf;clear hUlf;walk_at"w";rw[xhO,←List.map_drop]at elf;have hws4:Paired (zd K H1 l H4) (ws.drop first) ((yn rs).drop first):=xe2 first (L2.Paired.imp' (fun _ _ z=>(z.same s3).same sH4) hws);obtain⟨due,hdue⟩:∃due,due=(yn rs).drop first:=⟨_,rfl⟩;rw[←hdue]at hws4 k1;have hok':∀x∈due,uw cells.length x:=fun x hx=>hok x (by rw[hdue]at hx;exact iP hx);have hwl:(ws.drop first).length=due.length:=hws4.length;refine⟨_,H1,lf,l,ws.drop first,due,rfl,elf,hws4,fun x hx=>⟨(hok' x hx).1,(hok' x hx).2.1,by rw[ai];exact xmT (hok' x hx).2.2⟩,fun H5 s5=>?_⟩;have hS5:=(hS3.same sH4).same s5;have s05:xg H H5:=s1.trans (s2.trans (s3.trans (sH4.trans s5)));have nlf:lf∉SS S:=by
   simp only[aq,aR,or_false];rintro(z|z|z)
   ·rw[z,hS3.ca]at hlf;cases hlf
   ·rw[z,hS3.na]at hlf;cases hlf
   ·rw[z,hS3.p]at hlf;cases hlf
  have nSS:∀b u,H5 b=some u→¬xaC u→b∉SS S:=fun b u e m z=>by
   obtain⟨u',q',m'⟩:=hS5.mu b z;rw[e]at q';cases q';exact m m'
  walk_at"w";refine⟨lf,first,rfl,rfl,by lia,⟨_,SqL.of (s5.at elf)⟩,?_⟩;refine xjS (xs:=(ws.drop first).map V.ref) (fun i σ G=>Kp (SS S) H5 G∧yo a G S (doL cells (due.take i)) (xc8 notes first i) (cnt+wrN (due.take i)) .non∧∃(x6 x7:Option V),σ=[some (.ref S.st),some (.ref p),some (.int ((cells.map V.int).length:Nat)),some (.ref l),some (.int first),some (.ref lf),x6,x7])
   ⟨Kp.of (xg.refl _),by simpa [doL,wrN,xc8]using hS5,_,_,rfl⟩ (fun i σ G hi hP=>SqL.of (hP.1 _ _ (s5.at elf) nlf)) (fun i x σ G Tt hx hP hTt=>?_) (fun σ G hP=>?_)
  ·obtain⟨kp,hSG,x6,x7,rfl⟩:=hP;rw[aA]at hx;obtain⟨u,hu,rfl⟩:=aJ.mp hx;obtain⟨⟨r,cs⟩,hr',t',c',⟨nc1,nc2⟩,h1,h2,h3⟩:=Paired.nth hws4 hu;obtain⟨hk,hcl,hcells⟩:=hok' _ (aU hr');have kG:∀b u,H5 b=some u→¬xaC u→G b=some u:=fun b u e m=>kp b u e (nSS b u e m);have ncS:c'∉SS S:=by
    simp only[aq,aR,or_false];rintro(z|z|z)
    ·rw[z,hS1.ca]at nc2;cases nc2
    ·rw[z,hS1.na]at nc2;cases nc2
    ·rw[z,hS1.p]at nc2;cases nc2
   have hcG:G c'=some (.lst (cs.map V.int)):=kp _ _ (s5.at h3) ncS;have huG:=kG _ _ (s5.at h1) (fun z=>z);have htG:TupAt K G t' r:=TupAt.kpS (h2.same s5) kG;have hPdG:=kG _ _ (s05.at hPd) (fun z=>z);have hPwG:=kG _ _ (s05.at hPw) (fun z=>z);have hPnG:=kG _ _ (s05.at hPn) (fun z=>z);generalize hU:upd G Tt _=G1;have sT:=xg.of_eq hTt hU;have eT:=xj hU;clear hU;walk_at"w";refine⟨Tt,_,rfl,SqT.of eT,rfl,?_⟩;walk_at"w";refine⟨_,_,rfl,?_⟩;walk_at"w";refine⟨_,_,rfl,?_⟩;walk_at"w";refine a7 rfl ?_;walk_at"w";refine⟨u,_,_,.ref t',rfl,rfl,SqT.of (sT.at huG),rfl,?_⟩;walk_at"w";refine⟨t',r,rfl,htG.same sT,hk,fun ob G2 s2' hob hO=>?_⟩;walk_at"w";refine⟨u,_,_,.ref c',rfl,rfl,SqT.of (s2'.at (sT.at huG)),rfl,?_⟩;walk_at"w";have hSG1:=hSG.same sT;have sT2:=sT.trans s2';refine⟨S,ob,c',r,cs,_,_,_,rfl,sT2.at hPdG,sT2.at hPwG,hSG.same sT2,hO,(fun z=>by rw[z,hSG1.p]at hob;cases hob),sT2.at hcG,ncS,(fun d hd=>by rw[xcy];exact hcells d hd),fun G3 kp3 hS3'=>?_⟩;walk_at"w";refine⟨S.st,S.dx,_,rfl,hS3'.st,rfl,?_⟩;walk_at"w";have nS2:xV∉SS S:=nSS _ _ (s05.at hPn) (fun z=>z);refine⟨S,_,_,_,_,rfl,hS3',kp3 _ _ (sT2.at hPnG) nS2,by rw[xeg];exact hn2,fun G4 kp4 hS4=>?_⟩;walk_at"w";refine⟨((kp.same sT2).trans kp3).trans kp4,?_,_,_,rfl⟩;rw[xnP hr',xnQ hr'];rw[show cnt+((wrN (due.take i)+(cs.length+1):Nat):Int)=cnt+(wrN (due.take i):Nat)+(cs.length:Nat)+1 by lia];exact hS4
  ·obtain⟨kp,hSG,x6,x7,rfl⟩:=hP;rw[ai,hwl,bS]at hSG;walk_at"w";refine⟨lf,_,rfl,.inl (SqL.of (kp _ _ (s5.at elf) nlf)),?_⟩;walk_at"w";rw[ai,hwl];exact k1 G (fun b u e n=>kp b u (s05 b u e) n) hSG
end
section
variable {P:av} {w:World} {K:ag} {mg:Str→Option Value} {base:Heap} {a:Adr}
theorem xdw(T:Txt K mg a):xE P w K mg base CX0 1 a.q09 a.xbj ["self"] (xmP K):=by
 refine T.q2J.ok xdg (fun vs H Q E h=>?_) (fun cdv A outer s H vs Q E hr h=>?_)
 ·obtain⟨p,C,dx,fs,to,c,rfl,_⟩:=h;rfl
 ·obtain⟨p,C,dx,fs,to,c,rfl,hp,cl,n1,n2,l1,l2,k⟩:=h;have nd:=xdg.nd;refine⟨_,(xm (xw (xH (xc (xA (cv 0) rfl) (xc (xy yv (xA (cv 0) rfl) (xA (cv 0) rfl)) xf))))),?_⟩;walk_at"w";refine⟨p,C,dx,fs,_,rfl,hp,cl,n1,l1,?_⟩;walk_at"w";refine⟨p,C,dx,fs,_,rfl,hp,cl,n1,l1,?_⟩;walk_at"w";refine⟨p,C,dx,fs,_,rfl,hp,cl,n2,l2,?_⟩;walk_at"w";exact⟨by walk_at"side",k⟩
def xjq(to st c:Int):List Int:=if st=to then[]else yx st c.toNat
def xhg(to st c:Int):List Int:=if st=to then[]else yx to c.toNat
def xhP(a:Adr):Sp:=fun vs H Q _=>∃(p dx:Addr) (to st c:Int),vs=[.ref p]∧H p=some (.ins a.q0h dx (xbP to st c))∧c.toNat≤2^24∧xfj H Q (xjq to st c)
def xgn(a:Adr):Sp:=fun vs H Q _=>∃(p dx:Addr) (to st c:Int),vs=[.ref p]∧H p=some (.ins a.q0h dx (xbP to st c))∧c.toNat≤2^24∧xfj H Q (xhg to st c)
def xhQ(a:Adr):Sp:=fun vs H Q _=>∃(p dx t:Addr) (to n:Int),vs=[.ref p]∧H p=some (.ins a.q0k dx (xez to t n))∧xfj H Q []
def xgo(a:Adr):Sp:=fun vs H Q _=>∃(p dx t:Addr) (to n:Int),vs=[.ref p]∧H p=some (.ins a.q0k dx (xez to t n))∧n.toNat≤2^24∧xfj H Q (yx to n.toNat)
theorem xii(T:Txt K mg a):xE P w K mg base CX0 2 a.q1O a.xbl ["self"] (xhP a):=by
 refine T.q2L.ok xdi (fun vs H Q E h=>?_) (fun cdv A outer s H vs Q E hr h=>?_)
 ·obtain⟨p,dx,to,st,c,rfl,_⟩:=h;rfl
 ·obtain⟨p,dx,to,st,c,rfl,hp,hc,k⟩:=h;have nd:=xdi.nd;refine⟨_,(xh (xM (zh (xU (cv 0) T.q0l T.q3k (xaD T) (hr.mono (by decide)) T.xbu .nil xu)) (xm (xw (xY xf))) xx)
  (xm (xw (yd (vN rfl) (by rfl) T.q22 zL (xc (xbH (by rfl) T.q1j (xc (xA (cv 0) rfl) (xc (xy yv (xA (cv 0) rfl) (xA (cv 0) rfl)) xf))) xf))))),?_⟩
  walk_at"w";refine⟨p,dx,_,rfl,hp,rfl,?_⟩;walk_at"w";refine⟨p,dx,to,st,c,rfl,hp,?_⟩;walk_at"w";refine⟨fun e=>?_,fun e=>?_⟩
  ·walk_at"w";refine⟨by decide,fun l hl=>?_⟩;have e':st=to:=of_decide_eq_true e;exact k l _ (xg.new hl) hl (by rw[xt,xjq,if_pos e'];rfl)
  ·have e':¬st=to:=of_decide_eq_false e;walk_at"w";refine⟨p,_,dx,_,.int st,rfl,hp,T.q0l,T.q0F,rfl,?_⟩;walk_at"w";refine⟨p,_,dx,_,.int st,rfl,hp,T.q0l,T.q0F,rfl,?_⟩;walk_at"w";refine⟨p,_,dx,_,.int c,rfl,hp,T.q0l,T.q0T,rfl,?_⟩;walk_at"w";intro r hr1;walk_at"w";have e2:yy st (st+c) 1=c.toNat:=by rw[zV];congr 1;lia
   refine⟨r,st,st+c,rfl,xt,by rw[e2];exact hc,fun l hl=>?_⟩;rw[e2,xeA];have hl0:H l=none:=xg.free (xg.new hr1) hl;exact k l _ ((xg.new hr1).put hl0) hl0 (by rw[xt,xjq,if_neg e'])
theorem xhh(T:Txt K mg a):xE P w K mg base CX0 2 a.q1B a.xaw ["self"] (xgn a):=by
 refine T.q2i.ok xcq (fun vs H Q E h=>?_) (fun cdv A outer s H vs Q E hr h=>?_)
 ·obtain⟨p,dx,to,st,c,rfl,_⟩:=h;rfl
 ·obtain⟨p,dx,to,st,c,rfl,hp,hc,k⟩:=h;have nd:=xcq.nd;refine⟨_,(xh (xM (zh (xU (cv 0) T.q0l T.q3k (xaD T) (hr.mono (by decide)) T.xbu .nil xu)) (xm (xw (xY xf))) xx)
  (xm (xw (xU (cv 0) T.q0l T.q2u (yP T) (hr.mono (by decide)) T.yW .nil xu)))),?_⟩
  walk_at"w";refine⟨p,dx,_,rfl,hp,rfl,?_⟩;walk_at"w";refine⟨p,dx,to,st,c,rfl,hp,?_⟩;walk_at"w";refine⟨fun e=>?_,fun e=>?_⟩
  ·walk_at"w";refine⟨by decide,fun l hl=>?_⟩;have e':st=to:=of_decide_eq_true e;exact k l _ (xg.new hl) hl (by rw[xt,xhg,if_pos e'];rfl)
  ·have e':¬st=to:=of_decide_eq_false e;walk_at"w";refine⟨p,dx,_,rfl,hp,rfl,?_⟩;walk_at"w";refine⟨p,_,dx,_,to,c,rfl,hp,T.q0l,T.q0Z,T.q0T,rfl,rfl,hc,fun l H' s1 hl hv=>?_⟩;exact k l H' s1 hl (by rw[hv,xhg,if_neg e'])
theorem xjr(T:Txt K mg a):xE P w K mg base CX0 1 a.q16 a.xb6 ["self"] (xhQ a):=by
 refine T.q3m.ok xd8 (fun vs H Q E h=>?_) (fun cdv A outer s H vs Q E hr h=>?_)
 ·obtain⟨p,dx,t,to,n,rfl,_⟩:=h;rfl
 ·obtain⟨p,dx,t,to,n,rfl,hp,k⟩:=h;have nd:=xd8.nd;refine⟨_,(xm (xw (xY xf))),?_⟩;walk_at"w";exact⟨by decide,fun l hl=>k l _ (xg.new hl) hl (by rw[xt];rfl)⟩
theorem xij(T:Txt K mg a):xE P w K mg base CX0 2 a.q1P a.xbm ["self"] (xgo a):=by
 refine T.q2M.ok xdj (fun vs H Q E h=>?_) (fun cdv A outer s H vs Q E hr h=>?_)
 ·obtain⟨p,dx,t,to,n,rfl,_⟩:=h;rfl
 ·obtain⟨p,dx,t,to,n,rfl,hp,hn,k⟩:=h;have nd:=xdj.nd;refine⟨_,(xm (xw (xU (cv 0) T.q1G T.q2b (yP T) (hr.mono (by decide)) T.yW .nil xu))),?_⟩;walk_at"w";refine⟨p,dx,_,rfl,hp,rfl,?_⟩;walk_at"w";exact⟨p,_,dx,_,to,n,rfl,hp,T.q1G,T.q24,T.q1W,rfl,rfl,hn,k⟩
def InD(kvs:List (Key×V))(seen:List Int):Prop:=∀c:Int,(zp kvs (.inl c)).isSome=decide (c∈seen)
theorem InD.nil:InD [] []:=fun c=>by simp[xni]
theorem InD.put{kvs:List (Key×V)}{seen:List Int}(h:InD kvs seen)(c:Int)(v:V):InD (putK kvs (.inl c) v) (c::seen):=by
 intro x;rw[xnj]
 by_cases e:x=c
 ·subst e;rw[if_pos rfl];simp
 ·rw[if_neg (fun z=>e (by cases z;rfl)),h x]
  congr 1
  exact propext ⟨fun z=>aQ _ z,fun z=>(aq.mp z).resolve_left e⟩
theorem xfo(kvs:List (Key×V))(k:Key)(v:V):(putK kvs k v).length≤kvs.length+1:=by
 unfold putK
 split
 ·rw[ai];lia
 ·rw[aW];simp
theorem xkK(T:Txt K mg a){H:Hp}{o:Addr}{r:xq}{Q:VK}{σ:L2.St}{i:Nat}(ho:yS K a H o r)(hl:r.cv.length≤300)
  (k:∀l H',xg H H'→H l=none→H' l=some (.lst (r.cv.map V.int))→Q (.ref l) H') (hσ:σ[i]? =some (some (.ref o)):=by rfl):
  zm a.q0k "covered" (xc2 K) [] E0 (zU i) vU σ H Q∨zm a.q0h "covered" (xc2 K) [] E0 (zU i) vU σ H Q:=by
 cases r with
 |put to sg=>
  obtain⟨dx,u,h1,h2⟩:=ho
  left
  unfold zm zU;rw[hσ];have e:(sg.length:Int).toNat=sg.length:=by simp
  have hl':sg.length≤300:=by rw[show xq.cv (.put to sg)=yx to sg.length from rfl,yu]at hl;exact hl
  refine⟨o,dx,_,rfl,h1,rfl,o,a.q0k,dx,_,to,sg.length,rfl,h1,T.q1G,T.q24,T.q1W,rfl,rfl,by rw[e];exact bo hl' (by decide),fun l H' s n eL=>k l H' s n ?_⟩;rw[e]at eL;exact eL
 |take to st c=>
  obtain⟨dx,h1⟩:=ho
  right
  unfold zm zU;rw[hσ];have hl':c.toNat≤300:=by rw[show xq.cv (.take to st c)=yx to c.toNat from rfl,yu]at hl;exact hl
  exact⟨o,dx,_,rfl,h1,rfl,o,a.q0h,dx,_,to,c,rfl,h1,T.q0l,T.q0Z,T.q0T,rfl,rfl,bo hl' (by decide),fun l H' s n eL=>k l H' s n eL⟩
theorem xnT(k:Nat)(all:List (List Int))(cs:List Int)(h:all[0]? =some cs):num k all=cs.map (fun c=>(k,c))++num (k+1) (all.drop 1):=by
 cases all with
 |nil=>simp at h
 |cons x r=>simp at h;subst h;rfl
theorem xfp(T:Txt K mg a):xE P w K mg base CX0 2 a.q1o a.jw ["rows"] (xnJ K a):=by
 refine T.q1u.ok xbA (fun vs H Q E h=>?_) (fun cdv A outer s H vs Q E hr h=>?_)
 ·obtain⟨l,rs,rfl,_⟩:=h;rfl
 ·obtain⟨l,rs,rfl,⟨ts,hl,hp⟩,⟨hr1,hr2⟩,hN,q⟩:=h;have nd:=xbA.nd;refine⟨_,(xh (xD (i:=1) nd rfl (az rfl) xe6)
  (xh (yE bf rfl (xkt (by rfl) T.q3n (xc (cv 0) xf)) (uU rfl (xQ (xN (i:=2) nd rfl (az rfl)) (xQ (xN (i:=3) nd rfl (az rfl)) zI))) (xm (yE bf rfl (zJ (xa1 (xU (cv 3) T.q1G T.q2b (yP T) (hr.mono (by decide)) T.yW .nil xu) (xU (cv 3) T.q0l T.q2u (yP T) (hr.mono (by decide)) T.yW .nil xu))) (xN (i:=4) nd rfl (az rfl)) (xh (xM (xli (xl8 (vM hr) (cv 4) (cv 1)) (by rfl)) xcJ xx)
  (xm (xgF (vM hr) (cv 1) (cv 4) zT rfl))))))
  (xm (xw yi)))),?_⟩
  walk_at"w";intro d hd';generalize hU0:upd H d _=H1;have sH1:=xg.of_eq hd' hU0;have ed:=xj hU0;clear hU0;walk_at"w";have htl:ts.length=rs.length:=hp.length;refine⟨l,rfl,⟨_,sH1.seq hl⟩,?_⟩;walk_at"w";refine xeO (xs:=ts.map V.ref) (fun i σ G=>xg H G∧(∃kvs seen,G d=some (.dK kvs)∧InD kvs seen∧kvs.length≤i*300∧uk rs=tw (num i ((rs.map xq.cv).drop i)) seen)∧∃x2 x3 x4,σ=[some (.ref l),some (.ref d),x2,x3,x4]) ⟨sH1,⟨[],[],ed,InD.nil,by simp,rfl⟩,_,_,_,rfl⟩ (fun i σ G hi hP=>hP.1.seq hl) (fun i x σ G T0 hx hP hT0=>?_) (fun σ G hP=>?_)
  ·obtain⟨s1,⟨kvs,seen,hd,hin,hkl,htw⟩,x2,x3,x4,rfl⟩:=hP;rw[aA]at hx;obtain⟨o,ho,rfl⟩:=aJ.mp hx;have hi:i<ts.length:=(ax.mp ho).1;obtain⟨r,hr,hob⟩:=Paired.nth hp ho;generalize hU:upd G T0 _=G2;have s2:=xg.of_eq hT0 hU;have eT:=xj hU;clear hU;walk_at"w";refine⟨T0,_,rfl,SqT.of eT,rfl,?_⟩;walk_at"w";refine⟨_,_,rfl,?_⟩;walk_at"w";refine⟨_,_,rfl,?_⟩;walk_at"w";refine a7 rfl ?_;walk_at"w";have hrm:r∈rs:=aU hr;refine xkK (K:=K) T (r:=r) (hob.same (s1.trans s2)) (hr2 r hrm).1 fun L G3 s3 hL eL=>?_;walk_at"w";refine⟨L,rfl,⟨_,SqL.of eL⟩,?_⟩;walk_at"w";have hd3:G3 d=some (.dK kvs):=s3.at (s2.at hd)
   have nLd:L≠d:=vL eL hd3 (fun z=>by cases z);have hdr:((rs.map xq.cv).drop i)[0]? =some r.cv:=by rw[dO,Nat.add_zero,aA,hr];rfl
   rw[xnT i _ _ hdr,List.drop_drop]at htw;refine yZ (xs:=r.cv.map V.int) (fun j σ G4=>xg H G4∧G4 L=some (.lst (r.cv.map V.int))∧(∃kvs seen,G4 d=some (.dK kvs)∧InD kvs seen∧kvs.length≤i*300+j∧uk rs=tw ((r.cv.drop j).map (fun c=>(i,c))++num (i+1) ((rs.map xq.cv).drop (i+1))) seen)∧∃x4,σ=[some (.ref l),some (.ref d),some (.int i),some (.ref o),x4])
    ⟨s1.trans (s2.trans s3),eL,⟨kvs,seen,hd3,hin,by lia,by rw[fV];exact htw⟩,_,rfl⟩ (fun j σ G4 hj hQ=>SqL.of hQ.2.1) (fun j x σ G4 hx hQ=>?_) (fun σ G4 hQ=>?_)
   ·obtain⟨s4,eL4,⟨kvs4,seen4,hd4,hin4,hk4,htw4⟩,x4,rfl⟩:=hQ;rw[aA]at hx;obtain⟨c,hc,rfl⟩:=aJ.mp hx;have hj:j<r.cv.length:=(ax.mp hc).1;have hb:=(hr2 r hrm).1;have ecut:r.cv.drop j=c::r.cv.drop (j+1):=by
     rw[b7 hj,(ax.mp hc).2]
    rw[ecut,bp,dv,tw]at htw4;walk_at"w";refine⟨d,_,rfl,uV.k (k:=cI c) hd4,?_⟩;walk_at"w";rw[hin4 c];refine⟨fun e=>?_,fun e=>?_⟩
    ·have e':=of_decide_eq_true e;rw[if_pos e']at htw4;rw[htw4]at hN;cases hN
    ·have e':=of_decide_eq_false e;rw[if_neg e']at htw4;walk_at"w";refine⟨d,_,rfl,xdE.k (k:=cI c) hd4 (by rw[a6];lia),?_⟩;generalize hV:upd G4 d _=G5;have s5:xg H G5:=xg.wr s4 hd' hV;have eL5:G5 L=some (.lst (r.cv.map V.int)):=by rw[←hV,xr nLd];exact eL4
     have hd5:=xj hV;clear hV;have:=xfo kvs4 (cI c) (.bl true);exact⟨s5,eL5,⟨_,_,hd5,hin4.put c _,by lia,htw4⟩,_,rfl⟩
   ·obtain⟨s4,eL4,⟨kvs4,seen4,hd4,hin4,hk4,htw4⟩,x4,rfl⟩:=hQ;rw[ai]at hk4 htw4;rw[hW]at htw4;have hb:=(hr2 r hrm).1;exact⟨s4,⟨kvs4,seen4,hd4,hin4,by lia,htw4⟩,_,_,_,rfl⟩
  ·obtain⟨s1,⟨kvs,seen,hd,hin,hkl,htw⟩,x2,x3,x4,rfl⟩:=hP;have e0:(rs.map xq.cv).drop (ts.map V.ref).length=[]:=by
    rw[ai,htl];exact bV (by rw[ai];exact ar _)
   rw[e0]at htw;have e1:uk rs=none:=htw;rw[e1]at q;exact q G s1
theorem xps(T:Txt K mg a){H:Hp}{o:Addr}{r:xq}{Q:VK}{σ:L2.St}{i:Nat}(ho:yS K a H o r)(hc:r.cv.length≤300)
  (k:∀l H',xg H H'→H l=none→H' l=some (.lst (r.rds.map V.int))→Q (.ref l) H') (hσ:σ[i]? =some (some (.ref o)):=by rfl):
  zm a.q0k "reads" (xhQ a) [] E0 (zU i) vU σ H Q∨zm a.q0h "reads" (xhP a) [] E0 (zU i) vU σ H Q:=by
 cases r with
 |put to sg=>
  obtain⟨dx,u,h1,h2⟩:=ho
  left
  unfold zm zU;rw[hσ];exact⟨o,dx,_,rfl,h1,rfl,o,dx,u,to,sg.length,rfl,h1,fun l H' s n eL=>k l H' s n eL⟩
 |take to st c=>
  obtain⟨dx,h1⟩:=ho
  right
  unfold zm zU;rw[hσ];have hl':c.toNat≤300:=by rw[show xq.cv (.take to st c)=yx to c.toNat from rfl,yu]at hc;exact hc
  exact⟨o,dx,_,rfl,h1,rfl,o,dx,to,st,c,rfl,h1,bo hl' (by decide),fun l H' s n eL=>k l H' s n eL⟩
theorem xpt(T:Txt K mg a){H:Hp}{o:Addr}{r:xq}{Q:VK}{σ:L2.St}{i:Nat}(ho:yS K a H o r)(hc:r.cv.length≤300)
  (k:∀l H',xg H H'→H l=none→H' l=some (.lst (r.wrs.map V.int))→Q (.ref l) H') (hσ:σ[i]? =some (some (.ref o)):=by rfl):
  zm a.q0k "writes" (xgo a) [] E0 (zU i) vU σ H Q∨zm a.q0h "writes" (xgn a) [] E0 (zU i) vU σ H Q:=by
 cases r with
 |put to sg=>
  obtain⟨dx,u,h1,h2⟩:=ho
  left
  unfold zm zU;rw[hσ];have e:(sg.length:Int).toNat=sg.length:=by simp
  have hl':sg.length≤300:=by rw[show xq.cv (.put to sg)=yx to sg.length from rfl,yu]at hc;exact hc
  refine⟨o,dx,_,rfl,h1,rfl,o,dx,u,to,sg.length,rfl,h1,by rw[e];exact bo hl' (by decide),fun l H' s n eL=>k l H' s n ?_⟩;rw[e]at eL;exact eL
 |take to st c=>
  obtain⟨dx,h1⟩:=ho
  right
  unfold zm zU;rw[hσ];have hl':c.toNat≤300:=by rw[show xq.cv (.take to st c)=yx to c.toNat from rfl,yu]at hc;exact hc
  exact⟨o,dx,_,rfl,h1,rfl,o,dx,to,st,c,rfl,h1,bo hl' (by decide),fun l H' s n eL=>k l H' s n eL⟩
theorem xeh{ls:List Int}{p:Int→Bool}{j:Nat}(h:∀i,i<j→∀c,ls[i]? =some c→p c=false):ls.find? p=(ls.drop j).find? p:=by
 induction j with
 |zero=>rfl
 |succ j ih=>
  rw[ih fun i hi=>h i (by lia)]
  by_cases hj:j<ls.length
  ·have hc:ls[j]? =some ls[j]:=aC hj;rw[b7 hj,cc,h j (by lia) _ hc]
  ·rw[bV (by lia),bV (by lia)]
theorem xlJ(T:Txt K mg a):xE P w K mg base CX0 2 a.q3u a.xdW ["rows","new"] (xlD K a):=by
 refine T.q3z.ok xgf (fun vs H Q E h=>?_) (fun cdv A outer s H vs Q E hr h=>?_)
 ·obtain⟨l,rs,new,rfl,_⟩:=h;rfl
 ·obtain⟨l,rs,new,rfl,⟨ts,hl,hp⟩,⟨hr1,hr2⟩,hnew,q⟩:=h;have nd:=xgf.nd;refine⟨_,(xh (xD (i:=2) nd rfl (az rfl) xe6)
  (xh (yE bf rfl (zJ (cv 0)) (xN (i:=3) nd rfl (az rfl)) (xm (yE bf rfl (zJ (xa1 (xU (cv 3) T.q1G T.q2b (yP T) (hr.mono (by decide)) T.yW .nil xu) (xU (cv 3) T.q0l T.q2u (yP T) (hr.mono (by decide)) T.yW .nil xu))) (xN (i:=4) nd rfl (az rfl)) (xm (xgF (vM hr) (cv 2) (cv 4) zT rfl)))))
  (xh (yE bf rfl (zR (by rfl) T.q1j (xc (cv 1) xf)) (xN (i:=4) nd rfl (az rfl)) (xm (xM (xli (xl9 (vM hr) (cv 4) (cv 2)) (by rfl)) (xm (xw (xH (xc xG (xc (cv 4) xf))))) xx)))
  (xm (xw yi))))),?_⟩
  walk_at"w";intro d hd';generalize hU0:upd H d _=H1;have sH1:=xg.of_eq hd' hU0;have ed:=xj hU0;clear hU0;walk_at"w";have htl:ts.length=rs.length:=hp.length;refine⟨l,rfl,⟨_,sH1.seq hl⟩,?_⟩;walk_at"w";refine yZ (xs:=ts.map V.ref) (fun i σ G=>xg H G∧(∃kvs seen,G d=some (.dK kvs)∧InD kvs seen∧kvs.length≤i*300∧∀c,c∈seen↔c∈((rs.map xq.cv).take i).flatten)∧∃x3 x4,σ=[some (.ref l),some (.int new),some (.ref d),x3,x4]) ⟨sH1,⟨[],[],ed,InD.nil,by simp,fun c=>by simp⟩,_,_,rfl⟩ (fun i σ G hi hP=>hP.1.seq hl) (fun i x σ G hx hP=>?_) (fun σ G hP=>?_)
  ·obtain⟨s1,⟨kvs,seen,hd,hin,hkl,hse⟩,x3,x4,rfl⟩:=hP;rw[aA]at hx;obtain⟨o,ho,rfl⟩:=aJ.mp hx;obtain⟨r,hr,hob⟩:=Paired.nth hp ho;have hrm:r∈rs:=aU hr;have hi:i<ts.length:=(ax.mp ho).1;walk_at"w";refine xkK (K:=K) T (r:=r) (hob.same s1) (hr2 r hrm).1 fun L G3 s3 hL eL=>?_;walk_at"w";refine⟨L,rfl,⟨_,SqL.of eL⟩,?_⟩;walk_at"w";have hd3:G3 d=some (.dK kvs):=s3.at hd;have nLd:L≠d:=vL eL hd3 (fun z=>by cases z);refine yZ (xs:=r.cv.map V.int) (fun j σ G4=>xg H G4∧G4 L=some (.lst (r.cv.map V.int))∧(∃kvs seen,G4 d=some (.dK kvs)∧InD kvs seen∧kvs.length≤i*300+j∧∀c,c∈seen↔c∈((rs.map xq.cv).take i).flatten++r.cv.take j)∧∃x4,σ=[some (.ref l),some (.int new),some (.ref d),some (.ref o),x4])
    ⟨s1.trans s3,eL,⟨kvs,seen,hd3,hin,by lia,fun c=>by rw[iD,bZ];exact hse c⟩,_,rfl⟩ (fun j σ G4 hj hQ=>SqL.of hQ.2.1) (fun j x σ G4 hx hQ=>?_) (fun σ G4 hQ=>?_)
   ·obtain⟨s4,eL4,⟨kvs4,seen4,hd4,hin4,hk4,hse4⟩,x4,rfl⟩:=hQ;rw[aA]at hx;obtain⟨c,hc,rfl⟩:=aJ.mp hx;have hj:j<r.cv.length:=(ax.mp hc).1;have hb:=(hr2 r hrm).1;walk_at"w";refine⟨d,_,rfl,xdE.k (k:=cI c) hd4 (by rw[a6];lia),?_⟩;generalize hV:upd G4 d _=G5;have s5:xg H G5:=xg.wr s4 hd' hV;have eL5:G5 L=some (.lst (r.cv.map V.int)):=by rw[←hV,xr nLd];exact eL4
    have hd5:=xj hV;clear hV;have:=xfo kvs4 (cI c) (.bl true);refine⟨s5,eL5,⟨_,_,hd5,hin4.put c _,by lia,fun y=>?_⟩,_,rfl⟩;rw[bH,hc,←cC,aV,aq,hse4 y];simp[or_comm]
   ·obtain⟨s4,eL4,⟨kvs4,seen4,hd4,hin4,hk4,hse4⟩,x4,rfl⟩:=hQ;rw[ai]at hk4 hse4;rw[bS]at hse4;have hb:=(hr2 r hrm).1;refine⟨s4,⟨kvs4,seen4,hd4,hin4,by lia,fun c=>?_⟩,_,_,rfl⟩;rw[hse4 c,bH,aA,hr,List.flatten_append];simp
  ·obtain⟨s1,⟨kvs,seen,hd,hin,hkl,hse⟩,x3,x4,rfl⟩:=hP;rw[ai]at hse;have hse':∀c,c∈seen↔c∈(rs.map xq.cv).flatten:=fun c=>by
    rw[hse c,htl];rw[cR (by rw[ai];exact ar _)]
   walk_at"w";have en:yy 0 ((new:Nat):Int) 1=new:=by rw[zV];lia
   rw[en];refine xbI (fun i σ G2=>G2=G∧(∀j,j<i→((j:Nat):Int)∈(rs.map xq.cv).flatten)∧∃x4,σ=[some (.ref l),some (.int new),some (.ref d),x3,x4]) ⟨rfl,fun j hj=>absurd hj (eI _),_,rfl⟩ (fun i σ G2 hi hQ=>?_) (fun σ G2 hQ=>?_)
   ·obtain⟨rfl,hall,x4,rfl⟩:=hQ;have ei:(0+(i:Int)*1)=(i:Int):=by lia
    rw[ei];walk_at"w";refine⟨d,_,rfl,uV.k (k:=cI (i:Int)) hd,?_⟩;walk_at"w";rw[hin];refine⟨fun e=>?_,fun e=>?_⟩
    ·have e':¬(i:Int)∈seen:=by simpa using e
     have ef:um rs new=some (i:Int):=by
      unfold um;rw[xeh (j:=i) (fun j hj c hc=>?_),b7 (by simp;exact hi),cc]
      ·simp only[List.getElem_map,j4];have:¬(i:Int)∈(rs.map xq.cv).flatten:=fun z=>e' ((hse' _).mpr z);simp only[decide_eq_false this];rfl
      ·rw[aA,fQ (by lia)]at hc;cases hc;simp only[decide_eq_true (hall j hj)];rfl
     rw[ef]at q;walk_at"w";walk_at"ss";intro t ht;exact q t _ (s1.trans (xg.new ht)) xt
    ·have e':(i:Int)∈seen:=by simpa using e
     refine⟨rfl,fun j hj=>?_,_,rfl⟩
     by_cases hji:j=i
     ·rw[hji];exact(hse' _).mp e'
     ·exact hall j (by lia)
   ·obtain⟨rfl,hall,x4,rfl⟩:=hQ;have ef:um rs new=none:=by
     unfold um;rw[cT];intro c hc;obtain⟨j,hj,rfl⟩:=cy.mp hc;simp[hall j (dU.mp hj)]
    rw[ef]at q;exact q G2 s1
theorem xlK(k:Nat)(rs:List xq)(r:xq)(wr:List Int)(h:rs[0]? =some r):uR k rs wr=match r.rds.find? fun c=>decide (c∈wr)with
  |some c=>some (k,c)
  |none=>uR (k+1) (rs.drop 1) (wr++r.wrs):=by
 cases rs with
 |nil=>simp at h
 |cons x t=>simp at h;subst h;rfl
theorem xhR:∀(k:Nat) (rs:List xq) (w1 w2:List Int),(∀c,c∈w1↔c∈w2)→uR k rs w1=uR k rs w2
 |_,[],_,_,_=>rfl
 |k,r::t,w1,w2,h=>by
  unfold uR;have e:(fun c=>decide (c∈w1))=fun c=>decide (c∈w2):=funext fun c=>by congr 1;exact propext (h c)
  rw[e];cases r.rds.find? fun c=>decide (c∈w2)with
  |some c=>rfl
  |none=>exact xhR (k+1) t _ _ fun c=>by rw[aV,aV,h c]
theorem xjs(T:Txt K mg a):xE P w K mg base CX0 3 a.q2A a.xcb ["rows"] (xpq K a):=by
 refine T.q2F.ok xed (fun vs H Q E h=>?_) (fun cdv A outer s H vs Q E hr h=>?_)
 ·obtain⟨l,rs,rfl,_⟩:=h;rfl
 ·obtain⟨l,rs,rfl,⟨ts,hl,hp⟩,⟨hr1,hr2⟩,q⟩:=h;have nd:=xed.nd;refine⟨_,(xh (xD (i:=1) nd rfl (az rfl) xe6)
  (xh (yE bf rfl (xkt (by rfl) T.q3n (xc (cv 0) xf)) (uU rfl (xQ (xN (i:=2) nd rfl (az rfl)) (xQ (xN (i:=3) nd rfl (az rfl)) zI))) (xh (yE bf rfl (zJ (xa1 (xU (cv 3) T.q1G T.q5q (xjr T) (hr.mono (by decide)) T.xjU .nil xu) (xU (cv 3) T.q0l T.q5f (xii T) (hr.mono (by decide)) T.xiS .nil xu))) (xN (i:=4) nd rfl (az rfl)) (xm (xM (xli (xl8 (vM hr) (cv 4) (cv 1)) (by rfl)) (xm (xw (xH (xc xG (xc (cv 2) (xc (cv 4) xf)))))) xx)))
  (xm (yE bf rfl (zJ (xa1 (xU (cv 3) T.q1G T.q5c (xij T) (hr.mono (by decide)) T.xiT .nil xu) (xU (cv 3) T.q0l T.q4W (xhh T) (hr.mono (by decide)) T.xh0 .nil xu))) (xN (i:=4) nd rfl (az rfl)) (xm (xgF (vM hr) (cv 1) (cv 4) zT rfl))))))
  (xm (xw yi)))),?_⟩
  walk_at"w";intro d hd';generalize hU0:upd H d _=H1;have sH1:=xg.of_eq hd' hU0;have ed:=xj hU0;clear hU0;walk_at"w";have htl:ts.length=rs.length:=hp.length;refine⟨l,rfl,⟨_,sH1.seq hl⟩,?_⟩;walk_at"w";refine xeO (xs:=ts.map V.ref) (fun i σ G=>xg H G∧(∃kvs seen,G d=some (.dK kvs)∧InD kvs seen∧kvs.length≤i*300∧vS rs=uR i (rs.drop i) seen)∧∃x2 x3 x4,σ=[some (.ref l),some (.ref d),x2,x3,x4]) ⟨sH1,⟨[],[],ed,InD.nil,by simp,rfl⟩,_,_,_,rfl⟩ (fun i σ G hi hP=>hP.1.seq hl) (fun i x σ G T0 hx hP hT0=>?_) (fun σ G hP=>?_)
  ·obtain⟨s1,⟨kvs,seen,hd,hin,hkl,hla⟩,x2,x3,x4,rfl⟩:=hP;rw[aA]at hx;obtain⟨o,ho,rfl⟩:=aJ.mp hx;obtain⟨r,hr,hob⟩:=Paired.nth hp ho;have hrm:r∈rs:=aU hr;generalize hU:upd G T0 _=G2;have s2:=xg.of_eq hT0 hU;have eT:=xj hU;clear hU;have hdr:(rs.drop i)[0]? =some r:=by rw[dO,Nat.add_zero];exact hr
   rw[xlK i _ r seen hdr,List.drop_drop]at hla;walk_at"w";refine⟨T0,_,rfl,SqT.of eT,rfl,?_⟩;walk_at"w";refine⟨_,_,rfl,?_⟩;walk_at"w";refine⟨_,_,rfl,?_⟩;walk_at"w";refine a7 rfl ?_;walk_at"w";refine xps (K:=K) T (r:=r) (hob.same (s1.trans s2)) (hr2 r hrm).1 fun L G3 s3 hL eL=>?_;walk_at"w";refine⟨L,rfl,⟨_,SqL.of eL⟩,?_⟩;walk_at"w";have hd3:G3 d=some (.dK kvs):=s3.at (s2.at hd)
   have s13:xg H G3:=s1.trans (s2.trans s3);refine yZ (xs:=r.rds.map V.int) (fun j σ G4=>G4=G3∧(∀i',i'<j→∀c,r.rds[i']? =some c→decide (c∈seen)=false)∧∃x4,σ=[some (.ref l),some (.ref d),some (.int i),some (.ref o),x4])
    ⟨rfl,fun j hj=>absurd hj (eI _),_,rfl⟩ (fun j σ G4 hj hQ=>by rw[hQ.1];exact SqL.of eL) (fun j x σ G4 hx hQ=>?_) (fun σ G4 hQ=>?_)
   ·obtain⟨rfl,hno,x4,rfl⟩:=hQ;rw[aA]at hx;obtain⟨c,hc,rfl⟩:=aJ.mp hx;have hj:j<r.rds.length:=(ax.mp hc).1;walk_at"w";refine⟨d,_,rfl,uV.k (k:=cI c) hd3,?_⟩;walk_at"w";rw[hin c];refine⟨fun e=>?_,fun e=>?_⟩
    ·have ef:r.rds.find? (fun c=>decide (c∈seen))=some c:=by
      rw[xeh (j:=j) hno,b7 hj,cc,(ax.mp hc).2,e]
     rw[ef]at hla;rw[hla]at q;walk_at"w";walk_at"ss";intro t ht;exact q t _ (s13.trans (xg.new ht)) xt
    ·refine⟨rfl,fun i' hi' c' hc'=>?_,_,rfl⟩
     by_cases hji:i'=j
     ·rw[hji,hc]at hc';cases hc';exact e
     ·exact hno i' (by lia) c' hc'
   ·obtain⟨rfl,hno,x4,rfl⟩:=hQ;rw[ai]at hno;have ef:r.rds.find? (fun c=>decide (c∈seen))=none:=by
     rw[xeh (j:=r.rds.length) hno,hW];rfl
    rw[ef]at hla;walk_at"w";refine xpt (K:=K) T (r:=r) (hob.same s13) (hr2 r hrm).1 fun L2 G5 s5 hL2 eL2=>?_;walk_at"w";refine⟨L2,rfl,⟨_,SqL.of eL2⟩,?_⟩;walk_at"w";have hd5:G5 d=some (.dK kvs):=s5.at hd3;have nLd:L2≠d:=vL eL2 hd5 (fun z=>by cases z);have hwl:=(hr2 r hrm).2.2;refine yZ (xs:=r.wrs.map V.int) (fun j σ G6=>xg H G6∧G6 L2=some (.lst (r.wrs.map V.int))∧(∃kvs' seen',G6 d=some (.dK kvs')∧InD kvs' seen'∧kvs'.length≤i*300+j∧∀c,c∈seen'↔c∈seen++r.wrs.take j)∧∃x4,σ=[some (.ref l),some (.ref d),some (.int i),some (.ref o),x4])
     ⟨s13.trans s5,eL2,⟨kvs,seen,hd5,hin,by lia,fun c=>by rw[iD,bZ]⟩,_,rfl⟩ (fun j σ G6 hj hQ=>SqL.of hQ.2.1) (fun j x σ G6 hx hQ=>?_) (fun σ G6 hQ=>?_)
    ·obtain⟨s6,eL6,⟨kvs6,seen6,hd6,hin6,hk6,hse6⟩,x4,rfl⟩:=hQ;rw[aA]at hx;obtain⟨c,hc,rfl⟩:=aJ.mp hx;have hj:j<r.wrs.length:=(ax.mp hc).1;have hi:i<ts.length:=(ax.mp ho).1;walk_at"w";refine⟨d,_,rfl,xdE.k (k:=cI c) hd6 (by rw[a6];lia),?_⟩;generalize hV:upd G6 d _=G7;have s7:xg H G7:=xg.wr s6 hd' hV;have eL7:G7 L2=some (.lst (r.wrs.map V.int)):=by rw[←hV,xr nLd];exact eL6
     have hd7:=xj hV;clear hV;have:=xfo kvs6 (cI c) (.bl true);refine⟨s7,eL7,⟨_,_,hd7,hin6.put c _,by lia,fun y=>?_⟩,_,rfl⟩;rw[bH,hc,←cC,aV,aq,hse6 y];simp[or_comm]
    ·obtain⟨s6,eL6,⟨kvs6,seen6,hd6,hin6,hk6,hse6⟩,x4,rfl⟩:=hQ;rw[ai]at hk6 hse6;rw[bS]at hse6;refine⟨s6,⟨kvs6,seen6,hd6,hin6,by lia,?_⟩,_,_,_,rfl⟩;rw[hla];exact xhR _ _ _ _ fun c=>(hse6 c).symm
  ·obtain⟨s1,⟨kvs,seen,hd,hin,hkl,hla⟩,x2,x3,x4,rfl⟩:=hP;have e0:rs.drop (ts.map V.ref).length=[]:=by
    rw[ai,htl];exact hW
   rw[e0]at hla;have e1:vS rs=none:=hla;rw[e1]at q;exact q G s1
end
section
variable {P:av} {w:World} {K:ag} {mg:Str→Option Value} {base:Heap} {a:Adr}
theorem xei(T:Txt K mg a):xE P w K mg base CX0 3 a.q2z a.xca ["value"] xjk:=by
 refine T.q17.ok xec (fun vs H Q E h=>?_) (fun cdv A outer s H vs Q E hr h=>?_)
 ·obtain⟨i,rfl,_⟩:=h;rfl
 ·obtain⟨i,rfl,h0,h3,q⟩:=h;have nd:=xec.nd;refine⟨_,(xm (xw (zK (xB (zk T) (hr.mono (by decide)) (by rfl) T.zy T.q0z.kp T.zx .nil xu (xc xk (xc (cv 0) xf))) (uT (yY xnl (cv 0) (uq (v:=.int 300) (by rfl) T.xmI ⟨_,rfl⟩)))))),?_⟩;walk_at"w";refine⟨_,i,rfl,?_⟩;rw[decide_eq_true h0];walk_at"w";refine⟨fun _=>?_,by walk_at"no"⟩;show Q (.bl (decide (i≤300))) H;rw[decide_eq_true h3];exact q
theorem xgp(T:Txt K mg a):xE P w K mg base CX0 4 a.q1I a.jR ["paper"] (xpr K):=by
 refine T.q1J.ok xbM (fun vs H Q E h=>?_) (fun cdv A outer s H vs Q E hr h=>?_)
 ·obtain⟨p,o,n,rs,rfl,_⟩:=h;rfl
 ·obtain⟨p,o,n,rs,rfl,⟨tt,ts,hp,ht,hts⟩,ho0,ho3,hn0,hn3,hl,q⟩:=h;have nd:=xbM.nd;refine⟨_,(xm (xw (zK (xB (xei T) (hr.mono (by decide)) (by rfl) T.xeS T.q17.kp T.xeR .nil xu (xc (xC xK (cv 0) xk (fun _ _=>rfl)) xf)) (zK (xB (xei T) (hr.mono (by decide)) (by rfl) T.xeS T.q17.kp T.xeR .nil xu (xc (xC xK (cv 0) xk (fun _ _=>rfl)) xf)) (uT (yY xnl (xI xZ (by rfl) T.q1Z yK (xc (xC xK (cv 0) xk (fun _ _=>rfl)) xf)) (uq (v:=.int 300) (by rfl) T.xmI ⟨_,rfl⟩))))))),?_⟩;walk_at"w";refine⟨p,_,_,.int o,rfl,rfl,SqT.of hp,rfl,?_⟩;walk_at"w";refine⟨o,rfl,ho0,ho3,?_⟩;walk_at"w";refine⟨fun _=>?_,by walk_at"no"⟩;walk_at"w";refine⟨p,_,_,.int n,rfl,rfl,SqT.of hp,rfl,?_⟩;walk_at"w";refine⟨n,rfl,hn0,hn3,?_⟩;walk_at"w";refine⟨fun _=>?_,by walk_at"no"⟩;walk_at"w";refine⟨p,_,_,.ref tt,rfl,rfl,SqT.of hp,rfl,?_⟩;walk_at"w";refine⟨tt,_,rfl,.inr (SqT.of ht),?_⟩;rw[ai,hts.length];show Q (.bl (decide ((rs.length:Int)≤300))) H;rw[decide_eq_true (by lia)];exact q
theorem xeJ(T:Txt K mg a):xE P w K mg base CX0 6 a.q1c a.jc ["told","old","new"] (xlE K):=by
 refine T.q1e.ok xaI (fun vs H Q E h=>?_) (fun cdv A outer s H vs Q E hr h=>?_)
 ·obtain⟨t,r,old,new,rfl,_⟩:=h;rfl
 ·obtain⟨t,r,old,new,rfl,ht,hk,hf,q⟩:=h;have nd:=xaI.nd;refine⟨_,(xh (xkw rfl (xm (xD (i:=3) nd rfl (az rfl) (xB (jj T) (hr.mono (by decide)) (by rfl) T.jT T.q10.kp T.jS .nil xu (xc (cv 0) xf)))))
  (xh (xM (PW.pt (xdF (zh (xI uX (by rfl) T.q0q ye (xc (cv 3) (xc (uq (v:=.ref a.q0h) (by rfl) T.xi1 rfl) xf)))) (xce (xO xbU (xy yv (xA (cv 3) rfl) (xA (cv 3) rfl)) (cv 1))))) (xm (xw zT)) xx)
  (xm (xw (yY xnl (xC xK (xa1 (xU (cv 3) T.q1G T.q5a (xdw T) (hr.mono (by decide)) T.xd0 .nil xu) (xU (cv 3) T.q0l T.q4U (xdw T) (hr.mono (by decide)) T.xd0 .nil xu)) xk (fun _ _=>rfl)) (cv 2)))))),?_⟩
  walk_at"w";refine⟨t,r,rfl,ht,hk,fun o H1 s1 _ ho=>?_⟩;cases r with
  |take to st c=>
   obtain⟨dx,ho⟩:=ho;walk_at"w";refine⟨_,_,_,_,true,rfl,rfl,T.xkE ho,T.q4r,?_⟩;walk_at"w";refine⟨fun _=>?_,by walk_at"no"⟩;walk_at"w";refine⟨o,_,dx,_,.int st,rfl,ho,T.q0l,T.q0F,rfl,?_⟩;walk_at"w";refine⟨o,_,dx,_,.int c,rfl,ho,T.q0l,T.q0T,rfl,?_⟩;walk_at"w";rw[decide_eq_false (show¬old<st+c from by have:=hf.1;lia)];refine⟨by walk_at"no",fun _=>?_⟩;walk_at"w";refine bT ?_;walk_at"w";refine⟨o,dx,_,rfl,ho,rfl,?_⟩;walk_at"w";refine⟨o,a.q0h,dx,_,to,c,rfl,ho,T.q0l,T.q0Z,T.q0T,rfl,rfl,?_⟩;intro t3 ht3;generalize hUt3:upd H1 t3 _=H3;have sH3:=xg.of_eq ht3 hUt3;have et3:=xj hUt3;clear hUt3;walk_at"w";refine⟨t3,_,_,.int (to+c),rfl,rfl,SqT.of et3,rfl,?_⟩;show Q (.bl (decide (to+c≤new))) H3;rw[decide_eq_true hf.2];exact q H3 (s1.trans sH3)
  |put to sg=>
   obtain⟨dx,u,ho,hu⟩:=ho;walk_at"w";refine⟨_,_,_,_,false,rfl,rfl,T.xmH ho,T.q4Z,?_⟩;walk_at"w";refine⟨by walk_at"no",fun _=>?_⟩;walk_at"w";refine⟨by walk_at"no",fun _=>?_⟩;walk_at"w";refine az ?_;walk_at"w";refine⟨o,dx,_,rfl,ho,rfl,?_⟩;walk_at"w";refine⟨o,a.q0k,dx,_,to,sg.length,rfl,ho,T.q1G,T.q24,T.q1W,rfl,rfl,?_⟩;intro t3 ht3;generalize hUt3:upd H1 t3 _=H3;have sH3:=xg.of_eq ht3 hUt3;have et3:=xj hUt3;clear hUt3;walk_at"w";refine⟨t3,_,_,.int (to+sg.length),rfl,rfl,SqT.of et3,rfl,?_⟩;show Q (.bl (decide (to+(sg.length:Int)≤new))) H3;rw[decide_eq_true (show to+(sg.length:Int)≤new from hf)];exact q H3 (s1.trans sH3)
theorem xej(T:Txt K mg a):xE P w K mg base CX0 7 a.q00 a.vE ["paper"] (xnK K):=by
 refine T.q01.ok xaf (fun vs H Q E h=>?_) (fun cdv A outer s H vs Q E hr h=>?_)
 ·obtain⟨p,o,n,rs,rfl,_⟩:=h;rfl
 ·obtain⟨p,o,n,rs,rfl,⟨tt,ts,hp,ht,hts⟩,hk,hl,q⟩:=h;have nd:=xaf.nd;refine⟨_,(xh (yE bf rfl (xnz (by rfl) T.q3n (xc (xC xK (cv 0) xk (fun _ _=>rfl)) xf)) (uU rfl (xQ (xN (i:=1) nd rfl (az rfl)) (xQ (xN (i:=2) nd rfl (az rfl)) zI))) (xm (xM (xcf (zh (xB (xeJ T) (hr.mono (by decide)) (by rfl) T.xfg T.q1e.kp T.xff .nil xu (xc (cv 2) (xc (xC xK (cv 0) xk (fun _ _=>rfl)) (xc (xC xK (cv 0) xk (fun _ _=>rfl)) xf)))))) (xm (xw (cv 1))) xx)))
  (xm (xw yi))),?_⟩
  walk_at"w";refine⟨p,_,_,.ref tt,rfl,rfl,SqT.of hp,rfl,?_⟩;walk_at"w";refine⟨tt,rfl,⟨_,SqT.of ht⟩,?_⟩;walk_at"w";refine xjO (xs:=ts.map V.ref) (fun i σ H1=>xg H H1∧∃x1 x2,σ=[some (.ref p),x1,x2]) ⟨xg.refl _,_,_,rfl⟩ (fun i σ H1 hi hP=>hP.1.seqT (SqT.of ht)) (fun i x σ H1 T0 hx hP hT0=>?_) (fun σ H1 hP=>?_)
  ·obtain⟨s1,x1,x2,rfl⟩:=hP;rw[aA]at hx;obtain⟨t0,ht0,rfl⟩:=aJ.mp hx;obtain⟨r,hr0,pr⟩:=xbV hts ht0;obtain⟨k1,k2⟩:=hk r (aU hr0);generalize hU:upd H1 T0 _=H2;have s2:=xg.of_eq hT0 hU;have eT:=xj hU;clear hU;have s02:=s1.trans s2;walk_at"w";refine⟨T0,_,rfl,SqT.of eT,rfl,?_⟩;walk_at"w";refine⟨_,_,rfl,?_⟩;walk_at"w";refine⟨_,_,rfl,?_⟩;walk_at"w";refine a7 rfl ?_;walk_at"w";refine⟨p,_,_,.int o,rfl,rfl,SqT.of (s02.at hp),rfl,?_⟩;walk_at"w";refine⟨p,_,_,.int n,rfl,rfl,SqT.of (s02.at hp),rfl,?_⟩;walk_at"w";refine⟨t0,r,o,n,rfl,pr.same s02,k1,k2,fun H3 s3=>?_⟩;walk_at"w";refine⟨by walk_at"no",fun _=>?_⟩;exact⟨s02.trans s3,_,_,rfl⟩
  ·obtain⟨s1,x1,x2,rfl⟩:=hP;exact q H1 s1
theorem xnU{old new:Int}{r:xq}(hk:r.ok)(hn:new≤300)(h:Fit old new r):r.cv.length≤300∧r.rds.length≤300∧r.wrs.length≤300:=by
 cases r with
 |take to st c=>
  obtain⟨k1,k2,k3⟩:=hk;have h2:=h.2;refine⟨by simp only[xq.cv,yu];lia,?_,?_⟩
  ·simp only[xq.rds];split
   ·simp
   ·rw[yu];lia
  ·simp only[xq.wrs];split
   ·simp
   ·rw[yu];lia
 |put to sg=>
  have h2:to+(sg.length:Int)≤new:=h;have k1:=hk.1;refine⟨by simp only[xq.cv,yu];lia,by simp[xq.rds],by simp only[xq.wrs,yu];lia⟩
theorem xnV(T:Txt K mg a):xE P w K mg base CX0 8 a.q4y a.xgX ["paper"] (xnL K):=by
 refine T.q4H.ok xi3 (fun vs H Q E h=>?_) (fun cdv A outer s H vs Q E hr h=>?_)
 ·obtain⟨p,o,n,rs,rfl,_⟩:=h;rfl
 ·obtain⟨p,o,n,rs,rfl,hP,ho,hn,hl,hk,h1,q⟩:=h;have nd:=xi3.nd;refine⟨_,(xh (xM (xcf (zh (xB (xgp T) (hr.mono (by decide)) (by rfl) T.xg7 T.q1J.kp T.xg6 .nil xu (xc (cv 0) xf)))) xcJ xx)
  (xh (xD (i:=1) nd rfl (az rfl) (xB (xej T) (hr.mono (by decide)) (by rfl) T.xeG T.q01.kp T.xeF .nil xu (xc (cv 0) xf)))
  (xh (xM (xev (cv 1)) xcJ xx)
  (xh (xk9 (i:=2) (uW (cap:=[]) (ys:=[]) rfl rfl rfl rfl rfl trivial (by decide+kernel)) rfl nd rfl rfl (xfx (xC xK (cv 0) xk (fun _ _=>rfl))) (fun _ _ _ _=>(xB (jj T) (hr.mono (by decide)) (by rfl) T.jT T.q10.kp T.jS .nil xu (xc (cv 0) xf))) (fun _ _ _ _=>ur))
  (xh (xD (i:=3) nd rfl (az rfl) (xB (xfp T) (hr.mono (by decide)) (by rfl) T.xf9 T.q1u.kp T.xf8 .nil xu (xc (cv 2) xf)))
  (xh (zu (xM (xaa (cv 3)) (xm (xD (i:=3) nd rfl (az rfl) (xB (xlJ T) (hr.mono (by decide)) (by rfl) T.xmC T.q3z.kp T.xmB .nil xu (xc (cv 2) (xc (xC xK (cv 0) xk (fun _ _=>rfl)) xf))))) xx))
  (xh (zu (xM (xaa (cv 3)) (xm (xD (i:=3) nd rfl (az rfl) (xB (xjs T) (hr.mono (by decide)) (by rfl) T.xj3 T.q2F.kp T.xj2 .nil xu (xc (cv 2) xf)))) xx))
  (xm (xw (cv 3)))))))))),?_⟩
  walk_at"w";refine⟨p,o,n,rs,rfl,hP,ho.1,ho.2,hn.1,hn.2,hl,?_⟩;walk_at"w";refine⟨by walk_at"no",fun _=>?_⟩;walk_at"w";refine⟨p,o,n,rs,rfl,hP,hk,hl,fun H1 s1=>?_⟩;walk_at"w";refine⟨by walk_at"no",fun _=>?_⟩;obtain⟨tt,ts,hp,ht,hts⟩:=hP.same s1;walk_at"w";refine⟨p,_,_,.ref tt,rfl,rfl,SqT.of hp,rfl,?_⟩;walk_at"w";refine⟨tt,rfl,⟨_,SqT.of ht⟩,?_⟩;refine xhF (fun i acc G=>∃(os:List Addr),acc=os.map V.ref∧Paired (yS K a G) os (rs.take i)) (SqT.of ht) (by rw[ai,hts.length,a6];lia) ⟨[],rfl,.nil⟩ (fun i x acc H3 H3' hx s3 s3' hP R hR=>?_) (fun D acc H3 H3' hD hD3 s3 s3' hP hel he=>?_)
  ·obtain⟨os,rfl,hpr⟩:=hP;rw[aA]at hx;obtain⟨t0,ht0,rfl⟩:=aJ.mp hx;obtain⟨r,hr0,pr⟩:=xbV hts ht0;walk_at"w";refine⟨t0,r,rfl,pr.same (s3.trans s3'),(hk r (aU hr0)).1,fun o H6' s6 hno hob=>hR _ _ s6 fun H6 sx kx=>⟨os++[o],by simp,?_⟩⟩;rw[bH,hr0];exact jW (L2.Paired.imp' (fun _ _ z=>z.same sx) hpr) (hob.mv kx)
  obtain⟨os,rfl,hpr⟩:=hP;rw[ai,hts.length,bS]at hpr;have hpr':=L2.Paired.imp' (fun _ _ (z:yS K a H3 _ _)=>z.same s3') hpr;have sA:xg H H3':=s1.trans (s3.trans s3');have hrok:xgk rs:=⟨hl,fun r hrm=>xnU (hk r hrm).1 hn.2 (hk r hrm).2⟩;have hp3:=(s3.trans s3').at hp;clear hel hD3 s3 s3' hpr hts ht hp;walk_at"w";refine⟨D,rs,rfl,⟨os,SqL.of he,hpr'⟩,hrok,h1,?_⟩;rw[h1];intro H4 s4;walk_at"w";refine⟨fun σ' G=>(um rs n.toNat=none∧σ'=[some (.ref p),some .non,some (.ref D),some .non]∧xg H3' G)∨∃t,σ'=[some (.ref p),some .non,some (.ref D),some (.ref t)]∧Q (.ref t) G,?_,?_⟩
  ·walk_at"w";refine⟨fun _=>?_,by walk_at"no"⟩;walk_at"w";refine⟨p,_,_,.int n,rfl,rfl,SqT.of (s4.at hp3),rfl,?_⟩;walk_at"w";refine⟨D,rs,n.toNat,by rw[cH hn.1];rfl,⟨os,SqL.of (s4.at he),L2.Paired.imp' (fun _ _ z=>z.same s4) hpr'⟩,hrok,by lia,?_⟩;unfold xjl at q;cases hlk:um rs n.toNat with
   |none=>intro H5 s5;exact .inl ⟨rfl,rfl,s4.trans s5⟩
   |some c=>rw[hlk]at q;intro t H5 s5 et;exact .inr ⟨t,rfl,q t H5 (sA.trans (s4.trans s5)) et⟩
  rintro σ' G (⟨hlk,rfl,sG⟩|⟨t,rfl,qt⟩)
  ·unfold xjl at q;rw[hlk]at q;walk_at"w";refine⟨fun σ' G2=>∃v,σ'=[some (.ref p),some .non,some (.ref D),some v]∧Q v G2,?_,?_⟩
   ·walk_at"w";refine⟨fun _=>?_,by walk_at"no"⟩;walk_at"w";refine⟨D,rs,rfl,⟨os,SqL.of (sG.at he),L2.Paired.imp' (fun _ _ z=>z.same sG) hpr'⟩,hrok,?_⟩;cases hlt:vS rs with
    |none=>
     rw[hlt]at q;intro H5 s5;exact⟨_,rfl,q H5 (sA.trans (sG.trans s5))⟩
    |some kc=>
     rw[hlt]at q;intro t H5 s5 e5;exact⟨_,rfl,q t H5 (sA.trans (sG.trans s5)) e5⟩
   rintro σ' G2 ⟨v,rfl,qv⟩;exact qv
  ·walk_at"w";refine⟨fun σ' G2=>∃v,σ'=[some (.ref p),some .non,some (.ref D),some v]∧Q v G2,?_,?_⟩
   ·walk_at"w";refine⟨by walk_at"no",fun _=>?_⟩;exact⟨_,rfl,qt⟩
   rintro σ' G2 ⟨v,rfl,qv⟩;walk_at"w";exact qv
end
abbrev bI(b:Bool):Int:=if b then 1 else 0
structure BA where
 bd:Addr
 dx:Addr
 p:Addr
 dp:Addr
 bl:Addr
 le:Addr
 ma:Addr
 se:Addr
 S:Bool→SA
structure BdS where
 size:Int
 cells:Bool→List Int
 notes:Bool→List (Option Int)
 len:Bool→Int
 mark:Bool→Str
 mr:Bool
 ct:Int
 run:Option Bool
 cnt:Int
def zE:Option Bool→V
 |none=>.non
 |some b=>.int (bI b)
abbrev bdF(B:BA)(size:Int)(run:V):List (Str×V):=[("pen",.ref B.p),("size",.int size),("banks",.ref B.bl),("lengths",.ref B.le),("marks",.ref B.ma),("settings",.ref B.se),("running",run)]
abbrev xfq(mk:Bool)(ct:Int):List (Key×V):=[(.inr "marker",.int (bI mk)),(.inr "counter",.int ct)]
structure xP(a:Adr)(H:Hp)(B:BA)(s:BdS):Prop where
 bd:H B.bd=some (.ins a.q0d B.dx (bdF B s.size (zE s.run)))
 bl:H B.bl=some (.lst [.ref (B.S false).st,.ref (B.S true).st])
 le:H B.le=some (.lst [.int (s.len false),.int (s.len true)])
 ma:H B.ma=some (.lst [.str (s.mark false),.str (s.mark true)])
 se:H B.se=some (.dK (xfq s.mr s.ct))
 st:∀b,yo a H (B.S b) (s.cells b) (s.notes b) s.cnt .non
 sp:∀b,(B.S b).p=B.p∧(B.S b).dp=B.dp
 nl:[B.bl,B.le,B.ma,(B.S false).ca,(B.S false).na,(B.S true).ca,(B.S true).na].Nodup
 ni:[B.bd,(B.S false).st,(B.S true).st,B.p].Nodup
abbrev BS(B:BA):List Addr:=[B.bd,B.le,B.ma,B.se,B.p,(B.S false).ca,(B.S false).na,(B.S true).ca,(B.S true).na]
theorem xP.pen{a:Adr}{H:Hp}{B:BA}{s:BdS}(h:xP a H B s):H B.p=some (.ins a.q0s B.dp (uK s.cnt .non)):=by
 have:=(h.st false).p;rw[(h.sp false).1,(h.sp false).2]at this;exact this
theorem xP.same{a:Adr}{H H':Hp}{B:BA}{s:BdS}(h:xP a H B s)(e:xg H H'):xP a H' B s:=
 ⟨e.at h.bd,e.at h.bl,e.at h.le,e.at h.ma,e.at h.se,fun b=>(h.st b).same e,h.sp,h.nl,h.ni⟩
def xmU(a:Adr):Sp:=fun vs H Q _=>∃(B:BA) (s:BdS) (l:Addr) (at' val:V),vs=[.ref B.bd,.ref l,at',val]∧xP a H B s∧H yB=some (.tbl zw)∧
 ((∃(i:Int) (xs:List V),at'= .int i∧H l=some (.lst xs)∧0≤i∧i<xs.length∧∀H',Kp [B.p,l] H H'→H' B.p=some (.ins a.q0s B.dp (uK (s.cnt+1) .non))→H' l=some (.lst (xs.set i.toNat val))→Q .non H')∨
  ∃(k:Key) (kvs:List (Key×V)),at'=kV k∧H l=some (.dK kvs)∧kvs.length<100∧∀H',Kp [B.p,l] H H'→H' B.p=some (.ins a.q0s B.dp (uK (s.cnt+1) .non))→H' l=some (.dK (putK kvs k val))→Q .non H')
def xnW(a:Adr):Sp:=fun vs H Q _=>∃(B:BA) (s:BdS),vs=[.ref B.bd]∧xP a H B s∧Q (.int (bI (!s.mr))) H
def xnX(a:Adr):Sp:=fun vs H Q _=>∃(B:BA) (s:BdS) (b:Bool) (old:Int),vs=[.ref B.bd,.int (bI b),.int old]∧xP a H B s∧s.mark b≠("open":Str)∧Q (.bl (decide (old=0)||(decide (s.mark b=("good":Str))&&decide (s.len b=old)))) H
def xnY(a:Adr):Sp:=fun vs H Q _=>∃(B:BA) (s:BdS),vs=[.ref B.bd]∧xP a H B s∧∀(t m l:Addr) (H':Hp),xg H H'→H' t=some (.tup [.int (bI s.mr),.ref m,.ref l,.int s.ct,zE s.run])→H' m=some (.lst [.str (s.mark false),.str (s.mark true)])→H' l=some (.lst [.int (s.len false),.int (s.len true)])→Q (.ref t) H'
def xnZ(a:Adr):Sp:=fun vs H Q _=>∃(B:BA) (s:BdS) (b:Bool),vs=[.ref B.bd,.int (bI b)]∧xP a H B s∧0≤s.len b∧∀(t:Addr) (H':Hp),xg H H'→H' t=some (.lst (((s.cells b).take (s.len b).toNat).map V.int))→Q (.ref t) H'
def xn0(a:Adr):Sp:=fun vs H Q _=>∃(S:SA) (cells:List Int) (notes:List (Option Int)) (n:Int),vs=[.ref S.st]∧yo a H S cells notes n .non∧H xV=some (.tbl yj)∧notes.length=2∧xjg a H S cells [some 0,some 0] (n+2) .non (fun H'=>Q .non H')
section
variable {P:av} {w:World} {K:ag} {mg:Str→Option Value} {base:Heap} {a:Adr}
theorem yL(T:Txt K mg a):xE P w K mg base CX0 1 a.q0H a.vd ["self"] (xnW a):=by
 refine T.q1h.ok jI (fun vs H Q E h=>?_) (fun cdv A outer s H vs Q E hr h=>?_)
 ·obtain⟨B,s,rfl,_⟩:=h;rfl
 ·obtain⟨B,st,rfl,hB,q⟩:=h;have nd:=jI.nd;refine⟨_,(xm (xw (xy yw xk (xcg (vM hr) (xA (cv 0) rfl) xG (fun _ _=>rfl))))),?_⟩;walk_at"w";refine⟨B.bd,_,B.dx,_,.ref B.se,rfl,hB.bd,T.q0c,T.q0o,rfl,?_⟩;walk_at"w";refine⟨B.se,.int (bI st.mr),rfl,uV.k (k:=.inr "marker") hB.se,?_⟩;walk_at"w";have e:(1:Int) - bI st.mr=bI (!st.mr):=by cases st.mr<;> rfl
  rw[←e]at q;exact q
theorem ym(T:Txt K mg a):xE P w K mg base CX0 3 a.q0V a.vo ["self","kept","at","value"] (xmU a):=by
 refine T.vq.okC ["value"] T.xgd xbO (fun vs H Q E h=>?_) (fun A outer s H vs Q E hr h=>?_)
 ·obtain⟨B,s,l,at',val,rfl,_⟩:=h;rfl
 ·obtain⟨B,st,l,at',val,rfl,hB,hP,q⟩:=h;have nd:=xbO.nd;refine⟨_,(za (x:="value") (i:=3) nd rfl rfl rfl (by kernel_rfl) (xm (xR (xT (xA (cv 0) rfl) T.q3Z T.q12 (vH T) (hr.mono (by decide)) T.je .nil xu (xc (cv 1) (xc (cv 2) (xc (cv 3) (xc (zS (c:=q0K) (P:=yB) (qs:=zw) (fns:=["value"]) rfl T.q4k (q:="Board.change.<locals>.<lambda>") (by kernel_rfl) (.head _) (by kernel_rfl) (by kernel_rfl)) xf)))))))),?_⟩;walk_at"w";intro a1 e1 z1 d1;refine a7 z1 ?_;generalize hU1:upd H a1 _=H1;have s1:=xg.of_eq z1 hU1;have c1:=xj hU1;clear hU1;have hB1:=hB.same s1;walk_at"w";refine⟨B.bd,_,B.dx,_,.ref B.p,rfl,hB1.bd,T.q0c,T.q2V,rfl,?_⟩;walk_at"w";refine⟨B.p,B.dp,_,rfl,hB1.pen,rfl,?_⟩;walk_at"w";refine⟨s1.at hP,[("value",val)],rfl,(fun x v m=>?_),fun g H2 hg s2 hc=>?_⟩
  ·simp only[ao,eg]at m;obtain⟨rfl,rfl⟩:=m;exact⟨a1,e1,c1⟩
  walk_at"w";have s12:=s1.trans s2;have hB2:=hB.same s12;have kt:∀{S:List Addr} {H':Hp},Kp S H2 H'→Kp S H H':=fun k=>(Kp.of s12).trans k;rcases q with⟨i,xs,rfl,hl,h0,hi,q⟩|⟨ky,kvs,rfl,hl,h0,q⟩
  ·exact⟨B.p,B.dp,l,g,.int i,val,st.cnt,rfl,hB2.pen,.inl ⟨i,xs,rfl,s12.at hl,h0,hi,fun H' k1 k2 k3=>q H' (kt k1) k2 k3⟩⟩
  ·exact⟨B.p,B.dp,l,g,kV ky,val,st.cnt,rfl,hB2.pen,.inr ⟨ky,kvs,rfl,s12.at hl,h0,fun H' k1 k2 k3=>q H' (kt k1) k2 k3⟩⟩
theorem xc9(T:Txt K mg a):xE P w K mg base CX0 1 a.q0C a.uG ["self","bank","old"] (xnX a):=by
 refine T.q06.ok jE (fun vs H Q E h=>?_) (fun cdv A outer s H vs Q E hr h=>?_)
 ·obtain⟨B,s,b,old,rfl,_⟩:=h;rfl
 ·obtain⟨B,st,b,old,rfl,hB,hno,q⟩:=h;have nd:=jE.nd;refine⟨_,(xh (xM (PW.pt (xaN (xO xbG (xC yc (xA (cv 0) rfl) (cv 1) (fun _ _=>rfl)) xG) (xaZ (xO yJ (cv 2) xk)))) (xm (xw zT)) xx)
  (xm (xw (zK (yY xbG (xC yc (xA (cv 0) rfl) (cv 1) (fun _ _=>rfl)) xG) (uT (yY yJ (xC yc (xA (cv 0) rfl) (cv 1) (fun _ _=>rfl)) (cv 2))))))),?_⟩
  have atM:atI [V.str (st.mark false),V.str (st.mark true)] (bI b)=some (.str (st.mark b)):=by cases b<;> rfl
  have atL:atI [V.int (st.len false),V.int (st.len true)] (bI b)=some (.int (st.len b)):=by cases b<;> rfl
  walk_at"w";refine⟨B.bd,_,B.dx,_,.ref B.ma,rfl,hB.bd,T.q0c,T.q0n,rfl,?_⟩;walk_at"w";refine⟨B.ma,_,_,_,rfl,rfl,SqL.of hB.ma,atM,?_⟩;walk_at"w";refine⟨fun c=>absurd (of_decide_eq_true c) hno,fun _=>?_⟩;walk_at"w";refine⟨fun c=>?_,fun c=>?_⟩
  ·walk_at"w";rw[show decide (old=0)=true from c,j3]at q;exact q
  ·rw[show decide (old=0)=false from c,iW]at q;walk_at"w";refine⟨B.bd,_,B.dx,_,.ref B.ma,rfl,hB.bd,T.q0c,T.q0n,rfl,?_⟩;walk_at"w";refine⟨B.ma,_,_,_,rfl,rfl,SqL.of hB.ma,atM,?_⟩;walk_at"w";refine⟨fun c2=>?_,fun c2=>?_⟩
   ·rw[show decide (st.mark b=("good":Str))=true from c2,gw]at q;walk_at"w";refine⟨B.bd,_,B.dx,_,.ref B.le,rfl,hB.bd,T.q0c,T.q1f,rfl,?_⟩;walk_at"w";refine⟨B.le,_,_,_,rfl,rfl,SqL.of hB.le,atL,?_⟩;walk_at"w";exact q
   ·rw[show decide (st.mark b=("good":Str))=false from c2,fR]at q;walk_at"w";have e:decide (st.mark b=aX "good")=false:=c2;exact e▸q
theorem xik(T:Txt K mg a):xE P w K mg base CX0 1 a.q1V a.xbt ["self"] (xnY a):=by
 refine T.q2S.ok xdt (fun vs H Q E h=>?_) (fun cdv A outer s H vs Q E hr h=>?_)
 ·obtain⟨B,s,rfl,_⟩:=h;rfl
 ·obtain⟨B,st,rfl,hB,q⟩:=h;have nd:=xdt.nd;refine⟨_,(xh (xD (i:=1) nd rfl (az rfl) (xcg (vM hr) (xA (cv 0) rfl) xG (fun _ _=>rfl)))
  (xh (xD (i:=2) nd rfl (az rfl) (xcg (vM hr) (xA (cv 0) rfl) xG (fun _ _=>rfl)))
  (xm (xw (xH (xc (cv 1) (xc (yd ze (by rfl) T.q22 zL (xc (xA (cv 0) rfl) xf)) (xc (yd ze (by rfl) T.q22 zL (xc (xA (cv 0) rfl) xf)) (xc (cv 2) (xc (xA (cv 0) rfl) xf)))))))))),?_⟩
  walk_at"w";refine⟨B.bd,_,B.dx,_,.ref B.se,rfl,hB.bd,T.q0c,T.q0o,rfl,?_⟩;walk_at"w";refine⟨B.se,.int (bI st.mr),rfl,uV.k (k:=.inr "marker") hB.se,?_⟩;walk_at"w";refine⟨B.bd,_,B.dx,_,.ref B.se,rfl,hB.bd,T.q0c,T.q0o,rfl,?_⟩;walk_at"w";refine⟨B.se,.int st.ct,rfl,uV.k (k:=.inr "counter") hB.se,?_⟩;walk_at"w";refine⟨B.bd,_,B.dx,_,.ref B.ma,rfl,hB.bd,T.q0c,T.q0n,rfl,?_⟩;walk_at"w";refine⟨B.ma,_,rfl,.inl (SqL.of hB.ma),?_⟩;intro m hm;generalize hUm:upd H m _=H1;have sH1:=xg.of_eq hm hUm;have em:=xj hUm;clear hUm;walk_at"w";refine⟨B.bd,_,B.dx,_,.ref B.le,rfl,sH1.at hB.bd,T.q0c,T.q1f,rfl,?_⟩;walk_at"w";refine⟨B.le,_,rfl,.inl (SqL.of (sH1.at hB.le)),?_⟩;intro l hl;generalize hUl:upd H1 l _=H2;have sH2:=xg.of_eq hl hUl;have el:=xj hUl;clear hUl;walk_at"w";refine⟨B.bd,_,B.dx,_,zE st.run,rfl,(sH1.trans sH2).at hB.bd,T.q0c,T.q0m,rfl,?_⟩;walk_at"w";walk_at"ss";intro t ht;generalize hUt:upd H2 t _=H3;have sH3:=xg.of_eq ht hUt;have et:=xj hUt;clear hUt;walk_at"w";exact q t m l H3 (sH1.trans (sH2.trans sH3)) et ((sH2.trans sH3).at em) (sH3.at el)
end
section
variable {a:Adr} {H H':Hp} {B:BA} {s:BdS}
theorem xbQ{p q C dx:Addr}{fs:List (Str×V)}{o:HO}(h1:H p=some (.ins C dx fs))(h2:H q=some o)(n:∀C dx fs,o≠.ins C dx fs):q≠p:=fun z=>by
 rw[z,h1]at h2;exact n _ _ _ (bc h2).symm
theorem xP.np(h:xP a H B s):B.bd≠B.p∧B.bl≠B.p∧B.le≠B.p∧B.ma≠B.p∧B.se≠B.p∧∀b,(B.S b).st≠B.p∧(B.S b).ca≠B.p∧(B.S b).na≠B.p:=by
 have hp:=h.pen;have ni:=h.ni;simp only[bh,aq,aR,or_false,not_or,not_false_eq_true,cM,and_true]at ni;refine⟨ni.1.2.2,xbQ hp h.bl (fun _ _ _ z=>by cases z),xbQ hp h.le (fun _ _ _ z=>by cases z),xbQ hp h.ma (fun _ _ _ z=>by cases z),xbQ hp h.se (fun _ _ _ z=>by cases z),fun b=>⟨?_,xbQ hp (h.st b).ca (fun _ _ _ z=>by cases z),xbQ hp (h.st b).na (fun _ _ _ z=>by cases z)⟩⟩;cases b
 ·exact ni.2.1.2
 ·exact ni.2.2
theorem xP.nb(h:xP a H B s){x:Addr}{o:HO}(e:H x=some o)(n:∀C dx fs,o≠.ins C dx fs):x≠B.bd∧∀b,x≠(B.S b).st:=⟨xbQ h.bd e n,fun b=>xbQ (h.st b).st e n⟩
theorem xP.mu(h:xP a H B s):∀x∈BS B,∃u,H x=some u∧xaC u:=by
 intro x hx;simp only[aq,aR,or_false]at hx;rcases hx with rfl|rfl|rfl|rfl|rfl|rfl|rfl|rfl|rfl
 ·exact⟨_,h.bd,trivial⟩
 ·exact⟨_,h.le,trivial⟩
 ·exact⟨_,h.ma,trivial⟩
 ·exact⟨_,h.se,trivial⟩
 ·exact⟨_,h.pen,trivial⟩
 ·exact⟨_,(h.st false).ca,trivial⟩
 ·exact⟨_,(h.st false).na,trivial⟩
 ·exact⟨_,(h.st true).ca,trivial⟩
 ·exact⟨_,(h.st true).na,trivial⟩
theorem xP.chg(h:xP a H B s){x:Addr}(k:Kp [B.p,x] H H')(hp:H' B.p=some (.ins a.q0s B.dp (uK (s.cnt+1) .non)))(hx:x=B.le∨x=B.ma∨x=B.se):
  H' B.bd=some (.ins a.q0d B.dx (bdF B s.size (zE s.run)))∧H' B.bl=some (.lst [.ref (B.S false).st,.ref (B.S true).st])∧(x≠B.le→H' B.le=some (.lst [.int (s.len false),.int (s.len true)]))∧(x≠B.ma→H' B.ma=some (.lst [.str (s.mark false),.str (s.mark true)]))∧
  (x≠B.se→H' B.se=some (.dK (xfq s.mr s.ct)))∧∀b,yo a H' (B.S b) (s.cells b) (s.notes b) (s.cnt+1) .non:=by
 obtain⟨n1,n2,n3,n4,n5,n6⟩:=h.np;have nl:=h.nl;simp only[bh,aq,aR,or_false,not_or,not_false_eq_true,cM,and_true]at nl;obtain⟨⟨l1,l2,l3,l4,l5,l6⟩,⟨m1,m2,m3,m4,m5⟩,⟨k1,k2,k3,k4⟩,_⟩:=nl;have xo:∃o,H x=some o∧∀C dx fs,o≠.ins C dx fs:=by
  rcases hx with rfl|rfl|rfl
  ·exact⟨_,h.le,fun _ _ _ z=>by cases z⟩
  ·exact⟨_,h.ma,fun _ _ _ z=>by cases z⟩
  ·exact⟨_,h.se,fun _ _ _ z=>by cases z⟩
 obtain⟨o,xe,xn⟩:=xo;obtain⟨xb,xs⟩:=h.nb xe xn;have two:∀{y:Addr} {u:HO},H y=some u→y≠B.p→y≠x→H' y=some u:=fun e a b=>k _ _ e (by simp[a,b]);have ld:∀{y:Addr} {ys:List V},H y=some (.lst ys)→y≠B.se:=fun e z=>by rw[z,h.se]at e;cases e
 have lx:∀{y:Addr} {ys:List V},H y=some (.lst ys)→y≠B.le→y≠B.ma→y≠x:=fun e a b=>by
  rcases hx with rfl|rfl|rfl
  ·exact a
  ·exact b
  ·exact ld e
 refine⟨two h.bd n1 (au xb),two h.bl n2 (lx h.bl l1 l2),fun z=>two h.le n3 (au z),fun z=>two h.ma n4 (au z),fun z=>two h.se n5 (au z),fun b=>?_⟩;have S:=h.st b;have sp:=h.sp b;refine⟨two S.st (n6 b).1 (au (xs b)),two S.ca (n6 b).2.1 (lx S.ca ?_ ?_),two S.na (n6 b).2.2 (lx S.na ?_ ?_),by rw[sp.1,sp.2];exact hp,S.ne,S.np⟩
 ·cases b
  ·exact au m2
  ·exact au m4
 ·cases b
  ·exact au k1
  ·exact au k3
 ·cases b
  ·exact au m3
  ·exact au m5
 ·cases b
  ·exact au k2
  ·exact au k4
theorem xP.nlm(h:xP a H B s):B.le≠B.ma∧B.le≠B.se∧B.ma≠B.se:=by
 have nl:=h.nl;simp only[bh,aq,aR,or_false,not_or,not_false_eq_true,cM,and_true]at nl;exact⟨nl.2.1.1,fun z=>(by have:=h.le;rw[z,h.se]at this;cases this),fun z=>(by have:=h.ma;rw[z,h.se]at this;cases this)⟩
def upB{α:Type}(f:Bool→α)(b:Bool)(v:α):Bool→α:=fun c=>if c=b then v else f c
theorem xP.mark(h:xP a H B s){b:Bool}{v:Str}(k:Kp [B.p,B.ma] H H')(hp:H' B.p=some (.ins a.q0s B.dp (uK (s.cnt+1) .non)))(e:H' B.ma=some (.lst ([V.str (s.mark false),V.str (s.mark true)].set (bI b).toNat (.str v)))):
  xP a H' B {s with mark:=upB s.mark b v,cnt:=s.cnt+1}:=by
 obtain⟨h1,h2,h3,_,h5,h6⟩:=h.chg k hp (.inr (.inl rfl));obtain⟨n1,n2,n3⟩:=h.nlm;exact⟨h1,h2,h3 (au n1),by rw[e];cases b<;> rfl,h5 n3,h6,h.sp,h.nl,h.ni⟩
theorem xP.leng(h:xP a H B s){b:Bool}{v:Int}(k:Kp [B.p,B.le] H H')(hp:H' B.p=some (.ins a.q0s B.dp (uK (s.cnt+1) .non)))(e:H' B.le=some (.lst ([V.int (s.len false),V.int (s.len true)].set (bI b).toNat (.int v)))):
  xP a H' B {s with len:=upB s.len b v,cnt:=s.cnt+1}:=by
 obtain⟨h1,h2,_,h4,h5,h6⟩:=h.chg k hp (.inl rfl);obtain⟨n1,n2,n3⟩:=h.nlm;exact⟨h1,h2,by rw[e];cases b<;> rfl,h4 n1,h5 n2,h6,h.sp,h.nl,h.ni⟩
theorem xP.cter(h:xP a H B s){v:Int}(k:Kp [B.p,B.se] H H')(hp:H' B.p=some (.ins a.q0s B.dp (uK (s.cnt+1) .non)))(e:H' B.se=some (.dK (putK (xfq s.mr s.ct) (.inr "counter") (.int v)))):
  xP a H' B {s with ct:=v,cnt:=s.cnt+1}:=by
 obtain⟨h1,h2,h3,h4,_,h6⟩:=h.chg k hp (.inr (.inr rfl));obtain⟨n1,n2,n3⟩:=h.nlm;exact⟨h1,h2,h3 (au n2),h4 (au n3),by rw[e];rfl,h6,h.sp,h.nl,h.ni⟩
theorem xP.mrk(h:xP a H B s){b:Bool}(k:Kp [B.p,B.se] H H')(hp:H' B.p=some (.ins a.q0s B.dp (uK (s.cnt+1) .non)))(e:H' B.se=some (.dK (putK (xfq s.mr s.ct) (.inr "marker") (.int (bI b))))):
  xP a H' B {s with mr:=b,cnt:=s.cnt+1}:=by
 obtain⟨h1,h2,h3,h4,_,h6⟩:=h.chg k hp (.inr (.inr rfl));obtain⟨n1,n2,n3⟩:=h.nlm;exact⟨h1,h2,h3 (au n2),h4 (au n3),by rw[e];rfl,h6,h.sp,h.nl,h.ni⟩
theorem xP.bank(h:xP a H B s){b:Bool}{cs:List Int}{ns:List (Option Int)}{n:Int}(k:Kp (SS (B.S b)) H H')(e:yo a H' (B.S b) cs ns n .non):xP a H' B {s with cells:=upB s.cells b cs,notes:=upB s.notes b ns,cnt:=n}:=by
 obtain⟨n1,n2,n3,n4,n5,n6⟩:=h.np;have nl:=h.nl;have sp:=h.sp b;simp only[bh,aq,aR,or_false,not_or,not_false_eq_true,cM,and_true]at nl;obtain⟨⟨l1,l2,l3,l4,l5,l6⟩,⟨m1,m2,m3,m4,m5⟩,⟨k1,k2,k3,k4⟩,⟨c1,c2,c3⟩,⟨d1,d2⟩,q1⟩:=nl;have lst:∀{y:Addr} {u:HO},H y=some u→y≠(B.S b).ca→y≠(B.S b).na→y≠B.p→H' y=some u:=fun e a b c=>k _ _ e (by simp[a,b,sp.1,c]);obtain⟨xb,xs⟩:=h.nb (h.st b).ca (fun _ _ _ z=>by cases z);obtain⟨yb,ys⟩:=h.nb (h.st b).na (fun _ _ _ z=>by cases z);have de:∀{y:Addr} {zs:List V},H y=some (.lst zs)→B.se≠y:=fun e z=>by rw[←z,h.se]at e;cases e
 refine⟨lst h.bd (au xb) (au yb) n1,lst h.bl ?_ ?_ n2,lst h.le ?_ ?_ n3,lst h.ma ?_ ?_ n4,lst h.se (de (h.st b).ca) (de (h.st b).na) n5,fun c=>?_,h.sp,h.nl,h.ni⟩
 ·cases b<;> assumption
 ·cases b<;> assumption
 ·cases b<;> assumption
 ·cases b<;> assumption
 ·cases b<;> assumption
 ·cases b<;> assumption
 ·by_cases hc:c=b
  ·subst hc;show yo a H' (B.S c) (upB s.cells c cs c) (upB s.notes c ns c) n .non;unfold upB;rw[if_pos rfl,if_pos rfl];exact e
  ·show yo a H' (B.S c) (upB s.cells b cs c) (upB s.notes b ns c) n .non;unfold upB;rw[if_neg hc,if_neg hc];have C:=h.st c;have spc:=h.sp c;refine⟨lst C.st (au (xs c)) (au (ys c)) (n6 c).1,lst C.ca ?_ ?_ (n6 c).2.1,lst C.na ?_ ?_ (n6 c).2.2,by rw[spc.1,spc.2,←sp.1,←sp.2];exact e.p,C.ne,C.np⟩
   ·cases b<;> cases c<;> first|exact absurd rfl hc|assumption|(apply au;assumption)
   ·cases b<;> cases c<;> first|exact absurd rfl hc|assumption|(apply au;assumption)
   ·cases b<;> cases c<;> first|exact absurd rfl hc|assumption|(apply au;assumption)
   ·cases b<;> cases c<;> first|exact absurd rfl hc|assumption|(apply au;assumption)
theorem xP.rune(h:xP a H B s){r:Option Bool}:xP a (upd H B.bd (.ins a.q0d B.dx (bdF B s.size (zE r)))) B {s with run:=r}:=by
 obtain⟨n1,n2,n3,n4,n5,n6⟩:=h.np;have ni:=h.ni;simp only[bh,aq,aR,or_false,not_or,not_false_eq_true,cM,and_true]at ni;have o:∀{y:Addr} {u:HO} (_:∀C dx fs,u≠.ins C dx fs),H y=some u→upd H B.bd (.ins a.q0d B.dx (bdF B s.size (zE r))) y=some u:=fun n e=>by rw[xr (h.nb e n).1];exact e
 refine⟨xt,o (fun _ _ _ z=>by cases z) h.bl,o (fun _ _ _ z=>by cases z) h.le,o (fun _ _ _ z=>by cases z) h.ma,o (fun _ _ _ z=>by cases z) h.se,fun b=>?_,h.sp,h.nl,h.ni⟩;have S:=h.st b;refine⟨?_,o (fun _ _ _ z=>by cases z) S.ca,o (fun _ _ _ z=>by cases z) S.na,?_,S.ne,S.np⟩
 ·rw[xr (by cases b;exact au ni.1.1;exact au ni.1.2.1)];exact S.st
 ·rw[(h.sp b).1,xr (au n1),←(h.sp b).1];exact S.p
def Tbs(H:Hp):Prop:=H yG=some (.tbl zb)∧H yp=some (.tbl yA)∧H xV=some (.tbl yj)∧H yB=some (.tbl zw)∧H yO=some (.tbl uO)∧H zj=some (.tbl vO)∧H yH=some (.tbl uc)
theorem Tbs.kp{L:List Addr}(t:Tbs H)(k:Kp L H H')(mu:∀x∈L,∃u,H x=some u∧xaC u):Tbs H':=by
 have one:∀{p:Addr} {q:List (Pos×Str)},H p=some (.tbl q)→H' p=some (.tbl q):=fun{p q} e=>k _ _ e fun z=>by
  obtain⟨u,e',m⟩:=mu p z;rw[e]at e';cases e';exact m
 obtain⟨t1,t2,t3,t4,t5,t6,t7⟩:=t;exact⟨one t1,one t2,one t3,one t4,one t5,one t6,one t7⟩
theorem Tbs.same(t:Tbs H)(e:xg H H'):Tbs H':=t.kp (L:=[]) (Kp.of e) (fun _ z=>nomatch z)
theorem jX{x:Addr}(k:Kp [B.p,x] H H')(hx:x=B.le∨x=B.ma∨x=B.se):Kp (BS B) H H':=k.mono fun y hy=>by
 simp only[aq,aR,or_false]at hy⊢;rcases hx with rfl|rfl|rfl<;> rcases hy with rfl|rfl<;> simp
theorem xox(h:xP a H B s){b:Bool}(k:Kp (SS (B.S b)) H H'):Kp (BS B) H H':=k.mono fun y hy=>by
 simp only[aq,aR,or_false]at hy⊢;rw[(h.sp b).1]at hy;cases b<;> rcases hy with rfl|rfl|rfl<;> simp
end
def xn1(a:Adr):Sp:=fun vs H Q _=>∃(B:BA) (s:BdS),vs=[.ref B.bd]∧xP a H B s∧Tbs H∧
 (s.mark (!s.mr)≠("trial":Str)→Q (.int (bI s.mr)) H)∧
 (s.mark (!s.mr)=("trial":Str)→s.ct=0→∀H',Kp (BS B) H H'→xP a H' B {s with mark:=upB s.mark (!s.mr) "bad",cnt:=s.cnt+1}→Q (.int (bI s.mr)) H')∧
 (s.mark (!s.mr)=("trial":Str)→s.ct≠0→∀H',Kp (BS B) H H'→xP a H' B {s with ct:=s.ct - 1,cnt:=s.cnt+1}→Q (.int (bI (!s.mr))) H')
section
variable {P:av} {w:World} {K:ag} {mg:Str→Option Value} {base:Heap} {a:Adr}
theorem xhi(xs:List V)(i:Nat):xam xs none (some (i:Int))=xs.take i:=by
 unfold xam;rw[xmk (by lia),HT.xiy,cD];simp[←List.take_eq_take_min]
theorem xhj(T:Txt K mg a):xE P w K mg base CX0 4 a.q1E a.xaz ["self"] (xn0 a):=by
 refine T.q2l.ok xcu (fun vs H Q E h=>?_) (fun cdv A outer s H vs Q E hr h=>?_)
 ·obtain⟨S,cells,notes,n,rfl,_⟩:=h;rfl
 ·obtain⟨S,cells,notes,n,rfl,hS,hP,h2,q⟩:=h;have nd:=xcu.nd;refine⟨_,(xh (xR (xT (cv 0) T.q0r T.q1X (vi T) (hr.mono (by decide)) T.vG .nil xu (xc xk (xc xk xf))))
  (xm (xR (xT (cv 0) T.q0r T.q1X (vi T) (hr.mono (by decide)) T.vG .nil xu (xc xk (xc xk xf)))))),?_⟩
  walk_at"w";refine⟨S.st,S.dx,_,rfl,hS.st,rfl,?_⟩;walk_at"w";refine⟨S,cells,notes,n,0,0,rfl,hS,hP,by decide,by lia,fun H1 k1 S1=>?_⟩;walk_at"w";refine⟨S.st,S.dx,_,rfl,S1.st,rfl,?_⟩;walk_at"w";have hP1:H1 xV=some (.tbl yj):=k1 _ _ hP fun z=>by
   obtain⟨u,e,m⟩:=hS.mu _ z;rw[hP]at e;cases e;exact m
  refine⟨S,cells,_,n+1,1,0,rfl,S1,hP1,by decide,by rw[eD,h2];decide,fun H2 k2 S2=>?_⟩;refine q H2 (k1.trans k2) ?_;have e:(notes.set (0:Int).toNat (some 0)).set (1:Int).toNat (some 0)=[some 0,some 0]:=by
   match notes,h2 with
   |[x,y],_=>rfl
  rw[e,show n+1+1=n+2 by lia]at S2;exact S2
theorem xaE(T:Txt K mg a):xE P w K mg base CX0 2 a.q1U a.xbs ["self","bank"] (xnZ a):=by
 refine T.q2R.ok xds (fun vs H Q E h=>?_) (fun cdv A outer s H vs Q E hr h=>?_)
 ·obtain⟨B,s,b,rfl,_⟩:=h;rfl
 ·obtain⟨B,st,b,rfl,hB,hl0,q⟩:=h;have nd:=xds.nd;refine⟨_,(xm (xw (jK xaW (xC xK (xU (xC yc (xA (cv 0) rfl) (cv 1) (fun _ _=>rfl)) T.q0r T.q31 (xdu T) (hr.mono (by decide)) T.xd2 .nil xu) xk (fun _ _=>rfl)) xaU (xaV (xC yc (xA (cv 0) rfl) (cv 1) (fun _ _=>rfl)))))),?_⟩;have atB:atI [V.ref (B.S false).st,V.ref (B.S true).st] (bI b)=some (.ref (B.S b).st):=by cases b<;> rfl
  have atL:atI [V.int (st.len false),V.int (st.len true)] (bI b)=some (.int (st.len b)):=by cases b<;> rfl
  walk_at"w";refine⟨B.bd,_,B.dx,_,.ref B.bl,rfl,hB.bd,T.q0c,T.q2U,rfl,?_⟩;walk_at"w";refine⟨B.bl,_,_,_,rfl,rfl,SqL.of hB.bl,atB,?_⟩;walk_at"w";refine⟨(B.S b).st,(B.S b).dx,_,rfl,(hB.st b).st,rfl,?_⟩;walk_at"w";refine⟨B.S b,_,_,_,_,rfl,hB.st b,fun t c m H1 s1 _ _ _ et ec _=>?_⟩;walk_at"w";refine⟨t,_,_,.ref c,rfl,rfl,SqT.of et,rfl,?_⟩;walk_at"w";refine⟨B.bd,_,B.dx,_,.ref B.le,rfl,s1.at hB.bd,T.q0c,T.q1f,rfl,?_⟩;walk_at"w";refine⟨B.le,_,_,_,rfl,rfl,SqL.of (s1.at hB.le),atL,?_⟩;walk_at"w";refine⟨_,rfl,?_⟩;walk_at"w";refine⟨c,_,rfl,SqL.of ec,?_⟩;rw[show st.len b=((st.len b).toNat:Int)by lia,xhi,←List.map_take];intro y hy;generalize hUy:upd H1 y _=H2;have sH2:=xg.of_eq hy hUy;have ey:=xj hUy;clear hUy;walk_at"w";exact q y H2 (s1.trans sH2) ey
theorem xda(T:Txt K mg a):xE P w K mg base CX0 4 a.q0A a.uE ["self"] (xn1 a):=by
 refine T.q04.ok jC (fun vs H Q E h=>?_) (fun cdv A outer s H vs Q E hr h=>?_)
 ·obtain⟨B,s,rfl,_⟩:=h;rfl
 ·obtain⟨B,st,rfl,hB,hT,q1,q2,q3⟩:=h;have nd:=jC.nd;refine⟨_,(xh (xD (i:=1) nd rfl (az rfl) (xcg (vM hr) (xA (cv 0) rfl) xG (fun _ _=>rfl)))
  (xh (xD (i:=2) nd rfl (az rfl) (xU (cv 0) T.q0c T.q0O (yL T) (hr.mono (by decide)) T.yR .nil xu))
  (xh (xM (xO xaM (xC yc (xA (cv 0) rfl) (cv 2) (fun _ _=>rfl)) xG) (xm (xw (cv 1))) xx)
  (xh (xD (i:=3) nd rfl (az rfl) (xcg (vM hr) (xA (cv 0) rfl) xG (fun _ _=>rfl)))
  (xh (xM (xO yJ (cv 3) xk) (xh (xR (xT (cv 0) T.q0c T.q0u (ym T) (hr.mono (by decide)) T.yq .nil xu (xc (xA (cv 0) rfl) (xc (cv 2) (xc xG xf)))))
  (xm (xw (cv 1)))) xx)
  (xh (xR (xT (cv 0) T.q0c T.q0u (ym T) (hr.mono (by decide)) T.yq .nil xu (xc (xA (cv 0) rfl) (xc xG (xc (xy yw (cv 3) xk) xf)))))
  (xm (xw (cv 2))))))))),?_⟩
  have atM:atI [V.str (st.mark false),V.str (st.mark true)] (bI (!st.mr))=some (.str (st.mark (!st.mr))):=by cases st.mr<;> rfl
  walk_at"w";refine⟨B.bd,_,B.dx,_,.ref B.se,rfl,hB.bd,T.q0c,T.q0o,rfl,?_⟩;walk_at"w";refine⟨B.se,.int (bI st.mr),rfl,uV.k (k:=.inr "marker") hB.se,?_⟩;walk_at"w";refine⟨B.bd,B.dx,_,rfl,hB.bd,rfl,?_⟩;walk_at"w";refine⟨B,st,rfl,hB,?_⟩;walk_at"w";refine⟨B.bd,_,B.dx,_,.ref B.ma,rfl,hB.bd,T.q0c,T.q0n,rfl,?_⟩;walk_at"w";refine⟨B.ma,_,_,_,rfl,rfl,SqL.of hB.ma,atM,?_⟩;walk_at"w";refine⟨fun c=>?_,fun c=>?_⟩
  ·walk_at"w";refine q1 fun e=>?_;rw[show aX "trial"=("trial":Str)from rfl,decide_eq_true e]at c;cases c
  have e:st.mark (!st.mr)=("trial":Str):=of_decide_eq_true (p:=st.mark (!st.mr)=aX "trial") (by rw[←bP];exact c);walk_at"w";refine⟨B.bd,_,B.dx,_,.ref B.se,rfl,hB.bd,T.q0c,T.q0o,rfl,?_⟩;walk_at"w";refine⟨B.se,.int st.ct,rfl,uV.k (k:=.inr "counter") hB.se,?_⟩;walk_at"w";refine⟨fun c2=>?_,fun c2=>?_⟩
  ·walk_at"w";refine⟨B.bd,B.dx,_,rfl,hB.bd,rfl,?_⟩;walk_at"w";refine⟨B.bd,_,B.dx,_,.ref B.ma,rfl,hB.bd,T.q0c,T.q0n,rfl,?_⟩;walk_at"w";refine⟨B,st,B.ma,_,_,rfl,hB,hT.2.2.2.1,.inl ⟨_,_,rfl,hB.ma,by cases st.mr<;> decide,(by show bI (!st.mr)<2;cases st.mr<;> decide),fun H' k kp e'=>?_⟩⟩;walk_at"w";exact q2 e (of_decide_eq_true c2) H' (jX k (.inr (.inl rfl))) (hB.mark k kp e')
  ·walk_at"w";refine⟨B.bd,B.dx,_,rfl,hB.bd,rfl,?_⟩;walk_at"w";refine⟨B.bd,_,B.dx,_,.ref B.se,rfl,hB.bd,T.q0c,T.q0o,rfl,?_⟩;walk_at"w";refine⟨B,st,B.se,_,_,rfl,hB,hT.2.2.2.1,.inr ⟨.inr "counter",_,rfl,hB.se,(by decide:2<100),fun H' k kp e'=>?_⟩⟩;walk_at"w";exact q3 e (of_decide_eq_false c2) H' (jX k (.inr (.inr rfl))) (hB.cter k kp e')
theorem xjt(B:BA)(n:Int)(r v:V):uy (aX "running") v (bdF B n r)=bdF B n v:=rfl
def startB(s:BdS):Bool:=if s.mark (!s.mr)=("trial":Str)∧s.ct≠0 then !s.mr else s.mr
def zz(s:BdS):BdS:=if s.mark (!s.mr)=("trial":Str)then(if s.ct=0 then{s with mark:=upB s.mark (!s.mr) "bad",run:=some s.mr,cnt:=s.cnt+1}else{s with ct:=s.ct - 1,run:=some (!s.mr),cnt:=s.cnt+1})else{s with run:=some s.mr}
def xn2(a:Adr):Sp:=fun vs H Q _=>∃(B:BA) (s:BdS),vs=[.ref B.bd]∧xP a H B s∧Tbs H∧∀H',Kp (BS B) H H'→xP a H' B (zz s)→Q (.int (bI (startB s))) H'
theorem xju{H H1:Hp}{B:BA}{o:HO}(k:Kp (BS B) H H1):Kp (BS B) H (upd H1 B.bd o):=k.wr (by simp)
theorem xhk(T:Txt K mg a):xE P w K mg base CX0 5 a.q1F a.xaA ["self"] (xn2 a):=by
 refine T.q2m.ok xcv (fun vs H Q E h=>?_) (fun cdv A outer s H vs Q E hr h=>?_)
 ·obtain⟨B,s,rfl,_⟩:=h;rfl
 ·obtain⟨B,st,rfl,hB,hT,q⟩:=h;have nd:=xcv.nd;refine⟨_,(xh (yt (cv 0) yi rfl)
  (xh (yt (cv 0) (xU (cv 0) T.q0c T.q3f (xda T) (hr.mono (by decide)) T.xdy .nil xu) rfl)
  (xm (xw (xA (cv 0) rfl))))),?_⟩
  walk_at"w";refine⟨B.bd,_,B.dx,_,rfl,hB.bd,T.q0c,T.q0m,by walk_at"few",?_⟩;rw[xjt];have hB0:=hB.rune (r:=none);have k0:Kp (BS B) H (upd H B.bd (.ins a.q0d B.dx (bdF B st.size (zE none)))):=xju (Kp.of (xg.refl _));have t0:=hT.kp k0 hB.mu;rw[show(V.non)=zE none from rfl];generalize upd H B.bd (.ins a.q0d B.dx (bdF B st.size (zE none)))=H0 at hB0 k0 t0;walk_at"w";refine⟨B.bd,B.dx,_,rfl,hB0.bd,rfl,?_⟩;walk_at"w";have fin:∀(H1:Hp) (s1:BdS) (b:Bool),Kp (BS B) H H1→xP a H1 B s1→startB st=b→zz st={s1 with run:=some b}→Q (.int (bI b)) (upd H1 B.bd (.ins a.q0d B.dx (bdF B s1.size (.int (bI b))))):=fun H1 s1 b k1 h1 e1 e2=>by
   have:=h1.rune (r:=some b);rw[←e2]at this;have:=q _ (xju k1) this;rw[e1]at this;exact this
  refine⟨B,_,rfl,hB0,t0,fun n=>?_,fun e c H1 k1 h1=>?_,fun e c H1 k1 h1=>?_⟩
  ·have n:¬st.mark (!st.mr)=("trial":Str):=n;walk_at"w";refine⟨B.bd,_,B.dx,_,rfl,hB0.bd,T.q0c,T.q0m,by walk_at"few",?_⟩;rw[xjt];walk_at"w";refine⟨B.bd,_,B.dx,_,_,rfl,xt,T.q0c,T.q0m,rfl,?_⟩;exact fin H0 _ st.mr k0 hB0 (if_neg fun z=>n z.1) (by unfold zz;rw[if_neg n])
  ·have e:st.mark (!st.mr)=("trial":Str):=e;have c:st.ct=0:=c;walk_at"w";refine⟨B.bd,_,B.dx,_,rfl,h1.bd,T.q0c,T.q0m,by walk_at"few",?_⟩;rw[xjt];walk_at"w";refine⟨B.bd,_,B.dx,_,_,rfl,xt,T.q0c,T.q0m,rfl,?_⟩;exact fin H1 _ st.mr (k0.trans k1) h1 (if_neg fun z=>z.2 c) (by unfold zz;rw[if_pos e,if_pos c])
  ·have e:st.mark (!st.mr)=("trial":Str):=e;have c:¬st.ct=0:=c;walk_at"w";refine⟨B.bd,_,B.dx,_,rfl,h1.bd,T.q0c,T.q0m,by walk_at"few",?_⟩;rw[xjt];walk_at"w";refine⟨B.bd,_,B.dx,_,_,rfl,xt,T.q0c,T.q0m,rfl,?_⟩;exact fin H1 _ (!st.mr) (k0.trans k1) h1 (if_pos ⟨e,c⟩) (by unfold zz;rw[if_pos e,if_neg c])
end
theorem yz{α:Type}(f:Bool→α)(b:Bool)(v:α):upB f b v b=v:=if_pos rfl
theorem xhl{α:Type}(f:Bool→α)(b:Bool)(v w:α):upB (upB f b v) b w=upB f b w:=by
 funext c;unfold upB;split<;> rfl
theorem vK{L:List Addr}{H H':Hp}{q:Addr}{ys:List V}(k:Kp L H H')(mu:∀x∈L,∃u,H x=some u∧xaC u)(e:H q=some (.tup ys)):H' q=some (.tup ys):=k _ _ e fun z=>by
 obtain⟨u,e',m⟩:=mu q z;rw[e]at e';cases e';exact m
def xfr(K:ag)(H:Hp)(p:Addr)(o n:Int)(rs:List xq):Prop:=∃tt us,H p=some (.tup [.int o,.int n,.ref tt])∧H tt=some (.tup (us.map V.ref))∧Paired (GT K H) us rs∧us.length≤58
theorem xfr.kp{K:ag}{L:List Addr}{H H':Hp}{p:Addr}{o n:Int}{rs:List xq}(h:xfr K H p o n rs)(k:Kp L H H')(mu:∀x∈L,∃u,H x=some u∧xaC u):xfr K H' p o n rs:=by
 obtain⟨tt,us,h1,h2,h3,h4⟩:=h;refine⟨tt,us,vK k mu h1,vK k mu h2,L2.Paired.imp' (fun t r z=>⟨?_,z.2⟩) h3,h4⟩;cases r with
 |take to st c=>exact vK k mu z.1
 |put to sg=>obtain⟨u,q1,q2⟩:=z.1;exact⟨u,vK k mu q1,vK k mu q2⟩
def xgq(s:BdS)(rs:List xq)(n total tries:Int)(nn:List (Option Int))(k:Int):BdS:=
 {s with cells:=upB s.cells (!s.mr) (doL (s.cells (!s.mr)) (yn rs)),notes:=upB s.notes (!s.mr) nn,len:=upB s.len (!s.mr) n,
         mark:=upB s.mark (!s.mr) (if ((doL (s.cells (!s.mr)) (yn rs)).take n.toNat).sum=total then"trial" else"bad"),ct:=if ((doL (s.cells (!s.mr)) (yn rs)).take n.toNat).sum=total then tries else s.ct,cnt:=k}
def xjv(K:ag)(a:Adr):Sp:=fun vs H Q _=>∃(B:BA) (s:BdS) (p:Addr) (o n:Int) (rs:List xq) (total tries:Int),vs=[.ref B.bd,.ref p,.int total,.int tries]∧xP a H B s∧Tbs H∧(s.notes (!s.mr)).length=2∧s.mark (!s.mr)≠("open":Str)∧xfr K H p o n rs∧
 max o n≤(s.cells (!s.mr)).length∧(∀x∈yn rs,uw (s.cells (!s.mr)).length x)∧0≤n∧
 ∀(H':Hp) (nn:List (Option Int)) (k:Int),Kp (BS B) H H'→nn.length=2→xP a H' B (xgq s rs n total tries nn k)→Q (.bl (decide (((doL (s.cells (!s.mr)) (yn rs)).take n.toNat).sum=total))) H'
theorem xrj:xc3 [some 0,some 0] ((0:Nat):Int):=by
 refine⟨fun e=>by simp at e,fun _=>⟨by simp,fun x hx=>?_⟩⟩;simp at hx;subst hx;exact fh _
section
variable {P:av} {w:World} {K:ag} {mg:Str→Option Value} {base:Heap} {a:Adr}
theorem xcz(T:Txt K mg a):xE P w K mg base CX0 8 a.q0y a.uf ["self","paper","total","tries"] (xjv K a):=by
 refine T.q0Y.ok ji (fun vs H Q E h=>?_) (fun cdv A outer s H vs Q E hr h=>?_)
 ·obtain⟨B,s,p,o,n,rs,total,tries,rfl,_⟩:=h;rfl
 ·obtain⟨B,st,p,o,n,rs,total,tries,rfl,hB,hT,hn2,hno,hpap,hmax,hpo,hn0,q⟩:=h;have nd:=ji.nd;refine⟨_,(xh (xD (i:=4) nd rfl (az rfl) (xU (cv 0) T.q0c T.q0O (yL T) (hr.mono (by decide)) T.yR .nil xu))
  (xh (xD (i:=5) nd rfl (az rfl) (xC yc (xA (cv 0) rfl) (cv 4) (fun _ _=>rfl)))
  (xh (zu (xM (xO xaM (xC yc (xA (cv 0) rfl) (cv 4) (fun _ _=>rfl)) xG) (xh (xR (xU (cv 5) T.q0r T.q4R (xhj T) (hr.mono (by decide)) T.xh4 .nil xu))
  (xm (xR (xT (cv 0) T.q0c T.q0u (ym T) (hr.mono (by decide)) T.yq .nil xu (xc (xA (cv 0) rfl) (xc (cv 4) (xc xG xf))))))) xx))
  (xh (xR (xB (xnS T) (hr.mono (by decide)) (by rfl) T.xpe T.q4G.kp T.xpd .nil xu (xc (cv 5) (xc (cv 1) xf))))
  (xh (xR (xT (cv 0) T.q0c T.q0u (ym T) (hr.mono (by decide)) T.yq .nil xu (xc (xA (cv 0) rfl) (xc (cv 4) (xc (xC xK (cv 1) xk (fun _ _=>rfl)) xf)))))
  (xh (xM (xO xbF (xI (xdL rfl) (by rfl) T.q5X xiJ (xc (xT (cv 0) T.q0c T.q3j (xaE T) (hr.mono (by decide)) T.xbv .nil xu (xc (cv 4) xf)) xf)) (cv 2)) (xh (xR (xT (cv 0) T.q0c T.q0u (ym T) (hr.mono (by decide)) T.yq .nil xu (xc (xA (cv 0) rfl) (xc (cv 4) (xc xG xf)))))
  (xm (xw zT))) xx)
  (xh (xR (xT (cv 0) T.q0c T.q0u (ym T) (hr.mono (by decide)) T.yq .nil xu (xc (xA (cv 0) rfl) (xc xG (xc (cv 3) xf)))))
  (xh (xR (xT (cv 0) T.q0c T.q0u (ym T) (hr.mono (by decide)) T.yq .nil xu (xc (xA (cv 0) rfl) (xc (cv 4) (xc xG xf)))))
  (xm (xw zT)))))))))),?_⟩
  unfold xgq at q;generalize hb:(!st.mr)=b at*;have atB:atI [V.ref (B.S false).st,V.ref (B.S true).st] (bI b)=some (.ref (B.S b).st):=by cases b<;> rfl
  have atM:atI [V.str (st.mark false),V.str (st.mark true)] (bI b)=some (.str (st.mark b)):=by cases b<;> rfl
  have bI0:0≤bI b:=by cases b<;> decide
  have bI2:bI b<2:=by cases b<;> decide
  walk_at"w";refine⟨B.bd,B.dx,_,rfl,hB.bd,rfl,?_⟩;walk_at"w";refine⟨B,st,rfl,hB,?_⟩;rw[hb];walk_at"w";refine⟨B.bd,_,B.dx,_,.ref B.bl,rfl,hB.bd,T.q0c,T.q2U,rfl,?_⟩;walk_at"w";refine⟨B.bl,_,_,_,rfl,rfl,SqL.of hB.bl,atB,?_⟩;walk_at"w";refine⟨fun σ' G=>σ'=[some (.ref B.bd),some (.ref p),some (.int total),some (.int tries),some (.int (bI b)),some (.ref (B.S b).st)]∧Kp (BS B) H G∧xP a G B {st with cells:=upB st.cells b (st.cells b),notes:=upB st.notes b [some 0,some 0],mark:=upB st.mark b "open",cnt:=st.cnt+2+1},?_,?_⟩
  ·walk_at"w";refine⟨B.bd,_,B.dx,_,.ref B.ma,rfl,hB.bd,T.q0c,T.q0n,rfl,?_⟩;walk_at"w";refine⟨B.ma,_,_,_,rfl,rfl,SqL.of hB.ma,atM,?_⟩;walk_at"w";refine⟨fun _=>?_,fun z=>absurd (of_decide_eq_true (p:=st.mark b=aX "open") (by rw[←bP];exact z)) hno⟩;walk_at"w";refine⟨(B.S b).st,(B.S b).dx,_,rfl,(hB.st b).st,rfl,?_⟩;walk_at"w";refine⟨B.S b,_,_,_,rfl,hB.st b,hT.2.2.1,hn2,fun H1 k1 S1=>?_⟩;have hB1:=hB.bank k1 S1;have kB1:=xox hB k1;have hT1:=hT.kp kB1 hB.mu;walk_at"w";refine⟨B.bd,B.dx,_,rfl,hB1.bd,rfl,?_⟩;walk_at"w";refine⟨B.bd,_,B.dx,_,.ref B.ma,rfl,hB1.bd,T.q0c,T.q0n,rfl,?_⟩;walk_at"w";refine⟨B,_,B.ma,_,_,rfl,hB1,hT1.2.2.2.1,.inl ⟨_,_,rfl,hB1.ma,bI0,bI2,fun H2 k2 kp e2=>?_⟩⟩;exact⟨rfl,kB1.trans (jX k2 (.inr (.inl rfl))),hB1.mark k2 kp e2⟩
  rintro σ' G ⟨rfl,kG,hG⟩;have tG:=hT.kp kG hB.mu;have pG:=hpap.kp kG hB.mu;have SG:=hG.st b;rw[show(BdS.cells {st with cells:=upB st.cells b (st.cells b),notes:=upB st.notes b [some 0,some 0],mark:=upB st.mark b "open",cnt:=st.cnt+2+1} b)=st.cells b from yz _ _ _,show(BdS.notes {st with cells:=upB st.cells b (st.cells b),notes:=upB st.notes b [some 0,some 0],mark:=upB st.mark b "open",cnt:=st.cnt+2+1} b)=[some 0,some 0]from yz _ _ _]at SG;obtain⟨tt,us,p1,p2,p3,p4⟩:=id pG;walk_at"w";refine⟨B.S b,p,tt,o,n,us,rs,_,_,_,0,rfl,tG.1,tG.2.1,tG.2.2.1,SG,p1,p2,p3,p4,rfl,xrj,by decide,hmax,hpo,fun H3 k3 S3=>?_⟩;rw[fV]at S3;have hB3:=hG.bank k3 S3;have k3B:=xox hG k3;have t3:=tG.kp k3B hG.mu;have p13:=vK k3B hG.mu p1;have mk2:=xeg [some 0,some 0] 0 (yn rs).length;generalize xc8 [some 0,some 0] 0 (yn rs).length=nn at hB3 mk2;simp only[xhl]at hB3;walk_at"w";refine⟨B.bd,B.dx,_,rfl,hB3.bd,rfl,?_⟩;walk_at"w";refine⟨B.bd,_,B.dx,_,.ref B.le,rfl,hB3.bd,T.q0c,T.q1f,rfl,?_⟩;walk_at"w";refine⟨p,_,_,.int n,rfl,rfl,SqT.of p13,rfl,?_⟩;walk_at"w";refine⟨B,_,B.le,_,_,rfl,hB3,t3.2.2.2.1,.inl ⟨_,_,rfl,hB3.le,bI0,bI2,fun H4 k4 kp e4=>?_⟩⟩;have hB4:=hB3.leng k4 kp e4;have k4B:=jX k4 (.inl rfl);have t4:=t3.kp k4B hB3.mu;walk_at"w";refine⟨B.bd,B.dx,_,rfl,hB4.bd,rfl,?_⟩;walk_at"w";refine⟨B,_,b,rfl,hB4,by show 0≤upB st.len b n b;rw[yz];exact hn0,fun tx H5 s5 et=>?_⟩;have et':H5 tx=some (.lst (((doL (st.cells b) (yn rs)).take n.toNat).map V.int)):=by
   have e1:upB st.cells b (doL (st.cells b) (yn rs)) b=doL (st.cells b) (yn rs):=yz _ _ _;have e2:upB st.len b n b=n:=yz _ _ _;rw[←e1,←e2];exact et
  have hB5:=hB4.same s5;have t5:=t4.same s5;have k5B:Kp (BS B) H H5:=kG.trans (k3B.trans (k4B.trans (Kp.of s5)));generalize hsum:(doL (st.cells b) (yn rs)).take n.toNat=tx5 at q et';walk_at"w";refine⟨tx,_,rfl,SqL.of et',?_⟩;walk_at"w";refine⟨fun c=>?_,fun c=>?_⟩
  ·have ns:¬tx5.sum=total:=fun z=>by
    rw[decide_eq_true z]at c;cases c
   walk_at"w";refine⟨B.bd,B.dx,_,rfl,hB5.bd,rfl,?_⟩;walk_at"w";refine⟨B.bd,_,B.dx,_,.ref B.ma,rfl,hB5.bd,T.q0c,T.q0n,rfl,?_⟩;walk_at"w";refine⟨B,_,B.ma,_,_,rfl,hB5,t5.2.2.2.1,.inl ⟨_,_,rfl,hB5.ma,bI0,bI2,fun H6 k6 kp e6=>?_⟩⟩;have hB6:=hB5.mark k6 kp e6;simp only[xhl]at hB6;walk_at"w";have:=q H6 nn _ (k5B.trans (jX k6 (.inr (.inl rfl)))) mk2 (by rw[if_neg ns,if_neg ns];exact hB6);rw[decide_eq_false ns]at this;exact this
  ·have ys:tx5.sum=total:=of_decide_eq_true (by rw[←bP];exact c);walk_at"w";refine⟨B.bd,B.dx,_,rfl,hB5.bd,rfl,?_⟩;walk_at"w";refine⟨B.bd,_,B.dx,_,.ref B.se,rfl,hB5.bd,T.q0c,T.q0o,rfl,?_⟩;walk_at"w";refine⟨B,_,B.se,_,_,rfl,hB5,t5.2.2.2.1,.inr ⟨.inr "counter",_,rfl,hB5.se,(by decide:2<100),fun H6 k6 kp e6=>?_⟩⟩;have hB6:=hB5.cter k6 kp e6;have k6B:=jX k6 (.inr (.inr rfl));have t6:=t5.kp k6B hB5.mu;walk_at"w";refine⟨B.bd,B.dx,_,rfl,hB6.bd,rfl,?_⟩;walk_at"w";refine⟨B.bd,_,B.dx,_,.ref B.ma,rfl,hB6.bd,T.q0c,T.q0n,rfl,?_⟩;walk_at"w";refine⟨B,_,B.ma,_,_,rfl,hB6,t6.2.2.2.1,.inl ⟨_,_,rfl,hB6.ma,bI0,bI2,fun H7 k7 kp7 e7=>?_⟩⟩;have hB7:=hB6.mark k7 kp7 e7;simp only[xhl]at hB7;walk_at"w";have:=q H7 nn _ (k5B.trans (k6B.trans (jX k7 (.inr (.inl rfl))))) mk2 (by rw[if_pos ys,if_pos ys];exact hB7);rw[decide_eq_true ys]at this;exact this
def xkL(a:Adr):Sp:=fun vs H Q _=>∃(B:BA) (s:BdS) (b:Bool),vs=[.ref B.bd,.int (bI b)]∧xP a H B s∧Tbs H∧∀(H':Hp) (k:Int),Kp (BS B) H H'→xP a H' B {s with mark:=upB s.mark b "good",mr:=b,cnt:=k}→Q .non H'
theorem xek(T:Txt K mg a):xE P w K mg base CX0 4 a.q0N a.vF ["self","bank"] (xkL a):=by
 refine T.q1z.ok xah (fun vs H Q E h=>?_) (fun cdv A outer s H vs Q E hr h=>?_)
 ·obtain⟨B,s,b,rfl,_⟩:=h;rfl
 ·obtain⟨B,st,b,rfl,hB,hT,q⟩:=h;have nd:=xah.nd;refine⟨_,(xh (xR (xT (cv 0) T.q0c T.q0u (ym T) (hr.mono (by decide)) T.yq .nil xu (xc (xA (cv 0) rfl) (xc (cv 1) (xc xG xf)))))
  (xm (xR (xT (cv 0) T.q0c T.q0u (ym T) (hr.mono (by decide)) T.yq .nil xu (xc (xA (cv 0) rfl) (xc xG (xc (cv 1) xf))))))),?_⟩
  have bI0:0≤bI b:=by cases b<;> decide
  have bI2:bI b<2:=by cases b<;> decide
  walk_at"w";refine⟨B.bd,B.dx,_,rfl,hB.bd,rfl,?_⟩;walk_at"w";refine⟨B.bd,_,B.dx,_,.ref B.ma,rfl,hB.bd,T.q0c,T.q0n,rfl,?_⟩;walk_at"w";refine⟨B,_,B.ma,_,_,rfl,hB,hT.2.2.2.1,.inl ⟨_,_,rfl,hB.ma,bI0,bI2,fun H1 k1 kp1 e1=>?_⟩⟩;have hB1:=hB.mark k1 kp1 e1;have kB1:=jX k1 (.inr (.inl rfl));have t1:=hT.kp kB1 hB.mu;walk_at"w";refine⟨B.bd,B.dx,_,rfl,hB1.bd,rfl,?_⟩;walk_at"w";refine⟨B.bd,_,B.dx,_,.ref B.se,rfl,hB1.bd,T.q0c,T.q0o,rfl,?_⟩;walk_at"w";refine⟨B,_,B.se,_,_,rfl,hB1,t1.2.2.2.1,.inr ⟨.inr "marker",_,rfl,hB1.se,(by decide:2<100),fun H2 k2 kp2 e2=>?_⟩⟩;exact q H2 _ (kB1.trans (jX k2 (.inr (.inr rfl)))) (hB1.mrk k2 kp2 e2)
end
abbrev xgr:Expr:=xck 0 (xqh ((xS yN).getD 2 (.Pass ⟨0,0,0,0⟩)))
theorem xkM:vW ["paper","self","total","tries"] [] ["paper","self","total","tries"] (zX xgr):=⟨rfl,rfl,rfl,by decide+kernel,rfl,by decide+kernel,by decide+kernel,by decide+kernel⟩
abbrev xgs:Expr:=xck 0 (xha ((xS zi).getD 3 (.Pass ⟨0,0,0,0⟩)))
theorem xkN:vW ["other","self"] [] ["other","self"] (zX xgs):=⟨rfl,rfl,rfl,by decide+kernel,rfl,by decide+kernel,by decide+kernel,by decide+kernel⟩
abbrev xgt:Expr:=xck 0 (xha ((xS yF).getD 3 (.Pass ⟨0,0,0,0⟩)))
theorem xkO:vW ["other","self"] [] ["other","self"] (zX xgt):=⟨rfl,rfl,rfl,by decide+kernel,rfl,by decide+kernel,by decide+kernel,by decide+kernel⟩
def xpu(K:ag)(a:Adr):List (Str×V)→Sp:=fun fv vs H Q E=>∃(bd p:Addr) (total tries:Int),fv=([("paper",.ref p),("self",.ref bd),("total",.int total),("tries",.int tries)]:List (Str×V))∧vs=[]∧xjv K a [.ref bd,.ref p,.int total,.int tries] H Q E
def xpv(a:Adr):List (Str×V)→Sp:=fun fv vs H Q E=>∃(bd:Addr) (i:Int),fv=([("other",.int i),("self",.ref bd)]:List (Str×V))∧vs=[]∧xkL a [.ref bd,.int i] H Q E
def xpw(a:Adr):List (Str×V)→Sp:=fun fv vs H Q _=>∃(B:BA) (s:BdS) (b:Bool),fv=([("other",.int (bI b)),("self",.ref B.bd)]:List (Str×V))∧vs=[]∧xP a H B s∧Tbs H∧∀(H':Hp) (k:Int),Kp (BS B) H H'→xP a H' B {s with mr:=b,cnt:=k}→Q .non H'
def xqt(P:av)(w:World)(K:ag)(mg:Str→Option Value)(base:Heap):Sp:=fun vs H Q _=>∃(bd f:Addr),vs=[.ref bd,.ref f]∧FnV P w K mg base 9 H f [] Q
def xpx(a:Adr):Sp:=fun vs H Q E=>∃(B:BA) (s:BdS),vs=[.ref B.bd]∧xP a H B s∧(s.run≠none→Q .non H)∧(s.run=none→∀H',xg H H'→E (.ref a.q0i) none H')
section
variable {P:av} {w:World} {K:ag} {mg:Str→Option Value} {base:Heap} {a:Adr}
theorem xpy(T:Txt K mg a):uN P w K mg base CX0 9 "<lambda>" "Board.update.<locals>.<lambda>" (xcl xgr) (.expr (xcm xgr)) (zX xgr) [] (xpu K a):=by
 refine xcI xkM (fun fv vs H Q E h=>?_) (fun _ _ _ _ _ us hl=>match us,hl with|[],_=>rfl) (fun A outer s H f clos cdv fv vs Q E hr h=>?_)
 ·obtain⟨bd,p,total,tries,rfl,rfl,_⟩:=h;exact⟨rfl,rfl⟩
 ·obtain⟨bd,p,total,tries,rfl,rfl,h⟩:=h;have nd:=xkM.nd;refine⟨_,(xT (cv 1) T.q0c T.q2Z (xcz T) (hr.mono (by decide)) T.xc1 .nil xu (xc (cv 0) (xc (cv 2) (xc (cv 3) xf)))),?_⟩;walk_at"w";have h0:=h;obtain⟨B,s,p',o,n,rs,t',r',e,hB,_⟩:=h;have eb:bd=B.bd:=by injection e with e _;injection e
  refine⟨bd,B.dx,_,rfl,by rw[eb];exact hB.bd,rfl,?_⟩;exact h0
theorem xpz(T:Txt K mg a):uN P w K mg base CX0 5 "<lambda>" "Board.fine.<locals>.<lambda>" (xcl xgs) (.expr (xcm xgs)) (zX xgs) [] (xpv a):=by
 refine xcI xkN (fun fv vs H Q E h=>?_) (fun _ _ _ _ _ us hl=>match us,hl with|[],_=>rfl) (fun A outer s H f clos cdv fv vs Q E hr h=>?_)
 ·obtain⟨bd,i,rfl,rfl,_⟩:=h;exact⟨rfl,rfl⟩
 ·obtain⟨bd,i,rfl,rfl,h⟩:=h;have nd:=xkN.nd;refine⟨_,(xT (cv 1) T.q0c T.q3K (xek T) (hr.mono (by decide)) T.xeH .nil xu (xc (cv 0) xf)),?_⟩;walk_at"w";have h0:=h;obtain⟨B,s,b,e,hB,_⟩:=h;have eb:bd=B.bd:=by injection e with e _;injection e
  refine⟨bd,B.dx,_,rfl,by rw[eb];exact hB.bd,rfl,?_⟩;exact h0
theorem xpA(T:Txt K mg a):uN P w K mg base CX0 4 "<lambda>" "Board.go_back.<locals>.<lambda>" (xcl xgt) (.expr (xcm xgt)) (zX xgt) [] (xpw a):=by
 refine xcI xkO (fun fv vs H Q E h=>?_) (fun _ _ _ _ _ us hl=>match us,hl with|[],_=>rfl) (fun A outer s H f clos cdv fv vs Q E hr h=>?_)
 ·obtain⟨B,s,b,rfl,rfl,_⟩:=h;exact⟨rfl,rfl⟩
 ·obtain⟨B,st,b,rfl,rfl,hB,hT,q⟩:=h;have nd:=xkO.nd;refine⟨_,(xT (cv 1) T.q0c T.q0u (ym T) (hr.mono (by decide)) T.yq .nil xu (xc (xA (cv 1) rfl) (xc xG (xc (cv 0) xf)))),?_⟩;walk_at"w";refine⟨B.bd,B.dx,_,rfl,hB.bd,rfl,?_⟩;walk_at"w";refine⟨B.bd,_,B.dx,_,.ref B.se,rfl,hB.bd,T.q0c,T.q0o,rfl,?_⟩;walk_at"w";exact⟨B,_,B.se,_,_,rfl,hB,hT.2.2.2.1,.inr ⟨.inr "marker",_,rfl,hB.se,(by decide:2<100),fun H2 k2 kp2 e2=>q H2 _ (jX k2 (.inr (.inr rfl))) (hB.mrk k2 kp2 e2)⟩⟩
theorem uh(T:Txt K mg a):xE P w K mg base CX0 10 a.q0D a.uH ["self","deed"] (xqt P w K mg base):=by
 refine T.q07.ok jG (fun vs H Q E h=>?_) (fun cdv A outer s H vs Q E hr h=>?_)
 ·obtain⟨bd,f,rfl,_⟩:=h;rfl
 ·obtain⟨bd,f,rfl,h⟩:=h;have nd:=jG.nd;refine⟨_,(xm (xkw rfl (xm (xw (xmx (k:=9) 1 hr))))),?_⟩;walk_at"w";exact⟨f,rfl,h⟩
theorem ui(T:Txt K mg a):xE P w K mg base (CXE P w) 1 a.q0B a.uF ["self"] (xpx a):=by
 refine T.q05.okX jD (fun vs H Q E h=>?_) (fun cdv A outer s H vs Q E hr h=>?_)
 ·obtain⟨B,s,rfl,_⟩:=h;rfl
 ·obtain⟨B,st,rfl,hB,q1,q2⟩:=h;have nd:=jD.nd;refine⟨_,(xm (xM (xaa (xA (cv 0) rfl)) (xm (vX ⟨rfl,rfl,rfl⟩ rfl T.q6p (by rfl) T.xmF (xc xG xf))) xx)),?_⟩;walk_at"w";refine⟨B.bd,_,B.dx,_,zE st.run,rfl,hB.bd,T.q0c,T.q0m,rfl,?_⟩;walk_at"w";cases hr0:st.run with
  |none=>
   refine⟨fun _=>?_,by walk_at"no"⟩;walk_at"w";exact⟨by decide,q2 hr0 _ (xg.refl _)⟩
  |some b=>
   refine⟨by walk_at"no",fun _=>?_⟩;exact q1 (by rw[hr0];simp)
end
theorem uN.mono{P:av}{w:World}{K:ag}{mg:Str→Option Value}{base:Heap}{CX:CXT}{j k:Nat}{nm qual:Str}{params:cq}{body:dR}{scope:Scope}{ps:List Str}{sp:List (Str×V)→Sp}(F:uN P w K mg base CX j nm qual params body scope ps sp)(h:j≤k):uN P w K mg base CX k nm qual params body scope ps sp:=
 ⟨F.len,fun A outer s H f fv us vs Q E hr=>F.run A outer s H f fv us vs Q E (hr.mono h)⟩
structure PJ(K:ag)(H:Hp)(p:Addr)(o n:Int)(rs:List xq):Prop where
 at':jH K H p o n rs
 ho:0≤o∧o≤300
 hn:0≤n∧n≤300
 few:rs.length≤300
 ok:∀r∈rs,r.ok∧Fit o n r
 tw:uk rs=none
def jF(rs:List xq)(n:Int):Option (List V):=match um rs n.toNat with
 |some c=>some [.str "lacks",.int c]
 |none=>match vS rs with
  |some (k,c)=>some [.str "late",.int k,.int c]
  |none=>none
theorem xpB{H:Hp}{Q:VK}{rs:List xq}{n:Int}(h1:jF rs n=none→∀H',xg H H'→Q .non H')(h2:∀xs,jF rs n=some xs→∀t H',xg H H'→H' t=some (.tup xs)→Q (.ref t) H'):xjl H Q rs n:=by
 unfold jF at h1 h2;unfold xjl;cases hl:um rs n.toNat with
 |some c=>
  rw[hl]at h2;exact fun t H' s e=>h2 _ rfl t H' s e
 |none=>
  rw[hl]at h1 h2;cases ht:vS rs with
  |none=>rw[ht]at h1;exact fun H' s=>h1 rfl H' s
  |some kc=>rw[ht]at h2;exact fun t H' s e=>h2 _ rfl t H' s e
def zP(s:BdS)(o n:Int):Bool:=decide (max o n≤s.size)&&(decide (o=0)||(decide (s.mark (!s.mr)=("good":Str))&&decide (s.len (!s.mr)=o)))
def xmV(K:ag)(a:Adr):Sp:=fun vs H Q E=>∃(B:BA) (s:BdS) (p:Addr) (o n:Int) (rs:List xq),vs=[.ref B.bd,.ref p]∧xP a H B s∧PJ K H p o n rs∧s.mark (!s.mr)≠("open":Str)∧
 (s.mark (!s.mr)=("trial":Str)→∀H',xg H H'→E (.ref a.q0e) none H')∧
 (s.mark (!s.mr)≠("trial":Str)→(∀xs,jF rs n=some xs→∀(d t:Addr) (H':Hp),xg H H'→H' d=some (.xd [("fault",.ref t)])→H' t=some (.tup xs)→E (.ref a.q0b) (some d) H')∧
  (jF rs n=none→(zP s o n=false→∀H',xg H H'→E (.ref a.q0f) none H')∧(zP s o n=true→∀H',xg H H'→Q .non H')))
section
variable {P:av} {w:World} {K:ag} {mg:Str→Option Value} {base:Heap} {a:Adr}
theorem xhm(T:Txt K mg a):xE P w K mg base CX0 1 a.q1A a.xau ["self","fault"] (xiN a.q0b "fault"):=by
 refine T.q2g.ok xco (fun vs H Q E h=>?_) (fun cdv A outer s H vs Q E hr h=>?_)
 ·obtain⟨p,v,rfl,_⟩:=h;rfl
 ·obtain⟨p,v,rfl,hp,k⟩:=h;have nd:=xco.nd;refine⟨_,(xm (xo5 (cv 0) (cv 1) rfl)),?_⟩;walk_at"w";refine⟨p,_,_,rfl,hp,T.q42,T.q3s,fun d h1 h2=>?_⟩;exact k d h1 h2
theorem xcA(T:Txt K mg a):xE P w K mg base (CXE P w) 9 a.q0x a.ue ["self","paper"] (xmV K a):=by
 refine T.q0X.okX jh (fun vs H Q E h=>?_) (fun cdv A outer s H vs Q E hr h=>?_)
 ·obtain⟨B,s,p,o,n,rs,rfl,_⟩:=h;rfl
 ·obtain⟨B,st,p,o,n,rs,rfl,hB,hJ,hno,q1,q2⟩:=h;have nd:=jh.nd;refine⟨_,(xh (xD (i:=2) nd rfl (az rfl) (xU (cv 0) T.q0c T.q0O (yL T) (hr.mono (by decide)) T.yR .nil xu))
  (xh (xM (xO xbG (xC yc (xA (cv 0) rfl) (cv 2) (fun _ _=>rfl)) xG) (xm (vX ⟨rfl,rfl,rfl⟩ rfl T.q5K (by rfl) T.xhL (xc xG xf))) xx)
  (xh (xD (i:=3) nd rfl (az rfl) (xB (xnV T) (hr.mono (by decide)) (by rfl) T.xpg T.q4H.kp T.xpf .nil xu (xc (cv 1) xf)))
  (xh (xM (xev (cv 3)) (xm (xmr (k:=1) ⟨rfl,rfl,rfl⟩ rfl T.q42 (xhm T) (hr.mono (by decide)) T.xhZ (by rfl) T.xfi (xc (cv 3) xf))) xx)
  (xh (xM (xO xbU (xI (xfP rfl) (by rfl) T.q5D xdJ (xc (xC xK (cv 1) xk (fun _ _=>rfl)) (xc (xC xK (cv 1) xk (fun _ _=>rfl)) xf))) (xA (cv 0) rfl)) (xm (vX ⟨rfl,rfl,rfl⟩ rfl T.q5y (by rfl) T.xcn (xc xG xf))) xx)
  (xm (xM (xcf (zh (xT (cv 0) T.q0c T.q3g (xc9 T) (hr.mono (by decide)) T.xdz .nil xu (xc (cv 2) (xc (xC xK (cv 1) xk (fun _ _=>rfl)) xf))))) (xm (vX ⟨rfl,rfl,rfl⟩ rfl T.q5y (by rfl) T.xcn (xc xG xf))) xx))))))),?_⟩
  have atM:atI [V.str (st.mark false),V.str (st.mark true)] (bI (!st.mr))=some (.str (st.mark (!st.mr))):=by cases st.mr<;> rfl
  walk_at"w";refine⟨B.bd,B.dx,_,rfl,hB.bd,rfl,?_⟩;walk_at"w";refine⟨B,st,rfl,hB,?_⟩;walk_at"w";refine⟨B.bd,_,B.dx,_,.ref B.ma,rfl,hB.bd,T.q0c,T.q0n,rfl,?_⟩;walk_at"w";refine⟨B.ma,_,_,_,rfl,rfl,SqL.of hB.ma,atM,?_⟩;walk_at"w";refine⟨fun c=>?_,fun c=>?_⟩
  ·walk_at"w";exact⟨by decide,q1 (of_decide_eq_true c) H (xg.refl _)⟩
  obtain⟨q2,q3⟩:=q2 (of_decide_eq_false c);walk_at"w";refine⟨p,o,n,rs,rfl,hJ.at',hJ.ho,hJ.hn,hJ.few,hJ.ok,hJ.tw,xpB (fun hj H1 s1=>?_) (fun xs hj t H1 s1 et=>?_)⟩
  ·walk_at"w";refine⟨by walk_at"no",fun _=>?_⟩;obtain⟨q4,q5⟩:=q3 hj;obtain⟨tt,us,hp,_⟩:=hJ.at'.same s1;have hB1:=hB.same s1;walk_at"w";refine⟨p,_,_,.int o,rfl,rfl,SqT.of hp,rfl,?_⟩;walk_at"w";refine⟨p,_,_,.int n,rfl,rfl,SqT.of hp,rfl,?_⟩;walk_at"w";refine⟨B.bd,_,B.dx,_,.int st.size,rfl,hB1.bd,T.q0c,T.q30,rfl,?_⟩;walk_at"w";refine⟨fun c=>?_,fun c=>?_⟩
   ·have c':st.size<max o n:=of_decide_eq_true c;walk_at"w";exact⟨by decide,q4 (by unfold zP;rw[decide_eq_false (show¬max o n≤st.size by lia),fR]) H1 s1⟩
   have c':max o n≤st.size:=by have:¬st.size<max o n:=of_decide_eq_false c;lia
   walk_at"w";refine⟨B.bd,B.dx,_,rfl,hB1.bd,rfl,?_⟩;walk_at"w";refine⟨p,_,_,.int o,rfl,rfl,SqT.of hp,rfl,?_⟩;walk_at"w";refine⟨B,st,(!st.mr),o,rfl,hB1,hno,?_⟩;unfold zP at q4 q5;rw[decide_eq_true c',gw]at q4 q5;generalize (decide (o=0)||(decide (st.mark (!st.mr)=("good":Str))&&decide (st.len (!st.mr)=o)))=bb at q4 q5;cases bb with
   |true=>
    walk_at"w";refine⟨by walk_at"no",fun _=>?_⟩;exact q5 rfl H1 s1
   |false=>
    walk_at"w";refine⟨fun _=>?_,by walk_at"no"⟩;walk_at"w";exact⟨by decide,q4 rfl H1 s1⟩
  ·walk_at"w";refine⟨fun _=>?_,by walk_at"no"⟩;walk_at"w";refine⟨_,rfl,fun d hd=>?_⟩;exact q2 xs hj d t _ (s1.trans (xg.new hd)) xt ((xg.new hd).at et)
end
inductive xhS(K:ag)(a:Adr)(vs:List V)(H:Hp)(Q:VK)(E:XK):Prop
 |mk (B:BA) (s:BdS) (p:Addr) (o n:Int) (rs:List xq) (total tries:Int):(vs=[.ref B.bd,.ref p,.int total,.int tries])→(xP a H B s)→(Tbs H)→(PJ K H p o n rs)→(s.mark (!s.mr)≠("open":Str))→((s.notes (!s.mr)).length=2)→
  (s.run=none→∀H',xg H H'→E (.ref a.q0i) none H')→(s.run≠none→s.mark (!s.mr)=("trial":Str)→∀H',xg H H'→E (.ref a.q0e) none H')→
  (s.run≠none→s.mark (!s.mr)≠("trial":Str)→∀xs,jF rs n=some xs→∀(d t:Addr) (H':Hp),xg H H'→H' d=some (.xd [("fault",.ref t)])→H' t=some (.tup xs)→E (.ref a.q0b) (some d) H')→
  (s.run≠none→s.mark (!s.mr)≠("trial":Str)→jF rs n=none→zP s o n=false→∀H',xg H H'→E (.ref a.q0f) none H')→
  (s.run≠none→s.mark (!s.mr)≠("trial":Str)→jF rs n=none→zP s o n=true→xfr K H p o n rs∧max o n≤(s.cells (!s.mr)).length∧(∀x∈yn rs,uw (s.cells (!s.mr)).length x)∧
   ∀(H':Hp) (nn:List (Option Int)) (k:Int),Kp (BS B) H H'→nn.length=2→xP a H' B (xgq s rs n total tries nn k)→Q (.bl (decide (((doL (s.cells (!s.mr)) (yn rs)).take n.toNat).sum=total))) H')→xhS K a vs H Q E
def xmW(K:ag)(a:Adr):Sp:=xhS K a
section
variable {P:av} {w:World} {K:ag} {mg:Str→Option Value} {base:Heap} {a:Adr}
theorem xgu(T:Txt K mg a):xE P w K mg base (CXE P w) 11 a.q0U a.vn ["self","paper","total","tries"] (xmW K a):=by
 refine T.vp.okXK ["paper","self","total","tries"] T.xgb xbN (fun vs H Q E h=>?_) (fun A outer s H vs Q E hr h=>?_)
 ·obtain⟨B,s,p,o,n,rs,total,tries,rfl,_⟩:=h;rfl
 ·obtain⟨B,st,p,o,n,rs,total,tries,rfl,hB,hT,hJ,hno,hn2,q1,q2,q3,q4,q5⟩:=h;have nd:=xbN.nd;refine⟨_,(za (x:="paper") (i:=1) nd rfl rfl rfl (by kernel_rfl) (za (x:="self") (i:=0) nd rfl rfl rfl (by kernel_rfl) (za (x:="total") (i:=2) nd rfl rfl rfl (by kernel_rfl) (za (x:="tries") (i:=3) nd rfl rfl rfl (by kernel_rfl) (xh (xR (xad ⟨rfl,rfl,rfl⟩ (cv 0) T.q0c T.q1w (ui T) (hr.mono (by decide)) T.uI .nil))
  (xh (xR (xiO ⟨rfl,rfl,rfl⟩ (cv 0) T.q0c T.q20 (xcA T) (hr.mono (by decide)) T.xc0 .nil (xc (cv 1) xf)))
  (xm (xw (xT (cv 0) T.q0c T.q1x (uh T) (hr.mono (by decide)) T.uJ .nil xu (xc (zS (c:=q0J) (P:=yO) (qs:=uO) (fns:=["paper","self","total","tries"]) rfl T.q4j (q:="Board.update.<locals>.<lambda>") (by kernel_rfl) (.head _) (by kernel_rfl) (by kernel_rfl)) xf)))))))))),?_⟩
  walk_at"w";intro a1 e1 z1 d1;refine a7 z1 ?_;generalize hU1:upd H a1 _=H1;have s1:=xg.of_eq z1 hU1;have c1:=xj hU1;walk_at"w";intro a2 e2 z2 d2;have n12:a1≠a2:=d2 _ _ e1 (by decide);have y2:H1 a2=none:=by rw[←hU1,xr (au n12)];exact z2
  refine a7 y2 ?_;generalize hU2:upd H1 a2 _=H2;have s2:=xg.of_eq y2 hU2;have c2:=xj hU2;walk_at"w";intro a3 e3 z3 d3;have n13:a1≠a3:=d3 _ _ e1 (by decide);have n23:a2≠a3:=d3 _ _ e2 (by decide);have y3:H2 a3=none:=by rw[←hU2,xr (au n23),←hU1,xr (au n13)];exact z3
  refine a7 y3 ?_;generalize hU3:upd H2 a3 _=H3;have s3:=xg.of_eq y3 hU3;have c3:=xj hU3;walk_at"w";intro a4 e4 z4 d4;have n14:a1≠a4:=d4 _ _ e1 (by decide);have n24:a2≠a4:=d4 _ _ e2 (by decide);have n34:a3≠a4:=d4 _ _ e3 (by decide);have y4:H3 a4=none:=by rw[←hU3,xr (au n34),←hU2,xr (au n24),←hU1,xr (au n14)];exact z4
  refine a7 y4 ?_;generalize hU4:upd H3 a4 _=H4;have s4:=xg.of_eq y4 hU4;have c4:=xj hU4;clear hU1 hU2 hU3 hU4;have s04:=s1.trans (s2.trans (s3.trans s4));have hB4:=hB.same s04;have hJ4:PJ K H4 p o n rs:=⟨hJ.at'.same s04,hJ.ho,hJ.hn,hJ.few,hJ.ok,hJ.tw⟩;walk_at"w";refine⟨B.bd,B.dx,_,rfl,hB4.bd,rfl,?_⟩;walk_at"w";refine⟨B,st,rfl,hB4,fun hrun=>?_,fun hrun H' s'=>?_⟩
  rotate_left
  ·exact q1 hrun H' (s04.trans s')
  walk_at"w";refine⟨B.bd,B.dx,_,rfl,hB4.bd,rfl,?_⟩;walk_at"w";refine⟨B,st,p,o,n,rs,rfl,hB4,hJ4,hno,fun ht H' s'=>q2 hrun ht H' (s04.trans s'),fun ht=>⟨fun xs hj d t H' s' ed et=>q3 hrun ht xs hj d t H' (s04.trans s') ed et,fun hj=>⟨fun hf H' s'=>q4 hrun ht hj hf H' (s04.trans s'),fun hf H5 s5=>?_⟩⟩⟩;obtain⟨pg,hmax,hpo,q⟩:=q5 hrun ht hj hf;have s05:=s04.trans s5;have s25:=s3.trans (s4.trans s5);walk_at"w";refine⟨B.bd,B.dx,_,rfl,s5.at hB4.bd,rfl,?_⟩;walk_at"w";refine⟨(hT.same s05).2.2.2.2.1,[("paper",.ref p),("self",.ref B.bd),("total",.int total),("tries",.int tries)],rfl,(fun x v m=>?_),fun g H6 hg s6 hc=>?_⟩
  ·simp only[aq,eg,aR,or_false]at m;rcases m with⟨rfl,rfl⟩|⟨rfl,rfl⟩|⟨rfl,rfl⟩|⟨rfl,rfl⟩
   ·exact⟨a1,e1,(s2.trans s25).at c1⟩
   ·exact⟨a2,e2,s25.at c2⟩
   ·exact⟨a3,e3,(s4.trans s5).at c3⟩
   ·exact⟨a4,e4,s5.at c4⟩
  walk_at"w";have s06:=s05.trans s6;have hpg:xfr K H6 p o n rs:=pg.kp (L:=[]) (Kp.of s06) (fun _ z=>nomatch z);exact⟨B.bd,g,rfl,_,_,_,_,_,_,_,_,xpy T,hc,B.bd,p,total,tries,rfl,rfl,B,st,p,o,n,rs,total,tries,rfl,hB.same s06,hT.same s06,hn2,hno,hpg,hmax,hpo,hJ.hn.1,fun H' nn k kk h2 hb=>q H' nn k ((Kp.of s06).trans kk) h2 hb⟩
end
def xpC(a:Adr):Sp:=fun vs H Q E=>∃(B:BA) (s:BdS),vs=[.ref B.bd]∧xP a H B s∧Tbs H∧(s.run=none→∀H',xg H H'→E (.ref a.q0i) none H')∧
 (s.run≠none→¬(s.run=some (!s.mr)∧s.mark (!s.mr)=("trial":Str))→∀H',xg H H'→E (.ref a.q0g) none H')∧
 (s.run=some (!s.mr)→s.mark (!s.mr)=("trial":Str)→∀(H':Hp) (k:Int),Kp (BS B) H H'→xP a H' B {s with mark:=upB s.mark (!s.mr) "good",mr:= !s.mr,cnt:=k}→Q .non H')
def xmX(a:Adr):Sp:=fun vs H Q E=>∃(B:BA) (s:BdS),vs=[.ref B.bd]∧xP a H B s∧Tbs H∧(s.run=none→∀H',xg H H'→E (.ref a.q0i) none H')∧
 (s.run≠none→s.mark (!s.mr)≠("good":Str)→∀H',xg H H'→E (.ref a.q0a) none H')∧
 (s.run≠none→s.mark (!s.mr)=("good":Str)→∀(H':Hp) (k:Int),Kp (BS B) H H'→xP a H' B {s with mr:= !s.mr,cnt:=k,run:=none}→Q .non H')
section
variable {P:av} {w:World} {K:ag} {mg:Str→Option Value} {base:Heap} {a:Adr}
theorem xil(T:Txt K mg a):xE P w K mg base (CXE P w) 11 a.q1r a.jz ["self"] (xpC a):=by
 refine T.jB.okXK ["other","self"] T.xh6 xdr (fun vs H Q E h=>?_) (fun A outer s H vs Q E hr h=>?_)
 ·obtain⟨B,s,rfl,_⟩:=h;rfl
 ·obtain⟨B,st,rfl,hB,hT,q1,q2,q3⟩:=h;have nd:=xdr.nd;refine⟨_,(za (x:="other") (i:=1) nd rfl rfl rfl (by kernel_rfl) (za (x:="self") (i:=0) nd rfl rfl rfl (by kernel_rfl) (xh (xR (xad ⟨rfl,rfl,rfl⟩ (cv 0) T.q0c T.q1w (ui T) (hr.mono (by decide)) T.uI .nil))
  (xh (xkr (i:=1) nd rfl rfl rfl (by kernel_rfl) (xU (cv 0) T.q0c T.q0O (yL T) (hr.mono (by decide)) T.yR .nil xu))
  (xh (xM (PW.pt (xaN (xO xbF (xA (cv 0) rfl) (cv 1)) (xaZ (xO xaM (xC yc (xA (cv 0) rfl) (cv 1) (fun _ _=>rfl)) xG)))) (xm (vX ⟨rfl,rfl,rfl⟩ rfl T.q5J (by rfl) T.xhK (xc xG xf))) xx)
  (xm (xR (xT (cv 0) T.q0c T.q1x (uh T) (hr.mono (by decide)) T.uJ .nil xu (xc (zS (c:=q08) (P:=zj) (qs:=vO) (fns:=["other","self"]) rfl T.q45 (q:="Board.fine.<locals>.<lambda>") (by kernel_rfl) (.head _) (by kernel_rfl) (by kernel_rfl)) xf))))))))),?_⟩
  have atM:atI [V.str (st.mark false),V.str (st.mark true)] (bI (!st.mr))=some (.str (st.mark (!st.mr))):=by cases st.mr<;> rfl
  walk_at"w";intro a1 e1 z1 d1;refine a7 z1 ?_;generalize hU1:upd H a1 _=H1;have s1:=xg.of_eq z1 hU1;have c1:=xj hU1;walk_at"w";intro a2 e2 z2 d2;have n12:a1≠a2:=d2 _ _ e1 (by decide);have y2:H1 a2=none:=by rw[←hU1,xr (au n12)];exact z2
  refine a7 y2 ?_;generalize hU2:upd H1 a2 _=H2;have s2:=xg.of_eq y2 hU2;have c2:=xj hU2;clear hU1 hU2;have s02:=s1.trans s2;have hB2:=hB.same s02;walk_at"w";refine⟨B.bd,B.dx,_,rfl,hB2.bd,rfl,?_⟩;walk_at"w";refine⟨B,st,rfl,hB2,fun hrun=>?_,fun hrun H' s'=>?_⟩
  rotate_left
  ·exact q1 hrun H' (s02.trans s')
  walk_at"w";refine⟨B.bd,B.dx,_,rfl,hB2.bd,rfl,?_⟩;walk_at"w";refine⟨B,st,rfl,hB2,?_⟩;walk_at"w";refine⟨a1,e1,s2.at c1,?_⟩;generalize hU3:upd H2 a1 _=H3;have s03:xg H H3:=by rw[←hU3];exact s02.put z1
  have c13:H3 a1=some (.cel (some (.int (bI (!st.mr))))):=xj hU3;have c23:H3 a2=some (.cel (some (.ref B.bd))):=by rw[←hU3,xr (au n12)];exact c2
  clear hU3;have hB3:=hB.same s03;obtain⟨r,hr0⟩:∃r,st.run=some r:=by
   cases h:st.run with
   |none=>exact absurd h hrun
   |some r=>exact⟨r,rfl⟩
  have hbd:H3 B.bd=some (.ins a.q0d B.dx (bdF B st.size (.int (bI r)))):=by have:=hB3.bd;rw[hr0]at this;exact this
  have bIe:∀x y:Bool,bI x=bI y↔x=y:=by intro x y;cases x<;> cases y<;> decide
  walk_at"w";refine⟨B.bd,_,B.dx,_,.int (bI r),rfl,hbd,T.q0c,T.q0m,rfl,?_⟩;walk_at"w";refine⟨fun c=>?_,fun c=>?_⟩
  ·walk_at"w";refine⟨fun _=>?_,by walk_at"no"⟩;walk_at"w";refine⟨by decide,q2 hrun (fun z=>?_) H3 s03⟩;rw[hr0]at z;have e:=(bIe r (!st.mr)).mpr (bc z.1);rw[decide_eq_true e]at c;cases c
  have er:r= !st.mr:=(bIe _ _).mp (of_decide_eq_true (p:=bI r=bI (!st.mr)) (by rw[←bP];exact c));walk_at"w";refine⟨B.bd,_,B.dx,_,.ref B.ma,rfl,hB3.bd,T.q0c,T.q0n,rfl,?_⟩;walk_at"w";refine⟨B.ma,_,_,_,rfl,rfl,SqL.of hB3.ma,atM,?_⟩;walk_at"w";refine⟨fun c2=>?_,fun c2=>?_⟩
  ·walk_at"w";refine⟨by decide,q2 hrun (fun z=>?_) H3 s03⟩;rw[show aX "trial"=("trial":Str)from rfl,decide_eq_true z.2]at c2;cases c2
  have et:st.mark (!st.mr)=("trial":Str):=of_decide_eq_true (p:=st.mark (!st.mr)=aX "trial") (by rw[←bP];exact c2);walk_at"w";refine⟨B.bd,B.dx,_,rfl,hB3.bd,rfl,?_⟩;walk_at"w";refine⟨(hT.same s03).2.2.2.2.2.1,[("other",.int (bI (!st.mr))),("self",.ref B.bd)],rfl,(fun x v m=>?_),fun g H6 hg s6 hc=>?_⟩
  ·simp only[aq,eg,aR,or_false]at m;rcases m with⟨rfl,rfl⟩|⟨rfl,rfl⟩
   ·exact⟨a1,e1,c13⟩
   ·exact⟨a2,e2,c23⟩
  walk_at"w";have s06:=s03.trans s6;exact⟨B.bd,g,rfl,_,_,_,_,_,_,_,_,uN.mono (xpz T) (by decide),hc,B.bd,bI (!st.mr),rfl,rfl,B,st,(!st.mr),rfl,hB.same s06,hT.same s06,fun H' k kk hb=>q3 (by rw[hr0,er]) et H' k ((Kp.of s06).trans kk) hb⟩
theorem xfs(T:Txt K mg a):xE P w K mg base (CXE P w) 11 a.q0P a.uP ["self"] (xmX a):=by
 refine T.uQ.okXK ["other","self"] T.xfh xbB (fun vs H Q E h=>?_) (fun A outer s H vs Q E hr h=>?_)
 ·obtain⟨B,s,rfl,_⟩:=h;rfl
 ·obtain⟨B,st,rfl,hB,hT,q1,q2,q3⟩:=h;have nd:=xbB.nd;refine⟨_,(za (x:="other") (i:=1) nd rfl rfl rfl (by kernel_rfl) (za (x:="self") (i:=0) nd rfl rfl rfl (by kernel_rfl) (xh (xR (xad ⟨rfl,rfl,rfl⟩ (cv 0) T.q0c T.q1w (ui T) (hr.mono (by decide)) T.uI .nil))
  (xh (xkr (i:=1) nd rfl rfl rfl (by kernel_rfl) (xU (cv 0) T.q0c T.q0O (yL T) (hr.mono (by decide)) T.yR .nil xu))
  (xh (xM (xO xaM (xC yc (xA (cv 0) rfl) (cv 1) (fun _ _=>rfl)) xG) (xm (vX ⟨rfl,rfl,rfl⟩ rfl T.q5w (by rfl) T.xeT (xc xG xf))) xx)
  (xh (xR (xT (cv 0) T.q0c T.q1x (uh T) (hr.mono (by decide)) T.uJ .nil xu (xc (zS (c:=q0G) (P:=yH) (qs:=uc) (fns:=["other","self"]) rfl T.q34 (q:="Board.go_back.<locals>.<lambda>") (by kernel_rfl) (.head _) (by kernel_rfl) (by kernel_rfl)) xf)))
  (xm (yt (cv 0) yi rfl)))))))),?_⟩
  have atM:atI [V.str (st.mark false),V.str (st.mark true)] (bI (!st.mr))=some (.str (st.mark (!st.mr))):=by cases st.mr<;> rfl
  walk_at"w";intro a1 e1 z1 d1;refine a7 z1 ?_;generalize hU1:upd H a1 _=H1;have s1:=xg.of_eq z1 hU1;have c1:=xj hU1;walk_at"w";intro a2 e2 z2 d2;have n12:a1≠a2:=d2 _ _ e1 (by decide);have y2:H1 a2=none:=by rw[←hU1,xr (au n12)];exact z2
  refine a7 y2 ?_;generalize hU2:upd H1 a2 _=H2;have s2:=xg.of_eq y2 hU2;have c2:=xj hU2;clear hU1 hU2;have s02:=s1.trans s2;have hB2:=hB.same s02;walk_at"w";refine⟨B.bd,B.dx,_,rfl,hB2.bd,rfl,?_⟩;walk_at"w";refine⟨B,st,rfl,hB2,fun hrun=>?_,fun hrun H' s'=>?_⟩
  rotate_left
  ·exact q1 hrun H' (s02.trans s')
  walk_at"w";refine⟨B.bd,B.dx,_,rfl,hB2.bd,rfl,?_⟩;walk_at"w";refine⟨B,st,rfl,hB2,?_⟩;walk_at"w";refine⟨a1,e1,s2.at c1,?_⟩;generalize hU3:upd H2 a1 _=H3;have s03:xg H H3:=by rw[←hU3];exact s02.put z1
  have c13:H3 a1=some (.cel (some (.int (bI (!st.mr))))):=xj hU3;have c23:H3 a2=some (.cel (some (.ref B.bd))):=by rw[←hU3,xr (au n12)];exact c2
  clear hU3;have hB3:=hB.same s03;walk_at"w";refine⟨B.bd,_,B.dx,_,.ref B.ma,rfl,hB3.bd,T.q0c,T.q0n,rfl,?_⟩;walk_at"w";refine⟨B.ma,_,_,_,rfl,rfl,SqL.of hB3.ma,atM,?_⟩;walk_at"w";refine⟨fun c=>?_,fun c=>?_⟩
  ·walk_at"w";refine⟨by decide,q2 hrun (fun z=>?_) H3 s03⟩;rw[show aX "good"=("good":Str)from rfl,decide_eq_true z]at c;cases c
  have et:st.mark (!st.mr)=("good":Str):=of_decide_eq_true (p:=st.mark (!st.mr)=aX "good") (by rw[←bP];exact c);walk_at"w";refine⟨B.bd,B.dx,_,rfl,hB3.bd,rfl,?_⟩;walk_at"w";refine⟨(hT.same s03).2.2.2.2.2.2,[("other",.int (bI (!st.mr))),("self",.ref B.bd)],rfl,(fun x v m=>?_),fun g H6 hg s6 hc=>?_⟩
  ·simp only[aq,eg,aR,or_false]at m;rcases m with⟨rfl,rfl⟩|⟨rfl,rfl⟩
   ·exact⟨a1,e1,c13⟩
   ·exact⟨a2,e2,c23⟩
  walk_at"w";have s06:=s03.trans s6;refine⟨B.bd,g,rfl,_,_,_,_,_,_,_,_,uN.mono (xpA T) (by decide),hc,B,st,(!st.mr),rfl,rfl,hB.same s06,hT.same s06,fun H' k kk hb=>?_⟩;walk_at"w";refine⟨B.bd,_,B.dx,_,rfl,hb.bd,T.q0c,T.q0m,by walk_at"few",?_⟩;rw[xjt];exact q3 hrun et _ k (xju ((Kp.of s06).trans kk)) (hb.rune (r:=none))
end
section
variable {P:av} {w:World} {K:ag} {mg:Str→Option Value} {base:Heap} {a:Adr}
def xlL(a:Adr):Sp:=fun vs H Q _=>∃(l p dp:Addr) (cells:List Int) (n:Int),vs=[.ref l,.ref p]∧H l=some (.lst (cells.map V.int))∧H p=some (.ins a.q0s dp (uK n .non))∧
 ∀(S:SA) (H':Hp),S.p=p→S.dp=dp→xg H H'→H S.st=none→H S.ca=none→H S.na=none→yo a H' S cells [some 0,some 0] n .non→Q (.ref S.st) H'
theorem xel{H:Hp}{x y z:Addr}{o o':HO}(h:upd (upd H x o) y o' z=none):z≠y∧z≠x∧H z=none:=by
 have n1:z≠y:=fun e=>by rw[e,xt]at h;cases h
 rw[xr n1]at h;have n2:z≠x:=fun e=>by rw[e,xt]at h;cases h
 rw[xr n2]at h;exact⟨n1,n2,h⟩
theorem xgv(T:Txt K mg a):xE P w K mg base CX0 5 a.q3v a.xdX ["cells","pen"] (xlL a):=by
 refine T.q23.ok xgg (fun vs H Q E h=>?_) (fun cdv A outer s H vs Q E hr h=>?_)
 ·obtain⟨l,p,dp,cells,n,rfl,_⟩:=h;rfl
 ·obtain⟨l,p,dp,cells,n,rfl,hl,hp,q⟩:=h;have nd:=xgg.nd;refine⟨_,(xh (xD (i:=2) nd rfl (az rfl) (xaT (dvs:=[.non]) T.q5R (xid T) (hr.mono (by decide)) (by rfl) T.xpn T.xaB (.cons rfl .nil) xu (xc (cv 0) xf)))
  (xh (yt (cv 2) (cv 1) rfl)
  (xm (xw (cv 2))))),?_⟩
  walk_at"w";intro st dx hst hdx ne;have up:∀{b:Addr} {u:HO},H b=some u→upd (upd H dx (.own st)) st (.ins a.q0j dx []) b=some u:=fun e=>by rw[xr (xF e hst),xr (xF e hdx)];exact e
  refine⟨st,dx,l,cells,.non,rfl,xt,up hl,fun S H1 e1 k1 hS f1 f2 f3=>⟨rfl,?_⟩⟩;have s1:xg H H1:=fun b u e=>k1 b u (up e) (by simp;exact xF e hst);obtain⟨g1,g2,g3⟩:=xel f1;obtain⟨g4,g5,g6⟩:=xel f2;walk_at"w";refine⟨st,_,S.dx,_,rfl,by rw[←e1];exact hS.st,T.q0r,T.q2e,by walk_at"few",?_⟩;walk_at"w";have hpst:p≠st:=xF hp hst;refine q ⟨st,S.dx,S.ca,S.na,p,dp⟩ _ rfl rfl (s1.put hst) hst g3 g6 ⟨?_,?_,?_,?_,hS.ne,hpst⟩
  ·rw[xt];rfl
  ·show upd H1 st _ S.ca=_;rw[xr g1];exact hS.ca
  ·show upd H1 st _ S.na=_;rw[xr g4];exact hS.na
  ·show upd H1 st _ p=_;rw[xr hpst];exact s1.at hp
end
section
variable {P:av} {w:World} {K:ag} {mg:Str→Option Value} {base:Heap} {a:Adr}
def bd0(text:List Int)(size:Int)(k:Int):BdS where
 size:=size
 cells:=fun b=>if b then aD size.toNat 0 else text++aD (size - text.length).toNat 0
 notes:=fun _=>[some 0,some 0]
 len:=fun b=>if b then 0 else text.length
 mark:=fun b=>if b then"bad" else"good"
 mr:=false
 ct:=0
 run:=none
 cnt:=k
def xn3(K:ag)(a:Adr):Sp:=fun vs H Q E=>∃(bd dx l:Addr) (text:List Int) (size:Int),vs=[.ref bd,.ref l,.int size,.non]∧H bd=some (.ins a.q0d dx [])∧H l=some (.lst (text.map V.int))∧text.length≤1000∧size≤1000∧
 (size<text.length→∀H',xg H H'→E (.ref a.q0f) none H')∧(text.length≤size→∀(B:BA) (H':Hp),B.bd=bd→Kp [bd] H H'→(∀y∈BS B,y=bd∨H y=none)→xP a H' B (bd0 text size 0)→Q .non H')
theorem xdx(T:Txt K mg a):xE P w K mg base (CXE P w) 6 a.q1q a.jy ["self","text","size","fall"] (xn3 K a):=by
 refine T.vf.okX xdq (fun vs H Q E h=>?_) (fun cdv A outer s H vs Q E hr h=>?_)
 ·obtain⟨bd,dx,l,text,size,rfl,_⟩:=h;rfl
 ·obtain⟨bd,dx,l,text,size,rfl,hbd,hl,ht,hs,q1,q2⟩:=h;have nd:=xdq.nd;refine⟨_,(xh (xM (xO xbU (xI xZ (by rfl) T.q1Z yK (xc (cv 1) xf)) (cv 2)) (xm (vX ⟨rfl,rfl,rfl⟩ rfl T.q5y (by rfl) T.xcn (xc xG xf))) xx)
  (xh (yt (cv 0) (xaT T.q5W (xeZ T) (hr.mono (by decide)) (by rfl) T.xou T.xga .nil xu (xc (cv 3) xf)) rfl)
  (xh (yt (cv 0) (cv 2) rfl)
  (xh (yt (cv 0) (xY (xc (xB (xgv T) (hr.mono (by decide)) (by rfl) T.xhJ T.q23.kp T.xhI .nil xu (xc (xy xfC (yd ze (by rfl) T.q22 zL (xc (cv 1) xf)) (xy xfD (xY (xc xk xf)) (xy yw (cv 2) (xI xZ (by rfl) T.q1Z yK (xc (cv 1) xf))))) (xc (xA (cv 0) rfl) xf))) (xc (xB (xgv T) (hr.mono (by decide)) (by rfl) T.xhJ T.q23.kp T.xhI .nil xu (xc (xy xfD (xY (xc xk xf)) (cv 2)) (xc (xA (cv 0) rfl) xf))) xf))) rfl)
  (xh (yt (cv 0) (xY (xc (xI xZ (by rfl) T.q1Z yK (xc (cv 1) xf)) (xc xk xf))) rfl)
  (xh (yt (cv 0) (xY (xc xG (xc xG xf))) rfl)
  (xh (yt (cv 0) (xoN (xiF xG xk (xiF xG xk xoM)) rfl rfl (by simp) (by decide)) rfl)
  (xm (yt (cv 0) yi rfl))))))))),?_⟩
  walk_at"w";refine⟨l,_,rfl,.inl (SqL.of hl),?_⟩;rw[ai];walk_at"w";refine⟨fun c=>?_,fun c=>?_⟩
  ·walk_at"w";exact⟨by decide,q1 (of_decide_eq_true c) H (xg.refl _)⟩
  have hts:(text.length:Int)≤size:=by have:¬size<(text.length:Int):=of_decide_eq_false c;lia
  have q2:=q2 hts;walk_at"w";intro pp pd hpp hpd npd;have up:∀{b:Addr} {u:HO},H b=some u→upd (upd H pd (.own pp)) pp (.ins a.q0s pd []) b=some u:=fun e=>by rw[xr (xF e hpp),xr (xF e hpd)];exact e
  refine⟨pp,pd,.non,rfl,xt,rfl,?_⟩;rw[zq];generalize hU1:upd (upd H pd (.own pp)) pp _=H1;have s1:xg H H1:=by
   rw[←hU1];exact fun b u e=>by rw[xr (xF e hpp),xr (xF e hpd)];exact e
  have ep1:H1 pp=some (.ins a.q0s pd (uK 0 .non)):=by rw[←hU1,xt]
  clear hU1 up;walk_at"w";refine⟨bd,_,dx,_,rfl,s1.at hbd,T.q0c,T.q2V,by walk_at"few",?_⟩;walk_at"w";refine⟨bd,_,dx,_,rfl,xt,T.q0c,T.q30,by walk_at"few",?_⟩;rw[zq];have npb:bd≠pp:=xF hbd hpp;generalize hU2:upd H1 bd _=H2;have k2:Kp [bd] H H2:=by rw[←hU2];exact(Kp.of s1).wr (by simp)
  have eb2:H2 bd=some (.ins a.q0d dx [("pen",.ref pp),("size",.int size)]):=by rw[←hU2,xt];rfl
  have ep2:H2 pp=some (.ins a.q0s pd (uK 0 .non)):=by rw[←hU2,xr (au npb)];exact ep1
  clear hU2;have nlb:l≠bd:=fun z=>by rw[z,hbd]at hl;cases hl
  have hl2:H2 l=some (.lst (text.map V.int)):=k2 _ _ hl (by simp[nlb]);walk_at"w";refine⟨l,_,rfl,.inl (SqL.of hl2),?_⟩;intro c1 hc1;generalize hUc1:upd H2 c1 _=H3;have sH3:=xg.of_eq hc1 hUc1;have ec1:=xj hUc1;clear hUc1;walk_at"w";walk_at"ss";intro c2 hc2;generalize hUc2:upd H3 c2 _=H4;have sH4:=xg.of_eq hc2 hUc2;have ec2:=xj hUc2;clear hUc2;walk_at"w";refine⟨l,_,rfl,.inl (SqL.of ((sH3.trans sH4).at hl2)),?_⟩;rw[ai];walk_at"w";refine⟨c2,size - text.length,_,rfl,rfl,ec2,by lia,by lia,(by show 1*_≤_;rw[a6];lia),?_⟩;intro c3 hc3;generalize hUc3:upd H4 c3 _=H5;have sH5:=xg.of_eq hc3 hUc3;have ec3:=xj hUc3;clear hUc3;walk_at"w";refine⟨c1,c3,_,_,rfl,rfl,(sH4.trans sH5).at ec1,ec3,(by simp[a6];lia),?_⟩;intro c4 hc4;generalize hUc4:upd H5 c4 _=H6;have sH6:=xg.of_eq hc4 hUc4;have ec4:=xj hUc4;clear hUc4;walk_at"w";have s26:=sH3.trans (sH4.trans (sH5.trans sH6));refine⟨bd,_,dx,_,.ref pp,rfl,s26.at eb2,T.q0c,T.q2V,rfl,?_⟩;walk_at"w";have ec4':H6 c4=some (.lst ((text++aD (size - text.length).toNat 0).map V.int)):=by rw[ec4];simp
  refine⟨c4,pp,pd,_,0,rfl,ec4',s26.at ep2,fun S0 H7 e1 e2 s7 f1 f2 f3 hS0=>?_⟩;walk_at"w";walk_at"ss";intro c5 hc5;generalize hUc5:upd H7 c5 _=H8;have sH8:=xg.of_eq hc5 hUc5;have ec5:=xj hUc5;clear hUc5;walk_at"w";refine⟨c5,size,_,rfl,rfl,ec5,by lia,by lia,(by show 1*_≤_;rw[a6];lia),?_⟩;intro c6 hc6;generalize hUc6:upd H8 c6 _=H9;have sH9:=xg.of_eq hc6 hUc6;have ec6:=xj hUc6;clear hUc6;walk_at"w";have s29:=s26.trans (s7.trans (sH8.trans sH9));refine⟨bd,_,dx,_,.ref pp,rfl,s29.at eb2,T.q0c,T.q2V,rfl,?_⟩;walk_at"w";have ec6':H9 c6=some (.lst ((aD size.toNat (0:Int)).map V.int)):=by rw[ec6];simp
  refine⟨c6,pp,pd,_,0,rfl,ec6',s29.at ep2,fun S1 H10 g1 g2 s10 h1 h2 h3 hS1=>?_⟩;walk_at"w";walk_at"ss";intro bl hbl;generalize hUbl:upd H10 bl _=H11;have sH11:=xg.of_eq hbl hUbl;have ebl:=xj hUbl;clear hUbl;walk_at"w";have s211:=s29.trans (s10.trans sH11);have hS0':=hS0.same (sH8.trans (sH9.trans (s10.trans sH11)));have hS1':=hS1.same sH11;refine⟨bd,_,dx,_,rfl,s211.at eb2,T.q0c,T.q2U,by walk_at"few",?_⟩;generalize hU12:upd H11 bd _=H12;have k12:Kp [bd] H11 H12:=by rw[←hU12];exact(Kp.of (xg.refl _)).wr (by simp)
  have eb12:H12 bd=some (.ins a.q0d dx [("pen",.ref pp),("size",.int size),("banks",.ref bl)]):=by rw[←hU12,xt];rfl
  clear hU12;have hl12:H12 l=some (.lst (text.map V.int)):=k12 _ _ (s211.at hl2) (by simp[nlb]);walk_at"w";refine⟨l,_,rfl,.inl (SqL.of hl12),?_⟩;rw[ai];walk_at"w";walk_at"ss";intro le hle;generalize hUle:upd H12 le _=H13;have sH13:=xg.of_eq hle hUle;have ele:=xj hUle;clear hUle;walk_at"w";refine⟨bd,_,dx,_,rfl,sH13.at eb12,T.q0c,T.q1f,by walk_at"few",?_⟩;generalize hU14:upd H13 bd _=H14;have k14:Kp [bd] H13 H14:=by rw[←hU14];exact(Kp.of (xg.refl _)).wr (by simp)
  have eb14:H14 bd=some (.ins a.q0d dx [("pen",.ref pp),("size",.int size),("banks",.ref bl),("lengths",.ref le)]):=by rw[←hU14,xt];rfl
  clear hU14;walk_at"w";walk_at"ss";intro ma hma;generalize hUma:upd H14 ma _=H15;have sH15:=xg.of_eq hma hUma;have ema:=xj hUma;clear hUma;walk_at"w";refine⟨bd,_,dx,_,rfl,sH15.at eb14,T.q0c,T.q0n,by walk_at"few",?_⟩;generalize hU16:upd H15 bd _=H16;have k16:Kp [bd] H15 H16:=by rw[←hU16];exact(Kp.of (xg.refl _)).wr (by simp)
  have eb16:H16 bd=some (.ins a.q0d dx [("pen",.ref pp),("size",.int size),("banks",.ref bl),("lengths",.ref le),("marks",.ref ma)]):=by rw[←hU16,xt];rfl
  clear hU16;walk_at"w";intro se hse;walk_at"w";refine a7 xt ⟨xfq false 0,rfl,by decide,?_⟩;rw[zq,show xch [] (xfq false 0)=xfq false 0 from by decide];generalize hUs:upd H16 se _=H17;have sH17:=xg.of_eq hse hUs;have ese:=xj hUs;clear hUs;walk_at"w";refine⟨bd,_,dx,_,rfl,sH17.at eb16,T.q0c,T.q0o,by walk_at"few",?_⟩;generalize hU18:upd H17 bd _=H18;have k18:Kp [bd] H17 H18:=by rw[←hU18];exact(Kp.of (xg.refl _)).wr (by simp)
  have eb18:H18 bd=some (.ins a.q0d dx [("pen",.ref pp),("size",.int size),("banks",.ref bl),("lengths",.ref le),("marks",.ref ma),("settings",.ref se)]):=by rw[←hU18,xt];rfl
  clear hU18;walk_at"w";refine⟨bd,_,dx,_,rfl,eb18,T.q0c,T.q0m,by walk_at"few",?_⟩;generalize hU19:upd H18 bd _=H19;have k19:Kp [bd] H18 H19:=by rw[←hU19];exact(Kp.of (xg.refl _)).wr (by simp)
  have eb19:H19 bd=some (.ins a.q0d dx [("pen",.ref pp),("size",.int size),("banks",.ref bl),("lengths",.ref le),("marks",.ref ma),("settings",.ref se),("running",.non)]):=by rw[←hU19,xt];rfl
  clear hU19;have nn:∀{G:Hp} {x y:Addr} {u:HO},G x=none→G y=some u→x≠y:=fun h1 h2 z=>by rw[z,h2]at h1;cases h1
  have k1119:Kp [bd] H11 H19:=k12.trans ((Kp.of sH13).trans (k14.trans ((Kp.of sH15).trans (k16.trans ((Kp.of sH17).trans (k18.trans k19))))));have k219:Kp [bd] H2 H19:=(Kp.of s211).trans k1119;have n0:S0.st≠bd:=nn f1 (s26.at eb2);have n1:S1.st≠bd:=nn h1 (s29.at eb2);have b0:∀{G:Hp} {x:Addr} {xs:List V},G bd=some (.ins a.q0d dx [("pen",.ref pp),("size",.int size)])→G x=some (.lst xs)→x≠bd:=fun e1 e2 z=>by rw[z,e1]at e2;cases e2
  have m0:=b0 (s211.at eb2) hS0'.ca;have m1:=b0 (s211.at eb2) hS0'.na;have m2:=b0 (s211.at eb2) hS1'.ca;have m3:=b0 (s211.at eb2) hS1'.na;have m4:=b0 (s211.at eb2) ebl;have d0:∀x∈[bd],x≠S0.st∧x≠S0.ca∧x≠S0.na∧x≠S0.p:=fun x hx=>by
   rw[ao.mp hx,e1];exact⟨au n0,au m0,au m1,npb⟩
  have d1:∀x∈[bd],x≠S1.st∧x≠S1.ca∧x≠S1.na∧x≠S1.p:=fun x hx=>by
   rw[ao.mp hx,g1];exact⟨au n1,au m2,au m3,npb⟩
  have kk:∀{x:Addr} {u:HO},H11 x=some u→x≠bd→H12 x=some u:=fun e n=>k12 _ _ e (by simp[n]);have kk4:∀{x:Addr} {u:HO},H11 x=some u→x≠bd→H14 x=some u:=fun e n=>k14 _ _ (sH13.at (kk e n)) (by simp[n]);have nle:le≠bd:=nn hle eb12;have nma:ma≠bd:=nn hma eb14;have nse:se≠bd:=nn hse eb16;have ele14:H14 le=some (.lst [.int text.length,.int 0]):=k14 _ _ ele (by simp[nle]);have ele16:=k16 _ _ (sH15.at ele14) (by simp[nle]);have ema16:=k16 _ _ ema (by simp[nma]);have bb9:H9 S0.ca=some _:=(sH8.trans sH9).at hS0.ca;have bb8:H9 S0.na=some _:=(sH8.trans sH9).at hS0.na;have kb:∀{G:Hp} {y:Addr},Kp [bd] H G→G y=none→y=bd∨H y=none:=fun{G y} k e=>by
   by_cases z:y=bd
   ·exact .inl z
   ·right
    cases hh:H y with
    |none=>rfl
    |some u=>rw[k _ _ hh (by simp[z])]at e;cases e
  have k212:Kp [bd] H H12:=(k2.trans (Kp.of s211)).trans k12;have k214:Kp [bd] H H14:=(k212.trans (Kp.of sH13)).trans k14;have k216:Kp [bd] H H16:=(k214.trans (Kp.of sH15)).trans k16;have fr:∀y∈[bd,le,ma,se,pp,S0.ca,S0.na,S1.ca,S1.na],y=bd∨H y=none:=fun y hy=>by
   simp only[aq,aR,or_false]at hy;rcases hy with rfl|rfl|rfl|rfl|rfl|rfl|rfl|rfl|rfl
   ·exact .inl rfl
   ·exact kb k212 hle
   ·exact kb k214 hma
   ·exact kb k216 hse
   ·exact .inr hpp
   ·exact kb (k2.trans (Kp.of s26)) f2
   ·exact kb (k2.trans (Kp.of s26)) f3
   ·exact kb (k2.trans (Kp.of s29)) h2
   ·exact kb (k2.trans (Kp.of s29)) h3
  refine q2 ⟨bd,dx,pp,pd,bl,le,ma,se,fun b=>match b with|false=>S0|true=>S1⟩ H19 rfl (k2.trans k219) fr ⟨eb19,?_,?_,?_,?_,?_,?_,?_,?_⟩
  ·exact k1119 _ _ ebl (by simp[m4])
  ·exact k19 _ _ (k18 _ _ (sH17.at ele16) (by simp[nle])) (by simp[nle])
  ·exact k19 _ _ (k18 _ _ (sH17.at ema16) (by simp[nma])) (by simp[nma])
  ·exact k19 _ _ (k18 _ _ ese (by simp[nse])) (by simp[nse])
  ·intro b;cases b
   ·exact hS0'.kp0 k1119 d0
   ·exact hS1'.kp0 k1119 d1
  ·intro b;cases b
   ·exact⟨e1,e2⟩
   ·exact⟨g1,g2⟩
  ·simp only[bh,aq,aR,or_false,not_or,not_false_eq_true,cM,and_true];have q0:=hS0.same (sH8.trans (sH9.trans s10));exact⟨⟨au (nn hle (kk ebl m4)),au (nn hma (kk4 ebl m4)),nn hbl q0.ca,nn hbl q0.na,nn hbl hS1.ca,nn hbl hS1.na⟩,⟨au (nn hma ele14),nn hle (kk hS0'.ca m0),nn hle (kk hS0'.na m1),nn hle (kk hS1'.ca m2),nn hle (kk hS1'.na m3)⟩,⟨nn hma (kk4 hS0'.ca m0),nn hma (kk4 hS0'.na m1),nn hma (kk4 hS1'.ca m2),nn hma (kk4 hS1'.na m3)⟩,⟨hS0.ne,au (nn h2 bb9),au (nn h3 bb9)⟩,⟨au (nn h2 bb8),au (nn h3 bb8)⟩,hS1.ne⟩
  ·simp only[bh,aq,aR,or_false,not_or,not_false_eq_true,cM,and_true];exact⟨⟨au n0,au n1,npb⟩,⟨au (nn h1 ((sH8.trans sH9).at hS0.st)),nn f1 (s26.at ep2)⟩,nn h1 (s29.at ep2)⟩
end
section
variable {P:av} {w:World} {K:ag} {mg:Str→Option Value} {base:Heap} {a:Adr}
def Sg(x:Int):Prop:=(x.natAbs:Int)<10^60
def xpD:Sp:=fun vs H Q _=>∃c n:Int,vs=[.int c,.int n]∧0≤n∧n≤100∧∀(l:Addr) (xs:List Int) (H':Hp),xg H H'→H l=none→H' l=some (.lst (xs.map V.int))→xs.length=n.toNat→(∀x∈xs,Sg x)→Q (.ref l) H'
theorem xkP(T:Txt K mg a):xE P w K mg base CX0 2 a.q5i a.xiR ["_law_cell","_law_size"] xpD:=by
 refine T.q41.ok xkF (fun vs H Q E h=>?_) (fun cdv A outer s H vs Q E hr h=>?_)
 ·obtain⟨c,n,rfl,_⟩:=h;rfl
 ·obtain⟨c,n,rfl,h0,h1,q⟩:=h;have nd:=xkF.nd;refine⟨_,(xh (xD (i:=2) nd rfl (bT rfl) (xY (xc xk (xc (xy xio xk xk) (xc (xy xio xk xk) (xc (xy xio xk xk) xf))))))
  (xm (xw (uu (uW (cap:=[0,2]) (ys:=["_law_cell","_law_sizes"]) rfl rfl rfl rfl rfl ⟨⟨rfl,rfl,.inl rfl⟩,⟨⟨rfl,rfl,.inl rfl⟩,trivial⟩⟩ (by decide+kernel)) rfl (zR (by rfl) T.q1j (xc (cv 1) xf)) (fun _ _ _ _=>(xy xet (xy yw (xy zo (xB (ug T) (hr.mono (by decide)) (by rfl) T.vw T.q1L.kp T.vt .nil xu (xc (cv 1) (xc (cv 0) xf))) xk) xk) (xC (xa4 (K:=K) rfl) (cv 2) (xy zo (xB (ug T) (hr.mono (by decide)) (by rfl) T.vw T.q1L.kp T.vt .nil xu (xc (cv 1) (xc (xy yv (cv 0) xk) xf))) xk) (fun _ _=>rfl)))) (fun _ _ _ _=>ur))))),?_⟩
  walk_at"w";refine a7 ⟨by decide,by decide,by decide⟩ ?_;walk_at"w";refine a7 ⟨by decide,by decide,by decide⟩ ?_;walk_at"w";refine a7 ⟨by decide,by decide,by decide⟩ ?_;walk_at"w";walk_at"ss";intro zl hzl;generalize hUzl:upd H zl _=H1;have sH1:=xg.of_eq hzl hUzl;have ezl:=xj hUzl;clear hUzl;walk_at"w";have en:yy 0 n 1=n.toNat:=by rw[zV];lia
  rw[en];refine xdM (fun i acc _=>∃xs:List Int,acc=xs.map V.int∧xs.length=i∧∀x∈xs,Sg x) (by rw[a6];lia) ⟨[],rfl,rfl,by simp⟩ (fun i acc H3 H3' hi s3 s3' hP R hR=>?_) (fun D acc H3 H3' hD hD3 s3 s3' hP hacc hv=>?_)
  ·obtain⟨xs,rfl,hl,hx⟩:=hP;generalize 0+(i:Int)*1=k;walk_at"w";refine⟨c,k,rfl,?_⟩;walk_at"w";walk_at"ss";refine⟨c,k+50,rfl,?_⟩;walk_at"w";walk_at"ss";obtain⟨j,ej,hj⟩:∃j:Nat,mixed c (k+50)%4=(j:Int)∧j<4:=⟨(mixed c (k+50)%4).toNat,by lia,by lia⟩;obtain⟨z,hz,hz0,hz1⟩:∃z:Int,atI [V.int 1,V.int (10^(Int.toNat 9)),V.int (10^(Int.toNat 30)),V.int (10^(Int.toNat 50))] (mixed c (k+50)%4)=some (.int z)∧0≤z∧z≤10^50:=by
    rw[ej]
    match j,hj with
    |0,_=>exact⟨_,rfl,by decide,by decide⟩
    |1,_=>exact⟨_,rfl,by decide,by decide⟩
    |2,_=>exact⟨_,rfl,by decide,by decide⟩
    |3,_=>exact⟨_,rfl,by decide,by decide⟩
   refine⟨zl,_,_,.int z,rfl,rfl,SqL.of ((s3.trans s3').at ezl),hz,?_⟩;walk_at"w";have hm: -2≤mixed c k%5 - 2∧mixed c k%5 - 2≤2:=by lia
   generalize mixed c k%5 - 2=m at hm;refine a7 (.inl ⟨by lia,by lia⟩) ?_;refine hR _ H3' (xg.refl _) fun H6 _ _=>⟨xs++[m*z],by rw[bN];rfl,by simp[hl],fun x hx'=>?_⟩;rcases aV.mp hx' with h|h
   ·exact hx x h
   ·rw[ao.mp h];unfold Sg;rw[Int.natAbs_mul];have e1:m.natAbs≤2:=by lia
    have e2:z.natAbs≤10^50:=by lia
    have:=Nat.mul_le_mul e1 e2;lia
  ·obtain⟨xs,rfl,hl,hx⟩:=hP;exact q D xs H3' (sH1.trans (s3.trans s3')) (sH1.back hD) hv hl hx
end
section
variable {P:av} {w:World} {K:ag} {mg:Str→Option Value} {base:Heap} {a:Adr}
inductive NP(old:Int):Int→Int→List xq→Prop
 |no (o:Int) (ho:o=0∨o=old):NP old o 0 []
 |put (o:Int) (sg:List Int) (ho:o=0∨o=old) (h1:1≤sg.length) (h8:sg.length≤8) (hs:∀x∈sg,Sg x):NP old o sg.length [.put 0 sg]
 |take (to st c:Int) (sg:List Int) (h8:sg.length≤8) (hs:∀x∈sg,Sg x) (h0:0≤to) (h1:0≤st) (h2:1≤c) (h3:st+c≤old) (h4:to+c≤sg.length):
   NP old old sg.length (.take to st c::((if 0<to then[.put 0 (sg.take to.toNat)]else[])++(if to+c<sg.length then[.put (to+c) (sg.drop (to+c).toNat)]else[])))
def xjw(K:ag):Sp:=fun vs H Q _=>∃old cell:Int,vs=[.int old,.int cell]∧0≤old∧old≤100∧∀(p:Addr) (o n:Int) (rs:List xq) (H':Hp),xg H H'→jH K H' p o n rs→NP old o n rs→Q (.ref p) H'
theorem xjx(T:Txt K mg a):xE P w K mg base CX0 3 a.q2B a.xcc ["_law_old","_law_cell"] (xjw K):=by
 refine T.q2G.ok xee (fun vs H Q E h=>?_) (fun cdv A outer s H vs Q E hr h=>?_)
 ·obtain⟨old,cell,rfl,_⟩:=h;rfl
 ·obtain⟨old,c,rfl,h0,h1,q⟩:=h;have nd:=xee.nd;refine⟨_,(xh (jZ (i:=2) nd rfl (az rfl) (xy zo (xB (ug T) (hr.mono (by decide)) (by rfl) T.vw T.q1L.kp T.vt .nil xu (xc (cv 1) (xc xk xf))) xk))
  (xh (jZ (i:=3) nd rfl (az rfl) (xB (xkP T) (hr.mono (by decide)) (by rfl) T.xmE T.q41.kp T.xmD .nil xu (xc (cv 1) (xc (cv 2) xf))))
  (xh (jZ (i:=4) nd rfl (az rfl) xk)
  (xh (zu (xM (PW.pt (xdF (xO xbU (cv 0) xk) (xce (xO xbU (cv 2) xk)))) (xm (jZ (i:=4) nd rfl (az rfl) (xy zo (xB (ug T) (hr.mono (by decide)) (by rfl) T.vw T.q1L.kp T.vt .nil xu (xc (cv 1) (xc xk xf))) (xy yv (xI (xfQ rfl) (by rfl) T.q5N xfN (xc (cv 0) (xc (cv 2) xf))) xk)))) xx))
  (xh (xM (xO yJ (cv 4) xk) (xh (jZ (i:=5) nd rfl (az rfl) (jK xaW (xY (xc (xH (xc xG (xc xk (xc (yd yU (by rfl) T.q2n zB (xc (cv 3) xf)) xf)))) xf)) xaU (xaV (xI (xfQ rfl) (by rfl) T.q5N xfN (xc xk (xc (cv 2) xf))))))
  (xm (xw (xH (xc (xy xet (cv 0) (xy zo (xB (ug T) (hr.mono (by decide)) (by rfl) T.vw T.q1L.kp T.vt .nil xu (xc (cv 1) (xc xk xf))) xk)) (xc (cv 2) (xc (yd yU (by rfl) T.q2n zB (xc (cv 5) xf)) xf))))))) xx)
  (xh (jZ (i:=6) nd rfl (az rfl) (xy zo (xB (ug T) (hr.mono (by decide)) (by rfl) T.vw T.q1L.kp T.vt .nil xu (xc (cv 1) (xc xk xf))) (xy yv (xy yw (cv 0) (cv 4)) xk)))
  (xh (jZ (i:=7) nd rfl (az rfl) (xy zo (xB (ug T) (hr.mono (by decide)) (by rfl) T.vw T.q1L.kp T.vt .nil xu (xc (cv 1) (xc xk xf))) (xy yv (xy yw (cv 2) (cv 4)) xk)))
  (xh (jZ (i:=5) nd rfl (az rfl) (xY (xc (xH (xc xG (xc (cv 7) (xc (cv 6) (xc (cv 4) xf))))) xf)))
  (xh (zu (xM (xO xbU (cv 7) xk) (xm (xR (xfB PySem.F.plainAttrs_list PySem.F.slot_list_append PySem.F.type_list_append jY (cv 5) (xc (xH (xc xG (xc xk (xc (yd yU (by rfl) T.q2n zB (xc (jK xaW (cv 3) xaU (xaV (cv 7))) xf)) xf)))) xf)))) xx))
  (xh (zu (xM (xO xgG (xy yv (cv 7) (cv 4)) (cv 2)) (xm (xR (xfB PySem.F.plainAttrs_list PySem.F.slot_list_append PySem.F.type_list_append jY (cv 5) (xc (xH (xc xG (xc (xy yv (cv 7) (cv 4)) (xc (yd yU (by rfl) T.q2n zB (xc (jK xaW (cv 3) (xaV (xy yv (cv 7) (cv 4))) xaU) xf)) xf)))) xf)))) xx))
  (xm (xw (xH (xc (cv 0) (xc (cv 2) (xc (yd yU (by rfl) T.q2n zB (xc (cv 5) xf)) xf)))))))))))))))),?_⟩
  walk_at"w";refine⟨c,1,rfl,?_⟩;walk_at"w";walk_at"ss";refine xci fun n hn=>?_;walk_at"w";have hn8:0≤n∧n≤8:=by lia
  clear hn;refine⟨c,n,rfl,hn8.1,by lia,fun sl sg H1 s1 hsl esl hlen hsg=>?_⟩;refine xgH ?_;walk_at"w";refine xci fun k0 hk0=>?_;walk_at"w";subst hk0;refine⟨fun σ' G=>∃k:Int,σ'=[some (.int old),some (.int c),some (.int n),some (.ref sl),some (.int k),none,none,none]∧xg H1 G∧0≤k∧k≤old∧k≤n,?_,?_⟩
  ·walk_at"w";refine⟨fun b=>?_,fun b=>?_⟩
   ·have b:=of_decide_eq_true b;walk_at"w";refine⟨fun b2=>?_,fun b2=>?_⟩
    ·have b2:=of_decide_eq_true b2;walk_at"w";refine⟨c,2,rfl,?_⟩;walk_at"w";refine a7 (show(0:Int)<min old n+1 by lia) ?_;refine xci fun k hk=>?_;walk_at"w";have e1:=fM (mixed c 2) (b:=min old n+1) (by lia);have e2:=eU (mixed c 2) (b:=min old n+1) (by lia);exact⟨k,rfl,xg.refl _,by lia,by lia,by lia⟩
    ·walk_at"w";exact⟨0,rfl,xg.refl _,by lia,by lia,by lia⟩
   ·walk_at"w"
    first|exact⟨0,rfl,xg.refl _,by lia,by lia,by lia⟩|(refine⟨by walk_at"no",fun _=>?_⟩;exact⟨0,rfl,xg.refl _,by lia,by lia,by lia⟩)
  rintro σ' G ⟨k,rfl,sG,k0,k1,k2⟩;have es:=sG.at esl;have s1G:=s1.trans sG;walk_at"w";refine⟨fun b=>?_,fun b=>?_⟩
  ·have b:=of_decide_eq_true b;walk_at"w";refine⟨sl,_,rfl,.inl ⟨SqL.of es,?_⟩⟩;intro tu htu;generalize hUtu:upd G tu _=G1;have sG1:=xg.of_eq htu hUtu;have etu:=xj hUtu;clear hUtu;walk_at"w";walk_at"ss";intro t0 ht0;generalize hUt0:upd G1 t0 _=G2;have sG2:=xg.of_eq ht0 hUt0;have et0:=xj hUt0;clear hUt0;walk_at"w";walk_at"ss";intro rl hrl;generalize hUrl:upd G2 rl _=G3;have sG3:=xg.of_eq hrl hUrl;have erl:=xj hUrl;clear hUrl;walk_at"w";refine⟨_,rfl,?_⟩;walk_at"w";refine⟨rl,_,rfl,SqL.of erl,?_⟩;rw[show min (1:Int) n=((min 1 n.toNat:Nat):Int)by lia,xhi];intro r2 hr2;generalize hUr2:upd G3 r2 _=G4;have sG4:=xg.of_eq hr2 hUr2;have er2:=xj hUr2;clear hUr2;walk_at"w";refine xgH ?_;walk_at"w";refine⟨c,3,rfl,?_⟩;walk_at"w";walk_at"ss";have hm:mixed c 3%2=0∨mixed c 3%2=1:=by lia
   refine⟨r2,_,rfl,.inl ⟨SqL.of er2,?_⟩⟩;intro tt htt;generalize hUtt:upd G4 tt _=G5;have sG5:=xg.of_eq htt hUtt;have ett:=xj hUtt;clear hUtt;walk_at"w";walk_at"ss";intro p hp;generalize hUp:upd G5 p _=G6;have sG6:=xg.of_eq hp hUp;have ep:=xj hUp;clear hUp;walk_at"w";have ep':G6 p=some (.tup [.int (old*(mixed c 3%2)),.int n,.ref tt]):=ep;generalize mixed c 3%2=m at hm ep';have hom:old*m=0∨old*m=old:=by rcases hm with rfl|rfl<;> simp
   have sA:xg H G6:=s1G.trans (sG1.trans (sG2.trans (sG3.trans (sG4.trans (sG5.trans sG6)))));have ett':=sG6.at ett;have et0':=(sG3.trans (sG4.trans (sG5.trans sG6))).at et0;have etu':=(sG2.trans (sG3.trans (sG4.trans (sG5.trans sG6)))).at etu
   by_cases z:n=0
   ·subst z;exact q p (old*m) 0 [] G6 sA ⟨tt,[],ep',by rw[ett'];rfl,.nil⟩ (.no _ hom)
   ·have en:n=(sg.length:Int):=by lia
    refine q p (old*m) n [.put 0 sg] G6 sA ⟨tt,[t0],ep',by rw[ett',show min 1 n.toNat=1 by lia];rfl,.cons ⟨tu,et0',etu'⟩ .nil⟩ ?_;rw[en];exact .put _ sg hom (by lia) (by lia) hsg
  have b:=of_decide_eq_false b;walk_at"w";refine⟨c,4,rfl,?_⟩;walk_at"w";refine a7 (show(0:Int)<old - k+1 by lia) ?_;refine xci fun st hst=>?_;walk_at"w";have st0:=fM (mixed c 4) (b:=old - k+1) (by lia);have st1:=eU (mixed c 4) (b:=old - k+1) (by lia);rw[←hst]at st0 st1;clear hst;refine⟨c,5,rfl,?_⟩;walk_at"w";refine a7 (show(0:Int)<n - k+1 by lia) ?_;refine xci fun to hto=>?_;walk_at"w";have to0:=fM (mixed c 5) (b:=n - k+1) (by lia);have to1:=eU (mixed c 5) (b:=n - k+1) (by lia);rw[←hto]at to0 to1;clear hto;walk_at"ss";intro t0 ht0;generalize hUt0:upd G t0 _=G1;have sG1:=xg.of_eq ht0 hUt0;have et0:=xj hUt0;clear hUt0;walk_at"w";walk_at"ss";intro rl hrl;generalize hUrl:upd G1 rl _=G2;have sG2:=xg.of_eq hrl hUrl;have erl:=xj hUrl;clear hUrl;walk_at"w";refine xgH ?_;walk_at"w";refine⟨fun σ' G'=>σ'=[some (.int old),some (.int c),some (.int n),some (.ref sl),some (.int k),some (.ref rl),some (.int st),some (.int to)]∧xg G1 G'∧∃ts,G' rl=some (.lst (ts.map V.ref))∧ts.length≤2∧Paired (TupAt K G') ts (.take to st k::(if 0<to then[.put 0 (sg.take to.toNat)]else[])),?_,?_⟩
  ·walk_at"w";refine⟨fun c1=>?_,fun c1=>?_⟩
   ·have c1:=of_decide_eq_true c1;have cutE:xam (sg.map V.int) none (some to)=(sg.take to.toNat).map V.int:=by
     have e:to=(to.toNat:Int):=by lia
     rw[e,xhi,←List.map_take,←e]
    walk_at"w";refine a7 (.inl ⟨rfl,_,SqL.of erl⟩) ?_;walk_at"w";refine⟨_,rfl,?_⟩;walk_at"w";refine⟨sl,_,rfl,SqL.of ((sG1.trans sG2).at es),?_⟩;rw[cutE];intro cl hcl;generalize hUcl:upd G2 cl _=G3;have sG3:=xg.of_eq hcl hUcl;have ecl:=xj hUcl;clear hUcl;walk_at"w";refine⟨cl,_,rfl,.inl ⟨SqL.of ecl,?_⟩⟩;intro u1 hu1;generalize hUu1:upd G3 u1 _=G4;have sG4:=xg.of_eq hu1 hUu1;have eu1:=xj hUu1;clear hUu1;walk_at"w";walk_at"ss";intro t1 ht1;generalize hUt1:upd G4 t1 _=G5;have sG5:=xg.of_eq ht1 hUt1;have et1:=xj hUt1;clear hUt1;walk_at"w";have sA:=sG3.trans (sG4.trans sG5);refine⟨rl,_,_,rfl,rfl,sA.at erl,by simp[a6],?_⟩;have n1:t0≠rl:=fun z=>by rw[z]at et0;rw[et0]at hrl;cases hrl
    have n2:t1≠rl:=fun z=>by rw[z,(sG3.trans sG4).at erl]at ht1;cases ht1
    have n3:u1≠rl:=fun z=>by rw[z,sG3.at erl]at hu1;cases hu1
    refine⟨rfl,(sG2.trans sA).put hrl,[t0,t1],by rw[xt];rfl,by simp,?_⟩;rw[if_pos c1];exact .cons (by show upd _ rl _ t0=_;rw[xr n1];exact(sG2.trans sA).at et0) (.cons ⟨u1,by rw[xr n2];exact et1,by rw[xr n3];exact sG5.at eu1⟩ .nil)
   ·have c1:=of_decide_eq_false c1;walk_at"w";refine⟨rfl,sG2,[t0],erl,by simp,?_⟩;rw[if_neg c1];exact .cons (sG2.at et0) .nil
  rintro σ' G3 ⟨rfl,sG3,ts,ets,htl,hts⟩;have en:n=(sg.length:Int):=by lia
  have ss3:G3 sl=some (.lst (sg.map V.int)):=(sG1.trans sG3).at es;walk_at"w";refine⟨fun σ' G'=>σ'=[some (.int old),some (.int c),some (.int n),some (.ref sl),some (.int k),some (.ref rl),some (.int st),some (.int to)]∧xg G1 G'∧∃ts,G' rl=some (.lst (ts.map V.ref))∧ts.length≤3∧Paired (TupAt K G') ts (.take to st k::((if 0<to then[.put 0 (sg.take to.toNat)]else[])++(if to+k<sg.length then[.put (to+k) (sg.drop (to+k).toNat)]else[]))),?_,?_⟩
  ·walk_at"w";refine⟨fun c1=>?_,fun c1=>?_⟩
   ·have c1:to+k<n:=of_decide_eq_true c1;have cutE:xam (sg.map V.int) (some (to+k)) none=(sg.drop (to+k).toNat).map V.int:=by
     have e:to+k=((to+k).toNat:Int):=by lia
     rw[e,xhO,←List.map_drop,←e]
    walk_at"w";refine a7 (.inl ⟨rfl,_,SqL.of ets⟩) ?_;walk_at"w";refine⟨to+k,rfl,?_⟩;walk_at"w";refine⟨sl,_,rfl,SqL.of ss3,?_⟩;rw[cutE];intro cl hcl;generalize hUcl:upd G3 cl _=G4;have sG4:=xg.of_eq hcl hUcl;have ecl:=xj hUcl;clear hUcl;walk_at"w";refine⟨cl,_,rfl,.inl ⟨SqL.of ecl,?_⟩⟩;intro u1 hu1;generalize hUu1:upd G4 u1 _=G5;have sG5:=xg.of_eq hu1 hUu1;have eu1:=xj hUu1;clear hUu1;walk_at"w";walk_at"ss";intro t1 ht1;generalize hUt1:upd G5 t1 _=G6;have sG6:=xg.of_eq ht1 hUt1;have et1:=xj hUt1;clear hUt1;walk_at"w";have sA:=sG4.trans (sG5.trans sG6);refine⟨rl,_,_,rfl,rfl,sA.at ets,by rw[ai,a6];lia,?_⟩;have n2:t1≠rl:=fun z=>by rw[z,(sG4.trans sG5).at ets]at ht1;cases ht1
    have n3:u1≠rl:=fun z=>by rw[z,sG4.at ets]at hu1;cases hu1
    have et1':G6 t1=some (.tup [.str "put",.int (to+k),.ref u1]):=et1;refine⟨rfl,(sG3.trans sA).put hrl,ts++[t1],by rw[xt,bN];rfl,by simp;lia,?_⟩;rw[if_pos (show to+k<(sg.length:Int)by lia),←dv];exact jW (L2.Paired.imp' (fun _ _ z=>(z.same sA).off (sA.at ets)) hts) ⟨u1,by rw[xr n2];exact et1',by rw[xr n3];exact sG6.at eu1⟩
   ·have c1:¬to+k<n:=of_decide_eq_false c1;walk_at"w";refine⟨rfl,sG3,ts,ets,by lia,?_⟩;rw[if_neg (show¬to+k<(sg.length:Int)by lia),bZ];exact hts
  rintro σ' G4 ⟨rfl,sG4,us,eus,hul,hus⟩;walk_at"w";refine⟨rl,_,rfl,.inl ⟨SqL.of eus,?_⟩⟩;intro tt htt;generalize hUtt:upd G4 tt _=G5;have sG5:=xg.of_eq htt hUtt;have ett:=xj hUtt;clear hUtt;walk_at"w";walk_at"ss";intro p hp;generalize hUp:upd G5 p _=G6;have sG6:=xg.of_eq hp hUp;have ep:=xj hUp;clear hUp;walk_at"w";have sA:xg H G6:=s1G.trans (sG1.trans (sG4.trans (sG5.trans sG6)));refine q p old n _ G6 sA ⟨tt,us,ep,sG6.at ett,L2.Paired.imp' (fun _ _ z=>z.same (sG5.trans sG6)) hus⟩ ?_;rw[en];exact .take to st k sg (by lia) hsg (by lia) (by lia) (by lia) (by lia) (by lia)
end
section
variable {P:av} {w:World} {K:ag} {mg:Str→Option Value} {base:Heap} {a:Adr}
theorem jU{u:Nat→Nat→List Int}{d k j:Nat}{p:List Int}(h:(chs u d k)[j]? =some p):j<cN d k∧p=u k j:=by
 unfold chs at h;rw[aA]at h;obtain⟨i,hi,rfl⟩:=aJ.mp h;have hj:j<cN d k:=by
  have:=(ax.mp hi).1;simpa using this
 rw[fQ hj]at hi;cases hi;exact⟨hj,rfl⟩
theorem xbD{lo:Int}{n i:Nat}{d:Int}(h:(yx lo n)[i]? =some d):i<n∧d=lo+i:=by
 unfold yx at h;rw[aA]at h;obtain⟨j,hj,rfl⟩:=aJ.mp h;have hi:i<n:=by
  have:=(ax.mp hj).1;simpa using this
 rw[fQ hi]at hj;cases hj;exact⟨hi,rfl⟩
theorem xhT{lo x:Int}{n i:Nat}(h:x∈(yx lo n).take i):lo≤x∧x<lo+i:=by
 obtain⟨j,hj⟩:=bF.mp h;rw[dP]at hj
 split at hj
 ·have:=xbD hj;lia
 ·cases hj
theorem xjy{to:Int}{d k j:Nat}{x:Int}(h:x∈uch to d k j):to+(j*d:Nat)≤x∧x<to+(j*d:Nat)+d∧x<to+k:=by
 unfold uch at h;have:=yX.mp h;omega
theorem xgw{e:Int}{d k j:Nat}{x:Int}(h:x∈dch e d k j):e - ((j+1)*d:Nat)≤x∧x<e - (j*d:Nat)∧e - k≤x:=by
 unfold dch at h;have:=yX.mp h;have e1:(j+1)*d=j*d+d:=eP j d;omega
theorem xhU{xss:List (List Int)}{k:Nat}{x:Int}(h:x∈(xss.take k).flatten):∃j p,j<k∧xss[j]? =some p∧x∈p:=by
 obtain⟨p,hp,hx⟩:=dz.mp h;obtain⟨j,hj⟩:=bF.mp hp;rw[dP]at hj
 split at hj
 ·rename_i hlt;exact⟨j,p,hlt,hj,hx⟩
 ·cases hj
theorem xlM{to st c:Int}(hc:1≤c){k i:Nat}{p:List Int}{d x:Int}(hp:(yC to st c)[k]? =some p)(hd:p[i]? =some d)(hx:x∈((yC to st c).take k).flatten++p.take i):x≠st+d - to:=by
 unfold yC at hp hx
 split at hp
 ·simp at hp
 rename_i hne;rw[if_neg hne]at hx
 split at hp
 ·rename_i hlt;rw[if_pos hlt]at hx;obtain⟨hk,rfl⟩:=jU hp;unfold uch at hd;have h1:=xbD hd;rcases aV.mp hx with hx|hx
  ·obtain⟨j,q,hj,hq,hxq⟩:=xhU hx;obtain⟨_,rfl⟩:=jU hq;have h2:=xjy hxq;have h3:(j+1)*(st - to).toNat≤k*(st - to).toNat:=fL _ hj;have e1:(j+1)*(st - to).toNat=j*(st - to).toNat+(st - to).toNat:=eP _ _;omega
  ·have h2:=xhT hx;omega
 ·rename_i hlt;rw[if_neg hlt]at hx;obtain⟨hk,rfl⟩:=jU hp;unfold dch at hd;have h1:=xbD hd;have ek:(k+1)*(to - st).toNat=k*(to - st).toNat+(to - st).toNat:=eP _ _;rcases aV.mp hx with hx|hx
  ·obtain⟨j,q,hj,hq,hxq⟩:=xhU hx;obtain⟨_,rfl⟩:=jU hq;have h2:=xgw hxq;have h3:(j+1)*(to - st).toNat≤k*(to - st).toNat:=fL _ hj;omega
  ·unfold dch at hx;have h2:=xhT hx;omega
theorem xkQ{u:Nat→Nat→List Int}{d k j:Nat}(h:j<cN d k):u k j∈chs u d k:=cy.mpr ⟨j,dU.mpr h,rfl⟩
theorem xoy{d k m:Nat}(hd:0<d)(h:m<k):m / d<cN d k:=by
 unfold cN;rw[Nat.div_lt_iff_lt_mul hd];have h1:=ik (k+d - 1) d;have h2:=Nat.mod_lt (k+d - 1) hd;have e1:(k+d - 1) / d*d=d*((k+d - 1) / d):=gQ _ _;omega
theorem xgx{to st c:Int}(hc:1≤c){x:Int}:x∈(yC to st c).flatten↔st≠to∧to≤x∧x<to+c:=by
 unfold yC
 by_cases hne:st=to
 ·rw[if_pos hne];simp[hne]
 rw[if_neg hne]
 by_cases hlt:to<st
 ·rw[if_pos hlt,dz];constructor
  ·rintro⟨p,hp,hx⟩;obtain⟨j,hj⟩:=bF.mp hp;obtain⟨_,rfl⟩:=jU hj;have:=xjy hx;exact⟨hne,by omega,by omega⟩
  ·rintro⟨_,h1,h2⟩;have hd:0<(st - to).toNat:=by omega
   generalize (st - to).toNat=d at hd;have hm:=ik (x - to).toNat d;have hr:=Nat.mod_lt (x - to).toNat hd;have ec:(x - to).toNat / d*d=d*((x - to).toNat / d):=gQ _ _;refine⟨_,xkQ (xoy hd (show(x - to).toNat<c.toNat by omega)),?_⟩;unfold uch;rw[yX];omega
 ·rw[if_neg hlt,dz];constructor
  ·rintro⟨p,hp,hx⟩;obtain⟨j,hj⟩:=bF.mp hp;obtain⟨_,rfl⟩:=jU hj;have:=xgw hx;exact⟨hne,by omega,by omega⟩
  ·rintro⟨_,h1,h2⟩;have hd:0<(to - st).toNat:=by omega
   generalize (to - st).toNat=d at hd;have hm:=ik (to+c - 1 - x).toNat d;have hr:=Nat.mod_lt (to+c - 1 - x).toNat hd;have ec:(to+c - 1 - x).toNat / d*d=d*((to+c - 1 - x).toNat / d):=gQ _ _;have ed:((to+c - 1 - x).toNat / d+1)*d=(to+c - 1 - x).toNat / d*d+d:=eP _ _;refine⟨_,xkQ (xoy hd (show(to+c - 1 - x).toNat<c.toNat by omega)),?_⟩;unfold dch;rw[yX];omega
theorem xjz{to st c:Int}{p:List Int}(hp:p∈yC to st c):p.length≤(st - to).natAbs:=by
 unfold yC at hp
 split at hp
 ·simp at hp
 split at hp
 all_goals
  obtain⟨j,hj⟩:=bF.mp hp;obtain⟨_,rfl⟩:=jU hj
  first|unfold uch|unfold dch
  rw[yu];lia
theorem xn4{old new:Int}{L:Nat}{r:xq}{c:List Int}(hk:r.ok)(hs:Sm r)(hf:xrO old new r)(h1:old≤L)(h2:new≤L)(hc:c∈uv r):uw L (r,c):=by
 cases r with
 |take to st n=>
  obtain⟨k1,k2,k3⟩:=hk;obtain⟨s1,s2,s3⟩:=hs;obtain⟨f1,f2⟩:=hf;have hc:c∈yC to st n:=hc;have hl:=xjz hc;refine⟨⟨k1,k2,k3⟩,by show c.length≤300;lia,fun d hd=>?_⟩;have hm:=(xgx k3).mp (dz.mpr ⟨c,hc,hd⟩);exact⟨by lia,by lia,by lia,by lia⟩
 |put to sg=>
  have hk':=hk;obtain⟨k1,k2,k3,k4⟩:=hk;have s2:sg.length≤9:=hs.2;have f1:to+sg.length≤new:=hf;have hc:c∈[yx to sg.length]:=hc;rw[ao.mp hc];refine⟨hk',by show(yx to sg.length).length≤300;rw[yu];lia,fun d hd=>?_⟩;have hm:=yX.mp hd;exact⟨by lia,by lia,by lia,by lia⟩
theorem xpE(lo:Int)(n:Nat):(yx lo n).Pairwise (· < ·):=by
 rw[gD];intro i j hi hj hij;have h1:=xbD (aC hi);have h2:=xbD (aC hj);lia
theorem xjA{r:xq}{c:Int}:c∈r.cv↔r.to≤c∧c<r.to+r.cnt:=by
 cases r with
 |take to st n=>exact yX
 |put to sg=>exact yX
theorem xjB{r:xq}{c:Int}(h:c∈r.wrs):c∈r.cv:=by
 cases r with
 |take to st n=>
  simp only[xq.wrs]at h
  split at h
  ·cases h
  ·exact h
 |put to sg=>exact h
theorem xrk(r:xq):r.cv.Nodup:=by
 have h:∀lo n,(yx lo n).Nodup:=fun lo n=>(xpE lo n).imp (fun h=>by lia);cases r with
 |take to st n=>exact h _ _
 |put to sg=>exact h _ _
theorem Tl.facts{old at':Int}{rs:List xq}(h:Tl old rs at'):0≤at'∧(rs.map xq.cv).flatten.Nodup∧(∀x,x∈(rs.map xq.cv).flatten↔0≤x∧x<at')∧∀r∈rs,Good old r∧r.to+r.cnt≤at':=by
 induction h with
 |nil=>exact⟨fh _,cM,fun x=>⟨fun z=>by simp at z,fun z=>by lia⟩,fun r z=>by cases z⟩
 | @snoc rs at' n r _ hg ht hn ih=>
  obtain⟨h1,h2,h3,h4⟩:=ih;have e:((rs++[r]).map xq.cv).flatten=(rs.map xq.cv).flatten++r.cv:=by simp
  have hc:∀x,x∈r.cv↔at'≤x∧x<at'+n:=fun x=>by rw[xjA,ht,hn]
  refine⟨by lia,?_,fun x=>?_,fun s hs=>?_⟩
  ·rw[e,List.nodup_append];exact⟨h2,xrk r,fun x hx y hy=>by have:=(h3 x).mp hx;have:=(hc y).mp hy;lia⟩
  ·rw[e,aV,h3,hc];lia
  ·rcases aV.mp hs with hs|hs
   ·obtain⟨z1,z2⟩:=h4 s hs;exact⟨z1,by lia⟩
   ·rw[ao.mp hs];exact⟨hg,by lia⟩
theorem xkR:∀(l:List (Nat×Int)) (seen:List Int),(l.map iQ).Nodup→(∀x∈l.map iQ,x∉seen)→tw l seen=none
 |[],_,_,_=>rfl
 |(k,c)::r,seen,h1,h2=>by
  have h3:c∉r.map iQ∧(r.map iQ).Nodup:=bh.mp h1;have h4:c∉seen:=h2 c (by simp);show(if c∈seen then some (k,c)else tw r (c::seen))=none;rw[if_neg h4];refine xkR r (c::seen) h3.2 fun x hx z=>?_;rcases aq.mp z with rfl|z
  ·exact h3.1 hx
  ·exact h2 x (aQ _ hx) z
theorem xkS:∀(k:Nat) (xss:List (List Int)),(num k xss).map iQ=xss.flatten
 |_,[]=>rfl
 |k,cs::r=>by simp[num,xkS (k+1) r,ka]
def Dis(rs:List xq):Prop:=∀(i j:Nat) (r s:xq),rs[i]? =some r→rs[j]? =some s→∀c,c∈r.cv→c∈s.cv→i=j
theorem xqu{rs:List xq}(h:(rs.map xq.cv).flatten.Nodup):Dis rs:=by
 have h1:=(List.pairwise_flatten.mp h).2;rw[List.pairwise_map,gD]at h1;have key:∀(i j:Nat) (r s:xq),rs[i]? =some r→rs[j]? =some s→∀c,c∈r.cv→c∈s.cv→¬i<j:=by
  intro i j r s hi hj c hc1 hc2 hij;obtain⟨li,ei⟩:=ax.mp hi;obtain⟨lj,ej⟩:=ax.mp hj;exact h1 i j li lj hij c (by rw[ei];exact hc1) c (by rw[ej];exact hc2) rfl
 intro i j r s hi hj c hc1 hc2;have h2:=key i j r s hi hj c hc1 hc2;have h3:=key j i s r hj hi c hc2 hc1;lia
def Wr(wr:List Int)(rs:List xq)(k:Nat)(x:Int):Prop:=x∈wr∨∃j r,j<k∧rs[j]? =some r∧x∈r.wrs
theorem Wr.step{wr:List Int}{r:xq}{rs:List xq}{k:Nat}{x:Int}:Wr wr (r::rs) (k+1) x↔Wr (wr++r.wrs) rs k x:=by
 unfold Wr;constructor
 ·rintro(h|⟨j,s,h1,h2,h3⟩)
  ·exact .inl (a5 _ h)
  ·cases j with
   |zero=>cases h2;exact .inl (aY _ h3)
   |succ j=>exact .inr ⟨j,s,by lia,h2,h3⟩
 ·rintro(h|⟨j,s,h1,h2,h3⟩)
  ·rcases aV.mp h with h|h
   ·exact .inl h
   ·exact .inr ⟨0,r,by lia,rfl,h⟩
  ·exact .inr ⟨j+1,s,by lia,h2,h3⟩
theorem Wr.zero{wr:List Int}{rs:List xq}{x:Int}:Wr wr rs 0 x↔x∈wr:=⟨fun h=>h.elim id fun⟨_,_,z,_⟩=>absurd z (eI _),.inl⟩
theorem xgy:∀{rs:List xq} {n:Nat} {wr:List Int},uR n rs wr=none→∀k r,rs[k]? =some r→∀x∈r.rds,¬Wr wr rs k x
 |[],_,_,_,_,_,h,_,_=>by simp at h
 |r0::rs,n,wr,h,k,r,hr,x,hx=>by
  simp only[uR]at h
  split at h
  ·cases h
  ·rename_i hf;cases k with
   |zero=>
    cases hr;rw[Wr.zero];simpa using cT.mp hf x hx
   |succ k=>
    rw[Wr.step];exact xgy h k r hr x hx
theorem xhn{r:xq}(ok:r.ok){x:Int}:x∈(pcs r).flatten↔x∈r.wrs:=by
 cases r with
 |take to st c=>
  obtain⟨k1,k2,k3⟩:=ok;show x∈(yC to st c).flatten↔_;rw[xgx k3];simp only[xq.wrs]
  split
  ·rename_i h;simp[h]
  ·rename_i h;rw[yX,cH (by lia)];exact⟨fun z=>z.2,fun z=>⟨h,z⟩⟩
 |put to sg=>simp[pcs,xq.wrs]
structure xaR(es C0:List Int)(rs:List xq)(Cs:Nat→List Int):Prop where
 z:∃z:List Int,C0=es++z
 run:xow rs C0 Cs rs.length
 good:∀r∈rs,Good es.length r∧r.to+r.cnt≤C0.length
 dis:Dis rs
theorem xaR.keep{es C0:List Int}{rs:List xq}{Cs:Nat→List Int}(h:xaR es C0 rs Cs){x:Nat}(hx:x<C0.length):∀{k:Nat},k≤rs.length→¬Wr [] rs k x→(Cs k)[x]? =C0[x]?
 |0,_,_=>by rw[h.run.1]
 |k+1,hk,hw=>by
  obtain⟨r,hr⟩:∃r,rs[k]? =some r:=⟨_,aC (by lia)⟩;have ok:=(h.good r (aU hr)).1.1;have h1:=(h.run.2.2 k r (by lia) hr).2 x (by rw[h.run.2.1];exact hx);rw[h1,if_neg (fun z=>hw (.inr ⟨k,r,by lia,hr,(xhn ok).mp z⟩))];refine h.keep hx (by lia) fun z=>hw ?_;rcases z with z|⟨j,s,z1,z2,z3⟩
  ·cases z
  ·exact .inr ⟨j,s,by lia,z2,z3⟩
theorem xaR.wrote{es C0:List Int}{rs:List xq}{Cs:Nat→List Int}(h:xaR es C0 rs Cs){x:Nat}(hx:x<C0.length){j:Nat}{r:xq}(hr:rs[j]? =some r)(hw:(x:Int)∈r.wrs):∀{k:Nat},j<k→k≤rs.length→(Cs k)[x]? =xlF (Cs j) r x
 |0,z,_=>absurd z (eI _)
 |k+1,hj,hk=>by
  obtain⟨s,hs⟩:∃r,rs[k]? =some r:=⟨_,aC (by lia)⟩;have ok:=(h.good s (aU hs)).1.1;have h1:=(h.run.2.2 k s (by lia) hs).2 x (by rw[h.run.2.1];exact hx)
  by_cases e:j=k
  ·subst e;rw[hr]at hs;cases hs;rw[h1,if_pos ((xhn ok).mpr hw)]
  ·rw[h1,if_neg (fun z=>e (h.dis j k r s hr hs x (xjB hw) (xjB ((xhn ok).mp z))))];exact h.wrote hx hr hw (by lia) (by lia)
theorem xaR.told{es C0:List Int}{rs:List xq}{Cs:Nat→List Int}(h:xaR es C0 rs Cs){x:Nat}{j:Nat}{r:xq}(hr:rs[j]? =some r)(hw:(x:Int)∈r.wrs)(hno:∀y∈r.rds,¬Wr [] rs j y):xlF (Cs j) r x=(r.sg es)[((x:Int) - r.to).toNat]? :=by
 obtain⟨⟨ok,_,hin⟩,hto⟩:=h.good r (aU hr);obtain⟨z,hz⟩:=h.z;have hj:j<rs.length:=(ax.mp hr).1;cases r with
 |put to sg=>rfl
 |take to st c=>
  obtain⟨k1,k2,k3⟩:=ok;have hin:st+c≤es.length:=hin;simp only[xq.wrs]at hw
  split at hw
  ·cases hw
  rename_i hne;have hx:=yX.mp hw;have hy:st+x - to∈xq.rds (.take to st c):=by
   simp only[xq.rds];rw[if_neg hne];exact yX.mpr (by lia)
  have e1:((st+x - to).toNat:Int)=st+x - to:=by lia
  have h1:=h.keep (x:=(st+x - to).toNat) (by rw[hz,aW];lia) (dW hj) (by rw[e1];exact hno _ hy);show(Cs j)[(st+x - to).toNat]? =((es.drop st.toNat).take c.toNat)[((x:Int) - to).toNat]?;rw[h1,hz,bg (by lia),dP,if_pos (by lia),dO]
  congr 1;lia
theorem xaR.fine{es C0 nw:List Int}{rs:List xq}{Cs:Nat→List Int}(h:xaR es C0 rs Cs)(hl:vS rs=none)(hC:nw.length≤C0.length)(ht:∀r∈rs,Tells es nw r)(hc:∀j,j<nw.length→∃r∈rs,zO r j):(Cs rs.length).take nw.length=nw:=by
 have hno:=xgy (n:=0) (wr:=[]) hl;obtain⟨z,hz⟩:=h.z;have hzl:C0.length=es.length+z.length:=by rw[hz,aW]
 apply List.ext_getElem?;intro j;rw[dP]
 by_cases hj:j<nw.length
 ·rw[if_pos hj];obtain⟨r,hr,hcv⟩:=hc j hj;obtain⟨i,hi⟩:=bF.mp hr;have hil:i<rs.length:=(ax.mp hi).1;obtain⟨t1,t2,t3,t4⟩:=ht r hr;have hto:=t1.to;have e2:=t4 ((j:Int) - r.to).toNat (by have:=hcv.1;have:=hcv.2;lia);rw[show(r.to+(((j:Int) - r.to).toNat:Nat)).toNat=j by have:=hcv.1;lia]at e2;rw[e2]
  by_cases hw:(j:Int)∈r.wrs
  ·rw[h.wrote (by lia) hi hw hil (ar _),h.told hi hw (hno i r hi)]
  ·have hn:¬Wr [] rs rs.length (j:Int):=by
    rintro(z|⟨i',s,_,h2,h3⟩)
    ·cases z
    have:=h.dis i i' r s hi h2 j (xjA.mpr hcv) (xjB h3);subst this;rw[hi]at h2;cases h2;exact hw h3
   rw[h.keep (by lia) (ar _) hn];cases r with
   |put to sg=>exact absurd (yX.mpr hcv) hw
   |take to st c=>
    simp only[xq.wrs]at hw
    split at hw
    ·rename_i est;subst est;obtain⟨c1,c2⟩:=hcv;have c1:st≤(j:Int):=c1;have c2:(j:Int)<st+(c.toNat:Nat):=c2;have t2:st+c≤es.length:=t2;have hto:0≤st:=hto;show _=((es.drop st.toNat).take c.toNat)[((j:Int) - st).toNat]?;rw[hz,bg (by lia),dP,if_pos (by lia),dO]
     congr 1;lia
    ·exact absurd (yX.mpr hcv) hw
 ·rw[if_neg hj,cW (by lia)]
theorem Tl.nw{old at':Int}{rs:List xq}{es:List Int}(h:Tl old rs at')(he:(es.length:Int)=old):∃nw:List Int,(nw.length:Int)=at'∧∀r∈rs,Tells es nw r:=by
 induction h with
 |nil=>exact⟨[],rfl,fun r z=>by cases z⟩
 | @snoc rs at' n r h1 hg ht hn ih=>
  obtain⟨nw,i1,i2⟩:=ih;have fit:r.fits es:=by
   cases r with
   |put to sg=>trivial
   |take to st c=>have:=hg.2.2;have:st+c≤old:=this;show st+c≤_;lia
  have hsl:=xq.sg_len hg.1 fit;refine⟨nw++r.sg es,by rw[aW];lia,fun s hs=>?_⟩;rcases aV.mp hs with hs|hs
  ·obtain⟨t1,t2,t3,t4⟩:=i2 s hs;refine⟨t1,t2,by rw[aW];lia,fun i hi=>?_⟩;have:=t1.to;rw[bg (by lia)];exact t4 i hi
  ·rw[ao.mp hs];refine⟨hg.1,fit,by rw[aW];lia,fun i hi=>?_⟩;have h0:(r.to+i).toNat=nw.length+i:=by lia
   rw[h0,bw (by lia)]
   congr 1;lia
theorem xit{old new:Int}{rs rs0:List xq}{es:List Int}(hp:rs.Perm rs0)(h:Tl old rs0 new)(he:(es.length:Int)=old):∃nw:List Int,(nw.length:Int)=new∧(∀r∈rs,Tells es nw r)∧(∀j,j<nw.length→∃r∈rs,zO r j)∧(∀r∈rs,Good old r∧r.to+r.cnt≤new)∧Dis rs∧uk rs=none∧um rs new.toNat=none:=by
 obtain⟨nw,h1,h2⟩:=h.nw he;obtain⟨f1,f2,f3,f4⟩:=h.facts;have hpf:((rs.map xq.cv).flatten).Perm ((rs0.map xq.cv).flatten):=(hp.map xq.cv).flatten;have hnd:(rs.map xq.cv).flatten.Nodup:=hpf.nodup_iff.mpr f2;have hm:∀x,x∈(rs.map xq.cv).flatten↔0≤x∧x<new:=fun x=>by rw[hpf.mem_iff,f3]
 refine⟨nw,h1,fun r hr=>h2 r (hp.mem_iff.mp hr),fun j hj=>?_,fun r hr=>f4 r (hp.mem_iff.mp hr),xqu hnd,?_,?_⟩
 ·have:=(hm j).mpr ⟨by lia,by lia⟩;obtain⟨cs,hc1,hc2⟩:=dz.mp this;obtain⟨r,hr,rfl⟩:=cy.mp hc1;exact⟨r,hr,xjA.mp hc2⟩
 ·exact xkR _ _ (by rw[xkS];exact hnd) fun x _ z=>by cases z
 ·unfold um;rw[cT];intro c hc;obtain⟨i,hi,rfl⟩:=cy.mp hc;have:=dU.mp hi;simp only[gz,decide_eq_false_iff_not,Classical.not_not];exact(hm _).mpr (by lia)
theorem xmY{C cur:List Int}{r:xq}{D:List Int}{d:Int}(h:Part C r D cur)(hc:xcx r C.length d)(hs:∀to st c,r= .take to st c→st+d - to∉D):Part C r (D++[d]) (vT r cur d):=by
 obtain⟨hl,hv⟩:=h;obtain⟨h0,h1,h2⟩:=hc;have key:∀v:Int,xlF C r d=some v→vT r cur d=cur.set d.toNat v→Part C r (D++[d]) (vT r cur d):=fun v e1 e2=>by
  rw[e2];refine⟨by rw[eD];exact hl,fun j hj=>?_⟩;rw[List.getElem?_set]
  by_cases e:d.toNat=j
  ·have ej:(j:Int)=d:=by lia
   rw[if_pos e,if_pos (by lia),if_pos (aY _ (by simp[ej])),ej,e1]
  ·rw[if_neg e,hv j hj]
   by_cases hm:(j:Int)∈D
   ·rw[if_pos hm,if_pos (a5 _ hm)]
   ·rw[if_neg hm,if_neg];intro z;rcases aV.mp z with z|z
    ·exact hm z
    ·have:=ao.mp z;lia
 cases r with
 |take to st c=>
  obtain⟨h3,h4⟩:=h2;have hlt:(st+d - to).toNat<C.length:=by lia
  have e:=hv (st+d - to).toNat hlt;rw[cH h3,if_neg (hs to st c rfl),aC hlt]at e;refine key C[(st+d - to).toNat] (aC hlt) ?_;show cur.set d.toNat (cur.getD (st+d - to).toNat 0)=_;rw[c7,e];rfl
 |put to sg=>
  obtain⟨h3,h4⟩:=h2;have hlt:(d - to).toNat<sg.length:=by lia
  refine key sg[(d - to).toNat] (aC hlt) ?_;show cur.set d.toNat (sg.getD (d - to).toNat 0)=_;rw[c7,aC hlt];rfl
theorem xhV{C:List Int}{r:xq}:∀(ds:List Int) {D cur:List Int},Part C r D cur→(∀d∈ds,xcx r C.length d)→(∀(i:Nat) (d:Int),ds[i]? =some d→∀to st c,r= .take to st c→st+d - to∉D++ds.take i)→Part C r (D++ds) (doP r cur ds)
 |[],D,cur,h,_,_=>by rw[bZ];exact h
 |d::ds,D,cur,h,hc,ho=>by
  have h1:=xmY h (hc d a9) fun to st c e=>by
   have:=ho 0 d rfl to st c e;simpa using this
  have h2:=xhV ds h1 (fun x hx=>hc x (aQ _ hx)) fun i x hx to st c e=>by
   have:=ho (i+1) x hx to st c e;simpa using this
  rw[cC]at h2;exact h2
theorem xkT:∀{xss:List (List Int)} {i:Nat} {d:Int},xss.flatten[i]? =some d→∃(k m:Nat) (p:List Int),xss[k]? =some p∧p[m]? =some d∧xss.flatten.take i=(xss.take k).flatten++p.take m
 |[],i,d,h=>by simp at h
 |p::xss,i,d,h=>by
  rw[cA]at h⊢
  by_cases hi:i<p.length
  ·rw[bg hi]at h;exact⟨0,i,p,rfl,h,by rw[List.take_append_of_le_length (dW hi)];rfl⟩
  ·rw[bw (by lia)]at h;obtain⟨k,m,q,h1,h2,h3⟩:=xkT h;refine⟨k+1,m,q,h1,h2,?_⟩;rw[List.take_append,h3,cR (by lia),List.take_succ_cons,cA,cC]
theorem xkU(r:xq):∀(cs:List (List Int)) (C:List Int),doL C (cs.map fun c=>(r,c))=doP r C cs.flatten
 |[],_=>rfl
 |c::cs,C=>by
  rw[cA];show doL (doP r C c) (cs.map fun c=>(r,c))=(c++cs.flatten).foldl (vT r) C;rw[ff,xkU r cs];rfl
theorem xlN(C:List Int)(xs ys:List (xq×List Int)):doL C (xs++ys)=doL (doL C xs) ys:=by
 unfold doL;rw[ff]
theorem xmZ(r:xq):uv r=pcs r:=by cases r<;> rfl
theorem xn5{C:List Int}{r:xq}(hk:r.ok)(hc:∀c∈uv r,uw C.length (r,c)):Part C r (pcs r).flatten (doL C ((uv r).map fun c=>(r,c))):=by
 rw[xkU,xmZ];have:=xhV (C:=C) (r:=r) (pcs r).flatten (D:=[]) (cur:=C) ⟨rfl,fun j hj=>by simp⟩ (fun d hd=>by
  obtain⟨p,hp,hd⟩:=dz.mp hd;exact(hc p (by rw[xmZ];exact hp)).2.2 d hd) fun i d hd to st c e=>by
   subst e;obtain⟨k,m,p,h1,h2,h3⟩:=xkT hd;rw[eE,h3];intro z;exact xlM hk.2.2 h1 h2 z rfl
 rw[eE]at this;exact this
theorem xn6{rs:List xq}{j:Nat}{r:xq}(h:rs[j]? =some r):yn (rs.take (j+1))=yn (rs.take j)++(uv r).map fun c=>(r,c):=by
 unfold yn;rw[bH,h,fP];simp
theorem xqv{rs:List xq}{C0:List Int}(hk:∀r∈rs,r.ok)(hc:∀x∈yn rs,uw C0.length x):xow rs C0 (fun k=>doL C0 (yn (rs.take k))) rs.length:=by
 refine⟨rfl,fun j=>xcy _ _,fun j r _ hr=>?_⟩;show Part (doL C0 (yn (rs.take j))) r _ (doL C0 (yn (rs.take (j+1))));rw[xn6 hr,xlN];have hm:=aU hr;refine xn5 (hk r hm) fun c h=>?_;rw[xcy];exact hc (r,c) (g9.mpr ⟨r,hm,cy.mpr ⟨c,h,rfl⟩⟩)
def zQ(S:Nat→Prop)(ys:List V)(nw:List Int):Prop:=ys.length=nw.length∧∀j,S j→ys[j]? =(nw.map V.int)[j]?
theorem zQ.set{S S':Nat→Prop}{ys:List V}{nw:List Int}{c:Nat}{v:Int}(h:zQ S ys nw)(hv:nw[c]? =some v)(hS:∀j,S' j→S j∨j=c):zQ S' (ys.set c (.int v)) nw:=by
 refine⟨by rw[eD];exact h.1,fun j hj=>?_⟩;have hc:c<nw.length:=(ax.mp hv).1;rw[List.getElem?_set]
 by_cases e:c=j
 ·subst e;rw[if_pos rfl,if_pos (by rw[h.1];exact hc),aA,hv];rfl
 ·rw[if_neg e];rcases hS j hj with z|z
  ·exact h.2 j z
  ·exact absurd z.symm e
theorem zQ.all{S:Nat→Prop}{ys:List V}{nw:List Int}(h:zQ S ys nw)(k:∀j,j<nw.length→S j):ys=nw.map V.int:=by
 apply List.ext_getElem?;intro j
 by_cases hj:j<nw.length
 ·exact h.2 j (k j hj)
 ·rw[cW (by rw[h.1];lia),cW (by rw[ai];lia)]
def xm0(K:ag):Sp:=fun vs H Q _=>∃(p e:Addr) (o:Int) (rs:List xq) (es nw:List Int),vs=[.ref p,.ref e]∧jH K H p o nw.length rs∧H e=some (.lst (es.map V.int))∧(∀r∈rs,Tells es nw r)∧(∀j,j<nw.length→∃r∈rs,zO r j)∧nw.length≤1000∧xfj H Q nw
theorem xjC(T:Txt K mg a):xE P w K mg base CX0 1 a.q4A a.xgZ ["_law_paper_here","_law_elder"] (xm0 K):=by
 refine T.q4e.ok xi5 (fun vs H Q E h=>?_) (fun cdv A outer s H vs Q E hr h=>?_)
 ·obtain⟨p,e,o,rs,es,nw,rfl,_⟩:=h;rfl
 ·obtain⟨p,e,o,rs,es,nw,rfl,⟨t,ts,hp,ht,hts⟩,he,htl,hcv,hnw,k⟩:=h;have nd:=xi5.nd;refine⟨_,(xh (xD (i:=2) nd rfl (az rfl) (xy xfD (xY (xc yi xf)) (xC xK (cv 0) xk (fun _ _=>rfl))))
  (xh (yE bf rfl (xfx (xC xK (cv 0) xk (fun _ _=>rfl))) (xN (i:=3) nd rfl (az rfl)) (xm (xM (xO xbG (xC xK (cv 3) xk (fun _ _=>rfl)) xG) (xm (yE bf rfl (zR (by rfl) T.q1j (xc (xC xK (cv 3) xk (fun _ _=>rfl)) xf)) (xN (i:=4) nd rfl (az rfl)) (xm (vI (xC yc (cv 1) (xy yv (xC xK (cv 3) xk (fun _ _=>rfl)) (cv 4)) (fun _ _=>rfl)) (xfw (cv 2) (xy yv (xC xK (cv 3) xk (fun _ _=>rfl)) (cv 4)) set_list))))) (xm (yE bf rfl (zR (by rfl) T.q1j (xc (xI xZ (by rfl) T.q1Z yK (xc (xC xK (cv 3) xk (fun _ _=>rfl)) xf)) xf)) (xN (i:=4) nd rfl (az rfl)) (xm (vI (xC xK (xC xK (cv 3) xk (fun _ _=>rfl)) (cv 4) (fun _ _=>rfl)) (xfw (cv 2) (xy yv (xC xK (cv 3) xk (fun _ _=>rfl)) (cv 4)) set_list))))))))
  (xm (xw (cv 2))))),?_⟩
  have tl:ts.length=rs.length:=hts.length;walk_at"w";walk_at"ss";intro l0 hl0;generalize hUl0:upd H l0 _=H1;have sH1:=xg.of_eq hl0 hUl0;have el0:=xj hUl0;clear hUl0;walk_at"w";refine⟨p,_,_,.int nw.length,rfl,rfl,SqT.of (sH1.at hp),rfl,?_⟩;walk_at"w";refine⟨l0,_,_,rfl,rfl,el0,by lia,by lia,by simp[a6];lia,?_⟩;intro nl hnl;generalize hUnl:upd H1 nl _=H2;have sH2:=xg.of_eq hnl hUnl;have enl:=xj hUnl;clear hUnl;walk_at"w";have ef:(aD ((nw.length:Nat):Int).toNat [V.non]).flatten=aD nw.length V.non:=by
   rw[fx,cD]
  rw[ef]at enl;have s2:xg H H2:=sH1.trans sH2;have hnl0:H nl=none:=sH1.back hnl;refine⟨p,_,_,.ref t,rfl,rfl,SqT.of (s2.at hp),rfl,?_⟩;walk_at"w";refine⟨t,rfl,⟨_,SqT.of (s2.at ht)⟩,?_⟩;refine xhC (xs:=ts.map V.ref) (fun k σ G=>xg H G∧∃ys x3 x4,σ=[some (.ref p),some (.ref e),some (.ref nl),x3,x4]∧G nl=some (.lst ys)∧zQ (fun j=>∃r∈rs.take k,zO r j) ys nw) ⟨s2,_,_,_,rfl,enl,by simp,fun j hj=>?_⟩ (fun i σ G hi hP1=>?_) (fun k0 x σ G hx hP1=>?_) (fun σ G hP1=>?_)
  ·obtain⟨r,hr1,_⟩:=hj;simp at hr1
  ·exact SqT.of (hP1.1.at ht)
  ·obtain⟨sG,ys,x3,x4,rfl,enl',hag⟩:=hP1;rw[aA]at hx;obtain⟨t0,hb,rfl⟩:=aJ.mp hx;obtain⟨r,hr0,pr⟩:=Paired.nth hts hb;obtain⟨g1,g2,g3,g4⟩:=htl r (aU hr0);have gto:=g1.to;have tk:rs.take (k0+1)=rs.take k0++[r]:=by rw[bH,hr0];rfl
   have stp:∀{G5:Hp} {ys5:List V} {i:Nat},xg H G5→G5 nl=some (.lst ys5)→zQ (fun j=>(∃r∈rs.take k0,zO r j)∨(r.to≤j∧(j:Int)<r.to+i)) ys5 nw→∀v,(r.sg es)[i]? =some v→i<r.cnt→∀G6,upd G5 nl (.lst (ys5.set (r.to+i).toNat (.int v)))=G6→
     xg H G6∧G6 nl=some (.lst (ys5.set (r.to+i).toNat (.int v)))∧zQ (fun j=>(∃r∈rs.take k0,zO r j)∨(r.to≤j∧(j:Int)<r.to+((i+1:Nat):Int))) (ys5.set (r.to+i).toNat (.int v)) nw:=fun{G5 ys5 i} s5 e5 hag5 v hv hil G6 hU=>by
    refine⟨xg.wr s5 hnl0 hU,by rw[←hU,xt],hag5.set ((g4 i hil).trans hv) fun j hj=>?_⟩;rcases hj with z|z
    ·exact .inl (.inl z)
    ·by_cases hlt:(j:Int)<r.to+i
     ·exact .inl (.inr ⟨z.1,hlt⟩)
     ·exact .inr (by lia)
   have fin:∀{G5:Hp} {ys5:List V},xg H G5→G5 nl=some (.lst ys5)→zQ (fun j=>(∃r∈rs.take k0,zO r j)∨(r.to≤j∧(j:Int)<r.to+r.cnt)) ys5 nw→zQ (fun j=>∃r∈rs.take (k0+1),zO r j) ys5 nw:=fun{G5 ys5} s5 e5 hag5=>by
    refine⟨hag5.1,fun j hj=>?_⟩;obtain⟨r',hr',hc'⟩:=hj;rw[tk]at hr';rcases aV.mp hr' with z|z
    ·exact hag5.2 j (.inl ⟨r',z,hc'⟩)
    ·rw[ao.mp z]at hc';exact hag5.2 j (.inr ⟨hc'.1,hc'.2⟩)
   have h00:zQ (fun j=>(∃r∈rs.take k0,zO r j)∨(r.to≤j∧(j:Int)<r.to+((0:Nat):Int))) ys nw:=⟨hag.1,fun j hj=>by
    rcases hj with z|z
    ·exact hag.2 j z
    ·lia⟩
   walk_at"w";cases r with
   |put to sg=>
    obtain⟨u,q1,q2⟩:=pr;refine⟨t0,_,_,.str "put",rfl,rfl,SqT.of (sG.at q1),rfl,?_⟩;walk_at"w";refine⟨by walk_at"no",fun _=>?_⟩;walk_at"w";refine⟨t0,_,_,.ref u,rfl,rfl,SqT.of (sG.at q1),rfl,?_⟩;walk_at"w";refine⟨u,_,rfl,.inr (SqT.of (sG.at q2)),?_⟩;walk_at"w";have er:yy 0 (((sg.map V.int).length:Nat):Int) 1=sg.length:=by rw[zV,ai];lia
    rw[er];refine xbI (fun i σ G=>xg H G∧∃ys x4,σ=[some (.ref p),some (.ref e),some (.ref nl),some (.ref t0),x4]∧G nl=some (.lst ys)∧zQ (fun j=>(∃r∈rs.take k0,zO r j)∨(to≤j∧(j:Int)<to+i)) ys nw)
     ⟨sG,ys,_,rfl,enl',h00⟩ (fun i σ G5 hi hP2=>?_) (fun σ G5 hP2=>?_)
    ·obtain⟨s5,ys5,y4,rfl,enl5,hag5⟩:=hP2;have ei:(0:Int)+(i:Int)*1=(i:Int):=by lia
     obtain⟨v,hv⟩:∃v,sg[i]? =some v:=⟨_,aC hi⟩;walk_at"w";rw[ei];refine⟨t0,_,_,.ref u,rfl,rfl,SqT.of (s5.at q1),rfl,?_⟩;walk_at"w";refine⟨u,_,_,.int v,rfl,rfl,SqT.of (s5.at q2),xgD (by rw[aA,hv];rfl),?_⟩;walk_at"w";refine⟨t0,_,_,.int to,rfl,rfl,SqT.of (s5.at q1),rfl,?_⟩;walk_at"w";refine⟨nl,_,_,(to+i).toNat,rfl,rfl,enl5,xiL (by have:0≤to:=gto;lia) (by rw[hag5.1];have:to+(sg.length:Nat)≤nw.length:=g3;lia),?_⟩;generalize hU:upd G5 nl _=G6;obtain⟨k1,k2,k3⟩:=stp s5 enl5 hag5 v hv hi G6 hU;exact⟨k1,_,_,rfl,k2,k3⟩
    ·obtain⟨s5,ys5,y4,rfl,enl5,hag5⟩:=hP2;exact⟨s5,_,_,_,rfl,enl5,fin s5 enl5 hag5⟩
   |take to st c=>
    obtain⟨b1,b2,b3⟩:=g1;have q1:H t0=some (.tup [.str "take",.int to,.int st,.int c]):=pr;refine⟨t0,_,_,.str "take",rfl,rfl,SqT.of (sG.at q1),rfl,?_⟩;walk_at"w";refine⟨fun _=>?_,by walk_at"no"⟩;walk_at"w";refine⟨t0,_,_,.int c,rfl,rfl,SqT.of (sG.at q1),rfl,?_⟩;walk_at"w";have er:yy 0 c 1=c.toNat:=by rw[zV];lia
    rw[er];refine xbI (fun i σ G=>xg H G∧∃ys x4,σ=[some (.ref p),some (.ref e),some (.ref nl),some (.ref t0),x4]∧G nl=some (.lst ys)∧zQ (fun j=>(∃r∈rs.take k0,zO r j)∨(to≤j∧(j:Int)<to+i)) ys nw)
     ⟨sG,ys,_,rfl,enl',h00⟩ (fun i σ G5 hi hP2=>?_) (fun σ G5 hP2=>?_)
    ·obtain⟨s5,ys5,y4,rfl,enl5,hag5⟩:=hP2;have ei:(0:Int)+(i:Int)*1=(i:Int):=by lia
     obtain⟨v,hv⟩:∃v,(xq.sg es (.take to st c))[i]? =some v:=⟨_,aC (by rw[xq.sg_len (r:=.take to st c) ⟨b1,b2,b3⟩ g2];exact hi)⟩;have hv2:es[(st+i).toNat]? =some v:=by
      have hv:((es.drop st.toNat).take c.toNat)[i]? =some v:=hv;rw[dm hi,dO]at hv;rw[←hv];congr 1;lia
     walk_at"w";rw[ei];refine⟨t0,_,_,.int st,rfl,rfl,SqT.of (s5.at q1),rfl,?_⟩;walk_at"w";refine⟨e,_,_,.int v,rfl,rfl,SqL.of (s5.at he),xfT (by lia) hv2,?_⟩;walk_at"w";refine⟨t0,_,_,.int to,rfl,rfl,SqT.of (s5.at q1),rfl,?_⟩;walk_at"w";refine⟨nl,_,_,(to+i).toNat,rfl,rfl,enl5,xiL (by lia) (by rw[hag5.1];have:to+(c.toNat:Nat)≤nw.length:=g3;lia),?_⟩;generalize hU:upd G5 nl _=G6;obtain⟨k1,k2,k3⟩:=stp s5 enl5 hag5 v hv hi G6 hU;exact⟨k1,_,_,rfl,k2,k3⟩
    ·obtain⟨s5,ys5,y4,rfl,enl5,hag5⟩:=hP2;exact⟨s5,_,_,_,rfl,enl5,fin s5 enl5 hag5⟩
  ·obtain⟨sG,ys,x3,x4,rfl,enl',hag⟩:=hP1;have e:ys=nw.map V.int:=hag.all fun j hj=>by
    obtain⟨r,h1,h2⟩:=hcv j hj;refine⟨r,?_,h2⟩;rw[cR (by simp;lia)];exact h1
   rw[e]at enl';exact k nl G sG hnl0 enl'
end
section
variable {P:av} {w:World} {K:ag} {mg:Str→Option Value} {base:Heap} {a:Adr}
theorem xft{old to:Int}{sg:List Int}(h0:0≤to)(h1:sg≠[])(h8:sg.length≤8)(hs:∀x∈sg,Sg x):Good old (.put to sg):=⟨⟨h0,h1,by lia,hs⟩,trivial,trivial⟩
theorem NP.tl{old o n:Int}{rs:List xq}(h:NP old o n rs):∃rs0,rs.Perm rs0∧Tl old rs0 n:=by
 cases h with
 |no o ho=>exact⟨[],.refl _,.nil⟩
 |put o sg ho h1 h8 hs=>
  refine⟨[.put 0 sg],.refl _,?_⟩;have:=Tl.snoc (old:=old) (r:=.put 0 sg) (n:=sg.length) .nil (xft (by decide) (by intro z;rw[z]at h1;cases h1) h8 hs) rfl rfl;rw[j7]at this;exact this
 |take to st c sg h8 hs h0 h1 h2 h3 h4=>
  have tk:∀{rs':List xq},Tl old rs' to→Tl old (rs'++[.take to st c]) (to+c):=fun h=>Tl.snoc (r:=.take to st c) h ⟨⟨h0,h1,h2⟩,trivial,h3⟩ rfl (show((c.toNat:Nat):Int)=c by lia);have fst:∃a,(if 0<to then[xq.put 0 (sg.take to.toNat)]else[])=a∧Tl old a to:=by
   by_cases z:0<to
   ·rw[if_pos z];refine⟨_,rfl,?_⟩;have hl:(sg.take to.toNat).length=to.toNat:=by rw[bC];lia
    have:=Tl.snoc (old:=old) (r:=.put 0 (sg.take to.toNat)) (n:=to) .nil (xft (by decide) (by intro e;rw[e]at hl;simp at hl;lia) (by lia) (fun x hx=>hs x (List.mem_of_mem_take hx))) rfl (show((sg.take to.toNat).length:Int)=to by lia);rw[j7]at this;exact this
   ·rw[if_neg z];obtain rfl:to=0:=by lia
    exact⟨_,rfl,.nil⟩
  obtain⟨a,ea,ha⟩:=fst;rw[ea];have h2':=tk ha
  by_cases z:to+c<(sg.length:Int)
  ·rw[if_pos z];refine⟨a++[.take to st c]++[.put (to+c) (sg.drop (to+c).toNat)],?_,?_⟩
   ·rw[cC];exact(List.perm_middle (a:=xq.take to st c) (l₁:=a) (l₂:=[.put (to+c) (sg.drop (to+c).toNat)])).symm
   ·have hl:(sg.drop (to+c).toNat).length=sg.length - (to+c).toNat:=dn;have:=Tl.snoc (r:=.put (to+c) (sg.drop (to+c).toNat)) (n:=(sg.length:Int) - (to+c)) h2' (xft (by lia) (by intro e;rw[e]at hl;simp at hl;lia) (by lia) (fun x hx=>hs x (iP hx))) rfl (show((sg.drop (to+c).toNat).length:Int)=_ by lia);rw[show to+c+((sg.length:Int) - (to+c))=sg.length by lia]at this;exact this
  ·rw[if_neg z,bZ];refine⟨a++[xq.take to st c],(List.perm_append_comm (l₁:=a) (l₂:=[xq.take to st c])).symm,?_⟩;rw[show to+c=(sg.length:Int)by lia]at h2';exact h2'
theorem xem:∀(n:Nat) (rs:List xq) (wr:List Int),(∀r∈rs,r.rds=[])→uR n rs wr=none
 |_,[],_,_=>rfl
 |n,r::rs,wr,h=>by
  rw[uR,h r a9];exact xem (n+1) rs _ fun x hx=>h x (aQ _ hx)
theorem NP.late{old o n:Int}{rs:List xq}(h:NP old o n rs):vS rs=none:=by
 cases h with
 |no o ho=>rfl
 |put o sg ho h1 h8 hs=>exact xem 0 _ [] fun r hr=>by rw[ao.mp hr];rfl
 |take to st c sg h8 hs h0 h1 h2 h3 h4=>
  unfold vS;rw[uR];rw[show(xq.take to st c).rds.find? (fun c=>decide (c∈([]:List Int)))=none by rw[cT];intro x _;simp];refine xem 1 _ _ fun r hr=>?_;rcases aV.mp hr with hr|hr
  ·split at hr
   ·rw[ao.mp hr];rfl
   ·cases hr
  ·split at hr
   ·rw[ao.mp hr];rfl
   ·cases hr
theorem NP.fine{old o n:Int}{rs:List xq}(h:NP old o n rs)(h0:0≤old):jF rs n=none∧uk rs=none∧0≤n∧n≤8∧rs.length≤3∧(o=0∨o=old):=by
 obtain⟨rs0,hp,ht⟩:=h.tl;obtain⟨nw,e,_,_,_,_,tw,lk⟩:=xit (es:=aD old.toNat 0) hp ht (by rw[bq];lia);refine⟨by unfold jF;rw[lk,h.late],tw,?_⟩;cases h with
 |no o ho=>exact⟨by decide,by decide,by decide,ho⟩
 |put o sg ho h1 h8 hs=>exact⟨by lia,by lia,by simp,ho⟩
 |take to st c sg h8 hs h0 h1 h2 h3 h4=>
  refine⟨by lia,by lia,?_,.inr rfl⟩;rw[bB,aW]
  split<;> split<;> simp
end
section
variable {P:av} {w:World} {K:ag} {mg:Str→Option Value} {base:Heap} {a:Adr}
def Liv(H:Hp)(L:List Addr):Prop:=∀y∈L,∃u,H y=some u
theorem Liv.off{H:Hp}{L:List Addr}{y:Addr}(h:Liv H L)(e:H y=none):y∉L:=fun z=>by
 obtain⟨u,hu⟩:=h y z;rw[hu]at e;cases e
theorem Liv.same{H H':Hp}{L:List Addr}(h:Liv H L)(s:xg H H'):Liv H' L:=fun y z=>by
 obtain⟨u,hu⟩:=h y z;exact⟨u,s.at hu⟩
def yr(H:Hp)(t:Addr)(s:BdS)(tx:Bool→List Int)(L:List Addr):Prop:=∃m l x x0 x1,H t=some (.tup [.int (bI s.mr),.ref m,.ref l,.int s.ct,zE s.run,.ref x])∧H m=some (.lst [.str (s.mark false),.str (s.mark true)])∧H l=some (.lst [.int (s.len false),.int (s.len true)])∧
 H x=some (.lst [.ref x0,.ref x1])∧H x0=some (.lst ((tx false).map V.int))∧H x1=some (.lst ((tx true).map V.int))∧m∉L∧l∉L∧x∉L∧x0∉L∧x1∉L
theorem yr.same{H H':Hp}{t:Addr}{s:BdS}{tx:Bool→List Int}{L:List Addr}(h:yr H t s tx L)(e:xg H H'):yr H' t s tx L:=by
 obtain⟨m,l,x,x0,x1,h1,h2,h3,h4,h5,h6,o⟩:=h;exact⟨m,l,x,x0,x1,e.at h1,e.at h2,e.at h3,e.at h4,e.at h5,e.at h6,o⟩
theorem yr.kp{H H':Hp}{t:Addr}{s:BdS}{tx:Bool→List Int}{L:List Addr}(h:yr H t s tx L)(e:Kp L H H')(mu:∀x∈L,∃u,H x=some u∧xaC u):yr H' t s tx L:=by
 obtain⟨m,l,x,x0,x1,h1,h2,h3,h4,h5,h6,o1,o2,o3,o4,o5⟩:=h;exact⟨m,l,x,x0,x1,vK e mu h1,e _ _ h2 o1,e _ _ h3 o2,e _ _ h4 o3,e _ _ h5 o4,e _ _ h6 o5,o1,o2,o3,o4,o5⟩
def BdS.alike(s s':BdS):Prop:=s.mr=s'.mr∧s.ct=s'.ct∧s.run=s'.run∧s.mark=s'.mark∧s.len=s'.len
theorem yr.cg{H:Hp}{t:Addr}{s s':BdS}{tx:Bool→List Int}{L:List Addr}(h:yr H t s tx L)(e:s.alike s'):yr H t s' tx L:=by
 obtain⟨e1,e2,e3,e4,e5⟩:=e;unfold yr at h⊢;rw[←e1,←e2,←e3,←e4,←e5];exact h
def xm1:Sp:=fun vs H Q _=>∃(t:Addr) (s:BdS) (tx:Bool→List Int) (L:List Addr),vs=[.ref t]∧yr H t s tx L∧Liv H L∧0≤s.ct∧∀(p t':Addr) (H':Hp),xg H H'→H' p=some (.tup [.int (bI (startB s)),.ref t'])→yr H' t' (zz s) tx L→Q (.ref p) H'
theorem xn7(T:Txt K mg a):xE P w K mg base CX0 1 a.q4D a.xg2 ["_law_stand"] xm1:=by
 refine T.q4K.ok xi8 (fun vs H Q E h=>?_) (fun cdv A outer s H vs Q E hr h=>?_)
 ·obtain⟨t,s,tx,L,rfl,_⟩:=h;rfl
 ·obtain⟨t,st,tx,L,rfl,hS,hL,hc,q⟩:=h;have nd:=xi8.nd;refine⟨_,(xh (vI (cv 0) (uU rfl (xQ (xN (i:=1) nd rfl (az rfl)) (xQ (xN (i:=2) nd rfl (az rfl)) (xQ (xN (i:=3) nd rfl (az rfl)) (xQ (xN (i:=4) nd rfl (az rfl)) (xQ (xN (i:=5) nd rfl (az rfl)) (xQ (xN (i:=6) nd rfl (az rfl)) zI))))))))
  (xh (xD (i:=2) nd rfl (az rfl) (yd ze (by rfl) T.q22 zL (xc (cv 2) xf)))
  (xh (xM (PW.pt (xdF (xO xbG (xC yc (cv 2) (xy yw xk (cv 1)) (fun _ _=>rfl)) xG) (xce (xO xbU (cv 4) xk)))) (xm (xw (xH (xc (xy yw xk (cv 1)) (xc (xH (xc (cv 1) (xc (cv 2) (xc (cv 3) (xc (xy yw (cv 4) xk) (xc (xy yw xk (cv 1)) (xc (cv 6) xf))))))) xf))))) xx)
  (xh (zu (xM (xO xbG (xC yc (cv 2) (xy yw xk (cv 1)) (fun _ _=>rfl)) xG) (xm (vI xG (xfw (cv 2) (xy yw xk (cv 1)) set_list))) xx))
  (xm (xw (xH (xc (cv 1) (xc (xH (xc (cv 1) (xc (cv 2) (xc (cv 3) (xc (cv 4) (xc (cv 1) (xc (cv 6) xf))))))) xf))))))))),?_⟩
  obtain⟨m,l,x,x0,x1,h1,h2,h3,h4,h5,h6,o1,o2,o3,o4,o5⟩:=id hS;walk_at"w";refine⟨t,_,rfl,SqT.of h1,rfl,?_⟩;walk_at"w";refine⟨_,_,rfl,?_⟩;walk_at"w";refine⟨_,_,rfl,?_⟩;walk_at"w";refine⟨_,_,rfl,?_⟩;walk_at"w";refine⟨_,_,rfl,?_⟩;walk_at"w";refine⟨_,_,rfl,?_⟩;walk_at"w";refine⟨_,_,rfl,?_⟩;walk_at"w";refine a7 rfl ?_;walk_at"w";have atM:atI [V.str (st.mark false),V.str (st.mark true)] (1 - bI st.mr)=some (.str (st.mark (!st.mr))):=by cases st.mr<;> rfl
  have e1:(1:Int) - bI st.mr=bI (!st.mr):=by cases st.mr<;> rfl
  refine⟨m,_,rfl,.inl (SqL.of h2),?_⟩;intro m2 hm2;generalize hUm2:upd H m2 _=H1;have sH1:=xg.of_eq hm2 hUm2;have em2:=xj hUm2;clear hUm2;walk_at"w";refine⟨m2,_,_,_,rfl,rfl,SqL.of em2,atM,?_⟩;walk_at"w";have fin:∀(b:Bool) (s':BdS) (mv:List V) (v5:V) (H5 H6 H7:Hp) (t' p:Addr),xg H H5→H5 m2=some (.lst mv)→startB st=b→zz st=s'→mv=[.str (s'.mark false),.str (s'.mark true)]→s'.mr=st.mr→s'.len=st.len→zE s'.run=v5→xg H5 H6→xg H6 H7→
    H6 t'=some (.tup [.int (bI st.mr),.ref m2,.ref l,.int s'.ct,v5,.ref x])→H7 p=some (.tup [.int (bI b),.ref t'])→Q (.ref p) H7:=fun b s' mv v5 H5 H6 H7 t' p s5 em e1 e2 e3 e4 e5 e6 s6 s7 et ep=>by
   refine q p t' H7 (s5.trans (s6.trans s7)) (by rw[e1];exact ep) ?_;rw[e2];have sA:=s5.trans (s6.trans s7);exact⟨m2,l,x,x0,x1,by rw[s7.at et,e4,e6],by rw[(s6.trans s7).at em,e3],by rw[e5];exact sA.at h3,sA.at h4,sA.at h5,sA.at h6,hL.off hm2,o2,o3,o4,o5⟩
  refine⟨fun c=>?_,fun c=>?_⟩
  ·have e:st.mark (!st.mr)=("trial":Str):=of_decide_eq_true c;walk_at"w";refine⟨fun c2=>?_,fun c2=>?_⟩
   ·have c2:0<st.ct:=of_decide_eq_true c2;walk_at"w";walk_at"ss";intro tn htn;generalize hUtn:upd H1 tn _=H2;have sH2:=xg.of_eq htn hUtn;have etn:=xj hUtn;clear hUtn;walk_at"w";walk_at"ss";intro p hp;generalize hUp:upd H2 p _=H3;have sH3:=xg.of_eq hp hUp;have ep:=xj hUp;clear hUp;walk_at"w";have hc0:¬st.ct=0:=by lia
    have e9:(V.int (1 - bI st.mr))= .int (bI (!st.mr)):=by rw[e1]
    have et9:H2 tn=some (.tup [.int (bI st.mr),.ref m2,.ref l,.int (st.ct - 1),.int (1 - bI st.mr),.ref x]):=etn;have ep9:H3 p=some (.tup [.int (1 - bI st.mr),.ref tn]):=ep;rw[e1]at et9 ep9;exact fin (!st.mr) {st with ct:=st.ct - 1,run:=some (!st.mr),cnt:=st.cnt+1} _ _ H1 H2 H3 tn p sH1 em2 (if_pos ⟨e,hc0⟩) (by unfold zz;rw[if_pos e,if_neg hc0]) rfl rfl rfl rfl sH2 sH3 et9 ep9
   ·have c2:st.ct=0:=by have:¬0<st.ct:=of_decide_eq_false c2;lia
    walk_at"w";refine⟨fun σ' G=>σ'=[some (.ref t),some (.int (bI st.mr)),some (.ref m2),some (.ref l),some (.int st.ct),some (zE st.run),some (.ref x)]∧xg H G∧G m2=some (.lst ([V.str (st.mark false),V.str (st.mark true)].set (bI (!st.mr)).toNat (.str "bad"))),?_,?_⟩
    ·walk_at"w";refine⟨m2,_,_,_,rfl,rfl,SqL.of em2,atM,?_⟩;walk_at"w";refine⟨fun _=>?_,fun z=>by rw[show decide (st.mark (!st.mr)=aX "trial")=true from c]at z;cases z⟩;walk_at"w";refine⟨m2,_,_,(bI (!st.mr)).toNat,rfl,rfl,em2,by rw[e1];cases st.mr<;> rfl,?_⟩;exact⟨rfl,sH1.put hm2,xt⟩
    rintro σ' G ⟨rfl,sG,eG⟩;walk_at"w";walk_at"ss";intro tn htn;generalize hUtn:upd G tn _=H2;have sH2:=xg.of_eq htn hUtn;have etn:=xj hUtn;clear hUtn;walk_at"w";walk_at"ss";intro p hp;generalize hUp:upd H2 p _=H3;have sH3:=xg.of_eq hp hUp;have ep:=xj hUp;clear hUp;walk_at"w";exact fin st.mr {st with mark:=upB st.mark (!st.mr) "bad",run:=some st.mr,cnt:=st.cnt+1} _ _ G H2 H3 tn p sG eG (if_neg fun z=>z.2 c2) (by unfold zz;rw[if_pos e,if_pos c2]) (by show _=[V.str (upB st.mark (!st.mr) "bad" false),V.str (upB st.mark (!st.mr) "bad" true)];cases st.mr<;> rfl) rfl rfl rfl sH2 sH3 etn ep
  ·have e:¬st.mark (!st.mr)=("trial":Str):=of_decide_eq_false c;walk_at"w"
   first|(refine⟨by walk_at"no",fun _=>?_⟩;walk_at"w")|skip
   refine⟨fun σ' G=>σ'=[some (.ref t),some (.int (bI st.mr)),some (.ref m2),some (.ref l),some (.int st.ct),some (zE st.run),some (.ref x)]∧G=H1,?_,?_⟩
   ·walk_at"w";refine⟨m2,_,_,_,rfl,rfl,SqL.of em2,atM,?_⟩;walk_at"w";refine⟨fun z=>(by rw[show decide (st.mark (!st.mr)=aX "trial")=false from c]at z;cases z),fun _=>?_⟩;exact⟨rfl,rfl⟩
   rintro σ' G ⟨rfl,rfl⟩;walk_at"w";walk_at"ss";intro tn htn;generalize hUtn:upd G tn _=H2;have sH2:=xg.of_eq htn hUtn;have etn:=xj hUtn;clear hUtn;walk_at"w";walk_at"ss";intro p hp;generalize hUp:upd H2 p _=H3;have sH3:=xg.of_eq hp hUp;have ep:=xj hUp;clear hUp;walk_at"w";exact fin st.mr {st with run:=some st.mr} _ _ G H2 H3 tn p sH1 em2 (if_neg fun z=>e z.1) (by unfold zz;rw[if_neg e]) rfl rfl rfl rfl sH2 sH3 etn ep
def xlO:Sp:=fun vs H Q _=>∃(k:Nat) (v:V),vs=[.int k,v]∧∀(p l:Addr) (H':Hp),xg H H'→H l=none→H' p=some (.tup [.non,.ref l,v])→H' l=some (.lst (((b8 6).map fun i=>V.bl (decide (i=k)))++[.bl true]))→Q (.ref p) H'
theorem uj(T:Txt K mg a):xE P w K mg base CX0 1 a.q3x a.xdZ ["_law_which","_law_fault"] xlO:=by
 refine T.q1i.ok xgi (fun vs H Q E h=>?_) (fun cdv A outer s H vs Q E hr h=>?_)
 ·obtain⟨k,v,rfl,_⟩:=h;rfl
 ·obtain⟨k,v,rfl,q⟩:=h;have nd:=xgi.nd;refine⟨_,(xm (xw (xH (xc yi (xc (xy xfC (uu (uW (cap:=[0]) (ys:=["_law_which"]) rfl rfl rfl rfl rfl ⟨⟨rfl,rfl,.inl rfl⟩,trivial⟩ (by decide+kernel)) rfl (zR (by rfl) T.q1j (xc xk xf)) (fun _ _ _ _=>(yY yJ (cv 0) (cv 1))) (fun _ _ _ _=>ur)) (xY (xc zT xf))) (xc (cv 1) xf)))))),?_⟩;walk_at"w";rw[show yy 0 6 1=6 from rfl];refine xdM (fun i acc _=>acc=(b8 i).map fun j=>V.bl (decide (j=k))) (by decide) rfl (fun i acc H3 H3' hi s3 s3' hP R hR=>?_) (fun D acc H3 H3' hD hD3 s3 s3' hP hacc hv=>?_)
  ·walk_at"w";refine hR _ H3' (xg.refl _) fun H6 _ _=>?_;rw[hP,List.range_succ,bN];have e:decide (0+(i:Int)*1=(k:Int))=decide (i=k):=decide_eq_decide.mpr (by lia);show _++[V.bl (decide (0+(i:Int)*1=(k:Int)))]=_;rw[e];rfl
  ·walk_at"w";walk_at"ss";intro c1 hc1;generalize hUc1:upd H3' c1 _=H4;have sH4:=xg.of_eq hc1 hUc1;have ec1:=xj hUc1;clear hUc1;walk_at"w";refine⟨D,c1,_,_,rfl,rfl,sH4.at hv,ec1,by rw[hP];simp[a6],?_⟩;intro l hl;generalize hUl:upd H4 l _=H5;have sH5:=xg.of_eq hl hUl;have el:=xj hUl;clear hUl;walk_at"w";walk_at"ss";intro p hp;generalize hUp:upd H5 p _=H6;have sH6:=xg.of_eq hp hUp;have ep:=xj hUp;clear hUp;walk_at"w";exact q p l H6 (s3.trans (s3'.trans (sH4.trans (sH5.trans sH6)))) ((s3.trans (s3'.trans sH4)).back hl) ep (by rw[sH6.at el,hP])
end
section
variable {P:av} {w:World} {K:ag} {mg:Str→Option Value} {base:Heap} {a:Adr}
def xn8(K:ag):Sp:=fun vs H Q _=>∃(t p tt:Addr) (s:BdS) (tx:Bool→List Int) (L:List Addr) (o n:Int),vs=[.ref t,.ref p,.int s.size]∧yr H t s tx L∧H p=some (.tup [.int o,.int n,.ref tt])∧0≤o∧Q (.bl (!zP s o n)) H
theorem xjD(T:Txt K mg a):xE P w K mg base CX0 1 a.q4E a.xg3 ["_law_stand","_law_paper_here","_law_size"] (xn8 K):=by
 refine T.q4g.ok xi9 (fun vs H Q E h=>?_) (fun cdv A outer s H vs Q E hr h=>?_)
 ·obtain⟨t,p,tt,s,tx,L,o,n,rfl,_⟩:=h;rfl
 ·obtain⟨t,p,tt,st,tx,L,o,n,rfl,hS,hp,ho,q⟩:=h;have nd:=xi9.nd;refine⟨_,(xh (xD (i:=3) nd rfl (az rfl) (xy yw xk (xC xK (cv 0) xk (fun _ _=>rfl))))
  (xh (xM (xO xbU (xI (xfP rfl) (by rfl) T.q5D xdJ (xc (xC xK (cv 1) xk (fun _ _=>rfl)) (xc (xC xK (cv 1) xk (fun _ _=>rfl)) xf))) (cv 2)) (xm (xw zT)) xx)
  (xm (xw (zK (yY xbU (xC xK (cv 1) xk (fun _ _=>rfl)) xk) (uT (xqY (yY xaM (xC yc (xC xK (cv 0) xk (fun _ _=>rfl)) (cv 3) (fun _ _=>rfl)) xG) (uT (yY xbF (xC yc (xC xK (cv 0) xk (fun _ _=>rfl)) (cv 3) (fun _ _=>rfl)) (xC xK (cv 1) xk (fun _ _=>rfl))))))))))),?_⟩
  obtain⟨m,l,x,x0,x1,h1,h2,h3,_⟩:=id hS;have e1:(1:Int) - bI st.mr=bI (!st.mr):=by cases st.mr<;> rfl
  have atM:atI [V.str (st.mark false),V.str (st.mark true)] (1 - bI st.mr)=some (.str (st.mark (!st.mr))):=by cases st.mr<;> rfl
  have atL:atI [V.int (st.len false),V.int (st.len true)] (1 - bI st.mr)=some (.int (st.len (!st.mr))):=by cases st.mr<;> rfl
  unfold zP at q;walk_at"w";refine⟨t,_,_,.int (bI st.mr),rfl,rfl,SqT.of h1,rfl,?_⟩;walk_at"w";refine⟨p,_,_,.int o,rfl,rfl,SqT.of hp,rfl,?_⟩;walk_at"w";refine⟨p,_,_,.int n,rfl,rfl,SqT.of hp,rfl,?_⟩;walk_at"w";refine⟨fun c=>?_,fun c=>?_⟩
  ·have c:st.size<max o n:=of_decide_eq_true c;walk_at"w";rw[decide_eq_false (show¬max o n≤st.size by lia)]at q;exact q
  have c:¬st.size<max o n:=of_decide_eq_false c;rw[decide_eq_true (show max o n≤st.size by lia),gw]at q;walk_at"w";refine⟨p,_,_,.int o,rfl,rfl,SqT.of hp,rfl,?_⟩;walk_at"w";refine⟨fun c2=>?_,fun c2=>?_⟩
  ·have c2':0<o:=of_decide_eq_true c2;rw[decide_eq_false (show¬o=0 by lia),iW]at q;walk_at"w";refine⟨t,_,_,.ref m,rfl,rfl,SqT.of h1,rfl,?_⟩;walk_at"w";refine⟨m,_,_,_,rfl,rfl,SqL.of h2,atM,?_⟩;walk_at"w";refine⟨fun c3=>?_,fun c3=>?_⟩
   ·have c3':¬st.mark (!st.mr)=("good":Str):=fun z=>by
     rw[show aX "good"=("good":Str)from rfl,decide_eq_true z]at c3;cases c3
    rw[decide_eq_false c3',fR]at q;exact q
   ·have c3':st.mark (!st.mr)=("good":Str):=of_decide_eq_true (p:=st.mark (!st.mr)=aX "good") (by rw[←bP];exact c3);rw[decide_eq_true c3',gw]at q;walk_at"w";refine⟨t,_,_,.ref l,rfl,rfl,SqT.of h1,rfl,?_⟩;walk_at"w";refine⟨l,_,_,_,rfl,rfl,SqL.of h3,atL,?_⟩;walk_at"w";refine⟨p,_,_,.int o,rfl,rfl,SqT.of hp,rfl,?_⟩;exact q
  ·have c2':¬0<o:=of_decide_eq_false c2;rw[decide_eq_true (show o=0 by lia),j3]at q;walk_at"w";exact q
end
section
variable {P:av} {w:World} {K:ag} {mg:Str→Option Value} {base:Heap} {a:Adr}
def xqw(a:Adr)(C:Addr)(k:Nat):Prop:=(C=a.q0i∧k=0)∨(C=a.q0e∧k=1)∨(C=a.q0b∧k=2)∨(C=a.q0f∧k=3)∨(C=a.q0g∧k=4)∨(C=a.q0a∧k=5)
def xn9(a:Adr):SpE:=fun ae cls dx vs H Q _=>∃(C:Addr) (k:Nat),vs=[.ref ae]∧cls= .ref C∧xqw a C k∧(dx=none∨∃d fs,dx=some d∧H d=some (.xd fs))∧
 ∀(l:Addr) (H':Hp),xg H H'→H' l=some (.lst (((b8 6).map fun i=>V.bl (decide (i=k)))++[.bl true]))→Q (.ref l) H'
theorem xjE(T:Txt K mg a):xlr P w K mg base 1 a.q4B a.xg0 ["_law_e"] (xn9 a):=by
 refine T.q4f.okE xi6 (fun ae cls dx vs H Q E h=>?_) (fun cdv A outer s H vs Q E qs ae cls dx hs hr h=>?_)
 ·obtain⟨C,k,rfl,_⟩:=h;rfl
 ·obtain⟨C,k,rfl,rfl,hk,hd,q⟩:=h;have nd:=xi6.nd;refine⟨_,(xh (xD (i:=1) nd rfl (az rfl) (xY (xc (xI (r:=xbK K _ _ _) (vb hs fun _ z=>z) (by rfl) T.q0q ye (xc (cv 0) (xc (uq (v:=.ref a.q0i) (by rfl) T.xmF rfl) xf))) (xc (xI (r:=xbK K _ _ _) (vb hs fun _ z=>z) (by rfl) T.q0q ye (xc (cv 0) (xc (uq (v:=.ref a.q0e) (by rfl) T.xhL rfl) xf))) (xc (xI (r:=xbK K _ _ _) (vb hs fun _ z=>z) (by rfl) T.q0q ye (xc (cv 0) (xc (uq (v:=.ref a.q0b) (by rfl) T.xfi rfl) xf))) (xc (xI (r:=xbK K _ _ _) (vb hs fun _ z=>z) (by rfl) T.q0q ye (xc (cv 0) (xc (uq (v:=.ref a.q0f) (by rfl) T.xcn rfl) xf))) xf))))))
  (xm (xw (xy xfC (cv 1) (xY (xc (xI (r:=xbK K _ _ _) (vb hs fun _ z=>z) (by rfl) T.q0q ye (xc (cv 0) (xc (uq (v:=.ref a.q0g) (by rfl) T.xhK rfl) xf))) (xc (xI (r:=xbK K _ _ _) (vb hs fun _ z=>z) (by rfl) T.q0q ye (xc (cv 0) (xc (uq (v:=.ref a.q0a) (by rfl) T.xeT rfl) xf))) (xc (xI (r:=xbK K _ _ _) (vb hs fun _ z=>z) (by rfl) T.q0q ye (xc (cv 0) (xc (xaS (v:=.ty "ValueError") (by rfl) T.q5r PyProof.Rows.Boot.«ValueError» rfl) xf))) xf)))))))),?_⟩
  rcases hk with⟨rfl,rfl⟩|⟨rfl,rfl⟩|⟨rfl,rfl⟩|⟨rfl,rfl⟩|⟨rfl,rfl⟩|⟨rfl,rfl⟩
  ·walk_at"w";refine⟨a.q0i,_,_,_,rfl,hd,T.q3O,rfl,rfl,T.q5p,?_⟩;walk_at"w";refine⟨a.q0i,_,_,_,rfl,hd,T.q3O,rfl,rfl,T.q4n,?_⟩;walk_at"w";refine⟨a.q0i,_,_,_,rfl,hd,T.q3O,rfl,rfl,T.q4N,?_⟩;walk_at"w";refine⟨a.q0i,_,_,_,rfl,hd,T.q3O,rfl,rfl,T.q46,?_⟩;walk_at"w";walk_at"ss";intro s1 hs1;generalize hUs1:upd H s1 _=H1;have sH1:=xg.of_eq hs1 hUs1;have es1:=xj hUs1;clear hUs1;walk_at"w";have hd1:dx=none∨∃d fs,dx=some d∧H1 d=some (.xd fs):=hd.imp id fun⟨d,fs,e,h⟩=>⟨d,fs,e,sH1.at h⟩;refine⟨a.q0i,_,_,_,rfl,hd1,T.q3O,rfl,rfl,T.q4m,?_⟩;walk_at"w";refine⟨a.q0i,_,_,_,rfl,hd1,T.q3O,rfl,rfl,T.q3R,?_⟩;walk_at"w";refine⟨a.q0i,_,_,_,rfl,hd1,T.q3O,rfl,rfl,T.q3C,?_⟩;walk_at"w";walk_at"ss";intro s2 hs2;generalize hUs2:upd H1 s2 _=H2;have sH2:=xg.of_eq hs2 hUs2;have es2:=xj hUs2;clear hUs2;walk_at"w";refine⟨s1,s2,_,_,rfl,rfl,sH2.at es1,es2,by decide,?_⟩;intro l hl;generalize hUl:upd H2 l _=H3;have sH3:=xg.of_eq hl hUl;have el:=xj hUl;clear hUl;walk_at"w";exact q l H3 (sH1.trans (sH2.trans sH3)) el
  ·walk_at"w";refine⟨a.q0e,_,_,_,rfl,hd,T.q14,rfl,rfl,T.q4q,?_⟩;walk_at"w";refine⟨a.q0e,_,_,_,rfl,hd,T.q14,rfl,rfl,T.q3I,?_⟩;walk_at"w";refine⟨a.q0e,_,_,_,rfl,hd,T.q14,rfl,rfl,T.q3W,?_⟩;walk_at"w";refine⟨a.q0e,_,_,_,rfl,hd,T.q14,rfl,rfl,T.q39,?_⟩;walk_at"w";walk_at"ss";intro s1 hs1;generalize hUs1:upd H s1 _=H1;have sH1:=xg.of_eq hs1 hUs1;have es1:=xj hUs1;clear hUs1;walk_at"w";have hd1:dx=none∨∃d fs,dx=some d∧H1 d=some (.xd fs):=hd.imp id fun⟨d,fs,e,h⟩=>⟨d,fs,e,sH1.at h⟩;refine⟨a.q0e,_,_,_,rfl,hd1,T.q14,rfl,rfl,T.q3H,?_⟩;walk_at"w";refine⟨a.q0e,_,_,_,rfl,hd1,T.q14,rfl,rfl,T.q3e,?_⟩;walk_at"w";refine⟨a.q0e,_,_,_,rfl,hd1,T.q14,rfl,rfl,T.q2Y,?_⟩;walk_at"w";walk_at"ss";intro s2 hs2;generalize hUs2:upd H1 s2 _=H2;have sH2:=xg.of_eq hs2 hUs2;have es2:=xj hUs2;clear hUs2;walk_at"w";refine⟨s1,s2,_,_,rfl,rfl,sH2.at es1,es2,by decide,?_⟩;intro l hl;generalize hUl:upd H2 l _=H3;have sH3:=xg.of_eq hl hUl;have el:=xj hUl;clear hUl;walk_at"w";exact q l H3 (sH1.trans (sH2.trans sH3)) el
  ·walk_at"w";refine⟨a.q0b,_,_,_,rfl,hd,T.q18,rfl,rfl,T.q4O,?_⟩;walk_at"w";refine⟨a.q0b,_,_,_,rfl,hd,T.q18,rfl,rfl,T.q3T,?_⟩;walk_at"w";refine⟨a.q0b,_,_,_,rfl,hd,T.q18,rfl,rfl,T.q37,?_⟩;walk_at"w";refine⟨a.q0b,_,_,_,rfl,hd,T.q18,rfl,rfl,T.q4o,?_⟩;walk_at"w";walk_at"ss";intro s1 hs1;generalize hUs1:upd H s1 _=H1;have sH1:=xg.of_eq hs1 hUs1;have es1:=xj hUs1;clear hUs1;walk_at"w";have hd1:dx=none∨∃d fs,dx=some d∧H1 d=some (.xd fs):=hd.imp id fun⟨d,fs,e,h⟩=>⟨d,fs,e,sH1.at h⟩;refine⟨a.q0b,_,_,_,rfl,hd1,T.q18,rfl,rfl,T.q3S,?_⟩;walk_at"w";refine⟨a.q0b,_,_,_,rfl,hd1,T.q18,rfl,rfl,T.q3q,?_⟩;walk_at"w";refine⟨a.q0b,_,_,_,rfl,hd1,T.q18,rfl,rfl,T.q27,?_⟩;walk_at"w";walk_at"ss";intro s2 hs2;generalize hUs2:upd H1 s2 _=H2;have sH2:=xg.of_eq hs2 hUs2;have es2:=xj hUs2;clear hUs2;walk_at"w";refine⟨s1,s2,_,_,rfl,rfl,sH2.at es1,es2,by decide,?_⟩;intro l hl;generalize hUl:upd H2 l _=H3;have sH3:=xg.of_eq hl hUl;have el:=xj hUl;clear hUl;walk_at"w";exact q l H3 (sH1.trans (sH2.trans sH3)) el
  ·walk_at"w";refine⟨a.q0f,_,_,_,rfl,hd,T.q3a,rfl,rfl,T.q47,?_⟩;walk_at"w";refine⟨a.q0f,_,_,_,rfl,hd,T.q3a,rfl,rfl,T.q4b,?_⟩;walk_at"w";refine⟨a.q0f,_,_,_,rfl,hd,T.q3a,rfl,rfl,T.q4s,?_⟩;walk_at"w";refine⟨a.q0f,_,_,_,rfl,hd,T.q3a,rfl,rfl,T.q4P,?_⟩;walk_at"w";walk_at"ss";intro s1 hs1;generalize hUs1:upd H s1 _=H1;have sH1:=xg.of_eq hs1 hUs1;have es1:=xj hUs1;clear hUs1;walk_at"w";have hd1:dx=none∨∃d fs,dx=some d∧H1 d=some (.xd fs):=hd.imp id fun⟨d,fs,e,h⟩=>⟨d,fs,e,sH1.at h⟩;refine⟨a.q0f,_,_,_,rfl,hd1,T.q3a,rfl,rfl,T.q4a,?_⟩;walk_at"w";refine⟨a.q0f,_,_,_,rfl,hd1,T.q3a,rfl,rfl,T.q3J,?_⟩;walk_at"w";refine⟨a.q0f,_,_,_,rfl,hd1,T.q3a,rfl,rfl,T.q3p,?_⟩;walk_at"w";walk_at"ss";intro s2 hs2;generalize hUs2:upd H1 s2 _=H2;have sH2:=xg.of_eq hs2 hUs2;have es2:=xj hUs2;clear hUs2;walk_at"w";refine⟨s1,s2,_,_,rfl,rfl,sH2.at es1,es2,by decide,?_⟩;intro l hl;generalize hUl:upd H2 l _=H3;have sH3:=xg.of_eq hl hUl;have el:=xj hUl;clear hUl;walk_at"w";exact q l H3 (sH1.trans (sH2.trans sH3)) el
  ·walk_at"w";refine⟨a.q0g,_,_,_,rfl,hd,T.q13,rfl,rfl,T.q4p,?_⟩;walk_at"w";refine⟨a.q0g,_,_,_,rfl,hd,T.q13,rfl,rfl,T.q3F,?_⟩;walk_at"w";refine⟨a.q0g,_,_,_,rfl,hd,T.q13,rfl,rfl,T.q3U,?_⟩;walk_at"w";refine⟨a.q0g,_,_,_,rfl,hd,T.q13,rfl,rfl,T.q38,?_⟩;walk_at"w";walk_at"ss";intro s1 hs1;generalize hUs1:upd H s1 _=H1;have sH1:=xg.of_eq hs1 hUs1;have es1:=xj hUs1;clear hUs1;walk_at"w";have hd1:dx=none∨∃d fs,dx=some d∧H1 d=some (.xd fs):=hd.imp id fun⟨d,fs,e,h⟩=>⟨d,fs,e,sH1.at h⟩;refine⟨a.q0g,_,_,_,rfl,hd1,T.q13,rfl,rfl,T.q3E,?_⟩;walk_at"w";refine⟨a.q0g,_,_,_,rfl,hd1,T.q13,rfl,rfl,T.q3b,?_⟩;walk_at"w";refine⟨a.q0g,_,_,_,rfl,hd1,T.q13,rfl,rfl,T.q2X,?_⟩;walk_at"w";walk_at"ss";intro s2 hs2;generalize hUs2:upd H1 s2 _=H2;have sH2:=xg.of_eq hs2 hUs2;have es2:=xj hUs2;clear hUs2;walk_at"w";refine⟨s1,s2,_,_,rfl,rfl,sH2.at es1,es2,by decide,?_⟩;intro l hl;generalize hUl:upd H2 l _=H3;have sH3:=xg.of_eq hl hUl;have el:=xj hUl;clear hUl;walk_at"w";exact q l H3 (sH1.trans (sH2.trans sH3)) el
  ·walk_at"w";refine⟨a.q0a,_,_,_,rfl,hd,T.q1v,rfl,rfl,T.q3V,?_⟩;walk_at"w";refine⟨a.q0a,_,_,_,rfl,hd,T.q1v,rfl,rfl,T.q3d,?_⟩;walk_at"w";refine⟨a.q0a,_,_,_,rfl,hd,T.q1v,rfl,rfl,T.q3r,?_⟩;walk_at"w";refine⟨a.q0a,_,_,_,rfl,hd,T.q1v,rfl,rfl,T.q3G,?_⟩;walk_at"w";walk_at"ss";intro s1 hs1;generalize hUs1:upd H s1 _=H1;have sH1:=xg.of_eq hs1 hUs1;have es1:=xj hUs1;clear hUs1;walk_at"w";have hd1:dx=none∨∃d fs,dx=some d∧H1 d=some (.xd fs):=hd.imp id fun⟨d,fs,e,h⟩=>⟨d,fs,e,sH1.at h⟩;refine⟨a.q0a,_,_,_,rfl,hd1,T.q1v,rfl,rfl,T.q3c,?_⟩;walk_at"w";refine⟨a.q0a,_,_,_,rfl,hd1,T.q1v,rfl,rfl,T.q2I,?_⟩;walk_at"w";refine⟨a.q0a,_,_,_,rfl,hd1,T.q1v,rfl,rfl,T.q2f,?_⟩;walk_at"w";walk_at"ss";intro s2 hs2;generalize hUs2:upd H1 s2 _=H2;have sH2:=xg.of_eq hs2 hUs2;have es2:=xj hUs2;clear hUs2;walk_at"w";refine⟨s1,s2,_,_,rfl,rfl,sH2.at es1,es2,by decide,?_⟩;intro l hl;generalize hUl:upd H2 l _=H3;have sH3:=xg.of_eq hl hUl;have el:=xj hUl;clear hUl;walk_at"w";exact q l H3 (sH1.trans (sH2.trans sH3)) el
end
section
variable {P:av} {w:World} {K:ag} {mg:Str→Option Value} {base:Heap} {a:Adr}
structure Dd where
 d:Nat
 o:Int
 n:Int
 rs:List xq
 total:Int
 tries:Int
 nw:List Int
def yk(s:BdS)(x:Dd):Option (Nat×Option (List V)):=match x.d with
 |0=>none
 |1=>if s.run=none then some (0,none)else if s.mark (!s.mr)=("trial":Str)then some (1,none)else match jF x.rs x.n with
  |some xs=>some (2,some xs)
  |none=>if zP s x.o x.n=true then none else some (3,none)
 |2=>if s.run=none then some (0,none)else if s.run=some (!s.mr)∧s.mark (!s.mr)=("trial":Str)then none else some (4,none)
 |_=>if s.run=none then some (0,none)else if s.mark (!s.mr)=("good":Str)then none else some (5,none)
def vj(s:BdS)(x:Dd):V:=match x.d with
 |0=>.int (bI (startB s))
 |1=>.bl (decide (x.nw.sum=x.total))
 |_=>.non
def trS(s:BdS)(x:Dd)(nn:List (Option Int))(k:Int):BdS:={s with cells:=upB s.cells (!s.mr) (doL (s.cells (!s.mr)) (yn x.rs)),notes:=upB s.notes (!s.mr) nn,len:=upB s.len (!s.mr) x.n,mark:=upB s.mark (!s.mr) (if x.nw.sum=x.total then"trial" else"bad"),ct:=if x.nw.sum=x.total then x.tries else s.ct,cnt:=k}
def fiS(s:BdS)(k:Int):BdS:={s with mark:=upB s.mark (!s.mr) "good",mr:= !s.mr,cnt:=k}
def gbS(s:BdS)(k:Int):BdS:={s with mr:= !s.mr,cnt:=k,run:=none}
def vk(s:BdS)(x:Dd)(nn:List (Option Int))(k:Int):BdS:=match x.d with
 |0=>zz s
 |1=>trS s x nn k
 |2=>fiS s k
 |_=>gbS s k
theorem xoa{s:BdS}{x:Dd}{nn:List (Option Int)}{k:Int}(hd:x.d=0):vk s x nn k=zz s:=by unfold vk;rw[hd];rfl
theorem xob{s:BdS}{x:Dd}{nn:List (Option Int)}{k:Int}(hd:x.d=1):vk s x nn k=trS s x nn k:=by unfold vk;rw[hd];rfl
theorem xoc{s:BdS}{x:Dd}{nn:List (Option Int)}{k:Int}(hd:x.d=2):vk s x nn k=fiS s k:=by unfold vk;rw[hd];rfl
theorem xod{s:BdS}{x:Dd}{nn:List (Option Int)}{k:Int}(hd:x.d=3):vk s x nn k=gbS s k:=by unfold vk;rw[hd];rfl
def xaF(s:BdS)(x:Dd)(nn:List (Option Int))(k:Int):BdS:=if yk s x=none then vk s x nn k else s
def xfu(s:BdS)(x:Dd)(tx:Bool→List Int):Bool→List Int:=if yk s x=none∧x.d=1 then upB tx (!s.mr) x.nw else tx
def uo(H:Hp)(fv:V):Option (List V)→Prop
 |none=>fv= .non
 |some xs=>∃t,fv= .ref t∧H t=some (.tup xs)
def xeD(k:Nat):List V:=((b8 6).map fun i=>V.bl (decide (i=k)))++[.bl true]
def xdb(H:Hp)(t:Addr)(L:List Addr)(v:V):Option (Nat×Option (List V))→Prop
 |none=>∃l,H t=some (.tup [v,.ref l,.non])∧H l=some (.lst [])∧l∉L
 |some (k,f)=>∃l fv,H t=some (.tup [.non,.ref l,fv])∧H l=some (.lst (xeD k))∧l∉L∧uo H fv f
theorem uo.same{H H':Hp}{fv:V}{f:Option (List V)}(h:uo H fv f)(e:xg H H'):uo H' fv f:=by
 cases f with
 |none=>exact h
 |some xs=>obtain⟨t,h1,h2⟩:=h;exact⟨t,h1,e.at h2⟩
theorem uo.kp{L:List Addr}{H H':Hp}{fv:V}{f:Option (List V)}(h:uo H fv f)(e:Kp L H H')(mu:∀x∈L,∃u,H x=some u∧xaC u):uo H' fv f:=by
 cases f with
 |none=>exact h
 |some xs=>obtain⟨t,h1,h2⟩:=h;exact⟨t,h1,vK e mu h2⟩
theorem xdb.kp{H H':Hp}{t:Addr}{L:List Addr}{v:V}{r:Option (Nat×Option (List V))}(h:xdb H t L v r)(e:Kp L H H')(mu:∀x∈L,∃u,H x=some u∧xaC u):xdb H' t L v r:=by
 cases r with
 |none=>obtain⟨l,h1,h2,h3⟩:=h;exact⟨l,vK e mu h1,e _ _ h2 h3,h3⟩
 |some kf=>obtain⟨l,fv,h1,h2,h3,h4⟩:=h;exact⟨l,fv,vK e mu h1,e _ _ h2 h3,h3,h4.kp e mu⟩
def Mk3(m:Str):Prop:=m=("good":Str)∨m=("bad":Str)∨m=("trial":Str)
structure Bok(s:BdS)(tx:Bool→List Int):Prop where
 sz:0≤s.size∧s.size≤11
 cl:∀b,((s.cells b).length:Int)=s.size
 ln:∀b,0≤s.len b∧s.len b≤s.size
 tx:∀b,tx b=(s.cells b).take (s.len b).toNat
 mks:∀b,Mk3 (s.mark b)
 gd:s.mark s.mr=("good":Str)
 nn:∀b,(s.notes b).length=2
 ct:0≤s.ct
theorem Bok.op{s:BdS}{tx:Bool→List Int}(h:Bok s tx)(b:Bool):s.mark b≠("open":Str):=by
 rcases h.mks b with e|e|e<;> rw[e]<;> decide
structure xen(K:ag)(H:Hp)(p:Addr)(x:Dd)(s:BdS)(tx:Bool→List Int):Prop where
 pj:PJ K H p x.o x.n x.rs
 fit:jF x.rs x.n=none→zP s x.o x.n=true→xfr K H p x.o x.n x.rs∧max x.o x.n≤(s.cells (!s.mr)).length∧(∀y∈yn x.rs,uw (s.cells (!s.mr)).length y)∧(x.nw.length:Int)=x.n∧(∀r∈x.rs,Tells (tx (!s.mr)) x.nw r)∧(∀j,j<x.nw.length→∃r∈x.rs,zO r j)∧
  (doL (s.cells (!s.mr)) (yn x.rs)).take x.n.toNat=x.nw
theorem xen.same{K:ag}{H H':Hp}{p:Addr}{x:Dd}{s:BdS}{tx:Bool→List Int}(h:xen K H p x s tx)(e:xg H H'):xen K H' p x s tx:=
 ⟨⟨h.pj.at'.same e,h.pj.ho,h.pj.hn,h.pj.few,h.pj.ok,h.pj.tw⟩,fun h1 h2=>⟨(h.fit h1 h2).1.kp (L:=[]) (Kp.of e) (fun _ z=>nomatch z),(h.fit h1 h2).2⟩⟩
theorem xrQ{s:BdS}{x:Dd}(hd:x.d=1)(h:yk s x=none):s.run≠none∧s.mark (!s.mr)≠("trial":Str)∧jF x.rs x.n=none∧zP s x.o x.n=true:=by
 unfold yk at h;rw[hd]at h;simp only at h
 split at h
 ·cases h
 rename_i h1
 split at h
 ·cases h
 rename_i h2
 split at h
 ·cases h
 rename_i h3
 split at h
 ·rename_i h4;exact⟨h1,h2,h3,h4⟩
 ·cases h
theorem vm{α:Type}{f:Bool→α}{b c:Bool}{v:α}(h:c≠b):upB f b v c=f c:=if_neg h
theorem Bok.out{K:ag}{H:Hp}{p:Addr}{s:BdS}{tx:Bool→List Int}{x:Dd}{nn:List (Option Int)}{k:Int}(h:Bok s tx)(hp:xen K H p x s tx)(hx:x.d≤3)(ht:0≤x.tries)(hn:nn.length=2):Bok (xaF s x nn k) (xfu s x tx):=by
 unfold xaF xfu
 by_cases hr:yk s x=none
 case neg=>rw[if_neg hr,if_neg fun z=>hr z.1];exact h
 rw[if_pos hr];have hdc:x.d=0∨x.d=1∨x.d=2∨x.d=3:=by lia
 rcases hdc with hd|hd|hd|hd
 ·rw[xoa hd,if_neg (fun z=>by rw[hd]at z;simp at z)];unfold zz
  split
  ·split
   ·refine⟨h.sz,h.cl,h.ln,h.tx,fun b=>?_,?_,h.nn,h.ct⟩
    ·show Mk3 (upB s.mark (!s.mr) "bad" b)
     by_cases e:b= !s.mr
     ·rw[e,yz];exact .inr (.inl rfl)
     ·rw[vm e];exact h.mks b
    ·show upB s.mark (!s.mr) "bad" s.mr=_;rw[vm (by cases s.mr<;> decide)];exact h.gd
   ·rename_i hc;exact⟨h.sz,h.cl,h.ln,h.tx,h.mks,h.gd,h.nn,by have:=h.ct;show 0≤s.ct - 1;lia⟩
  ·exact⟨h.sz,h.cl,h.ln,h.tx,h.mks,h.gd,h.nn,h.ct⟩
 ·rw[xob hd,if_pos ⟨hr,hd⟩];obtain⟨r1,r2,r3,r4⟩:=xrQ hd hr;obtain⟨_,f2,f3,f4,_,_,f7⟩:=hp.fit r3 r4;have hcl:=h.cl (!s.mr);refine⟨h.sz,fun b=>?_,fun b=>?_,fun b=>?_,fun b=>?_,?_,fun b=>?_,?_⟩
  ·show((upB s.cells (!s.mr) _ b).length:Int)=s.size
   by_cases e:b= !s.mr
   ·rw[e,yz,xcy];exact hcl
   ·rw[vm e];exact h.cl b
  ·show 0≤upB s.len (!s.mr) x.n b∧upB s.len (!s.mr) x.n b≤s.size
   by_cases e:b= !s.mr
   ·rw[e,yz];exact⟨hp.pj.hn.1,by lia⟩
   ·rw[vm e];exact h.ln b
  ·show upB tx (!s.mr) x.nw b=(upB s.cells (!s.mr) _ b).take (upB s.len (!s.mr) x.n b).toNat
   by_cases e:b= !s.mr
   ·rw[e,yz,yz,yz];exact f7.symm
   ·rw[vm e,vm e,vm e];exact h.tx b
  ·show Mk3 (upB s.mark (!s.mr) _ b)
   by_cases e:b= !s.mr
   ·rw[e,yz]
    split
    ·exact .inr (.inr rfl)
    ·exact .inr (.inl rfl)
   ·rw[vm e];exact h.mks b
  ·show upB s.mark (!s.mr) _ s.mr=_;rw[vm (by cases s.mr<;> decide)];exact h.gd
  ·show(upB s.notes (!s.mr) nn b).length=2
   by_cases e:b= !s.mr
   ·rw[e,yz];exact hn
   ·rw[vm e];exact h.nn b
  ·show 0≤(if x.nw.sum=x.total then x.tries else s.ct)
   split
   ·exact ht
   ·exact h.ct
 ·rw[xoc hd,if_neg (fun z=>by rw[hd]at z;simp at z)];refine⟨h.sz,h.cl,h.ln,h.tx,fun b=>?_,?_,h.nn,h.ct⟩
  ·show Mk3 (upB s.mark (!s.mr) "good" b)
   by_cases e:b= !s.mr
   ·rw[e,yz];exact .inl rfl
   ·rw[vm e];exact h.mks b
  ·show upB s.mark (!s.mr) "good" (!s.mr)=_;rw[yz]
 ·rw[xod hd,if_neg (fun z=>by rw[hd]at z;simp at z)];have:s.mark (!s.mr)=("good":Str):=by
   unfold yk at hr;rw[hd]at hr;simp only at hr
   split at hr
   ·cases hr
   split at hr
   ·assumption
   ·cases hr
  exact⟨h.sz,h.cl,h.ln,h.tx,h.mks,this,h.nn,h.ct⟩
theorem Tl.mono{old old' n:Int}{rs:List xq}(hl:old≤old')(h:Tl old rs n):Tl old' rs n:=by
 induction h with
 |nil=>exact .nil
 | @snoc rs at' n r h1 hg ht hn ih=>
  refine .snoc ih ⟨hg.1,hg.2.1,?_⟩ ht hn;cases r with
  |put to sg=>trivial
  |take to st c=>have:st+c≤old:=hg.2.2;show st+c≤old';lia
theorem NP.sm{old o n:Int}{rs:List xq}(h:NP old o n rs)(ho:old≤11):∀r∈rs,Sm r:=by
 cases h with
 |no=>intro r z;cases z
 |put o sg _ h1 h8 hs=>intro r hr;rw[ao.mp hr];exact⟨by lia,by lia⟩
 |take to st c sg h8 hs h0 h1 h2 h3 h4=>
  intro r hr;rcases aq.mp hr with rfl|hr
  ·exact⟨by lia,by lia,by lia⟩
  rcases aV.mp hr with hr|hr
  ·split at hr
   ·rw[ao.mp hr];exact⟨by lia,by rw[bC];lia⟩
   ·cases hr
  ·split at hr
   ·rw[ao.mp hr];exact⟨by lia,by rw[dn];lia⟩
   ·cases hr
theorem NP.ok{old o n:Int}{rs:List xq}(h:NP old o n rs)(h0:0≤old):∀r∈rs,r.ok∧Fit o n r:=by
 obtain⟨rs0,hp,ht⟩:=h.tl;obtain⟨nw,e,_,_,g,_⟩:=xit (es:=aD old.toNat 0) hp ht (by rw[bq];lia);intro r hr;obtain⟨g1,g2⟩:=g r hr;refine⟨g1.1,?_⟩;cases r with
 |put to sg=>exact g2
 |take to st c=>
  have g3:st+c≤old:=g1.2.2;have g2:to+(c.toNat:Nat)≤n:=g2;have g4:=g1.1.2.2;refine⟨?_,by lia⟩;cases h with
  |no=>cases hr
  |put=>cases ao.mp hr
  |take=>exact g3
theorem NP.run{old o n:Int}{rs:List xq}{C0 tx:List Int}{ln:Nat}(h:NP old o n rs)(h0:0≤old)(ho:old≤11)(he:tx=C0.take ln)(hl:old≤tx.length)(hn:n≤C0.length):
  ∃nw:List Int,(nw.length:Int)=n∧(∀r∈rs,Tells tx nw r)∧(∀j,j<nw.length→∃r∈rs,zO r j)∧(∀y∈yn rs,uw C0.length y)∧(doL C0 (yn rs)).take n.toNat=nw:=by
 obtain⟨rs0,hp,ht⟩:=h.tl;obtain⟨nw,e1,e2,e3,e4,e5,_,_⟩:=xit (es:=tx) hp (ht.mono hl) rfl;have htl:tx.length≤C0.length:=by rw[he,bC];lia
 have hpo:∀y∈yn rs,uw C0.length y:=by
  intro x hx;unfold yn at hx;obtain⟨r,hr,hx⟩:=g9.mp hx;obtain⟨c,hc,rfl⟩:=cy.mp hx;have hk:=(h.ok h0 r hr).1;have g:=e4 r hr;refine xn4 (old:=old) (new:=n) hk (h.sm ho r hr) ?_ (by lia) (by lia) hc;have hf:=(h.ok h0 r hr).2;cases r with
  |put to sg=>exact hf
  |take to st c=>
   refine⟨?_,hf.2⟩;cases h with
   |no=>cases hr
   |put=>cases ao.mp hr
   |take=>exact hf.1
 refine⟨nw,e1,e2,e3,hpo,?_⟩;have sc:xaR tx C0 rs (fun k=>doL C0 (yn (rs.take k))):=⟨⟨C0.drop ln,by rw[he,List.take_append_drop]⟩,xqv (fun r hr=>(h.ok h0 r hr).1) hpo,fun r hr=>⟨(e4 r hr).1,by have:=(e4 r hr).2;lia⟩,e5⟩;have:=sc.fine h.late (nw:=nw) (by lia) e2 e3;rw[bS]at this;rw[←e1,cD];exact this
end
section
variable {P:av} {w:World} {K:ag} {mg:Str→Option Value} {base:Heap} {a:Adr}
def xoe(K:ag)(a:Adr):Sp:=fun vs H Q _=>∃(B:BA) (s:BdS) (tx:Bool→List Int) (x:Dd) (p:Addr),vs=[.ref B.bd,.int x.d,.ref p,.int x.total,.int x.tries]∧xP a H B s∧Tbs H∧Bok s tx∧xen K H p x s tx∧x.d≤3∧
 ∀(t:Addr) (H':Hp) (nn:List (Option Int)) (k:Int),Kp (BS B) H H'→nn.length=2→xP a H' B (xaF s x nn k)→xdb H' t [] (vj s x) (yk s x)→Q (.ref t) H'
theorem xP.liv{a:Adr}{H:Hp}{B:BA}{s:BdS}(h:xP a H B s):Liv H (BS B):=fun y hy=>by
 obtain⟨u,e,_⟩:=h.mu y hy;exact⟨u,e⟩
theorem xhW{s:BdS}{x:Dd}{nn:List (Option Int)}{k:Int}{r:Nat×Option (List V)}(h:yk s x=some r):xaF s x nn k=s:=if_neg fun z=>by rw[h]at z;cases z
theorem xak{s:BdS}{x:Dd}{nn:List (Option Int)}{k:Int}(h:yk s x=none):xaF s x nn k=vk s x nn k:=if_pos h
theorem xof(T:Txt K mg a):xE P w K mg base CX0 12 a.q4C a.xg1 ["_law_board","_law_deed","_law_paper_here","_law_total","_law_tries"] (xoe K a):=by
 refine T.q4J.ok xi7 (fun vs H Q E h=>?_) (fun cdv A outer s H vs Q E hr h=>?_)
 ·obtain⟨B,s,tx,x,p,rfl,_⟩:=h;rfl
 ·obtain⟨B,st,tx,x,p,rfl,hB,hT,hI,hP,hx,q⟩:=h;have nd:=xi7.nd;refine⟨_,(xh (xD (i:=5) nd rfl (az rfl) yi)
  (xh (xD (i:=6) nd rfl (az rfl) (xY xf))
  (xh (xD (i:=7) nd rfl (az rfl) yi)
  (xh (xmt (i:=8) ⟨rfl,rfl,rfl⟩ T.q5L (by rfl) T.xfi T.q5o (by rfl) T.xj6 nd rfl rfl (fun _ _=>(xh (zu (xM (xO yJ (cv 1) xk) (xm (xD (i:=5) nd rfl (az rfl) (xU (cv 0) T.q0c T.q4Q (xhk T) (hr.mono (by decide)) T.xh5 .nil xu))) xx))
  (xh (zu (xM (xO yJ (cv 1) xk) (xm (xD (i:=5) nd rfl (az rfl) (xiO ⟨rfl,rfl,rfl⟩ (cv 0) T.q0c T.q4t (xgu T) (hr.mono (by decide)) T.xg9 .nil (xc (cv 2) (xc (cv 3) (xc (cv 4) xf)))))) xx))
  (xh (zu (xM (xO yJ (cv 1) xk) (xm (xD (i:=5) nd rfl (az rfl) (xad ⟨rfl,rfl,rfl⟩ (cv 0) T.q0c T.q48 (xil T) (hr.mono (by decide)) T.xiZ .nil))) xx))
  (xm (xM (xO yJ (cv 1) xk) (xm (xD (i:=5) nd rfl (az rfl) (xad ⟨rfl,rfl,rfl⟩ (cv 0) T.q0c T.q4c (xfs T) (hr.mono (by decide)) T.xgc .nil))) xx)))))) (fun _ _ _ _ ep=>(xh (xD (i:=6) nd rfl (az rfl) (xiP ep (fun _ z=>aY _ z) (xjE T) (xX.calm (xX.mono hr (by decide))) (by rfl) T.xkA T.q4f.kp T.xkz (xc (cv 8) xf)))
  (xm (xD (i:=7) nd rfl (az rfl) (xo8 (K:=K) rfl ep (by exact fun _ z=>aY _ z) (cv 8) rfl))))) (fun _ _ _ _ ep=>(xm (xD (i:=6) nd rfl (az rfl) (xiP ep (fun _ z=>aY _ z) (xjE T) (xX.calm (xX.mono hr (by decide))) (by rfl) T.xkA T.q4f.kp T.xkz (xc (cv 8) xf))))))
  (xm (xw (xH (xc (cv 5) (xc (cv 6) (xc (cv 7) xf)))))))))),?_⟩
  walk_at"w";walk_at"ss";intro kl hkl;generalize hUkl:upd H kl _=H1;have sH1:=xg.of_eq hkl hUkl;have ekl:=xj hUkl;clear hUkl;walk_at"w";have hB1:=hB.same sH1;have hT1:=hT.same sH1;have hP1:=hP.same sH1;have okl:kl∉BS B:=hB.liv.off hkl;have yes:∀(v:V) (t:Addr) (G G1:Hp) (nn:List (Option Int)) (k:Int),yk st x=none→vj st x=v→Kp (BS B) H1 G→nn.length=2→xP a G B (vk st x nn k)→xg G G1→G1 t=some (.tup [v,.ref kl,.non])→Q (.ref t) G1:=fun v t G G1 nn k h1 h2 h3 h4 h5 s1 et=>by
   refine q t G1 nn k ((Kp.of sH1).trans (h3.trans (Kp.of s1))) h4 (by rw[xak h1];exact h5.same s1) ?_;rw[h1];exact⟨kl,by rw[h2];exact et,s1.at (h3 _ _ ekl okl),by simp⟩
  have no:∀(k:Nat) (f:Option (List V)) (fv:V) (l t:Addr) (G:Hp),yk st x=some (k,f)→xg H1 G→G t=some (.tup [.non,.ref l,fv])→G l=some (.lst (xeD k))→uo G fv f→Q (.ref t) G:=fun k f fv l t G h1 s1 et el hf=>by
   refine q t G [none,none] 0 (Kp.of (sH1.trans s1)) rfl (by rw[xhW h1];exact hB1.same s1) ?_;rw[h1];exact⟨l,fv,et,el,by simp,hf⟩
  have hdc:x.d=0∨x.d=1∨x.d=2∨x.d=3:=by lia
  rcases hdc with hd|hd|hd|hd
  ·rw[hd];walk_at"w";refine⟨fun σ' G=>σ'=[some (.ref B.bd),some (.int ((0:Nat):Int)),some (.ref p),some (.int x.total),some (.int x.tries),some (.int (bI (startB st))),some (.ref kl),some (.non),none]∧Kp (BS B) H1 G∧∃nn k,nn.length=2∧xP a G B (vk st x nn k)∧yk st x=none,?_,?_⟩
   ·walk_at"w";refine⟨fun _=>?_,by walk_at"no"⟩;walk_at"w";refine⟨B.bd,B.dx,_,rfl,hB1.bd,rfl,?_⟩;walk_at"w";refine⟨B,st,rfl,hB1,hT1,fun H2 k2 hB2=>?_⟩;exact⟨rfl,k2,[none,none],0,rfl,by rw[xoa hd];exact hB2,by unfold yk;rw[hd];rfl⟩
   rintro σ' G ⟨rfl,kG,nn,k,hn,hG,hr0⟩;walk_at"w";refine⟨fun σ' G'=>σ'=[some (.ref B.bd),some (.int ((0:Nat):Int)),some (.ref p),some (.int x.total),some (.int x.tries),some (.int (bI (startB st))),some (.ref kl),some (.non),none]∧G=G',?_,?_⟩
   ·walk_at"w";refine⟨by walk_at"no",fun _=>?_⟩;exact⟨rfl,rfl⟩
   rintro σ' _ ⟨rfl,rfl⟩;walk_at"w";refine⟨fun σ' G'=>σ'=[some (.ref B.bd),some (.int ((0:Nat):Int)),some (.ref p),some (.int x.total),some (.int x.tries),some (.int (bI (startB st))),some (.ref kl),some (.non),none]∧G=G',?_,?_⟩
   ·walk_at"w";refine⟨by walk_at"no",fun _=>?_⟩;exact⟨rfl,rfl⟩
   rintro σ' _ ⟨rfl,rfl⟩;walk_at"w";refine⟨by walk_at"no",fun _=>?_⟩;walk_at"w";walk_at"ss";intro t ht;generalize hUt:upd G t _=G1;have sG1:=xg.of_eq ht hUt;have et:=xj hUt;clear hUt;walk_at"w";exact yes _ t G G1 nn k hr0 (by unfold vj;rw[hd];rfl) kG hn hG sG1 et
  ·rw[hd];walk_at"w";refine⟨fun σ' G=>σ'=[some (.ref B.bd),some (.int ((1:Nat):Int)),some (.ref p),some (.int x.total),some (.int x.tries),some (.non),some (.ref kl),some (.non),none]∧H1=G,?_,?_⟩
   ·walk_at"w";refine⟨by walk_at"no",fun _=>?_⟩;exact⟨rfl,rfl⟩
   rintro σ' _ ⟨rfl,rfl⟩;walk_at"w";refine⟨fun σ' G=>σ'=[some (.ref B.bd),some (.int ((1:Nat):Int)),some (.ref p),some (.int x.total),some (.int x.tries),some (.bl (decide (x.nw.sum=x.total))),some (.ref kl),some (.non),none]∧Kp (BS B) H1 G∧∃nn k,nn.length=2∧xP a G B (vk st x nn k)∧yk st x=none,?_,?_⟩
   ·walk_at"w";refine⟨fun _=>?_,by walk_at"no"⟩;walk_at"w";refine⟨B.bd,B.dx,_,rfl,hB1.bd,rfl,?_⟩;walk_at"w";refine⟨B,st,p,x.o,x.n,x.rs,x.total,x.tries,rfl,hB1,hT1,hP1.pj,hI.op _,hI.nn _,fun c H2 s2=>?_,fun c1 c2 H2 s2=>?_,fun c1 c2 xs c3 d ft H2 s2 ed eft=>?_,fun c1 c2 c3 c4 H2 s2=>?_,fun c1 c2 c3 c4=>?_⟩
    ·walk_at"w";refine⟨a.q0i,rfl,.inr ⟨T.q2W,T.q11,fun ae hae=>?_⟩⟩;walk_at"w";refine⟨a.q0i,0,rfl,rfl,.inl ⟨rfl,rfl⟩,.inl rfl,fun l H3 s3 el=>?_⟩;walk_at"w";walk_at"ss";intro t ht;generalize hUt:upd H3 t _=H4;have sH4:=xg.of_eq ht hUt;have et:=xj hUt;clear hUt;walk_at"w";exact no 0 none .non l t H4 (by unfold yk;rw[hd];exact if_pos c) (s2.trans (s3.trans sH4)) et (sH4.at el) rfl
    ·walk_at"w";refine⟨a.q0e,rfl,.inr ⟨T.q3Q,T.q29,fun ae hae=>?_⟩⟩;walk_at"w";refine⟨a.q0e,1,rfl,rfl,.inr (.inl ⟨rfl,rfl⟩),.inl rfl,fun l H3 s3 el=>?_⟩;walk_at"w";walk_at"ss";intro t ht;generalize hUt:upd H3 t _=H4;have sH4:=xg.of_eq ht hUt;have et:=xj hUt;clear hUt;walk_at"w";exact no 1 none .non l t H4 (by unfold yk;rw[hd];show(if _ then _ else _)=_;rw[if_neg c1,if_pos c2]) (s2.trans (s3.trans sH4)) et (sH4.at el) rfl
    ·walk_at"w";refine⟨a.q0b,rfl,.inl ⟨T.q36,fun ae hae=>?_⟩⟩;walk_at"w";refine⟨a.q0b,2,rfl,rfl,.inr (.inr (.inl ⟨rfl,rfl⟩)),.inr ⟨d,_,rfl,ed⟩,fun l H3 s3 el=>?_⟩;walk_at"w";refine⟨_,d,_,.ref ft,rfl,rfl,rfl,s3.at ed,T.q18,T.xmG,T.q3s,rfl,?_⟩;walk_at"w";walk_at"ss";intro t ht;generalize hUt:upd H3 t _=H4;have sH4:=xg.of_eq ht hUt;have et:=xj hUt;clear hUt;walk_at"w";exact no 2 (some xs) (.ref ft) l t H4 (by unfold yk;rw[hd];show(if _ then _ else _)=_;rw[if_neg c1,if_neg c2,c3]) (s2.trans (s3.trans sH4)) et (sH4.at el) ⟨ft,rfl,(s3.trans sH4).at eft⟩
    ·walk_at"w";refine⟨a.q0f,rfl,.inr ⟨T.q4l,T.q3D,fun ae hae=>?_⟩⟩;walk_at"w";refine⟨a.q0f,3,rfl,rfl,.inr (.inr (.inr (.inl ⟨rfl,rfl⟩))),.inl rfl,fun l H3 s3 el=>?_⟩;walk_at"w";walk_at"ss";intro t ht;generalize hUt:upd H3 t _=H4;have sH4:=xg.of_eq ht hUt;have et:=xj hUt;clear hUt;walk_at"w";exact no 3 none .non l t H4 (by unfold yk;rw[hd];show(if _ then _ else _)=_;rw[if_neg c1,if_neg c2,c3];show(if _ then _ else _)=_;rw[c4];rfl) (s2.trans (s3.trans sH4)) et (sH4.at el) rfl
    ·obtain⟨f1,f2,f3,_,_,_,f7⟩:=hP1.fit c3 c4;refine⟨f1,f2,f3,fun H2 nn k k2 hn hB2=>?_⟩;have hr0:yk st x=none:=by unfold yk;rw[hd];show(if _ then _ else _)=_;rw[if_neg c1,if_neg c2,c3];show(if _ then _ else _)=_;rw[c4];rfl
     have hB3:xP a H2 B (vk st x nn k):=by rw[xob hd];unfold trS;unfold xgq at hB2;rw[f7]at hB2;exact hB2
     rw[f7];exact⟨rfl,k2,nn,k,hn,hB3,hr0⟩
   rintro σ' G ⟨rfl,kG,nn,k,hn,hG,hr0⟩;walk_at"w";refine⟨fun σ' G'=>σ'=[some (.ref B.bd),some (.int ((1:Nat):Int)),some (.ref p),some (.int x.total),some (.int x.tries),some (.bl (decide (x.nw.sum=x.total))),some (.ref kl),some (.non),none]∧G=G',?_,?_⟩
   ·walk_at"w";refine⟨by walk_at"no",fun _=>?_⟩;exact⟨rfl,rfl⟩
   rintro σ' _ ⟨rfl,rfl⟩;walk_at"w";refine⟨by walk_at"no",fun _=>?_⟩;walk_at"w";walk_at"ss";intro t ht;generalize hUt:upd G t _=G1;have sG1:=xg.of_eq ht hUt;have et:=xj hUt;clear hUt;walk_at"w";exact yes _ t G G1 nn k hr0 (by unfold vj;rw[hd];rfl) kG hn hG sG1 et
  ·rw[hd];walk_at"w";refine⟨fun σ' G=>σ'=[some (.ref B.bd),some (.int ((2:Nat):Int)),some (.ref p),some (.int x.total),some (.int x.tries),some (.non),some (.ref kl),some (.non),none]∧H1=G,?_,?_⟩
   ·walk_at"w";refine⟨by walk_at"no",fun _=>?_⟩;exact⟨rfl,rfl⟩
   rintro σ' _ ⟨rfl,rfl⟩;walk_at"w";refine⟨fun σ' G=>σ'=[some (.ref B.bd),some (.int ((2:Nat):Int)),some (.ref p),some (.int x.total),some (.int x.tries),some (.non),some (.ref kl),some (.non),none]∧H1=G,?_,?_⟩
   ·walk_at"w";refine⟨by walk_at"no",fun _=>?_⟩;exact⟨rfl,rfl⟩
   rintro σ' _ ⟨rfl,rfl⟩;walk_at"w";refine⟨fun σ' G=>σ'=[some (.ref B.bd),some (.int ((2:Nat):Int)),some (.ref p),some (.int x.total),some (.int x.tries),some (.non),some (.ref kl),some (.non),none]∧Kp (BS B) H1 G∧∃nn k,nn.length=2∧xP a G B (vk st x nn k)∧yk st x=none,?_,?_⟩
   ·walk_at"w";refine⟨fun _=>?_,by walk_at"no"⟩;walk_at"w";refine⟨B.bd,B.dx,_,rfl,hB1.bd,rfl,?_⟩;walk_at"w";refine⟨B,st,rfl,hB1,hT1,fun c H2 s2=>?_,fun c1 c2 H2 s2=>?_,fun c1 c2 H2 k k2 hB2=>?_⟩
    ·walk_at"w";refine⟨a.q0i,rfl,.inr ⟨T.q2W,T.q11,fun ae hae=>?_⟩⟩;walk_at"w";refine⟨a.q0i,0,rfl,rfl,.inl ⟨rfl,rfl⟩,.inl rfl,fun l H3 s3 el=>?_⟩;walk_at"w";walk_at"ss";intro t ht;generalize hUt:upd H3 t _=H4;have sH4:=xg.of_eq ht hUt;have et:=xj hUt;clear hUt;walk_at"w";exact no 0 none .non l t H4 (by unfold yk;rw[hd];exact if_pos c) (s2.trans (s3.trans sH4)) et (sH4.at el) rfl
    ·walk_at"w";refine⟨a.q0g,rfl,.inr ⟨T.q3P,T.q28,fun ae hae=>?_⟩⟩;walk_at"w";refine⟨a.q0g,4,rfl,rfl,.inr (.inr (.inr (.inr (.inl ⟨rfl,rfl⟩)))),.inl rfl,fun l H3 s3 el=>?_⟩;walk_at"w";walk_at"ss";intro t ht;generalize hUt:upd H3 t _=H4;have sH4:=xg.of_eq ht hUt;have et:=xj hUt;clear hUt;walk_at"w";exact no 4 none .non l t H4 (by unfold yk;rw[hd];show(if _ then _ else _)=_;rw[if_neg c1];exact if_neg c2) (s2.trans (s3.trans sH4)) et (sH4.at el) rfl
    ·exact⟨rfl,k2,[none,none],k,rfl,by rw[xoc hd];exact hB2,(by unfold yk;rw[hd];show(if _ then _ else _)=_;rw[if_neg (by rw[c1];simp)];exact if_pos ⟨c1,c2⟩)⟩
   rintro σ' G ⟨rfl,kG,nn,k,hn,hG,hr0⟩;walk_at"w";refine⟨by walk_at"no",fun _=>?_⟩;walk_at"w";walk_at"ss";intro t ht;generalize hUt:upd G t _=G1;have sG1:=xg.of_eq ht hUt;have et:=xj hUt;clear hUt;walk_at"w";exact yes _ t G G1 nn k hr0 (by unfold vj;rw[hd];rfl) kG hn hG sG1 et
  ·rw[hd];walk_at"w";refine⟨fun σ' G=>σ'=[some (.ref B.bd),some (.int ((3:Nat):Int)),some (.ref p),some (.int x.total),some (.int x.tries),some (.non),some (.ref kl),some (.non),none]∧H1=G,?_,?_⟩
   ·walk_at"w";refine⟨by walk_at"no",fun _=>?_⟩;exact⟨rfl,rfl⟩
   rintro σ' _ ⟨rfl,rfl⟩;walk_at"w";refine⟨fun σ' G=>σ'=[some (.ref B.bd),some (.int ((3:Nat):Int)),some (.ref p),some (.int x.total),some (.int x.tries),some (.non),some (.ref kl),some (.non),none]∧H1=G,?_,?_⟩
   ·walk_at"w";refine⟨by walk_at"no",fun _=>?_⟩;exact⟨rfl,rfl⟩
   rintro σ' _ ⟨rfl,rfl⟩;walk_at"w";refine⟨fun σ' G=>σ'=[some (.ref B.bd),some (.int ((3:Nat):Int)),some (.ref p),some (.int x.total),some (.int x.tries),some (.non),some (.ref kl),some (.non),none]∧H1=G,?_,?_⟩
   ·walk_at"w";refine⟨by walk_at"no",fun _=>?_⟩;exact⟨rfl,rfl⟩
   rintro σ' _ ⟨rfl,rfl⟩;walk_at"w";refine⟨fun _=>?_,by walk_at"no"⟩;walk_at"w";refine⟨B.bd,B.dx,_,rfl,hB1.bd,rfl,?_⟩;walk_at"w";refine⟨B,st,rfl,hB1,hT1,fun c H2 s2=>?_,fun c1 c2 H2 s2=>?_,fun c1 c2 H2 k k2 hB2=>?_⟩
   ·walk_at"w";refine⟨a.q0i,rfl,.inr ⟨T.q2W,T.q11,fun ae hae=>?_⟩⟩;walk_at"w";refine⟨a.q0i,0,rfl,rfl,.inl ⟨rfl,rfl⟩,.inl rfl,fun l H3 s3 el=>?_⟩;walk_at"w";walk_at"ss";intro t ht;generalize hUt:upd H3 t _=H4;have sH4:=xg.of_eq ht hUt;have et:=xj hUt;clear hUt;walk_at"w";exact no 0 none .non l t H4 (by unfold yk;rw[hd];exact if_pos c) (s2.trans (s3.trans sH4)) et (sH4.at el) rfl
   ·walk_at"w";refine⟨a.q0a,rfl,.inr ⟨T.q3o,T.q2H,fun ae hae=>?_⟩⟩;walk_at"w";refine⟨a.q0a,5,rfl,rfl,.inr (.inr (.inr (.inr (.inr ⟨rfl,rfl⟩)))),.inl rfl,fun l H3 s3 el=>?_⟩;walk_at"w";walk_at"ss";intro t ht;generalize hUt:upd H3 t _=H4;have sH4:=xg.of_eq ht hUt;have et:=xj hUt;clear hUt;walk_at"w";exact no 5 none .non l t H4 (by unfold yk;rw[hd];show(if _ then _ else _)=_;rw[if_neg c1];exact if_neg c2) (s2.trans (s3.trans sH4)) et (sH4.at el) rfl
   ·walk_at"w";walk_at"ss";intro t ht;generalize hUt:upd H2 t _=H3;have sH3:=xg.of_eq ht hUt;have et:=xj hUt;clear hUt;walk_at"w";exact yes .non t H2 H3 [none,none] k (by unfold yk;rw[hd];show(if _ then _ else _)=_;rw[if_neg c1];exact if_pos c2) (by unfold vj;rw[hd];rfl) k2 rfl (by rw[xod hd];exact hB2) sH3 et
end
section
variable {P:av} {w:World} {K:ag} {mg:Str→Option Value} {base:Heap} {a:Adr}
def xog(H:Hp)(Q:VK)(s:BdS)(x:Dd)(tx:Bool→List Int)(L:List Addr):Prop:=∀(pp ta t':Addr) (H':Hp),xg H H'→H' pp=some (.tup [.ref ta,.ref t'])→xdb H' ta L (vj s x) (yk s x)→yr H' t' (xaF s x [] 0) (xfu s x tx) L→Q (.ref pp) H'
def xpF(K:ag):Sp:=fun vs H Q _=>∃(t p:Addr) (fv:V) (s:BdS) (tx:Bool→List Int) (L:List Addr) (x:Dd),vs=[.ref t,.ref p,fv,.int s.size,.int x.total,.int x.tries]∧x.d=1∧yr H t s tx L∧Liv H L∧Bok s tx∧xen K H p x s tx∧uo H fv (jF x.rs x.n)∧xog H Q s x tx L
theorem xal{H:Hp}{Q:VK}{s:BdS}{x:Dd}{tx:Bool→List Int}{L:List Addr}{t:Addr}(q:xog H Q s x tx L)(hS:yr H t s tx L)(hL:Liv H L){k:Nat}{f:Option (List V)}(hr:yk s x=some (k,f)){p l pp:Addr}{fv:V}{H1 H2:Hp}(s1:xg H H1)(hl:H l=none)(ep:H1 p=some (.tup [.non,.ref l,fv]))(el:H1 l=some (.lst (xeD k)))(hf:uo H1 fv f)(s2:xg H1 H2)(epp:H2 pp=some (.tup [.ref p,.ref t])):Q (.ref pp) H2:=by
 refine q pp p t H2 (s1.trans s2) epp ?_ ?_
 ·rw[hr];exact⟨l,fv,s2.at ep,s2.at el,hL.off hl,hf.same s2⟩
 ·rw[xhW hr];have:xfu s x tx=tx:=if_neg fun z=>by rw[hr]at z;cases z.1
  rw[this];exact hS.same (s1.trans s2)
theorem xlP{te:TE}{caps:L2.St}{Q:VK}{H2:Hp}(v:Bool→V)(hs:∀(b:Bool) (H3:Hp),xg H2 H3→∀R:VK,(∀H6,xg H3 H6→R (v b) H6)→te (some (.int (bI b))::caps) H3 R)
  (hd:∀(D:Addr) (H':Hp),H2 D=none→xg H2 H'→H' D=some (.lst [v false,v true])→Q (.ref D) H'):zv (Its 0 1 (yy 0 2 1)) caps xgI te Q H2:=by
 rw[show yy 0 2 1=2 from rfl];refine xdM (fun i acc _=>acc=[v false,v true].take i) (by decide) rfl (fun i acc H3 H3' hi s3 s3' hP R hR=>?_) (fun D acc H H' hD _ s3 s3' hP _ hv=>hd D H' hD (s3.trans s3') (by rw[hv,hP];rfl));subst hP
 match i,hi with
 |0,_=>exact hs false H3' (s3.trans s3') R fun H6 s6=>hR _ H6 s6 fun _ _ _=>rfl
 |1,_=>exact hs true H3' (s3.trans s3') R fun H6 s6=>hR _ H6 s6 fun _ _ _=>rfl
theorem xlQ{b c:Bool}:(!decide (bI b=bI c))=true↔b≠c:=by cases b<;> cases c<;> decide
theorem xlR{b c:Bool}:(!decide (bI b=bI c))=false↔b=c:=by cases b<;> cases c<;> decide
theorem xm2(T:Txt K mg a):xE P w K mg base CX0 2 a.q33 a.xfc ["_law_stand","_law_paper_here","_law_fault","_law_size","_law_total","_law_tries"] (xpF K):=by
 refine T.q35.ok xhN (fun vs H Q E h=>?_) (fun cdv A outer s H vs Q E hr h=>?_)
 ·obtain⟨t,p,fv,s,tx,L,x,rfl,_⟩:=h;rfl
 ·obtain⟨t,p,fv,st,tx,L,x,rfl,hd,hS,hL,hI,hP,hF,q⟩:=h;have nd:=xhN.nd;refine⟨_,(xh (vI (cv 0) (uU rfl (xQ (xN (i:=6) nd rfl (bT rfl)) (xQ (xN (i:=7) nd rfl (bT rfl)) (xQ (xN (i:=8) nd rfl (bT rfl)) (xQ (xN (i:=9) nd rfl (az rfl)) (xQ (xN (i:=10) nd rfl (az rfl)) (xQ (xN (i:=11) nd rfl (bT rfl)) zI))))))))
  (xh (xM (xaa (cv 10)) (xm (xw (xH (xc (xB (uj T) (hr.mono (by decide)) (by rfl) T.vh T.q1i.kp T.vg .nil xu (xc xk (xc yi xf))) (xc (cv 0) xf))))) xx)
  (xh (xM (xO xbG (xC yc (cv 7) (xy yw xk (cv 6)) (fun _ _=>rfl)) xG) (xm (xw (xH (xc (xB (uj T) (hr.mono (by decide)) (by rfl) T.vh T.q1i.kp T.vg .nil xu (xc xk (xc yi xf))) (xc (cv 0) xf))))) xx)
  (xh (xM (xev (cv 2)) (xm (xw (xH (xc (xB (uj T) (hr.mono (by decide)) (by rfl) T.vh T.q1i.kp T.vg .nil xu (xc xk (xc (cv 2) xf))) (xc (cv 0) xf))))) xx)
  (xh (xM (zh (xB (xjD T) (hr.mono (by decide)) (by rfl) T.xkC T.q4g.kp T.xkB .nil xu (xc (cv 0) (xc (cv 1) (xc (cv 3) xf))))) (xm (xw (xH (xc (xB (uj T) (hr.mono (by decide)) (by rfl) T.vh T.q1i.kp T.vg .nil xu (xc xk (xc yi xf))) (xc (cv 0) xf))))) xx)
  (xh (xD (i:=12) nd rfl (bT rfl) (xB (xjC T) (hr.mono (by decide)) (by rfl) T.xky T.q4e.kp T.xkx .nil xu (xc (cv 1) (xc (xC yc (cv 11) (xy yw xk (cv 6)) (fun _ _=>rfl)) xf))))
  (xh (xD (i:=11) nd rfl (bT rfl) (uu (uW (cap:=[6,11,12]) (ys:=["_law_marker","_law_texts","_law_newer"]) rfl rfl rfl rfl rfl ⟨⟨rfl,rfl,.inl rfl⟩,⟨⟨rfl,rfl,.inl rfl⟩,⟨⟨rfl,rfl,.inl rfl⟩,trivial⟩⟩⟩ (by decide+kernel)) rfl (zR (by rfl) T.q1j (xc xk xf)) (fun _ _ _ _=>(xk7 (xO xbF (cv 0) (cv 1)) (cv 3) (xC (xa4 (K:=K) rfl) (cv 2) (cv 0) (fun _ _=>rfl)))) (fun _ _ _ _=>ur)))
  (xh (xD (i:=8) nd rfl (bT rfl) (uu (uW (cap:=[1,6,8]) (ys:=["_law_paper_here","_law_marker","_law_lengths"]) rfl rfl rfl rfl rfl ⟨⟨rfl,rfl,.inl rfl⟩,⟨⟨rfl,rfl,.inl rfl⟩,⟨⟨rfl,rfl,.inl rfl⟩,trivial⟩⟩⟩ (by decide+kernel)) rfl (zR (by rfl) T.q1j (xc xk xf)) (fun _ _ _ _=>(xk7 (xO xbF (cv 0) (cv 2)) (xC (xoZ (K:=K) rfl) (cv 1) xk (fun _ _=>rfl)) (xC (xa4 (K:=K) rfl) (cv 3) (cv 0) (fun _ _=>rfl)))) (fun _ _ _ _=>ur)))
  (xh (xD (i:=13) nd rfl (bT rfl) (yY yJ (xI (xdL rfl) (by rfl) T.q5X xiJ (xc (cv 12) xf)) (cv 4)))
  (xh (xD (i:=7) nd rfl (bT rfl) (uu (uW (cap:=[6,7,13]) (ys:=["_law_marker","_law_marks","_law_good"]) rfl rfl rfl rfl rfl ⟨⟨rfl,rfl,.inl rfl⟩,⟨⟨rfl,rfl,.inl rfl⟩,⟨⟨rfl,rfl,.inl rfl⟩,trivial⟩⟩⟩ (by decide+kernel)) rfl (zR (by rfl) T.q1j (xc xk xf)) (fun _ _ _ _=>(xk7 (xO xbF (cv 0) (cv 1)) (xC (xa4 (K:=K) rfl) (xY (xc xG (xc xG xf))) (yd xdB (by rfl) T.q5M xfO (xc (cv 3) xf)) (fun _ _=>rfl)) (xC (xa4 (K:=K) rfl) (cv 2) (cv 0) (fun _ _=>rfl)))) (fun _ _ _ _=>ur)))
  (xh (zu (xM (zh (cv 13)) (xm (xD (i:=9) nd rfl (az rfl) (cv 5))) xx))
  (xm (xw (xH (xc (xH (xc (cv 13) (xc (xY xf) (xc yi xf)))) (xc (xH (xc (cv 6) (xc (cv 7) (xc (cv 8) (xc (cv 9) (xc (cv 10) (xc (cv 11) xf))))))) xf)))))))))))))))),?_⟩
  obtain⟨m,l,xl,x0,x1,h1,h2,h3,h4,h5,h6,o1,o2,o3,o4,o5⟩:=id hS;have rN:yk st x=if st.run=none then some (0,none)else if st.mark (!st.mr)=("trial":Str)then some (1,none)else match jF x.rs x.n with
   |some xs=>some (2,some xs)
   |none=>if zP st x.o x.n=true then none else some (3,none):=by unfold yk;rw[hd];rfl
  have atM:atI [V.str (st.mark false),V.str (st.mark true)] (1 - bI st.mr)=some (.str (st.mark (!st.mr))):=by cases st.mr<;> rfl
  have atX:atI [V.ref x0,V.ref x1] (1 - bI st.mr)=some (.ref (if st.mr then x0 else x1)):=by cases st.mr<;> rfl
  walk_at"w";refine⟨t,_,rfl,SqT.of h1,rfl,?_⟩;walk_at"w";refine⟨_,_,rfl,?_⟩;walk_at"w";refine⟨_,_,rfl,?_⟩;walk_at"w";refine⟨_,_,rfl,?_⟩;walk_at"w";refine⟨_,_,rfl,?_⟩;walk_at"w";refine⟨_,_,rfl,?_⟩;walk_at"w";refine⟨_,_,rfl,?_⟩;walk_at"w";refine a7 rfl ?_;walk_at"w";cases hrun:st.run with
  |none=>
   refine⟨fun _=>?_,by walk_at"no"⟩;walk_at"w";refine⟨0,.non,rfl,fun pa la H1 s1 hl ep el=>?_⟩;walk_at"w";walk_at"ss";intro pp hpp;generalize hUpp:upd H1 pp _=H2;have sH2:=xg.of_eq hpp hUpp;have epp:=xj hUpp;clear hUpp;walk_at"w";exact xal q hS hL (k:=0) (f:=none) (by rw[rN,if_pos hrun]) s1 hl ep el rfl sH2 epp
  |some rb=>
   refine⟨by walk_at"no",fun _=>?_⟩;have hrun':st.run≠none:=by rw[hrun];simp
   rw[if_neg hrun']at rN;walk_at"w";refine⟨m,_,_,_,rfl,rfl,SqL.of h2,atM,?_⟩;walk_at"w";refine⟨fun c=>?_,fun c=>?_⟩
   ·have c:st.mark (!st.mr)=("trial":Str):=of_decide_eq_true c;walk_at"w";refine⟨1,.non,rfl,fun pa la H1 s1 hl ep el=>?_⟩;walk_at"w";walk_at"ss";intro pp hpp;generalize hUpp:upd H1 pp _=H2;have sH2:=xg.of_eq hpp hUpp;have epp:=xj hUpp;clear hUpp;walk_at"w";exact xal q hS hL (k:=1) (f:=none) (by rw[rN,if_pos c]) s1 hl ep el rfl sH2 epp
   have c:¬st.mark (!st.mr)=("trial":Str):=of_decide_eq_false c;rw[if_neg c]at rN;walk_at"w";cases hj:jF x.rs x.n with
   |some xs=>
    rw[hj]at rN hF;obtain⟨ft,rfl,eft⟩:=hF;refine⟨fun _=>?_,by walk_at"no"⟩;walk_at"w";refine⟨2,.ref ft,rfl,fun pa la H1 s1 hl ep el=>?_⟩;walk_at"w";walk_at"ss";intro pp hpp;generalize hUpp:upd H1 pp _=H2;have sH2:=xg.of_eq hpp hUpp;have epp:=xj hUpp;clear hUpp;walk_at"w";exact xal q hS hL rN s1 hl ep el ⟨ft,rfl,s1.at eft⟩ sH2 epp
   |none=>
    rw[hj]at rN hF;obtain rfl:fv= .non:=hF;refine⟨by walk_at"no",fun _=>?_⟩;walk_at"w";obtain⟨tt,us,hp,_⟩:=id hP.pj.at';refine⟨t,p,tt,st,tx,L,x.o,x.n,rfl,hS,hp,hP.pj.ho.1,?_⟩;cases hf:zP st x.o x.n with
    |false=>
     walk_at"w";refine⟨fun _=>?_,by walk_at"no"⟩;walk_at"w";refine⟨3,.non,rfl,fun pa la H1 s1 hl ep el=>?_⟩;walk_at"w";walk_at"ss";intro pp hpp;generalize hUpp:upd H1 pp _=H2;have sH2:=xg.of_eq hpp hUpp;have epp:=xj hUpp;clear hUpp;walk_at"w";exact xal q hS hL (k:=3) (f:=none) (by rw[rN];show(if _ then _ else _)=_;rw[hf];rfl) s1 hl ep el rfl sH2 epp
    |true=>
     walk_at"w";refine⟨by walk_at"no",fun _=>?_⟩;have rN0:yk st x=none:=by rw[rN];show(if _ then _ else _)=_;rw[hf];rfl
     obtain⟨f1,f2,f3,f4,f5,f6,f7⟩:=hP.fit hj hf;walk_at"w";refine⟨xl,_,_,_,rfl,rfl,SqL.of h4,atX,?_⟩;walk_at"w";have hxe:H (if st.mr then x0 else x1)=some (.lst ((tx (!st.mr)).map V.int)):=by cases st.mr;exact h6;exact h5
     have hpn:jH K H p x.o x.nw.length x.rs:=by rw[f4];exact hP.pj.at'
     refine⟨p,_,x.o,x.rs,tx (!st.mr),x.nw,rfl,hpn,hxe,f5,f6,(by have:=hP.pj.hn.2;lia),fun nl H1 s1 hnl enl=>?_⟩;walk_at"w";refine xlP (fun b=>.ref (if b≠st.mr then nl else if b then x1 else x0)) (fun b H3 s3 R hR=>?_) (fun tl H2 htl s2 etl=>?_)
     ·walk_at"w";refine⟨fun c=>?_,fun c=>?_⟩
      ·have c:=xlQ.mp c;walk_at"w";have:=hR H3 (xg.refl _);rw[if_pos c]at this;exact this
      ·have c:=xlR.mp c;walk_at"w";refine⟨xl,_,_,.ref (if b then x1 else x0),rfl,rfl,SqL.of ((s1.trans s3).at h4),by cases b<;> rfl,?_⟩;have:=hR H3 (xg.refl _);rw[if_neg (by simp[c])]at this;exact this
     have s02:=s1.trans s2;have hp2:=s02.at hp;walk_at"w";refine xlP (fun b=>.int (if b≠st.mr then x.n else st.len b)) (fun b H3 s3 R hR=>?_) (fun ll H4 hll s4 ell=>?_)
     ·walk_at"w";refine⟨fun c=>?_,fun c=>?_⟩
      ·have c:=xlQ.mp c;walk_at"w";refine⟨p,_,_,.int x.n,rfl,rfl,SqT.of (s3.at hp2),rfl,?_⟩;have:=hR H3 (xg.refl _);rw[if_pos c]at this;exact this
      ·have c:=xlR.mp c;walk_at"w";refine⟨l,_,_,.int (st.len b),rfl,rfl,SqL.of ((s02.trans s3).at h3),by cases b<;> rfl,?_⟩;have:=hR H3 (xg.refl _);rw[if_neg (by simp[c])]at this;exact this
     walk_at"w";refine⟨nl,_,rfl,SqL.of ((s2.trans s4).at enl),?_⟩;walk_at"w";generalize hgv:(fun(i j:Int)=>V.bl (decide (i=j))) x.nw.sum x.total=gv;generalize hg:decide (x.nw.sum=x.total)=gd;obtain rfl:gv= .bl gd:=by rw[←hgv,←hg]
     refine xlP (fun b=>.str (if b≠st.mr then(if gd then"trial" else"bad")else st.mark b)) (fun b H3 s3 R hR=>?_) (fun ml H5 hml s5 eml=>?_)
     ·walk_at"w";refine⟨fun c=>?_,fun c=>?_⟩
      ·have c:=xlQ.mp c;walk_at"w";walk_at"ss";intro sl hsl;generalize hUsl:upd H3 sl _=H6;have sH6:=xg.of_eq hsl hUsl;have esl:=xj hUsl;clear hUsl;walk_at"w";refine .inr ⟨gd,rfl,?_⟩;walk_at"w";refine⟨sl,_,_,.str (if gd then"trial" else"bad"),rfl,rfl,SqL.of esl,by cases gd<;> rfl,?_⟩;have:=hR H6 sH6;rw[if_pos c]at this;exact this
      ·have c:=xlR.mp c;walk_at"w";refine⟨m,_,_,.str (st.mark b),rfl,rfl,SqL.of ((s02.trans (s4.trans s3)).at h2),by cases b<;> rfl,?_⟩;have:=hR H3 (xg.refl _);rw[if_neg (by simp[c])]at this;exact this
     walk_at"w";have s05:=s02.trans (s4.trans s5);refine⟨fun σ' G=>σ'=[some (.ref t),some (.ref p),some .non,some (.int st.size),some (.int x.total),some (.int x.tries),some (.int (bI st.mr)),some (.ref ml),some (.ref ll),some (.int (if gd then x.tries else st.ct)),some (.int (bI rb)),some (.ref tl),some (.ref nl),some (.bl gd)]∧G=H5,?_,?_⟩
     ·cases gd with
      |true=>
       walk_at"w";refine⟨fun _=>?_,by walk_at"no"⟩;exact⟨rfl,rfl⟩
      |false=>
       walk_at"w";refine⟨by walk_at"no",fun _=>?_⟩;exact⟨rfl,rfl⟩
     rintro σ' G ⟨rfl,rfl⟩;walk_at"w";walk_at"ss";intro el hel;generalize hUel:upd G el _=G1;have sG1:=xg.of_eq hel hUel;have eel:=xj hUel;clear hUel;walk_at"w";walk_at"ss";intro ta hta;generalize hUta:upd G1 ta _=G2;have sG2:=xg.of_eq hta hUta;have eta:=xj hUta;clear hUta;walk_at"w";walk_at"ss";intro tn htn;generalize hUtn:upd G2 tn _=G3;have sG3:=xg.of_eq htn hUtn;have etn:=xj hUtn;clear hUtn;walk_at"w";walk_at"ss";intro pp hpp;generalize hUpp:upd G3 pp _=G4;have sG4:=xg.of_eq hpp hUpp;have epp:=xj hUpp;clear hUpp;walk_at"w";have sA:=s05.trans (sG1.trans (sG2.trans (sG3.trans sG4)));have o5':∀{y:Addr},H1 y=none→y∉L:=fun e=>hL.off (s1.back e);refine q pp ta tn G4 sA epp ?_ ?_
     ·rw[rN0];refine⟨el,?_,(sG2.trans (sG3.trans sG4)).at eel,hL.off (s05.back hel)⟩;have:vj st x= .bl gd:=by unfold vj;rw[hd,←hg];rfl
      rw[this];exact(sG3.trans sG4).at eta
     ·rw[xak rN0,xob hd];have e1:xfu st x tx=upB tx (!st.mr) x.nw:=if_pos ⟨rN0,hd⟩;rw[e1];have hg1:(if x.nw.sum=x.total then("trial":Str)else("bad":Str))=(if gd then("trial":Str)else("bad":Str)):=by rw[←hg];simp
      have hg2:(if x.nw.sum=x.total then x.tries else st.ct)=(if gd then x.tries else st.ct):=by rw[←hg];simp
      refine⟨ml,ll,tl,(if false≠st.mr then nl else x0),(if true≠st.mr then nl else x1),?_,?_,?_,?_,?_,?_,hL.off (s02.back (s4.back hml)),hL.off (s02.back hll),o5' htl,?_,?_⟩
      ·have:=sG4.at etn;rw[this];show _=some (HO.tup [.int (bI st.mr),.ref ml,.ref ll,.int (if x.nw.sum=x.total then x.tries else st.ct),zE st.run,.ref tl]);rw[hg2,hrun];rfl
      ·have:=(sG1.trans (sG2.trans (sG3.trans sG4))).at eml;rw[this];show _=some (HO.lst [.str (upB st.mark (!st.mr) (if x.nw.sum=x.total then"trial" else"bad") false),.str (upB st.mark (!st.mr) (if x.nw.sum=x.total then"trial" else"bad") true)]);rw[hg1];cases st.mr<;> rfl
      ·have:=(s5.trans (sG1.trans (sG2.trans (sG3.trans sG4)))).at ell;rw[this];show _=some (HO.lst [.int (upB st.len (!st.mr) x.n false),.int (upB st.len (!st.mr) x.n true)]);cases st.mr<;> rfl
      ·have:=(s4.trans (s5.trans (sG1.trans (sG2.trans (sG3.trans sG4))))).at etl;rw[this];rfl
      ·have a1:=sA.at h5;have a2:=(s2.trans (s4.trans (s5.trans (sG1.trans (sG2.trans (sG3.trans sG4)))))).at enl;cases hmr:st.mr
       ·exact a1
       ·exact a2
      ·have a1:=sA.at h6;have a2:=(s2.trans (s4.trans (s5.trans (sG1.trans (sG2.trans (sG3.trans sG4)))))).at enl;cases hmr:st.mr
       ·exact a2
       ·exact a1
      ·cases hmr:st.mr
       ·exact o4
       ·exact hL.off hnl
      ·cases hmr:st.mr
       ·exact hL.off hnl
       ·exact o5
end
section
variable {P:av} {w:World} {K:ag} {mg:Str→Option Value} {base:Heap} {a:Adr}
def xqx(K:ag):Sp:=fun vs H Q _=>∃(t p:Addr) (fv:V) (s:BdS) (tx:Bool→List Int) (L:List Addr) (x:Dd),vs=[.ref t,.int x.d,.ref p,fv,.int s.size,.int x.total,.int x.tries]∧x.d≤3∧yr H t s tx L∧Liv H L∧Bok s tx∧xen K H p x s tx∧uo H fv (jF x.rs x.n)∧xog H Q s x tx L
theorem xqy(T:Txt K mg a):xE P w K mg base CX0 3 a.q5A a.xlt ["_law_stand","_law_deed","_law_paper_here","_law_fault","_law_size","_law_total","_law_tries"] (xqx K):=by
 refine T.q5B.ok xmJ (fun vs H Q E h=>?_) (fun cdv A outer s H vs Q E hr h=>?_)
 ·obtain⟨t,p,fv,s,tx,L,x,rfl,_⟩:=h;rfl
 ·obtain⟨t,p,fv,st,tx,L,x,rfl,hx,hS,hL,hI,hP,hF,q⟩:=h;have nd:=xmJ.nd;refine⟨_,(xh (vI (cv 0) (uU rfl (xQ (xN (i:=7) nd rfl (az rfl)) (xQ (xN (i:=8) nd rfl (az rfl)) (xQ (xN (i:=9) nd rfl (az rfl)) (xQ (xN (i:=10) nd rfl (az rfl)) (xQ (xN (i:=11) nd rfl (az rfl)) (xQ (xN (i:=12) nd rfl (az rfl)) zI))))))))
  (xh (xM (xO yJ (cv 1) xk) (xh (vI (xB (xn7 T) (hr.mono (by decide)) (by rfl) T.xpk T.q4K.kp T.xpj .nil xu (xc (cv 0) xf)) (uU rfl (xQ (xN (i:=13) nd rfl (az rfl)) (xQ (xN (i:=14) nd rfl (az rfl)) zI))))
  (xm (xw (xH (xc (xH (xc (cv 13) (xc (xY xf) (xc yi xf)))) (xc (cv 14) xf)))))) xx)
  (xh (xM (xO yJ (cv 1) xk) (xm (xw (xB (xm2 T) (hr.mono (by decide)) (by rfl) T.xnF T.q35.kp T.xnE .nil xu (xc (cv 0) (xc (cv 2) (xc (cv 3) (xc (cv 4) (xc (cv 5) (xc (cv 6) xf))))))))) xx)
  (xh (xM (xaa (cv 11)) (xm (xw (xH (xc (xB (uj T) (hr.mono (by decide)) (by rfl) T.vh T.q1i.kp T.vg .nil xu (xc xk (xc yi xf))) (xc (cv 0) xf))))) xx)
  (xh (xM (PW.pt (xdF (xO yJ (cv 1) xk) (xce (PW.pt (xaN (xO xaM (xC yc (cv 8) (xy yw xk (cv 7)) (fun _ _=>rfl)) xG) (xaZ (xO yJ (cv 11) (cv 7)))))))) (xm (xw (xH (xc (xB (uj T) (hr.mono (by decide)) (by rfl) T.vh T.q1i.kp T.vg .nil xu (xc xk (xc yi xf))) (xc (cv 0) xf))))) xx)
  (xh (xM (xO yJ (cv 1) xk) (xm (xw (xH (xc (xH (xc yi (xc (xY xf) (xc yi xf)))) (xc (xH (xc (xy yw xk (cv 7)) (xc (xY (xc xG (xc xG xf))) (xc (cv 9) (xc (cv 10) (xc (cv 11) (xc (cv 12) xf))))))) xf))))) xx)
  (xh (xM (xO xaM (xC yc (cv 8) (xy yw xk (cv 7)) (fun _ _=>rfl)) xG) (xm (xw (xH (xc (xB (uj T) (hr.mono (by decide)) (by rfl) T.vh T.q1i.kp T.vg .nil xu (xc xk (xc yi xf))) (xc (cv 0) xf))))) xx)
  (xm (xw (xH (xc (xH (xc yi (xc (xY xf) (xc yi xf)))) (xc (xH (xc (xy yw xk (cv 7)) (xc (cv 8) (xc (cv 9) (xc (cv 10) (xc yi (xc (cv 12) xf))))))) xf)))))))))))),?_⟩
  obtain⟨m,l,xl,x0,x1,h1,h2,h3,h4,h5,h6,o1,o2,o3,o4,o5⟩:=id hS;have e1:(1:Int) - bI st.mr=bI (!st.mr):=by cases st.mr<;> rfl
  have atM:atI [V.str (st.mark false),V.str (st.mark true)] (1 - bI st.mr)=some (.str (st.mark (!st.mr))):=by cases st.mr<;> rfl
  walk_at"w";refine⟨t,_,rfl,SqT.of h1,rfl,?_⟩;walk_at"w";refine⟨_,_,rfl,?_⟩;walk_at"w";refine⟨_,_,rfl,?_⟩;walk_at"w";refine⟨_,_,rfl,?_⟩;walk_at"w";refine⟨_,_,rfl,?_⟩;walk_at"w";refine⟨_,_,rfl,?_⟩;walk_at"w";refine⟨_,_,rfl,?_⟩;walk_at"w";refine a7 rfl ?_;have tSame:x.d≠1→xfu st x tx=tx:=fun z=>if_neg fun y=>z y.2;have hdc:x.d=0∨x.d=1∨x.d=2∨x.d=3:=by lia
  rcases hdc with hd|hd|hd|hd
  ·rw[hd];walk_at"w";refine⟨fun _=>?_,by walk_at"no"⟩;walk_at"w";refine⟨t,st,tx,L,rfl,hS,hL,hI.ct,fun pa t' H1 s1 ep hS1=>?_⟩;walk_at"w";refine⟨pa,_,rfl,SqT.of ep,rfl,?_⟩;walk_at"w";refine⟨_,_,rfl,?_⟩;walk_at"w";refine⟨_,_,rfl,?_⟩;walk_at"w";refine a7 rfl ?_;walk_at"w";walk_at"ss";intro el hel;generalize hUel:upd H1 el _=H2;have sH2:=xg.of_eq hel hUel;have eel:=xj hUel;clear hUel;walk_at"w";walk_at"ss";intro ta hta;generalize hUta:upd H2 ta _=H3;have sH3:=xg.of_eq hta hUta;have eta:=xj hUta;clear hUta;walk_at"w";walk_at"ss";intro pp hpp;generalize hUpp:upd H3 pp _=H4;have sH4:=xg.of_eq hpp hUpp;have epp:=xj hUpp;clear hUpp;walk_at"w";have rN:yk st x=none:=by unfold yk;rw[hd];rfl
   refine q pp ta t' H4 (s1.trans (sH2.trans (sH3.trans sH4))) epp ?_ ?_
   ·rw[rN];refine⟨el,?_,(sH3.trans sH4).at eel,hL.off (s1.back hel)⟩;have:vj st x= .int (bI (startB st)):=by unfold vj;rw[hd];rfl
    rw[this];exact sH4.at eta
   ·rw[xak rN,xoa hd,tSame (by lia)];exact hS1.same (sH2.trans (sH3.trans sH4))
  ·rw[hd];walk_at"w";refine⟨by walk_at"no",fun _=>?_⟩;walk_at"w";refine⟨fun _=>?_,by walk_at"no"⟩;walk_at"w";exact⟨t,p,fv,st,tx,L,x,rfl,hd,hS,hL,hI,hP,hF,q⟩
  ·rw[hd];have rN:yk st x=if st.run=none then some (0,none)else if st.run=some (!st.mr)∧st.mark (!st.mr)=("trial":Str)then none else some (4,none):=by unfold yk;rw[hd];rfl
   walk_at"w";refine⟨by walk_at"no",fun _=>?_⟩;walk_at"w";refine⟨by walk_at"no",fun _=>?_⟩;walk_at"w";cases hrun:st.run with
   |none=>
    refine⟨fun _=>?_,by walk_at"no"⟩;walk_at"w";refine⟨0,.non,rfl,fun pa la H1 s1 hl ep el=>?_⟩;walk_at"w";walk_at"ss";intro pp hpp;generalize hUpp:upd H1 pp _=H2;have sH2:=xg.of_eq hpp hUpp;have epp:=xj hUpp;clear hUpp;walk_at"w";exact xal q hS hL (k:=0) (f:=none) (by rw[rN,if_pos hrun]) s1 hl ep el rfl sH2 epp
   |some rb=>
    refine⟨by walk_at"no",fun _=>?_⟩;have hrun':st.run≠none:=by rw[hrun];simp
    rw[if_neg hrun']at rN;walk_at"w";refine⟨fun _=>?_,by walk_at"no"⟩;walk_at"w";refine⟨m,_,_,_,rfl,rfl,SqL.of h2,atM,?_⟩;walk_at"w";have bye:¬(st.run=some (!st.mr)∧st.mark (!st.mr)=("trial":Str))→∀(pa la pp:Addr) (H1 H2:Hp),xg H H1→H la=none→H1 pa=some (.tup [.non,.ref la,.non])→H1 la=some (.lst (xeD 4))→xg H1 H2→H2 pp=some (.tup [.ref pa,.ref t])→Q (.ref pp) H2:=fun z pa la pp H1 H2 s1 hl ep el sH2 epp=>
     xal q hS hL (k:=4) (f:=none) (by rw[rN,if_neg z]) s1 hl ep el rfl sH2 epp
    refine⟨fun c=>?_,fun c=>?_⟩
    ·have c':¬st.mark (!st.mr)=("trial":Str):=fun z=>by
      rw[show aX "trial"=("trial":Str)from rfl,decide_eq_true z]at c;cases c
     walk_at"w";refine⟨fun _=>?_,by walk_at"no"⟩;walk_at"w";refine⟨4,.non,rfl,fun pa la H1 s1 hl ep el=>?_⟩;walk_at"w";walk_at"ss";intro pp hpp;generalize hUpp:upd H1 pp _=H2;have sH2:=xg.of_eq hpp hUpp;have epp:=xj hUpp;clear hUpp;walk_at"w";exact bye (fun z=>c' z.2) pa la pp H1 H2 s1 hl ep el sH2 epp
    ·have c':st.mark (!st.mr)=("trial":Str):=of_decide_eq_true (p:=st.mark (!st.mr)=aX "trial") (by rw[←bP];exact c);walk_at"w";refine⟨fun c2=>?_,fun c2=>?_⟩
     ·have c2:bI rb=bI st.mr:=of_decide_eq_true c2;walk_at"w";refine⟨4,.non,rfl,fun pa la H1 s1 hl ep el=>?_⟩;walk_at"w";walk_at"ss";intro pp hpp;generalize hUpp:upd H1 pp _=H2;have sH2:=xg.of_eq hpp hUpp;have epp:=xj hUpp;clear hUpp;walk_at"w";refine bye (fun z=>?_) pa la pp H1 H2 s1 hl ep el sH2 epp;have z1:=z.1;rw[hrun]at z1;have z1:=bc z1;rw[z1]at c2;cases hm:st.mr<;> rw[hm]at c2<;> exact absurd c2 (by decide)
     have c2:¬bI rb=bI st.mr:=of_decide_eq_false c2;have erb:rb= !st.mr:=by cases hb:rb<;> cases hm:st.mr<;> rw[hb,hm]at c2<;> first|rfl|exact absurd rfl c2
     have rN0:yk st x=none:=by rw[rN,if_pos ⟨by rw[hrun,erb],c'⟩]
     walk_at"w";refine⟨fun _=>?_,by walk_at"no"⟩;walk_at"w";walk_at"ss";intro el hel;generalize hUel:upd H el _=H1;have sH1:=xg.of_eq hel hUel;have eel:=xj hUel;clear hUel;walk_at"w";walk_at"ss";intro ta hta;generalize hUta:upd H1 ta _=H2;have sH2:=xg.of_eq hta hUta;have eta:=xj hUta;clear hUta;walk_at"w";walk_at"ss";intro gl hgl;generalize hUgl:upd H2 gl _=H3;have sH3:=xg.of_eq hgl hUgl;have egl:=xj hUgl;clear hUgl;walk_at"w";walk_at"ss";intro tn htn;generalize hUtn:upd H3 tn _=H4;have sH4:=xg.of_eq htn hUtn;have etn:=xj hUtn;clear hUtn;walk_at"w";walk_at"ss";intro pp hpp;generalize hUpp:upd H4 pp _=H5;have sH5:=xg.of_eq hpp hUpp;have epp:=xj hUpp;clear hUpp;walk_at"w";have sA:=sH1.trans (sH2.trans (sH3.trans (sH4.trans sH5)));refine q pp ta tn H5 sA epp ?_ ?_
     ·rw[rN0];refine⟨el,?_,(sH2.trans (sH3.trans (sH4.trans sH5))).at eel,hL.off hel⟩;have:vj st x= .non:=by unfold vj;rw[hd];rfl
      rw[this];exact(sH3.trans (sH4.trans sH5)).at eta
     ·rw[xak rN0,xoc hd,tSame (by lia)];refine⟨gl,l,xl,x0,x1,?_,?_,sA.at h3,sA.at h4,sA.at h5,sA.at h6,hL.off (sH1.back (sH2.back hgl)),o2,o3,o4,o5⟩
      ·have:=sH5.at etn;rw[this,←hrun];show some (HO.tup [.int (1 - bI st.mr),.ref gl,.ref l,.int st.ct,zE st.run,.ref xl])=some (HO.tup [.int (bI (!st.mr)),.ref gl,.ref l,.int st.ct,zE st.run,.ref xl]);rw[e1]
      ·have:=(sH4.trans sH5).at egl;rw[this];have g:=hI.gd;show _=some (HO.lst [.str (upB st.mark (!st.mr) "good" false),.str (upB st.mark (!st.mr) "good" true)]);cases hm:st.mr
       ·rw[hm]at g;show _=some (HO.lst [.str (st.mark false),.str "good"]);rw[g]
       ·rw[hm]at g;show _=some (HO.lst [.str "good",.str (st.mark true)]);rw[g]
  ·rw[hd];have rN:yk st x=if st.run=none then some (0,none)else if st.mark (!st.mr)=("good":Str)then none else some (5,none):=by unfold yk;rw[hd];rfl
   walk_at"w";refine⟨by walk_at"no",fun _=>?_⟩;walk_at"w";refine⟨by walk_at"no",fun _=>?_⟩;walk_at"w";cases hrun:st.run with
   |none=>
    refine⟨fun _=>?_,by walk_at"no"⟩;walk_at"w";refine⟨0,.non,rfl,fun pa la H1 s1 hl ep el=>?_⟩;walk_at"w";walk_at"ss";intro pp hpp;generalize hUpp:upd H1 pp _=H2;have sH2:=xg.of_eq hpp hUpp;have epp:=xj hUpp;clear hUpp;walk_at"w";exact xal q hS hL (k:=0) (f:=none) (by rw[rN,if_pos hrun]) s1 hl ep el rfl sH2 epp
   |some rb=>
    refine⟨by walk_at"no",fun _=>?_⟩;have hrun':st.run≠none:=by rw[hrun];simp
    rw[if_neg hrun']at rN;walk_at"w";refine⟨by walk_at"no",fun _=>?_⟩;walk_at"w";refine⟨by walk_at"no",fun _=>?_⟩;walk_at"w";refine⟨by walk_at"no",fun _=>?_⟩;walk_at"w";refine⟨m,_,_,_,rfl,rfl,SqL.of h2,atM,?_⟩;walk_at"w";refine⟨fun c=>?_,fun c=>?_⟩
    ·have c':¬st.mark (!st.mr)=("good":Str):=fun z=>by
      rw[show aX "good"=("good":Str)from rfl,decide_eq_true z]at c;cases c
     walk_at"w";refine⟨5,.non,rfl,fun pa la H1 s1 hl ep el=>?_⟩;walk_at"w";walk_at"ss";intro pp hpp;generalize hUpp:upd H1 pp _=H2;have sH2:=xg.of_eq hpp hUpp;have epp:=xj hUpp;clear hUpp;walk_at"w";exact xal q hS hL (k:=5) (f:=none) (by rw[rN,if_neg c']) s1 hl ep el rfl sH2 epp
    ·have c':st.mark (!st.mr)=("good":Str):=of_decide_eq_true (p:=st.mark (!st.mr)=aX "good") (by rw[←bP];exact c);have rN0:yk st x=none:=by rw[rN,if_pos c']
     walk_at"w";walk_at"ss";intro el hel;generalize hUel:upd H el _=H1;have sH1:=xg.of_eq hel hUel;have eel:=xj hUel;clear hUel;walk_at"w";walk_at"ss";intro ta hta;generalize hUta:upd H1 ta _=H2;have sH2:=xg.of_eq hta hUta;have eta:=xj hUta;clear hUta;walk_at"w";walk_at"ss";intro tn htn;generalize hUtn:upd H2 tn _=H3;have sH3:=xg.of_eq htn hUtn;have etn:=xj hUtn;clear hUtn;walk_at"w";walk_at"ss";intro pp hpp;generalize hUpp:upd H3 pp _=H4;have sH4:=xg.of_eq hpp hUpp;have epp:=xj hUpp;clear hUpp;walk_at"w";have sA:=sH1.trans (sH2.trans (sH3.trans sH4));refine q pp ta tn H4 sA epp ?_ ?_
     ·rw[rN0];refine⟨el,?_,(sH2.trans (sH3.trans sH4)).at eel,hL.off hel⟩;have:vj st x= .non:=by unfold vj;rw[hd];rfl
      rw[this];exact(sH3.trans sH4).at eta
     ·rw[xak rN0,xod hd,tSame (by lia)];refine⟨m,l,xl,x0,x1,?_,sA.at h2,sA.at h3,sA.at h4,sA.at h5,sA.at h6,o1,o2,o3,o4,o5⟩;have:=sH4.at etn;rw[this];show some (HO.tup [.int (1 - bI st.mr),.ref m,.ref l,.int st.ct,.non,.ref xl])=some (HO.tup [.int (bI (!st.mr)),.ref m,.ref l,.int st.ct,.non,.ref xl]);rw[e1]
end
section
variable {P:av} {w:World} {K:ag} {mg:Str→Option Value} {base:Heap} {a:Adr}
theorem xgz{α β:Type}{F:α→β→Prop}{G:β→Prop}:∀{l₁:List α} {l₂:List β},Paired F l₁ l₂→(∀y∈l₂,G y)→Paired (fun x y=>F x y∧G y) l₁ l₂
 |_,_,.nil,_=>.nil
 |_,_,.cons r t,h=>.cons ⟨r,h _ a9⟩ (xgz t fun y hy=>h y (aQ _ hy))
theorem xgA{α β:Type}{F:α→β→Prop}:∀{l₁:List α} {l₂:List β},Paired F l₁ l₂→l₁.length=l₂.length
 |_,_,.nil=>rfl
 |_,_,.cons _ t=>congrArg (· +1) (xgA t)
theorem xjF{old n:Int}{r:xq}(hg:Good old r)(h0:0≤old)(ht:r.to=0)(hn:(r.cnt:Int)=n):uk [r]=none∧jF [r] n=none:=by
 have tl:Tl old [r] n:=by
  have:=Tl.snoc (old:=old) .nil hg ht hn;rw[j7]at this;exact this
 obtain⟨nw,_,_,_,_,_,tw,lk⟩:=xit (es:=aD old.toNat 0) (.refl _) tl (by rw[bq];lia);refine⟨tw,?_⟩;unfold jF;rw[lk];have:vS [r]=none:=by
  unfold vS;rw[uR,show r.rds.find? (fun c=>decide (c∈([]:List Int)))=none by rw[cT];intro x _;simp];rfl
 rw[this]
def xm3(K:ag):Sp:=fun vs H Q _=>∃(t:Addr) (c:Int) (s:BdS) (tx:Bool→List Int) (L:List Addr),vs=[.ref t,.int c,.int s.size]∧yr H t s tx L∧Bok s tx∧
 ∀(pp p:Addr) (fv:V) (o n:Int) (rs:List xq) (nw:List Int) (H':Hp),xg H H'→H' pp=some (.tup [.ref p,fv])→(∀d total tries,xen K H' p ⟨d,o,n,rs,total,tries,nw⟩ s tx)→uo H' fv (jF rs n)→Q (.ref pp) H'
theorem xoh(T:Txt K mg a):xE P w K mg base CX0 4 a.q4F a.xg4 ["_law_stand","_law_cell","_law_size"] (xm3 K):=by
 refine T.q4L.ok xja (fun vs H Q E h=>?_) (fun cdv A outer s H vs Q E hr h=>?_)
 ·obtain⟨t,c,s,tx,L,rfl,_⟩:=h;rfl
 ·obtain⟨t,c,st,tx,L,rfl,hS,hI,q⟩:=h;have nd:=xja.nd;refine⟨_,(@xh _ _ _ _ _ (xD (i:=3) nd rfl (az rfl) (xy yw xk (xC xK (cv 0) xk (fun _ _=>rfl)))) (@xh _ _ _ _ _ (xD (i:=4) nd rfl (az rfl) (xy xet (xC yc (xC xK (cv 0) xk (fun _ _=>rfl)) (cv 3) (fun _ _=>rfl)) (yd xdB (by rfl) T.q5M xfO (xc (yY xbG (xC yc (xC xK (cv 0) xk (fun _ _=>rfl)) (cv 3) (fun _ _=>rfl)) xG) xf)))) (@xh _ _ _ _ _ (xD (i:=5) nd rfl (az rfl) (xy zo (xB (ug T) (hr.mono (by decide)) (by rfl) T.vw T.q1L.kp T.vt .nil xu (xc (cv 1) (xc xk xf))) xk)) (@xh _ _ _ _ _ (@xM _ _ _ _ _ _ _ _ (xO yJ (cv 5) xk) (@xm _ _ _ (@xw _ _ _ _ (@xH _ _ _ _ _ (@xc _ _ _ _ _ (@xH _ _ _ _ _ (@xc _ _ _ _ _ (cv 4) (@xc _ _ _ _ _ (@xk _ _ _ _) (@xc _ _ _ _ _ (@xH _ _ _ _ _ (@xc _ _ _ _ _ (@xH _ _ _ _ _ (@xc _ _ _ _ _ (@xG _ _ _ _) (@xc _ _ _ _ _ (@xk _ _ _ _) (@xc _ _ _ _ _ (@xH _ _ _ _ _ (@xc _ _ _ _ _ (@xk _ _ _ _) (@xc _ _ _ _ _ (@xk _ _ _ _) (@xf _) rfl) rfl)) (@xf _) rfl) rfl) rfl)) (@xf _) rfl)) (@xf _) rfl) rfl) rfl)) (@xc _ _ _ _ _ (@xH _ _ _ _ _ (@xc _ _ _ _ _ (@xG _ _ _ _) (@xc _ _ _ _ _ (@xk _ _ _ _) (@xf _) rfl) rfl)) (@xf _) rfl) rfl)))) (@xx _)) (@xh _ _ _ _ _ (@xM _ _ _ _ _ _ _ _ (xO yJ (cv 5) xk) (@xm _ _ _ (@xw _ _ _ _ (@xH _ _ _ _ _ (@xc _ _ _ _ _ (@xH _ _ _ _ _ (@xc _ _ _ _ _ (@xk _ _ _ _) (@xc _ _ _ _ _ (@xk _ _ _ _) (@xc _ _ _ _ _ (@xH _ _ _ _ _ (@xc _ _ _ _ _ (@xH _ _ _ _ _ (@xc _ _ _ _ _ (@xG _ _ _ _) (@xc _ _ _ _ _ (@xk _ _ _ _) (@xc _ _ _ _ _ (@xH _ _ _ _ _ (@xc _ _ _ _ _ (@xk _ _ _ _) (@xf _) rfl)) (@xf _) rfl) rfl) rfl)) (@xc _ _ _ _ _ (@xH _ _ _ _ _ (@xc _ _ _ _ _ (@xG _ _ _ _) (@xc _ _ _ _ _ (@xk _ _ _ _) (@xc _ _ _ _ _ (@xk _ _ _ _) (@xc _ _ _ _ _ (@xk _ _ _ _) (@xf _) rfl) rfl) rfl) rfl)) (@xc _ _ _ _ _ (@xH _ _ _ _ _ (@xc _ _ _ _ _ (@xG _ _ _ _) (@xc _ _ _ _ _ (@xk _ _ _ _) (@xc _ _ _ _ _ (@xH _ _ _ _ _ (@xc _ _ _ _ _ (@xk _ _ _ _) (@xf _) rfl)) (@xf _) rfl) rfl) rfl)) (@xf _) rfl) rfl) rfl)) (@xf _) rfl) rfl) rfl)) (@xc _ _ _ _ _ (@xH _ _ _ _ _ (@xc _ _ _ _ _ (@xG _ _ _ _) (@xc _ _ _ _ _ (@xk _ _ _ _) (@xc _ _ _ _ _ (@xk _ _ _ _) (@xf _) rfl) rfl) rfl)) (@xf _) rfl) rfl)))) (@xx _)) (@xh _ _ _ _ _ (@xM _ _ _ _ _ _ _ _ (xO yJ (cv 5) xk) (@xm _ _ _ (@xw _ _ _ _ (@xH _ _ _ _ _ (@xc _ _ _ _ _ (@xH _ _ _ _ _ (@xc _ _ _ _ _ (@xk _ _ _ _) (@xc _ _ _ _ _ (@xy _ _ _ _ _ _ _ _ yv (cv 2) (@xk _ _ _ _)) (@xc _ _ _ _ _ (@xH _ _ _ _ _ (@xc _ _ _ _ _ (@xH _ _ _ _ _ (@xc _ _ _ _ _ (@xG _ _ _ _) (@xc _ _ _ _ _ (@xk _ _ _ _) (@xc _ _ _ _ _ (@yd _ _ _ _ _ _ _ _ _ yU (by rfl) T.q2n zB (@xc _ _ _ _ _ (@xy _ _ _ _ _ _ _ _ xfD (@xY _ _ _ _ (@xc _ _ _ _ _ (@xk _ _ _ _) (@xf _) rfl)) (@xy _ _ _ _ _ _ _ _ yv (cv 2) (@xk _ _ _ _))) (@xf _) rfl) (by decide) (by decide) (by rfl) (by rfl)) (@xf _) rfl) rfl) rfl)) (@xf _) rfl)) (@xf _) rfl) rfl) rfl)) (@xc _ _ _ _ _ (@yi _ _ _) (@xf _) rfl) rfl)))) (@xx _)) (@xh _ _ _ _ _ (@xM _ _ _ _ _ _ _ _ (xO yJ (cv 5) xk) (@xm _ _ _ (@xw _ _ _ _ (@xH _ _ _ _ _ (@xc _ _ _ _ _ (@xH _ _ _ _ _ (@xc _ _ _ _ _ (@xy _ _ _ _ _ _ _ _ yv (cv 4) (@xk _ _ _ _)) (@xc _ _ _ _ _ (@xk _ _ _ _) (@xc _ _ _ _ _ (@xH _ _ _ _ _ (@xc _ _ _ _ _ (@xH _ _ _ _ _ (@xc _ _ _ _ _ (@xG _ _ _ _) (@xc _ _ _ _ _ (@xk _ _ _ _) (@xc _ _ _ _ _ (cv 4) (@xc _ _ _ _ _ (@xk _ _ _ _) (@xf _) rfl) rfl) rfl) rfl)) (@xf _) rfl)) (@xf _) rfl) rfl) rfl)) (@xc _ _ _ _ _ (@yi _ _ _) (@xf _) rfl) rfl)))) (@xx _)) (xm (xw (xH (xc (xB (xjx T) (hr.mono (by decide)) (by rfl) T.xj5 T.q2G.kp T.xj4 .nil xu (xc (cv 4) (xc (cv 1) xf))) (xc yi xf)))))))))))),?_⟩;obtain⟨m,l,xl,x0,x1,h1,h2,h3,h4,h5,h6,o1,o2,o3,o4,o5⟩:=id hS;have e1:(1:Int) - bI st.mr=bI (!st.mr):=by cases st.mr<;> rfl
  have atM:atI [V.str (st.mark false),V.str (st.mark true)] (1 - bI st.mr)=some (.str (st.mark (!st.mr))):=by cases st.mr<;> rfl
  have atL:atI [V.int (st.len false),V.int (st.len true)] (1 - bI st.mr)=some (.int (st.len (!st.mr))):=by cases st.mr<;> rfl
  walk_at"w";refine⟨t,_,_,.int (bI st.mr),rfl,rfl,SqT.of h1,rfl,?_⟩;walk_at"w";refine⟨t,_,_,.ref l,rfl,rfl,SqT.of h1,rfl,?_⟩;walk_at"w";refine⟨l,_,_,_,rfl,rfl,SqL.of h3,atL,?_⟩;walk_at"w";refine⟨t,_,_,.ref m,rfl,rfl,SqT.of h1,rfl,?_⟩;walk_at"w";refine⟨m,_,_,_,rfl,rfl,SqL.of h2,atM,?_⟩;walk_at"w";refine .inr ⟨decide (st.mark (!st.mr)=("good":Str)),rfl,?_⟩;walk_at"w";have hln:=hI.ln (!st.mr);have hsz:=hI.sz;refine a7 (.inl ⟨by lia,by lia⟩) ?_;generalize hov:(fun(i j:Int)=>V.int (i*j)) (st.len (!st.mr)) (if decide (st.mark (!st.mr)=aX "good")=true then 1 else 0)=ov;obtain⟨old,rfl,hold,ho0,ho1⟩:∃old:Int,ov= .int old∧(if st.mark (!st.mr)=("good":Str)then old=st.len (!st.mr)else old=0)∧0≤old∧old≤11:=by
   by_cases z:st.mark (!st.mr)=("good":Str)
   ·refine⟨st.len (!st.mr),?_,by rw[if_pos z],by lia,by lia⟩;rw[←hov];show V.int (_*(if decide (st.mark (!st.mr)=("good":Str))=true then 1 else 0))=_;rw[decide_eq_true z,if_pos rfl,Int.mul_one]
   ·refine⟨0,?_,by rw[if_neg z],by lia,by lia⟩;rw[←hov];show V.int (_*(if decide (st.mark (!st.mr)=("good":Str))=true then 1 else 0))=_;rw[decide_eq_false z,if_neg (by simp),Int.mul_zero]
  clear hov;walk_at"w";refine⟨c,9,rfl,?_⟩;walk_at"w";walk_at"ss";refine⟨fun c1=>?_,fun c1=>?_⟩
  ·walk_at"w";walk_at"ss";intro u1 hu1;generalize hUu1:upd H u1 _=H1;have sH1:=xg.of_eq hu1 hUu1;have eu1:=xj hUu1;clear hUu1;walk_at"w";walk_at"ss";intro t1 ht1;generalize hUt1:upd H1 t1 _=H2;have sH2:=xg.of_eq ht1 hUt1;have et1:=xj hUt1;clear hUt1;walk_at"w";walk_at"ss";intro tt htt;generalize hUtt:upd H2 tt _=H3;have sH3:=xg.of_eq htt hUtt;have ett:=xj hUtt;clear hUtt;walk_at"w";walk_at"ss";intro p hp;generalize hUp:upd H3 p _=H4;have sH4:=xg.of_eq hp hUp;have ep:=xj hUp;clear hUp;walk_at"w";walk_at"ss";intro ft hft;generalize hUft:upd H4 ft _=H5;have sH5:=xg.of_eq hft hUft;have eft:=xj hUft;clear hUft;walk_at"w";walk_at"ss";intro pp hpp;generalize hUpp:upd H5 pp _=H6;have sH6:=xg.of_eq hpp hUpp;have epp:=xj hUpp;clear hUpp;walk_at"w";have ej:jF [xq.put 1 [4,5]] 3=some [.str "lacks",.int 0]:=by decide
   refine q pp p (.ref ft) old 3 [.put 1 [4,5]] [] H6 (sH1.trans (sH2.trans (sH3.trans (sH4.trans (sH5.trans sH6))))) epp (fun d total tries=>⟨⟨⟨tt,[t1],(sH5.trans sH6).at ep,(sH4.trans (sH5.trans sH6)).at ett,.cons ⟨u1,(sH3.trans (sH4.trans (sH5.trans sH6))).at et1,(sH2.trans (sH3.trans (sH4.trans (sH5.trans sH6)))).at eu1⟩ .nil⟩,⟨ho0,show old≤300 by lia⟩,(by decide:(0:Int)≤3∧(3:Int)≤300),(by decide:1≤300),fun r hr=>?_,(by decide:uk [xq.put 1 [4,5]]=none)⟩,fun z=>?_⟩) (by rw[ej];exact⟨ft,rfl,sH6.at eft⟩)
   ·rw[ao.mp hr];exact⟨⟨by decide,by simp,by decide,fun x hx=>by rcases aq.mp hx with rfl|hx;decide;rw[ao.mp hx];decide⟩,show(1:Int)+2≤3 by decide⟩
   ·rw[ej]at z;cases z
  walk_at"w";refine⟨fun c1=>?_,fun c1=>?_⟩
  ·walk_at"w";walk_at"ss";intro u1 hu1;generalize hUu1:upd H u1 _=H1;have sH1:=xg.of_eq hu1 hUu1;have eu1:=xj hUu1;clear hUu1;walk_at"w";walk_at"ss";intro t1 ht1;generalize hUt1:upd H1 t1 _=H2;have sH2:=xg.of_eq ht1 hUt1;have et1:=xj hUt1;clear hUt1;walk_at"w";walk_at"ss";intro t2 ht2;generalize hUt2:upd H2 t2 _=H3;have sH3:=xg.of_eq ht2 hUt2;have et2:=xj hUt2;clear hUt2;walk_at"w";walk_at"ss";intro u3 hu3;generalize hUu3:upd H3 u3 _=H4;have sH4:=xg.of_eq hu3 hUu3;have eu3:=xj hUu3;clear hUu3;walk_at"w";walk_at"ss";intro t3 ht3;generalize hUt3:upd H4 t3 _=H5;have sH5:=xg.of_eq ht3 hUt3;have et3:=xj hUt3;clear hUt3;walk_at"w";walk_at"ss";intro tt htt;generalize hUtt:upd H5 tt _=H6;have sH6:=xg.of_eq htt hUtt;have ett:=xj hUtt;clear hUtt;walk_at"w";walk_at"ss";intro p hp;generalize hUp:upd H6 p _=H7;have sH7:=xg.of_eq hp hUp;have ep:=xj hUp;clear hUp;walk_at"w";walk_at"ss";intro ft hft;generalize hUft:upd H7 ft _=H8;have sH8:=xg.of_eq hft hUft;have eft:=xj hUft;clear hUft;walk_at"w";walk_at"ss";intro pp hpp;generalize hUpp:upd H8 pp _=H9;have sH9:=xg.of_eq hpp hUpp;have epp:=xj hUpp;clear hUpp;walk_at"w";have ej:jF [xq.put 1 [4],.take 2 1 1,.put 0 [6]] 3=some [.str "late",.int 1,.int 1]:=by decide
   have s89:=sH8.trans sH9;have s69:=sH6.trans (sH7.trans s89);have s79:=sH7.trans s89;have s39:=sH4.trans (sH5.trans s69);refine q pp p (.ref ft) 2 3 [.put 1 [4],.take 2 1 1,.put 0 [6]] [] H9 (sH1.trans (sH2.trans (sH3.trans s39))) epp (fun d total tries=>⟨⟨⟨tt,[t1,t2,t3],s89.at ep,s79.at ett,.cons ⟨u1,(sH3.trans s39).at et1,(sH2.trans (sH3.trans s39)).at eu1⟩ (.cons (s39.at et2) (.cons ⟨u3,s69.at et3,(sH5.trans s69).at eu3⟩ .nil))⟩,(by decide:(0:Int)≤2∧(2:Int)≤300),(by decide:(0:Int)≤3∧(3:Int)≤300),(by decide:3≤300),fun r hr=>?_,(by decide:uk [xq.put 1 [4],.take 2 1 1,.put 0 [6]]=none)⟩,fun z=>?_⟩) (by rw[ej];exact⟨ft,rfl,sH9.at eft⟩)
   ·have hr:r∈[xq.put 1 [4],.take 2 1 1,.put 0 [6]]:=hr;simp only[aq,aR,or_false]at hr;rcases hr with rfl|rfl|rfl
    ·exact⟨⟨by decide,by simp,by decide,fun x hx=>by rw[ao.mp hx];decide⟩,(by decide:(1:Int)+1≤3)⟩
    ·exact⟨⟨by decide,by decide,by decide⟩,(by decide:(1:Int)+1≤2),(by decide:(2:Int)+1≤3)⟩
    ·exact⟨⟨by decide,by simp,by decide,fun x hx=>by rw[ao.mp hx];decide⟩,(by decide:(0:Int)+1≤3)⟩
   ·rw[ej]at z;cases z
  walk_at"w";refine⟨fun c1=>?_,fun c1=>?_⟩
  ·walk_at"w";walk_at"ss";intro ol hol;generalize hUol:upd H ol _=H1;have sH1:=xg.of_eq hol hUol;have eol:=xj hUol;clear hUol;walk_at"w";refine⟨ol,st.size+1,_,rfl,rfl,eol,by lia,by lia,(by show 1*_≤_;rw[a6];lia),?_⟩;intro o2l ho2l;generalize hUo2l:upd H1 o2l _=H2;have sH2:=xg.of_eq ho2l hUo2l;have eo2l:=xj hUo2l;clear hUo2l;walk_at"w";refine⟨o2l,_,rfl,.inl ⟨SqL.of eo2l,?_⟩⟩;intro u1 hu1;generalize hUu1:upd H2 u1 _=H3;have sH3:=xg.of_eq hu1 hUu1;have eu1:=xj hUu1;clear hUu1;walk_at"w";walk_at"ss";intro t1 ht1;generalize hUt1:upd H3 t1 _=H4;have sH4:=xg.of_eq ht1 hUt1;have et1:=xj hUt1;clear hUt1;walk_at"w";walk_at"ss";intro tt htt;generalize hUtt:upd H4 tt _=H5;have sH5:=xg.of_eq htt hUtt;have ett:=xj hUtt;clear hUtt;walk_at"w";walk_at"ss";intro p hp;generalize hUp:upd H5 p _=H6;have sH6:=xg.of_eq hp hUp;have ep:=xj hUp;clear hUp;walk_at"w";walk_at"ss";intro pp hpp;generalize hUpp:upd H6 pp _=H7;have sH7:=xg.of_eq hpp hUpp;have epp:=xj hUpp;clear hUpp;walk_at"w";have e9:(aD (st.size+1).toNat [V.int 1]).flatten=(aD (st.size+1).toNat (1:Int)).map V.int:=by
    rw[fx,j6]
   have eu1':H3 u1=some (.tup ((aD (st.size+1).toNat (1:Int)).map V.int)):=by rw[←e9];exact eu1
   have hg:Good 0 (.put 0 (aD (st.size+1).toNat 1)):=⟨⟨by decide,(by intro z;have:=congrArg fX z;rw[bq]at this;simp at this;lia),(by rw[bq];lia),fun x hx=>by rw[(List.mem_replicate.mp hx).2];decide⟩,trivial,trivial⟩;have hcnt:((xq.cnt (.put 0 (aD (st.size+1).toNat 1)):Nat):Int)=st.size+1:=by
    show(((aD (st.size+1).toNat (1:Int)).length:Nat):Int)=_;rw[bq];lia
   obtain⟨tw,ej⟩:=xjF (n:=st.size+1) hg (by lia) rfl hcnt;refine q pp p .non 0 (st.size+1) [.put 0 (aD (st.size+1).toNat 1)] [] H7 (sH1.trans (sH2.trans (sH3.trans (sH4.trans (sH5.trans (sH6.trans sH7)))))) epp (fun d total tries=>⟨⟨⟨tt,[t1],sH7.at ep,(sH6.trans sH7).at ett,.cons ⟨u1,(sH5.trans (sH6.trans sH7)).at et1,(sH4.trans (sH5.trans (sH6.trans sH7))).at eu1'⟩ .nil⟩,(by decide:(0:Int)≤0∧(0:Int)≤300),⟨by show 0≤st.size+1;lia,by show st.size+1≤300;lia⟩,(by decide:1≤300),fun r hr=>?_,tw⟩,fun _ z=>?_⟩) (by rw[ej];rfl)
   ·rw[ao.mp hr];refine⟨hg.1,?_⟩;show(0:Int)+(((aD (st.size+1).toNat (1:Int)).length:Nat):Int)≤st.size+1;rw[bq];lia
   ·exfalso;have z:zP st 0 (st.size+1)=true:=z;unfold zP at z;rw[bR]at z;have:=of_decide_eq_true z.1;lia
  walk_at"w";refine⟨fun c1=>?_,fun c1=>?_⟩
  ·walk_at"w";walk_at"ss";intro t1 ht1;generalize hUt1:upd H t1 _=H1;have sH1:=xg.of_eq ht1 hUt1;have et1:=xj hUt1;clear hUt1;walk_at"w";walk_at"ss";intro tt htt;generalize hUtt:upd H1 tt _=H2;have sH2:=xg.of_eq htt hUtt;have ett:=xj hUtt;clear hUtt;walk_at"w";walk_at"ss";intro p hp;generalize hUp:upd H2 p _=H3;have sH3:=xg.of_eq hp hUp;have ep:=xj hUp;clear hUp;walk_at"w";walk_at"ss";intro pp hpp;generalize hUpp:upd H3 pp _=H4;have sH4:=xg.of_eq hpp hUpp;have epp:=xj hUpp;clear hUpp;walk_at"w";have hg:Good (old+1) (.take 0 old 1):=⟨⟨by decide,ho0,by decide⟩,trivial,show old+1≤old+1 by lia⟩;obtain⟨tw,ej⟩:=xjF (n:=1) hg (by lia) rfl rfl;refine q pp p .non (old+1) 1 [.take 0 old 1] [] H4 (sH1.trans (sH2.trans (sH3.trans sH4))) epp (fun d total tries=>⟨⟨⟨tt,[t1],sH4.at ep,(sH3.trans sH4).at ett,.cons ((sH2.trans (sH3.trans sH4)).at et1) .nil⟩,⟨by show 0≤old+1;lia,by show old+1≤300;lia⟩,(by decide:(0:Int)≤1∧(1:Int)≤300),(by decide:1≤300),fun r hr=>?_,tw⟩,fun _ z=>?_⟩) (by rw[ej];rfl)
   ·rw[ao.mp hr];exact⟨hg.1,⟨show old+1≤old+1 by lia,(by decide:(0:Int)+1≤1)⟩⟩
   ·exfalso;have z:zP st (old+1) 1=true:=z;unfold zP at z;rw[bR,Bool.or_eq_true,bR]at z;rcases z.2 with z|z
    ·have:=of_decide_eq_true z;lia
    ·have z1:=of_decide_eq_true z.1;have z2:=of_decide_eq_true z.2;rw[if_pos z1]at hold;lia
  walk_at"w";refine⟨old,c,rfl,ho0,by lia,fun p o n rs H1 s1 hp hN=>?_⟩;walk_at"w";walk_at"ss";intro pp hpp;generalize hUpp:upd H1 pp _=H2;have sH2:=xg.of_eq hpp hUpp;have epp:=xj hUpp;clear hUpp;walk_at"w";obtain⟨n1,n2,n3,n4,n5,n6⟩:=hN.fine ho0;have htx:=hI.tx (!st.mr);have hcl:=hI.cl (!st.mr);have htl:(tx (!st.mr)).length=(st.len (!st.mr)).toNat:=by rw[htx,bC];lia
  have hol:old≤(tx (!st.mr)).length:=by
   rw[htl]
   by_cases z:st.mark (!st.mr)=("good":Str)
   ·rw[if_pos z]at hold;lia
   ·rw[if_neg z]at hold;lia
  have hp2:=hp.same sH2;have pj:PJ K H2 p o n rs:=⟨hp2,by rcases n6 with rfl|rfl<;> constructor<;> lia,⟨n3,by lia⟩,by lia,hN.ok ho0,n2⟩
  by_cases hfit:max o n≤st.size
  ·obtain⟨nw,r1,r2,r3,r4,r5⟩:=hN.run ho0 ho1 htx hol (by lia);refine q pp p .non o n rs nw H2 (s1.trans sH2) epp (fun d total tries=>⟨pj,fun _ _=>⟨?_,by show max o n≤_;lia,r4,r1,r2,r3,r5⟩⟩) (by rw[n1];rfl);obtain⟨tt,us,g1,g2,g3⟩:=hp2;refine⟨tt,us,g1,g2,L2.Paired.imp' (fun _ _ z=>⟨z.1,z.2⟩) (xgz g3 fun r hr=>⟨(hN.ok ho0 r hr).1,hN.sm ho1 r hr⟩),?_⟩;rw[xgA g3];show rs.length≤58;lia
  ·refine q pp p .non o n rs [] H2 (s1.trans sH2) epp (fun d total tries=>⟨pj,fun _ z=>?_⟩) (by rw[n1];rfl);exfalso;have z:zP st o n=true:=z;unfold zP at z;rw[bR]at z;exact hfit (of_decide_eq_true z.1)
end
section
variable {P:av} {w:World} {K:ag} {mg:Str→Option Value} {base:Heap} {a:Adr}
theorem shp{d:dN}(h1:bJ d=true)(h2:dA d≤64):dw d=true:=by
 unfold dw;rw[h1,decide_eq_true h2];rfl
def vD:V→dN
 | .int i=>.int i
 | .str x=>.str x
 | .bl b=>.bool b
 |_=>.none
inductive Pl:V→Prop
 |non:Pl .non
 |bl (b:Bool):Pl (.bl b)
 |int (i:Int):Pl (.int i)
 |str (x:Str) (h:bJ (.str x)=true):Pl (.str x)
theorem Pl.rp{K:ag}{H:Hp}{v:V}(h:Pl v):Rp K H v (vD v):=by
 cases h with
 |non=>exact .non
 |bl b=>exact .bl b
 |int i=>exact .int i
 |str x _=>exact .str x
theorem Pl.can{v:V}(h:Pl v):bJ (vD v)=true:=by
 cases h with
 |non=>simp[vD,bJ]
 |bl b=>simp[vD,bJ]
 |int i=>simp[vD,bJ]
 |str x h=>exact h
theorem Pl.dep{v:V}(h:Pl v):dA (vD v)≤0:=by
 cases h<;> simp[vD,dA]
theorem xjG{K:ag}{H:Hp}:∀{xs:List V},(∀x∈xs,Pl x)→Rps K H xs (xs.map vD)
 |[],_=>.nil
 |x::r,h=>.cons (h x a9).rp (xjG fun y hy=>h y (aQ _ hy))
theorem xgB:∀{xs:List V},(∀x∈xs,Pl x)→cb (xs.map vD)=true
 |[],_=>by simp[cb]
 |x::r,h=>by simp only[bp,cb,(h x a9).can,xgB fun y hy=>h y (aQ _ hy),Bool.and_true]
theorem xgC:∀{xs:List V},(∀x∈xs,Pl x)→cz (xs.map vD)≤0
 |[],_=>by simp[cz]
 |x::r,h=>by
  simp only[bp,cz];have:=(h x a9).dep;have:=xgC fun y hy=>h y (aQ _ hy);lia
def fD:Option (List V)→dN
 |none=>.none
 |some xs=>.tuple (xs.map vD)
def xeo(v:V):Option (Nat×Option (List V))→dN
 |none=>.tuple [vD v,.list [],.none]
 |some (k,f)=>.tuple [.none,.list ((xeD k).map vD),fD f]
def PlA(v:V)(r:Option (Nat×Option (List V))):Prop:=Pl v∧∀k xs,r=some (k,some xs)→∀y∈xs,Pl y
theorem xcB(k:Nat):∀y∈xeD k,Pl y:=fun y hy=>by
 rcases aV.mp hy with h|h
 ·obtain⟨i,_,rfl⟩:=cy.mp h;exact .bl _
 ·rw[ao.mp h];exact .bl _
theorem xdb.rp{K:ag}{H:Hp}{t:Addr}{L:List Addr}{v:V}{r:Option (Nat×Option (List V))}(h:xdb H t L v r)(hp:PlA v r):Rp K H (.ref t) (xeo v r):=by
 match r,h,hp with
 |none,h,hp=>
  obtain⟨l,h1,h2,_⟩:=h;exact .tup (SqT.of h1) (.cons hp.1.rp (.cons (.lst (SqL.of h2) .nil) (.cons .non .nil)))
 |some (k,f),h,hp=>
  obtain⟨l,fv,h1,h2,_,h4⟩:=h;refine .tup (SqT.of h1) (.cons .non (.cons (.lst (SqL.of h2) (xjG (xcB k))) (.cons ?_ .nil)))
  match f,h4,hp with
  |none,h4,_=>rw[show fv= .non from h4];exact .non
  |some xs,h4,hp=>
   obtain⟨t',rfl,h5⟩:=h4;exact .tup (SqT.of h5) (xjG (hp.2 k xs rfl))
theorem xpG{v:V}{r:Option (Nat×Option (List V))}(hp:PlA v r):dw (xeo v r)=true:=by
 match r,hp with
 |none,hp=>
  refine shp ?_ ?_
  ·simp[xeo,bJ,cb,hp.1.can]
  ·have:=hp.1.dep;simp[xeo,dA,cz];lia
 |some (k,none),hp=>
  refine shp ?_ ?_
  ·simp[xeo,fD,bJ,cb,xgB (xcB k)]
  ·have:=xgC (xcB k);simp[xeo,fD,dA,cz];lia
 |some (k,some xs),hp=>
  refine shp ?_ ?_
  ·simp[xeo,fD,bJ,cb,xgB (xcB k),xgB (hp.2 k xs rfl)]
  ·have:=xgC (xcB k);have:=xgC (hp.2 k xs rfl);simp[xeo,fD,dA,cz];lia
theorem xrl{rs:List xq}{n:Int}{xs:List V}(h:jF rs n=some xs):∀y∈xs,Pl y:=by
 unfold jF at h
 split at h
 ·cases h;intro y hy;simp only[aq,aR,or_false]at hy;rcases hy with rfl|rfl
  ·exact .str _ (by decide+kernel)
  ·exact .int _
 ·split at h
  ·cases h;intro y hy;simp only[aq,aR,or_false]at hy;rcases hy with rfl|rfl|rfl
   ·exact .str _ (by decide+kernel)
   ·exact .int _
   ·exact .int _
  ·cases h
theorem xqz(s:BdS)(x:Dd):PlA (vj s x) (yk s x):=by
 refine⟨?_,fun k xs h=>?_⟩
 ·unfold vj
  split
  ·exact .int _
  ·exact .bl _
  ·exact .non
 ·unfold yk at h
  split at h
  ·cases h
  ·split at h
   ·cases h
   split at h
   ·cases h
   split at h
   ·rename_i hj;cases h;exact xrl hj
   ·split at h<;> cases h
  ·split at h
   ·cases h
   ·split at h<;> cases h
  ·split at h
   ·cases h
   ·split at h<;> cases h
def xiu(s:BdS):dN:=.tuple [.int (bI s.mr),.list [.str (s.mark false),.str (s.mark true)],.list [.int (s.len false),.int (s.len true)],.int s.ct,vD (zE s.run)]
theorem xjH(r:Option Bool):Pl (zE r):=by cases r with|none=>exact .non|some b=>exact .int _
theorem xkV{K:ag}{H:Hp}{s:BdS}{t m l:Addr}(h1:H t=some (.tup [.int (bI s.mr),.ref m,.ref l,.int s.ct,zE s.run]))(h2:H m=some (.lst [.str (s.mark false),.str (s.mark true)]))(h3:H l=some (.lst [.int (s.len false),.int (s.len true)])):Rp K H (.ref t) (xiu s):=
 .tup (SqT.of h1) (.cons (.int _) (.cons (.lst (SqL.of h2) (.cons (.str _) (.cons (.str _) .nil))) (.cons (.lst (SqL.of h3) (.cons (.int _) (.cons (.int _) .nil))) (.cons (.int _) (.cons (xjH s.run).rp .nil)))))
theorem xkW{m:Str}(h:Mk3 m):bJ (.str m)=true:=by
 rcases h with rfl|rfl|rfl<;> decide+kernel
theorem xpH{s:BdS}{tx:Bool→List Int}(h:Bok s tx):dw (xiu s)=true:=by
 refine shp ?_ ?_
 ·have e1:=xkW (h.mks false);have e2:=xkW (h.mks true);have e3:=(xjH s.run).can;simp only[bJ]at e1 e2;simp[xiu,bJ,cb,e1,e2,e3]
 ·have:=(xjH s.run).dep;simp[xiu,dA,cz];lia
def xlS(xs ys:List Int):dN:=.list [.list (xs.map iL),.list (ys.map iL)]
theorem xm4{K:ag}{G:Hp}{l a b:Addr}{xs ys:List Int}(h:G l=some (.lst [.ref a,.ref b]))(ha:G a=some (.lst (xs.map V.int)))(hb:G b=some (.lst (ys.map V.int))):Rp K G (.ref l) (xlS xs ys):=
 .lst (SqL.of h) (.cons (.ints (SqL.of ha)) (.cons (.ints (SqL.of hb)) .nil))
theorem xqA(xs ys:List Int):dw (xlS xs ys)=true:=by
 refine shp ?_ ?_
 ·simp[xlS,bJ,cb,W.ke_canLayAll0]
 ·simp[xlS,dA,cz,W.ke_depthAll]
theorem xm5{s:BdS}{x:Dd}{nn nn':List (Option Int)}{k k':Int}:(xaF s x nn k).alike (xaF s x nn' k'):=by
 unfold xaF
 split
 ·unfold vk
  split
  ·exact⟨rfl,rfl,rfl,rfl,rfl⟩
  ·exact⟨rfl,rfl,rfl,rfl,rfl⟩
  ·exact⟨rfl,rfl,rfl,rfl,rfl⟩
  ·exact⟨rfl,rfl,rfl,rfl,rfl⟩
 ·exact⟨rfl,rfl,rfl,rfl,rfl⟩
theorem xm6{s:BdS}{x:Dd}{nn:List (Option Int)}{k:Int}:(xaF s x nn k).size=s.size:=by
 unfold xaF
 split
 ·unfold vk
  split
  ·unfold zz;split<;> (try split)<;> rfl
  ·rfl
  ·rfl
  ·rfl
 ·rfl
theorem Kp.fresh{L:List Addr}{H G:Hp}(h:Kp L H G)(f:∀y∈L,H y=none):xg H G:=fun b u e=>h b u e fun z=>by rw[f b z]at e;cases e
def xjI(K:ag):Sp:=fun vs H Q _=>∃(l:Addr) (ns:List Int),vs=[.ref l]∧SqL K H l (ns.map V.int)∧ns.length≤63∧H yG=some (.tbl zb)∧H yp=some (.tbl yA)∧H xV=some (.tbl yj)∧H yO=some (.tbl uO)∧H zj=some (.tbl vO)∧H yH=some (.tbl uc)∧H yB=some (.tbl zw)∧∀H',Q (.bl true) H'
theorem xqB(T:Txt K mg a):xE P w K mg base CX0 13 a.q5s a.xlu ["_law_script"] (xjI K):=by
 refine T.xis.ok xmK (fun vs H Q E h=>?_) (fun cdv A outer s H vs Q E hr h=>?_)
 ·obtain⟨l,ns,rfl,_⟩:=h;rfl
 ·obtain⟨l,ns,rfl,hl,hns,hP1,hP2,hP3,hP4,hP5,hP6,hP7,q⟩:=h;have nd:=xmK.nd;have hT:Tbs H:=⟨hP1,hP2,hP3,hP7,hP4,hP5,hP6⟩;refine⟨_,(xh (xD (i:=1) nd rfl (az rfl) (xB (xkP T) (hr.mono (by decide)) (by rfl) T.xmE T.q41.kp T.xmD .nil xu (xc (xB (xc5 T) (hr.mono (by decide)) (by rfl) T.xd6 T.q2t.kp T.xd5 .nil xu (xc (cv 0) (xc xk xf))) (xc (xy zo (xB (xc5 T) (hr.mono (by decide)) (by rfl) T.xd6 T.q2t.kp T.xd5 .nil xu (xc (cv 0) (xc xk xf))) xk) xf))))
  (xh (xD (i:=2) nd rfl (az rfl) (xy yv (xI xZ (by rfl) T.q1Z yK (xc (cv 1) xf)) (xy zo (xB (xc5 T) (hr.mono (by decide)) (by rfl) T.xd6 T.q2t.kp T.xd5 .nil xu (xc (cv 0) (xc xk xf))) xk)))
  (xh (xD (i:=3) nd rfl (az rfl) zT)
  (xh (xqk ⟨rfl,rfl,rfl⟩ T.q5S (by rfl) T.xcn (fun _ _=>(xm (xR (xnD ⟨rfl,rfl,rfl⟩ (dvs:=[.non]) T.q5C (xdx T) (hr.mono (by decide)) (by rfl) T.xkD T.vR (.cons rfl .nil) (xc (xy xfC (cv 1) (xY (xc xk xf))) (xc (xI (xnu (K:=K) rfl) (by rfl) T.q1Z yK (xc (cv 1) xf)) xf)))))) (fun _ _ _=>(xm (xD (i:=3) nd rfl (az rfl) zT))))
  (xh (xD (i:=4) nd rfl (az rfl) (xaT (dvs:=[.non]) T.q5C (xdx T) (hr.mono (by decide)) (by rfl) T.xkD T.vR (.cons rfl .nil) xrb (xc (cv 1) (xc (cv 2) xf))))
  (xh (xD (i:=5) nd rfl (az rfl) (xH (xc xk (xc (xY (xc xG (xc xG xf))) (xc (xY (xc (xI xZ (by rfl) T.q1Z yK (xc (cv 1) xf)) (xc xk xf))) (xc xk (xc yi (xc (xY (xc (cv 1) (xc (xY xf) xf))) xf))))))))
  (xh (yE bf rfl (xme (by rfl) T.q1j (xc xk (xc (xI (xfQ rfl) (by rfl) T.q5N xfN (xc (xI xZ (by rfl) T.q1Z yK (xc (cv 0) xf)) (xc xk xf))) xf))) (xN (i:=6) nd rfl (az rfl)) (xh (xD (i:=7) nd rfl (az rfl) (xB (ug T) (hr.mono (by decide)) (by rfl) T.vw T.q1L.kp T.vt .nil xu (xc (xC yc (cv 0) (cv 6) (fun _ _=>rfl)) (xc (cv 6) xf))))
  (xh (xD (i:=8) nd rfl (az rfl) (xC yc (xY (xc xk (xc xk (xc xk (xc xk (xc xk (xc xk (xc xk (xc xk xf))))))))) (xy zo (cv 7) xk) (fun _ _=>rfl)))
  (xh (vI (xB (xoh T) (hr.mono (by decide)) (by rfl) T.xpm T.q4L.kp T.xpl .nil xu (xc (cv 5) (xc (xC yc (cv 0) (cv 6) (fun _ _=>rfl)) (xc (cv 2) xf)))) (uU rfl (xQ (xN (i:=9) nd rfl (az rfl)) (xQ (xN (i:=10) nd rfl (az rfl)) zI))))
  (xh (xD (i:=11) nd rfl (az rfl) xk)
  (xh (zu (xM (PW.pt (xdF (xaa (cv 10)) (xce (xcf (zh (xB (xjD T) (hr.mono (by decide)) (by rfl) T.xkC T.q4g.kp T.xkB .nil xu (xc (cv 5) (xc (cv 9) (xc (cv 2) xf))))))))) (xm (xD (i:=11) nd rfl (az rfl) (xy yv (xI (xdL rfl) (by rfl) T.q5X xiJ (xc (xB (xjC T) (hr.mono (by decide)) (by rfl) T.xky T.q4e.kp T.xkx .nil xu (xc (cv 9) (xc (xC yc (xC xK (cv 5) xk (fun _ _=>rfl)) (xy yw xk (xC xK (cv 5) xk (fun _ _=>rfl))) (fun _ _=>rfl)) xf))) xf)) (yd xdB (by rfl) T.q5M xfO (xc (yY yJ (xy zo (xy xfJ (cv 7) xk) xk) xk) xf))))) xx))
  (xh (vI (xB (xqy T) (hr.mono (by decide)) (by rfl) T.xrh T.q5B.kp T.xrg .nil xu (xc (cv 5) (xc (cv 8) (xc (cv 9) (xc (cv 10) (xc (cv 2) (xc (cv 11) (xc (xy zo (xy xfJ (cv 7) xk) xk) xf)))))))) (uU rfl (xQ (xN (i:=12) nd rfl (az rfl)) (xQ (xN (i:=5) nd rfl (az rfl)) zI))))
  (xh (xM (PW.pt (xaN (xO (xiq hr.units) (xB (xof T) (hr.mono (by decide)) (by rfl) T.xpi T.q4J.kp T.xph .nil xu (xc (cv 4) (xc (cv 8) (xc (cv 9) (xc (cv 11) (xc (xy zo (xy xfJ (cv 7) xk) xk) xf)))))) (cv 12)) (xaZ (xO (xiq hr.units) (xU (cv 4) T.q0c T.q49 (xik T) (hr.mono (by decide)) T.xi0 .nil xu) (jK xp1 (cv 5) xaU (xaV xk)))))) (xm (xw zT)) xx)
  (xm (xM (xO (xiq hr.units) (xY (xc (xT (cv 4) T.q0c T.q3j (xaE T) (hr.mono (by decide)) T.xbv .nil xu (xc xk xf)) (xc (xT (cv 4) T.q0c T.q3j (xaE T) (hr.mono (by decide)) T.xbv .nil xu (xc xk xf)) xf))) (xC xK (cv 5) xk (fun _ _=>rfl))) (xm (xw zT)) xx))))))))))
  (xm (xw (cv 3)))))))))),?_⟩
  walk_at"w";refine⟨l,ns,0,rfl,hl,by decide,?_⟩;walk_at"w";refine⟨l,ns,0,rfl,hl,by decide,?_⟩;walk_at"w";walk_at"ss";refine⟨cellAt ns 0,cellAt ns 0%7,rfl,by lia,by lia,fun x0 xs H1 s1 hx0 ex0 hlen hsg=>?_⟩;walk_at"w";refine⟨x0,_,rfl,.inl (SqL.of ex0),?_⟩;rw[ai];walk_at"w";refine⟨l,ns,1,rfl,s1.seq hl,by decide,?_⟩;walk_at"w";walk_at"ss";generalize hsv:(fun(i j:Int)=>V.int (i+j)) (xs.length:Int) (cellAt ns 1%6)=sv;obtain⟨size,rfl,hsz1,hsz2⟩:∃size:Int,sv= .int size∧xs.length≤size∧size≤11:=⟨xs.length+cellAt ns 1%6,hsv.symm,by lia,by lia⟩;clear hsv;intro c1 hc1;generalize hUc1:upd H1 c1 _=H2;have sH2:=xg.of_eq hc1 hUc1;have ec1:=xj hUc1;clear hUc1;walk_at"w";refine⟨x0,c1,_,_,rfl,rfl,sH2.at ex0,ec1,(by simp[a6];lia),?_⟩;intro c2 hc2;generalize hUc2:upd H2 c2 _=H3;have sH3:=xg.of_eq hc2 hUc2;have ec2:=xj hUc2;clear hUc2;walk_at"w";refine⟨x0,_,rfl,.inl (SqL.of ((sH2.trans sH3).at ex0)),?_⟩;rw[ai];walk_at"w";intro bd0' dx0 hb0 hd0 n0;have ec2':H3 c2=some (.lst ((xs++[1]).map V.int)):=by rw[ec2];simp
  refine⟨bd0',dx0,c2,xs++[1],xs.length,rfl,xt,(by rw[xr (xF ec2' hb0),xr (xF ec2' hd0)];exact ec2'),(by simp;lia),by lia,fun _ H4 s4=>?_,fun z=>by simp at z;lia⟩;walk_at"w";refine⟨a.q0f,rfl,T.q4M,?_⟩;walk_at"w";have s03:xg H H3:=s1.trans (sH2.trans sH3);have s34:xg H3 H4:=fun b u e=>s4 b u (by rw[xr (xF e hb0),xr (xF e hd0)];exact e);have s04:=s03.trans s34;have ex4:H4 x0=some (.lst (xs.map V.int)):=(sH2.trans (sH3.trans s34)).at ex0;intro ae hae;walk_at"w";intro bd dx hb hd ne;have up:∀{b:Addr} {u:HO},H4 b=some u→upd (upd H4 dx (.own bd)) bd (.ins a.q0d dx []) b=some u:=fun e=>by rw[xr (xF e hb),xr (xF e hd)];exact e
  refine⟨bd,dx,x0,xs,size,rfl,xt,up ex4,by lia,by lia,fun z=>absurd z (by lia),fun _ B H5 eb kp fr hB=>⟨rfl,?_⟩⟩;have fr4:∀y∈BS B,H4 y=none:=fun y hy=>by
   rcases fr y hy with rfl|h
   ·exact hb
   ·exact(xel h).2.2
  have s45:xg H4 H5:=fun b u e=>kp b u (up e) (by simp;exact xF e hb);have off4:∀{y:Addr} {u:HO},H4 y=some u→y∉BS B:=fun e z=>by rw[fr4 _ z]at e;cases e
  rw[←eb];clear eb kp fr up;walk_at"w";walk_at"ss";intro ml hml;generalize hUml:upd H5 ml _=H6;have sH6:=xg.of_eq hml hUml;have eml:=xj hUml;clear hUml;walk_at"w";refine⟨x0,_,rfl,.inl (SqL.of ((s45.trans sH6).at ex4)),?_⟩;rw[ai];walk_at"w";walk_at"ss";intro ll hll;generalize hUll:upd H6 ll _=H7;have sH7:=xg.of_eq hll hUll;have ell:=xj hUll;clear hUll;walk_at"w";walk_at"ss";intro el hel;generalize hUel:upd H7 el _=H8;have sH8:=xg.of_eq hel hUel;have eel:=xj hUel;clear hUel;walk_at"w";walk_at"ss";intro xl hxl;generalize hUxl:upd H8 xl _=H9;have sH9:=xg.of_eq hxl hUxl;have exl:=xj hUxl;clear hUxl;walk_at"w";walk_at"ss";intro t0 ht0;generalize hUt0:upd H9 t0 _=H10;have sH10:=xg.of_eq ht0 hUt0;have et0:=xj hUt0;clear hUt0;walk_at"w";have s510:xg H5 H10:=sH6.trans (sH7.trans (sH8.trans (sH9.trans sH10)));have s410:=s45.trans s510;have ln0:=hB.liv;have hS0:yr H10 t0 (bd0 xs size 0) (fun b=>if b then[]else xs) (BS B):=by
   refine⟨ml,ll,xl,x0,el,et0,(sH7.trans (sH8.trans (sH9.trans sH10))).at eml,(sH8.trans (sH9.trans sH10)).at ell,sH10.at exl,s410.at ex4,(sH9.trans sH10).at eel,ln0.off hml,(ln0.same sH6).off hll,(ln0.same (sH6.trans (sH7.trans sH8))).off hxl,off4 ex4,(ln0.same (sH6.trans sH7)).off hel⟩
  have hI0:Bok (bd0 xs size 0) (fun b=>if b then[]else xs):=by
   refine⟨⟨by show 0≤size;lia,hsz2⟩,fun b=>?_,fun b=>?_,fun b=>?_,fun b=>?_,rfl,fun b=>rfl,fh _⟩
   ·cases b
    ·show((xs++aD (size - xs.length).toNat 0).length:Int)=size;rw[aW,bq];lia
    ·show((aD size.toNat (0:Int)).length:Int)=size;rw[bq];lia
   ·cases b
    ·exact⟨by show 0≤(xs.length:Int);lia,hsz1⟩
    ·exact⟨fh _,by show 0≤size;lia⟩
   ·cases b
    ·show xs=(xs++aD (size - xs.length).toNat 0).take ((xs.length:Int)).toNat;rw[cD,List.take_left]
    ·rfl
   ·cases b
    ·exact .inl rfl
    ·exact .inr (.inl rfl)
  refine⟨l,_,rfl,.inl ((s04.trans s410).seq hl),?_⟩;rw[ai];walk_at"w";generalize hn:yy 2 (min (ns.length:Int) 42) 1=n;have hnn:n+2≤ns.length∨n=0:=by
   rw[zV]at hn;lia
  refine xbI (fun i σ G=>∃(s:BdS) (tx:Bool→List Int) (t:Addr) (y6 y7 y8 y9 y10 y11 y12:Option V),σ=[some (.ref l),some (.ref x0),some (.int size),some (.bl true),some (.ref B.bd),some (.ref t),y6,y7,y8,y9,y10,y11,y12]∧xg H4 G∧xP a G B s∧yr G t s tx (BS B)∧Bok s tx∧s.size=size)
   ⟨_,_,t0,_,_,_,_,_,_,_,rfl,s410,hB.same s510,hS0,hI0,rfl⟩ (fun i σ G hi hP=>?_) (fun σ G hP=>?_)
  rotate_left
  ·obtain⟨s',tx,t,y6,y7,y8,y9,y10,y11,y12,rfl,_⟩:=hP;walk_at"w";exact q G
  obtain⟨st,tx,t,y6,y7,y8,y9,y10,y11,y12,rfl,sG,hBG,hSG,hIG,hsz⟩:=hP;subst hsz;generalize hk:(2:Int)+(i:Int)*1=kk;have hk':kk.toNat=2+i:=by lia
  obtain⟨v,hv⟩:∃v,ns[kk.toNat]? =some v:=⟨_,aC (by lia)⟩;have hatv:atI (ns.map V.int) kk=some (.int v):=xfT (by lia) hv;walk_at"w";refine⟨l,_,_,.int v,rfl,rfl,(s04.trans sG).seq hl,hatv,?_⟩;walk_at"w";refine⟨v,kk,rfl,?_⟩;generalize hdr:mixed v kk=draw;walk_at"w";walk_at"ss";intro dl hdl;generalize hUdl:upd G dl _=G1;have sG1:=xg.of_eq hdl hUdl;have edl:=xj hUdl;clear hUdl;walk_at"w";walk_at"ss";obtain⟨d,hd3,hatd⟩:∃d:Nat,d≤3∧atI [V.int 0,V.int 0,V.int 1,V.int 1,V.int 1,V.int 2,V.int 2,V.int 3] (draw%8)=some (.int d):=by
   obtain⟨j,ej,hj⟩:∃j:Nat,draw%8=(j:Int)∧j<8:=⟨(draw%8).toNat,by lia,by lia⟩;rw[ej]
   match j,hj with
   |0,_=>exact⟨0,by decide,rfl⟩
   |1,_=>exact⟨0,by decide,rfl⟩
   |2,_=>exact⟨1,by decide,rfl⟩
   |3,_=>exact⟨1,by decide,rfl⟩
   |4,_=>exact⟨1,by decide,rfl⟩
   |5,_=>exact⟨2,by decide,rfl⟩
   |6,_=>exact⟨2,by decide,rfl⟩
   |7,_=>exact⟨3,by decide,rfl⟩
  refine⟨dl,_,_,.int d,rfl,rfl,SqL.of edl,hatd,?_⟩;walk_at"w";refine⟨l,_,_,.int v,rfl,rfl,(s04.trans (sG.trans sG1)).seq hl,hatv,?_⟩;walk_at"w";refine⟨t,v,st,tx,BS B,rfl,hSG.same sG1,hIG,fun pp p fv o n' rs nw G2 s2 epp hPI hF=>?_⟩;walk_at"w";refine⟨pp,_,rfl,SqT.of epp,rfl,?_⟩;walk_at"w";refine⟨_,_,rfl,?_⟩;walk_at"w";refine⟨_,_,rfl,?_⟩;walk_at"w";refine a7 rfl ?_;walk_at"w";have sG2:=sG1.trans s2;have hS2:=hSG.same sG2;obtain⟨m,ll',xl',xa,xb,h1,h2,h3,h4,h5,h6,_⟩:=id hS2;have hP0:=hPI 0 0 0;refine⟨fun σ' G'=>∃tot:Int,σ'=[some (.ref l),some (.ref x0),some (.int st.size),some (.bl true),some (.ref B.bd),some (.ref t),some (.int kk),some (.int draw),some (.int d),some (.ref p),some fv,some (.int tot),y12]∧xg G2 G',?_,?_⟩
  ·cases hj:jF rs n' with
   |some zs=>
    rw[hj]at hF;obtain⟨ft,rfl,eft⟩:=hF;walk_at"w";refine⟨by walk_at"no",fun _=>?_⟩;walk_at"w"
    first|exact⟨5,rfl,xg.refl _⟩|(refine⟨by walk_at"no",fun _=>?_⟩;exact⟨5,rfl,xg.refl _⟩)
   |none=>
    rw[hj]at hF;obtain rfl:fv= .non:=hF;obtain⟨tt,us,hp,_⟩:=id hP0.pj.at';walk_at"w";refine⟨fun _=>?_,by walk_at"no"⟩;walk_at"w";refine⟨t,p,tt,st,tx,BS B,o,n',rfl,hS2,hp,hP0.pj.ho.1,?_⟩;cases hf:zP st o n' with
    |false=>
     walk_at"w";refine⟨by walk_at"no",fun _=>?_⟩;exact⟨5,rfl,xg.refl _⟩
    |true=>
     walk_at"w";refine⟨fun _=>?_,by walk_at"no"⟩;obtain⟨f1,f2,f3,f4,f5,f6,f7⟩:=hP0.fit hj hf;have atX:atI [V.ref xa,V.ref xb] (1 - bI st.mr)=some (.ref (if st.mr then xa else xb)):=by cases st.mr<;> rfl
     have hxe:G2 (if st.mr then xa else xb)=some (.lst ((tx (!st.mr)).map V.int)):=by cases st.mr;exact h6;exact h5
     have hpn:jH K G2 p o nw.length rs:=by have f4':(nw.length:Int)=n':=f4;rw[f4'];exact hP0.pj.at'
     walk_at"w";refine⟨t,_,_,.ref xl',rfl,rfl,SqT.of h1,rfl,?_⟩;walk_at"w";refine⟨t,_,_,.int (bI st.mr),rfl,rfl,SqT.of h1,rfl,?_⟩;walk_at"w";refine⟨xl',_,_,_,rfl,rfl,SqL.of h4,atX,?_⟩;walk_at"w";refine⟨p,_,o,rs,tx (!st.mr),nw,rfl,hpn,hxe,f5,f6,(by have:n'≤300:=hP0.pj.hn.2;have f4':(nw.length:Int)=n':=f4;lia),fun nl G3 s3 hnl enl=>?_⟩;walk_at"w";refine⟨nl,_,rfl,SqL.of enl,?_⟩;walk_at"w";walk_at"ss";refine .inr ⟨decide (draw / 8%5=0),rfl,?_⟩;walk_at"w";exact⟨_,rfl,s3⟩
  rintro σ' G3 ⟨tot,rfl,s3⟩;walk_at"w";walk_at"ss";have s03:=sG2.trans s3;refine⟨t,p,fv,st,tx,BS B,⟨d,o,n',rs,tot,draw / 64%3,nw⟩,rfl,hd3,hS2.same s3,(hBG.same s03).liv,hIG,(hPI _ _ _).same s3,hF.same s3,fun pq ta t' G4 s4' epq hA hS4=>?_⟩;walk_at"w";refine⟨pq,_,rfl,SqT.of epq,rfl,?_⟩;walk_at"w";refine⟨_,_,rfl,?_⟩;walk_at"w";refine⟨_,_,rfl,?_⟩;walk_at"w";refine a7 rfl ?_;walk_at"w";walk_at"ss";have s04':=s03.trans s4';have hB4:=hBG.same s04';have hT4:Tbs G4:=hT.same (s04.trans (sG.trans s04'));refine⟨B,st,tx,⟨d,o,n',rs,tot,draw / 64%3,nw⟩,p,rfl,hB4,hT4,hIG,(hPI _ _ _).same (s3.trans s4'),hd3,fun tb G5 nn k5 k45 hn5 hB5 hA5=>?_⟩;have hI5:=hIG.out (nn:=nn) (k:=k5) (hPI d tot (draw / 64%3)) hd3 (by show 0≤draw / 64%3;lia) hn5;have hpl:=xqz st ⟨d,o,n',rs,tot,draw / 64%3,nw⟩;have hS5:=(hS4.kp k45 hB4.mu).cg (xm5 (nn':=nn) (k':=k5));have hsz5:=xm6 (s:=st) (x:=⟨d,o,n',rs,tot,draw / 64%3,nw⟩) (nn:=nn) (k:=k5);refine xe9 (f:=fun b=> !b) (hA5.rp hpl) ((hA.kp k45 hB4.mu).rp hpl) (xpG hpl) ?_;clear hA hA5 hpl;generalize xaF st ⟨d,o,n',rs,tot,draw / 64%3,nw⟩ nn k5=s5 at hB5 hI5 hS5 hsz5;generalize xfu st ⟨d,o,n',rs,tot,draw / 64%3,nw⟩ tx=tx5 at hI5 hS5;walk_at"w";refine⟨by walk_at"no",fun _=>?_⟩;walk_at"w";refine⟨B.bd,B.dx,_,rfl,hB5.bd,rfl,?_⟩;walk_at"w";refine⟨B,s5,rfl,hB5,fun tt m1 l1 G6 s6 e1 e2 e3=>?_⟩;walk_at"w";obtain⟨m5,l5,xl5,xa5,xb5,g1,g2,g3,g4,g5,g6,_⟩:=id (hS5.same s6);refine⟨_,rfl,?_⟩;walk_at"w";refine⟨t',_,rfl,SqT.of g1,(by decide:¬(HT.sIx 6 0 none=0∧HT.sIx 6 6 (some 5)=6)),?_⟩;intro sl hsl;generalize hUsl:upd G6 sl _=G7;have sG7:=xg.of_eq hsl hUsl;have esl:=xj hUsl;clear hUsl;walk_at"w";have esl':G7 sl=some (.tup [.int (bI s5.mr),.ref m5,.ref l5,.int s5.ct,zE s5.run]):=esl;refine xe9 (f:=fun b=> !b) (xkV (sG7.at e1) (sG7.at e2) (sG7.at e3)) (xkV esl' (sG7.at g2) (sG7.at g3)) (xpH hI5) ?_;have s57:=s6.trans sG7;have hB7:=hB5.same s57;walk_at"w";refine⟨by walk_at"no",fun _=>?_⟩;walk_at"w";refine⟨B.bd,B.dx,_,rfl,hB7.bd,rfl,?_⟩;walk_at"w";refine⟨B,s5,false,rfl,hB7,(hI5.ln false).1,fun ya G8 s8 eya=>?_⟩;have hB8:=hB7.same s8;walk_at"w";refine⟨B.bd,B.dx,_,rfl,hB8.bd,rfl,?_⟩;walk_at"w";refine⟨B,s5,true,rfl,hB8,(hI5.ln true).1,fun yb G9 s9 eyb=>?_⟩;walk_at"w";walk_at"ss";intro yl hyl;generalize hUyl:upd G9 yl _=G10;have sG10:=xg.of_eq hyl hUyl;have eyl:=xj hUyl;clear hUyl;walk_at"w";have s610:=sG7.trans (s8.trans (s9.trans sG10));refine⟨t',_,_,.ref xl5,rfl,rfl,SqT.of (s610.at g1),rfl,?_⟩;walk_at"w";rw[←hI5.tx false]at eya;rw[←hI5.tx true]at eyb;refine xe9 (f:=fun b=> !b) (xm4 eyl ((s9.trans sG10).at eya) (sG10.at eyb)) (xm4 (s610.at g4) (s610.at g5) (s610.at g6)) (xqA _ _) ?_;walk_at"w";refine⟨by walk_at"no",fun _=>?_⟩;have s510':=s6.trans s610;have kall:Kp (BS B) H4 G5:=(Kp.of (sG.trans s04')).trans k45;exact⟨s5,tx5,t',_,_,_,_,_,_,_,rfl,(kall.fresh fr4).trans s510',hB5.same s510',hS5.same s510',hI5,hsz5⟩
end
abbrev NI(K:ag)(x:Str)(f:Addr):Prop:=g8 K ba x=some (some (.ref f))
abbrev NN(K:ag)(x:Str):Prop:=g8 K ba x=some none
def FL(K:ag)(x q:Str)(st:Stmt)(f:Addr):Prop:=∃fd,Fun K x q st f fd
theorem xW{n:Nat}{us:List Value}(h:us.length=n+1):∃u r,us=u::r∧r.length=n:=by
 cases us with
 |nil=>cases h
 |cons u r=>exact⟨u,r,rfl,Nat.succ.inj h⟩
theorem jV{us:List Value}(h:us.length=0):us=[]:=List.length_eq_zero_iff.mp h
theorem bn1{K:ag}{x q:Str}{st:Stmt}{f:Addr}{fd:aj}{p1:Str}(F:Fun K x q st f fd)(h:∀(kV doc pm:Value) (an:Option Addr) (cdv ct u1:Value),dk (bO x q (yf st) (xS st) (xp st) .none kV doc pm an cdv ct) ⟨[u1],[]⟩=pure [(p1,u1)]:=by intros;exact rfl):Binds K fd [p1] []:=by
 refine F.binds fun kV doc pm an cdv ct us hl=>?_;obtain⟨u1,r1,rfl,k1⟩:=xW hl;obtain rfl:=jV k1;exact h kV doc pm an cdv ct u1
theorem bn2{K:ag}{x q:Str}{st:Stmt}{f:Addr}{fd:aj}{p1 p2:Str}(F:Fun K x q st f fd)(h:∀(kV doc pm:Value) (an:Option Addr) (cdv ct u1 u2:Value),dk (bO x q (yf st) (xS st) (xp st) .none kV doc pm an cdv ct) ⟨[u1,u2],[]⟩=pure [(p1,u1),(p2,u2)]:=by intros;exact rfl):Binds K fd [p1,p2] []:=by
 refine F.binds fun kV doc pm an cdv ct us hl=>?_;obtain⟨u1,r1,rfl,k1⟩:=xW hl;obtain⟨u2,r2,rfl,k2⟩:=xW k1;obtain rfl:=jV k2;exact h kV doc pm an cdv ct u1 u2
theorem bn3{K:ag}{x q:Str}{st:Stmt}{f:Addr}{fd:aj}{p1 p2 p3:Str}(F:Fun K x q st f fd)(h:∀(kV doc pm:Value) (an:Option Addr) (cdv ct u1 u2 u3:Value),dk (bO x q (yf st) (xS st) (xp st) .none kV doc pm an cdv ct) ⟨[u1,u2,u3],[]⟩=pure [(p1,u1),(p2,u2),(p3,u3)]:=by intros;exact rfl):Binds K fd [p1,p2,p3] []:=by
 refine F.binds fun kV doc pm an cdv ct us hl=>?_;obtain⟨u1,r1,rfl,k1⟩:=xW hl;obtain⟨u2,r2,rfl,k2⟩:=xW k1;obtain⟨u3,r3,rfl,k3⟩:=xW k2;obtain rfl:=jV k3;exact h kV doc pm an cdv ct u1 u2 u3
theorem bn4{K:ag}{x q:Str}{st:Stmt}{f:Addr}{fd:aj}{p1 p2 p3 p4:Str}(F:Fun K x q st f fd)(h:∀(kV doc pm:Value) (an:Option Addr) (cdv ct u1 u2 u3 u4:Value),dk (bO x q (yf st) (xS st) (xp st) .none kV doc pm an cdv ct) ⟨[u1,u2,u3,u4],[]⟩=pure [(p1,u1),(p2,u2),(p3,u3),(p4,u4)]:=by intros;exact rfl):Binds K fd [p1,p2,p3,p4] []:=by
 refine F.binds fun kV doc pm an cdv ct us hl=>?_;obtain⟨u1,r1,rfl,k1⟩:=xW hl;obtain⟨u2,r2,rfl,k2⟩:=xW k1;obtain⟨u3,r3,rfl,k3⟩:=xW k2;obtain⟨u4,r4,rfl,k4⟩:=xW k3;obtain rfl:=jV k4;exact h kV doc pm an cdv ct u1 u2 u3 u4
theorem bn5{K:ag}{x q:Str}{st:Stmt}{f:Addr}{fd:aj}{p1 p2 p3 p4 p5:Str}(F:Fun K x q st f fd)(h:∀(kV doc pm:Value) (an:Option Addr) (cdv ct u1 u2 u3 u4 u5:Value),dk (bO x q (yf st) (xS st) (xp st) .none kV doc pm an cdv ct) ⟨[u1,u2,u3,u4,u5],[]⟩=pure [(p1,u1),(p2,u2),(p3,u3),(p4,u4),(p5,u5)]:=by intros;exact rfl):Binds K fd [p1,p2,p3,p4,p5] []:=by
 refine F.binds fun kV doc pm an cdv ct us hl=>?_;obtain⟨u1,r1,rfl,k1⟩:=xW hl;obtain⟨u2,r2,rfl,k2⟩:=xW k1;obtain⟨u3,r3,rfl,k3⟩:=xW k2;obtain⟨u4,r4,rfl,k4⟩:=xW k3;obtain⟨u5,r5,rfl,k5⟩:=xW k4;obtain rfl:=jV k5;exact h kV doc pm an cdv ct u1 u2 u3 u4 u5
theorem bn6{K:ag}{x q:Str}{st:Stmt}{f:Addr}{fd:aj}{p1 p2 p3 p4 p5 p6:Str}(F:Fun K x q st f fd)(h:∀(kV doc pm:Value) (an:Option Addr) (cdv ct u1 u2 u3 u4 u5 u6:Value),dk (bO x q (yf st) (xS st) (xp st) .none kV doc pm an cdv ct) ⟨[u1,u2,u3,u4,u5,u6],[]⟩=pure [(p1,u1),(p2,u2),(p3,u3),(p4,u4),(p5,u5),(p6,u6)]:=by intros;exact rfl):Binds K fd [p1,p2,p3,p4,p5,p6] []:=by
 refine F.binds fun kV doc pm an cdv ct us hl=>?_;obtain⟨u1,r1,rfl,k1⟩:=xW hl;obtain⟨u2,r2,rfl,k2⟩:=xW k1;obtain⟨u3,r3,rfl,k3⟩:=xW k2;obtain⟨u4,r4,rfl,k4⟩:=xW k3;obtain⟨u5,r5,rfl,k5⟩:=xW k4;obtain⟨u6,r6,rfl,k6⟩:=xW k5;obtain rfl:=jV k6;exact h kV doc pm an cdv ct u1 u2 u3 u4 u5 u6
theorem bn7{K:ag}{x q:Str}{st:Stmt}{f:Addr}{fd:aj}{p1 p2 p3 p4 p5 p6 p7:Str}(F:Fun K x q st f fd)(h:∀(kV doc pm:Value) (an:Option Addr) (cdv ct u1 u2 u3 u4 u5 u6 u7:Value),dk (bO x q (yf st) (xS st) (xp st) .none kV doc pm an cdv ct) ⟨[u1,u2,u3,u4,u5,u6,u7],[]⟩=pure [(p1,u1),(p2,u2),(p3,u3),(p4,u4),(p5,u5),(p6,u6),(p7,u7)]:=by intros;exact rfl):Binds K fd [p1,p2,p3,p4,p5,p6,p7] []:=by
 refine F.binds fun kV doc pm an cdv ct us hl=>?_;obtain⟨u1,r1,rfl,k1⟩:=xW hl;obtain⟨u2,r2,rfl,k2⟩:=xW k1;obtain⟨u3,r3,rfl,k3⟩:=xW k2;obtain⟨u4,r4,rfl,k4⟩:=xW k3;obtain⟨u5,r5,rfl,k5⟩:=xW k4;obtain⟨u6,r6,rfl,k6⟩:=xW k5;obtain⟨u7,r7,rfl,k7⟩:=xW k6;obtain rfl:=jV k7;exact h kV doc pm an cdv ct u1 u2 u3 u4 u5 u6 u7
theorem xqC{l:W.OpenLaw}{w:World}{K:ag}{h:Heap}{mg:Str→Option Value}{fa:Addr}{q3h q1A q2o q09 q0S q15 q1N q1O q1B q1C q0M q02 q3X q2p q16 q1P q1Q q1g q4h q32 q2c q2w q2x q3t q1l q25 q2y q4x q1b q1m q1n q2q q4y q1I q2z q00 q1c q1o q3u q2A q2r q0Q q0w q1p q1R q1a q1S q1D q1E q1T q0t q0E q1q q1F q0U q1r q0P q1U q1V q0H q0A q0B q0x q0C q0y q0N q0V q0D q3v q3w q4z q5i q2B q4A q4B q4C q3x q4D q4E q33 q5A q4F q5s q26 q0h q0k q0s q0j q0d q0i q0I q0b q03 q0g q0a q0e q0p q0f:Addr}{q5V:Tok}{q5G:Addr}{q55:Option Addr}{q6i:Nat}{q56:Array (Option Value)}{q57:Value}{q5H:Addr}{q58:Option Addr}{q6j:Nat}{q59:Array (Option Value)}{q6a:Value}{q8m q8n q8o q8p q8q q8r q8s q8t q8u q8v q8w q8x q8y q8z q8A q8B q8C q8D q8E q8F:Option Addr}{q8G q8H q8I q8J q8K q8L q8M q8N q8O q8P:Array (Option Value)}{q8Q q8R q8S q8T q8U q8V q8W q8X q8Y q7M q8Z q80 q81 q82 q83 q84 q85 q86 q87 q88 q89 q9a q9b q9c q9d q7N q9e q9f q9g q9h q9i q9j q9k q9l q9m q9n q9o q9p q9q q9r q9s q9t q9u q9v q9w q9x q9y q9z q9A q9B q9C q7O q9D:Value}(X:K.In h)(G:h.Ns ba mg)(hfa:mg "law"=some (.ref fa))
  (q7P:NI K "Row" q26)
  (q7k:NI K "Take" q0h)
  (q7Q:NI K "Put" q0k)
  (q7R:NI K "Pen" q0s)
  (q7a:NI K "Store" q0j)
  (q7b:NI K "Board" q0d)
  (q7l:NI K "Down" q0i)
  (q6Z:NI K "Fallen" q0I)
  (q60:NI K "Faulty" q0b)
  (q7c:NI K "NoRow" q03)
  (q6M:NI K "NoTrial" q0g)
  (q6s:NI K "NoWayBack" q0a)
  (q6N:NI K "OnTrial" q0e)
  (q6t:NI K "RoomError" q0p)
  (q7d:NI K "Unfit" q0f)
  (q6p:gI K q0i L2.xa6 "ValueError.__new__"=true)
  (q5x:aF K (.ref q0i) (.ref q0I)=some false)
  (q2W:aF K (.ref q0i) (.ref q0b)=some false)
  (q5E:aF K (.ref q0i) (.ref q03)=some false)
  (q11:aF K (.ref q0i) (.ref q0p)=some true)
  (q5F:aF K (.ref q0i) (.ref q0f)=some false)
  (q3C:aw K (.ref q0i) (.type "ValueError")=some true)
  (q3O:va K q0i)
  (q42:xcQ K q0b q1A)
  (q3s:xJ K q0b "fault")
  (q5j:aF K (.ref q0b) (.ref q0I)=some false)
  (q36:aF K (.ref q0b) (.ref q0b)=some true)
  (q5t:aF K (.ref q0b) (.ref q03)=some false)
  (q4v:aF K (.ref q0b) (.ref q0p)=some true)
  (q5u:aF K (.ref q0b) (.ref q0f)=some false)
  (q27:aw K (.ref q0b) (.type "ValueError")=some true)
  (q18:va K q0b)
  (q5J:gI K q0g L2.xa6 "ValueError.__new__"=true)
  (q5g:aF K (.ref q0g) (.ref q0I)=some false)
  (q3P:aF K (.ref q0g) (.ref q0b)=some false)
  (q5k:aF K (.ref q0g) (.ref q03)=some false)
  (q28:aF K (.ref q0g) (.ref q0p)=some true)
  (q5l:aF K (.ref q0g) (.ref q0f)=some false)
  (q2X:aw K (.ref q0g) (.type "ValueError")=some true)
  (q13:va K q0g)
  (q5w:gI K q0a L2.xa6 "ValueError.__new__"=true)
  (q4w:aF K (.ref q0a) (.ref q0I)=some false)
  (q3o:aF K (.ref q0a) (.ref q0b)=some false)
  (q43:aF K (.ref q0a) (.ref q03)=some false)
  (q2H:aF K (.ref q0a) (.ref q0p)=some true)
  (q44:aF K (.ref q0a) (.ref q0f)=some false)
  (q2f:aw K (.ref q0a) (.type "ValueError")=some true)
  (q1v:va K q0a)
  (q5K:gI K q0e L2.xa6 "ValueError.__new__"=true)
  (q5h:aF K (.ref q0e) (.ref q0I)=some false)
  (q3Q:aF K (.ref q0e) (.ref q0b)=some false)
  (q5m:aF K (.ref q0e) (.ref q03)=some false)
  (q29:aF K (.ref q0e) (.ref q0p)=some true)
  (q5n:aF K (.ref q0e) (.ref q0f)=some false)
  (q2Y:aw K (.ref q0e) (.type "ValueError")=some true)
  (q14:va K q0e)
  (q5y:gI K q0f L2.xa6 "ValueError.__new__"=true)
  (q5v:aF K (.ref q0f) (.ref q0I)=some false)
  (q4l:aF K (.ref q0f) (.ref q0b)=some false)
  (q5z:aF K (.ref q0f) (.ref q03)=some false)
  (q3D:aF K (.ref q0f) (.ref q0p)=some true)
  (q4M:aF K (.ref q0f) (.ref q0f)=some true)
  (q3p:aw K (.ref q0f) (.type "ValueError")=some true)
  (q3a:va K q0f)
  (q6h:eX K q0I (.type "BaseException")=some true)
  (q5L:eX K q0b (.type "BaseException")=some true)
  (q6q:eX K q03 (.type "BaseException")=some true)
  (q5o:eX K q0p (.type "BaseException")=some true)
  (q5S:eX K q0f (.type "BaseException")=some true)
  (q7D:aK K (.ref q0I) "__init__"=some (some (.ref q3h)))
  (q3i:FL K "__init__" "Fallen.__init__" xde q3h)
  (q7E:aK K (.ref q0b) "__init__"=some (some (.ref q1A)))
  (q2g:FL K "__init__" "Faulty.__init__" xan q1A)
  (q8d:aK K (.ref q26) "__init__"=some (some (.ref q2o)))
  (q3L:FL K "__init__" "Row.__init__" xcR q2o)
  (q7S:aK K (.ref q26) "covers"=some (some (.ref q09)))
  (q2J:FL K "covers" "Row.covers" xa8 q09)
  (q7F:aK K (.ref q26) "covered"=some (some (.ref q0S)))
  (q2h:FL K "covered" "Row.covered" xao q0S)
  (q8a:aK K (.ref q0h) "__init__"=some (some (.ref q15)))
  (q3l:FL K "__init__" "Take.__init__" xbW q15)
  (q7T:aK K (.ref q0h) "stays"=some (some (.ref q1N)))
  (q2K:FL K "stays" "Take.stays" xa9 q1N)
  (q7U:aK K (.ref q0h) "reads"=some (some (.ref q1O)))
  (q2L:FL K "reads" "Take.reads" xba q1O)
  (q7G:aK K (.ref q0h) "writes"=some (some (.ref q1B)))
  (q2i:FL K "writes" "Take.writes" xap q1B)
  (q7H:aK K (.ref q0h) "pieces"=some (some (.ref q1C)))
  (q2j:FL K "pieces" "Take.pieces" xaq q1C)
  (q67:aK K (.ref q0h) "source_for"=some (some (.ref q0M)))
  (q1y:FL K "source_for" "Take.source_for" vz q0M)
  (q7i:aK K (.ref q0h) "sign_for"=some (some (.ref q02)))
  (q1Y:FL K "sign_for" "Take.sign_for" jl q02)
  (q8b:aK K (.ref q0h) "told"=some (some (.ref q3X)))
  (q3Y:FL K "told" "Take.told" xeP q3X)
  (q8e:aK K (.ref q0k) "__init__"=some (some (.ref q2p)))
  (q3M:FL K "__init__" "Put.__init__" xcS q2p)
  (q8c:aK K (.ref q0k) "reads"=some (some (.ref q16)))
  (q3m:FL K "reads" "Put.reads" xbX q16)
  (q7V:aK K (.ref q0k) "writes"=some (some (.ref q1P)))
  (q2M:FL K "writes" "Put.writes" xbb q1P)
  (q7W:aK K (.ref q0k) "pieces"=some (some (.ref q1Q)))
  (q2N:FL K "pieces" "Put.pieces" xbc q1Q)
  (q7m:aK K (.ref q0k) "sign_for"=some (some (.ref q1g)))
  (q19:FL K "sign_for" "Put.sign_for" jO q1g)
  (q8f:aK K (.ref q0k) "told"=some (some (.ref q4h)))
  (q4i:FL K "told" "Put.told" xfY q4h)
  (q7e:NI K "row_of" q32)
  (q10:FL K "row_of" "row_of" xfa q32)
  (q6u:NI K "tells_take" q2c)
  (q2d:FL K "tells_take" "tells_take" xbd q2c)
  (q6D:NI K "tells_put" q2w)
  (q2C:FL K "tells_put" "tells_put" xbY q2w)
  (q6E:NI K "are_signs" q2x)
  (q2D:FL K "are_signs" "are_signs" xbZ q2x)
  (q61:NI K "is_sign" q3t)
  (q3y:FL K "is_sign" "is_sign" xdQ q3t)
  (q5Y:NI K "is_whole_from" q1l)
  (q0z:FL K "is_whole_from" "is_whole_from" jm q1l)
  (q6O:NI K "is_whole" q25)
  (q2s:FL K "is_whole" "is_whole" xcT q25)
  (q6F:NI K "pieces_of" q2y)
  (q2E:FL K "pieces_of" "pieces_of" xb0 q2y)
  (q7n:NI K "go_on" q4x)
  (q4G:FL K "go_on" "go_on" xgN q4x)
  (q5T:NI K "refuse_lengths" q1b)
  (q1d:FL K "refuse_lengths" "refuse_lengths" vY q1b)
  (q5Z:NI K "refuse_beyond" q1m)
  (q1s:FL K "refuse_beyond" "refuse_beyond" jn q1m)
  (q50:NI K "places_needed" q1n)
  (q1t:FL K "places_needed" "places_needed" jo q1n)
  (q6P:NI K "do_piece" q2q)
  (q4X:uz K q1k yG)
  (q6Q:K.lookup q2q=some ⟨q8Q,q8m,.func (bO "do_piece" "do_piece" (yf zY) (xS zY) (xp zY) .none q8R q8S q8T q8n (.ref q1k) q8U),q8G⟩)
  (q1k:cx K (.ref q1k) "do_piece"=true)
  (q6R:bY K (.ref q2q)=true)
  (q7o:NI K "judge" q4y)
  (q4H:FL K "judge" "judge" xgO q4y)
  (q6b:NI K "fits_in_size" q1I)
  (q1J:FL K "fits_in_size" "fits_in_size" jP q1I)
  (q6G:NI K "is_length" q2z)
  (q17:FL K "is_length" "is_length" xb1 q2z)
  (q5O:NI K "first_wrong_row" q00)
  (q01:FL K "first_wrong_row" "first_wrong_row" vA q00)
  (q5U:NI K "is_fitting_row" q1c)
  (q1e:FL K "is_fitting_row" "is_fitting_row" vZ q1c)
  (q51:NI K "covered_twice" q1o)
  (q1u:FL K "covered_twice" "covered_twice" jq q1o)
  (q62:NI K "lacking" q3u)
  (q3z:FL K "lacking" "lacking" xdR q3u)
  (q6H:NI K "read_late" q2A)
  (q2F:FL K "read_late" "read_late" xb2 q2A)
  (q8g:aK K (.ref q0s) "__init__"=some (some (.ref q2r)))
  (q3N:FL K "__init__" "Pen.__init__" xcU q2r)
  (q7f:aK K (.ref q0s) "write_into"=some (some (.ref q0Q)))
  (q1K:FL K "write_into" "Pen.write_into" ja q0Q)
  (q6S:aK K (.ref q0s) "answer_of_fall"=some (some (.ref q0w)))
  (q0W:FL K "answer_of_fall" "Pen.answer_of_fall" zZ q0w)
  (q7X:aK K (.ref q0j) "__init__"=some (some (.ref q1p)))
  (q6v:K.lookup q1p=some ⟨q8V,q8o,.func (bO "__init__" "Store.__init__" (yf zM) (xS zM) (xp zM) (.ref q5G) q8W q8X q8Y q8p q7M q8Z),q8H⟩)
  (q6k:K.lookup q5G=some ⟨q57,q55,.seq #[.none] q6i,q56⟩)
  (q6w:cx K q7M "Store.__init__"=true)
  (q6x:bY K (.ref q1p)=true)
  (q7Y:aK K (.ref q0j) "read"=some (some (.ref q1R)))
  (q2O:FL K "read" "Store.read" xbe q1R)
  (q7I:aK K (.ref q0j) "write"=some (some (.ref q1a)))
  (q4I:uz K q0R yp)
  (q6l:K.lookup q1a=some ⟨q80,q8q,.func (bO "write" "Store.write" (yf zt) (xS zt) (xp zt) .none q81 q82 q83 q8r (.ref q0R) q84),q8I⟩)
  (q0R:cx K (.ref q0R) "Store.write"=true)
  (q6m:bY K (.ref q1a)=true)
  (q7Z:aK K (.ref q0j) "mark"=some (some (.ref q1S)))
  (q2P:FL K "mark" "Store.mark" xbf q1S)
  (q7J:aK K (.ref q0j) "noted"=some (some (.ref q1D)))
  (q2k:FL K "noted" "Store.noted" xar q1D)
  (q7K:aK K (.ref q0j) "begin"=some (some (.ref q1E)))
  (q2l:FL K "begin" "Store.begin" xas q1E)
  (q70:aK K (.ref q0j) "told"=some (some (.ref q1T)))
  (q2Q:FL K "told" "Store.told" xbg q1T)
  (q6I:aK K (.ref q0j) "refuse_lacking"=some (some (.ref q0t)))
  (q0L:FL K "refuse_lacking" "Store.refuse_lacking" zC q0t)
  (q68:aK K (.ref q0j) "note_down"=some (some (.ref q0E)))
  (q3A:uz K q0v xV)
  (q5P:K.lookup q0E=some ⟨q85,q8s,.func (bO "note_down" "Store.note_down" (yf yI) (xS yI) (xp yI) .none q86 q87 q88 q8t (.ref q0v) q89),q8J⟩)
  (q0v:cx K (.ref q0v) "Store.note_down"=true)
  (q5Q:bY K (.ref q0E)=true)
  (q71:aK K (.ref q0d) "__init__"=some (some (.ref q1q)))
  (q6y:K.lookup q1q=some ⟨q9a,q8u,.func (bO "__init__" "Board.__init__" (yf zN) (xS zN) (xp zN) (.ref q5H) q9b q9c q9d q8v q7N q9e),q8K⟩)
  (q6n:K.lookup q5H=some ⟨q6a,q58,.seq #[.none] q6j,q59⟩)
  (q6z:cx K q7N "Board.__init__"=true)
  (q6A:bY K (.ref q1q)=true)
  (q7L:aK K (.ref q0d) "start"=some (some (.ref q1F)))
  (q2m:FL K "start" "Board.start" xat q1F)
  (q7p:aK K (.ref q0d) "update"=some (some (.ref q0U)))
  (q4j:uz K q0J yO)
  (q6c:K.lookup q0U=some ⟨q9f,q8w,.func (bO "update" "Board.update" (yf yN) (xS yN) (xp yN) .none q9g q9h q9i q8x (.ref q0J) q9j),q8L⟩)
  (q0J:cx K (.ref q0J) "Board.update"=true)
  (q6d:bY K (.ref q0U)=true)
  (q72:aK K (.ref q0d) "fine"=some (some (.ref q1r)))
  (q45:uz K q08 zj)
  (q6B:K.lookup q1r=some ⟨q9k,q8y,.func (bO "fine" "Board.fine" (yf zi) (xS zi) (xp zi) .none q9l q9m q9n q8z (.ref q08) q9o),q8M⟩)
  (q08:cx K (.ref q08) "Board.fine"=true)
  (q6C:bY K (.ref q1r)=true)
  (q7j:aK K (.ref q0d) "go_back"=some (some (.ref q0P)))
  (q34:uz K q0G yH)
  (q52:K.lookup q0P=some ⟨q9p,q8A,.func (bO "go_back" "Board.go_back" (yf yF) (xS yF) (xp yF) .none q9q q9r q9s q8B (.ref q0G) q9t),q8N⟩)
  (q0G:cx K (.ref q0G) "Board.go_back"=true)
  (q53:bY K (.ref q0P)=true)
  (q73:aK K (.ref q0d) "text"=some (some (.ref q1U)))
  (q2R:FL K "text" "Board.text" xbh q1U)
  (q74:aK K (.ref q0d) "told"=some (some (.ref q1V)))
  (q2S:FL K "told" "Board.told" xbi q1V)
  (q63:aK K (.ref q0d) "other_bank"=some (some (.ref q0H)))
  (q1h:FL K "other_bank" "Board.other_bank" vc q0H)
  (q6V:aK K (.ref q0d) "bank_to_run"=some (some (.ref q0A)))
  (q04:FL K "bank_to_run" "Board.bank_to_run" uA q0A)
  (q6W:aK K (.ref q0d) "refuse_down"=some (some (.ref q0B)))
  (q05:FL K "refuse_down" "Board.refuse_down" uB q0B)
  (q6T:aK K (.ref q0d) "refuse_paper"=some (some (.ref q0x)))
  (q0X:FL K "refuse_paper" "Board.refuse_paper" ua q0x)
  (q6X:aK K (.ref q0d) "holds_elder"=some (some (.ref q0C)))
  (q06:FL K "holds_elder" "Board.holds_elder" uC q0C)
  (q6U:aK K (.ref q0d) "put_on_trial"=some (some (.ref q0y)))
  (q0Y:FL K "put_on_trial" "Board.put_on_trial" ub q0y)
  (q69:aK K (.ref q0d) "make_good"=some (some (.ref q0N)))
  (q1z:FL K "make_good" "Board.make_good" vB q0N)
  (q7q:aK K (.ref q0d) "change"=some (some (.ref q0V)))
  (q4k:uz K q0K yB)
  (q6e:K.lookup q0V=some ⟨q9u,q8C,.func (bO "change" "Board.change" (yf zc) (xS zc) (xp zc) .none q9v q9w q9x q8D (.ref q0K) q9y),q8O⟩)
  (q0K:cx K (.ref q0K) "Board.change"=true)
  (q6f:bY K (.ref q0V)=true)
  (q6Y:aK K (.ref q0d) "run_or_fall"=some (some (.ref q0D)))
  (q07:FL K "run_or_fall" "Board.run_or_fall" uD q0D)
  (q64:NI K "bank_of" q3v)
  (q23:FL K "bank_of" "bank_of" xdS q3v)
  (q65:NI K "_law_cell_at" q3w)
  (q2t:FL K "_law_cell_at" "_law_cell_at" xdT q3w)
  (q7r:NI K "_law_mixed" q4z)
  (q1L:FL K "_law_mixed" "_law_mixed" xgP q4z)
  (q75:NI K "_law_text" q5i)
  (q41:FL K "_law_text" "_law_text" xiQ q5i)
  (q6J:NI K "_law_new_paper" q2B)
  (q2G:FL K "_law_new_paper" "_law_new_paper" xb3 q2B)
  (q7s:NI K "_law_meant" q4A)
  (q4e:FL K "_law_meant" "_law_meant" xgQ q4A)
  (q7t:NI K "_law_kinds" q4B)
  (q4f:FL K "_law_kinds" "_law_kinds" xgR q4B)
  (q7u:NI K "_law_asked" q4C)
  (q4J:FL K "_law_asked" "_law_asked" xgS q4C)
  (q66:NI K "_law_refusal" q3x)
  (q1i:FL K "_law_refusal" "_law_refusal" xdU q3x)
  (q7v:NI K "_law_start" q4D)
  (q4K:FL K "_law_start" "_law_start" xgT q4D)
  (q7w:NI K "_law_unfit" q4E)
  (q4g:FL K "_law_unfit" "_law_unfit" xgU q4E)
  (q7g:NI K "_law_update" q33)
  (q35:FL K "_law_update" "_law_update" s_update q33)
  (q8h:NI K "_law_due" q5A)
  (q5B:FL K "_law_due" "_law_due" xls q5A)
  (q7x:NI K "_law_paper" q4F)
  (q4L:FL K "_law_paper" "_law_paper" xgV q4F)
  (q8i:NI K "law" q5s)
  (q8j:K.lookup q5s=some ⟨q9z,q8E,.func (bO "law" "law" (yf xey) (xS xey) (xp xey) .none q9A q9B q9C q8F q7O q9D),q8P⟩)
  (q8k:cx K q7O "law"=true)
  (q8l:bY K (.ref q5s)=true)
  (q7h:Cls K q26)
  (q5I:xJ K q26 "count")
  (q6g:xJ K q26 "to")
  (q0l:Cls K q0h)
  (q0T:xJ K q0h "count")
  (q0F:xJ K q0h "source")
  (q0Z:xJ K q0h "to")
  (q54:Mk K q0h q15)
  (q1G:Cls K q0k)
  (q1W:xJ K q0k "count")
  (q3B:xJ K q0k "signs")
  (q24:xJ K q0k "to")
  (q6o:Mk K q0k q2p)
  (q3Z:Cls K q0s)
  (q2T:xJ K q0s "asked")
  (q4Y:xJ K q0s "fall")
  (q5W:Mk K q0s q2r)
  (q0r:Cls K q0j)
  (q1M:xJ K q0j "cells")
  (q2a:xJ K q0j "notes")
  (q2e:xJ K q0j "pen")
  (q5R:Mk K q0j q1p)
  (q0c:Cls K q0d)
  (q2U:xJ K q0d "banks")
  (q1f:xJ K q0d "lengths")
  (q0n:xJ K q0d "marks")
  (q2V:xJ K q0d "pen")
  (q0m:xJ K q0d "running")
  (q0o:xJ K q0d "settings")
  (q30:xJ K q0d "size")
  (q5C:Mk K q0d q1q)
  (q3f:Meth K q0d "bank_to_run" q0A)
  (q0u:Meth K q0d "change" q0V)
  (q48:Meth K q0d "fine" q1r)
  (q4c:Meth K q0d "go_back" q0P)
  (q3g:Meth K q0d "holds_elder" q0C)
  (q3K:Meth K q0d "make_good" q0N)
  (q0O:Meth K q0d "other_bank" q0H)
  (q2Z:Meth K q0d "put_on_trial" q0y)
  (q1w:Meth K q0d "refuse_down" q0B)
  (q20:Meth K q0d "refuse_paper" q0x)
  (q1x:Meth K q0d "run_or_fall" q0D)
  (q4Q:Meth K q0d "start" q1F)
  (q3j:Meth K q0d "text" q1U)
  (q49:Meth K q0d "told" q1V)
  (q4t:Meth K q0d "update" q0U)
  (q21:Meth K q0s "answer_of_fall" q0w)
  (q12:Meth K q0s "write_into" q0Q)
  (q2b:Meth K q0k "covered" q0S)
  (q5a:Meth K q0k "covers" q09)
  (q5b:Meth K q0k "pieces" q1Q)
  (q5q:Meth K q0k "reads" q16)
  (q4u:Meth K q0k "sign_for" q1g)
  (q5c:Meth K q0k "writes" q1P)
  (q4R:Meth K q0j "begin" q1E)
  (q5d:Meth K q0j "mark" q1S)
  (q1X:Meth K q0j "note_down" q0E)
  (q4S:Meth K q0j "noted" q1D)
  (q5e:Meth K q0j "read" q1R)
  (q1H:Meth K q0j "refuse_lacking" q0t)
  (q31:Meth K q0j "told" q1T)
  (q4T:Meth K q0j "write" q1a)
  (q2u:Meth K q0h "covered" q0S)
  (q4U:Meth K q0h "covers" q09)
  (q4V:Meth K q0h "pieces" q1C)
  (q5f:Meth K q0h "reads" q1O)
  (q4d:Meth K q0h "sign_for" q02)
  (q2v:Meth K q0h "source_for" q0M)
  (q3k:Meth K q0h "stays" q1N)
  (q4W:Meth K q0h "writes" q1B)
  (q40:xnr K q26 "__init__" q2o)
  (q76:aK K (.ref q0k) "__class__"=some (some (.builtin "object.__class__")))
  (q77:il K (.builtin "object.__class__") "__get__"=some (some (.builtin "getset_descriptor.__get__")))
  (q78:W.takesIn K (.builtin "object.__class__")=some true)
  (q79:eX K q0k (.type "object")=some true)
  (q7y:aK K (.ref q0h) "__class__"=some (some (.builtin "object.__class__")))
  (q7z:il K (.builtin "object.__class__") "__get__"=some (some (.builtin "getset_descriptor.__get__")))
  (q7A:W.takesIn K (.builtin "object.__class__")=some true)
  (q7B:eX K q0h (.type "object")=some true)
  (q5p:aw K (.ref q0i) (.ref q0i)=some true)
  (q4N:aw K (.ref q0i) (.ref q0b)=some false)
  (q4m:aw K (.ref q0i) (.ref q0g)=some false)
  (q3R:aw K (.ref q0i) (.ref q0a)=some false)
  (q4n:aw K (.ref q0i) (.ref q0e)=some false)
  (q46:aw K (.ref q0i) (.ref q0f)=some false)
  (q4O:aw K (.ref q0b) (.ref q0i)=some false)
  (q37:aw K (.ref q0b) (.ref q0b)=some true)
  (q3S:aw K (.ref q0b) (.ref q0g)=some false)
  (q3q:aw K (.ref q0b) (.ref q0a)=some false)
  (q3T:aw K (.ref q0b) (.ref q0e)=some false)
  (q4o:aw K (.ref q0b) (.ref q0f)=some false)
  (q4p:aw K (.ref q0g) (.ref q0i)=some false)
  (q3U:aw K (.ref q0g) (.ref q0b)=some false)
  (q3E:aw K (.ref q0g) (.ref q0g)=some true)
  (q3b:aw K (.ref q0g) (.ref q0a)=some false)
  (q3F:aw K (.ref q0g) (.ref q0e)=some false)
  (q38:aw K (.ref q0g) (.ref q0f)=some false)
  (q3V:aw K (.ref q0a) (.ref q0i)=some false)
  (q3r:aw K (.ref q0a) (.ref q0b)=some false)
  (q3c:aw K (.ref q0a) (.ref q0g)=some false)
  (q2I:aw K (.ref q0a) (.ref q0a)=some true)
  (q3d:aw K (.ref q0a) (.ref q0e)=some false)
  (q3G:aw K (.ref q0a) (.ref q0f)=some false)
  (q4q:aw K (.ref q0e) (.ref q0i)=some false)
  (q3W:aw K (.ref q0e) (.ref q0b)=some false)
  (q3H:aw K (.ref q0e) (.ref q0g)=some false)
  (q3e:aw K (.ref q0e) (.ref q0a)=some false)
  (q3I:aw K (.ref q0e) (.ref q0e)=some true)
  (q39:aw K (.ref q0e) (.ref q0f)=some false)
  (q4Z:aw K (.ref q0k) (.ref q0h)=some false)
  (q4r:aw K (.ref q0h) (.ref q0h)=some true)
  (q47:aw K (.ref q0f) (.ref q0i)=some false)
  (q4s:aw K (.ref q0f) (.ref q0b)=some false)
  (q4a:aw K (.ref q0f) (.ref q0g)=some false)
  (q3J:aw K (.ref q0f) (.ref q0a)=some false)
  (q4b:aw K (.ref q0f) (.ref q0e)=some false)
  (q4P:aw K (.ref q0f) (.ref q0f)=some true)
  (q7C:g8 K ba "MOST"=some (some (.int 300 q5V)))
  (q5r:NN K "ValueError")
  (q6K:NN K "abs")
  (q6L:NN K "all")
  (q6r:NN K "bool")
  (q3n:NN K "enumerate")
  (q5M:NN K "int")
  (q0q:NN K "isinstance")
  (q1Z:NN K "len")
  (q22:NN K "list")
  (q5D:NN K "max")
  (q5N:NN K "min")
  (q1j:NN K "range")
  (q5X:NN K "sum")
  (q2n:NN K "tuple")
  :∃fd:aj,(∀(s:af) (v:Value),iu s fd ⟨[v],[]⟩ [("_law_script",v)])∧∀base:Heap,K.In base→base.Ns ba mg→xE l.prog w K mg base CX0 13 fa fd ["_law_script"] (xjI K):=by
 have e:=hfa.symm.trans (W.mg_of X G q8i);have e2:q5s=fa:=by injection e with e;injection e with e;exact e.symm
 subst e2;obtain⟨_,q3i⟩:=q3i;obtain⟨_,q2g⟩:=q2g;obtain⟨_,q3L⟩:=q3L;obtain⟨_,q2J⟩:=q2J;obtain⟨_,q2h⟩:=q2h;obtain⟨_,q3l⟩:=q3l;obtain⟨_,q2K⟩:=q2K;obtain⟨_,q2L⟩:=q2L;obtain⟨_,q2i⟩:=q2i;obtain⟨_,q2j⟩:=q2j;obtain⟨_,q1y⟩:=q1y;obtain⟨_,q1Y⟩:=q1Y;obtain⟨_,q3Y⟩:=q3Y;obtain⟨_,q3M⟩:=q3M;obtain⟨_,q3m⟩:=q3m;obtain⟨_,q2M⟩:=q2M;obtain⟨_,q2N⟩:=q2N;obtain⟨_,q19⟩:=q19;obtain⟨_,q4i⟩:=q4i;obtain⟨_,q10⟩:=q10;obtain⟨_,q2d⟩:=q2d;obtain⟨_,q2C⟩:=q2C;obtain⟨_,q2D⟩:=q2D;obtain⟨_,q3y⟩:=q3y;obtain⟨_,q0z⟩:=q0z;obtain⟨_,q2s⟩:=q2s;obtain⟨_,q2E⟩:=q2E;obtain⟨_,q4G⟩:=q4G;obtain⟨_,q1d⟩:=q1d;obtain⟨_,q1s⟩:=q1s;obtain⟨_,q1t⟩:=q1t;have jA:=jk (st:=zY) q6Q q1k q6R;obtain⟨_,q4H⟩:=q4H;obtain⟨_,q1J⟩:=q1J;obtain⟨_,q17⟩:=q17;obtain⟨_,q01⟩:=q01;obtain⟨_,q1e⟩:=q1e;obtain⟨_,q1u⟩:=q1u;obtain⟨_,q3z⟩:=q3z;obtain⟨_,q2F⟩:=q2F;obtain⟨_,q3N⟩:=q3N;obtain⟨_,q1K⟩:=q1K;obtain⟨_,q0W⟩:=q0W;have ve:=xku (st:=zM) (ds:=[.none]) q6v q6w q6x q6k;have xd1:=ve.binds (ps:=["self","cells","fall"]) (es:=[]) 3 rfl fun _ _ _ _ _ _ _ us hl=>match us,hl with|[_,_,_],_=>⟨_,rfl,rfl⟩
 have xaB:=ve.binds (ps:=["self","cells","fall"]) (es:=[.none]) 2 rfl fun _ _ _ _ _ _ _ us hl=>match us,hl with|[_,_],_=>⟨_,rfl,rfl⟩
 obtain⟨_,q2O⟩:=q2O;have vQ:=jk (st:=zt) q6l q0R q6m;obtain⟨_,q2P⟩:=q2P;obtain⟨_,q2k⟩:=q2k;obtain⟨_,q2l⟩:=q2l;obtain⟨_,q2Q⟩:=q2Q;obtain⟨_,q0L⟩:=q0L;have zG:=jk (st:=yI) q5P q0v q5Q;have vf:=xku (st:=zN) (ds:=[.none]) q6y q6z q6A q6n;have xd4:=vf.binds (ps:=["self","text","size","fall"]) (es:=[]) 4 rfl fun _ _ _ _ _ _ _ us hl=>match us,hl with|[_,_,_,_],_=>⟨_,rfl,rfl⟩
 have vR:=vf.binds (ps:=["self","text","size","fall"]) (es:=[.none]) 3 rfl fun _ _ _ _ _ _ _ us hl=>match us,hl with|[_,_,_],_=>⟨_,rfl,rfl⟩
 obtain⟨_,q2m⟩:=q2m;have vp:=jk (st:=yN) q6c q0J q6d;have jB:=jk (st:=zi) q6B q08 q6C;have uQ:=jk (st:=yF) q52 q0G q53;obtain⟨_,q2R⟩:=q2R;obtain⟨_,q2S⟩:=q2S;obtain⟨_,q1h⟩:=q1h;obtain⟨_,q04⟩:=q04;obtain⟨_,q05⟩:=q05;obtain⟨_,q0X⟩:=q0X;obtain⟨_,q06⟩:=q06;obtain⟨_,q0Y⟩:=q0Y;obtain⟨_,q1z⟩:=q1z;have vq:=jk (st:=zc) q6e q0K q6f;obtain⟨_,q07⟩:=q07;obtain⟨_,q23⟩:=q23;obtain⟨_,q2t⟩:=q2t;obtain⟨_,q1L⟩:=q1L;obtain⟨_,q41⟩:=q41;obtain⟨_,q2G⟩:=q2G;obtain⟨_,q4e⟩:=q4e;obtain⟨_,q4f⟩:=q4f;obtain⟨_,q4J⟩:=q4J;obtain⟨_,q1i⟩:=q1i;obtain⟨_,q4K⟩:=q4K;obtain⟨_,q4g⟩:=q4g;obtain⟨_,q35⟩:=q35;obtain⟨_,q5B⟩:=q5B;obtain⟨_,q4L⟩:=q4L;have xis:=jk (st:=xey) q8j q8k q8l;have g {x v} (q:g8 K ba x=some (some v)):=W.mg_of X G q;have g0 {x} (q:g8 K ba x=some none):=W.mg_none_of X G q;have T:Txt K mg ⟨q3h,_,q1A,_,q2o,_,q09,_,q0S,_,q15,_,q1N,_,q1O,_,q1B,_,q1C,_,q0M,_,q02,_,q3X,_,q2p,_,q16,_,q1P,_,q1Q,_,q1g,_,q4h,_,q32,_,q2c,_,q2w,_,q2x,_,q3t,_,q1l,_,q25,_,q2y,_,q4x,_,q1b,_,q1m,_,q1n,_,q2q,_,q4y,_,q1I,_,q2z,_,q00,_,q1c,_,q1o,_,q3u,_,q2A,_,q2r,_,q0Q,_,q0w,_,q1p,_,q1R,_,q1a,_,q1S,_,q1D,_,q1E,_,q1T,_,q0t,_,q0E,_,q1q,_,q1F,_,q0U,_,q1r,_,q0P,_,q1U,_,q1V,_,q0H,_,q0A,_,q0B,_,q0x,_,q0C,_,q0y,_,q0N,_,q0V,_,q0D,_,q3v,_,q3w,_,q4z,_,q5i,_,q2B,_,q4A,_,q4B,_,q4C,_,q3x,_,q4D,_,q4E,_,q33,_,q5A,_,q4F,_,q5s,_,q26,q0h,q0k,q0s,q0j,q0d,q0i,q0I,q0b,q03,q0g,q0a,q0e,q0p,q0f,q5V⟩:=⟨q3i,bn2 q3i,q2g,bn2 q2g,q3L,bn2 q3L,q2J,bn1 q2J,q2h,bn1 q2h,q3l,bn4 q3l,q2K,bn1 q2K,q2L,bn1 q2L,q2i,bn1 q2i,q2j,bn1 q2j,q1y,bn2 q1y,q1Y,bn3 q1Y,q3Y,bn1 q3Y,q3M,bn3 q3M,q3m,bn1 q3m,q2M,bn1 q2M,q2N,bn1 q2N,q19,bn3 q19,q4i,bn1 q4i,q10,bn1 q10,g q7e,q2d,bn1 q2d,g q6u,q2C,bn1 q2C,g q6D,q2D,bn1 q2D,g q6E,q3y,bn1 q3y,g q61,q0z,bn2 q0z,g q5Y,q2s,bn1 q2s,g q6O,q2E,bn1 q2E,g q6F,q4G,bn2 q4G,g q7n,q1d,bn2 q1d,g q5T,q1s,bn2 q1s,g q5Z,q1t,bn2 q1t,g q50,jA,bn3 jA,g q6P,q4X,rfl,q4H,bn1 q4H,g q7o,q1J,bn1 q1J,g q6b,q17,bn1 q17,g q6G,q01,bn1 q01,g q5O,q1e,bn3 q1e,g q5U,q1u,bn1 q1u,g q51,q3z,bn2 q3z,g q62,q2F,bn1 q2F,g q6H,q3N,bn2 q3N,q1K,bn5 q1K,q0W,bn2 q0W,ve,xaB,xd1,q2O,bn2 q2O,vQ,bn3 vQ,q4I,rfl,q2P,bn2 q2P,q2k,bn1 q2k,q2l,bn1 q2l,q2Q,bn1 q2Q,q0L,bn2 q0L,zG,bn3 zG,q3A,rfl,vf,vR,xd4,q2m,bn1 q2m,vp,bn4 vp,q4j,rfl,jB,bn1 jB,q45,rfl,uQ,bn1 uQ,q34,rfl,q2R,bn2 q2R,q2S,bn1 q2S,q1h,bn1 q1h,q04,bn1 q04,q05,bn1 q05,q0X,bn2 q0X,q06,bn3 q06,q0Y,bn4 q0Y,q1z,bn2 q1z,vq,bn4 vq,q4k,rfl,q07,bn2 q07,q23,bn2 q23,g q64,q2t,bn2 q2t,g q65,q1L,bn2 q1L,g q7r,q41,bn2 q41,g q75,q2G,bn2 q2G,g q6J,q4e,bn2 q4e,g q7s,q4f,bn1 q4f,g q7t,q4J,bn5 q4J,g q7u,q1i,bn2 q1i,g q66,q4K,bn1 q4K,g q7v,q4g,bn3 q4g,g q7w,q35,bn6 q35,g q7g,q5B,bn7 q5B,g q8h,q4L,bn3 q4L,g q7x,xis,bn1 xis,g q7P,q7h,q5I,q6g,g q7k,q0l,q0T,q0F,q0Z,q54,g q7Q,q1G,q1W,q3B,q24,q6o,g q7R,q3Z,q2T,q4Y,q5W,g q7a,q0r,q1M,q2a,q2e,q5R,g q7b,q0c,q2U,q1f,q0n,q2V,q0m,q0o,q30,q5C,g q7l,g q6Z,g q60,g q7c,g q6M,g q6s,g q6N,g q6t,g q7d,q6p,q5x,q2W,q5E,q11,q5F,q3C,q3O,q42,q42.hd,q3s,q5j,q36,q5t,q4v,q5u,q27,q18,q5J,q5g,q3P,q5k,q28,q5l,q2X,q13,q5w,q4w,q3o,q43,q2H,q44,q2f,q1v,q5K,q5h,q3Q,q5m,q29,q5n,q2Y,q14,q5y,q5v,q4l,q5z,q3D,q4M,q3p,q3a,⟨q6h⟩,⟨q5L⟩,⟨q6q⟩,⟨q5o⟩,⟨q5S⟩,fun e=>.ins e q1G q76 q77 q78 q79,fun e=>.ins e q0l q7y q7z q7A q7B,q5p,q4N,q4m,q3R,q4n,q46,q4O,q37,q3S,q3q,q3T,q4o,q4p,q3U,q3E,q3b,q3F,q38,q3V,q3r,q3c,q2I,q3d,q3G,q4q,q3W,q3H,q3e,q3I,q39,q4Z,q4r,q47,q4s,q4a,q3J,q4b,q4P,g q7C,q3f,q0u,q48,q4c,q3g,q3K,q0O,q2Z,q1w,q20,q1x,q4Q,q3j,q49,q4t,q21,q12,q2b,q5a,q5b,q5q,q4u,q5c,q4R,q5d,q1X,q4S,q5e,q1H,q31,q4T,q2u,q4U,q4V,q5f,q4d,q2v,q3k,q4W,q40,g0 q5r,g0 q6K,g0 q6L,g0 q6r,g0 q3n,g0 q5M,g0 q0q,g0 q1Z,g0 q22,g0 q5D,g0 q5N,g0 q1j,g0 q5X,g0 q2n⟩;exact⟨_,fun s v=>.of_eq rfl,fun base _ _=>xqB T⟩
end K71
open PySem PySem.W PyProof.Rows
namespace PySem.W.Fast
theorem tw13717240399075896416:True:=trivial
theorem tw14547129953171127968:True:=trivial
theorem tw16117260562448159938:True:=trivial
theorem tw9483921894096705539:True:=trivial
theorem tw3574023130095684099:True:=trivial
theorem tw11732477366888440387:True:=trivial
theorem tw7529544740846543555:True:=trivial
theorem tw301869292645157094:True:=trivial
theorem tw3258420532815083560:True:=trivial
theorem tw13702271067098370472:True:=trivial
theorem tw6793577223225995176:True:=trivial
theorem tw4879335398423248458:True:=trivial
theorem tw17381397500008665739:True:=trivial
theorem tw4956477563321412748:True:=trivial
theorem tw11174783339753852300:True:=trivial
theorem tw14268317529504219756:True:=trivial
theorem tw17283579230424152684:True:=trivial
theorem tw9235161074453063277:True:=trivial
theorem tw18144206751572515469:True:=trivial
theorem tw10447612021302039630:True:=trivial
theorem tw9963564104491531726:True:=trivial
theorem tw7135789080588820046:True:=trivial
theorem tw15489423638690682287:True:=trivial
theorem tw16506924993593524880:True:=trivial
theorem tw16049836661159171856:True:=trivial
theorem tw13790050221969552593:True:=trivial
theorem tw14561215019502612945:True:=trivial
theorem tw5454034979646067634:True:=trivial
theorem tw9240255928956571668:True:=trivial
theorem tw17544299227003900212:True:=trivial
theorem tw12959364693776483700:True:=trivial
theorem tw833773987233082421:True:=trivial
theorem tw13062382041196082773:True:=trivial
theorem tw18033259126555005717:True:=trivial
theorem tw5261156439199818903:True:=trivial
theorem tw7483467369383521975:True:=trivial
theorem tw3359574707782420536:True:=trivial
theorem tw5962684432000497272:True:=trivial
theorem tw2033457185489362105:True:=trivial
theorem tw17976696839977321849:True:=trivial
theorem tw3721368221633263225:True:=trivial
theorem tw11265836207965939994:True:=trivial
theorem tw1139911711961272666:True:=trivial
theorem tw1277904636056874075:True:=trivial
theorem tw14159157312360006268:True:=trivial
theorem tw125922042772444829:True:=trivial
theorem tw11892622375691825117:True:=trivial
theorem tw15848393470789739967:True:=trivial
theorem tw2146231821017184291:True:=trivial
theorem tw15323228414027933540:True:=trivial
theorem tw9558553780964943810:True:=trivial
theorem tw3645405365222519823:True:=trivial
theorem tw12280213867435083051:True:=trivial
theorem tw4726275924540061852:True:=trivial
theorem tw14646299807617789304:True:=trivial
theorem tw9975244970744952887:True:=trivial
theorem tw4692905721493690584:True:=trivial
theorem tw17855409303212272033:True:=trivial
theorem tw14912004237192007387:True:=trivial
theorem tw11620470459997036378:True:=trivial
theorem tw12058509927987024840:True:=trivial
theorem tw15146161625804980359:True:=trivial
theorem tw13690809427560278605:True:=trivial
theorem tw14133951007516496772:True:=trivial
theorem tw4976689929020743309:True:=trivial
theorem tw14367024643955019038:True:=trivial
theorem tw6404861122438042376:True:=trivial
theorem tw12875454048743036658:True:=trivial
theorem tw15534273390935039985:True:=trivial
theorem tw15849693176821169817:True:=trivial
theorem tw17377324417861539172:True:=trivial
theorem tw15001057124244180782:True:=trivial
theorem tw6264047233083810364:True:=trivial
theorem tw1283486096980638924:True:=trivial
theorem tw10186068280975877151:True:=trivial
theorem tw9909637787406987774:True:=trivial
theorem tw5263402404029661426:True:=trivial
theorem tw10980965577405885889:True:=trivial
theorem tw4055856611322796067:True:=trivial
theorem tw5084897175098557194:True:=trivial
theorem tw5874090769650581783:True:=trivial
theorem tw1304217263964407903:True:=trivial
theorem tw2889158838221554792:True:=trivial
theorem tw5400376430176840672:True:=trivial
theorem tw6834713203277317838:True:=trivial
theorem tw10557284927295282850:True:=trivial
theorem tw8684237249756911861:True:=trivial
theorem tw8973388377973266774:True:=trivial
theorem tw15304021445091393834:True:=trivial
theorem tw6888767239307637467:True:=trivial
theorem tw16518521060834024153:True:=trivial
theorem tw7097380640294448891:True:=trivial
theorem tw11001886275945905232:True:=trivial
theorem tw6555420925159928371:True:=trivial
theorem tw17853872364858698664:True:=trivial
theorem tw1361571210580978646:True:=trivial
theorem tw11601465353916574706:True:=trivial
theorem tw1640804774514632584:True:=trivial
theorem tw5092948380150665463:True:=trivial
theorem tw5203525364361876379:True:=trivial
theorem tw4506723886521220265:True:=trivial
theorem tw14347593628347148923:True:=trivial
theorem tw10079738996814890914:True:=trivial
theorem tw3988678375376859957:True:=trivial
theorem tw2540185533301698789:True:=trivial
theorem tw15224159469744851811:True:=trivial
theorem tw245471670707881438:True:=trivial
theorem tw17660567168562231550:True:=trivial
theorem tw12602596435043236623:True:=trivial
theorem tw8220166529943161085:True:=trivial
theorem tw2042002199448742826:True:=trivial
theorem tw1601354334582207306:True:=trivial
theorem tw12951231408301875250:True:=trivial
theorem tw16613527038237136439:True:=trivial
theorem tw5338706141036006463:True:=trivial
theorem tw6817612764178863011:True:=trivial
theorem tw10145755967704195768:True:=trivial
theorem tw9172972993409017740:True:=trivial
theorem tw8010195504922667983:True:=trivial
theorem tw10859520626146683602:True:=trivial
theorem tw10984833544493868477:True:=trivial
theorem tw12103114902424841305:True:=trivial
theorem tw11510284902910133593:True:=trivial
theorem tw15120955789920895673:True:=trivial
theorem tw16404289539058362303:True:=trivial
theorem tw12381909209610525610:True:=trivial
theorem tw5154059573616692598:True:=trivial
theorem tw10810776577238887198:True:=trivial
theorem tw17383403220090855829:True:=trivial
theorem tw10829531707877878460:True:=trivial
theorem tw12480343459022997413:True:=trivial
theorem tw16348372507190841197:True:=trivial
theorem tw12887576333238479658:True:=trivial
theorem tw8719956225853510815:True:=trivial
theorem tw507408816001729748:True:=trivial
theorem tw8581908110643056773:True:=trivial
theorem tw14357025016303455038:True:=trivial
theorem tw4863227067430387726:True:=trivial
theorem tw16864307306732071330:True:=trivial
theorem tw13898635552108157061:True:=trivial
theorem tw1589832773388092227:True:=trivial
theorem tw11656612971945826038:True:=trivial
theorem tw9815128657102378515:True:=trivial
theorem tw11732677660532327345:True:=trivial
theorem tw539816476788483570:True:=trivial
theorem tw2908337490717150776:True:=trivial
theorem tw1986155535814579758:True:=trivial
theorem tw669372737134011798:True:=trivial
theorem tw785822397676775892:True:=trivial
theorem tw14161896314211393449:True:=trivial
theorem tw9919258414363326285:True:=trivial
theorem tw13708578035708378031:True:=trivial
theorem tw13532510232781047686:True:=trivial
theorem tw4765262843220186959:True:=trivial
theorem tw1105627441329488096:True:=trivial
theorem tw11294991070282253277:True:=trivial
theorem tw15213642407608339038:True:=trivial
theorem tw16682426155195136249:True:=trivial
theorem tw1222233362385648941:True:=trivial
theorem tw9286828827444471722:True:=trivial
theorem tw3980988368643794726:True:=trivial
theorem tw12103829085749539299:True:=trivial
theorem tw3577977596879219999:True:=trivial
theorem tw9250481634304883102:True:=trivial
theorem tw4275460627167072077:True:=trivial
theorem tw8359026690654034824:True:=trivial
theorem tw8424876836155313647:True:=trivial
theorem tw13864349244262830103:True:=trivial
theorem tw3781247942422012541:True:=trivial
theorem tw6935810568594688032:True:=trivial
theorem tw7910098608985299866:True:=trivial
theorem tw16106521192191777004:True:=trivial
theorem tw18237321546012160903:True:=trivial
theorem tw11015907819219305642:True:=trivial
theorem tw7295682960171165477:True:=trivial
theorem tw9932055006225224736:True:=trivial
theorem tw17596548393074046042:True:=trivial
theorem tw15042767961963764649:True:=trivial
theorem tw5293020254097843990:True:=trivial
theorem tw2951882089215366065:True:=trivial
theorem tw15339923447062346514:True:=trivial
theorem tw3298275009965667242:True:=trivial
theorem tw4533765158967582543:True:=trivial
theorem tw2374387739853216431:True:=trivial
theorem tw13585630111941660740:True:=trivial
theorem tw664909712590670415:True:=trivial
theorem tw2001088101306877722:True:=trivial
theorem tw17218345509097326356:True:=trivial
theorem tw7197427896918858598:True:=trivial
theorem tw12436237877262617904:True:=trivial
theorem tw14890862772146275918:True:=trivial
theorem tw17243226400482807981:True:=trivial
theorem tw10199573759699485105:True:=trivial
theorem tw8426676901017279559:True:=trivial
theorem tw8198382830576999321:True:=trivial
theorem tw1710615694485326114:True:=trivial
theorem tw1263289796722509995:True:=trivial
theorem tw1859175453876068682:True:=trivial
theorem tw13089505299949408431:True:=trivial
theorem tw3194418483334435441:True:=trivial
theorem tw631992437129345770:True:=trivial
theorem tw15046362192711401290:True:=trivial
theorem tw7195900508420545499:True:=trivial
theorem tw1794431000884939053:True:=trivial
theorem tw15750098886682176410:True:=trivial
theorem tw6049637805479086528:True:=trivial
theorem tw525611104480319863:True:=trivial
theorem tw3854367507819488420:True:=trivial
theorem tw7599945027031706484:True:=trivial
theorem tw5651819945406449309:True:=trivial
theorem tw14765251484805964680:True:=trivial
theorem tw10463076139333620617:True:=trivial
theorem tw15801555973976880341:True:=trivial
theorem tw5680165010706923988:True:=trivial
theorem tw1611674770029630955:True:=trivial
theorem tw17028435887592727975:True:=trivial
theorem tw1978753751302230032:True:=trivial
theorem tw12866872777849422339:True:=trivial
theorem tw299334442666522376:True:=trivial
theorem tw5581984750790216603:True:=trivial
theorem tw10637820025991230495:True:=trivial
theorem tw12709782209303724661:True:=trivial
theorem tw12178105100961730720:True:=trivial
theorem tw15286180795349951841:True:=trivial
theorem tw13214881978079576988:True:=trivial
theorem tw11798094011692164068:True:=trivial
theorem tw10294372957647203890:True:=trivial
theorem tw3320592234795732110:True:=trivial
theorem tw5284111614182858842:True:=trivial
theorem tw5378829151948879304:True:=trivial
theorem tw11819645232014793092:True:=trivial
theorem tw12291772299045882204:True:=trivial
theorem tw3644756007788375435:True:=trivial
theorem tw5188402382825448068:True:=trivial
theorem tw914046895190773991:True:=trivial
theorem tw4865425402872171671:True:=trivial
theorem tw12046694342933107165:True:=trivial
theorem tw11596019714283404541:True:=trivial
theorem tw16659579844762884750:True:=trivial
theorem tw2071607006151114344:True:=trivial
theorem tw16417701799798750989:True:=trivial
theorem tw776516840780290304:True:=trivial
theorem tw8233451033783960849:True:=trivial
theorem tw18346219187882967037:True:=trivial
theorem tw14148767946059309992:True:=trivial
theorem tw8144659360605488126:True:=trivial
theorem tw540113558117723900:True:=trivial
theorem tw17767391250550629673:True:=trivial
theorem tw17078815623726295774:True:=trivial
theorem tw13790890017084051794:True:=trivial
theorem tw9045174922239184471:True:=trivial
theorem tw3198540784654279653:True:=trivial
theorem tw15946634855692567860:True:=trivial
theorem tw4842058490749811887:True:=trivial
theorem tw2849938787855628712:True:=trivial
theorem tw18006745844367150587:True:=trivial
theorem tw116429719723735532:True:=trivial
theorem tw1311313081157709974:True:=trivial
theorem tw14246644824064140958:True:=trivial
theorem tw15050502121718908311:True:=trivial
theorem tw15179327124577642600:True:=trivial
theorem tw2610256390958145730:True:=trivial
theorem tw262497055758243137:True:=trivial
theorem tw652746264853533355:True:=trivial
theorem tw6864097977419270522:True:=trivial
theorem tw10640430292009225907:True:=trivial
theorem tw15618814548603916558:True:=trivial
theorem tw4404795126826144377:True:=trivial
theorem tw7544336216840024116:True:=trivial
theorem tw666418733298772409:True:=trivial
theorem tw13827246721948495226:True:=trivial
theorem tw15345147753505857985:True:=trivial
theorem tw15468506062562081545:True:=trivial
theorem tw17700693856617153060:True:=trivial
theorem tw3138384125813999967:True:=trivial
theorem tw10060720932522972552:True:=trivial
theorem tw5925462784948013216:True:=trivial
theorem tw2060690697829668512:True:=trivial
theorem tw2346798043341844915:True:=trivial
theorem tw4036806905608568998:True:=trivial
theorem tw4731447649371873409:True:=trivial
theorem tw13729232068719378390:True:=trivial
theorem tw14168122200241250858:True:=trivial
theorem tw16115522522250223439:True:=trivial
theorem tw9685493030359034880:True:=trivial
theorem tw9704847759845527587:True:=trivial
theorem tw7968118443150055012:True:=trivial
theorem tw1211924204423766414:True:=trivial
theorem tw11886672734529423897:True:=trivial
theorem tw9192178655536445380:True:=trivial
theorem tw8770139850066829062:True:=trivial
theorem tw13232774924447476825:True:=trivial
theorem tw1599466831972922677:True:=trivial
theorem tw250408499726670695:True:=trivial
theorem tw5019290854457432737:True:=trivial
theorem tw6834525489763532233:True:=trivial
theorem tw12835044398776364898:True:=trivial
theorem tw6556848799354924487:True:=trivial
theorem tw1967903723661239722:True:=trivial
theorem tw16216312875608514012:True:=trivial
theorem tw2200173401770465849:True:=trivial
theorem tw15449981053493623378:True:=trivial
theorem tw1032287544060211914:True:=trivial
theorem tw14076284171461334173:True:=trivial
theorem tw9972226289574288997:True:=trivial
theorem tw10067010047913968396:True:=trivial
theorem tw8532649159548377279:True:=trivial
theorem tw14262427588962079065:True:=trivial
theorem tw16315375087904119945:True:=trivial
theorem tw11080004705715905752:True:=trivial
theorem tw15235498986900148622:True:=trivial
theorem tw10008333450200755032:True:=trivial
theorem tw1763170589201830429:True:=trivial
theorem tw10491138381563511282:True:=trivial
theorem tw11653551023145335165:True:=trivial
theorem tw7977875820387569302:True:=trivial
theorem tw10467075744153443178:True:=trivial
theorem tw8547346278165392741:True:=trivial
theorem tw9984942646550040417:True:=trivial
theorem tw1669507260749364909:True:=trivial
theorem tw3632700369017014315:True:=trivial
theorem tw6073904949092837325:True:=trivial
theorem tw6797988331829449576:True:=trivial
theorem tw7322571708396176223:True:=trivial
theorem tw4002816652776789555:True:=trivial
theorem tw4884906412889435656:True:=trivial
theorem tw12870552125617718973:True:=trivial
theorem tw15489914525813191687:True:=trivial
theorem tw1875716770320278764:True:=trivial
theorem tw10622158411244805819:True:=trivial
theorem tw5067452962233063677:True:=trivial
theorem tw6092081441703922930:True:=trivial
theorem tw10172739100221251434:True:=trivial
theorem tw10409392660609832677:True:=trivial
theorem tw10442897163284357798:True:=trivial
theorem tw10617489801835043370:True:=trivial
theorem tw11119705587182155952:True:=trivial
theorem tw12209751849720211706:True:=trivial
theorem tw1226272812041299497:True:=trivial
theorem tw12939467592362114403:True:=trivial
theorem tw13206161313315627151:True:=trivial
theorem tw13436768579130346746:True:=trivial
theorem tw1356640907319505066:True:=trivial
theorem tw14282358411209194583:True:=trivial
theorem tw15073249032794979721:True:=trivial
theorem tw15235273661015214754:True:=trivial
theorem tw15460615281969655988:True:=trivial
theorem tw15616622435222793790:True:=trivial
theorem tw15650968266503836289:True:=trivial
theorem tw15821544788973550119:True:=trivial
theorem tw16331200390393254831:True:=trivial
theorem tw16636211451286689994:True:=trivial
theorem tw17004552428972568870:True:=trivial
theorem tw17066955178492535488:True:=trivial
theorem tw17979049897273052694:True:=trivial
theorem tw18285813254343068081:True:=trivial
theorem tw1966528739663816826:True:=trivial
theorem tw1997308836666544052:True:=trivial
theorem tw2508395525808006360:True:=trivial
theorem tw3314289730269325041:True:=trivial
theorem tw335129060567976846:True:=trivial
theorem tw3487243938715235869:True:=trivial
theorem tw4280124685083488984:True:=trivial
theorem tw4914875758308216109:True:=trivial
theorem tw5245135050765178757:True:=trivial
theorem tw528433955689953976:True:=trivial
theorem tw5537288287145061938:True:=trivial
theorem tw6011556262272946533:True:=trivial
theorem tw6015944877280335473:True:=trivial
theorem tw6321878589279234161:True:=trivial
theorem tw6334811802989195337:True:=trivial
theorem tw7012076441305716677:True:=trivial
theorem tw7264180807044075649:True:=trivial
theorem tw7356631156144526191:True:=trivial
theorem tw7407423460335883791:True:=trivial
theorem tw7573501339565166894:True:=trivial
theorem tw7695874405283009485:True:=trivial
theorem tw8476999936146780459:True:=trivial
theorem tw8789591763987312258:True:=trivial
theorem tw9169050537315741632:True:=trivial
theorem tw9451512721379796081:True:=trivial
theorem tw9628462204498108350:True:=trivial
theorem tw10039535554941165148:True:=trivial
theorem tw10256791307360523837:True:=trivial
theorem tw15929579403053664229:True:=trivial
theorem tw10665834307736526319:True:=trivial
theorem tw10852168591526783172:True:=trivial
theorem tw11569715590356306654:True:=trivial
theorem tw12242977696883151989:True:=trivial
theorem tw13472231480725848522:True:=trivial
theorem tw1402982615817305375:True:=trivial
theorem tw1425214014315204250:True:=trivial
theorem tw14368372867539030063:True:=trivial
end PySem.W.Fast
set_option maxRecDepth 100000 in
set_option maxHeartbeats 0 in
theorem PySem.Challenge.cw_oneroom_k71_a_board_holds : PySem.Challenge.rw_oneroom_k71_a_board.Holds := by
 w_on;o_law;k_head;(case hw=>w_witness2)
 k_fill
 refine L2.xns (l:=PySem.Challenge.rw_oneroom_k71_a_board) (n:=63) (k:=13) (x:="_law_script") (CX:=L2.CX0) (sp:=K71.xjI) (tabs:=[(K71.q1k,K71.yG,K71.zb),(K71.q0R,K71.yp,K71.yA),(K71.q0v,K71.xV,K71.yj),(K71.q0J,K71.yO,K71.uO),(K71.q08,K71.zj,K71.vO),(K71.q0G,K71.yH,K71.uc),(K71.q0K,K71.yB,K71.zw)]) rfl (by decide) rfl ⟨rfl,by decide,by decide⟩ (fun w h Y=>PySem.W.km_in_of Y) (fun w h Y KX=>(List.forall_mem_cons.mpr ⟨⟨PySem.W.codeHd_of_K (c:=K71.q1k) (P:=K71.yG) KX (by kernel_rfl),PySem.W.km_tabs_of Y _ (by decide)⟩,(List.forall_mem_cons.mpr ⟨⟨PySem.W.codeHd_of_K (c:=K71.q0R) (P:=K71.yp) KX (by kernel_rfl),PySem.W.km_tabs_of Y _ (by decide)⟩,(List.forall_mem_cons.mpr ⟨⟨PySem.W.codeHd_of_K (c:=K71.q0v) (P:=K71.xV) KX (by kernel_rfl),PySem.W.km_tabs_of Y _ (by decide)⟩,(List.forall_mem_cons.mpr ⟨⟨PySem.W.codeHd_of_K (c:=K71.q0J) (P:=K71.yO) KX (by kernel_rfl),PySem.W.km_tabs_of Y _ (by decide)⟩,(List.forall_mem_cons.mpr ⟨⟨PySem.W.codeHd_of_K (c:=K71.q08) (P:=K71.zj) KX (by kernel_rfl),PySem.W.km_tabs_of Y _ (by decide)⟩,(List.forall_mem_cons.mpr ⟨⟨PySem.W.codeHd_of_K (c:=K71.q0G) (P:=K71.yH) KX (by kernel_rfl),PySem.W.km_tabs_of Y _ (by decide)⟩,(List.forall_mem_cons.mpr ⟨⟨PySem.W.codeHd_of_K (c:=K71.q0K) (P:=K71.yB) KX (by kernel_rfl),PySem.W.km_tabs_of Y _ (by decide)⟩,(fun _ z=>nomatch z)⟩)⟩)⟩)⟩)⟩)⟩)⟩)) (fun w=>by kernel_rfl) (by decide) ?F ?S ?C
 case F=>
  intro w mg fa h KX G hmg
  refine' K71.xqC KX G hmg ?_ ?_ ?_ ?_ ?_ ?_ ?_ ?_ ?_ ?_ ?_ ?_ ?_ ?_ ?_ ?_ ?_ ?_ ?_ ?_ ?_ ?_ ?_ ?_ ?_ ?_ ?_ ?_ ?_ ?_ ?_ ?_ ?_ ?_ ?_ ?_ ?_ ?_ ?_ ?_ ?_ ?_ ?_ ?_ ?_ ?_ ?_ ?_ ?_ ?_ ?_ ?_ ?_ ?_ ?_ ?_ ?_ ?_ ?_ ?_ ?_ ?_ ?_ ?_ ?_ ?_ ?_ ?_ ?_ ?_ ?_ ?_ ?_ ?_ ?_ ?_ ?_ ?_ ?_ ?_ ?_ ?_ ?_ ?_ ?_ ?_ ?_ ?_ ?_ ?_ ?_ ?_ ?_ ?_ ?_ ?_ ?_ ?_ ?_ ?_ ?_ ?_ ?_ ?_ ?_ ?_ ?_ ?_ ?_ ?_ ?_ ?_ ?_ ?_ ?_ ?_ ?_ ?_ ?_ ?_ ?_ ?_ ?_ ?_ ?_ ?_ ?_ ?_ ?_ ?_ ?_ ?_ ?_ ?_ ?_ ?_ ?_ ?_ ?_ ?_ ?_ ?_ ?_ ?_ ?_ ?_ ?_ ?_ ?_ ?_ ?_ ?_ ?_ ?_ ?_ ?_ ?_ ?_ ?_ ?_ ?_ ?_ ?_ ?_ ?_ ?_ ?_ ?_ ?_ ?_ ?_ ?_ ?_ ?_ ?_ ?_ ?_ ?_ ?_ ?_ ?_ ?_ ?_ ?_ ?_ ?_ ?_ ?_ ?_ ?_ ?_ ?_ ?_ ?_ ?_ ?_ ?_ ?_ ?_ ?_ ?_ ?_ ?_ ?_ ?_ ?_ ?_ ?_ ?_ ?_ ?_ ?_ ?_ ?_ ?_ ?_ ?_ ?_ ?_ ?_ ?_ ?_ ?_ ?_ ?_ ?_ ?_ ?_ ?_ ?_ ?_ ?_ ?_ ?_ ?_ ?_ ?_ ?_ ?_ ?_ ?_ ?_ ?_ ?_ ?_ ?_ ?_ ?_ ?_ ?_ ?_ ?_ ?_ ?_ ?_ ?_ ?_ ?_ ?_ ?_ ?_ ?_ ?_ ?_ ?_ ?_ ?_ ?_ ?_ ?_ ?_ ?_ ?_ ?_ ?_ ?_ ?_ ?_ ?_ ?_ ?_ ?_ ?_ ?_ ?_ ?_ ?_ ?_ ?_ ?_ ?_ ?_ ?_ ?_ ?_ ?_ ?_ ?_ ?_ ?_ ?_ ?_ ?_ ?_ ?_ ?_ ?_ ?_ ?_ ?_ ?_ ?_ ?_ ?_ ?_ ?_ ?_ ?_ ?_ ?_ ?_ ?_ ?_ ?_ ?_ ?_ ?_ ?_ ?_ ?_ ?_ ?_ ?_ ?_ ?_ ?_ ?_ ?_ ?_ ?_ ?_ ?_ ?_ ?_ ?_ ?_ ?_ ?_ ?_ ?_ ?_ ?_ ?_ ?_ ?_ ?_ ?_ ?_ ?_ ?_ ?_ ?_ ?_ ?_ ?_ ?_ ?_ ?_ ?_ ?_ ?_ ?_ ?_ ?_ ?_ ?_ ?_ ?_ ?_ ?_ ?_ ?_ ?_ ?_ ?_ ?_ ?_ ?_ ?_ ?_ ?_ ?_ ?_ ?_ ?_ ?_
  iterate 2 all_goals first|(show(_:Prop);first|exact⟨_,L2.jk (by k_is) (by k_is) (by k_is)⟩|exact L2.xoY (by kernel_rfl)|exact⟨by k_is,by k_is,by k_is⟩|exact⟨by k_is,by k_is,by k_is,by k_is⟩|exact⟨by kernel_rfl,by kernel_rfl,by kernel_rfl,by kernel_rfl,by kernel_rfl,by kernel_rfl⟩|exact⟨by kernel_rfl,by kernel_rfl,by kernel_rfl,by kernel_rfl,by kernel_rfl,by kernel_rfl,by kernel_rfl,by kernel_rfl⟩|k_is|(show _=_;k_is)|kernel_rfl)|skip
 case S=>exact fun K H a ns hl hS hT=>⟨a,ns,rfl,hS,hl,hT _ (.head _),hT _ (.tail _ (.head _)),hT _ (.tail _ (.tail _ (.head _))),hT _ (.tail _ (.tail _ (.tail _ (.head _)))),hT _ (.tail _ (.tail _ (.tail _ (.tail _ (.head _))))),hT _ (.tail _ (.tail _ (.tail _ (.tail _ (.tail _ (.head _)))))),hT _ (.tail _ (.tail _ (.tail _ (.tail _ (.tail _ (.tail _ (.head _))))))),fun _=>rfl⟩
 case C=>exact fun _ _ _ _ z=>z
#print axioms PySem.Challenge.cw_oneroom_k71_a_board_holds
