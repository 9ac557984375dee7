import PyProof.Rows.All
import Wide.All
import OpenK.AllK
import Wide.FinOn
import Lean
import PyProof.EqAt
import PyProof.EqKinds
import PyProof.TupleCall
import PySem.Challenge.RW_oneroom_k92_whole_maker
set_option Elab.async false
set_option linter.all false
set_option maxRecDepth 100000
open And renaming intro→fN
open Array renaming length_toList→aR,mem_toList_iff→b8,getElem?_eq_getElem→cF,getElem?_toList→dz,getD_eq_getD_getElem?→dZ,forIn_toList→d0,getElem_mem→fC,mem_extract_iff_getElem→ir,perm_iff_toList_perm→iR,getElem?_eq_some_iff→iU,toList_setIfInBounds→iV,toList_inj→kd,size_push→kN,toList_replicate→kW,size_extract→mj,size_append→mD
open Bool renaming false_ne_true→aB,false_eq_true→aU,and_eq_true→dv,eq_iff_iff→dF,and_true→iQ,not_true→iY,and_false→kZ
open Classical renaming propDecidable→kA
open False renaming elim→bH
open ForInStep renaming yield→fw
open Function renaming comp_def→i7
open Int renaming toNat_natCast→bJ,emod_lt_of_pos→cf,emod_nonneg→cg,toNat_of_nonneg→cG,le_refl→iD,fdiv_eq_ediv_of_nonneg→iN,eq_ofNat_of_zero_le→ku,lt_or_le→mB
open List renaming length_map→ab,getElem?_eq_getElem→ai,getElem?_map→ao,mem_cons_of_mem→aq,length_append→ar,size_toArray→av,mem_cons→ax,mem_singleton→aA,toArray→aC,getElem?_eq_some_iff→aD,mem_cons_self→aF,mem_of_getElem?→aG,map_append→aI,mem_filter→aK,mem_map→aN,range→aO,mem_append→aQ,mem_append_right→aS,length_cons→aT,length_drop→aX,take_of_length_le→a8,getD→a9,map_cons→bc,mem_range→bh,getElem?_append_left→bp,pairwise_iff_getElem→bt,getElem?_append_right→bz,length_pos_iff→bB,replicate→bC,take_succ→bG,length_take→bI,length_singleton→bN,length_filter_le→bO,pairwise_map→bQ,map_map→bS,nodup_cons→bT,take_length→bX,getD_eq_getElem?_getD→bY,mem_append_left→b7,drop_eq_getElem_cons→b9,all_eq_true→ck,getElem?_eq_none→cn,mem_iff_getElem→cz,length→cD,lookup_cons→cE,getElem?_take_of_lt→cJ,pairwise_cons→cO,getElem_mem→cS,pairwise_append→cT,drop_of_length_le→cW,not_mem_nil→c8,getElem?_drop→c9,length_eq_zero_iff→df,length_range→dh,find?_cons→di,any_eq_true→dw,nodup_range→dQ,mem_iff_getElem?→d7,eq_nil_or_concat→d8,concat_eq_append→d9,append_assoc→eI,ext_getElem?→eJ,getElem?_set_ne→eN,take_succ_eq_append_getElem→e9,replicate_succ→fc,filter_cons_of_neg→fg,filter_cons_of_pos→fh,mem_singleton_self→fi,append_nil→fm,find?_eq_none→fz,mem_of_mem_drop→fQ,mem_of_mem_take→fR,lookup→fX,mem_map_of_mem→fZ,getElem?_range→f6,of_mem_zip→f9,length_nil→gc,range_succ→gg,filter_append→gw,pairwise_singleton→gG,flatten_cons→gI,getElem?_set_self→gL,drop_eq_nil_of_le→gQ,any_cons→gS,filter_cons→gU,flatten_replicate_singleton→gX,filter_map→il,filterMap_cons→iu,map_singleton→iK,sum_cons→i3,mem_of_find?_eq_some→i9,getElem_inj→j8,cons_append→ke,any_map→kg,drop_length→km,idxOf_lt_length_iff→ko,getElem?_replicate→kq,foldl_cons→kJ,forIn_cons→kK,find?_some→kM,length_replicate→kY,pairwise_reverse→la,getElem?_toArray→lb,getElem?_reverse→lg,take_zero→ll,countP_eq_length→lq,length_reverse→lV,toList_toArray→lW,getElem_of_mem→lX,take_succ_cons→lY,countP_eq_zero→lZ,mem_filterMap→l7,zip_cons_cons→md,filterMap_map→me,map_nil→mh,getElem_range→mn,forIn_toArray→mr,map_replicate→my,ne_nil_of_mem→mz,countP_append→mC,map_id→mK
open Nat renaming le_refl→aj,ne_of_lt→au,lt_of_lt_of_le→aw,zero_le→aM,le_trans→bg,lt_irrefl→bL,le_of_lt→cx,min_eq_left→cN,lt_succ_self→cR,not_lt_zero→dk,le_succ→dC,ne_of_gt→dX,lt_of_le_of_lt→fq,lt_succ_of_lt→fE,lt_trichotomy→fG,min_eq_right→fT,le_of_eq→ib,zero_add→ip,add_zero→iq,succ_add→mw
open Ne renaming symm→bE
open Option renaming map_eq_some_iff→bf,isSome_iff_exists→eW,toList_some→gA,isSome_map→gJ,map_some→ig,getD_none→kc,map→lG
open Option.some renaming inj→br,injEq→mE
open Or renaming inl→aJ,inr→fU
open PUnit renaming unit→lI
open Prod renaming snd→lK
open Prod.mk renaming injEq→iZ
open PyProof.Rows renaming seqObj→a7,callWith_type1→bR,IntsAre→cP,slot_tuple_getitem→ff,get?_update_seq→fA,AllBare→fH,listUpdate_at→fW,envOfC→gN,oneType'→iz,listItems_at→kj,callWith_kw→kR,Constant_none→lM
open PyProof.Rows.F renaming plain_set_update_loop→d5,entry_set_update_loop→gz
open PySem renaming wpAny_bind→aa,Shared→ae,wpAny_pure→ag,sizeLine_eq→ay,FuncData→aE,Program→aH,sizeLine→aL,Around→aV,starEach→aY,wpAny_mono→bb,wpAny_holding→bo,compareOp→bw,mainGlobals→bx,bootBuiltins→bD,wpAny_loadPart'→bU,plainId_quiet→bW,wpAny_Call_Name_kw→cb,Arguments→cy,codeAny_builtin→cA,wpAny_truthy_bool→cH,wpAny_seqItems→cK,SetTable→cL,wpAny_updateSeq→cM,codeAny→cU,wpAny_newObj_type→cX,backTo→cZ,binaryOp→c6,rawInt→de,FuncBody→dg,wpAny_letGo→dq,behindInMarks→du,wpAny_field→dD,builtinsNs→dE,codeAny_mono→dH,lookup_relabel_local→dI,holding→dN,wpAny_callSpecial?_slot→dO,NameKind→dP,wpAny_tryCatch→dS,wpAny_passesOwn→d6,setSearchFrom→eA,wpAny_pyIter_list→eC,foldedSetIterable→eE,sysModules→eK,sliceBounds→eV,wpAny_setState_of→fF,wpAny_typeOf→fK,updateSeq→fM,wpAny_call_entry→fP,wpAny_newList→fV,Builtin→fY,wpAny_execs_nil→f7,codeAmong→gm,pyNext→gn,Result→gp,bindArgs→gr,wpAny_comprehension_free→gu,PyData→gv,wpAny_call→gC,call_meets→gD,wpAny_rule→gE,wpAny_pyIter_enum→gK,attributeBase→gR,wpAny_forIn_list→gT,wpAny_isTrue_Compare1→gZ,codeAny_call_function→g9,assign→hZ,assignEach→h9,letOwnedTupleGo→ia,IsPart→ic,wpAny_specialOf→ie,wpAny_newFunctionEnv→ij,intItems→iy,keywordEach→iC,wpAny_pyIter_tuple→iE,tupleKind_room_in1→iG,seqItems?→iH,wpAny_standAt→iM,wpAny_newFunctionEnv_cells→iO,wpAny_letOwnedTupleGo_enum→iS,wpAny_assign_Name→i4,ofAClassStatement→i6,setItem→j4,valueAt→j5,callerA→j6,ItemsOf→j7,tupleKind→kB,TriplesOk→kC,swapsWith→kE,getMethod→kF,wpAny_of_eq→kP,unsupported→kQ,standAt→kX,wpAny_listPart→k5,relabel→k6,newFunctionEnv→k8,callType_codes→k9,backToKw→ly,typeLookup→lB,closureFor→lD,IsLongIter→lE,evalPart_none→lO,nums_intItems→lR,wpAny_attempt→lT
open PySem.Around renaming under_plainId→cC,frames_deeper→lz,under→l8
open PySem.AutoSeq1 renaming wpAny_loadPart'→gx
open PySem.Builtin.Builtins renaming bindParams→d4
open PySem.Builtin.Dict renaming updateFrom→kz
open PySem.Builtin.List renaming listExtendWith→bF,listSameRef→c7,listItems→dW,listTooLong→eZ,listSubscript?→iF,listAllItems→i8,listUpdate→ky
open PySem.Builtin.Range renaming rangeSize→bu,small→iw
open PySem.Builtin.Slice renaming slicePlaces→eO,sliceAdjust→gd,sliceApplied→iP
open PySem.Builtin.SmallTypes renaming nextOf→eQ
open PySem.Builtin.Tuple renaming tupleExact→eY
open PySem.Calls renaming spliced_cons→gq,spliced_nil→gH,callWith_builtin→gO,Name_function_global→iL,evalArgs_plain→lC
open PySem.Code renaming isFrame→l9,quiet_builtin→mq
open PySem.Data renaming fields→mI
open PySem.F renaming slot_tuple_iterator_next→ee,plain_max_loop→e7,slot_list_getattribute→gy,plain_extend_loop→ix,args_tuple_iterator_next_1→iA,entry_tuple_iterator_next→iI,slot_enumerate_next→lh
open PySem.Heap renaming get?_push_of_some→af,lt_size→ak,get?_push_size→az,get?_update_other→bA,get?_update_self→cm,size_push→cV,SameBut→fJ,size_update→ki,DictAt→kT,ExtBut→mJ
open PySem.Heap.DictOf renaming new→mN
open PySem.Heap.IsSliceOf renaming new→mi
open PySem.Heap.SameBut renaming update→bK
open PySem.NameKind renaming free→bV,cell→lP
open PySem.Obj renaming mapSeq→aW,putSet→lJ
open PySem.PassesOwn renaming never→bj
open PySem.PyData renaming canLayAll0→cI,int→c5,canLay0→dA,depth→dJ,eqv→eP,depthAll→gf,weightAll→kh,weight→lS
open PySem.PyData.weight renaming eq_def→lH
open PySem.SeqAt renaming shaped→dY,canLay_of_shaped→gP,EqAt→mM
open PySem.SeqAt.EqAt renaming int_str→l5,str_int→l6,int_int→ma
open PySem.SetFound renaming there→iB
open PySem.SetTable renaming turns→cq,bits→cu,insertAt→cY,Probe→dB,has→fL,runEnd→gh,grown→gF,sizeAbove→iJ,leap→iT,fits→iW,fill→iX,advance→kl,slot→lU,layClean→mF,tooFull→mL,below→mO
open PySem.SetTable.layClean renaming free→fB
open PySem.SetTable.probe renaming go→i5
open PySem.Str renaming ofString→bP
open PySem.Value renaming ref→aZ,none→bq,type→cw,bool→dU,int→fj,str→gY,notImplemented→lA,isStrOf→lL,isInt→mG,float→mH
open PySem.W renaming Frag→ah,findIn→bM,fnOf→dy,keepIn→dG,emptyDict→eR,kia_one→eU,codeIn→eX,kitOne→fO,instObj→gk,tabObj→gW,callWith_K→j9,cellsFrom_some→ka,envX→kf,methodCall_KW→kH,ke_canLayAll0→kL,specialIn→kO,plainGet→lr,CodeHd→lF,plainGet_of→lN,ke_depthAll→lQ
open PySem.W.KFB renaming if_not→ml
open PySem.Walks renaming list→ik,dictKeys→lj
open Sum renaming inl→bZ,inr→j3
open True renaming intro→cQ
namespace L2
open PySem PySem.Spec PyProof.Rows
abbrev Key:=Sum Int Str
def zK:Key→Value→Bool
 | .inl k,v=>mG k v
 | .inr x,v=>lL x v
def xqv(w:World):Key→Int
 | .inl k=>hashInt k
 | .inr x=>hashStr w x
theorem yg:∀{k:Key} {v:Value},zK k v=true→(∃i t,k=bZ i∧v=fj i t)∨(∃x t,k=j3 x∧v=gY x t)
 | .inl i,v,h=>by
  obtain⟨t,e⟩:=Value.isInt_shape (k:=i) (v:=v) h;exact .inl ⟨i,t,rfl,e⟩
 | .inr x,v,h=>by
  obtain⟨t,e⟩:=Value.isStrOf_shape (x:=x) (v:=v) h;exact .inr ⟨x,t,rfl,e⟩
theorem xkC(i:Int)(t:Tok):zK (.inl i) (.int i t)=true:=by simp[zK,mG]
theorem xkD(x:Str)(t:Tok):zK (.inr x) (.str x t)=true:=by simp[zK,lL]
theorem xox(a b:Int):decide ((bZ a:Key)=bZ b)=(a==b):=by
 by_cases e:a=b
 ·subst e;simp
 ·have h:¬(bZ a:Key)=bZ b:=fun q=>e (Sum.inl.inj q);rw[decide_eq_false h];exact(beq_eq_false_iff_ne.mpr e).symm
theorem xoy(a b:Str):decide ((j3 a:Key)=j3 b)=decide (a=b):=by
 by_cases e:a=b
 ·subst e;simp
 ·have h:¬(j3 a:Key)=j3 b:=fun q=>e (Sum.inr.inj q);rw[decide_eq_false h,decide_eq_false e]
theorem xoz(a:Int)(b:Str):decide ((bZ a:Key)=j3 b)=false:=decide_eq_false (fun q=>nomatch q)
theorem xoA(a:Str)(b:Int):decide ((j3 a:Key)=bZ b)=false:=decide_eq_false (fun q=>nomatch q)
def xP(prog:aH)(w:World):PySem.KeyKind prog w Key where
 is:=zK
 hash:=xqv w
 inj:=fun v a b ha hb=>by
  rcases yg ha with⟨i,t,rfl,rfl⟩|⟨x,t,rfl,rfl⟩
  ·rcases yg hb with⟨j,u,rfl,e⟩|⟨y,u,rfl,e⟩
   ·injection e with e1 _;rw[e1]
   ·exact nomatch e
  ·rcases yg hb with⟨j,u,rfl,e⟩|⟨y,u,rfl,e⟩
   ·exact nomatch e
   ·injection e with e1 _;rw[e1]
 byValue:=fun k v h=>by
  rcases yg h with⟨i,t,rfl,rfl⟩|⟨x,t,rfl,rfl⟩<;> rfl
 pyHash:=fun hv h=>by
  rcases yg hv with⟨i,t,rfl,rfl⟩|⟨x,t,rfl,rfl⟩
  ·exact wpAny_pyHash_int h
  ·exact wpAny_pyHash_str h
 eqBool:=fun hu hv h=>by
  rcases yg hu with⟨i,t,rfl,rfl⟩|⟨x,t,rfl,rfl⟩
  ·rcases yg hv with⟨j,u,rfl,rfl⟩|⟨y,u,rfl,rfl⟩
   ·rw[xox]at h;exact wpAny_eqBool_int h
   ·rw[xoz]at h;exact l5 i t y u _ _ _ _ h
  ·rcases yg hv with⟨j,u,rfl,rfl⟩|⟨y,u,rfl,rfl⟩
   ·rw[xoA]at h;exact l6 x t j u _ _ _ _ h
   ·rw[xoy]at h;exact wpAny_eqBool_str h
 «strs»:=fun k x t v h=>by
  rcases yg h with⟨i,u,rfl,e⟩|⟨y,u,rfl,e⟩
  ·exact nomatch e
  ·injection e with e1 _;subst e1;cases v<;> rfl
theorem xit(prog:aH)(w:World)(i:Int)(t:Tok):(xP prog w).is (.inl i) (.int i t)=true:=xkC i t
theorem xiu(prog:aH)(w:World)(x:Str)(t:Tok):(xP prog w).is (.inr x) (.str x t)=true:=xkD x t
end L2
namespace L2
open PySem PySem.Spec PyProof.Rows
inductive V where
 |non|bl (b:Bool)|int (i:Int)|str (x:Str)|byt (b:Array UInt8)|flt (b:UInt64)|ref (a:Addr)|ty (n:String)
 deriving DecidableEq
def RelV:V→Value→Prop
 | .non,u=>u=bq
 | .bl b,u=>u=dU b
 | .int i,u=>∃t,u=fj i t
 | .str x,u=>∃t,u=gY x t
 | .byt b,u=>∃t,u=Value.bytes b t
 | .flt b,u=>∃t,u=mH b t
 | .ref a,u=>u=aZ a
 | .ty n,u=>u=cw n
theorem RelV.fn{x y:V}{u:Value}(a:RelV x u)(b:RelV y u):x=y:=by
 cases x<;> simp only[RelV]at a<;> (first|subst a|(obtain⟨_,rfl⟩:=a))<;> cases y<;> simp only[RelV]at b<;> first|rfl|(cases b;done)|(cases b;rfl)|(obtain⟨_,b⟩:=b;cases b;done)|(obtain⟨_,b⟩:=b;cases b;rfl)
abbrev Vals:List V→List Value→Prop:=Paired RelV
theorem Vals.length{xs:List V}{us:List Value}(r:Vals xs us):xs.length=us.length:=Paired.length r
theorem Vals.get:∀{xs:List V} {us:List Value} {i:Nat} {x:V},Vals xs us→xs[i]? =some x→∃u,us[i]? =some u∧RelV x u
 |_,_,_,_,.nil,e=>by simp at e
 |_,_,0,_,.cons r _,e=>by simp at e;subst e;exact⟨_,rfl,r⟩
 |_,_,i+1,x,.cons _ t,e=>by
  obtain⟨u,h1,h2⟩:=Vals.get (i:=i) (x:=x) t (by simpa using e);exact⟨u,by simpa using h1,h2⟩
theorem Vals.set{x:V}{u:Value}(r:RelV x u):∀{xs:List V} {us:List Value} (i:Nat),Vals xs us→Vals (xs.set i x) (us.set i u)
 |_,_,_,.nil=>.nil
 |_,_,0,.cons _ t=>.cons r t
 |_,_,i+1,.cons q t=>.cons q (Vals.set r i t)
theorem Vals.append:∀{xs ys:List V} {us ws:List Value},Vals xs us→Vals ys ws→Vals (xs++ys) (us++ws)
 |_,_,_,_,.nil,s=>s
 |_,_,_,_,.cons r t,s=>.cons r (Vals.append t s)
theorem Vals.take:∀{xs:List V} {us:List Value} (n:Nat),Vals xs us→Vals (xs.take n) (us.take n)
 |_,_,0,_=>.nil
 |_,_,_+1,.nil=>.nil
 |_,_,n+1,.cons r t=>.cons r (Vals.take n t)
theorem Vals.drop:∀{xs:List V} {us:List Value} (n:Nat),Vals xs us→Vals (xs.drop n) (us.drop n)
 |_,_,0,r=>r
 |_,_,_+1,.nil=>.nil
 |_,_,n+1,.cons _ t=>Vals.drop n t
def um:Option V→Option Value→Prop
 |some v,some u=>RelV v u
 |none,none=>True
 |_,_=>False
def KV{κ:Type}:List (κ×V)→List (κ×Value)→Prop:=Paired fun(p:κ×V) (q:κ×Value)=>p.1=q.1∧RelV p.2 q.2
def kV:Key→V
 | .inl i=>.int i
 | .inr x=>.str x
inductive HO where
 |lst (xs:List V)
 |tup (xs:List V)
 |dK (kvs:List (Key×V))|dT (kvs:List (List Key×V))
 |set (S:Int→Bool) (n:Nat)
 |ins (C dx:Addr) (fs:List (Str×V))
 |own (x:Addr)
 |xd (fs:List (Str×V))
 |met (f x:Addr)
 |rng (lo hi:Int)
 |frz (o:Obj) (u:HO)
 |tbl (qs:List (Pos×Str))
 |cel (v:Option V)
 |ext (φ:Heap→Prop)
abbrev Hp:=Addr→Option HO
def upd(H:Hp)(a:Addr)(o:HO):Hp:=fun b=>if b=a then some o else H b
theorem xk{H:Hp}{a:Addr}{o:HO}:upd H a o a=some o:=by unfold upd;rw[if_pos rfl]
theorem xl{H:Hp}{a b:Addr}{o:HO}(h:b≠a):upd H a o b=H b:=by unfold upd;rw[if_neg h]
theorem zw{H:Hp}{a:Addr}{o u:HO}:upd (upd H a o) a u=upd H a u:=by
 funext b;unfold upd;split<;> rfl
theorem yU{H:Hp}{a b:Addr}{o u:HO}(h:H a=some o)(h':H b=some u)(d:o≠u):a≠b:=by
 intro e;subst e;rw[h]at h';exact d (br h')
theorem xJ{H:Hp}{a b:Addr}{o:HO}(h:H a=some o)(h':H b=none):a≠b:=by
 intro e;subst e;rw[h]at h';cases h'
section
variable (P:aH) (w:World)
def xG(H:Hp)(h:Heap)(a:Addr):HO→Prop
 | .lst xs=>xs.length≤aL∧∃(its:List Value) (n:Nat),Vals xs its∧h.get? a=some {cls:=.type "list",data:=.seq its.toArray n}
 | .tup xs=>xs.length≤aL∧∃its:List Value,Vals xs its∧IsTup h a its.toArray
 | .dK kvs=>kvs.length≤aL∧(a==eK)=false∧∃vs,KV kvs vs∧h.DictOf (xP P w) a vs
 | .dT kvs=>kvs.length≤aL∧(a==eK)=false∧∃xs:List (List Key×Addr×Value),
   Paired (fun(p:List Key×V) (q:List Key×Addr×Value)=>p.1=q.1∧H q.2.1=some (.tup (p.1.map kV))∧RelV p.2 q.2.2) kvs xs∧
   ∃o es ep,h.get? a=some o∧o.ExactDict∧o.data= .dict es ep∧es.toList=xs.map (entryOfKey (kB (xP P w)))∧(xs.map (·.1)).Nodup
 | .set S n=>h.SetOf (intKind P w) a S n
 | .ins C dx fs=>H dx=some (.own a)∧fs.length≤1000∧dx≠a∧h.get? a=some (gk C dx)∧
   ∃mA,h.Ns1 dx mA∧(∀f,um (fs.lookup f) (mA f))∧PySem.Within mA (fs.map (·.1))
 | .own _=>∃o,h.get? a=some o
 | .xd fs=>∃mA,h.Ns1 a mA∧∀f,um (fs.lookup f) (mA f)
 | .rng lo hi=>∃t u v,h.get? a=some {cls:=.type "range",data:=.fields #[.int lo t,.int hi u,.int 1 v]}
 | .frz o u=>h.get? a=some o∧xG H h a u
 | .tbl qs=>∃ps:Array Value,h.get? a=some {cls:=.none,data:=.fields ps}∧kC ps.toList∧∀pos q,(pos,q)∈qs→
   gm pos ps.toList=none∨∃c o u vs t,gm pos ps.toList=some (.ref c)∧H c=some (.frz o u)∧o.data= .fields vs∧vs[1]? =some (.str q t)
 | .cel v=>∃u,h.IsCell a u∧∀x,v=some x→∃y,u=some y∧RelV x y
 | .met f x=>h.get? a=some (W.methodObj (.ref f) (.ref x))
 | .ext φ=>φ h∧(∃o,h.get? a=some o)∧∀h1 h2:Heap,φ h1→(∀o,h1.get? a=some o→h2.get? a=some o)→φ h2
def HOk(H:Hp)(h:Heap):Prop:=∀a o,H a=some o→xG P w H h a o
end
section
variable {P:aH} {w:World} {H H':Hp} {h h':Heap} {a:Addr} {o:HO}
def xoB:HO→Prop
 | .tup _=>True
 | .frz _ _=>True
 |_=>False
def Fix:HO→Prop
 | .tup _=>True
 | .frz _ _=>True
 | .tbl _=>True
 | .cel _=>True
 |_=>False
theorem xG.lt(x:xG P w H h a o):a<h.objs.size:=by
 cases o with
 |lst xs=>obtain⟨_,_,_,_,e⟩:=x;exact ak e
 |tup xs=>obtain⟨_,_,_,p⟩:=x;exact p.lt
 |dK kvs=>obtain⟨_,_,_,_,o,_,_,e,_⟩:=x;exact ak e
 |dT kvs=>obtain⟨_,_,_,_,o,_,_,e,_⟩:=x;exact ak e
 |set S n=>obtain⟨o,_,_,_,e,_⟩:=x;exact ak e
 |ins C dx fs=>obtain⟨_,_,_,e,_⟩:=x;exact ak e
 |own y=>obtain⟨_,e⟩:=x;exact ak e
 |xd fs=>obtain⟨_,⟨_,_,_,e,_⟩,_⟩:=x;exact ak e
 |rng lo hi=>obtain⟨_,_,_,e⟩:=x;exact ak e
 |frz ob u=>obtain⟨e,_⟩:=x;exact ak e
 |tbl qs=>obtain⟨_,e,_⟩:=x;exact ak e
 |cel v=>obtain⟨_,⟨_,e,_⟩,_⟩:=x;exact ak e
 |met f y=>exact ak (show h.get? a=some _ from x)
 |ext φ=>obtain⟨_,⟨_,e⟩,_⟩:=x;exact ak e
theorem Paired.mapP{α β:Type}{F G:α→β→Prop}:∀{l₁:List α} {l₂:List β},Paired F l₁ l₂→(∀a b,F a b→G a b)→Paired G l₁ l₂
 |_,_,.nil,_=>.nil
 |_,_,.cons r t,f=>.cons (f _ _ r) (Paired.mapP t f)
theorem Paired.imp'{α β:Type}{F G:α→β→Prop}(f:∀a b,F a b→G a b){l₁:List α}{l₂:List β}(r:Paired F l₁ l₂):Paired G l₁ l₂:=Paired.mapP r f
theorem xG.stay(x:xG P w H h a o)(k:∀b u,(b=a∨H b=some (.own a))→h.get? b=some u→h'.get? b=some u)
  (ho:∀b,H b=some (.own a)→H' b=some (.own a)) (ht:∀b u,H b=some u→xoB u→H' b=some u):xG P w H' h' a o:=by
 induction o with
 |lst xs=>obtain⟨z,its,n,r,e⟩:=x;exact⟨z,its,n,r,k _ _ (.inl rfl) e⟩
 |tup xs=>obtain⟨z,its,r,ob,e,c⟩:=x;exact⟨z,its,r,ob,k _ _ (.inl rfl) e,c⟩
 |dK kvs=>obtain⟨z,y,vs,r,ob,es,ep,e,c⟩:=x;exact⟨z,y,vs,r,ob,es,ep,k _ _ (.inl rfl) e,c⟩
 |dT kvs=>
  obtain⟨z,y,xs,r,ob,es,ep,e,c⟩:=x;exact⟨z,y,xs,Paired.mapP r fun p q z=>⟨z.1,ht _ _ z.2.1 trivial,z.2.2⟩,ob,es,ep,k _ _ (.inl rfl) e,c⟩
 |set S n=>obtain⟨ob,es,ep,t,e,c⟩:=x;exact⟨ob,es,ep,t,k _ _ (.inl rfl) e,c⟩
 |ins C dx fs=>
  obtain⟨d,z,ne,e,mA,⟨od,es,ep,e2,c⟩,r⟩:=x;exact⟨ho _ d,z,ne,k _ _ (.inl rfl) e,mA,⟨od,es,ep,k _ _ (.inr d) e2,c⟩,r⟩
 |own y=>obtain⟨ob,e⟩:=x;exact⟨ob,k _ _ (.inl rfl) e⟩
 |xd fs=>obtain⟨mA,⟨od,es,ep,e,c⟩,r⟩:=x;exact⟨mA,⟨od,es,ep,k _ _ (.inl rfl) e,c⟩,r⟩
 |rng lo hi=>obtain⟨t,u,v,e⟩:=x;exact⟨t,u,v,k _ _ (.inl rfl) e⟩
 |frz ob u ih=>obtain⟨e,q⟩:=x;exact⟨k _ _ (.inl rfl) e,ih q⟩
 |tbl qs=>
  obtain⟨ps,e,tr,r⟩:=x;refine⟨ps,k _ _ (.inl rfl) e,tr,fun pos q m=>?_⟩;rcases r pos q m with z|⟨c,ob,u,vs,t,z1,z2,z3⟩
  ·exact .inl z
  ·exact .inr ⟨c,ob,u,vs,t,z1,ht _ _ z2 trivial,z3⟩
 |cel v=>obtain⟨u,⟨ob,e,d⟩,r⟩:=x;exact⟨u,⟨ob,k _ _ (.inl rfl) e,d⟩,r⟩
 |met f y=>
  have e:h.get? a=some (W.methodObj (.ref f) (.ref y)):=x;show h'.get? a=some (W.methodObj (.ref f) (.ref y));exact k a _ (.inl rfl) e
 |ext φ=>obtain⟨p,⟨o,e⟩,st⟩:=x;exact⟨st _ _ p fun o q=>k _ _ (.inl rfl) q,⟨o,k _ _ (.inl rfl) e⟩,st⟩
theorem HOk.lt(x:HOk P w H h)(e:H a=some o):a<h.objs.size:=(x a o e).lt
theorem HOk.fresh(x:HOk P w H h)(e:h.objs.size≤a):H a=none:=by
 cases q:H a with
 |none=>rfl
 |some u=>exact absurd (aw (x.lt q) e) (bL _)
theorem HOk.kept(x:HOk P w H h)(k:∀b u,h.get? b=some u→h'.get? b=some u):HOk P w H h':=fun a o e=>
 (x a o e).stay (fun b u _ q=>k b u q) (fun _ q=>q) fun _ _ q _=>q
theorem HOk.laid(x:HOk P w H h)(k:∀b u,h.get? b=some u→h'.get? b=some u)(hp:h.objs.size≤a)(new:xG P w (upd H a o) h' a o):HOk P w (upd H a o) h':=fun b u e=>by
 have hn:=x.fresh hp
 by_cases hb:b=a
 ·subst hb;rw[xk]at e;cases e;exact new
 ·rw[xl hb]at e;exact(x b u e).stay (fun c v _ q=>k c v q) (fun c q=>by rw[xl (xJ q hn)];exact q) fun c xs q _=>by rw[xl (xJ q hn)];exact q
end
def Rd(H:Hp)(a:Addr)(u:HO):Prop:=H a=some u∨∃o,H a=some (.frz o u)
theorem Rd.ok{P:aH}{w:World}{H:Hp}{h:Heap}{a:Addr}{u:HO}(r:Rd H a u)(x:HOk P w H h):xG P w H h a u:=by
 rcases r with r|⟨o,r⟩
 ·exact x a u r
 ·obtain⟨_,q⟩:=x a _ r;exact q
def Mut:Option HO→Prop
 |some (.lst _)=>True
 |some (.dK _)=>True
 |some (.dT _)=>True
 |some (.set _ _)=>True
 |some (.ins _ _ _)=>True
 |some (.ext _)=>True
 |_=>False
section
variable {P:aH} {w:World} {H:Hp} {h h':Heap} {x e:Addr} {o':HO}
theorem HOk.write(ok:HOk P w H h)(mu:Mut (H x))(he:e=x∨H e=some (.own x))(k:∀b u,b≠e→h.get? b=some u→h'.get? b=some u)(heo:∃u,h'.get? e=some u)
  (new:xG P w (upd H x o') h' x o'):HOk P w (upd H x o') h':=fun b u q=>by
 have nown:∀c y,H c=some (.own y)→c≠x:=fun c y r z=>by subst z;rw[r]at mu;exact mu
 have ntup:∀c u,H c=some u→xoB u→c≠x:=fun c u r hf z=>by
  subst z;rw[r]at mu;cases u<;> first|exact mu|exact hf
 by_cases hb:b=x
 ·subst hb;rw[xk]at q;cases q;exact new
 ·rw[xl hb]at q
  by_cases hbe:b=e
  ·have q':H b=some (.own x):=by
    rcases he with z|z
    ·exact absurd (hbe.trans z) hb
    ·rw[hbe];exact z
   rw[q]at q';cases q';obtain⟨v,hv⟩:=heo;exact⟨v,by rw[hbe];exact hv⟩
  ·refine(ok b u q).stay (fun c v hc r=>k c v ?_ r) (fun c r=>by rw[xl (nown c b r)];exact r) fun c xs r hf=>by rw[xl (ntup c xs r hf)];exact r
   rcases hc with rfl|hc
   ·exact hbe
   ·rintro rfl;rcases he with z|z
    ·exact nown c b hc z
    ·rw[hc]at z;cases z;exact hb rfl
end
structure Un(fs ex:List Addr)(H H':Hp)(h h':Heap):Prop where
 keep:∀b o,h.get? b=some o→H b=none→b∉fs→b∉ex→h'.get? b=some o
 slot:∀b o,h.get? b=some o→H b=none→b∈fs→b∉ex→∃sl,h'.get? b=some {o with slots:=sl}
 free:∀b o,h.get? b=some o→H b=none→b∉ex→H' b=none
 there:∀b o,h.get? b=some o→b∉ex→∃o',h'.get? b=some o'
 fix:∀b u,H b=some u→Fix u→H' b=some u
section
variable {fs fs' ex ex':List Addr} {H H1 H2:Hp} {h h1 h2 h':Heap} {a x e:Addr} {o:HO}
theorem Un.any(u:Un fs ex H H1 h h1){b:Addr}{ob:Obj}(q:h.get? b=some ob)(n:H b=none)(hx:b∉ex):∃sl,h1.get? b=some {ob with slots:=sl}:=by
 by_cases hb:b∈fs
 ·exact u.slot b ob q n hb hx
 ·exact⟨ob.slots,u.keep b ob q n hb hx⟩
theorem Un.trans(a:Un fs ex H H1 h h1)(b:Un fs ex H1 H2 h1 h2):Un fs ex H H2 h h2 where
 keep:=fun c ob q n hc hx=>b.keep c ob (a.keep c ob q n hc hx) (a.free c ob q n hx) hc hx
 slot:=fun c ob q n hc hx=>by
  obtain⟨sl,e1⟩:=a.slot c ob q n hc hx;obtain⟨sl',e2⟩:=b.slot c _ e1 (a.free c ob q n hx) hc hx;exact⟨sl',e2⟩
 free:=fun c ob q n hx=>by
  obtain⟨o',e1⟩:=a.there c ob q hx;exact b.free c o' e1 (a.free c ob q n hx) hx
 there:=fun c ob q hx=>by
  obtain⟨o',e1⟩:=a.there c ob q hx;exact b.there c o' e1 hx
 fix:=fun c u q f=>b.fix c u (a.fix c u q f) f
theorem Un.kept(k:∀b u,h.get? b=some u→h'.get? b=some u):Un fs ex H H h h':=
 ⟨fun b ob q _ _ _=>k b ob q,fun b ob q _ _ _=>⟨ob.slots,k b ob q⟩,fun _ _ _ n _=>n,fun b ob q _=>⟨ob,k b ob q⟩,fun _ _ q _=>q⟩
theorem Un.refl:Un fs ex H H h h:=Un.kept fun _ _ q=>q
theorem Un.laid(k:∀b u,h.get? b=some u→h'.get? b=some u)(hp:h.objs.size≤a)(hn:H a=none):Un fs ex H (upd H a o) h h' where
 keep:=fun b u q _ _ _=>k b u q
 slot:=fun b u q _ _ _=>⟨u.slots,k b u q⟩
 free:=fun b u q n _=>by rw[xl (au (aw (ak q) hp))];exact n
 there:=fun b u q _=>⟨u,k b u q⟩
 fix:=fun b u q _=>by rw[xl (xJ q hn)];exact q
theorem Un.write(mu:Mut (H x))(he:e=x∨H e=some (.own x))(k:∀b u,b≠e→h.get? b=some u→h'.get? b=some u)(heo:∃u,h'.get? e=some u):Un fs ex H (upd H x o) h h':=by
 have hx:∀b,H b=none→b≠x:=fun b n z=>by subst z;rw[n]at mu;exact mu
 have hb:∀b,H b=none→b≠e:=fun b n z=>by
  subst z;rcases he with r|r
  ·exact hx b n r
  ·rw[n]at r;cases r
 have hm:∀b u,H b=some u→¬Mut (some u)→b≠x:=fun b u q nm z=>by subst z;rw[q]at mu;exact nm mu
 refine⟨fun b u q n _ _=>k b u (hb b n) q,fun b u q n _ _=>⟨u.slots,k b u (hb b n) q⟩,fun b u q n _=>by rw[xl (hx b n)];exact n,fun b u q _=>?_,
  fun b u q hf=>by rw[xl (hm b _ q fun z=>by cases u<;> first|exact z|exact hf)];exact q⟩
 by_cases hbe:b=e
 ·subst hbe;exact heo
 ·exact⟨u,k b u hbe q⟩
end
def trk(h:Heap)(H:Hp):List Addr:=(aO h.objs.size).filter fun a=>(H a).isSome
def xa9(h:Heap)(H:Hp):Heap:=W.hideAll h (trk h H)
theorem xkE(h:Heap)(H:Hp):(xa9 h H).objs.size=h.objs.size:=W.hideAll_size _ _
theorem xlY{h:Heap}{H:Hp}{b:Addr}{o:Obj}(e:h.get? b=some o)(n:H b=none):(xa9 h H).get? b=some o:=
 W.hideAll_get _ e fun hm=>by
  have q:(H b).isSome=true:=(aK.mp hm).2;rw[n]at q;simp at q
theorem xno{h:Heap}{H:Hp}{b:Addr}{o:Obj}(e:(xa9 h H).get? b=some o):h.get? b=some o∧H b=none:=by
 have e':h.get? b=some o:=W.of_hideAll (trk h H) e;refine⟨e',?_⟩;cases q:H b with
 |none=>rfl
 |some x=>
  have hm:b∈trk h H:=aK.mpr ⟨bh.mpr (ak e'),by simp[q]⟩;have z:(xa9 h H).get? b=none:=W.hideAll_none (trk h H) hm;rw[z]at e;cases e
end L2
namespace L2
open PySem PySem.Spec PyProof.Rows
structure Mod(K:ah)(mg:Str→Option Value)(base:Heap):Prop where
 kin:K.In base
 glob:base.Ns bx mg
 blt:∃mb,base.Ns dE mb∧∀x:Str,x≠"__name__"→mb x=bD x
 nolimit:base.NoLimit
 bm:∃b o,mg "__builtins__"=some (.ref b)∧b≠dE∧base.get? b=some o∧o.cls= .type "module"∧o.dict=some dE∧o.data= .plain
structure Cx where
 prog:aH
 w:World
 K:ah
 mg:Str→Option Value
 base:Heap
 A:aV
 N:List Str
 s₀:ae
 H₀:Hp
 env:Env
 outer:List Env
 stack:List Env
 ex:List Addr
 fn:Str→Bool
 calm:Bool
 pn:List (Addr×Obj)
 xe:Value→ae→Prop
 cp:Str→Bool
def frs(l:List Env):List Addr:=l.filterMap (·.frame)
abbrev Cx.fs(X:Cx):List Addr:=frs X.outer
def Vis(sc:Scope)(x:Str):Prop:=sc.names.lookup x=some .local∨sc.names.lookup x=some .cell∨sc.names.lookup x=some .free
def Loc(sc:Scope)(x:Str):Prop:=sc.names.lookup x=some .local∨sc.names.lookup x=some .cell
def Look(env:Env)(h:Heap)(m:Str→Option Value)(x:Str)(u:Value):Prop:=
 (env.kindOf x=some .local∧m x=some u)∨((env.kindOf x=some .cell∨env.kindOf x=some .free)∧∃c,env.cells.lookup x=some c∧h.IsCell c (some u))
structure Cx.Ok(X:Cx):Prop where
 mod:Mod X.K X.mg X.base
 kind:X.env.scope.kind= .function
 glob:X.env.globals=bx
 blt:X.env.builtins=dE
 above:X.s₀.heap.objs.size≤X.env.locals
 inj:∀x y c,X.env.cells.lookup x=some c→X.env.cells.lookup y=some c→x=y
 has:∀x,(X.env.kindOf x=some .cell∨X.env.kindOf x=some .free)→∃c,X.env.cells.lookup x=some c
 cab:∀x c,X.fn x=true→X.env.cells.lookup x=some c→X.s₀.heap.objs.size≤c
 hd:X.calm=true→X.A.handled=none
 frames:X.A.frames=some X.stack
 stk:X.stack=X.outer∨(X.stack=X.env::X.outer∧X.env.frame=some X.env.locals)
 exf:∀b∈X.ex,b≠X.env.locals∧∀x c,X.env.cells.lookup x=some c→c≠b
 bs:∀b o,X.base.get? b=some o→X.s₀.heap.get? b=some o∧X.H₀ b=none
 bsz:X.base.objs.size≤X.s₀.heap.objs.size
 noex:∀b o,X.base.get? b=some o→b∉X.ex
 exfs:∀b∈X.ex,b∉X.fs
 funs:X.s₀.heap.FunFrames X.base X.outer
 frf:∀b∈X.fs,X.H₀ b=none
 cab2:∀x c,X.cp x=true→X.env.cells.lookup x=some c→X.s₀.heap.objs.size≤c
 hz:∀b,X.s₀.heap.objs.size≤b→X.H₀ b=none
structure Inv(X:Cx)(pins:List (Addr×Obj))(σ:List (Option V))(H:Hp)(s:ae):Prop where
 ok:X.Ok
 os:s.os=X.s₀.os
 bare:fH s.gens
 base:Un X.fs X.ex X.H₀ H X.s₀.heap s.heap
 loc:∃m,s.heap.Ns X.env.locals m∧∀(i:Nat) (x:Str) (v:V),X.N[i]? =some x→σ[i]? =some (some v)→Vis X.env.scope x→∃u,RelV v u∧Look X.env s.heap m x u
 cell:∀x c,X.env.cells.lookup x=some c→∃v,s.heap.IsCell c v
 free:H X.env.locals=none
 freeC:∀x c,X.env.cells.lookup x=some c→H c=none∨(X.fn x=false∧∃o,H c=some (.cel o)∧(o=none→∀(i:Nat) v,X.N[i]? =some x→(X.env.kindOf x=some .cell∨X.env.kindOf x=some .free)→σ[i]?≠some (some v)))
 pin:∀p∈X.pn++pins,s.heap.get? p.1=some p.2∧H p.1=none∧p.1≠X.env.locals∧p.1∉X.fs∧∀v,p.2.data≠.cell v
 hok:HOk X.prog X.w H s.heap
 len:σ.length=X.N.length
section
variable {X:Cx} {pins:List (Addr×Obj)} {σ:List (Option V)} {H H':Hp} {s:ae} {h':Heap}
theorem Cx.Ok.nofr(ok:X.Ok){b:Addr}{o:Obj}(e:X.base.get? b=some o):b∉X.fs:=fun hb=>by
 have:=(ok.funs.mem hb).1;rw[e]at this;cases this
theorem Inv.bs(I:Inv X pins σ H s):∀b o,X.base.get? b=some o→s.heap.get? b=some o∧H b=none:=fun b o e=>
 ⟨I.base.keep b o (I.ok.bs b o e).1 (I.ok.bs b o e).2 (I.ok.nofr e) (I.ok.noex b o e),I.base.free b o (I.ok.bs b o e).1 (I.ok.bs b o e).2 (I.ok.noex b o e)⟩
theorem Inv.bk(I:Inv X pins σ H s):∀b o,X.base.get? b=some o→s.heap.get? b=some o:=fun b o e=>(I.bs b o e).1
theorem Inv.mod(I:Inv X pins σ H s):Mod X.K X.mg X.base:=I.ok.mod
theorem Inv.kIn(I:Inv X pins σ H s):X.K.In s.heap:=I.ok.mod.kin.keeps I.bk
theorem Inv.lt(I:Inv X pins σ H s):X.env.locals<s.heap.objs.size:=let⟨_,hn,_⟩:=I.loc;hn.lt
theorem Inv.sz(I:Inv X pins σ H s):X.s₀.heap.objs.size≤s.heap.objs.size:=bg I.ok.above (cx I.lt)
theorem Inv.nofs(I:Inv X pins σ H s){a:Addr}(h:s.heap.objs.size≤a):a∉X.fs:=fun hb=>by
 obtain⟨_,o,ho,_⟩:=I.ok.funs.mem hb;exact absurd (aw (ak ho) (bg I.sz h)) (bL _)
theorem Inv.cne(I:Inv X pins σ H s):∀x c,X.env.cells.lookup x=some c→c≠X.env.locals:=fun x c e z=>by
 obtain⟨v,o,ho,hd⟩:=I.cell x c e;obtain⟨m,⟨o',es,ep,ho',hd',_⟩,_⟩:=I.loc;rw[z,ho']at ho;cases ho;rw[hd']at hd;cases hd
theorem Inv.funs(I:Inv X pins σ H s):s.heap.FunFrames X.base X.outer:=by
 have all:∀(l:List Env),(∀b∈frs l,b∈X.fs)→X.s₀.heap.FunFrames X.base l→s.heap.FunFrames X.base l:=by
  intro l
  induction l with
  |nil=>intro _ _;trivial
  |cons env r ih=>
   intro hs hl;obtain⟨hk,⟨L,o,hf,hn,ho,hd⟩,hr⟩:=hl;have hL:L∈X.fs:=hs L (by unfold frs;rw[iu,hf];exact aF);obtain⟨sl,e⟩:=I.base.slot L o ho (I.ok.frf L hL) hL fun z=>I.ok.exfs L z hL;exact⟨hk,⟨L,_,hf,hn,e,hd⟩,ih (fun b hb=>hs b (by unfold frs;rw[iu,hf];exact aq _ hb)) hr⟩
 exact all X.outer (fun _ hb=>hb) I.ok.funs
theorem Inv.stack(I:Inv X pins σ H s):s.heap.FunFrames X.base X.stack:=by
 rcases I.ok.stk with e|⟨e,hf⟩
 ·rw[e];exact I.funs
 ·rw[e];obtain⟨m,hn,_⟩:=I.loc;refine .cons (by rw[I.ok.kind];decide) hf hn ?_ I.funs;exact Heap.get?_none_of_le (bg I.ok.bsz I.ok.above)
theorem Inv.stkSub(I:Inv X pins σ H s):∀b∈frs X.stack,b∈X.env.locals::X.fs:=fun b hb=>by
 rcases I.ok.stk with e|⟨e,hf⟩
 ·rw[e]at hb;exact aq _ hb
 ·rw[e]at hb;unfold frs at hb;rw[iu,hf]at hb;exact hb
theorem Inv.stkFree(I:Inv X pins σ H s):∀b∈frs X.stack,H b=none:=fun b hb=>by
 rcases ax.mp (I.stkSub b hb)with e|hb
 ·rw[e];exact I.free
 ·obtain⟨_,o,ho,_⟩:=I.ok.funs.mem hb;exact I.base.free b o ho (I.ok.frf b hb) fun z=>I.ok.exfs b z hb
theorem Inv.step{g':Array GenState}{t':Nat}{d':Drawn}{ch:List Addr}(I:Inv X pins σ H s)
  (hch:∀b∈ch,(b∈X.ex∨X.s₀.heap.objs.size≤b)∧b≠X.env.locals∧(∀x c,X.env.cells.lookup x=some c→c≠b)∧∀p∈X.pn++pins,p.1≠b)
  (keep:∀b o,b≠X.env.locals→b∉X.fs→b∉ch→s.heap.get? b=some o→H b=none→h'.get? b=some o)
  (slot:∀b o,b≠X.env.locals→b∈X.fs→b∉ch→s.heap.get? b=some o→H b=none→∃sl,h'.get? b=some {o with slots:=sl}) (free:∀b o,b∉ch→s.heap.get? b=some o→H b=none→H' b=none)
  (there:∀b o,b∉ch→s.heap.get? b=some o→∃o',h'.get? b=some o')
  (fix:∀b u,H b=some u→Fix u→H' b=some u)
  (ns:∀m,s.heap.Ns X.env.locals m→h'.Ns X.env.locals m) (hok:HOk X.prog X.w H' h') (hg:fH g'):
  Inv X pins σ H' {s with heap:=h',gens:=g',drawn:=d',toks:=t'}:=by
 have neL:∀b o,X.s₀.heap.get? b=some o→b≠X.env.locals:=fun b o e=>au (aw (ak e) I.ok.above);have neC:∀b o,X.s₀.heap.get? b=some o→b∉X.ex→b∉ch:=fun b o e hx hb=>by
  rcases(hch b hb).1 with z|z
  ·exact hx z
  ·exact absurd (aw (ak e) z) (bL _)
 have cellK:∀x c,X.env.cells.lookup x=some c→H c=none→∀v,s.heap.IsCell c v→h'.IsCell c v:=fun x c e hn v ⟨o,ho,hd⟩=>by
  have nch:c∉ch:=fun z=>(hch c z).2.2.1 x c e rfl
  by_cases hc:c∈X.fs
  ·obtain⟨sl,q⟩:=slot c o (I.cne x c e) hc nch ho hn;exact⟨_,q,hd⟩
  ·exact⟨o,keep c o (I.cne x c e) hc nch ho hn,hd⟩
 refine⟨I.ok,I.os,hg,⟨fun b o e n hb hx=>?_,fun b o e n hb hx=>?_,fun b o e n hx=>?_,fun b o e hx=>?_,fun b u e f=>fix b u (I.base.fix b u e f) f⟩,?_,fun x c e=>?_,?_,fun x c e=>?_,fun p hp=>?_,hok,I.len⟩
 ·exact keep b o (neL b o e) hb (neC b o e hx) (I.base.keep b o e n hb hx) (I.base.free b o e n hx)
 ·obtain⟨sl,e1⟩:=I.base.slot b o e n hb hx;obtain⟨sl',e2⟩:=slot b _ (neL b o e) hb (neC b o e hx) e1 (I.base.free b o e n hx);exact⟨sl',e2⟩
 ·obtain⟨o',e1⟩:=I.base.there b o e hx;exact free b o' (neC b o e hx) e1 (I.base.free b o e n hx)
 ·obtain⟨o',e1⟩:=I.base.there b o e hx;exact there b o' (neC b o e hx) e1
 ·obtain⟨m,hn,hl⟩:=I.loc;refine⟨m,ns m hn,fun i x v e1 e2 e3=>?_⟩;obtain⟨u,r,l⟩:=hl i x v e1 e2 e3;rcases l with l|⟨k,c,e,z⟩
  ·exact⟨u,r,.inl l⟩
  ·rcases I.freeC x c e with hn'|⟨_,o,ho,hno⟩
   ·exact⟨u,r,.inr ⟨k,c,e,cellK x c e hn' _ z⟩⟩
   ·cases o with
    |none=>exact absurd e2 (hno rfl i v e1 k)
    |some v'=>
     obtain⟨y,hy,hr⟩:=I.hok c _ ho;obtain⟨y',hy',hr'⟩:=hok c _ (fix c _ ho trivial);obtain⟨y2,rfl,r2⟩:=hr v' rfl;obtain⟨y3,rfl,r3⟩:=hr' v' rfl;have:v=v':=RelV.fn r (by
      obtain⟨o1,q1,q2⟩:=z;obtain⟨o2,q3,q4⟩:=hy;rw[q1]at q3;cases q3;rw[q2]at q4;cases q4;exact r2)
     subst this;exact⟨y3,r3,.inr ⟨k,c,e,hy'⟩⟩
 ·rcases I.freeC x c e with hn'|⟨_,o,ho,_⟩
  ·obtain⟨v,z⟩:=I.cell x c e;exact⟨v,cellK x c e hn' v z⟩
  ·obtain⟨y',hy',_⟩:=hok c _ (fix c _ ho trivial);exact⟨y',hy'⟩
 ·obtain⟨m,⟨o,_,_,ho,_⟩,_⟩:=I.loc;exact free _ o (fun z=>(hch _ z).2.1 rfl) ho I.free
 ·rcases I.freeC x c e with hn'|⟨hf,o,ho,hno⟩
  ·obtain⟨v,o,ho,hd⟩:=I.cell x c e;exact .inl (free c o (fun z=>(hch c z).2.2.1 x c e rfl) ho hn')
  ·exact .inr ⟨hf,o,fix c _ ho trivial,hno⟩
 ·obtain⟨e,n,ne,nf,d⟩:=I.pin p hp;have nch:p.1∉ch:=fun z=>(hch p.1 z).2.2.2 p hp rfl;exact⟨keep p.1 p.2 ne nf nch e n,free p.1 p.2 nch e n,ne,nf,d⟩
theorem Inv.un{t':Nat}(I:Inv X pins σ H s)(u:Un X.fs [] H H' s.heap h')(hok:HOk X.prog X.w H' h'):Inv X pins σ H' {s with heap:=h',toks:=t'}:=by
 obtain⟨m,⟨o,es,ep,ho,r⟩,_⟩:=id I.loc;obtain⟨sl,hL⟩:=u.any ho I.free (by simp);exact I.step (g':=s.gens) (d':=s.drawn) (ch:=[]) (fun _ z=>nomatch z) (fun b o _ hb _ e n=>u.keep b o e n hb (by simp)) (fun b o _ hb _ e n=>u.slot b o e n hb (by simp)) (fun b o _ e n=>u.free b o e n (by simp)) (fun b o _ e=>u.there b o e (by simp)) u.fix (fun m' hm=>by
  obtain⟨o',es',ep',ho',r'⟩:=hm;rw[ho]at ho';cases ho';exact⟨_,es',ep',hL,r'⟩) hok I.bare
theorem Inv.call{g':Array GenState}{t':Nat}{d':Drawn}{ch:List Addr}(I:Inv X pins σ H s)(u:Un (frs X.stack) ch H H' s.heap h')(hok:HOk X.prog X.w H' h')(hg:fH g')
  (hch:∀b∈ch,(b∈X.ex∨X.s₀.heap.objs.size≤b)∧b≠X.env.locals∧(∀x c,X.env.cells.lookup x=some c→c≠b)∧∀p∈X.pn++pins,p.1≠b):
  Inv X pins σ H' {s with heap:=h',gens:=g',drawn:=d',toks:=t'}:=by
 obtain⟨m,⟨o,es,ep,ho,r⟩,_⟩:=id I.loc;obtain⟨sl,hL⟩:=u.any ho I.free fun z=>(hch _ z).2.1 rfl;exact I.step (ch:=ch) hch (fun b o hL hb hc e n=>u.keep b o e n (fun z=>(ax.mp (I.stkSub b z)).elim hL hb) hc) (fun b o _ _ hc e n=>u.any e n hc) (fun b o hc e n=>u.free b o e n hc) (fun b o hc e=>u.there b o e hc) u.fix (fun m' hm=>by
  obtain⟨o',es',ep',ho',r'⟩:=hm;rw[ho]at ho';cases ho';exact⟨_,es',ep',hL,r'⟩) hok hg
theorem Inv.turned{t':Nat}{it:Addr}(I:Inv X pins σ H s)(k:∀b o,b≠it→s.heap.get? b=some o→h'.get? b=some o)(hn:H it=none)(hL:it≠X.env.locals)
  (h1:it∈X.ex∨X.s₀.heap.objs.size≤it) (h2:∀x c,X.env.cells.lookup x=some c→c≠it) (h3:∀p∈X.pn++pins,p.1≠it):Inv X pins σ H {s with heap:=h',toks:=t'}:=by
 have nit:∀b u,H b=some u→b≠it:=fun b u e z=>by rw[z,hn]at e;cases e
 refine I.step (g':=s.gens) (d':=s.drawn) (ch:=[it]) (fun b hb=>?_) (fun b o _ _ hc e _=>k b o (fun z=>hc (by simp[z])) e) (fun b o _ _ hc e _=>⟨o.slots,k b o (fun z=>hc (by simp[z])) e⟩) (fun _ _ _ _ n=>n)
  (fun b o hc e=>⟨o,k b o (fun z=>hc (by simp[z])) e⟩) (fun _ _ e _=>e) (fun m hm=>?_) (fun b u e=>?_) I.bare
 ·have e:b=it:=by simpa using hb
  subst e;exact⟨h1,hL,h2,h3⟩
 ·obtain⟨o,es,ep,ho,r⟩:=hm;exact⟨o,es,ep,k _ o (bE hL) ho,r⟩
 ·refine(I.hok b u e).stay (fun c v hc q=>k c v ?_ q) (fun _ q=>q) fun _ _ q _=>q;rcases hc with z|z
  ·rw[z];exact nit b u e
  ·exact nit c _ z
theorem Inv.tok(I:Inv X pins σ H s)(t:Nat):Inv X pins σ H {s with toks:=t}:=I.un (h':=s.heap) (t':=t) Un.refl I.hok
theorem Inv.kept{t':Nat}(I:Inv X pins σ H s)(k:∀b u,s.heap.get? b=some u→h'.get? b=some u):Inv X pins σ H {s with heap:=h',toks:=t'}:=I.un (Un.kept k) (I.hok.kept k)
theorem Inv.laid{a:Addr}{o:HO}{t':Nat}(I:Inv X pins σ H s)(k:∀b u,s.heap.get? b=some u→h'.get? b=some u)(hp:s.heap.objs.size≤a)(new:xG X.prog X.w (upd H a o) h' a o):
  Inv X pins σ (upd H a o) {s with heap:=h',toks:=t'}:=I.un (Un.laid k hp (I.hok.fresh hp)) (I.hok.laid k hp new)
theorem Inv.write{x e:Addr}{o:HO}{t':Nat}(I:Inv X pins σ H s)(mu:Mut (H x))(he:e=x∨H e=some (.own x))(k:∀b u,b≠e→s.heap.get? b=some u→h'.get? b=some u)(heo:∃u,h'.get? e=some u)
  (new:xG X.prog X.w (upd H x o) h' x o):Inv X pins σ (upd H x o) {s with heap:=h',toks:=t'}:=I.un (Un.write mu he k heo) (I.hok.write mu he k heo new)
theorem Inv.weak{σ':List (Option V)}(I:Inv X pins σ H s)(hl:σ'.length=σ.length)(w:∀(i:Nat) v,σ'[i]? =some (some v)→σ[i]? =some (some v)):Inv X pins σ' H s:=
 ⟨I.ok,I.os,I.bare,I.base,let⟨m,hn,hl'⟩:=I.loc;⟨m,hn,fun i x v e1 e2 e3=>hl' i x v e1 (w i v e2) e3⟩,I.cell,I.free,fun x c e=>(I.freeC x c e).imp id fun⟨hf,o,ho,hno⟩=>⟨hf,o,ho,fun z i v e1 k e2=>hno z i v e1 k (w i v e2)⟩,I.pin,I.hok,hl.trans I.len⟩
theorem Inv.pins_of{pins':List (Addr×Obj)}(I:Inv X pins σ H s)(h:∀p∈pins',s.heap.get? p.1=some p.2∧H p.1=none∧p.1≠X.env.locals∧p.1∉X.fs∧∀v,p.2.data≠.cell v):Inv X pins' σ H s:=
 ⟨I.ok,I.os,I.bare,I.base,I.loc,I.cell,I.free,I.freeC,fun p hp=>(aQ.mp hp).elim (fun z=>I.pin p (b7 _ z)) (h p),I.hok,I.len⟩
theorem xdG{N:List Str}(hN:N.Nodup){i j:Nat}{x:Str}(a:N[i]? =some x)(b:N[j]? =some x):i=j:=by
 obtain⟨h1,e1⟩:=aD.mp a;obtain⟨h2,e2⟩:=aD.mp b;exact(j8 hN).mp (e1.trans e2.symm)
theorem xfW{M:Model}{A:aV}{E:Value→ae→Prop}{i:Nat}{x:Str}{v:V}{u:Value}{Q:Unit→ae→Prop}(I:Inv X pins σ H s)(hN:X.N.Nodup)(hi:X.N[i]? =some x)(hx:Loc X.env.scope x)(r:RelV v u)
  (h:∀s',Inv X pins (σ.set i (some v)) H s'→(∃a,fJ a s.heap s'.heap∧(a=X.env.locals∨X.env.cells.lookup x=some a))→Q () s') (hf:X.fn x=true∨X.env.scope.names.lookup x=some .local:=by first|exact .inl rfl|exact .inr rfl|assumption):wpAny M A (storeName X.env x u) Q E s:=by
 obtain⟨m,hn,hl⟩:=id I.loc;have hcls:(X.env.scope.kind== .class||(X.env.scope.kind== .module&&X.env.locals != X.env.globals))=false:=by rw[I.ok.kind];rfl
 have hiσ:i<σ.length:=by rw[I.len];exact(aD.mp hi).1
 have cne:=I.cne;have tracked:∀{a:Addr} {h':Heap},(∃o,s.heap.get? a=some o∧H a=none)→fJ a s.heap h'→HOk X.prog X.w H h':=fun{a h'} ha hs b ob e=>by
  obtain⟨_,_,hfree⟩:=ha;refine(I.hok b ob e).stay (fun c w' hc q=>(hs.2 c ?_).trans q) (fun _ q=>q) fun _ _ q _=>q;rintro rfl;rcases hc with rfl|hc
  ·rw[hfree]at e;cases e
  ·rw[hfree]at hc;cases hc
 rcases hx with hk|hk
 ·refine wpAny_storeName_local hk hn (fun h' hn' hs=>?_) hcls;obtain⟨oL,_,_,hoL,_⟩:=id hn;refine h _ ⟨I.ok,I.os,I.bare,⟨fun b o e n hb hx=>?_,fun b o e n hb hx=>?_,I.base.free,fun b o e hx=>?_,I.base.fix⟩,⟨_,hn',fun j y v' e1 e2 e3=>?_⟩,fun y c e=>?_,I.free,fun y c e=>?_,fun p hp=>?_,tracked ⟨oL,hoL,I.free⟩ hs,by simpa using I.len⟩ ⟨_,hs,.inl rfl⟩
  ·exact(hs.2 b (au (aw (ak e) I.ok.above))).trans (I.base.keep b o e n hb hx)
  ·obtain⟨sl,e1⟩:=I.base.slot b o e n hb hx;exact⟨sl,(hs.2 b (au (aw (ak e) I.ok.above))).trans e1⟩
  ·obtain⟨o',e1⟩:=I.base.there b o e hx;exact⟨o',(hs.2 b (au (aw (ak e) I.ok.above))).trans e1⟩
  ·by_cases hj:j=i
   ·subst hj;rw[hi]at e1;cases e1;rw[gL hiσ]at e2;cases e2;exact⟨u,r,.inl ⟨hk,by simp⟩⟩
   ·rw[eN (bE hj)]at e2;obtain⟨u',r',q⟩:=hl j y v' e1 e2 e3;refine⟨u',r',?_⟩;rcases q with⟨k,e⟩|⟨k,c,e,z⟩
    ·refine .inl ⟨k,?_⟩;have:y≠x:=fun e=>hj (xdG hN e1 (e▸hi));simp[this,e]
    ·exact .inr ⟨k,c,e,z.sameBut hs (cne y c e)⟩
  ·obtain⟨w',z⟩:=I.cell y c e;exact⟨w',z.sameBut hs (cne y c e)⟩
  ·refine(I.freeC y c e).imp id fun⟨hf',o',ho',hno⟩=>⟨hf',o',ho',fun z j v' e1 k e2=>?_⟩
   by_cases hj:j=i
   ·subst hj;rw[hi]at e1;cases e1;have hk':X.env.kindOf x=some .local:=hk;rw[hk']at k;rcases k with k|k<;> cases k
   ·rw[eN (bE hj)]at e2;exact hno z j v' e1 k e2
  ·obtain⟨e,n,ne,nf,d⟩:=I.pin p hp;exact⟨(hs.2 p.1 ne).trans e,n,ne,nf,d⟩
 ·have hfn:X.fn x=true:=by
   rcases hf with z|z
   ·exact z
   ·rw[z]at hk;cases hk
  obtain⟨c,hc⟩:=I.ok.has x (.inl hk);have hHc:H c=none:=by
   rcases I.freeC x c hc with z|⟨z,_⟩
   ·exact z
   ·rw[hfn]at z;cases z
  obtain⟨w',z⟩:=I.cell x c hc;refine wpAny_storeName_cell I.ok.kind hk hc z (fun h' hc' hs=>?_);obtain⟨oc,hoc,hocd⟩:=id z;refine h {s with heap:=h'} ⟨I.ok,I.os,I.bare,⟨fun b o e n hb hx=>?_,fun b o e n hb hx=>?_,I.base.free,fun b o e hx=>?_,I.base.fix⟩,⟨m,hn.sameBut hs (bE (cne x c hc)),fun j y v' e1 e2 e3=>?_⟩,fun y c' e=>?_,I.free,fun y c' e=>?_,fun p hp=>?_,tracked ⟨oc,hoc,hHc⟩ hs,by simpa using I.len⟩ ⟨c,hs,.inr hc⟩
  ·exact(hs.2 b (au (aw (ak e) (I.ok.cab x c hfn hc)))).trans (I.base.keep b o e n hb hx)
  ·obtain⟨sl,e1⟩:=I.base.slot b o e n hb hx;exact⟨sl,(hs.2 b (au (aw (ak e) (I.ok.cab x c hfn hc)))).trans e1⟩
  ·obtain⟨o',e1⟩:=I.base.there b o e hx;exact⟨o',(hs.2 b (au (aw (ak e) (I.ok.cab x c hfn hc)))).trans e1⟩
  ·by_cases hj:j=i
   ·subst hj;rw[hi]at e1;cases e1;rw[gL hiσ]at e2;cases e2;exact⟨u,r,.inr ⟨.inl hk,c,hc,hc'⟩⟩
   ·rw[eN (bE hj)]at e2;obtain⟨u',r',q⟩:=hl j y v' e1 e2 e3;refine⟨u',r',?_⟩;rcases q with q|⟨k,c',e,z'⟩
    ·exact .inl q
    ·refine .inr ⟨k,c',e,z'.sameBut hs ?_⟩;rintro rfl;exact hj (xdG hN e1 (I.ok.inj _ _ _ e hc▸hi))
  ·by_cases hcc:c'=c
   ·subst hcc;exact⟨_,hc'⟩
   ·obtain⟨w2,z2⟩:=I.cell y c' e;exact⟨w2,z2.sameBut hs hcc⟩
  ·refine(I.freeC y c' e).imp id fun⟨hf',o',ho',hno⟩=>⟨hf',o',ho',fun z j v' e1 k e2=>?_⟩
   by_cases hj:j=i
   ·subst hj;rw[hi]at e1;cases e1;rw[hfn]at hf';cases hf'
   ·rw[eN (bE hj)]at e2;exact hno z j v' e1 k e2
  ·obtain⟨e,n,ne,nf,d⟩:=I.pin p hp;refine⟨(hs.2 p.1 ?_).trans e,n,ne,nf,d⟩;intro q;rw[q,hoc]at e;have q':oc=p.2:=br e;exact d w' (by rw[←q'];exact hocd)
theorem xdH{M:Model}{A:aV}{E:Value→ae→Prop}{i:Nat}{x:Str}{v:V}{u:Value}{Q:Unit→ae→Prop}(I:Inv X pins σ H s)(hN:X.N.Nodup)(hi:X.N[i]? =some x)(hx:Loc X.env.scope x)(r:RelV v u)
  (h:∀s',Inv X pins (σ.set i (some v)) H s'→Q () s') (hf:X.fn x=true∨X.env.scope.names.lookup x=some .local:=by first|exact .inl rfl|exact .inr rfl|assumption):wpAny M A (storeName X.env x u) Q E s:=
 xfW I hN hi hx r (fun s' I' _=>h s' I') hf
theorem Inv.call'{s':ae}{ch:List Addr}(I:Inv X pins σ H s)(ho:s'.os=s.os)(u:Un (frs X.stack) ch H H' s.heap s'.heap)(hok:HOk X.prog X.w H' s'.heap)(hg:fH s'.gens)
  (hch:∀b∈ch,(b∈X.ex∨X.s₀.heap.objs.size≤b)∧b≠X.env.locals∧(∀x c,X.env.cells.lookup x=some c→c≠b)∧∀p∈X.pn++pins,p.1≠b):Inv X pins σ H' s':=by
 obtain⟨h',g',d',t',o'⟩:=s';have e:o'=s.os:=ho;subst e;exact I.call (g':=g') (t':=t') (d':=d') u hok hg hch
end
abbrev XK:=Value→Option Addr→Hp→Prop
abbrev St:=List (Option V)
abbrev VK:=V→Hp→Prop
abbrev TE:=St→Hp→VK→Prop
abbrev TT:=St→Hp→(Bool→Hp→Prop)→Prop
abbrev TA:=St→Hp→(List V→Hp→Prop)→Prop
structure Ends where
 nx:St→Hp→Prop
 rt:VK
 bk:St→Hp→Prop:=fun _ _=>False
 ct:St→Hp→Prop:=fun _ _=>False
abbrev TS:=Ends→St→Hp→Prop
def EP(X:Cx)(pins:List (Addr×Obj))(σ:St)(Q:VK)(u:Value)(s':ae):Prop:=∃v H',Inv X pins σ H' s'∧RelV v u∧Q v H'
def TP(X:Cx)(pins:List (Addr×Obj))(σ:St)(Q:Bool→Hp→Prop)(b:Bool)(s':ae):Prop:=∃H',Inv X pins σ H' s'∧Q b H'
def AP(X:Cx)(pins:List (Addr×Obj))(σ:St)(Q:List V→Hp→Prop)(us:List Value)(s':ae):Prop:=∃vs H',Inv X pins σ H' s'∧Vals vs us∧Q vs H'
def SP(X:Cx)(pins:List (Addr×Obj))(D:Ends)(f:Flow)(s':ae):Prop:=
 match f with
 | .next=>∃σ' H',Inv X pins σ' H' s'∧D.nx σ' H'
 | .brk=>∃σ' H',Inv X pins σ' H' s'∧D.bk σ' H'
 | .cont=>∃σ' H',Inv X pins σ' H' s'∧D.ct σ' H'
 | .ret u=>∃v σ' H',Inv X pins σ' H' s'∧RelV v u∧D.rt v H'
def PE(X:Cx)(e:Expr)(t:TE):Prop:=
 ∀(pins:List (Addr×Obj)) (s:ae) (σ:St) (H:Hp) (Q:VK),Inv X pins σ H s→t σ H Q→wpAny (model X.prog X.w) X.A (eval e X.env) (EP X pins σ Q) X.xe s
def PT(X:Cx)(e:Expr)(t:TT):Prop:=
 ∀(pins:List (Addr×Obj)) (s:ae) (σ:St) (H:Hp) (Q:Bool→Hp→Prop),Inv X pins σ H s→t σ H Q→wpAny (model X.prog X.w) X.A (isTrue e X.env (eval e X.env)) (TP X pins σ Q) X.xe s
def PW(X:Cx)(e:Expr)(t:TT):Prop:=
 ∀(whole:Sem Value) (pins:List (Addr×Obj)) (s:ae) (σ:St) (H:Hp) (Q:Bool→Hp→Prop),Inv X pins σ H s→t σ H Q→wpAny (model X.prog X.w) X.A (isTrue e X.env whole) (TP X pins σ Q) X.xe s
theorem PW.pt{X:Cx}{e:Expr}{t:TT}(h:PW X e t):PT X e t:=h _
def PA(X:Cx)(es:List Expr)(t:TA):Prop:=
 ∀(pos:Pos) (pins:List (Addr×Obj)) (s:ae) (σ:St) (H:Hp) (Q:List V→Hp→Prop),Inv X pins σ H s→t σ H Q→wpAny (model X.prog X.w) X.A (spliced (cZ pos (aY es X.env))) (AP X pins σ Q) X.xe s
def PS(X:Cx)(st:Stmt)(t:TS):Prop:=
 ∀(pins:List (Addr×Obj)) (s:ae) (σ:St) (H:Hp) (D:Ends),Inv X pins σ H s→t D σ H→wpAny (model X.prog X.w) X.A (exec st X.env) (SP X pins D) X.xe s
def PSs(X:Cx)(st:List Stmt)(t:TS):Prop:=
 ∀(pins:List (Addr×Obj)) (s:ae) (σ:St) (H:Hp) (D:Ends),Inv X pins σ H s→t D σ H→wpAny (model X.prog X.w) X.A (execs st X.env) (SP X pins D) X.xe s
theorem thn{α:Type}{t:Sem α}{Q Q':α→ae→Prop}{M:Model}{A:aV}{E:Value→ae→Prop}{s:ae}(h:wpAny M A t Q E s)(hQ:∀a s,Q a s→Q' a s):wpAny M A t Q' E s:=bb h hQ fun _ _ x=>x
end L2
namespace L2
open PySem PySem.Spec PyProof.Rows
section
variable {X:Cx}
def xoC(i:Nat):TE:=fun σ H Q=>∃v,σ[i]? =some (some v)∧Q v H
def tC(v:V):TE:=fun _ H Q=>Q v H
theorem xkF{i:Nat}{x:Str}{pos:Pos}(hN:X.N[i]? =some x)(hv:Vis X.env.scope x)(hd:(x==("__debug__":Str))=false:=by decide)(hcd:(x==("__classdict__":Str))=false:=by decide):PE X (.Name x pos) (xoC i):=by
 intro pins s σ H Q I h;obtain⟨v,e,h⟩:=h;obtain⟨m,hn,hl⟩:=I.loc;obtain⟨u,r,l⟩:=hl i x v hN e hv;have fin:EP X pins σ Q u s:=⟨v,H,I,r,h⟩;rcases l with⟨hk,hm⟩|⟨hk,c,hc,hcell⟩
 ·exact wpAny_Name (wpAny_loadName_local I.ok.kind hk hn hm fin) hd
 ·rcases hk with hk|hk
  ·exact wpAny_Name (wpAny_loadName_cell I.ok.kind hk hc hcell fin) hd
  ·exact wpAny_Name (wpAny_loadName_free I.ok.kind hk hc hcell fin hcd) hd
theorem xh{i j pos}:PE X (.Constant (.int i) j pos) (tC (.int i)):=fun _ _ _ H _ I h=>wpAny_Constant_int ⟨.int i,H,I.tok _,⟨_,rfl⟩,h⟩
theorem zm{b j pos}:PE X (.Constant (.bool b) j pos) (tC (.bl b)):=fun _ _ _ H _ I h=>Constant_bool ⟨.bl b,H,I,rfl,h⟩
theorem xaP{j pos}:PE X (.Constant .none j pos) (tC .non):=fun _ _ _ H _ I h=>lM ⟨.non,H,I,rfl,h⟩
theorem vF{x j pos}:PE X (.Constant (.str x) j pos) (tC (.str x)):=fun _ _ _ H _ I h=>Calls.Constant_str ⟨.str x,H,I.tok _,⟨_,rfl⟩,h⟩
def Gl(X:Cx)(x:Str):Prop:=X.env.kindOf x=some .globalImplicit
theorem xcP{E:Value→ae→Prop}{pins:List (Addr×Obj)}{s:ae}{σ:St}{H:Hp}{x:Str}{u:Value}{pos:Pos}{Q:Value→ae→Prop}(I:Inv X pins σ H s)(hg:Gl X x)(hm:X.mg x=some u)(h:Q u s)
  (hd:(x==("__debug__":Str))=false:=by decide):wpAny (model X.prog X.w) X.A (eval (.Name x pos) X.env) Q E s:=
 iL I.ok.kind hg (Calls.loadGlobal_global (by rw[I.ok.glob];exact I.mod.glob.keeps I.bk) hm h) hd
theorem yV{E:Value→ae→Prop}{pins:List (Addr×Obj)}{s:ae}{σ:St}{H:Hp}{x:Str}{u:Value}{pos:Pos}{Q:Value→ae→Prop}(I:Inv X pins σ H s)(hg:Gl X x)(hm:X.mg x=none)(hv:bD x=some u)(h:Q u s)
  (hn:x≠"__name__":=by decide) (hd:(x==("__debug__":Str))=false:=by decide):wpAny (model X.prog X.w) X.A (eval (.Name x pos) X.env) Q E s:=by
 obtain⟨mb,h1,h2⟩:=I.mod.blt;exact iL I.ok.kind hg (Calls.loadGlobal_builtin (by rw[I.ok.glob];exact I.mod.glob.keeps I.bk) hm (by rw[I.ok.blt];exact h1.keeps I.bk) ((h2 x hn).trans hv) h) hd
theorem zL{x:Str}{v:V}{u:Value}{pos:Pos}(hg:Gl X x)(hm:X.mg x=some u)(r:RelV v u)(hd:(x==("__debug__":Str))=false:=by decide):PE X (.Name x pos) (tC v):=
 fun _ _ _ H _ I h=>xcP I hg hm ⟨v,H,I,r,h⟩ hd
theorem vc{x:Str}{v:V}{u:Value}{pos:Pos}(hg:Gl X x)(hm:X.mg x=none)(hv:bD x=some u)(r:RelV v u)(hn:x≠"__name__":=by decide)(hd:(x==("__debug__":Str))=false:=by decide):PE X (.Name x pos) (tC v):=
 fun _ _ _ H _ I h=>yV I hg hm hv ⟨v,H,I,r,h⟩ hn hd
variable {a b:Expr} {ta tb:TE} {pos:Pos}
def PC(X:Cx)(op:CmpOp)(a b:Expr)(t:TE):Prop:=
 ∀(pins:List (Addr×Obj)) (s:ae) (σ:St) (H:Hp) (Q:VK),Inv X pins σ H s→t σ H Q→
  wpAny (model X.prog X.w) X.A (eval a X.env) (fun v s₁=>wpAny (model X.prog X.w) X.A (eval b X.env) (fun u s₂=>wpAny (model X.prog X.w) X.A (bw op v u) (EP X pins σ Q) X.xe s₂) X.xe s₁) X.xe s
theorem xgO(b:Expr){op:CmpOp}(h:op≠.In)(h2:op≠.NotIn):du op b=false:=by
 have e1:(op==CmpOp.In)=false:=by cases op<;> first|rfl|exact absurd rfl h
 have e2:(op==CmpOp.NotIn)=false:=by cases op<;> first|rfl|exact absurd rfl h2
 cases b<;> simp[du,e1,e2]
def xqw(ta:TE):TE:=fun σ H Q=>ta σ H fun x H1=>Q (.bl (decide (x= .non))) H1
def xpO(ta:TE):TE:=fun σ H Q=>ta σ H fun x H1=>Q (.bl (!decide (x= .non))) H1
theorem RelV.none_iff{x:V}{v:Value}(r:RelV x v):(v==bq)=decide (x= .non):=by
 cases x with
 |non=>cases r;rfl
 |bl _=>cases r;rfl
 |int _=>obtain⟨t,rfl⟩:=r;rfl
 |str _=>obtain⟨t,rfl⟩:=r;rfl
 |byt _=>obtain⟨t,rfl⟩:=r;rfl
 |flt _=>obtain⟨t,rfl⟩:=r;rfl
 |ref _=>cases r;rfl
 |ty _=>cases r;rfl
theorem xoD{j pos'}(ha:PE X a ta):PC X .Is a (.Constant .none j pos') (xqw ta):=by
 intro pins s σ H Q I h;refine thn (ha pins s σ H _ I h) fun v s1 ⟨x,H1,I1,r1,q1⟩=>?_;exact lM (is_none_gen ⟨.bl _,H1,I1,by rw[r1.none_iff];rfl,q1⟩)
theorem xnp{j pos'}(ha:PE X a ta):PC X .IsNot a (.Constant .none j pos') (xpO ta):=by
 intro pins s σ H Q I h;refine thn (ha pins s σ H _ I h) fun v s1 ⟨x,H1,I1,r1,q1⟩=>?_;exact lM (isnot_none_gen ⟨.bl _,H1,I1,by rw[r1.none_iff];rfl,q1⟩)
def tB(t:TE):TT:=fun σ H Q=>t σ H fun x H1=>∃c,x= .bl c∧Q c H1
theorem xoE{op:CmpOp}{t:TE}(h:PC X op a b t)(h1:du op b=false:=by first|exact xgO _ (by decide) (by decide)|rfl):PE X (.Compare a [op] [b] pos) t:=fun pins s σ H Q I hw=>wpAny_Compare1 (h pins s σ H Q I hw) h1
theorem xkG{op:CmpOp}{t:TE}(h:PC X op a b t)(h1:du op b=false:=by first|exact xgO _ (by decide) (by decide)|rfl):PT X (.Compare a [op] [b] pos) (tB t):=by
 intro pins s σ H Q I hw;refine gZ (thn (h pins s σ H _ I hw) fun v s1 h1=>thn h1 fun u s2 h2=>thn h2 fun c s3 ⟨x,H1,I1,r1,q1⟩=>?_) h1;obtain⟨d,rfl,q⟩:=q1;cases r1;exact cH ⟨H1,I1,q⟩
variable {tA tB':TT} {rest:List Expr}
def xqx(t:TT):TT:=fun σ H Q=>t σ H fun c H1=>Q (!c) H1
theorem uy(ha:PT X a tA):PW X (.BoolOp .And [a] pos) tA:=by
 intro wh pins s σ H Q I h;refine isTrue_and (thn (ha pins s σ H Q I h) fun c s1 e=>?_);cases c with
 |true=>exact isTrue_and_nil e
 |false=>exact e
theorem vG(ha:PT X a tA):PW X (.BoolOp .Or [a] pos) tA:=by
 intro wh pins s σ H Q I h;refine isTrue_or (thn (ha pins s σ H Q I h) fun c s1 e=>?_);cases c with
 |false=>exact isTrue_or_nil e
 |true=>exact e
theorem vH(ha:PT X a tA):PT X (.UnaryOp .Not a pos) (xqx tA):=by
 intro pins s σ H Q I h;exact isTrue_not (ha pins s σ H (fun c H1=>Q (!c) H1) I h)
theorem zZ{op}{t:TE}(h:PE X a t):PE X (.BoolOp op [a] pos) t:=fun pins s σ H Q I hw=>BoolOp_one (h pins s σ H Q I hw)
end
end L2
namespace L2
open PySem PySem.Spec PyProof.Rows
def SqL(K:ah)(H:Hp)(a:Addr)(xs:List V):Prop:=
 Rd H a (.lst xs)∨
  ∃(o:Obj) (its:Array Value) (n:Nat),K.lookup a=some o∧o.cls= .type "list"∧o.dict=none∧o.data= .seq its n∧its.size≤aL∧Vals xs its.toList
def SqT(K:ah)(H:Hp)(a:Addr)(xs:List V):Prop:=
 Rd H a (.tup xs)∨
  ∃(o:Obj) (its:Array Value) (n:Nat),K.lookup a=some o∧o.cls= .type "tuple"∧o.data= .seq its n∧its.size≤aL∧Vals xs its.toList
def xqy:Value→Option V
 | .none=>some .non
 | .bool b=>some (.bl b)
 | .int i _=>some (.int i)
 | .str x _=>some (.str x)
 | .bytes b _=>some (.byt b)
 | .float b _=>some (.flt b)
 | .ref a=>some (.ref a)
 | .type n=>some (.ty n)
 |_=>none
theorem RelV.abs{x:V}{u:Value}(r:RelV x u):xqy u=some x:=by
 cases x with
 |non=>cases r;rfl
 |bl _=>cases r;rfl
 |int _=>obtain⟨t,rfl⟩:=r;rfl
 |str _=>obtain⟨t,rfl⟩:=r;rfl
 |byt _=>obtain⟨t,rfl⟩:=r;rfl
 |flt _=>obtain⟨t,rfl⟩:=r;rfl
 |ref _=>cases r;rfl
 |ty _=>cases r;rfl
theorem RelV.inj{x y:V}{u:Value}(r:RelV x u)(q:RelV y u):x=y:=br (r.abs.symm.trans q.abs)
theorem Vals.inj:∀{xs ys:List V} {us:List Value},Vals xs us→Vals ys us→xs=ys
 |_,_,_,.nil,.nil=>rfl
 |_,_,_,.cons r t,.cons r' t'=>by rw[r.inj r',Vals.inj t t']
section
variable {X:Cx} {pins:List (Addr×Obj)} {σ:St} {H:Hp} {s:ae} {a:Addr} {xs ys:List V}
theorem SqL.of{K:ah}(h:H a=some (.lst xs)):SqL K H a xs:=.inl (.inl h)
theorem SqT.of{K:ah}(h:H a=some (.tup xs)):SqT K H a xs:=.inl (.inl h)
theorem Inv.list(I:Inv X pins σ H s)(h:SqL X.K H a xs):∃its:List Value,Vals xs its∧PlainL s.heap a its.toArray∧xs.length≤aL:=by
 rcases h with h|⟨o,its,n,hk,hc,hd,hs,hz,r⟩
 ·obtain⟨z,its,n,r,e⟩:=h.ok I.hok;exact⟨its,r,⟨_,n,e,rfl,rfl,rfl⟩,z⟩
 ·refine⟨its.toList,r,⟨o,n,I.kIn a o hk,hc,hd,by simpa using hs⟩,?_⟩;have e:=r.length;simp only[aR]at e;lia
theorem Inv.tuple(I:Inv X pins σ H s)(h:SqT X.K H a xs):∃its:List Value,Vals xs its∧IsTup s.heap a its.toArray∧xs.length≤aL:=by
 rcases h with h|⟨o,its,n,hk,hc,hs,hz,r⟩
 ·obtain⟨z,its,r,p⟩:=h.ok I.hok;exact⟨its,r,p,z⟩
 ·refine⟨its.toList,r,⟨o,I.kIn a o hk,hc,n,by simpa using hs⟩,?_⟩;have e:=r.length;simp only[aR]at e;lia
theorem Inv.list_inj(I:Inv X pins σ H s)(h:SqL X.K H a xs)(h':SqL X.K H a ys):xs=ys:=by
 obtain⟨its,r,⟨o,n,e,_,_,d⟩,_⟩:=I.list h;obtain⟨its',r',⟨o',n',e',_,_,d'⟩,_⟩:=I.list h';rw[e]at e';cases e';rw[d]at d';injection d' with d1 _;have:its=its':=by simpa using congrArg Array.toList d1
 subst this;exact r.inj r'
theorem Inv.tuple_inj(I:Inv X pins σ H s)(h:SqT X.K H a xs)(h':SqT X.K H a ys):xs=ys:=by
 obtain⟨its,r,⟨o,e,_,n,d⟩,_⟩:=I.tuple h;obtain⟨its',r',⟨o',e',_,n',d'⟩,_⟩:=I.tuple h';rw[e]at e';cases e';rw[d]at d';injection d' with d1 _;have:its=its':=by simpa using congrArg Array.toList d1
 subst this;exact r.inj r'
end
abbrev Cx.wish(X:Cx)(E:Value→ae→Prop):Cx:={X with xe:=E}
abbrev Cx.nox(X:Cx):Cx:=X.wish fun _ _=>False
theorem Cx.Ok.wish{X:Cx}(ok:X.Ok)(E:Value→ae→Prop):(X.wish E).Ok:=
 ⟨ok.mod,ok.kind,ok.glob,ok.blt,ok.above,ok.inj,ok.has,ok.cab,ok.hd,ok.frames,ok.stk,ok.exf,ok.bs,ok.bsz,ok.noex,ok.exfs,ok.funs,ok.frf,ok.cab2,ok.hz⟩
theorem Cx.Ok.unwish{X:Cx}{E:Value→ae→Prop}(ok:(X.wish E).Ok):X.Ok:=
 ⟨ok.mod,ok.kind,ok.glob,ok.blt,ok.above,ok.inj,ok.has,ok.cab,ok.hd,ok.frames,ok.stk,ok.exf,ok.bs,ok.bsz,ok.noex,ok.exfs,ok.funs,ok.frf,ok.cab2,ok.hz⟩
section
variable {X:Cx} {pins:List (Addr×Obj)} {σ:St} {H:Hp} {s:ae} {E:Value→ae→Prop}
theorem Inv.wish(I:Inv X pins σ H s)(E:Value→ae→Prop):Inv (X.wish E) pins σ H s:=⟨I.ok.wish E,I.os,I.bare,I.base,I.loc,I.cell,I.free,I.freeC,I.pin,I.hok,I.len⟩
theorem Inv.unwish(I:Inv (X.wish E) pins σ H s):Inv X pins σ H s:=⟨I.ok.unwish,I.os,I.bare,I.base,I.loc,I.cell,I.free,I.freeC,I.pin,I.hok,I.len⟩
theorem SP.unwish{D:Ends}{f:Flow}{s':ae}(h:SP (X.wish E) pins D f s'):SP X pins D f s':=by
 cases f with
 |next=>obtain⟨σ',H',I,q⟩:=h;exact⟨σ',H',I.unwish,q⟩
 |brk=>obtain⟨σ',H',I,q⟩:=h;exact⟨σ',H',I.unwish,q⟩
 |cont=>obtain⟨σ',H',I,q⟩:=h;exact⟨σ',H',I.unwish,q⟩
 |ret u=>obtain⟨v,σ',H',I,r,q⟩:=h;exact⟨v,σ',H',I.unwish,r,q⟩
theorem PSs.nox{st:List Stmt}{t:TS}(h:PSs X.nox st t):PSs X st t:=fun pins s σ H D I hw=>
 bb (h pins s σ H D (I.wish _) hw) (fun _ _ q=>q.unwish) fun _ _ z=>bH z
end
section
variable {X:Cx} {st:Stmt} {rest:List Stmt} {t u:TS} {e:Expr} {te:TE} {pos:Pos}
def xpP:TS:=fun D σ H=>D.nx σ H
def xqz(t u:TS):TS:=fun D σ H=>t {D with nx:=u D} σ H
theorem xH:PSs X [] xpP:=fun _ _ σ H _ I h=>f7 ⟨σ,H,I,h⟩
theorem xg(h1:PS X st t)(h2:PSs X rest u):PSs X (st::rest) (xqz t u):=by
 intro pins s σ H D I h;refine wpAny_execs_cons (thn (h1 pins s σ H {D with nx:=u D} I h) fun f s1 q=>?_);cases f with
 |next=>
  obtain⟨σ',H',I',q⟩:=q;exact h2 pins s1 σ' H' D I' q
 |ret v=>exact q
 |brk=>exact q
 |cont=>exact q
theorem xi(h1:PS X st t):PSs X [st] t:=by
 intro pins s σ H D I h;refine wpAny_execs_cons (thn (h1 pins s σ H D I h) fun f s1 q=>?_);cases f with
 |next=>exact f7 q
 |ret v=>exact q
 |brk=>exact q
 |cont=>exact q
theorem Inv.quiet{pins:List (Addr×Obj)}{σ:St}{H:Hp}{s:ae}(I:Inv X pins σ H s):interactive X.env=false:=by simp[interactive,I.ok.kind]
def xpQ(te:TE):TS:=fun D σ H=>te σ H fun _ H1=>D.nx σ H1
theorem yE(he:PE X e te)(hs:kE e none pos.line X.env=pure false:=by rfl):PS X (.Expr e pos) (xpQ te):=by
 intro pins s σ H D I h;exact wpAny_Expr_any (thn (he pins s σ H _ I h) fun v s1 ⟨x,H1,I1,r1,q1⟩=>⟨σ,H1,I1,q1⟩) I.quiet hs
def xqA(te:TE):TS:=fun D σ H=>te σ H D.rt
theorem xo(he:PE X e te):PS X (.Return (some e) pos) (xqA te):=by
 intro pins s σ H D I h;exact wpAny_Return_some (thn (he pins s σ H _ I h) fun v s1 ⟨x,H1,I1,r1,q1⟩=>⟨x,σ,H1,I1,r1,q1⟩)
end
abbrev TG:=V→St→Hp→(St→Hp→Prop)→Prop
abbrev TGs:=List V→St→Hp→(St→Hp→Prop)→Prop
def PG(X:Cx)(target:Expr)(t:TG):Prop:=
 ∀(pins:List (Addr×Obj)) (s:ae) (σ:St) (H:Hp) (v:V) (u:Value) (Q:St→Hp→Prop),Inv X pins σ H s→RelV v u→t v σ H Q→
  wpAny (model X.prog X.w) X.A (hZ target X.env u) (fun _ s'=>∃σ' H',Inv X pins σ' H' s'∧Q σ' H') X.xe s
def PGs(X:Cx)(ts:List Expr)(t:TGs):Prop:=
 ∀(pins:List (Addr×Obj)) (s:ae) (σ:St) (H:Hp) (vs:List V) (us:List Value) (Q:St→Hp→Prop),Inv X pins σ H s→Vals vs us→t vs σ H Q→
  wpAny (model X.prog X.w) X.A (assignInOrder ((h9 ts X.env).map (·.2)) us) (fun _ s'=>∃σ' H',Inv X pins σ' H' s'∧Q σ' H') X.xe s
abbrev xlZ:=V→V→V→Hp→(Hp→Prop)→Prop
def xoF(X:Cx)(t:xlZ):Prop:=
 ∀(pins:List (Addr×Obj)) (s:ae) (σ:St) (H:Hp) (o i v:V) (ov iv u:Value) (Q:Hp→Prop),Inv X pins σ H s→RelV o ov→RelV i iv→RelV v u→t o i v H Q→
  wpAny (model X.prog X.w) X.A (j4 ov iv u) (fun _ s'=>∃H',Inv X pins σ H' s'∧Q H') X.xe s
section
variable {X:Cx} {pos:Pos}
def xcQ(i:Nat):TG:=fun v σ H Q=>Q (σ.set i (some v)) H
theorem xO{i:Nat}{x:Str}(hN:X.N.Nodup)(hi:X.N[i]? =some x)(hx:Loc X.env.scope x)(hf:X.fn x=true∨X.env.scope.names.lookup x=some .local:=by first|exact .inl rfl|exact .inr rfl|assumption):PG X (.Name x pos) (xcQ i):=by
 intro pins s σ H v u Q I r h;exact i4 (xdH I hN hi hx r (fun s' I'=>⟨_,H,I',h⟩) hf)
def xoG:TGs:=fun vs σ H Q=>vs=[]∧Q σ H
def xjA(t:TG)(u:TGs):TGs:=fun vs σ H Q=>∃v r,vs=v::r∧t v σ H fun σ' H'=>u r σ' H' Q
theorem vd:PGs X [] xoG:=by
 intro pins s σ H vs us Q I r h;obtain⟨e,h⟩:=h;subst e;cases r;exact assignInOrder_nil ⟨σ,H,I,h⟩
theorem yt{e:Expr}{es:List Expr}{t:TG}{u:TGs}(h1:PG X e t)(h2:PGs X es u)
  (hs:(h9 (e::es) X.env).map (·.2)=hZ e X.env::(h9 es X.env).map (·.2):=by rfl):PGs X (e::es) (xjA t u):=by
 intro pins s σ H vs us Q I r h;obtain⟨v,vr,e1,h⟩:=h;subst e1;cases r with
 |cons r rr=>
  rw[hs];refine assignInOrder_cons (thn (h1 pins s σ H _ _ _ I r h) fun _ s1 ⟨σ1,H1,I1,q1⟩=>?_);exact h2 pins s1 σ1 H1 _ _ Q I1 rr q1
def xoH(K:ah)(n:Nat)(t:TGs):TG:=fun v σ H Q=>∃a xs,v= .ref a∧SqT K H a xs∧xs.length=n∧t xs σ H Q
theorem ju{es:List Expr}{k:Nat}{t:TGs}{n:Nat}(hc:X.calm=true)(h:PGs X es t)
  (hn:(h9 es X.env).length=n:=by rfl) (hst:(h9 es X.env).findIdx? (·.1)=none:=by rfl):PG X (.Tuple es k pos) (xoH X.K n t):=by
 intro pins s σ H v u Q I r hw;obtain⟨a,xs,e1,hq,hl,hw⟩:=hw;subst e1;cases r;obtain⟨its,rv,ht,hz⟩:=I.tuple hq;refine assign_Tuple_tuple (I.ok.hd hc) ht (by simp[hn,←hl,rv.length]) hst fun h' hx=>?_;have I1:Inv X pins σ H {s with heap:=h'}:=I.kept (t':=s.toks) fun b o e=>hx b o (au (ak e)) e;exact h pins _ σ H xs _ Q I1 (by simpa using rv) hw
def xqB(to ti:TE)(t:xlZ):TG:=fun v σ H Q=>to σ H fun o H1=>ti σ H1 fun i H2=>t o i v H2 fun H3=>Q σ H3
theorem xoI{o i:Expr}{to ti:TE}{t:xlZ}(ho:PE X o to)(hi:PE X i ti)(hs:xoF X t)
  (ha:∀v,hZ (.Subscript o i pos) X.env v=(do
   let ov ←dN [v] (eval o X.env)
   let iv ←dN [v,ov] (eval i X.env)
   kX pos
   dN [v,ov,iv] (j4 ov iv v)
   release [v,ov,iv] []):=by intro _;rfl):PG X (.Subscript o i pos) (xqB to ti t):=by
 intro pins s σ H v u Q I r h;rw[ha];refine aa (bo (thn (ho pins s σ H _ I h) fun ov s1 ⟨x,H1,I1,r1,q1⟩=>?_));refine aa (bo (thn (hi pins s1 σ H1 _ I1 q1) fun iv s2 ⟨y,H2,I2,r2,q2⟩=>?_));refine aa (iM (aa (bo (thn (hs pins s2 σ H2 x y v ov iv u _ I2 r1 r2 r q2) fun _ s3 ⟨H3,I3,q3⟩=>?_))));exact wpAny_release ⟨σ,H3,I3,q3⟩
def xl0(te:TE)(g:TG):TS:=fun D σ H=>te σ H fun x H1=>g x σ H1 D.nx
theorem xbT{tg e:Expr}{te:TE}{g:TG}(he:PE X e te)(hg:PG X tg g)(hs:swapsWithSole [tg] e pos.line X.env=pure false:=by rfl)(hw:swappedStores [tg] e X.env=pure none:=by rfl)
  (h1:(h9 [tg] X.env).map (·.2)=[hZ tg X.env]:=by rfl):PS X (.Assign [tg] e pos) (xl0 te g):=by
 intro pins s σ H D I h;refine wpAny_Assign_stores (thn (he pins s σ H _ I h) fun v s1 ⟨x,H1,I1,r1,q1⟩=>?_) hs hw;rw[h1];exact thn (hg pins s1 σ H1 x v _ I1 r1 q1) fun _ s2 q=>q
theorem xv{i:Nat}{x:Str}{e:Expr}{te:TE}{pos':Pos}(hN:X.N.Nodup)(hi:X.N[i]? =some x)(hx:Loc X.env.scope x)(he:PE X e te)(hs:kE e (some (.Name x pos')) pos.line X.env=pure false:=by rfl)(hf:X.fn x=true∨X.env.scope.names.lookup x=some .local:=by first|exact .inl rfl|exact .inr rfl|assumption):
  PS X (.Assign [.Name x pos'] e pos) (xl0 te (xcQ i)):=by
 intro pins s σ H D I h;refine wpAny_Assign_Name (thn (he pins s σ H _ I h) fun v s1 ⟨y,H1,I1,r1,q1⟩=>?_) hs;exact xdH I1 hN hi hx r1 (fun s2 I2=>⟨_,H1,I2,q1⟩) hf
end
section
variable {X:Cx} {pos:Pos}
end
structure It where
 go:Nat→Hp→Prop
 yld:Nat→Hp→V→Hp→Prop
 stop:Nat→Hp→Prop
def ve(X:Cx)(pins:List (Addr×Obj))(H:Hp)(b:Addr):Prop:=
 H b=none∧b≠X.env.locals∧b∉X.fs∧(b∈X.ex∨X.s₀.heap.objs.size≤b)∧(∀x c,X.env.cells.lookup x=some c→c≠b)∧∀p∈X.pn++pins,p.1≠b
theorem Inv.fpOk{X:Cx}{pins:List (Addr×Obj)}{σ:St}{H H':Hp}{s:ae}{b:Addr}(I:Inv X pins σ H s)(hb:s.heap.objs.size≤b)(hn:H' b=none):ve X pins H' b:=by
 refine⟨hn,dX (aw I.lt hb),I.nofs hb,.inr (bg I.sz hb),fun x c e z=>?_,fun p hp z=>?_⟩
 ·obtain⟨v,q⟩:=I.cell x c e;exact absurd (aw q.lt (by rw[z];exact hb)) (bL _)
 ·exact absurd (aw (ak (I.pin p hp).1) (by rw[z];exact hb)) (bL _)
structure Turn(P:aH)(w:World)(K:ah)(tg:Expr)(J:It)(fp:List Addr)(it:Addr)(tn:Nat→Heap→Prop):Prop where
 mem:it∈fp
 obj:∀i h,tn i h→∀b∈fp,∃o,h.get? b=some o∧∀v,o.data≠.cell v
 keep:∀i h h',tn i h→(∀b∈fp,∀o,h.get? b=some o→h'.get? b=some o)→tn i h'
 item:∀(X:Cx),X.prog=P→X.w=w→X.K=K→X.calm=true→∀(i:Nat) (pins:List (Addr×Obj)) (s:ae) (σ:St) (H:Hp) (E:Value→ae→Prop),Inv X pins σ H s→(∀b∈fp,ve X pins H b)→tn i s.heap→J.go i H→
  wpAny (model P w) X.A (gn (.ref it)) (fun r s1=>∃u,r=some u∧
   wpAny (model P w) X.A (ia tg (.ref it) u) (fun _ s2=>∃x H',Inv X pins σ H' s2∧RelV x u∧J.yld i H x H'∧tn (i+1) s2.heap∧∀b∈fp,H' b=none) E s1) E s
 done:∀(X:Cx),X.prog=P→X.w=w→X.K=K→X.calm=true→∀(i:Nat) (pins:List (Addr×Obj)) (s:ae) (σ:St) (H:Hp) (E:Value→ae→Prop),Inv X pins σ H s→(∀b∈fp,ve X pins H b)→tn i s.heap→J.stop i H→
  wpAny (model P w) X.A (gn (.ref it)) (fun r s1=>r=none∧Inv X pins σ H s1) E s
 self:∀(A:aV) (i:Nat) (s:ae) (Q:Value→ae→Prop) (E:Value→ae→Prop),tn i s.heap→Q (.ref it) s→wpAny (model P w) A (pyIter (.ref it)) Q E s
abbrev TI:=St→Hp→(It→Hp→Prop)→Prop
def PIE(X:Cx)(pins:List (Addr×Obj))(σ:St)(tg:Expr)(R:It→Hp→Prop)(itv:Value)(s2:ae):Prop:=
 ∃(it:Addr) (fp:List Addr) (tn:Nat→Heap→Prop) (J:It) (H':Hp),itv= .ref it∧Inv X pins σ H' s2∧Turn X.prog X.w X.K tg J fp it tn∧tn 0 s2.heap∧(∀b∈fp,ve X pins H' b)∧R J H'
def PI(X:Cx)(tg iter:Expr)(wi:TI):Prop:=
 ∀(pins:List (Addr×Obj)) (s:ae) (σ:St) (H:Hp) (R:It→Hp→Prop),Inv X pins σ H s→wi σ H R→
  wpAny (model X.prog X.w) X.A (eval iter X.env) (fun v s1=>wpAny (model X.prog X.w) X.A (pyIter v) (PIE X pins σ tg R) X.xe s1) X.xe s
theorem xeh{M:Model}{A:aV}{E:Value→ae→Prop}{s:ae}{tg:Expr}{it:Addr}{u:Value}{o:Obj}{n:String}{vs:Array Value}{Q:Unit→ae→Prop}(ho:s.heap.get? it=some o)(hc:o.cls= .type n)(hd:o.data= .fields vs)
  (hn:["enumerate","zip","dict_itemiterator","dict_reverseitemiterator","odict_iterator","itertools.zip_longest","itertools.pairwise"].contains n=false) (hQ:Q () s):wpAny M A (ia tg (.ref it) u) Q E s:=by
 unfold ia;cases tg<;> first
  |exact ag hQ
  |(cases u<;> first
    |exact ag hQ
    |(refine aa (wpAny_load ho ?_)
      rw[hc,hd];show wpAny M A (if (["enumerate","zip","dict_itemiterator","dict_reverseitemiterator","odict_iterator","itertools.zip_longest","itertools.pairwise"].contains n&&vs[0]? ==some (de _))=true then _ else _) Q E s;rw[if_neg (by intro h;rw[hn,Bool.false_and]at h;cases h)];exact ag hQ))
def Itl(K:ah)(a:Addr):It:=
 ⟨fun i H=>∃xs x,SqL K H a xs∧xs[i]? =some x,fun i H x H'=>H'=H∧∀xs,SqL K H a xs→xs[i]? =some x,fun i H=>∃xs,SqL K H a xs∧xs.length≤i⟩
def Itt(K:ah)(a:Addr):It:=
 ⟨fun i H=>∃xs x,SqT K H a xs∧xs[i]? =some x,fun i H x H'=>H'=H∧∀xs,SqT K H a xs→xs[i]? =some x,fun i H=>∃xs,SqT K H a xs∧xs.length≤i⟩
theorem xkH{P:aH}{w:World}{K:ah}{tg:Expr}(a it:Addr):Turn P w K tg (Itl K a) [it] it (fun i h=>h.IsListIter it a i) where
 mem:=by simp
 obj:=fun i h st b hb=>by
  have e:b=it:=by simpa using hb
  subst e;obtain⟨o,e,c,d⟩:=st;exact⟨o,e,fun v z=>by rw[d]at z;cases z⟩
 keep:=fun i h h' st k=>st.at fun o e=>k it (by simp) o e
 item:=by
  intro X hP hw hK hc i pins s σ H E I hf st hg;subst hP hw hK;obtain⟨xs,x,hq,hx⟩:=hg;obtain⟨its,rv,p,hz⟩:=I.list hq;obtain⟨u,hu,ru⟩:=rv.get hx;obtain⟨f0,f1,f2,f3,f4,f5⟩:=hf it (by simp);refine wpAny_pyNext_list_item st p.isList (x:=u) (by simpa using hu) fun h' st' sb=>?_;have I1:Inv X pins σ H {s with heap:=h'}:=I.turned (t':=s.toks) (fun b o hb e=>(sb.2 b hb).trans e) f0 f1 f3 f4 f5;obtain⟨o,e,c,d⟩:=id st';exact⟨u,rfl,xeh (s:={s with heap:=h'}) e c d (by decide) ⟨x,H,I1,ru,⟨rfl,fun ys hy=>by rw[I.list_inj hy hq];exact hx⟩,st',fun b hb=>(hf b hb).1⟩⟩
 done:=by
  intro X hP hw hK hc i pins s σ H E I hf st hg;subst hP hw hK;obtain⟨xs,hq,hx⟩:=hg;obtain⟨its,rv,p,hz⟩:=I.list hq;obtain⟨f0,f1,f2,f3,f4,f5⟩:=hf it (by simp);have hl:=rv.length;exact wpAny_pyNext_list_end (I.ok.hd hc) st p.isList (by simp;lia) fun h' eb=>⟨rfl,I.turned (t':=s.toks) (fun b o hb e=>eb b o hb e) f0 f1 f3 f4 f5⟩
 self:=fun _ _ _ _ _ st h=>wpAny_pyIter_listiter st h
theorem xjB{P:aH}{w:World}{K:ah}{tg:Expr}(a it:Addr):Turn P w K tg (Itt K a) [it] it (fun i h=>h.IsTupleIter it a i) where
 mem:=by simp
 obj:=fun i h st b hb=>by
  have e:b=it:=by simpa using hb
  subst e;obtain⟨o,e,c,d⟩:=st;exact⟨o,e,fun v z=>by rw[d]at z;cases z⟩
 keep:=fun i h h' st k=>st.at fun o e=>k it (by simp) o e
 item:=by
  intro X hP hw hK hc i pins s σ H E I hf st hg;subst hP hw hK;obtain⟨xs,x,hq,hx⟩:=hg;obtain⟨its,rv,p,hz⟩:=I.tuple hq;obtain⟨u,hu,ru⟩:=rv.get hx;obtain⟨f0,f1,f2,f3,f4,f5⟩:=hf it (by simp);refine wpAny_pyNext_tuple_item st (show s.heap.IsTuple a its.toArray from p) (x:=u) (by simpa using hu) fun h' st' sb=>?_;have I1:Inv X pins σ H {s with heap:=h'}:=I.turned (t':=s.toks) (fun b o hb e=>(sb.2 b hb).trans e) f0 f1 f3 f4 f5;obtain⟨o,e,c,d⟩:=id st';exact⟨u,rfl,xeh (s:={s with heap:=h'}) e c d (by decide) ⟨x,H,I1,ru,⟨rfl,fun ys hy=>by rw[I.tuple_inj hy hq];exact hx⟩,st',fun b hb=>(hf b hb).1⟩⟩
 done:=by
  intro X hP hw hK hc i pins s σ H E I hf st hg;subst hP hw hK;obtain⟨xs,hq,hx⟩:=hg;obtain⟨its,rv,p,hz⟩:=I.tuple hq;obtain⟨f0,f1,f2,f3,f4,f5⟩:=hf it (by simp);have hl:=rv.length;exact wpAny_pyNext_tuple_end (I.ok.hd hc) st (show s.heap.IsTuple a its.toArray from p) (by simp;lia) fun h' eb=>⟨rfl,I.turned (t':=s.toks) (fun b o hb e=>eb b o hb e) f0 f1 f3 f4 f5⟩
 self:=fun _ _ _ _ _ st h=>wpAny_pyIter_tupleiter st h
end L2
namespace L2
open PySem PySem.Spec PyProof.Rows
section
variable {X:Cx} {tg:Expr}
def xm6(K:ah)(tl:TE):TI:=fun σ H R=>tl σ H fun x H1=>∃a,x= .ref a∧(∃xs,SqL K H1 a xs)∧R (Itl K a) H1
def xqC(K:ah)(tl:TE):TI:=fun σ H R=>tl σ H fun x H1=>∃a,x= .ref a∧(∃xs,SqT K H1 a xs)∧R (Itt K a) H1
theorem xZ{l:Expr}{tl:TE}(hl:PE X l tl):PI X tg l (xm6 X.K tl):=by
 intro pins s σ H R I h;refine thn (hl pins s σ H _ I h) fun v s1 ⟨x,H1,I1,r1,q1⟩=>?_;obtain⟨a,e,⟨xs,hq⟩,q⟩:=q1;subst e;cases r1;obtain⟨its,rv,p,hz⟩:=I1.list hq;refine eC p.isList ?_;refine⟨s1.heap.objs.size,[s1.heap.objs.size],_,_,H1,rfl,I1.kept (t':=s1.toks) fun b o e=>af _ e,xkH a _,⟨_,az _ rfl,rfl,rfl⟩,fun b hb=>?_,q⟩;have e:b=s1.heap.objs.size:=by simpa using hb
 subst e;exact I1.fpOk (aj _) (I1.hok.fresh (aj _))
theorem xaQ{l:Expr}{tl:TE}(hl:PE X l tl):PI X tg l (xqC X.K tl):=by
 intro pins s σ H R I h;refine thn (hl pins s σ H _ I h) fun v s1 ⟨x,H1,I1,r1,q1⟩=>?_;obtain⟨a,e,⟨xs,hq⟩,q⟩:=q1;subst e;cases r1;obtain⟨its,rv,p,hz⟩:=I1.tuple hq;refine iE (show s1.heap.IsTuple a its.toArray from p) ?_;refine⟨s1.heap.objs.size,[s1.heap.objs.size],_,_,H1,rfl,I1.kept (t':=s1.toks) fun b o e=>af _ e,xjB a _,⟨_,az _ rfl,rfl,rfl⟩,fun b hb=>?_,q⟩;have e:b=s1.heap.objs.size:=by simpa using hb
 subst e;exact I1.fpOk (aj _) (I1.hok.fresh (aj _))
def xjC(wi:TI)(g:TG)(tb:TS):TS:=fun D σ H=>wi σ H fun J H1=>∃W:Nat→Nat→St→Hp→Prop,(∃m,W 0 m σ H1)∧∀i m σ H,W i m σ H→
 (J.stop i H∧D.nx σ H)∨(J.go i H∧∃N:St→Hp→Prop,(∀σ' H',N σ' H'→∃m',m'<m∧W (i+1) m' σ' H')∧∀x H',J.yld i H x H'→g x σ H' fun σ2 H2=>tb {D with nx:=N,ct:=N,bk:=D.nx} σ2 H2)
def ua(fp:List Addr)(h:Heap):List (Addr×Obj):=fp.filterMap fun b=>(h.get? b).map fun o=>(b,o)
theorem zN{fp:List Addr}{h:Heap}{b:Addr}{o:Obj}(hb:b∈fp)(e:h.get? b=some o):(b,o)∈ua fp h:=l7.mpr ⟨b,hb,by rw[e];rfl⟩
theorem xkI{fp:List Addr}{h:Heap}{p:Addr×Obj}(hp:p∈ua fp h):p.1∈fp∧h.get? p.1=some p.2:=by
 obtain⟨b,hb,e⟩:=l7.mp hp;cases q:h.get? b with
 |none=>rw[q]at e;cases e
 |some o=>
  rw[q]at e;have e':(b,o)=p:=br e;subst e';exact⟨hb,q⟩
theorem Inv.pinned{pins:List (Addr×Obj)}{σ:St}{H:Hp}{s:ae}{fp:List Addr}(I:Inv X pins σ H s)(hf:∀b∈fp,ve X pins H b)(ho:∀b∈fp,∃o,s.heap.get? b=some o∧∀v,o.data≠.cell v):Inv X (pins++ua fp s.heap) σ H s:=
 I.pins_of fun p hp=>(aQ.mp hp).elim (fun z=>I.pin p (aS _ z)) fun z=>by
  obtain⟨hb,e⟩:=xkI z;obtain⟨f0,f1,f2,_⟩:=hf p.1 hb;obtain⟨o,e',d⟩:=ho p.1 hb;rw[e]at e';cases e';exact⟨e,f0,f1,f2,d⟩
theorem Inv.unpinned{pins pl:List (Addr×Obj)}{σ:St}{H:Hp}{s:ae}(I:Inv X (pins++pl) σ H s):Inv X pins σ H s:=I.pins_of fun p hp=>I.pin p (aS _ (b7 _ hp))
theorem xkJ{iter:Expr}{body:List Stmt}{wi:TI}{g:TG}{tb:TS}{pos:Pos}(hp:PassesOwn (model X.prog X.w) X.A X.env X.xe)(hc:X.calm=true)(hi:PI X tg iter wi)(hg:PG X tg g)(hb:PSs X body tb)
  (hs:∀x,eE iter X.env x=pure x:=by intro _;rfl):PS X (.For tg iter body [] pos) (xjC wi g tb):=by
 intro pins s σ H D I h;refine wpAny_For (thn (hi pins s σ H _ I h) fun v s1 h1=>thn h1 fun itv s2 h2=>?_) hs;obtain⟨it,fp,tn,J,H2,e,I2,T,st2,f2,W,⟨m0,w0⟩,turn⟩:=h2;subst e
 -- what stays true of the iterator's objects through the loop
 have stat:∀{H':Hp},(∀b∈fp,H' b=none)→∀b∈fp,ve X pins H' b:=fun hn b hb=>⟨hn b hb,(f2 b hb).2⟩;refine codeAny_forLoop_any (fun n s'=>∃i σ' H',Inv X pins σ' H' s'∧tn i s'.heap∧(∀b∈fp,H' b=none)∧W i n σ' H') ?_ m0 ⟨0,σ,H2,I2,st2,fun b hb=>(f2 b hb).1,w0⟩;rintro n s3 ⟨i,σ3,H3,I3,st3,fr3,w3⟩;rcases turn i n σ3 H3 w3 with⟨stop,qn⟩|⟨go,N,hN,step⟩
 ·refine d6 hp (thn (T.done X rfl rfl rfl hc i pins s3 σ3 H3 X.xe I3 (stat fr3) st3 stop) fun r s4 ⟨hr,I4⟩=>?_);subst hr;exact f7 ⟨σ3,H3,I4,qn⟩
 ·refine d6 hp (thn (T.item X rfl rfl rfl hc i pins s3 σ3 H3 X.xe I3 (stat fr3) st3 go) fun r s4 ⟨u,hr,h4⟩=>?_);subst hr;refine d6 hp (thn h4 fun _ s5 ⟨x,H5,I5,r5,y5,st5,fr5⟩=>?_);have I5':=I5.pinned (stat fr5) (T.obj _ _ st5);refine d6 hp (thn (hg _ s5 σ3 H5 x u _ I5' r5 (step x H5 y5)) fun _ s6 ⟨σ6,H6,I6,q6⟩=>?_);refine d6 hp (thn (hb _ s6 σ6 H6 _ I6 q6) fun f s7 q7=>?_);have again:∀{σ7:St} {H7:Hp},Inv X (pins++ua fp s5.heap) σ7 H7 s7→N σ7 H7→∃m,m<n∧∃i σ' H',Inv X pins σ' H' s7∧tn i s7.heap∧(∀b∈fp,H' b=none)∧W i m σ' H':=fun{σ7 H7} I7 n7=>by
   obtain⟨m',hm,w7⟩:=hN σ7 H7 n7;refine⟨m',hm,i+1,σ7,H7,I7.unpinned,T.keep _ _ _ st5 fun b hb o e=>(I7.pin (b,o) (aS _ (aS _ (zN hb e)))).1,fun b hb=>?_,w7⟩;obtain⟨o,e,d⟩:=T.obj _ _ st5 b hb;exact(I7.pin (b,o) (aS _ (aS _ (zN hb e)))).2.1
  cases f with
  |next=>obtain⟨σ7,H7,I7,n7⟩:=q7;exact again I7 n7
  |cont=>obtain⟨σ7,H7,I7,n7⟩:=q7;exact again I7 n7
  |brk=>obtain⟨σ7,H7,I7,q7⟩:=q7;exact⟨σ7,H7,I7.unpinned,q7⟩
  |ret v=>obtain⟨x7,σ7,H7,I7,r7,q7⟩:=q7;exact⟨x7,σ7,H7,I7.unpinned,r7,q7⟩
end
theorem xl1{K:ah}{a:Addr}{xs:List V}{g:TG}{tb:TS}{D:Ends}{σ:St}{H:Hp}(Pv:Nat→St→Hp→Prop)(h0:Pv 0 σ H)(hl:∀i σ H,i≤xs.length→Pv i σ H→SqL K H a xs)
  (hs:∀i x σ H,xs[i]? =some x→Pv i σ H→g x σ H fun σ2 H2=>tb {D with nx:=Pv (i+1),ct:=Pv (i+1),bk:=D.nx} σ2 H2) (hd:∀σ H,Pv xs.length σ H→D.nx σ H):
  ∃W:Nat→Nat→St→Hp→Prop,(∃m,W 0 m σ H)∧∀i m σ H,W i m σ H→
   ((Itl K a).stop i H∧D.nx σ H)∨((Itl K a).go i H∧∃N:St→Hp→Prop,(∀σ' H',N σ' H'→∃m',m'<m∧W (i+1) m' σ' H')∧∀x H',(Itl K a).yld i H x H'→g x σ H' fun σ2 H2=>tb {D with nx:=N,ct:=N,bk:=D.nx} σ2 H2):=by
 refine⟨fun i m σ H=>m=xs.length - i∧i≤xs.length∧Pv i σ H,⟨xs.length,by simp,aM _,h0⟩,?_⟩;rintro i m σ H ⟨rfl,hi,p⟩;have q:=hl i σ H hi p
 by_cases hlt:i<xs.length
 ·refine .inr ⟨⟨xs,xs[i],q,by simp[hlt]⟩,Pv (i+1),fun σ' H' p'=>⟨xs.length - (i+1),by lia,rfl,hlt,p'⟩,fun x H' y=>?_⟩;obtain⟨e,y⟩:=y;subst e;exact hs i x σ _ (y xs q) p
 ·have e:i=xs.length:=by lia
  subst e;exact .inl ⟨⟨xs,q,aj _⟩,hd σ H p⟩
theorem xnq{K:ah}{a:Addr}{xs:List V}{g:TG}{tb:TS}{D:Ends}{σ:St}{H:Hp}(Pv:Nat→St→Hp→Prop)(h0:Pv 0 σ H)(hl:∀i σ H,i≤xs.length→Pv i σ H→SqT K H a xs)
  (hs:∀i x σ H,xs[i]? =some x→Pv i σ H→g x σ H fun σ2 H2=>tb {D with nx:=Pv (i+1),ct:=Pv (i+1),bk:=D.nx} σ2 H2) (hd:∀σ H,Pv xs.length σ H→D.nx σ H):
  ∃W:Nat→Nat→St→Hp→Prop,(∃m,W 0 m σ H)∧∀i m σ H,W i m σ H→
   ((Itt K a).stop i H∧D.nx σ H)∨((Itt K a).go i H∧∃N:St→Hp→Prop,(∀σ' H',N σ' H'→∃m',m'<m∧W (i+1) m' σ' H')∧∀x H',(Itt K a).yld i H x H'→g x σ H' fun σ2 H2=>tb {D with nx:=N,ct:=N,bk:=D.nx} σ2 H2):=by
 refine⟨fun i m σ H=>m=xs.length - i∧i≤xs.length∧Pv i σ H,⟨xs.length,by simp,aM _,h0⟩,?_⟩;rintro i m σ H ⟨rfl,hi,p⟩;have q:=hl i σ H hi p
 by_cases hlt:i<xs.length
 ·refine .inr ⟨⟨xs,xs[i],q,by simp[hlt]⟩,Pv (i+1),fun σ' H' p'=>⟨xs.length - (i+1),by lia,rfl,hlt,p'⟩,fun x H' y=>?_⟩;obtain⟨e,y⟩:=y;subst e;exact hs i x σ _ (y xs q) p
 ·have e:i=xs.length:=by lia
  subst e;exact .inl ⟨⟨xs,q,aj _⟩,hd σ H p⟩
end L2
namespace L2
open PySem PySem.Spec PyProof.Rows
abbrev R2:=V→V→Hp→VK→Prop
def OpR(X:Cx)(f:Value→Value→Sem Value)(r:R2):Prop:=
 ∀(pins:List (Addr×Obj)) (s:ae) (σ:St) (H:Hp) (x y:V) (v u:Value) (Q:VK),Inv X pins σ H s→RelV x v→RelV y u→r x y H Q→
  wpAny (model X.prog X.w) X.A (f v u) (EP X pins σ Q) X.xe s
def UnR(X:Cx)(f:Value→Sem Value)(r:V→Hp→VK→Prop):Prop:=
 ∀(pins:List (Addr×Obj)) (s:ae) (σ:St) (H:Hp) (x:V) (v:Value) (Q:VK),Inv X pins σ H s→RelV x v→r x H Q→
  wpAny (model X.prog X.w) X.A (f v) (EP X pins σ Q) X.xe s
def yh(X:Cx)(f:Value)(r:List V→Hp→VK→Prop):Prop:=
 ∀(pins:List (Addr×Obj)) (s:ae) (σ:St) (H:Hp) (xs:List V) (us:List Value) (Q:VK),Inv X pins σ H s→Vals xs us→r xs H Q→
  wpAny (model X.prog X.w) X.A (call f us) (EP X pins σ Q) X.xe s
def tOp(r:R2)(ta tb:TE):TE:=fun σ H Q=>ta σ H fun x H1=>tb σ H1 fun y H2=>r x y H2 Q
def tUn(r:V→Hp→VK→Prop)(ta:TE):TE:=fun σ H Q=>ta σ H fun x H1=>r x H1 Q
def rI(C:Int→Int→Prop)(g:Int→Int→V):R2:=fun x y H Q=>∃i j,x= .int i∧y= .int j∧C i j∧Q (g i j) H
def rI0(g:Int→Int→V):R2:=fun x y H Q=>∃i j,x= .int i∧y= .int j∧Q (g i j) H
def rU(g:Int→V):V→Hp→VK→Prop:=fun x H Q=>∃i,x= .int i∧Q (g i) H
section
variable {X:Cx} {a b c:Expr} {ta tb tc:TE} {pos:Pos}
theorem xl2(ha:PE X a ta)(hb:PE X b tb){pins:List (Addr×Obj)}{s:ae}{σ:St}{H:Hp}{R:V→V→Hp→Prop}(I:Inv X pins σ H s)
  (h:ta σ H fun x H1=>tb σ H1 fun y H2=>R x y H2) {Q:Value→ae→Prop} {f:Value→Value→Sem Value}
  (hf:∀v u s2 x y H2,Inv X pins σ H2 s2→RelV x v→RelV y u→R x y H2→wpAny (model X.prog X.w) X.A (f v u) Q X.xe s2):
  wpAny (model X.prog X.w) X.A (eval a X.env) (fun v s₁=>wpAny (model X.prog X.w) X.A (eval b X.env) (fun u s₂=>wpAny (model X.prog X.w) X.A (f v u) Q X.xe s₂) X.xe s₁) X.xe s:=by
 refine thn (ha pins s σ H _ I h) fun v s1 ⟨x,H1,I1,r1,q1⟩=>?_;refine thn (hb pins s1 σ H1 _ I1 q1) fun u s2 ⟨y,H2,I2,r2,q2⟩=>?_;exact hf v u s2 x y H2 I2 r1 r2 q2
theorem xw{op:Operator}{r:R2}(ho:OpR X (c6 op) r)(ha:PE X a ta)(hb:PE X b tb):PE X (.BinOp a op b pos) (tOp r ta tb):=by
 intro pins s σ H Q I h;exact wpAny_BinOp (xl2 ha hb I h fun v u s2 x y H2 I2 rx ry q=>ho pins s2 σ H2 x y v u Q I2 rx ry q)
theorem xm7{op:UnaryOp}{r:V→Hp→VK→Prop}(ho:UnR X (unaryOp op) r)(ha:PE X a ta):PE X (.UnaryOp op a pos) (tUn r ta):=by
 intro pins s σ H Q I h;exact UnaryOp_ (thn (ha pins s σ H _ I h) fun v s1 ⟨x,H1,I1,r1,q1⟩=>ho pins s1 σ H1 x v Q I1 r1 q1)
theorem opI{f:Value→Value→Sem Value}{C:Int→Int→Prop}{g:Int→Int→Int}
  (rule:∀(i j:Int) (t u:Tok) (s:ae) (Q:Value→ae→Prop) (E:Value→ae→Prop),C i j→Q (.int (g i j) s.toks) {s with toks:=s.toks+1}→wpAny (model X.prog X.w) X.A (f (.int i t) (.int j u)) Q E s):
  OpR X f (rI C fun i j=>.int (g i j)):=by
 intro pins s σ H x y v u Q I rx ry h;obtain⟨i,j,rfl,rfl,hc,q⟩:=h;obtain⟨t,rfl⟩:=rx;obtain⟨t',rfl⟩:=ry;exact rule i j t t' s _ _ hc ⟨.int (g i j),H,I.tok _,⟨_,rfl⟩,q⟩
theorem xoJ{f:Value→Value→Sem Value}{g:Int→Int→Int}
  (rule:∀(i j:Int) (t u:Tok) (s:ae) (Q:Value→ae→Prop) (E:Value→ae→Prop),Q (.int (g i j) s.toks) {s with toks:=s.toks+1}→wpAny (model X.prog X.w) X.A (f (.int i t) (.int j u)) Q E s):
  OpR X f (rI0 fun i j=>.int (g i j)):=by
 intro pins s σ H x y v u Q I rx ry h;obtain⟨i,j,rfl,rfl,q⟩:=h;obtain⟨t,rfl⟩:=rx;obtain⟨t',rfl⟩:=ry;exact rule i j t t' s _ _ ⟨.int (g i j),H,I.tok _,⟨_,rfl⟩,q⟩
theorem xjD{f:Value→Value→Sem Value}{g:Int→Int→Bool}
  (rule:∀(i j:Int) (t u:Tok) (s:ae) (Q:Value→ae→Prop) (E:Value→ae→Prop),Q (.bool (g i j)) s→wpAny (model X.prog X.w) X.A (f (.int i t) (.int j u)) Q E s):
  OpR X f (rI0 fun i j=>.bl (g i j)):=by
 intro pins s σ H x y v u Q I rx ry h;obtain⟨i,j,rfl,rfl,q⟩:=h;obtain⟨t,rfl⟩:=rx;obtain⟨t',rfl⟩:=ry;exact rule i j t t' s _ _ ⟨.bl (g i j),H,I,rfl,q⟩
def xoK(i j:Int):Prop:=0≤j∧j≤1000000∧i.natAbs<2^64
def xjE(i j:Int):Prop:=(-(2^64)<i∧i<2^64)∨(-(2^64)<j∧j<2^64)
theorem xjE.ok{i j:Int}(h:xjE i j):IntMulOk i j:=by
 rcases h with⟨h1,h2⟩|⟨h1,h2⟩
 ·exact .of_left (intBits_le_64 h1 h2)
 ·exact .of_right (intBits_le_64 h1 h2)
theorem xjF(k:Nat):(0:Int)≤2^k:=by
 rw[two_pow_cast];exact Int.natCast_nonneg _
theorem xoL:OpR X (c6 .Add) (rI0 fun i j=>.int (i+j)):=xoJ fun _ _ _ _ _ _ _ q=>add_int q
theorem xoM:OpR X (c6 .Sub) (rI0 fun i j=>.int (i - j)):=xoJ fun _ _ _ _ _ _ _ q=>sub_int q
theorem xoN:OpR X (c6 .Mult) (rI xjE fun i j=>.int (i*j)):=opI fun _ _ _ _ _ _ _ hc q=>mul_int q hc.ok
theorem xoO:OpR X (c6 .Mod) (rI (fun _ j=>0<j) fun i j=>.int (i%j)):=opI fun i j _ _ _ _ _ hc q=>by
 have h1:(0:Int)<j:=hc;exact mod_int' (by lia) (by rw[Int.fmod_eq_emod_of_nonneg i (by lia)];exact q)
theorem xoP:OpR X (c6 .Pow) (rI xoK fun i j=>.int (i^j.toNat)):=opI fun _ _ _ _ _ _ _ hc q=>pow_int_small hc.1 hc.2.1 hc.2.2 q
theorem xoQ:OpR X (c6 .RShift) (rI (fun _ j=>0≤j) fun i j=>.int (i / 2^j.toNat)):=opI fun i j _ _ _ _ _ hc q=>
 rshift_int hc (by rw[iN i (xjF _)];exact q)
theorem unI{f:Value→Sem Value}{g:Int→Int}
  (rule:∀(i:Int) (t:Tok) (s:ae) (Q:Value→ae→Prop) (E:Value→ae→Prop),Q (.int (g i) s.toks) {s with toks:=s.toks+1}→wpAny (model X.prog X.w) X.A (f (.int i t)) Q E s):
  UnR X f (rU fun i=>.int (g i)):=by
 intro pins s σ H x v Q I rx h;obtain⟨i,rfl,q⟩:=h;obtain⟨t,rfl⟩:=rx;exact rule i t s _ _ ⟨.int (g i),H,I.tok _,⟨_,rfl⟩,q⟩
theorem xoR:UnR X (unaryOp .USub) (rU fun i=>.int (-i)):=unI fun _ _ _ _ _ q=>neg_int q
end
def xoS:V→V→Bool
 | .non,.non=>true| .non,.int _=>true| .int _,.non=>true| .non,.bl _=>true| .bl _,.non=>true| .non,.str _=>true| .str _,.non=>true
 | .int _,.int _=>true| .bl _,.bl _=>true| .str _,.str _=>true| .byt _,.byt _=>true
 | .int _,.str _=>true| .str _,.int _=>true| .bl _,.str _=>true| .str _,.bl _=>true
 |_,_=>false
def rEq:R2:=fun x y H Q=>xoS x y=true∧Q (.bl (decide (x=y))) H
def rNe:R2:=fun x y H Q=>xoS x y=true∧Q (.bl (!decide (x=y))) H
theorem xiY{i j:Int}:decide (V.int i=V.int j)=(i==j):=by
 rw[dF];simp
theorem xkK{i j:Bool}:decide (V.bl i=V.bl j)=(i==j):=by
 rw[dF];simp
theorem xiZ{i j:Str}:decide (V.str i=V.str j)=(i==j):=by
 rw[dF];simp
theorem xi0{i j:Array UInt8}:decide (V.byt i=V.byt j)=(i.toList==j.toList):=by
 rw[dF];cases i;cases j;simp
section
variable {X:Cx} {a b c:Expr} {ta tb tc:TE} {pos:Pos}
theorem xS{pins:List (Addr×Obj)}{σ:St}{H:Hp}{s:ae}{Q:VK}{k k':Bool}(I:Inv X pins σ H s)(q:Q (.bl k) H)(e:k=k'):EP X pins σ Q (.bool k') s:=by
 subst e;exact⟨.bl k,H,I,rfl,q⟩
theorem xm8:OpR X (bw .Eq) rEq:=by
 intro pins s σ H x y v u Q I rx ry h;obtain⟨hs,q⟩:=h;cases x with
 |non=>
  cases rx;cases y with
  |non=>cases ry;exact PySem.EqNone.eq_none_none (xS I q (by simp))
  |bl j=>cases ry;exact PySem.EqNone.eq_none_bool (xS I q (by simp))
  |int j=>obtain⟨t',rfl⟩:=ry;exact PySem.EqNone.eq_none_int (xS I q (by simp))
  |str j=>obtain⟨t',rfl⟩:=ry;exact PySem.EqNone.eq_none_str (xS I q (by simp))
  |_=>exact absurd (show false=true from hs) aB
 |bl i=>
  cases rx;cases y with
  |non=>cases ry;exact PySem.EqNone.eq_bool_none (xS I q (by simp))
  |bl j=>cases ry;exact eq_bool (xS I q xkK)
  |str j=>obtain⟨t',rfl⟩:=ry;exact PySem.EqMixed.eq_bool_str (xS I q (by simp))
  |_=>exact absurd (show false=true from hs) aB
 |int i=>
  obtain⟨t,rfl⟩:=rx;cases y with
  |non=>cases ry;exact PySem.EqNone.eq_int_none (xS I q (by simp))
  |int j=>obtain⟨t',rfl⟩:=ry;exact eq_int (xS I q xiY)
  |str j=>obtain⟨t',rfl⟩:=ry;exact PySem.EqMixed.eq_int_str (xS I q (by simp))
  |_=>exact absurd (show false=true from hs) aB
 |str i=>
  obtain⟨t,rfl⟩:=rx;cases y with
  |non=>cases ry;exact PySem.EqNone.eq_str_none (xS I q (by simp))
  |bl j=>cases ry;exact PySem.EqMixed.eq_str_bool (xS I q (by simp))
  |int j=>obtain⟨t',rfl⟩:=ry;exact PySem.EqMixed.eq_str_int (xS I q (by simp))
  |str j=>obtain⟨t',rfl⟩:=ry;exact eq_str (xS I q xiZ)
  |_=>exact absurd (show false=true from hs) aB
 |byt i=>
  obtain⟨t,rfl⟩:=rx;cases y with
  |byt j=>obtain⟨t',rfl⟩:=ry;exact W.eq_bytes (xS I q xi0)
  |_=>exact absurd (show false=true from hs) aB
 |_=>cases y<;> exact absurd (show false=true from hs) aB
theorem xm9:OpR X (bw .NotEq) rNe:=by
 intro pins s σ H x y v u Q I rx ry h;obtain⟨hs,q⟩:=h;cases x with
 |non=>
  cases rx;cases y with
  |non=>cases ry;exact PySem.EqNone.ne_none_none (xS I q (by simp))
  |bl j=>cases ry;exact PySem.EqNone.ne_none_bool (xS I q (by simp))
  |int j=>obtain⟨t',rfl⟩:=ry;exact PySem.EqNone.ne_none_int (xS I q (by simp))
  |str j=>obtain⟨t',rfl⟩:=ry;exact PySem.EqNone.ne_none_str (xS I q (by simp))
  |_=>exact absurd (show false=true from hs) aB
 |bl i=>
  cases rx;cases y with
  |non=>cases ry;exact PySem.EqNone.ne_bool_none (xS I q (by simp))
  |bl j=>cases ry;exact ne_bool (xS I q (congrArg not xkK))
  |str j=>obtain⟨t',rfl⟩:=ry;exact PySem.EqMixed.ne_bool_str (xS I q (by simp))
  |_=>exact absurd (show false=true from hs) aB
 |int i=>
  obtain⟨t,rfl⟩:=rx;cases y with
  |non=>cases ry;exact PySem.EqNone.ne_int_none (xS I q (by simp))
  |int j=>obtain⟨t',rfl⟩:=ry;exact ne_int (xS I q (congrArg not xiY))
  |str j=>obtain⟨t',rfl⟩:=ry;exact PySem.EqMixed.ne_int_str (xS I q (by simp))
  |_=>exact absurd (show false=true from hs) aB
 |str i=>
  obtain⟨t,rfl⟩:=rx;cases y with
  |non=>cases ry;exact PySem.EqNone.ne_str_none (xS I q (by simp))
  |bl j=>cases ry;exact PySem.EqMixed.ne_str_bool (xS I q (by simp))
  |int j=>obtain⟨t',rfl⟩:=ry;exact PySem.EqMixed.ne_str_int (xS I q (by simp))
  |str j=>obtain⟨t',rfl⟩:=ry;exact ne_str (xS I q (congrArg not xiZ))
  |_=>exact absurd (show false=true from hs) aB
 |byt i=>
  obtain⟨t,rfl⟩:=rx;cases y with
  |byt j=>obtain⟨t',rfl⟩:=ry;exact W.ne_bytes (xS I q (congrArg not xi0))
  |_=>exact absurd (show false=true from hs) aB
 |_=>cases y<;> exact absurd (show false=true from hs) aB
theorem xpR:OpR X (bw .Lt) (rI0 fun i j=>.bl (decide (i<j))):=xjD fun _ _ _ _ _ _ _ q=>lt_int q
theorem xpS:OpR X (bw .LtE) (rI0 fun i j=>.bl (decide (i≤j))):=xjD fun _ _ _ _ _ _ _ q=>le_int q
theorem xpT:OpR X (bw .Gt) (rI0 fun i j=>.bl (decide (j<i))):=xjD fun _ _ _ _ _ _ _ q=>gt_int q
theorem xpU:OpR X (bw .GtE) (rI0 fun i j=>.bl (decide (j≤i))):=xjD fun _ _ _ _ _ _ _ q=>ge_int q
theorem xkL(b:Expr){op:CmpOp}(h:op≠.In:=by decide)(h2:op≠.NotIn:=by decide):du op b=false:=by
 have e1:(op==CmpOp.In)=false:=by cases op<;> first|rfl|exact absurd rfl h
 have e2:(op==CmpOp.NotIn)=false:=by cases op<;> first|rfl|exact absurd rfl h2
 cases b<;> simp[du,e1,e2]
theorem xnr{op:CmpOp}{r:R2}(ho:OpR X (bw op) r)(ha:PE X a ta)(hb:PE X b tb)(hm:du op b=false):PE X (.Compare a [op] [b] pos) (tOp r ta tb):=by
 intro pins s σ H Q I h;exact wpAny_Compare1 (xl2 ha hb I h fun v u s2 x y H2 I2 rx ry q=>ho pins s2 σ H2 x y v u Q I2 rx ry q) hm
theorem xei:(aL:Nat)<2^63:=by rw[ay];decide
theorem vals1{x:V}{us:List Value}(r:Vals [x] us):∃u,us=[u]∧RelV x u:=by
 cases r with
 |cons r1 r2=>cases r2;exact⟨_,rfl,r1⟩
theorem vals2{x y:V}{us:List Value}(r:Vals [x,y] us):∃u w',us=[u,w']∧RelV x u∧RelV y w':=by
 cases r with
 |cons r1 r2=>
  cases r2 with
  |cons r3 r4=>cases r4;exact⟨_,_,rfl,r1,r3⟩
theorem xl3:yh X (.builtin "abs") (fun xs H Q=>∃i,xs=[.int i]∧Q (.int (if i<0 then -i else i)) H):=by
 intro pins s σ H xs us Q I r h;obtain⟨i,rfl,q⟩:=h;obtain⟨u,rfl,t,rfl⟩:=vals1 r;exact call_abs_int fun u tk=>⟨.int (if i<0 then -i else i),H,I.tok _,⟨_,rfl⟩,q⟩
theorem xkM(hc:X.calm=true):yh X (.builtin "max") (fun xs H Q=>∃i j,xs=[.int i,.int j]∧Q (.int (if j > i then j else i)) H):=by
 intro pins s σ H xs us Q I r h;obtain⟨i,j,rfl,q⟩:=h;obtain⟨u,w',rfl,⟨t,rfl⟩,⟨t',rfl⟩⟩:=vals2 r;refine max_two_ints (I.ok.hd hc) fun h' tk k=>⟨_,H,I.kept k,?_,q⟩
 by_cases hj:j > i
 ·rw[if_pos hj,if_pos hj];exact⟨_,rfl⟩
 ·rw[if_neg hj,if_neg hj];exact⟨_,rfl⟩
theorem xkN(hc:X.calm=true):yh X (.builtin "min") (fun xs H Q=>∃i j,xs=[.int i,.int j]∧Q (.int (if j<i then j else i)) H):=by
 intro pins s σ H xs us Q I r h;obtain⟨i,j,rfl,q⟩:=h;obtain⟨u,w',rfl,⟨t,rfl⟩,⟨t',rfl⟩⟩:=vals2 r;refine min_two_ints (I.ok.hd hc) fun h' tk k=>⟨_,H,I.kept k,?_,q⟩
 by_cases hj:j<i
 ·rw[if_pos hj,if_pos hj];exact⟨_,rfl⟩
 ·rw[if_neg hj,if_neg hj];exact⟨_,rfl⟩
end
end L2
namespace L2
open PySem PySem.Spec PyProof.Rows
structure xdI(h:Heap)(x dx C:Addr)(mA:Str→Option Value):Prop where
 obj:h.get? x=some (gk C dx)
 ns:h.Ns1 dx mA
 ne:dx≠x
theorem xkO{h:Heap}{dx:Addr}{mA:Str→Option Value}(n:h.Ns1 dx mA):∃od,h.get? dx=some od∧∀name,W.lookIn name od=some (mA name):=by
 obtain⟨o,es,ep,ho,hd,hk,_,hm⟩:=n;refine⟨o,ho,fun name=>?_⟩;have e:=hm name;unfold nsFind findBy at e;rw[←Array.find?_toList]at e;unfold W.lookIn;rw[hd];dsimp only
 split
 ·rename_i y q;rw[q]at e;exact congrArg some e
 ·rename_i q;rw[q]at e;have a:es.toList.any (·.refKey)=false:=by
   rw[List.any_eq_false];intro y hy;obtain⟨z,t,hkey⟩:=hk y (b8.mp hy);simp[DictEntry.refKey,hkey]
  have a':¬es.toList.any (·.refKey)=true:=by rw[a];exact aB
  rw[if_neg a'];exact congrArg some e
theorem xdI.look{h:Heap}{x dx C:Addr}{mA:Str→Option Value}(I:xdI h x dx C mA):∃od,W.InstAt h x (gk C dx) C (some od)∧∀name,W.lookIn name od=some (mA name):=
 let⟨od,ho,hl⟩:=xkO I.ns
 ⟨od,⟨I.obj,rfl,rfl,ho⟩,hl⟩
section
variable {prog:aH} {w:World} {A:aV} {E:Value→ae→Prop} {s:ae} {K:ah} {x dx C f:Addr} {mA:Str→Option Value} {name:Str} {v:Value}
theorem get_map{expr:Bool}{Q:Value→ae→Prop}(X:K.In s.heap)(I:xdI s.heap x dx C mA)(hg:lr K C name=true)(hh:W.hasDictIn K C=true)
  (ha:bM K (.ref C) name=some none) (hv:mA name=some v) (hv':W.handedIn v=true) (h:Q v {s with toks:=s.toks+1}):
  wpAny (model prog w) A (getAttr (.ref x) name expr) Q E s:=by
 obtain⟨od,J,hl⟩:=I.look;exact W.get_value X J (lN hg).1 (W.findObj_own hh ha rfl (by rw[hl,hv])) hv' h
theorem xl4{pl:Sem Bool}{Q:Value×List Value→ae→Prop}(X:K.In s.heap)(I:xdI s.heap x dx C mA)(hg:lr K C name=true)
  (hf:bM K (.ref C) name=some (some (.ref f))) (ht:W.isFn K (.ref f)=true) (hv:mA name=none) (h:Q (.ref f,[.ref x]) s):
  wpAny (model prog w) A (kF (.ref x) name pl) Q E s:=by
 obtain⟨od,J,hl⟩:=I.look;exact W.method_fn X J (lN hg).1 (lN hg).2 hf (beq_iff_eq.mp ht) (by show(W.lookIn name od).map (·.isSome)=some false;rw[hl,hv];rfl) h
theorem xns{ns:List Str}{Q:Unit→ae→Prop}(X:K.In s.heap)(I:xdI s.heap x dx C mA)
  (hs:bM K (.ref C) "__setattr__"=some (some (.builtin "object.__setattr__"))) (hp:W.plainOver K C=true) (ht:W.takerIn K C name=some none) (hh:W.hasDictIn K C=true)
  (hw:PySem.Within mA ns) (hsz:ns.length≤aL)
  (h:∀h',xdI h' x dx C (fun y=>if y=name then some v else mA y)→fJ dx s.heap h'→Q () {s with heap:=h',toks:=s.toks+2}):
  wpAny (model prog w) A (setAttr (.ref x) name v) Q E s:=by
 obtain⟨od,J,hl⟩:=I.look;refine W.set_plain X J hs (W.osa_open (s:={s with toks:=s.toks+1}) (r:=none) X J hp ht fun b=>?_);obtain⟨cd,hc,hd'⟩:=W.any_some hh;have hx:s.heap.get? x=some ⟨.ref C,some dx,.plain,#[]⟩:=I.obj;refine aa (ag (aa (aa (wpAny_loadPart hx (aa (W.Looks.here (s:={s with toks:=s.toks+1}) (W.looks_clsIn X hc) ?_))))));rw[hd'];refine ag (a:=some dx) (aa (ag (aa ?_)));refine wpAny_nsSet1 (s:={s with toks:=s.toks+1}) I.ns fun h' hn2 hs2=>?_;obtain⟨oD,esD,epD,hoD,hdD,hcD⟩:=hn2.count (PySem.Within.cons name v hw);refine aa (wpAny_lookBehind hoD (by rw[hdD];exact pastItsLine_dict (bg hcD (by rw[aT];lia))) ?_);exact ag (h _ ⟨(hs2.2 _ (bE I.ne)).trans I.obj,hn2,I.ne⟩ hs2)
theorem xl5{R:gp→ae→Prop}{vs:List Value}{kw:List (Str×Value)}(X:K.In s.heap)(hm:W.makesIn K C=true)
  (hi:bM K (.ref C) "__init__"=some (some (.ref f))) (hf:W.typeIn K (.ref f)=some (.type "function"))
  (h:cU (model prog w) (A.under (.builtin "type.__call__" ⟨.ref C::vs,kw⟩)) (.call (.ref f) ⟨.ref (s.heap.objs.size+1)::vs,kw⟩) (W.InitBack (s.heap.objs.size+1) R)
   {s with heap:=(s.heap.push eR).push (gk C s.heap.objs.size)}):
  cU (model prog w) A (.call (.ref C) ⟨vs,kw⟩) R s:=by
 obtain⟨hh,g,d,t,os⟩:=s;exact W.make_core (W.makes_of X hm) (W.looks_findIn X hi) (fun self=>W.bind_fn X self hf) (.inl rfl) h
end
def zA(f:Str)(v:V):List (Str×V)→List (Str×V)
 |[]=>[(f,v)]
 |(g,x)::r=>if g=f then(g,v)::r else(g,x)::zA f v r
theorem xdf(f g:Str)(v:V):∀fs:List (Str×V),(zA f v fs).lookup g=if g=f then some v else fs.lookup g
 |[]=>by
  show fX g [(f,v)]=_
  by_cases h:g=f
  ·have hb:(g==f)=true:=beq_iff_eq.mpr h;simp only[fX,hb,if_pos h]
  ·have hb:(g==f)=false:=beq_eq_false_iff_ne.mpr h;simp only[fX,hb,if_neg h]
 |(k,x)::r=>by
  have ih:=xdf f g v r;rw[show zA f v ((k,x)::r)=(if k=f then(k,v)::r else(k,x)::zA f v r)from rfl]
  by_cases hk:k=f
  ·rw[if_pos hk]
   by_cases h:g=k
   ·have hb:(g==k)=true:=beq_iff_eq.mpr h;simp only[fX,hb,if_pos (h.trans hk)]
   ·have hb:(g==k)=false:=beq_eq_false_iff_ne.mpr h;simp only[fX,hb,if_neg (fun e:g=f=>h (e.trans hk.symm))]
  ·rw[if_neg hk]
   by_cases h:g=k
   ·have hb:(g==k)=true:=beq_iff_eq.mpr h;simp only[fX,hb,if_neg (fun e:g=f=>hk (h.symm.trans e))]
   ·have hb:(g==k)=false:=beq_eq_false_iff_ne.mpr h;simp only[fX,hb];exact ih
theorem xbU(f:Str)(v:V):∀fs:List (Str×V),f∈(zA f v fs).map (·.1)∧∀g,g∈fs.map (·.1)→g∈(zA f v fs).map (·.1)
 |[]=>⟨by simp[zA],fun g h=>by simp at h⟩
 |(k,x)::r=>by
  obtain⟨i1,i2⟩:=xbU f v r;rw[show zA f v ((k,x)::r)=(if k=f then(k,v)::r else(k,x)::zA f v r)from rfl]
  by_cases hk:k=f
  ·rw[if_pos hk];subst hk;exact⟨by simp,fun g h=>by simpa using h⟩
  ·rw[if_neg hk];refine⟨?_,fun g h=>?_⟩
   ·rw[bc];exact aq _ i1
   ·rw[bc]at h⊢;rcases ax.mp h with e|e
    ·exact ax.mpr (.inl e)
    ·exact aq _ (i2 g e)
theorem xas(f:Str)(v:V):∀fs:List (Str×V),(zA f v fs).length≤fs.length+1
 |[]=>by simp[zA]
 |(k,x)::r=>by
  have ih:=xas f v r;rw[show zA f v ((k,x)::r)=(if k=f then(k,v)::r else(k,x)::zA f v r)from rfl]
  by_cases hk:k=f
  ·rw[if_pos hk,aT,aT];lia
  ·rw[if_neg hk,aT,aT];lia
theorem um.some_of{v:V}{o:Option Value}(r:um (some v) o):∃u,o=some u∧RelV v u:=by
 cases o with
 |none=>exact(show False from r).elim
 |some u=>exact⟨u,rfl,r⟩
theorem um.none_of{o:Option Value}(r:um none o):o=none:=by
 cases o with
 |none=>rfl
 |some u=>exact(show False from r).elim
theorem xkP{v:V}{u:Value}(r:RelV v u):W.handedIn u=true:=by
 cases v with
 |non=>cases (show u=bq from r);rfl
 |bl b=>cases (show u=dU b from r);rfl
 |int i=>obtain⟨t,e⟩:=(show∃t,u=fj i t from r);cases e;rfl
 |str x=>obtain⟨t,e⟩:=(show∃t,u=gY x t from r);cases e;rfl
 |byt b=>obtain⟨t,e⟩:=(show∃t,u=Value.bytes b t from r);cases e;rfl
 |flt b=>obtain⟨t,e⟩:=(show∃t,u=mH b t from r);cases e;rfl
 |ref a=>cases (show u=aZ a from r);rfl
 |ty n=>cases (show u=cw n from r);rfl
section
variable {P:aH} {w:World} {H H':Hp} {h h':Heap} {a C dx:Addr} {fs fs':List (Str×V)}
theorem xcR(hok:HOk P w H h)(e:H a=some (.ins C dx fs)):∃mA,xdI h a dx C mA∧(∀f,um (fs.lookup f) (mA f))∧PySem.Within mA (fs.map (·.1))∧fs.length≤1000∧H dx=some (.own a):=by
 obtain⟨d,z,ne,ob,mA,n,r,q⟩:=(show xG P w H h a (.ins C dx fs)from hok a _ e);exact⟨mA,⟨ob,n,ne⟩,r,q,z,d⟩
end
structure Cls(K:ah)(C:Addr):Prop where
 pg:lr K C Str.empty=true
 hd:W.hasDictIn K C=true
 po:W.plainOver K C=true
 sa:bM K (.ref C) "__setattr__"=some (some (.builtin "object.__setattr__"))
theorem Cls.get{K:ah}{C:Addr}(c:Cls K C)(f:Str):lr K C f=true:=c.pg
def xT(K:ah)(C:Addr)(f:Str):Prop:=bM K (.ref C) f=some none
theorem xT.taker{K:ah}{C:Addr}{f:Str}(n:xT K C f):W.takerIn K C f=some none:=by
 unfold W.takerIn;rw[show bM K (.ref C) f=some none from n];rfl
structure Meth(K:ah)(C:Addr)(m:Str)(f:Addr):Prop where
 at_:bM K (.ref C) m=some (some (.ref f))
 fn:W.isFn K (.ref f)=true
 kp:dG K (.ref f)=true
section
variable {X:Cx} {pins:List (Addr×Obj)} {σ:St} {H:Hp} {s:ae} {a C dx:Addr} {fs:List (Str×V)} {f:Str} {v:V} {A:aV} {E:Value→ae→Prop}
theorem xjG{b:Bool}{Q:Value→ae→Prop}(I:Inv X pins σ H s)(e:H a=some (.ins C dx fs))(c:Cls X.K C)(n:xT X.K C f)(l:fs.lookup f=some v)
  (h:∀u s',Inv X pins σ H s'→RelV v u→Q u s'):wpAny (model X.prog X.w) A (getAttr (.ref a) f b) Q E s:=by
 obtain⟨mA,O,r,_,_,_⟩:=xcR I.hok e;obtain⟨u,hu,ru⟩:=um.some_of (v:=v) (o:=mA f) (by rw[←l];exact r f);exact get_map I.kIn O (c.get f) c.hd n hu (xkP ru) (h u _ (I.tok _) ru)
theorem xej{m:Str}{g:Addr}{pl:Sem Bool}{Q:Value×List Value→ae→Prop}(I:Inv X pins σ H s)(e:H a=some (.ins C dx fs))(c:Cls X.K C)(k:Meth X.K C m g)(l:fs.lookup m=none)
  (h:Q (.ref g,[.ref a]) s):wpAny (model X.prog X.w) A (kF (.ref a) m pl) Q E s:=by
 obtain⟨mA,O,r,_,_,_⟩:=xcR I.hok e;have hn:mA m=none:=um.none_of (by rw[←l];exact r m);exact xl4 I.kIn O (c.get m) k.at_ k.fn hn h
theorem xjH{y:V}{u:Value}{Q:Unit→ae→Prop}(I:Inv X pins σ H s)(e:H a=some (.ins C dx fs))(c:Cls X.K C)(n:xT X.K C f)(hl:fs.length<1000)(ry:RelV y u)
  (h:∀s',Inv X pins σ (upd H a (.ins C dx (zA f y fs))) s'→Q () s'):wpAny (model X.prog X.w) A (setAttr (.ref a) f u) Q E s:=by
 obtain⟨mA,O,r,wi,_,ho⟩:=xcR I.hok e;have hz:(fs.map (·.1)).length≤aL:=by rw[ab,ay];lia
 refine xns I.kIn O c.sa c.po n.taker c.hd wi hz fun h' O' sb=>h _ ?_;have hd:∃o,h'.get? dx=some o:=let⟨o,_,_,e',_⟩:=O'.ns;⟨o,e'⟩
 refine I.write (x:=a) (e:=dx) (by rw[e];exact cQ) (.inr ho) (fun b q hb z=>(sb.2 b hb).trans z) hd ?_;refine⟨by rw[xl O.ne];exact ho,?_,O.ne,O'.obj,_,O'.ns,fun g=>?_,fun g hg=>?_⟩
 ·have:=xas f y fs;lia
 ·show um ((zA f y fs).lookup g) (if g=f then some u else mA g);rw[xdf]
  by_cases q:g=f
  ·rw[if_pos q,if_pos q];exact ry
  ·rw[if_neg q,if_neg q];exact r g
 ·by_cases q:g=f
  ·rw[q];exact(xbU f y fs).1
  ·refine(xbU f y fs).2 g (wi g fun z=>hg ?_);show(if g=f then some u else mA g)=none;rw[if_neg q];exact z
theorem Inv.made(I:Inv X pins σ H s):Inv X pins σ (upd (upd H s.heap.objs.size (.own (s.heap.objs.size+1))) (s.heap.objs.size+1) (.ins C s.heap.objs.size []))
  {s with heap:=(s.heap.push eR).push (gk C s.heap.objs.size)}:=by
 have e1:(s.heap.push eR).get? s.heap.objs.size=some eR:=az s.heap rfl;have e2:((s.heap.push eR).push (gk C s.heap.objs.size)).get? (s.heap.objs.size+1)=some (gk C s.heap.objs.size):=by
  have:=az (s.heap.push eR) (o:=gk C s.heap.objs.size) rfl
  rwa [cV]at this
 have e3:(s.heap.push eR).Ns s.heap.objs.size (fun _=>none):=⟨eR,#[],_,e1,rfl,(fun e he=>absurd he (by simp)),fun _=>rfl⟩;have I1:=I.laid (a:=s.heap.objs.size) (o:=.own (s.heap.objs.size+1)) (h':=s.heap.push eR) (t':=s.toks) (fun b u q=>af _ q) (aj _) ⟨_,e1⟩;refine I1.laid (a:=s.heap.objs.size+1) (o:=.ins C s.heap.objs.size []) (t':=s.toks) (fun b u q=>af _ q) (ib (cV _ _)) ?_;have ne:s.heap.objs.size≠s.heap.objs.size+1:=au (cR _);refine⟨by rw[xl ne,xk],aM _,ne,e2,fun _=>none,(Heap.Ns1.of_empty e3).at fun o q=>af _ q,fun _=>cQ,fun y hy=>absurd rfl hy⟩
theorem xnt{prog:aH}{w:World}{env:Env}{e:Expr}{f:Str}{pos:Pos}{s:ae}{Q:Value→ae→Prop}(hb:gR e f env (eval e env)=eval e env)
  (h:wpAny (model prog w) A (eval e env) (fun o s₁=>wpAny (model prog w) A (getAttr o f true) Q E s₁) E s):wpAny (model prog w) A (eval (.Attribute e f pos) env) Q E s:=
 Attribute_any_ h (by rw[arm_eval_Attribute,hb])
end
def xqD(K:ah)(ta:TE)(f:Str):TE:=fun σ H Q=>ta σ H fun x H1=>∃a C dx fs v,x= .ref a∧H1 a=some (.ins C dx fs)∧Cls K C∧xT K C f∧fs.lookup f=some v∧Q v H1
def xqE(K:ah)(ta tv:TE)(f:Str):TS:=fun D σ H=>tv σ H fun y H1=>ta σ H1 fun x H2=>∃a C dx fs,x= .ref a∧H2 a=some (.ins C dx fs)∧Cls K C∧xT K C f∧fs.length<1000∧
 D.nx σ (upd H2 a (.ins C dx (zA f y fs)))
section
variable {X:Cx} {o e value:Expr} {f:Str} {pos pos' tpos:Pos} {ta tv:TE}
theorem xF(he:PE X e ta)(hb:gR e f X.env (eval e X.env)=eval e X.env):PE X (.Attribute e f pos) (xqD X.K ta f):=by
 intro pins s σ H Q I h;refine xnt hb (thn (he pins s σ H _ I h) fun u s1 ⟨x,H1,I1,rx,a,C,dx,fs,v,ex,ea,c,n,l,q⟩=>?_);subst ex;obtain rfl:u=aZ a:=rx;exact xjG I1 ea c n l fun u' s2 I2 ru=>⟨v,H1,I2,ru,q⟩
theorem vI(ha:PE X o ta)(hv:PE X value tv)(hs:kE value (some (.Attribute o f pos')) pos.line X.env=pure false):PS X (.Assign [.Attribute o f pos'] value pos) (xqE X.K ta tv f):=by
 intro pins s σ H D I h;refine plainObj_wpAny_Assign_Attribute (thn (hv pins s σ H _ I h) fun u s1 ⟨y,H1,I1,ry,q⟩=>thn (ha pins s1 σ H1 _ I1 q) fun ov s2 ⟨x,H2,I2,rx,a,C,dx,fs,ex,ea,c,n,l,q2⟩=>?_) hs;subst ex;obtain rfl:ov=aZ a:=rx;exact xjH I2 ea c n l ry fun s3 I3=>⟨σ,_,I3,q2⟩
end
section
variable {X:Cx} {pins:List (Addr×Obj)} {σ:St} {H:Hp} {s:ae} {A:aV} {E:Value→ae→Prop} {Q:Value→ae→Prop} {c:Value} {b:Bool}
inductive yG(K:ah)(H:Hp):V→Value→Prop where
 |non:yG K H .non (.type "NoneType")
 |bl (x:Bool):yG K H (.bl x) (.type "bool")
 |int (i:Int):yG K H (.int i) (.type "int")
 |str (x:Str):yG K H (.str x) (.type "str")
 |flt (x:UInt64):yG K H (.flt x) (.type "float")
 |lst {a:Addr} {xs:List V} (e:H a=some (.lst xs)):yG K H (.ref a) (.type "list")
 |frz {a:Addr} {o:Obj} {xs:List V} (e:H a=some (.frz o (.lst xs))):yG K H (.ref a) (.type "list")
 |tup {a:Addr} {xs:List V} (e:H a=some (.tup xs)):yG K H (.ref a) (.type "tuple")
 |dK {a:Addr} {kvs:List (Key×V)} (e:H a=some (.dK kvs)):yG K H (.ref a) (.type "dict")
 |dT {a:Addr} {kvs:List (List Key×V)} (e:H a=some (.dT kvs)):yG K H (.ref a) (.type "dict")
 |ins {a C dx:Addr} {fs:List (Str×V)} (e:H a=some (.ins C dx fs)) (cl:Cls K C) (ha:bM K (.ref C) "__class__"=some (some (.builtin "object.__class__")))
   (hn:kO K (.builtin "object.__class__") "__get__"=some (some (.builtin "getset_descriptor.__get__"))) (htk:W.takesIn K (.builtin "object.__class__")=some true)
   (hm:W.mroIn K C (.type "object")=some true):yG K H (.ref a) (.ref C)
theorem xkQ{x:V}{u t:Value}(I:Inv X pins σ H s)(rx:RelV x u)(ty:yG X.K H x t)(e:fO X.K t c=some b)(h:∀tk,Q (.bool b) {s with toks:=tk}):
  wpAny (model X.prog X.w) A (call (.builtin "isinstance") [u,c]) Q E s:=by
 cases ty with
 |non=>cases (show u=bq from rx);exact eU W.kitx_none I.kIn cQ e (fun z=>nomatch z) h
 |bl y=>cases (show u=dU y from rx);exact eU W.kitx_bool I.kIn cQ e (fun z=>nomatch z) h
 |int i=>obtain⟨t,q⟩:=(show∃t,u=fj i t from rx);cases q;exact eU W.kitx_int I.kIn cQ e (fun z=>nomatch z) h
 |str y=>obtain⟨t,q⟩:=(show∃t,u=gY y t from rx);cases q;exact eU W.kitx_str I.kIn cQ e (fun z=>nomatch z) h
 |flt y=>obtain⟨t,q⟩:=(show∃t,u=mH y t from rx);cases q;exact eU W.kitx_float I.kIn cQ e (fun z=>nomatch z) h
 | @lst a xs ea=>
  cases (show u=aZ a from rx);obtain⟨_,_,n,_,h1⟩:=(show xG X.prog X.w H s.heap a (.lst xs)from I.hok a _ ea);exact eU W.kitx_list I.kIn ⟨_,h1,rfl⟩ e (fun z=>nomatch z) h
 | @frz a ob xs ea=>
  cases (show u=aZ a from rx);obtain⟨_,_,_,n,_,h1⟩:=(show xG X.prog X.w H s.heap a (.frz ob (.lst xs))from I.hok a _ ea);exact eU W.kitx_list I.kIn ⟨_,h1,rfl⟩ e (fun z=>nomatch z) h
 | @tup a xs ea=>
  cases (show u=aZ a from rx);obtain⟨_,_,_,p⟩:=(show xG X.prog X.w H s.heap a (.tup xs)from I.hok a _ ea);obtain⟨o,h1,h2,_⟩:=p;exact eU W.kitx_tuple I.kIn ⟨o,h1,h2⟩ e (fun z=>nomatch z) h
 | @dK a kvs ea=>
  cases (show u=aZ a from rx);obtain⟨_,_,vs,_,p⟩:=(show xG X.prog X.w H s.heap a (.dK kvs)from I.hok a _ ea);obtain⟨o,es,ep,h1,h2,_⟩:=p;exact eU W.kitx_dict I.kIn ⟨o,h1,h2.1⟩ e (fun z=>nomatch z) h
 | @dT a kvs ea=>
  cases (show u=aZ a from rx);obtain⟨_,_,xs,_,o,es,ep,h1,h2,_⟩:=(show xG X.prog X.w H s.heap a (.dT kvs)from I.hok a _ ea);exact eU W.kitx_dict I.kIn ⟨o,h1,h2.1⟩ e (fun z=>nomatch z) h
 | @ins a C dx fs ea cl ha hn htk hm=>
  cases (show u=aZ a from rx);obtain⟨mA,O,_⟩:=xcR I.hok ea;obtain⟨od,J,_⟩:=O.look;exact eU (W.kitx_own (cl.get _) cl.hd ha hn htk hm) I.kIn J e (fun z=>nomatch z) h
end
end L2
namespace L2
open PySem PySem.Spec PyProof.Rows
structure xR(k:Nat)(A:aV):Prop where
 hd:A.handled=none
 dp:A.depth+3*k+5<recursionLimit
 un:A.units+16*k+200<cLine
theorem xR.mono{j k:Nat}{A:aV}(r:xR k A)(h:j≤k):xR j A:=⟨r.hd,by have:=r.dp;lia,by have:=r.un;lia⟩
theorem xR.deeper{k:Nat}{A:aV}(r:xR (k+1) A)(env:Env):xR k (A.deeper env):=
 ⟨r.hd,by have:=r.dp;show A.depth+1+3*k+5<_;lia,by have:=r.un;show A.units+3+16*k+200<_;lia⟩
theorem xR.in1{k:Nat}{A:aV}(r:xR (k+1) A):xR k A.in1:=
 ⟨r.hd,by have:=r.dp;show A.depth+3*k+5<_;lia,by have:=r.un;show A.units+1+16*k+200<_;lia⟩
theorem xjI{A:aV}{C:Addr}{us:List Value}{kw:List (Str×Value)}:(A.under (.builtin "type.__call__" ⟨.ref C::us,kw⟩)).depth=A.depth+1:=by
 first|rfl|simp[l8,Code.weight,Code.isCreation,Code.isGuard,Code.isCaller,Code.frames,l9,guardIds]
theorem xjJ{A:aV}{C:Addr}{us:List Value}{kw:List (Str×Value)}:(A.under (.builtin "type.__call__" ⟨.ref C::us,kw⟩)).units=A.units+1:=by
 first|rfl|simp[l8,Code.cUnits,Code.frames,l9]
theorem xR.make{k:Nat}{A:aV}(r:xR (k+1) A)(C:Addr)(us:List Value)(kw:List (Str×Value)):xR k (A.under (.builtin "type.__call__" ⟨.ref C::us,kw⟩)):=
 ⟨r.hd,by have:=r.dp;rw[xjI];lia,by have:=r.un;rw[xjJ];lia⟩
theorem xR.depth{k:Nat}{A:aV}(r:xR k A):A.depth<recursionLimit:=by have:=r.dp;lia
theorem xR.units{k:Nat}{A:aV}(r:xR k A):A.units+64<cLine:=by have:=r.un;lia
theorem xR.units0{k:Nat}{A:aV}(r:xR k A):A.units<cLine:=by have:=r.un;lia
def vS:TA:=fun _ H Q=>Q [] H
def xpV(ta:TE)(tr:TA):TA:=fun σ H Q=>ta σ H fun x H1=>tr σ H1 fun xs H2=>Q (x::xs) H2
section
variable {X:Cx} {e:Expr} {es:List Expr} {te:TE} {t:TA} {pos:Pos}
theorem xf:PA X [] vS:=fun _ _ _ _ H Q I h=>gH ⟨[],H,I,.nil,h⟩
theorem xa(ha:PE X e te)(hr:PA X es t)(hs:aY (e::es) X.env=(false,eval e X.env)::aY es X.env:=by rfl):PA X (e::es) (xpV te t):=by
 intro pos pins s σ H Q I h;rw[hs];show wpAny _ _ (spliced ((false,eval e X.env)::cZ pos (aY es X.env))) _ _ s;refine gq (thn (ha pins s σ H _ I h) fun u s1 ⟨x,H1,I1,r1,q1⟩=>?_);exact thn (hr pos pins s1 σ H1 _ I1 q1) fun us s2 ⟨xs,H2,I2,r2,q2⟩=>⟨x::xs,H2,I2,.cons r1 r2,q2⟩
def xqF(t:TA):TE:=fun σ H Q=>t σ H fun xs H1=>xs.length≤aL∧∀p,H1 p=none→Q (.ref p) (upd H1 p (.tup xs))
def xqG(t:TA):TE:=fun σ H Q=>t σ H fun xs H1=>xs.length≤aL∧∀p,H1 p=none→Q (.ref p) (upd H1 p (.lst xs))
theorem ym{x1}(h:PA X es t):PE X (.Tuple es x1 pos) (xqF t):=by
 intro pins s σ H Q I hq;refine wpAny_Tuple_spliced (thn (h pos pins s σ H _ I hq) fun us s1 ⟨xs,H1,I1,r,z,q⟩=>⟨by rw[←r.length];exact z,?_⟩);have hf:H1 s1.heap.objs.size=none:=I1.hok.fresh (aj _);refine⟨.ref s1.heap.objs.size,upd H1 s1.heap.objs.size (.tup xs),I1.laid (t':=s1.toks) (fun b u e=>af _ e) (aj _) ?_,rfl,q _ hf⟩;exact⟨z,us,r,⟨_,az _ rfl,rfl,_,rfl⟩⟩
theorem yn(h:PA X es t):PE X (.List es pos) (xqG t):=by
 intro pins s σ H Q I hq;refine wpAny_List_spliced (thn (h pos pins s σ H _ I hq) fun us s1 ⟨xs,H1,I1,r,z,q⟩=>⟨by rw[←r.length];exact z,?_⟩);have hf:H1 s1.heap.objs.size=none:=I1.hok.fresh (aj _);refine⟨.ref s1.heap.objs.size,upd H1 s1.heap.objs.size (.lst xs),I1.laid (t':=s1.toks) (fun b u e=>af _ e) (aj _) ?_,rfl,q _ hf⟩;exact⟨z,us,0,r,az _ rfl⟩
end
abbrev Sp:=List V→Hp→VK→XK→Prop
abbrev CXT:=List Env→Hp→ae→XK→Value→ae→Prop
structure vT(P:aH)(w:World)(K:ah)(mg:Str→Option Value)(base:Heap)(A:aV)(outer:List Env)(s:ae)(H:Hp):Prop where
 frames:A.frames=some outer
 mod:Mod K mg base
 bs:∀b o,base.get? b=some o→s.heap.get? b=some o∧H b=none
 bsz:base.objs.size≤s.heap.objs.size
 funs:s.heap.FunFrames base outer
 frf:∀b∈frs outer,H b=none
 hok:HOk P w H s.heap
 bare:fH s.gens
def CE(outer:List Env)(P:aH)(w:World)(H:Hp)(s:ae)(Q:VK)(u:Value)(s':ae):Prop:=
 ∃v H',s'.os=s.os∧fH s'.gens∧Un (frs outer) [] H H' s.heap s'.heap∧HOk P w H' s'.heap∧RelV v u∧Q v H'
def CR(CX:CXT)(outer:List Env)(P:aH)(w:World)(H:Hp)(s:ae)(Q:VK)(E:XK)(r:gp)(s':ae):Prop:=
 match r with
 | .ok (.ret u)=>CE outer P w H s Q u s'
 | .ok _=>False
 | .error e=>CX outer H s E e s'
structure xA(P:aH)(w:World)(K:ah)(mg:Str→Option Value)(base:Heap)(CX:CXT)(k:Nat)(f:Addr)(fd:aE)(ps:List Str)(sp:Sp):Prop where
 len:∀vs H Q E,sp vs H Q E→vs.length=ps.length
 run:∀(A:aV) (outer:List Env) (s:ae) (H:Hp) (args:Args) (us:List Value) (vs:List V) (Q:VK) (E:XK),xR k A→vT P w K mg base A outer s H→BindsTo s fd args (ps.zip us)→Vals vs us→sp vs H Q E→
  cU (model P w) A (.call (.ref f) args) (CR CX outer P w H s Q E) s
theorem vT.make{P:aH}{w:World}{K:ah}{mg:Str→Option Value}{base:Heap}{A:aV}{outer:List Env}{s:ae}{H:Hp}(e:vT P w K mg base A outer s H)(C:Addr)(us:List Value)(kw:List (Str×Value)):
  vT P w K mg base (A.under (.builtin "type.__call__" ⟨.ref C::us,kw⟩)) outer s H:=⟨by first|exact e.frames|(simpa [l8,Code.envs,l9,pushEnvs]using e.frames),e.mod,e.bs,e.bsz,e.funs,e.frf,e.hok,e.bare⟩
section
variable {X:Cx} {pins:List (Addr×Obj)} {σ:St} {H:Hp} {s s':ae}
theorem Inv.env0(I:Inv X pins σ H s):vT X.prog X.w X.K X.mg X.base X.A X.stack s H:=
 ⟨I.ok.frames,I.ok.mod,I.bs,bg I.ok.bsz I.sz,I.stack,I.stkFree,I.hok,I.bare⟩
theorem Inv.after{Q:VK}{u:Value}(I:Inv X pins σ H s)(h:CE X.stack X.prog X.w H s Q u s'):EP X pins σ Q u s':=by
 obtain⟨v,H',os,bare,un,hok,r,q⟩:=h;obtain⟨hh,g,d,t,os'⟩:=s';obtain rfl:os'=s.os:=os;exact⟨v,H',I.call (h':=hh) (g':=g) (d':=d) (t':=t) (ch:=[]) un hok bare (fun b z=>absurd z (by simp)),r,q⟩
end
def xna(sp:Sp)(dvs:List V)(E:XK)(t:TA):TE:=fun σ H Q=>t σ H fun vs H1=>sp (vs++dvs) H1 Q E
def yy(C:Addr)(m:Str)(sp:Sp)(dvs:List V)(E:XK)(ta:TE)(t:TA):TE:=fun σ H Q=>ta σ H fun x H1=>∃a dx fs,x= .ref a∧H1 a=some (.ins C dx fs)∧fs.lookup m=none∧
 t σ H1 fun vs H2=>sp (x::(vs++dvs)) H2 Q E
def xpW(C:Addr)(sp:Sp)(dvs:List V)(E:XK)(t:TA):TE:=fun σ H Q=>t σ H fun vs H1=>∀x dx,H1 x=none→H1 dx=none→dx≠x→
 sp (.ref x::(vs++dvs)) (upd (upd H1 dx (.own x)) x (.ins C dx [])) (fun v H2=>v= .non∧Q (.ref x) H2) E
def Binds(K:ah)(fd:aE)(ps:List Str)(ds:List Value):Prop:=
 ∀(s:ae) (us:List Value),K.In s.heap→(us++ds).length=ps.length→BindsTo s fd ⟨us,[]⟩ (ps.zip (us++ds))
theorem Binds.all{K:ah}{fd:aE}{ps:List Str}(h:∀us:List Value,us.length=ps.length→gr fd ⟨us,[]⟩=pure (ps.zip us)):Binds K fd ps []:=fun s us _ hl=>by
 rw[fm]at hl⊢;exact .of_eq (h us hl)
def Passes(CX:CXT)(X:Cx)(E:XK):Prop:=∀(pins:List (Addr×Obj)) (σ:St) (H:Hp) (s:ae) (e:Value) (s':ae),Inv X pins σ H s→CX X.stack H s E e s'→X.xe e s'
section
variable {X:Cx} {CX:CXT} {k:Nat} {f C:Addr} {fd:aE} {ps:List Str} {sp:Sp} {dvs:List V} {ds:List Value} {E:XK} {x m:Str} {p pos apos:Pos} {e o:Expr} {es:List Expr} {ta:TE} {t:TA}
theorem xek{pins:List (Addr×Obj)}{σ:St}{H:Hp}{s:ae}{Q:VK}{us:List Value}{vs:List V}(F:xA X.prog X.w X.K X.mg X.base CX k f fd ps sp)(hr:xR k X.A)(hb:Binds X.K fd ps ds)(hd:Vals dvs ds)(hx:Passes CX X E)
  (I:Inv X pins σ H s) (r:Vals vs us) (h:sp (vs++dvs) H Q E):wpAny (model X.prog X.w) X.A (call (.ref f) us) (EP X pins σ Q) X.xe s:=by
 have r2:Vals (vs++dvs) (us++ds):=r.append hd;have hl:(us++ds).length=ps.length:=by rw[←r2.length];exact F.len _ _ _ _ h
 refine gC (dH (F.run X.A X.stack s H ⟨us,[]⟩ (us++ds) (vs++dvs) Q E hr I.env0 (hb s us I.kIn hl) r2 h) fun r s' hq=>?_);cases r with
 |error e=>exact hx pins σ H s e s' I hq
 |ok fl=>
  cases fl with
  |ret u=>exact I.after hq
  |next=>exact bH hq
  |brk=>exact bH hq
  |cont=>exact bH hq
theorem xr(F:xA X.prog X.w X.K X.mg X.base CX k f fd ps sp)(hr:xR k X.A)(hg:Gl X x)(hm:X.mg x=some (.ref f))(hk:dG X.K (.ref f)=true)(hb:Binds X.K fd ps ds)(hd:Vals dvs ds)(hx:Passes CX X E)
  (ha:PA X (e::es) t) (hdb:(x==("__debug__":Str))=false:=by decide) (he:aY (e::es) X.env=(false,eval e X.env)::aY es X.env:=by rfl) (hpl:(cZ pos (aY es X.env)).any (·.1)=false:=by rfl):
  PE X (.Call (.Name x p) (e::es) [] pos) (xna sp dvs E t):=by
 intro pins s σ H Q I h;refine cb (xcP I hg hm ?_ hdb);refine j9 (h₀:=X.base) I.ok.mod.kin hk (thn (ha pos pins s σ H _ I h) fun us s1 ⟨vs,H1,I1,r,q⟩=>⟨I1.kIn,?_⟩) he hpl;exact xek F hr hb hd hx I1 r q
theorem xfc{pl:Sem Bool}(he:PE X o ta)(c:Cls X.K C)(hm:Meth X.K C m f)(F:xA X.prog X.w X.K X.mg X.base CX k f fd ps sp)(hr:xR k X.A)(hb:Binds X.K fd ps ds)(hd:Vals dvs ds)(hx:Passes CX X E)(ha:PA X (e::es) t)
  (hst:aY (e::es) X.env=(false,eval e X.env)::aY es X.env:=by rfl) (hpl:(cZ pos (aY es X.env)).any (·.1)=false:=by rfl)
  (ht:eval (.Call (.Attribute o m apos) (e::es) [] pos) X.env=(do
   let ov ←eval o X.env
   kX apos.atName
   let(f,first) ←dN [ov] (kF ov m pl)
   callWith pos f first (cZ pos (aY (e::es) X.env)) (ly pos (iC [] X.env))):=by rfl):
  PE X (.Call (.Attribute o m apos) (e::es) [] pos) (yy C m sp dvs E ta t):=by
 intro pins s σ H Q I h;refine kH (pl:=pl) (thn (he pins s σ H _ I h) fun u s1 ⟨x,H1,I1,rx,a,dx,fs,ex,ea,l,q⟩=>?_) ht;subst ex;obtain rfl:u=aZ a:=rx;refine xej I1 ea c hm l ?_;refine j9 (first:=[.ref a]) (h₀:=X.base) I.ok.mod.kin hm.kp (thn (ha pos pins s1 σ H1 _ I1 q) fun us s2 ⟨vs,H2,I2,r,q2⟩=>⟨I2.kIn,?_⟩) hst hpl;exact xek (us:=.ref a::us) (vs:=.ref a::vs) F hr hb hd hx I2 (.cons rfl r) q2
theorem xI{pl:Sem Bool}(he:PE X o ta)(c:Cls X.K C)(hm:Meth X.K C m f)(F:xA X.prog X.w X.K X.mg X.base CX k f fd ps sp)(hr:xR k X.A)(hb:Binds X.K fd ps ds)(hd:Vals dvs ds)(hx:Passes CX X E)
  (ht:eval (.Call (.Attribute o m apos) [] [] pos) X.env=(do
   let ov ←eval o X.env
   kX apos.atName
   let(f,first) ←dN [ov] (kF ov m pl)
   callWith pos f first (cZ pos (aY [] X.env)) (ly pos (iC [] X.env))):=by rfl):
  PE X (.Call (.Attribute o m apos) [] [] pos) (yy C m sp dvs E ta vS):=by
 intro pins s σ H Q I h;refine kH (pl:=pl) (thn (he pins s σ H _ I h) fun u s1 ⟨x,H1,I1,rx,a,dx,fs,ex,ea,l,q⟩=>?_) ht;subst ex;obtain rfl:u=aZ a:=rx;refine xej I1 ea c hm l ?_;exact W.callWith_K0 (first:=[.ref a]) I1.kIn hm.kp (xek (us:=[.ref a]) (vs:=[.ref a]) F hr hb hd hx I1 (.cons rfl .nil) q)
structure Mk(K:ah)(C f:Addr):Prop where
 makes:W.makesIn K C=true
 init:bM K (.ref C) "__init__"=some (some (.ref f))
 fn:W.isFn K (.ref f)=true
 kp:dG K (.ref C)=true
theorem xl6{pins:List (Addr×Obj)}{σ:St}{H:Hp}{s:ae}{Q:VK}{us:List Value}{vs:List V}(M:Mk X.K C f)(F:xA X.prog X.w X.K X.mg X.base CX k f fd ps sp)(hr:xR (k+1) X.A)(hb:Binds X.K fd ps ds)(hd:Vals dvs ds)
  (hx:Passes CX X E) (I:Inv X pins σ H s) (r:Vals vs us)
  (h:∀x dx,H x=none→H dx=none→dx≠x→sp (.ref x::(vs++dvs)) (upd (upd H dx (.own x)) x (.ins C dx [])) (fun v H2=>v= .non∧Q (.ref x) H2) E):
  wpAny (model X.prog X.w) X.A (call (.ref C) us) (EP X pins σ Q) X.xe s:=by
 have hq:=h (s.heap.objs.size+1) s.heap.objs.size (I.hok.fresh (dC _)) (I.hok.fresh (aj _)) (au (cR _));have I2:=Inv.made (C:=C) I;have r2:Vals (V.ref (s.heap.objs.size+1)::(vs++dvs)) (aZ (s.heap.objs.size+1)::(us++ds)):=.cons rfl (r.append hd);have hl:(aZ (s.heap.objs.size+1)::us++ds).length=ps.length:=by
  have e:=r2.length;rw[F.len _ _ _ _ hq]at e;exact e.symm
 refine gC (xl5 (f:=f) I.kIn M.makes M.init (beq_iff_eq.mp M.fn) (dH (F.run _ X.stack _ _ ⟨aZ (s.heap.objs.size+1)::us,[]⟩ (aZ (s.heap.objs.size+1)::(us++ds)) _ _ E (hr.make C us [])
  (I2.env0.make C us []) (hb _ (aZ (s.heap.objs.size+1)::us) I2.kIn hl) r2 hq) fun r s' hq'=>?_))
 cases r with
 |error e=>exact hx pins σ _ _ e s' I2 hq'
 |ok fl=>
  cases fl with
  |ret u=>
   obtain⟨v,H',I3,rv,ev,q3⟩:=I2.after hq';subst ev;exact⟨rv,⟨V.ref (s.heap.objs.size+1),H',I3,rfl,q3⟩⟩
  |next=>exact bH hq'
  |brk=>exact bH hq'
  |cont=>exact bH hq'
theorem jo(M:Mk X.K C f)(F:xA X.prog X.w X.K X.mg X.base CX k f fd ps sp)(hr:xR (k+1) X.A)(hg:Gl X x)(hm:X.mg x=some (.ref C))(hb:Binds X.K fd ps ds)(hd:Vals dvs ds)(hx:Passes CX X E)
  (ha:PA X (e::es) t) (hdb:(x==("__debug__":Str))=false:=by decide) (he:aY (e::es) X.env=(false,eval e X.env)::aY es X.env:=by rfl) (hpl:(cZ pos (aY es X.env)).any (·.1)=false:=by rfl):
  PE X (.Call (.Name x p) (e::es) [] pos) (xpW C sp dvs E t):=by
 intro pins s σ H Q I h;refine cb (xcP I hg hm ?_ hdb);refine j9 (h₀:=X.base) I.ok.mod.kin M.kp (thn (ha pos pins s σ H _ I h) fun us s1 ⟨vs,H1,I1,r,q⟩=>⟨I1.kIn,?_⟩) he hpl;exact xl6 M F hr hb hd hx I1 r q
end
section
variable {X:Cx} {CX:CXT} {k:Nat} {f C:Addr} {fd:aE} {ps ks:List Str} {sp:Sp} {E:XK} {x m:Str} {p pos apos kpos:Pos} {e o:Expr} {es:List Expr} {kws:List Keyword} {te ta:TE} {t tk:TA} {nm:Option Str}
variable {g:List Value→List Value→List Value} {gV:List V→List V→List V}
end
structure xq(N P:List Str)(sc:Scope):Prop where
 kind:sc.kind= .function
 co:sc.isCoroutine=false
 gen:sc.isGenerator=false
 nd:N.Nodup
 pre:N.take P.length=P
 par:∀x∈P,sc.names.lookup x=some .local∨sc.names.lookup x=some .cell
 nofree:∀y∈sc.names,y.2≠.free
theorem xfX{kindOf:Str→Option dP}{x:Str}:∀{binds:List (Str×Value)} {m:Str→Option Value},(∀v,(x,v)∉binds)→bindL kindOf binds m x=m x
 |[],_,_=>rfl
 |(n,v)::r,m,h=>by
  unfold bindL;rw[xfX fun w hw=>h w (aq _ hw)]
  split
  ·have:x≠n:=by rintro rfl;exact h v aF
   simp[this]
  ·rfl
theorem xfY{kindOf:Str→Option dP}{x:Str}:∀{binds:List (Str×Value)} {m:Str→Option Value},(∀v,(x,v)∉binds)→bindC kindOf binds m x=m x
 |[],_,_=>rfl
 |(n,v)::r,m,h=>by
  unfold bindC;rw[xfY fun w hw=>h w (aq _ hw)]
  split
  ·rfl
  ·have:x≠n:=by rintro rfl;exact h v aF
   simp[this]
theorem xfZ{kindOf:Str→Option dP}{x:Str}{v:Value}:∀{P:List Str} {vs:List Value} {i:Nat} {m:Str→Option Value},P.Nodup→P[i]? =some x→vs[i]? =some v→kindOf x=some .local→
  bindL kindOf (P.zip vs) m x=some v
 |[],_,_,_,_,h,_,_=>by simp at h
 |_::_,[],_,_,_,_,h,_=>by simp at h
 |p::P,w::vs,0,m,nd,h1,h2,hk=>by
  simp at h1 h2;subst h1;subst h2;show bindL kindOf ((p,w)::P.zip vs) m p=_;unfold bindL;rw[xfX fun v hv=>(bT.mp nd).1 (f9 hv).1,if_pos hk];simp
 |p::P,w::vs,i+1,m,nd,h1,h2,hk=>by
  show bindL kindOf ((p,w)::P.zip vs) m x=_;unfold bindL;exact xfZ (i:=i) (bT.mp nd).2 (by simpa using h1) (by simpa using h2) hk
theorem xf0{kindOf:Str→Option dP}{x:Str}{v:Value}:∀{P:List Str} {vs:List Value} {i:Nat} {m:Str→Option Value},P.Nodup→P[i]? =some x→vs[i]? =some v→kindOf x≠some .local→
  bindC kindOf (P.zip vs) m x=some v
 |[],_,_,_,_,h,_,_=>by simp at h
 |_::_,[],_,_,_,_,h,_=>by simp at h
 |p::P,w::vs,0,m,nd,h1,h2,hk=>by
  simp at h1 h2;subst h1;subst h2;show bindC kindOf ((p,w)::P.zip vs) m p=_;unfold bindC;rw[xfY fun v hv=>(bT.mp nd).1 (f9 hv).1,if_neg hk];simp
 |p::P,w::vs,i+1,m,nd,h1,h2,hk=>by
  show bindC kindOf ((p,w)::P.zip vs) m x=_;unfold bindC;exact xf0 (i:=i) (bT.mp nd).2 (by simpa using h1) (by simpa using h2) hk
def start(N:List Str)(vs:List V):St:=vs.map some++bC (N.length - vs.length) none
def xba(CX:CXT)(P:aH)(w:World)(K:ah)(mg:Str→Option Value)(base:Heap)(N:List Str)(qual:Str)(scope:Scope)(f:Addr)(cd:Value)(A:aV)(outer:List Env)(s:ae)(H:Hp)(E:XK):Cx where
 prog:=P
 w:=w
 K:=K
 mg:=mg
 base:=base
 A:=A.deeper (gN qual scope s.heap.objs.size f cd)
 N:=N
 s₀:=s
 H₀:=H
 env:=gN qual scope s.heap.objs.size f cd
 outer:=outer
 stack:=gN qual scope s.heap.objs.size f cd::outer
 ex:=[]
 calm:=true
 cp:=fun _=>true
 fn:=fun _=>true
 pn:=[]
 xe:=fun e s'=>wpAny (model P w) (A.deeper (gN qual scope s.heap.objs.size f cd)) (leaving (gN qual scope s.heap.objs.size f cd) e) (fun _ s''=>CX outer H s E e s'') (fun e' s''=>CX outer H s E e' s'') s'
theorem xgP{sc:Scope}{n:Nat}{x:Str}(h:sc.names.lookup x=some .cell):∃c,(cellsFrom n sc.names []).lookup x=some c:=by
 have q:=ka sc.names n [] (.inl h);exact eW.mp q
theorem xf1{CX:CXT}{P:aH}{w:World}{K:ah}{mg:Str→Option Value}{base:Heap}{N ps:List Str}{qual:Str}{scope:Scope}{f:Addr}{cd:Value}{A:aV}{outer:List Env}{s s1:ae}{H:Hp}{E:XK}{us:List Value}{vs:List V}
  (S:xq N ps scope) (hd:A.handled=none) (e0:vT P w K mg base A outer s H) (hl:vs.length=ps.length) (r:Vals vs us)
  (x:InCallC s s.heap.objs.size (bindL (gN qual scope s.heap.objs.size f cd).kindOf (ps.zip us) fun _=>none) (cellsFrom (s.heap.objs.size+1) scope.names []) (bindC (gN qual scope s.heap.objs.size f cd).kindOf (ps.zip us) fun _=>none) s1):
  Inv (xba CX P w K mg base N qual scope f cd A outer s H E) [] (start N vs) H s1:=by
 have hpl:ps.length≤N.length:=by have:=congrArg cD S.pre;rw[bI]at this;lia
 obtain⟨h1,tk,rfl,hk⟩:=x.done;have noA:∀b:Addr,b∉(xba CX P w K mg base N qual scope f cd A outer s H E).ex:=fun b z=>absurd (show b∈([]:List Addr)from z) (by simp);refine⟨⟨e0.mod,S.kind,rfl,rfl,aj _,fun y z c h1 h2=>?_,fun y hy=>?_,fun y c _ h=>?_,fun _=>hd,lz e0.frames,.inr ⟨rfl,rfl⟩,fun b z=>absurd z (noA b),e0.bs,e0.bsz,fun b _ _=>noA b,fun b z=>absurd z (noA b),e0.funs,e0.frf,fun y c _ h=>cx (x.above y c (PySem.mem_of_lookup h)),fun b hb=>e0.hok.fresh hb⟩,
  rfl,e0.bare,Un.kept hk,⟨_,x.toInCall.ns,fun i y v h1 h2 h3=>?_⟩,fun y c h=>⟨_,x.cell y c h⟩,e0.hok.fresh (aj _),fun y c h=>.inl ?_,fun p hp=>absurd (show p∈([]:List (Addr×Obj))from hp) (by simp),e0.hok.kept hk,?_⟩
 ·exact name_of_addr x.apart (PySem.mem_of_lookup h1) (PySem.mem_of_lookup h2)
 ·have hy:scope.names.lookup y=some .cell∨scope.names.lookup y=some .free:=hy;rcases hy with hy|hy
  ·exact xgP hy
  ·exact absurd rfl (S.nofree _ (PySem.mem_of_lookup hy))
 ·exact cx (x.above y c (PySem.mem_of_lookup h))
 ·have hi:i<vs.length:=by
   unfold start at h2
   by_cases hi:i<vs.length
   ·exact hi
   ·rw[bz (by simpa using hi)]at h2;rw[kq]at h2
    split at h2<;> cases h2
  have ha:vs[i]? =some v:=by
   unfold start at h2;rw[bp (by simpa using hi),ao]at h2;cases e:vs[i]? with
   |none=>rw[e]at h2;cases h2
   |some a=>rw[e]at h2;cases h2;rfl
  obtain⟨u,hu,rv⟩:=r.get ha;have hp:ps[i]? =some y:=by
   rw[←S.pre,cJ (by lia)];exact h1
  have ndP:ps.Nodup:=by rw[←S.pre];exact S.nd.sublist (List.take_sublist _ _)
  refine⟨u,rv,?_⟩;rcases S.par y (aG hp)with k|k
  ·exact .inl ⟨k,xfZ ndP hp hu k⟩
  ·obtain⟨c,e⟩:=xgP (n:=s.heap.objs.size+1) k;refine .inr ⟨.inl k,c,e,?_⟩;have q:=x.cell y c e;rw[xf0 ndP hp hu (by show scope.names.lookup y≠_;rw[k];decide)]at q;exact q
 ·exact e0.hok.fresh (cx (x.above y c (PySem.mem_of_lookup h)))
 ·unfold start;show _=N.length;rw[ar,ab,kY];lia
theorem xnb{CX:CXT}{P:aH}{w:World}{K:ah}{mg:Str→Option Value}{base:Heap}{k:Nat}{f:Addr}{name qual:Str}{params:cy}{body:List Stmt}{scope:Scope}{dV kV doc pm cdv ct oc:Value}{an od:Option Addr}
  {osl:Array (Option Value)} {N ps:List Str} {sp:Sp} (lk:K.lookup f=some ⟨oc,od,.func (dy name qual params body scope dV kV doc pm an cdv ct),osl⟩) (hcd:eX K cdv qual=true) (S:xq N ps scope)
  (len:∀vs H Q E,sp vs H Q E→vs.length=ps.length)
  (hbody:∀(A:aV) (outer:List Env) (s:ae) (H:Hp) (vs:List V) (Q:VK) (E:XK),xR k (A.deeper (gN qual scope s.heap.objs.size f cdv))→sp vs H Q E→
   ∃t,PSs (xba CX P w K mg base N qual scope f cdv A outer s H E) body t∧t {nx:=fun _ H'=>Q .non H',rt:=Q} (start N vs) H):
  xA P w K mg base CX (k+1) f (dy name qual params body scope dV kV doc pm an cdv ct) ps sp:=by
 refine⟨len,fun A outer s H args us vs Q E hr e0 hb r hsp=>?_⟩;have hl:=len _ _ _ _ hsp;have KX:K.In s.heap:=e0.mod.kin.keeps fun b o e=>(e0.bs b o e).1;have lim:s.heap.NoLimit:=e0.mod.nolimit.keeps fun b o e=>(e0.bs b o e).1;have hkind:∀y∈ps.zip us,scope.names.lookup y.1=some .local∨(scope.names.lookup y.1=some .cell∧((cellsFrom (s.heap.objs.size+1) scope.names []).lookup y.1).isSome=true):=fun⟨n,v⟩ hy=>by
  rcases S.par n (f9 hy).1 with q|q
  ·exact .inl q
  ·exact .inr ⟨q,ka _ _ _ (.inl q)⟩
 refine g9 hr.depth (KX _ _ lk) rfl S.co S.gen rfl (W.codeRec_of KX hcd) (hb _ _ _ _ ?_);refine iO S.kind hkind fun env he s1 x=>?_;subst he;refine⟨lim.keeps x.toInCall.keep,codeAny_func ?_⟩;obtain⟨t,ht,hq⟩:=hbody A outer s H vs Q E (hr.deeper _) hsp;have I:Inv (xba CX P w K mg base N qual scope f cdv A outer s H E) [] (start N vs) H s1:=xf1 S hr.hd e0 hl r x;refine bb (ht [] s1 (start N vs) H _ I hq) (fun fl s' hs=>?_) fun e s' hs=>hs;have fin:∀{σ':St} {H':Hp} {v:V} {u:Value},Inv (xba CX P w K mg base N qual scope f cdv A outer s H E) [] σ' H' s'→RelV v u→Q v H'→CE outer P w H s Q u s':=
  fun{σ' H' v u} J rv q=>⟨v,H',J.os,J.bare,J.base,J.hok,rv,q⟩
 cases fl with
 |ret u=>
  obtain⟨v,σ',H',J,rv,q⟩:=hs;exact fin J rv q
 |next=>
  obtain⟨σ',H',J,q⟩:=hs;exact fin (v:=V.non) (u:=bq) J rfl q
 |brk=>
  obtain⟨_,_,_,q⟩:=hs;exact bH q
 |cont=>
  obtain⟨_,_,_,q⟩:=hs;exact bH q
end L2
namespace L2
open PySem PySem.Spec PyProof.Rows
section
variable {X:Cx} {x:Str} {p pos:Pos} {e:Expr} {es:List Expr} {t:TA} {id T:String} {r:List V→Hp→VK→Prop}
def tCB(r:List V→Hp→VK→Prop)(t:TA):TE:=fun σ H Q=>t σ H fun vs H1=>r vs H1 Q
theorem xt(hc:yh X (.builtin id) r)(hg:Gl X x)(hm:X.mg x=none)(hv:bD x=some (.builtin id))(ha:PA X (e::es) t)(hn:x≠"__name__":=by decide)(hdb:(x==("__debug__":Str))=false:=by decide)
  (he:aY (e::es) X.env=(false,eval e X.env)::aY es X.env:=by rfl) (hpl:(cZ pos (aY es X.env)).any (·.1)=false:=by rfl):PE X (.Call (.Name x p) (e::es) [] pos) (tCB r t):=by
 intro pins s σ H Q I h;refine cb (yV I hg hm hv ?_ hn hdb);exact PyProof.Rows.callWith_builtin1 (thn (ha pos pins s σ H _ I h) fun us s1 ⟨vs,H1,I1,r1,q1⟩=>hc pins s1 σ H1 vs us Q I1 r1 q1) he hpl
theorem yB(hc:yh X (.type T) r)(hg:Gl X x)(hm:X.mg x=none)(hv:bD x=some (.type T))(ha:PA X (e::es) t)(hn:x≠"__name__":=by decide)(hdb:(x==("__debug__":Str))=false:=by decide)
  (he:aY (e::es) X.env=(false,eval e X.env)::aY es X.env:=by rfl) (hpl:(cZ pos (aY es X.env)).any (·.1)=false:=by rfl):PE X (.Call (.Name x p) (e::es) [] pos) (tCB r t):=by
 intro pins s σ H Q I h;refine cb (yV I hg hm hv ?_ hn hdb);exact bR (thn (ha pos pins s σ H _ I h) fun us s1 ⟨vs,H1,I1,r1,q1⟩=>hc pins s1 σ H1 vs us Q I1 r1 q1) he hpl
end
end L2
namespace HT
open PySem PyProof.Rows
def lexLt:List Int→List Int→Bool
 |[],[]=>false
 |[],_::_=>true
 |_::_,[]=>false
 |x::xs,y::ys=>if x=y then lexLt xs ys else decide (x<y)
theorem yW(x y:Int)(xs ys:List Int):lexLt (x::xs) (y::ys)=if x=y then lexLt xs ys else decide (x<y):=rfl
theorem xgt:lexLt [] []=false:=rfl
theorem xfd(y:Int)(ys:List Int):lexLt [] (y::ys)=true:=rfl
theorem xfe(x:Int)(xs:List Int):lexLt (x::xs) []=false:=rfl
theorem xgQ(A:aV)(s:ae)(a:Int)(t:Tok)(c:Int)(u:Tok):∃e,mM A s (.int a t) (.int c u) e∧(e=true↔a=c):=
 ⟨(a==c),ma a t c u,by simp⟩
theorem xgR(A:aV)(s:ae)(a:Int)(t:Tok)(c:Int)(u:Tok)(prog:aH)(w:World)(E:Value→ae→Prop)(Q:Value→ae→Prop)(h:Q (.bool (decide (a<c))) s):
  wpAny (model prog w) A (richCompare .Lt (.int a t) (.int c u)) Q E s:=
 (PyProof.Rows.lt_int h:wpAny (model prog w) A (bw .Lt (.int a t) (.int c u)) Q E s)
section
open PySem.SeqAt
open PySem.AutoSeq1 (wpAny_loadPart')
open PySem.MeetsSeq PySem.MeetsSeq2 PySem.MeetsSeq3
theorem xgu(l b:Addr)(items items2:Array Value)(n n2:Nat)(dd dd2:Option Addr)(sl sl2:Array (Option Value))(ns ms:List Int)(hi:cP items.toList ns)(hj:cP items2.toList ms):
  Meets (fY.«tuple.__lt__» ⟨[.ref l,.ref b],[]⟩)
   (fun _ R s=>s.heap.get? l=some {cls:=.type "tuple",dict:=dd,data:=.seq items n,slots:=sl}∧s.heap.get? b=some {cls:=.type "tuple",dict:=dd2,data:=.seq items2 n2,slots:=sl2}∧
    R (.ok (.ret (.bool (lexLt ns ms)))) s):=
 .of_wp fun prog w A R s h=>by
  obtain⟨hp,g,d,tk,os⟩:=s;obtain⟨hl,hb,h⟩:=h;have f2:=AutoSeq1.sub_tuple_tuple;have z1:items.size=ns.length:=by rw[←hi.length];simp
  have z2:items2.size=ms.length:=by rw[←hj.length];simp
  wp_walk using bU hl,bU hb,gT _ (fun rest b s'=>b.1=none∧s'=⟨hp,g,d,tk,os⟩∧∃(vs ws:List Value) (ns' ms':List Int),rest=vs.zip ws∧
   cP vs ns'∧cP ws ms'∧ns'.length+items2.size=ms'.length+items.size∧R (.ok (.ret (.bool (lexLt ns' ms')))) ⟨hp,g,d,tk,os⟩) _
  case turn=>
   rintro⟨y,x⟩ rest b s' ⟨hb',rfl,vs,ws,ns',ms',hz,hvi,hwi,hlen,hR⟩;cases hvi with
   |nil=>rw[List.zip_nil_left]at hz;cases hz
   |cons a t hvi'=>
    cases hwi with
    |nil=>rw[List.zip_nil_right]at hz;cases hz
    |cons c u hwi'=>
     rw[md]at hz;injection hz with hyx hrest;injection hyx with hy hx;subst hy hx;rw[yW]at hR;simp only[aT]at hlen;obtain⟨e,he,hiff⟩:=xgQ A.in1 ⟨hp,g,d,tk,os⟩ a t c u;refine aa (he prog w _ _ ?_);cases e with
     |true=>
      rw[if_pos (hiff.mp rfl)]at hR
      wp_walk
      exact⟨rfl,rfl,_,_,_,_,hrest,hvi',hwi',by lia,hR⟩
     |false=>
      rw[if_neg (fun q=>absurd (hiff.mpr q) aB)]at hR;have hri:=xgR A.in1 ⟨hp,g,d,tk,os⟩ a t c u prog w
      wp_walk using hri
      exact⟨_,rfl,by simpa using hR⟩
  case fin=>
   rintro⟨b1,b2⟩ s' ⟨hb',rfl,vs,ws,ns',ms',hz,hvi,hwi,hlen,hR⟩;simp only at hb';subst hb';have hv:lexLt ns' ms'=decide (items.size<items2.size):=by
    cases hvi with
    |nil=>
     cases hwi with
     |nil=>
      simp only[gc]at hlen;rw[xgt];exact(decide_eq_false (by lia)).symm
     |cons c u hw=>
      simp only[gc,aT]at hlen;rw[xfd];exact(decide_eq_true (by lia)).symm
    |cons a t hv=>
     cases hwi with
     |nil=>
      simp only[gc,aT]at hlen;rw[xfe];exact(decide_eq_false (by lia)).symm
     |cons c u hw=>
      rw[md]at hz;cases hz
   rw[hv]at hR
   wp_walk
   exact⟨_,rfl,by simpa [Builtin.Tuple.tupleCompareSizes]using hR⟩
  case h=>
   exact⟨rfl,rfl,items.toList,items2.toList,ns,ms,rfl,hi,hj,by lia,h⟩
end
section
variable {prog:aH} {w:World} {A:aV} {E:Value→ae→Prop} {s:ae}
theorem xjK{l b:Addr}{items items2:Array Value}{ns ms:List Int}{Q:Value→ae→Prop}(hl:IsTup s.heap l items)(hb:IsTup s.heap b items2)(hi:cP items.toList ns)(hj:cP items2.toList ms)
  (hu:A.units<cLine) (h:Q (.bool (lexLt ns ms)) s):wpAny (model prog w) A (bw .Lt (.ref l) (.ref b)) Q E s:=by
 obtain⟨⟨cls,dd,data,sl⟩,ho,hc,n,hd⟩:=id hl;obtain⟨⟨cls2,dd2,data2,sl2⟩,ho2,hc2,n2,hd2⟩:=id hb;simp only at hc hd hc2 hd2;subst hc hd hc2 hd2;exact richCompare_meets_room (op:=.Lt) ⟨_,ho,rfl⟩ ⟨_,ho2,rfl⟩ PySem.F.slot_tuple_lt PySem.F.entry_tuple_lt (PySem.F.args_tuple_lt_2 _ _) (xgu l b items items2 n n2 dd dd2 sl sl2 ns ms hi hj)
  ⟨ho,ho2,show dU (lexLt ns ms)≠lA∧Q (.bool (lexLt ns ms)) s from⟨(fun x=>nomatch x),h⟩⟩ hu
theorem xnu{t b:Addr}{vs ws:List Value}{Q:Value→ae→Prop}(ht:IsTup s.heap t vs.toArray)(hb:IsTup s.heap b ws.toArray)(hv:vs≠[])
  (h1:ws=[]→Q (.ref t) s) (h2:ws≠[]→Q (.ref s.heap.objs.size) {s with heap:=s.heap.push {cls:=.type "tuple",data:=.seq (vs++ws).toArray}})
  (hsz:vs.length+ws.length≤aL):wpAny (model prog w) A (c6 .Add (.ref t) (.ref b)) Q E s:=by
 obtain⟨⟨cls,dd,data,sl⟩,ho,hc,n,hd⟩:=id ht;obtain⟨⟨cls2,dd2,data2,sl2⟩,ho2,hc2,n2,hd2⟩:=id hb;simp only at hc hd hc2 hd2;subst hc hd hc2 hd2;have e:vs.toArray++ws.toArray=(vs++ws).toArray:=by simp
 by_cases hw:ws=[]
 ·exact concat_meets ⟨_,ho,rfl⟩ ⟨_,ho2,rfl⟩ noFill_tuple_add seq_tuple_add PySem.F.slot_tuple_add PySem.F.entry_tuple_add (PySem.F.args_tuple_add_2 _ _)
   (tuple_addW1 t b vs.toArray ws.toArray n n2 dd dd2 sl sl2 (by simpa using hv) (by simp[hw])) ⟨ho,ho2,h1 hw⟩
 ·refine concat_meets ⟨_,ho,rfl⟩ ⟨_,ho2,rfl⟩ noFill_tuple_add seq_tuple_add PySem.F.slot_tuple_add PySem.F.entry_tuple_add (PySem.F.args_tuple_add_2 _ _)
   (tuple_addW2 t b vs.toArray ws.toArray n n2 dd dd2 sl sl2 (by simpa using hv) (by simpa using hw) (by rw[av,av];exact hsz)) ⟨ho,ho2,?_⟩
  rw[e];exact h2 hw
def sIx(n d:Nat):Option Int→Nat
 |none=>d
 |some v=>if v<0 then(v+(n:Int)).toNat else min v.toNat n
theorem jv(n d:Nat):sIx n d none=d:=rfl
theorem xoT(n d:Nat)(hd:d≤n)(o:Option Int):sIx n d o≤n:=by
 cases o with
 |none=>exact hd
 |some v=>
  show(if v<0 then(v+(n:Int)).toNat else min v.toNat n)≤n
  by_cases hv:v<0
  ·rw[if_pos hv];lia
  ·rw[if_neg hv];exact Nat.min_le_right _ _
theorem xi1(v:Int)(n d:Nat):(if v<0 then max (v+(n:Int)) 0 else min v (n:Int))=((sIx n d (some v):Nat):Int):=by
 show(if v<0 then max (v+(n:Int)) 0 else min v (n:Int))=(((if v<0 then(v+(n:Int)).toNat else min v.toNat n):Nat):Int)
 by_cases hv:v<0
 ·simp only[if_pos hv];lia
 ·simp only[if_neg hv];lia
theorem xjL(lo hi:Option Int)(n:Nat):gd lo hi 1 (n:Int)=(((sIx n 0 lo:Nat):Int),((sIx n n hi:Nat):Int)):=by
 have h1:¬((1:Int)<0):=by lia
 unfold gd;simp only[h1,if_false];refine Prod.ext ?_ ?_
 ·cases lo with
  |none=>rfl
  |some v=>exact xi1 v n 0
 ·cases hi with
  |none=>rfl
  |some v=>exact xi1 v n n
theorem xjM(i j:Nat):eO (i:Int) (j:Int) 1=j - i:=by
 unfold eO;have h1:(1:Int) > 0:=by lia
 simp only[h1,if_true,Int.ediv_one]
 split<;> lia
theorem xel{v:Value}{o:Option Int}{Q:Option Int→ae→Prop}(p:ic v o)(h:Q o s):wpAny (model prog w) A (Builtin.Slice.slicePartIndex v) Q E s:=by
 cases p with
 |none=>exact slicePart_none h
 |int i t=>exact slicePart_int h
theorem xdJ{sl:Addr}{vl vu:Value}{lo hi:Option Int}{n:Nat}{Q:Int×Int×Nat→ae→Prop}(hs:s.heap.IsSliceOf sl vl vu .none)(pl:ic vl lo)(pu:ic vu hi)
  (h:Q (((sIx n 0 lo:Nat):Int),1,sIx n n hi - sIx n 0 lo) s):wpAny (model prog w) A (iP (.ref sl) (pure (n:Int))) Q E s:=by
 obtain⟨os,hos,hcs,hds⟩:=id hs;unfold iP Builtin.Slice.sliceFields;refine aa (aa (dD hos hds (x:=vl) rfl (aa (dD hos hds (x:=vu) rfl (aa (dD hos hds (x:=.none) rfl (ag ?_)))))));refine aa (slicePart_none ?_);show wpAny _ _ (if ((1:Int)==0)=true then _ else _) _ _ s;rw[if_neg (by decide)];refine aa (xel pl (aa (xel pu (aa (ag ?_)))));show wpAny _ _ (match gd lo hi 1 (n:Int)with|(lo,hi)=>pure (lo,(1:Int),eO lo hi 1)) _ _ s;rw[xjL lo hi n];show wpAny _ _ (pure (((sIx n 0 lo:Nat):Int),(1:Int),eO ((sIx n 0 lo:Nat):Int) ((sIx n n hi:Nat):Int) 1)) _ _ s;rw[xjM];exact ag h
theorem xl7(xs:Array Value)(i k:Nat):((aO k).filterMap fun(m:Nat)=>xs[((i:Int)+(m:Int)*1).toNat]?).toArray=((xs.toList.drop i).take k).toArray:=by
 have e:(fun(m:Nat)=>xs[((i:Int)+(m:Int)*1).toNat]?)=fun m=>xs[i+m]? :=by
  funext m
  have:((i:Int)+(m:Int)*1).toNat=i+m:=by lia
  rw[this]
 rw[e];have:=pick_run xs i k;rw[me]at this;have e2:((fun x=>xs[x]?)∘fun x=>i+x)=fun m=>xs[i+m]? :=rfl;rw[e2]at this;rw[this]
theorem xc6{t sl:Addr}{items:Array Value}{vl vu:Value}{lo hi:Option Int}{Q:Value→ae→Prop}(ht:IsTup s.heap t items)(hs:s.heap.IsSliceOf sl vl vu .none)(pl:ic vl lo)(pu:ic vu hi)
  (hw:¬(sIx items.size 0 lo=0∧sIx items.size items.size hi=items.size))
  (h:Q (.ref s.heap.objs.size) {s with heap:=s.heap.push {cls:=.type "tuple",data:=.seq ((items.toList.drop (sIx items.size 0 lo)).take (sIx items.size items.size hi - sIx items.size 0 lo)).toArray}})
  (hsz:items.size≤aL):wpAny (model prog w) A (getItem (.ref t) (.ref sl)) Q E s:=by
 have htake:sizeOk (.seq ((items.toList.drop (sIx items.size 0 lo)).take (sIx items.size items.size hi - sIx items.size 0 lo)).toArray):=by
  show((items.toList.drop (sIx items.size 0 lo)).take (sIx items.size items.size hi - sIx items.size 0 lo)).toArray.size≤aL;rw[av,bI,aX,aR];lia
 have hj:sIx items.size items.size hi≤items.size:=xoT _ _ (aj _) hi;obtain⟨os,hos,hcs,hds⟩:=id hs;have hTs:s.TypeIs (.ref sl) "slice":=⟨os,hos,hcs⟩;unfold getItem
 try with_reducible refine bo ?_
 first|refine aa (ag ?_)|skip
 refine aa (wpAny_sequenceKey ht.typeIs (by decide) ?_);refine aa (dO (name:=bP "__getitem__") ht.typeIs ff
  (fP ff ht.typeIs entry_tuple_getitem ?_ (args_tuple_getitem _ _)))
 show wpAny _ _ (Builtin.Tuple.tupleItemsOf (.ref t) >>= _) _ _ s;refine aa (tupleItemsOf_ ht ?_);refine aa (fK hTs ?_);rw[if_pos (by decide)];refine aa (xdJ hs pl pu ?_);have hno:¬((((sIx items.size 0 lo:Nat):Int)==0&&(1:Int)==1&&(sIx items.size items.size hi - sIx items.size 0 lo)==items.size)=true):=by
  intro q;rw[dv,dv]at q;have q1:((sIx items.size 0 lo:Nat):Int)=0:=eq_of_beq q.1.1;have q2:sIx items.size items.size hi - sIx items.size 0 lo=items.size:=eq_of_beq q.2;exact hw ⟨by lia,by lia⟩
 show wpAny _ _ (if (((sIx items.size 0 lo:Nat):Int)==0&&(1:Int)==1&&(sIx items.size items.size hi - sIx items.size 0 lo)==items.size)=true then _ else _) _ _ s;rw[if_neg hno,xl7]
 first
  |exact aa (m:=eY _) (cX (ag ⟨_,rfl,ag h⟩) htake)
  |exact aa (m:=eY _) (cX (aa (ag (ag ⟨_,rfl,ag h⟩))) htake)
  |exact aa (aa (m:=eY _) (cX (ag (ag ⟨_,rfl,ag h⟩)) htake))
  |exact aa (aa (m:=eY _) (cX (ag ⟨_,rfl,ag h⟩) htake))
end
end HT
namespace L2
open PySem PySem.Spec PyProof.Rows
abbrev TO:=St→Hp→(Option Int→Hp→Prop)→Prop
def PO(X:Cx)(e:Option Expr)(t:TO):Prop:=
 ∀(pins:List (Addr×Obj)) (s:ae) (σ:St) (H:Hp) (Q:Option Int→Hp→Prop),Inv X pins σ H s→t σ H Q→
  wpAny (model X.prog X.w) X.A (evalPart e X.env) (fun u s'=>∃o H',Inv X pins σ H' s'∧ic u o∧Q o H') X.xe s
def xnv:TO:=fun _ H Q=>Q none H
def xpX(t:TE):TO:=fun σ H Q=>t σ H fun x H1=>∃i,x= .int i∧Q (some i) H1
theorem intsAre_of{ns:List Int}:∀{us:List Value},Vals (ns.map V.int) us→cP us ns:=by
 induction ns with
 |nil=>intro us r;rw[mh]at r;cases r;exact .nil
 |cons n ns ih=>
  intro us r;rw[bc]at r;cases r with
  |cons r1 r2=>
   obtain⟨t,e⟩:=r1;subst e;exact .cons n t (ih r2)
section
variable {X:Cx} {e:Expr} {te:TE} {lo hi:Option Expr} {tl th:TO} {pos p2:Pos}
theorem vf:PO X none xnv:=by
 intro pins s σ H Q I h;rw[lO];exact ag ⟨none,H,I,.none,h⟩
theorem yb(h:PE X e te):PO X (some e) (xpX te):=by
 intro pins s σ H Q I hw;rw[evalPart_some];refine thn (h pins s σ H _ I hw) fun u s1 ⟨x,H1,I1,r1,q1⟩=>?_;obtain⟨i,rfl,q⟩:=q1;obtain⟨t,rfl⟩:=r1;exact⟨some i,H1,I1,.int i t,q⟩
def SlR(X:Cx)(r:V→Option Int→Option Int→Hp→VK→Prop):Prop:=
 ∀(pins:List (Addr×Obj)) (s:ae) (σ:St) (H:Hp) (x:V) (v vl vu:Value) (lo hi:Option Int) (sl:Addr) (Q:VK),Inv X pins σ H s→RelV x v→s.heap.IsSliceOf sl vl vu .none→ic vl lo→ic vu hi→r x lo hi H Q→
  ∃T id,lB (.type T) "__getitem__"=pure (some (.builtin id))∧s.TypeIs v T∧wpAny (model X.prog X.w) X.A (getItem v (.ref sl)) (EP X pins σ Q) X.xe s
def tSl(r:V→Option Int→Option Int→Hp→VK→Prop)(te:TE)(tl th:TO):TE:=fun σ H Q=>te σ H fun x H1=>tl σ H1 fun l H2=>th σ H2 fun u H3=>r x l u H3 Q
theorem yF{r:V→Option Int→Option Int→Hp→VK→Prop}(hr:SlR X r)(he:PE X e te)(hl:PO X lo tl)(hu:PO X hi th):PE X (.Subscript e (.Slice lo hi none p2) pos) (tSl r te tl th):=by
 intro pins s σ H Q I h;refine Subscript_ (thn (he pins s σ H _ I h) fun v s1 ⟨x,H1,I1,r1,q1⟩=>?_);refine wpAny_Slice (thn (hl pins s1 σ H1 _ I1 q1) fun vl s2 ⟨l,H2,I2,pl,q2⟩=>thn (hu pins s2 σ H2 _ I2 q2) fun vu s3 ⟨u,H3,I3,pu,q3⟩=>?_);rw[lO];refine ag ?_;have I4:Inv X pins σ H3 {s3 with heap:=s3.heap.push {cls:=.type "slice",data:=.fields #[vl,vu,.none]}}:=I3.kept (t':=s3.toks) fun b ob q=>af _ q;obtain⟨T,id,hT,ht,hg⟩:=hr pins {s3 with heap:=s3.heap.push {cls:=.type "slice",data:=.fields #[vl,vu,.none]}} σ H3 x v vl vu l u s3.heap.objs.size Q I4 r1 (mi ..) pl pu q3;show wpAny (model X.prog X.w) X.A (subscriptTail e (.Slice lo hi none p2) v (.ref s3.heap.objs.size)) (EP X pins σ Q) X.xe {s3 with heap:=s3.heap.push {cls:=.type "slice",data:=.fields #[vl,vu,.none]}};exact tail_any (ops:=[.ref s3.heap.objs.size,v]) ht hT hg (by with_unfolding_all rfl)
def zB(xs:List V)(lo hi:Option Int):List V:=(xs.drop (HT.sIx xs.length 0 lo)).take (HT.sIx xs.length xs.length hi - HT.sIx xs.length 0 lo)
theorem xdg(xs:List V)(lo hi:Option Int):(zB xs lo hi).length≤xs.length:=by
 unfold zB;rw[bI,aX];lia
def xqH(K:ah):V→Option Int→Option Int→Hp→VK→Prop:=fun x lo hi H Q=>∃a xs,x= .ref a∧SqT K H a xs∧
 ¬(HT.sIx xs.length 0 lo=0∧HT.sIx xs.length xs.length hi=xs.length)∧∀p,H p=none→Q (.ref p) (upd H p (.tup (zB xs lo hi)))
theorem xoU:SlR X (xqH X.K):=by
 intro pins s σ H x v vl vu lo hi sl Q I rx hs pl pu h;obtain⟨a,xs,rfl,hx,hw,q⟩:=h;cases rx;obtain⟨its,r,ht,hz⟩:=I.tuple hx;have hlen:its.toArray.size=xs.length:=by rw[av];exact r.length.symm
 refine⟨"tuple",_,ff.lookup,ht.typeIs,?_⟩;refine HT.xc6 ht hs pl pu (by rw[hlen];exact hw) ?_ (by rw[hlen];exact hz);rw[hlen];refine⟨.ref s.heap.objs.size,_,I.laid (t':=s.toks) (o:=.tup (zB xs lo hi)) (fun b ob q=>af _ q) (aj _) ?_,rfl,q _ (I.hok.fresh (aj _))⟩;exact⟨bg (xdg xs lo hi) hz,_,(r.drop (HT.sIx xs.length 0 lo)).take (HT.sIx xs.length xs.length hi - HT.sIx xs.length 0 lo),IsTup.new _ _⟩
def xpY(K:ah):R2:=fun x y H Q=>∃a b xs ys,x= .ref a∧y= .ref b∧SqT K H a xs∧SqT K H b ys∧xs≠[]∧xs.length+ys.length≤aL∧
 (ys=[]→Q (.ref a) H)∧(ys≠[]→∀p,H p=none→Q (.ref p) (upd H p (.tup (xs++ys))))
theorem Vals.nil_iff{xs:List V}{us:List Value}(r:Vals xs us):us=[]↔xs=[]:=by
 cases r with
 |nil=>simp
 |cons _ _=>simp
theorem xnw:OpR X (c6 .Add) (xpY X.K):=by
 intro pins s σ H x y v u Q I rx ry h;obtain⟨a,b,xs,ys,rfl,rfl,ha,hb,hx,hz,q1,q2⟩:=h;cases rx;cases ry;obtain⟨its,r1,p1,_⟩:=I.tuple ha;obtain⟨its2,r2,p2,_⟩:=I.tuple hb;refine HT.xnu p1 p2 (fun z=>hx (r1.nil_iff.mp z)) (fun z=>⟨.ref a,H,I,rfl,q1 (r2.nil_iff.mp z)⟩) (fun z=>?_) (by rw[←r1.length,←r2.length];exact hz);refine⟨.ref s.heap.objs.size,_,I.laid (t':=s.toks) (o:=.tup (xs++ys)) (fun b ob q=>af _ q) (aj _) ?_,rfl,q2 (fun w=>z (r2.nil_iff.mpr w)) _ (I.hok.fresh (aj _))⟩;exact⟨by rw[ar];exact hz,_,r1.append r2,IsTup.new _ _⟩
end
end L2
namespace L2
open PySem PySem.Spec PyProof.Rows
def ixN(n:Nat)(i:Int):Option Nat:=if 0≤i then(if i<n then some i.toNat else none)else if -(n:Int)≤i then some (i+n).toNat else none
def atI{α:Type}(xs:List α)(i:Int):Option α:=(ixN xs.length i).bind fun j=>xs[j]?
theorem xi2{n:Nat}{i:Int}{j:Nat}(h:ixN n i=some j):seqIndex? i n=some j∧j<n∧-(n:Int)≤i∧i<n:=by
 unfold ixN at h
 by_cases h0:0≤i
 ·rw[if_pos h0]at h
  by_cases h1:i<n
  ·rw[if_pos h1]at h;have e:i.toNat=j:=br h;exact⟨by rw[seqIndex_of h0 h1,e],by lia,by lia,h1⟩
  ·rw[if_neg h1]at h;cases h
 ·rw[if_neg h0]at h
  by_cases h1: -(n:Int)≤i
  ·rw[if_pos h1]at h;have e:(i+n).toNat=j:=br h;exact⟨by rw[seqIndex_neg (by lia) h1,e],by lia,h1,by lia⟩
  ·rw[if_neg h1]at h;cases h
theorem xi3{α:Type}{xs:List α}{i:Int}{v:α}(h:atI xs i=some v):∃j,seqIndex? i xs.length=some j∧xs[j]? =some v∧j<xs.length∧-(xs.length:Int)≤i∧i<xs.length:=by
 unfold atI at h;cases e:ixN xs.length i with
 |none=>rw[e]at h;cases h
 |some j=>
  rw[e]at h;obtain⟨h1,h2,h3,h4⟩:=xi2 e;exact⟨j,h1,h,h2,h3,h4⟩
theorem yJ{α:Type}{xs:List α}{j:Nat}{v:α}(h:xs[j]? =some v):atI xs (j:Int)=some v:=by
 have hj:j<xs.length:=(aD.mp h).1;have e:ixN xs.length (j:Int)=some j:=by
  unfold ixN;rw[if_pos (by lia),if_pos (by lia)];simp
 unfold atI;rw[e];exact h
def xnx(b:Expr):Prop:=∀o i,subscripted b false o i=operate [o,i] (getItem o i)
def IxR(X:Cx)(r:R2):Prop:=
 ∀(value slice:Expr) (pins:List (Addr×Obj)) (s:ae) (σ:St) (H:Hp) (x y:V) (v u:Value) (Q:VK),Inv X pins σ H s→RelV x v→RelV y u→r x y H Q→
  subscripted slice false v u=operate [v,u] (getItem v u)→wpAny (model X.prog X.w) X.A (subscriptTail value slice v u) (EP X pins σ Q) X.xe s
def MtR(X:Cx)(id:String)(r:V→List V→Hp→VK→Prop):Prop:=
 ∀(pins:List (Addr×Obj)) (s:ae) (σ:St) (H:Hp) (x:V) (xs:List V) (v:Value) (us:List Value) (Q:VK),Inv X pins σ H s→RelV x v→Vals xs us→r x xs H Q→
  wpAny (model X.prog X.w) X.A (call (.builtin id) (v::us)) (EP X pins σ Q) X.xe s
section
variable {X:Cx} {a b:Expr} {ta tb:TE} {pos:Pos}
theorem xu{r:R2}(hr:IxR X r)(ha:PE X a ta)(hb:PE X b tb)(hs:xnx b):PE X (.Subscript a b pos) (tOp r ta tb):=by
 intro pins s σ H Q I h;exact Subscript_ (xl2 ha hb I h fun v u s2 x y H2 I2 rx ry q=>hr a b pins s2 σ H2 x y v u Q I2 rx ry q (hs _ _))
def xoV(K:ah):R2:=fun x y H Q=>∃p xs i v,x= .ref p∧y= .int i∧SqL K H p xs∧atI xs i=some v∧Q v H
def xoW(K:ah):R2:=fun x y H Q=>∃p xs i v,x= .ref p∧y= .int i∧SqT K H p xs∧atI xs i=some v∧Q v H
theorem xX:IxR X (xoV X.K):=by
 intro value slice pins s σ H x y v u Q I rx ry h hs;obtain⟨p,xs,i,z,rfl,rfl,hq,he,q⟩:=h;cases rx;obtain⟨t,rfl⟩:=ry;obtain⟨its,r,pl,hz⟩:=I.list hq;obtain⟨j,h1,h2,h3,h4,h5⟩:=xi3 he;obtain⟨w,ew,rw'⟩:=r.get h2;have hl:=r.length;have hn:=xei;have fin:EP X pins σ Q w s:=⟨z,H,I,rw',q⟩
 by_cases h0:0≤i
 ·have hj:i.toNat=j:=by
   rw[seqIndex_of h0 h5]at h1;exact br h1
  exact item_listR pl.isList h0 (by lia) (by rw[hj];simpa using ew) fin hs
 ·have hj:(i+(its.toArray.size:Int)).toNat=j:=by
   rw[seqIndex_neg (by lia) h4]at h1;rw[av,←hl];exact br h1
  exact subscriptTail_builtinR (x:=w) pl.isList.typeIs slot_list_getitem.lookup
   (wpAny_getItem_list_neg (Q:=fun r s'=>r=w∧EP X pins σ Q r s') pl.isList (by lia) (by rw[av]<;> lia) (by lia) (by rw[hj];simpa using ew) ⟨rfl,fin⟩) hs
theorem xx:IxR X (xoW X.K):=by
 intro value slice pins s σ H x y v u Q I rx ry h hs;obtain⟨p,xs,i,z,rfl,rfl,hq,he,q⟩:=h;cases rx;obtain⟨t,rfl⟩:=ry;obtain⟨its,r,pl,hz⟩:=I.tuple hq;obtain⟨j,h1,h2,h3,h4,h5⟩:=xi3 he;obtain⟨w,ew,rw'⟩:=r.get h2;have hl:=r.length;have hn:=xei;have fin:EP X pins σ Q w s:=⟨z,H,I,rw',q⟩;exact subscriptTail_builtinR (x:=w) pl.typeIs slot_tuple_getitem.lookup
  (getItem_tuple (j:=j) (Q:=fun r s'=>r=w∧EP X pins σ Q r s') pl (by lia) (by lia) (by rw[av,←hl];exact h1) (by simpa using ew) ⟨rfl,fin⟩) hs
theorem xjN(its:List Value)(n j:Nat)(u:Value):aW (·.setIfInBounds j u) {cls:=.type "list",data:=.seq its.toArray n}={cls:=.type "list",data:=.seq (its.set j u).toArray n}:=by
 simp[aW]
theorem Inv.lst{pins:List (Addr×Obj)}{σ:St}{H:Hp}{s:ae}{p:Addr}{xs:List V}(I:Inv X pins σ H s)(h:H p=some (.lst xs)):
  ∃(its:List Value) (n:Nat),Vals xs its∧s.heap.get? p=some {cls:=.type "list",data:=.seq its.toArray n}∧xs.length≤aL:=by
 obtain⟨z,its,n,r,e⟩:=I.hok p _ h;exact⟨its,n,r,e,z⟩
theorem Inv.lstUpd{pins:List (Addr×Obj)}{σ:St}{H:Hp}{s:ae}{p:Addr}{xs ys:List V}{its its':List Value}{n n':Nat}{f:Obj→Obj}(I:Inv X pins σ H s)(h:H p=some (.lst xs))
  (ho:s.heap.get? p=some {cls:=.type "list",data:=.seq its.toArray n}) (hf:f {cls:=.type "list",data:=.seq its.toArray n}={cls:=.type "list",data:=.seq its'.toArray n'}) (r:Vals ys its') (hz:ys.length≤aL) (t:Nat):
  Inv X pins σ (upd H p (.lst ys)) {s with heap:=s.heap.update p f,toks:=t}:=by
 have e:(s.heap.update p f).get? p=some {cls:=.type "list",data:=.seq its'.toArray n'}:=by
  rw[cm f ho (by rw[hf]<;> rfl),hf]
 refine I.write (x:=p) (e:=p) (by rw[h];trivial) (.inl rfl) (fun b u hb q=>(bA _ _ (bE hb)).trans q) ⟨_,e⟩ ?_;exact⟨hz,its',n',r,e⟩
def xpZ:V→V→V→Hp→(Hp→Prop)→Prop:=fun o i v H Q=>∃p xs k j,o= .ref p∧i= .int k∧H p=some (.lst xs)∧ixN xs.length k=some j∧Q (upd H p (.lst (xs.set j v)))
theorem set_list:xoF X xpZ:=by
 intro pins s σ H o i v ov iv u Q I ro ri rv h;obtain⟨p,xs,k,j,rfl,rfl,hp,hj,q⟩:=h;cases ro;obtain⟨t,rfl⟩:=ri;obtain⟨its,n,r,ho,hz⟩:=I.lst hp;obtain⟨h1,h2,h3,h4⟩:=xi2 hj;have hl:=r.length;have hn:=xei;have I':Inv X pins σ (upd H p (.lst (xs.set j v))) {s with heap:=s.heap.update p (aW (·.setIfInBounds j u))}:=
  I.lstUpd hp ho (xjN its n j u) (r.set rv j) (by rw[List.length_set];exact hz) s.toks
 by_cases h0:0≤k
 ·have hk:k.toNat=j:=by
   rw[seqIndex_of h0 h4]at h1;exact br h1
  exact W.ki_setAt ho h0 (by lia) (by rw[av,←hl];exact h4) (by rw[hk];exact⟨_,I',q⟩)
 ·have hk:(k+(its.toArray.size:Int)).toNat=j:=by
   rw[seqIndex_neg (by lia) h3]at h1;rw[av,←hl];exact br h1
  exact W.ki_setBack ho (by lia) (by rw[av,←hl];exact h3) (by lia) (by rw[hk];exact⟨_,I',q⟩)
theorem xgS(lo hi:Option Int)(n:Nat):(eV lo hi none n).1=((HT.sIx n 0 lo:Nat):Int)∧(eV lo hi none n).2.1=((HT.sIx n n hi:Nat):Int)∧(eV lo hi none n).2.2=1:=by
 refine⟨?_,?_,rfl⟩
 ·cases lo with
  |none=>simp[eV,HT.sIx]
  |some i=>
   simp only[eV,HT.sIx,kc,show(1:Int) > 0 by decide,if_true]
   by_cases h:i<0
   ·simp only[h,if_true]<;> lia
   ·simp only[h,if_false]<;> lia
 ·cases hi with
  |none=>simp[eV,HT.sIx]
  |some i=>
   simp only[eV,HT.sIx,kc,show(1:Int) > 0 by decide,if_true]
   by_cases h:i<0
   ·simp only[h,if_true]<;> lia
   ·simp only[h,if_false]<;> lia
theorem xgv(its:List Value)(lo hi:Option Int):slicePick its.toArray lo hi none=((its.drop (HT.sIx its.length 0 lo)).take (HT.sIx its.length its.length hi - HT.sIx its.length 0 lo)).toArray:=by
 obtain⟨h1,h2,h3⟩:=xgS lo hi its.toArray.size;unfold slicePick;rw[h1,h2,h3];simp only[sliceRange_one,pick_run,av]<;> rfl
def xoX(K:ah):V→Option Int→Option Int→Hp→VK→Prop:=fun x lo hi H Q=>∃a xs,x= .ref a∧SqL K H a xs∧∀p,H p=none→Q (.ref p) (upd H p (.lst (zB xs lo hi)))
theorem zf:SlR X (xoX X.K):=by
 intro pins s σ H x v vl vu lo hi sl Q I rx hs pl pu h;obtain⟨a,xs,rfl,hx,q⟩:=h;cases rx;obtain⟨its,r,ht,hz⟩:=I.list hx;have hlen:=r.length;refine⟨"list",_,slot_list_getitem.lookup,ht.isList.typeIs,?_⟩;refine wpAny_getItem_list_slice ht.isList hs pl pu .none (by simp) ?_ (by rw[av]<;> lia);rw[xgv,←hlen];refine⟨.ref s.heap.objs.size,_,I.laid (t':=s.toks) (o:=.lst (zB xs lo hi)) (fun b ob q=>af _ q) (aj _) ?_,rfl,q _ (I.hok.fresh (aj _))⟩;exact⟨bg (xdg xs lo hi) hz,_,0,(r.drop (HT.sIx xs.length 0 lo)).take (HT.sIx xs.length xs.length hi - HT.sIx xs.length 0 lo),az _ rfl⟩
def jb:V→Bool
 | .non=>true
 | .bl _=>true
 | .int _=>true
 | .str _=>true
 |_=>false
def eqV:V→V→Bool
 | .non,.non=>true
 | .bl a,.bl b=>a==b
 | .bl a,.int b=>(if a then 1 else 0)==b
 | .int a,.bl b=>a==(if b then 1 else 0)
 | .int a,.int b=>a==b
 | .str a,.str b=>a==b
 |_,_=>false
theorem xoY{A:aV}{s:ae}{y x:V}{u v:Value}(ry:RelV y u)(rx:RelV x v)(fy:jb y=true)(fx:jb x=true):mM A s u v (eqV y x):=by
 cases y with
 |non=>
  cases ry;cases x with
  |non=>cases rx;exact SeqAt.EqAt.same _
  |bl b=>cases rx;exact SeqAt.EqAt.none_bool b
  |int b=>obtain⟨t,rfl⟩:=rx;exact SeqAt.EqAt.none_int b t
  |str b=>obtain⟨t,rfl⟩:=rx;exact SeqAt.EqAt.none_str b t
  |_=>exact absurd (show false=true from fx) aB
 |bl a=>
  cases ry;cases x with
  |non=>cases rx;exact SeqAt.EqAt.bool_none a
  |bl b=>cases rx;exact SeqAt.EqAt.bool_bool a b
  |int b=>obtain⟨t,rfl⟩:=rx;exact SeqAt.EqAt.bool_int a b t
  |str b=>obtain⟨t,rfl⟩:=rx;exact SeqAt.EqAt.bool_str a b t
  |_=>exact absurd (show false=true from fx) aB
 |int a=>
  obtain⟨t',rfl⟩:=ry;cases x with
  |non=>cases rx;exact SeqAt.EqAt.int_none a t'
  |bl b=>cases rx;exact SeqAt.EqAt.int_bool a t' b
  |int b=>obtain⟨t,rfl⟩:=rx;exact ma a t' b t
  |str b=>obtain⟨t,rfl⟩:=rx;exact l5 a t' b t
  |_=>exact absurd (show false=true from fx) aB
 |str a=>
  obtain⟨t',rfl⟩:=ry;cases x with
  |non=>cases rx;exact SeqAt.EqAt.str_none a t'
  |bl b=>cases rx;exact SeqAt.EqAt.str_bool a t' b
  |int b=>obtain⟨t,rfl⟩:=rx;exact l6 a t' b t
  |str b=>obtain⟨t,rfl⟩:=rx;exact SeqAt.EqAt.str_str a t' b t
  |_=>exact absurd (show false=true from fx) aB
 |_=>exact absurd (show false=true from fy) aB
def eqU(x:V)(u:Value):Bool:=match u with
 | .none=>eqV .non x
 | .bool b=>eqV (.bl b) x
 | .int i _=>eqV (.int i) x
 | .str z _=>eqV (.str z) x
 |_=>false
theorem xkR{x y:V}{u:Value}(r:RelV y u)(f:jb y=true):eqU x u=eqV y x:=by
 cases y with
 |non=>cases r;rfl
 |bl b=>cases r;rfl
 |int i=>obtain⟨t,rfl⟩:=r;rfl
 |str z=>obtain⟨t,rfl⟩:=r;rfl
 |_=>exact absurd (show false=true from f) aB
theorem xff{x:V}:∀{xs:List V} {us:List Value},Vals xs us→xs.all jb=true→us.any (eqU x)=xs.any fun y=>eqV y x
 |_,_,.nil,_=>rfl
 |y::xs,u::us,.cons r t,f=>by
  rw[List.all_cons,dv]at f;rw[gS,gS,xkR r f.1,xff t f.2]
theorem xdK{A:aV}{s:ae}{x:V}{v:Value}(rx:RelV x v)(fx:jb x=true):∀{xs:List V} {us:List Value},Vals xs us→xs.all jb=true→∀u∈us,mM A s u v (eqU x u)
 |_,_,.nil,_=>fun u hu=>by cases hu
 |y::xs,u::us,.cons r t,f=>fun u' hu=>by
  rw[List.all_cons,dv]at f;rcases ax.mp hu with rfl|hu
  ·rw[xkR r f.1];exact xoY r rx f.1 fx
  ·exact xdK rx fx t f.2 u' hu
def inV(x:V)(xs:List V):Bool:=xs.any fun y=>eqV y x
def rIn(K:ah)(neg:Bool):R2:=fun x y H Q=>∃p xs,y= .ref p∧(SqL K H p xs∨SqT K H p xs)∧jb x=true∧xs.all jb=true∧Q (.bl (if neg then !inV x xs else inV x xs)) H
theorem xgT:OpR X (bw .NotIn) (rIn X.K true):=by
 intro pins s σ H x y v u Q I rx ry h;obtain⟨p,xs,rfl,hq,fx,fs,q⟩:=h;cases ry;rcases hq with hq|hq
 ·obtain⟨its,r,pl,hz⟩:=I.list hq;refine SeqAt.notIn_listAt (eqU x) pl.isList (fun w hw=>xdK rx fx r fs w (by simpa using hw)) ⟨.bl _,H,I,rfl,?_⟩;rw[show its.toArray.any (eqU x)=its.any (eqU x)by simp,xff r fs];exact q
 ·obtain⟨its,r,pl,hz⟩:=I.tuple hq;refine SeqAt.notIn_tupleAt (eqU x) pl (fun w hw=>xdK rx fx r fs w (by simpa using hw)) ⟨.bl _,H,I,rfl,?_⟩;rw[show its.toArray.any (eqU x)=its.any (eqU x)by simp,xff r fs];exact q
theorem xy:yh X (.builtin "len") (fun xs H Q=>∃p ys,xs=[.ref p]∧(SqL X.K H p ys∨SqT X.K H p ys)∧Q (.int ys.length) H):=by
 intro pins s σ H xs us Q I r h;obtain⟨p,ys,rfl,hq,q⟩:=h;obtain⟨u,rfl,rx⟩:=vals1 r;cases rx;have hn:=xei;rcases hq with hq|hq
 ·obtain⟨its,r',pl,hz⟩:=I.list hq;have hlen:=r'.length;exact Calls.call_len_list pl.isList (by simp only[av]<;> lia) ⟨.int ys.length,H,I.tok _,⟨s.toks+1,by rw[av,hlen]⟩,q⟩
 ·obtain⟨its,r',pl,hz⟩:=I.tuple hq;have hlen:=r'.length;exact len_tuple pl (by simp only[av]<;> lia) ⟨.int ys.length,H,I.tok _,⟨s.toks+1,by rw[av,hlen]⟩,q⟩
theorem jw:yh X (.type "list") (fun xs H Q=>∃p ys,xs=[.ref p]∧(SqL X.K H p ys∨SqT X.K H p ys)∧∀l,H l=none→Q (.ref l) (upd H l (.lst ys))):=by
 intro pins s σ H xs us Q I r h;obtain⟨p,ys,rfl,hq,q⟩:=h;obtain⟨u,rfl,rx⟩:=vals1 r;cases rx;have fin:∀(its:List Value),Vals ys its→ys.length≤aL→∀(h':Heap) (c':Nat),(∀b o',s.heap.get? b=some o'→h'.get? b=some o')→
   h'.get? s.heap.objs.size=some {cls:=.type "list",dict:=none,data:=.seq its.toArray c',slots:=#[]}→EP X pins σ Q (.ref s.heap.objs.size) {s with heap:=h'}:=fun its r' hz h' c' kp e=>
  ⟨.ref s.heap.objs.size,_,I.laid (t':=s.toks) kp (aj _) (show xG X.prog X.w _ h' _ (.lst ys)from⟨hz,its,c',r',e⟩),rfl,q _ (I.hok.fresh (aj _))⟩
 rcases hq with hq|hq
 ·obtain⟨its,r',pl,hz⟩:=I.list hq;have hlen:=r'.length;obtain⟨o,ho,hc,n,hd⟩:=pl.isList;exact call_list_seq p (.inl rfl) ho hc hd (fun h' c' kp e=>fin its r' hz h' c' kp e) (by simp only[av]<;> lia)
 ·obtain⟨its,r',pl,hz⟩:=I.tuple hq;have hlen:=r'.length;obtain⟨o,ho,hc,n,hd⟩:=pl;exact call_list_seq p (.inr rfl) ho hc hd (fun h' c' kp e=>fin its r' hz h' c' kp e) (by simp only[av]<;> lia)
theorem uf:yh X (.type "tuple") (fun xs H Q=>∃p ys,xs=[.ref p]∧((SqL X.K H p ys∧∀l,H l=none→Q (.ref l) (upd H l (.tup ys)))∨(SqT X.K H p ys∧Q (.ref p) H))):=by
 intro pins s σ H xs us Q I r h;obtain⟨p,ys,rfl,h⟩:=h;obtain⟨u,rfl,rx⟩:=vals1 r;cases rx;rcases h with⟨hq,q⟩|⟨hq,q⟩
 ·obtain⟨its,r',pl,hz⟩:=I.list hq;have hlen:=r'.length;refine call_tuple_list pl.isList (fun h' kp=>?_) (by simp only[av]<;> lia);have I1:Inv X pins σ H {s with heap:=h'}:=I.kept (t':=s.toks) kp;have I2:Inv X pins σ (upd H h'.objs.size (.tup ys)) {s with heap:=h'.push {cls:=.type "tuple",data:=.seq its.toArray}}:=
   I1.laid (t':=s.toks) (fun b o e=>af _ e) (aj _) (show xG X.prog X.w _ _ _ (.tup ys)from⟨hz,its,r',IsTup.new _ _⟩)
  exact⟨.ref h'.objs.size,_,I2,rfl,q _ (I1.hok.fresh (aj _))⟩
 ·obtain⟨its,r',pl,hz⟩:=I.tuple hq;exact call_tuple_same pl ⟨.ref p,H,I,rfl,q⟩
def tyV(K:ah)(T:String)(x:V)(H:Hp):Prop:=match x with
 | .str _=>T="str"
 | .int _=>T="int"
 | .ref p=>(T="list"∧∃xs,SqL K H p xs)∨(T="tuple"∧∃o,K.lookup p=some o∧o.cls= .type "tuple"∧o.dict=none)∨
   (T="dict"∧((∃kvs,H p=some (.dK kvs))∨∃kvs,H p=some (.dT kvs)))∨(T="set"∧∃S n,H p=some (.set S n))
 |_=>False
theorem xkS{pins:List (Addr×Obj)}{σ:St}{H:Hp}{s:ae}{T:String}{x:V}{v:Value}(I:Inv X pins σ H s)(r:RelV x v)(ty:tyV X.K T x H):
  s.TypeIs v T∧∀a,v= .ref a→∃ob,s.heap.get? a=some ob∧ob.dict=none:=by
 cases x with
 |str z=>
  obtain⟨t,rfl⟩:=r;cases (show T="str" from ty);exact⟨typeIs_str s z t,fun _ e=>nomatch e⟩
 |int i=>
  obtain⟨t,rfl⟩:=r;cases (show T="int" from ty);exact⟨typeIs_int s i t,fun _ e=>nomatch e⟩
 |ref p=>
  cases r;rcases ty with⟨rfl,xs,hq⟩|⟨rfl,o,hk,hc,hd⟩|⟨rfl,hk⟩|⟨rfl,S,n,hk⟩
  ·obtain⟨its,_,pl,_⟩:=I.list hq;refine⟨pl.isList.typeIs,fun a e=>?_⟩;cases e;obtain⟨o,n,e,c,hd,_⟩:=pl;exact⟨o,e,hd⟩
  ·refine⟨⟨o,I.kIn p o hk,hc⟩,fun a e=>?_⟩;cases e;exact⟨o,I.kIn _ o hk,hd⟩
  ·have z:∃o,s.heap.get? p=some o∧o.ExactDict:=by
    rcases hk with⟨kvs,hk⟩|⟨kvs,hk⟩
    ·obtain⟨_,_,_,_,o,_,_,e,ex,_⟩:=I.hok p _ hk;exact⟨o,e,ex⟩
    ·obtain⟨_,_,_,_,o,_,_,e,ex,_⟩:=I.hok p _ hk;exact⟨o,e,ex⟩
   obtain⟨o,e,ex⟩:=z;refine⟨⟨o,e,ex.1⟩,fun a e2=>?_⟩;cases e2;exact⟨o,e,ex.2.1⟩
  ·obtain⟨o,_,_,_,e,ex,_⟩:=I.hok p _ hk;refine⟨⟨o,e,ex.1⟩,fun a e2=>?_⟩;cases e2;exact⟨o,e,ex.2.1⟩
 |_=>exact bH ty
def xqI(K:ah)(T:String)(r:V→List V→Hp→VK→Prop)(to:TE):TE:=fun σ H Q=>to σ H fun x H1=>tyV K T x H1∧r x [] H1 Q
def tBM(K:ah)(T:String)(r:V→List V→Hp→VK→Prop)(to:TE)(t:TA):TE:=fun σ H Q=>to σ H fun x H1=>tyV K T x H1∧t σ H1 fun xs H2=>r x xs H2 Q
variable {o e:Expr} {es:List Expr} {to:TE} {t:TA} {name:Str} {apos cpos:Pos} {T id:String} {r:V→List V→Hp→VK→Prop}
theorem xoZ(pa:PlainAttrs T)(slot:Slot T name id)(hty:typeOf (.builtin id)=pure (.type "method_descriptor"))(hm:MtR X id r)(ho:PE X o to)
  (hbase:gR o name X.env (eval o X.env)=eval o X.env:=by rfl) (hline:(apos.endLine==cpos.line)=true:=by rfl):PE X (.Call (.Attribute o name apos) [] [] cpos) (xqI X.K T r to):=by
 intro pins s σ H Q I h;refine wpAny_Call_method0_late hbase hline (thn (ho pins s σ H _ I h) fun v s1 ⟨x,H1,I1,r1,ty,q1⟩=>?_);obtain⟨h1,h2⟩:=xkS I1 r1 ty;exact⟨T,id,pa,slot,hty,h1,h2,gO rfl (PySem.evalArgs_none (hm pins s1 σ H1 x [] v [] Q I1 r1 .nil q1))⟩
theorem uE(pa:PlainAttrs T)(slot:Slot T name id)(hty:typeOf (.builtin id)=pure (.type "method_descriptor"))(hm:MtR X id r)(ho:PE X o to)(ha:PA X (e::es) t)
  (hbase:gR o name X.env (eval o X.env)=eval o X.env:=by rfl)
  (hfew:((cZ cpos (aY (e::es) X.env)).all (fun x=> !x.1)&&(ly cpos (iC [] X.env)).all (fun x=>x.1.isSome)
   &&decide ((e::es).length+([]:List Keyword).length+(if ([]:List Keyword).isEmpty then 0 else 1)<30))=true:=by rfl)
  (hline:(apos.endLine==cpos.line)=true:=by rfl) (hs:aY (e::es) X.env=(false,eval e X.env)::aY es X.env:=by rfl) (hplain:(cZ cpos (aY es X.env)).any (·.1)=false:=by rfl):
  PE X (.Call (.Attribute o name apos) (e::es) [] cpos) (tBM X.K T r to t):=by
 intro pins s σ H Q I h;refine wpAny_Call_method_late hbase hfew hline rfl (thn (ho pins s σ H _ I h) fun v s1 ⟨x,H1,I1,r1,ty,q1⟩=>?_);obtain⟨h1,h2⟩:=xkS I1 r1 ty;refine⟨T,id,pa,slot,hty,h1,h2,?_⟩;have hA:=ha cpos pins s1 σ H1 _ I1 q1;rw[hs]at hA⊢;refine gO (by show(false||(cZ cpos (aY es X.env)).any (·.1))=false;rw[hplain]<;> rfl) (lC ?_);exact thn hA fun us s2 ⟨vs,H2,I2,r2,q2⟩=>hm pins s2 σ H2 x vs v us Q I2 r1 r2 q2
end
end L2
namespace L2
open PySem PySem.Spec PyProof.Rows
def MtM(X:Cx)(id:String)(r:V→List V→Hp→VK→Prop):Prop:=
 ∀(pins:List (Addr×Obj)) (s:ae) (σ:St) (H:Hp) (x:V) (xs:List V) (v:Value) (us:List Value) (Q:VK),Inv X pins σ H s→RelV x v→Vals xs us→r x xs H Q→
  wpAny (model X.prog X.w) X.A (call (.builtin id) (v::us)) (EP X pins σ Q) X.xe s
theorem Vals.one:∀{x:V} {us:List Value},Vals [x] us→∃u,us=[u]∧RelV x u
 |_,_,.cons r .nil=>⟨_,rfl,r⟩
theorem Vals.two:∀{x y:V} {us:List Value},Vals [x,y] us→∃u v,us=[u,v]∧RelV x u∧RelV y v
 |_,_,_,.cons r (.cons q .nil)=>⟨_,_,rfl,r,q⟩
theorem Vals.zero:∀{us:List Value},Vals [] us→us=[]
 |_,.nil=>rfl
theorem Vals.dropLast{xs:List V}{us:List Value}(h:Vals xs us):Vals xs.dropLast us.dropLast:=by
 induction h with
 |nil=>exact .nil
 |cons r t ih=>
  cases t with
  |nil=>exact .nil
  |cons q t'=>exact .cons r ih
theorem Vals.reverse{xs:List V}{us:List Value}(h:Vals xs us):Vals xs.reverse us.reverse:=by
 induction h with
 |nil=>exact .nil
 |cons r t ih=>rw[List.reverse_cons,List.reverse_cons];exact Vals.append ih (.cons r .nil)
theorem Vals.rep{xs:List V}{us:List Value}(h:Vals xs us):∀k:Nat,Vals (bC k xs).flatten (bC k us).flatten
 |0=>.nil
 |k+1=>by
  rw[fc,fc,gI,gI];exact Vals.append h (Vals.rep h k)
theorem xjO{α:Type}(l:List α):l.eraseIdx (l.length - 1)=l.dropLast:=by
 induction l with
 |nil=>rfl
 |cons a r ih=>
  cases r with
  |nil=>rfl
  |cons b r=>
   have e:(a::b::r).length - 1=((b::r).length - 1)+1:=by
    have h1:(a::b::r).length=r.length+2:=rfl;have h2:(b::r).length=r.length+1:=rfl;lia
   rw[e,List.eraseIdx_cons_succ,ih]
   all_goals rfl
theorem foldl_rep(its:List Value):∀(k:Nat) (acc:List Value),
  List.foldl (fun x1 x2=>x1++x2) acc.toArray (bC k its.toArray)=(acc++(bC k its).flatten).toArray
 |0,acc=>by simp
 |k+1,acc=>by
  have e:acc.toArray++its.toArray=(acc++its).toArray:=by simp
  have e2:(acc++its)++(bC k its).flatten=acc++(bC (k+1) its).flatten:=by
   rw[fc,gI,eI]
  rw[←e2,←foldl_rep its k (acc++its),←e,fc,kJ]
section
variable {X:Cx} {pins:List (Addr×Obj)} {σ:St} {H:Hp} {s:ae} {l b:Addr} {xs ys zs:List V}
theorem Inv.lset{its its':List Value}{n:Nat}{f:Array Value→Array Value}{t':Nat}(I:Inv X pins σ H s)(hH:H l=some (.lst xs))
  (e:s.heap.get? l=some {cls:=.type "list",data:=.seq its.toArray n}) (hf:f its.toArray=its'.toArray) (hv:Vals ys its') (hz:ys.length≤aL):
  Inv X pins σ (upd H l (.lst ys)) {s with heap:=s.heap.update l (aW f),toks:=t'}:=by
 have q:=PySem.IsL.update e f;rw[hf]at q;refine I.write (x:=l) (e:=l) (by rw[hH];exact trivial) (.inl rfl) (fun b' u hb hu=>(bA s.heap (aW f) (bE hb)).trans hu) ⟨_,q⟩ ?_;exact⟨hz,its',_,hv,q⟩
theorem Inv.lnew{its:List Value}{t':Nat}(I:Inv X pins σ H s)(hv:Vals ys its)(hz:ys.length≤aL):
  Inv X pins σ (upd H s.heap.objs.size (.lst ys)) {s with heap:=s.heap.push {cls:=.type "list",data:=.seq its.toArray},toks:=t'}:=
 I.laid (fun _ _ q=>af _ q) (aj _) ⟨hz,its,0,hv,az _ rfl⟩
theorem Inv.fresh(I:Inv X pins σ H s):H s.heap.objs.size=none:=I.hok.fresh (aj _)
theorem Inv.lstM(I:Inv X pins σ H s)(hH:H l=some (.lst xs)):xs.length≤aL∧∃(its:List Value) (n:Nat),Vals xs its∧xs.length=its.length∧s.heap.get? l=some {cls:=.type "list",data:=.seq its.toArray n}:=by
 obtain⟨z,its,n,r,e⟩:=I.hok l _ hH;exact⟨z,its,n,r,r.length,e⟩
theorem xbb{n:Nat}(h:n≤aL):eZ n=false:=by
 unfold eZ;exact decide_eq_false (by lia)
end
section
variable {X:Cx}
def xny:V→List V→Hp→VK→Prop:=fun x vs H Q=>∃l xs y,x= .ref l∧vs=[y]∧H l=some (.lst xs)∧xs.length<aL∧Q .non (upd H l (.lst (xs++[y])))
theorem yH:MtM X "list.append" xny:=by
 intro pins s σ H x vs v us Q I rx rv h;obtain⟨l,xs,y,rfl,rfl,hH,hz,q⟩:=h;cases rx;obtain⟨u,rfl,ru⟩:=rv.one;obtain⟨z,its,n,r,hl,e⟩:=I.lstM hH;refine gD F.slot_list_append ⟨_,e,rfl⟩ F.entry_list_append (F.args_list_append_2 _ _) (PySem.list_append l its.toArray n u (by rw[av];lia)) ⟨e,?_⟩;refine⟨.non,_,I.lset (its':=its++[u]) hH e (by simp) (r.append (.cons ru .nil)) ?_,rfl,q⟩;rw[ar,bN];lia
def xnz:V→List V→Hp→VK→Prop:=fun x vs H Q=>∃l b xs zs,x= .ref l∧vs=[.ref b]∧H l=some (.lst xs)∧H b=some (.lst zs)∧xs.length+zs.length≤aL∧Q .non (upd H l (.lst (xs++zs)))
theorem xf2:MtM X "list.extend" xnz:=by
 intro pins s σ H x vs v us Q I rx rv h;obtain⟨l,b,xs,zs,rfl,rfl,hH,hB,hz,q⟩:=h;cases rx;obtain⟨u,rfl,ru⟩:=rv.one;cases ru;obtain⟨z,its,n,r,hl,e⟩:=I.lstM hH;obtain⟨z2,its2,n2,r2,hl2,e2⟩:=I.lstM hB;have hsz:its.toArray.size+its2.toArray.size≤aL:=by rw[av,av];lia
 have hlong:¬(!its.toArray.isEmpty&&eZ (its.toArray.size+its2.toArray.size))=true:=by
  rw[xbb hsz,kZ];exact aB
 refine gD F.slot_list_extend ⟨_,e,rfl⟩ F.entry_list_extend (F.args_list_extend_2 _ _)
  (AutoSeq1.list_extend_list_list_0 l its.toArray n b its2.toArray n2 hlong (by rw[av];lia) (by lia)) ⟨e,e2,?_⟩
 refine⟨.non,_,I.lset (its':=its++its2) hH e (by simp) (r.append r2) ?_,rfl,q⟩;rw[ar];lia
def xqJ:V→List V→Hp→VK→Prop:=fun x vs H Q=>∃l xs y,x= .ref l∧vs=[]∧H l=some (.lst xs)∧xs[xs.length - 1]? =some y∧Q y (upd H l (.lst xs.dropLast))
theorem xo0:MtM X "list.pop" xqJ:=by
 intro pins s σ H x vs v us Q I rx rv h;obtain⟨l,xs,y,rfl,rfl,hH,hy,q⟩:=h;cases rx;have hus:=rv.zero;subst hus;obtain⟨z,its,n,r,hl,e⟩:=I.lstM hH;obtain⟨u,hu,ru⟩:=r.get hy;have hy':its.toArray[its.toArray.size - 1]? =some u:=by
  show its.toArray[its.length - 1]? =some u;rw[←dz,←hl];exact hu
 refine gD F.slot_list_pop ⟨_,e,rfl⟩ F.entry_list_pop (F.args_list_pop_1 _) (MeetsSeq.list_pop_last l its.toArray n u hy' (by rw[av];lia)) ⟨e,?_⟩;refine⟨y,_,I.lset (its':=its.dropLast) hH e ?_ r.dropLast ?_,ru,q⟩
 ·show its.toArray.eraseIdxIfInBounds (its.toArray.size - 1)=its.dropLast.toArray;rw[av,List.eraseIdxIfInBounds_toArray,xjO]
 ·rw[List.length_dropLast];lia
def xqK:R2:=fun x y H Q=>∃l b xs zs,x= .ref l∧y= .ref b∧H l=some (.lst xs)∧H b=some (.lst zs)∧xs.length+zs.length≤aL∧∀p,H p=none→Q (.ref p) (upd H p (.lst (xs++zs)))
theorem xem:OpR X (c6 .Add) xqK:=by
 intro pins s σ H x y v u Q I rx ry h;obtain⟨l,b,xs,zs,rfl,rfl,hH,hB,hz,q⟩:=h;cases rx;cases ry;obtain⟨z,its,n,r,hl,e⟩:=I.lstM hH;obtain⟨z2,its2,n2,r2,hl2,e2⟩:=I.lstM hB;refine PySem.P.add_list e e2 ?_ (by rw[av,av];lia);have ea:its.toArray++its2.toArray=(its++its2).toArray:=by simp
 rw[ea];exact⟨.ref _,_,I.lnew (t':=s.toks) (r.append r2) (by rw[ar];lia),rfl,q _ I.fresh⟩
def xqL:R2:=fun x y H Q=>∃l k xs,x= .ref l∧y= .int k∧H l=some (.lst xs)∧-(2^63)≤k∧k<2^63∧xs.length*k.toNat≤aL∧
 ∀p,H p=none→Q (.ref p) (upd H p (.lst (bC k.toNat xs).flatten))
theorem len_rep{α:Type}(xs:List α)(k:Nat):(bC k xs).flatten.length=k*xs.length:=by
 induction k with
 |zero=>simp
 |succ k ih=>rw[fc,gI,ar,ih,Nat.succ_mul,Nat.add_comm]
theorem xkT:OpR X (c6 .Mult) xqL:=by
 intro pins s σ H x y v u Q I rx ry h;obtain⟨l,k,xs,rfl,rfl,hH,h1,h2,hz,q⟩:=h;cases rx;obtain⟨t,rfl⟩:=ry;obtain⟨z,its,n,r,hl,e⟩:=I.lstM hH;have hlen:its.toArray.size*k.toNat≤aL:=by rw[av,←hl];exact hz
 have hcap:¬its.toArray.size*k.toNat > (2^63 - 1) / 8:=by
  have:(aL:Nat)≤(2^63 - 1) / 8:=by decide
  lia
 have hfit:¬(!Builtin.List.listFitsIndex k)=true:=by
  rw[fitsIndex_both h1 h2];exact aB
 have hlong:¬eZ (its.toArray.size*k.toNat)=true:=by
  rw[xbb hlen];exact aB
 have hnew:List.foldl (fun x1 x2=>x1++x2) #[] (bC (if its.toArray.isEmpty=true then 0 else k.toNat) its.toArray)=(bC k.toNat its).flatten.toArray:=by
  have f0:∀m:Nat,List.foldl (fun x1 x2=>x1++x2) #[] (bC m its.toArray)=(bC m its).flatten.toArray:=fun m=>by
   have:=foldl_rep its m [];rw[List.nil_append]at this;exact this
  rw[f0];cases its with
  |nil=>simp
  |cons a r'=>rw[if_neg (by simp)]
 refine wpAny_binaryOp_repeat_ref (T:="list") (U:="int") (by decide) ⟨_,e,rfl⟩ (fun s'=>typeIs_int s' k t) noFill_list_mul F.fills_int_mul F.slot_int_rmul repeat_list F.slot_int_index.lookup
  (gD F.slot_int_rmul (typeIs_int s k t) F.entry_int_rmul (F.args_int_rmul_2 _ _) (int___rmul___int_list k t l its.toArray n)
   ⟨e,rfl,⟨_,e,rfl⟩,gD F.slot_list_mul ⟨_,e,rfl⟩ F.entry_list_mul (F.args_list_mul_2 _ _) (AutoListH.list___mul___list_int_3 l its.toArray n k t hfit hcap hlong) ⟨e,?_⟩⟩)
 rw[hnew];exact⟨.ref _,_,I.lnew (t':=s.toks) (r.rep k.toNat) (by rw[len_rep,Nat.mul_comm];exact hz),rfl,q _ I.fresh⟩
end
section
variable {prog:aH} {w:World} {A:aV} {E:Value→ae→Prop} {s:ae}
theorem xkU(its its2:List Value)(a c:Nat):its.toArray.extract 0 a++its2.toArray++its.toArray.extract c its.toArray.size=(its.take a++its2++its.drop c).toArray:=by
 apply kd.mp
 first
  |(simp
    exact a8 (by simp))
  |simp[a8]
  |simp
theorem xjP{a c n:Nat}(hac:a≤c)(hc:c≤n):eV (some (a:Int)) (some (c:Int)) none n=((a:Int),(c:Int),1):=by
 simp only[eV,kc];have h1:¬((a:Int)<0):=by lia
 have h2:¬((c:Int)<0):=by lia
 simp only[h1,h2,if_false,show(1:Int) > 0 by decide,if_true]
 congr 1
 ·lia
 ·congr 1;lia
set_option maxRecDepth 100000 in
theorem xgw{l b sl:Addr}{items new:Array Value}{n n2:Nat}{vl vu:Value}{a c:Nat}{Q:Unit→ae→Prop}
  (e:s.heap.get? l=some {cls:=.type "list",data:=.seq items n}) (e2:s.heap.get? b=some {cls:=.type "list",data:=.seq new n2}) (hne:l≠b)
  (hs:s.heap.IsSliceOf sl vl vu .none) (pl:ic vl (some (a:Int))) (pu:ic vu (some (c:Int))) (hac:a≤c) (hc:c≤items.size)
  (hsz:items.size+new.size≤aL) (h:Q () {s with heap:=s.heap.update l (aW fun xs=>xs.extract 0 a++new++xs.extract c xs.size)}):
  wpAny (model prog w) A (j4 (.ref l) (.ref sl) (.ref b)) Q E s:=by
 have hl:s.heap.IsList l items:=PySem.IsL.isList e;have hb:s.heap.IsList b new:=PySem.IsL.isList e2;obtain⟨os,hos,hcs,hds⟩:=id hs;have hTs:s.TypeIs (.ref sl) "slice":=⟨os,hos,hcs⟩;have hstep:¬((rawPart none==de 0)=true):=aB;have hsame:c7 (.ref l) (.ref b)=false:=by
  unfold c7;exact beq_eq_false_iff_ne.mpr hne
 have hmax:(max (a:Int) (c:Int)).toNat=c:=by lia
 have hz':((fun xs:Array Value=>xs.extract 0 a++new++xs.extract c xs.size) items).size≤aL+1:=by
  simp only[mD,mj];lia
 unfold j4
 try with_reducible refine bo ?_
 first|refine aa (ag ?_)|skip
 refine aa (wpAny_sequenceKey hl.typeIs (by decide) ?_);refine aa (dO (name:=bP "__setitem__") hl.typeIs slot_list_setitem
  (fP slot_list_setitem hl.typeIs entry_list_setitem ?_ (args_list_setitem _ _ _)))
 show wpAny _ _ (iF (.ref sl) >>= _) _ _ s;refine aa ?_;unfold iF;refine aa (ie hTs slice_no_index ?_);simp only[Option.isNone_none,if_true];refine ag ?_;show wpAny _ _ (typeOf (.ref sl) >>= _) _ _ s;refine aa (fK hTs ?_)
 first
  |rw[if_neg (by decide)]
  |refine ml (by decide) ?_
 rw[listSliceParts_eq];refine aa (aa (dD hos hds (x:=.none) rfl (aa (k5 .none ?_))));rw[if_neg hstep];refine aa (dD hos hds (x:=vl) rfl (aa (k5 pl ?_)));refine aa (dD hos hds (x:=vu) rfl (aa (k5 pu (ag ?_))))
 first
  |simp only[hsame,aU,if_false]
  |refine ml hsame ?_
  |(dsimp only
    rw[if_neg (by rw[hsame];exact aB)])
 refine aa (m:=i8 (.ref b) "must assign iterable to extended slice") ?_;unfold i8;refine aa (fK hb.typeIs ?_)
 first
  |refine W.KFB.if_so (by decide) ?_
  |rw[if_pos (by decide)]
  |simp only[beq_self_eq_true,Bool.true_or,if_true]
 unfold dW;refine aa (cK e2 rfl (ag ?_));refine aa (aa (cK e rfl (ag ?_)));refine aa (kP ((sliceIndices_raw (some (a:Int)) (some (c:Int)) none items.size (by simp)).trans (congrArg (pure:Int×Int×Int→Sem (Int×Int×Int)) (xjP hac hc))) ?_);show wpAny _ _ (if ((1:Int)==1)=true then _ else _) _ _ s;rw[if_pos (by decide)];refine aa (gE ?_)
 first
  |simp only[xbb hsz,aU,if_false]
  |refine ml (xbb hsz) ?_
 first|refine aa (ag ?_)|skip
 show wpAny _ _ (fM l (fun xs=>xs.extract 0 ((a:Int)).toNat++new++xs.extract (max (a:Int) (c:Int)).toNat xs.size) >>= _) _ _ s;rw[hmax,bJ];refine aa (cM (hz:=bg (Nat.le_add_right _ _) hsz) (_hz':=hz') e rfl ?_);refine aa (dq ?_)
 first
  |exact aa (ag (ag ⟨.none,rfl,ag h⟩))
  |exact ag ⟨.none,rfl,ag h⟩
end
section
variable {X:Cx}
theorem xkV{pins:List (Addr×Obj)}{s:ae}{σ:St}{H:Hp}{l b sl:Addr}{xs ys:List V}{a c:Int}{vl vu:Value}{Q:Unit→ae→Prop}(I:Inv X pins σ H s)
  (hH:H l=some (.lst xs)) (hB:H b=some (.lst ys)) (hne:l≠b) (hs:s.heap.IsSliceOf sl vl vu .none) (ra:RelV (.int a) vl) (rc:RelV (.int c) vu) (h0:0≤a) (hac:a≤c) (hc:c≤xs.length)
  (hz:xs.length+ys.length≤aL) (h:∀s',Inv X pins σ (upd H l (.lst (xs.take a.toNat++ys++xs.drop c.toNat))) s'→Q () s'):
  wpAny (model X.prog X.w) X.A (j4 (.ref l) (.ref sl) (.ref b)) Q X.xe s:=by
 obtain⟨ta,rfl⟩:=ra;obtain⟨tc,rfl⟩:=rc;obtain⟨z,its,n,r,hl,e⟩:=I.lstM hH;obtain⟨z2,its2,n2,r2,hl2,e2⟩:=I.lstM hB;obtain⟨a',rfl⟩:=ku h0;obtain⟨c',rfl⟩:=ku (Int.le_trans h0 hac);simp only[bJ]at h;refine xgw (a:=a') (c:=c') e e2 hne hs (.int _ _) (.int _ _) (by lia) (by rw[av];lia) (by rw[av,av];lia) (h _ ?_);refine I.lset (its':=its.take a'++its2++its.drop c') (t':=s.toks) hH e ?_ (Vals.append (Vals.append (r.take _) r2) (r.drop _)) ?_
 ·exact xkU its its2 a' c'
 ·rw[ar,ar,bI,aX];lia
end
end L2
namespace L2
open PySem PySem.Spec PyProof.Rows
section
variable {κ:Type} [DecidableEq κ]
def yr(kvs:List (κ×V))(k:κ):Option V:=(kvs.find? fun kv=>decide (kv.1=k)).map (·.2)
def putK(kvs:List (κ×V))(k:κ)(v:V):List (κ×V):=
 if (kvs.any fun kv=>decide (kv.1=k))=true then kvs.map (fun kv=>if kv.1=k then(kv.1,v)else kv)else kvs++[(k,v)]
def jc(kvs:List (κ×V))(k:κ):List (κ×V):=kvs.filter fun kv=>decide (kv.1≠k)
theorem xl8{k:κ}:yr ([]:List (κ×V)) k=none:=rfl
theorem yK{p:κ×V}{r:List (κ×V)}{k:κ}(e:p.1=k):yr (p::r) k=some p.2:=by simp[yr,di,e]
theorem yL{p:κ×V}{r:List (κ×V)}{k:κ}(e:¬p.1=k):yr (p::r) k=yr r k:=by simp[yr,di,e]
theorem xbc(k:κ):∀kvs:List (κ×V),(kvs.any fun kv=>decide (kv.1=k))=(yr kvs k).isSome
 |[]=>rfl
 |p::r=>by
  rw[gS]
  by_cases e:p.1=k
  ·simp only[yK e,decide_eq_true e,Bool.true_or,Option.isSome_some]
  ·rw[yL e,decide_eq_false e,Bool.false_or];exact xbc k r
theorem xgU(k j:κ)(y:V):∀kvs:List (κ×V),yr (kvs.map fun kv=>if kv.1=k then(kv.1,y)else kv) j=(yr kvs j).map fun x=>if j=k then y else x
 |[]=>rfl
 |p::r=>by
  have ih:=xgU k j y r;rw[bc]
  by_cases h:p.1=k
  ·rw[if_pos h]
   by_cases e:p.1=j
   ·rw[yK (p:=(p.1,y)) e,yK e,ig,if_pos (e.symm.trans h)]
   ·rw[yL (p:=(p.1,y)) e,yL e,ih]
  ·rw[if_neg h]
   by_cases e:p.1=j
   ·rw[yK (p:=p) e,yK e,ig,if_neg (fun z=>h (e.trans z))]
   ·rw[yL (p:=p) e,yL e,ih]
theorem xf3(k j:κ)(y:V):∀kvs:List (κ×V),yr kvs k=none→yr (kvs++[(k,y)]) j=if j=k then some y else yr kvs j
 |[],_=>by
  by_cases e:k=j
  ·rw[if_pos e.symm];exact yK (p:=(k,y)) e
  ·rw[if_neg (fun z=>e z.symm)];exact yL (p:=(k,y)) e
 |p::r,hn=>by
  rw[ke];have hk:¬p.1=k:=fun z=>by rw[yK z]at hn;cases hn
  rw[yL hk]at hn;have ih:=xf3 k j y r hn
  by_cases e:p.1=j
  ·rw[yK e,yK e,if_neg (fun z=>hk (e.trans z))]
  ·rw[yL e,yL e,ih]
theorem xl9(kvs:List (κ×V))(k j:κ)(y:V):yr (putK kvs k y) j=if j=k then some y else yr kvs j:=by
 unfold putK
 by_cases a:(kvs.any fun kv=>decide (kv.1=k))=true
 ·rw[if_pos a,xgU];rw[xbc]at a
  by_cases e:j=k
  ·obtain⟨x,hx⟩:=eW.mp a;rw[if_pos e,e,hx,ig,if_pos rfl]
  ·rw[if_neg e];cases yr kvs j with
   |none=>rfl
   |some x=>rw[ig,if_neg e]
 ·rw[if_neg a];refine xf3 k j y kvs ?_;rw[xbc]at a;cases q:yr kvs k with
  |none=>rfl
  |some x=>rw[q]at a;exact(a rfl).elim
theorem xdh(kvs:List (κ×V))(k:κ)(v:V):(putK kvs k v).length≤kvs.length+1:=by
 unfold putK
 split
 ·rw[ab];lia
 ·rw[ar,aT,gc];lia
theorem um.isSome_eq{o:Option V}{u:Option Value}(r:um o u):o.isSome=u.isSome:=by
 cases o with
 |none=>cases u with
  |none=>rfl
  |some _=>exact(show False from r).elim
 |some _=>cases u with
  |none=>exact(show False from r).elim
  |some _=>rfl
theorem KV.val{kvs:List (κ×V)}{vs:List (κ×Value)}(r:KV kvs vs)(k:κ):um (yr kvs k) (j5 vs k):=by
 unfold KV at r
 induction r with
 |nil=>exact cQ
 | @cons p q ps qs h t ih=>
  obtain⟨h1,h2⟩:=h
  by_cases e:p.1=k
  ·have e':q.1=k:=h1.symm.trans e;have b:j5 (q::qs) k=some q.2:=by simp[j5,di,e']
   rw[yK e,b];exact h2
  ·have e':¬q.1=k:=fun z=>e (h1.trans z);have b:j5 (q::qs) k=j5 qs k:=by simp[j5,di,e']
   rw[yL e,b];exact ih
theorem KV.any{kvs:List (κ×V)}{vs:List (κ×Value)}(r:KV kvs vs)(k:κ):(kvs.any fun kv=>decide (kv.1=k))=vs.any fun kv=>decide (kv.1=k):=by
 unfold KV at r
 induction r with
 |nil=>rfl
 |cons h t ih=>rw[gS,gS,ih,h.1]
theorem KV.repl{kvs:List (κ×V)}{vs:List (κ×Value)}(r:KV kvs vs)(k:κ){y:V}{u:Value}(ry:RelV y u):
  KV (kvs.map fun kv=>if kv.1=k then(kv.1,y)else kv) (vs.map fun kv=>if kv.1=k then(kv.1,u)else kv):=by
 unfold KV at r⊢
 induction r with
 |nil=>exact .nil
 | @cons p q ps qs h t ih=>
  rw[bc,bc];refine .cons ?_ ih;obtain⟨h1,h2⟩:=h
  by_cases e:p.1=k
  ·rw[if_pos e,if_pos (h1.symm.trans e)];exact⟨h1,ry⟩
  ·rw[if_neg e,if_neg (fun z=>e (h1.trans z))];exact⟨h1,h2⟩
theorem KV.put{kvs:List (κ×V)}{vs:List (κ×Value)}(r:KV kvs vs)(k:κ){y:V}{u:Value}(ry:RelV y u):KV (putK kvs k y) (stored vs k u):=by
 unfold putK stored;rw[r.any k]
 by_cases e:(vs.any fun kv=>decide (kv.1=k))=true
 ·rw[if_pos e,if_pos e];exact r.repl k ry
 ·rw[if_neg e,if_neg e];exact Paired.snoc r ⟨rfl,ry⟩
theorem KV.drop{kvs:List (κ×V)}{vs:List (κ×Value)}(r:KV kvs vs)(k:κ):KV (jc kvs k) (without vs k):=by
 unfold KV at r⊢;unfold jc without
 induction r with
 |nil=>exact .nil
 | @cons p q ps qs h t ih=>
  obtain⟨h1,h2⟩:=h;rw[gU,gU]
  by_cases e:p.1=k
  ·have a:¬decide (p.1≠k)=true:=by simp[e]
   have b:¬decide (q.1≠k)=true:=by simp[h1.symm.trans e]
   rw[if_neg a,if_neg b];exact ih
  ·have e':¬q.1=k:=fun z=>e (h1.trans z);have a:decide (p.1≠k)=true:=by simp[e]
   have b:decide (q.1≠k)=true:=by simp[e']
   rw[if_pos a,if_pos b];exact .cons ⟨h1,h2⟩ ih
theorem KV.length{kvs:List (κ×V)}{vs:List (κ×Value)}(r:KV kvs vs):kvs.length=vs.length:=Paired.length r
theorem xma(kvs:List (κ×V))(k:κ):(jc kvs k).length≤kvs.length:=bO _ _
end
theorem xen{P:aH}{w:World}{k:Key}{u:Value}(r:RelV (kV k) u):(xP P w).is k u=true:=by
 cases k with
 |inl i=>obtain⟨t,e⟩:=(show∃t,u=fj i t from r);subst e;exact xit P w i t
 |inr x=>obtain⟨t,e⟩:=(show∃t,u=gY x t from r);subst e;exact xiu P w x t
theorem xf4{P:aH}{w:World}:∀{ks:List Key} {us:List Value},Vals (ks.map kV) us→ItemsAre (xP P w) ks us
 |[],_,r=>by rw[mh]at r;cases r;exact .nil
 |k::ks,_,r=>by
  rw[bc]at r;cases r with
  |cons h t=>exact .cons (xen h) (xf4 t)
abbrev KT(H:Hp):List (List Key×V)→List (List Key×Addr×Value)→Prop:=Paired fun p q=>p.1=q.1∧H q.2.1=some (.tup (p.1.map kV))∧RelV p.2 q.2.2
theorem KT.val{H:Hp}{kvs:List (List Key×V)}{xs:List (List Key×Addr×Value)}(r:KT H kvs xs)(k:List Key):um (yr kvs k) ((atKey xs k).map (·.2)):=by
 induction r with
 |nil=>exact cQ
 | @cons p q ps qs h t ih=>
  obtain⟨h1,_,h2⟩:=h
  by_cases e:p.1=k
  ·have e':q.1=k:=h1.symm.trans e;have b:atKey (q::qs) k=some q.2:=by simp[atKey,di,e']
   rw[yK e,b];exact h2
  ·have e':¬q.1=k:=fun z=>e (h1.trans z);have b:atKey (q::qs) k=atKey qs k:=by simp[atKey,di,e']
   rw[yL e,b];exact ih
theorem KT.repl{H:Hp}{kvs:List (List Key×V)}{xs:List (List Key×Addr×Value)}(r:KT H kvs xs)(k:List Key){y:V}{u:Value}(ry:RelV y u):
  KT H (kvs.map fun kv=>if kv.1=k then(kv.1,y)else kv) (xs.map (putAt k u)):=by
 induction r with
 |nil=>exact .nil
 | @cons p q ps qs h t ih=>
  rw[bc,bc];refine .cons ?_ ih;obtain⟨h1,h2,h3⟩:=h;unfold putAt
  by_cases e:p.1=k
  ·rw[if_pos e,if_pos (h1.symm.trans e)];exact⟨h1,h2,ry⟩
  ·rw[if_neg e,if_neg (fun z=>e (h1.trans z))];exact⟨h1,h2,h3⟩
theorem KT.put{H:Hp}{kvs:List (List Key×V)}{xs:List (List Key×Addr×Value)}(r:KT H kvs xs)(k:List Key){b:Addr}{y:V}{u:Value}(hb:H b=some (.tup (k.map kV)))(ry:RelV y u):
  KT H (putK kvs k y) (storedH xs k b u):=by
 have e:(kvs.any fun kv=>decide (kv.1=k))=(atKey xs k).isSome:=by
  rw[xbc,(r.val k).isSome_eq,gJ]
 unfold putK storedH;rw[e]
 by_cases q:(atKey xs k).isSome=true
 ·rw[if_pos q,if_pos q];exact r.repl k ry
 ·rw[if_neg q,if_neg q];exact Paired.snoc r ⟨rfl,hb,ry⟩
theorem KT.keeps{H H':Hp}{kvs:List (List Key×V)}{xs:List (List Key×Addr×Value)}(r:KT H kvs xs)(ht:∀b ys,H b=some (.tup ys)→H' b=some (.tup ys)):KT H' kvs xs:=
 Paired.mapP r fun _ _ z=>⟨z.1,ht _ _ z.2.1,z.2.2⟩
section
variable {P:aH} {w:World} {H:Hp} {h:Heap} {a:Addr}
theorem xnc{u:HO}(ok:HOk P w H h)(e:Rd H a u):xG P w H h a u:=e.ok ok
theorem xeo{kvs:List (Key×V)}(ok:HOk P w H h)(e:Rd H a (.dK kvs)):kvs.length≤aL∧(a==eK)=false∧∃vs,KV kvs vs∧h.DictOf (xP P w) a vs:=
 show xG P w H h a (.dK kvs)from xnc ok e
theorem xnd{kvs:List (Key×V)}(ok:HOk P w H h)(e:H a=some (.dK kvs)):kvs.length≤aL∧(a==eK)=false∧∃vs,KV kvs vs∧h.DictOf (xP P w) a vs:=xeo ok (.inl e)
theorem xbV{ks:List Key}(ok:HOk P w H h)(e:H a=some (.tup (ks.map kV))):(kB (xP P w)).is h ks a:=by
 obtain⟨_,its,r,o,h1,h2,n,h3⟩:=(show xG P w H h a (.tup (ks.map kV))from ok a _ e);exact⟨o,its.toArray,n,h1,h2,h3,by simpa using xf4 r⟩
theorem xgH{kvs:List (List Key×V)}(ok:HOk P w H h)(e:Rd H a (.dT kvs)):kvs.length≤aL∧(a==eK)=false∧
  ∃xs,KT H kvs xs∧h.DictOfH (kB (xP P w)) a xs:=by
 obtain⟨z,y,xs,r,o,es,ep,h1,h2,h3,h4,h5⟩:=(show xG P w H h a (.dT kvs)from xnc ok e);refine⟨z,y,xs,r,o,es,ep,h1,h2,h3,h4,fun x hx=>?_,h5⟩;have all:∀{l:List (List Key×V)} {m:List (List Key×Addr×Value)},KT H l m→∀x∈m,(kB (xP P w)).is h x.1 x.2.1:=by
  intro l m q
  induction q with
  |nil=>intro x hx;exact nomatch hx
  | @cons p q ps qs hq t ih=>
   intro x hx;rcases ax.mp hx with e|hx
   ·subst e;exact xbV ok (by rw[←hq.1];exact hq.2.1)
   ·exact ih x hx
 exact all r x hx
theorem xp0{kvs:List (List Key×V)}(ok:HOk P w H h)(e:H a=some (.dT kvs)):kvs.length≤aL∧(a==eK)=false∧
  ∃xs,KT H kvs xs∧h.DictOfH (kB (xP P w)) a xs:=xgH ok (.inl e)
end
def xbd(H:Hp)(a:Addr)(y:V)(r:Option V):Prop:=
 (∃kvs k,Rd H a (.dK kvs)∧y=kV k∧r=yr kvs k)∨∃kvs k b,Rd H a (.dT kvs)∧y= .ref b∧H b=some (.tup (k.map kV))∧r=yr kvs k
def xdL(H:Hp)(a:Addr)(y v:V)(H':Hp):Prop:=
 (∃kvs k,H a=some (.dK kvs)∧y=kV k∧kvs.length<aL∧H'=upd H a (.dK (putK kvs k v)))∨
 ∃kvs k b,H a=some (.dT kvs)∧y= .ref b∧H b=some (.tup (k.map kV))∧kvs.length<aL∧H'=upd H a (.dT (putK kvs k v))
theorem xbd.k{H:Hp}{a:Addr}{kvs:List (Key×V)}{k:Key}(e:H a=some (.dK kvs)):xbd H a (kV k) (yr kvs k):=.inl ⟨kvs,k,.inl e,rfl,rfl⟩
theorem xdL.k{H:Hp}{a:Addr}{kvs:List (Key×V)}{k:Key}{v:V}(e:H a=some (.dK kvs))(hl:kvs.length<aL):xdL H a (kV k) v (upd H a (.dK (putK kvs k v))):=.inl ⟨kvs,k,e,rfl,hl,rfl⟩
section
variable {X:Cx} {pins:List (Addr×Obj)} {σ:St} {H:Hp} {s:ae} {a:Addr} {y v:V} {u r:Value} {o:Option V} {A:aV} {E:Value→ae→Prop}
theorem Inv.big(I:Inv X pins σ H s):eK<s.heap.objs.size:=by
 have h:bx<s.heap.objs.size:=(I.mod.glob.keeps I.bk).lt;exact Nat.lt_trans (by decide) h
theorem xqM{Q:Value→ae→Prop}(hu:A.units+1<cLine)(I:Inv X pins σ H s)(g:xbd H a y o)(ry:RelV y u)(h:∀s',Inv X pins σ H s'→Q (.bool o.isSome) s'):
  wpAny (model X.prog X.w) A (bw .In u (.ref a)) Q E s:=by
 rcases g with⟨kvs,k,e,ey,l⟩|⟨kvs,k,b,e,ey,eb,l⟩
 ·subst ey;obtain⟨z,hd,vs,rel,dd⟩:=xeo I.hok e;refine wpAny_in_of (xen ry) hd dd.mapOf ?_;rw[←(rel.val k).isSome_eq,←l];exact h _ (I.tok _)
 ·subst ey;cases (show u=aZ b from ry);obtain⟨z,hd,xs,rel,dd⟩:=xgH I.hok e;refine wpAny_in_heap (iG hu) (xbV I.hok eb) hd dd ?_;have q:=(rel.val k).isSome_eq;rw[gJ]at q;rw[←q,←l];exact h _ (I.tok _)
theorem xnA{Q:Value→ae→Prop}(hu:A.units+1<cLine)(I:Inv X pins σ H s)(g:xbd H a y o)(ry:RelV y u)(h:∀s',Inv X pins σ H s'→Q (.bool (!o.isSome)) s'):
  wpAny (model X.prog X.w) A (bw .NotIn u (.ref a)) Q E s:=by
 rcases g with⟨kvs,k,e,ey,l⟩|⟨kvs,k,b,e,ey,eb,l⟩
 ·subst ey;obtain⟨z,hd,vs,rel,dd⟩:=xeo I.hok e;refine wpAny_notIn_of (xen ry) hd dd.mapOf ?_;rw[←(rel.val k).isSome_eq,←l];exact h _ (I.tok _)
 ·subst ey;cases (show u=aZ b from ry);obtain⟨z,hd,xs,rel,dd⟩:=xgH I.hok e;refine wpAny_notIn_heap (iG hu) (xbV I.hok eb) hd dd ?_;have q:=(rel.val k).isSome_eq;rw[gJ]at q;rw[←q,←l];exact h _ (I.tok _)
theorem xfg{h':Heap}{t':Nat}{ob:HO}(I:Inv X pins σ H s)(mu:Mut (H a))(hs:fJ a s.heap h')(he:∃q,h'.get? a=some q)(new:xG X.prog X.w (upd H a ob) h' a ob):
  Inv X pins σ (upd H a ob) {s with heap:=h',toks:=t'}:=
 I.write (x:=a) (e:=a) mu (.inl rfl) (fun b q hb z=>(hs.2 b hb).trans z) he new
theorem xgV{P:aH}{w:World}{H':Hp}{h':Heap}{kvs:List (Key×V)}{vs:List (Key×Value)}(z:kvs.length≤aL)(hd:(a==eK)=false)(rel:KV kvs vs)(dd:h'.DictOf (xP P w) a vs):
  xG P w H' h' a (.dK kvs):=⟨z,hd,vs,rel,dd⟩
theorem xkW{H':Hp}{Q:Unit→ae→Prop}(hu:A.units+1<cLine)(I:Inv X pins σ H s)(g:xdL H a y v H')(ry:RelV y u)(rv:RelV v r)(h:∀s',Inv X pins σ H' s'→Q () s'):
  wpAny (model X.prog X.w) A (j4 (.ref a) u r) Q E s:=by
 rcases g with⟨kvs,k,e,ey,l,eH⟩|⟨kvs,k,b,e,ey,eb,l,eH⟩
 ·subst ey eH;obtain⟨z,hd,vs,rel,dd⟩:=xnd I.hok e;have hz:vs.length≤aL:=by rw[←rel.length];exact z
  have hl:(putK kvs k v).length≤aL:=by have:=xdh kvs k v;lia
  refine wpAny_setItem_pairs (hsz:=hz) (xen ry) dd fun h' dd' hs=>h _ ?_;have he:∃q,h'.get? a=some q:=let⟨q,_,_,hq,_⟩:=dd';⟨q,hq⟩
  exact xfg I (by rw[e];exact cQ) hs he (xgV hl hd (rel.put k rv) dd')
 ·subst ey eH;cases (show u=aZ b from ry);obtain⟨z,hd,xs,rel,dd⟩:=xp0 I.hok e;have hz:xs.length≤aL:=by rw[←Paired.length rel];exact z
  have hl:(putK kvs k v).length≤aL:=by have:=xdh kvs k v;lia
  refine wpAny_setItem_heap (hsz:=hz) (iG hu) (xbV I.hok eb) dd fun h' dd' hs=>h _ ?_;obtain⟨q,es,ep,hq,h2,h3,h4,_,h5⟩:=dd';refine xfg I (by rw[e];exact cQ) hs ⟨q,hq⟩ ⟨hl,hd,_,(rel.put k eb rv).keeps fun c ys ec=>?_,q,es,ep,hq,h2,h3,h4,h5⟩;rw[xl (yU ec e (fun z=>nomatch z))];exact ec
end
section
variable {X:Cx} {pins:List (Addr×Obj)} {σ:St} {H:Hp} {s:ae} {a:Addr} {kvs:List (Key×V)} {k:Key} {u:Value} {A:aV} {E:Value→ae→Prop}
theorem xp1{v:V}{more:List Value}{Q:Value→ae→Prop}(I:Inv X pins σ H s)(e:H a=some (.dK kvs))(ry:RelV (kV k) u)(l:yr kvs k=some v)(hm:more=[]∨∃x,more=[x])
  (h:∀w' s',Inv X pins σ (upd H a (.dK (jc kvs k))) s'→RelV v w'→Q w' s'):wpAny (model X.prog X.w) A (call (.builtin "dict.pop") (.ref a::u::more)) Q E s:=by
 obtain⟨z,hd,vs,rel,dd⟩:=xnd I.hok e;obtain⟨w',hw,rw'⟩:=um.some_of (v:=v) (o:=j5 vs k) (by rw[←l];exact rel.val k);have hp:(keyPart u).isSome=true:=by
  cases k with
  |inl i=>obtain⟨t,q⟩:=(show∃t,u=fj i t from ry);subst q;rfl
  |inr x=>obtain⟨t,q⟩:=(show∃t,u=gY x t from ry);subst q;rfl
 have ha:argsOk "dict.pop" ⟨.ref a::u::more,[]⟩:=by
  rcases hm with q|⟨x,q⟩
  ·subst q;exact PySem.F.args_dict_pop_2 _ _
  ·subst q;exact PySem.F.args_dict_pop_3 _ _ _
 refine call_meetsIn PySem.F.slot_dict_pop dd.typeIs PySem.F.entry_dict_pop ha (meets_dict_pop_there (xP X.prog X.w) a (xen ry) more hm hp)
  ⟨vs,w',dd,by rw[←rel.length];exact z,hw,fun h' dd' hs=>h w' _ ?_ rw'⟩
 have he:∃q,h'.get? a=some q:=let⟨q,_,_,hq,_⟩:=dd';⟨q,hq⟩
 exact xfg I (by rw[e];exact cQ) hs he (xgV (bg (xma kvs k) z) hd (rel.drop k) dd')
theorem xp2{Q:Value→ae→Prop}(I:Inv X pins σ H s)(e:Rd H a (.dK kvs))(h:∀t s',Inv X pins σ H s'→Q (.int kvs.length t) s'):wpAny (model X.prog X.w) A (call (.builtin "len") [.ref a]) Q E s:=by
 obtain⟨z,hd,vs,rel,dd⟩:=xeo I.hok e;refine call_len_dict hd dd (by rw[←rel.length];rw[ay]at z;lia) ?_;rw[←rel.length];exact h _ _ (I.tok _)
end
def xqN(ty td:TE):TE:=fun σ H Q=>ty σ H fun y H1=>td σ H1 fun x H2=>∃a o,x= .ref a∧xbd H2 a y o∧Q (.bl o.isSome) H2
def xnB(ty td:TE):TE:=fun σ H Q=>ty σ H fun y H1=>td σ H1 fun x H2=>∃a o,x= .ref a∧xbd H2 a y o∧Q (.bl (!o.isSome)) H2
def xp3(td ty tv:TE):TS:=fun D σ H=>tv σ H fun v H1=>td σ H1 fun x H2=>ty σ H2 fun y H3=>∃a H4,x= .ref a∧xdL H3 a y v H4∧D.nx σ H4
section
variable {X:Cx} {o i e value:Expr} {pos pos' tpos:Pos} {td ty tv:TE}
theorem xep(hu:X.A.units+1<cLine)(hi:PE X i ty)(ho:PE X o td):PC X .In i o (xqN ty td):=by
 intro pins s σ H Q I h;refine thn (hi pins s σ H _ I h) fun iv s1 ⟨y,H1,I1,ry,q1⟩=>thn (ho pins s1 σ H1 _ I1 q1) fun u s2 ⟨x,H2,I2,rx,a,ov,ex,g,q2⟩=>?_;subst ex;obtain rfl:u=aZ a:=rx;exact xqM hu I2 g ry fun s3 I3=>⟨.bl ov.isSome,H2,I3,rfl,q2⟩
theorem xkX(hu:X.A.units+1<cLine)(hi:PE X i ty)(ho:PE X o td):PC X .NotIn i o (xnB ty td):=by
 intro pins s σ H Q I h;refine thn (hi pins s σ H _ I h) fun iv s1 ⟨y,H1,I1,ry,q1⟩=>thn (ho pins s1 σ H1 _ I1 q1) fun u s2 ⟨x,H2,I2,rx,a,ov,ex,g,q2⟩=>?_;subst ex;obtain rfl:u=aZ a:=rx;exact xnA hu I2 g ry fun s3 I3=>⟨.bl (!ov.isSome),H2,I3,rfl,q2⟩
theorem xfh(hu:X.A.units+1<cLine)(ho:PE X o td)(hi:PE X i ty)(hv:PE X value tv)(hs:kE value (some (.Subscript o i pos')) pos.line X.env=pure false):
  PS X (.Assign [.Subscript o i pos'] value pos) (xp3 td ty tv):=by
 intro pins s σ H D I h;refine wpAny_Assign_Subscript (thn (hv pins s σ H _ I h) fun r s1 ⟨v,H1,I1,rv,q1⟩=>thn (ho pins s1 σ H1 _ I1 q1) fun u s2 ⟨x,H2,I2,rx,q2⟩=>thn (hi pins s2 σ H2 _ I2 q2) fun iv s3 ⟨y,H3,I3,ry,a,H4,ex,g,q3⟩=>?_) hs;subst ex;obtain rfl:u=aZ a:=rx;exact xkW hu I3 g ry rv fun s4 I4=>⟨σ,H4,I4,q3⟩
end
theorem xmb{P:aH}{w:World}{H:Hp}(h:Heap)(hb:eK<h.objs.size):xG P w H (h.push {cls:=.type "dict",data:=.dict #[]}) h.objs.size (.dK []):=
 ⟨aM _,beq_eq_false_iff_ne.mpr (bE (au hb)),[],.nil,mN h⟩
def xo1:TE:=fun _ H Q=>∀p,H p=none→Q (.ref p) (upd H p (.dK []))
section
variable {X:Cx} {pos:Pos}
theorem xdM:PE X (.Dict [] [] pos) xo1:=fun pins s σ H Q I h=>
 wpAny_Dict_empty ⟨.ref s.heap.objs.size,_,I.laid (a:=s.heap.objs.size) (o:=.dK []) (t':=s.toks) (fun _ _ q=>af _ q) (aj _) (xmb s.heap I.big),rfl,h _ (I.hok.fresh (aj _))⟩
end
structure M1(X:Cx)(o:Expr)(m:Str)(apos:Pos)(e:Expr)(cpos:Pos):Prop where
 base:gR o m X.env (eval o X.env)=eval o X.env
 few:((cZ cpos (aY [e] X.env)).all (fun x=> !x.1)&&(ly cpos (iC [] X.env)).all (fun x=>x.1.isSome)
  &&decide (([e]:List Expr).length+([]:List Keyword).length+(if ([]:List Keyword).isEmpty then 0 else 1)<30))=true
 line:(apos.endLine==cpos.line)=true
 trees:cZ cpos (aY [e] X.env)=[(false,eval e X.env)]
def IsD(H:Hp)(a:Addr):Prop:=(∃kvs,Rd H a (.dK kvs))∨∃kvs,Rd H a (.dT kvs)
theorem xo2{X:Cx}{pins:List (Addr×Obj)}{σ:St}{H:Hp}{s:ae}{a:Addr}(I:Inv X pins σ H s)(d:IsD H a):
  s.TypeIs (.ref a) "dict"∧(∀b,aZ a= .ref b→∃ob,s.heap.get? b=some ob∧ob.dict=none)∧(a==eK)=false:=by
 rcases d with⟨kvs,e⟩|⟨kvs,e⟩
 ·obtain⟨_,hd,vs,_,dd⟩:=xeo I.hok e;refine⟨dd.typeIs,fun b q=>?_,hd⟩;cases q;obtain⟨ob,_,_,h1,h2,_⟩:=dd;exact⟨ob,h1,h2.2.1⟩
 ·obtain⟨_,hd,xs,_,dd⟩:=xgH I.hok e;refine⟨dd.typeIs,fun b q=>?_,hd⟩;cases q;obtain⟨ob,_,_,h1,h2,_⟩:=dd;exact⟨ob,h1,h2.2.1⟩
section
variable {X:Cx} {pins:List (Addr×Obj)} {σ:St} {H:Hp} {s:ae} {a:Addr} {y d:V} {u r:Value} {o:Option V} {A:aV} {E:Value→ae→Prop}
end
def xo3(td ty:TE):TE:=fun σ H Q=>td σ H fun x H1=>∃a,x= .ref a∧IsD H1 a∧ty σ H1 fun y H2=>∃kvs k v,H2 a=some (.dK kvs)∧y=kV k∧yr kvs k=some v∧Q v (upd H2 a (.dK (jc kvs k)))
section
variable {X:Cx} {o e f:Expr} {apos cpos:Pos} {td ty tx:TE}
theorem xmc(ho:PE X o td)(he:PE X e ty)(m:M1 X o "pop" apos e cpos):PE X (.Call (.Attribute o "pop" apos) [e] [] cpos) (xo3 td ty):=by
 intro pins s σ H Q I h;refine wpAny_Call_method m.base m.few m.line PySem.F.plainAttrs_dict PySem.F.slot_dict_pop PySem.F.type_dict_pop (thn (ho pins s σ H _ I h) fun u s1 ⟨x,H1,I1,rx,a,ex,d,q1⟩=>?_);subst ex;obtain rfl:u=aZ a:=rx;obtain⟨t1,t2,_⟩:=xo2 I1 d;refine⟨t1,t2,?_⟩;rw[m.trees];refine gO rfl (lC (gq (thn (he pins s1 σ H1 _ I1 q1) fun iv s2 ⟨y,H2,I2,ry,kvs,k,v,ea,ey,l,q2⟩=>gH ?_)));subst ey;exact xp1 I2 ea ry l (.inl rfl) fun w' s3 I3 rw'=>⟨v,_,I3,rw',q2⟩
end
section
variable {X:Cx} {pins:List (Addr×Obj)} {σ:St} {H:Hp} {s:ae} {a:Addr} {kvs:List (Key×V)} {A:aV} {E:Value→ae→Prop}
end
section
variable {X:Cx} {pins:List (Addr×Obj)} {σ:St} {H:Hp} {s:ae} {a:Addr} {y:V} {u:Value} {A:aV} {E:Value→ae→Prop}
end
end L2
namespace Att
open PySem PySem.W PySem.Calls PyProof.Rows
theorem xeq{P:Params}{h:Heap}:∀(ns:List Int) (vs:List Value),WellAll P h vs (ns.map WData.int)→cP vs ns:=by
 intro ns
 induction ns with
 |nil=>
  intro vs w;rw[mh]at w;cases w;exact .nil
 |cons n ns ih=>
  intro vs w;rw[bc]at w;cases w with
  |cons a b=>
   cases a;exact .cons _ _ (ih _ b)
theorem xkY{l:OpenLaw}{n:Nat}(hn:l.most=some n){P:Params}{h:Heap}{args:List WData}{vals:List Value}
  (hpre:l.row.toRowW.claim.pre args=true) (hwl:WellAll P h vals args):
  ∃a vs ns,vals=[aZ a]∧args=[WData.list (ns.map WData.int)]∧h.get? a=some {cls:=.type "list",data:=.seq vs.toArray}∧cP vs ns∧ns.length≤n:=by
 have hsh:WShape.hasAll [] args [.list .int]=true:=(pre_splitW hpre).1;have hc:l.pre.holds [] {args:=args}=true:=(pre_splitW hpre).2;obtain⟨d,r,rfl,h1,h2⟩:=hasAllW_cons hsh;obtain rfl:=hasAllW_nil h2;obtain⟨xs,rfl,h3⟩:=hasW_list h1;obtain⟨ns,rfl⟩:=items_int h3;have hlen:ns.length≤n:=by
  unfold OpenLaw.pre at hc;have h4:(WTm.not (.lt (.lit (.int (n:Int))) (.len (.arg 0)))).holds [] {args:=[.list (ns.map .int)]}=true:=by
   have h4:=(holds_andW hc).1;rw[hn]at h4;exact h4
  have h5:=condW_of h4 (w_not (w_lt w_lit (w_len_list (w_arg rfl))));rw[ab]at h5;refine Nat.le_of_not_lt fun q=>?_;have q':(n:Int)<((ns.length:Nat):Int):=by omega
  first
   |(rw[decide_eq_true q']at h5;exact absurd h5 (by decide))
   |(simp at h5;omega)
 cases hwl with
 |cons w1 w2=>
  cases w2;cases w1 with
  |list ho hall=>exact⟨_,_,ns,rfl,rfl,ho,xeq ns _ hall,hlen⟩
theorem xkZ(l:OpenLaw)(args:List WData):l.row.toRowW.claim.post args (.bool true) args=true:=
 postW_of (r:=l.row.toRowW) (X:=(true==true))
  (show WShape.has [] (.bool true) .bool=true by first|rfl|decide|simp[WShape.has,WShape.arms,WShape.armsAll])
  (show(WTm.eq .res (.lit (.bool true))).value [] {args:=args,res:=some (.bool true),after:=args}=some (.bool (true==true))from w_eq_bool (w_res rfl) w_lit) rfl
theorem xiv{l:OpenLaw}{n:Nat}{q:aH}{loose:List Str}{XP:(Str→Option Value)→Heap→Prop}{YP:World→Heap→Prop}{d:DefRec}
  (hn:l.most=some n) (hdf:d.params.defaults=[])
  (call:∀(w:World) (s₀ s₁:ae) (mg mb:Str→Option Value) (fa:Addr) (o:Obj) (pm cd doc:Value) (a:Addr) (vs:List Value) (ns:List Int),
   Ground q loose [] XP w s₀ mg mb s₁.heap→YP w s₁.heap→
   s₁.heap.get? fa=some o→o.data= .func (docDef d.name d.params d.body d.scope pm cd doc)→s₁.heap.CodeRec cd d.name→mg d.name=some (.ref fa)→
   s₁.heap.get? a=some {cls:=.type "list",data:=.seq vs.toArray}→cP vs ns→ns.length≤n→s₁.gens=#[]→
   cU (model l.prog w) j6 (.call (.ref fa) ⟨[.ref a],[]⟩) (fun r s'=>r= .ok (.ret (.bool true))∧OldK s₁.heap s'.heap∧s'.os=s₁.os∧fH s'.gens) s₁):
  WalkO q loose XP YP l.row.toRowW d [] (fun f vs=>PySem.call f vs):=by
 intro w s₀ s₁ mg mb G Y fa o pm cd doc dV kV ho hd hcd hD hmg hg args vals as hpre hlay hrd hwl hlo;obtain rfl:dV= .none:=Dflts.none hD hdf;obtain rfl:kV= .none:=Dflts.noKw hD;obtain⟨a,vs,ns,rfl,rfl,hobj,hints,hlen⟩:=xkY hn hpre hwl;refine enter_call (dH (call w s₀ s₁ mg mb fa o pm cd doc a vs ns G Y ho (fd_plain hd) hcd hmg hobj hints hlen hg) fun r s' hq=>?_);obtain⟨rfl,h2,h3,h4⟩:=hq;exact⟨.inl ⟨.bool true,.bool true,[],rfl,fun _=>rfl,.bool true,xkZ l _,fun _=>⟨List.Pairwise.nil,fun _ hm=>(nomatch hm)⟩⟩,h2,h3,h4⟩
section
variable {prog:aH} {w:World} {A:aV} {E:Value→ae→Prop} {s:ae} {K:Frag}
end
end Att
namespace L2
open PySem PySem.Spec PyProof.Rows
theorem xbW:∀{vs:List Value} {ns:List Int},cP vs ns→Vals (ns.map V.int) vs
 |_,_,.nil=>.nil
 |_,_,.cons n t h=>.cons ⟨t,rfl⟩ (xbW h)
end L2
namespace L2
open PySem PySem.Spec PyProof.Rows
end L2
namespace L2
open PySem PySem.Spec PyProof.Rows
def inClass(s:Stmt)(j:Nat):Stmt:=match s with
 | .ClassDef _ _ _ body _ _ _ _ _ _ _=>body.getD j (.Pass ⟨0,0,0,0⟩)
 |_=>.Pass ⟨0,0,0,0⟩
def ye(s:Stmt):cy:=match s with
 | .FunctionDef _ a _ _ _ _ _ _ _ _=>a
 |_=>{posonlyargs:=[],args:=[],vararg:=none,kwonlyargs:=[],kw_defaults:=[],kwarg:=none,defaults:=[]}
def xQ(s:Stmt):List Stmt:=match s with
 | .FunctionDef _ _ b _ _ _ _ _ _ _=>b
 |_=>[]
def xj(s:Stmt):Scope:=match s with
 | .FunctionDef _ _ _ _ _ _ sc _ _ _=>sc
 |_=>{kind:=.function,names:=[],isGenerator:=false,isCoroutine:=false}
abbrev CX0:CXT:=fun _ _ _ _ _ _=>False
abbrev E0:XK:=fun _ _ _=>False
theorem xn{X:Cx}:Passes CX0 X E0:=fun _ _ _ _ _ _ _ h=>h.elim
structure Fun(K:ah)(x qual:Str)(st:Stmt)(f:Addr)(fd:aE):Prop where
 ex:∃(oc:Value) (od:Option Addr) (kV doc pm:Value) (an:Option Addr) (cdv ct:Value) (osl:Array (Option Value)),
  fd=dy x qual (ye st) (xQ st) (xj st) .none kV doc pm an cdv ct∧K.lookup f=some ⟨oc,od,.func fd,osl⟩∧eX K cdv qual=true
 kp:dG K (.ref f)=true
section
variable {P:aH} {w:World} {K:ah} {mg:Str→Option Value} {base:Heap}
theorem Fun.ok{x qual:Str}{st:Stmt}{f:Addr}{fd:aE}{N ps:List Str}{k:Nat}{sp:Sp}(F:Fun K x qual st f fd)(S:xq N ps (xj st))(len:∀vs H Q E,sp vs H Q E→vs.length=ps.length)
  (hbody:∀(cdv:Value) (A:aV) (outer:List Env) (s:ae) (H:Hp) (vs:List V) (Q:VK) (E:XK),xR k (A.deeper (gN qual (xj st) s.heap.objs.size f cdv))→sp vs H Q E→
   ∃t,PSs (xba CX0 P w K mg base N qual (xj st) f cdv A outer s H E).nox (xQ st) t∧t {nx:=fun _ H'=>Q .non H',rt:=Q} (start N vs) H):xA P w K mg base CX0 (k+1) f fd ps sp:=by
 obtain⟨oc,od,kV,doc,pm,an,cdv,ct,osl,rfl,lk,hcd⟩:=F.ex;refine xnb lk hcd S len fun A outer s H vs Q E hr hsp=>?_;obtain⟨t,h,q⟩:=hbody cdv A outer s H vs Q E hr hsp;exact⟨t,h.nox,q⟩
theorem Fun.binds{x qual:Str}{st:Stmt}{f:Addr}{fd:aE}{ps:List Str}(F:Fun K x qual st f fd)
  (h:∀(kV doc pm:Value) (an:Option Addr) (cdv ct:Value) (us:List Value),us.length=ps.length→gr (dy x qual (ye st) (xQ st) (xj st) .none kV doc pm an cdv ct) ⟨us,[]⟩=pure (ps.zip us)):Binds K fd ps []:=by
 obtain⟨oc,od,kV,doc,pm,an,cdv,ct,osl,rfl,lk,hcd⟩:=F.ex;exact .all (h kV doc pm an cdv ct)
theorem xaR{x qual:Str}{st:Stmt}{f:Addr}{oc:Value}{od an:Option Addr}{osl:Array (Option Value)}{kV doc pm cdv ct:Value}(l:K.lookup f=some ⟨oc,od,.func (dy x qual (ye st) (xQ st) (xj st) .none kV doc pm an cdv ct),osl⟩)
  (c:eX K cdv qual=true) (k:dG K (.ref f)=true):Fun K x qual st f (dy x qual (ye st) (xQ st) (xj st) .none kV doc pm an cdv ct):=⟨⟨oc,od,kV,doc,pm,an,cdv,ct,osl,rfl,l,c⟩,k⟩
end
theorem xad{A:aV}{k:Nat}(hr:xR k A):A.units+1<cLine:=fq (Nat.add_le_add_left (by decide:1≤64) _) hr.units
section
variable {X:Cx}
end
def xb(H H':Hp):Prop:=∀b o,H b=some o→H' b=some o
theorem xb.refl(H:Hp):xb H H:=fun _ _ h=>h
theorem xb.trans{H H1 H2:Hp}(a:xb H H1)(b:xb H1 H2):xb H H2:=fun c o h=>b c o (a c o h)
theorem xb.free{H H':Hp}(e:xb H H'){l:Addr}(h:H' l=Option.none):H l=Option.none:=by
 cases q:H l with
 |none=>rfl
 |some o=>
  rw[e l o q]at h;cases h
theorem xb.seq{K:ah}{H H':Hp}{a:Addr}{xs:List V}(e:xb H H')(h:SqL K H a xs):SqL K H' a xs:=by
 rcases h with(h|⟨o,h⟩)|h
 ·exact .inl (.inl (e _ _ h))
 ·exact .inl (.inr ⟨o,e _ _ h⟩)
 ·exact .inr h
section
variable {X:Cx}
theorem xk0:yh X (.builtin "len") (fun xs H Q=>∃a kvs,xs=[V.ref a]∧H a=some (.dK kvs)∧Q (.int kvs.length) H):=by
 intro pins s σ H xs us Q I r h;obtain⟨a,kvs,rfl,ha,q⟩:=h;obtain⟨u,rfl,ru⟩:=vals1 r;cases ru;exact xp2 I (.inl ha) fun t s' I'=>⟨.int kvs.length,H,I',⟨t,rfl⟩,q⟩
end
section
variable {κ:Type} [DecidableEq κ]
theorem xi4:∀{l:List κ} {k:κ},l.Nodup→¬k∈l→(l++[k]).Nodup
 |[],k,_,_=>by simp
 |a::r,k,h,hk=>by
  obtain⟨h1,h2⟩:=bT.mp h;show(a::(r++[k])).Nodup;refine bT.mpr ⟨fun m=>?_,xi4 h2 fun m=>hk (ax.mpr (fU m))⟩;rcases aQ.mp m with q|q
  ·exact h1 q
  ·exact hk (ax.mpr (aJ (aA.mp q).symm))
end
end L2
set_option maxHeartbeats 4000000
namespace L2
open PySem PySem.Spec PyProof.Rows
section
variable {X:Cx}
theorem PE.imp{e:Expr}{t t':TE}(h:PE X e t)(i:∀σ H Q,t' σ H Q→t σ H Q):PE X e t':=
 fun pins s σ H Q I q=>h pins s σ H Q I (i σ H Q q)
theorem PT.imp{e:Expr}{t t':TT}(h:PT X e t)(i:∀σ H Q,t' σ H Q→t σ H Q):PT X e t':=
 fun pins s σ H Q I q=>h pins s σ H Q I (i σ H Q q)
theorem OpR.imp{f:Value→Value→Sem Value}{r r':R2}(h:OpR X f r)(i:∀x y H Q,r' x y H Q→r x y H Q):OpR X f r':=
 fun pins s σ H x y v u Q I rx ry q=>h pins s σ H x y v u Q I rx ry (i x y H Q q)
theorem UnR.imp{f:Value→Sem Value}{r r':V→Hp→VK→Prop}(h:UnR X f r)(i:∀x H Q,r' x H Q→r x H Q):UnR X f r':=
 fun pins s σ H x v Q I rx q=>h pins s σ H x v Q I rx (i x H Q q)
theorem yh.imp{f:Value}{r r':List V→Hp→VK→Prop}(h:yh X f r)(i:∀xs H Q,r' xs H Q→r xs H Q):yh X f r':=
 fun pins s σ H xs us Q I rv q=>h pins s σ H xs us Q I rv (i xs H Q q)
theorem ub{e:Expr}{t u:TE}(h:PE X e t)(k:PE X e u):PE X e (fun σ H Q=>t σ H Q∨u σ H Q):=
 fun pins s σ H Q I q=>q.elim (fun z=>h pins s σ H Q I z) (fun z=>k pins s σ H Q I z)
def yC(i:Nat):TE:=fun σ H Q=>match σ[i]? with
 |some (some v)=>Q v H
 |_=>False
theorem xmd{i:Nat}{σ:St}{H:Hp}{Q:VK}(q:yC i σ H Q):xoC i σ H Q:=by
 unfold yC at q
 split at q
 ·rename_i v e;exact⟨v,e,q⟩
 ·exact q.elim
theorem cv(i:Nat){x:Str}{pos:Pos}(hN:X.N[i]? =some x:=by rfl)(hv:Vis X.env.scope x:=by first|exact aJ rfl|exact fU (aJ rfl)|exact fU (fU rfl))(hd:(x==("__debug__":Str))=false:=by decide)
  (hcd:(x==("__classdict__":Str))=false:=by decide):PE X (.Name x pos) (yC i):=(xkF hN hv hd hcd).imp fun _ _ _ q=>xmd q
def kI(C:Int→Int→Prop)(g:Int→Int→V):R2:=fun x y H Q=>match x with
 | .int i=>(match y with
  | .int j=>C i j∧Q (g i j) H
  |_=>False)
 |_=>False
def kI0(g:Int→Int→V):R2:=fun x y H Q=>match x with
 | .int i=>(match y with
  | .int j=>Q (g i j) H
  |_=>False)
 |_=>False
theorem xbX{C:Int→Int→Prop}{g:Int→Int→V}{x y:V}{H:Hp}{Q:VK}(q:kI C g x y H Q):rI C g x y H Q:=by
 cases x with
 |int i=>
  cases y with
  |int j=>exact⟨i,j,rfl,rfl,q.1,q.2⟩
  |_=>exact bH q
 |_=>exact bH q
theorem uz{g:Int→Int→V}{x y:V}{H:Hp}{Q:VK}(q:kI0 g x y H Q):rI0 g x y H Q:=by
 cases x with
 |int i=>
  cases y with
  |int j=>exact⟨i,j,rfl,rfl,q⟩
  |_=>exact bH q
 |_=>exact bH q
theorem xU:OpR X (c6 .Add) (kI0 fun i j=>.int (i+j)):=xoL.imp fun _ _ _ _=>uz
theorem xcS:OpR X (c6 .Sub) (kI0 fun i j=>.int (i - j)):=xoM.imp fun _ _ _ _=>uz
theorem xer:OpR X (c6 .Mult) (kI xjE fun i j=>.int (i*j)):=xoN.imp fun _ _ _ _=>xbX
def xne(_i j:Int):Prop:=0<j∧j.natAbs.log2<9000
theorem vJ:OpR X (c6 .FloorDiv) (kI xne fun i j=>.int (i / j)):=
 (opI (C:=xne) (g:=fun i j=>i / j) fun i j _ _ _ _ _ hc q=>by
  have h0:0<j:=hc.1;rw[←iN i (Int.le_of_lt h0)]at q;exact floordiv_int (Int.ne_of_gt h0) q (.inl (PyProof.noPylong_of_log2 hc.2))).imp fun _ _ _ _=>xbX
theorem yX:OpR X (c6 .Mod) (kI (fun _ j=>0<j) fun i j=>.int (i%j)):=xoO.imp fun _ _ _ _=>xbX
theorem xjQ:OpR X (c6 .Pow) (kI xoK fun i j=>.int (i^j.toNat)):=xoP.imp fun _ _ _ _=>xbX
theorem xat:OpR X (bw .Lt) (kI0 fun i j=>.bl (decide (i<j))):=xpR.imp fun _ _ _ _=>uz
theorem xme:OpR X (bw .LtE) (kI0 fun i j=>.bl (decide (i≤j))):=xpS.imp fun _ _ _ _=>uz
theorem xdN:OpR X (bw .Gt) (kI0 fun i j=>.bl (decide (j<i))):=xpT.imp fun _ _ _ _=>uz
theorem xo4:OpR X (bw .GtE) (kI0 fun i j=>.bl (decide (j≤i))):=xpU.imp fun _ _ _ _=>uz
theorem xgI{a b:V}{p:Prop}[Decidable p](h:a=b↔p):decide (a=b)=decide p:=by
 by_cases e:p
 ·rw[decide_eq_true e,decide_eq_true (h.mpr e)]
 ·rw[decide_eq_false e,decide_eq_false (fun q=>e (h.mp q))]
theorem ug:OpR X (bw .Eq) (kI0 fun i j=>.bl (decide (i=j))):=xm8.imp fun x y H Q q=>by
 obtain⟨i,j,rfl,rfl,q⟩:=uz q;exact⟨rfl,by rw[xgI (p:=i=j) ⟨fun e=>V.int.inj e,fun e=>by rw[e]⟩];exact q⟩
theorem xcT:OpR X (bw .NotEq) (kI0 fun i j=>.bl (!decide (i=j))):=xm9.imp fun x y H Q q=>by
 obtain⟨i,j,rfl,rfl,q⟩:=uz q;exact⟨rfl,by rw[xgI (p:=i=j) ⟨fun e=>V.int.inj e,fun e=>by rw[e]⟩];exact q⟩
def kS0(g:Str→Str→V):R2:=fun x y H Q=>match x with
 | .str i=>(match y with
  | .str j=>Q (g i j) H
  |_=>False)
 |_=>False
theorem xi5{g:Str→Str→V}{x y:V}{H:Hp}{Q:VK}(q:kS0 g x y H Q):∃i j,x= .str i∧y= .str j∧Q (g i j) H:=by
 cases x with
 |str i=>
  cases y with
  |str j=>exact⟨i,j,rfl,rfl,q⟩
  |_=>exact bH q
 |_=>exact bH q
theorem xnf:OpR X (bw .Eq) (kS0 fun i j=>.bl (decide (i=j))):=xm8.imp fun x y H Q q=>by
 obtain⟨i,j,rfl,rfl,q⟩:=xi5 q;exact⟨rfl,by rw[xgI (p:=i=j) ⟨fun e=>V.str.inj e,fun e=>by rw[e]⟩];exact q⟩
theorem xjR:OpR X (bw .NotEq) (kS0 fun i j=>.bl (!decide (i=j))):=xm9.imp fun x y H Q q=>by
 obtain⟨i,j,rfl,rfl,q⟩:=xi5 q;exact⟨rfl,by rw[xgI (p:=i=j) ⟨fun e=>V.str.inj e,fun e=>by rw[e]⟩];exact q⟩
def kU(g:Int→V):V→Hp→VK→Prop:=fun x H Q=>match x with
 | .int i=>Q (g i) H
 |_=>False
theorem xng:UnR X (unaryOp .USub) (kU fun i=>.int (-i)):=xoR.imp fun x H Q q=>by
 cases x with
 |int i=>exact⟨i,rfl,q⟩
 |_=>exact bH q
def xgJ(Q:Bool→Hp→Prop):VK:=fun x H1=>match x with
 | .bl k=>Q k H1
 |_=>False
theorem jx{Q:Bool→Hp→Prop}{x:V}{H1:Hp}(q:xgJ Q x H1):∃k,x= .bl k∧Q k H1:=by
 cases x with
 |bl k=>exact⟨k,rfl,q⟩
 |_=>exact bH q
def cB(t:TE):TT:=fun σ H Q=>t σ H (xgJ Q)
variable {a b c:Expr} {ta tb tc:TE} {tA tB':TT} {pos:Pos} {rest:List Expr}
theorem xD{op:CmpOp}{r:R2}(ho:OpR X (bw op) r)(ha:PE X a ta)(hb:PE X b tb)(hm:du op b=false:=by exact xkL _):PT X (.Compare a [op] [b] pos) (cB (tOp r ta tb)):=by
 intro pins s σ H Q I h;refine gZ (thn (ha pins s σ H _ I h) fun v s1 ⟨x,H1,I1,r1,q1⟩=>thn (hb pins s1 σ H1 _ I1 q1) fun u s2 ⟨y,H2,I2,r2,q2⟩=>
  thn (ho pins s2 σ H2 x y v u _ I2 r1 r2 q2) fun c s3 ⟨z,H3,I3,r3,q3⟩=>?_) hm
 obtain⟨k,rfl,q⟩:=jx q3;cases r3;exact cH ⟨H3,I3,q⟩
theorem uc{op:CmpOp}{r:R2}(ho:OpR X (bw op) r)(ha:PE X a ta)(hb:PE X b tb)(hm:du op b=false:=by exact xkL _):PE X (.Compare a [op] [b] pos) (tOp r ta tb):=xnr ho ha hb hm
theorem yu{e:Expr}{t:TE}(h:PE X e t)(he:∀whole,isTrue e X.env whole=(do let v ←whole;kX e.pos;dN [v] (truthy v)):=by intro _;rfl):PT X e (cB t):=by
 intro pins s σ H Q I hw;refine isTrue_plain (thn (h pins s σ H _ I hw) fun v s1 ⟨x,H1,I1,r1,q1⟩=>?_) (he _);obtain⟨d,rfl,q⟩:=jx q1;cases r1;exact cH ⟨H1,I1,q⟩
def xqO(t u:TT):TT:=fun σ H Q=>t σ H fun c H1=>(c=true→u σ H1 Q)∧(c=false→Q false H1)
def cOr(t u:TT):TT:=fun σ H Q=>t σ H fun c H1=>(c=true→Q true H1)∧(c=false→u σ H1 Q)
theorem uF(ha:PT X a tA)(hb:PW X (.BoolOp .And (b::rest) pos) tB'):PW X (.BoolOp .And (a::b::rest) pos) (xqO tA tB'):=by
 intro wh pins s σ H Q I h;refine isTrue_and (thn (ha pins s σ H _ I h) fun c s1 ⟨H1,I1,q1⟩=>?_);cases c with
 |true=>exact hb wh pins s1 σ H1 Q I1 (q1.1 rfl)
 |false=>exact⟨H1,I1,q1.2 rfl⟩
theorem zo(ha:PT X a tA)(hb:PW X (.BoolOp .Or (b::rest) pos) tB'):PW X (.BoolOp .Or (a::b::rest) pos) (cOr tA tB'):=by
 intro wh pins s σ H Q I h;refine isTrue_or (thn (ha pins s σ H _ I h) fun c s1 ⟨H1,I1,q1⟩=>?_);cases c with
 |true=>exact⟨H1,I1,q1.1 rfl⟩
 |false=>exact hb wh pins s1 σ H1 Q I1 (q1.2 rfl)
def xp4(ta tb:TE):TE:=fun σ H Q=>ta σ H (xgJ fun c H1=>(c=true→tb σ H1 Q)∧(c=false→Q (.bl false) H1))
def xp5(ta:TE):TE:=fun σ H Q=>ta σ H (xgJ fun c H1=>Q (.bl (!c)) H1)
theorem zg(ha:PE X a ta)(hb:PE X (.BoolOp .And (b::rest) pos) tb):PE X (.BoolOp .And (a::b::rest) pos) (xp4 ta tb):=by
 intro pins s σ H Q I h;refine BoolOp_and (thn (ha pins s σ H _ I h) fun v s1 ⟨x,H1,I1,r1,q1⟩=>?_);obtain⟨c,rfl,q1⟩:=jx q1;cases r1;refine cH ?_;cases c with
 |true=>exact hb pins s1 σ H1 Q I1 (q1.1 rfl)
 |false=>exact⟨.bl false,H1,I1,rfl,q1.2 rfl⟩
theorem xo5(ha:PE X a ta):PE X (.UnaryOp .Not a pos) (xp5 ta):=by
 intro pins s σ H Q I h;refine UnaryOp_ (thn (ha pins s σ H _ I h) fun v s1 ⟨x,H1,I1,r1,q1⟩=>?_);obtain⟨c,rfl,q1⟩:=jx q1;cases r1;exact not_of (cH ⟨.bl (!c),H1,I1,rfl,q1⟩)
def xqP(c:TT)(t u:TS):TS:=fun D σ H=>c σ H fun b H1=>(b=true→t D σ H1)∧(b=false→u D σ H1)
theorem xM{c:Expr}{p q:List Stmt}{tc:TT}{t u:TS}(hc:PT X c tc)(ha:PSs X p t)(hb:PSs X q u):PS X (.If c p q pos) (xqP tc t u):=by
 intro pins s σ H D I h;refine wpAny_If (thn (hc pins s σ H _ I h) fun d s1 ⟨H1,I1,q1⟩=>?_);cases d with
 |true=>exact ha pins s1 σ H1 D I1 (q1.1 rfl)
 |false=>exact hb pins s1 σ H1 D I1 (q1.2 rfl)
@[irreducible] def xcU(c:TT)(tb:TS)(D:Ends)(σ:St)(H:Hp):Prop:=∃W:Nat→St→Hp→Prop,(∃m,W m σ H)∧∀m σ H,W m σ H→
 c σ H fun b H1=>(b=true→∃N:St→Hp→Prop,(∀σ' H',N σ' H'→∃m',m'<m∧W m' σ' H')∧tb {D with nx:=N,ct:=N,bk:=D.nx} σ H1)∧(b=false→D.nx σ H1)
def xk1(c:TT)(tb:TS):TS:=fun D σ H=>xcU c tb D σ H
@[irreducible] def zp(J:It)(g:TG)(tb:TS)(D:Ends)(σ:St)(H1:Hp):Prop:=∃W:Nat→Nat→St→Hp→Prop,(∃m,W 0 m σ H1)∧∀i m σ H,W i m σ H→
 (J.stop i H∧D.nx σ H)∨(J.go i H∧∃N:St→Hp→Prop,(∀σ' H',N σ' H'→∃m',m'<m∧W (i+1) m' σ' H')∧∀x H',J.yld i H x H'→g x σ H' fun σ2 H2=>tb {D with nx:=N,ct:=N,bk:=D.nx} σ2 H2)
def xjS(wi:TI)(g:TG)(tb:TS):TS:=fun D σ H=>wi σ H fun J H1=>zp J g tb D σ H1
theorem xi6(wi:TI)(g:TG)(tb:TS):xjS wi g tb=xjC wi g tb:=by
 funext D σ H
 unfold xjS xjC
 congr 1
 funext J H1
 unfold zp;rfl
theorem yD{tg iter:Expr}{body:List Stmt}{wi:TI}{g:TG}{tb:TS}{pos:Pos}(hp:PassesOwn (model X.prog X.w) X.A X.env X.xe)(hc:X.calm=true)(hi:PI X tg iter wi)(hg:PG X tg g)(hb:PSs X body tb)
  (hs:∀x,eE iter X.env x=pure x:=by intro _;rfl):PS X (.For tg iter body [] pos) (xjS wi g tb):=by
 rw[xi6];exact xkJ hp hc hi hg hb hs
def xqQ(t:TS):TS:=fun D σ H=>∃M:L2.St→Hp→Prop,t {D with nx:=M} σ H∧∀σ' H',M σ' H'→D.nx σ' H'
theorem xaS{st:Stmt}{t:TS}(h:PS X st t):PS X st (xqQ t):=by
 intro pins s σ H D I q;obtain⟨M,q1,q2⟩:=q;refine thn (h pins s σ H _ I q1) fun f s' z=>?_;cases f with
 |next=>obtain⟨σ',H',I',m⟩:=z;exact⟨σ',H',I',q2 σ' H' m⟩
 |brk=>exact z
 |cont=>exact z
 |ret v=>exact z
end
end L2
namespace L2
open PySem PySem.Spec PyProof.Rows
def yx(cells:List (Str×Addr)):List (Str×dP)→List (Str×Addr)→List (Str×Addr)
 |[],cs=>cs
 |(n,k)::r,cs=>yx cells r (if k== .free then(n,(cells.lookup n).getD 0)::cs else cs)
theorem jd{scope:Scope}{env:Env}(h:∀y∈scope.names,y.2= .free→∃c,env.cells.lookup y.1=some c):lD scope env=pure (yx env.cells scope.names []):=by
 have all:∀(l:List (Str×dP)) (cs:List (Str×Addr)),(∀y∈l,y.2= .free→∃c,env.cells.lookup y.1=some c)→
   (forIn l cs fun x r=>match x with
    |(name,kind)=>if (kind==bV)=true then do let a ←cellOf env name;pure (fw ((name,a)::r))else pure (fw r):Sem (List (Str×Addr)))=pure (yx env.cells l cs):=by
  intro l
  induction l with
  |nil=>intro cs _;rfl
  |cons y r ih=>
   intro cs hl;obtain⟨n,k⟩:=y;rw[kK]
   by_cases hk:k= .free
   ·subst hk;obtain⟨c,hc⟩:=hl (n,.free) aF rfl;have e:cellOf env n=pure c:=by unfold cellOf;rw[hc]
    simp only[beq_self_eq_true,if_true,e,pure_bind];rw[ih _ fun z hz=>hl z (aq _ hz)];simp[yx,hc]
   ·have hb:(k==bV)=false:=by simpa using hk
    simp only[hb,aU,if_false,pure_bind];rw[ih _ fun z hz=>hl z (aq _ hz)];simp[yx,hb]
 unfold lD;have:=all scope.names [] h;simp only[bind_pure]at this⊢;exact this
theorem xbe{cells:List (Str×Addr)}:∀{l:List (Str×dP)} {cs:List (Str×Addr)} {x:Str} {c:Addr},(∀y∈l,y.2= .free→∃c,cells.lookup y.1=some c)→(yx cells l cs).lookup x=some c→
  cs.lookup x=some c∨cells.lookup x=some c
 |[],cs,x,c,_,h=>.inl h
 |(n,k)::r,cs,x,c,hl,h=>by
  unfold yx at h;rcases xbe (fun z hz=>hl z (aq _ hz)) h with q|q
  ·split at q
   ·rename_i hk;rw[cE]at q
    split at q
    ·rename_i hx;obtain⟨c',hc⟩:=hl (n,k) aF (by simpa using hk);have e:x=n:=by simpa using hx
     subst e;rw[hc]at q
     right
     rw[hc];simpa using q
    ·exact .inl q
   ·exact .inl q
  ·exact .inr q
theorem vg{cells:List (Str×Addr)}:∀{l:List (Str×dP)} {cs:List (Str×Addr)} {x:Str},(x,bV)∈l∨(∃c,cs.lookup x=some c)→∃c,(yx cells l cs).lookup x=some c
 |[],cs,x,h=>by
  rcases h with h|h
  ·simp at h
  ·exact h
 |(n,k)::r,cs,x,h=>by
  unfold yx;refine vg ?_;rcases h with h|⟨c,h⟩
  ·rcases ax.mp h with h|h
   ·cases h
    right
    simp
   ·exact .inl h
  ·right
   split
   ·rw[cE]
    split
    ·exact⟨_,rfl⟩
    ·exact⟨c,h⟩
   ·exact⟨c,h⟩
def Cx.blk(X:Cx)(scope:Scope)(C:Addr)(Nc:List Str)(s₂:ae)(H₂:Hp)(fp:List Addr):Cx:=
 {X with N:=Nc,s₀:=s₂,H₀:=H₂,env:=compEnvC scope (yx X.env.cells scope.names []) C X.env,outer:=X.stack,stack:=X.stack,ex:=fp,fn:=fun _=>false,pn:=[],xe:=fun _ _=>False,cp:=fun _=>false}
def xbf(X:Cx)(scope:Scope):List Nat→List Str→Prop
 |[],[]=>True
 |j::js,y::ys=>(X.N[j]? =some y∧scope.names.lookup y=some .free∧(X.env.kindOf y=some .cell∨X.env.kindOf y=some .free))∧xbf X scope js ys
 |_,_=>False
def zh(σ:St)(cap:List Nat):St:=cap.map fun j=>(σ[j]?).getD none
structure zx(X:Cx)(scope:Scope)(x:Str)(cap:List Nat)(ys:List Str):Prop where
 kind:scope.kind= .function
 nocell:∀y∈scope.names,y.2≠.cell
 locs:∀y∈scope.names,y.2= .local→scope.names.lookup y.1=some .local
 lx:scope.names.lookup x=some .local
 fr:∀y∈scope.names,y.2= .free→X.env.kindOf y.1=some .cell∨X.env.kindOf y.1=some .free
 cap:xbf X scope cap ys
 nd:(x::ys).Nodup
theorem yo{X:Cx}{scope:Scope}{x:Str}{cap:List Nat}{ys:List Str}(kind:scope.kind= .function)(h1:(scope.names.all fun y=> !(y.2== .cell))=true)(h2:(scope.names.all fun y=> !(y.2== .local)||scope.names.lookup y.1==some .local)=true)
  (hx:scope.names.lookup x=some .local) (h3:(scope.names.all fun y=> !(y.2== .free)||(X.env.kindOf y.1==some .cell||X.env.kindOf y.1==some .free))=true) (hcap:xbf X scope cap ys) (hnd:(x::ys).Nodup):zx X scope x cap ys:=by
 refine⟨kind,fun y hy e=>?_,fun y hy e=>?_,hx,fun y hy e=>?_,hcap,hnd⟩
 ·have:=ck.mp h1 y hy;rw[e]at this;exact absurd this (by decide)
 ·have:=ck.mp h2 y hy;rw[e]at this;simpa using this
 ·have:=ck.mp h3 y hy;rw[e]at this;simpa using this
theorem vK{X:Cx}{scope:Scope}{σ:St}:∀{cap:List Nat} {ys:List Str} {i:Nat} {y:Str} {v:V},xbf X scope cap ys→ys[i]? =some y→(zh σ cap)[i]? =some (some v)→
  ∃j:Nat,X.N[j]? =some y∧σ[j]? =some (some v)∧scope.names.lookup y=some .free∧(X.env.kindOf y=some .cell∨X.env.kindOf y=some .free)
 |[],[],i,y,v,_,h,_=>by simp at h
 |j::js,z::zs,0,y,v,⟨⟨h1,h2,h3⟩,_⟩,e1,e2=>by
  simp at e1;subst e1;refine⟨j,h1,?_,h2,h3⟩;simp only[zh,bc,List.getElem?_cons_zero,mE]at e2;cases q:σ[j]? with
  |none=>rw[q]at e2;cases e2
  |some w=>rw[q]at e2;simp at e2;rw[e2]
 |j::js,z::zs,i+1,y,v,⟨_,h⟩,e1,e2=>vK (i:=i) h (by simpa using e1) (by simpa [zh]using e2)
 |[],_::_,_,_,_,h,_,_=>h.elim
 |_::_,[],_,_,_,h,_,_=>h.elim
theorem xbY{X:Cx}{scope:Scope}:∀{cap:List Nat} {ys:List Str},xbf X scope cap ys→cap.length=ys.length
 |[],[],_=>rfl
 |_::_,_::_,⟨_,h⟩=>by simp[xbY h]
 |[],_::_,h=>h.elim
 |_::_,[],h=>h.elim
theorem jy{l:List (Str×dP)}{y:Str}{k:dP}(h:l.lookup y=some k):(y,k)∈l:=PySem.mem_of_lookup h
theorem jz{env:Env}:∀{names:List (Str×dP)} {x:Str},names.lookup x=some .free→
  (names.map fun(n,k)=>if (k==bV&&env.scope.kind== .function&&env.kindOf n==some .cell)then(n,lP)else(n,k)).lookup x=some .cell∨
  (names.map fun(n,k)=>if (k==bV&&env.scope.kind== .function&&env.kindOf n==some .cell)then(n,lP)else(n,k)).lookup x=some .free
 |[],_,h=>by simp at h
 |(n,k)::r,x,h=>by
  have ih:= @jz env r x;rw[bc];rw[cE]at h;cases hx:x==n with
  |true=>
   rw[hx]at h;simp only[mE]at h;subst h;dsimp only
   split
   ·left;rw[cE,hx]
   ·right;rw[cE,hx]
  |false=>
   rw[hx]at h;dsimp only
   split
   ·rw[cE,hx];exact ih h
   ·rw[cE,hx];exact ih h
theorem zO{env:Env}:∀{names:List (Str×dP)} {x:Str} {k:dP},
  (names.map fun(n,k)=>if (k==bV&&env.scope.kind== .function&&env.kindOf n==some .cell)then(n,lP)else(n,k)).lookup x=some k→(k= .cell∨k= .free)→(∀y∈names,y.2≠.cell)→(x,bV)∈names
 |[],_,_,h,_,_=>by simp at h
 |(n,k')::r,x,k,h,hk,hc=>by
  rw[bc]at h;have hc':∀y∈r,y.2≠.cell:=fun y hy=>hc y (aq _ hy);have nk:k'≠.cell:=hc (n,k') aF;dsimp only at h
  split at h
  ·rename_i q;rw[cE]at h
   split at h
   ·rename_i hx;have e:x=n:=by simpa using hx
    have e2:k'= .free:=by
     simp only[dv,beq_iff_eq]at q;exact q.1.1
    rw[e,e2];exact aF
   ·exact aq _ (zO h hk hc')
  ·rw[cE]at h
   split at h
   ·rename_i hx;have e:x=n:=by simpa using hx
    have e3:k'=k:=by simpa using h
    rcases hk with q|q
    ·exact absurd (e3.trans q) nk
    ·rw[e,e3,q];exact aF
   ·exact aq _ (zO h hk hc')
section
variable {X:Cx} {scope:Scope} {x:Str} {cap:List Nat} {ys:List Str}
theorem zx.clos(B:zx X scope x cap ys)(ok:X.Ok):∀y∈scope.names,y.2= .free→∃c,X.env.cells.lookup y.1=some c:=fun y hy e=>ok.has y.1 (B.fr y hy e)
theorem zx.sub(B:zx X scope x cap ys)(ok:X.Ok){z:Str}{c:Addr}(h:(yx X.env.cells scope.names []).lookup z=some c):X.env.cells.lookup z=some c:=by
 rcases xbe (B.clos ok) h with q|q
 ·simp at q
 ·exact q
theorem zx.start{pins:List (Addr×Obj)}{σ:St}{H₂:Hp}{s₂:ae}{fp:List Addr}{h₁:Heap}{tk:Nat}{C D:Addr}(B:zx X scope x cap ys)(I:Inv X pins σ H₂ s₂)
  (hf:∀b∈fp,ve X pins H₂ b) (hD:s₂.heap.objs.size≤D) (hC:s₂.heap.objs.size≤C) (hDC:D≠C) (hk:∀b o,s₂.heap.get? b=some o→h₁.get? b=some o)
  (hns:∃m,h₁.Ns C m) (hl:h₁.get? D=some {cls:=.type "list",data:=.seq ([]:List Value).toArray}) (hfp:∀b∈fp,b<s₂.heap.objs.size):
  Inv (X.blk scope C (x::ys) s₂ H₂ fp) [] (none::zh σ cap) (upd H₂ D (.lst [])) {s₂ with heap:=h₁,toks:=tk}:=by
 have ok:=I.ok;have freshC:H₂ C=none:=I.hok.fresh hC;have freshD:H₂ D=none:=I.hok.fresh hD;have lt:∀b o,s₂.heap.get? b=some o→b<s₂.heap.objs.size:=fun b o e=>ak e;refine⟨⟨ok.mod,B.kind,ok.glob,ok.blt,hC,fun y z c h1 h2=>ok.inj y z c (B.sub ok h1) (B.sub ok h2),fun y hy=>?_,fun y c h=>(aB h).elim,ok.hd,ok.frames,.inl rfl,fun b hb=>⟨?_,fun y c h e=>?_⟩,I.bs,bg ok.bsz I.sz,fun b o e hb=>?_,fun b hb hs=>?_,I.stack,I.stkFree,fun y c h=>(aB h).elim,fun b hb=>I.hok.fresh hb⟩,
  rfl,I.bare,Un.laid hk hD freshD,?_,fun y c h=>?_,?_,fun y c h=>?_,fun p hp=>?_,?_,?_⟩
 ·have hy':(k6 scope X.env).names.lookup y=some .cell∨(k6 scope X.env).names.lookup y=some .free:=hy;have m:(y,bV)∈scope.names:=by
   rcases hy' with q|q
   ·exact zO q (.inl rfl) B.nocell
   ·exact zO q (.inr rfl) B.nocell
  exact vg (.inl m)
 ·exact au (aw (hfp b hb) hC)
 ·exact(hf b hb).2.2.2.2.1 y c (B.sub ok h) e
 ·rcases(hf b hb).2.2.2.1 with q|q
  ·exact ok.noex b o e q
  ·exact absurd (aw (ak (ok.bs b o e).1) q) (bL _)
 ·rcases ax.mp (I.stkSub b hs)with q|q
  ·exact(hf b hb).2.1 q
  ·exact(hf b hb).2.2.1 q
 ·obtain⟨m,hm⟩:=hns;refine⟨m,hm,fun i y v e1 e2 e3=>?_⟩;cases i with
  |zero=>simp at e2
  |succ i=>
   obtain⟨j,n1,n2,n3,n4⟩:=vK (i:=i) B.cap (by simpa [Cx.blk]using e1) (by simpa using e2);obtain⟨m0,hn0,hl0⟩:=I.loc;have vis:Vis X.env.scope y:=by
    rcases n4 with q|q
    ·exact .inr (.inl q)
    ·exact .inr (.inr q)
   obtain⟨u,ru,l⟩:=hl0 j y v n1 n2 vis;refine⟨u,ru,.inr ⟨jz n3,?_⟩⟩;rcases l with⟨k,_⟩|⟨_,c,ec,z⟩
   ·rw[k]at n4;rcases n4 with q|q<;> cases q
   ·obtain⟨c',ec'⟩:=vg (cells:=X.env.cells) (cs:=[]) (.inl (jy n3));have:=B.sub ok ec';rw[ec]at this;cases this;obtain⟨o,ho,hd⟩:=z;exact⟨c,ec',o,hk c o ho,hd⟩
 ·obtain⟨v,o,ho,hd⟩:=I.cell y c (B.sub ok h);exact⟨v,o,hk c o ho,hd⟩
 ·show upd H₂ D _ C=none;rw[xl (bE hDC)];exact freshC
 ·obtain⟨v,o,ho,hd⟩:=I.cell y c (B.sub ok h);rw[xl (au (aw (lt c o ho) hD))];refine(I.freeC y c (B.sub ok h)).imp id fun⟨_,o',ho',hno⟩=>⟨rfl,o',ho',fun z i v e1 k e2=>?_⟩;cases i with
  |zero=>simp at e2
  |succ i=>
   obtain⟨j,n1,n2,n3,n4⟩:=vK (i:=i) B.cap (by simpa [Cx.blk]using e1) (by simpa using e2);exact hno z j v n1 n4 n2
 ·exact absurd (show p∈([]:List (Addr×Obj))from hp) (by simp)
 ·exact I.hok.laid hk hD ⟨aM _,[],0,.nil,hl⟩
 ·simp[Cx.blk,zh,xbY B.cap]
theorem zx.back{pins:List (Addr×Obj)}{σ:St}{H₂ H':Hp}{s₂ s':ae}{fp:List Addr}{C:Addr}{pl:List (Addr×Obj)}{σ':St}(B:zx X scope x cap ys)(I:Inv X pins σ H₂ s₂)
  (hf:∀b∈fp,ve X pins H₂ b) (J:Inv (X.blk scope C (x::ys) s₂ H₂ fp) pl σ' H' s'):Inv X pins σ H' s':=
 I.call' (ch:=fp) J.os J.base J.hok J.bare fun b hb=>by
  obtain⟨f0,f1,f2,f3,f4,f5⟩:=hf b hb;refine⟨?_,f1,f4,f5⟩;rcases f3 with q|q
  ·exact .inl q
  ·exact .inr q
theorem zx.far{pins:List (Addr×Obj)}{σ:St}{H₂ H':Hp}{s₂ s':ae}{fp:List Addr}{C:Addr}{pl:List (Addr×Obj)}{σ':St}(I:Inv X pins σ H₂ s₂)
  (hC:s₂.heap.objs.size≤C) (J:Inv (X.blk scope C (x::ys) s₂ H₂ fp) pl σ' H' s'):
  H' C=none∧C≠X.env.locals∧X.s₀.heap.objs.size≤C∧(∀z c,X.env.cells.lookup z=some c→c≠C)∧∀p∈X.pn++pins,p.1≠C:=by
 refine⟨J.free,dX (aw I.lt hC),bg I.sz hC,fun z c e q=>?_,fun p hp q=>?_⟩
 ·obtain⟨v,w⟩:=I.cell z c e;exact absurd (aw w.lt (by rw[q];exact hC)) (bL _)
 ·exact absurd (aw (ak (I.pin p hp).1) (by rw[q];exact hC)) (bL _)
end
theorem xes{prog:aH}{w:World}{A:aV}{R:gp→ae→Prop}{s:ae}{elt tg iter:Expr}{ifs:List Expr}{scope:Scope}{pos:Pos}{it acc:Value}{env:Env}(J:Nat→ae→Prop)
  (go:∀n s,J n s→wpAny (model prog w) A (gn it) (fun r s1=>match r with
   |none=>R (.ok .next) s1
   |some v=>wpAny (model prog w) A (ia tg it v) (fun _ s2=>wpAny (model prog w) A (hZ tg env v) (fun _ s3=>
     wpAny (model prog w) A (forIn ifs true fun c r=>if r=true then do let ok ←isTrue c env (eval c env);pure (fw ok)else pure (fw r)) (fun ok s4=>
      if ok=true then wpAny (model prog w) A (eval elt env) (fun y s5=>wpAny (model prog w) A (call (.builtin "list.append") [acc,y]) (fun _ s6=>∃m,m<n∧J m s6) (fun _ _=>False) s5) (fun _ _=>False) s4
      else∃m,m<n∧J m s4) (fun _ _=>False) s3) (fun _ _=>False) s2) (fun _ _=>False) s1) (fun _ _=>False) s)
  (n:Nat) (h:J n s):cU (model prog w) A (.compLoop (.ListComp elt [⟨tg,iter,ifs,0⟩] scope pos) 0 it acc env) R s:=by
 refine codeAny_loop rfl J (fun n s hJ=>?_) n h;show wpAny _ A ((compTurn (.ListComp elt [⟨tg,iter,ifs,0⟩] scope pos) 0 it acc env).onRaise (fun x=>do noteFrame x env;theTreesLotGoes x)) _ _ s;refine wpAny_noted ?_;rw[compTurn_list];refine aa (iM (aa (bb (go n s hJ) (fun r s1 h1=>?_) fun _ _ z=>z.elim)));cases r with
 |none=>exact ag h1
 |some v=>
  refine aa (bb h1 (fun _ s2 h2=>aa (bb h2 (fun _ s3 h3=>aa (bb h3 (fun ok s4 h4=>?_) fun _ _ z=>z.elim)) fun _ _ z=>z.elim)) fun _ _ z=>z.elim);cases ok with
  |false=>exact ag ⟨rfl,h4⟩
  |true=>
   exact aa (aa (bb h4 (fun y s5 h5=>aa (bb h5 (fun _ s6 h6=>ag (ag ⟨rfl,h6⟩)) fun _ _ z=>z.elim)) fun _ _ z=>z.elim))
def CTs(Xc:Cx)(ifs:List Expr)(t:TT):Prop:=
 ∀(pins:List (Addr×Obj)) (s:ae) (σ:St) (H:Hp) (Q:Bool→Hp→Prop),Inv Xc pins σ H s→t σ H Q→
  wpAny (model Xc.prog Xc.w) Xc.A (forIn ifs true fun c r=>if r=true then do let ok ←isTrue c Xc.env (eval c Xc.env);pure (fw ok)else pure (fw r)) (TP Xc pins σ Q) Xc.xe s
def xdO:TT:=fun _ H Q=>Q true H
theorem yi{Xc:Cx}:CTs Xc [] xdO:=fun _ _ _ H _ I q=>wpAny_tests_nil ⟨H,I,q⟩
theorem xaT{Xc:Cx}{c:Expr}{t:TT}(h:PT Xc c t):CTs Xc [c] t:=fun pins s σ H Q I q=>wpAny_tests_one (h pins s σ H Q I q)
abbrev CW:=Nat→Nat→List V→Hp→Prop
@[irreducible] def yM(J:It)(caps:St)(tt:TT)(te:TE)(Q:VK)(H2:Hp):Prop:=∀D,H2 D=none→∃W:CW,(∃m,W 0 m [] (upd H2 D (.lst [])))∧
 ∀i m acc H3,W i m acc H3→H3 D=some (.lst acc)∧((J.stop i H3∧Q (.ref D) H3)∨(J.go i H3∧acc.length<aL∧∀v H4,J.yld i H3 v H4→tt (some v::caps) H4 fun b H5=>
  (b=true→te (some v::caps) H5 fun u H6=>H6 D=some (.lst acc)∧∃m',m'<m∧W (i+1) m' (acc++[u]) (upd H6 D (.lst (acc++[u]))))∧(b=false→∃m',m'<m∧W (i+1) m' acc H5)))
def xnh(cap:List Nat)(wi:TI)(tt:TT)(te:TE):TE:=fun σ H Q=>wi σ H fun J H2=>yM J (zh σ cap) tt te Q H2
section
variable {X:Cx} {scope:Scope} {x:Str} {cap:List Nat} {ys:List Str} {elt iter:Expr} {ifs:List Expr} {px pos:Pos} {wi:TI} {tt:TT} {te:TE}
theorem xet(B:zx X scope x cap ys)(hc:X.calm=true)(he:∀C s H fp,PE (X.blk scope C (x::ys) s H fp) elt te)(ht:∀C s H fp,CTs (X.blk scope C (x::ys) s H fp) ifs tt)
  {pins:List (Addr×Obj)} {σ:St} {s₂:ae} {Q:VK} {RR:Value→Addr→gp→ae→Prop} {itv:Value} {E:Value→ae→Prop}
  (hp:PIE X pins σ (.Name x px) (fun J H2=>yM J (zh σ cap) tt te Q H2) itv s₂)
  (hR:∀(D C:Addr) (H':Hp) (s':ae),Inv X pins σ H' s'→(∃m,s'.heap.Ns C m)→H' C=none→C≠X.env.locals→X.s₀.heap.objs.size≤C→(∀z c,X.env.cells.lookup z=some c→c≠C)→(∀p∈X.pn++pins,p.1≠C)→Q (.ref D) H'→RR (.ref D) C (.ok .next) s'):
  wpAny (model X.prog X.w) X.A (newList []) (fun acc s₃=>wpAny (model X.prog X.w) X.A (k8 scope X.env.globals (yx X.env.cells scope.names []) [] X.env.qual none .none (some X.env)) (fun cenv s₄=>
   cU (model X.prog X.w) X.A (.compStart (.ListComp elt [⟨.Name x px,iter,ifs,0⟩] scope pos) 0 itv acc {cenv with scope:=k6 scope X.env}) (RR acc cenv.locals) s₄) E s₃) E s₂:=by
 obtain⟨it,fp,tn,J,H2,e,I2,T,st2,f2,hw⟩:=hp;subst e;unfold yM at hw;refine cX (ij B.nocell (by intro y hy;simp at hy) (fun h₁ hns₁ hsb₁=>?_) B.kind);dsimp only at hns₁ hsb₁⊢;generalize hG:s₂.heap.push {cls:=.type "list",dict:=none,data:=.seq ([]:List Value).toArray}=G at hns₁ hsb₁⊢;have hsz:G.objs.size=s₂.heap.objs.size+1:=by rw[←hG,cV]
 have hCle:s₂.heap.objs.size≤G.objs.size:=by lia
 have hDC:s₂.heap.objs.size≠G.objs.size:=by lia
 have old:∀b o,s₂.heap.get? b=some o→h₁.get? b=some o:=fun b o q=>by
  have lt:=ak q;refine hsb₁.extBut b o (au (aw lt hCle)) (af _ ?_);rw[←hG];exact af _ q
 have accAt:h₁.get? s₂.heap.objs.size=some {cls:=.type "list",data:=.seq ([]:List Value).toArray}:=by
  refine hsb₁.extBut _ _ hDC (af _ ?_);rw[←hG];exact az _ rfl
 have hfp:∀b∈fp,b<s₂.heap.objs.size:=fun b hb=>by
  obtain⟨o,ho,_⟩:=T.obj _ _ st2 b hb;exact ak ho
 obtain⟨W,⟨m0,w0⟩,turn⟩:=hw s₂.heap.objs.size (I2.hok.fresh (aj _));generalize htk:s₂.toks+([]:List (Str×Value)).length=tk;have I0:=B.start (tk:=tk) (C:=G.objs.size) I2 f2 (aj _) hCle hDC old ⟨_,hns₁⟩ accAt hfp;have st0:tn 0 h₁:=T.keep _ _ _ st2 fun b hb o q=>old b o q
 -- what stays true of the iterator's objects
 have f3:∀{H':Hp},(∀b∈fp,H' b=none)→∀b∈fp,ve (X.blk scope G.objs.size (x::ys) s₂ H2 fp) [] H' b:=fun hn b hb=>by
  obtain⟨f0,f1,f2',f3',f4,f5⟩:=f2 b hb;refine⟨hn b hb,au (aw (hfp b hb) hCle),fun hs=>?_,.inl hb,fun z c q=>f4 z c (B.sub I2.ok q),fun p hp=>absurd (show p∈([]:List (Addr×Obj))from hp) (by simp)⟩;rcases ax.mp (I2.stkSub b hs)with q|q
  ·exact f1 q
  ·exact f2' q
 have n0:∀b∈fp,upd H2 s₂.heap.objs.size (.lst []) b=none:=fun b hb=>by
  rw[xl (au (hfp b hb))];exact(f2 b hb).1
 have loop:∀sx:ae,sx={s₂ with heap:=h₁,toks:=tk}→
   cU (model X.prog X.w) X.A (.compLoop (.ListComp elt [⟨.Name x px,iter,ifs,0⟩] scope pos) 0 (.ref it) (.ref s₂.heap.objs.size) (compEnvC scope (yx X.env.cells scope.names []) G.objs.size X.env)) (RR (.ref s₂.heap.objs.size) G.objs.size) sx:=by
  rintro sx rfl;refine xes (fun n s'=>∃i acc H',Inv (X.blk scope G.objs.size (x::ys) s₂ H2 fp) [] (none::zh σ cap) H' s'∧tn i s'.heap∧(∀b∈fp,H' b=none)∧W i n acc H') ?_ m0 ⟨0,[],_,I0,st0,n0,w0⟩;rintro n s3 ⟨i,acc,H3,I3,st3,fr3,w3⟩;obtain⟨hD3,alt⟩:=turn i n acc H3 w3;rcases alt with⟨stop,q⟩|⟨go,hlen,step⟩
  ·refine bb (T.done (X.blk scope G.objs.size (x::ys) s₂ H2 fp) rfl rfl rfl hc i [] s3 _ H3 (fun _ _=>False) I3 (f3 fr3) st3 stop) (fun r s4 ⟨hr,I4⟩=>?_) fun _ _ z=>z.elim;subst hr;obtain⟨g1,g2,g3,g4,g5⟩:=zx.far I2 hCle I4;obtain⟨m4,hm4,_⟩:=I4.loc;exact hR _ _ H3 s4 (B.back I2 f2 I4) ⟨m4,hm4⟩ g1 g2 g3 g4 g5 q
  ·refine bb (T.item (X.blk scope G.objs.size (x::ys) s₂ H2 fp) rfl rfl rfl hc i [] s3 _ H3 (fun _ _=>False) I3 (f3 fr3) st3 go) (fun r s4 ⟨u,hr,h4⟩=>?_) fun _ _ z=>z.elim;subst hr;refine bb h4 (fun _ s4 ⟨v,H4,I4,rv,y4,st4,fr4⟩=>?_) fun _ _ z=>z.elim;have I4':=I4.pinned (f3 fr4) (T.obj _ _ st4);refine i4 (xdH (X:=X.blk scope G.objs.size (x::ys) s₂ H2 fp) (i:=0) I4' B.nd rfl (.inl (dI B.lx)) rv (fun s5 I5=>?_) (.inr (dI B.lx)));have I5':Inv (X.blk scope G.objs.size (x::ys) s₂ H2 fp) ([]++ua fp s4.heap) (some v::zh σ cap) H4 s5:=I5;refine bb (ht _ _ _ _ _ s5 _ H4 _ I5' (step v H4 y4)) (fun ok s6 ⟨H6,I6,q6⟩=>?_) fun _ _ z=>z.elim;have pinned:∀{σ7:St} {H7:Hp} {s7:ae},Inv (X.blk scope G.objs.size (x::ys) s₂ H2 fp) ([]++ua fp s4.heap) σ7 H7 s7→tn (i+1) s7.heap∧∀b∈fp,H7 b=none:=fun{σ7 H7 s7} I7=>by
    refine⟨T.keep _ _ _ st4 fun b hb o e=>(I7.pin (b,o) (aS _ (aS _ (zN hb e)))).1,fun b hb=>?_⟩;obtain⟨o,e,d⟩:=T.obj _ _ st4 b hb;exact(I7.pin (b,o) (aS _ (aS _ (zN hb e)))).2.1
   have weak:∀{H7:Hp} {s7:ae},Inv (X.blk scope G.objs.size (x::ys) s₂ H2 fp) ([]++ua fp s4.heap) (some v::zh σ cap) H7 s7→Inv (X.blk scope G.objs.size (x::ys) s₂ H2 fp) [] (none::zh σ cap) H7 s7:=fun I7=>
    (I7.unpinned (pins:=[])).weak rfl fun j z e=>by
     cases j with
     |zero=>simp at e
     |succ j=>simpa using e
   cases ok with
   |false=>
    rw[if_neg aB];obtain⟨m',hm',w'⟩:=q6.2 rfl;exact⟨m',hm',i+1,acc,H6,weak I6,(pinned I6).1,(pinned I6).2,w'⟩
   |true=>
    rw[if_pos rfl];refine bb (he _ _ _ _ _ s6 _ H6 _ I6 (q6.1 rfl)) (fun y s7 ⟨z,H7,I7,rz,hD7,m',hm',w'⟩=>?_) fun _ _ z=>z.elim;refine bb (yH (X:=X.blk scope G.objs.size (x::ys) s₂ H2 fp) _ s7 _ H7 (.ref s₂.heap.objs.size) [z] (.ref s₂.heap.objs.size) [y] (fun _ H8=>H8=upd H7 s₂.heap.objs.size (.lst (acc++[z]))) I7 rfl (.cons rz .nil) ⟨_,acc,z,rfl,rfl,hD7,hlen,rfl⟩) (fun _ s8 ⟨_,H8,I8,_,e8⟩=>?_) fun _ _ z=>z.elim;subst e8;exact⟨m',hm',i+1,_,_,weak I8,(pinned I8).1,(pinned I8).2,w'⟩
 exact codeAny_compStart_list (loop _ rfl) (T.self _ 0 _ _ _ st0 (loop _ rfl))
theorem yj(B:zx X scope x cap ys)(hc:X.calm=true)(hi:PI X (.Name x px) iter wi)(he:∀C s H fp,PE (X.blk scope C (x::ys) s H fp) elt te)(ht:∀C s H fp,CTs (X.blk scope C (x::ys) s H fp) ifs tt)
  (hs:∀x,eE iter X.env x=pure x:=by intro _;rfl):PE X (.ListComp elt [⟨.Name x px,iter,ifs,0⟩] scope pos) (xnh cap wi tt te):=by
 intro pins s σ H Q I h;rw[eval_ListComp];refine gu (use:=none) rfl hs (jd (B.clos I.ok)) B.kind B.locs ?_;refine thn (hi pins s σ H _ I h) fun v s1 h1=>thn h1 fun itv s2 h2=>?_;refine xet (Q:=Q) (RR:=fun acc C=>compPost (model X.prog X.w) X.A X.xe none (EP X pins σ Q) acc C) B hc he ht h2 ?_;rintro D C H' s' J ⟨m,hm⟩ g1 g2 g3 g4 g5 q;exact⟨m,hm,fun h' sb=>⟨.ref D,H',J.turned (t':=s'.toks) (fun b o hb e=>(sb.2 b hb).trans e) g1 g2 (.inr g3) g4 g5,rfl,q⟩⟩
theorem xeu{i:Nat}{y:Str}{pos' spos:Pos}(B:zx X scope x cap ys)(hc:X.calm=true)(hN:X.N.Nodup)(hi:X.N[i]? =some y)(hy:X.env.scope.names.lookup y=some .local)(hit:PI X (.Name x px) iter wi)
  (he:∀C s H fp,PE (X.blk scope C (x::ys) s H fp) elt te) (ht:∀C s H fp,CTs (X.blk scope C (x::ys) s H fp) ifs tt)
  (hsw:kE (.ListComp elt [⟨.Name x px,iter,ifs,0⟩] scope pos) (some (.Name y pos')) spos.line X.env=pure true:=by rfl)
  (hs:∀x,eE iter X.env x=pure x:=by intro _;rfl):
  PS X (.Assign [.Name y pos'] (.ListComp elt [⟨.Name x px,iter,ifs,0⟩] scope pos) spos) (xl0 (xnh cap wi tt te) (xcQ i)):=by
 intro pins s σ H D I h;rw[exec_Assign_Name_used _ _ _ _ hsw];refine aa (iM (aa ?_));show wpAny _ X.A (do let _ ←comprehension (.ListComp elt [⟨.Name x px,iter,ifs,0⟩] scope pos) scope X.env _ (newList []) false (eval iter X.env) (some (hZ (.Name y pos') X.env))) _ _ s;refine aa (bb (gu (use:=some (hZ (.Name y pos') X.env)) (Q:=fun _ s'=>SP X pins D .next s') rfl hs (jd (B.clos I.ok)) B.kind B.locs
  (thn (hit pins s σ H _ I h) fun v s1 h1=>thn h1 fun itv s2 h2=>?_)) (fun _ s' hq=>ag (ag hq)) fun _ _ e=>e)
 refine xet (Q:=fun v H1=>xcQ i v σ H1 D.nx) (RR:=fun acc C=>compPost (model X.prog X.w) X.A X.xe (some (hZ (.Name y pos') X.env)) (fun _ s'=>SP X pins D .next s') acc C) B hc he ht h2 ?_;rintro Da C H' s' J ⟨m,hm⟩ g1 g2 g3 g4 g5 q;show wpAny _ X.A (hZ (.Name y pos') X.env (.ref Da)) _ _ s';refine(i4 (xfW (v:=.ref Da) J hN hi (.inl hy) rfl (fun s4 J4 ⟨a,sb,ha⟩=>?_) (.inr hy)));have hCa:C≠a:=by
  rcases ha with z|z
  ·rw[z];exact g2
  ·exact fun w=>g4 y a z w.symm
 refine⟨m,hm.sameBut sb hCa,fun h' sb'=>?_⟩;exact⟨_,H',J4.turned (t':=s4.toks) (fun b o hb e=>(sb'.2 b hb).trans e) g1 g2 (.inr g3) g4 g5,q⟩
end
end L2
namespace L2
open PySem PySem.Spec PyProof.Rows
def Its(lo st:Int)(n:Nat):It:=⟨fun i _=>i<n,fun i H x H'=>H'=H∧x= .int (lo+i*st),fun i _=>n≤i⟩
theorem xjT{P:aH}{w:World}{K:ah}{tg:Expr}(it:Addr)(lo st:Int)(n:Nat):Turn P w K tg (Its lo st n) [it] it (fun i h=>IsRangeIter h it (lo+(i:Nat)*st) ((n:Int) - (i:Nat)) st) where
 mem:=by simp
 obj:=fun i h q b hb=>by
  have e:b=it:=by simpa using hb
  subst e;exact⟨_,q,fun v z=>by
   have z':mI _=Data.cell v:=z;cases z'⟩
 keep:=fun i h h' q k=>k it (by simp) _ q
 item:=by
  intro X hP hw hK hc i pins s σ H E I hf q hg;subst hP hw hK;obtain⟨f0,f1,f2,f3,f4,f5⟩:=hf it (by simp);refine(Walks.range (prog:=X.prog) (w:=X.w) (I.ok.hd hc) it lo st n).item i s _ _ hg q fun v h' tk hv q' kk=>?_;obtain⟨t,rfl⟩:=hv;have I1:Inv X pins σ H {s with heap:=h',toks:=tk}:=I.turned (fun b o hb e=>kk b o (by simpa using hb) e) f0 f1 f3 f4 f5;exact⟨_,rfl,xeh (s:={s with heap:=h',toks:=tk}) (n:="range_iterator") q' rfl rfl (by decide) ⟨.int (lo+i*st),H,I1,⟨t,rfl⟩,⟨rfl,rfl⟩,q',fun b hb=>(hf b hb).1⟩⟩
 done:=by
  intro X hP hw hK hc i pins s σ H E I hf q hg;subst hP hw hK;obtain⟨f0,f1,f2,f3,f4,f5⟩:=hf it (by simp);exact wpAny_pyNext_range_end (I.ok.hd hc) q (by have:n≤i:=hg;lia) fun h' eb=>⟨rfl,I.turned (t':=s.toks) (fun b o hb e=>eb b o hb e) f0 f1 f3 f4 f5⟩
 self:=fun _ _ _ _ _ q h=>wpAny_pyIter_rangeiter q h
theorem xk2{P:aH}{w:World}{K:ah}{tg:Expr}(it:Addr)(lo st:Int)(n:Nat):Turn P w K tg (Its lo st n) [it] it (fun i h=>lE h it (lo+(i:Nat)*st) ((n:Int) - (i:Nat)) st) where
 mem:=by simp
 obj:=fun i h q b hb=>by
  have e:b=it:=by simpa using hb
  subst e;exact⟨_,q,fun v z=>by
   have z':mI _=Data.cell v:=z;cases z'⟩
 keep:=fun i h h' q k=>k it (by simp) _ q
 item:=by
  intro X hP hw hK hc i pins s σ H E I hf q hg;subst hP hw hK;obtain⟨f0,f1,f2,f3,f4,f5⟩:=hf it (by simp);refine(Walks.longrange (prog:=X.prog) (w:=X.w) (I.ok.hd hc) it lo st n).item i s _ _ hg q fun v h' tk hv q' kk=>?_;obtain⟨t,rfl⟩:=hv;have I1:Inv X pins σ H {s with heap:=h',toks:=tk}:=I.turned (fun b o hb e=>kk b o (by simpa using hb) e) f0 f1 f3 f4 f5;exact⟨_,rfl,xeh (s:={s with heap:=h',toks:=tk}) (n:="longrange_iterator") q' rfl rfl (by decide) ⟨.int (lo+i*st),H,I1,⟨t,rfl⟩,⟨rfl,rfl⟩,q',fun b hb=>(hf b hb).1⟩⟩
 done:=by
  intro X hP hw hK hc i pins s σ H E I hf q hg;subst hP hw hK;obtain⟨f0,f1,f2,f3,f4,f5⟩:=hf it (by simp);exact wpAny_pyNext_long_end (I.ok.hd hc) q (by have:n≤i:=hg;lia) fun h' eb=>⟨rfl,I.turned (t':=s.toks) (fun b o hb e=>eb b o hb e) f0 f1 f3 f4 f5⟩
 self:=fun _ _ _ _ _ q h=>wpAny_pyIter_longiter q h
def yR(a b c:Int):Nat:=(bu a b c).toNat
theorem xgW(a b c:Int):0≤bu a b c:=by
 unfold bu
 split
 ·split
  ·have:=Int.ediv_nonneg (a:=b - a - 1) (b:=c) (by lia) (by lia);lia
  ·lia
 ·split
  ·have:=Int.ediv_nonneg (a:=a - b - 1) (b:= -c) (by lia) (by lia);lia
  ·lia
theorem xf5(a b c:Int):((yR a b c:Nat):Int)=bu a b c:=cG (xgW a b c)
theorem zq(a b:Int):yR a b 1=(b - a).toNat:=by
 unfold yR bu;simp only[show(1:Int) > 0 by decide,if_true]
 split<;> simp<;> lia
section
variable {X:Cx} {tg:Expr}
theorem xo6{pins:List (Addr×Obj)}{σ:St}{H:Hp}{s:ae}{R:It→Hp→Prop}{E:Value→ae→Prop}{a b c:Int}{t u v:Tok}{r:Addr}(I:Inv X pins σ H s)(hr:IsRange s.heap r a b c t u v)
  (q:R (Its a c (yR a b c)) H):wpAny (model X.prog X.w) X.A (pyIter (.ref r)) (PIE X pins σ tg R) E s:=by
 have e2:bu a b c=((yR a b c:Nat):Int) - ((0:Nat):Int):=by rw[xf5];simp
 have e1:a=a+((0:Nat):Int)*c:=by simp
 have fp:∀b'∈[s.heap.objs.size],ve X pins H b':=fun b' hb=>by
  have e:b'=s.heap.objs.size:=by simpa using hb
  subst e;exact I.fpOk (aj _) (I.hok.fresh (aj _))
 cases hsm:iw a b c with
 |true=>
  refine wpAny_pyIter_range hr hsm ⟨s.heap.objs.size,[s.heap.objs.size],_,_,H,rfl,I.kept (t':=s.toks) fun b o e=>af _ e,xjT _ a c (yR a b c),?_,fp,q⟩;show IsRangeIter _ _ (a+((0:Nat):Int)*c) (((yR a b c:Nat):Int) - ((0:Nat):Int)) c;rw[←e1,←e2];exact az _ rfl
 |false=>
  refine wpAny_pyIter_longrange hr hsm ⟨s.heap.objs.size,[s.heap.objs.size],_,_,H,rfl,I.kept (t':=s.toks) fun b o e=>af _ e,xk2 _ a c (yR a b c),?_,fp,q⟩;show lE _ _ (a+((0:Nat):Int)*c) (((yR a b c:Nat):Int) - ((0:Nat):Int)) c;rw[←e1,←e2];exact az _ rfl
def xgX(k:Int→Hp→Prop):List V→Hp→Prop:=fun vs H=>match vs with
 |[.int j]=>k j H
 |_=>False
def xev(k:Int→Int→Hp→Prop):List V→Hp→Prop:=fun vs H=>match vs with
 |[.int i,.int j]=>k i j H
 |_=>False
theorem xfi{k:Int→Hp→Prop}{vs:List V}{H:Hp}(h:xgX k vs H):∃j,vs=[.int j]∧k j H:=by
 unfold xgX at h
 split at h
 ·exact⟨_,rfl,h⟩
 ·exact h.elim
theorem xdP{k:Int→Int→Hp→Prop}{vs:List V}{H:Hp}(h:xev k vs H):∃i j,vs=[.int i,.int j]∧k i j H:=by
 unfold xev at h
 split at h
 ·exact⟨_,_,rfl,h⟩
 ·exact h.elim
theorem xi7{us:List Value}{i:Int}(r:Vals [.int i] us):∃t,us=[.int i t]:=by
 obtain⟨u,rfl,t,rfl⟩:=Vals.one r;exact⟨t,rfl⟩
theorem xnC{us:List Value}{i j:Int}(r:Vals [.int i,.int j] us):∃t t',us=[.int i t,.int j t']:=by
 obtain⟨u,v,rfl,⟨t,rfl⟩,⟨t',rfl⟩⟩:=Vals.two r;exact⟨t,t',rfl⟩
def xp6(ta:TA):TI:=fun σ H R=>ta σ H (xgX fun j H1=>R (Its 0 1 (yR 0 j 1)) H1)
theorem zk{a:Expr}{ta:TA}{p pos:Pos}(hg:Gl X "range")(hm:X.mg "range"=none)(ha:PA X [a] ta)(hs:aY [a] X.env=[(false,eval a X.env)]:=by rfl):PI X tg (.Call (.Name "range" p) [a] [] pos) (xp6 ta):=by
 intro pins s σ H R I h;refine Call_ (yV I hg hm boot_range (bR (thn (ha pos pins s σ H _ I h) fun us s1 ⟨vs,H1,I1,r1,q1⟩=>?_) hs rfl));obtain⟨j,rfl,q⟩:=xfi q1;obtain⟨t,rfl⟩:=xi7 r1;refine call_range_1 (xo6 (I1.kept (t':=_) fun b o e=>af _ e) (IsRange.new ..) q)
def xp7(ta:TA):TE:=fun σ H Q=>ta σ H (xev fun i j H1=>∀p,H1 p=none→Q (.ref p) (upd H1 p (.rng i j)))
def xo7(ta:TA):TE:=fun σ H Q=>ta σ H (xgX fun j H1=>∀p,H1 p=none→Q (.ref p) (upd H1 p (.rng 0 j)))
theorem xf6{a b:Expr}{ta:TA}{p pos:Pos}(hg:Gl X "range")(hm:X.mg "range"=none)(ha:PA X [a,b] ta)(hs:aY [a,b] X.env=[(false,eval a X.env),(false,eval b X.env)]:=by rfl)(hs2:aY [b] X.env=[(false,eval b X.env)]:=by rfl):
  PE X (.Call (.Name "range" p) [a,b] [] pos) (xp7 ta):=by
 intro pins s σ H Q I h;refine Call_ (yV I hg hm boot_range (bR (thn (ha pos pins s σ H _ I h) fun us s1 ⟨vs,H1,I1,r1,q1⟩=>?_) (by rw[hs,hs2]) (by rw[hs2];rfl)));obtain⟨i,j,rfl,q⟩:=xdP q1;obtain⟨t,t',rfl⟩:=xnC r1;refine call_range_2 ⟨.ref s1.heap.objs.size,upd H1 s1.heap.objs.size (.rng i j),I1.laid (fun b o e=>af _ e) (aj _) ⟨_,_,_,az _ rfl⟩,rfl,q _ (I1.hok.fresh (aj _))⟩
theorem xk3{a:Expr}{ta:TA}{p pos:Pos}(hg:Gl X "range")(hm:X.mg "range"=none)(ha:PA X [a] ta)(hs:aY [a] X.env=[(false,eval a X.env)]:=by rfl):
  PE X (.Call (.Name "range" p) [a] [] pos) (xo7 ta):=by
 intro pins s σ H Q I h;refine Call_ (yV I hg hm boot_range (bR (thn (ha pos pins s σ H _ I h) fun us s1 ⟨vs,H1,I1,r1,q1⟩=>?_) hs rfl));obtain⟨j,rfl,q⟩:=xfi q1;obtain⟨t,rfl⟩:=xi7 r1;refine call_range_1 ⟨.ref s1.heap.objs.size,upd H1 s1.heap.objs.size (.rng 0 j),I1.laid (fun b o e=>af _ e) (aj _) ⟨_,_,_,az _ rfl⟩,rfl,q _ (I1.hok.fresh (aj _))⟩
end
end L2
namespace PySem
open Sem (wp)
section
variable {prog:aH} {w:World} {A:aV} {E:Value→ae→Prop} {s:ae}
theorem xjU{R:gp→ae→Prop}{r:Addr}{a b c:Int}{t u v:Tok}{k:Nat}(hnd:A.handled=none)(hr:IsRange s.heap r a b c t u v)(hbig:iw a b c=false)
  (hk:bu a b c=k) (hle:k≤2^24) (D:Addr) (z:Value) (m₀:Nat) (hD:s.heap.get? D=some {cls:=.type "list",data:=.seq #[] m₀})
  (hR:∀g tk xs m,(∀b o,b≠D→s.heap.get? b=some o→g.get? b=some o)→g.get? D=some {cls:=.type "list",dict:=none,data:=.seq xs m,slots:=#[]}→
   j7 (fun i v=>∃t,v= .int (a+i*c) t) xs k→R (.ok (.ret z)) {s with heap:=g,toks:=tk}):
  wpAny (model prog w) A.in1 (bF (.ref D) (.ref r) z)
   (fun fin s'=>match fin with| .done f=>R (.ok f) s'| .again d=>d.quiet=true∧cU (model prog w) A d R s') (fun e s'=>R (.error e) s') s:=by
 have nDr:D≠r:=fun e=>by rw[e,hr]at hD;simp at hD
 have nDI:D≠s.heap.objs.size:=au (ak hD);have nDf:D∉[s.heap.objs.size]:=fun q=>nDI (aA.mp q);have Wk:=(Walks.longrange (prog:=prog) (w:=w) (A:=A.in1) hnd s.heap.objs.size a c k).toS;have fin:∀(g:Heap) (m₁ tk:Nat),lE g s.heap.objs.size (a+((0:Nat):Int)*c) ((k:Int) - ((0:Nat):Int)) c→(∀b o,b≠D→s.heap.get? b=some o→g.get? b=some o)→
   g.get? D=some {cls:=.type "list",data:=.seq #[] m₁}→cU (model prog w) A (.builtin "list.extend.loop" ⟨[.ref D,.ref s.heap.objs.size,z],[]⟩) R {s with heap:=g,toks:=tk}:=by
  intro g m₁ tk q1 q2 q3;refine codeAny_extend_loopS Wk (by rw[ay];omega) D nDf z k 0 _ #[] m₁ rfl (aM _) q1 q3 (ItemsOf.nil _) fun s' xs m hm hD' hx=>?_;rw[Moved.eq_with hm];refine hR s'.heap s'.toks xs m (fun b o hb e=>hm.heap b o (fun hq=>?_) (q2 b o hb e)) hD' hx;rcases ax.mp hq with e'|hq
  ·exact hb e'
  ·exact absurd (ak e) (by rw[aA.mp hq];exact bL _)
 unfold bF;refine aa (fK (T:="range") ⟨_,hr,rfl⟩ ?_);have x1:c7 (.ref D) (.ref r)=false:=by simp[c7,nDr]
 have x2:(cw "range"==cw "list")=false:=by decide
 have x3:(cw "range"==cw "tuple")=false:=by decide
 simp only[x1,x2,x3,Bool.or_false,aU,if_false];refine aa (wpAny_pyIter_longrange hr hbig ?_);refine aa (bo (wpAny_hint_range (n:=k) (af _ hr) hk hle ?_));generalize hG:s.heap.push {cls:=.type "longrange_iterator",data:=.fields #[de a,de (bu a b c),de c]}=G;have i1:lE G s.heap.objs.size (a+((0:Nat):Int)*c) ((k:Int) - ((0:Nat):Int)) c:=by
  have q:G.get? s.heap.objs.size=some {cls:=.type "longrange_iterator",data:=.fields #[de a,de (bu a b c),de c]}:=by rw[←hG];exact az _ rfl
  rw[hk]at q;show G.get? _=_;rw[q];simp
 have old:∀b o,s.heap.get? b=some o→G.get? b=some o:=fun b o e=>by rw[←hG];exact af _ e
 have d1:=old D _ hD;refine wpAny_ite_split (fun _=>?_) (fun _=>ag ⟨bW ix _,fin _ m₀ _ i1 (fun b o _ e=>old b o e) d1⟩);refine aa (gE ?_);refine aa ?_;show wpAny _ _ (fM D (·.push .none) >>= fun _=>fM D (·.pop)) _ _ _;refine aa (cM d1 rfl ?_);have d2:=cm (aW (·.push bq)) d1 rfl;refine cM (hz:=by seq_fits) d2 rfl ?_;have d3:=cm (aW (·.pop)) d2 rfl;refine ag ⟨bW ix _,fin _ _ _ ?_ (fun b o hb e=>?_) d3⟩
 ·exact(bA _ _ nDI).trans ((bA _ _ nDI).trans i1)
 ·exact(bA _ _ (bE hb)).trans ((bA _ _ (bE hb)).trans (old b o e))
theorem xew{R:gp→ae→Prop}{r:Addr}{a b c:Int}{t u v:Tok}{k:Nat}(hnd:A.handled=none)(hr:IsRange s.heap r a b c t u v)
  (hk:bu a b c=k) (hle:k≤2^24) (D:Addr) (z:Value) (m₀:Nat) (hD:s.heap.get? D=some {cls:=.type "list",data:=.seq #[] m₀})
  (hR:∀g tk xs m,(∀b o,b≠D→s.heap.get? b=some o→g.get? b=some o)→g.get? D=some {cls:=.type "list",dict:=none,data:=.seq xs m,slots:=#[]}→
   j7 (fun i v=>∃t,v= .int (a+i*c) t) xs k→R (.ok (.ret z)) {s with heap:=g,toks:=tk}):
  wpAny (model prog w) A.in1 (bF (.ref D) (.ref r) z)
   (fun fin s'=>match fin with| .done f=>R (.ok f) s'| .again d=>d.quiet=true∧cU (model prog w) A d R s') (fun e s'=>R (.error e) s') s:=by
 cases hs:iw a b c with
 |true=>exact wpAny_extend_range hnd hr hs hk hle D z m₀ hD hR
 |false=>exact xjU hnd hr hs hk hle D z m₀ hD hR
theorem xfj{Q:Value→ae→Prop}{r:Addr}{a b c:Int}{t u v:Tok}{k:Nat}(hnd:A.handled=none)(hr:IsRange s.heap r a b c t u v)
  (hk:bu a b c=k) (hle:k≤2^24)
  (hQ:∀g tk xs m,(∀b o,s.heap.get? b=some o→g.get? b=some o)→
   g.get? s.heap.objs.size=some {cls:=.type "list",dict:=none,data:=.seq xs m,slots:=#[]}→j7 (fun i v=>∃t,v= .int (a+i*c) t) xs k→Q (.ref s.heap.objs.size) {s with heap:=g,toks:=tk}):
  wpAny (model prog w) A (call (.type "list") [.ref r]) Q E s:=by
 refine k9 (Q₁:=fun obj s₁=>obj= .ref s.heap.objs.size∧s₁={s with heap:=s.heap.push {cls:=.type "list",data:=.seq #[]}}) F.called_list (F.typeCall_list_1 _) F.entry_list_init
  (code_list_new _ ⟨rfl,rfl⟩) fun obj s₁ q₁=>?_
 obtain⟨rfl,rfl⟩:=q₁;generalize hG:s.heap.push {cls:=.type "list",data:=.seq #[]}=G;have old:∀b o,s.heap.get? b=some o→G.get? b=some o:=fun b o e=>by rw[←hG];exact af _ e
 have hD:G.get? s.heap.objs.size=some {cls:=.type "list",data:=.seq #[]}:=by rw[←hG];exact az _ rfl
 have nDr:s.heap.objs.size≠r:=fun e=>absurd (ak hr) (by rw[←e];exact bL _);refine⟨⟨_,hD,rfl⟩,F.args_list_init_2 _ _,?_⟩;show wpAny _ _ (do let old ←dW (.ref s.heap.objs.size);ky (.ref s.heap.objs.size) (fun _=>#[]);letGo old.toList.reverse;bF (.ref s.heap.objs.size) (.ref r) .none) _ _ _;refine aa ?_;unfold dW;refine aa (cK hD rfl (ag ?_));show wpAny _ _ (fM s.heap.objs.size (fun _=>#[]) >>= fun _=>letGo (#[]:Array Value).toList.reverse >>= fun _=>bF (.ref s.heap.objs.size) (.ref r) .none) _ _ _;refine aa (cM hD rfl ?_);have d2:=cm (aW (fun _=>(#[]:Array Value))) hD rfl;have oth:∀b o,b≠s.heap.objs.size→G.get? b=some o→(G.update s.heap.objs.size (aW (fun _=>(#[]:Array Value)))).get? b=some o:=
  fun b o hb e=>(bA _ _ (bE hb)).trans e
 refine aa (dq ?_);refine xew (A:=A.in1) hnd (oth r _ (bE nDr) (old r _ hr)) hk hle s.heap.objs.size .none _ d2 fun g tk xs m q1 q2 q3=>⟨rfl,?_⟩;exact hQ g tk xs m (fun b o e=>q1 b o (au (ak e)) (oth b o (au (ak e)) (old b o e))) q2 q3
end
end PySem
namespace L2
open PySem PySem.Spec PyProof.Rows
def xbZ(lo:Int)(n:Nat):List V:=(aO n).map fun(i:Nat)=>V.int (lo+(i:Int))
theorem xdi(lo:Int)(n:Nat):(xbZ lo n).length=n:=by simp[xbZ]
theorem vx:∀{xs:List V} {us:List Value},xs.length=us.length→(∀(j:Nat) (x:V) (u:Value),xs[j]? =some x→us[j]? =some u→RelV x u)→Vals xs us
 |[],[],_,_=>.nil
 |[],_::_,h,_=>by simp at h
 |_::_,[],h,_=>by simp at h
 |x::xs,u::us,h,k=>.cons (k 0 x u rfl rfl) (vx (by simpa using h) fun j y v e1 e2=>k (j+1) y v (by simpa using e1) (by simpa using e2))
theorem xjV{lo:Int}{n:Nat}{xs:Array Value}(h:j7 (fun i v=>∃t,v= .int (lo+(i:Int)*1) t) xs n):Vals (xbZ lo n) xs.toList:=by
 obtain⟨hl,hv⟩:=h;refine vx (by rw[xdi];simp[hl]) fun j x u e1 e2=>?_;obtain⟨t,rfl⟩:=hv j u (by simpa using e2);unfold xbZ at e1;rw[ao]at e1;cases q:(aO n)[j]? with
 |none=>rw[q]at e1;cases e1
 |some i=>
  rw[q]at e1;have e3:i=j:=by
   obtain⟨h1,h2⟩:=aD.mp q;rw[mn]at h2;exact h2.symm
  subst e3;cases e1;exact⟨t,by rw[Int.mul_one]⟩
section
variable {X:Cx}
theorem xbK(hc:X.calm=true):yh X (.type "list") (fun xs H Q=>∃p lo hi,xs=[.ref p]∧H p=some (.rng lo hi)∧yR lo hi 1≤2^24∧∀l,H l=none→Q (.ref l) (upd H l (.lst (xbZ lo (yR lo hi 1))))):=by
 intro pins s σ H xs us Q I r h;obtain⟨p,lo,hi,rfl,hp,hz,q⟩:=h;obtain⟨u,rfl,ru⟩:=Vals.one r;cases ru;obtain⟨t,u,v,hr⟩:=I.hok p _ hp;refine xfj (I.ok.hd hc) hr (xf5 lo hi 1).symm hz fun g tk xs m k1 k2 k3=>?_;have fr:H s.heap.objs.size=none:=I.hok.fresh (aj _);refine⟨.ref s.heap.objs.size,upd H s.heap.objs.size (.lst (xbZ lo (yR lo hi 1))),I.laid (h':=g) (t':=tk) k1 (aj _) ⟨?_,xs.toList,m,xjV k3,by simpa using k2⟩,rfl,q _ fr⟩;rw[xdi,ay];omega
end
end L2
namespace L2
open PySem PySem.Spec PyProof.Rows
mutual
inductive Rp(K:ah)(H:Hp):V→gv→Prop
 |non:Rp K H .non .none
 |bl (b:Bool):Rp K H (.bl b) (.bool b)
 |int (i:Int):Rp K H (.int i) (.int i)
 |str (x:Str):Rp K H (.str x) (.str x)
 |lst {a:Addr} {xs:List V} {ds:List gv}:SqL K H a xs→Rps K H xs ds→Rp K H (.ref a) (.list ds)
 |tup {a:Addr} {xs:List V} {ds:List gv}:SqT K H a xs→Rps K H xs ds→Rp K H (.ref a) (.tuple ds)
inductive Rps(K:ah)(H:Hp):List V→List gv→Prop
 |nil:Rps K H [] []
 |cons {x:V} {d:gv} {xs:List V} {ds:List gv}:Rp K H x d→Rps K H xs ds→Rps K H (x::xs) (d::ds)
end
theorem xb.seqT{K:ah}{H H':Hp}{a:Addr}{xs:List V}(e:xb H H')(h:SqT K H a xs):SqT K H' a xs:=by
 rcases h with(h|⟨o,h⟩)|h
 ·exact .inl (.inl (e _ _ h))
 ·exact .inl (.inr ⟨o,e _ _ h⟩)
 ·exact .inr h
theorem Rps.ints{K:ah}{H:Hp}:∀ns:List Int,Rps K H (ns.map V.int) (ns.map c5)
 |[]=>.nil
 |i::r=>.cons (.int i) (Rps.ints r)
theorem Rp.ints{K:ah}{H:Hp}{a:Addr}{ns:List Int}(h:SqL K H a (ns.map V.int)):Rp K H (.ref a) (.list (ns.map c5)):=.lst h (.ints ns)
section
variable {X:Cx} {pins:List (Addr×Obj)} {σ:St} {H:Hp} {s:ae}
mutual
theorem Rp.reads(I:Inv X pins σ H s):∀{v:V} {d:gv} {u:Value},Rp X.K H v d→RelV v u→∃as,Reads s.heap u d as
 |_,_,u,.non,r=>by cases (show u=bq from r);exact⟨_,.none⟩
 |_,_,u,.bl b,r=>by cases (show u=dU b from r);exact⟨_,.bool b⟩
 |_,_,u,.int i,r=>by obtain⟨t,e⟩:=(show∃t,u=fj i t from r);subst e;exact⟨_,.int i t⟩
 |_,_,u,.str x,r=>by obtain⟨t,e⟩:=(show∃t,u=gY x t from r);subst e;exact⟨_,.str x t⟩
 |_,_,u,.lst (a:=a) q rr,r=>by
  cases (show u=aZ a from r);obtain⟨its,rv,p,hz⟩:=I.list q;obtain⟨as,ra⟩:=Rps.reads I rr rv;obtain⟨o,ho,hc,n,hd⟩:=p.isList;exact⟨_,.list ho hc hd (by simpa using ra)⟩
 |_,_,u,.tup (a:=a) q rr,r=>by
  cases (show u=aZ a from r);obtain⟨its,rv,p,hz⟩:=I.tuple q;obtain⟨as,ra⟩:=Rps.reads I rr rv;obtain⟨o,ho,hc,n,hd⟩:=p;exact⟨_,.tuple ho hc hd (by simpa using ra)⟩
theorem Rps.reads(I:Inv X pins σ H s):∀{v:List V} {d:List gv} {u:List Value},Rps X.K H v d→Vals v u→∃as,ReadsAll s.heap u d as
 |_,_,_,.nil,.nil=>⟨_,.nil⟩
 |_,_,_,.cons q rr,.cons r t=>by
  obtain⟨as,h1⟩:=Rp.reads I q r;obtain⟨bs,h2⟩:=Rps.reads I rr t;exact⟨_,.cons h1 h2⟩
end
end
def xfk(K:ah)(f:Bool→Bool):R2:=fun x y H Q=>∃da db,Rp K H x da∧Rp K H y db∧dY da=true∧dY db=true∧Q (.bl (f (eP da db))) H
section
variable {X:Cx}
theorem xp8(hu:X.A.units+64<cLine):OpR X (bw .Eq) (xfk X.K fun b=>b):=by
 intro pins s σ H x y v u Q I rx ry q;obtain⟨da,db,hx,hy,sa,sb,q⟩:=q;obtain⟨as,ra⟩:=hx.reads I rx;obtain⟨bs,rb⟩:=hy.reads I ry;exact eq_dataH ra rb sa sb hu ⟨.bl (eP da db),H,I,rfl,q⟩
theorem xbg(hu:X.A.units+64<cLine):OpR X (bw .NotEq) (xfk X.K fun b=> !b):=by
 intro pins s σ H x y v u Q I rx ry q;obtain⟨da,db,hx,hy,sa,sb,q⟩:=q;obtain⟨as,ra⟩:=hx.reads I rx;obtain⟨bs,rb⟩:=hy.reads I ry;exact ne_dataH ra rb sa sb hu ⟨.bl (!PyData.eqv da db),H,I,rfl,q⟩
def xqR(K:ah)(f:Bool→Bool):R2:=fun x y H Q=>∃(a b:Addr) (ns ms:List Int),x= .ref a∧y= .ref b∧SqL K H a (ns.map V.int)∧SqL K H b (ms.map V.int)∧Q (.bl (f (decide (ns=ms)))) H
theorem xaU{K:ah}{f:Bool→Bool}{x y:V}{H:Hp}{Q:VK}(q:xqR K f x y H Q):xfk K f x y H Q:=by
 obtain⟨a,b,ns,ms,rfl,rfl,ha,hb,q⟩:=q;refine⟨_,_,.ints ha,.ints hb,W.ke_shaped_ints ns,W.ke_shaped_ints ms,?_⟩;have e:eP (.list (ns.map c5)) (.list (ms.map c5))=decide (ns=ms):=W.ked_eqvAll ns ms;rw[e];exact q
def xo8:V→Option Value
 | .ty n=>some (.type n)
 | .ref a=>some (.ref a)
 |_=>none
theorem xmf{c:V}{cv v:Value}(h:xo8 c=some cv)(r:RelV c v):v=cv:=by
 cases c with
 |ref a=>cases h;exact r
 |ty n=>cases h;exact r
 |_=>cases h
def xo9(K:ah):List V→Hp→VK→Prop:=fun xs H Q=>∃x c t cv b,xs=[x,c]∧xo8 c=some cv∧yG K H x t∧fO K t cv=some b∧Q (.bl b) H
theorem yN:yh X (.builtin "isinstance") (xo9 X.K):=by
 intro pins s σ H xs us Q I r h;obtain⟨x,c,t,cv,b,rfl,rc,ty,e,q⟩:=h;obtain⟨u,v,rfl,ru,rv⟩:=Vals.two r;have e2:=xmf rc rv;subst e2;exact xkQ I ru ty e fun tk=>⟨.bl b,H,I.tok _,rfl,q⟩
structure xmg(K:ah)(C:Addr)(m:Str)(f:Addr):Prop where
 sp:kO K (.ref C) "__getattribute__"=some (some (.builtin "type.__getattribute__"))
 rd:W.readsIn K C (.type "type")=true
 fd:W.findCls K (.ref C) (.type "type") m=some (.val (.ref f))
 kp:dG K (.ref f)=true
theorem xfl{x m:Str}{C f:Addr}{fd:aE}{ps:List Str}{sp:Sp}{dvs:List V}{ds:List Value}{E:XK}{CX:CXT}{k:Nat}{p apos pos:Pos}{e:Expr}{es:List Expr}{t:TA}{pl:Sem Bool}
  (hg:Gl X x) (hm:X.mg x=some (.ref C)) (M:xmg X.K C m f) (F:xA X.prog X.w X.K X.mg X.base CX k f fd ps sp) (hr:xR k X.A) (hb:Binds X.K fd ps ds) (hd:Vals dvs ds) (hx:Passes CX X E) (ha:PA X (e::es) t)
  (hst:aY (e::es) X.env=(false,eval e X.env)::aY es X.env:=by rfl) (hpl:(cZ pos (aY es X.env)).any (·.1)=false:=by rfl) (hdb:(x==("__debug__":Str))=false:=by decide)
  (ht:eval (.Call (.Attribute (.Name x p) m apos) (e::es) [] pos) X.env=(do
   let ov ←eval (.Name x p) X.env
   kX apos.atName
   let(f,first) ←dN [ov] (kF ov m pl)
   callWith pos f first (cZ pos (aY (e::es) X.env)) (ly pos (iC [] X.env))):=by rfl):
  PE X (.Call (.Attribute (.Name x p) m apos) (e::es) [] pos) (xna sp dvs E t):=by
 intro pins s σ H Q I h;refine kH (pl:=pl) (xcP I hg hm ?_ hdb) ht;refine W.method_cls I.kIn M.sp (W.cls_value I.kIn M.rd M.fd rfl ?_);have I1:=I.tok (s.toks+1);refine j9 (first:=[]) (h₀:=X.base) I.ok.mod.kin M.kp (thn (ha pos pins _ σ H _ I1 h) fun us s2 ⟨vs,H2,I2,r,q2⟩=>⟨I2.kIn,?_⟩) hst hpl;exact xek F hr hb hd hx I2 r q2
end
end L2
namespace L2
open PySem PySem.Spec PyProof.Rows
theorem xN:bD "len"=some (.builtin "len"):=by decide+kernel
theorem xgY:bD "max"=some (.builtin "max"):=by decide+kernel
theorem xb0:bD "min"=some (.builtin "min"):=by decide+kernel
theorem xpa:bD "abs"=some (.builtin "abs"):=by decide+kernel
theorem xW:bD "isinstance"=some (.builtin "isinstance"):=by decide+kernel
theorem xf7:bD "sorted"=some (.builtin "sorted"):=by decide+kernel
theorem xpb:bD "sum"=some (.builtin "sum"):=by decide+kernel
theorem xpc:bD "any"=some (.builtin "any"):=by decide+kernel
theorem xpd:bD "all"=some (.builtin "all"):=by decide+kernel
theorem vh:bD "list"=some (.type "list"):=by decide+kernel
theorem zC:bD "tuple"=some (.type "tuple"):=by decide+kernel
theorem xpe:bD "int"=some (.type "int"):=by decide+kernel
theorem xnD:bD "bool"=some (.type "bool"):=by decide+kernel
theorem xnE:bD "dict"=some (.type "dict"):=by decide+kernel
theorem xb1:bD "enumerate"=some (.type "enumerate"):=by decide+kernel
theorem xiw:bD "reversed"=some (.type "reversed"):=by decide+kernel
theorem xnF{f:Str}{v:V}{fs:List (Str×V)}{n:Nat}(h:fs.length<n):(zA f v fs).length<n+1:=fq (xas f v fs) (by lia)
section
variable {X:Cx} {a b c:Expr} {ta tb:TE} {pos:Pos}
theorem xk4(hc:X.calm=true):yh X (.builtin "max") (fun xs H Q=>xev (fun i j H1=>Q (.int (max i j)) H1) xs H):=(xkM hc).imp fun xs H Q q=>by
 obtain⟨i,j,rfl,q⟩:=xdP q;refine⟨i,j,rfl,?_⟩;have e:(if j > i then j else i)=max i j:=by split<;> lia
 rw[e];exact q
theorem xpf(hc:X.calm=true):yh X (.builtin "min") (fun xs H Q=>xev (fun i j H1=>Q (.int (min i j)) H1) xs H):=(xkN hc).imp fun xs H Q q=>by
 obtain⟨i,j,rfl,q⟩:=xdP q;refine⟨i,j,rfl,?_⟩;have e:(if j<i then j else i)=min i j:=by split<;> lia
 rw[e];exact q
theorem xp9:yh X (.builtin "abs") (fun xs H Q=>xgX (fun i H1=>Q (.int (i.natAbs:Int)) H1) xs H):=xl3.imp fun xs H Q q=>by
 obtain⟨i,rfl,q⟩:=xfi q;refine⟨i,rfl,?_⟩;have e:(if i<0 then -i else i)=(i.natAbs:Int):=by split<;> lia
 rw[e];exact q
def isN:V→Bool
 | .non=>true
 |_=>false
theorem xi8(x:V):decide (x= .non)=isN x:=by cases x<;> simp[isN]
def xqa(ta:TE):TT:=fun σ H Q=>ta σ H fun x H1=>Q (isN x) H1
def xpg(ta:TE):TT:=fun σ H Q=>ta σ H fun x H1=>Q (!isN x) H1
theorem xgZ{j pos'}(ha:PE X a ta):PT X (.Compare a [.Is] [.Constant .none j pos'] pos) (xqa ta):=(xkG (xoD ha)).imp fun σ H Q q=>by
 show ta σ H _;have e:(fun x H1=>∃c,V.bl (decide (x=V.non))= .bl c∧Q c H1)=fun x H1=>Q (isN x) H1:=by
  funext x H1;rw[xi8];apply propext;exact⟨fun⟨c,e,q⟩=>by cases e;exact q,fun q=>⟨_,rfl,q⟩⟩
 rw[e];exact q
theorem xi9{j pos'}(ha:PE X a ta):PT X (.Compare a [.IsNot] [.Constant .none j pos'] pos) (xpg ta):=(xkG (xnp ha)).imp fun σ H Q q=>by
 show ta σ H _;have e:(fun x H1=>∃c,V.bl (!decide (x=V.non))= .bl c∧Q c H1)=fun x H1=>Q (!isN x) H1:=by
  funext x H1;rw[xi8];apply propext;exact⟨fun⟨c,e,q⟩=>by cases e;exact q,fun q=>⟨_,rfl,q⟩⟩
 rw[e];exact q
theorem jA{body:List Stmt}{tc:TT}{tb:TS}(hp:PassesOwn (model X.prog X.w) X.A X.env X.xe)(hc:PT X c tc)(hb:PSs X body tb):PS X (.While c body [] pos) (xk1 tc tb):=by
 intro pins s σ H D I h;unfold xk1 xcU at h;obtain⟨W,⟨m0,w0⟩,turn⟩:=h;refine wpAny_While (codeAny_whileLoop (fun n s'=>∃σ' H',Inv X pins σ' H' s'∧W n σ' H') ?_ m0 ⟨σ,H,I,w0⟩);rintro n s1 ⟨σ1,H1,I1,w1⟩;refine d6 hp (thn (hc pins s1 σ1 H1 _ I1 (turn n σ1 H1 w1)) fun b s2 ⟨H2,I2,q2⟩=>?_);cases b with
 |true=>
  obtain⟨N,hN,q2⟩:=q2.1 rfl;rw[if_pos rfl];refine d6 hp (thn (hb pins s2 σ1 H2 _ I2 q2) fun f s3 q3=>?_);cases f with
  |next=>
   obtain⟨σ3,H3,I3,n3⟩:=q3;obtain⟨m',hm,w3⟩:=hN σ3 H3 n3;exact⟨m',hm,σ3,H3,I3,w3⟩
  |cont=>
   obtain⟨σ3,H3,I3,n3⟩:=q3;obtain⟨m',hm,w3⟩:=hN σ3 H3 n3;exact⟨m',hm,σ3,H3,I3,w3⟩
  |brk=>exact q3
  |ret v=>exact q3
 |false=>
  rw[if_neg aB];exact f7 ⟨σ1,H2,I2,q2.2 rfl⟩
end
theorem xb2{lo st:Int}{n:Nat}{g:TG}{tb:TS}{D:Ends}{σ:St}{H:Hp}(Pv:Nat→St→Hp→Prop)(h0:Pv 0 σ H)
  (hs:∀(i:Nat) σ H,i<n→Pv i σ H→g (.int (lo+i*st)) σ H fun σ2 H2=>tb {D with nx:=Pv (i+1),ct:=Pv (i+1),bk:=D.nx} σ2 H2) (hd:∀σ H,Pv n σ H→D.nx σ H):zp (Its lo st n) g tb D σ H:=by
 unfold zp;refine⟨fun i m σ H=>m=n - i∧i≤n∧Pv i σ H,⟨n,by simp,aM _,h0⟩,?_⟩;rintro i m σ H ⟨rfl,hi,p⟩
 by_cases hlt:i<n
 ·refine .inr ⟨hlt,Pv (i+1),fun σ' H' p'=>⟨n - (i+1),by lia,rfl,hlt,p'⟩,fun x H' y=>?_⟩;obtain⟨e,y⟩:=y;subst e y;exact hs i σ _ hlt p
 ·have e:i=n:=by lia
  subst e;exact .inl ⟨aj _,hd σ H p⟩
theorem yY{K:ah}{l:Addr}{xs:List V}{g:TG}{tb:TS}{D:Ends}{σ:St}{H:Hp}(Pv:Nat→St→Hp→Prop)(h0:Pv 0 σ H)(hl:∀i σ H,i≤xs.length→Pv i σ H→SqL K H l xs)
  (hs:∀i x σ H,xs[i]? =some x→Pv i σ H→g x σ H fun σ2 H2=>tb {D with nx:=Pv (i+1),ct:=Pv (i+1),bk:=D.nx} σ2 H2) (hd:∀σ H,Pv xs.length σ H→D.nx σ H):zp (Itl K l) g tb D σ H:=by
 unfold zp;exact xl1 Pv h0 hl hs hd
theorem xb3{K:ah}{l:Addr}{xs:List V}{g:TG}{tb:TS}{D:Ends}{σ:St}{H:Hp}(Pv:Nat→St→Hp→Prop)(h0:Pv 0 σ H)(hl:∀i σ H,i≤xs.length→Pv i σ H→SqT K H l xs)
  (hs:∀i x σ H,xs[i]? =some x→Pv i σ H→g x σ H fun σ2 H2=>tb {D with nx:=Pv (i+1),ct:=Pv (i+1),bk:=D.nx} σ2 H2) (hd:∀σ H,Pv xs.length σ H→D.nx σ H):zp (Itt K l) g tb D σ H:=by
 unfold zp;exact xnq Pv h0 hl hs hd
theorem xb.new{H:Hp}{p:Addr}{o:HO}(h:H p=none):xb H (upd H p o):=fun b u e=>by rw[xl (xJ e h)];exact e
theorem xb.put{H H':Hp}{p:Addr}{o:HO}(e:xb H H')(h:H p=none):xb H (upd H' p o):=fun b u q=>by rw[xl (xJ q h)];exact e b u q
theorem xb.at{H H':Hp}{p:Addr}{o:HO}(e:xb H H')(h:H p=some o):H' p=some o:=e p o h
end L2
namespace L2
open PySem PySem.Spec PyProof.Rows
theorem xb.of_eq{H H':Hp}{p:Addr}{o:HO}(h:H p=none)(e:upd H p o=H'):xb H H':=by rw[←e];exact xb.new h
theorem xm{H H':Hp}{p:Addr}{o:HO}(e:upd H p o=H'):H' p=some o:=by rw[←e];exact xk
theorem xb.back{H H':Hp}{p:Addr}(e:xb H H')(h:H' p=none):H p=none:=xb.free e h
theorem xb.wr{H0 H H':Hp}{p:Addr}{o:HO}(s:xb H0 H)(f:H0 p=none)(e:upd H p o=H'):xb H0 H':=by rw[←e];exact s.put f
end L2
namespace L2
open PySem PySem.Spec PyProof.Rows
structure yS(H0 H:Hp)(l:Addr)(as:List Addr)(xss:List (List Int)):Prop where
 top:H l=some (.lst (as.map V.ref))
 nd:(l::as).Nodup
 len:as.length=xss.length
 each:∀(i:Nat) (a:Addr) (xs:List Int),as[i]? =some a→xss[i]? =some xs→H a=some (.lst (xs.map V.int))
 fr:H0 l=none
 frs:∀a∈as,H0 a=none
theorem yS.same{H0 H H':Hp}{l:Addr}{as:List Addr}{xss:List (List Int)}(L:yS H0 H l as xss)(s:xb H H'):yS H0 H' l as xss:=
 ⟨s.at L.top,L.nd,L.len,fun i a xs h1 h2=>s.at (L.each i a xs h1 h2),L.fr,L.frs⟩
theorem yS.base{H0 H0' H:Hp}{l:Addr}{as:List Addr}{xss:List (List Int)}(L:yS H0 H l as xss)(s:xb H0' H0):yS H0' H l as xss:=
 ⟨L.top,L.nd,L.len,L.each,s.back L.fr,fun a ha=>s.back (L.frs a ha)⟩
theorem yS.nil{H0 H H':Hp}{l:Addr}(h:H0 l=none)(e:H l=some (.lst [])):yS H0 H l [] []:=
 ⟨e,by simp,rfl,fun i a xs h1 _=>by simp at h1,h,fun a ha=>by simp at ha⟩
theorem yS.tracked{H0 H:Hp}{l:Addr}{as:List Addr}{xss:List (List Int)}(L:yS H0 H l as xss){a:Addr}(ha:a∈as):∃xs:List Int,H a=some (.lst (xs.map V.int)):=by
 obtain⟨i,hi,rfl⟩:=cz.mp ha;have h2:i<xss.length:=by rw[←L.len];exact hi
 exact⟨xss[i],L.each i _ _ (ai hi) (ai h2)⟩
theorem yS.apart{H0 H:Hp}{l:Addr}{as:List Addr}{xss:List (List Int)}(L:yS H0 H l as xss){p:Addr}(h:H p=none):p∉l::as:=by
 intro z;rcases ax.mp z with rfl|z
 ·rw[L.top]at h;cases h
 ·obtain⟨xs,e⟩:=L.tracked z;rw[e]at h;cases h
theorem yS.push{H0 H H':Hp}{l p:Addr}{as:List Addr}{xss:List (List Int)}{xs:List Int}(L:yS H0 H l as xss)(hp:H p=some (.lst (xs.map V.int)))(hne:p∉l::as)(hf:H0 p=none)
  (e:upd H l (.lst (as.map V.ref++[.ref p]))=H'):yS H0 H' l (as++[p]) (xss++[xs]):=by
 subst e;have hpl:p≠l:=fun z=>hne (by rw[z];exact aF);have hpa:p∉as:=fun z=>hne (aq _ z);obtain⟨n1,n2⟩:=bT.mp L.nd;refine⟨by rw[xk,aI];rfl,?_,by simp[L.len],fun i a ys h1 h2=>?_,L.fr,fun a ha=>?_⟩
 ·refine bT.mpr ⟨fun z=>?_,xi4 n2 hpa⟩;rcases aQ.mp z with z|z
  ·exact n1 z
  ·exact hpl (aA.mp z).symm
 ·have hla:a∈as++[p]:=aG h1;have nal:a≠l:=fun z=>by
   subst z;rcases aQ.mp hla with z|z
   ·exact n1 z
   ·exact hpl (aA.mp z).symm
  rw[xl nal]
  by_cases hi:i<as.length
  ·rw[bp hi]at h1;rw[bp (by rw[←L.len];exact hi)]at h2;exact L.each i a ys h1 h2
  ·rw[bz (by lia)]at h1;rw[bz (by rw[←L.len];lia)]at h2;have e1:i - as.length=0:=by
    cases hq:i - as.length with
    |zero=>rfl
    |succ k=>rw[hq]at h1;simp at h1
   rw[e1]at h1;rw[←L.len,e1]at h2;simp at h1 h2;rw[←h1,←h2];exact hp
 ·rcases aQ.mp ha with z|z
  ·exact L.frs a z
  ·have z':a=p:=by simpa using z
   rw[z'];exact hf
def je(xs:List Int):gv:=.list (xs.map c5)
def dLL(xss:List (List Int)):gv:=.list (xss.map je)
theorem xk5(xs:List Int):dA (je xs)=true:=by unfold je dA;exact kL xs
theorem xix(xs:List Int):dJ (je xs)≤1:=by unfold je dJ;rw[lQ];exact aj _
theorem xb4:∀xss:List (List Int),cI (xss.map je)=true
 |[]=>by simp[cI]
 |x::r=>by simp only[bc,cI,xk5,xb4 r,iQ]
theorem xaV:∀xss:List (List Int),gf (xss.map je)≤1
 |[]=>by simp[gf]
 |x::r=>by
  simp only[bc,gf];exact Nat.max_le.mpr ⟨xix x,xaV r⟩
theorem xjW(xss:List (List Int)):dY (dLL xss)=true:=by
 unfold dY dLL;have h1:dA (.list (xss.map je))=true:=by unfold dA;exact xb4 xss
 have h2:dJ (.list (xss.map je))≤64:=by unfold dJ;have:=xaV xss;lia
 rw[h1,decide_eq_true h2];rfl
theorem xjX{lo st:Int}{n:Nat}{te:TE}{caps:L2.St}{Q:VK}{H2:Hp}(f:Nat→List Int)(hn:n≤aL)
  (hs:∀(i:Nat) (H3:Hp),i<n→xb H2 H3→∀R:VK,(∀l H6,xb H3 H6→H3 l=none→H6 l=some (.lst ((f i).map V.int))→R (.ref l) H6)→te (some (.int (lo+i*st))::caps) H3 R)
  (hd:∀D H' as,xb H2 H'→yS H2 H' D as ((aO n).map f)→Q (.ref D) H'):yM (Its lo st n) caps xdO te Q H2:=by
 unfold yM;intro D hD;refine⟨fun i m acc H3=>m=n - i∧i≤n∧xb H2 H3∧∃as,acc=as.map V.ref∧yS H2 H3 D as ((aO i).map f),⟨n,by simp,aM _,xb.new hD,[],rfl,yS.nil (H':=H2) hD xk⟩,?_⟩;rintro i m acc H3 ⟨rfl,hi,s3,as,rfl,L⟩;refine⟨L.top,?_⟩
 by_cases hlt:i<n
 ·have hl:as.length=i:=by rw[L.len];simp
  refine .inr ⟨hlt,by simp[hl];lia,fun v H4 y=>?_⟩;obtain⟨e,y⟩:=y;subst e y;refine⟨fun _=>?_,fun z=>by cases z⟩;refine hs i _ hlt s3 _ fun l H6 s6 hl0 hl6=>⟨s6.at L.top,n - (i+1),by lia,rfl,hlt,(s3.trans s6).put hD,as++[l],by rw[aI];rfl,?_⟩;rw[gg,aI];exact(L.same s6).push hl6 (L.apart hl0) (s3.back hl0) rfl
 ·have e:i=n:=by lia
  subst e;exact .inl ⟨aj _,hd D H3 as s3 L⟩
section
variable {X:Cx}
end
end L2
namespace L2
open PySem PySem.Spec PyProof.Rows
abbrev HO.any:HO:=.ext fun _=>True
theorem xG.anyOf{P:aH}{w:World}{H:Hp}{h:Heap}{a:Addr}{o:Obj}(e:h.get? a=some o):xG P w H h a (.frz o HO.any):=⟨e,trivial,⟨o,e⟩,fun _ _ _ _=>trivial⟩
def yZ(H:Hp)(f:Addr)(nm qual:Str)(params:cy)(body:dg)(scope:Scope)(fv:List (Str×V)):Prop:=
 ∃(clos:List (Str×Addr)) (c:Addr) (o:Obj) (u u':HO) (vs:Array Value) (t:Tok) (doc pm ctv:Value),
  H f=some (.frz {cls:=.type "function",data:=.func {name:=nm,qualname:=qual,params,body,scope,globals:=bx,closure:=clos,defaults:=.none,kwdefaults:=.none,doc,pyModule:=pm,annotations:=none,code:=.ref c,closureTuple:=ctv,builtins:=dE}} u)∧
  H c=some (.frz o u')∧o.data= .fields vs∧vs[1]? =some (.str qual t)∧
  (∀x y a,clos.lookup x=some a→clos.lookup y=some a→x=y)∧(∀x,(x,bV)∈scope.names→∃a,clos.lookup x=some a)∧
  (∀x v,(x,v)∈fv→∃a,clos.lookup x=some a∧H a=some (.cel (some v)))∧∀x a,clos.lookup x=some a→∃v,H a=some (.cel (some v))
theorem yZ.same{H H':Hp}{f:Addr}{nm qual:Str}{params:cy}{body:dg}{scope:Scope}{fv:List (Str×V)}(h:yZ H f nm qual params body scope fv)(e:xb H H'):yZ H' f nm qual params body scope fv:=by
 obtain⟨clos,c,o,u,u',vs,t,doc,pm,ctv,h1,h2,h3,h4,h5,h6,h7,h8⟩:=h;exact⟨clos,c,o,u,u',vs,t,doc,pm,ctv,e _ _ h1,e _ _ h2,h3,h4,h5,h6,fun x v m=>let⟨a,q1,q2⟩:=h7 x v m;⟨a,q1,e _ _ q2⟩,fun x a q=>let⟨v,q2⟩:=h8 x a q;⟨v,e _ _ q2⟩⟩
theorem xnG{pos pos':Pos}{c:Value}(l:List Value)(h:kC l):
  gm pos' (l++[de pos.line,de pos.col,c])=(match gm pos' l with
   |some d=>some d
   |none=>if ((pos.line:Int)==pos'.line&&(pos.col:Int)==pos'.col)=true then some c else none):=by
 fun_induction kC l with
 |case1=>simp[gm,de]
 |case2 a t b u x rest ih=>
  simp only[ke,gm]
  split
  ·rfl
  ·exact ih h
 |case3 l h1 h2=>exact h.elim
def vU(K:ah)(c P:Addr):Prop:=∀h:Heap,K.In h→lF h c P
theorem xf8{cells:List (Str×Addr)}:∀{l:List (Str×dP)} {cs:List (Str×Addr)} {x:Str} {c:Addr},(yx cells l cs).lookup x=some c→(x,bV)∈l∨∃a,cs.lookup x=some a
 |[],cs,x,c,h=>.inr ⟨c,h⟩
 |(n,k)::r,cs,x,c,h=>by
  unfold yx at h;rcases xf8 h with q|⟨a,q⟩
  ·exact .inl (aq _ q)
  ·split at q
   ·rename_i hk;rw[cE]at q
    split at q
    ·rename_i hx;have e:x=n:=by simpa using hx
     have e2:k= .free:=by simpa using hk
     subst e;subst e2;exact .inl aF
    ·exact .inr ⟨a,q⟩
   ·exact .inr ⟨a,q⟩
abbrev xaW(name qual:Str)(params:cy)(body:dg)(scope:Scope)(clos:List (Str×Addr))(doc pm cdv ctv:Value):Obj:=
 {cls:=.type "function",data:=.func {name,qualname:=qual,params,body,scope,globals:=bx,closure:=clos,defaults:=.none,kwdefaults:=.none,doc,pyModule:=pm,annotations:=none,code:=cdv,closureTuple:=ctv,builtins:=dE}}
section
variable {M:Model} {A:aV} {E:Value→ae→Prop} {s:ae} {name qual:Str} {params:cy} {body:dg} {scope:Scope} {env:Env} {c P:Addr} {ps:Array Value} {pos:Pos} {firstLine:Nat} {mg:Str→Option Value}
 {clos:List (Str×Addr)} {Q:Value→ae→Prop}
theorem xnH(hcl:lD scope env=pure clos)(hge0:env.globals=bx)(hg:s.heap.Ns bx mg)(hcode:env.code= .ref c)(C:lF s.heap c P)(hP:s.heap.get? P=some (gW ps))(ht:kC ps.toList)
  (hnf:gm pos ps.toList=none) (hgP:bx≠P) (hb:s.heap.BuiltinsAt mg P)
  (h:∀c' ctv doc h' tk,mJ P s.heap h'→s.heap.objs.size≤c'→c'<h'.objs.size→h'.CodeRec (.ref c') qual→h'.get? P=some (gW (ps++#[de pos.line,de pos.col,.ref c']))→
   Q (.ref h'.objs.size) {s with heap:=h'.push (xaW name qual params body scope clos doc ((mg "__name__").getD .none) (.ref c') ctv),toks:=tk}):
  wpAny M A (makeFunction name qual params body scope env [] [] [] pos firstLine) Q E s:=by
 cases body with
 |stmts b=>exact W.makeFunction_K hcl hge0 hg hcode C hP ht hnf hgP hb h
 |expr e=>exact W.kla_makeFunction hcl hge0 hg hcode C hP ht hnf hgP hb fun c' ctv h' tk=>h c' ctv .none h' tk
theorem xph{cv:Value}(hcl:lD scope env=pure clos)(hge0:env.globals=bx)(hg:s.heap.Ns bx mg)(hcode:env.code= .ref c)(C:lF s.heap c P)(hP:s.heap.get? P=some (gW ps))(ht:kC ps.toList)
  (hf:gm pos ps.toList=some cv) (hb:s.heap.BuiltinsAt mg P)
  (h:∀(ctv doc:Value) (h':Heap) (tk:Tok),(∀b o,s.heap.get? b=some o→h'.get? b=some o)→s.heap.objs.size≤h'.objs.size→
   Q (.ref h'.objs.size) {s with heap:=h'.push (xaW name qual params body scope clos doc ((mg "__name__").getD .none) cv ctv),toks:=tk}):
  wpAny M A (makeFunction name qual params body scope env [] [] [] pos firstLine) Q E s:=by
 cases body with
 |stmts b=>exact W.makeFunction_hit hcl hge0 hg hcode C hP ht hf hb h
 |expr e=>exact W.kla_makeFunctionHit hcl hge0 hg hcode C hP ht hf hb fun ctv h' tk=>h ctv .none h' tk
end
section
variable {X:Cx} {pins:List (Addr×Obj)} {σ:St} {H:Hp} {s:ae} {c P:Addr} {qs:List (Pos×Str)} {name qual:Str} {params:cy} {body:dg} {scope:Scope} {pos:Pos} {fv:List (Str×V)} {Q:VK} {fns:List Str}
def tFn(X:Cx)(P:Addr)(qs:List (Pos×Str))(fns:List Str)(name qual:Str)(params:cy)(body:dg)(scope:Scope):TE:=fun σ H Q=>
 H P=some (.tbl qs)∧∃fv:List (Str×V),fv.map (·.1)=fns∧(∀x v,(x,v)∈fv→∃a,X.env.cells.lookup x=some a∧H a=some (.cel (some v)))∧
  ∀f H',H f=none→xb H H'→yZ H' f name qual params body scope fv→Q (.ref f) H'
theorem xnI(I:Inv X pins σ H s)(hcode:X.env.code= .ref c)(T:vU X.K c P)(hq:(pos,qual)∈qs)(hu:(qs.all fun p=> !((pos.line==p.1.line)&&(pos.col==p.1.col))||(p.2==qual))=true)
  (hfr:(scope.names.filter fun y=>y.2== .free).map (·.1)=fns) (h:tFn X P qs fns name qual params body scope σ H Q) {n:Nat}:
  wpAny (model X.prog X.w) X.A (makeFunction name qual params body scope X.env [] [] [] pos n) (EP X pins σ Q) X.xe s:=by
 obtain⟨hP,fv,hn,hf,h⟩:=h;have isfr:∀x,(x,bV)∈scope.names↔x∈fns:=fun x=>by
  rw[←hfr,aN];constructor
  ·exact fun m=>⟨(x,.free),aK.mpr ⟨m,rfl⟩,rfl⟩
  ·rintro⟨⟨y,k⟩,m,rfl⟩;have m2:=aK.mp m;have e:k= .free:=by simpa using m2.2
   subst e;exact m2.1
 have names:∀x,(x,bV)∈scope.names→∃v a,(x,v)∈fv∧X.env.cells.lookup x=some a∧H a=some (.cel (some v)):=fun x hx=>by
  have m:=(isfr x).mp hx;rw[←hn]at m;obtain⟨⟨x',v⟩,hm,rfl⟩:=aN.mp m;obtain⟨a,h1,h2⟩:=hf _ _ hm;exact⟨v,a,hm,h1,h2⟩
 have hcs:∀y∈scope.names,y.2= .free→∃c,X.env.cells.lookup y.1=some c:=fun y hy e=>by
  obtain⟨y1,y2⟩:=y;have e:y2= .free:=e;subst e;obtain⟨_,a,_,h1,_⟩:=names y1 hy;exact⟨a,h1⟩
 have hcl:=jd (scope:=scope) (env:=X.env) hcs;have sub:∀{z:Str} {a:Addr},(yx X.env.cells scope.names []).lookup z=some a→X.env.cells.lookup z=some a:=fun{z a} e=>by
  rcases xbe hcs e with q|q
  ·cases q
  ·exact q
 have subF:∀{z:Str} {a:Addr},(yx X.env.cells scope.names []).lookup z=some a→(z,bV)∈scope.names:=fun{z a} e=>by
  rcases xf8 e with q|⟨_,q⟩
  ·exact q
  ·cases q
 have cInj:∀x y a,(yx X.env.cells scope.names []).lookup x=some a→(yx X.env.cells scope.names []).lookup y=some a→x=y:=fun x y a e1 e2=>I.ok.inj x y a (sub e1) (sub e2);have cHas:∀x,(x,bV)∈scope.names→∃a,(yx X.env.cells scope.names []).lookup x=some a:=fun x m=>vg (.inl m);have cVal:∀x v,(x,v)∈fv→∃a,(yx X.env.cells scope.names []).lookup x=some a∧H a=some (.cel (some v)):=fun x v m=>by
  obtain⟨a,e1,e2⟩:=hf x v m;obtain⟨a',e3⟩:=cHas x ((isfr x).mpr (by rw[←hn];exact fZ m));have e4:=sub e3;rw[e1]at e4;cases e4;exact⟨a,e3,e2⟩
 have cAll:∀x a,(yx X.env.cells scope.names []).lookup x=some a→∃v,H a=some (.cel (some v)):=fun x a e=>by
  obtain⟨v,a',_,e1,e2⟩:=names x (subF e);rw[sub e]at e1;cases e1;exact⟨v,e2⟩
 have hg:s.heap.Ns bx X.mg:=I.mod.glob.keeps I.bk;obtain⟨ps,hPo,ht,hent⟩:=I.hok P _ hP;have C:=T s.heap I.kIn;have hgP:bx≠P:=fun q=>by
  obtain⟨o,es,ep,e,hd,_⟩:=hg;rw[q,hPo]at e;cases e;cases hd
 have hB:s.heap.BuiltinsAt X.mg P:=by
  obtain⟨bm,ob,b1,b2,b3,b4,b5,b6⟩:=I.mod.bm;have b3':=I.bk _ _ b3;refine⟨bm,ob,b1,b2,fun q=>?_,fun q=>?_,b3',b4,b5,b6⟩
  ·obtain⟨o,es,ep,e,hd,_⟩:=hg;rw[←q,b3']at e;cases e;rw[b6]at hd;cases hd
  ·rw[q,hPo]at b3';cases b3';cases b4
 rcases hent pos qual hq with hnf|⟨c',o,u,vs,t,hit,hc',hd,hv⟩
 ·refine xnH hcl I.ok.glob hg hcode C hPo ht hnf hgP hB fun c' ctv doc h' tk hx hge hlt hrec htb=>?_;obtain⟨c2,oc,vs,t,e2,hoc,hd,hv⟩:=hrec;cases e2;have hc0:H c'=none:=I.hok.fresh hge;have hsz:s.heap.objs.size≤h'.objs.size:=cx (fq hge hlt);have hf0:H h'.objs.size=none:=I.hok.fresh hsz;have hcf:c'≠h'.objs.size:=au hlt
  let fo:=xaW name qual params body scope (yx X.env.cells scope.names []) doc ((X.mg "__name__").getD .none) (.ref c') ctv
  let H':=upd (upd H c' (.frz oc HO.any)) h'.objs.size (.frz fo HO.any)
  have sm:∀b u,H b=some u→H' b=some u:=fun b u e=>by
   show upd _ _ _ b=_;rw[xl (xJ e hf0),xl (xJ e hc0)];exact e
  have H'c:H' c'=some (.frz oc HO.any):=by
   show upd _ _ _ c'=_;rw[xl hcf,xk]
  have H'f:H' h'.objs.size=some (.frz fo HO.any):=xk;have keep:∀b o,b≠P→s.heap.get? b=some o→(h'.push fo).get? b=some o:=fun b o hb e=>af _ (hx b o hb e);have nP:∀b,H b=none→b≠P:=fun b e q=>by rw[q,hP]at e;cases e
  refine⟨.ref h'.objs.size,H',I.un ⟨fun b o e n _ _=>keep b o (nP b n) e,fun b o e n _ _=>⟨o.slots,keep b o (nP b n) e⟩,fun b o e n _=>?_,fun b o e _=>?_,fun b u e _=>sm b u e⟩ fun b u e=>?_,rfl,?_⟩
  ·have lt:=ak e;show upd _ _ _ b=_;rw[xl (au (aw lt hsz)),xl (au (aw lt hge))];exact n
  ·by_cases hb:b=P
   ·exact⟨_,af _ (by rw[hb];exact htb)⟩
   ·exact⟨o,keep b o hb e⟩
  ·by_cases h1:b=h'.objs.size
   ·subst h1;rw[H'f]at e;cases e;exact xG.anyOf (az _ rfl)
   ·have e1:upd H c' (.frz oc HO.any) b=some u:=(xl h1).symm.trans e
    by_cases h2:b=c'
    ·subst h2;rw[xk]at e1;cases e1;exact xG.anyOf (af _ hoc)
    ·rw[xl h2]at e1
     by_cases hb:b=P
     ·subst hb;rw[hP]at e1;cases e1;refine⟨_,af _ htb,?_,fun pos' q m=>?_⟩
      ·simpa using TriplesOk_snoc (pos.line:Int) (pos.col:Int) (.ref c') ps.toList ht
      ·have e3:(ps++#[de pos.line,de pos.col,aZ c']).toList=ps.toList++[de pos.line,de pos.col,aZ c']:=by simp
       rw[e3,xnG _ ht];rcases hent pos' q m with z|⟨d,o,u,vs',t',z1,z2,z3,z4⟩
       ·rw[z]
        by_cases hl:((pos.line:Int)==pos'.line&&(pos.col:Int)==pos'.col)=true
        ·right
         have hqq:q=qual:=by
          have:=ck.mp hu (pos',q) m;simp only[dv,beq_iff_eq,Int.ofNat_inj,Int.natCast_inj]at hl;have a1:pos.line=pos'.line:=by have:=hl.1;omega
          have a2:pos.col=pos'.col:=by have:=hl.2;omega
          simpa [a1,a2]using this
         subst hqq;exact⟨c',oc,HO.any,vs,t,if_pos hl,H'c,hd,hv⟩
        ·exact .inl (if_neg hl)
       ·right
        rw[z1];exact⟨d,o,u,vs',t',rfl,sm _ _ z2,z3,z4⟩
     ·refine(I.hok b u e1).stay (fun d v hc q=>keep d v ?_ q) (fun d q=>sm _ _ q) fun d u q _=>sm _ _ q;rcases hc with rfl|hc
      ·exact hb
      ·intro z;rw[z,hP]at hc;cases hc
  ·exact h h'.objs.size H' hf0 sm ⟨_,c',oc,HO.any,HO.any,vs,t,doc,_,ctv,H'f,H'c,hd,hv,cInj,cHas,fun x v m=>let⟨a,q1,q2⟩:=cVal x v m;⟨a,q1,sm _ _ q2⟩,fun x a q=>let⟨v,q2⟩:=cAll x a q;⟨v,sm _ _ q2⟩⟩
 ·refine xph hcl I.ok.glob hg hcode C hPo ht hit hB fun ctv doc h' tk hk hsz=>?_;have hf0:H h'.objs.size=none:=I.hok.fresh hsz;have sm:xb H (upd H h'.objs.size (.frz (xaW name qual params body scope (yx X.env.cells scope.names []) doc ((X.mg "__name__").getD .none) (.ref c') ctv) HO.any)):=fun b u e=>by
   rw[xl (xJ e hf0)];exact e
  refine⟨.ref h'.objs.size,_,I.laid (o:=.frz (xaW name qual params body scope (yx X.env.cells scope.names []) doc ((X.mg "__name__").getD .none) (.ref c') ctv) HO.any) (fun b o e=>af _ (hk b o e)) hsz (xG.anyOf (az _ rfl)),rfl,?_⟩;exact h _ _ hf0 sm ⟨_,c',o,HO.any,u,vs,t,doc,_,ctv,xk,sm _ _ hc',hd,hv,cInj,cHas,fun x v m=>let⟨a,q1,q2⟩:=cVal x v m;⟨a,q1,sm _ _ q2⟩,fun x a q=>let⟨v,q2⟩:=cAll x a q;⟨v,sm _ _ q2⟩⟩
theorem xk6{e:Expr}(hcode:X.env.code= .ref c)(T:vU X.K c P)(hq:(pos,X.env.qual++"<lambda>")∈qs)(hu:(qs.all fun p=> !((pos.line==p.1.line)&&(pos.col==p.1.col))||(p.2==X.env.qual++"<lambda>"))=true)
  (hfr:(scope.names.filter fun y=>y.2== .free).map (·.1)=fns) (hdef:defaultsOf params X.env=([],[]):=by rfl):
  PE X (.Lambda params e scope pos) (tFn X P qs fns "<lambda>" (X.env.qual++"<lambda>") params (.expr e) scope):=fun _ _ _ _ _ I h=>
 W.kla_eval hdef (xnI I hcode T hq hu hfr h)
theorem Inv.track{x:Str}{a:Addr}{i:Nat}(I:Inv X pins σ H s)(hN:X.N.Nodup)(hi:X.N[i]? =some x)(hk:X.env.kindOf x=some .cell)(hcp:X.cp x=true)(hfn:X.fn x=false)(ha:X.env.cells.lookup x=some a)(hH:H a=none):
  Inv X pins σ (upd H a (.cel (σ[i]?.join))) s:=by
 have hab:∀b o,X.s₀.heap.get? b=some o→b≠a:=fun b o e=>au (aw (ak e) (I.ok.cab2 x a hcp ha));obtain⟨v0,hv0⟩:=I.cell x a ha;refine⟨I.ok,I.os,I.bare,⟨I.base.keep,I.base.slot,fun b o e n hx=>?_,I.base.there,fun b u e f=>?_⟩,I.loc,I.cell,?_,fun y c e=>?_,fun p hp=>?_,fun b u e=>?_,I.len⟩
 ·rw[xl (hab b o e)];exact I.base.free b o e n hx
 ·have:=I.base.fix b u e f;rw[xl (xJ this hH)];exact this
 ·rw[xl (bE (I.cne x a ha))];exact I.free
 ·by_cases hc:c=a
  ·subst hc;obtain rfl:=I.ok.inj _ _ _ e ha;refine .inr ⟨hfn,_,xk,fun z j v e1 k e2=>?_⟩;have:=xdG hN e1 hi;subst this;rw[e2]at z;cases z
  ·rw[xl hc];exact I.freeC y c e
 ·obtain⟨e,n,ne,nf,d⟩:=I.pin p hp;refine⟨e,?_,ne,nf,d⟩;rw[xl fun z=>?_]
  ·exact n
  ·obtain⟨o,q1,q2⟩:=hv0;rw[←z,e]at q1;cases q1;exact d _ q2
 ·by_cases hb:b=a
  ·subst hb;rw[xk]at e;cases e;cases hσ:σ[i]?.join with
   |none=>exact⟨v0,hv0,fun x z=>by cases z⟩
   |some v=>
    have hσ':σ[i]? =some (some v):=by
     cases q:σ[i]? with
     |none=>rw[q]at hσ;cases hσ
     |some w=>rw[q]at hσ;cases w with
      |none=>cases hσ
      |some w=>cases hσ;rfl
    obtain⟨m,hn,hl⟩:=I.loc;obtain⟨u,r,l⟩:=hl i x v hi hσ' (.inr (.inl hk));rcases l with⟨k,_⟩|⟨_,c,hc,hcell⟩
    ·rw[hk]at k;cases k
    ·rw[ha]at hc;cases hc;exact⟨_,hcell,fun y z=>by cases z;exact⟨u,rfl,r⟩⟩
  ·rw[xl hb]at e;exact(I.hok b u e).stay (fun _ _ _ q=>q) (fun d q=>by rw[xl (xJ q hH)];exact q) fun d u q _=>by rw[xl (xJ q hH)];exact q
def xpi(X:Cx)(x:Str)(i:Nat)(t:TS):TS:=fun D σ H=>∀a,X.env.cells.lookup x=some a→X.H₀ a=none→(∀y b,X.env.cells.lookup y=some b→y≠x→b≠a)→H a=none∧t D σ (upd H a (.cel (σ[i]?.join)))
theorem xb5{x:Str}{i:Nat}{b:List Stmt}{t:TS}(hN:X.N.Nodup)(hi:X.N[i]? =some x)(hk:X.env.kindOf x=some .cell)(hcp:X.cp x=true)(hfn:X.fn x=false)
  (h:PSs X b t):PSs X b (xpi X x i t):=fun pins s σ H D I q=>by
 obtain⟨a,ha⟩:=I.ok.has x (.inl hk);obtain⟨z,q⟩:=q a ha (I.ok.hz a (I.ok.cab2 x a hcp ha)) fun y b e ne z=>ne (I.ok.inj y x b e (z▸ha));exact h pins s σ _ D (I.track hN hi hk hcp hfn ha z) q
end
end L2
namespace L2
open PySem PySem.Spec PyProof.Rows
theorem xk7{P:aH}{w:World}{K:ah}{mg mb:Str→Option Value}{CX:CXT}{k:Nat}{fa a:Addr}{fd:aE}{x:Str}{sp:Sp}{s₁:ae}{vs:List Value}{ns:List Int}{tabs:List (Addr×Addr×List (Pos×Str))}
  (KX:K.In s₁.heap) (hns:s₁.heap.Ns bx mg) (hb:s₁.heap.Ns dE mb) (hbb:∀x:Str,x≠"__name__"→mb x=bD x) (hlim:s₁.heap.NoLimit) (hbm:∃b o,mg "__builtins__"=some (.ref b)∧b≠dE∧s₁.heap.get? b=some o∧o.cls= .type "module"∧o.dict=some dE∧o.data= .plain) (hg:s₁.gens=#[])
  (ha:s₁.heap.get? a=some {cls:=.type "list",data:=.seq vs.toArray}) (hi:cP vs ns) (hl:ns.length≤aL) (hr:xR k j6)
  (hT:∀q∈tabs,lF s₁.heap q.1 q.2.1∧s₁.heap.get? q.2.1=some (gW #[])) (hnt:W.noTabs K=true) (nd:(tabs.map fun q=>q.2.1).Nodup)
  (F:∀base:Heap,K.In base→base.Ns bx mg→xA P w K mg base CX k fa fd [x] sp) (hbind:∀(s:ae) (u:Value),BindsTo s fd ⟨[u],[]⟩ [(x,u)])
  (hsp:∀H:Hp,SqL K H a (ns.map V.int)→(∀q∈tabs,H q.2.1=some (.tbl q.2.2))→sp [.ref a] H (fun v _=>v= .bl true) fun _ _ _=>False)
  (hCX:∀H e s',CX [] H s₁ (fun _ _ _=>False) e s'→False):
  cU (model P w) j6 (.call (.ref fa) ⟨[.ref a],[]⟩) (fun r s'=>r= .ok (.ret (.bool true))∧OldK s₁.heap s'.heap∧s'.os=s₁.os∧fH s'.gens) s₁:=by
 have rv:=xbW hi;have lenV:=hi.length;have aP:∀q∈tabs,q.2.1≠a:=fun q hq z=>by
  have e:=(hT q hq).2;rw[z,ha]at e;cases e
 have core:∀H:Hp,SqL K H a (ns.map V.int)→(∀q∈tabs,H q.2.1=some (.tbl q.2.2))→
   (∀b u,H b=some u→(b=a∧K.lookup a=none∧∃xs,u= .frz {cls:=.type "list",data:=.seq vs.toArray} (.lst xs))∨∃q∈tabs,b=q.2.1∧u= .tbl q.2.2)→HOk P w H s₁.heap→
   cU (model P w) j6 (.call (.ref fa) ⟨[.ref a],[]⟩) (fun r s'=>r= .ok (.ret (.bool true))∧OldK s₁.heap s'.heap∧s'.os=s₁.os∧fH s'.gens) s₁:=by
  intro H hS hP hA hok;have base_of:∀{b:Addr} {o:Obj},s₁.heap.get? b=some o→H b=none→(xa9 s₁.heap H).get? b=some o:=fun e n=>xlY e n;have noA:∀{b:Addr} {o:Obj},s₁.heap.get? b=some o→o.cls≠.type "list"∨(∀n,o.data≠.seq vs.toArray n)→o≠gW #[]→H b=none:=fun{b o} e d1 d2=>by
   cases q:H b with
   |none=>rfl
   |some u=>
    rcases hA b u q with⟨rfl,_,_⟩|⟨t,ht,rfl,_⟩
    ·rw[ha]at e;cases e;rcases d1 with d1|d1
     ·exact absurd rfl d1
     ·exact absurd rfl (d1 _)
    ·have e2:=(hT t ht).2;rw[e]at e2;cases e2;exact absurd rfl d2
  have nsK:∀{b:Addr} {m:Str→Option Value},s₁.heap.Ns b m→(xa9 s₁.heap H).Ns b m:=fun{b m} ⟨o,es,ep,e,d,r⟩=>
   ⟨o,es,ep,base_of e (noA e (.inr fun n z=>by rw[d]at z;cases z) fun z=>by rw[z]at d;cases d),d,r⟩
  have hKb:K.In (xa9 s₁.heap H):=fun b o e=>base_of (KX b o e) (by
   cases q:H b with
   |none=>rfl
   |some u=>
    rcases hA b u q with⟨rfl,z,_⟩|⟨t,ht,rfl,_⟩
    ·rw[z]at e;cases e
    ·have e2:=KX _ _ e;rw[(hT t ht).2]at e2;cases e2;have h2:=ck.mp hnt _ (W.mem_of_lookupK e);exact absurd (show false=true from h2) aB)
  have hM:Mod K mg (xa9 s₁.heap H):=⟨hKb,nsK hns,⟨mb,nsK hb,hbb⟩,let⟨mc,h1,h2⟩:=hlim;⟨mc,nsK h1,h2⟩,let⟨b,o,a1,a2,a3,a4⟩:=hbm;⟨b,o,a1,a2,base_of a3 (noA a3 (.inl fun z=>by rw[a4.1]at z;simp at z) fun z=>by rw[z]at a4;cases a4.1),a4⟩⟩;have e0:vT P w K mg (xa9 s₁.heap H) j6 [] s₁ H:=⟨rfl,hM,fun b o e=>xno e,ib (xkE _ _),trivial,fun b hb=>absurd (show b∈([]:List Addr)from hb) (by simp),hok,.of_eq hg⟩;refine dH ((F _ hKb (nsK hns)).run j6 [] s₁ H ⟨[.ref a],[]⟩ [.ref a] [.ref a] _ _ hr e0 (hbind s₁ (.ref a)) (.cons rfl .nil) (hsp H hS hP)) fun r s' h=>?_;cases r with
  |error e=>exact(hCX H e s' h).elim
  |ok fl=>
   cases fl with
   |next=>exact bH h
   |brk=>exact bH h
   |cont=>exact bH h
   |ret u=>
    obtain⟨v,H',os,bare,un,hok',r',q⟩:=h;have q':v= .bl true:=q;subst q';obtain rfl:u=dU true:=r';have old:∀b o,s₁.heap.get? b=some o→s'.heap.get? b=some o∨∃t∈tabs,b=t.2.1∧o=gW #[]∧∃ps,s'.heap.get? b=some (gW ps):=fun b o e=>by
     cases q:H b with
     |none=>exact .inl (un.keep b o e q (by intro z;exact absurd (show b∈([]:List Addr)from z) (by simp)) (by simp))
     |some u=>
      rcases hA b u q with⟨rfl,_,xs,rfl⟩|⟨t,ht,rfl,rfl⟩
      ·obtain⟨e1,_⟩:=hok _ _ q;obtain⟨e2,_⟩:=hok' _ _ (un.fix _ _ q trivial);rw[e]at e1;cases e1;exact .inl e2
      ·obtain⟨ps,e2,_⟩:=hok' _ _ (un.fix _ _ q trivial);have e3:=(hT t ht).2;rw[e]at e3;cases e3;exact .inr ⟨t,ht,rfl,rfl,ps,e2⟩
    refine⟨rfl,⟨fun b o e=>?_,fun b o e=>?_⟩,os,bare⟩
    ·rcases old b o e with z|⟨t,ht,rfl,rfl,ps,z⟩
     ·exact .inl z
     ·exact .inr (.inl ⟨((hT t ht).1.tab (hT t ht).2).isCodeTable,rfl,#[],ps,rfl,by rw[Array.empty_append];exact z⟩)
    ·rcases old b o e with z|⟨t,ht,rfl,rfl,ps,z⟩
     ·exact⟨o,z⟩
     ·exact⟨_,z⟩
 let Ht:Hp:=fun b=>(tabs.find? fun q=>q.2.1==b).map fun q=>HO.tbl q.2.2
 have HtP:∀q∈tabs,Ht q.2.1=some (.tbl q.2.2):=fun q hq=>by
  show lG _ (tabs.find? _)=_;cases e:tabs.find? fun r=>r.2.1==q.2.1 with
  |none=>
   have:=fz.mp e q hq;simp at this
  |some r=>
   have h1:=kM e;have h2:=i9 e;have h3:r.2.1=q.2.1:=by simpa using h1
   have:r=q:=by
    obtain⟨i,hi⟩:=d7.mp h2;obtain⟨j,hj⟩:=d7.mp hq;have ei:(tabs.map fun q=>q.2.1)[i]? =some r.2.1:=by rw[ao,hi];rfl
    have ej:(tabs.map fun q=>q.2.1)[j]? =some r.2.1:=by rw[ao,hj,h3];rfl
    obtain⟨i1,i2⟩:=aD.mp ei;obtain⟨j1,j2⟩:=aD.mp ej;have:=(j8 nd).mp (i2.trans j2.symm);subst this;rw[hi]at hj;exact br hj
   subst this;rfl
 have HtA:∀b u,Ht b=some u→∃q∈tabs,b=q.2.1∧u= .tbl q.2.2:=fun b u e=>by
  have e:lG (fun q=>HO.tbl q.2.2) (tabs.find? fun q=>q.2.1==b)=some u:=e;obtain⟨q,hq,rfl⟩:=bf.mp e;have h1:=kM hq;exact⟨q,i9 hq,(show q.2.1=b by simpa using h1).symm,rfl⟩
 have tok:∀{H:Hp} {q},q∈tabs→xG P w H s₁.heap q.2.1 (.tbl q.2.2):=fun{H q} hq=>⟨#[],(hT q hq).2,trivial,fun _ _ _=>.inl rfl⟩;cases hk:K.lookup a with
 |some o=>
  have e:=KX a o hk;rw[ha]at e;cases e;refine core Ht (.inr ⟨_,vs.toArray,_,hk,rfl,rfl,rfl,by rw[av,lenV];exact hl,by simpa using rv⟩) HtP (fun b u z=>.inr (HtA b u z)) fun b u z=>?_;obtain⟨q,hq,rfl,rfl⟩:=HtA b u z;exact tok hq
 |none=>
  refine core (fun b=>if b=a then some (.frz {cls:=.type "list",data:=.seq vs.toArray} (.lst (ns.map V.int)))else Ht b) (.inl (.inr ⟨{cls:=.type "list",data:=.seq vs.toArray},if_pos rfl⟩)) (fun q hq=>(if_neg (aP q hq)).trans (HtP q hq)) (fun b u z=>?_) fun b u z=>?_
  ·by_cases hb:b=a
   ·have z':=(if_pos hb).symm.trans z;cases z';exact .inl ⟨hb,hk,_,rfl⟩
   ·exact .inr (HtA b u ((if_neg hb).symm.trans z))
  ·by_cases hb:b=a
   ·have z':=(if_pos hb).symm.trans z;cases z';subst hb;exact⟨ha,by rw[ab];exact hl,vs,_,rv,ha⟩
   ·obtain⟨q,hq,rfl,rfl⟩:=HtA b u ((if_neg hb).symm.trans z);exact tok hq
theorem xmh{l:W.OpenLaw}{n k:Nat}{q:aH}{loose:List Str}{XP:(Str→Option Value)→Heap→Prop}{YP:World→Heap→Prop}{d:DefRec}{K:Params→ah}{CX:CXT}{sp:ah→Sp}{x:Str}{tabs:List (Addr×Addr×List (Pos×Str))}
  (hn:l.most=some n) (hn2:n≤aL) (hdf:d.params.defaults=[]) (hr:xR k j6)
  (hY:∀(w:World) (h:Heap),YP w h→(K w.params).In h)
  (hT:∀(w:World) (h:Heap),YP w h→(K w.params).In h→∀t∈tabs,lF h t.1 t.2.1∧h.get? t.2.1=some (gW #[])) (hnt:∀w:World,W.noTabs (K w.params)=true) (nd:(tabs.map fun q=>q.2.1).Nodup)
  (F:∀(w:World) (mg:Str→Option Value) (fa:Addr) (h:Heap),(K w.params).In h→h.Ns bx mg→mg d.name=some (.ref fa)→
   ∃fd:aE,(∀(s:ae) (u:Value),BindsTo s fd ⟨[u],[]⟩ [(x,u)])∧
    ∀base:Heap,(K w.params).In base→base.Ns bx mg→xA l.prog w (K w.params) mg base CX k fa fd [x] (sp (K w.params)))
  (hsp:∀(K:ah) (H:Hp) (a:Addr) (ns:List Int),ns.length≤n→SqL K H a (ns.map V.int)→(∀q∈tabs,H q.2.1=some (.tbl q.2.2))→sp K [.ref a] H (fun v _=>v= .bl true) fun _ _ _=>False)
  (hCX:∀(H:Hp) (s:ae) (e:Value) (s':ae),CX [] H s (fun _ _ _=>False) e s'→False):
  W.WalkO q loose XP YP l.row.toRowW d [] (fun f vs=>PySem.call f vs):=by
 refine Att.xiv hn hdf fun w s₀ s₁ mg mb fa o pm cd doc a vs ns G Y ho hd hcd hmg hobj hints hlen hg=>?_;have KX:=hY w _ Y;obtain⟨fd,hb,hF⟩:=F w mg fa _ KX G.T.g hmg;exact xk7 KX G.T.g G.T.b G.T.builtins G.T.nolimit G.T.bmain hg hobj hints (bg hlen hn2) hr (hT w _ Y KX) (hnt w) nd hF hb (fun H hS hP=>hsp (K w.params) H a ns hlen hS hP) fun H e s'=>hCX H s₁ e s'
end L2
namespace L2
open PySem PySem.Spec PyProof.Rows
structure uo(N ps fns:List Str)(sc:Scope):Prop where
 kind:sc.kind= .function
 co:sc.isCoroutine=false
 gen:sc.isGenerator=false
 nd:N.Nodup
 pre:N.take (ps.length+fns.length)=ps++fns
 par:∀x∈ps,sc.names.lookup x=some .local
 fre:∀x∈fns,sc.names.lookup x=some .free
 nocell:∀y∈sc.names,y.2≠.cell
def xb6(N:List Str)(vs:List V)(fv:List (Str×V)):St:=vs.map some++fv.map (fun p=>some p.2)++bC (N.length - vs.length - fv.length) none
def xgK(CX:CXT)(P:aH)(w:World)(K:ah)(mg:Str→Option Value)(base:Heap)(N:List Str)(qual:Str)(scope:Scope)(f:Addr)(cd:Value)(clos:List (Str×Addr))(A:aV)(outer:List Env)(s:ae)(H:Hp)(E:XK):Cx where
 prog:=P
 w:=w
 K:=K
 mg:=mg
 base:=base
 A:=A.deeper (kf qual scope s.heap.objs.size f cd clos)
 N:=N
 s₀:=s
 H₀:=H
 env:=kf qual scope s.heap.objs.size f cd clos
 outer:=outer
 stack:=kf qual scope s.heap.objs.size f cd clos::outer
 ex:=[]
 calm:=true
 cp:=fun _=>false
 fn:=fun _=>false
 pn:=[]
 xe:=fun e s'=>wpAny (model P w) (A.deeper (kf qual scope s.heap.objs.size f cd clos)) (leaving (kf qual scope s.heap.objs.size f cd clos) e) (fun _ s''=>CX outer H s E e s'') (fun e' s''=>CX outer H s E e' s'') s'
theorem xf9{α:Type}:∀{l:List (Str×α)} {x:Str} {v:α},(l.map (·.1)).Nodup→(x,v)∈l→l.lookup x=some v
 |[],_,_,_,m=>by simp at m
 |(y,u)::r,x,v,nd,m=>by
  obtain⟨n1,n2⟩:=bT.mp nd;rw[cE];rcases ax.mp m with e|m
  ·cases e;simp
  ·have:x≠y:=fun e=>n1 (by rw[←e];exact fZ (f:=(·.1)) m);rw[beq_false_of_ne this];exact xf9 n2 m
theorem xg0:∀{ps:List Str} {us:List Value},us.length=ps.length→(ps.zip us).map (·.1)=ps
 |[],[],_=>rfl
 |p::ps,u::us,h=>by simp[xg0 (ps:=ps) (us:=us) (by simpa using h)]
 |[],_::_,h=>by simp at h
 |_::_,[],h=>by simp at h
theorem xfm{ps:List Str}{us:List Value}{i:Nat}{x:Str}{u:Value}(hl:us.length=ps.length)(nd:ps.Nodup)(h1:ps[i]? =some x)(h2:us[i]? =some u):(ps.zip us).reverse.lookup x=some u:=by
 refine xf9 ?_ (List.mem_reverse.mpr ?_)
 ·rw[List.map_reverse,xg0 hl];exact la.mpr (nd.imp fun h=>bE h)
 ·refine d7.mpr ⟨i,?_⟩;rw[List.getElem?_zip_eq_some];exact⟨h1,h2⟩
def codeOf(body:dg)(env:Env):Code:=match body with
 | .stmts b=>.func b env
 | .expr e=>.expr e env
section
variable {CX:CXT} {P:aH} {w:World} {K:ah} {mg:Str→Option Value} {base:Heap} {N ps fns:List Str} {nm qual:Str} {params:cy} {scope:Scope} {f:Addr} {cd:Value} {clos:List (Str×Addr)} {A:aV} {outer:List Env} {s:ae} {H:Hp} {E:XK} {us:List Value} {vs:List V} {fv:List (Str×V)} {k:Nat}
theorem xjY{h':Heap}{tk:Tok}(S:uo N ps fns scope)(hd:A.handled=none)(e0:vT P w K mg base A outer s H)(hl:vs.length=ps.length)(r:Vals vs us)(hfv:fv.map (·.1)=fns)
  (hin:∀x y a,clos.lookup x=some a→clos.lookup y=some a→x=y) (hhas:∀x,(x,bV)∈scope.names→∃a,clos.lookup x=some a)
  (hval:∀x v,(x,v)∈fv→∃a,clos.lookup x=some a∧H a=some (.cel (some v))) (hall:∀x a,clos.lookup x=some a→∃v,H a=some (.cel (some v)))
  (hns:h'.Ns s.heap.objs.size fun x=>(ps.zip us).reverse.lookup x) (hk:∀b o,s.heap.get? b=some o→h'.get? b=some o):
  Inv (xgK CX P w K mg base N qual scope f cd clos A outer s H E) [] (xb6 N vs fv) H {s with heap:=h',toks:=tk}:=by
 have lenF:fv.length=fns.length:=by rw[←hfv,ab]
 have hpl:ps.length+fns.length≤N.length:=by have:=congrArg cD S.pre;rw[bI,ar]at this;lia
 have noA:∀b:Addr,b∉(xgK CX P w K mg base N qual scope f cd clos A outer s H E).ex:=fun b z=>absurd (show b∈([]:List Addr)from z) (by simp);have lu:us.length=ps.length:=by rw[←r.length];exact hl
 have ndP:(ps++fns).Nodup:=by rw[←S.pre];exact S.nd.sublist (List.take_sublist _ _)
 refine⟨⟨e0.mod,S.kind,rfl,rfl,aj _,fun y z c h1 h2=>hin y z c h1 h2,fun y hy=>?_,fun y c h _=>(aB h).elim,fun _=>hd,lz e0.frames,.inr ⟨rfl,rfl⟩,fun b z=>absurd z (noA b),e0.bs,e0.bsz,fun b _ _=>noA b,fun b z=>absurd z (noA b),e0.funs,e0.frf,fun y c h _=>(aB h).elim,fun b hb=>e0.hok.fresh hb⟩,
  rfl,e0.bare,Un.kept hk,⟨_,hns,fun i y v h1 h2 h3=>?_⟩,fun y c h=>?_,e0.hok.fresh (aj _),fun y c h=>?_,fun p hp=>absurd (show p∈([]:List (Addr×Obj))from hp) (by simp),e0.hok.kept hk,?_⟩
 ·have hy:scope.names.lookup y=some .cell∨scope.names.lookup y=some .free:=hy;rcases hy with hy|hy
  ·exact absurd rfl (S.nocell _ (PySem.mem_of_lookup hy))
  ·exact hhas y (PySem.mem_of_lookup hy)
 ·have h1:N[i]? =some y:=h1;unfold xb6 at h2
  by_cases hi:i<vs.length
  ·rw[bp (by simp;lia),bp (by simpa using hi),ao]at h2;cases e:vs[i]? with
   |none=>rw[e]at h2;cases h2
   |some a=>
    rw[e]at h2;cases h2;obtain⟨u,hu,rv⟩:=r.get e;have hp:ps[i]? =some y:=by
     have:(N.take (ps.length+fns.length))[i]? =some y:=by rw[cJ (by lia)];exact h1
     rw[S.pre,bp (by lia)]at this;exact this
    exact⟨u,rv,.inl ⟨S.par y (aG hp),xfm lu (ndP.sublist (List.sublist_append_left _ _)) hp hu⟩⟩
  ·by_cases hj:i<vs.length+fv.length
   ·rw[bp (by simp;lia),bz (by simpa using hi),ab,ao]at h2;cases e:fv[i - vs.length]? with
    |none=>rw[e]at h2;cases h2
    |some p=>
     obtain⟨z,v'⟩:=p;rw[e]at h2;cases h2;have hp:fns[i - vs.length]? =some y:=by
      have:(N.take (ps.length+fns.length))[i]? =some y:=by rw[cJ (by lia)];exact h1
      rw[S.pre,bz (by lia),←hl]at this;exact this
     have hz:z=y:=by
      rw[←hfv,ao,e]at hp;exact br hp
     subst hz;obtain⟨a,q1,q2⟩:=hval _ _ (aG e);obtain⟨u,q3,q4⟩:=e0.hok a _ q2;obtain⟨y',rfl,r'⟩:=q4 v' rfl;exact⟨y',r',.inr ⟨.inr (S.fre z (aG hp)),a,q1,q3.keeps hk⟩⟩
   ·rw[bz (by simp;lia),kq]at h2
    split at h2<;> cases h2
 ·obtain⟨v,q2⟩:=hall y c h;obtain⟨u,q3,_⟩:=e0.hok c _ q2;exact⟨u,q3.keeps hk⟩
 ·obtain⟨v,q2⟩:=hall y c h;exact .inr ⟨rfl,some v,q2,fun z=>by cases z⟩
 ·unfold xb6;show _=N.length;simp only[ar,ab,kY];lia
structure zy(P:aH)(w:World)(K:ah)(mg:Str→Option Value)(base:Heap)(CX:CXT)(k:Nat)(nm qual:Str)(params:cy)(body:dg)(scope:Scope)(ps:List Str)(sp:List (Str×V)→Sp):Prop where
 len:∀fv vs H Q E,sp fv vs H Q E→vs.length=ps.length
 run:∀(A:aV) (outer:List Env) (s:ae) (H:Hp) (f:Addr) (fv:List (Str×V)) (us:List Value) (vs:List V) (Q:VK) (E:XK),xR k A→vT P w K mg base A outer s H→yZ H f nm qual params body scope fv→Vals vs us→sp fv vs H Q E→
  cU (model P w) A (.call (.ref f) ⟨us,[]⟩) (CR CX outer P w H s Q E) s
theorem xk8{body:dg}{sp:List (Str×V)→Sp}(S:uo N ps fns scope)(len:∀fv vs H Q E,sp fv vs H Q E→vs.length=ps.length∧fv.map (·.1)=fns)
  (hb:∀(clos:List (Str×Addr)) (doc pm cdv ctv:Value) (us:List Value),us.length=ps.length→
   gr {name:=nm,qualname:=qual,params,body,scope,globals:=bx,closure:=clos,defaults:=.none,kwdefaults:=.none,doc,pyModule:=pm,annotations:=none,code:=cdv,closureTuple:=ctv,builtins:=dE} ⟨us,[]⟩=pure (ps.zip us))
  (hgo:∀(A:aV) (outer:List Env) (s:ae) (H:Hp) (f:Addr) (clos:List (Str×Addr)) (cdv:Value) (fv:List (Str×V)) (vs:List V) (Q:VK) (E:XK) (s1:ae),xR k (A.deeper (kf qual scope s.heap.objs.size f cdv clos))→sp fv vs H Q E→
   Inv (xgK CX P w K mg base N qual scope f cdv clos A outer s H E) [] (xb6 N vs fv) H s1→
   cU (model P w) A (codeOf body (kf qual scope s.heap.objs.size f cdv clos)) (CR CX outer P w H s Q E) s1):
  zy P w K mg base CX (k+1) nm qual params body scope ps sp:=by
 refine⟨fun fv vs H Q E h=>(len fv vs H Q E h).1,fun A outer s H f fv us vs Q E hr e0 hc r hsp=>?_⟩;obtain⟨clos,c,o,u,u',xs,t,doc,pm,ctv,h1,h2,h3,h4,h5,h6,h7,h8⟩:=hc;obtain⟨hl,hfv⟩:=len fv vs H Q E hsp;have lu:us.length=ps.length:=by rw[←r.length];exact hl
 obtain⟨hf,_⟩:=e0.hok f _ h1;obtain⟨hcO,_⟩:=e0.hok c _ h2;have lim:s.heap.NoLimit:=e0.mod.nolimit.keeps fun b o e=>(e0.bs b o e).1;have hloc:∀y∈ps.zip us,scope.names.lookup y.1=some .local:=fun⟨n,v⟩ hy=>S.par n (f9 hy).1;have cr:s.heap.CodeRec (.ref c) qual:=⟨c,o,xs,t,rfl,hcO,h3,h4⟩;have fin:wpAny (model P w) A.in1 (k8 scope bx clos (ps.zip us) (qual++".<locals>.") (some f) (.ref c) none dE)
   (fun env s₂=>s₂.heap.NoLimit∧cU (model P w) A (codeOf body env) (CR CX outer P w H s Q E) s₂) (fun e s'=>CR CX outer P w H s Q E (.error e) s') s:=by
  refine ij S.nocell hloc (fun h' hns hsb=>?_) S.kind;have hk:∀b o,s.heap.get? b=some o→h'.get? b=some o:=fun b o e=>hsb.extBut b o (au (ak e)) (af _ e);exact⟨lim.keeps hk,hgo A outer s H f clos (.ref c) fv vs Q E _ (hr.deeper _) hsp (xjY S hr.hd e0 hl r hfv h5 h6 h7 h8 hns hk)⟩
 cases body with
 |stmts b=>
  refine g9 hr.depth hf rfl S.co S.gen rfl cr ?_;rw[hb clos doc pm (.ref c) ctv us lu];exact ag fin
 |expr e=>
  refine W.kla_callFunE hr.depth hf rfl S.co S.gen rfl cr ?_;rw[hb clos doc pm (.ref c) ctv us lu];exact ag fin
theorem xbh{e:Expr}{sp:List (Str×V)→Sp}(S:uo N ps fns scope)(len:∀fv vs H Q E,sp fv vs H Q E→vs.length=ps.length∧fv.map (·.1)=fns)
  (hb:∀(clos:List (Str×Addr)) (doc pm cdv ctv:Value) (us:List Value),us.length=ps.length→
   gr {name:=nm,qualname:=qual,params,body:=.expr e,scope,globals:=bx,closure:=clos,defaults:=.none,kwdefaults:=.none,doc,pyModule:=pm,annotations:=none,code:=cdv,closureTuple:=ctv,builtins:=dE} ⟨us,[]⟩=pure (ps.zip us))
  (hbody:∀(A:aV) (outer:List Env) (s:ae) (H:Hp) (f:Addr) (clos:List (Str×Addr)) (cdv:Value) (fv:List (Str×V)) (vs:List V) (Q:VK) (E:XK),xR k (A.deeper (kf qual scope s.heap.objs.size f cdv clos))→sp fv vs H Q E→
   ∃te,PE (xgK CX0 P w K mg base N qual scope f cdv clos A outer s H E).nox e te∧te (xb6 N vs fv) H Q):zy P w K mg base CX0 (k+1) nm qual params (.expr e) scope ps sp:=
 xk8 S len hb fun A outer s H f clos cdv fv vs Q E s1 hr hsp I=>by
  obtain⟨te,ht,hq⟩:=hbody A outer s H f clos cdv fv vs Q E hr hsp;refine W.kla_codeExpr (bb (ht [] s1 _ H Q (I.wish _) hq) (fun v s' ⟨x,H',J,rv,q⟩=>?_) fun _ _ z=>z.elim);exact⟨x,H',J.os,J.bare,J.base,J.hok,rv,q⟩
end
section
variable {X:Cx} {CX:CXT} {k:Nat} {nm qual x:Str} {params:cy} {body:dg} {scope:Scope} {ps:List Str} {sp:List (Str×V)→Sp} {p pos:Pos} {e:Expr} {es:List Expr} {t:TA} {E:XK} {i:Nat}
theorem xnJ{pins:List (Addr×Obj)}{σ:St}{H:Hp}{s:ae}{Q:VK}{us:List Value}{vs:List V}{f:Addr}{fv:List (Str×V)}(F:zy X.prog X.w X.K X.mg X.base CX k nm qual params body scope ps sp)(hr:xR k X.A)(hx:Passes CX X E)
  (I:Inv X pins σ H s) (hc:yZ H f nm qual params body scope fv) (r:Vals vs us) (h:sp fv vs H Q E):wpAny (model X.prog X.w) X.A (call (.ref f) us) (EP X pins σ Q) X.xe s:=by
 refine gC (dH (F.run X.A X.stack s H f fv us vs Q E hr I.env0 hc r h) fun r s' hq=>?_);cases r with
 |error e=>exact hx pins σ H s e s' I hq
 |ok fl=>
  cases fl with
  |ret u=>exact I.after hq
  |next=>exact bH hq
  |brk=>exact bH hq
  |cont=>exact bH hq
theorem yZ.fn{pins:List (Addr×Obj)}{σ:St}{H:Hp}{s:ae}{f:Addr}{fv:List (Str×V)}(hc:yZ H f nm qual params body scope fv)(I:Inv X pins σ H s):W.FnAt f s.heap:=by
 obtain⟨clos,c,o,u,u',xs,t,doc,pm,ctv,h1,_⟩:=hc;obtain⟨e,_⟩:=I.hok f _ h1;exact⟨_,_,_,_,e⟩
def xpj(nm qual:Str)(params:cy)(body:dg)(scope:Scope)(sp:List (Str×V)→Sp)(E:XK)(i:Nat)(t:TA):TE:=fun σ H Q=>∃f fv,σ[i]? =some (some (.ref f))∧yZ H f nm qual params body scope fv∧t σ H fun vs H1=>yZ H1 f nm qual params body scope fv∧sp fv vs H1 Q E
theorem xmi(i:Nat)(F:zy X.prog X.w X.K X.mg X.base CX k nm qual params body scope ps sp)(hr:xR k X.A)(hx:Passes CX X E)(ha:PA X (e::es) t)(hN:X.N[i]? =some x:=by rfl)(hv:Vis X.env.scope x:=by first|exact aJ rfl|exact fU (aJ rfl)|exact fU (fU rfl))(hd:(x==("__debug__":Str))=false:=by decide)
  (hcd:(x==("__classdict__":Str))=false:=by decide) (he:aY (e::es) X.env=(false,eval e X.env)::aY es X.env:=by rfl) (hpl:(cZ pos (aY es X.env)).any (·.1)=false:=by rfl):
  PE X (.Call (.Name x p) (e::es) [] pos) (xpj nm qual params body scope sp E i t):=by
 intro pins s σ H Q I h;obtain⟨f,fv,e1,hc,h⟩:=h;refine cb (thn (xkF (pos:=p) hN hv hd hcd pins s σ H (fun v H1=>v= .ref f∧H1=H) I ⟨_,e1,rfl,rfl⟩) fun u s1 ⟨v,H1,I1,r,q1,q2⟩=>?_);subst q1;subst q2;cases (show u=aZ f from r);refine W.callWith_F (hc.fn I1) (thn (ha pos pins s1 σ H1 _ I1 h) fun us s2 ⟨vs,H2,I2,r2,q⟩=>⟨q.1.fn I2,?_⟩) he hpl;exact xnJ F hr hx I2 q.1 r2 q.2
end
theorem Inv.capd{X:Cx}{pins:List (Addr×Obj)}{σ:St}{H:Hp}{s:ae}(hfn:∀x,X.fn x=true)(I:Inv X pins σ H s)(g:Str→Bool):Inv {X with fn:=g} pins σ H s:=by
 have ok:=I.ok;refine⟨⟨ok.mod,ok.kind,ok.glob,ok.blt,ok.above,ok.inj,ok.has,fun x c _ h=>ok.cab x c (hfn x) h,ok.hd,ok.frames,ok.stk,ok.exf,ok.bs,ok.bsz,ok.noex,ok.exfs,ok.funs,ok.frf,ok.cab2,ok.hz⟩,I.os,I.bare,I.base,I.loc,I.cell,I.free,fun x c e=>?_,I.pin,I.hok,I.len⟩;rcases I.freeC x c e with z|⟨z,_⟩
 ·exact .inl z
 ·rw[hfn x]at z;cases z
abbrev xni(cap:List Str):Str→Bool:=fun x=> !(cap.contains x)
abbrev xjZ(cap:List Str)(CX:CXT)(P:aH)(w:World)(K:ah)(mg:Str→Option Value)(base:Heap)(N:List Str)(qual:Str)(scope:Scope)(f:Addr)(cd:Value)(A:aV)(outer:List Env)(s:ae)(H:Hp)(E:XK):Cx:=
 {xba CX P w K mg base N qual scope f cd A outer s H E with fn:=xni cap}
theorem Fun.okC{P:aH}{w:World}{K:ah}{mg:Str→Option Value}{base:Heap}{x qual:Str}{st:Stmt}{f c:Addr}{fd:aE}{N ps:List Str}{k:Nat}{sp:Sp}(cap:List Str)(F:Fun K x qual st f fd)(hc:fd.code= .ref c)(S:xq N ps (xj st))(len:∀vs H Q E,sp vs H Q E→vs.length=ps.length)
  (hbody:∀(A:aV) (outer:List Env) (s:ae) (H:Hp) (vs:List V) (Q:VK) (E:XK),xR k (A.deeper (gN qual (xj st) s.heap.objs.size f (.ref c)))→sp vs H Q E→
   ∃t,PSs (xjZ cap CX0 P w K mg base N qual (xj st) f (.ref c) A outer s H E).nox (xQ st) t∧t {nx:=fun _ H'=>Q .non H',rt:=Q} (start N vs) H):xA P w K mg base CX0 (k+1) f fd ps sp:=by
 obtain⟨oc,od,kV,doc,pm,an,cdv,ct,osl,rfl,lk,hcd⟩:=F.ex;obtain rfl:cdv= .ref c:=hc;refine⟨len,fun A outer s H args us vs Q E hr e0 hb r hsp=>?_⟩;have hl:=len _ _ _ _ hsp;have KX:K.In s.heap:=e0.mod.kin.keeps fun b o e=>(e0.bs b o e).1;have lim:s.heap.NoLimit:=e0.mod.nolimit.keeps fun b o e=>(e0.bs b o e).1;have hkind:∀y∈ps.zip us,(xj st).names.lookup y.1=some .local∨((xj st).names.lookup y.1=some .cell∧((cellsFrom (s.heap.objs.size+1) (xj st).names []).lookup y.1).isSome=true):=fun⟨n,v⟩ hy=>by
  rcases S.par n (f9 hy).1 with q|q
  ·exact .inl q
  ·exact .inr ⟨q,ka _ _ _ (.inl q)⟩
 refine g9 hr.depth (KX _ _ lk) rfl S.co S.gen rfl (W.codeRec_of KX hcd) (hb _ _ _ _ ?_);refine iO S.kind hkind fun env he s1 x=>?_;subst he;refine⟨lim.keeps x.toInCall.keep,codeAny_func ?_⟩;obtain⟨t,ht,hq⟩:=hbody A outer s H vs Q E (hr.deeper _) hsp;have I:Inv (xba CX0 P w K mg base N qual (xj st) f (.ref c) A outer s H E) [] (start N vs) H s1:=xf1 S hr.hd e0 hl r x;have I':Inv (xjZ cap CX0 P w K mg base N qual (xj st) f (.ref c) A outer s H E).nox [] (start N vs) H s1:=(I.capd (fun _=>rfl) (xni cap)).wish _;refine bb (ht [] s1 (start N vs) H _ I' hq) (fun fl s' hs=>?_) fun e s' hs=>hs.elim;have fin:∀{σ':St} {H':Hp} {v:V} {u:Value},Inv (xjZ cap CX0 P w K mg base N qual (xj st) f (.ref c) A outer s H E).nox [] σ' H' s'→RelV v u→Q v H'→CE outer P w H s Q u s':=
  fun{σ' H' v u} J rv q=>⟨v,H',J.os,J.bare,J.base,J.hok,rv,q⟩
 cases fl with
 |ret u=>
  obtain⟨v,σ',H',J,rv,q⟩:=hs;exact fin J rv q
 |next=>
  obtain⟨σ',H',J,q⟩:=hs;exact fin (v:=V.non) (u:=bq) J rfl q
 |brk=>
  obtain⟨_,_,_,q⟩:=hs;exact bH q
 |cont=>
  obtain⟨_,_,_,q⟩:=hs;exact bH q
section
variable {X:Cx} {c P:Addr} {qs:List (Pos×Str)} {name q:Str} {params:cy} {scope:Scope} {pos:Pos} {fns:List Str}
theorem vL{e:Expr}(hcode:X.env.code= .ref c)(T:vU X.K c P)(hql:X.env.qual++"<lambda>"=q)(hq:(pos,q)∈qs)(hu:(qs.all fun p=> !((pos.line==p.1.line)&&(pos.col==p.1.col))||(p.2==q))=true)
  (hfr:(scope.names.filter fun y=>y.2== .free).map (·.1)=fns) (hdef:defaultsOf params X.env=([],[]):=by rfl):
  PE X (.Lambda params e scope pos) (tFn X P qs fns "<lambda>" q params (.expr e) scope):=by
 subst hql;exact xk6 hcode T hq hu hfr hdef
end
theorem xnK{K:ah}{c P:Addr}(e:W.codeHdIn K c P=true):vU K c P:=fun _ X=>W.codeHd_of_K X e
end L2
namespace L2
open PySem PySem.Spec PyProof.Rows
theorem xgL{X:Cx}{a b:Expr}{pos:Pos}{op:CmpOp}{t:TE}(h:PC X op a b t)(h1:du op b=false):PT X (.Compare a [op] [b] pos) (cB t):=by
 intro pins s σ H Q I hw;refine gZ (thn (h pins s σ H _ I hw) fun v s1 h1=>thn h1 fun u s2 h2=>thn h2 fun c s3 ⟨x,H1,I1,r1,q1⟩=>?_) h1;obtain⟨d,rfl,q⟩:=jx q1;cases r1;exact cH ⟨H1,I1,q⟩
end L2
namespace L2
open PySem PySem.Spec PyProof.Rows
theorem xb7{K:ah}{l:Addr}{xs:List V}{te:TE}{caps:L2.St}{Q:VK}{H2:Hp}(f:V→V)(hl:SqL K H2 l xs)(hn:xs.length≤aL)
  (hs:∀(x:V) (H3:Hp),x∈xs→xb H2 H3→∀R:VK,(∀H6,xb H3 H6→R (f x) H6)→te (some x::caps) H3 R)
  (hd:∀D H',H2 D=none→xb H2 H'→H' D=some (.lst (xs.map f))→Q (.ref D) H'):yM (Itl K l) caps xdO te Q H2:=by
 unfold yM;intro D hD;refine⟨fun i m acc H3=>m=xs.length - i∧i≤xs.length∧acc=(xs.take i).map f∧H3 D=some (.lst acc)∧xb H2 H3,⟨xs.length,by simp,aM _,rfl,xk,xb.new hD⟩,?_⟩;rintro i m acc H3 ⟨rfl,hi,rfl,hD3,s3⟩;refine⟨hD3,?_⟩;have q:=s3.seq hl
 by_cases hlt:i<xs.length
 ·have hx:xs[i]? =some xs[i]:=ai hlt;refine .inr ⟨⟨xs,xs[i],q,hx⟩,by simp;lia,fun v H4 y=>?_⟩;obtain⟨e,y⟩:=y;have ev:=y xs q;rw[hx]at ev;cases ev;subst e;refine⟨fun _=>?_,fun z=>by cases z⟩;refine hs _ _ (cS hlt) s3 _ fun H6 s6=>⟨s6.at hD3,xs.length - (i+1),by lia,rfl,hlt,?_,xk,(s3.trans s6).put hD⟩;rw[bG,hx,aI];rfl
 ·have e:i=xs.length:=by lia
  subst e;rw[bX]at hD3;exact .inl ⟨⟨xs,q,aj _⟩,hd D H3 hD s3 hD3⟩
end L2
namespace L2
open PySem PySem.W PyProof.Rows
structure STO(lt:Nat→Nat→Bool)(n:Nat):Prop where
 irr:∀i,i<n→lt i i=false
 tr:∀i j k,i<n→j<n→k<n→lt i j=true→lt j k=true→lt i k=true
 tot:∀i j,i<n→j<n→i≠j→lt i j=true∨lt j i=true
def Wp{α:Type}(lt:Nat→Nat→Bool)(n:Nat):KasT α→(α→Prop)→Prop
 | .ret a,Q=>Q a
 | .ask i j k,Q=>i<n∧j<n∧Wp lt n (k (lt i j)) Q
section
variable {lt:Nat→Nat→Bool} {n:Nat} {α β:Type}
theorem Wp.bind{f:α→KasT β}{Q:β→Prop}:∀{t:KasT α},Wp lt n t (fun a=>Wp lt n (f a) Q)→Wp lt n (t.bind f) Q
 | .ret _,h=>h
 | .ask _ _ _,⟨h1,h2,h⟩=>⟨h1,h2,Wp.bind h⟩
theorem Wp.kas{cmp:Nat→Nat→(Bool→ae→Prop)→ae→Prop}{Q:α→ae→Prop}{s:ae}(hc:∀i j (C:Bool→ae→Prop),i<n→j<n→C (lt i j) s→cmp i j C s):∀{t:KasT α},Wp lt n t (fun a=>Q a s)→t.kasWp cmp Q s
 | .ret _,h=>h
 | .ask i j k,⟨h1,h2,h⟩=>hc i j _ h1 h2 (Wp.kas hc h)
theorem wp_mono{Q Q':α→Prop}:∀{t:KasT α},Wp lt n t Q→(∀a,Q a→Q' a)→Wp lt n t Q'
 | .ret _,h,k=>k _ h
 | .ask _ _ _,⟨h1,h2,h⟩,k=>⟨h1,h2,wp_mono h k⟩
structure Pm(n:Nat)(p:Array Nat):Prop where
 size:p.size=n
 perm:p.toList.Perm (aO n)
abbrev g0(p:Array Nat)(i:Nat):Nat:=p.getD i 0
theorem vy(p:Array Nat)(i:Nat):g0 p i=(p[i]?).getD 0:=by unfold g0;rw[dZ]
theorem Pm.bd{p:Array Nat}(P:Pm n p){i:Nat}(h:i<n):g0 p i<n:=by
 have hi:i<p.size:=by rw[P.size];exact h
 have e:g0 p i=p[i]:=by rw[vy,cF hi];rfl
 rw[e];exact bh.mp (P.perm.mem_iff.mp (b8.mpr (fC hi)))
theorem Pm.inj{p:Array Nat}(P:Pm n p){i j:Nat}(h:i<n)(h':j<n)(ne:i≠j):g0 p i≠g0 p j:=by
 have nd:p.toList.Nodup:=P.perm.nodup_iff.mpr dQ;have hi:i<p.toList.length:=by rw[aR,P.size];exact h
 have hj:j<p.toList.length:=by rw[aR,P.size];exact h'
 have e:∀k (hk:k<p.toList.length),g0 p k=p.toList[k]:=fun k hk=>by
  rw[vy,←dz,ai hk];rfl
 rw[e i hi,e j hj];exact fun z=>ne ((j8 nd).mp z)
def Up(lt:Nat→Nat→Bool)(p:Array Nat)(m:Nat):Prop:=∀i j,i<j→j<m→lt (g0 p i) (g0 p j)=true
def Dn(lt:Nat→Nat→Bool)(p:Array Nat)(m:Nat):Prop:=∀i j,i<j→j<m→lt (g0 p j) (g0 p i)=true
theorem Up.snoc(S:STO lt n){p:Array Nat}(P:Pm n p){m:Nat}(hm:m<n)(h1:1≤m)(U:Up lt p m)(h:lt (g0 p (m - 1)) (g0 p m)=true):Up lt p (m+1):=fun i j hij hj=>by
 by_cases e:j=m
 ·subst e
  by_cases e2:i=j - 1
  ·subst e2;exact h
  ·exact S.tr _ _ _ (P.bd (by lia)) (P.bd (by lia)) (P.bd hm) (U i (j - 1) (by lia) (by lia)) h
 ·exact U i j hij (by lia)
theorem Dn.snoc(S:STO lt n){p:Array Nat}(P:Pm n p){m:Nat}(hm:m<n)(h1:1≤m)(U:Dn lt p m)(h:lt (g0 p m) (g0 p (m - 1))=true):Dn lt p (m+1):=fun i j hij hj=>by
 by_cases e:j=m
 ·subst e
  by_cases e2:i=j - 1
  ·subst e2;exact h
  ·exact S.tr _ _ _ (P.bd hm) (P.bd (by lia)) (P.bd (by lia)) h (U i (j - 1) (by lia) (by lia))
 ·exact U i j hij (by lia)
theorem xg1(S:STO lt n){p:Array Nat}(P:Pm n p){Q:Nat→Prop}:∀(f m:Nat),1≤m→m+f≤n→Up lt p m→(∀m',m≤m'→m'≤m+f→Up lt p m'→(m'<m+f→lt (g0 p m') (g0 p (m' - 1))=true)→Q m')→Wp lt n (kas_asc p f m) Q
 |0,m,_,_,U,h=>h m (aj _) (aj _) U (fun z=>absurd z (by lia))
 |f+1,m,h1,hf,U,h=>by
  refine⟨P.bd (by lia),P.bd (by lia),?_⟩;cases e:lt (p.getD m 0) (p.getD (m - 1) 0)with
  |true=>exact h m (aj _) (by lia) U fun _=>e
  |false=>
   have e2:lt (g0 p (m - 1)) (g0 p m)=true:=(S.tot _ _ (P.bd (by lia)) (P.bd (by lia)) (P.inj (by lia) (by lia) (by lia))).resolve_right (by rw[show lt (g0 p m) (g0 p (m - 1))=false from e];simp);exact xg1 S P f (m+1) (by lia) (by lia) (U.snoc S P (by lia) h1 e2) fun m' a1 a2 a3 a4=>h m' (by lia) (by lia) a3 fun z=>a4 (by lia)
theorem xja(S:STO lt n){p:Array Nat}(P:Pm n p){Q:Array Nat×Nat×Nat→Prop}:∀(f m:Nat),2≤m→m+f≤n→Dn lt p m→(∀m',2≤m'→m'≤n→Dn lt p m'→Q (p,m',0))→Wp lt n (kas_desc f p m 0) Q
 |0,m,_,hf,U,h=>h m (by lia) (by lia) U
 |f+1,m,h1,hf,U,h=>by
  refine⟨P.bd (by lia),P.bd (by lia),?_⟩;cases e:lt (p.getD m 0) (p.getD (m - 1) 0)with
  |true=>exact xja S P f (m+1) (by lia) (by lia) (U.snoc S P (by lia) (by lia) e) h
  |false=>
   have e2:lt (g0 p (m - 1)) (g0 p m)=true:=(S.tot _ _ (P.bd (by lia)) (P.bd (by lia)) (P.inj (by lia) (by lia) (by lia))).resolve_right (by rw[show lt (g0 p m) (g0 p (m - 1))=false from e];simp);refine⟨P.bd (by lia),P.bd (by lia),?_⟩;rw[show lt (p.getD (m - 1) 0) (p.getD m 0)=true from e2];exact h m (by lia) (by lia) U
theorem Pm.rev{p:Array Nat}(P:Pm n p)(i j:Nat):Pm n (kas_rev p i j):=⟨by unfold kas_rev;rw[mirror_size];exact P.size,(iR.mp (mirror_perm p i j ((j - i) / 2))).trans P.perm⟩
theorem Dn.rev{p:Array Nat}(P:Pm n p){m:Nat}(hm:m≤n)(U:Dn lt p m):Up lt (kas_rev p 0 m) m:=fun i j hij hj=>by
 have e:∀k,k<m→g0 (kas_rev p 0 m) k=g0 p (m - 1 - k):=fun k hk=>by
  rw[vy,vy];unfold kas_rev;rw[getElem?_mirror_all (by rw[P.size];exact hm),if_pos ⟨aM _,hk⟩]
  congr 2
  lia
 rw[e i (by lia),e j hj];exact U (m - 1 - j) (m - 1 - i) (by lia) (by lia)
theorem xmj(S:STO lt n){p:Array Nat}(P:Pm n p){m:Nat}(h1:1≤m)(hm:m≤n)(U:Dn lt p m):Wp lt n (kas_tail3 m n p) (fun r=>Pm n r.2∧1≤r.1∧r.1≤n∧Up lt r.2 r.1):=
 Wp.bind (xg1 S (P.rev 0 m) (n - m) m h1 (by lia) (U.rev P hm) fun m' a1 a2 a3 _=>⟨P.rev 0 m,by show 1≤m';lia,by show m'≤n;lia,a3⟩)
theorem xmk(S:STO lt n){p:Array Nat}(P:Pm n p)(h2:2≤n):Wp lt n (kas_count n p) (fun r=>Pm n r.2∧1≤r.1∧r.1≤n∧Up lt r.2 r.1):=by
 refine Wp.bind (xg1 S P (n - 1) 1 (aj _) (by lia) (fun i j h1 h2=>absurd h2 (by lia)) fun m a1 a2 a3 a4=>?_)
 by_cases e:(m==n)=true
 ·rw[if_pos e];exact⟨P,a1,by show m≤n;lia,a3⟩
 ·rw[if_neg e];have hmn:m<n:=by
   have:m≠n:=by simpa using e
   lia
  by_cases e2:m > 1
  ·rw[if_pos e2];refine⟨P.bd (by lia),P.bd (by lia),?_⟩;rw[show lt (p.getD 0 0) (p.getD (m - 1) 0)=true from a3 0 (m - 1) (by lia) (by lia)];exact⟨P,a1,by show m≤n;lia,a3⟩
  ·rw[if_neg e2];have e3:m=1:=by lia
   subst e3;refine Wp.bind (xja S P (n - 2) 2 (aj _) (by lia) (fun i j h1 h2=>?_) fun m' b1 b2 b3=>?_)
   ·obtain rfl:j=1:=by lia
    obtain rfl:i=0:=by lia
    exact a4 (by lia)
   ·exact xmj S P (by show 1≤m';lia) b2 b3
theorem xdQ(S:STO lt n){p:Array Nat}(P:Pm n p){k:Nat}(hk:k<n){Q:Nat→Prop}(h:∀l,l≤k→(∀i,i<l→lt (g0 p i) (g0 p k)=true)→(∀i,l≤i→i<k→lt (g0 p k) (g0 p i)=true)→Q l)(U:Up lt p k):
  ∀(f l r:Nat),l≤r→r≤k→r - l≤f→(∀i,i<l→lt (g0 p i) (g0 p k)=true)→(∀i,r≤i→i<k→lt (g0 p k) (g0 p i)=true)→Wp lt n (kas_place p k f l r) Q
 |0,l,r,a1,a2,a3,b1,b2=>h l (by lia) b1 fun i h1 h2=>b2 i (by lia) h2
 |f+1,l,r,a1,a2,a3,b1,b2=>by
  unfold kas_place
  by_cases e:l≥r
  ·rw[if_pos e];exact h l (by lia) b1 fun i h1 h2=>b2 i (by lia) h2
  ·rw[if_neg e];have hm1:(l+r) / 2<r:=by lia
   have hm2:l≤(l+r) / 2:=by lia
   refine⟨P.bd hk,P.bd (by lia),?_⟩;cases e2:lt (p.getD k 0) (p.getD ((l+r) / 2) 0)with
   |true=>
    refine xdQ S P hk h U f l ((l+r) / 2) hm2 (by lia) (by lia) b1 fun i h1 h2=>?_
    by_cases e3:i=(l+r) / 2
    ·subst e3;exact e2
    ·exact S.tr _ _ _ (P.bd hk) (P.bd (by lia)) (P.bd (by lia)) e2 (U ((l+r) / 2) i (by lia) h2)
   |false=>
    have e4:lt (g0 p ((l+r) / 2)) (g0 p k)=true:=(S.tot _ _ (P.bd (by lia)) (P.bd hk) (P.inj (by lia) hk (by lia))).resolve_right (by rw[show lt (g0 p k) (g0 p ((l+r) / 2))=false from e2];simp);refine xdQ S P hk h U f ((l+r) / 2+1) r (by lia) a2 (by lia) (fun i h1=>?_) b2
    by_cases e3:i=(l+r) / 2
    ·subst e3;exact e4
    ·exact S.tr _ _ _ (P.bd (by lia)) (P.bd (by lia)) (P.bd hk) (U i ((l+r) / 2) (by lia) (by lia)) e4
theorem Up.ins{p:Array Nat}(P:Pm n p){k l:Nat}(hk:k<n)(hl:l≤k)(U:Up lt p k)(b1:∀i,i<l→lt (g0 p i) (g0 p k)=true)(b2:∀i,l≤i→i<k→lt (g0 p k) (g0 p i)=true):Up lt (bubble p k (k - l)) (k+1):=fun i j hij hj=>by
 have e:∀x,g0 (bubble p k (k - l)) x=if x=l then g0 p k else if l<x∧x≤k then g0 p (x - 1)else g0 p x:=fun x=>by
  rw[vy,getElem?_bubble (by rw[P.size];exact hk) (k - l) (by lia),show k - (k - l)=l by lia]
  by_cases h1:x=l
  ·rw[if_pos h1,if_pos h1,vy]
  ·rw[if_neg h1,if_neg h1]
   by_cases h2:l<x∧x≤k
   ·rw[if_pos h2,if_pos h2,vy]
   ·rw[if_neg h2,if_neg h2,vy]
 rw[e i,e j]
 by_cases hi:i=l
 ·rw[if_pos hi,if_neg (by lia),if_pos ⟨by lia,by lia⟩];exact b2 (j - 1) (by lia) (by lia)
 ·rw[if_neg hi]
  by_cases hj':j=l
  ·rw[if_pos hj',if_neg (by lia)];exact b1 i (by lia)
  ·rw[if_neg hj']
   by_cases h1:l<i∧i≤k
   ·rw[if_pos h1,if_pos ⟨by lia,by lia⟩];exact U (i - 1) (j - 1) (by lia) (by lia)
   ·rw[if_neg h1]
    by_cases h2:l<j∧j≤k
    ·rw[if_pos h2];exact U i (j - 1) (by lia) (by lia)
    ·rw[if_neg h2];exact U i j hij (by lia)
theorem Pm.bub{p:Array Nat}(P:Pm n p)(k d:Nat):Pm n (bubble p k d):=⟨by rw[bubble_size];exact P.size,(iR.mp (bubble_perm p k d)).trans P.perm⟩
theorem xk9(S:STO lt n):∀(f:Nat) (p:Array Nat) (k:Nat),k+f=n→Pm n p→Up lt p k→Wp lt n (kas_bin f p k) (fun q=>Pm n q∧Up lt q n)
 |0,p,k,e,P,U=>⟨P,by rw[show n=k by lia];exact U⟩
 |f+1,p,k,e,P,U=>by
  refine Wp.bind (xdQ S P (by lia) (fun l hl b1 b2=>?_) U k 0 k (aM _) (aj _) (by lia) (fun i h=>absurd h (by lia)) fun i h1 h2=>absurd h2 (by lia));exact xk9 S f _ (k+1) (by lia) (P.bub k (k - l)) (U.ins P (by lia) hl b1 b2)
theorem xjb(S:STO lt n)(h2:2≤n):Wp lt n (kas_sort n) (fun q=>Pm n q∧Up lt q n):=by
 have P0:Pm n (aC (aO n)):=⟨by simp,by simp⟩;refine Wp.bind ?_;refine wp_mono (xmk S P0 h2) fun r hr=>?_;obtain⟨P,a1,a2,U⟩:=hr
 by_cases e:r.1<n
 ·rw[if_pos e,show max r.1 1=r.1 by lia];exact xk9 S (n - r.1) r.2 r.1 (by lia) P U
 ·rw[if_neg e];exact⟨P,by rw[show n=r.1 by lia];exact U⟩
end
end L2
namespace PySem
open PyProof.Rows
section
variable {prog:aH} {w:World} {A:aV} {E:Value→ae→Prop} {s:ae}
theorem xiy{r:Addr}{a b c:Int}{t u v:Tok}{k:Nat}{Q:List Value→ae→Prop}(hnd:A.handled=none)(hr:IsRange s.heap r a b c t u v)
  (hk:bu a b c=k) (hle:k≤2^24)
  (hQ:∀g tk xs m,(∀b o,s.heap.get? b=some o→g.get? b=some o)→s.heap.objs.size<g.objs.size→
   g.get? s.heap.objs.size=some {cls:=.type "list",dict:=none,data:=.seq xs m,slots:=#[]}→j7 (fun i v=>∃t,v= .int (a+i*c) t) xs k→Q xs.toList {s with heap:=g,toks:=tk}):
  wpAny (model prog w) A (collect (.ref r)) Q E s:=by
 unfold collect;refine aa (wpAny_runValue (cA entry_proto_collect' ?_));show wpAny _ _ (do again (.builtin "list.__iadd__" ⟨[←newList [],.ref r],[]⟩)) _ _ s;refine aa (fV (ag ⟨mq _ (by decide+kernel),cA entry_list_iadd' ?_⟩));show wpAny _ _ (bF (.ref s.heap.objs.size) (.ref r) (.ref s.heap.objs.size)) _ _ {s with heap:=s.heap.push (a7 "list" #[] 0)};have hD:(s.heap.push (a7 "list" #[] 0)).get? s.heap.objs.size=some {cls:=.type "list",data:=.seq #[] 0}:=az _ rfl;have old:∀b o,s.heap.get? b=some o→(s.heap.push (a7 "list" #[] 0)).get? b=some o:=fun b o e=>af _ e;refine xew (prog:=prog) (w:=w) (A:=A) (R:=fun r s'=>match r with| .ok (.ret v)=>wpAny (model prog w) A (match v with| .ref a=>do {let o ←load a;match o.data with| .seq xs _=>pure xs.toList|_=>kQ "internal:collect"} |_=>kQ "internal:collect") Q E s'| .ok _=>False| .error e=>E e s') (s:={s with heap:=s.heap.push (a7 "list" #[] 0)}) hnd (old r _ hr) hk hle s.heap.objs.size (.ref s.heap.objs.size) 0 hD fun g tk xs m q1 q2 q3=>?_;show wpAny (model prog w) A (do
   let o ←load s.heap.objs.size
   match o.data with
   | .seq xs _=>pure xs.toList
   |_=>kQ "internal:collect") Q E {s with heap:=g,toks:=tk}
 refine aa (wpAny_load q2 ?_);exact ag (hQ g tk xs m (fun b o e=>q1 b o (au (ak e)) (old b o e)) (ak q2) q2 q3)
end
end PySem
namespace HT
open PySem PyProof.Rows
open PySem.SeqAt
open PySem.AutoSeq1 (wpAny_loadPart')
open PySem.MeetsSeq PySem.MeetsSeq2 PySem.MeetsSeq3
theorem xjc{vs:List Value}{ns:List Int}(h:cP vs ns){i:Nat}(hi:i<ns.length):∃t,vs[i]? =some (.int ns[i] t):=by
 have hx:(ns.map L2.V.int)[i]? =some (.int ns[i]):=by rw[ao,ai hi];rfl
 obtain⟨u,h1,t,rfl⟩:=L2.Vals.get (L2.xbW h) hx;exact⟨t,h1⟩
theorem xnL(l b:Addr)(items items2:Array Value)(n n2:Nat)(dd dd2:Option Addr)(sl sl2:Array (Option Value))(ns ms:List Int)(hi:cP items.toList ns)(hj:cP items2.toList ms)(k:Nat):
  ∀i:Nat,ns.length - i=k→i≤ns.length→i≤ms.length→Meets (fY.«list.__eq__.loop» ⟨[.ref l,.ref b,de i,de 0],[]⟩)
   (fun A R s=>s.heap.get? l=some {cls:=.type "list",dict:=dd,data:=.seq items n,slots:=sl}∧s.heap.get? b=some {cls:=.type "list",dict:=dd2,data:=.seq items2 n2,slots:=sl2}∧
    R (.ok (.ret (.bool (lexLt (ns.drop i) (ms.drop i))))) s):=by
 have z1:items.size=ns.length:=by rw[←hi.length];simp
 have z2:items2.size=ms.length:=by rw[←hj.length];simp
 induction k with
 |zero=>
  intro i hk h1 h2 prog w A R s h;obtain⟨hp,g,d,tk,os⟩:=s;obtain⟨hl,hb,h⟩:=h
  wp_walk using bU hl,bU hb
  have hi1:items[((i:Nat):Int).toNat]? =none:=by simp;lia
  rw[hi1]
  wp_walk using bU hl,bU hb
  show R (.ok (.ret (.bool (decide (items.size<items2.size))))) _;rw[cW (by lia)]at h;cases e:ms.drop i with
  |nil=>
   rw[e]at h;have:ms.length≤i:=List.drop_eq_nil_iff.mp e;rw[decide_eq_false (by lia)];exact h
  |cons y r=>
   rw[e]at h;have:¬ms.length≤i:=fun z=>by rw[cW z]at e;cases e
   rw[decide_eq_true (by lia)];exact h
 |succ k ih=>
  intro i hk h1 h2 prog w A R s h;obtain⟨hp,g,d,tk,os⟩:=s;obtain⟨hl,hb,h⟩:=h;have hlt:i<ns.length:=by lia
  obtain⟨t,ht⟩:=xjc hi hlt;have hi1:items[((i:Nat):Int).toNat]? =some (.int ns[i] t):=by simpa using ht
  wp_walk using bU hl,bU hb
  by_cases hlt2:i<ms.length
  ·obtain⟨u,hu⟩:=xjc hj hlt2;have hi2:items2[((i:Nat):Int).toNat]? =some (.int ms[i] u):=by simpa using hu
   rw[hi1,hi2];have e1:ns.drop i=ns[i]::ns.drop (i+1):=b9 hlt;have e2:ms.drop i=ms[i]::ms.drop (i+1):=b9 hlt2;rw[e1,e2,yW]at h;have hc:((i:Int)+1)=((i+1:Nat):Int):=by push_cast;rfl
   obtain⟨e,he,hiff⟩:=xgQ A.in1 ⟨hp,g,d,tk,os⟩ ns[i] t ms[i] u;refine aa (he prog w _ _ ?_);cases e with
   |true=>
    rw[if_pos (hiff.mp rfl)]at h
    wp_walk
    rw[hc];exact⟨bW plain_eq_loop _,cA entry_eq_loop (by
     rw[cC plain_eq_loop _];exact ih (i+1) (by lia) (by lia) (by lia) prog w A R _ ⟨hl,hb,h⟩)⟩
   |false=>
    rw[if_neg (fun q=>absurd (hiff.mpr q) aB)]at h
    wp_walk using bU hl,bU hb
    rw[hi1,hi2];have hri:=xgR A.in1 ⟨hp,g,d,tk,os⟩ ns[i] t ms[i] u prog w
    wp_walk using hri
    simpa using h
  ·have hi2:items2[((i:Nat):Int).toNat]? =none:=by simp;lia
   rw[hi1,hi2]
   wp_walk using bU hl,bU hb
   show R (.ok (.ret (.bool (decide (items.size<items2.size))))) _;rw[decide_eq_false (by lia)];have e1:ns.drop i=ns[i]::ns.drop (i+1):=b9 hlt;have e2:ms.drop i=[]:=cW (by lia);rw[e1,e2]at h;exact h
theorem xb8(l b:Addr)(items items2:Array Value)(n n2:Nat)(dd dd2:Option Addr)(sl sl2:Array (Option Value))(ns ms:List Int)(hi:cP items.toList ns)(hj:cP items2.toList ms):
  Meets (fY.«list.__lt__» ⟨[.ref l,.ref b],[]⟩)
   (fun _ R s=>s.heap.get? l=some {cls:=.type "list",dict:=dd,data:=.seq items n,slots:=sl}∧s.heap.get? b=some {cls:=.type "list",dict:=dd2,data:=.seq items2 n2,slots:=sl2}∧
    R (.ok (.ret (.bool (lexLt ns ms)))) s):=by
 intro prog w A R s h;obtain⟨hp,g,d,tk,os⟩:=s;obtain⟨hl,hb,h⟩:=h;have f3:=AutoSeq1.sub_list_list
 wp_walk using bU hl,bU hb
 exact⟨bW plain_eq_loop _,cA entry_eq_loop (by
  rw[cC plain_eq_loop _];exact xnL l b items items2 n n2 dd dd2 sl sl2 ns ms hi hj _ 0 rfl (aM _) (aM _) prog w A R _ ⟨hl,hb,by simpa using h⟩)⟩
end HT
namespace HT
open PySem PyProof.Rows
section
variable {prog:aH} {w:World} {A:aV} {E:Value→ae→Prop} {s:ae}
theorem xiz{l b:Addr}{items items2:Array Value}{ns ms:List Int}{Q:Value→ae→Prop}(hl:s.heap.IsList l items)(hb:s.heap.IsList b items2)(hi:cP items.toList ns)(hj:cP items2.toList ms)
  (hu:A.units<cLine) (h:Q (.bool (lexLt ns ms)) s):wpAny (model prog w) A (bw .Lt (.ref l) (.ref b)) Q E s:=by
 obtain⟨⟨cls,dd,data,sl⟩,ho,hc,n,hd⟩:=id hl;obtain⟨⟨cls2,dd2,data2,sl2⟩,ho2,hc2,n2,hd2⟩:=id hb;simp only at hc hd hc2 hd2;subst hc hd hc2 hd2;exact richCompare_meets_room (op:=.Lt) ⟨_,ho,rfl⟩ ⟨_,ho2,rfl⟩ PySem.F.slot_list_lt PySem.F.entry_list_lt (PySem.F.args_list_lt_2 _ _) (xb8 l b items items2 n n2 dd dd2 sl sl2 ns ms hi hj)
  ⟨ho,ho2,show dU (lexLt ns ms)≠lA∧Q (.bool (lexLt ns ms)) s from⟨(fun x=>nomatch x),h⟩⟩ hu
end
end HT
namespace L2
open PySem PySem.Spec PyProof.Rows
section
variable {X:Cx}
def xqS(K:ah):R2:=fun x y H Q=>∃a b ns ms,x= .ref a∧y= .ref b∧SqL K H a (ns.map V.int)∧SqL K H b (ms.map V.int)∧Q (.bl (HT.lexLt ns ms)) H
theorem xpk(hu:X.A.units<cLine):OpR X (bw .Lt) (xqS X.K):=by
 intro pins s σ H x y v u Q I rx ry h;obtain⟨a,b,ns,ms,rfl,rfl,ha,hb,q⟩:=h;cases rx;cases ry;obtain⟨its,r1,p1,_⟩:=I.list ha;obtain⟨its2,r2,p2,_⟩:=I.list hb;have i1:cP its.toArray.toList ns:=intsAre_of r1;have i2:cP its2.toArray.toList ms:=intsAre_of r2;exact HT.xiz p1.isList p2.isList i1 i2 hu ⟨.bl (HT.lexLt ns ms),H,I,rfl,q⟩
end
end L2
namespace HT
open PySem PyProof.Rows
section
variable {prog:aH} {w:World} {A:aV} {E:Value→ae→Prop} {s:ae}
theorem xfn{l b:Addr}{items items2:Array Value}{ns ms:List Int}{Q:Bool→ae→Prop}(hl:s.heap.IsList l items)(hb:s.heap.IsList b items2)(hi:cP items.toList ns)(hj:cP items2.toList ms)
  (hu:A.units<cLine) (h:Q (lexLt ns ms) s):wpAny (model prog w) A (oneLt' true (.ref l) (.ref b)) Q E s:=by
 obtain⟨⟨cls,dd,data,sl⟩,ho,hc,n,hd⟩:=id hl;obtain⟨⟨cls2,dd2,data2,sl2⟩,ho2,hc2,n2,hd2⟩:=id hb;simp only at hc hd hc2 hd2;subst hc hd hc2 hd2;rw[oneLt'_eq];simp only[if_true];refine aa (wpAny_cRoomFor hu ?_);refine aa (wpAny_callSpecialIfBound?_slot (T:="list") ⟨_,ho,rfl⟩ PySem.F.slot_list_lt (gD PySem.F.slot_list_lt ⟨_,ho,rfl⟩ PySem.F.entry_list_lt (PySem.F.args_list_lt_2 _ _) (xb8 l b items items2 n n2 dd dd2 sl sl2 ns ms hi hj) ⟨ho,ho2,?_⟩));exact cH h
end
end HT
namespace L2
open PySem PySem.Spec PyProof.Rows
section
variable {X:Cx}
theorem xnM{st:Stmt}:PS X st (fun _ _ _=>False):=fun _ _ _ _ _ _ q=>q.elim
theorem xbi:∀{bs:List Bool} {us:List Value},Vals (bs.map V.bl) us→us=bs.map dU
 |[],[],_=>rfl
 |[],_::_,h=>by cases h
 |_::_,[],h=>by cases h
 |b::bs,u::us,h=>by
  cases h with
  |cons h1 h2=>
   rw[xbi h2];cases h1;rfl
theorem range_all(bs:List Bool)(d:Bool):(aO bs.length).all (fun i=>bs.getD i d)=bs.all id:=by
 rw[dF,ck,ck];constructor
 ·intro h x hx;obtain⟨i,hi,rfl⟩:=cz.mp hx;have:=h i (by simpa using hi);simpa [hi]using this
 ·intro h i hi;have hi':i<bs.length:=by simpa using hi
  have:=h bs[i] (cS hi');simpa [hi']using this
theorem range_any(bs:List Bool)(d:Bool):(aO bs.length).any (fun i=>bs.getD i d)=bs.any id:=by
 rw[dF,dw,dw];constructor
 ·rintro⟨i,hi,h⟩;have hi':i<bs.length:=by simpa using hi
  exact⟨bs[i],cS hi',by simpa [hi']using h⟩
 ·rintro⟨x,hx,h⟩;obtain⟨i,hi,rfl⟩:=cz.mp hx;exact⟨i,by simpa using hi,by simpa [hi]using h⟩
def xnj(K:ah)(f:List Bool→Bool):List V→Hp→VK→Prop:=fun xs H Q=>∃p bs,xs=[.ref p]∧SqL K H p (bs.map V.bl)∧Q (.bl (f bs)) H
theorem xdj{prog:aH}{w:World}{A:aV}(bs:List Bool):TruthOf prog w A (fun i v=>(bs.map dU).toArray[i]? =some v) (fun i=>bs.getD i true):=by
 intro i v s Q E hP hQ;have e:v= .bool (bs.getD i true):=by
  simp only[lb,ao]at hP;cases q:bs[i]? with
  |none=>rw[q]at hP;cases hP
  |some b=>rw[q]at hP;simp at hP;rw[←hP];simp[a9,q]
 rw[e];exact cH hQ
theorem xla(hc:X.calm=true):yh X (.builtin "all") (xnj X.K fun bs=>bs.all id):=by
 intro pins s σ H xs us Q I r h;obtain⟨p,bs,rfl,hq,q⟩:=h;obtain⟨u,rfl,rx⟩:=vals1 r;cases rx;obtain⟨its,r',pl,hz⟩:=I.list hq;have e:=xbi r';subst e;have hL:=pl.isList;have hlt:p<s.heap.objs.size:=by obtain⟨_,e,_⟩:=hL;exact ak e
 refine call_all_walk (eC hL ⟨_,_,_,_,_,_,fun i=>bs.getD i true,rfl,ik (A:=X.A.in1) (I.ok.hd hc) _ p (au hlt) (bs.map dU).toArray,⟨⟨_,az _ rfl,rfl,rfl⟩,hL.push _⟩,xdj bs,fun h' tk hk=>?_⟩);refine⟨.bl (bs.all id),H,I.kept (t':=tk) (fun b o e=>hk b o (fun hb=>?_) (af _ e)),?_,q⟩
 ·exact absurd (ak e) (by rw[aA.mp hb];exact bL _)
 ·have e:=range_all bs true;simp only[av,ab];rw[e];rfl
theorem xlb(hc:X.calm=true):yh X (.builtin "any") (xnj X.K fun bs=>bs.any id):=by
 intro pins s σ H xs us Q I r h;obtain⟨p,bs,rfl,hq,q⟩:=h;obtain⟨u,rfl,rx⟩:=vals1 r;cases rx;obtain⟨its,r',pl,hz⟩:=I.list hq;have e:=xbi r';subst e;have hL:=pl.isList;have hlt:p<s.heap.objs.size:=by obtain⟨_,e,_⟩:=hL;exact ak e
 refine call_any_walk (eC hL ⟨_,_,_,_,_,_,fun i=>bs.getD i true,rfl,ik (A:=X.A.in1) (I.ok.hd hc) _ p (au hlt) (bs.map dU).toArray,⟨⟨_,az _ rfl,rfl,rfl⟩,hL.push _⟩,xdj bs,fun h' tk hk=>?_⟩);refine⟨.bl (bs.any id),H,I.kept (t':=tk) (fun b o e=>hk b o (fun hb=>?_) (af _ e)),?_,q⟩
 ·exact absurd (ak e) (by rw[aA.mp hb];exact bL _)
 ·have e:=range_any bs true;simp only[av,ab];rw[e];rfl
def xqb(K:ah):List V→Hp→VK→Prop:=fun xs H Q=>∃(p:Addr) (ns:List Int),xs=[.ref p]∧SqL K H p (ns.map V.int)∧Q (.int ns.sum) H
theorem xlc(hc:X.calm=true):yh X (.builtin "sum") (xqb X.K):=by
 intro pins s σ H xs us Q I r h;obtain⟨p,ns,rfl,hq,q⟩:=h;obtain⟨u,rfl,rx⟩:=vals1 r;cases rx;obtain⟨its,r',pl,hz⟩:=I.list hq;have hi:=intsAre_of r';have hL:=pl.isList;have hn:=hi.numsOf;obtain⟨ys,e⟩:=hi.allInts.items;rw[e]at hL;have e2:numsOf its=numsOf (iy ys).toList:=by rw[←e]
 rw[e2,lR]at hn;refine sum_intListG (I.ok.hd hc) hL fun h' tk t' hk=>⟨.int ns.sum,H,I.kept (t':=tk) hk,⟨t',?_⟩,q⟩;rw[preSum_eq,a8 (by simp),hn]
end
end L2
namespace L2
open PySem PySem.Spec PyProof.Rows
section
variable {X:Cx} {pins:List (Addr×Obj)} {σ:St} {H:Hp} {s:ae} {h':Heap}
theorem Inv.turnLaid{t':Nat}{ch:List Addr}{a:Addr}{o:HO}(I:Inv X pins σ H s)(k:∀b u,b∉ch→s.heap.get? b=some u→h'.get? b=some u)(hp:s.heap.objs.size≤a)(new:xG X.prog X.w (upd H a o) h' a o)
  (hn:∀b∈ch,H b=none) (hl:∀b∈ch,b<s.heap.objs.size) (hch:∀b∈ch,(b∈X.ex∨X.s₀.heap.objs.size≤b)∧b≠X.env.locals∧(∀x c,X.env.cells.lookup x=some c→c≠b)∧∀p∈X.pn++pins,p.1≠b):
  Inv X pins σ (upd H a o) {s with heap:=h',toks:=t'}:=by
 have nit:∀b u,H b=some u→b∉ch:=fun b u e z=>by rw[hn b z]at e;cases e
 have fr:=I.hok.fresh hp;refine I.call' (s':={s with heap:=h',toks:=t'}) (ch:=ch) rfl ⟨fun b o q _ _ hx=>k b o hx q,fun b o q _ _ hx=>⟨o.slots,k b o hx q⟩,fun b o q n _=>?_,fun b o q hx=>⟨o,k b o hx q⟩,fun b u q _=>?_⟩ (fun b u e=>?_) I.bare hch
 ·rw[xl (au (aw (ak q) hp))];exact n
 ·rw[xl (xJ q fr)];exact q
 ·by_cases hb:b=a
  ·subst hb;rw[xk]at e;cases e;exact new
  ·rw[xl hb]at e;refine(I.hok b u e).stay (fun c v hc q=>k c v ?_ q) (fun c q=>by rw[xl (xJ q fr)];exact q) fun c xs q _=>by rw[xl (xJ q fr)];exact q
   rcases hc with z|z
   ·rw[z];exact nit b u e
   ·exact nit c _ z
end
def Ite(K:ah)(a:Addr):It:=
 ⟨fun i H=>∃xs x,SqL K H a xs∧xs[i]? =some x,fun i H v H'=>∃T x,v= .ref T∧H T=none∧H'=upd H T (.tup [.int i,x])∧∀xs,SqL K H a xs→xs[i]? =some x,fun i H=>∃xs,SqL K H a xs∧xs.length≤i⟩
theorem xld{P:aH}{w:World}{K:ah}{es:List Expr}{k:Nat}{pos:Pos}(a e it:Addr)(hne:e≠it):Turn P w K (.Tuple es k pos) (Ite K a) [e,it] e (fun i h=>(∃old,IsEnum h e it (i:Nat) old)∧h.IsListIter it a i) where
 mem:=by simp
 obj:=fun i h st b hb=>by
  obtain⟨⟨old,he⟩,⟨o,e1,c,d⟩⟩:=st;rcases ax.mp hb with z|z
  ·subst z;exact⟨_,he,fun v z=>by cases z⟩
  ·rw[aA.mp z];exact⟨o,e1,fun v z=>by rw[d]at z;cases z⟩
 keep:=fun i h h' st kk=>by
  obtain⟨⟨old,he⟩,hit⟩:=st;exact⟨⟨old,kk e (by simp) _ he⟩,hit.at fun o x=>kk it (by simp) o x⟩
 item:=by
  intro X hP hw hK hc i pins s σ H E I hf st hg;subst hP hw hK;obtain⟨xs,x,hq,hx⟩:=hg;obtain⟨its,rv,p,hz⟩:=I.list hq;obtain⟨u,hu,ru⟩:=rv.get hx;obtain⟨⟨old,he⟩,hit⟩:=st;have he':=ak he;have hi':it<s.heap.objs.size:=by obtain⟨o,q,_⟩:=hit;exact ak q
  refine wpAny_pyNext_enum_item he hit p.isList (x:=u) (by simpa using hu) hne fun h' heo hit' hT hsz hk=>?_;refine⟨_,rfl,iS (s:={s with heap:=h',toks:=s.toks+1}) heo fun h2 he2 hs2=>?_⟩;have hT2:h2.get? s.heap.objs.size=some {cls:=.type "tuple",data:=.seq #[.int i s.toks,u]}:=(hs2.2 _ (dX he')).trans hT;have I2:Inv X pins σ (upd H s.heap.objs.size (.tup [.int i,x])) {s with heap:=h2,toks:=s.toks+1}:=by
   refine I.turnLaid (ch:=[e,it]) (fun b o hb q=>?_) (aj _) ⟨by simp[ay],[.int i s.toks,u],.cons ⟨_,rfl⟩ (.cons ru .nil),⟨_,hT2,rfl,_,rfl⟩⟩ (fun b hb=>(hf b hb).1) (fun b hb=>?_) fun b hb=>?_
   ·have b1:b≠e:=fun z=>hb (by simp[z]);have b2:b≠it:=fun z=>hb (by simp[z]);exact(hs2.2 b b1).trans (hk b o b1 b2 q)
   ·rcases ax.mp hb with z|z
    ·rw[z];exact he'
    ·rw[aA.mp z];exact hi'
   ·obtain⟨f0,f1,f2,f3,f4,f5⟩:=hf b hb;exact⟨f3,f1,f4,f5⟩
  refine⟨.ref s.heap.objs.size,_,I2,rfl,⟨_,x,rfl,I.hok.fresh (aj _),rfl,fun ys hy=>by rw[I.list_inj hy hq];exact hx⟩,⟨⟨u,by simpa using he2⟩,hit'.extBut hs2.extBut (bE hne)⟩,fun b hb=>?_⟩;have hb':b≠s.heap.objs.size:=by
   rcases ax.mp hb with z|z
   ·rw[z];exact au he'
   ·rw[aA.mp z];exact au hi'
  rw[xl hb'];exact(hf b hb).1
 done:=by
  intro X hP hw hK hc i pins s σ H E I hf st hg;subst hP hw hK;obtain⟨xs,hq,hx⟩:=hg;obtain⟨its,rv,p,hz⟩:=I.list hq;obtain⟨⟨old,he⟩,hit⟩:=st;obtain⟨f0,f1,f2,f3,f4,f5⟩:=hf it (by simp);have hl:=rv.length;exact wpAny_pyNext_enum_end (I.ok.hd hc) he hit p.isList (by simp;lia) fun h' eb=>⟨rfl,I.turned (t':=s.toks) (fun b o hb e=>eb b o hb e) f0 f1 f3 f4 f5⟩
 self:=fun _ _ _ _ _ st h=>by
  obtain⟨⟨old,he⟩,_⟩:=st;exact gK he h
section
variable {X:Cx} {es:List Expr} {k:Nat} {tp:Pos}
def xqc(K:ah)(ta:TA):TI:=fun σ H R=>ta σ H fun vs H1=>∃a,vs=[.ref a]∧(∃xs,SqL K H1 a xs)∧R (Ite K a) H1
theorem xfo{l:Expr}{ta:TA}{p pos:Pos}(hg:Gl X "enumerate")(hm:X.mg "enumerate"=none)(ha:PA X [l] ta)(hs:aY [l] X.env=[(false,eval l X.env)]:=by rfl):PI X (.Tuple es k tp) (.Call (.Name "enumerate" p) [l] [] pos) (xqc X.K ta):=by
 intro pins s σ H R I h;refine Call_ (yV I hg hm xb1 (bR (thn (ha pos pins s σ H _ I h) fun us s1 ⟨vs,H1,I1,r1,q1⟩=>?_) hs rfl));obtain⟨a,e,⟨xs,hq⟩,q⟩:=q1;subst e;obtain⟨u,rfl,ru⟩:=Vals.one r1;cases ru;obtain⟨its,rv,pl,hz⟩:=I1.list hq;refine call_enumerate_list pl.isList fun h' he hi hsz hk=>gK (s:={s1 with heap:=h'}) he ?_;refine⟨s1.heap.objs.size+1,[s1.heap.objs.size+1,s1.heap.objs.size],_,_,H1,rfl,I1.kept (t':=s1.toks) hk,xld a _ _ (Nat.succ_ne_self _),⟨⟨.none,by simpa using he⟩,hi⟩,fun b hb=>?_,q⟩;rcases ax.mp hb with z|z
 ·rw[z];exact I1.fpOk (dC _) (I1.hok.fresh (dC _))
 ·rw[aA.mp z];exact I1.fpOk (aj _) (I1.hok.fresh (aj _))
end
structure zi(X:Cx)(scope:Scope)(x1 x2:Str)(cap:List Nat)(ys:List Str):Prop where
 kind:scope.kind= .function
 nocell:∀y∈scope.names,y.2≠.cell
 locs:∀y∈scope.names,y.2= .local→scope.names.lookup y.1=some .local
 lx1:scope.names.lookup x1=some .local
 lx2:scope.names.lookup x2=some .local
 fr:∀y∈scope.names,y.2= .free→X.env.kindOf y.1=some .cell∨X.env.kindOf y.1=some .free
 cap:xbf X scope cap ys
 nd:(x1::x2::ys).Nodup
theorem xfp{X:Cx}{scope:Scope}{x1 x2:Str}{cap:List Nat}{ys:List Str}(kind:scope.kind= .function)(h1:(scope.names.all fun y=> !(y.2== .cell))=true)(h2:(scope.names.all fun y=> !(y.2== .local)||scope.names.lookup y.1==some .local)=true)
  (hx1:scope.names.lookup x1=some .local) (hx2:scope.names.lookup x2=some .local) (h3:(scope.names.all fun y=> !(y.2== .free)||(X.env.kindOf y.1==some .cell||X.env.kindOf y.1==some .free))=true) (hcap:xbf X scope cap ys) (hnd:(x1::x2::ys).Nodup):zi X scope x1 x2 cap ys:=by
 refine⟨kind,fun y hy e=>?_,fun y hy e=>?_,hx1,hx2,fun y hy e=>?_,hcap,hnd⟩
 ·have:=ck.mp h1 y hy;rw[e]at this;exact absurd this (by decide)
 ·have:=ck.mp h2 y hy;rw[e]at this;simpa using this
 ·have:=ck.mp h3 y hy;rw[e]at this;simpa using this
section
variable {X:Cx} {scope:Scope} {x1 x2:Str} {cap:List Nat} {ys:List Str}
theorem zi.clos(B:zi X scope x1 x2 cap ys)(ok:X.Ok):∀y∈scope.names,y.2= .free→∃c,X.env.cells.lookup y.1=some c:=fun y hy e=>ok.has y.1 (B.fr y hy e)
theorem zi.sub(B:zi X scope x1 x2 cap ys)(ok:X.Ok){z:Str}{c:Addr}(h:(yx X.env.cells scope.names []).lookup z=some c):X.env.cells.lookup z=some c:=by
 rcases xbe (B.clos ok) h with q|q
 ·simp at q
 ·exact q
theorem zi.start{pins:List (Addr×Obj)}{σ:St}{H₂:Hp}{s₂:ae}{fp:List Addr}{h₁:Heap}{tk:Nat}{C D:Addr}(B:zi X scope x1 x2 cap ys)(I:Inv X pins σ H₂ s₂)
  (hf:∀b∈fp,ve X pins H₂ b) (hD:s₂.heap.objs.size≤D) (hC:s₂.heap.objs.size≤C) (hDC:D≠C) (hk:∀b o,s₂.heap.get? b=some o→h₁.get? b=some o)
  (hns:∃m,h₁.Ns C m) (hl:h₁.get? D=some {cls:=.type "list",data:=.seq ([]:List Value).toArray}) (hfp:∀b∈fp,b<s₂.heap.objs.size):
  Inv (X.blk scope C (x1::x2::ys) s₂ H₂ fp) [] (none::none::zh σ cap) (upd H₂ D (.lst [])) {s₂ with heap:=h₁,toks:=tk}:=by
 have ok:=I.ok;have freshC:H₂ C=none:=I.hok.fresh hC;have freshD:H₂ D=none:=I.hok.fresh hD;have lt:∀b o,s₂.heap.get? b=some o→b<s₂.heap.objs.size:=fun b o e=>ak e;refine⟨⟨ok.mod,B.kind,ok.glob,ok.blt,hC,fun y z c h1 h2=>ok.inj y z c (B.sub ok h1) (B.sub ok h2),fun y hy=>?_,fun y c h=>(aB h).elim,ok.hd,ok.frames,.inl rfl,fun b hb=>⟨?_,fun y c h e=>?_⟩,I.bs,bg ok.bsz I.sz,fun b o e hb=>?_,fun b hb hs=>?_,I.stack,I.stkFree,fun y c h=>(aB h).elim,fun b hb=>I.hok.fresh hb⟩,
  rfl,I.bare,Un.laid hk hD freshD,?_,fun y c h=>?_,?_,fun y c h=>?_,fun p hp=>?_,?_,?_⟩
 ·have hy':(k6 scope X.env).names.lookup y=some .cell∨(k6 scope X.env).names.lookup y=some .free:=hy;have m:(y,bV)∈scope.names:=by
   rcases hy' with q|q
   ·exact zO q (.inl rfl) B.nocell
   ·exact zO q (.inr rfl) B.nocell
  exact vg (.inl m)
 ·exact au (aw (hfp b hb) hC)
 ·exact(hf b hb).2.2.2.2.1 y c (B.sub ok h) e
 ·rcases(hf b hb).2.2.2.1 with q|q
  ·exact ok.noex b o e q
  ·exact absurd (aw (ak (ok.bs b o e).1) q) (bL _)
 ·rcases ax.mp (I.stkSub b hs)with q|q
  ·exact(hf b hb).2.1 q
  ·exact(hf b hb).2.2.1 q
 ·obtain⟨m,hm⟩:=hns;refine⟨m,hm,fun i y v e1 e2 e3=>?_⟩;cases i with
  |zero=>simp at e2
  |succ i=>
   cases i with
   |zero=>simp at e2
   |succ i=>
    obtain⟨j,n1,n2,n3,n4⟩:=vK (i:=i) B.cap (by simpa [Cx.blk]using e1) (by simpa using e2);obtain⟨m0,hn0,hl0⟩:=I.loc;have vis:Vis X.env.scope y:=by
     rcases n4 with q|q
     ·exact .inr (.inl q)
     ·exact .inr (.inr q)
    obtain⟨u,ru,l⟩:=hl0 j y v n1 n2 vis;refine⟨u,ru,.inr ⟨jz n3,?_⟩⟩;rcases l with⟨k,_⟩|⟨_,c,ec,z⟩
    ·rw[k]at n4;rcases n4 with q|q<;> cases q
    ·obtain⟨c',ec'⟩:=vg (cells:=X.env.cells) (cs:=[]) (.inl (jy n3));have:=B.sub ok ec';rw[ec]at this;cases this;obtain⟨o,ho,hd⟩:=z;exact⟨c,ec',o,hk c o ho,hd⟩
 ·obtain⟨v,o,ho,hd⟩:=I.cell y c (B.sub ok h);exact⟨v,o,hk c o ho,hd⟩
 ·show upd H₂ D _ C=none;rw[xl (bE hDC)];exact freshC
 ·obtain⟨v,o,ho,hd⟩:=I.cell y c (B.sub ok h);rw[xl (au (aw (lt c o ho) hD))];refine(I.freeC y c (B.sub ok h)).imp id fun⟨_,o',ho',hno⟩=>⟨rfl,o',ho',fun z i v e1 k e2=>?_⟩;cases i with
  |zero=>simp at e2
  |succ i=>
   cases i with
   |zero=>simp at e2
   |succ i=>
    obtain⟨j,n1,n2,n3,n4⟩:=vK (i:=i) B.cap (by simpa [Cx.blk]using e1) (by simpa using e2);exact hno z j v n1 n4 n2
 ·exact absurd (show p∈([]:List (Addr×Obj))from hp) (by simp)
 ·exact I.hok.laid hk hD ⟨aM _,[],0,.nil,hl⟩
 ·simp[Cx.blk,zh,xbY B.cap]
theorem zi.back{pins:List (Addr×Obj)}{σ:St}{H₂ H':Hp}{s₂ s':ae}{fp:List Addr}{C:Addr}{pl:List (Addr×Obj)}{σ':St}(B:zi X scope x1 x2 cap ys)(I:Inv X pins σ H₂ s₂)
  (hf:∀b∈fp,ve X pins H₂ b) (J:Inv (X.blk scope C (x1::x2::ys) s₂ H₂ fp) pl σ' H' s'):Inv X pins σ H' s':=
 I.call' (ch:=fp) J.os J.base J.hok J.bare fun b hb=>by
  obtain⟨f0,f1,f2,f3,f4,f5⟩:=hf b hb;refine⟨?_,f1,f4,f5⟩;rcases f3 with q|q
  ·exact .inl q
  ·exact .inr q
theorem zi.far{pins:List (Addr×Obj)}{σ:St}{H₂ H':Hp}{s₂ s':ae}{fp:List Addr}{C:Addr}{pl:List (Addr×Obj)}{σ':St}(I:Inv X pins σ H₂ s₂)
  (hC:s₂.heap.objs.size≤C) (J:Inv (X.blk scope C (x1::x2::ys) s₂ H₂ fp) pl σ' H' s'):
  H' C=none∧C≠X.env.locals∧X.s₀.heap.objs.size≤C∧(∀z c,X.env.cells.lookup z=some c→c≠C)∧∀p∈X.pn++pins,p.1≠C:=by
 refine⟨J.free,dX (aw I.lt hC),bg I.sz hC,fun z c e q=>?_,fun p hp q=>?_⟩
 ·obtain⟨v,w⟩:=I.cell z c e;exact absurd (aw w.lt (by rw[q];exact hC)) (bL _)
 ·exact absurd (aw (ak (I.pin p hp).1) (by rw[q];exact hC)) (bL _)
end
@[irreducible] def vi(K:ah)(J:It)(caps:St)(tt:TT)(te:TE)(Q:VK)(H2:Hp):Prop:=∀D,H2 D=none→∃W:CW,(∃m,W 0 m [] (upd H2 D (.lst [])))∧
 ∀i m acc H3,W i m acc H3→H3 D=some (.lst acc)∧((J.stop i H3∧Q (.ref D) H3)∨(J.go i H3∧acc.length<aL∧∀v H4,J.yld i H3 v H4→∃T v1 v2,v= .ref T∧SqT K H4 T [v1,v2]∧tt (some v1::some v2::caps) H4 fun b H5=>
  (b=true→te (some v1::some v2::caps) H5 fun u H6=>H6 D=some (.lst acc)∧∃m',m'<m∧W (i+1) m' (acc++[u]) (upd H6 D (.lst (acc++[u]))))∧(b=false→∃m',m'<m∧W (i+1) m' acc H5)))
def xpl(K:ah)(cap:List Nat)(wi:TI)(tt:TT)(te:TE):TE:=fun σ H Q=>wi σ H fun J H2=>vi K J (zh σ cap) tt te Q H2
section
variable {X:Cx} {scope:Scope} {x1 x2:Str} {cap:List Nat} {ys:List Str} {elt iter:Expr} {ifs:List Expr} {px1 px2 px pos:Pos} {kx:Nat} {wi:TI} {tt:TT} {te:TE}
theorem xiA(B:zi X scope x1 x2 cap ys)(hc:X.calm=true)(he:∀C s H fp,PE (X.blk scope C (x1::x2::ys) s H fp) elt te)(ht:∀C s H fp,CTs (X.blk scope C (x1::x2::ys) s H fp) ifs tt)
  {pins:List (Addr×Obj)} {σ:St} {s₂:ae} {Q:VK} {RR:Value→Addr→gp→ae→Prop} {itv:Value} {E:Value→ae→Prop}
  (hp:PIE X pins σ (.Tuple [.Name x1 px1,.Name x2 px2] kx px) (fun J H2=>vi X.K J (zh σ cap) tt te Q H2) itv s₂)
  (hR:∀(D C:Addr) (H':Hp) (s':ae),Inv X pins σ H' s'→(∃m,s'.heap.Ns C m)→H' C=none→C≠X.env.locals→X.s₀.heap.objs.size≤C→(∀z c,X.env.cells.lookup z=some c→c≠C)→(∀p∈X.pn++pins,p.1≠C)→Q (.ref D) H'→RR (.ref D) C (.ok .next) s'):
  wpAny (model X.prog X.w) X.A (newList []) (fun acc s₃=>wpAny (model X.prog X.w) X.A (k8 scope X.env.globals (yx X.env.cells scope.names []) [] X.env.qual none .none (some X.env)) (fun cenv s₄=>
   cU (model X.prog X.w) X.A (.compStart (.ListComp elt [⟨.Tuple [.Name x1 px1,.Name x2 px2] kx px,iter,ifs,0⟩] scope pos) 0 itv acc {cenv with scope:=k6 scope X.env}) (RR acc cenv.locals) s₄) E s₃) E s₂:=by
 obtain⟨it,fp,tn,J,H2,e,I2,T,st2,f2,hw⟩:=hp;subst e;unfold vi at hw;refine cX (ij B.nocell (by intro y hy;simp at hy) (fun h₁ hns₁ hsb₁=>?_) B.kind);dsimp only at hns₁ hsb₁⊢;generalize hG:s₂.heap.push {cls:=.type "list",dict:=none,data:=.seq ([]:List Value).toArray}=G at hns₁ hsb₁⊢;have hsz:G.objs.size=s₂.heap.objs.size+1:=by rw[←hG,cV]
 have hCle:s₂.heap.objs.size≤G.objs.size:=by lia
 have hDC:s₂.heap.objs.size≠G.objs.size:=by lia
 have old:∀b o,s₂.heap.get? b=some o→h₁.get? b=some o:=fun b o q=>by
  have lt:=ak q;refine hsb₁.extBut b o (au (aw lt hCle)) (af _ ?_);rw[←hG];exact af _ q
 have accAt:h₁.get? s₂.heap.objs.size=some {cls:=.type "list",data:=.seq ([]:List Value).toArray}:=by
  refine hsb₁.extBut _ _ hDC (af _ ?_);rw[←hG];exact az _ rfl
 have hfp:∀b∈fp,b<s₂.heap.objs.size:=fun b hb=>by
  obtain⟨o,ho,_⟩:=T.obj _ _ st2 b hb;exact ak ho
 obtain⟨W,⟨m0,w0⟩,turn⟩:=hw s₂.heap.objs.size (I2.hok.fresh (aj _));generalize htk:s₂.toks+([]:List (Str×Value)).length=tk;have I0:=B.start (tk:=tk) (C:=G.objs.size) I2 f2 (aj _) hCle hDC old ⟨_,hns₁⟩ accAt hfp;have st0:tn 0 h₁:=T.keep _ _ _ st2 fun b hb o q=>old b o q
 -- what stays true of the iterator's objects
 have f3:∀{H':Hp},(∀b∈fp,H' b=none)→∀b∈fp,ve (X.blk scope G.objs.size (x1::x2::ys) s₂ H2 fp) [] H' b:=fun hn b hb=>by
  obtain⟨f0,f1,f2',f3',f4,f5⟩:=f2 b hb;refine⟨hn b hb,au (aw (hfp b hb) hCle),fun hs=>?_,.inl hb,fun z c q=>f4 z c (B.sub I2.ok q),fun p hp=>absurd (show p∈([]:List (Addr×Obj))from hp) (by simp)⟩;rcases ax.mp (I2.stkSub b hs)with q|q
  ·exact f1 q
  ·exact f2' q
 have n0:∀b∈fp,upd H2 s₂.heap.objs.size (.lst []) b=none:=fun b hb=>by
  rw[xl (au (hfp b hb))];exact(f2 b hb).1
 have loop:∀sx:ae,sx={s₂ with heap:=h₁,toks:=tk}→
   cU (model X.prog X.w) X.A (.compLoop (.ListComp elt [⟨.Tuple [.Name x1 px1,.Name x2 px2] kx px,iter,ifs,0⟩] scope pos) 0 (.ref it) (.ref s₂.heap.objs.size) (compEnvC scope (yx X.env.cells scope.names []) G.objs.size X.env)) (RR (.ref s₂.heap.objs.size) G.objs.size) sx:=by
  rintro sx rfl;refine xes (fun n s'=>∃i acc H',Inv (X.blk scope G.objs.size (x1::x2::ys) s₂ H2 fp) [] (none::none::zh σ cap) H' s'∧tn i s'.heap∧(∀b∈fp,H' b=none)∧W i n acc H') ?_ m0 ⟨0,[],_,I0,st0,n0,w0⟩;rintro n s3 ⟨i,acc,H3,I3,st3,fr3,w3⟩;obtain⟨hD3,alt⟩:=turn i n acc H3 w3;rcases alt with⟨stop,q⟩|⟨go,hlen,step⟩
  ·refine bb (T.done (X.blk scope G.objs.size (x1::x2::ys) s₂ H2 fp) rfl rfl rfl hc i [] s3 _ H3 (fun _ _=>False) I3 (f3 fr3) st3 stop) (fun r s4 ⟨hr,I4⟩=>?_) fun _ _ z=>z.elim;subst hr;obtain⟨g1,g2,g3,g4,g5⟩:=zi.far I2 hCle I4;obtain⟨m4,hm4,_⟩:=I4.loc;exact hR _ _ H3 s4 (B.back I2 f2 I4) ⟨m4,hm4⟩ g1 g2 g3 g4 g5 q
  ·refine bb (T.item (X.blk scope G.objs.size (x1::x2::ys) s₂ H2 fp) rfl rfl rfl hc i [] s3 _ H3 (fun _ _=>False) I3 (f3 fr3) st3 go) (fun r s4 ⟨u,hr,h4⟩=>?_) fun _ _ z=>z.elim;subst hr;refine bb h4 (fun _ s4 ⟨v,H4,I4,rv,y4,st4,fr4⟩=>?_) fun _ _ z=>z.elim;have I4':=I4.pinned (f3 fr4) (T.obj _ _ st4);obtain⟨Tt,v1,v2,ev,hT4,step⟩:=step v H4 y4;have G0:PG (X.blk scope G.objs.size (x1::x2::ys) s₂ H2 fp) (.Tuple [.Name x1 px1,.Name x2 px2] kx px) (xoH X.K 2 (xjA (xcQ 0) (xjA (xcQ 1) xoG))):=
    ju hc (yt (xO (i:=0) B.nd rfl (.inl (dI B.lx1)) (.inr (dI B.lx1))) (yt (xO (i:=1) B.nd rfl (.inl (dI B.lx2)) (.inr (dI B.lx2))) vd))
   refine bb (G0 _ s4 _ H4 v u (fun σ5 H5=>σ5=some v1::some v2::zh σ cap∧H4=H5) I4' rv ⟨Tt,[v1,v2],ev,hT4,rfl,⟨v1,_,rfl,v2,_,rfl,⟨rfl,rfl,rfl⟩⟩⟩) (fun _ s5 z5=>?_) fun _ _ z=>z.elim;obtain⟨σ5,H5,I5,e5,e6⟩:=z5;subst e5 e6;have I5':Inv (X.blk scope G.objs.size (x1::x2::ys) s₂ H2 fp) ([]++ua fp s4.heap) (some v1::some v2::zh σ cap) H4 s5:=I5;refine bb (ht _ _ _ _ _ s5 _ H4 _ I5' step) (fun ok s6 ⟨H6,I6,q6⟩=>?_) fun _ _ z=>z.elim;have pinned:∀{σ7:St} {H7:Hp} {s7:ae},Inv (X.blk scope G.objs.size (x1::x2::ys) s₂ H2 fp) ([]++ua fp s4.heap) σ7 H7 s7→tn (i+1) s7.heap∧∀b∈fp,H7 b=none:=fun{σ7 H7 s7} I7=>by
    refine⟨T.keep _ _ _ st4 fun b hb o e=>(I7.pin (b,o) (aS _ (aS _ (zN hb e)))).1,fun b hb=>?_⟩;obtain⟨o,e,d⟩:=T.obj _ _ st4 b hb;exact(I7.pin (b,o) (aS _ (aS _ (zN hb e)))).2.1
   have weak:∀{H7:Hp} {s7:ae},Inv (X.blk scope G.objs.size (x1::x2::ys) s₂ H2 fp) ([]++ua fp s4.heap) (some v1::some v2::zh σ cap) H7 s7→Inv (X.blk scope G.objs.size (x1::x2::ys) s₂ H2 fp) [] (none::none::zh σ cap) H7 s7:=fun I7=>
    (I7.unpinned (pins:=[])).weak rfl fun j z e=>by
     cases j with
     |zero=>simp at e
     |succ j=>
      cases j with
      |zero=>simp at e
      |succ j=>simpa using e
   cases ok with
   |false=>
    rw[if_neg aB];obtain⟨m',hm',w'⟩:=q6.2 rfl;exact⟨m',hm',i+1,acc,H6,weak I6,(pinned I6).1,(pinned I6).2,w'⟩
   |true=>
    rw[if_pos rfl];refine bb (he _ _ _ _ _ s6 _ H6 _ I6 (q6.1 rfl)) (fun y s7 ⟨z,H7,I7,rz,hD7,m',hm',w'⟩=>?_) fun _ _ z=>z.elim;refine bb (yH (X:=X.blk scope G.objs.size (x1::x2::ys) s₂ H2 fp) _ s7 _ H7 (.ref s₂.heap.objs.size) [z] (.ref s₂.heap.objs.size) [y] (fun _ H8=>H8=upd H7 s₂.heap.objs.size (.lst (acc++[z]))) I7 rfl (.cons rz .nil) ⟨_,acc,z,rfl,rfl,hD7,hlen,rfl⟩) (fun _ s8 ⟨_,H8,I8,_,e8⟩=>?_) fun _ _ z=>z.elim;subst e8;exact⟨m',hm',i+1,_,_,weak I8,(pinned I8).1,(pinned I8).2,w'⟩
 exact codeAny_compStart_list (loop _ rfl) (T.self _ 0 _ _ _ st0 (loop _ rfl))
theorem xdR(B:zi X scope x1 x2 cap ys)(hc:X.calm=true)(hi:PI X (.Tuple [.Name x1 px1,.Name x2 px2] kx px) iter wi)(he:∀C s H fp,PE (X.blk scope C (x1::x2::ys) s H fp) elt te)(ht:∀C s H fp,CTs (X.blk scope C (x1::x2::ys) s H fp) ifs tt)
  (hs:∀x,eE iter X.env x=pure x:=by intro _;rfl):PE X (.ListComp elt [⟨.Tuple [.Name x1 px1,.Name x2 px2] kx px,iter,ifs,0⟩] scope pos) (xpl X.K cap wi tt te):=by
 intro pins s σ H Q I h;rw[eval_ListComp];refine gu (use:=none) rfl hs (jd (B.clos I.ok)) B.kind B.locs ?_;refine thn (hi pins s σ H _ I h) fun v s1 h1=>thn h1 fun itv s2 h2=>?_;refine xiA (Q:=Q) (RR:=fun acc C=>compPost (model X.prog X.w) X.A X.xe none (EP X pins σ Q) acc C) B hc he ht h2 ?_;rintro D C H' s' J ⟨m,hm⟩ g1 g2 g3 g4 g5 q;exact⟨m,hm,fun h' sb=>⟨.ref D,H',J.turned (t':=s'.toks) (fun b o hb e=>(sb.2 b hb).trans e) g1 g2 (.inr g3) g4 g5,rfl,q⟩⟩
end
end L2
namespace L2
open PySem PySem.Spec PyProof.Rows
theorem jf{α β:Type}{F:α→β→Prop}:∀{as:List α} {bs:List β} {i:Nat} {b:β},Paired F as bs→bs[i]? =some b→∃a,as[i]? =some a∧F a b
 |_,_,i,b,.nil,h=>by simp at h
 |_,_,0,b,.cons x xs,h=>by simp at h;subst h;exact⟨_,rfl,x⟩
 |_,_,i+1,b,.cons x xs,h=>by obtain⟨a,h1,h2⟩:=jf (i:=i) xs (by simpa using h);exact⟨a,by simpa using h1,h2⟩
theorem xK{α β:Type}{F:α→β→Prop}:∀{as:List α} {bs:List β} {i:Nat} {a:α},Paired F as bs→as[i]? =some a→∃b,bs[i]? =some b∧F a b
 |_,_,i,b,.nil,h=>by simp at h
 |_,_,0,b,.cons x xs,h=>by simp at h;subst h;exact⟨_,rfl,x⟩
 |_,_,i+1,b,.cons x xs,h=>by obtain⟨a,h1,h2⟩:=xK (i:=i) xs (by simpa using h);exact⟨a,by simpa using h1,h2⟩
def del(H:Hp)(D:Addr):Hp:=fun b=>if b=D then none else H b
theorem zr{H:Hp}{D:Addr}:del H D D=none:=by unfold del;rw[if_pos rfl]
theorem uG{H:Hp}{D b:Addr}(h:b≠D):del H D b=H b:=by unfold del;rw[if_neg h]
theorem yO{H:Hp}{D:Addr}:xb (del H D) H:=fun b u e=>by
 by_cases h:b=D
 ·rw[h,zr]at e;cases e
 ·rw[uG h]at e;exact e
theorem yv{H:Hp}{D:Addr}{o:HO}:del (upd H D o) D=del H D:=by
 funext b
 by_cases h:b=D
 ·rw[h,zr,zr]
 ·rw[uG h,uG h,xl h]
theorem zD{H:Hp}{D:Addr}(h:H D=none):del H D=H:=by
 funext b
 by_cases e:b=D
 ·rw[e,zr,h]
 ·rw[uG e]
theorem zE{H H':Hp}{D:Addr}(s:xb H H'):xb (del H D) (del H' D):=fun b u e=>by
 by_cases h:b=D
 ·rw[h,zr]at e;cases e
 ·rw[uG h]at e⊢;exact s b u e
theorem xae{lo st:Int}{n:Nat}{te:TE}{caps:L2.St}{Q:VK}{H2:Hp}(Pv:Nat→List V→Hp→Prop)(hn:n≤aL)(h0:Pv 0 [] H2)
  (hs:∀(i:Nat) acc H3 H3',i<n→xb H2 H3→xb H3 H3'→Pv i acc H3→∀R:VK,(∀u H6',xb H3' H6'→(∀H6,xb H3 H6→(∀p o,(H3' p=none∨∀ys,o≠HO.lst ys)→H6' p=some o→H6 p=some o)→Pv (i+1) (acc++[u]) H6)→R u H6')→te (some (.int (lo+i*st))::caps) H3' R)
  (hd:∀D acc H H',H2 D=none→H D=none→xb H2 H→xb H H'→Pv n acc H→acc.length=n→H' D=some (.lst acc)→Q (.ref D) H'):yM (Its lo st n) caps xdO te Q H2:=by
 unfold yM;intro D hD;refine⟨fun i m acc H3=>m=n - i∧i≤n∧acc.length=i∧H3 D=some (.lst acc)∧xb H2 (del H3 D)∧Pv i acc (del H3 D),⟨n,by simp,aM _,rfl,xk,?_,?_⟩,?_⟩
 ·rw[yv,zD hD];exact xb.refl _
 ·rw[yv,zD hD];exact h0
 rintro i m acc H3 ⟨rfl,hi,hacc,hD3,s3,p3⟩;refine⟨hD3,?_⟩
 by_cases hlt:i<n
 ·refine .inr ⟨hlt,by lia,fun v H4 y=>?_⟩;obtain⟨e,y⟩:=y;subst e y;refine⟨fun _=>?_,fun z=>by cases z⟩;refine hs i acc _ _ hlt s3 yO p3 _ fun u H6' s6 k=>⟨s6.at hD3,n - (i+1),by lia,rfl,hlt,by simp[hacc],xk,?_,?_⟩
  ·rw[yv];exact s3.trans (zE s6)
  ·rw[yv];refine k _ (zE s6) fun p o q1 q2=>?_;rw[uG (fun z=>by
    rcases q1 with q1|q1
    ·rw[z,hD3]at q1;cases q1
    ·rw[z,s6.at hD3]at q2;cases q2;exact q1 _ rfl)]
   exact q2
 ·have e:i=n:=by lia
  subst e;exact .inl ⟨aj _,hd D acc _ H3 hD zr s3 yO p3 hacc hD3⟩
theorem uH{K:ah}{l:Addr}{xs:List V}{te:TE}{caps:L2.St}{Q:VK}{H2:Hp}(Pv:Nat→List V→Hp→Prop)(hl:SqL K H2 l xs)(hn:xs.length≤aL)(h0:Pv 0 [] H2)
  (hs:∀(i:Nat) x acc H3 H3',xs[i]? =some x→xb H2 H3→xb H3 H3'→Pv i acc H3→∀R:VK,(∀u H6',xb H3' H6'→(∀H6,xb H3 H6→(∀p o,(H3' p=none∨∀ys,o≠HO.lst ys)→H6' p=some o→H6 p=some o)→Pv (i+1) (acc++[u]) H6)→R u H6')→te (some x::caps) H3' R)
  (hd:∀D acc H H',H2 D=none→H D=none→xb H2 H→xb H H'→Pv xs.length acc H→acc.length=xs.length→H' D=some (.lst acc)→Q (.ref D) H'):yM (Itl K l) caps xdO te Q H2:=by
 unfold yM;intro D hD;refine⟨fun i m acc H3=>m=xs.length - i∧i≤xs.length∧acc.length=i∧H3 D=some (.lst acc)∧xb H2 (del H3 D)∧Pv i acc (del H3 D),⟨xs.length,by simp,aM _,rfl,xk,?_,?_⟩,?_⟩
 ·rw[yv,zD hD];exact xb.refl _
 ·rw[yv,zD hD];exact h0
 rintro i m acc H3 ⟨rfl,hi,hacc,hD3,s3,p3⟩;refine⟨hD3,?_⟩;have q:=(s3.trans yO).seq hl
 by_cases hlt:i<xs.length
 ·have hx:xs[i]? =some xs[i]:=ai hlt;refine .inr ⟨⟨xs,xs[i],q,hx⟩,by lia,fun v H4 y=>?_⟩;obtain⟨e,y⟩:=y;have ev:=y xs q;rw[hx]at ev;cases ev;subst e;refine⟨fun _=>?_,fun z=>by cases z⟩;refine hs i _ acc _ _ hx s3 yO p3 _ fun u H6' s6 k=>⟨s6.at hD3,xs.length - (i+1),by lia,rfl,hlt,by simp[hacc],xk,?_,?_⟩
  ·rw[yv];exact s3.trans (zE s6)
  ·rw[yv];refine k _ (zE s6) fun p o q1 q2=>?_;rw[uG (fun z=>by
    rcases q1 with q1|q1
    ·rw[z,hD3]at q1;cases q1
    ·rw[z,s6.at hD3]at q2;cases q2;exact q1 _ rfl)]
   exact q2
 ·have e:i=xs.length:=by lia
  subst e;exact .inl ⟨⟨xs,q,aj _⟩,hd D acc _ H3 hD zr s3 yO p3 hacc hD3⟩
theorem xb9{K:ah}{l:Addr}{xs:List V}{te:TE}{caps:L2.St}{Q:VK}{H2:Hp}(Pv:Nat→List V→Hp→Prop)(hl:SqT K H2 l xs)(hn:xs.length≤aL)(h0:Pv 0 [] H2)
  (hs:∀(i:Nat) x acc H3 H3',xs[i]? =some x→xb H2 H3→xb H3 H3'→Pv i acc H3→∀R:VK,(∀u H6',xb H3' H6'→(∀H6,xb H3 H6→(∀p o,(H3' p=none∨∀ys,o≠HO.lst ys)→H6' p=some o→H6 p=some o)→Pv (i+1) (acc++[u]) H6)→R u H6')→te (some x::caps) H3' R)
  (hd:∀D acc H H',H2 D=none→H D=none→xb H2 H→xb H H'→Pv xs.length acc H→acc.length=xs.length→H' D=some (.lst acc)→Q (.ref D) H'):yM (Itt K l) caps xdO te Q H2:=by
 unfold yM;intro D hD;refine⟨fun i m acc H3=>m=xs.length - i∧i≤xs.length∧acc.length=i∧H3 D=some (.lst acc)∧xb H2 (del H3 D)∧Pv i acc (del H3 D),⟨xs.length,by simp,aM _,rfl,xk,?_,?_⟩,?_⟩
 ·rw[yv,zD hD];exact xb.refl _
 ·rw[yv,zD hD];exact h0
 rintro i m acc H3 ⟨rfl,hi,hacc,hD3,s3,p3⟩;refine⟨hD3,?_⟩;have q:=(s3.trans yO).seqT hl
 by_cases hlt:i<xs.length
 ·have hx:xs[i]? =some xs[i]:=ai hlt;refine .inr ⟨⟨xs,xs[i],q,hx⟩,by lia,fun v H4 y=>?_⟩;obtain⟨e,y⟩:=y;have ev:=y xs q;rw[hx]at ev;cases ev;subst e;refine⟨fun _=>?_,fun z=>by cases z⟩;refine hs i _ acc _ _ hx s3 yO p3 _ fun u H6' s6 k=>⟨s6.at hD3,xs.length - (i+1),by lia,rfl,hlt,by simp[hacc],xk,?_,?_⟩
  ·rw[yv];exact s3.trans (zE s6)
  ·rw[yv];refine k _ (zE s6) fun p o q1 q2=>?_;rw[uG (fun z=>by
    rcases q1 with q1|q1
    ·rw[z,hD3]at q1;cases q1
    ·rw[z,s6.at hD3]at q2;cases q2;exact q1 _ rfl)]
   exact q2
 ·have e:i=xs.length:=by lia
  subst e;exact .inl ⟨⟨xs,q,aj _⟩,hd D acc _ H3 hD zr s3 yO p3 hacc hD3⟩
theorem jg{K:ah}{l:Addr}{xs:List V}{tt:TT}{te:TE}{caps:L2.St}{Q:VK}{H2:Hp}(p:V→Bool)(f:V→V)(hl:SqL K H2 l xs)(hn:xs.length<aL)
  (ht:∀(x:V) (H3:Hp),x∈xs→xb H2 H3→∀R:Bool→Hp→Prop,(∀H6,xb H3 H6→R (p x) H6)→tt (some x::caps) H3 R)
  (hs:∀(x:V) (H3:Hp),x∈xs→p x=true→xb H2 H3→∀R:VK,(∀H6,xb H3 H6→R (f x) H6)→te (some x::caps) H3 R)
  (hd:∀D H',H2 D=none→xb H2 H'→H' D=some (.lst ((xs.filter p).map f))→Q (.ref D) H'):yM (Itl K l) caps tt te Q H2:=by
 unfold yM;intro D hD;refine⟨fun i m acc H3=>m=xs.length - i∧i≤xs.length∧acc=((xs.take i).filter p).map f∧H3 D=some (.lst acc)∧xb H2 H3,⟨xs.length,by simp,aM _,rfl,xk,xb.new hD⟩,?_⟩;rintro i m acc H3 ⟨rfl,hi,rfl,hD3,s3⟩;refine⟨hD3,?_⟩;have q:=s3.seq hl
 by_cases hlt:i<xs.length
 ·have hx:xs[i]? =some xs[i]:=ai hlt;have hle:(((xs.take i).filter p).map f).length<aL:=by
   rw[ab];refine fq (bO _ _) ?_;rw[bI];lia
  have et:xs.take (i+1)=xs.take i++[xs[i]]:=by rw[bG,hx];rfl
  refine .inr ⟨⟨xs,xs[i],q,hx⟩,hle,fun v H4 y=>?_⟩;obtain⟨e,y⟩:=y;have ev:=y xs q;rw[hx]at ev;cases ev;subst e;refine ht _ _ (cS hlt) s3 _ fun H5 s5=>⟨fun hp=>?_,fun hp=>?_⟩
  ·refine hs _ _ (cS hlt) hp (s3.trans s5) _ fun H6 s6=>⟨s6.at (s5.at hD3),xs.length - (i+1),by lia,rfl,hlt,?_,xk,(s3.trans (s5.trans s6)).put hD⟩;rw[et,gw,aI];simp[hp]
  ·refine⟨xs.length - (i+1),by lia,rfl,hlt,?_,s5.at hD3,s3.trans s5⟩;rw[et,gw,aI];simp[hp]
 ·have e:i=xs.length:=by lia
  subst e;rw[bX]at hD3⊢;exact .inl ⟨⟨xs,q,aj _⟩,hd D H3 hD s3 hD3⟩
theorem xiB{K:ah}{l:Addr}{xs:List V}{tt:TT}{te:TE}{caps:L2.St}{Q:VK}{H2:Hp}(p:Nat→V→Bool)(hl:SqL K H2 l xs)(hn:xs.length<aL)
  (ht:∀(i:Nat) (x:V) (H3:Hp),xs[i]? =some x→xb H2 H3→∀R:Bool→Hp→Prop,(∀H6,xb H3 H6→R (p i x) H6)→tt (some (.int i)::some x::caps) H3 R)
  (hs:∀(i:Nat) (x:V) (H3:Hp),xs[i]? =some x→xb H2 H3→∀R:VK,(∀H6,xb H3 H6→R (.int i) H6)→te (some (.int i)::some x::caps) H3 R)
  (hd:∀D H',H2 D=none→xb H2 H'→H' D=some (.lst (((aO xs.length).filter fun i=>p i (xs.getD i .non)).map fun(i:Nat)=>V.int i))→Q (.ref D) H'):vi K (Ite K l) caps tt te Q H2:=by
 unfold vi;intro D hD;refine⟨fun i m acc H3=>m=xs.length - i∧i≤xs.length∧acc=((aO i).filter fun i=>p i (xs.getD i .non)).map (fun(i:Nat)=>V.int i)∧H3 D=some (.lst acc)∧xb H2 H3,⟨xs.length,by simp,aM _,rfl,xk,xb.new hD⟩,?_⟩;rintro i m acc H3 ⟨rfl,hi,rfl,hD3,s3⟩;refine⟨hD3,?_⟩;have q:=s3.seq hl
 by_cases hlt:i<xs.length
 ·have hx:xs[i]? =some xs[i]:=ai hlt;have hle:(((aO i).filter fun i=>p i (xs.getD i .non)).map fun(i:Nat)=>V.int i).length<aL:=by
   rw[ab];refine fq (bO _ _) ?_;rw[dh];lia
  have eg:xs.getD i .non=xs[i]:=by simp[a9,hx]
  refine .inr ⟨⟨xs,xs[i],q,hx⟩,hle,fun v H4 y=>?_⟩;obtain⟨T,x,rfl,hT,rfl,y⟩:=y;have ev:=y xs q;rw[hx]at ev;cases ev;have s4:=xb.new (o:=.tup [.int i,xs[i]]) hT;refine⟨T,.int i,xs[i],rfl,SqT.of xk,?_⟩;refine ht i _ _ hx (s3.trans s4) _ fun H5 s5=>⟨fun hp=>?_,fun hp=>?_⟩
  ·refine hs i _ _ hx (s3.trans (s4.trans s5)) _ fun H6 s6=>⟨s6.at (s5.at (s4.at hD3)),xs.length - (i+1),by lia,rfl,hlt,?_,xk,(s3.trans (s4.trans (s5.trans s6))).put hD⟩;rw[gg,gw,aI,gU,eg,if_pos hp];rfl
  ·refine⟨xs.length - (i+1),by lia,rfl,hlt,?_,s5.at (s4.at hD3),s3.trans (s4.trans s5)⟩;rw[gg,gw,aI,gU,eg,if_neg (by rw[hp];exact aB)];simp
 ·have e:i=xs.length:=by lia
  subst e;exact .inl ⟨⟨xs,q,aj _⟩,hd D H3 hD s3 hD3⟩
theorem xg2{K:ah}{f:Bool→Bool}{x y:V}{H:Hp}{Q:VK}{d:gv}(hx:Rp K H x d)(hy:Rp K H y d)(hd:dY d=true)(q:Q (.bl (f true)) H):xfk K f x y H Q:=
 ⟨d,d,hx,hy,hd,hd,by rw[PySem.SeqAt.eqv_refl d (gP hd)];exact q⟩
end L2
namespace L2
open PySem PySem.Spec PyProof.Rows
section
variable {X:Cx} {K:ah}
theorem xg3(e:X.K=K):IxR X (xoV K):=e▸xX
theorem xqY(e:X.K=K):IxR X (xoW K):=e▸xx
theorem xml(e:X.K=K):SlR X (xoX K):=e▸zf
theorem xpm(e:X.K=K):yh X (.builtin "isinstance") (xo9 K):=e▸yN
theorem xqT(e:X.K=K)(hu:X.A.units+64<cLine):OpR X (bw .Eq) (xfk K fun b=>b):=e▸xp8 hu
theorem xq0(e:X.K=K)(hu:X.A.units+64<cLine):OpR X (bw .NotEq) (xfk K fun b=> !b):=e▸xbg hu
end
end L2
namespace L2
open PySem PySem.Spec PyProof.Rows
theorem jB(i:Int)(own:List Int):inV (.int i) (own.map V.int)=decide (i∈own):=by
 unfold inV;rw[kg,dF,dw,decide_eq_true_iff];constructor
 ·rintro⟨y,hy,h⟩;have:y=i:=by simpa [eqV,Function.comp]using h
  rw[←this];exact hy
 ·intro h;exact⟨i,h,by simp[eqV,Function.comp]⟩
theorem xle(xs:List Int):(xs.map V.int).all jb=true:=by
 rw[ck];intro x hx;obtain⟨y,_,rfl⟩:=aN.mp hx;rfl
theorem za(es:List Int)(lo hi:Option Int):zB (es.map V.int) lo hi=((es.drop (HT.sIx es.length 0 lo)).take (HT.sIx es.length es.length hi - HT.sIx es.length 0 lo)).map V.int:=by
 unfold zB;rw[ab,←List.map_drop,←List.map_take]
theorem xiC(p:V→Bool)(xs:List Int):(xs.map V.int).filter p=(xs.filter fun x=>p (.int x)).map V.int:=by
 rw[il];rfl
end L2
namespace L2
open PySem PySem.Spec PyProof.Rows
theorem yP{n d:Nat}{i:Int}(h0:0≤i):HT.sIx n d (some i)=min i.toNat n:=by
 show(if i<0 then(i+(n:Int)).toNat else min i.toNat n)=_;rw[if_neg (by lia)]
end L2
namespace L2
open PySem PySem.Spec PyProof.Rows
section
variable {X:Cx}
end
def xjd:Stmt→List Stmt
 | .For _ _ b _ _=>b
 |_=>[]
def xlf:Stmt→Expr
 | .Assign _ v _=>v
 |_=>.Constant .none 0 ⟨0,0,0,0⟩
def xpn:Stmt→Expr
 | .Return (some v) _=>v
 |_=>.Constant .none 0 ⟨0,0,0,0⟩
def xnN(i:Nat):Expr→Expr
 | .Call _ as _ _=>as.getD i (.Constant .none 0 ⟨0,0,0,0⟩)
 |_=>.Constant .none 0 ⟨0,0,0,0⟩
def xaX:Expr→cy
 | .Lambda a _ _ _=>a
 |_=>ye (.Pass ⟨0,0,0,0⟩)
def xaY:Expr→Expr
 | .Lambda _ b _ _=>b
 |e=>e
def zt:Expr→Scope
 | .Lambda _ _ s _=>s
 |_=>xj (.Pass ⟨0,0,0,0⟩)
theorem xg4{xs:List Int}{x v:Int}(h0:0≤x)(h:xs[x.toNat]? =some v):atI (xs.map V.int) x=some (.int v):=by
 have:=yJ (xs:=xs.map V.int) (j:=x.toNat) (v:=.int v) (by rw[ao,h];rfl)
 rwa [cG h0]at this
theorem xpo{n:Nat}{x:Int}(h0:0≤x)(h:x<n):ixN n x=some x.toNat:=by
 unfold ixN;rw[if_pos h0,if_pos h]
end L2
namespace PySem
open Sem (wp)
open PyProof.Rows
namespace F
theorem xlg:lB (.type "list_reverseiterator") "__len__"=pure none:=by rw[typeLookup_type,builtinLookup_eq_fast];kernel_rfl
theorem xmm:lB (.type "list_reverseiterator") "__length_hint__"=pure (some (.builtin "list_reverseiterator.__length_hint__")):=by rw[typeLookup_type,builtinLookup_eq_fast];kernel_rfl
end F
section
variable {prog:aH} {w:World} {A:aV} {E:Value→ae→Prop} {s:ae}
theorem xj0{R:gp→ae→Prop}{r l:Addr}{items:Array Value}(hnd:A.handled=none)(hr:s.heap.IsRevIter r l ((items.size:Int) - 1))(hl:s.heap.IsList l items)(hne:l≠r)(hsz:items.size≤aL)
  (D:Addr) (z:Value) (m₀:Nat) (hD:s.heap.get? D=some {cls:=.type "list",data:=.seq #[] m₀}) (hDl:D≠l)
  (hR:∀g tk xs m,(∀b o,b≠D→b≠r→s.heap.get? b=some o→g.get? b=some o)→g.get? D=some {cls:=.type "list",dict:=none,data:=.seq xs m,slots:=#[]}→
   j7 (fun i v=>items[items.size - 1 - i]? =some v) xs items.size→R (.ok (.ret z)) {s with heap:=g,toks:=tk}):
  wpAny (model prog w) A.in1 (bF (.ref D) (.ref r) z)
   (fun fin s'=>match fin with| .done f=>R (.ok f) s'| .again d=>d.quiet=true∧cU (model prog w) A d R s') (fun e s'=>R (.error e) s') s:=by
 have nDr:D≠r:=fun e=>by
  obtain⟨o,ho,hc,_⟩:=hr;rw[e,ho]at hD;have e2:=congrArg Obj.cls (br hD);rw[hc]at e2;have e3:cw "list_reverseiterator"=cw "list":=e2;exact absurd e3 (by decide)
 have nDf:D∉[r,l]:=fun q=>by
  rcases ax.mp q with q|q
  ·exact nDr q
  ·exact hDl (aA.mp q)
 have Wk:=(Walks.listRev (prog:=prog) (w:=w) (A:=A.in1) hnd r l hne items).toS;have e0:(items.size:Int) - 1=(items.size:Int) - 1 - ((0:Nat):Int):=by lia
 rw[e0]at hr;have T:s.TypeIs (.ref r) "list_reverseiterator":=hr.typeIs;unfold bF;refine aa (fK T ?_);have x1:c7 (.ref D) (.ref r)=false:=by simp[c7,nDr]
 rw[if_neg (by rw[x1];decide)];refine aa (wpAny_pyIter_revIter hr ?_);refine aa (bo ?_);unfold Builtin.List.listLengthHint;refine aa (ie T F.xlg ?_);show wpAny _ A.in1 (specialOf (aZ r) (bP "__length_hint__") >>= _) _ _ _;refine aa (ie T F.xmm ?_)
 (generalize hid:("list_reverseiterator.__length_hint__":String)=id0;(fail_if_success (clear hid id0));wp_delta;rw[show splitId id0=some ("list_reverseiterator","__length_hint__")from by subst hid;decide+kernel];subst hid)
 refine aa (wpAny_isInstance (b:=true) T (by rw[isSubtype_type];kernel_rfl) ?_);refine ag ?_;rw[if_neg (by decide)];refine ag ⟨bW ix _,codeAny_extend_loopS Wk hsz D nDf z items.size 0 _ #[] m₀ rfl (aM _) ⟨aM _,hr,hl⟩ hD (ItemsOf.nil _) fun s' xs m hm hD' hx=>?_⟩;rw[Moved.eq_with hm];refine hR s'.heap s'.toks xs m (fun b o hb hb2 e=>hm.heap b o (fun hq=>?_) e) hD' hx;rcases ax.mp hq with e'|hq
 ·exact hb e'
 ·exact hb2 (aA.mp hq)
theorem xiD{Q:Value→ae→Prop}{r l:Addr}{items:Array Value}(hnd:A.handled=none)(hr:s.heap.IsRevIter r l ((items.size:Int) - 1))(hl:s.heap.IsList l items)(hne:l≠r)(hsz:items.size≤aL)
  (hQ:∀g tk xs m,(∀b o,b≠r→s.heap.get? b=some o→g.get? b=some o)→
   g.get? s.heap.objs.size=some {cls:=.type "list",dict:=none,data:=.seq xs m,slots:=#[]}→j7 (fun i v=>items[items.size - 1 - i]? =some v) xs items.size→Q (.ref s.heap.objs.size) {s with heap:=g,toks:=tk}):
  wpAny (model prog w) A (call (.type "list") [.ref r]) Q E s:=by
 refine k9 (Q₁:=fun obj s₁=>obj= .ref s.heap.objs.size∧s₁={s with heap:=s.heap.push {cls:=.type "list",data:=.seq #[]}}) F.called_list (F.typeCall_list_1 _) F.entry_list_init
  (code_list_new _ ⟨rfl,rfl⟩) fun obj s₁ q₁=>?_
 obtain⟨rfl,rfl⟩:=q₁;generalize hG:s.heap.push {cls:=.type "list",data:=.seq #[]}=G;have old:∀b o,s.heap.get? b=some o→G.get? b=some o:=fun b o e=>by rw[←hG];exact af _ e
 have hD:G.get? s.heap.objs.size=some {cls:=.type "list",data:=.seq #[]}:=by rw[←hG];exact az _ rfl
 have hrl:r<s.heap.objs.size:=by obtain⟨o,ho,_⟩:=hr;exact ak ho
 have hll:l<s.heap.objs.size:=by obtain⟨o,ho,_⟩:=hl;exact ak ho
 refine⟨⟨_,hD,rfl⟩,F.args_list_init_2 _ _,?_⟩;show wpAny _ _ (do let old ←dW (.ref s.heap.objs.size);ky (.ref s.heap.objs.size) (fun _=>#[]);letGo old.toList.reverse;bF (.ref s.heap.objs.size) (.ref r) .none) _ _ _;refine aa ?_;unfold dW;refine aa (cK hD rfl (ag ?_));show wpAny _ _ (fM s.heap.objs.size (fun _=>#[]) >>= fun _=>letGo (#[]:Array Value).toList.reverse >>= fun _=>bF (.ref s.heap.objs.size) (.ref r) .none) _ _ _;refine aa (cM hD rfl ?_);have d2:=cm (aW (fun _=>(#[]:Array Value))) hD rfl;have oth:∀b o,b≠s.heap.objs.size→G.get? b=some o→(G.update s.heap.objs.size (aW (fun _=>(#[]:Array Value)))).get? b=some o:=
  fun b o hb e=>(bA _ _ (bE hb)).trans e
 refine aa (dq ?_);refine xj0 (A:=A.in1) hnd (hr.at fun o e=>oth r o (au hrl) (old r o e)) (hl.at fun o e=>oth l o (au hll) (old l o e)) hne hsz s.heap.objs.size .none _ d2 (dX hll) fun g tk xs m q1 q2 q3=>⟨rfl,?_⟩;exact hQ g tk xs m (fun b o hb e=>q1 b o (au (ak e)) hb (oth b o (au (ak e)) (old b o e))) q2 q3
end
end PySem
namespace L2
open PySem PySem.Spec PyProof.Rows
theorem log2_small{n:Nat}(h:n<2^64):n.log2≤64:=by
 by_cases h0:n=0
 ·subst h0;decide
 ·exact cx ((Nat.log2_lt h0).mpr h)
theorem xca:∀ns:List Int,(∀x∈ns,x.natAbs<2^64)→kh (ns.map c5)≤66*ns.length
 |[],_=>by simp[kh]
 |x::xs,h=>by
  have ih:=xca xs fun y hy=>h y (aq _ hy);have hx:=log2_small (h x aF);rw[bc,PyData.weightAll.eq_2,aT];have:lS (.int x)≤65:=by
   rw[lH];show(if (x==0)=true then 0 else x.natAbs.log2+1)≤65
   split
   ·lia
   ·lia
  lia
section
variable {X:Cx}
def xqd(K:ah)(te:TE):TE:=fun σ H Q=>te σ H fun x H1=>∃l ys,x= .ref l∧SqL K H1 l ys∧∀d,H1 d=none→Q (.ref d) (upd H1 d (.lst ys.reverse))
theorem xj1{e:Expr}{te:TE}{p1 p2 pos1 pos2:Pos}(hc:X.calm=true)(hg1:Gl X "list")(hm1:X.mg "list"=none)(hg2:Gl X "reversed")(hm2:X.mg "reversed"=none)(he:PE X e te)
  (hs2:aY [e] X.env=[(false,eval e X.env)]:=by rfl)
  (hs1:aY [.Call (.Name "reversed" p2) [e] [] pos2] X.env=[(false,eval (.Call (.Name "reversed" p2) [e] [] pos2) X.env)]:=by rfl):
  PE X (.Call (.Name "list" p1) [.Call (.Name "reversed" p2) [e] [] pos2] [] pos1) (xqd X.K te):=by
 intro pins s σ H Q I h;refine cb (yV I hg1 hm1 vh ?_ (by decide) (by decide));refine bR ?_ hs1 rfl;rw[hs1];refine gq ?_;refine cb (yV I hg2 hm2 xiw ?_ (by decide) (by decide));refine bR ?_ hs2 rfl;rw[hs2];refine gq (thn (he pins s σ H _ I h) fun v s1 ⟨x,H1,I1,r1,q1⟩=>?_);obtain⟨l,ys,rfl,hq,q⟩:=q1;cases r1;obtain⟨its,rv,pl,hz⟩:=I1.list hq;have hlen:=rv.length;have hL:=pl.isList;have hll:l<s1.heap.objs.size:=by obtain⟨o,ho,_⟩:=hL;exact ak ho
 refine gH (call_reversed_list hL (gH ?_));refine xiD (s:={s1 with heap:=s1.heap.push (revObj l ((its.toArray.size:Int) - 1))}) (I.ok.hd hc) ⟨_,az _ rfl,rfl,rfl⟩ (hL.push _) (au hll) (by rw[av];lia) fun g tk xs m q1 q2 q3=>?_;have hsz:(s1.heap.push (revObj l ((its.toArray.size:Int) - 1))).objs.size=s1.heap.objs.size+1:=cV ..;have q2':g.get? (s1.heap.objs.size+1)=some {cls:=.type "list",dict:=none,data:=.seq xs m,slots:=#[]}:=by rw[←hsz];exact q2
 have exs:xs.toList=its.reverse:=by
  obtain⟨h1,h2⟩:=q3;have h1':xs.size=its.length:=by rw[h1];simp
  apply eJ;intro i
  by_cases hi:i<its.length
  ·have hix:i<xs.size:=by lia
   have:=h2 i xs[i] (cF hix);rw[lg hi,dz,cF hix,←this];simp
  ·rw[cn (by simp;lia),cn (by simp;lia)]
 refine⟨.ref (s1.heap.objs.size+1),upd H1 (s1.heap.objs.size+1) (.lst ys.reverse),I1.laid (h':=g) (t':=tk) (fun b o e=>q1 b o (au (ak e)) (af _ e)) (dC _) ⟨by rw[lV];exact hz,xs.toList,m,by rw[exs];exact rv.reverse,by simpa using q2'⟩,by show aZ _=aZ _;rw[hsz],q _ (I1.hok.fresh (dC _))⟩
def xqe(K:ah):List V→Hp→VK→Prop:=fun xs H Q=>∃(p:Addr) (ns:List Int),xs=[.ref p]∧SqL K H p (ns.map V.int)∧ns≠[]∧∀m,m∈ns→(∀x∈ns,m≤x)→Q (.int m) H
theorem xga(hc:X.calm=true):yh X (.builtin "min") (xqe X.K):=by
 intro pins s σ H xs us Q I r h;obtain⟨p,ns,rfl,hq,hne,q⟩:=h;obtain⟨u,rfl,rx⟩:=vals1 r;cases rx;obtain⟨its,r',pl,hz⟩:=I.list hq;have hi:=intsAre_of r';have hL:=pl.isList;have hn:=hi.numsOf;obtain⟨ys,e⟩:=hi.allInts.items;rw[e]at hL;have e2:numsOf its=numsOf (iy ys).toList:=by rw[←e]
 rw[e2,lR]at hn;have hlen:=congrArg cD hn;rw[ab,aR]at hlen;have hpos:0<ns.length:=bB.mpr hne;refine min_intList (I.ok.hd hc) hL (by lia) fun v h' tk hv hk=>?_;obtain⟨t,rfl⟩:=intItems_at hv;obtain⟨h1,h2⟩:=argBest_lt (numAt ys) (ys.size - 1);refine⟨.int _,H,I.kept (t':=tk) hk,⟨t,rfl⟩,q _ ?_ fun a ha=>?_⟩
 ·rw[←hn,numAt_eq];exact getD_mem (by rw[ab,aR];lia)
 ·rw[←hn]at ha;obtain⟨j,hj,rfl⟩:=mem_getD ha;rw[ab,aR]at hj;rw[←numAt_eq];exact h2 j (by lia)
def xnO:V→List V→Hp→VK→Prop:=fun x vs H Q=>∃(l:Addr) (ns:List Int) (i:Int),x= .ref l∧vs=[.int i]∧H l=some (.lst (ns.map V.int))∧i∈ns∧ns.length≤1000∧(∀x∈ns,x.natAbs<2^64)∧Q (.int (ns.idxOf i:Nat)) H
theorem xmn:MtM X "list.index" xnO:=by
 intro pins s σ H x vs v us Q I rx rv h;obtain⟨l,ns,i,rfl,rfl,hH,hi,hlen,hsm,q⟩:=h;cases rx;obtain⟨u,rfl,ru⟩:=rv.one;obtain⟨t,rfl⟩:=ru;obtain⟨its,r',pl,hz⟩:=I.list (SqL.of hH);refine index_list_ints pl.isList (intsAre_of r') ?_ hi ⟨.int _,H,I.tok _,⟨_,rfl⟩,q⟩;have w:=xca ns hsm;have h1:dA (.list (ns.map c5))=true:=by unfold dA;exact kL ns
 have h2:dJ (.list (ns.map c5))≤64:=by unfold dJ;rw[lQ];decide
 have h3:lS (.list (ns.map c5))≤2^20:=by
  have e:lS (.list (ns.map c5))=kh (ns.map c5):=by rw[lH]
  rw[e];lia
 unfold PyData.layable0;rw[h1,decide_eq_true h2,decide_eq_true h3];rfl
end
end L2
namespace L2
open PySem PySem.Spec PyProof.Rows
theorem xpp:bD "set"=some (.type "set"):=by decide+kernel
section
variable {X:Cx} {K:ah}
theorem xqf:OpR X (c6 .RShift) (kI (fun _ j=>0≤j) fun i j=>.int (i / 2^j.toNat)):=xoQ.imp fun _ _ _ _=>xbX
end
end L2
namespace L2
open PySem PySem.Spec PyProof.Rows
theorem jC{X:Cx}{sts:List Stmt}:PSs X sts (fun _ _ _=>False):=fun _ _ _ _ _ _ q=>q.elim
theorem ud{c:TT}{tb:TS}{D:Ends}{σ:St}{H:Hp}(Pv:Nat→St→Hp→Prop){m:Nat}(h0:Pv m σ H)
  (hs:∀m σ H,Pv m σ H→c σ H fun b H1=>(b=true→∃N:St→Hp→Prop,(∀σ' H',N σ' H'→∃m',m'<m∧Pv m' σ' H')∧tb {D with nx:=N,ct:=N,bk:=D.nx} σ H1)∧(b=false→D.nx σ H1)):xcU c tb D σ H:=by
 unfold xcU;exact⟨Pv,⟨m,h0⟩,hs⟩
theorem uA{l₁:List Int}(h:l₁.Nodup):∀{l₂:List Int},(∀x∈l₁,x∈l₂)→l₁.length≤l₂.length:=by
 induction l₁ with
 |nil=>intro l₂ _;exact aM _
 |cons x xs ih=>
  intro l₂ hs;obtain⟨h1,h2⟩:=bT.mp h;have hx:=hs x aF;have:=ih h2 (l₂:=l₂.erase x) fun y hy=>(List.mem_erase_of_ne (fun z=>h1 (by rw[←z];exact hy))).mpr (hs y (aq _ hy));rw[List.length_erase_of_mem hx]at this;have hpos:0<l₂.length:=List.length_pos_of_mem hx;rw[aT];lia
end L2
namespace PySem.W
open PySem PySem.Calls PyProof.Rows
def xdS(h:Heap)(ks:List Value):Prop:=∀v∈ks,∃a o,v= .ref a∧h.get? a=some o∧o.cls= .type "list"
section
variable {M:Model} {A:aV} {E:Value→ae→Prop} {s:ae}
theorem xgb:∀(vs:List Value) {Q:List (Option Value)→ae→Prop},xdS s.heap vs→Q (vs.map fun _=>none) s→wpAny M A (vs.mapM firstOfTuple') Q E s
 |[],_,_,h=>by rw[List.mapM_nil];exact ag h
 |v::vs,Q,t,h=>by
  obtain⟨a,o,rfl,ho,hc⟩:=t v aF;rw[List.mapM_cons];refine aa ?_;rw[kas_first_eq];refine aa (Looks.here (show Looks M s.heap (typeOf (.ref a)) o.cls from(Looks.ld ho).andThen .now) ?_);rw[hc,if_pos (by first|decide|simp)];refine ag ?_;exact aa (xgb vs (Q:=fun bs s'=>wpAny M A (pure (none::bs)) Q E s') (fun v hv=>t v (aq _ hv)) (ag h))
theorem xnP{vs:List Value}{Q:SortKind→ae→Prop}(hne:0<vs.length)(t:xdS s.heap vs)(h:Q iz s):wpAny M A (keyKind' vs.toArray) Q E s:=by
 obtain⟨f₁,fr,rfl⟩:∃f₁ fr,vs=f₁::fr:=by
  match vs,hne with
  |f₁::fr,_=>exact⟨f₁,fr,rfl⟩
 rw[kat_kind_eq,List.mapM_toArray,map_eq_pure_bind];refine aa (aa (xgb _ t (ag ?_)));have h1:((((f₁::fr).map fun _=>(none:Option Value)).toArray).all fun x=>x.isSome)=false:=by simp
 rw[if_neg (by rw[h1];decide)];have h2:((((f₁::fr).map fun _=>(none:Option Value)).toArray)[0]?.bind id).isSome=false:=by simp
 rw[if_neg (by rw[h2];decide)];rw[oneTypeOnly'_eq,List.mapM_toArray,map_eq_pure_bind];refine aa (aa (aa (kas_mapM (r:=cw "list") _ (fun v hv Q' hq=>?_) (ag ?_))))
 ·obtain⟨a,o,rfl,ho,hc⟩:=t v hv;refine Looks.here (show Looks M s.heap (typeOf (.ref a)) o.cls from(Looks.ld ho).andThen .now) ?_;rw[hc];exact hq
 ·have hall2:((List.map (fun _=>cw "list") (f₁::fr)).toArray.all fun x=>x==cw "list")=true:=by
   simp only[List.all_toArray,List.all_map,ck];intro _ _;rfl
  have h0:(List.map (fun _=>cw "list") (f₁::fr)).toArray[0]? =some (cw "list"):=by simp
  rw[h0];dsimp only;rw[if_pos hall2];exact ag (ag h)
end
section
variable {prog:aH} {w:World} {A:aV} {E:Value→ae→Prop} {s:ae} {a kS:Addr} {vs:List Value} {e1:Nat} {f:Value} {P:PySem.Fin→ae→Prop}
def xg5(prog:aH)(w:World)(A:aV)(kS a:Addr)(vs:List Value)(P:PySem.Fin→ae→Prop)(ks:List Value)(s:ae):Prop:=
 ∃lt:Nat→Nat→Bool,L2.STO lt vs.length∧xdS s.heap ks∧(∀i j (C:Bool→ae→Prop),i<vs.length→j<vs.length→C (lt i j) s→wpAny (model prog w) A (keyLt' iz (ks.getD i bq) (ks.getD j bq)) C (fun _ _=>False) s)∧
 ∀p:Array Nat,L2.Pm vs.length p→L2.Up lt p vs.length→∀h' c,(∀b o,b≠kS→b≠a→s.heap.get? b=some o→h'.get? b=some o)→h'.get? a=some (a7 "list" (aC (p.toList.map fun i=>vs.getD i bq)) c)→P (.done (.ret .none)) {s with heap:=h'}
def uB(prog:aH)(w:World)(A:aV)(kS a:Addr)(e1:Nat)(f:Value)(vs:List Value)(P:PySem.Fin→ae→Prop):List Value→List Value→ae→Prop
 |[],ks,s=>s.heap.get? a=some (a7 "list" #[] e1)∧xg5 prog w A kS a vs P ks s
 |v::r,ks,s=>wpAny (model prog w) A (call f [v]) (fun k s'=>(∃e,s'.heap.get? kS=some (a7 "list" (aC ks) e))∧∀h' c,(∀b o,b≠kS→s'.heap.get? b=some o→h'.get? b=some o)→h'.get? kS=some (a7 "list" (aC (ks++[k])) c)→uB prog w A kS a e1 f vs P r (ks++[k]) {s' with heap:=h'}) (fun _ _=>False) s
theorem xbj{st:SortSt}{out ks:List Value}{e:Nat}(hak:a≠kS)(hout:(arrOf st).map (·.2)=aC out)(hz:out.length<64)(hkz:ks.length<64)(hf:failedOf st=none)
  (ha:s.heap.get? a=some (a7 "list" #[] e1)) (hk:s.heap.get? kS=some (a7 "list" (aC ks) e))
  (h:∀h' c,(∀b o,b≠kS→b≠a→s.heap.get? b=some o→h'.get? b=some o)→h'.get? a=some (a7 "list" (aC out) c)→P (.done (.ret .none)) {s with heap:=h'}):wpAny (model prog w) A (ksk_tail a false e1 (.ref kS) st) P E s:=by
 have s1:=bK s.heap kS (aW fun _=>(#[]:Array Value));have ha1:(s.heap.update kS (aW fun _=>(#[]:Array Value))).get? a=some (a7 "list" #[] e1):=(s1.2 a hak).trans ha;have s2:=bK (s.heap.update kS (aW fun _=>(#[]:Array Value))) a (aW fun _=>aC out);obtain⟨c2,hc2⟩:∃c2,((s.heap.update kS (aW fun _=>(#[]:Array Value))).update a (aW fun _=>aC out)).get? a=some (a7 "list" (aC out) c2):=⟨_,fA ha1 fun _=>aC out⟩;have hsz:(aC out).size=out.length:=av;unfold ksk_tail
 try dsimp only
 rw[hout];refine aa (fW hk rfl ?_ (by rw[av,ay];lia) (aM _));refine aa (dq ?_);refine aa (seqEpoch_at ha1 rfl ?_);refine aa (fW ha1 rfl ?_ (aM _) (bg (ib hsz) (by rw[ay];lia)));rw[hf];simp only[bne_self_eq_false,aU,if_false];exact ag (h _ c2 (fun b o h1 h2 q=>(s2.2 b h2).trans ((s1.2 b h1).trans q)) hc2)
theorem xnQ{ks:List Value}{e:Nat}(hak:a≠kS)(hl:ks.length=vs.length)(h64:vs.length<64)(ha:s.heap.get? a=some (a7 "list" #[] e1))(hk:s.heap.get? kS=some (a7 "list" (aC ks) e))
  (h:xg5 prog w A kS a vs P ks s):wpAny (model prog w) A (ksk_end a false vs.toArray e1 (.ref kS) (aC ks)) P E s:=by
 obtain⟨lt,S,hL,hcmp,fin⟩:=h;unfold ksk_end
 try dsimp only
 by_cases h2:2≤vs.length
 ·have hn2:¬vs.toArray.size<2:=by rw[av];lia
  have hk1:wpAny (model prog w) A (keyKind' (aC ks)) (fun κ s'=>κ=iz∧s=s') (fun _ _=>False) s:=xnP (by lia) hL ⟨rfl,rfl⟩;simp only[aU,if_false];rw[if_neg hn2,if_neg hn2];refine aa (bb hk1 (fun κ s0 hk=>?_) fun _ _ x=>x.elim);obtain⟨rfl,rfl⟩:=hk;have hw:(kas_sort vs.length).kasWp (kas_ask prog w A iz ks) (fun p s''=>s=s''∧L2.Pm vs.length p∧L2.Up lt p vs.length) s:=by
   refine L2.Wp.kas (lt:=lt) (n:=vs.length) (fun i j C hi hj hc=>hcmp i j C hi hj hc) ?_;exact L2.wp_mono (L2.xjb S h2) fun q hq=>⟨rfl,hq⟩
  refine aa (bb (kat_run (Q:=fun st' s'=>∃p:Array Nat,arrOf st'=p.map (kas_item ((aC ks).zip (aC vs)))∧failedOf st'=none∧s=s'∧L2.Pm vs.length p∧L2.Up lt p vs.length)
   hl h2 h64 (fun p' st' s' a1 a2 a3 a4=>⟨p',a2,a3,a4⟩) hw) ?_ fun _ _ x=>x)
  rintro⟨⟨⟩,st'⟩ s' ⟨p,har,hf,rfl,hp,hu⟩
  try dsimp only
  refine xbj hak (kat_snds hl har) (by rw[ab,aR,hp.size];exact h64) (by lia) hf ha hk fun h' c k1 k2=>fin p hp hu h' c k1 k2
 ·have hn2:vs.toArray.size<2:=by rw[av];lia
  simp only[aU,if_false];rw[if_pos hn2,if_pos hn2];refine aa (ag ?_);refine aa (ag ?_)
  try dsimp only
  have hsn:(arrOf (SortSt.mk' general' ((aC ks).zip (aC vs)) #[] 7 none)).map (·.2)=aC vs:=by
   show((aC ks).zip (aC vs)).map (·.2)=aC vs;apply kd.mp;simp[List.map_snd_zip,hl]
  refine xbj hak hsn h64 (by lia) rfl ha hk fun h' c k1 k2=>fin (aC (aO vs.length)) ⟨by simp,by simp⟩ (fun i j hij hj=>by lia) h' c k1 ?_;have e:((aC (aO vs.length)).toList.map fun i=>vs.getD i bq)=vs:=by
   apply eJ;intro i
   by_cases hi:i<vs.length
   ·simp[hi]
   ·simp[hi]
  rw[e];exact k2
theorem xg6{n:Nat}{body:Value→PUnit→Sem (ForInStep PUnit)}(hn:n<64)
  (hb:∀x ks (s:ae) (C:Value→Nat→ae→Prop),cD ks<64→wpAny (model prog w) A (call f [x]) (fun k s'=>(∃e,s'.heap.get? kS=some (a7 "list" (aC ks) e))∧∀h' c,(∀b o,b≠kS→s'.heap.get? b=some o→h'.get? b=some o)→h'.get? kS=some (a7 "list" (aC (ks++[k])) c)→C k c {s' with heap:=h'}) (fun _ _=>False) s→
   wpAny (model prog w) A (body x ⟨⟩) (fun r s'=>r= .yield ⟨⟩∧∃k c,s'.heap.get? kS=some (a7 "list" (aC (ks++[k])) c)∧C k c s') E s):∀(r ks:List Value) (e:Nat) (s:ae),ks.length+r.length=n→
   s.heap.get? kS=some (a7 "list" (aC ks) e)→uB prog w A kS a e1 f vs P r ks s→
   wpAny (model prog w) A (forIn r lI body) (fun _ s'=>∃ks e,s'.heap.get? kS=some (a7 "list" (aC ks) e)∧ks.length=n∧s'.heap.get? a=some (a7 "list" #[] e1)∧xg5 prog w A kS a vs P ks s') E s
 |[],ks,e,s,hl,hk,h=>by
  rw[List.forIn_nil];exact ag ⟨ks,e,hk,by simpa using hl,h⟩
 |x::r,ks,e,s,hl,hk,h=>by
  rw[aT]at hl;rw[kK];have h':=h;unfold uB at h';refine aa (bb (hb x ks s (fun k c s'=>uB prog w A kS a e1 f vs P r (ks++[k]) s') (by lia) (bb h' (fun k s' hq=>hq) fun _ _ x=>x)) (fun q s' hq=>?_) fun _ _ x=>x);obtain⟨rfl,k,c,hk',h2⟩:=hq;show wpAny (model prog w) A (forIn r lI body) _ E s';exact xg6 hn hb r (ks++[k]) c s' (by rw[ar,bN];lia) hk' h2
theorem xlh{n:Nat}(ho:s.heap.get? a=some (a7 "list" vs.toArray n))(h64:vs.length<64)
  (h:∀kS e1 h',(∀b o,b≠a→s.heap.get? b=some o→h'.get? b=some o)→h'.get? a=some (a7 "list" #[] e1)→h'.get? kS=some (a7 "list" #[] 0)→s.heap.objs.size≤kS→uB prog w A kS a e1 f vs P vs [] {s with heap:=h'}):
  wpAny (model prog w) A (ksk_tree a f false) P E s:=by
 have ha:a<s.heap.objs.size:=ak ho;have s1:=bK s.heap a (aW fun _=>(#[]:Array Value));obtain⟨e1,ho1⟩:∃e1,(s.heap.update a (aW fun _=>(#[]:Array Value))).get? a=some (a7 "list" #[] e1):=⟨_,fA ho fun _=>#[]⟩;have hkS:((s.heap.update a (aW fun _=>(#[]:Array Value))).push (a7 "tuple" vs.toArray 0)).objs.size=s.heap.objs.size+1:=by rw[size_push',ki]
 unfold ksk_tree;refine aa (kj ho rfl ?_);refine aa (fW ho rfl ?_ (by rw[av,ay];lia) (aM _));refine aa (seqEpoch_at ho1 rfl ?_);refine aa (wpAny_newTuple ?_ (by show vs.length≤_;rw[ay];lia));refine aa (fV ?_ (aM _));refine bo ?_;generalize hK:((s.heap.update a (aW fun _=>(#[]:Array Value))).push (a7 "tuple" vs.toArray 0)).objs.size=kS at hkS;generalize hh:((s.heap.update a (aW fun _=>(#[]:Array Value))).push (a7 "tuple" vs.toArray 0)).push (a7 "list" #[] 0)=h1;have hk0:h1.get? kS=some (a7 "list" #[] 0):=by rw[←hh,←hK];exact az _ rfl
 have hk:=h kS e1 h1 (fun b o hb q=>by rw[←hh];exact af _ (af _ ((s1.2 b hb).trans q))) (by rw[←hh];exact af _ (af _ ho1)) hk0 (by rw[hkS];exact dC _);have hak:a≠kS:=au (by rw[hkS];exact fE ha);unfold ksk_rest;refine aa (gE ?_)
 first
  |rw[mr]
  |(rw[←d0];simp only[lW])
  |rw[←d0]
 refine aa (bb (xg6 h64 (fun x ks s' C hz hx=>?_) vs [] 0 {s with heap:=h1} (by simp) hk0 hk) (fun _ s' hd=>?_) fun _ _ x=>x)
 ·refine aa (lT (bb hx (fun k s'' hk=>?_) fun _ _ hF=>hF.elim));obtain⟨⟨e,nk⟩,c⟩:=hk;have s1:=bK s''.heap kS (aW (·.push k));have ea:(aC ks).push k=aC (ks++[k]):=by simp
  obtain⟨c2,hc2⟩:∃c2,(s''.heap.update kS (aW (·.push k))).get? kS=some (a7 "list" (aC (ks++[k])) c2):=⟨_,by rw[←ea];exact fA nk (·.push k)⟩
  try dsimp only
  refine aa (fW nk rfl ?_ (by rw[av,ay];lia) (bg (ib (kN ..)) (by rw[av,ay];lia)));exact ag ⟨rfl,k,c2,hc2,c _ c2 (fun b o hb q=>(s1.2 b hb).trans q) hc2⟩
 ·obtain⟨ks,e,hk',hl,ha',fin⟩:=hd
  try dsimp only
  refine aa (kj hk' rfl ?_);exact xnQ hak hl h64 ha' hk' fin
end
end PySem.W
namespace L2
open PySem PySem.Spec PyProof.Rows PySem.W
structure xqU(X:Cx)(H2:Hp)(s2:ae)(kk:Nat→List Int)(D kS:Addr)(e1:Nat)(ks:List Value)(G:Hp)(s':ae):Prop where
 os:s'.os=s2.os
 bare:fH s'.gens
 un:Un (frs X.stack) [] H2 G s2.heap s'.heap
 hok:HOk X.prog X.w G s'.heap
 same:xb H2 G
 keys:∀i,i<ks.length→∃d,ks[i]? =some (.ref d)∧G d=some (.lst ((kk i).map V.int))
 atD:s'.heap.get? D=some (a7 "list" #[] e1)
 fD:G D=none
 fk:G kS=none
section
variable {X:Cx} {k:Nat} {nm qual:Str} {params:cy} {body:dg} {scope:Scope} {ps:List Str} {sp:List (Str×V)→Sp} {pins:List (Addr×Obj)} {σ:St} {H2:Hp} {s2:ae} {f D kS:Addr} {fv:List (Str×V)} {kk:Nat→List Int} {vs:List Value} {P:PySem.Fin→ae→Prop} {e1:Nat}
theorem Inv.young(I:Inv X pins σ H2 s2){b:Addr}(h:s2.heap.objs.size≤b):b∉frs X.stack:=fun z=>by
 rcases ax.mp (I.stkSub b z)with q|q
 ·exact absurd I.lt (by rw[←q];exact Nat.not_lt.mpr h)
 ·exact I.nofs h q
theorem xdT{P:aH}{w:World}{G:Hp}{h h':Heap}{b:Addr}(x:HOk P w G h)(fb:G b=none)(k:∀c o,c≠b→h.get? c=some o→h'.get? c=some o):HOk P w G h':=fun a o e=>
 (x a o e).stay (fun c u hc q=>k c u (by
  rintro rfl;rcases hc with z|z
  ·rw[←z,fb]at e;cases e
  ·rw[fb]at z;cases z) q) (fun _ q=>q) fun _ _ q _=>q
theorem xg7(F:zy X.prog X.w X.K X.mg X.base CX0 k nm qual params body scope ps sp)(hr:xR (k+2) X.A)(I:Inv X pins σ H2 s2)(hc:yZ H2 f nm qual params body scope fv)
  (hsp:∀i,i<vs.length→∀H3,xb H2 H3→sp fv [.int (i:Nat)] H3 (fun v H4=>xb H3 H4∧∃d,v= .ref d∧H4 d=some (.lst ((kk i).map V.int))) E0)
  (hv:∀(i:Nat) v,vs[i]? =some v→∃t,v= .int (i:Nat) t) (hD:s2.heap.objs.size≤D) (hk:s2.heap.objs.size≤kS) (hDk:D≠kS) (h64:vs.length<64)
  (S:STO (fun i j=>HT.lexLt (kk i) (kk j)) vs.length)
  (fin:∀p:Array Nat,Pm vs.length p→Up (fun i j=>HT.lexLt (kk i) (kk j)) p vs.length→∀sF G',Inv X pins σ G' sF→xb H2 G'→G' D=some (.lst (p.toList.map fun(i:Nat)=>V.int i))→P (.done (.ret .none)) sF):
  ∀(r ks:List Value) (s':ae) (G:Hp),r=vs.drop ks.length→ks.length≤vs.length→xqU X H2 s2 kk D kS e1 ks G s'→(∃e,s'.heap.get? kS=some (a7 "list" (aC ks) e))→
   uB X.prog X.w X.A.in1.in1 kS D e1 (.ref f) vs P r ks s'
 |[],ks,s',G,hr0,hle,J,hkS=>by
  have hlen:ks.length=vs.length:=by
   have:=congrArg cD hr0;simp at this;lia
  unfold uB;refine⟨J.atD,fun i j=>HT.lexLt (kk i) (kk j),S,fun v hvm=>?_,fun i j C hi hj hC=>?_,fun p hp hu h' c keep hDc=>?_⟩
  ·obtain⟨i,hi,rfl⟩:=cz.mp hvm;obtain⟨d,h1,h2⟩:=J.keys i hi;rw[ai hi]at h1;obtain⟨_,its,n,_,e⟩:=J.hok d _ h2;exact⟨d,_,br h1,e,rfl⟩
  ·obtain⟨d1,a1,a2⟩:=J.keys i (by lia);obtain⟨d2,b1,b2⟩:=J.keys j (by lia);have g1:ks.getD i bq= .ref d1:=by simp[a9,a1]
   have g2:ks.getD j bq= .ref d2:=by simp[a9,b1]
   rw[g1,g2,keyLt'_oneType];obtain⟨_,its1,n1,r1,e1'⟩:=J.hok d1 _ a2;obtain⟨_,its2,n2,r2,e2'⟩:=J.hok d2 _ b2;exact HT.xfn ⟨_,e1',rfl,_,rfl⟩ ⟨_,e2',rfl,_,rfl⟩ (intsAre_of r1) (intsAre_of r2) hr.in1.in1.units0 hC
  ·have lenp:p.toList.length=vs.length:=by rw[aR];exact hp.size
   have hvals:Vals (p.toList.map fun(i:Nat)=>V.int i) (p.toList.map fun i=>vs.getD i bq):=by
    refine vx (by simp) fun j x u e1 e2=>?_;rw[ao]at e1 e2;cases q:p.toList[j]? with
    |none=>rw[q]at e1;cases e1
    |some m=>
     rw[q]at e1 e2;cases e1;have hm:m<vs.length:=bh.mp (hp.perm.mem_iff.mp (aG q));obtain⟨t,ht⟩:=hv m vs[m] (ai hm);have:vs.getD m bq= .int (m:Nat) t:=by simp[a9,hm,ht]
     cases e2;show RelV (.int (m:Nat)) (vs.getD m bq);rw[this];exact⟨t,rfl⟩
   have newD:xG X.prog X.w (upd G D (.lst (p.toList.map fun(i:Nat)=>V.int i))) h' D (.lst (p.toList.map fun(i:Nat)=>V.int i)):=⟨by rw[ab,lenp,ay];lia,_,c,hvals,hDc⟩;have hokF:HOk X.prog X.w (upd G D (.lst (p.toList.map fun(i:Nat)=>V.int i))) h':=fun b u e=>by
    by_cases hb:b=D
    ·subst hb;rw[xk]at e;cases e;exact newD
    ·rw[xl hb]at e;refine(J.hok b u e).stay (fun c' v hc' q=>keep c' v ?_ ?_ q) (fun c' q=>by rw[xl (xJ q J.fD)];exact q) fun c' xs q _=>by rw[xl (xJ q J.fD)];exact q
     ·rintro rfl;rcases hc' with z|z
      ·rw[←z,J.fk]at e;cases e
      ·rw[J.fk]at z;cases z
     ·rintro rfl;rcases hc' with z|z
      ·exact hb z.symm
      ·rw[J.fD]at z;cases z
   have lt2:∀b o,s2.heap.get? b=some o→b≠D∧b≠kS:=fun b o q=>⟨au (aw (ak q) hD),au (aw (ak q) hk)⟩;have un2:Un (frs X.stack) [] H2 (upd G D (.lst (p.toList.map fun(i:Nat)=>V.int i))) s2.heap h':=by
    refine⟨fun b o q n1 n2 n3=>keep b o (lt2 b o q).2 (lt2 b o q).1 (J.un.keep b o q n1 n2 n3),fun b o q n1 n2 n3=>?_,fun b o q n1 n3=>by rw[xl (lt2 b o q).1];exact J.un.free b o q n1 n3,fun b o q n3=>?_,fun b u q fx=>?_⟩
    ·obtain⟨sl,e⟩:=J.un.slot b o q n1 n2 n3;exact⟨sl,keep b _ (lt2 b o q).2 (lt2 b o q).1 e⟩
    ·obtain⟨o',e⟩:=J.un.there b o q n3;exact⟨o',keep b _ (lt2 b o q).2 (lt2 b o q).1 e⟩
    ·have:=J.un.fix b u q fx;rw[xl (xJ this J.fD)];exact this
   have IF:Inv X pins σ (upd G D (.lst (p.toList.map fun(i:Nat)=>V.int i))) {s' with heap:=h'}:=I.call' (s':={s' with heap:=h'}) (ch:=[]) J.os un2 hokF J.bare fun b z=>absurd z (by simp);refine fin p hp hu _ _ IF (fun b u q=>?_) xk;have:=J.same b u q;rw[xl (xJ this J.fD)];exact this
 |x::r,ks,s',G,hr0,hle,J,hkS=>by
  have hlt:ks.length<vs.length:=by
   have:=congrArg cD hr0;simp at this;lia
  have hx:vs[ks.length]? =some x:=by
   have:=congrArg (fun l=>l[0]?) hr0;simp at this;exact this.symm
  have hr1:r=vs.drop (ks.length+1):=by
   have:=congrArg List.tail hr0;simpa using this
  obtain⟨t,rfl⟩:=hv _ x hx;have Iu:Inv X pins σ G s':=I.call' (s':=s') (ch:=[]) J.os J.un J.hok J.bare fun b z=>absurd z (by simp);have E0':vT X.prog X.w X.K X.mg X.base X.A.in1.in1 X.stack s' G:=by
   have e:=Iu.env0;exact⟨e.frames,e.mod,e.bs,e.bsz,e.funs,e.frf,e.hok,e.bare⟩
  unfold uB;refine gC (dH (F.run X.A.in1.in1 X.stack s' G f fv _ [.int (ks.length:Nat)] _ E0 hr.in1.in1 E0' (hc.same J.same) (.cons ⟨t,rfl⟩ .nil) (hsp ks.length hlt G J.same)) fun rr s'' hq=>?_);cases rr with
  |error e=>exact hq.elim
  |ok fl=>
   cases fl with
   |next=>exact hq.elim
   |brk=>exact hq.elim
   |cont=>exact hq.elim
   |ret u=>
    obtain⟨v,H',hos,hbare,hun,hhok,hrv,hS,d,rfl,hd⟩:=hq;cases hrv;obtain⟨e,hkSe⟩:=hkS;have hDs:D∉frs X.stack:=I.young hD;have hks:kS∉frs X.stack:=I.young hk;have kD:=hun.keep D _ J.atD J.fD hDs (by simp);have kk2:=hun.keep kS _ hkSe J.fk hks (by simp);refine⟨⟨e,kk2⟩,fun h' c keep hnew=>?_⟩;refine xg7 F hr I hc hsp hv hD hk hDk h64 S fin r (ks++[.ref d]) {s'' with heap:=h'} H' (by rw[hr1,ar];rfl) (by rw[ar];exact hlt) ⟨hos.trans J.os,hbare,?_,?_,J.same.trans hS,fun i hi=>?_,keep D _ hDk kD,hun.free D _ J.atD J.fD (by simp),hun.free kS _ hkSe J.fk (by simp)⟩ ⟨c,hnew⟩
    ·have u2:=J.un.trans hun;have lt2:∀b o,s2.heap.get? b=some o→b≠kS:=fun b o q=>au (aw (ak q) hk);refine⟨fun b o q n1 n2 n3=>keep b o (lt2 b o q) (u2.keep b o q n1 n2 n3),fun b o q n1 n2 n3=>?_,u2.free,fun b o q n3=>?_,u2.fix⟩
     ·obtain⟨sl,e⟩:=u2.slot b o q n1 n2 n3;exact⟨sl,keep b _ (lt2 b o q) e⟩
     ·obtain⟨o',e⟩:=u2.there b o q n3;exact⟨o',keep b _ (lt2 b o q) e⟩
    ·exact xdT hhok (hun.free kS _ hkSe J.fk (by simp)) fun c' o hcb q=>keep c' o hcb q
    ·rw[ar,bN]at hi
     by_cases hij:i=ks.length
     ·subst hij;exact⟨d,by rw[bz (aj _)];simp,hd⟩
     ·obtain⟨d',g1,g2⟩:=J.keys i (by lia);exact⟨d',by rw[bp (by lia)];exact g1,hS.at g2⟩
theorem xdk{lt:Nat→Nat→Bool}{n:Nat}{p:Array Nat}(hp:Pm n p)(hu:Up lt p n):p.toList.Pairwise fun i j=>lt i j=true:=by
 refine bt.mpr fun i j hi hj hij=>?_;rw[aR]at hi hj;have:=hu i j hij (by rw[←hp.size];exact hj);rw[vy,vy,cF hi,cF hj]at this;simpa using this
def xpq(nm qual:Str)(params:cy)(body:dg)(scope:Scope)(sp:List (Str×V)→Sp)(ta:TA)(tf:TE):TE:=fun σ H Q=>ta σ H fun xs H1=>tf σ H1 fun y H2=>
 ∃(r f:Addr) (n:Nat) (fv:List (Str×V)) (kk:Nat→List Int),xs=[.ref r]∧y= .ref f∧H2 r=some (.rng 0 n)∧n<64∧yZ H2 f nm qual params body scope fv∧
 (∀i,i<n→∀H3,xb H2 H3→sp fv [.int (i:Nat)] H3 (fun v H4=>xb H3 H4∧∃d,v= .ref d∧H4 d=some (.lst ((kk i).map V.int))) E0)∧STO (fun i j=>HT.lexLt (kk i) (kk j)) n∧
 ∀(l:Addr) (p:List Nat) (H':Hp),xb H2 H'→H2 l=none→H' l=some (.lst (p.map fun(i:Nat)=>V.int i))→p.Perm (aO n)→(p.Pairwise fun i j=>HT.lexLt (kk i) (kk j)=true)→Q (.ref l) H'
theorem xj2{e fe:Expr}{ta:TA}{tf:TE}{p pos kp:Pos}(F:zy X.prog X.w X.K X.mg X.base CX0 k nm qual params body scope ps sp)(hr:xR (k+2) X.A)(hc:X.calm=true)(hg:Gl X "sorted")(hm:X.mg "sorted"=none)(ha:PA X [e] ta)(hf:PE X fe tf)
  (he:cZ pos (aY [e] X.env)=(false,eval e X.env)::cZ pos (aY [] X.env):=by rfl):
  PE X (.Call (.Name "sorted" p) [e] [⟨some "key",fe,kp⟩] pos) (xpq nm qual params body scope sp ta tf):=by
 intro pins s σ H Q I h;refine cb (yV I hg hm xf7 ?_ (by decide) (by decide));refine kR (thn (ha pos pins s σ H _ I h) fun us s1 ⟨xs,H1,I1,r1,q1⟩=>?_) he (by rw[he];rfl) rfl rfl;refine kws_cons (thn (hf pins s1 σ H1 _ I1 q1) fun fu s2 ⟨y,H2,I2,r2,q2⟩=>kws_nil ?_);obtain⟨r,f,n,fv,kk,rfl,rfl,hrng,h64,hcl,hsp,S,q⟩:=q2;obtain⟨u,rfl,ru⟩:=Vals.one r1;cases ru;cases r2;obtain⟨t1,t2,t3,hR⟩:=I2.hok r _ hrng;show wpAny _ _ (call (.builtin "sorted") [.ref r] [(bP "key",.ref f)]) _ _ s2;refine call_function_entry_kw kind_sorted plain_sorted entry_sorted (ksk_s1 _ _) ?_;unfold fY.«sorted»;refine aa (m:=checkCount "sorted" 1 1 _) (ag ?_);have hsize:bu 0 (n:Int) 1=(n:Nat):=by rw[rangeSize_one];split<;> lia
 refine aa (xiy (A:=X.A.in1) (I.ok.hd hc) hR hsize (by lia) fun g tk xs m keep hlt hget items=>?_);obtain⟨hxs,hit⟩:=items;have hxl:xs.toList.length=n:=by rw[aR];exact hxs
 refine aa (fV ?_ (by rw[hxl,ay];lia));have hoL:(g.push (a7 "list" xs.toList.toArray 0)).get? g.objs.size=some (a7 "list" xs.toList.toArray 0):=az _ rfl;refine aa (bo (wpAny_call_entry_kw slot_list_sort ⟨_,hoL,rfl⟩ entry_list_sort ?body (ksk_l1 _ _)))
 case body=>
  show wpAny (model X.prog X.w) X.A.in1.in1 (fY.«list.sort» ⟨[.ref g.objs.size],[(bP "key",.ref f)]⟩) _ _ _;rw[ksk_t1];have h64':xs.toList.length<64:=by rw[hxl];exact h64
  have hsg:s2.heap.objs.size≤g.objs.size:=cx hlt;refine xlh (s:={s2 with heap:=g.push (a7 "list" xs.toList.toArray 0),toks:=tk}) hoL h64' fun kS e1 h' keep2 atD atk hkS=>?_;have hkS':g.objs.size<kS:=aw (by show g.objs.size<(g.push _).objs.size;rw[cV];exact cR _) hkS;have old:∀b o,s2.heap.get? b=some o→h'.get? b=some o:=fun b o e=>keep2 b o (au (aw (ak e) hsg)) (af _ (keep b o e));refine xg7 (kk:=kk) F hr I2 hcl (fun i hi=>hsp i (by rw[hxl]at hi;exact hi)) (fun i v e=>?_) hsg (bg hsg (cx hkS')) (au hkS') h64' (by rw[hxl];exact S) (fun p hp hu sF G' IF sm hDv=>?_) xs.toList [] _ H2 rfl (aM _)
   ⟨rfl,I2.bare,Un.kept old,I2.hok.kept old,xb.refl _,fun i hi=>absurd hi (dk _),atD,I2.hok.fresh hsg,I2.hok.fresh (bg hsg (cx hkS'))⟩ ⟨0,atk⟩
  ·obtain⟨t,ht⟩:=hit i v (by simpa using e);exact⟨t,by rw[ht];congr 1;lia⟩
  ·rw[hxl]at hp hu;exact⟨_,rfl,ag ⟨_,rfl,.ref g.objs.size,G',IF,rfl,q _ p.toList G' sm (I2.hok.fresh hsg) hDv hp.perm (xdk hp hu)⟩⟩
end
end L2
namespace L2
open PySem
def xj3:Expr→Expr
 | .Call _ _ (k::_) _=>k.value
 |e=>e
end L2
namespace L2
open PySem PySem.Spec PyProof.Rows PySem.W
def xpr:Option (Int×Tok)→Array Value
 |none=>#[]
 |some (m,t)=>#[.int m t,.int m t]
def xqg(f:Nat→Int)(j:Nat):Option (Int×Tok)→Prop
 |none=>j=0
 |some (m,_)=>(∃i,i<j∧f i=m)∧∀i,i<j→f i≤m
def xli(f:Nat→Int)(n:Nat)(d v:Value):Prop:=(n=0→v=d)∧(0<n→∃m t,v= .int m t∧(∃i,i<n∧f i=m)∧∀i,i<n→f i≤m)
theorem xmo(a v:Value):argsOk "max" ⟨[a],[(bP "default",v)]⟩:=by unfold argsOk;kernel_rfl
section
variable {prog:aH} {w:World} {A:aV} {R:gp→ae→Prop} {I:Addr} {fp wr:List Addr} {n:Nat} {P:Nat→Value→Prop} {St:Nat→Heap→Prop}
theorem xbk(W:Walks prog w A.in1 I fp wr n P St)(f:Nat→Int)(hP:∀i v,P i v→∃t,v= .int (f i) t)(S:Addr)(hSf:S∉fp)(d:Value):∀(k j:Nat) (s:ae) (b:Option (Int×Tok)) (c:Nat),n - j=k→j≤n→St j s.heap→
  s.heap.get? S=some {cls:=.type "list",dict:=none,data:=.seq (xpr b) c,slots:=#[]}→xqg f j b→
  (∀v h' tk,xli f n d v→(∀b o,b∉wr→b≠S→s.heap.get? b=some o→h'.get? b=some o)→R (.ok (.ret v)) {s with heap:=h',toks:=tk})→
  cU (model prog w) A (.builtin "max.loop" ⟨[.ref I,.none,.ref S],[(bP "default",d)]⟩) R s
 |0,j,s,b,c,hk,hj,hst,hS,hb,hR=>by
  have hin:j=n:=by lia
  subst hin;have hSw:S∉wr:=fun h=>hSf (W.sub _ h);refine cA F.entry_max_loop ?_;rw[cC e7 _];show wpAny _ A.in1 (iH (.ref S) >>= _) _ _ s;refine aa (cK hS rfl ?_);show wpAny _ A.in1 (tryCatch (gn (.ref I)) _ >>= _) _ _ s;refine aa (dS (W.done s _ _ hst fun h' tk hk'=>?_));have hS':=hk' S _ hSw hS;cases b with
  |none=>
   cases hb;exact aa (m:=rule _) (gE (ag (hR d _ tk ⟨fun _=>rfl,fun q=>absurd q (bL _)⟩ fun b o hbw _ e=>hk' b o hbw e)))
  |some p=>
   obtain⟨m,t⟩:=p;show wpAny _ A.in1 (fM S (fun _=>#[]) >>= _) _ _ _;refine aa (cM hS' rfl (aa (dq (ag ?_))) (by show(2:Nat)≤_;decide));refine hR _ _ tk ⟨fun q=>?_,fun _=>⟨m,t,rfl,hb⟩⟩ fun b o hbw hbS e=>(bA _ _ (bE hbS)).trans (hk' b o hbw e);obtain⟨⟨i,hi,_⟩,_⟩:=hb;lia
 |k+1,j,s,b,c,hk,hj,hst,hS,hb,hR=>by
  have hlt:j<n:=by lia
  have hSw:S∉wr:=fun h=>hSf (W.sub _ h);have hname:(toString "max"++toString ".loop":String)="max.loop":=by decide
  refine cA F.entry_max_loop ?_;rw[cC e7 _];show wpAny _ A.in1 (iH (.ref S) >>= _) _ _ s;refine aa (cK hS rfl ?_);show wpAny _ A.in1 (tryCatch (gn (.ref I)) _ >>= _) _ _ s;refine aa (dS (W.item j s _ _ hlt hst fun v h' tk hv hst' hk'=>?_));have hS':=hk' S _ hSw hS;obtain⟨t,rfl⟩:=hP _ _ hv;have turned:∀(g:Array Value→Array Value),(∀b∈fp,∀o,h'.get? b=some o→(h'.update S (aW g)).get? b=some o):=fun g b hbf o e=>(bA _ _ (fun h:S=b=>hSf (by rw[h];exact hbf))).trans e;cases b with
  |none=>
   cases hb;show wpAny _ A.in1 (fM S (fun _=>#[.int (f 0) t,.int (f 0) t]) >>= _) _ _ _;refine aa (cM hS' rfl ?_);rw[hname];refine ag ⟨bW e7 _,xbk W f hP S hSf d k 1 _ (some (f 0,t)) (c+1) (by lia) (by lia) (W.frame _ _ _ hst' (turned _)) ?_ ⟨⟨0,by lia,rfl⟩,fun i hi=>?_⟩ fun v' h'' tk'' ho hk''=>?_⟩
   ·exact(cm _ hS' rfl).trans rfl
   ·rw[show i=0 by lia];exact iD _
   exact hR v' h'' tk'' ho fun b o hbw hbS e=>hk'' b o hbw hbS ((bA _ _ (bE hbS)).trans (hk' b o hbw e))
  |some p=>
   obtain⟨m,u⟩:=p;obtain⟨⟨i0,hi0,e0⟩,hle⟩:=hb;show wpAny _ A.in1 (tryCatch (dN [.int (f j) t,.int (f j) t] (richCompare .Gt (.int (f j) t) (.int m u) >>= _)) _ >>= _) _ _ _;have hcmp:=CmpOf.ints_gt (prog:=prog) (w:=w) (A:=A.in1) (P:=fun i v=>∃t,v= .int (if i=0 then f j else m) t) (fun i=>if i=0 then f j else m) (fun i v e=>e);refine aa (dS (bo (aa (hcmp 0 1 _ _ _ _ _ ⟨t,rfl⟩ ⟨u,rfl⟩ ?_))));refine aa (bo (cH ?_));refine aa (dq (ag ?_))
   by_cases hb:f j > m
   ·show wpAny _ _ (if decide (f j > m)=true then _ else _) _ _ _;rw[if_pos (decide_eq_true hb)];refine aa (cM hS' rfl (aa (dq ?_)) (by show(2:Nat)≤_;decide));rw[hname];obtain⟨c',e'⟩:∃c',(h'.update S (aW fun _=>#[.int (f j) t,.int (f j) t])).get? S=some {cls:=.type "list",dict:=none,data:=.seq #[.int (f j) t,.int (f j) t] c',slots:=#[]}:=⟨_,cm _ hS' rfl⟩;refine ag ⟨bW e7 _,xbk W f hP S hSf d k (j+1) _ (some (f j,t)) c' (by lia) hlt (W.frame _ _ _ hst' (turned _)) e' ⟨⟨j,by lia,rfl⟩,fun i hi=>?_⟩ fun v' h'' tk'' ho hk''=>?_⟩
    ·by_cases q:i=j
     ·subst q;exact iD _
     ·have:=hle i (by lia);lia
    ·exact hR v' h'' tk'' ho fun b o hbw hbS e=>hk'' b o hbw hbS ((bA _ _ (bE hbS)).trans (hk' b o hbw e))
   ·show wpAny _ _ (if decide (f j > m)=true then _ else _) _ _ _;rw[if_neg (by rw[decide_eq_false hb];exact aB)];refine aa (dq ?_);rw[hname];refine ag ⟨bW e7 _,xbk W f hP S hSf d k (j+1) _ (some (m,u)) c (by lia) hlt hst' hS' ⟨⟨i0,by lia,e0⟩,fun i hi=>?_⟩ fun v' h'' tk'' ho hk''=>hR v' h'' tk'' ho fun b o hbw hbS e=>hk'' b o hbw hbS (hk' b o hbw e)⟩
    by_cases q:i=j
    ·subst q;lia
    ·exact hle i (by lia)
theorem xmp{E:Value→ae→Prop}{s:ae}{l:Addr}{xs:Array (Int×Tok)}{d:Value}{Q:Value→ae→Prop}(hh:A.handled=none)(hl:s.heap.IsList l (iy xs))
  (h:∀v h' tk,xli (numAt xs) xs.size d v→(∀b o,s.heap.get? b=some o→h'.get? b=some o)→Q v {s with heap:=h',toks:=tk}):
  wpAny (model prog w) A (call (.builtin "max") [.ref l] [(bP "default",d)]) Q E s:=by
 have hname:(toString "max"++toString ".loop":String)="max.loop":=by decide
 refine kmk_tree F.kind_max F.plain_max F.entry_max (xmo _ _) ?_;show wpAny _ A.in1 (d4 "max" ["key","default"] 0 ⟨[],[(bP "default",d)]⟩ >>= _) _ _ s;refine aa (kP (show d4 "max" ["key","default"] 0 ⟨[],[(bP "default",d)]⟩=pure [none,some d]from rfl) ?_);refine aa (ag (aa (iter_intList hl fun s₂ e st hfp hlI=>?_)));subst e;refine aa (cX ?_);rw[hname];have W:=ik (prog:=prog) (w:=w) (A:=A.in1) hh s.heap.objs.size l hlI (iy xs);have hsz:(iy xs).size=xs.size:=by simp[iy]
 refine ag ⟨bW e7 _,xbk W (numAt xs) (fun i v e=>intItems_at e) _ (fun hm=>bL _ (hfp _ hm)) d _ 0 _ none 0 rfl (aM _) (W.frame _ _ _ st fun b _ o e=>af _ e) (az _ rfl) rfl fun v h' tk ho hk=>?_⟩;rw[hsz]at ho;exact h v h' tk ho (old_kept fun b o hbw e=>hk b o hbw (au (ak e)) (af _ e))
end
section
variable {X:Cx}
def xqh(K:ah)(ta:TA)(tf:TE):TE:=fun σ H Q=>ta σ H fun xs H1=>tf σ H1 fun y H2=>
 ∃(l:Addr) (ns:List Int) (z:Int),xs=[.ref l]∧y= .int z∧SqL K H2 l (ns.map V.int)∧∀m,(ns=[]→m=z)→(ns≠[]→m∈ns∧∀a∈ns,a≤m)→Q (.int m) H2
theorem xnR{e fe:Expr}{ta:TA}{tf:TE}{p pos kp:Pos}(hc:X.calm=true)(hg:Gl X "max")(hm:X.mg "max"=none)(ha:PA X [e] ta)(hf:PE X fe tf)
  (he:cZ pos (aY [e] X.env)=(false,eval e X.env)::cZ pos (aY [] X.env):=by rfl):
  PE X (.Call (.Name "max" p) [e] [⟨some "default",fe,kp⟩] pos) (xqh X.K ta tf):=by
 intro pins s σ H Q I h;refine cb (yV I hg hm xgY ?_ (by decide) (by decide));refine kR (thn (ha pos pins s σ H _ I h) fun us s1 ⟨xs,H1,I1,r1,q1⟩=>?_) he (by rw[he];rfl) rfl rfl;refine kws_cons (thn (hf pins s1 σ H1 _ I1 q1) fun fu s2 ⟨y,H2,I2,r2,q2⟩=>kws_nil ?_);obtain⟨l,ns,z,rfl,rfl,hl,q⟩:=q2;obtain⟨u,rfl,ru⟩:=Vals.one r1;cases ru;obtain⟨tz,rfl⟩:=r2;obtain⟨its,r',pl,hz⟩:=I2.list hl;have hi:=intsAre_of r';have hL:=pl.isList;have hn:=hi.numsOf;obtain⟨ys,e⟩:=hi.allInts.items;rw[e]at hL;have e2:numsOf its=numsOf (iy ys).toList:=by rw[←e]
 rw[e2,lR]at hn;have hlen:=congrArg cD hn;rw[ab,aR]at hlen;show wpAny _ _ (call (.builtin "max") [.ref l] [(bP "default",.int z tz)]) _ _ s2;refine xmp (I.ok.hd hc) hL fun v h' tk ho hk=>?_
 by_cases hne:ns=[]
 ·have h0:ys.size=0:=by rw[hlen,hne];rfl
  have:=ho.1 h0;subst this;exact⟨.int z,H2,I2.kept (t':=tk) hk,⟨tz,rfl⟩,q z (fun _=>rfl) fun x=>absurd hne x⟩
 ·have hpos:0<ns.length:=bB.mpr hne;obtain⟨m,t,rfl,⟨i,hi',ei⟩,hle⟩:=ho.2 (by omega);refine⟨.int m,H2,I2.kept (t':=tk) hk,⟨t,rfl⟩,q m (fun x=>absurd x hne) fun _=>⟨?_,fun a ha'=>?_⟩⟩
  ·rw[←hn,←ei,numAt_eq];exact getD_mem (by rw[ab,aR];omega)
  ·rw[←hn]at ha';obtain⟨j,hj,rfl⟩:=mem_getD ha';rw[ab,aR]at hj;rw[←numAt_eq];exact hle j hj
end
end L2
namespace L2
open PySem PySem.Spec PyProof.Rows PySem.W
structure xdU(K:ah)(x qual:Str)(st:Stmt)(f:Addr)(fd:aE)(ds:List Value):Prop where
 ex:∃(oc:Value) (od:Option Addr) (dT:Addr) (o:Obj) (n:Nat) (kV doc pm:Value) (an:Option Addr) (cdv ct:Value) (osl:Array (Option Value)),
  fd=dy x qual (ye st) (xQ st) (xj st) (.ref dT) kV doc pm an cdv ct∧K.lookup f=some ⟨oc,od,.func fd,osl⟩∧eX K cdv qual=true∧K.lookup dT=some o∧o.data= .seq ds.toArray n
 kp:dG K (.ref f)=true
section
variable {P:aH} {w:World} {K:ah} {mg:Str→Option Value} {base:Heap}
theorem xdU.ok{x qual:Str}{st:Stmt}{f:Addr}{fd:aE}{ds:List Value}{N ps:List Str}{k:Nat}{sp:Sp}(F:xdU K x qual st f fd ds)(S:xq N ps (xj st))(len:∀vs H Q E,sp vs H Q E→vs.length=ps.length)
  (hbody:∀(cdv:Value) (A:aV) (outer:List Env) (s:ae) (H:Hp) (vs:List V) (Q:VK) (E:XK),xR k (A.deeper (gN qual (xj st) s.heap.objs.size f cdv))→sp vs H Q E→
   ∃t,PSs (xba CX0 P w K mg base N qual (xj st) f cdv A outer s H E).nox (xQ st) t∧t {nx:=fun _ H'=>Q .non H',rt:=Q} (start N vs) H):xA P w K mg base CX0 (k+1) f fd ps sp:=by
 obtain⟨oc,od,dT,o,n,kV,doc,pm,an,cdv,ct,osl,rfl,lk,hcd,_⟩:=F.ex;refine xnb lk hcd S len fun A outer s H vs Q E hr hsp=>?_;obtain⟨t,h,q⟩:=hbody cdv A outer s H vs Q E hr hsp;exact⟨t,h.nox,q⟩
theorem xdU.binds{x qual:Str}{st:Stmt}{f:Addr}{fd:aE}{ps:List Str}{ds es:List Value}(F:xdU K x qual st f fd ds)(n:Nat)(hn:n+es.length=ps.length)
  (h:∀(dT:Addr) (kV doc pm:Value) (an:Option Addr) (cdv ct:Value) (us:List Value),us.length=n→
   ∃k:Option (Array Value)→Sem (List (Str×Value)),gr (dy x qual (ye st) (xQ st) (xj st) (.ref dT) kV doc pm an cdv ct) ⟨us,[]⟩=iH (.ref dT) >>= k∧k (some ds.toArray)=pure (ps.zip (us++es))):Binds K fd ps es:=by
 obtain⟨oc,od,dT,o,n,kV,doc,pm,an,cdv,ct,osl,rfl,lk,hcd,ho,hs⟩:=F.ex;intro s us X hl;obtain⟨k,h1,h2⟩:=h dT kV doc pm an cdv ct us (by rw[ar]at hl;lia);exact binds_K X rfl ho hs h1 h2
theorem xje{x qual:Str}{st:Stmt}{f dT:Addr}{oc:Value}{od an dod:Option Addr}{osl dsl:Array (Option Value)}{kV doc pm cdv ct dc:Value}{ds:List Value}{n:Nat}(l:K.lookup f=some ⟨oc,od,.func (dy x qual (ye st) (xQ st) (xj st) (.ref dT) kV doc pm an cdv ct),osl⟩)
  (c:eX K cdv qual=true) (k:dG K (.ref f)=true) (d:K.lookup dT=some ⟨dc,dod,.seq ds.toArray n,dsl⟩):xdU K x qual st f (dy x qual (ye st) (xQ st) (xj st) (.ref dT) kV doc pm an cdv ct) ds:=
 ⟨⟨oc,od,dT,_,n,kV,doc,pm,an,cdv,ct,osl,rfl,l,c,d,rfl⟩,k⟩
end
end L2
namespace L2
open PySem PySem.Spec PyProof.Rows
section
variable {X:Cx} {EE:EEs}
section
variable {pins ps:List (Addr×Obj)} {σ:St} {H:Hp} {s:ae}
end
theorem xnS{h₀:ExceptHandler}{hs:List ExceptHandler}{pos:Pos}{body:List Stmt}{tb:TS}(hx:X.xe=fun _ _=>False)(hbody:PSs X body tb):PS X (.Try body (h₀::hs) [] [] pos) tb:=by
 intro pins s σ H D I h;refine wpAny_Try_except (bb (hbody pins s σ H D I h) (fun f s1 hq=>?_) fun e s1 z=>?_)
 ·cases f with
  |next=>exact f7 hq
  |brk=>exact hq
  |cont=>exact hq
  |ret u=>exact hq
 ·rw[hx]at z;exact z.elim
end
end L2
namespace L2
open PySem PySem.Spec PyProof.Rows
section
variable {prog:aH} {w:World} {A:aV} {E:Value→ae→Prop} {s:ae}
theorem xps{j t:Addr}{i:Nat}{its:Array Value}{x:Value}{Q:Value→ae→Prop}(hj:s.heap.IsTupleIter j t i)(ht:s.heap.IsTuple t its)(hx:its[i]? =some x)
  (q:∀h',h'.IsTupleIter j t (i+1)→fJ j s.heap h'→Q x {s with heap:=h'}):wpAny (model prog w) A (eQ (.ref j)) Q E s:=by
 obtain⟨oj,ej,cj,dj⟩:=id hj;obtain⟨ot,et,_,nt,dt⟩:=ht;unfold eQ;refine aa (dO (name:=bP "__next__") hj.typeIs ee (fP ee hj.typeIs iI ?_ (iA _)));show wpAny _ _ (field (.ref j) 0 >>= _) _ _ s;refine aa (dD ej dj (x:=.ref t) rfl ?_);show wpAny _ _ (if (aZ t==bq)=true then _ else _) _ _ s;rw[if_neg (show¬((aZ t==bq)=true)from aB)];show wpAny _ _ (field (.ref j) 1 >>= _) _ _ s;refine aa (dD ej dj (x:=.int i 0) rfl ?_);show wpAny _ _ (iH (.ref t) >>= _) _ _ s;refine aa (cK et dt ?_);simp only[bJ,hx];refine aa (wpAny_setField ej dj (by simp) (ag ⟨x,rfl,ag (q _ ?_ (bK ..))⟩));exact⟨_,cm _ ej (Obj.isFreed_of_fields (Obj.data_mapFields dj _)),(Obj.cls_mapFields ..).trans cj,by rw[Obj.data_mapFields dj];simp[de]⟩
theorem xgc{j t:Addr}{i:Nat}{its:Array Value}{Q:Value→ae→Prop}(hh:A.handled=none)(hj:s.heap.IsTupleIter j t i)(ht:s.heap.IsTuple t its)(hx:its[i]? =none)
  (q:∀h' e,mJ j s.heap h'→(∃o,h'.get? e=some o∧o.cls= .type "StopIteration")→E (.ref e) {s with heap:=h'}):wpAny (model prog w) A (eQ (.ref j)) Q E s:=by
 obtain⟨oj,ej,cj,dj⟩:=id hj;obtain⟨ot,et,_,nt,dt⟩:=ht;unfold eQ;refine aa (dO (name:=bP "__next__") hj.typeIs ee (fP ee hj.typeIs iI ?_ (iA _)));show wpAny _ _ (field (.ref j) 0 >>= _) _ _ s;refine aa (dD ej dj (x:=.ref t) rfl ?_);show wpAny _ _ (if (aZ t==bq)=true then _ else _) _ _ s;rw[if_neg (show¬((aZ t==bq)=true)from aB)];show wpAny _ _ (field (.ref j) 1 >>= _) _ _ s;refine aa (dD ej dj (x:=.int i 0) rfl ?_);show wpAny _ _ (iH (.ref t) >>= _) _ _ s;refine aa (cK et dt ?_);simp only[bJ,hx];refine aa (gE (aa (wpAny_setField ej dj (by simp) ?_)));show wpAny _ _ (newExc (.type "StopIteration") [] >>= _) _ _ _;refine aa ?_;simp only[newExc,newTuple];refine aa (cX ?_ (by size_fits));refine aa (m:=firstArgMember _ _) (kP (a:=bq) (by first|rfl|(simp only[firstArgMember];rfl)) ?_);refine cX ?_ (by size_fits);simp only[raiseNew];refine aa (wpAny_handled ?_);first|rw[show A.in1.handled=none from hh]|rw[hh]
 refine aa (ag (wpAny_throw ?_));exact q _ _ (((bK ..).extBut.push _).push _) ⟨_,az _ rfl,rfl⟩
theorem xlj(hh:A.handled=none)(j t:Addr)(hne:t≠j)(its:Array Value):Draws prog w A j [j,t] its.size (fun i v=>its[i]? =some v) (fun i h=>h.IsTupleIter j t i∧h.IsTuple t its) where
 live:=fun _ _ st=>let⟨o,ho,_⟩:=st.1;⟨o,ho⟩
 frame:=fun _ _ _ ⟨⟨o,e,r⟩,o2,e2,r2⟩ hk=>⟨⟨o,hk j (by simp) o e,r⟩,o2,hk t (by simp) o2 e2,r2⟩
 item:=fun i s Q E hi st q=>by
  refine xps st.1 st.2 (x:=its[i]) (by simp[hi]) fun h' hj' hs'=>q _ h' s.toks (by simp[hi]) ⟨hj',?_⟩ hs';obtain⟨o2,e2,r2⟩:=st.2;exact⟨o2,(hs'.2 t hne).trans e2,r2⟩
 done:=fun s Q E st q=>xgc hh st.1 st.2 (by simp) q
end
set_option maxHeartbeats 8000000 in
theorem xlk(l:Addr)(its:Array Value)(n:Nat)(dct:Option Addr)(sl:Array (Option Value)):
  Meets (fY.«enumerate.__new__» ⟨[.type "enumerate",.ref l],[]⟩) (fun _ R s=>s.heap.get? l=some {cls:=.type "tuple",dict:=dct,data:=.seq its n,slots:=sl}∧
   R (.ok (.ret (.ref (s.heap.push {cls:=.type "tuple_iterator",data:=.fields #[.ref l,.int 0 0]}).objs.size)))
    {s with heap:=(s.heap.push {cls:=.type "tuple_iterator",data:=.fields #[.ref l,.int 0 0]}).push {cls:=.type "enumerate",data:=.fields #[.none,.bool false,.ref s.heap.objs.size,de 0,.none,.none]}}):=
 .of_wp fun prog w A R s h=>by
  obtain⟨hp,g,d,tk,os⟩:=s;obtain⟨el,h⟩:=h;have hsub:=sub_enumerate;have hL:Heap.IsTuple (Shared.heap ⟨hp,g,d,tk,os⟩) l its:=⟨_,el,rfl,n,rfl⟩
  wp_walk using gx el
  refine wpAny_stack_any fun st=>ag ?_
  split
  ·rename_i c _ _ _ _ _;cases (c==cw "enumerate")<;> (wp_walk using gx el,iE hL;exact⟨_,rfl,h⟩)
  ·wp_walk using gx el,iE hL;exact⟨_,rfl,h⟩
section
variable {prog:aH} {w:World} {A:aV} {E:Value→ae→Prop} {s:ae}
theorem xj4{l:Addr}{its:Array Value}{Q:Value→ae→Prop}(hL:s.heap.IsTuple l its)
  (q:∀h',IsEnum h' (s.heap.objs.size+1) s.heap.objs.size 0 .none→h'.IsTupleIter s.heap.objs.size l 0→(∀b o,s.heap.get? b=some o→h'.get? b=some o)→Q (.ref (s.heap.objs.size+1)) {s with heap:=h'}):
  wpAny (model prog w) A (call (.type "enumerate") [.ref l]) Q E s:=by
 obtain⟨⟨c,dct,dt,sl⟩,el,hc,n,hd⟩:=hL;cases (show c= .type "tuple" from hc);cases (show dt= .seq its n from hd);refine callType_new F.called_enumerate (by decide) (F.typeCall_enumerate_1 _) (F.newCall_enumerate_1 _) (fun obj=>F.args_object_init_2 obj _) F.entry_enumerate_new (xlk l its n dct sl) ⟨el,?_⟩;generalize hO:({cls:=.type "tuple_iterator",data:=.fields #[.ref l,.int 0 0]}:Obj)=oi;have hz:(s.heap.push oi).objs.size=s.heap.objs.size+1:=cV ..;have f0:oi.isFreed=false:=by rw[←hO];rfl
 show _∧_;rw[hz];have he:IsEnum ((s.heap.push oi).push {cls:=.type "enumerate",data:=.fields #[.none,.bool false,.ref s.heap.objs.size,de 0,.none,.none]}) (s.heap.objs.size+1) s.heap.objs.size 0 .none:=by
  have e:=az (s.heap.push oi) (o:={cls:=.type "enumerate",data:=.fields #[.none,.bool false,.ref s.heap.objs.size,de 0,.none,.none]}) rfl;rw[hz]at e;exact e
 refine⟨⟨_,he,rfl⟩,q _ he ⟨oi,af _ (az _ f0),by rw[←hO],by rw[←hO];rfl⟩ fun b o x=>af _ (af _ x)⟩
theorem xnT{e j t:Addr}{i:Nat}{k:Int}{its:Array Value}{old:Value}{Q:Option Value→ae→Prop}(hh:A.handled=none)(he:IsEnum s.heap e j k old)(hj:s.heap.IsTupleIter j t i)(ht:s.heap.IsTuple t its)(hx:its[i]? =none)
  (q:∀h',mJ j s.heap h'→Q none {s with heap:=h'}):wpAny (model prog w) A (gn (.ref e)) Q E s:=by
 have hT:s.TypeIs (.ref e) "enumerate":=⟨_,he,rfl⟩;unfold gn;refine aa (lT (dO (name:=bP "__next__") hT lh (fP lh hT F.entry_enumerate_next ?_ (F.args_enumerate_next_1 _))));show wpAny _ _ (field (.ref e) 2 >>= _) _ _ _;refine aa (dD he rfl (x:=.ref j) rfl ?_);refine aa (xgc hh hj ht hx fun h' x eb ⟨o,ho,hc⟩=>?_);refine aa (wpAny_isInstance (T:="StopIteration") (b:=true) ⟨o,ho,hc⟩ isSubtype_stop ?_);exact ag (q _ eb)
end
def xmq(K:ah)(a:Addr):It:=
 ⟨fun i H=>∃xs x,SqT K H a xs∧xs[i]? =some x,fun i H v H'=>∃T x,v= .ref T∧H T=none∧H'=upd H T (.tup [.int i,x])∧∀xs,SqT K H a xs→xs[i]? =some x,fun i H=>∃xs,SqT K H a xs∧xs.length≤i⟩
theorem xj5{P:aH}{w:World}{K:ah}{es:List Expr}{k:Nat}{pos:Pos}(a e it:Addr)(hne:e≠it):Turn P w K (.Tuple es k pos) (xmq K a) [e,it] e (fun i h=>(∃old,IsEnum h e it (i:Nat) old)∧h.IsTupleIter it a i) where
 mem:=by simp
 obj:=fun i h st b hb=>by
  obtain⟨⟨old,he⟩,⟨o,e1,c,d⟩⟩:=st;rcases ax.mp hb with z|z
  ·subst z;exact⟨_,he,fun v z=>by cases z⟩
  ·rw[aA.mp z];exact⟨o,e1,fun v z=>by rw[d]at z;cases z⟩
 keep:=fun i h h' st kk=>by
  obtain⟨⟨old,he⟩,⟨o,e1,r⟩⟩:=st;exact⟨⟨old,kk e (by simp) _ he⟩,⟨o,kk it (by simp) o e1,r⟩⟩
 item:=by
  intro X hP hw hK hc i pins s σ H E I hf st hg;subst hP hw hK;obtain⟨xs,x,hq,hx⟩:=hg;obtain⟨its,rv,p,hz⟩:=I.tuple hq;obtain⟨u,hu,ru⟩:=rv.get hx;obtain⟨⟨old,he⟩,hit⟩:=st;have he':=ak he;have hi':it<s.heap.objs.size:=by obtain⟨o,q,_⟩:=hit;exact ak q
  have p':s.heap.IsTuple a its.toArray:=p;have hai:a≠it:=fun z=>by
   obtain⟨o,e1,c,d⟩:=hit;obtain⟨o2,e2,c2,_⟩:=p';rw[z,e1]at e2;cases e2;rw[c]at c2;injection c2 with c2;exact absurd c2 (by decide)
  have hae:e≠a:=fun z=>by
   obtain⟨o2,e2,c2,_⟩:=p';have he2:s.heap.get? e=_:=he;rw[z,e2]at he2;cases he2;injection c2 with c2;exact absurd c2 (by decide)
  have hlt:i<its.toArray.size:=by simpa using(aD.mp hu).1
  refine wpAny_pyNext_enum_itemD (xlj (A:=X.A.in1) (I.ok.hd hc) it a hai its.toArray) he ⟨hit,p'⟩ hlt hne (by simp[hne,hae]) fun x2 h' tk px heo st' hT hsz hk=>?_;have ex:x2=u:=by
   have:its.toArray[i]? =some u:=by simpa using hu
   rw[this]at px;cases px;rfl
  subst ex;refine⟨_,rfl,iS (s:={s with heap:=h',toks:=tk+1}) heo fun h2 he2 hs2=>?_⟩;have hT2:h2.get? s.heap.objs.size=some {cls:=.type "tuple",data:=.seq #[.int i tk,x2]}:=(hs2.2 _ (dX he')).trans hT;have I2:Inv X pins σ (upd H s.heap.objs.size (.tup [.int i,x])) {s with heap:=h2,toks:=tk+1}:=by
   refine I.turnLaid (ch:=[e,it]) (fun b o hb q=>?_) (aj _) ⟨by simp[ay],[.int i tk,x2],.cons ⟨_,rfl⟩ (.cons ru .nil),⟨_,hT2,rfl,_,rfl⟩⟩ (fun b hb=>(hf b hb).1) (fun b hb=>?_) fun b hb=>?_
   ·have b1:b≠e:=fun z=>hb (by simp[z]);have b2:b≠it:=fun z=>hb (by simp[z]);exact(hs2.2 b b1).trans (hk b o b1 b2 q)
   ·rcases ax.mp hb with z|z
    ·rw[z];exact he'
    ·rw[aA.mp z];exact hi'
   ·obtain⟨f0,f1,f2,f3,f4,f5⟩:=hf b hb;exact⟨f3,f1,f4,f5⟩
  refine⟨.ref s.heap.objs.size,_,I2,rfl,⟨_,x,rfl,I.hok.fresh (aj _),rfl,fun ys hy=>by rw[I.tuple_inj hy hq];exact hx⟩,⟨⟨x2,by simpa using he2⟩,?_⟩,fun b hb=>?_⟩
  ·obtain⟨⟨o,e1,r⟩,_⟩:=st';exact⟨o,(hs2.2 it (bE hne)).trans e1,r⟩
  have hb':b≠s.heap.objs.size:=by
   rcases ax.mp hb with z|z
   ·rw[z];exact au he'
   ·rw[aA.mp z];exact au hi'
  rw[xl hb'];exact(hf b hb).1
 done:=by
  intro X hP hw hK hc i pins s σ H E I hf st hg;subst hP hw hK;obtain⟨xs,hq,hx⟩:=hg;obtain⟨its,rv,p,hz⟩:=I.tuple hq;obtain⟨⟨old,he⟩,hit⟩:=st;obtain⟨f0,f1,f2,f3,f4,f5⟩:=hf it (by simp);have hl:=rv.length;exact xnT (I.ok.hd hc) he hit p (by simp;lia) fun h' eb=>⟨rfl,I.turned (t':=s.toks) (fun b o hb e=>eb b o hb e) f0 f1 f3 f4 f5⟩
 self:=fun _ _ _ _ _ st h=>by
  obtain⟨⟨old,he⟩,_⟩:=st;exact gK he h
section
variable {X:Cx} {es:List Expr} {k:Nat} {tp:Pos}
def xpt(K:ah)(ta:TA):TI:=fun σ H R=>ta σ H fun vs H1=>∃a,vs=[.ref a]∧(∃xs,SqT K H1 a xs)∧R (xmq K a) H1
theorem xmr{l:Expr}{ta:TA}{p pos:Pos}(hg:Gl X "enumerate")(hm:X.mg "enumerate"=none)(ha:PA X [l] ta)(hs:aY [l] X.env=[(false,eval l X.env)]:=by rfl):PI X (.Tuple es k tp) (.Call (.Name "enumerate" p) [l] [] pos) (xpt X.K ta):=by
 intro pins s σ H R I h;refine Call_ (yV I hg hm xb1 (bR (thn (ha pos pins s σ H _ I h) fun us s1 ⟨vs,H1,I1,r1,q1⟩=>?_) hs rfl));obtain⟨a,e,⟨xs,hq⟩,q⟩:=q1;subst e;obtain⟨u,rfl,ru⟩:=Vals.one r1;cases ru;obtain⟨its,rv,pl,hz⟩:=I1.tuple hq;refine xj4 (show s1.heap.IsTuple a its.toArray from pl) fun h' he hi hk=>gK (s:={s1 with heap:=h'}) he ?_;refine⟨s1.heap.objs.size+1,[s1.heap.objs.size+1,s1.heap.objs.size],_,_,H1,rfl,I1.kept (t':=s1.toks) hk,xj5 a _ _ (Nat.succ_ne_self _),⟨⟨.none,by simpa using he⟩,hi⟩,fun b hb=>?_,q⟩;rcases ax.mp hb with z|z
 ·rw[z];exact I1.fpOk (dC _) (I1.hok.fresh (dC _))
 ·rw[aA.mp z];exact I1.fpOk (aj _) (I1.hok.fresh (aj _))
theorem xiE{K:ah}{l:Addr}{xs:List V}{g:TG}{tb:TS}{D:Ends}{σ:St}{H:Hp}(Pv:Nat→St→Hp→Prop)(h0:Pv 0 σ H)(hl:∀i σ H,i≤xs.length→Pv i σ H→SqT K H l xs)
  (hs:∀i x σ H T,xs[i]? =some x→Pv i σ H→H T=none→g (.ref T) σ (upd H T (.tup [.int i,x])) fun σ2 H2=>tb {D with nx:=Pv (i+1),ct:=Pv (i+1),bk:=D.nx} σ2 H2) (hd:∀σ H,Pv xs.length σ H→D.nx σ H):zp (xmq K l) g tb D σ H:=by
 unfold zp;refine⟨fun i m σ H=>m=xs.length - i∧i≤xs.length∧Pv i σ H,⟨xs.length,by simp,aM _,h0⟩,?_⟩;rintro i m σ H ⟨rfl,hi,p⟩;have hq:=hl i σ H hi p
 by_cases hlt:i<xs.length
 ·have hx:xs[i]? =some xs[i]:=ai hlt;refine .inr ⟨⟨xs,xs[i],hq,hx⟩,Pv (i+1),fun σ' H' p'=>⟨xs.length - (i+1),by lia,rfl,hlt,p'⟩,fun v H' y=>?_⟩;obtain⟨T,x,rfl,hT,rfl,hx'⟩:=y;have:=hx' xs hq;exact hs i x σ H T this p hT
 ·have e:i=xs.length:=by lia
  subst e;exact .inl ⟨⟨xs,hq,aj _⟩,hd σ H p⟩
theorem xdl{K:ah}{l:Addr}{xs:List V}{g:TG}{tb:TS}{D:Ends}{σ:St}{H:Hp}(Pv:Nat→St→Hp→Prop)(h0:Pv 0 σ H)(hl:∀i σ H,i≤xs.length→Pv i σ H→SqL K H l xs)
  (hs:∀i x σ H T,xs[i]? =some x→Pv i σ H→H T=none→g (.ref T) σ (upd H T (.tup [.int i,x])) fun σ2 H2=>tb {D with nx:=Pv (i+1),ct:=Pv (i+1),bk:=D.nx} σ2 H2) (hd:∀σ H,Pv xs.length σ H→D.nx σ H):zp (Ite K l) g tb D σ H:=by
 unfold zp;refine⟨fun i m σ H=>m=xs.length - i∧i≤xs.length∧Pv i σ H,⟨xs.length,by simp,aM _,h0⟩,?_⟩;rintro i m σ H ⟨rfl,hi,p⟩;have hq:=hl i σ H hi p
 by_cases hlt:i<xs.length
 ·have hx:xs[i]? =some xs[i]:=ai hlt;refine .inr ⟨⟨xs,xs[i],hq,hx⟩,Pv (i+1),fun σ' H' p'=>⟨xs.length - (i+1),by lia,rfl,hlt,p'⟩,fun v H' y=>?_⟩;obtain⟨T,x,rfl,hT,rfl,hx'⟩:=y;have:=hx' xs hq;exact hs i x σ H T this p hT
 ·have e:i=xs.length:=by lia
  subst e;exact .inl ⟨⟨xs,hq,aj _⟩,hd σ H p⟩
end
end L2
namespace L2
open PySem PySem.Spec PyProof.Rows
def xqi:Stmt→List Stmt
 | .If _ b _ _=>b
 |_=>[]
def xpu:Stmt→List Stmt
 | .While _ b _ _=>b
 |_=>[]
end L2
namespace L2
open PySem PySem.Spec PyProof.Rows
theorem xR.units65{k:Nat}{A:aV}(r:xR k A):A.units+65<cLine:=by have:=r.un;lia
def xnU(K:ah):R2:=fun x y H Q=>∃da ds,Rp K H x da∧Rp K H y (.list ds)∧dY da=true∧cI ds=true∧Q (.bl (!ds.any fun z=>eP z da)) H
theorem xgd{X:Cx}(hu:X.A.units+65<cLine):OpR X (bw .NotIn) (xnU X.K):=by
 intro pins s σ H x y v u Q I rx ry q;obtain⟨da,ds,hx,hy,sa,sb,q⟩:=q;obtain⟨as,ra⟩:=hx.reads I rx;obtain⟨bs,rb⟩:=hy.reads I ry;exact SeqAt.notIn_list_reads rb ra sb (gP sa) (room_in_shaped sa hu) ⟨.bl _,H,I,rfl,q⟩
end L2
namespace L2
open PySem PySem.Spec PyProof.Rows
section
variable {P:aH} {w:World} {H:Hp} {h:Heap} {b d:Addr} {o:Obj} {u ob:HO}
theorem xG.thaw(hd:H d=some (.frz o u))(hdat:∀vs,o.data≠.fields vs)(x:xG P w H h b ob):xG P w (upd H d u) h b ob:=by
 have off:∀{c:Addr} {y:HO},H c=some y→(∀o' u',y≠.frz o' u')→upd H d u c=some y:=fun{c y} e n=>by
  rw[xl (fun z=>by rw[z,hd]at e;cases e;exact n _ _ rfl)];exact e
 induction ob with
 |dT kvs=>
  obtain⟨z,y,xs,r,c⟩:=x;exact⟨z,y,xs,Paired.mapP r fun p q z=>⟨z.1,off z.2.1 (by intro _ _ z;cases z),z.2.2⟩,c⟩
 |ins C dx fs=>obtain⟨e,c⟩:=x;exact⟨off e (by intro _ _ z;cases z),c⟩
 |frz ob u' ih=>obtain⟨e,q⟩:=x;exact⟨e,ih q⟩
 |tbl qs=>
  obtain⟨ps,e,tr,r⟩:=x;refine⟨ps,e,tr,fun pos q m=>?_⟩;rcases r pos q m with z|⟨c,ob,u',vs,t,z1,z2,z3⟩
  ·exact .inl z
  ·refine .inr ⟨c,ob,u',vs,t,z1,?_,z3⟩;rw[xl (fun z=>by rw[z,hd]at z2;cases z2;exact hdat _ z3.1)];exact z2
 |lst xs=>exact x
 |tup xs=>exact x
 |dK kvs=>exact x
 |set S n=>exact x
 |own y=>exact x
 |xd fs=>exact x
 |rng lo hi=>exact x
 |cel v=>exact x
 |met f y=>exact x
 |ext φ=>exact x
theorem HOk.thaw(ok:HOk P w H h)(hd:H d=some (.frz o u))(hdat:∀vs,o.data≠.fields vs):HOk P w (upd H d u) h:=fun b ob e=>by
 by_cases hb:b=d
 ·subst hb;rw[xk]at e;cases e;exact xG.thaw hd hdat (ok _ _ hd).2
 ·rw[xl hb]at e;exact xG.thaw hd hdat (ok b ob e)
end
section
variable {X:Cx} {pins:List (Addr×Obj)} {σ:St} {H:Hp} {s:ae} {d:Addr} {o:Obj} {u:HO} {kvs:List (Key×V)}
theorem Inv.thaw(I:Inv X pins σ H s)(hd:H d=some (.frz o u))(hdat:∀vs,o.data≠.fields vs)(h0:∀u',X.H₀ d=some u'→¬Fix u'):Inv X pins σ (upd H d u) s:=by
 have ne:∀{b:Addr},H b=none→b≠d:=fun{b} e z=>by rw[z,hd]at e;cases e
 refine⟨I.ok,I.os,I.bare,⟨I.base.keep,I.base.slot,fun b o' q n hx=>?_,I.base.there,fun b u' q hf=>?_⟩,I.loc,I.cell,?_,fun x c e=>?_,fun p hp=>?_,I.hok.thaw hd hdat,I.len⟩
 ·have:=I.base.free b o' q n hx;rw[xl (ne this)];exact this
 ·rw[xl (fun z=>by rw[z]at q;exact h0 _ q hf)];exact I.base.fix b u' q hf
 ·rw[xl (ne I.free)];exact I.free
 ·rcases I.freeC x c e with z|⟨z1,o',z2,z3⟩
  ·exact .inl (by rw[xl (ne z)];exact z)
  ·refine .inr ⟨z1,o',?_,z3⟩;rw[xl (fun z=>by rw[z,hd]at z2;cases z2)];exact z2
 ·obtain⟨p1,p2,p3⟩:=I.pin p hp;exact⟨p1,by rw[xl (ne p2)];exact p2,p3⟩
theorem Inv.freeze(I:Inv X pins σ H s)(hd:H d=some (.dK kvs))(ho:s.heap.get? d=some o):Inv X pins σ (upd H d (.frz o (.dK kvs))) s:=by
 have:=I.write (x:=d) (e:=d) (o:=.frz o (.dK kvs)) (h':=s.heap) (t':=s.toks) (by rw[hd];exact cQ) (.inl rfl) (fun _ _ _ q=>q) ⟨_,ho⟩ ⟨ho,(show xG X.prog X.w H s.heap d (.dK kvs)from I.hok d _ hd)⟩;exact this
theorem Inv.nofix(I:Inv X pins σ H s)(hd:H d=some (.dK kvs)):∀u',X.H₀ d=some u'→¬Fix u':=fun u' e hf=>by
 have:=I.base.fix d u' e hf;rw[hd]at this;cases this;exact hf
end
def Itd(a:Addr)(o:Obj)(kvs:List (Key×V)):It:=
 ⟨fun i H=>H a=some (.frz o (.dK kvs))∧i<kvs.length,fun i H x H'=>H'=H∧∃k,(kvs.map (·.1))[i]? =some k∧x=kV k,fun i H=>H a=some (.frz o (.dK kvs))∧i=kvs.length⟩
theorem xqV{k:Key}{v:Value}(h:zK k v=true):RelV (kV k) v:=by
 rcases yg h with⟨i,t,rfl,rfl⟩|⟨x,t,rfl,rfl⟩
 ·exact⟨t,rfl⟩
 ·exact⟨t,rfl⟩
theorem xex{κ:Type}:∀{kvs:List (κ×V)} {vs:List (κ×Value)},KV kvs vs→kvs.map (·.1)=vs.map (·.1)
 |_,_,.nil=>rfl
 |_,_,.cons h t=>by rw[bc,bc,h.1,xex t]
theorem xll{P:aH}{w:World}{K:ah}{tg:Expr}(a it:Addr)(o:Obj)(kvs:List (Key×V))(es:Array DictEntry)(ep:Nat)(hdat:o.data= .dict es ep):Turn P w K tg (Itd a o kvs) [it] it (fun i h=>h.IsKeyIter it a i kvs.length ep) where
 mem:=by simp
 obj:=fun i h st b hb=>by
  have e:b=it:=by simpa using hb
  subst e;obtain⟨o,e,c,d⟩:=st;exact⟨o,e,fun v z=>by rw[d]at z;cases z⟩
 keep:=fun i h h' st k=>by
  obtain⟨o,e,c,d⟩:=st;exact⟨o,k it (by simp) o e,c,d⟩
 item:=by
  intro X hP hw hK hc i pins s σ H E I hf st hg;subst hP hw hK;obtain⟨hq,hx⟩:=hg;obtain⟨f0,f1,f2,f3,f4,f5⟩:=hf it (by simp);obtain⟨ho,z,hsys,vs,rel,dd⟩:=(show xG X.prog X.w H s.heap a (.frz o (.dK kvs))from I.hok a _ hq);have hl:kvs.length=vs.length:=rel.length;have hda:kT (xP X.prog X.w) s.heap a vs ep:=by
   obtain⟨o',es',ep',h1,h2,h3,h4⟩:=dd;rw[ho]at h1;cases h1;rw[hdat]at h3;cases h3;exact⟨o,es,ho,h2,hdat,h4⟩
  have ne:a≠it:=fun z=>by rw[z,f0]at hq;cases hq
  have W:=lj (knd:=xP X.prog X.w) (I.ok.hd hc) it a ne vs ep;refine W.item i s _ _ (by lia) ⟨by rw[←hl];exact st,hda⟩ fun v h' tk hv st' kk=>?_;obtain⟨k,x,hk,hv⟩:=hv;have I1:Inv X pins σ H {s with heap:=h',toks:=tk}:=I.turned (fun b o hb e=>kk b o (by simpa using hb) e) f0 f1 f3 f4 f5;obtain⟨ob,e,c,d⟩:=id st'.1;refine⟨_,rfl,xeh (s:={s with heap:=h',toks:=tk}) e c d (by decide) ⟨kV k,H,I1,xqV hv,⟨rfl,k,?_,rfl⟩,?_,fun b hb=>(hf b hb).1⟩⟩
  ·rw[xex rel,ao,hk];rfl
  ·rw[hl];exact st'.1
 done:=by
  intro X hP hw hK hc i pins s σ H E I hf st hg;subst hP hw hK;obtain⟨hq,hx⟩:=hg;obtain⟨f0,f1,f2,f3,f4,f5⟩:=hf it (by simp);obtain⟨ho,z,hsys,vs,rel,dd⟩:=(show xG X.prog X.w H s.heap a (.frz o (.dK kvs))from I.hok a _ hq);have hl:kvs.length=vs.length:=rel.length;have hda:kT (xP X.prog X.w) s.heap a vs ep:=by
   obtain⟨o',es',ep',h1,h2,h3,h4⟩:=dd;rw[ho]at h1;cases h1;rw[hdat]at h3;cases h3;exact⟨o,es,ho,h2,hdat,h4⟩
  have ne:a≠it:=fun z=>by rw[z,f0]at hq;cases hq
  have W:=lj (knd:=xP X.prog X.w) (I.ok.hd hc) it a ne vs ep;subst hx;refine W.done s _ _ ⟨by rw[←hl];exact st,hda⟩ fun h' tk kk=>⟨rfl,I.turned (fun b o hb e=>kk b o (by simpa using hb) e) f0 f1 f3 f4 f5⟩
 self:=fun A i s Q E st h=>wpAny_pyIter_keyiter st h
section
variable {X:Cx} {tg:Expr}
def xj6(tl:TE):TI:=fun σ H R=>tl σ H fun x H1=>∃a kvs,x= .ref a∧H1 a=some (.dK kvs)∧∀o:Obj,(∀vs,o.data≠.fields vs)→R (Itd a o kvs) (upd H1 a (.frz o (.dK kvs)))
theorem xnV{l:Expr}{tl:TE}(hl:PE X l tl):PI X tg l (xj6 tl):=by
 intro pins s σ H R I h;refine thn (hl pins s σ H _ I h) fun v s1 ⟨x,H1,I1,r1,q1⟩=>?_;obtain⟨a,kvs,e,hq,q⟩:=q1;subst e;cases r1;obtain⟨z,hsys,vs,rel,o,es,ep,ho,h2,hdat,h4⟩:=(show xG X.prog X.w H1 s1.heap a (.dK kvs)from I1.hok a _ hq);have hl:kvs.length=vs.length:=rel.length;refine wpAny_pyIter_dict hsys (⟨o,es,ho,h2,hdat,h4⟩:kT (xP X.prog X.w) s1.heap a vs ep) ?_;have I2:=I1.freeze hq ho;refine⟨s1.heap.objs.size,[s1.heap.objs.size],_,_,_,rfl,I2.kept (t':=s1.toks) fun b o e=>af _ e,xll a _ o kvs es ep hdat,⟨_,az _ rfl,rfl,?_⟩,fun b hb=>?_,q o (fun vs z=>by rw[hdat]at z;cases z)⟩
 ·rw[hl];rfl
 ·have e:b=s1.heap.objs.size:=by simpa using hb
  subst e;exact I2.fpOk (aj _) (I2.hok.fresh (aj _))
def xj7(a:Addr)(kvs:List (Key×V))(D:Ends):Ends:={D with
 nx:=fun σ H=>(∃o:Obj,H a=some (.frz o (.dK kvs))∧∀vs,o.data≠.fields vs)∧D.nx σ (upd H a (.dK kvs))
 rt:=fun v H=>(∃o:Obj,H a=some (.frz o (.dK kvs))∧∀vs,o.data≠.fields vs)∧D.rt v (upd H a (.dK kvs))
 bk:=fun _ _=>False
 ct:=fun _ _=>False}
def xqj(i:Nat)(g:TG)(tb:TS):TS:=fun D σ H=>∃a kvs,σ[i]? =some (some (.ref a))∧H a=some (.dK kvs)∧∀o:Obj,(∀vs,o.data≠.fields vs)→zp (Itd a o kvs) g tb (xj7 a kvs D) σ (upd H a (.frz o (.dK kvs)))
theorem xnW{iter:Expr}{body:List Stmt}{i:Nat}{g:TG}{tb:TS}{pos:Pos}(hp:PassesOwn (model X.prog X.w) X.A X.env X.xe)(hc:X.calm=true)(hi:PE X iter (yC i))(hg:PG X tg g)(hb:PSs X body tb)
  (hs:∀x,eE iter X.env x=pure x:=by intro _;rfl):PS X (.For tg iter body [] pos) (xqj i g tb):=by
 intro pins s σ H D I h;obtain⟨a,kvs,hσ,hq,h⟩:=h;have nf:=I.nofix hq;have h1:xjC (xj6 (yC i)) g tb (xj7 a kvs D) σ H:=by
  rw[←xi6];unfold xjS xj6 yC;rw[hσ];exact⟨a,kvs,rfl,hq,h⟩
 refine thn (xkJ hp hc (xnV hi) hg hb hs pins s σ H (xj7 a kvs D) I h1) fun f s' z=>?_;cases f with
 |next=>obtain⟨σ',H',I',⟨o,ho,hd⟩,m⟩:=z;exact⟨σ',_,I'.thaw ho hd nf,m⟩
 |brk=>obtain⟨σ',H',I',m⟩:=z;exact m.elim
 |cont=>obtain⟨σ',H',I',m⟩:=z;exact m.elim
 |ret v=>obtain⟨x7,σ7,H7,I7,r7,⟨o,ho,hd⟩,q7⟩:=z;exact⟨x7,σ7,_,I7.thaw ho hd nf,r7,q7⟩
end
theorem xj8{a:Addr}{o:Obj}{kvs:List (Key×V)}{g:TG}{tb:TS}{D:Ends}{σ:St}{H:Hp}(Pv:Nat→St→Hp→Prop)(h0:Pv 0 σ H)(hl:∀i σ H,i≤kvs.length→Pv i σ H→H a=some (.frz o (.dK kvs)))
  (hs:∀i k σ H,(kvs.map (·.1))[i]? =some k→Pv i σ H→g (kV k) σ H fun σ2 H2=>tb {D with nx:=Pv (i+1),ct:=Pv (i+1),bk:=D.nx} σ2 H2) (hd:∀σ H,Pv kvs.length σ H→D.nx σ H):zp (Itd a o kvs) g tb D σ H:=by
 unfold zp;refine⟨fun i m σ H=>m=kvs.length - i∧i≤kvs.length∧Pv i σ H,⟨kvs.length,by simp,aM _,h0⟩,?_⟩;rintro i m σ H ⟨rfl,hi,p⟩;have q:=hl i σ H hi p
 by_cases hlt:i<kvs.length
 ·refine .inr ⟨⟨q,hlt⟩,Pv (i+1),fun σ' H' p'=>⟨kvs.length - (i+1),by lia,rfl,hlt,p'⟩,fun x H' y=>?_⟩;obtain⟨e,k,hk,rfl⟩:=y;subst e;exact hs i k σ _ hk p
 ·have e:i=kvs.length:=by lia
  subst e;exact .inl ⟨⟨q,rfl⟩,hd σ H p⟩
end L2
namespace L2
open PySem PySem.Spec PyProof.Rows
section
variable {X:Cx}
def xqk:List V→Hp→VK→Prop:=fun xs H Q=>∃(p:Addr) (kvs:List (Key×V)) (ks:List Int),xs=[.ref p]∧H p=some (.dK kvs)∧kvs.map (·.1)=ks.map bZ∧ks≠[]∧∀m∈ks,(∀x∈ks,m≤x)→Q (.int m) H
theorem xlm(hc:X.calm=true):yh X (.builtin "min") xqk:=by
 intro pins s σ H xs us Q I r h;obtain⟨p,kvs,ks,rfl,hq,hk,hne,q⟩:=h;obtain⟨u,rfl,rx⟩:=vals1 r;cases rx;obtain⟨z,hsys,vs,rel,o,es,ep,ho,h2,hdat,h4⟩:=(show xG X.prog X.w H s.heap p (.dK kvs)from I.hok p _ hq);have hkeys:vs.map (·.1)=ks.map bZ:=(xex rel).symm.trans hk;have hl:vs.length=ks.length:=by have:=congrArg cD hkeys;simpa using this
 have hpos:0<ks.length:=bB.mpr hne;refine call_min_walk (wpAny_pyIter_dict hsys (⟨o,es,ho,h2,hdat,h4⟩:kT (xP X.prog X.w) s.heap p vs ep) ?_);have hlt:p<s.heap.objs.size:=ak ho;have W:=lj (knd:=xP X.prog X.w) (A:=X.A.in1) (I.ok.hd hc) s.heap.objs.size p (au hlt) vs ep;have hP:∀(i:Nat) (v:Value),(∃k x,vs[i]? =some (k,x)∧(xP X.prog X.w).is k v=true)→∃t,v= .int (ks.getD i 0) t:=fun i v hv=>by
  obtain⟨k,x,h1,h2⟩:=hv;have e:(vs.map (·.1))[i]? =some k:=by rw[ao,h1];rfl
  rw[hkeys,ao]at e;obtain⟨j,hj,rfl⟩:=bf.mp e;have h2:zK (bZ j) v=true:=h2;rcases yg h2 with⟨i',t,e1,rfl⟩|⟨x,t,e1,_⟩
  ·cases e1;exact⟨t,by rw[bY,hj];rfl⟩
  ·cases e1
 refine⟨s.heap.objs.size,_,_,_,_,_,_,rfl,W,⟨⟨_,az _ rfl,rfl,rfl⟩,⟨o,es,af _ ho,h2,hdat,h4⟩⟩,fun b hb=>?_,by omega,CmpOf.ints_lt (fun i=>ks.getD i 0) hP,fun v h' tk hv hkp=>?_⟩
 ·simp only[ax,c8,or_false]at hb;have hs:=ak (az s.heap (o:={cls:=cw "dict_keyiterator",data:=mI #[aZ p,fj 0 0,fj (↑vs.length) 0,fj (↑ep) 0]}) rfl);rcases hb with z|z
  ·rw[z];exact hs
  ·rw[z];exact Nat.lt_trans hlt hs
 ·obtain⟨t,rfl⟩:=hP _ _ hv;obtain⟨g1,g2⟩:=argBest_lt (fun i=>ks.getD i 0) (vs.length - 1);refine⟨.int _,H,I.kept (t':=tk) fun b ob e=>hkp b ob ?_ (af _ e),⟨t,rfl⟩,q _ ?_ fun x hx=>?_⟩
  ·have hb:=ak e;simp only[ax,c8,or_false];exact au hb
  ·generalize hj:argBest (fun i j=>decide (ks.getD i 0<ks.getD j 0)) (vs.length - 1)=j at g1;have hjl:j<ks.length:=by omega
   rw[bY,ai hjl];exact cS hjl
  ·obtain⟨j,hj⟩:=d7.mp hx;have hjl:=(aD.mp hj).1;have:=g2 j (by omega);rw[bY (i:=j),hj]at this;exact this
end
end L2
namespace L2
open PySem PySem.Spec PyProof.Rows PySem.W
theorem xge:entryFor table "dict.update.loop"=some fY.«dict.update.loop»:=entryFor_of_tree (by kernel_rfl)
theorem xaf:plainId "dict.update.loop"=true:=by decide+kernel
theorem xgx{prog:aH}{w:World}{A:aV}{E:Value→ae→Prop}{s:ae}{a:Addr}{o:Obj}{xs:Array Value}{k:Nat}{Q:Option Value→ae→Prop}
  (hx:s.heap.get? a=some o) (hc:o.cls= .type "list") (hdat:o.data= .seq xs k) (hd:o.dict=none) (hA:A.handled=none)
  (h:∀h' tk,(∀b ob,s.heap.get? b=some ob→h'.get? b=some ob)→Q none {s with heap:=h',toks:=tk}):
  wpAny (model prog w) A (getAttr? (.ref a) "keys") Q E s:=by
 obtain⟨c,dct,dat,sl⟩:=o;simp only at hc hdat hd;subst hc hdat hd;obtain⟨hp,g,d,tk,os⟩:=s;have hmiss:lB (.type "list") "keys"=pure none:=am_miss_of_fast (by decide+kernel);have hname:(["__module__","__name__","__qualname__","__doc__","__annotations__"]:List Str).contains "keys"=false:=by decide+kernel
 have hT:∀tk',(⟨hp,g,d,tk',os⟩:ae).TypeIs (.ref a) "list":=fun _=>⟨_,hx,rfl⟩;have f1:=sub_AttributeError;have f3:=gy.lookup;have f4:=gy.bind (.ref a);have f5:=am_list_getattr_none;unfold getAttr? getAttrBy? getAttrBy
 repeat (any_goals (first|assumption|exact hT _|((with_reducible show wpAny _ _ (call (Value.builtin "list.__getattribute__") _ _) _ _ _);refine gD gy (hT _) am_entry_list_getattribute (F.args_list_getattribute_2 _ _) (meets_getattribute_miss_list a xs k sl "keys" _ hmiss hname (by size_fits)) ⟨hx,hA,fun h' tk' e hx'=>?_⟩)|wp_step))
 obtain⟨t',u',he⟩:=hx'.there;show wpAny _ _ (getattributeRaised _ _ _ _ _ _ _) _ _ _;unfold getattributeRaised
 repeat (any_goals (first|assumption|wp_step))
 exact h _ _ hx'.keeps
section
variable {prog:aH} {w:World} {K:Type} [DecidableEq K] {knd:KeyKind prog w K} {A:aV} {R:gp→ae→Prop} {I D:Addr} {fp wr:List Addr} {P:Nat→Value→Prop} {St:Nat→Heap→Prop} {kvs:List (K×Value)} {ts:Nat→Addr} {z:Value}
theorem xg8{ks:List (K×Value)}{k:K}{v:Value}(h:k∉ks.map (·.1)):stored ks k v=ks++[(k,v)]:=by
 unfold stored;rw[if_neg];rw[dw];rintro⟨x,hx,e⟩;exact h (aN.mpr ⟨x,hx,of_decide_eq_true e⟩)
theorem xg9(W:Walks prog w A.in1 I fp wr kvs.length P St)(hP:∀i v,i<kvs.length→P i v→v= .ref (ts i))(hnd:(kvs.map (·.1)).Nodup)(hsz:kvs.length≤aL)(hD:D∉fp)(hts:∀i,i<kvs.length→ts i∉wr∧ts i≠D):∀(k j:Nat) (s:ae) (i:Int) (t:Tok),kvs.length - j=k→j≤kvs.length→St j s.heap→
  s.heap.DictOf knd D (kvs.take j)→(∀i p,kvs[i]? =some p→∃key,knd.is p.1 key=true∧IsTup s.heap (ts i) #[key,p.2])→
  (∀h' tk,h'.DictOf knd D kvs→(∀b o,b∉wr→b≠D→s.heap.get? b=some o→h'.get? b=some o)→R (.ok (.ret z)) {s with heap:=h',toks:=tk})→
  cU (model prog w) A (.builtin "dict.update.loop" ⟨[.ref D,.ref I,.int i t,z],[]⟩) R s
 |0,j,s,i,t,hk,hj,hst,hd,hp,hR=>by
  have hin:j=kvs.length:=by lia
  subst hin;have hDw:D∉wr:=fun h=>hD (W.sub _ h);refine cA xge ?_;rw[cC xaf _];show wpAny _ A.in1 (gn (.ref I) >>= _) _ _ s;refine aa (W.done s _ _ hst fun h' tk hk'=>?_);rw[bX]at hd;refine aa (ag (ag (hR h' tk ?_ fun b o hb _ e=>hk' b o hb e)));obtain⟨o,es,ep,ho,r⟩:=hd;exact⟨o,es,ep,hk' D _ hDw ho,r⟩
 |k+1,j,s,i,t,hk,hj,hst,hd,hp,hR=>by
  have hlt:j<kvs.length:=by lia
  have hDw:D∉wr:=fun h=>hD (W.sub _ h);refine cA xge ?_;rw[cC xaf _];show wpAny _ A.in1 (gn (.ref I) >>= _) _ _ s;refine aa (W.item j s _ _ hlt hst fun v h' tk hv hst' hk'=>?_);have ev:=hP _ _ hlt hv;subst ev;obtain⟨key,hkey,o,ho,hc,n,hdat⟩:=hp j _ (ai hlt);obtain⟨t1,t2⟩:=hts j hlt;have ho':=hk' _ _ t1 ho;refine aa (m:=dN _ _) (bo ?_);refine aa (dS ?_);unfold Builtin.Dict.pairItems;refine aa (fK (T:="tuple") ⟨o,ho',hc⟩ ?_);rw[if_pos (by decide)];refine aa (cK ho' hdat (ag ?_));have hd':h'.DictOf knd D (kvs.take j):=by
   obtain⟨o,es,ep,ho,r⟩:=hd;exact⟨o,es,ep,hk' D _ hDw ho,r⟩
  show wpAny _ A.in1 (dN [key,kvs[j].2] (dictSet D key kvs[j].2)) _ _ _;refine bo (wpAny_dictSet_pairs (hsz:=by rw[bI];lia) hkey hd' fun h2 hd2 hs2=>?_);refine ag ⟨bW xaf _,?_⟩;have hfresh:kvs[j].1∉(kvs.take j).map (·.1):=fun hm=>by
   obtain⟨x,hx,e⟩:=aN.mp hm;obtain⟨m,hm1,hm2⟩:=lX hx;rw[bI]at hm1;have hm3:m<j:=by lia
   have:=bt.mp hnd m j (by simp;lia) (by simp;lia) hm3;simp only[List.getElem_map]at this;rw[List.getElem_take]at hm2;exact this (by rw[hm2];exact e)
  rw[xg8 hfresh,List.take_append_getElem hlt]at hd2;refine xg9 W hP hnd hsz hD hts k (j+1) _ _ _ (by lia) hlt (W.frame _ _ _ hst' fun b hb o e=>(hs2.2 b (fun q=>hD (q▸hb))).trans e) hd2 (fun i p hip=>?_) fun h3 tk3 hd3 hk3=>?_
  ·obtain⟨key,hkey,o,ho,r⟩:=hp i p hip;have hil:i<kvs.length:=(aD.mp hip).1;obtain⟨u1,u2⟩:=hts i hil;exact⟨key,hkey,o,(hs2.2 _ u2).trans (hk' _ _ u1 ho),r⟩
  ·exact hR h3 tk3 hd3 fun b o hb hbD e=>hk3 b o hb hbD ((hs2.2 b hbD).trans (hk' b o hb e))
theorem xj9{E:Value→ae→Prop}{Q:Value→ae→Prop}{s:ae}{p:Addr}{its:List Value}(hA:A.handled=none)(hL:PlainL s.heap p its.toArray)(hlen:its.length=kvs.length)(hits:∀(i:Nat) (v:Value),its[i]? =some v→v= .ref (ts i))(htup:∀i pr,kvs[i]? =some pr→∃key,knd.is pr.1 key=true∧IsTup s.heap (ts i) #[key,pr.2])
  (hnd:(kvs.map (·.1)).Nodup) (hsz:kvs.length≤aL) (hQ:∀h' tk,h'.DictOf knd s.heap.objs.size kvs→(∀b o,s.heap.get? b=some o→h'.get? b=some o)→Q (.ref s.heap.objs.size) {s with heap:=h',toks:=tk}):
  wpAny (model prog w) A (call (.type "dict") [.ref p]) Q E s:=by
 refine k9 (Q₁:=fun obj s₁=>obj= .ref s.heap.objs.size∧s₁={s with heap:=s.heap.push {cls:=.type "dict",data:=.dict #[]}}) F.kt_called_dict (F.kt_typeCall_dict_1 _) F.entry_dict_init (kt_code_dict_new _ ⟨rfl,rfl⟩) ?_;rintro obj s₁ ⟨rfl,rfl⟩;have hnew:(s.heap.push {cls:=.type "dict",data:=.dict #[]}).DictOf knd s.heap.objs.size []:=mN s.heap;refine⟨hnew.typeIs,F.args_dict_init_2 _ _,?_⟩;generalize hG:s.heap.push {cls:=.type "dict",data:=.dict #[]}=G at hnew⊢;have old:∀b o,s.heap.get? b=some o→G.get? b=some o:=fun b o e=>by rw[←hG];exact af _ e
 obtain⟨lo,ln,l1,l2,l3,l4⟩:=hL;have l1':=old _ _ l1;unfold fY.«dict.__init__»;refine aa ?_;unfold Builtin.Dict.selfAndRest;refine aa (wpAny_notOrdered_dict hnew.typeIs ?_);show wpAny _ _ (pure (s.heap.objs.size,[aZ p])) _ _ _;refine ag ?_;show wpAny _ _ (kz "dict.__init__" s.heap.objs.size (.ref p) [] .none) _ _ _;unfold kz;refine aa (fK (T:="list") ⟨lo,l1',l2⟩ ?_);rw[if_pos (by decide)];refine aa (xgx l1' l2 l4 l3 hA fun h2 tk2 k2=>?_);rw[if_pos (by rfl)];refine aa (gE ?_);have hL2:h2.IsList p its.toArray:=PlainL.isList ⟨lo,ln,k2 _ _ l1',l2,l3,l4⟩;refine aa (eC hL2 ?_);have hpG:p<G.objs.size:=ak l1';have h2l:∀b o,G.get? b=some o→b<h2.objs.size:=fun b o e=>ak (k2 b o e);have hnD:s.heap.objs.size≠p:=fun e=>absurd (ak l1) (by rw[←e];exact bL _);have hDl:s.heap.objs.size<h2.objs.size:=by obtain⟨o,_,_,ho,_⟩:=hnew;exact h2l _ _ ho
 have hpl:p<h2.objs.size:=h2l _ _ l1';refine ag ⟨bW xaf _,?_⟩;have W:=ik (prog:=prog) (w:=w) (A:=A.in1.in1) hA h2.objs.size p (au hpl) its.toArray;have ez:its.toArray.size=kvs.length:=by simpa using hlen
 rw[ez]at W;refine xg9 (knd:=knd) (ts:=ts) W (fun i v hi hv=>hits i v (by simpa using hv)) hnd hsz ?_ (fun i hi=>?_) kvs.length 0 _ _ _ (by simp) (aM _) ⟨⟨_,az _ rfl,rfl,rfl⟩,hL2.push _⟩ ?_ (fun i pr hp=>?_) fun h3 tk3 hd3 hk3=>⟨rfl,hQ h3 tk3 hd3 fun b o e=>?_⟩
 ·intro hm;rcases ax.mp hm with e|e
  ·exact absurd e (au hDl)
  ·exact hnD (aA.mp e)
 ·obtain⟨key,_,o,ho,_⟩:=htup i _ (ai hi);have g1:=ak ho;have g2:=h2l _ _ (old _ _ ho);exact⟨fun e=>absurd (aA.mp e) (au g2),au g1⟩
 ·obtain⟨o,es,ep,ho,r⟩:=hnew;exact⟨o,es,ep,af _ (k2 _ _ ho),r⟩
 ·obtain⟨key,hk,o,ho,r⟩:=htup i pr hp;exact⟨key,hk,o,af _ (k2 _ _ (old _ _ ho)),r⟩
 ·have g1:=ak e;have g2:=h2l _ _ (old _ _ e);exact hk3 b o (fun z=>absurd (aA.mp z) (au g2)) (au g1) (af _ (k2 _ _ (old _ _ e)))
end
theorem xms{k:Key}{v:Value}(h:RelV (kV k) v):zK k v=true:=by
 cases k with
 |inl i=>obtain⟨t,rfl⟩:=h;simp[zK,mG]
 |inr x=>obtain⟨t,rfl⟩:=h;simp[zK,lL]
section
variable {X:Cx}
def xpv(K:ah):List V→Hp→VK→Prop:=fun xs H Q=>∃(p:Addr) (ts:List Addr) (kvs:List (Key×V)),xs=[.ref p]∧SqL K H p (ts.map V.ref)∧Paired (fun t (kv:Key×V)=>H t=some (.tup [kV kv.1,kv.2])) ts kvs∧(kvs.map (·.1)).Nodup∧∀d,H d=none→Q (.ref d) (upd H d (.dK kvs))
theorem xha{pins:List (Addr×Obj)}{σ:L2.St}{H:Hp}{s:ae}(I:Inv X pins σ H s):∀{ts:List Addr} {kvs:List (Key×V)},Paired (fun t (kv:Key×V)=>H t=some (.tup [kV kv.1,kv.2])) ts kvs→
  ∃vs:List (Key×Value),KV kvs vs∧∀(i:Nat) (t:Addr) (p:Key×Value),ts[i]? =some t→vs[i]? =some p→∃key,zK p.1 key=true∧IsTup s.heap t #[key,p.2]
 |_,_,.nil=>⟨[],.nil,fun i t p e _=>by simp at e⟩
 |t::_,kv::_,.cons h r=>by
  obtain⟨vs,h1,h2⟩:=xha I r;obtain⟨z,its,rl,tp⟩:=(show xG X.prog X.w H s.heap t (.tup [kV kv.1,kv.2])from I.hok t _ h);cases rl with
  |cons r1 rl=>
   cases rl with
   |cons r2 rl=>
    cases rl;rename_i u1 u2;refine⟨(kv.1,u2)::vs,.cons ⟨rfl,r2⟩ h1,fun i t' p e1 e2=>?_⟩;cases i with
    |zero=>cases e1;cases e2;exact⟨u1,xms r1,tp⟩
    |succ i=>exact h2 i t' p (by simpa using e1) (by simpa using e2)
theorem xka(hc:X.calm=true):yh X (.type "dict") (xpv X.K):=by
 intro pins s σ H xs us Q I r h;obtain⟨p,ts,kvs,rfl,hq,hp,hnd,q⟩:=h;obtain⟨u,rfl,rx⟩:=vals1 r;cases rx;obtain⟨its,r',pl,hz⟩:=I.list hq;obtain⟨vs,hkv,hvs⟩:=xha I hp;have e1:kvs.length=vs.length:=hkv.length;have e2:ts.length=kvs.length:=hp.length;have e3:its.length=ts.length:=by have:=r'.length;rw[ab]at this;lia
 have hzz:ts.length≤aL:=by rw[ab]at hz;exact hz
 refine xj9 (knd:=xP X.prog X.w) (kvs:=vs) (ts:=fun i=>ts.getD i 0) (I.ok.hd hc) pl (by lia) (fun i v hv=>?_) (fun i pr hpr=>?_) (by rw[←xex hkv];exact hnd) (by lia) fun h' tk hd hk=>?_
 ·have hi:i<ts.length:=by have:=(aD.mp hv).1;lia
  obtain⟨u,hu1,hu2⟩:=r'.get (i:=i) (x:=.ref ts[i]) (by simp[hi]);rw[hv]at hu1;cases hu1;rw[show v= .ref ts[i]from hu2];simp[a9,hi]
 ·have hi:i<ts.length:=by have:=(aD.mp hpr).1;lia
  have:=hvs i ts[i] pr (ai hi) hpr;have e:ts.getD i 0=ts[i]:=by simp[a9,hi]
  show∃key,zK pr.1 key=true∧IsTup s.heap (ts.getD i 0) #[key,pr.2];rw[e];exact this
 ·exact⟨.ref s.heap.objs.size,_,I.laid (t':=tk) hk (aj _) (xgV (by lia) (beq_eq_false_iff_ne.mpr (bE (au I.big))) hkv hd),rfl,q _ I.fresh⟩
end
end L2
namespace L2
open PySem PySem.Spec PyProof.Rows PySem.W
def bst(kk:Nat→List Int):Nat→Nat
 |0=>0
 |j+1=>if HT.lexLt (kk (j+1)) (kk (bst kk j))=true then j+1 else bst kk j
theorem xhb(kk:Nat→List Int):∀j,bst kk j≤j
 |0=>aj _
 |j+1=>by
  unfold bst
  split
  ·exact aj _
  ·exact Nat.le_succ_of_le (xhb kk j)
structure MJ(X:Cx)(H2:Hp)(s2:ae)(G:Hp)(s':ae):Prop where
 os:s'.os=s2.os
 bare:fH s'.gens
 un:Un (frs X.stack) [] H2 G s2.heap s'.heap
 hok:HOk X.prog X.w G s'.heap
 same:xb H2 G
theorem MJ.turn{X:Cx}{H2 G:Hp}{s2 s':ae}{h':Heap}{t:Nat}{b:Addr}(J:MJ X H2 s2 G s')(fb:G b=none)(hb:s2.heap.objs.size≤b)(k:∀c o,c≠b→s'.heap.get? c=some o→h'.get? c=some o):MJ X H2 s2 G {s' with heap:=h',toks:=t}:=by
 have lt2:∀c o,s2.heap.get? c=some o→c≠b:=fun c o q=>au (aw (ak q) hb);refine⟨J.os,J.bare,⟨fun c o q n1 n2 n3=>k c o (lt2 c o q) (J.un.keep c o q n1 n2 n3),fun c o q n1 n2 n3=>?_,J.un.free,fun c o q n3=>?_,J.un.fix⟩,xdT J.hok fb k,J.same⟩
 ·obtain⟨sl,e⟩:=J.un.slot c o q n1 n2 n3;exact⟨sl,k c _ (lt2 c o q) e⟩
 ·obtain⟨o',e⟩:=J.un.there c o q n3;exact⟨o',k c _ (lt2 c o q) e⟩
theorem MJ.inv{X:Cx}{H2 G:Hp}{s2 s':ae}{pins:List (Addr×Obj)}{σ:L2.St}(J:MJ X H2 s2 G s')(I:Inv X pins σ H2 s2):Inv X pins σ G s':=I.call' (s':=s') (ch:=[]) J.os J.un J.hok J.bare fun b z=>absurd z (by simp)
def xpw(kk:Nat→List Int)(xs:List Int)(G:Hp)(j:Nat)(old:Array Value):Prop:=
 (j=0∧old=#[])∨∃j',j=j'+1∧∃vb d,old=#[vb,.ref d]∧RelV (.int (xs.getD (bst kk j') 0)) vb∧G d=some (.tup ((kk (bst kk j')).map V.int))
section
variable {X:Cx} {k:Nat} {nm qual:Str} {params:cy} {body:dg} {scope:Scope} {ps:List Str} {sp:List (Str×V)→Sp} {pins:List (Addr×Obj)} {σ:L2.St} {H2:Hp} {s2:ae} {f l S It:Addr} {fv:List (Str×V)} {kk:Nat→List Int} {xs:List Int} {R:gp→ae→Prop}
theorem xmt(F:zy X.prog X.w X.K X.mg X.base CX0 k nm qual params body scope ps sp)(hr:xR (k+2) X.A)(hcm:X.calm=true)(I:Inv X pins σ H2 s2)(hc:yZ H2 f nm qual params body scope fv)(hl:SqL X.K H2 l (xs.map V.int))(hpos:0<xs.length)
  (hsp:∀i x,xs[i]? =some x→∀H3,xb H2 H3→sp fv [.int x] H3 (fun v H4=>xb H3 H4∧∃d,v= .ref d∧H4 d=some (.tup ((kk i).map V.int))) E0)
  (hS:s2.heap.objs.size≤S) (hI:s2.heap.objs.size≤It) (hSI:S≠It)
  (fin:∀v sF G',Inv X pins σ G' sF→xb H2 G'→RelV (.int (xs.getD (bst kk (xs.length - 1)) 0)) v→R (.ok (.ret v)) sF):
  ∀(r j:Nat) (s':ae) (G:Hp) (old:Array Value) (c:Nat),xs.length - j=r→j≤xs.length→MJ X H2 s2 G s'→G S=none→G It=none→s'.heap.get? S=some (a7 "list" old c)→xpw kk xs G j old→s'.heap.IsListIter It l j→
   cU (model X.prog X.w) X.A (.builtin "min.loop" ⟨[.ref It,.ref f,.ref S],[]⟩) R s':=by
  intro r
  induction r using Nat.strongRecOn with|ind r ih=>
  intro j s' G old c hk hj J fS fI atS hb hit;have hname:(toString "min"++toString ".loop":String)="min.loop":=by decide
  have Iu:=J.inv I;obtain⟨its,rel,pl,_⟩:=Iu.list (J.same.seq hl);have hn:its.length=xs.length:=by have:=rel.length;rw[ab]at this;exact this.symm
  have hlI:l≠It:=fun z=>by
   obtain⟨its2,_,⟨o,n,e,_⟩,_⟩:=I.list hl;exact absurd (ak e) (by rw[z];exact Nat.not_lt.mpr hI)
  have W:=ik (prog:=X.prog) (w:=X.w) (A:=X.A.in1) (I.ok.hd hcm) It l hlI its.toArray;have hsz:its.toArray.size=xs.length:=by simpa using hn
  refine cA PySem.F.entry_min_loop ?_;rw[cC PySem.F.plain_min_loop _];show wpAny _ X.A.in1 (iH (.ref S) >>= _) _ _ _;refine aa (cK atS rfl ?_);show wpAny _ X.A.in1 (tryCatch (gn (.ref It)) _ >>= _) _ _ _;cases r with
  |zero=>
   have ej:j=xs.length:=by lia
   refine aa (dS (W.done _ _ _ ⟨by rw[hsz,←ej];exact hit,pl.isList⟩ fun h' tk' hk'=>?_));have J1:MJ X H2 s2 G {s' with heap:=h',toks:=tk'}:=J.turn fI hI fun c o hc q=>hk' c o (by simpa using hc) q;have atS1:=hk' S _ (by simpa using hSI) atS;rcases hb with⟨z,_⟩|⟨j',ej',vb,d,rfl,rv,hd⟩
   ·lia
   show wpAny _ X.A.in1 (fM S (fun _=>#[]) >>= _) _ _ _;refine aa (cM atS1 rfl (aa (dq (ag ?_))) (by show(2:Nat)≤_;decide));have s1:=bK h' S (aW fun _=>(#[]:Array Value));have J2:=J1.turn (h':=h'.update S (aW fun _=>(#[]:Array Value))) (t:=tk') fS hS fun c o hc q=>(s1.2 c hc).trans q;refine fin vb _ G (J2.inv I) J.same ?_;have:xs.length - 1=j':=by lia
   rw[this];exact rv
  |succ r=>
   have hlt:j<xs.length:=by lia
   refine aa (dS (W.item j _ _ _ (by rw[hsz];exact hlt) ⟨hit,pl.isList⟩ fun v h' tk' hP hst' hk'=>?_));have J1:MJ X H2 s2 G {s' with heap:=h',toks:=tk'}:=J.turn fI hI fun c o hc q=>hk' c o (by simpa using hc) q;have atS1:=hk' S _ (by simpa using hSI) atS;obtain⟨oI,hoI,hoc,hod⟩:=hst'.1;have hv:its[j]? =some v:=by simpa using hP
   obtain⟨u,hu1,hu2⟩:=rel.get (i:=j) (x:=.int xs[j]) (by simp[hlt]);rw[hv]at hu1;cases hu1;have Iu1:=J1.inv I;have E0':vT X.prog X.w X.K X.mg X.base X.A.in1 X.stack {s' with heap:=h',toks:=tk'} G:=by
    have e:=Iu1.env0;exact⟨e.frames,e.mod,e.bs,e.bsz,e.funs,e.frf,e.hok,e.bare⟩
   show wpAny _ X.A.in1 (tryCatch (dN [v] (call (.ref f) [v])) _ >>= _) _ _ _;refine aa (dS (bo (gC (dH (F.run X.A.in1 X.stack _ G f fv _ [.int xs[j]] _ E0 (hr.in1.mono (dC k)) E0' (hc.same J.same) (.cons hu2 .nil) (hsp j xs[j] (ai hlt) G J.same)) fun rr s'' hq=>?_))));cases rr with
   |error e=>exact hq.elim
   |ok fl=>
    cases fl with
    |next=>exact hq.elim
    |brk=>exact hq.elim
    |cont=>exact hq.elim
    |ret u=>
     obtain⟨v',H',hos,hbare,hun,hhok,hrv,hSm,d,rfl,hd⟩:=hq;cases hrv;have atS2:=hun.keep S _ atS1 fS (I.young hS) (by simp);have atI2:=hun.keep It _ hoI fI (I.young hI) (by simp);have fS2:H' S=none:=hun.free S _ atS1 fS (by simp);have fI2:H' It=none:=hun.free It _ hoI fI (by simp);have J2:MJ X H2 s2 H' s'':=⟨hos.trans J.os,hbare,J1.un.trans hun,hhok,J.same.trans hSm⟩;have upS:∀(its2:Array Value),∃c2,(s''.heap.update S (aW fun _=>its2)).get? S=some (a7 "list" its2 c2):=fun its2=>⟨_,fA atS2 fun _=>its2⟩;have stS:∀(its2:Array Value) (t:Nat),MJ X H2 s2 H' {s'' with heap:=s''.heap.update S (aW fun _=>its2),toks:=t}:=fun its2 t=>
      J2.turn fS2 hS fun c o hc q=>((bK s''.heap S (aW fun _=>its2)).2 c hc).trans q
     have itS:∀(its2:Array Value),(s''.heap.update S (aW fun _=>its2)).IsListIter It l (j+1):=fun its2=>⟨oI,((bK s''.heap S (aW fun _=>its2)).2 It hSI.symm).trans atI2,hoc,hod⟩;rcases hb with⟨z,rfl⟩|⟨j',ej',vb,db,rfl,rv,hdb⟩
     ·subst z;show wpAny _ X.A.in1 (fM S (fun _=>#[v,.ref d]) >>= _) _ _ _;refine aa (cM atS2 rfl ?_);rw[hname];obtain⟨c2,hc2⟩:=upS #[v,.ref d];refine ag ⟨bW PySem.F.plain_min_loop _,ih r (cR r) 1 _ H' _ c2 (by lia) hlt (stS _ _) fS2 fI2 hc2 (.inr ⟨0,rfl,v,d,rfl,?_,hd⟩) (itS _)⟩;have:xs.getD (bst kk 0) 0=xs[0]:=by simp[bst,a9,hlt]
      rw[this];exact hu2
     ·have hdb2:=hSm.at hdb;obtain⟨_,its1,r1,p1⟩:=(show xG X.prog X.w H' s''.heap d _ from hhok d _ hd);obtain⟨_,its2,r2,p2⟩:=(show xG X.prog X.w H' s''.heap db _ from hhok db _ hdb2);show wpAny _ X.A.in1 (tryCatch (dN [v,.ref d] (bw .Lt (.ref d) (.ref db) >>= _)) _ >>= _) _ _ _;refine aa (dS (bo (aa (HT.xjK p1 p2 (intsAre_of r1) (intsAre_of r2) hr.in1.units0 ?_))));refine aa (bo (cH ?_));refine aa (dq (ag ?_));have ex:xs.getD j 0=xs[j]:=by simp[a9,hlt]
      subst ej'
      by_cases hb':HT.lexLt (kk (j'+1)) (kk (bst kk j'))=true
      ·have eb:bst kk (j'+1)=j'+1:=by show(if _ then _ else _)=_;rw[if_pos hb']
       simp only[hb',if_true];refine aa (cM atS2 rfl (aa (dq ?_)) (by show(2:Nat)≤_;decide));rw[hname];obtain⟨c2,hc2⟩:=upS #[v,.ref d];refine ag ⟨bW PySem.F.plain_min_loop _,ih r (cR r) (j'+1+1) _ H' _ c2 (by lia) hlt (stS _ _) fS2 fI2 hc2 (.inr ⟨j'+1,rfl,v,d,rfl,?_,?_⟩) (itS _)⟩
       ·rw[eb,ex];exact hu2
       ·rw[eb];exact hd
      ·have eb:bst kk (j'+1)=bst kk j':=by show(if _ then _ else _)=_;rw[if_neg hb']
       simp only[hb',aU,if_false];refine aa (dq ?_);rw[hname];refine ag ⟨bW PySem.F.plain_min_loop _,ih r (cR r) (j'+1+1) _ H' _ c (by lia) hlt J2 fS2 fI2 atS2 (.inr ⟨j'+1,rfl,vb,db,rfl,?_,?_⟩) ⟨oI,atI2,hoc,hod⟩⟩
       ·rw[eb];exact rv
       ·rw[eb];exact hdb2
def xql(K:ah)(nm qual:Str)(params:cy)(body:dg)(scope:Scope)(sp:List (Str×V)→Sp)(ta:TA)(tf:TE):TE:=fun σ H Q=>ta σ H fun ys H1=>tf σ H1 fun y H2=>
 ∃(l f:Addr) (xs:List Int) (fv:List (Str×V)) (kk:Nat→List Int),ys=[.ref l]∧y= .ref f∧SqL K H2 l (xs.map V.int)∧0<xs.length∧yZ H2 f nm qual params body scope fv∧
 (∀i x,xs[i]? =some x→∀H3,xb H2 H3→sp fv [.int x] H3 (fun v H4=>xb H3 H4∧∃d,v= .ref d∧H4 d=some (.tup ((kk i).map V.int))) E0)∧
 ∀(H':Hp),xb H2 H'→Q (.int (xs.getD (bst kk (xs.length - 1)) 0)) H'
theorem xnX{e fe:Expr}{ta:TA}{tf:TE}{p pos kp:Pos}(F:zy X.prog X.w X.K X.mg X.base CX0 k nm qual params body scope ps sp)(hr:xR (k+2) X.A)(hc:X.calm=true)(hg:Gl X "min")(hm:X.mg "min"=none)(ha:PA X [e] ta)(hf:PE X fe tf)
  (he:cZ pos (aY [e] X.env)=(false,eval e X.env)::cZ pos (aY [] X.env):=by rfl):
  PE X (.Call (.Name "min" p) [e] [⟨some "key",fe,kp⟩] pos) (xql X.K nm qual params body scope sp ta tf):=by
 intro pins s σ H Q I h;refine cb (yV I hg hm xb0 ?_ (by decide) (by decide));refine kR (thn (ha pos pins s σ H _ I h) fun us s1 ⟨xs,H1,I1,r1,q1⟩=>?_) he (by rw[he];rfl) rfl rfl;refine kws_cons (thn (hf pins s1 σ H1 _ I1 q1) fun fu s2 ⟨y,H2,I2,r2,q2⟩=>kws_nil ?_);obtain⟨l,f,xs,fv,kk,rfl,rfl,hl,hpos,hcl,hsp,q⟩:=q2;obtain⟨u,rfl,ru⟩:=Vals.one r1;cases ru;cases r2;have hname:(toString "min"++toString ".loop":String)="min.loop":=by decide
 obtain⟨its,rel,pl,_⟩:=I2.list hl;show wpAny _ _ (call (.builtin "min") [.ref l] [(bP "key",.ref f)]) _ _ s2;refine kmb_tree PySem.F.kind_min PySem.F.plain_min PySem.F.entry_min (kmb_min_key _ _) ?_;show wpAny _ X.A.in1 (d4 "min" ["key","default"] 0 ⟨[],[(bP "key",.ref f)]⟩ >>= _) _ _ s2;refine aa (kP (show d4 "min" ["key","default"] 0 ⟨[],[(bP "key",.ref f)]⟩=pure [some (.ref f),none]from rfl) ?_);refine aa (ag ?_);refine aa (eC pl.isList ?_);refine aa (fV ?_ (aM _));rw[hname];refine ag ⟨bW PySem.F.plain_min_loop _,?_⟩;have hSz:(s2.heap.push {cls:=.type "list_iterator",data:=.fields #[.ref l,.int 0 0]}).objs.size=s2.heap.objs.size+1:=cV ..;have hS1:s2.heap.objs.size≤(s2.heap.push {cls:=.type "list_iterator",data:=.fields #[.ref l,.int 0 0]}).objs.size:=by rw[hSz];exact dC _
 have old:∀b o,s2.heap.get? b=some o→((s2.heap.push {cls:=.type "list_iterator",data:=.fields #[.ref l,.int 0 0]}).push (a7 "list" #[] 0)).get? b=some o:=fun b o e=>af _ (af _ e);refine xmt (kk:=kk) F hr hc I2 hcl hl hpos hsp hS1 (aj _) (by rw[hSz];exact dX (cR _)) (fun v sF G' IF sm rv=>?_) xs.length 0 _ H2 #[] 0 (by simp) (aM _) ⟨rfl,I2.bare,Un.kept old,I2.hok.kept old,xb.refl _⟩
  (I2.hok.fresh hS1) (I2.hok.fresh (aj _)) (az _ rfl) (.inl ⟨rfl,rfl⟩) ⟨_,af _ (az _ rfl),rfl,rfl⟩
 exact⟨_,G',IF,rv,q G' sm⟩
end
end L2
namespace PySem.W
open PySem PySem.Calls PyProof.Rows
def xnY(h:Heap)(ks:List Value):Prop:=∀v∈ks,∃i t,v= .int i t
section
variable {prog:aH} {w:World} {A:aV} {E:Value→ae→Prop} {s:ae} {a kS:Addr} {vs:List Value} {e1:Nat} {f:Value} {P:PySem.Fin→ae→Prop}
def xfq(prog:aH)(w:World)(A:aV)(kS a:Addr)(vs:List Value)(P:PySem.Fin→ae→Prop)(ks:List Value)(s:ae):Prop:=
 ∃lt:Nat→Nat→Bool,L2.STO lt vs.length∧xnY s.heap ks∧(∀i j (C:Bool→ae→Prop),i<vs.length→j<vs.length→C (lt i j) s→wpAny (model prog w) A (keyLt' iz (ks.getD i bq) (ks.getD j bq)) C (fun _ _=>False) s)∧
 ∀p:Array Nat,L2.Pm vs.length p→L2.Up lt p vs.length→∀h' c,(∀b o,b≠kS→b≠a→s.heap.get? b=some o→h'.get? b=some o)→h'.get? a=some (a7 "list" (aC (p.toList.map fun i=>vs.getD i bq)) c)→P (.done (.ret .none)) {s with heap:=h'}
def zF(prog:aH)(w:World)(A:aV)(kS a:Addr)(e1:Nat)(f:Value)(vs:List Value)(P:PySem.Fin→ae→Prop):List Value→List Value→ae→Prop
 |[],ks,s=>s.heap.get? a=some (a7 "list" #[] e1)∧xfq prog w A kS a vs P ks s
 |v::r,ks,s=>wpAny (model prog w) A (call f [v]) (fun k s'=>(∃e,s'.heap.get? kS=some (a7 "list" (aC ks) e))∧∀h' c,(∀b o,b≠kS→s'.heap.get? b=some o→h'.get? b=some o)→h'.get? kS=some (a7 "list" (aC (ks++[k])) c)→zF prog w A kS a e1 f vs P r (ks++[k]) {s' with heap:=h'}) (fun _ _=>False) s
theorem xmu{ks:List Value}{e:Nat}(hak:a≠kS)(hl:ks.length=vs.length)(h64:vs.length<64)(ha:s.heap.get? a=some (a7 "list" #[] e1))(hk:s.heap.get? kS=some (a7 "list" (aC ks) e))
  (h:xfq prog w A kS a vs P ks s):wpAny (model prog w) A (ksk_end a false vs.toArray e1 (.ref kS) (aC ks)) P E s:=by
 obtain⟨lt,S,hL,hcmp,fin⟩:=h;unfold ksk_end
 try dsimp only
 by_cases h2:2≤vs.length
 ·have hn2:¬vs.toArray.size<2:=by rw[av];lia
  have hk1:wpAny (model prog w) A (keyKind' (aC ks)) (fun κ s'=>κ=iz∧s=s') (fun _ _=>False) s:=kas_kind (T:=cw "int") (by lia) (fun v hv=>by obtain⟨i,t,rfl⟩:=hL v hv;exact .now) (by decide) (by decide) ⟨rfl,rfl⟩;simp only[aU,if_false];rw[if_neg hn2,if_neg hn2];refine aa (bb hk1 (fun κ s0 hk=>?_) fun _ _ x=>x.elim);obtain⟨rfl,rfl⟩:=hk;have hw:(kas_sort vs.length).kasWp (kas_ask prog w A iz ks) (fun p s''=>s=s''∧L2.Pm vs.length p∧L2.Up lt p vs.length) s:=by
   refine L2.Wp.kas (lt:=lt) (n:=vs.length) (fun i j C hi hj hc=>hcmp i j C hi hj hc) ?_;exact L2.wp_mono (L2.xjb S h2) fun q hq=>⟨rfl,hq⟩
  refine aa (bb (kat_run (Q:=fun st' s'=>∃p:Array Nat,arrOf st'=p.map (kas_item ((aC ks).zip (aC vs)))∧failedOf st'=none∧s=s'∧L2.Pm vs.length p∧L2.Up lt p vs.length)
   hl h2 h64 (fun p' st' s' a1 a2 a3 a4=>⟨p',a2,a3,a4⟩) hw) ?_ fun _ _ x=>x)
  rintro⟨⟨⟩,st'⟩ s' ⟨p,har,hf,rfl,hp,hu⟩
  try dsimp only
  refine xbj hak (kat_snds hl har) (by rw[ab,aR,hp.size];exact h64) (by lia) hf ha hk fun h' c k1 k2=>fin p hp hu h' c k1 k2
 ·have hn2:vs.toArray.size<2:=by rw[av];lia
  simp only[aU,if_false];rw[if_pos hn2,if_pos hn2];refine aa (ag ?_);refine aa (ag ?_)
  try dsimp only
  have hsn:(arrOf (SortSt.mk' general' ((aC ks).zip (aC vs)) #[] 7 none)).map (·.2)=aC vs:=by
   show((aC ks).zip (aC vs)).map (·.2)=aC vs;apply kd.mp;simp[List.map_snd_zip,hl]
  refine xbj hak hsn h64 (by lia) rfl ha hk fun h' c k1 k2=>fin (aC (aO vs.length)) ⟨by simp,by simp⟩ (fun i j hij hj=>by lia) h' c k1 ?_;have e:((aC (aO vs.length)).toList.map fun i=>vs.getD i bq)=vs:=by
   apply eJ;intro i
   by_cases hi:i<vs.length
   ·simp[hi]
   ·simp[hi]
  rw[e];exact k2
theorem xgf{n:Nat}{body:Value→PUnit→Sem (ForInStep PUnit)}(hn:n<64)
  (hb:∀x ks (s:ae) (C:Value→Nat→ae→Prop),cD ks<64→wpAny (model prog w) A (call f [x]) (fun k s'=>(∃e,s'.heap.get? kS=some (a7 "list" (aC ks) e))∧∀h' c,(∀b o,b≠kS→s'.heap.get? b=some o→h'.get? b=some o)→h'.get? kS=some (a7 "list" (aC (ks++[k])) c)→C k c {s' with heap:=h'}) (fun _ _=>False) s→
   wpAny (model prog w) A (body x ⟨⟩) (fun r s'=>r= .yield ⟨⟩∧∃k c,s'.heap.get? kS=some (a7 "list" (aC (ks++[k])) c)∧C k c s') E s):∀(r ks:List Value) (e:Nat) (s:ae),ks.length+r.length=n→
   s.heap.get? kS=some (a7 "list" (aC ks) e)→zF prog w A kS a e1 f vs P r ks s→
   wpAny (model prog w) A (forIn r lI body) (fun _ s'=>∃ks e,s'.heap.get? kS=some (a7 "list" (aC ks) e)∧ks.length=n∧s'.heap.get? a=some (a7 "list" #[] e1)∧xfq prog w A kS a vs P ks s') E s
 |[],ks,e,s,hl,hk,h=>by
  rw[List.forIn_nil];exact ag ⟨ks,e,hk,by simpa using hl,h⟩
 |x::r,ks,e,s,hl,hk,h=>by
  rw[aT]at hl;rw[kK];have h':=h;unfold zF at h';refine aa (bb (hb x ks s (fun k c s'=>zF prog w A kS a e1 f vs P r (ks++[k]) s') (by lia) (bb h' (fun k s' hq=>hq) fun _ _ x=>x)) (fun q s' hq=>?_) fun _ _ x=>x);obtain⟨rfl,k,c,hk',h2⟩:=hq;show wpAny (model prog w) A (forIn r lI body) _ E s';exact xgf hn hb r (ks++[k]) c s' (by rw[ar,bN];lia) hk' h2
theorem xkb{n:Nat}(ho:s.heap.get? a=some (a7 "list" vs.toArray n))(h64:vs.length<64)
  (h:∀kS e1 h',(∀b o,b≠a→s.heap.get? b=some o→h'.get? b=some o)→h'.get? a=some (a7 "list" #[] e1)→h'.get? kS=some (a7 "list" #[] 0)→s.heap.objs.size≤kS→zF prog w A kS a e1 f vs P vs [] {s with heap:=h'}):
  wpAny (model prog w) A (ksk_tree a f false) P E s:=by
 have ha:a<s.heap.objs.size:=ak ho;have s1:=bK s.heap a (aW fun _=>(#[]:Array Value));obtain⟨e1,ho1⟩:∃e1,(s.heap.update a (aW fun _=>(#[]:Array Value))).get? a=some (a7 "list" #[] e1):=⟨_,fA ho fun _=>#[]⟩;have hkS:((s.heap.update a (aW fun _=>(#[]:Array Value))).push (a7 "tuple" vs.toArray 0)).objs.size=s.heap.objs.size+1:=by rw[size_push',ki]
 unfold ksk_tree;refine aa (kj ho rfl ?_);refine aa (fW ho rfl ?_ (by rw[av,ay];lia) (aM _));refine aa (seqEpoch_at ho1 rfl ?_);refine aa (wpAny_newTuple ?_ (by show vs.length≤_;rw[ay];lia));refine aa (fV ?_ (aM _));refine bo ?_;generalize hK:((s.heap.update a (aW fun _=>(#[]:Array Value))).push (a7 "tuple" vs.toArray 0)).objs.size=kS at hkS;generalize hh:((s.heap.update a (aW fun _=>(#[]:Array Value))).push (a7 "tuple" vs.toArray 0)).push (a7 "list" #[] 0)=h1;have hk0:h1.get? kS=some (a7 "list" #[] 0):=by rw[←hh,←hK];exact az _ rfl
 have hk:=h kS e1 h1 (fun b o hb q=>by rw[←hh];exact af _ (af _ ((s1.2 b hb).trans q))) (by rw[←hh];exact af _ (af _ ho1)) hk0 (by rw[hkS];exact dC _);have hak:a≠kS:=au (by rw[hkS];exact fE ha);unfold ksk_rest;refine aa (gE ?_)
 first
  |rw[mr]
  |(rw[←d0];simp only[lW])
  |rw[←d0]
 refine aa (bb (xgf h64 (fun x ks s' C hz hx=>?_) vs [] 0 {s with heap:=h1} (by simp) hk0 hk) (fun _ s' hd=>?_) fun _ _ x=>x)
 ·refine aa (lT (bb hx (fun k s'' hk=>?_) fun _ _ hF=>hF.elim));obtain⟨⟨e,nk⟩,c⟩:=hk;have s1:=bK s''.heap kS (aW (·.push k));have ea:(aC ks).push k=aC (ks++[k]):=by simp
  obtain⟨c2,hc2⟩:∃c2,(s''.heap.update kS (aW (·.push k))).get? kS=some (a7 "list" (aC (ks++[k])) c2):=⟨_,by rw[←ea];exact fA nk (·.push k)⟩
  try dsimp only
  refine aa (fW nk rfl ?_ (by rw[av,ay];lia) (bg (ib (kN ..)) (by rw[av,ay];lia)));exact ag ⟨rfl,k,c2,hc2,c _ c2 (fun b o hb q=>(s1.2 b hb).trans q) hc2⟩
 ·obtain⟨ks,e,hk',hl,ha',fin⟩:=hd
  try dsimp only
  refine aa (kj hk' rfl ?_);exact xmu hak hl h64 ha' hk' fin
end
end PySem.W
namespace L2
open PySem PySem.Spec PyProof.Rows PySem.W
structure xqm(X:Cx)(H2:Hp)(s2:ae)(kk:Nat→Int)(D kS:Addr)(e1:Nat)(ks:List Value)(G:Hp)(s':ae):Prop where
 os:s'.os=s2.os
 bare:fH s'.gens
 un:Un (frs X.stack) [] H2 G s2.heap s'.heap
 hok:HOk X.prog X.w G s'.heap
 same:xb H2 G
 keys:∀i,i<ks.length→∃t,ks[i]? =some (.int (kk i) t)
 atD:s'.heap.get? D=some (a7 "list" #[] e1)
 fD:G D=none
 fk:G kS=none
section
variable {X:Cx} {k:Nat} {nm qual:Str} {params:cy} {body:dg} {scope:Scope} {ps:List Str} {sp:List (Str×V)→Sp} {pins:List (Addr×Obj)} {σ:St} {H2:Hp} {s2:ae} {f D kS:Addr} {fv:List (Str×V)} {kk:Nat→Int} {vs:List Value} {xs:List V} {P:PySem.Fin→ae→Prop} {e1:Nat}
theorem xgg(F:zy X.prog X.w X.K X.mg X.base CX0 k nm qual params body scope ps sp)(hr:xR (k+2) X.A)(I:Inv X pins σ H2 s2)(hc:yZ H2 f nm qual params body scope fv)
  (hsp:∀i x,xs[i]? =some x→∀H3,xb H2 H3→sp fv [x] H3 (fun v H4=>xb H3 H4∧v= .int (kk i)) E0)
  (hv:Vals xs vs) (hD:s2.heap.objs.size≤D) (hk:s2.heap.objs.size≤kS) (hDk:D≠kS) (h64:vs.length<64)
  (S:STO (fun i j=>decide (kk i<kk j)) vs.length)
  (fin:∀p:Array Nat,Pm vs.length p→Up (fun i j=>decide (kk i<kk j)) p vs.length→∀sF G',Inv X pins σ G' sF→xb H2 G'→G' D=some (.lst (p.toList.map fun(i:Nat)=>xs.getD i .non))→P (.done (.ret .none)) sF):
  ∀(r ks:List Value) (s':ae) (G:Hp),r=vs.drop ks.length→ks.length≤vs.length→xqm X H2 s2 kk D kS e1 ks G s'→(∃e,s'.heap.get? kS=some (a7 "list" (aC ks) e))→
   zF X.prog X.w X.A.in1.in1 kS D e1 (.ref f) vs P r ks s'
 |[],ks,s',G,hr0,hle,J,hkS=>by
  have hlen:ks.length=vs.length:=by
   have:=congrArg cD hr0;simp at this;lia
  unfold zF;refine⟨J.atD,fun i j=>decide (kk i<kk j),S,fun v hvm=>?_,fun i j C hi hj hC=>?_,fun p hp hu h' c keep hDc=>?_⟩
  ·obtain⟨i,hi,rfl⟩:=cz.mp hvm;obtain⟨t,h1⟩:=J.keys i hi;rw[ai hi]at h1;exact⟨_,t,br h1⟩
  ·obtain⟨t1,a1⟩:=J.keys i (by lia);obtain⟨t2,b1⟩:=J.keys j (by lia);have g1:ks.getD i bq= .int (kk i) t1:=by simp[a9,a1]
   have g2:ks.getD j bq= .int (kk j) t2:=by simp[a9,b1]
   rw[g1,g2,keyLt'_oneType];exact oneLt_int hC
  ·have lenp:p.toList.length=vs.length:=by rw[aR];exact hp.size
   have hvals:Vals (p.toList.map fun(i:Nat)=>xs.getD i .non) (p.toList.map fun i=>vs.getD i bq):=by
    refine vx (by simp) fun j x u e1 e2=>?_;rw[ao]at e1 e2;cases q:p.toList[j]? with
    |none=>rw[q]at e1;cases e1
    |some m=>
     rw[q]at e1 e2;cases e1;have hm:m<vs.length:=bh.mp (hp.perm.mem_iff.mp (aG q));have hmx:m<xs.length:=by rw[hv.length];exact hm
     obtain⟨w',hw1,hw2⟩:=hv.get (i:=m) (x:=xs[m]) (ai hmx);cases e2;have g1:vs.getD m bq=w':=by simp[a9,hw1]
     have g2:xs.getD m .non=xs[m]:=by simp[a9,hmx]
     show RelV (xs.getD m .non) (vs.getD m bq);rw[g1,g2];exact hw2
   have newD:xG X.prog X.w (upd G D (.lst (p.toList.map fun(i:Nat)=>xs.getD i .non))) h' D (.lst (p.toList.map fun(i:Nat)=>xs.getD i .non)):=⟨by rw[ab,lenp,ay];lia,_,c,hvals,hDc⟩;have hokF:HOk X.prog X.w (upd G D (.lst (p.toList.map fun(i:Nat)=>xs.getD i .non))) h':=fun b u e=>by
    by_cases hb:b=D
    ·subst hb;rw[xk]at e;cases e;exact newD
    ·rw[xl hb]at e;refine(J.hok b u e).stay (fun c' v hc' q=>keep c' v ?_ ?_ q) (fun c' q=>by rw[xl (xJ q J.fD)];exact q) fun c' xs q _=>by rw[xl (xJ q J.fD)];exact q
     ·rintro rfl;rcases hc' with z|z
      ·rw[←z,J.fk]at e;cases e
      ·rw[J.fk]at z;cases z
     ·rintro rfl;rcases hc' with z|z
      ·exact hb z.symm
      ·rw[J.fD]at z;cases z
   have lt2:∀b o,s2.heap.get? b=some o→b≠D∧b≠kS:=fun b o q=>⟨au (aw (ak q) hD),au (aw (ak q) hk)⟩;have un2:Un (frs X.stack) [] H2 (upd G D (.lst (p.toList.map fun(i:Nat)=>xs.getD i .non))) s2.heap h':=by
    refine⟨fun b o q n1 n2 n3=>keep b o (lt2 b o q).2 (lt2 b o q).1 (J.un.keep b o q n1 n2 n3),fun b o q n1 n2 n3=>?_,fun b o q n1 n3=>by rw[xl (lt2 b o q).1];exact J.un.free b o q n1 n3,fun b o q n3=>?_,fun b u q fx=>?_⟩
    ·obtain⟨sl,e⟩:=J.un.slot b o q n1 n2 n3;exact⟨sl,keep b _ (lt2 b o q).2 (lt2 b o q).1 e⟩
    ·obtain⟨o',e⟩:=J.un.there b o q n3;exact⟨o',keep b _ (lt2 b o q).2 (lt2 b o q).1 e⟩
    ·have:=J.un.fix b u q fx;rw[xl (xJ this J.fD)];exact this
   have IF:Inv X pins σ (upd G D (.lst (p.toList.map fun(i:Nat)=>xs.getD i .non))) {s' with heap:=h'}:=I.call' (s':={s' with heap:=h'}) (ch:=[]) J.os un2 hokF J.bare fun b z=>absurd z (by simp);refine fin p hp hu _ _ IF (fun b u q=>?_) xk;have:=J.same b u q;rw[xl (xJ this J.fD)];exact this
 |x::r,ks,s',G,hr0,hle,J,hkS=>by
  have hlt:ks.length<vs.length:=by
   have:=congrArg cD hr0;simp at this;lia
  have hx:vs[ks.length]? =some x:=by
   have:=congrArg (fun l=>l[0]?) hr0;simp at this;exact this.symm
  have hr1:r=vs.drop (ks.length+1):=by
   have:=congrArg List.tail hr0;simpa using this
  have hxx:ks.length<xs.length:=by rw[hv.length];exact hlt
  obtain⟨w',hw1,hw2⟩:=hv.get (i:=ks.length) (x:=xs[ks.length]) (ai hxx);rw[hx]at hw1;cases hw1;have Iu:Inv X pins σ G s':=I.call' (s':=s') (ch:=[]) J.os J.un J.hok J.bare fun b z=>absurd z (by simp);have E0':vT X.prog X.w X.K X.mg X.base X.A.in1.in1 X.stack s' G:=by
   have e:=Iu.env0;exact⟨e.frames,e.mod,e.bs,e.bsz,e.funs,e.frf,e.hok,e.bare⟩
  unfold zF;refine gC (dH (F.run X.A.in1.in1 X.stack s' G f fv _ [xs[ks.length]] _ E0 hr.in1.in1 E0' (hc.same J.same) (.cons hw2 .nil) (hsp ks.length _ (ai hxx) G J.same)) fun rr s'' hq=>?_);cases rr with
  |error e=>exact hq.elim
  |ok fl=>
   cases fl with
   |next=>exact hq.elim
   |brk=>exact hq.elim
   |cont=>exact hq.elim
   |ret u=>
    obtain⟨v,H',hos,hbare,hun,hhok,hrv,hS,rfl⟩:=hq;obtain⟨tv,rfl⟩:=hrv;obtain⟨e,hkSe⟩:=hkS;have hDs:D∉frs X.stack:=I.young hD;have hks:kS∉frs X.stack:=I.young hk;have kD:=hun.keep D _ J.atD J.fD hDs (by simp);have kk2:=hun.keep kS _ hkSe J.fk hks (by simp);refine⟨⟨e,kk2⟩,fun h' c keep hnew=>?_⟩;refine xgg F hr I hc hsp hv hD hk hDk h64 S fin r (ks++[.int (kk ks.length) tv]) {s'' with heap:=h'} H' (by rw[hr1,ar];rfl) (by rw[ar];exact hlt) ⟨hos.trans J.os,hbare,?_,?_,J.same.trans hS,fun i hi=>?_,keep D _ hDk kD,hun.free D _ J.atD J.fD (by simp),hun.free kS _ hkSe J.fk (by simp)⟩ ⟨c,hnew⟩
    ·have u2:=J.un.trans hun;have lt2:∀b o,s2.heap.get? b=some o→b≠kS:=fun b o q=>au (aw (ak q) hk);refine⟨fun b o q n1 n2 n3=>keep b o (lt2 b o q) (u2.keep b o q n1 n2 n3),fun b o q n1 n2 n3=>?_,u2.free,fun b o q n3=>?_,u2.fix⟩
     ·obtain⟨sl,e⟩:=u2.slot b o q n1 n2 n3;exact⟨sl,keep b _ (lt2 b o q) e⟩
     ·obtain⟨o',e⟩:=u2.there b o q n3;exact⟨o',keep b _ (lt2 b o q) e⟩
    ·exact xdT hhok (hun.free kS _ hkSe J.fk (by simp)) fun c' o hcb q=>keep c' o hcb q
    ·rw[ar,bN]at hi
     by_cases hij:i=ks.length
     ·subst hij;exact⟨tv,by rw[bz (aj _)];simp⟩
     ·obtain⟨t',g1⟩:=J.keys i (by lia);exact⟨t',by rw[bp (by lia)];exact g1⟩
def xnZ(K:ah)(nm qual:Str)(params:cy)(body:dg)(scope:Scope)(sp:List (Str×V)→Sp)(ta:TA)(tf:TE):TE:=fun σ H Q=>ta σ H fun ys H1=>tf σ H1 fun y H2=>
 ∃(r f:Addr) (xs:List V) (fv:List (Str×V)) (kk:Nat→Int),ys=[.ref r]∧y= .ref f∧SqL K H2 r xs∧xs.length<64∧yZ H2 f nm qual params body scope fv∧
 (∀i x,xs[i]? =some x→∀H3,xb H2 H3→sp fv [x] H3 (fun v H4=>xb H3 H4∧v= .int (kk i)) E0)∧STO (fun i j=>decide (kk i<kk j)) xs.length∧
 ∀(l:Addr) (p:List Nat) (H':Hp),xb H2 H'→H2 l=none→H' l=some (.lst (p.map fun(i:Nat)=>xs.getD i .non))→p.Perm (aO xs.length)→(p.Pairwise fun i j=>decide (kk i<kk j)=true)→Q (.ref l) H'
theorem xiF{e fe:Expr}{ta:TA}{tf:TE}{p pos kp:Pos}(F:zy X.prog X.w X.K X.mg X.base CX0 k nm qual params body scope ps sp)(hr:xR (k+2) X.A)(hg:Gl X "sorted")(hm:X.mg "sorted"=none)(ha:PA X [e] ta)(hf:PE X fe tf)
  (he:cZ pos (aY [e] X.env)=(false,eval e X.env)::cZ pos (aY [] X.env):=by rfl):
  PE X (.Call (.Name "sorted" p) [e] [⟨some "key",fe,kp⟩] pos) (xnZ X.K nm qual params body scope sp ta tf):=by
 intro pins s σ H Q I h;refine cb (yV I hg hm xf7 ?_ (by decide) (by decide));refine kR (thn (ha pos pins s σ H _ I h) fun us s1 ⟨xs,H1,I1,r1,q1⟩=>?_) he (by rw[he];rfl) rfl rfl;refine kws_cons (thn (hf pins s1 σ H1 _ I1 q1) fun fu s2 ⟨y,H2,I2,r2,q2⟩=>kws_nil ?_);obtain⟨r,f,xs,fv,kk,rfl,rfl,hl,h64,hcl,hsp,S,q⟩:=q2;obtain⟨u,rfl,ru⟩:=Vals.one r1;cases ru;cases r2;obtain⟨its,rel,pl,_⟩:=I2.list hl;have hn:xs.length=its.length:=rel.length;show wpAny _ _ (call (.builtin "sorted") [.ref r] [(bP "key",.ref f)]) _ _ s2;refine call_function_entry_kw kind_sorted plain_sorted entry_sorted (ksk_s1 _ _) ?_;unfold fY.«sorted»;refine aa (m:=checkCount "sorted" 1 1 _) (ag ?_);refine aa (collect_list pl.isList ?_ (by rw[ay];lia));generalize hg':(s2.heap.push (a7 "list" #[] 0)).update s2.heap.objs.size (aW (· ++its.toArray))=g;have keep:∀b o,s2.heap.get? b=some o→g.get? b=some o:=fun b o e=>by
  rw[←hg'];exact(bA _ _ (dX (ak e))).trans (af _ e)
 have hlt:s2.heap.objs.size<g.objs.size:=by rw[←hg',ki,cV];exact cR _
 refine aa (fV ?_ (by rw[ay];lia));have hoL:(g.push (a7 "list" its.toArray 0)).get? g.objs.size=some (a7 "list" its.toArray 0):=az _ rfl;refine aa (bo (wpAny_call_entry_kw slot_list_sort ⟨_,hoL,rfl⟩ entry_list_sort ?body (ksk_l1 _ _)))
 case body=>
  show wpAny (model X.prog X.w) X.A.in1.in1 (fY.«list.sort» ⟨[.ref g.objs.size],[(bP "key",.ref f)]⟩) _ _ _;rw[ksk_t1];have h64':its.length<64:=by rw[←hn];exact h64
  have hsg:s2.heap.objs.size≤g.objs.size:=cx hlt;refine xkb (s:={s2 with heap:=g.push (a7 "list" its.toArray 0)}) hoL h64' fun kS e1 h' keep2 atD atk hkS=>?_;have hkS':g.objs.size<kS:=aw (by show g.objs.size<(g.push _).objs.size;rw[cV];exact cR _) hkS;have old:∀b o,s2.heap.get? b=some o→h'.get? b=some o:=fun b o e=>keep2 b o (au (aw (ak e) hsg)) (af _ (keep b o e));refine xgg (kk:=kk) (xs:=xs) F hr I2 hcl hsp rel hsg (bg hsg (cx hkS')) (au hkS') h64' (by rw[←hn];exact S) (fun p hp hu sF G' IF sm hDv=>?_) its [] _ H2 rfl (aM _)
   ⟨rfl,I2.bare,Un.kept old,I2.hok.kept old,xb.refl _,fun i hi=>absurd hi (dk _),atD,I2.hok.fresh hsg,I2.hok.fresh (bg hsg (cx hkS'))⟩ ⟨0,atk⟩
  rw[←hn]at hp hu;exact⟨_,rfl,ag ⟨_,rfl,.ref g.objs.size,G',IF,rfl,q _ p.toList G' sm (I2.hok.fresh hsg) hDv hp.perm (xdk hp hu)⟩⟩
end
end L2
namespace L2
open PySem PySem.Spec PyProof.Rows
section
variable {X:Cx} {tg:Expr} {K:ah}
theorem xmv{l:Expr}{tl:TE}(e:X.K=K)(hl:PE X l tl):PI X tg l (xm6 K tl):=e▸xZ hl
end
end L2
namespace L2
open PySem PySem.Spec PyProof.Rows
theorem xdm{K:ah}{l:Addr}{xs:List V}{te:TE}{caps:L2.St}{Q:VK}{H2:Hp}(Pv:Nat→List V→Hp→Prop)(hl:SqL K H2 l xs)(hn:xs.length≤aL)(h0:Pv 0 [] H2)
  (hs:∀(i:Nat) x acc H3 H3',xs[i]? =some x→xb H2 H3→xb H3 H3'→Pv i acc H3→∃T v1 v2,x= .ref T∧SqT K H3' T [v1,v2]∧∀R:VK,(∀u H6',xb H3' H6'→(∀H6,xb H3 H6→(∀p o,(H3' p=none∨∀ys,o≠HO.lst ys)→H6' p=some o→H6 p=some o)→Pv (i+1) (acc++[u]) H6)→R u H6')→te (some v1::some v2::caps) H3' R)
  (hd:∀D acc H H',H2 D=none→H D=none→xb H2 H→xb H H'→Pv xs.length acc H→acc.length=xs.length→H' D=some (.lst acc)→Q (.ref D) H'):vi K (Itl K l) caps xdO te Q H2:=by
 unfold vi;intro D hD;refine⟨fun i m acc H3=>m=xs.length - i∧i≤xs.length∧acc.length=i∧H3 D=some (.lst acc)∧xb H2 (del H3 D)∧Pv i acc (del H3 D),⟨xs.length,by simp,aM _,rfl,xk,?_,?_⟩,?_⟩
 ·rw[yv,zD hD];exact xb.refl _
 ·rw[yv,zD hD];exact h0
 rintro i m acc H3 ⟨rfl,hi,hacc,hD3,s3,p3⟩;refine⟨hD3,?_⟩;have q:=(s3.trans yO).seq hl
 by_cases hlt:i<xs.length
 ·have hx:xs[i]? =some xs[i]:=ai hlt;refine .inr ⟨⟨xs,xs[i],q,hx⟩,by lia,fun v H4 y=>?_⟩;obtain⟨e,y⟩:=y;have ev:=y xs q;rw[hx]at ev;cases ev;subst e;obtain⟨T,v1,v2,h1,h2,h3⟩:=hs i _ acc _ _ hx s3 yO p3;refine⟨T,v1,v2,h1,h2,fun _=>?_,fun z=>by cases z⟩;refine h3 _ fun u H6' s6 k=>⟨s6.at hD3,xs.length - (i+1),by lia,rfl,hlt,by simp[hacc],xk,?_,?_⟩
  ·rw[yv];exact s3.trans (zE s6)
  ·rw[yv];refine k _ (zE s6) fun p o q1 q2=>?_;rw[uG (fun z=>by
    rcases q1 with q1|q1
    ·rw[z,hD3]at q1;cases q1
    ·rw[z,s6.at hD3]at q2;cases q2;exact q1 _ rfl)]
   exact q2
 ·have e:i=xs.length:=by lia
  subst e;exact .inl ⟨⟨xs,q,aj _⟩,hd D acc _ H3 hD zr s3 yO p3 hacc hD3⟩
end L2
namespace L2
open PySem PySem.Spec PyProof.Rows
section
variable {X:Cx} {pos p2:Pos} {o:Expr} {lo hi:Option Expr} {to:TE} {tl th:TO}
def gSl(to:TE)(tl th:TO):TG:=fun v σ H Q=>to σ H fun o H1=>tl σ H1 fun lo H2=>th σ H2 fun hi H3=>∃l b xs ys a c,o= .ref l∧v= .ref b∧lo=some a∧hi=some c∧H3 l=some (.lst xs)∧H3 b=some (.lst ys)∧l≠b∧0≤a∧a≤c∧c≤xs.length∧xs.length+ys.length≤aL∧Q σ (upd H3 l (.lst (xs.take a.toNat++ys++xs.drop c.toNat)))
theorem xhc(ho:PE X o to)(hl:PO X lo tl)(hu:PO X hi th)
  (ha:∀v,hZ (.Subscript o (.Slice lo hi none p2) pos) X.env v=(do
   let ov ←dN [v] (eval o X.env)
   let iv ←dN [v,ov] (eval (.Slice lo hi none p2) X.env)
   kX pos
   dN [v,ov,iv] (j4 ov iv v)
   release [iv,v,ov] []):=by intro _;rfl):PG X (.Subscript o (.Slice lo hi none p2) pos) (gSl to tl th):=by
 intro pins s σ H v u Q I r h;rw[ha];refine aa (bo (thn (ho pins s σ H _ I h) fun ov s1 ⟨x,H1,I1,r1,q1⟩=>?_));refine aa (bo ?_);refine wpAny_Slice (thn (hl pins s1 σ H1 _ I1 q1) fun vl s2 ⟨lo',H2,I2,pl,q2⟩=>thn (hu pins s2 σ H2 _ I2 q2) fun vu s3 ⟨hi',H3,I3,pu,q3⟩=>?_);rw[lO];refine ag ?_;have I4:Inv X pins σ H3 {s3 with heap:=s3.heap.push {cls:=.type "slice",data:=.fields #[vl,vu,.none]}}:=I3.kept (t':=s3.toks) fun b ob q=>af _ q;obtain⟨l,b,xs,ys,a,c,rfl,rfl,rfl,rfl,hH,hB,hne,h0,hac,hc,hz,q⟩:=q3;cases r1;cases r;cases pl with
 |int _ t1=>
 cases pu with
 |int _ t2=>
 refine aa (iM (aa (bo ?_)));refine xkV I4 hH hB hne (mi ..) ⟨t1,rfl⟩ ⟨t2,rfl⟩ h0 hac hc hz fun s' I'=>?_;exact wpAny_release ⟨σ,_,I',q⟩
end
end L2
namespace L2
open PySem PySem.Spec PyProof.Rows
namespace ST
def m5(m x:Nat):Nat:=(x*5+1)%m
def it5(m:Nat):Nat→Nat→Nat
 |0,x=>x
 |k+1,x=>it5 m k (m5 m x)
theorem xcV(m:Nat):∀(a b x:Nat),it5 m (a+b) x=it5 m b (it5 m a x)
 |0,b,x=>by rw[ip];rfl
 |a+1,b,x=>by rw[mw];exact xcV m a b (m5 m x)
def Mk(mask:Nat):Prop:=mask=7∨mask=31∨mask=127
def orb(m:Nat):Nat→Nat→List Nat
 |0,_=>[]
 |k+1,x=>x::orb m k (m5 m x)
theorem xaZ(m:Nat):∀(n k x:Nat),k<n→(orb m n x)[k]? =some (it5 m k x)
 |n+1,0,x,_=>rfl
 |n+1,k+1,x,h=>by
  show(orb m n (m5 m x))[k]? =_;exact xaZ m n k (m5 m x) (by lia)
theorem full(m:Nat)(hm:m=8∨m=32∨m=128):(∀e,e<m→e∈orb m m 0)∧it5 m m 0=0:=by
 rcases hm with rfl|rfl|rfl
 ·exact⟨by decide+kernel,by decide+kernel⟩
 ·exact⟨by decide+kernel,by decide+kernel⟩
 ·exact⟨by decide+kernel,by decide+kernel⟩
theorem xnk{m:Nat}(hm:m=8∨m=32∨m=128){e:Nat}(he:e<m):∃k,k<m∧it5 m k 0=e:=by
 have h:=(full m hm).1 e he;obtain⟨k,hk⟩:=List.getElem?_of_mem h;have hl:k<m:=by
  rcases Nat.lt_or_ge k m with z|z
  ·exact z
  ·have hlen:∀n x,(orb m n x).length=n:=by
    intro n;induction n with
    |zero=>intro x;rfl
    |succ n ih=>intro x;show(orb m n (m5 m x)).length+1=_;rw[ih]
   rw[cn (by rw[hlen];exact z)]at hk;cases hk
 rw[xaZ m m k 0 hl]at hk;exact⟨k,hl,br hk⟩
theorem xpx{m:Nat}(hm:m=8∨m=32∨m=128){i e:Nat}(hi:i<m)(he:e<m):∃k,k<m∧it5 m k i=e:=by
 obtain⟨a,ha,ea⟩:=xnk hm hi;obtain⟨b,hb,eb⟩:=xnk hm he;have h0:=(full m hm).2
 by_cases hab:a≤b
 ·refine⟨b - a,by lia,?_⟩;rw[←ea,←xcV,show a+(b - a)=b by lia];exact eb
 ·refine⟨m - a+b,by lia,?_⟩;rw[←ea,←xcV,show a+(m - a+b)=m+b by lia,xcV,h0];exact eb
def lp(mask:Nat):Nat→Nat×Nat→Nat×Nat
 |0,x=>x
 |k+1,x=>lp mask k (iT mask x.1 x.2)
theorem xln(mask:Nat):∀(a b:Nat) (x:Nat×Nat),lp mask (a+b) x=lp mask b (lp mask a x)
 |0,b,x=>by rw[ip];rfl
 |a+1,b,x=>by rw[mw];exact xln mask a b _
theorem xlo(mask:Nat):∀(k:Nat) (x:Nat×Nat),(lp mask k x).2=x.2 / 32^k
 |0,x=>by show x.2=x.2 / 1;rw[Nat.div_one]
 |k+1,x=>by
  show(lp mask k (iT mask x.1 x.2)).2=_;rw[xlo mask k];show x.2 / 32 / 32^k=_;rw[Nat.div_div_eq_div_mul,Nat.pow_succ,Nat.mul_comm]
theorem xnl(mask:Nat):∀(k:Nat) (x:Nat×Nat),x.1<mask+1→(lp mask k x).1<mask+1
 |0,x,h=>h
 |k+1,x,h=>xnl mask k _ (Nat.mod_lt _ (by lia))
theorem xjf(mask:Nat):∀(k:Nat) (i:Nat),(lp mask k (i,0)).1=it5 (mask+1) k i
 |0,i=>rfl
 |k+1,i=>by
  show(lp mask k ((i*5+1+0 / 32)%(mask+1),0 / 32)).1=it5 (mask+1) k (m5 (mask+1) i);rw[Nat.zero_div,iq];exact xjf mask k _
theorem reach{mask:Nat}(hm:Mk mask){i p e:Nat}(hi:i<mask+1)(hp:p<2^64)(he:e<mask+1):∃k,k<cq mask∧(lp mask k (i,p)).1=e:=by
 have hm':mask+1=8∨mask+1=32∨mask+1=128:=by unfold Mk at hm;lia
 have h13:(lp mask 13 (i,p)).2=0:=by
  rw[xlo];exact Nat.div_eq_of_lt (aw hp (by decide))
 have hl:=xnl mask 13 (i,p) hi;obtain⟨k,hk,e2⟩:=xpx hm' hl he;refine⟨13+k,by unfold cq;lia,?_⟩;rw[xln];have:lp mask 13 (i,p)=((lp mask 13 (i,p)).1,0):=by rw[←h13]
 rw[this,xjf];exact e2
def adv(t:cL):Nat→dB→dB
 |0,p=>p
 |k+1,p=>adv t k (t.advance p)
theorem xjg(t:cL):∀(a b:Nat) (p:dB),adv t (a+b) p=adv t b (adv t a p)
 |0,b,p=>by rw[ip];rfl
 |a+1,b,p=>by rw[mw];exact xjg t a b _
def xdV(t:cL)(x:Nat×Nat):dB:={j:=x.1,more:=gh t.mask x.1 - x.1,i:=x.1,perturb:=x.2,dummy:=none}
theorem xhd(t:cL):∀(n:Nat) (p:dB),p.more=n→p.dummy=none→adv t (n+1) p=xdV t (iT t.mask p.i p.perturb)
 |0,p,h,hd=>by
  show t.advance p=_;unfold kl;rw[if_neg (by lia)];obtain⟨j,more,i,pe,dm⟩:=p;obtain rfl:dm=none:=hd;rfl
 |n+1,p,h,hd=>by
  show adv t (n+1) (t.advance p)=_;have e:t.advance p={p with j:=p.j+1,more:=p.more - 1}:=by
   unfold kl;rw[if_pos (by lia)]
  rw[e];exact xhd t n _ (by show p.more - 1=n;lia) hd
theorem xpy(mask i:Nat):gh mask i - i≤9:=by
 unfold gh;split<;> lia
theorem xjh(t:cL):∀(k:Nat) (x:Nat×Nat),∃s,s≤10*k∧adv t s (xdV t x)=xdV t (lp t.mask k x)
 |0,x=>⟨0,aj _,rfl⟩
 |k+1,x=>by
  obtain⟨s,hs,e⟩:=xjh t k (iT t.mask x.1 x.2);have h1:=xhd t _ (xdV t x) rfl rfl;have h2:(xdV t x).more≤9:=xpy _ _;refine⟨(xdV t x).more+1+s,by lia,?_⟩;rw[xjg,h1];exact e
def Meets(t:cL)(d:Nat)(p:dB):Prop:=p.dummy=none∧∃s,s≤d∧t.slot (adv t s p).j= .empty
theorem xlp(t:cL)(p:dB):(t.advance p).dummy=p.dummy:=by
 unfold kl;split<;> rfl
theorem xlq{t:cL}(hd:t.dummies=#[]){j:Nat}(h:j∉t.place.toList):t.slot j= .empty:=by
 unfold lU;have h1:(t.place[mO t.place j]? ==some j)=false:=by
  rw[beq_eq_false_iff_ne];intro z;exact h (b8.mpr (Array.mem_of_getElem? z))
 have h2:fL t.dummies j=false:=by
  unfold fL;rw[hd,beq_eq_false_iff_ne];intro z;simp at z
 dsimp only;rw[h1,h2];rfl
theorem xhe{t:cL}(hd:t.dummies=#[])(j:Nat):t.slot j≠.dummy:=by
 unfold lU;have h2:fL t.dummies j=false:=by
  unfold fL;rw[hd,beq_eq_false_iff_ne];intro z;simp at z
 dsimp only;rw[h2]
 split
 ·intro z;cases z
 ·intro z;cases z
theorem hole:∀(n:Nat) (l:List Nat),l.length<n→∃e,e<n∧e∉l
 |0,l,h=>by lia
 |n+1,l,h=>by
  by_cases hn:n∈l
  ·obtain⟨e,he,hl⟩:=hole n (l.filter (·≠n)) (by
    have:(l.filter (·≠n)).length<l.length:=by
     rcases Nat.lt_or_ge (l.filter (·≠n)).length l.length with z|z
     ·exact z
     ·have:=List.length_filter_eq_length_iff.mp (Nat.le_antisymm (bO _ _) z) n hn;simp at this
    lia)
   refine⟨e,by lia,fun z=>hl ?_⟩;rw[aK];exact⟨z,by simp;lia⟩
  ·exact⟨n,by lia,hn⟩
theorem xiG{t:cL}(hm:Mk t.mask)(hd:t.dummies=#[])(hf:t.place.size≤t.mask)(h:Int):Meets t (10*cq t.mask - 1) (t.probeStart h):=by
 obtain⟨e,he,hl⟩:=hole (t.mask+1) t.place.toList (by rw[aR];lia);have hb:cu h<2^64:=by
  unfold cu;have:=cf h (show(0:Int)<2^64 by decide);have:=cg h (show(2^64:Int)≠0 by decide);lia
 obtain⟨k,hk,ek⟩:=reach hm (Nat.mod_lt (cu h) (show 0<t.mask+1 by lia)) hb he;obtain⟨s,hs,es⟩:=xjh t k (cu h%(t.mask+1),cu h);refine⟨rfl,s,by lia,?_⟩;have e1:t.probeStart h=xdV t (cu h%(t.mask+1),cu h):=rfl;rw[e1,es];show t.slot (lp t.mask k _).1=_;rw[ek];exact xlq hd hl
theorem xhf{t:cL}(hd:t.dummies=#[])(hashAt:Nat→Int)(h:Int):∀(fuel d:Nat) (p:dB),d<fuel→Meets t d p→
  (∃j,i5 t hashAt h fuel p=some (.empty j none))∨∃j i next,i5 t hashAt h fuel p=some (.candidate j i next)∧t.slot j= .live i∧hashAt i=h∧0<d∧Meets t (d - 1) next
 |0,d,p,hf,_=>by lia
 |fuel+1,d,p,hf,hM=>by
  obtain⟨hp,s,hs,es⟩:=hM;unfold i5;cases hsl:t.slot p.j with
  |empty=>exact .inl ⟨p.j,by rw[hp]⟩
  |dummy=>exact absurd hsl (xhe hd _)
  |live i=>
   cases s with
   |zero=>rw[show adv t 0 p=p from rfl,hsl]at es;cases es
   |succ s=>
    have hM':Meets t (d - 1) (t.advance p):=⟨by rw[xlp,hp],s,by lia,es⟩;dsimp only
    by_cases he:(hashAt i==h)=true
    ·rw[if_pos he];exact .inr ⟨p.j,i,t.advance p,rfl,hsl,by simpa using he,by lia,hM'⟩
    ·rw[if_neg he];rcases xhf hd hashAt h fuel (d - 1) (t.advance p) (by lia) hM' with z|⟨j,i',next,z1,z2,z3,z4,z5⟩
     ·exact .inl z
     ·exact .inr ⟨j,i',next,z1,z2,z3,by lia,z5.1,z5.2.imp fun s q=>⟨by lia,q.2⟩⟩
end ST
end L2
namespace L2
open PySem PySem.Spec PyProof.Rows
namespace ST
theorem xgh{mask:Nat}{owner:Array (Option Nat)}{e:Nat}(he:owner[e]? =some none):∀(fuel k i p:Nat),k<fuel→(lp mask k (i,p)).1=e→
  ∃j,fB mask owner fuel i p=some j∧owner[j]? =some none
 |0,k,i,p,h,_=>by lia
 |fuel+1,k,i,p,h,hl=>by
  unfold fB;cases hf:(aO (gh mask i+1 - i)).find? fun k=>(owner.getD (i+k) (some 0)).isNone with
  |some k'=>
   refine⟨i+k',rfl,?_⟩;have:=kM hf;rw[dZ]at this;cases ho:owner[i+k']? with
   |none=>rw[ho]at this;cases this
   |some x=>
    rw[ho]at this;cases x with
    |none=>rfl
    |some y=>cases this
  |none=>
   dsimp only;cases k with
   |zero=>
    have hi:i=e:=hl;have:=fz.mp hf 0 (bh.mpr (by unfold gh;split<;> lia));rw[iq,hi,dZ,he]at this;exact absurd rfl this
   |succ k=>exact xgh he fuel k _ _ (by lia) hl
theorem xlr{k:Nat}:∀{l:List (Option Nat)} {j:Nat},l[j]? =some none→((l.set j (some k)).filterMap id).length=(l.filterMap id).length+1∧∀x∈(l.set j (some k)).filterMap id,x=k∨x∈l.filterMap id
 |[],j,h=>by simp at h
 |a::l,0,h=>by
  have:a=none:=by simpa using h
  subst this;exact⟨by simp,fun x hx=>by simpa using hx⟩
 |a::l,j+1,h=>by
  obtain⟨h1,h2⟩:=xlr (k:=k) (l:=l) (j:=j) (by simpa using h);cases a with
  |none=>exact⟨by simpa using h1,fun x hx=>by simpa using h2 x (by simpa using hx)⟩
  |some y=>
   refine⟨by simpa using h1,fun x hx=>?_⟩;have hx:x∈y::(l.set j (some k)).filterMap id:=hx;show x=k∨x∈y::l.filterMap id;rcases ax.mp hx with z|z
   ·exact .inr (by rw[z];exact aF)
   ·rcases h2 x z with z|z
    ·exact .inl z
    ·exact .inr (aq _ z)
theorem xji:∀{l:List (Option Nat)},(l.filterMap id).length<l.length→∃e:Nat,l[e]? =some none
 |[],h=>by simp at h
 |none::l,h=>⟨0,rfl⟩
 |some y::l,h=>by
  have h:(y::l.filterMap id).length<(some y::l).length:=h;rw[aT,aT]at h;obtain⟨e,he⟩:=xji (l:=l) (by lia);exact⟨e+1,by simpa using he⟩
structure Good(mask:Nat)(owner:Array (Option Nat))(k:Nat):Prop where
 size:owner.size=mask+1
 count:(owner.toList.filterMap id).length=k
 lt:∀x∈owner.toList.filterMap id,x<k
theorem xhg{mask:Nat}(hm:Mk mask):∀(hs:List Int) (owner:Array (Option Nat)) (k:Nat),Good mask owner k→k+hs.length≤mask+1→
  ∃owner',(hs.foldl (fun(acc:Option (Array (Option Nat)×Nat)) h=>do
   let(owner,k) ←acc
   let j ←fB mask owner (cq mask) (cu h%(mask+1)) (cu h)
   pure (owner.setIfInBounds j (some k),k+1)) (some (owner,k)))=some (owner',k+hs.length)∧Good mask owner' (k+hs.length)
 |[],owner,k,g,_=>⟨owner,rfl,g⟩
 |h::hs,owner,k,g,hl=>by
  rw[aT]at hl;obtain⟨e,he⟩:=xji (l:=owner.toList) (by rw[g.count,aR,g.size];lia);have he':owner[e]? =some none:=by rw[←dz];exact he
  have hel:e<mask+1:=by have:=(iU.mp he').1;rw[g.size]at this;exact this
  have hb:cu h<2^64:=by
   unfold cu;have:=cf h (show(0:Int)<2^64 by decide);have:=cg h (show(2^64:Int)≠0 by decide);lia
  obtain⟨n,hn,en⟩:=reach hm (Nat.mod_lt (cu h) (show 0<mask+1 by lia)) hb hel;obtain⟨j,ej,hj⟩:=xgh (mask:=mask) he' (cq mask) n _ _ hn en;have g':Good mask (owner.setIfInBounds j (some k)) (k+1):=by
   have hj':owner.toList[j]? =some none:=by rw[dz];exact hj
   obtain⟨f1,f2⟩:=xlr (k:=k) hj';refine⟨by rw[Array.size_setIfInBounds];exact g.size,?_,fun x hx=>?_⟩
   ·rw[iV,f1,g.count]
   ·rw[iV]at hx;rcases f2 x hx with z|z
    ·lia
    ·have:=g.lt x z;lia
  obtain⟨o',e1,e2⟩:=xhg hm hs _ (k+1) g' (by lia);refine⟨o',?_,by rw[aT,show k+(hs.length+1)=k+1+hs.length by lia];exact e2⟩;rw[kJ,aT,show k+(hs.length+1)=k+1+hs.length by lia];show hs.foldl _ (Option.bind (fB mask owner (cq mask) (cu h%(mask+1)) (cu h)) fun j=>some (owner.setIfInBounds j (some k),k+1))=_;rw[ej];exact e1
theorem xls{mask:Nat}(hm:Mk mask)(hs:Array Int)(hl:hs.size≤mask+1):∃owner,mF mask hs=some owner∧Good mask owner hs.size:=by
 have g0:Good mask (Array.replicate (mask+1) none) 0:=by
  refine⟨by simp,?_,?_⟩
  ·rw[kW];simp
  ·intro x hx;rw[kW]at hx;simp at hx
 obtain⟨o',e1,e2⟩:=xhg hm hs.toList _ 0 g0 (by rw[aR];lia);rw[ip,aR]at e1 e2;refine⟨o',?_,e2⟩;unfold mF;rw[←Array.foldl_toList,e1];rfl
theorem xmw:∀(l:List (Option Nat)),((aO l.length).filterMap fun j=>(l[j]?.getD none).map fun x=>(j,x)).map (·.2)=l.filterMap id:=by
 intro l;rw[List.map_filterMap];have e:l=(aO l.length).map fun j=>l[j]?.getD none:=by
  refine eJ fun i=>?_;rw[ao]
  by_cases hi:i<l.length
  ·rw[f6 hi,ai hi];simp[ai hi]
  ·rw[cn (by lia),cn (by simp;lia)];rfl
 conv=>rhs;rw[e,me]
 congr 1
 funext j
 show lG (fun x=>x.snd) (lG (fun x=>(j,x)) (l[j]?.getD none))=l[j]?.getD none;cases l[j]?.getD none<;> rfl
theorem xlt{mask finger moves:Nat}{led plain:Bool}(hm:Mk mask)(hs:Array Int)(hl:hs.size≤mask+1):
  ∃t order,SetTable.laid mask finger moves led plain hs=some (t,order)∧t.mask=mask∧t.dummies=#[]∧t.led=led∧t.place.size=hs.size∧order.size=hs.size∧∀x∈order.toList,x<hs.size:=by
 obtain⟨owner,e,g⟩:=xls hm hs hl;have e0:((aO (mask+1)).filterMap fun j=>(owner.getD j none).map (j,·))=(aO owner.toList.length).filterMap fun j=>(owner.toList[j]?.getD none).map fun x=>(j,x):=by
  rw[aR,g.size]
  congr 1
  funext j
  rw[dZ,dz]
 have e2:=xmw owner.toList;rw[←e0]at e2;have e3:=congrArg cD e2;rw[g.count,ab]at e3;refine⟨{mask,place:=(((aO (mask+1)).filterMap fun j=>(owner.getD j none).map (j,·)).map (·.1)).toArray,dummies:=#[],finger,led,moves,plain},(((aO (mask+1)).filterMap fun j=>(owner.getD j none).map (j,·)).map (·.2)).toArray,?_,rfl,rfl,rfl,?_,?_,?_⟩
 ·unfold SetTable.laid;rw[e];rfl
 ·rw[av,ab];exact e3
 ·rw[av,ab];exact e3
 ·intro x hx;have:x∈owner.toList.filterMap id:=by rw[←e2];simpa using hx
  exact g.lt x this
theorem xhh{α:Type}(es:Array α):∀(l:List Nat),(∀x∈l,x<es.size)→(l.filterMap (es[·]?)).length=l.length∧∀y∈l.filterMap (es[·]?),y∈es.toList
 |[],_=>⟨rfl,fun y hy=>by simp at hy⟩
 |x::l,h=>by
  obtain⟨h1,h2⟩:=xhh es l fun y hy=>h y (aq _ hy);have hx:=h x aF;have e:es[x]? =some es[x]:=cF hx;rw[List.filterMap_cons_some e];refine⟨by rw[aT,aT,h1],fun y hy=>?_⟩;rcases ax.mp hy with z|z
  ·rw[z];exact b8.mpr (fC hx)
  ·exact h2 y z
structure TOk(t:cL)(n:Nat):Prop where
 dum:t.dummies=#[]
 size:t.place.size=n
 room:(t.mask=7∧n≤4)∨(t.mask=31∧n≤18)∨(t.mask=127∧n≤76)
theorem TOk.mk'{t:cL}{n:Nat}(h:TOk t n):Mk t.mask:=by
 unfold Mk;rcases h.room with z|z|z
 ·exact .inl z.1
 ·exact .inr (.inl z.1)
 ·exact .inr (.inr z.1)
theorem TOk.le{t:cL}{n:Nat}(h:TOk t n):n≤t.mask:=by
 rcases h.room with z|z|z<;> lia
theorem TOk.fits{t:cL}{n:Nat}(h:TOk t n):t.fits n=true:=by
 unfold iW iX;rw[h.dum,h.size];have:=h.le;simp;exact this
theorem TOk.odd{t:cL}{n:Nat}(h:TOk t n):t.gaveWay=false:=by
 unfold SetTable.gaveWay;rcases h.room with z|z|z<;> rw[z.1]<;> rfl
theorem xhi{α:Type}(xs:Array α)(p:Nat)(x:α):(cY xs p x).size=xs.size+1:=by
 unfold cY;simp only[mD,kN,mj];lia
theorem xn0{α:Type}(xs:Array α)(p:Nat)(x y:α)(h:y∈(cY xs p x).toList):y=x∨y∈xs.toList:=by
 unfold cY at h;rw[b8,Array.mem_append,Array.mem_push]at h;rcases h with(z|z)|z
 ·obtain⟨i,_,rfl⟩:=ir.mp z;exact .inr (b8.mpr (fC _))
 ·exact .inl z
 ·obtain⟨i,_,rfl⟩:=ir.mp z;exact .inr (b8.mpr (fC _))
end ST
end L2
namespace L2
open PySem PySem.Spec PyProof.Rows
namespace ST
section
variable {prog:aH} {w:World} {A:aV} {E:Value→ae→Prop} {s:ae}
abbrev yk(prog:aH)(w:World)(h:Heap)(ks:List Key)(a:Addr):Prop:=IsTupleKey (xP prog w) h ks a
theorem xgy(n:Nat){v:Value}(h:carriedByValue v=true):i6 n v=pure false:=by
 cases v<;> first|(cases h;done)|(cases n<;> rfl)
theorem xhj{ks:List Key}{a:Addr}{Q:Bool→ae→Prop}(hk:yk prog w s.heap ks a)(h:Q false s):wpAny (model prog w) A (i6 8 (.ref a)) Q E s:=by
 have hT:=hk.typeIs;obtain⟨o,items,n,ho,hc,hd,hi⟩:=hk;unfold i6;refine aa (wpAny_typeOf_ref ho ?_);rw[hc];refine aa (ag ?_);simp only[iY,aU,if_false];refine aa (cK ho hd ?_);dsimp only;refine aa ?_;show wpAny _ _ (forIn items _ _) _ _ s;rw[←d0];refine gT _ (fun rest r s'=>r.1=none∧s'=s∧∀v∈rest,carriedByValue v=true) _ ?_ ?_ _ _ ⟨rfl,rfl,hi.byValue⟩
 ·rintro v rest r s' ⟨hr,rfl,hall⟩;rw[xgy _ (hall v aF)];refine aa (ag ?_);simp only[aU,if_false];exact ag ⟨rfl,rfl,fun u hu'=>hall u (aq _ hu')⟩
 ·rintro⟨r1,r2⟩ s' ⟨hr,rfl,_⟩;simp only at hr;subst hr;exact ag h
theorem xey:∀{ks:List Key} {vs:List Value},ItemsAre (xP prog w) ks vs→∀v∈vs,v.scannable=true
 |_,_,.nil,v,hv=>by simp at hv
 |_,_,.cons h t,v,hv=>by
  rcases ax.mp hv with rfl|hv
  ·rcases yg h with⟨i,t,_,rfl⟩|⟨x,t,_,rfl⟩<;> rfl
  ·exact xey t v hv
theorem xpz{ks:List Key}{a:Addr}{Q:Bool→ae→Prop}(hk:yk prog w s.heap ks a)(h:∀b,Q b s):wpAny (model prog w) A (hashByValue 8 (.ref a)) Q E s:=by
 have hT:=hk.typeIs;obtain⟨o,items,n,ho,hc,hd,hi⟩:=hk;unfold hashByValue;refine aa (ie hT F.slot_tuple_hash.lookup ?_);dsimp only;refine aa (cK ho hd ?_);refine aa ?_;show wpAny _ _ (forIn items _ _) _ _ s;rw[←d0];refine gT _ (fun rest r s'=>r.1=none∧s'=s∧∀v∈rest,v.scannable=true) _ ?_ ?_ _ _ ⟨rfl,rfl,xey hi⟩
 ·rintro v rest r s' ⟨hr,rfl,hall⟩;rw[hashByValue_scannable 7 (hall v aF)];refine aa (ag ?_)
  split
  ·exact ag (ag (h _))
  ·exact ag ⟨rfl,rfl,fun u hu'=>hall u (aq _ hu')⟩
 ·rintro⟨r1,r2⟩ s' ⟨hr,rfl,_⟩;simp only at hr;subst hr;exact ag (h _)
theorem xn1{ks:List Key}{a:Addr}{stored:List Value}{Q:Bool→ae→Prop}(hk:yk prog w s.heap ks a)(hs:∀y∈stored,∃b kb,y= .ref b∧yk prog w s.heap kb b)(h:Q false s):
  wpAny (model prog w) A (searchCouldBeSeen (.ref a) stored) Q E s:=by
 unfold searchCouldBeSeen;refine aa ?_;refine gT _ (fun rest r s'=>r.1=none∧s'=s∧∀y∈rest,∃b kb,y= .ref b∧yk prog w s.heap kb b) _ ?_ ?_ _ _ ⟨rfl,rfl,hs⟩
 ·rintro v rest r s' ⟨hr,rfl,hall⟩;obtain⟨b,kb,rfl,hb⟩:=hall v aF;have nx:∀u∈rest,∃b kb,u= .ref b∧yk prog w s'.heap kb b:=fun u hu'=>hall u (aq _ hu');dsimp only
  split
  ·exact ag ⟨rfl,rfl,nx⟩
  ·refine aa (wpAny_eqIsQuiet_tuple hk ?_);simp only[iY,aU,if_false];refine aa (wpAny_eqIsQuiet_tuple hb ?_);simp only[iY,aU,if_false];refine aa (xhj hk ?_);simp only[aU,if_false];refine aa (xhj hb ?_);simp only[aU,if_false];exact ag ⟨rfl,rfl,nx⟩
 ·rintro⟨r1,r2⟩ s' ⟨hr,rfl,_⟩;simp only at hr;subst hr;exact ag h
end
end ST
end L2
namespace L2
open PySem PySem.Spec PyProof.Rows
namespace ST
section
variable {prog:aH} {w:World} {A:aV} {E:Value→ae→Prop} {s:ae}
theorem xlu{t:cL}{j i:Nat}(h:t.slot j= .live i):t.place[i]? =some j:=by
 unfold lU at h;dsimp only at h
 split at h
 ·rename_i hb;injection h with h;rw[←h];exact eq_of_beq hb
 ·split at h<;> cases h
theorem xgi{a r:Addr}{o:Obj}{es:Array (Int×Value)}{ep n:Nat}{t:cL}{k:List Key}{h:Int}{Q:SetFound→ae→Prop}(hu:A.units<cLine)(ho:s.heap.get? a=some o)(hd:o.data= .set es ep t)(hz:es.size=n)(ok:TOk t n)
  (hk:yk prog w s.heap k r) (hes:∀e∈es.toList,∃b kb,e.2= .ref b∧yk prog w s.heap kb b∧kb≠k) (q:∀slot,Q (.free slot false) s):
  ∀(fuel d:Nat) (stand:Option dB),d<fuel→d<10*cq t.mask→Meets t d (stand.getD (t.probeStart h))→wpAny (model prog w) A (eA a (.ref r) h true fuel stand) Q E s
 |0,d,stand,hf,_,_=>by lia
 |fuel+1,d,stand,hf,hd2,hM=>by
  have hfit:t.fits es.size=true:=by rw[hz];exact ok.fits
  unfold eA;refine aa (fF ho hd hfit ?_);dsimp only;rw[ok.odd];simp only[aU,if_false];have pg:=fun F=>xhf ok.dum F h (10*cq t.mask) d _ hd2 hM;generalize hg:t.probe _ h (stand.getD (t.probeStart h))=met;rcases pg _ with⟨j,e⟩|⟨j,i,next,e,hsl,_,hd0,hM'⟩
  ·have e':=hg.symm.trans e;subst e';exact ag (q j)
  ·have e':=hg.symm.trans e;subst e';dsimp only;have hi:i<es.size:=by
    have:=(iU.mp (xlu hsl)).1;rw[ok.size]at this;lia
   have hei:es[i]? =some es[i]:=cF hi;obtain⟨b,kb,eb,hb,hne⟩:=hes es[i] (b8.mpr (fC hi));have hsm:t.sameMemory t.moves t.mask=some true:=by unfold SetTable.sameMemory;rw[if_pos (beq_self_eq_true _)]
   have hrec:=xgi (h:=h) hu ho hd hz ok hk hes q fuel (d - 1) (some next) (by lia) (by lia) hM';generalize hE:es[i]=ei at hei eb;obtain⟨hh,y⟩:=ei;obtain rfl:y= .ref b:=eb;have tl:wpAny (model prog w) A (dN [aZ b] (eqBool (.ref b) (.ref r)) >>= fun equal=>setState a >>= fun x=>if (true&&equal)=true then pure (iB none)else match x.2.2.sameMemory t.moves t.mask with
     |some same=>(match (if same=true then x.2.2.slot j else SetTable.Slot.empty)with
      |SetTable.Slot.live i'=>(match x.1[i']? with
       |some (_,y')=>isSame y' (.ref b) >>= fun l=>pure (if l=true then some i' else none) >>= fun still=>(match still with
        |none=>rule "set.search.anew" >>= fun _=>eA a (.ref r) h true fuel none
        |some i'=>if equal=true then pure (iB (some i'))else eA a (.ref r) h true fuel (some next))
       |none=>pure none >>= fun still=>(match still with
        |none=>rule "set.search.anew" >>= fun _=>eA a (.ref r) h true fuel none
        |some i'=>if equal=true then pure (iB (some i'))else eA a (.ref r) h true fuel (some next)))
      |_=>pure none >>= fun still=>(match still with
        |none=>rule "set.search.anew" >>= fun _=>eA a (.ref r) h true fuel none
        |some i'=>if equal=true then pure (iB (some i'))else eA a (.ref r) h true fuel (some next)))
     |_=>kQ "set.changed-during-lookup:is-the-new-block-at-the-old-address") Q E s:=by
    refine aa (bo (wpAny_eqBool_tuple hu hb hk ?_));rw[decide_eq_false hne];refine aa (fF ho hd hfit ?_);dsimp only;simp only[kZ,aU,if_false];rw[hsm];dsimp only;rw[if_pos rfl,hsl];dsimp only;rw[hei];dsimp only;refine aa (wpAny_isSame_ref_self ?_);refine aa (ag ?_);exact hrec
   split
   ·refine aa (xn1 hk (fun y hy=>?_) ?_)
    ·obtain⟨e,he,rfl⟩:=aN.mp hy;have:e∈es.toList:=by
      rw[b8,Array.mem_filter]at he;exact b8.mpr he.1
     obtain⟨b',kb',e1,e2,_⟩:=hes e this;exact⟨b',kb',e1,e2⟩
    ·simp only[aU,if_false];rw[hei];exact tl
   ·rw[hei];exact tl
def vj(prog:aH)(w:World)(h:Heap)(a:Addr)(n:Nat)(p:Addr→List Key→Prop):Prop:=
 ∃o es ep t,h.get? a=some o∧o.ExactSet∧o.data= .set es ep t∧es.size=n∧TOk t n∧∀e∈es.toList,∃b kb,e.2= .ref b∧yk prog w h kb b∧p b kb
theorem yk.but{h h':Heap}{a b:Addr}{o:Obj}{es:Array (Int×Value)}{ep:Nat}{t:cL}{k:List Key}(x:yk prog w h k b)(ho:h.get? a=some o)(hd:o.data= .set es ep t)(hs:fJ a h h'):yk prog w h' k b:=by
 obtain⟨o',items,n,ho',hc,hd',hi⟩:=x;have hne:b≠a:=by
  rintro rfl;obtain rfl:o'=o:=br (ho'.symm.trans ho);rw[hd]at hd';exact nomatch hd'
 exact⟨o',items,n,(hs.2 b hne).trans ho',hc,hd',hi⟩
theorem xhk:iJ (gF 5)=32:=by decide+kernel
theorem xhl:iJ (gF 19)=128:=by decide+kernel
theorem stored{h:Heap}{a:Addr}{o:Obj}{es:Array (Int×Value)}{ep:Nat}{t:cL}(ho:h.get? a=some o)(hd:o.data= .set es ep t)(es':Array (Int×Value))(t':cL):
  (h.update a (lJ es' t')).get? a=some {o with data:=.set es' (ep+1) t'}:=by
 have:=cm (lJ es' t') ho (by rw[putSet_of es' t' hd];rfl);rw[putSet_of es' t' hd]at this;exact this
theorem xpA{a r:Addr}{n:Nat}{p:Addr→List Key→Prop}{k:List Key}{hv:Int}{Q:Bool→ae→Prop}(hu:A.units<cLine)(hS:vj prog w s.heap a n p)(hn:n<76)(hk:yk prog w s.heap k r)(hp:∀b,¬p b k)
  (q:∀h',fJ a s.heap h'→vj prog w h' a (n+1) (fun b x=>p b x∨(b=r∧x=k))→Q true {s with heap:=h'}):wpAny (model prog w) A (setAddHashed a (.ref r) hv) Q E s:=by
 obtain⟨o,es,ep,t,ho,hex,hd,hz,ok,hes⟩:=hS;have hfit:t.fits es.size=true:=by rw[hz];exact ok.fits
 unfold setAddHashed setAddHashedIn;refine bo (aa (fF ho hd hfit ?_));dsimp only;have hsc:byScan (.ref r) es=false:=rfl;rw[hsc];simp only[aU,if_false];have hle:=ok.le;refine aa (xgi (h:=hv) hu ho hd hz ok hk (fun e he=>?_) (fun slot=>?_) 100000 (10*cq t.mask - 1) none ?_ ?_ (xiG ok.mk' ok.dum (by rw[ok.size];exact hle) hv))
 ·obtain⟨b,kb,e1,e2,e3⟩:=hes e he;exact⟨b,kb,e1,e2,fun z=>hp b (z▸e3)⟩
 ·dsimp only;refine aa (fF ho hd hfit ?_);dsimp only;have fin:∀b:Bool,wpAny (model prog w) A (do
    storeSet a (cY es (t.put slot).2 (hv,.ref r)) (if b=true then(t.put slot).1 else{(t.put slot).1 with plain:=false})
    if (!false&&(if b=true then(t.put slot).1 else{(t.put slot).1 with plain:=false}).tooFull)=true then do
      setRelay a (gF (es.size+1))
      pure true
     else pure true) Q E s:=by
   intro b;generalize hT:(if b=true then(t.put slot).1 else{(t.put slot).1 with plain:=false})=t1;have f1:t1.place.size=n+1:=by
    rw[←hT];have:(cY t.place (mO t.place slot) slot).size=n+1:=by rw[xhi,ok.size]
    split<;> exact this
   have f2:t1.dummies=#[]:=by
    have h0:fL t.dummies slot=false:=by
     unfold fL;rw[ok.dum,beq_eq_false_iff_ne];intro z;simp at z
    have:(t.put slot).1.dummies=#[]:=by
     show(if fL t.dummies slot=true then _ else t.dummies)=#[];rw[h0];exact ok.dum
    rw[←hT]
    split<;> exact this
   have f3:t1.mask=t.mask:=by
    rw[←hT]
    split<;> rfl
   have hz1:(cY es (t.put slot).2 (hv,.ref r)).size=n+1:=by rw[xhi,hz]
   have hm1:∀e∈(cY es (t.put slot).2 (hv,aZ r)).toList,∃b kb,e.2= .ref b∧yk prog w s.heap kb b∧(p b kb∨(b=r∧kb=k)):=by
    intro e he;rcases xn0 _ _ _ _ he with rfl|he
    ·exact⟨r,k,rfl,hk,.inr ⟨rfl,rfl⟩⟩
    ·obtain⟨b,kb,e1,e2,e3⟩:=hes e he;exact⟨b,kb,e1,e2,.inl e3⟩
   generalize cY es (t.put slot).2 (hv,.ref r)=es1 at hz1 hm1;refine aa (wpAny_storeSet_of ho hd ?_ (by rw[hz1,ay];lia));have ho1:=stored ho hd es1 t1;have hsb:=bK s.heap a (lJ es1 t1)
   by_cases hfull:t1.tooFull=true
   ·rw[hfull];simp only[Bool.not_false,iQ,if_true];have hgr:∃m,iJ (gF (es.size+1))=m+1∧((m=31∧n+1≤18)∨(m=127∧n+1≤76)):=by
     unfold mL iX at hfull;rw[f1,f2,f3]at hfull;have hfull:(n+1+0)*5≥t.mask*3:=of_decide_eq_true hfull;rcases ok.room with⟨z1,z2⟩|⟨z1,z2⟩|⟨z1,z2⟩
     ·have:es.size+1=5:=by lia
      rw[this,xhk];exact⟨31,rfl,.inl ⟨rfl,by lia⟩⟩
     ·have:es.size+1=19:=by lia
      rw[this,xhl];exact⟨127,rfl,.inr ⟨rfl,by lia⟩⟩
     ·lia
    obtain⟨m,em,hm⟩:=hgr;have hMk:Mk m:=by
     rcases hm with z|z
     ·exact .inr (.inl z.1)
     ·exact .inr (.inr z.1)
    have hfit1:t1.fits es1.size=true:=by
     unfold iW iX;rw[f1,f2,f3,hz1];have:n+1≤t.mask:=by rcases ok.room with z|z|z<;> lia
     simp;exact this
    have hmn:n+1≤m:=by rcases hm with z|z<;> lia
    obtain⟨t2,order,el,e1,e2,e3,e4,e5,e6⟩:=xlt (finger:=t1.finger) (moves:=t1.movedTo m) (led:=t1.led) (plain:=t1.plain) hMk (es1.map (·.1)) (by rw[Array.size_map,hz1];lia);rw[Array.size_map,hz1]at e4 e5 e6;refine aa ?_;unfold setRelay;refine aa (fF ho1 rfl hfit1 ?_);dsimp only;rw[em];rw[if_neg (by rw[ay];rcases hm with z|z<;> lia)];have er:t1.relaid (es1.map (·.1)) (gF (es.size+1))=some (t2,order):=by
     unfold SetTable.relaid;rw[em];exact el
    rw[er];obtain⟨pl,pm⟩:=xhh es1 order.toList (by rw[hz1];exact e6);have hes2:(order.filterMap (es1[·]?)).toList=order.toList.filterMap (es1[·]?):=by simp
    have hz2:(order.filterMap (es1[·]?)).size=n+1:=by
     rw[←aR,hes2,pl,aR,e5]
    have hne:((order.filterMap (es1[·]?)).size != es1.size)=false:=by rw[hz2,hz1];simp
    refine aa ?_;show wpAny _ _ (if ((order.filterMap (es1[·]?)).size != es1.size)=true then _ else _) _ _ _;rw[hne];simp only[aU,if_false];refine ag ?_;dsimp only;refine wpAny_storeSet_of ho1 rfl (ag ?_) (by rw[hz2,ay];lia);have ho2:=stored ho1 rfl (order.filterMap (es1[·]?)) t2;have hsb2:=hsb.trans (bK _ a (lJ (order.filterMap (es1[·]?)) t2));refine q _ hsb2 ⟨_,_,_,t2,ho2,hex,rfl,hz2,⟨e2,e4,?_⟩,fun e he=>?_⟩
    ·rw[e1];rcases hm with z|z
     ·exact .inr (.inl z)
     ·exact .inr (.inr z)
    ·rw[hes2]at he;obtain⟨b,kb,q1,q2,q3⟩:=hm1 e (pm e he);exact⟨b,kb,q1,yk.but q2 ho hd hsb2,q3⟩
   ·have hfull':t1.tooFull=false:=by simpa using hfull
    rw[hfull'];simp only[kZ,aU,if_false];refine ag (q _ hsb ⟨_,es1,_,t1,ho1,hex,rfl,hz1,⟨f2,f1,?_⟩,fun e he=>?_⟩)
    ·unfold mL iX at hfull';rw[f1,f2,f3]at hfull';have hfull2:¬((n+1+0)*5≥t.mask*3):=of_decide_eq_false hfull';rw[f3];rcases ok.room with⟨z1,z2⟩|⟨z1,z2⟩|⟨z1,z2⟩
     ·exact .inl ⟨z1,by lia⟩
     ·exact .inr (.inl ⟨z1,by lia⟩)
     ·exact .inr (.inr ⟨z1,by lia⟩)
    ·obtain⟨b,kb,q1,q2,q3⟩:=hm1 e he;exact⟨b,kb,q1,yk.but q2 ho hd hsb,q3⟩
  split
  ·exact aa (xpz hk fun b=>fin b)
  ·exact aa (ag (fin true))
 ·have:cq t.mask≤142:=by unfold cq;rcases ok.room with z|z|z<;> lia
  lia
 ·have:0<cq t.mask:=by unfold cq;lia
  lia
end
end ST
end L2
namespace L2
open PySem PySem.Spec PyProof.Rows
namespace ST
section
variable {prog:aH} {w:World} {A:aV} {E:Value→ae→Prop} {s:ae}
theorem vj.imp{h:Heap}{a:Addr}{n:Nat}{p p':Addr→List Key→Prop}(x:vj prog w h a n p)(f:∀b k,p b k→p' b k):vj prog w h a n p':=by
 obtain⟨o,es,ep,t,h1,h2,h3,h4,h5,h6⟩:=x;exact⟨o,es,ep,t,h1,h2,h3,h4,h5,fun e he=>let⟨b,kb,q1,q2,q3⟩:=h6 e he;⟨b,kb,q1,q2,f _ _ q3⟩⟩
theorem vj.mv{h h':Heap}{a:Addr}{n:Nat}{p:Addr→List Key→Prop}(x:vj prog w h a n p)(f:∀b o,h.get? b=some o→((∃k,p b k)∨b=a)→h'.get? b=some o):vj prog w h' a n p:=by
 obtain⟨o,es,ep,t,h1,h2,h3,h4,h5,h6⟩:=x;refine⟨o,es,ep,t,f _ _ h1 (.inr rfl),h2,h3,h4,h5,fun e he=>?_⟩;obtain⟨b,kb,q1,⟨o',items,m,q2,q3,q4,q5⟩,q6⟩:=h6 e he;exact⟨b,kb,q1,⟨o',items,m,f _ _ q2 (.inl ⟨kb,q6⟩),q3,q4,q5⟩,q6⟩
theorem yk.mv{h h':Heap}{k:List Key}{b:Addr}(x:yk prog w h k b)(f:∀o,h.get? b=some o→h'.get? b=some o):yk prog w h' k b:=by
 obtain⟨o,items,m,q1,q2,q3,q4⟩:=x;exact⟨o,items,m,f _ q1,q2,q3,q4⟩
variable {R:gp→ae→Prop} {I:Addr} {fp wr:List Addr} {G:Array GenState→Array GenState→Prop} {n:Nat} {P:Nat→Value→Prop} {St:Nat→ae→Prop}
theorem xqn(W:WalksS prog w A.in1 I fp wr G n P St)(S:Addr)(hSf:S∉fp)(rs:Nat→Addr)(ks:Nat→List Key)(hv:∀i v,P i v→v= .ref (rs i))(hnd:∀i j,i<j→j<n→ks i≠ks j)(h76:n≤76)(hu:A.in1.units<cLine)
  (hw:∀j,j<n→rs j∉S::wr):∀(d i:Nat) (s:ae),n - i=d→i≤n→St i s→vj prog w s.heap S i (fun b x=>∃j,j<i∧b=rs j∧x=ks j)→(∀j,j<n→yk prog w s.heap (ks j) (rs j))→
   (∀s',Moved (S::wr) G s s'→vj prog w s'.heap S n (fun b x=>∃j,j<n∧b=rs j∧x=ks j)→R (.ok (.ret .none)) s')→cU (model prog w) A (.builtin "set.update.loop" ⟨[.ref S,.ref I],[]⟩) R s:=by
 have hSw:S∉wr:=fun z=>hSf (W.sub _ z);have up:∀b∈wr,b∈S::wr:=fun b hb=>aq _ hb;intro d
 induction d with
 |zero=>
  intro i s e0 hi st hS hk fin;obtain rfl:i=n:=by lia
  refine cA gz ?_;rw[cC d5 _];show wpAny _ A.in1 (gn (.ref I) >>= _) _ _ s;refine aa (W.done s _ _ st fun s' hm=>?_);refine ag (fin s' (hm.mono up) (hS.mv fun b o e z=>?_));rcases z with⟨k,j,hj,z,_⟩|z
  ·exact hm.heap b o (z▸fun y=>hw j hj (aq _ y)) e
  ·exact hm.heap b o (z▸hSw) e
 |succ d ih=>
  intro i s e0 hi st hS hk fin;have hlt:i<n:=by lia
  refine cA gz ?_;rw[cC d5 _];show wpAny _ A.in1 (gn (.ref I) >>= _) _ _ s;refine aa (W.item i s _ _ hlt st fun v s' hP st' hm=>?_);obtain rfl:=hv i v hP;have keep:∀j,j<n→∀o,s.heap.get? (rs j)=some o→s'.heap.get? (rs j)=some o:=fun j hj o e=>hm.heap _ o (fun y=>hw j hj (aq _ y)) e;have hS1:=hS.mv (h':=s'.heap) fun b o e z=>by
   rcases z with⟨k,j,hj,z,_⟩|z
   ·subst z;exact keep j (by lia) o e
   ·exact hm.heap b o (z▸hSw) e
  have hk1:∀j,j<n→yk prog w s'.heap (ks j) (rs j):=fun j hj=>yk.mv (hk j hj) (keep j hj);show wpAny _ A.in1 (dN [aZ (rs i)] (setAdd S (.ref (rs i))) >>= _) _ _ s';refine aa (bo ?_);unfold setAdd;refine bo (aa (wpAny_pyHash_tuple hu (hk1 i hlt) ?_));generalize htk:s'.toks+((ks i).length+1)=tk;refine xpA (s:={s' with toks:=tk}) (n:=i) (p:=fun b x=>∃j,j<i∧b=rs j∧x=ks j) hu hS1 (by lia) (hk1 i hlt) (fun b ⟨j,hj,_,e⟩=>hnd j i hj hlt e.symm) fun h' sb hS2=>?_;have old:∀b o,b≠S→s'.heap.get? b=some o→h'.get? b=some o:=fun b o hb e=>by rw[sb.2 b hb];exact e
  refine ag ⟨bW d5 _,ih (i+1) _ (by lia) hlt (W.frame _ s' _ _ st' ?_ fun b hb o e=>?_) (hS2.imp fun b x hx=>?_) (fun j hj=>?_) fun s2 hm2 hS3=>?_⟩
  ·show s'.toks≤tk;lia
  ·exact old b o (fun z=>hSf (z▸hb)) e
  ·rcases hx with⟨j,hj,e⟩|e
   ·exact⟨j,by lia,e⟩
   ·exact⟨i,by lia,e⟩
  ·exact yk.mv (hk1 j hj) fun o e=>old _ o (fun z=>hw j hj (z▸aF)) e
  ·refine fin s2 (Moved.trans W.gtrans ((hm.mono up).then_heap ?_ fun b o hb e=>?_) hm2) hS3
   ·show s'.toks≤tk;lia
   ·exact old b o (fun z=>hb (z▸aF)) e
theorem xkc{h:Heap}{a:Addr}{led:Bool}(e:h.get? a=some {cls:=.type "set",dict:=none,data:=.set #[] 0 (.fresh 0 0 led)})(p:Addr→List Key→Prop):vj prog w h a 0 p:=
 ⟨_,#[],0,_,e,⟨rfl,rfl,rfl⟩,rfl,rfl,⟨rfl,rfl,.inl ⟨rfl,by lia⟩⟩,fun e he=>by simp at he⟩
theorem xlv{l:Addr}{items:Array Value}{rs:Nat→Addr}{ks:Nat→List Key}{Q:Value→ae→Prop}(hh:A.handled=none)(hu:A.units+10<cLine)(hl:s.heap.IsList l items)(hv:∀(i:Nat) (v:Value),items[i]? =some v→v= .ref (rs i))
  (hk:∀j,j<items.size→yk prog w s.heap (ks j) (rs j)) (hnd:∀i j,i<j→j<items.size→ks i≠ks j) (h76:items.size≤76)
  (q:∀(h':Heap) (tk:Nat),vj prog w h' s.heap.objs.size items.size (fun _ _=>True)→(∀b o,b<s.heap.objs.size→s.heap.get? b=some o→h'.get? b=some o)→Q (.ref s.heap.objs.size) {s with heap:=h',toks:=tk}):
  wpAny (model prog w) A (call (.type "set") [.ref l]) Q E s:=by
 obtain⟨cc,tl,hmro⟩:=PySem.F.called_set.mro;have g1:=PySem.F.called_set.made;have g2:=PySem.F.called_set.sub;refine gC (codeAny_of_tree ?_);show wpAny _ _ (callAny (.type "set") _) _ _ _;refine ag ⟨mq _ (by decide+kernel),cA PySem.F.entry_type_call ?_⟩;rw[Around.under_plain (weight_type_call_type "set" [.ref l] []) rfl];have g3:=PySem.F.called_set.notType;have g4:=PySem.F.called_set.canCreate;have g5:=PySem.F.typeCall_set_1 (.ref l)
 repeat (any_goals (first|assumption|wp_step))
 let o0:Bool→Obj:=fun led=>{cls:=.type "set",dict:=none,data:=.set #[] 0 (.fresh 0 0 led)}
 refine dH (code_set_new_1 (.ref l) (E:=E) (Q₁:=fun v s₁=>∃led:Bool,v= .ref s.heap.objs.size∧s₁={s with heap:=s.heap.push (o0 led)}) fun led=>⟨led,rfl,rfl⟩) fun r s₁ hr=>?_
 match r with
 | .error e=>exact hr
 | .ok (.ret v)=>
  obtain⟨led,rfl,rfl⟩:=hr;have eS:(s.heap.push (o0 led)).get? s.heap.objs.size=some (o0 led):=az _ rfl;have hT:Shared.TypeIs {s with heap:=s.heap.push (o0 led)} (.ref s.heap.objs.size) "set":=⟨_,eS,rfl⟩;have g6:=PySem.F.called_set.init.lookup;have g7:=PySem.F.called_set.init.bind (.ref s.heap.objs.size)
  repeat (any_goals (first|assumption|wp_step))
  refine dH (codeAny_call_builtin (R:=wants (fun r s₂=>r= .none∧∃h' tk,s₂={s with heap:=h',toks:=tk}∧vj prog w h' s.heap.objs.size items.size (fun _ _=>True)∧
    (∀b o,b<s.heap.objs.size→s.heap.get? b=some o→h'.get? b=some o)) E) PySem.F.called_set.init.plain PySem.F.entry_set_init (check_set_init_1 hT ?_)) fun r₂ s₂ hr₂=>?_
  ·obtain⟨⟨oc,od,odt,os⟩,eL,c1,nl,d1⟩:=hl;obtain rfl:oc= .type "list":=c1;obtain rfl:odt= .seq items nl:=d1;have eL':(s.heap.push (o0 led)).get? l=some {cls:=.type "list",dict:=od,data:=.seq items nl,slots:=os}:=af _ eL;have k1:=PySem.F.sub_list_set;have k2:=PySem.F.sub_list_frozenset;have k3:(cw "list"==cw "dict")=false:=by decide
   have hL1:(s.heap.push (o0 led)).IsList l items:=⟨_,eL',rfl,nl,rfl⟩;unfold fY.«set.__init__» noKeywords Builtin.Frozenset.updateFrom;generalize hPI:pyIter=PI
   wp_walk
   subst hPI;refine eC hL1 ?_;refine aa (wpAny_runValue ?_);have hlS:l<s.heap.objs.size:=ak eL;have h3:A.in1.in1.in1.handled=none:=by simp[hh]
   have hsz:(s.heap.push (o0 led)).objs.size=s.heap.objs.size+1:=cV _ _;have hlI:l≠(s.heap.push (o0 led)).objs.size:=by rw[hsz];exact au (fE hlS)
   have hSf:s.heap.objs.size∉[(s.heap.push (o0 led)).objs.size,l]:=by
    rw[hsz];simp only[ax,c8,or_false,not_or];exact⟨au (cR _),dX hlS⟩
   have lt:∀j,j<items.size→rs j<s.heap.objs.size:=fun j hj=>by
    obtain⟨o,_,_,e,_⟩:=hk j hj;exact ak e
   refine xqn (A:=A.in1.in1) (ik h3 _ l hlI items).toS s.heap.objs.size hSf rs ks hv hnd h76 ?_ (fun j hj=>?_) (items.size - 0) 0 _ (by lia) (aM _) ⟨⟨_,az _ rfl,rfl,rfl⟩,hL1.push _⟩ (xkc (led:=led) (af _ eS) _) (fun j hj=>yk.mv (hk j hj) fun o e=>af _ (af _ e)) fun s' hm hS=>?_
   ·show A.units+1+1+1<cLine;lia
   ·have:=lt j hj;simp only[ax,c8,or_false,not_or];exact⟨au this,by rw[hsz];exact au (fE this)⟩
   ·obtain⟨h',g',d',tk',os'⟩:=s';obtain rfl:g'=s.gens:=hm.gens;obtain rfl:d'=s.drawn:=hm.drawn;obtain rfl:os'=s.os:=hm.os;refine ag ?_;show wpAny _ _ (ret bq) _ _ _;refine ag ⟨rfl,h',tk',rfl,hS.imp fun _ _ _=>trivial,fun b o hb e=>?_⟩;refine hm.heap b o ?_ (af _ (af _ e));simp only[ax,c8,or_false,not_or];exact⟨au hb,by rw[hsz];exact au (fE hb)⟩
  ·match r₂ with
   | .error e=>exact hr₂
   | .ok (.ret r)=>
    obtain⟨rfl,h',tk,rfl,hS,hk'⟩:=hr₂
    repeat (any_goals (first|assumption|wp_step))
    exact q _ _ hS hk'
   | .ok .next=>exact hr₂.elim
   | .ok .brk=>exact hr₂.elim
   | .ok .cont=>exact hr₂.elim
 | .ok .next=>exact hr.elim
 | .ok .brk=>exact hr.elim
 | .ok .cont=>exact hr.elim
end
end ST
def xmx(a:Addr)(n:Nat):HO:=.ext fun h=>∃o es ep t,h.get? a=some o∧o.ExactSet∧o.data= .set es ep t∧es.size=n∧iW t n=true
section
variable {X:Cx}
def xqo(K:ah):List V→Hp→VK→Prop:=fun xs H Q=>∃(p:Addr) (ts:List Addr) (ks:List (List Key)),xs=[.ref p]∧SqL K H p (ts.map V.ref)∧Paired (fun t k=>H t=some (.tup (k.map kV))) ts ks∧ks.Nodup∧ks.length≤76∧∀d:Addr,H d=none→Q (.ref d) (upd H d (xmx d ks.length))
theorem xjj:∀{ts:List Addr} {us:List Value},Vals (ts.map V.ref) us→us=ts.map aZ
 |[],_,h=>by cases h;rfl
 |t::ts,_,h=>by
  cases h with
  |cons a b=>
   obtain rfl:=xjj b;cases a;rfl
theorem xiH(hc:X.calm=true)(hu:X.A.units+64<cLine):yh X (.type "set") (xqo X.K):=by
 intro pins s σ H xs us Q I r h;obtain⟨p,ts,ks,rfl,hq,hts,hnd,hle,q⟩:=h;obtain⟨u,rfl,rx⟩:=vals1 r;cases rx;obtain⟨its,r',pl,hz⟩:=I.list hq;obtain rfl:=xjj r';have tl:ts.length=ks.length:=hts.length;have hsz:(ts.map aZ).toArray.size=ks.length:=by simp[tl]
 refine ST.xlv (rs:=fun i=>ts.getD i 0) (ks:=fun i=>ks.getD i []) (I.ok.hd hc) (by lia) pl.isList (fun i v hv=>?_) (fun j hj=>?_) (fun i j hij hj e=>?_) (by rw[hsz];exact hle) fun h' tk hS hk=>?_
 ·rw[lb,ao]at hv;obtain⟨t,ht,rfl⟩:=bf.mp hv;rw[bY,ht];rfl
 ·rw[hsz]at hj;obtain⟨t,ht,h1⟩:=jf hts (ai hj);have e1:ts.getD j 0=t:=by rw[bY,ht];rfl
  have e2:ks.getD j []=ks[j]:=by rw[bY,ai hj];rfl
  show IsTupleKey (xP X.prog X.w) s.heap (ks.getD j []) (ts.getD j 0);rw[e1,e2];exact xbV I.hok h1
 ·rw[hsz]at hj;have e1:ks.getD i []=ks[i]:=by rw[bY,ai (by lia)];rfl
  have e2:ks.getD j []=ks[j]:=by rw[bY,ai hj];rfl
  rw[e1,e2]at e;exact bt.mp hnd i j (by lia) hj hij e
 ·rw[hsz]at hS;obtain⟨o,es,ep,t,h1,h2,h3,h4,h5,_⟩:=hS;have hφ:∃o es ep t,h'.get? s.heap.objs.size=some o∧o.ExactSet∧o.data= .set es ep t∧es.size=ks.length∧iW t ks.length=true:=⟨o,es,ep,t,h1,h2,h3,h4,h5.fits⟩;refine⟨.ref _,_,I.laid (o:=xmx s.heap.objs.size ks.length) (h':=h') (t':=tk) (fun b o e=>hk b o (ak e) e) (aj _) ⟨hφ,⟨o,h1⟩,fun g1 g2 ⟨o,es,ep,t,z1,z2⟩ f=>⟨o,es,ep,t,f o z1,z2⟩⟩,rfl,q _ (I.hok.fresh (aj _))⟩
theorem xlw:yh X (.builtin "len") (fun xs H Q=>∃(p:Addr) (n:Nat),xs=[.ref p]∧H p=some (xmx p n)∧n≤1000∧Q (.int n) H):=by
 intro pins s σ H xs us Q I r h;obtain⟨p,n,rfl,hp,hn,q⟩:=h;obtain⟨u,rfl,rx⟩:=vals1 r;cases rx;obtain⟨⟨o,es,ep,t,e,x,d,hz,hft⟩,_⟩:=I.hok p _ hp;refine call_len_set e x d (by rw[hz];exact hft) (by rw[hz];lia) ?_;rw[hz];exact⟨.int n,H,I.tok _,⟨_,rfl⟩,q⟩
end
end L2
namespace L2
open PySem PySem.Spec PyProof.Rows
def xqW(K:ah):R2:=fun x y H Q=>∃da ds,Rp K H x da∧Rp K H y (.list ds)∧dY da=true∧cI ds=true∧Q (.bl (ds.any fun z=>eP z da)) H
theorem xpB{X:Cx}(hu:X.A.units+65<cLine):OpR X (bw .In) (xqW X.K):=by
 intro pins s σ H x y v u Q I rx ry q;obtain⟨da,ds,hx,hy,sa,sb,q⟩:=q;obtain⟨as,ra⟩:=hx.reads I rx;obtain⟨bs,rb⟩:=hy.reads I ry;exact SeqAt.in_list_reads rb ra sb (gP sa) (room_in_shaped sa hu) ⟨.bl _,H,I,rfl,q⟩
end L2
namespace K92
open PySem PySem.Spec PyProof.Rows L2
def top(i:Nat):Stmt:=PySem.Challenge.pw_oneroom_k92_whole_maker.main.body.getD i (.Pass ⟨0,0,0,0⟩)
abbrev zG:Stmt:=top 2
abbrev xcb:Stmt:=top 3
abbrev uI:Stmt:=top 4
abbrev xbl:Stmt:=top 5
abbrev xbm:Stmt:=inClass (top 10) 0
abbrev jD:Stmt:=inClass (top 10) 1
abbrev vV:Stmt:=inClass (top 10) 2
abbrev xau:Stmt:=inClass (top 11) 0
abbrev jE:Stmt:=inClass (top 11) 1
abbrev jF:Stmt:=inClass (top 11) 2
abbrev vW:Stmt:=inClass (top 11) 3
abbrev zT:Stmt:=inClass (top 11) 5
abbrev uJ:Stmt:=inClass (top 11) 6
abbrev xav:Stmt:=inClass (top 11) 7
abbrev xaw:Stmt:=inClass (top 11) 8
abbrev xbn:Stmt:=inClass (top 12) 0
abbrev xax:Stmt:=inClass (top 12) 1
abbrev jG:Stmt:=inClass (top 12) 2
abbrev vk:Stmt:=inClass (top 12) 4
abbrev xbo:Stmt:=inClass (top 12) 5
abbrev xbp:Stmt:=inClass (top 12) 6
abbrev xdW:Stmt:=top 13
abbrev jH:Stmt:=top 14
abbrev xay:Stmt:=top 15
abbrev xaz:Stmt:=top 16
abbrev xcc:Stmt:=top 17
abbrev uK:Stmt:=top 18
abbrev xbq:Stmt:=top 19
abbrev xdX:Stmt:=top 22
abbrev xaA:Stmt:=top 23
abbrev jI:Stmt:=top 24
abbrev vm:Stmt:=top 25
abbrev zU:Stmt:=top 26
abbrev xhm:Stmt:=top 27
abbrev jq:Stmt:=top 29
abbrev xa0:Stmt:=top 30
abbrev jJ:Stmt:=top 31
abbrev uL:Stmt:=top 32
abbrev yz:Stmt:=top 33
abbrev uq:Stmt:=top 34
abbrev xcd:Stmt:=top 35
abbrev ur:Stmt:=top 36
abbrev xfr:Stmt:=top 39
abbrev vn:Stmt:=top 40
abbrev xaB:Stmt:=top 41
abbrev zV:Stmt:=top 42
abbrev uu:Stmt:=top 43
abbrev uM:Stmt:=top 44
abbrev xce:Stmt:=top 45
abbrev xaC:Stmt:=top 46
abbrev vo:Stmt:=top 48
abbrev xhn:Stmt:=top 49
abbrev xfs:Stmt:=top 50
abbrev xcf:Stmt:=top 52
abbrev xft:Stmt:=top 53
abbrev xfu:Stmt:=top 54
abbrev xfv:Stmt:=top 55
abbrev xho:Stmt:=top 56
abbrev xbr:Stmt:=top 57
abbrev xfw:Stmt:=top 58
abbrev xfx:Stmt:=top 59
abbrev xcW:Stmt:=top 60
abbrev q0X:Addr:=27
abbrev yI:Addr:=23
def zu:List (Pos×Str):=[(⟨6,40,6,60⟩,"endings.<locals>.<lambda>")]
abbrev q0k:Addr:=357
abbrev yp:Addr:=355
def zb:List (Pos×Str):=[(⟨194,35,194,80⟩,"put_in_order.<locals>.<lambda>")]
abbrev q1l:Addr:=376
abbrev zH:Addr:=372
def vM:List (Pos×Str):=[(⟨209,32,209,50⟩,"joined.<locals>.<lambda>")]
abbrev q1v:Addr:=437
abbrev uC:Addr:=433
def jK:List (Pos×Str):=[(⟨280,45,280,65⟩,"meant.<locals>.<lambda>")]
set_option genInjectivity false in
set_option genSizeOf false in
set_option genSizeOfSpec false in
structure Adr where
 q1B:Addr
 xag:aE
 q1Q:Addr
 xcg:aE
 q0D:Addr
 uN:aE
 q1C:Addr
 xbs:aE
 q1h:Addr
 xbt:aE
 q0m:Addr
 uO:aE
 q0n:Addr
 vX:aE
 q0Y:Addr
 xaD:aE
 q0P:Addr
 jL:aE
 q0Q:Addr
 jM:aE
 q0K:Addr
 vY:aE
 q0l:Addr
 zW:aE
 q0t:Addr
 uP:aE
 q0Z:Addr
 xaE:aE
 q00:Addr
 xaF:aE
 q0W:Addr
 jh:aE
 q01:Addr
 xaG:aE
 q0R:Addr
 jN:aE
 q0B:Addr
 vp:aE
 q1i:Addr
 xbu:aE
 q1j:Addr
 xbv:aE
 q2a:Addr
 xdY:aE
 q07:Addr
 jO:aE
 q1m:Addr
 xaH:aE
 q1n:Addr
 xaI:aE
 q1R:Addr
 xch:aE
 q0E:Addr
 uQ:aE
 q1D:Addr
 xbw:aE
 q2b:Addr
 xdZ:aE
 q1o:Addr
 xaJ:aE
 q08:Addr
 jP:aE
 q0L:Addr
 vq:aE
 q0p:Addr
 zX:aE
 q2D:Addr
 xhp:aE
 q12:Addr
 xa1:aE
 q1S:Tok
 q2h:Addr
 xci:aE
 q2c:Tok
 q09:Addr
 jQ:aE
 q0F:Addr
 uR:aE
 q0C:Addr
 zP:aE
 q0x:Addr
 uv:aE
 q1T:Addr
 xcj:aE
 q1U:Addr
 xbx:aE
 q2f:Addr
 xcX:aE
 q0M:Addr
 vt:aE
 q1p:Addr
 xaK:aE
 q0q:Addr
 zY:aE
 q0y:Addr
 uw:aE
 q0G:Addr
 uS:aE
 q1V:Addr
 xck:aE
 q1q:Addr
 xaL:aE
 q13:Addr
 xa2:aE
 q2A:Addr
 xez:aE
 q2g:Addr
 xcY:aE
 q1W:Addr
 xcl:aE
 q2m:Addr
 xfy:aE
 q2n:Addr
 xfz:aE
 q2o:Addr
 xfA:aE
 q2E:Addr
 xhq:aE
 q1E:Addr
 xby:aE
 q2p:Addr
 xfB:aE
 q2q:Addr
 xfC:aE
 q2J:Addr
 xkd:aE
 q1F:Addr
 q0a:Addr
 q0b:Addr
 q20:Tok
 q0S:Addr
structure Txt(K:ah)(mg:Str→Option Value)(a:Adr):Prop where
 vN:Fun K "endings" "endings" zG a.q1B a.xag
 xlx:Binds K a.xag ["text"] []
 xly:mg "endings"=some (.ref a.q1B)
 q2N:vU K q0X yI
 xke:a.xag.code= .ref q0X
 q1X:Fun K "longest" "longest" xcb a.q1Q a.xcg
 xlz:Binds K a.xcg ["text","table","part"] []
 xlA:mg "longest"=some (.ref a.q1Q)
 q0H:Fun K "how_many_less" "how_many_less" uI a.q0D a.uN
 xeA:Binds K a.uN ["text","table","part"] []
 xeB:mg "how_many_less"=some (.ref a.q0D)
 q1G:Fun K "agreeing" "agreeing" xbl a.q1C a.xbs
 xkf:Binds K a.xbs ["text","at","part"] []
 xkg:mg "agreeing"=some (.ref a.q1C)
 q14:Fun K "__init__" "Row.__init__" xbm a.q1h a.xbt
 xbz:Binds K a.xbt ["self","to"] []
 q1a:Fun K "covers" "Row.covers" jD a.q0m a.uO
 uT:Binds K a.uO ["self"] []
 q1e:Fun K "covered" "Row.covered" vV a.q0n a.vX
 yw:Binds K a.vX ["self"] []
 q1J:Fun K "__init__" "Take.__init__" xau a.q0Y a.xaD
 xdn:Binds K a.xaD ["self","to","start","count"] []
 q1w:Fun K "stays" "Take.stays" jE a.q0P a.jL
 uU:Binds K a.jL ["self"] []
 q1x:Fun K "reads" "Take.reads" jF a.q0Q a.jM
 xhr:Binds K a.jM ["self"] []
 q1f:Fun K "writes" "Take.writes" vW a.q0K a.vY
 xgz:Binds K a.vY ["self"] []
 q0J:Fun K "source_for" "Take.source_for" zT a.q0l a.zW
 xc7:Binds K a.zW ["self","cell"] []
 q0U:Fun K "sign_for" "Take.sign_for" uJ a.q0t a.uP
 xeC:Binds K a.uP ["self","cell","read"] []
 q1K:Fun K "cost" "Take.cost" xav a.q0Z a.xaE
 xiI:Binds K a.xaE ["self"] []
 q1L:Fun K "told" "Take.told" xaw a.q00 a.xaF
 vz:Binds K a.xaF ["self"] []
 q1H:Fun K "__init__" "Put.__init__" xbn a.q0W a.jh
 ji:Binds K a.jh ["self","to","signs"] []
 q1M:Fun K "reads" "Put.reads" xax a.q01 a.xaG
 xiJ:Binds K a.xaG ["self"] []
 q1y:Fun K "writes" "Put.writes" jG a.q0R a.jN
 xhs:Binds K a.jN ["self"] []
 q04:Fun K "sign_for" "Put.sign_for" vk a.q0B a.vp
 xfD:Binds K a.vp ["self","cell","read"] []
 q15:Fun K "cost" "Put.cost" xbo a.q1i a.xbu
 xkh:Binds K a.xbu ["self"] []
 q16:Fun K "told" "Put.told" xbp a.q1j a.xbv
 xeD:Binds K a.xbv ["self"] []
 q1b:Fun K "row_of" "row_of" xdW a.q2a a.xdY
 jR:Binds K a.xdY ["told"] []
 jS:mg "row_of"=some (.ref a.q2a)
 q1c:Fun K "tells_take" "tells_take" jH a.q07 a.jO
 xht:Binds K a.jO ["told"] []
 xhu:mg "tells_take"=some (.ref a.q07)
 q1r:Fun K "tells_put" "tells_put" xay a.q1m a.xaH
 xiK:Binds K a.xaH ["told"] []
 xiL:mg "tells_put"=some (.ref a.q1m)
 q1s:Fun K "are_signs" "are_signs" xaz a.q1n a.xaI
 xiM:Binds K a.xaI ["signs"] []
 xiN:mg "are_signs"=some (.ref a.q1n)
 q1Y:Fun K "is_sign" "is_sign" xcc a.q1R a.xch
 xlB:Binds K a.xch ["value"] []
 xlC:mg "is_sign"=some (.ref a.q1R)
 q0g:Fun K "is_whole_from" "is_whole_from" uK a.q0E a.uQ
 zc:Binds K a.uQ ["least","value"] []
 zd:mg "is_whole_from"=some (.ref a.q0E)
 q1k:Fun K "is_whole" "is_whole" xbq a.q1D a.xbw
 xeE:Binds K a.xbw ["value"] []
 xeF:mg "is_whole"=some (.ref a.q1D)
 q2d:Fun K "spoils" "spoils" xdX a.q2b a.xdZ
 xmy:Binds K a.xdZ ["rows"] []
 xmz:mg "spoils"=some (.ref a.q2b)
 q1t:Fun K "spoilt_by" "spoilt_by" xaA a.q1o a.xaJ
 xiO:Binds K a.xaJ ["number","stretch","read"] []
 xiP:mg "spoilt_by"=some (.ref a.q1o)
 q1d:Fun K "ring_among" "ring_among" jI a.q08 a.jP
 xhv:Binds K a.jP ["spoilt","left"] []
 xhw:mg "ring_among"=some (.ref a.q08)
 q0N:Fun K "stretch_read" "stretch_read" vm a.q0L a.vq
 xfE:Binds K a.vq ["row"] []
 xfF:mg "stretch_read"=some (.ref a.q0L)
 q0r:Fun K "stretch_written" "stretch_written" zU a.q0p a.zX
 xc8:Binds K a.zX ["row"] []
 xc9:mg "stretch_written"=some (.ref a.q0p)
 q2F:Fun K "meet" "meet" xhm a.q2D a.xhp
 xpC:Binds K a.xhp ["one","other"] []
 xpD:mg "meet"=some (.ref a.q2D)
 vw:xdU K "found" "found" jq a.q12 a.xa1 [.int 6 a.q1S]
 xd0:Binds K a.xa1 ["elder","newer","least"] [.int 6 a.q1S]
 xfG:Binds K a.xa1 ["elder","newer","least"] []
 xjk:mg "found"=some (.ref a.q12)
 jT:xdU K "made" "made" xa0 a.q2h a.xci [.int 6 a.q2c]
 xfH:Binds K a.xci ["elder","newer","least"] [.int 6 a.q2c]
 xhx:Binds K a.xci ["elder","newer","least"] []
 xlD:mg "made"=some (.ref a.q2h)
 q0T:Fun K "rows_found" "rows_found" jJ a.q09 a.jQ
 xcm:Binds K a.jQ ["elder","newer","least"] []
 xcn:mg "rows_found"=some (.ref a.q09)
 q0u:Fun K "put_ending_at" "put_ending_at" uL a.q0F a.uR
 xah:Binds K a.uR ["end","signs"] []
 xai:mg "put_ending_at"=some (.ref a.q0F)
 zj:Fun K "put_in_order" "put_in_order" yz a.q0C a.zP
 xfI:Binds K a.zP ["takes"] []
 xfJ:mg "put_in_order"=some (.ref a.q0C)
 q2i:vU K q0k yp
 xeG:a.zP.code= .ref q0k
 q0z:Fun K "harmless_among" "harmless_among" uq a.q0x a.uv
 xd1:Binds K a.uv ["spoilt","left"] []
 xd2:mg "harmless_among"=some (.ref a.q0x)
 q1Z:Fun K "put_for" "put_for" xcd a.q1T a.xcj
 xlE:Binds K a.xcj ["take","elder"] []
 xlF:mg "put_for"=some (.ref a.q1T)
 jU:Fun K "joined" "joined" ur a.q1U a.xbx
 xmA:Binds K a.xbx ["puts"] []
 xmB:mg "joined"=some (.ref a.q1U)
 q2T:vU K q1l zH
 xlG:a.xbx.code= .ref q1l
 q2r:Fun K "judge" "judge" xfr a.q2f a.xcX
 xn2:Binds K a.xcX ["paper"] []
 xn3:mg "judge"=some (.ref a.q2f)
 q0O:Fun K "fits_in_size" "fits_in_size" vn a.q0M a.vt
 xfK:Binds K a.vt ["paper"] []
 xfL:mg "fits_in_size"=some (.ref a.q0M)
 q02:Fun K "is_length" "is_length" xaB a.q1p a.xaK
 xdo:Binds K a.xaK ["value"] []
 xdp:mg "is_length"=some (.ref a.q1p)
 q0s:Fun K "first_wrong_row" "first_wrong_row" zV a.q0q a.zY
 xda:Binds K a.zY ["paper"] []
 xdb:mg "first_wrong_row"=some (.ref a.q0q)
 q0A:Fun K "is_fitting_row" "is_fitting_row" uu a.q0y a.uw
 xd3:Binds K a.uw ["told","old","new"] []
 xd4:mg "is_fitting_row"=some (.ref a.q0y)
 q0I:Fun K "covered_twice" "covered_twice" uM a.q0G a.uS
 xeH:Binds K a.uS ["rows"] []
 xeI:mg "covered_twice"=some (.ref a.q0G)
 q10:Fun K "lacking" "lacking" xce a.q1V a.xck
 xlH:Binds K a.xck ["rows","new"] []
 xlI:mg "lacking"=some (.ref a.q1V)
 q1u:Fun K "read_late" "read_late" xaC a.q1q a.xaL
 xiQ:Binds K a.xaL ["rows"] []
 xiR:mg "read_late"=some (.ref a.q1q)
 xa3:Fun K "meant" "meant" vo a.q13 a.xa2
 xn4:Binds K a.xa2 ["paper","elder"] []
 xn5:mg "meant"=some (.ref a.q13)
 q2O:vU K q1v uC
 xmC:a.xa2.code= .ref q1v
 q2j:Fun K "cost" "cost" xhn a.q2A a.xez
 xhy:Binds K a.xez ["paper"] []
 xhz:mg "cost"=some (.ref a.q2A)
 q2s:Fun K "plain" "plain" xfs a.q2g a.xcY
 xn6:Binds K a.xcY ["old","newer"] []
 xn7:mg "plain"=some (.ref a.q2g)
 q03:Fun K "_law_cell_at" "_law_cell_at" xcf a.q1W a.xcl
 xaj:Binds K a.xcl ["_law_script","_law_k"] []
 xak:mg "_law_cell_at"=some (.ref a.q1W)
 q1N:Fun K "_law_mixed" "_law_mixed" xft a.q2m a.xfy
 xcZ:Binds K a.xfy ["_law_cell","_law_k"] []
 xc0:mg "_law_mixed"=some (.ref a.q2m)
 q2t:Fun K "_law_elder" "_law_elder" xfu a.q2n a.xfz
 xn8:Binds K a.xfz ["_law_cell"] []
 xn9:mg "_law_elder"=some (.ref a.q2n)
 q2u:Fun K "_law_newer" "_law_newer" xfv a.q2o a.xfA
 xoa:Binds K a.xfA ["_law_elder_here","_law_cell"] []
 xob:mg "_law_newer"=some (.ref a.q2o)
 q2G:Fun K "_law_told" "_law_told" xho a.q2E a.xhq
 xpE:Binds K a.xhq ["_law_paper","_law_elder_here"] []
 xpF:mg "_law_told"=some (.ref a.q2E)
 q1I:Fun K "_law_cost" "_law_cost" xbr a.q1E a.xby
 xki:Binds K a.xby ["_law_rows"] []
 xkj:mg "_law_cost"=some (.ref a.q1E)
 q2v:Fun K "_law_reads" "_law_reads" xfw a.q2p a.xfB
 xoc:Binds K a.xfB ["_law_one","_law_other"] []
 xod:mg "_law_reads"=some (.ref a.q2p)
 q2w:Fun K "_law_rings" "_law_rings" xfx a.q2q a.xfC
 xoe:Binds K a.xfC ["_law_turned","_law_rows"] []
 xof:mg "_law_rings"=some (.ref a.q2q)
 xgM:Fun K "law" "law" xcW a.q2J a.xkd
 xqZ:Binds K a.xkd ["_law_script"] []
 xkk:mg "Row"=some (.ref a.q1F)
 q30:Cls K a.q1F
 q2U:xT K a.q1F "count"
 q3f:xT K a.q1F "to"
 xa4:mg "Take"=some (.ref a.q0a)
 q0c:Cls K a.q0a
 q0d:xT K a.q0a "count"
 q0e:xT K a.q0a "source"
 q0o:xT K a.q0a "to"
 q2V:Mk K a.q0a a.q0Y
 xeJ:mg "Put"=some (.ref a.q0b)
 q0f:Cls K a.q0b
 q0j:xT K a.q0b "count"
 q0w:xT K a.q0b "signs"
 q0v:xT K a.q0b "to"
 q2M:Mk K a.q0b a.q0W
 xhA:∀{H:Hp} {o dx:Addr} {fs:List (Str×V)},H o=some (.ins a.q0b dx fs)→yG K H (.ref o) (.ref a.q0b)
 xa5:∀{H:Hp} {o dx:Addr} {fs:List (Str×V)},H o=some (.ins a.q0a dx fs)→yG K H (.ref o) (.ref a.q0a)
 q2P:fO K (.ref a.q0b) (.ref a.q0b)=some true
 q2y:fO K (.ref a.q0b) (.ref a.q0a)=some false
 q2K:fO K (.ref a.q0a) (.ref a.q0b)=some false
 q1z:fO K (.ref a.q0a) (.ref a.q0a)=some true
 xlJ:mg "MOST"=some (.int 300 a.q20)
 xco:mg "NO_STRETCH"=some (.ref a.q0S)
 xcp:∀H,SqT K H a.q0S [.int 0,.int 0]
 q2L:Meth K a.q0b "cost" a.q1i
 q05:Meth K a.q0b "covered" a.q0n
 q19:Meth K a.q0b "covers" a.q0m
 q2H:Meth K a.q0b "reads" a.q01
 q2k:Meth K a.q0b "sign_for" a.q0B
 q2z:Meth K a.q0b "told" a.q1j
 q2B:Meth K a.q0b "writes" a.q0R
 q2I:Meth K a.q0a "cost" a.q0Z
 q0V:Meth K a.q0a "covered" a.q0n
 q17:Meth K a.q0a "covers" a.q0m
 q2C:Meth K a.q0a "reads" a.q0Q
 q2e:Meth K a.q0a "sign_for" a.q0t
 q11:Meth K a.q0a "source_for" a.q0l
 q1g:Meth K a.q0a "stays" a.q0P
 q1A:Meth K a.q0a "told" a.q00
 q2x:Meth K a.q0a "writes" a.q0K
 q18:xmg K a.q1F "__init__" a.q1h
 q3v:mg "abs"=none
 q3w:mg "all"=none
 q3x:mg "any"=none
 q3j:mg "bool"=none
 q3k:mg "dict"=none
 q1O:mg "enumerate"=none
 q3y:mg "int"=none
 q0h:mg "isinstance"=none
 q0i:mg "len"=none
 q2l:mg "list"=none
 q21:mg "max"=none
 q2Q:mg "min"=none
 q06:mg "range"=none
 q2R:mg "reversed"=none
 q3z:mg "set"=none
 q2S:mg "sorted"=none
 q3A:mg "sum"=none
 q1P:mg "tuple"=none
theorem xeK:xq ["text"] ["text"] (xj zG):=⟨rfl,rfl,rfl,by decide+kernel,rfl,by decide+kernel,by decide+kernel⟩
theorem xeL:xq ["text","table","part","less","count","beginning"] ["text","table","part"] (xj xcb):=⟨rfl,rfl,rfl,by decide+kernel,rfl,by decide+kernel,by decide+kernel⟩
theorem jV:xq ["text","table","part","low","high","middle"] ["text","table","part"] (xj uI):=⟨rfl,rfl,rfl,by decide+kernel,rfl,by decide+kernel,by decide+kernel⟩
theorem xdq:xq ["text","at","part","count"] ["text","at","part"] (xj xbl):=⟨rfl,rfl,rfl,by decide+kernel,rfl,by decide+kernel,by decide+kernel⟩
theorem xdr:xq ["self","to"] ["self","to"] (xj xbm):=⟨rfl,rfl,rfl,by decide+kernel,rfl,by decide+kernel,by decide+kernel⟩
theorem uh:xq ["self"] ["self"] (xj jD):=⟨rfl,rfl,rfl,by decide+kernel,rfl,by decide+kernel,by decide+kernel⟩
theorem xa6:xq ["self"] ["self"] (xj vV):=⟨rfl,rfl,rfl,by decide+kernel,rfl,by decide+kernel,by decide+kernel⟩
theorem xcq:xq ["self","to","start","count"] ["self","to","start","count"] (xj xau):=⟨rfl,rfl,rfl,by decide+kernel,rfl,by decide+kernel,by decide+kernel⟩
theorem xbL:xq ["self"] ["self"] (xj jE):=⟨rfl,rfl,rfl,by decide+kernel,rfl,by decide+kernel,by decide+kernel⟩
theorem xbM:xq ["self"] ["self"] (xj jF):=⟨rfl,rfl,rfl,by decide+kernel,rfl,by decide+kernel,by decide+kernel⟩
theorem xa7:xq ["self"] ["self"] (xj vW):=⟨rfl,rfl,rfl,by decide+kernel,rfl,by decide+kernel,by decide+kernel⟩
theorem vO:xq ["self","cell"] ["self","cell"] (xj zT):=⟨rfl,rfl,rfl,by decide+kernel,rfl,by decide+kernel,by decide+kernel⟩
theorem jW:xq ["self","cell","read"] ["self","cell","read"] (xj uJ):=⟨rfl,rfl,rfl,by decide+kernel,rfl,by decide+kernel,by decide+kernel⟩
theorem xcr:xq ["self"] ["self"] (xj xav):=⟨rfl,rfl,rfl,by decide+kernel,rfl,by decide+kernel,by decide+kernel⟩
theorem xcs:xq ["self"] ["self"] (xj xaw):=⟨rfl,rfl,rfl,by decide+kernel,rfl,by decide+kernel,by decide+kernel⟩
theorem vA:xq ["self","to","signs"] ["self","to","signs"] (xj xbn):=⟨rfl,rfl,rfl,by decide+kernel,rfl,by decide+kernel,by decide+kernel⟩
theorem xct:xq ["self"] ["self"] (xj xax):=⟨rfl,rfl,rfl,by decide+kernel,rfl,by decide+kernel,by decide+kernel⟩
theorem xbN:xq ["self"] ["self"] (xj jG):=⟨rfl,rfl,rfl,by decide+kernel,rfl,by decide+kernel,by decide+kernel⟩
theorem xal:xq ["self","cell","read"] ["self","cell","read"] (xj vk):=⟨rfl,rfl,rfl,by decide+kernel,rfl,by decide+kernel,by decide+kernel⟩
theorem xds:xq ["self"] ["self"] (xj xbo):=⟨rfl,rfl,rfl,by decide+kernel,rfl,by decide+kernel,by decide+kernel⟩
theorem xdt:xq ["self"] ["self"] (xj xbp):=⟨rfl,rfl,rfl,by decide+kernel,rfl,by decide+kernel,by decide+kernel⟩
theorem xgj:xq ["told"] ["told"] (xj xdW):=⟨rfl,rfl,rfl,by decide+kernel,rfl,by decide+kernel,by decide+kernel⟩
theorem xbO:xq ["told"] ["told"] (xj jH):=⟨rfl,rfl,rfl,by decide+kernel,rfl,by decide+kernel,by decide+kernel⟩
theorem xcu:xq ["told"] ["told"] (xj xay):=⟨rfl,rfl,rfl,by decide+kernel,rfl,by decide+kernel,by decide+kernel⟩
theorem xcv:xq ["signs"] ["signs"] (xj xaz):=⟨rfl,rfl,rfl,by decide+kernel,rfl,by decide+kernel,by decide+kernel⟩
theorem xeM:xq ["value"] ["value"] (xj xcc):=⟨rfl,rfl,rfl,by decide+kernel,rfl,by decide+kernel,by decide+kernel⟩
theorem jX:xq ["least","value"] ["least","value"] (xj uK):=⟨rfl,rfl,rfl,by decide+kernel,rfl,by decide+kernel,by decide+kernel⟩
theorem xdu:xq ["value"] ["value"] (xj xbq):=⟨rfl,rfl,rfl,by decide+kernel,rfl,by decide+kernel,by decide+kernel⟩
theorem xgk:xq ["rows","read","written"] ["rows"] (xj xdX):=⟨rfl,rfl,rfl,by decide+kernel,rfl,by decide+kernel,by decide+kernel⟩
theorem xcw:xq ["number","stretch","read"] ["number","stretch","read"] (xj xaA):=⟨rfl,rfl,rfl,by decide+kernel,rfl,by decide+kernel,by decide+kernel⟩
theorem xbP:xq ["spoilt","left","path","number"] ["spoilt","left"] (xj jI):=⟨rfl,rfl,rfl,by decide+kernel,rfl,by decide+kernel,by decide+kernel⟩
theorem xam:xq ["row"] ["row"] (xj vm):=⟨rfl,rfl,rfl,by decide+kernel,rfl,by decide+kernel,by decide+kernel⟩
theorem vP:xq ["row"] ["row"] (xj zU):=⟨rfl,rfl,rfl,by decide+kernel,rfl,by decide+kernel,by decide+kernel⟩
theorem xjl:xq ["one","other"] ["one","other"] (xj xhm):=⟨rfl,rfl,rfl,by decide+kernel,rfl,by decide+kernel,by decide+kernel⟩
theorem xhB:xq ["elder","newer","least"] ["elder","newer","least"] (xj jq):=⟨rfl,rfl,rfl,by decide+kernel,rfl,by decide+kernel,by decide+kernel⟩
theorem xjm:xq ["elder","newer","least","rows","order","ordered","turned","puts","done","paper"] ["elder","newer","least"] (xj xa0):=⟨rfl,rfl,rfl,by decide+kernel,rfl,by decide+kernel,by decide+kernel⟩
theorem xbQ:xq ["elder","newer","least","table","rows","signs","place","best","count"] ["elder","newer","least"] (xj jJ):=⟨rfl,rfl,rfl,by decide+kernel,rfl,by decide+kernel,by decide+kernel⟩
theorem jY:xq ["end","signs"] ["end","signs"] (xj uL):=⟨rfl,rfl,rfl,by decide+kernel,rfl,by decide+kernel,by decide+kernel⟩
theorem xan:xq ["takes","spoilt","left","ordered","turned","number","ring"] ["takes"] (xj yz):=⟨rfl,rfl,rfl,by decide+kernel,rfl,by decide+kernel,by decide+kernel⟩
theorem vZ:xq ["spoilt","left","number"] ["spoilt","left"] (xj uq):=⟨rfl,rfl,rfl,by decide+kernel,rfl,by decide+kernel,by decide+kernel⟩
theorem xeN:xq ["take","elder"] ["take","elder"] (xj xcd):=⟨rfl,rfl,rfl,by decide+kernel,rfl,by decide+kernel,by decide+kernel⟩
theorem xgl:xq ["puts","rows","put","ahead"] ["puts"] (xj ur):=⟨rfl,rfl,rfl,by decide+kernel,rfl,by decide+kernel,by decide+kernel⟩
theorem xhC:xq ["paper","wrong","rows","fault"] ["paper"] (xj xfr):=⟨rfl,rfl,rfl,by decide+kernel,rfl,by decide+kernel,by decide+kernel⟩
theorem xao:xq ["paper"] ["paper"] (xj vn):=⟨rfl,rfl,rfl,by decide+kernel,rfl,by decide+kernel,by decide+kernel⟩
theorem xcx:xq ["value"] ["value"] (xj xaB):=⟨rfl,rfl,rfl,by decide+kernel,rfl,by decide+kernel,by decide+kernel⟩
theorem vQ:xq ["paper","number","told"] ["paper"] (xj zV):=⟨rfl,rfl,rfl,by decide+kernel,rfl,by decide+kernel,by decide+kernel⟩
theorem ja:xq ["told","old","new","row"] ["told","old","new"] (xj uu):=⟨rfl,rfl,rfl,by decide+kernel,rfl,by decide+kernel,by decide+kernel⟩
theorem jZ:xq ["rows","covered","number","row","cell"] ["rows"] (xj uM):=⟨rfl,rfl,rfl,by decide+kernel,rfl,by decide+kernel,by decide+kernel⟩
theorem xeO:xq ["rows","new","covered","row","cell"] ["rows","new"] (xj xce):=⟨rfl,rfl,rfl,by decide+kernel,rfl,by decide+kernel,by decide+kernel⟩
theorem xcy:xq ["rows","written","number","row","cell"] ["rows"] (xj xaC):=⟨rfl,rfl,rfl,by decide+kernel,rfl,by decide+kernel,by decide+kernel⟩
theorem xhD:xq ["paper","elder","newer","told","row","cell"] ["paper","elder"] (xj vo):=⟨rfl,rfl,rfl,by decide+kernel,rfl,by decide+kernel,by decide+kernel⟩
theorem xjn:xq ["paper"] ["paper"] (xj xhn):=⟨rfl,rfl,rfl,by decide+kernel,rfl,by decide+kernel,by decide+kernel⟩
theorem xhE:xq ["old","newer"] ["old","newer"] (xj xfs):=⟨rfl,rfl,rfl,by decide+kernel,rfl,by decide+kernel,by decide+kernel⟩
theorem xeP:xq ["_law_script","_law_k"] ["_law_script","_law_k"] (xj xcf):=⟨rfl,rfl,rfl,by decide+kernel,rfl,by decide+kernel,by decide+kernel⟩
theorem xhF:xq ["_law_cell","_law_k","_law_number"] ["_law_cell","_law_k"] (xj xft):=⟨rfl,rfl,rfl,by decide+kernel,rfl,by decide+kernel,by decide+kernel⟩
theorem xhG:xq ["_law_cell","_law_size"] ["_law_cell"] (xj xfu):=⟨rfl,rfl,rfl,by decide+kernel,rfl,by decide+kernel,by decide+kernel⟩
theorem xhH:xq ["_law_elder_here","_law_cell","_law_signs","_law_k","_law_draw","_law_start"] ["_law_elder_here","_law_cell"] (xj xfv):=⟨rfl,rfl,rfl,by decide+kernel,rfl,by decide+kernel,by decide+kernel⟩
theorem xjo:xq ["_law_paper","_law_elder_here","_law_cells","_law_row"] ["_law_paper","_law_elder_here"] (xj xho):=⟨rfl,rfl,rfl,by decide+kernel,rfl,by decide+kernel,by decide+kernel⟩
theorem xdv:xq ["_law_rows","_law_total","_law_row"] ["_law_rows"] (xj xbr):=⟨rfl,rfl,rfl,by decide+kernel,rfl,by decide+kernel,by decide+kernel⟩
theorem xhI:xq ["_law_one","_law_other"] ["_law_one","_law_other"] (xj xfw):=⟨rfl,rfl,rfl,by decide+kernel,rfl,by decide+kernel,by decide+kernel⟩
theorem xhJ:xq ["_law_turned","_law_rows","_law_gone","_law_row","_law_ring","_law_k"] ["_law_turned","_law_rows"] (xj xfx):=⟨rfl,rfl,rfl,by decide+kernel,rfl,by decide+kernel,by decide+kernel⟩
theorem xlK:xq ["_law_script","_law_elder_here","_law_newer_here","_law_least","_law_paper","_law_turned","_law_rows","_law_handed","_law_full"] ["_law_script"] (xj xcW):=⟨rfl,rfl,rfl,by decide+kernel,rfl,by decide+kernel,by decide+kernel⟩
def xap(to st c:Int):List (Str×V):=[("to",.int to),("count",.int c),("source",.int st)]
def jj(to:Int)(t:Addr)(n:Int):List (Str×V):=[("to",.int to),("count",.int n),("signs",.ref t)]
def yf(lo:Int)(n:Nat):List Int:=(aO n).map fun(i:Nat)=>lo+(i:Int)
theorem xjp(lo:Int)(n:Nat):xbZ lo n=(yf lo n).map V.int:=by simp[xbZ,yf,i7]
theorem xY(lo:Int)(n:Nat):(yf lo n).length=n:=by simp[yf]
theorem xbA{x lo:Int}{n:Nat}:x∈yf lo n↔lo≤x∧x<lo+n:=by
 unfold yf;rw[aN];constructor
 ·rintro⟨i,hi,rfl⟩;have:=bh.mp hi;lia
 ·rintro⟨h1,h2⟩;exact⟨(x - lo).toNat,bh.mpr (by lia),by lia⟩
inductive xc where
 |take (to st c:Int)
 |put (to:Int) (sg:List Int)
def xc.isTake:xc→Bool
 | .take .. =>true
 | .put .. =>false
def TupAt(K:ah)(H:Hp)(t:Addr):xc→Prop
 | .take to st c=>H t=some (.tup [.str "take",.int to,.int st,.int c])
 | .put to sg=>∃u,H t=some (.tup [.str "put",.int to,.ref u])∧H u=some (.tup (sg.map V.int))
theorem TupAt.same{K:ah}{H H':Hp}{t:Addr}{r:xc}(h:TupAt K H t r)(s:xb H H'):TupAt K H' t r:=by
 cases r with
 |take to st c=>exact s.at h
 |put to sg=>obtain⟨u,h1,h2⟩:=h;exact⟨u,s.at h1,s.at h2⟩
def xB(K:ah)(a:Adr)(H:Hp)(o:Addr):xc→Prop
 | .take to st c=>∃dx,H o=some (.ins a.q0a dx (xap to st c))
 | .put to sg=>∃dx u,H o=some (.ins a.q0b dx (jj to u sg.length))∧H u=some (.tup (sg.map V.int))
theorem xB.same{K:ah}{a:Adr}{H H':Hp}{o:Addr}{r:xc}(h:xB K a H o r)(s:xb H H'):xB K a H' o r:=by
 cases r with
 |take to st c=>obtain⟨dx,h⟩:=h;exact⟨dx,s.at h⟩
 |put to sg=>obtain⟨dx,u,h1,h2⟩:=h;exact⟨dx,u,s.at h1,s.at h2⟩
theorem xB.mv{K:ah}{a:Adr}{H H' H6:Hp}{o:Addr}{r:xc}(h:xB K a H' o r)(k:∀p o,(H p=none∨∀ys,o≠HO.lst ys)→H' p=some o→H6 p=some o):xB K a H6 o r:=by
 cases r with
 |take to st c=>obtain⟨dx,h⟩:=h;exact⟨dx,k _ _ (.inr fun ys z=>by cases z) h⟩
 |put to sg=>obtain⟨dx,u,h1,h2⟩:=h;exact⟨dx,u,k _ _ (.inr fun ys z=>by cases z) h1,k _ _ (.inr fun ys z=>by cases z) h2⟩
theorem TupAt.mv{K:ah}{H H' H6:Hp}{t:Addr}{r:xc}(h:TupAt K H' t r)(k:∀p o,(H p=none∨∀ys,o≠HO.lst ys)→H' p=some o→H6 p=some o):TupAt K H6 t r:=by
 cases r with
 |take to st c=>exact k _ _ (.inr fun ys z=>by cases z) h
 |put to sg=>obtain⟨u,h1,h2⟩:=h;exact⟨u,k _ _ (.inr fun ys z=>by cases z) h1,k _ _ (.inr fun ys z=>by cases z) h2⟩
def xc.ok:xc→Prop
 | .take to st c=>0≤to∧0≤st∧1≤c
 | .put to sg=>0≤to∧sg≠[]∧sg.length≤100000∧∀x∈sg,(x.natAbs:Int)<10^60
def xc.dat:xc→gv
 | .take to st c=>.tuple [.str "take",.int to,.int st,.int c]
 | .put to sg=>.tuple [.str "put",.int to,.tuple (sg.map c5)]
theorem xhK{K:ah}{H:Hp}:∀xs:List Int,Rps K H (xs.map V.int) (xs.map c5)
 |[]=>.nil
 |x::xs=>.cons (.int x) (xhK xs)
theorem TupAt.rp{K:ah}{H:Hp}{t:Addr}{r:xc}(h:TupAt K H t r):Rp K H (.ref t) r.dat:=by
 cases r with
 |take to st c=>exact .tup (SqT.of h) (.cons (.str _) (.cons (.int _) (.cons (.int _) (.cons (.int _) .nil))))
 |put to sg=>obtain⟨u,h1,h2⟩:=h;exact .tup (SqT.of h1) (.cons (.str _) (.cons (.int _) (.cons (.tup (SqT.of h2) (xhK sg)) .nil)))
theorem xc1(r:xc):dA r.dat=true:=by
 cases r with
 |take to st c=>simp[xc.dat,dA,cI];decide+kernel
 |put to sg=>simp[xc.dat,dA,cI,kL sg];decide+kernel
theorem xlL(r:xc):dJ r.dat≤2:=by
 cases r with
 |take to st c=>simp[xc.dat,dJ,gf]
 |put to sg=>simp[xc.dat,dJ,gf,lQ sg]
theorem xbB:∀rs:List xc,cI (rs.map xc.dat)=true
 |[]=>by simp[cI]
 |x::r=>by simp only[bc,cI,xc1,xbB r,iQ]
def xeQ(K:ah)(a:Adr)(H:Hp)(l:Addr)(rs:List xc):Prop:=∃ts:List Addr,SqL K H l (ts.map V.ref)∧Paired (xB K a H) ts rs
theorem xc2{K:ah}{H:Hp}:∀{ts:List Addr} {rs:List xc},Paired (TupAt K H) ts rs→Rps K H (ts.map V.ref) (rs.map xc.dat)
 |_,_,.nil=>.nil
 |_,_,.cons x xs=>.cons x.rp (xc2 xs)
theorem xlM{K:ah}{H:Hp}{t p C dx:Addr}{xs:List V}{fs:List (Str×V)}{o:HO}(h:SqT K H t xs)(hp:H p=some (.ins C dx fs)):SqT K (upd H p o) t xs:=by
 rcases h with(h|⟨ob,h⟩)|h
 ·exact .inl (.inl (by rw[xl (yU h hp (by intro z;cases z))];exact h))
 ·exact .inl (.inr ⟨ob,by rw[xl (yU h hp (by intro z;cases z))];exact h⟩)
 ·exact .inr h
def xiS(K:ah):Sp:=fun vs H Q _=>∃(p C dx:Addr) (to:Int),vs=[.ref p,.int to]∧H p=some (.ins C dx [])∧Cls K C∧xT K C "to"∧xT K C "count"∧Q .non (upd H p (.ins C dx [("to",.int to),("count",.int 0)]))
def xhL(a:Adr):Sp:=fun vs H Q _=>∃(p dx:Addr) (to st c:Int),vs=[.ref p,.int to,.int st,.int c]∧H p=some (.ins a.q0a dx [])∧Q .non (upd H p (.ins a.q0a dx (xap to st c)))
def xiT(K:ah)(a:Adr):Sp:=fun vs H Q _=>∃(p dx t:Addr) (to:Int) (xs:List V),vs=[.ref p,.int to,.ref t]∧H p=some (.ins a.q0b dx [])∧SqT K H t xs∧Q .non (upd H p (.ins a.q0b dx (jj to t xs.length)))
def xaM(H:Hp)(Q:VK)(ns:List Int):Prop:=∀(l:Addr) (H':Hp),xb H H'→H l=none→H' l=some (.lst (ns.map V.int))→Q (.ref l) H'
def xmD(a:Adr):Sp:=fun vs H Q _=>∃(p dx:Addr) (to st c:Int),vs=[.ref p]∧H p=some (.ins a.q0a dx (xap to st c))∧Q (.bl (decide (st=to))) H
def xiU:Sp:=fun vs H Q _=>∃i:Int,vs=[.int i]∧Q (.bl true) H
def xd5:Sp:=fun vs H Q _=>∃l i:Int,vs=[.int l,.int i]∧Q (.bl (decide (l≤i))) H
def xkl:Sp:=fun vs H Q _=>∃i:Int,vs=[.int i]∧(i.natAbs:Int)<10^60∧Q (.bl true) H
def xhM(K:ah):Sp:=fun vs H Q _=>∃(u:Addr) (sg:List Int),vs=[.ref u]∧H u=some (.tup (sg.map V.int))∧sg≠[]∧sg.length≤100000∧(∀x∈sg,(x.natAbs:Int)<10^60)∧∀H',xb H H'→Q (.bl true) H'
def xgA(K:ah):Sp:=fun vs H Q _=>∃(t:Addr) (r:xc),vs=[.ref t]∧TupAt K H t r∧r.ok∧Q (.bl r.isTake) H
def xhN(K:ah):Sp:=fun vs H Q _=>∃(t:Addr) (to:Int) (sg:List Int),vs=[.ref t]∧TupAt K H t (.put to sg)∧xc.ok (.put to sg)∧∀H',xb H H'→Q (.bl true) H'
def xlN(K:ah)(a:Adr):Sp:=fun vs H Q _=>∃(t:Addr) (r:xc),vs=[.ref t]∧TupAt K H t r∧r.ok∧∀(o:Addr) (H':Hp),xb H H'→H o=none→xB K a H' o r→Q (.ref o) H'
def xhO(a:Adr):Sp:=fun vs H Q _=>∃(o dx:Addr) (to st c:Int),vs=[.ref o]∧H o=some (.ins a.q0a dx (xap to st c))∧∀t,H t=none→Q (.ref t) (upd H t (.tup [.str "take",.int to,.int st,.int c]))
def xhP(a:Adr):Sp:=fun vs H Q _=>∃(o dx u:Addr) (to n:Int),vs=[.ref o]∧H o=some (.ins a.q0b dx (jj to u n))∧∀t,H t=none→Q (.ref t) (upd H t (.tup [.str "put",.int to,.ref u]))
def mixed(c k:Int):Int:=if c%2=1 then c / 2^(1+20*(k%120)).toNat%2^(20:Int).toNat else
 let n:=(c / 2%2147483647+7919*k+1)*48271%2147483647
 n*(n / 1009+69621)%2147483647
def cellAt(ns:List Int)(k:Int):Int:=if k<ns.length then ns.getD k.toNat 0 else 0
def uV(K:ah):Sp:=fun vs H Q _=>∃(p C dx:Addr) (fs:List (Str×V)) (to c:Int),vs=[.ref p]∧H p=some (.ins C dx fs)∧Cls K C∧xT K C "to"∧xT K C "count"∧fs.lookup ("to":Str)=some (.int to)∧fs.lookup ("count":Str)=some (.int c)∧c.toNat≤2^24∧xaM H Q (yf to c.toNat)
def xkm(K:ah):Sp:=fun vs H Q _=>∃(l:Addr) (ns:List Int) (k:Int),vs=[.ref l,.int k]∧SqL K H l (ns.map V.int)∧0≤k∧Q (.int (cellAt ns k)) H
def xmE:Sp:=fun vs H Q _=>∃c k:Int,vs=[.int c,.int k]∧Q (.int (mixed c k)) H
def xc.cv:xc→List Int
 | .take to _ c=>yf to c.toNat
 | .put to sg=>yf to sg.length
def xc.rds:xc→List Int
 | .take to st c=>if st=to then[]else yf st c.toNat
 | .put _ _=>[]
def xc.wrs:xc→List Int
 | .take to st c=>if st=to then[]else yf to c.toNat
 | .put to sg=>yf to sg.length
def num:Nat→List (List Int)→List (Nat×Int)
 |_,[]=>[]
 |k,cs::r=>cs.map (fun c=>(k,c))++num (k+1) r
def tw:List (Nat×Int)→List Int→Option (Nat×Int)
 |[],_=>none
 |(k,c)::r,seen=>if c∈seen then some (k,c)else tw r (c::seen)
def xaa(rs:List xc):Option (Nat×Int):=tw (num 0 (rs.map xc.cv)) []
def uW(rs:List xc)(new:Nat):Option Int:=((aO new).map fun(i:Nat)=>(i:Int)).find? fun c=> !decide (c∈(rs.map xc.cv).flatten)
def vB:Nat→List xc→List Int→Option (Nat×Int)
 |_,[],_=>none
 |k,r::rest,wr=>match r.rds.find? fun c=>decide (c∈wr)with
  |some c=>some (k,c)
  |none=>vB (k+1) rest (wr++r.wrs)
def jk(rs:List xc):Option (Nat×Int):=vB 0 rs []
def xnm(H:Hp)(Q:VK)(w:Str):Option (Nat×Int)→Prop
 |none=>∀H',xb H H'→Q .non H'
 |some (k,c)=>∀t H',xb H H'→H' t=some (.tup [.str w,.int k,.int c])→Q (.ref t) H'
def xqX(H:Hp)(Q:VK)(w:Str):Option Int→Prop
 |none=>∀H',xb H H'→Q .non H'
 |some c=>∀t H',xb H H'→H' t=some (.tup [.str w,.int c])→Q (.ref t) H'
def xeR(rs:List xc):Prop:=rs.length≤300∧∀r∈rs,r.cv.length≤300∧r.rds.length≤300∧r.wrs.length≤300
def xmF(K:ah)(a:Adr):Sp:=fun vs H Q _=>∃(l:Addr) (rs:List xc),vs=[.ref l]∧xeQ K a H l rs∧xeR rs∧xaa rs=none∧xnm H Q "twice" (xaa rs)
inductive xeS(K:ah)(a:Adr)(vs:List V)(H:Hp)(Q:VK):Prop
 |mk (l:Addr) (rs:List xc) (new:Nat):(vs=[.ref l,.int new])→(xeQ K a H l rs)→(xeR rs)→(new≤300)→(uW rs new=none)→(xqX H Q "lacks" (uW rs new))→xeS K a vs H Q
def xkn(K:ah)(a:Adr):Sp:=fun vs H Q _=>xeS K a vs H Q
def xog(K:ah)(a:Adr):Sp:=fun vs H Q _=>∃(l:Addr) (rs:List xc),vs=[.ref l]∧xeQ K a H l rs∧xeR rs∧jk rs=none∧∀H',xb H H'→Q .non H'
def xc.to:xc→Int
 | .take t _ _=>t
 | .put t _=>t
def xc.cnt:xc→Nat
 | .take _ _ c=>c.toNat
 | .put _ sg=>sg.length
def xc.sg(es:List Int):xc→List Int
 | .take _ st c=>(es.drop st.toNat).take c.toNat
 | .put _ sg=>sg
def xc.fits(es:List Int):xc→Prop
 | .take _ st c=>st+c≤es.length
 | .put _ _=>True
theorem xc.sg_len{es:List Int}{r:xc}(ok:r.ok)(f:r.fits es):(r.sg es).length=r.cnt:=by
 cases r with
 |take to st c=>
  obtain⟨k1,k2,k3⟩:=ok;have f':st+c≤es.length:=f;simp only[xc.sg,xc.cnt,bI,aX];lia
 |put to sg=>rfl
theorem xc.ok.to{r:xc}(ok:r.ok):0≤r.to:=by
 cases r with
 |take to st c=>exact ok.1
 |put to sg=>exact ok.1
def Tells(es nw:List Int)(r:xc):Prop:=r.ok∧r.fits es∧r.to+r.cnt≤nw.length∧∀i:Nat,i<r.cnt→nw[(r.to+i).toNat]? =(r.sg es)[i]?
def xV(r:xc)(j:Nat):Prop:=r.to≤j∧(j:Int)<r.to+r.cnt
def Agree(S:Nat→Prop)(ys nw:List Int):Prop:=ys.length=nw.length∧∀j,S j→ys[j]? =nw[j]?
theorem Agree.set{S S':Nat→Prop}{ys nw:List Int}{c:Nat}{v:Int}(h:Agree S ys nw)(hv:nw[c]? =some v)(hS:∀j,S' j→S j∨j=c):Agree S' (ys.set c v) nw:=by
 have hc:c<ys.length:=by rw[h.1];exact(aD.mp hv).1
 refine⟨by rw[List.length_set];exact h.1,fun j hj=>?_⟩
 by_cases e:c=j
 ·subst e;rw[gL hc,hv]
 ·rw[eN e];rcases hS j hj with z|z
  ·exact h.2 j z
  ·exact absurd z.symm e
theorem Agree.all{S:Nat→Prop}{ys nw:List Int}(h:Agree S ys nw)(k:∀j,j<nw.length→S j):ys=nw:=by
 apply eJ;intro j
 by_cases hj:j<nw.length
 ·exact h.2 j (k j hj)
 ·rw[cn (by rw[h.1];lia),cn (by lia)]
def vC(K:ah)(H:Hp)(p:Addr)(o n:Int)(rs:List xc):Prop:=∃t ts,H p=some (.tup [.int o,.int n,.ref t])∧H t=some (.tup (ts.map V.ref))∧Paired (TupAt K H) ts rs
theorem vC.same{K:ah}{H H':Hp}{p:Addr}{o n:Int}{rs:List xc}(h:vC K H p o n rs)(s:xb H H'):vC K H' p o n rs:=by
 obtain⟨t,ts,h1,h2,h3⟩:=h;exact⟨t,ts,s.at h1,s.at h2,L2.Paired.imp' (fun _ _ z=>z.same s) h3⟩
def Fit(old new:Int):xc→Prop
 | .take to st c=>st+c≤old∧to+c≤new
 | .put to sg=>to+sg.length≤new
def xhQ:Sp:=fun vs H Q _=>∃i:Int,vs=[.int i]∧0≤i∧i≤300∧Q (.bl true) H
inductive xjq(K:ah)(vs:List V)(H:Hp)(Q:VK):Prop
 |mk (p:Addr) (o n:Int) (rs:List xc):(vs=[.ref p])→(vC K H p o n rs)→(0≤o)→(o≤300)→(0≤n)→(n≤300)→(rs.length≤300)→(Q (.bl true) H)→xjq K vs H Q
def xoh(K:ah):Sp:=fun vs H Q _=>xjq K vs H Q
def xko(K:ah):Sp:=fun vs H Q _=>∃(t:Addr) (r:xc) (old new:Int),vs=[.ref t,.int old,.int new]∧TupAt K H t r∧r.ok∧Fit old new r∧∀H',xb H H'→Q (.bl true) H'
def xmG(K:ah):Sp:=fun vs H Q _=>∃(p:Addr) (o n:Int) (rs:List xc),vs=[.ref p]∧vC K H p o n rs∧(∀r∈rs,r.ok∧Fit o n r)∧rs.length≤300∧∀H',xb H H'→Q .non H'
inductive xhR(K:ah)(vs:List V)(H:Hp)(Q:VK):Prop
 |mk (p:Addr) (o n:Int) (rs:List xc):(vs=[.ref p])→(vC K H p o n rs)→((0≤o∧o≤300))→((0≤n∧n≤300))→(rs.length≤300)→((∀r∈rs,r.ok∧Fit o n r))→(xaa rs=none)→(uW rs n.toNat=none)→(jk rs=none)→(∀H',xb H H'→Q .non H')→xhR K vs H Q
def xhS(K:ah):Sp:=fun vs H Q _=>xhR K vs H Q
def xc.cst:xc→Int
 | .take .. =>4
 | .put _ sg=>2+sg.length
local macro_rules| `(tactic|walk_at"w")=>`(tactic|(conv=>whnf))
local macro_rules| `(tactic|walk_at"few")=>`(tactic|first|exact Nat.lt_of_lt_of_le (xnF (n:=998) (by simp)) (by decide)|(simp;done))
local macro_rules| `(tactic|walk_at"pos")=>`(tactic|first|(show(0:Int)<_;decide)|(show(0:Int)<_;lia)|assumption)
local macro_rules| `(tactic|walk_at"same")=>`(tactic|first|exact xb.refl _|assumption|(refine' xb.trans ?sa ?sb;(case sb=>assumption);(case sa=>walk_at"same")))
local macro_rules| `(tactic|walk_at"get")=>`(tactic|first|assumption|exact xk|(refine' xb.at ?ga ?gb;(case gb=>assumption);(case ga=>walk_at"same")))
local macro_rules| `(tactic|walk_at"sq")=>`(tactic|first|assumption|(refine' SqL.of ?g;(case g=>walk_at"get"))|(refine' SqT.of ?g;(case g=>walk_at"get"))|(refine' xb.seq ?sa ?sb;(case sb=>assumption);(case sa=>walk_at"same"))|(refine' xb.seqT ?sa ?sb;(case sb=>assumption);(case sa=>walk_at"same"))|(refine' Or.inl ?g;(case g=>walk_at"sq"))|(refine' Or.inr ?g;(case g=>walk_at"sq")))
local macro_rules| `(tactic|walk_at"no")=>`(tactic|(intro z;first|cases z|(simp at z;done)))
local macro_rules| `(tactic|walk_at"mul")=>`(tactic|first|exact Or.inl ⟨by decide,by decide⟩|exact Or.inr ⟨by decide,by decide⟩|exact Or.inl ⟨by lia,by lia⟩|exact Or.inr ⟨by lia,by lia⟩)
local macro_rules| `(tactic|walk_at"side")=>`(tactic|first|exact⟨by decide,by decide⟩|exact⟨by decide,by decide,by decide⟩|walk_at"pos" |walk_at"mul" |(show(_:Nat)≤sizeLine;first|decide|(simp only[List.length_cons,List.length_nil];decide)))
local macro_rules| `(tactic|walk_at"s")=>`(tactic|(refine And.intro (by walk_at"side") ?_;walk_at"w"))
local macro_rules| `(tactic|walk_at"ss")=>`(tactic|(repeat (walk_at"s")))
section
variable {P:aH} {w:World} {K:ah} {mg:Str→Option Value} {base:Heap} {a:Adr}
theorem xaN(T:Txt K mg a):xA P w K mg base CX0 1 a.q1h a.xbt ["self","to"] (xiS K):=by
 refine T.q14.ok xdr (fun vs H Q E h=>?_) (fun cdv A outer s H vs Q E hr h=>?_)
 ·obtain⟨p,C,dx,to,rfl,_⟩:=h;rfl
 ·obtain⟨p,C,dx,to,rfl,hp,c,n1,n2,k⟩:=h;have nd:=xdr.nd;refine⟨_,(xg (vI (cv 0) (cv 1) rfl)
  (xi (vI (cv 0) xh rfl))),?_⟩
  walk_at"w";refine⟨p,C,dx,_,rfl,hp,c,n1,by walk_at"few",?_⟩;walk_at"w";refine⟨p,C,dx,_,rfl,xk,c,n2,by walk_at"few",?_⟩;walk_at"w";rw[zw];exact k
theorem xcz(T:Txt K mg a):xA P w K mg base CX0 2 a.q0Y a.xaD ["self","to","start","count"] (xhL a):=by
 refine T.q1J.ok xcq (fun vs H Q E h=>?_) (fun cdv A outer s H vs Q E hr h=>?_)
 ·obtain⟨p,dx,to,st,c,rfl,_⟩:=h;rfl
 ·obtain⟨p,dx,to,st,c,rfl,hp,k⟩:=h;have nd:=xcq.nd;refine⟨_,(xg (yE (xfl (by rfl) T.xkk T.q18 (xaN T) (hr.mono (by decide)) T.xbz .nil xn (xa (cv 0) (xa (cv 1) xf))))
  (xg (vI (cv 0) (cv 2) rfl)
  (xi (vI (cv 0) (cv 3) rfl)))),?_⟩
  walk_at"w";refine⟨p,_,dx,to,rfl,hp,T.q0c,T.q0o,T.q0d,?_⟩;walk_at"w";refine⟨p,_,dx,_,rfl,xk,T.q0c,T.q0e,by walk_at"few",?_⟩;walk_at"w";refine⟨p,_,dx,_,rfl,xk,T.q0c,T.q0d,by walk_at"few",?_⟩;walk_at"w";rw[zw,zw];exact k
theorem ue(T:Txt K mg a):xA P w K mg base CX0 2 a.q0W a.jh ["self","to","signs"] (xiT K a):=by
 refine T.q1H.ok vA (fun vs H Q E h=>?_) (fun cdv A outer s H vs Q E hr h=>?_)
 ·obtain⟨p,dx,t,to,xs,rfl,_⟩:=h;rfl
 ·obtain⟨p,dx,t,to,xs,rfl,hp,ht,k⟩:=h;have nd:=vA.nd;have ht1:∀o,SqT K (upd H p o) t xs:=fun o=>xlM ht hp;refine⟨_,(xg (yE (xfl (by rfl) T.xkk T.q18 (xaN T) (hr.mono (by decide)) T.xbz .nil xn (xa (cv 0) (xa (cv 1) xf))))
  (xg (vI (cv 0) (yB uf (by rfl) T.q1P zC (xa (cv 2) xf)) rfl)
  (xi (vI (cv 0) (xt xy (by rfl) T.q0i xN (xa (xF (cv 0) rfl) xf)) rfl)))),?_⟩
  walk_at"w";refine⟨p,_,dx,to,rfl,hp,T.q0f,T.q0v,T.q0j,?_⟩;walk_at"w";refine⟨t,xs,rfl,.inr ⟨ht1 _,?_⟩⟩;walk_at"w";refine⟨p,_,dx,_,rfl,xk,T.q0f,T.q0w,by walk_at"few",?_⟩;walk_at"w";refine⟨p,_,dx,_,.ref t,rfl,xk,T.q0f,T.q0w,rfl,?_⟩;walk_at"w";refine⟨t,xs,rfl,.inr (xlM (ht1 _) xk),?_⟩;walk_at"w";refine⟨p,_,dx,_,rfl,xk,T.q0f,T.q0j,by walk_at"few",?_⟩;walk_at"w";rw[zw,zw];exact k
theorem yq(T:Txt K mg a):xA P w K mg base CX0 1 a.q0n a.vX ["self"] (uV K):=by
 refine T.q1e.ok xa6 (fun vs H Q E h=>?_) (fun cdv A outer s H vs Q E hr h=>?_)
 ·obtain⟨p,C,dx,fs,to,c,rfl,_⟩:=h;rfl
 ·obtain⟨p,C,dx,fs,to,c,rfl,hp,cl,n1,n2,l1,l2,hc,k⟩:=h;have nd:=xa6.nd;refine⟨_,(xi (xo (yB (xbK rfl) (by rfl) T.q2l vh (xa (xf6 (by rfl) T.q06 (xa (xF (cv 0) rfl) (xa (xw xU (xF (cv 0) rfl) (xF (cv 0) rfl)) xf))) xf)))),?_⟩;walk_at"w";refine⟨p,C,dx,fs,_,rfl,hp,cl,n1,l1,?_⟩;walk_at"w";refine⟨p,C,dx,fs,_,rfl,hp,cl,n1,l1,?_⟩;walk_at"w";refine⟨p,C,dx,fs,_,rfl,hp,cl,n2,l2,?_⟩;walk_at"w";intro r hr1;walk_at"w";have e:yR to (to+c) 1=c.toNat:=by rw[zq];congr 1;lia
  refine⟨r,to,to+c,rfl,xk,by rw[e];exact hc,fun l hl=>?_⟩;rw[e,xjp];have hl0:H l=none:=xb.free (xb.new hr1) hl;exact k l _ ((xb.new hr1).put hl0) hl0 xk
theorem ui(T:Txt K mg a):xA P w K mg base CX0 1 a.q0P a.jL ["self"] (xmD a):=by
 refine T.q1w.ok xbL (fun vs H Q E h=>?_) (fun cdv A outer s H vs Q E hr h=>?_)
 ·obtain⟨p,dx,to,st,c,rfl,_⟩:=h;rfl
 ·obtain⟨p,dx,to,st,c,rfl,hp,k⟩:=h;have nd:=xbL.nd;refine⟨_,(xi (xo (uc ug (xF (cv 0) rfl) (xF (cv 0) rfl)))),?_⟩;walk_at"w";refine⟨p,_,dx,_,.int st,rfl,hp,T.q0c,T.q0e,rfl,?_⟩;walk_at"w";refine⟨p,_,dx,_,.int to,rfl,hp,T.q0c,T.q0o,rfl,?_⟩;exact k
theorem jl(T:Txt K mg a):xA P w K mg base CX0 1 a.q1W a.xcl ["_law_script","_law_k"] (xkm K):=by
 refine T.q03.ok xeP (fun vs H Q E h=>?_) (fun cdv A outer s H vs Q E hr h=>?_)
 ·obtain⟨l,ns,k,rfl,_⟩:=h;rfl
 ·obtain⟨l,ns,k,rfl,hl,hk,q⟩:=h;have nd:=xeP.nd;refine⟨_,(xg (xM (xD xat (cv 1) (xt xy (by rfl) T.q0i xN (xa (cv 0) xf))) (xi (xo (xu xX (cv 0) (cv 1) (fun _ _=>rfl)))) xH)
  (xi (xo xh))),?_⟩
  walk_at"w";refine⟨l,_,rfl,.inl hl,?_⟩;walk_at"w";refine⟨fun e=>?_,fun e=>?_⟩
  ·have e':=of_decide_eq_true e;rw[ab]at e';walk_at"w";refine⟨l,_,k,.int (ns.getD k.toNat 0),rfl,rfl,hl,?_,?_⟩
   ·have hk':k.toNat<ns.length:=by lia
    have:=yJ (xs:=ns.map V.int) (j:=k.toNat) (v:=.int (ns.getD k.toNat 0)) (by simp[hk'])
    rwa [cG hk]at this
   ·walk_at"w";rw[cellAt,if_pos e']at q;exact q
  ·have e':=of_decide_eq_false e;rw[ab]at e';rw[cellAt,if_neg e']at q;exact q
theorem xeT(x:Int):0≤x%2147483647∧x%2147483647<2147483647:=⟨cg _ (by decide),cf _ (by decide)⟩
theorem xbC(T:Txt K mg a):xA P w K mg base CX0 1 a.q2m a.xfy ["_law_cell","_law_k"] xmE:=by
 refine T.q1N.ok xhF (fun vs H Q E h=>?_) (fun cdv A outer s H vs Q E hr h=>?_)
 ·obtain⟨c,k,rfl,_⟩:=h;rfl
 ·obtain⟨c,k,rfl,q⟩:=h;have nd:=xhF.nd;refine⟨_,(xg (xM (xD ug (xw yX (cv 0) xh) xh) (xi (xo (xw yX (xw xqf (cv 0) (xw xU xh (xw xer xh (xw yX (cv 1) xh)))) (xw xjQ xh xh)))) xH)
  (xg (xv (i:=2) nd rfl (aJ rfl) (xw yX (xw xer (xw xU (xw xU (xw yX (xw vJ (cv 0) xh) xh) (xw xer xh (cv 1))) xh) xh) xh))
  (xi (xo (xw yX (xw xer (cv 2) (xw xU (xw vJ (cv 2) xh) xh)) xh))))),?_⟩
  walk_at"w";walk_at"ss";refine⟨fun e=>?_,fun e=>?_⟩
  ·have e:c%2=1:=of_decide_eq_true e;rw[mixed,if_pos e]at q;have:=cg k (show(120:Int)≠0 by decide);walk_at"w";walk_at"ss";refine fN (show(0:Int)≤_ by lia) ?_;walk_at"w";walk_at"ss";exact q
  ·have e:¬c%2=1:=of_decide_eq_false e;rw[mixed,if_neg e]at q;have b:=xeT ((c / 2%2147483647+7919*k+1)*48271);walk_at"w";walk_at"ss";exact q
theorem xdw(T:Txt K mg a):xA P w K mg base CX0 1 a.q1D a.xbw ["value"] xiU:=by
 refine T.q1k.ok xdu (fun vs H Q E h=>?_) (fun cdv A outer s H vs Q E hr h=>?_)
 ·obtain⟨i,rfl,_⟩:=h;rfl
 ·obtain⟨i,rfl,q⟩:=h;have nd:=xdu.nd;refine⟨_,(xi (xo (zg (xt yN (by rfl) T.q0h xW (xa (cv 0) (xa (vc (v:=.ty "int") (by rfl) T.q3y xpe rfl) xf))) (zZ (xo5 (xt yN (by rfl) T.q0h xW (xa (cv 0) (xa (vc (v:=.ty "bool") (by rfl) T.q3j xnD rfl) xf)))))))),?_⟩;walk_at"w";refine⟨_,_,_,_,true,rfl,rfl,yG.int _,rfl,?_⟩;walk_at"w";refine⟨fun _=>?_,by walk_at"no"⟩;walk_at"w";refine⟨_,_,_,_,false,rfl,rfl,yG.int _,rfl,?_⟩;exact q
theorem yQ(T:Txt K mg a):xA P w K mg base CX0 2 a.q0E a.uQ ["least","value"] xd5:=by
 refine T.q0g.ok jX (fun vs H Q E h=>?_) (fun cdv A outer s H vs Q E hr h=>?_)
 ·obtain⟨l,i,rfl,_⟩:=h;rfl
 ·obtain⟨l,i,rfl,q⟩:=h;have nd:=jX.nd;refine⟨_,(xi (xo (zg (xr (xdw T) (hr.mono (by decide)) (by rfl) T.xeF T.q1k.kp T.xeE .nil xn (xa (cv 1) xf)) (zZ (uc xo4 (cv 1) (cv 0)))))),?_⟩;walk_at"w";refine⟨i,rfl,?_⟩;walk_at"w";exact⟨fun _=>q,by walk_at"no"⟩
theorem xkp(T:Txt K mg a):xA P w K mg base CX0 2 a.q1R a.xch ["value"] xkl:=by
 refine T.q1Y.ok xeM (fun vs H Q E h=>?_) (fun cdv A outer s H vs Q E hr h=>?_)
 ·obtain⟨i,rfl,_⟩:=h;rfl
 ·obtain⟨i,rfl,hi,q⟩:=h;have nd:=xeM.nd;refine⟨_,(xi (xo (zg (xr (xdw T) (hr.mono (by decide)) (by rfl) T.xeF T.q1k.kp T.xeE .nil xn (xa (cv 0) xf)) (zZ (uc xat (xt xp9 (by rfl) T.q3v xpa (xa (cv 0) xf)) (xw xjQ xh xh)))))),?_⟩;walk_at"w";refine⟨i,rfl,?_⟩;walk_at"w";refine⟨fun _=>?_,by walk_at"no"⟩;walk_at"w";refine⟨⟨by decide,by decide,by decide⟩,?_⟩;walk_at"w";show Q (.bl (decide ((i.natAbs:Int)<10^(60:Int).toNat))) H;have e:decide ((i.natAbs:Int)<10^(60:Int).toNat)=true:=decide_eq_true hi;rw[e];exact q
theorem xhT(T:Txt K mg a):xA P w K mg base CX0 3 a.q1n a.xaI ["signs"] (xhM K):=by
 refine T.q1s.ok xcv (fun vs H Q E h=>?_) (fun cdv A outer s H vs Q E hr h=>?_)
 ·obtain⟨u,sg,rfl,_⟩:=h;rfl
 ·obtain⟨u,sg,rfl,hu,hne,hlen,hs,q⟩:=h;have nd:=xcv.nd;refine⟨_,(xi (xo (zg (xt yN (by rfl) T.q0h xW (xa (cv 0) (xa (vc (v:=.ty "tuple") (by rfl) T.q1P zC rfl) xf))) (zg (uc xdN (xt xy (by rfl) T.q0i xN (xa (cv 0) xf)) xh) (zZ (xt (xla rfl) (by rfl) T.q3w xpd (xa (yj (yo (cap:=[]) (ys:=[]) rfl rfl rfl rfl rfl trivial (by decide+kernel)) rfl (xaQ (cv 0)) (fun _ _ _ _=>(xr (xkp T) (hr.mono (by decide)) (by rfl) T.xlC T.q1Y.kp T.xlB .nil xn (xa (cv 0) xf))) (fun _ _ _ _=>yi)) xf))))))),?_⟩;walk_at"w";refine⟨_,_,_,_,true,rfl,rfl,yG.tup hu,rfl,?_⟩;walk_at"w";refine⟨fun _=>?_,by walk_at"no"⟩;walk_at"w";refine⟨u,_,rfl,.inr (SqT.of hu),?_⟩;walk_at"w";have hpos:0<sg.length:=bB.mpr hne;refine⟨fun _=>?_,fun z=>by have:=of_decide_eq_false z;rw[ab]at this;lia⟩;walk_at"w";refine⟨u,rfl,⟨_,SqT.of hu⟩,?_⟩;refine xb9 (fun i acc _=>acc=bC i (V.bl true)) (SqT.of hu) (by rw[ab,ay];lia) rfl (fun i x acc H3 H3' hx s3 s3' hp R hR=>?_) (fun D acc H3 H3' hD hD3 s3 s3' hp hl hv=>?_)
  ·rw[ao]at hx;cases hy:sg[i]? with
   |none=>rw[hy]at hx;cases hx
   |some y=>
    rw[hy]at hx;cases hx;walk_at"w";refine⟨y,rfl,hs y (aG hy),hR _ _ (xb.refl _) fun H6 _ _=>?_⟩;rw[hp,List.replicate_succ']
  ·walk_at"w";refine⟨D,bC sg.length true,rfl,SqL.of ?_,?_⟩
   ·rw[hv,hp,ab,my]
   ·walk_at"w";show Q (.bl ((bC sg.length true).all id)) H3';have e:(bC sg.length true).all id=true:=by simp
    rw[e];exact q _ (s3.trans s3')
theorem xgB(T:Txt K mg a):xA P w K mg base CX0 3 a.q07 a.jO ["told"] (xgA K):=by
 refine T.q1c.ok xbO (fun vs H Q E h=>?_) (fun cdv A outer s H vs Q E hr h=>?_)
 ·obtain⟨t,r,rfl,_⟩:=h;rfl
 ·obtain⟨t,r,rfl,ht,hk,q⟩:=h;have nd:=xbO.nd;refine⟨_,(xg (xM (PW.pt (zo (vH (yu (xt yN (by rfl) T.q0h xW (xa (cv 0) (xa (vc (v:=.ty "tuple") (by rfl) T.q1P zC rfl) xf))))) (zo (xD xcT (xt xy (by rfl) T.q0i xN (xa (cv 0) xf)) xh) (vG (xD xjR (xu xx (cv 0) xh (fun _ _=>rfl)) vF))))) (xi (xo zm)) xH)
  (xi (xo (zg (xr (yQ T) (hr.mono (by decide)) (by rfl) T.zd T.q0g.kp T.zc .nil xn (xa xh (xa (xu xx (cv 0) xh (fun _ _=>rfl)) xf))) (zg (xr (yQ T) (hr.mono (by decide)) (by rfl) T.zd T.q0g.kp T.zc .nil xn (xa xh (xa (xu xx (cv 0) xh (fun _ _=>rfl)) xf))) (zZ (xr (yQ T) (hr.mono (by decide)) (by rfl) T.zd T.q0g.kp T.zc .nil xn (xa xh (xa (xu xx (cv 0) xh (fun _ _=>rfl)) xf))))))))),?_⟩
  cases r with
  |put to sg=>
   obtain⟨u,h1,h2⟩:=ht;walk_at"w";refine⟨_,_,_,_,true,rfl,rfl,yG.tup h1,rfl,?_⟩;walk_at"w";refine⟨by walk_at"no",fun _=>?_⟩;walk_at"w";refine⟨t,_,rfl,.inr (SqT.of h1),?_⟩;walk_at"w";refine⟨fun _=>?_,by walk_at"no"⟩;walk_at"w";exact⟨fun _=>q,by walk_at"no"⟩
  |take to st c=>
   walk_at"w";refine⟨_,_,_,_,true,rfl,rfl,yG.tup ht,rfl,?_⟩;walk_at"w";refine⟨by walk_at"no",fun _=>?_⟩;walk_at"w";refine⟨t,_,rfl,.inr (SqT.of ht),?_⟩;walk_at"w";refine⟨by walk_at"no",fun _=>?_⟩;walk_at"w";refine⟨t,_,_,.str "take",rfl,rfl,SqT.of ht,rfl,?_⟩;walk_at"w";refine⟨by walk_at"no",fun _=>?_⟩;walk_at"w";obtain⟨k1,k2,k3⟩:=hk;refine⟨t,_,_,.int to,rfl,rfl,SqT.of ht,rfl,?_⟩;walk_at"w";refine⟨_,_,rfl,?_⟩;walk_at"w";refine⟨fun _=>?_,fun z=>absurd k1 (of_decide_eq_false z)⟩;walk_at"w";refine⟨t,_,_,.int st,rfl,rfl,SqT.of ht,rfl,?_⟩;walk_at"w";refine⟨_,_,rfl,?_⟩;walk_at"w";refine⟨fun _=>?_,fun z=>absurd k2 (of_decide_eq_false z)⟩;walk_at"w";refine⟨t,_,_,.int c,rfl,rfl,SqT.of ht,rfl,?_⟩;walk_at"w";refine⟨_,_,rfl,?_⟩;walk_at"w";rw[decide_eq_true k3];exact q
theorem xhU(T:Txt K mg a):xA P w K mg base CX0 4 a.q1m a.xaH ["told"] (xhN K):=by
 refine T.q1r.ok xcu (fun vs H Q E h=>?_) (fun cdv A outer s H vs Q E hr h=>?_)
 ·obtain⟨t,to,sg,rfl,_⟩:=h;rfl
 ·obtain⟨t,to,sg,rfl,⟨u,h1,h2⟩,⟨k1,k2,k3,k4⟩,q⟩:=h;have nd:=xcu.nd;refine⟨_,(xg (xM (PW.pt (zo (vH (yu (xt yN (by rfl) T.q0h xW (xa (cv 0) (xa (vc (v:=.ty "tuple") (by rfl) T.q1P zC rfl) xf))))) (zo (xD xcT (xt xy (by rfl) T.q0i xN (xa (cv 0) xf)) xh) (vG (xD xjR (xu xx (cv 0) xh (fun _ _=>rfl)) vF))))) (xi (xo zm)) xH)
  (xi (xo (zg (xr (yQ T) (hr.mono (by decide)) (by rfl) T.zd T.q0g.kp T.zc .nil xn (xa xh (xa (xu xx (cv 0) xh (fun _ _=>rfl)) xf))) (zZ (xr (xhT T) (hr.mono (by decide)) (by rfl) T.xiN T.q1s.kp T.xiM .nil xn (xa (xu xx (cv 0) xh (fun _ _=>rfl)) xf))))))),?_⟩
  walk_at"w";refine⟨_,_,_,_,true,rfl,rfl,yG.tup h1,rfl,?_⟩;walk_at"w";refine⟨by walk_at"no",fun _=>?_⟩;walk_at"w";refine⟨t,_,rfl,.inr (SqT.of h1),?_⟩;walk_at"w";refine⟨by walk_at"no",fun _=>?_⟩;walk_at"w";refine⟨t,_,_,.str "put",rfl,rfl,SqT.of h1,rfl,?_⟩;walk_at"w";refine⟨by walk_at"no",fun _=>?_⟩;walk_at"w";refine⟨t,_,_,.int to,rfl,rfl,SqT.of h1,rfl,?_⟩;walk_at"w";refine⟨_,_,rfl,?_⟩;walk_at"w";refine⟨fun _=>?_,fun z=>absurd k1 (of_decide_eq_false z)⟩;walk_at"w";refine⟨t,_,_,.ref u,rfl,rfl,SqT.of h1,rfl,?_⟩;walk_at"w";exact⟨u,sg,rfl,h2,k2,k3,k4,q⟩
theorem vR(T:Txt K mg a):xA P w K mg base CX0 5 a.q2a a.xdY ["told"] (xlN K a):=by
 refine T.q1b.ok xgj (fun vs H Q E h=>?_) (fun cdv A outer s H vs Q E hr h=>?_)
 ·obtain⟨t,r,rfl,_⟩:=h;rfl
 ·obtain⟨t,r,rfl,ht,hk,q⟩:=h;have nd:=xgj.nd;refine⟨_,(xg (xM (yu (xr (xgB T) (hr.mono (by decide)) (by rfl) T.xhu T.q1c.kp T.xht .nil xn (xa (cv 0) xf))) (xi (xo (jo T.q2V (xcz T) (hr.mono (by decide)) (by rfl) T.xa4 T.xdn .nil xn (xa (xu xx (cv 0) xh (fun _ _=>rfl)) (xa (xu xx (cv 0) xh (fun _ _=>rfl)) (xa (xu xx (cv 0) xh (fun _ _=>rfl)) xf)))))) xH)
  (xg (xM (yu (xr (xhU T) (hr.mono (by decide)) (by rfl) T.xiL T.q1r.kp T.xiK .nil xn (xa (cv 0) xf))) (xi (xo (jo T.q2M (ue T) (hr.mono (by decide)) (by rfl) T.xeJ T.ji .nil xn (xa (xu xx (cv 0) xh (fun _ _=>rfl)) (xa (xu xx (cv 0) xh (fun _ _=>rfl)) xf))))) xH)
  (xi xnM))),?_⟩
  walk_at"w";refine⟨t,r,rfl,ht,hk,?_⟩;cases r with
  |take to st c=>
   walk_at"w";refine⟨fun _=>?_,by walk_at"no"⟩;walk_at"w";refine⟨t,_,_,.int to,rfl,rfl,SqT.of ht,rfl,?_⟩;walk_at"w";refine⟨t,_,_,.int st,rfl,rfl,SqT.of ht,rfl,?_⟩;walk_at"w";refine⟨t,_,_,.int c,rfl,rfl,SqT.of ht,rfl,?_⟩;walk_at"w";intro x dx hx hdx hne;generalize hU:upd H dx (.own x)=H3;have sH3:=xb.of_eq hdx hU;have hx3:H3 x=none:=by rw[←hU,xl (bE hne)];exact hx
   refine⟨x,dx,_,_,_,rfl,xk,?_⟩;rw[zw];walk_at"w";exact⟨rfl,q x _ (sH3.trans (xb.new hx3)) hx ⟨dx,xk⟩⟩
  |put to sg=>
   walk_at"w";refine⟨by walk_at"no",fun _=>?_⟩;walk_at"w";refine⟨t,to,sg,rfl,ht,hk,fun H2 s2=>?_⟩;walk_at"w";obtain⟨u,h1,h2⟩:=ht;refine⟨fun _=>?_,by walk_at"no"⟩;walk_at"w";refine⟨t,_,_,.int to,rfl,rfl,SqT.of (s2.at h1),rfl,?_⟩;walk_at"w";refine⟨t,_,_,.ref u,rfl,rfl,SqT.of (s2.at h1),rfl,?_⟩;walk_at"w";intro x dx hx hdx hne;generalize hU:upd H2 dx (.own x)=H3;have sH3:=xb.of_eq hdx hU;have hx3:H3 x=none:=by rw[←hU,xl (bE hne)];exact hx
   refine⟨x,dx,u,_,_,rfl,xk,(sH3.trans (xb.new hx3)).seqT (SqT.of (s2.at h2)),?_⟩;rw[zw];walk_at"w";refine⟨rfl,q x _ (s2.trans (sH3.trans (xb.new hx3))) (s2.back hx) ⟨dx,u,?_,(s2.trans (sH3.trans (xb.new hx3))).at h2⟩⟩;rw[xk,ab]
def Sm:xc→Prop
 | .take to st c=>to≤100∧st≤100∧c≤60
 | .put to sg=>to≤100∧sg.length≤60
theorem yd{α β:Type}{F:α→β→Prop}{x:α}{y:β}:∀{l₁:List α} {l₂:List β},Paired F l₁ l₂→F x y→Paired F (l₁++[x]) (l₂++[y])
 |_,_,.nil,h=>.cons h .nil
 |_,_,.cons r t,h=>.cons r (yd t h)
def xhV(old new:Int):xc→Prop
 | .take to st c=>st+c≤old∧to+c≤new
 | .put to sg=>to+sg.length≤new
theorem Paired.nth{α β:Type}{F:α→β→Prop}:∀{l₁:List α} {l₂:List β} {i:Nat} {x:α},Paired F l₁ l₂→l₁[i]? =some x→∃y,l₂[i]? =some y∧F x y
 |_,_,_,_,.nil,e=>by simp at e
 |_,_,0,_,.cons r _,e=>by simp at e;subst e;exact⟨_,rfl,r⟩
 |_,_,i+1,_,.cons _ t,e=>by
  obtain⟨y,h1,h2⟩:=Paired.nth (i:=i) t (by simpa using e);exact⟨y,by simpa using h1,h2⟩
theorem Paired.mem{α β:Type}{F:α→β→Prop}{l₁:List α}{l₂:List β}{x:α}(h:Paired F l₁ l₂)(hx:x∈l₁):∃y∈l₂,F x y:=by
 obtain⟨i,hi⟩:=d7.mp hx;obtain⟨y,h1,h2⟩:=Paired.nth h hi;exact⟨y,aG h1,h2⟩
def GT(K:ah)(H:Hp)(u:Addr)(r:xc):Prop:=TupAt K H u r∧r.ok∧Sm r
end
theorem xhW{lo:Int}{n i:Nat}{d:Int}(h:(yf lo n)[i]? =some d):i<n∧d=lo+i:=by
 unfold yf at h;rw[ao]at h;obtain⟨j,hj,rfl⟩:=bf.mp h;have hi:i<n:=by
  have:=(aD.mp hj).1;simpa using this
 rw[f6 hi]at hj;cases hj;exact⟨hi,rfl⟩
theorem xoi(lo:Int)(n:Nat):(yf lo n).Pairwise (· < ·):=by
 rw[bt];intro i j hi hj hij;have h1:=xhW (ai hi);have h2:=xhW (ai hj);lia
theorem xpG{r:xc}{c:Int}:c∈r.cv↔r.to≤c∧c<r.to+r.cnt:=by
 cases r with
 |take to st n=>exact xbA
 |put to sg=>exact xbA
theorem xqp(r:xc):r.cv.Nodup:=by
 have h:∀lo n,(yf lo n).Nodup:=fun lo n=>(xoi lo n).imp (fun h=>by lia);cases r with
 |take to st n=>exact h _ _
 |put to sg=>exact h _ _
theorem xjr:∀(l:List (Nat×Int)) (seen:List Int),(l.map lK).Nodup→(∀x∈l.map lK,x∉seen)→tw l seen=none
 |[],_,_,_=>rfl
 |(k,c)::r,seen,h1,h2=>by
  have h3:c∉r.map lK∧(r.map lK).Nodup:=bT.mp h1;have h4:c∉seen:=h2 c (by simp);show(if c∈seen then some (k,c)else tw r (c::seen))=none;rw[if_neg h4];refine xjr r (c::seen) h3.2 fun x hx z=>?_;rcases ax.mp z with rfl|z
  ·exact h3.1 hx
  ·exact h2 x (aq _ hx) z
theorem xjs:∀(k:Nat) (xss:List (List Int)),(num k xss).map lK=xss.flatten
 |_,[]=>rfl
 |k,cs::r=>by simp[num,xjs (k+1) r,i7]
def Dis(rs:List xc):Prop:=∀(i j:Nat) (r s:xc),rs[i]? =some r→rs[j]? =some s→∀c,c∈r.cv→c∈s.cv→i=j
namespace JD
def xcA(K:ah):Sp:=fun vs H Q _=>∃(p C dx:Addr) (fs:List (Str×V)) (to c:Int),vs=[.ref p]∧H p=some (.ins C dx fs)∧Cls K C∧xT K C "to"∧xT K C "count"∧fs.lookup ("to":Str)=some (.int to)∧fs.lookup ("count":Str)=some (.int c)∧∀t,H t=none→Q (.ref t) (upd H t (.tup [.int to,.int (to+c)]))
section
variable {P:aH} {w:World} {K:ah} {mg:Str→Option Value} {base:Heap} {a:Adr}
theorem zv(T:Txt K mg a):xA P w K mg base CX0 1 a.q0m a.uO ["self"] (xcA K):=by
 refine T.q1a.ok uh (fun vs H Q E h=>?_) (fun cdv A outer s H vs Q E hr h=>?_)
 ·obtain⟨p,C,dx,fs,to,c,rfl,_⟩:=h;rfl
 ·obtain⟨p,C,dx,fs,to,c,rfl,hp,cl,n1,n2,l1,l2,k⟩:=h;have nd:=uh.nd;refine⟨_,(xi (xo (ym (xa (xF (cv 0) rfl) (xa (xw xU (xF (cv 0) rfl) (xF (cv 0) rfl)) xf))))),?_⟩;walk_at"w";refine⟨p,C,dx,fs,_,rfl,hp,cl,n1,l1,?_⟩;walk_at"w";refine⟨p,C,dx,fs,_,rfl,hp,cl,n1,l1,?_⟩;walk_at"w";refine⟨p,C,dx,fs,_,rfl,hp,cl,n2,l2,?_⟩;walk_at"w";exact⟨by walk_at"side",k⟩
def xhX(to st c:Int):List Int:=if st=to then[]else yf st c.toNat
def xfM(to st c:Int):List Int:=if st=to then[]else yf to c.toNat
def xgm(a:Adr):Sp:=fun vs H Q _=>∃(p dx:Addr) (to st c:Int),vs=[.ref p]∧H p=some (.ins a.q0a dx (xap to st c))∧c.toNat≤2^24∧xaM H Q (xhX to st c)
def xeU(a:Adr):Sp:=fun vs H Q _=>∃(p dx:Addr) (to st c:Int),vs=[.ref p]∧H p=some (.ins a.q0a dx (xap to st c))∧c.toNat≤2^24∧xaM H Q (xfM to st c)
def xgn(a:Adr):Sp:=fun vs H Q _=>∃(p dx t:Addr) (to n:Int),vs=[.ref p]∧H p=some (.ins a.q0b dx (jj to t n))∧xaM H Q []
def xeV(a:Adr):Sp:=fun vs H Q _=>∃(p dx t:Addr) (to n:Int),vs=[.ref p]∧H p=some (.ins a.q0b dx (jj to t n))∧n.toNat≤2^24∧xaM H Q (yf to n.toNat)
theorem xgC(T:Txt K mg a):xA P w K mg base CX0 2 a.q0Q a.jM ["self"] (xgm a):=by
 refine T.q1x.ok xbM (fun vs H Q E h=>?_) (fun cdv A outer s H vs Q E hr h=>?_)
 ·obtain⟨p,dx,to,st,c,rfl,_⟩:=h;rfl
 ·obtain⟨p,dx,to,st,c,rfl,hp,hc,k⟩:=h;have nd:=xbM.nd;refine⟨_,(xg (xM (yu (xI (cv 0) T.q0c T.q1g (ui T) (hr.mono (by decide)) T.uU .nil xn)) (xi (xo (yn xf))) xH)
  (xi (xo (yB (xbK rfl) (by rfl) T.q2l vh (xa (xf6 (by rfl) T.q06 (xa (xF (cv 0) rfl) (xa (xw xU (xF (cv 0) rfl) (xF (cv 0) rfl)) xf))) xf))))),?_⟩
  walk_at"w";refine⟨p,dx,_,rfl,hp,rfl,?_⟩;walk_at"w";refine⟨p,dx,to,st,c,rfl,hp,?_⟩;walk_at"w";refine⟨fun e=>?_,fun e=>?_⟩
  ·walk_at"w";refine⟨by decide,fun l hl=>?_⟩;have e':st=to:=of_decide_eq_true e;exact k l _ (xb.new hl) hl (by rw[xk,xhX,if_pos e'];rfl)
  ·have e':¬st=to:=of_decide_eq_false e;walk_at"w";refine⟨p,_,dx,_,.int st,rfl,hp,T.q0c,T.q0e,rfl,?_⟩;walk_at"w";refine⟨p,_,dx,_,.int st,rfl,hp,T.q0c,T.q0e,rfl,?_⟩;walk_at"w";refine⟨p,_,dx,_,.int c,rfl,hp,T.q0c,T.q0d,rfl,?_⟩;walk_at"w";intro r hr1;walk_at"w";have e2:yR st (st+c) 1=c.toNat:=by rw[zq];congr 1;lia
   refine⟨r,st,st+c,rfl,xk,by rw[e2];exact hc,fun l hl=>?_⟩;rw[e2,xjp];have hl0:H l=none:=xb.free (xb.new hr1) hl;exact k l _ ((xb.new hr1).put hl0) hl0 (by rw[xk,xhX,if_neg e'])
theorem xfN(T:Txt K mg a):xA P w K mg base CX0 2 a.q0K a.vY ["self"] (xeU a):=by
 refine T.q1f.ok xa7 (fun vs H Q E h=>?_) (fun cdv A outer s H vs Q E hr h=>?_)
 ·obtain⟨p,dx,to,st,c,rfl,_⟩:=h;rfl
 ·obtain⟨p,dx,to,st,c,rfl,hp,hc,k⟩:=h;have nd:=xa7.nd;refine⟨_,(xg (xM (yu (xI (cv 0) T.q0c T.q1g (ui T) (hr.mono (by decide)) T.uU .nil xn)) (xi (xo (yn xf))) xH)
  (xi (xo (xI (cv 0) T.q0c T.q0V (yq T) (hr.mono (by decide)) T.yw .nil xn)))),?_⟩
  walk_at"w";refine⟨p,dx,_,rfl,hp,rfl,?_⟩;walk_at"w";refine⟨p,dx,to,st,c,rfl,hp,?_⟩;walk_at"w";refine⟨fun e=>?_,fun e=>?_⟩
  ·walk_at"w";refine⟨by decide,fun l hl=>?_⟩;have e':st=to:=of_decide_eq_true e;exact k l _ (xb.new hl) hl (by rw[xk,xfM,if_pos e'];rfl)
  ·have e':¬st=to:=of_decide_eq_false e;walk_at"w";refine⟨p,dx,_,rfl,hp,rfl,?_⟩;walk_at"w";refine⟨p,_,dx,_,to,c,rfl,hp,T.q0c,T.q0o,T.q0d,rfl,rfl,hc,fun l H' s1 hl hv=>?_⟩;exact k l H' s1 hl (by rw[hv,xfM,if_neg e'])
theorem xhY(T:Txt K mg a):xA P w K mg base CX0 1 a.q01 a.xaG ["self"] (xgn a):=by
 refine T.q1M.ok xct (fun vs H Q E h=>?_) (fun cdv A outer s H vs Q E hr h=>?_)
 ·obtain⟨p,dx,t,to,n,rfl,_⟩:=h;rfl
 ·obtain⟨p,dx,t,to,n,rfl,hp,k⟩:=h;have nd:=xct.nd;refine⟨_,(xi (xo (yn xf))),?_⟩;walk_at"w";exact⟨by decide,fun l hl=>k l _ (xb.new hl) hl (by rw[xk];rfl)⟩
theorem xgD(T:Txt K mg a):xA P w K mg base CX0 2 a.q0R a.jN ["self"] (xeV a):=by
 refine T.q1y.ok xbN (fun vs H Q E h=>?_) (fun cdv A outer s H vs Q E hr h=>?_)
 ·obtain⟨p,dx,t,to,n,rfl,_⟩:=h;rfl
 ·obtain⟨p,dx,t,to,n,rfl,hp,hn,k⟩:=h;have nd:=xbN.nd;refine⟨_,(xi (xo (xI (cv 0) T.q0f T.q05 (yq T) (hr.mono (by decide)) T.yw .nil xn))),?_⟩;walk_at"w";refine⟨p,dx,_,rfl,hp,rfl,?_⟩;walk_at"w";exact⟨p,_,dx,_,to,n,rfl,hp,T.q0f,T.q0v,T.q0j,rfl,rfl,hn,k⟩
def InD(kvs:List (Key×V))(seen:List Int):Prop:=∀c:Int,(yr kvs (.inl c)).isSome=decide (c∈seen)
theorem InD.nil:InD [] []:=fun c=>by simp[xl8]
theorem InD.put{kvs:List (Key×V)}{seen:List Int}(h:InD kvs seen)(c:Int)(v:V):InD (putK kvs (.inl c) v) (c::seen):=by
 intro x;rw[xl9]
 by_cases e:x=c
 ·subst e;rw[if_pos rfl];simp
 ·rw[if_neg (fun z=>e (by cases z;rfl)),h x]
  congr 1
  exact propext ⟨fun z=>aq _ z,fun z=>(ax.mp z).resolve_left e⟩
theorem xd6(kvs:List (Key×V))(k:Key)(v:V):(putK kvs k v).length≤kvs.length+1:=by
 unfold putK
 split
 ·rw[ab];lia
 ·rw[ar];simp
theorem xc3(T:Txt K mg a){H:Hp}{o:Addr}{r:xc}{Q:VK}{σ:L2.St}{i:Nat}(ho:xB K a H o r)(hl:r.cv.length≤300)
  (k:∀l H',xb H H'→H l=none→H' l=some (.lst (r.cv.map V.int))→Q (.ref l) H') (hσ:σ[i]? =some (some (.ref o)):=by rfl):
  yy a.q0b "covered" (uV K) [] E0 (yC i) vS σ H Q∨yy a.q0a "covered" (uV K) [] E0 (yC i) vS σ H Q:=by
 cases r with
 |put to sg=>
  obtain⟨dx,u,h1,h2⟩:=ho
  left
  unfold yy yC;rw[hσ];have e:(sg.length:Int).toNat=sg.length:=by simp
  have hl':sg.length≤300:=by rw[show xc.cv (.put to sg)=yf to sg.length from rfl,xY]at hl;exact hl
  refine⟨o,dx,_,rfl,h1,rfl,o,a.q0b,dx,_,to,sg.length,rfl,h1,T.q0f,T.q0v,T.q0j,rfl,rfl,by rw[e];exact bg hl' (by decide),fun l H' s n eL=>k l H' s n ?_⟩;rw[e]at eL;exact eL
 |take to st c=>
  obtain⟨dx,h1⟩:=ho
  right
  unfold yy yC;rw[hσ];have hl':c.toNat≤300:=by rw[show xc.cv (.take to st c)=yf to c.toNat from rfl,xY]at hl;exact hl
  exact⟨o,dx,_,rfl,h1,rfl,o,a.q0a,dx,_,to,c,rfl,h1,T.q0c,T.q0o,T.q0d,rfl,rfl,bg hl' (by decide),fun l H' s n eL=>k l H' s n eL⟩
theorem xmH(k:Nat)(all:List (List Int))(cs:List Int)(h:all[0]? =some cs):num k all=cs.map (fun c=>(k,c))++num (k+1) (all.drop 1):=by
 cases all with
 |nil=>simp at h
 |cons x r=>simp at h;subst h;rfl
theorem xd7(T:Txt K mg a):xA P w K mg base CX0 2 a.q0G a.uS ["rows"] (xmF K a):=by
 refine T.q0I.ok jZ (fun vs H Q E h=>?_) (fun cdv A outer s H vs Q E hr h=>?_)
 ·obtain⟨l,rs,rfl,_⟩:=h;rfl
 ·obtain⟨l,rs,rfl,⟨ts,hl,hp⟩,⟨hr1,hr2⟩,hN,q⟩:=h;have nd:=jZ.nd;refine⟨_,(xg (xv (i:=1) nd rfl (aJ rfl) xdM)
  (xg (yD bj rfl (xfo (by rfl) T.q1O (xa (cv 0) xf)) (ju rfl (yt (xO (i:=2) nd rfl (aJ rfl)) (yt (xO (i:=3) nd rfl (aJ rfl)) vd))) (xi (yD bj rfl (xZ (ub (xI (cv 3) T.q0f T.q05 (yq T) (hr.mono (by decide)) T.yw .nil xn) (xI (cv 3) T.q0c T.q0V (yq T) (hr.mono (by decide)) T.yw .nil xn))) (xO (i:=4) nd rfl (aJ rfl)) (xg (xM (xgL (xep (xad hr) (cv 4) (cv 1)) (by rfl)) jC xH)
  (xi (xfh (xad hr) (cv 1) (cv 4) zm rfl))))))
  (xi (xo xaP)))),?_⟩
  walk_at"w";intro d hd';generalize hU0:upd H d _=H1;have sH1:=xb.of_eq hd' hU0;have ed:=xm hU0;clear hU0;walk_at"w";have htl:ts.length=rs.length:=hp.length;refine⟨l,rfl,⟨_,sH1.seq hl⟩,?_⟩;walk_at"w";refine xdl (xs:=ts.map V.ref) (fun i σ G=>xb H G∧(∃kvs seen,G d=some (.dK kvs)∧InD kvs seen∧kvs.length≤i*300∧xaa rs=tw (num i ((rs.map xc.cv).drop i)) seen)∧∃x2 x3 x4,σ=[some (.ref l),some (.ref d),x2,x3,x4]) ⟨sH1,⟨[],[],ed,InD.nil,by simp,rfl⟩,_,_,_,rfl⟩ (fun i σ G hi hP=>hP.1.seq hl) (fun i x σ G T0 hx hP hT0=>?_) (fun σ G hP=>?_)
  ·obtain⟨s1,⟨kvs,seen,hd,hin,hkl,htw⟩,x2,x3,x4,rfl⟩:=hP;rw[ao]at hx;obtain⟨o,ho,rfl⟩:=bf.mp hx;have hi:i<ts.length:=(aD.mp ho).1;obtain⟨r,hr,hob⟩:=Paired.nth hp ho;generalize hU:upd G T0 _=G2;have s2:=xb.of_eq hT0 hU;have eT:=xm hU;clear hU;walk_at"w";refine⟨T0,_,rfl,SqT.of eT,rfl,?_⟩;walk_at"w";refine⟨_,_,rfl,?_⟩;walk_at"w";refine⟨_,_,rfl,?_⟩;walk_at"w";refine fN rfl ?_;walk_at"w";have hrm:r∈rs:=aG hr;refine xc3 (K:=K) T (r:=r) (hob.same (s1.trans s2)) (hr2 r hrm).1 fun L G3 s3 hL eL=>?_;walk_at"w";refine⟨L,rfl,⟨_,SqL.of eL⟩,?_⟩;walk_at"w";have hd3:G3 d=some (.dK kvs):=s3.at (s2.at hd)
   have nLd:L≠d:=yU eL hd3 (fun z=>by cases z);have hdr:((rs.map xc.cv).drop i)[0]? =some r.cv:=by rw[c9,iq,ao,hr];rfl
   rw[xmH i _ _ hdr,List.drop_drop]at htw;refine yY (xs:=r.cv.map V.int) (fun j σ G4=>xb H G4∧G4 L=some (.lst (r.cv.map V.int))∧(∃kvs seen,G4 d=some (.dK kvs)∧InD kvs seen∧kvs.length≤i*300+j∧xaa rs=tw ((r.cv.drop j).map (fun c=>(i,c))++num (i+1) ((rs.map xc.cv).drop (i+1))) seen)∧∃x4,σ=[some (.ref l),some (.ref d),some (.int i),some (.ref o),x4])
    ⟨s1.trans (s2.trans s3),eL,⟨kvs,seen,hd3,hin,by lia,by rw[List.drop_zero];exact htw⟩,_,rfl⟩ (fun j σ G4 hj hQ=>SqL.of hQ.2.1) (fun j x σ G4 hx hQ=>?_) (fun σ G4 hQ=>?_)
   ·obtain⟨s4,eL4,⟨kvs4,seen4,hd4,hin4,hk4,htw4⟩,x4,rfl⟩:=hQ;rw[ao]at hx;obtain⟨c,hc,rfl⟩:=bf.mp hx;have hj:j<r.cv.length:=(aD.mp hc).1;have hb:=(hr2 r hrm).1;have ecut:r.cv.drop j=c::r.cv.drop (j+1):=by
     rw[b9 hj,(aD.mp hc).2]
    rw[ecut,bc,ke,tw]at htw4;walk_at"w";refine⟨d,_,rfl,xbd.k (k:=bZ c) hd4,?_⟩;walk_at"w";rw[hin4 c];refine⟨fun e=>?_,fun e=>?_⟩
    ·have e':=of_decide_eq_true e;rw[if_pos e']at htw4;rw[htw4]at hN;cases hN
    ·have e':=of_decide_eq_false e;rw[if_neg e']at htw4;walk_at"w";refine⟨d,_,rfl,xdL.k (k:=bZ c) hd4 (by rw[ay];lia),?_⟩;generalize hV:upd G4 d _=G5;have s5:xb H G5:=xb.wr s4 hd' hV;have eL5:G5 L=some (.lst (r.cv.map V.int)):=by rw[←hV,xl nLd];exact eL4
     have hd5:=xm hV;clear hV;have:=xd6 kvs4 (bZ c) (.bl true);exact⟨s5,eL5,⟨_,_,hd5,hin4.put c _,by lia,htw4⟩,_,rfl⟩
   ·obtain⟨s4,eL4,⟨kvs4,seen4,hd4,hin4,hk4,htw4⟩,x4,rfl⟩:=hQ;rw[ab]at hk4 htw4;rw[km]at htw4;have hb:=(hr2 r hrm).1;exact⟨s4,⟨kvs4,seen4,hd4,hin4,by lia,htw4⟩,_,_,_,rfl⟩
  ·obtain⟨s1,⟨kvs,seen,hd,hin,hkl,htw⟩,x2,x3,x4,rfl⟩:=hP;have e0:(rs.map xc.cv).drop (ts.map V.ref).length=[]:=by
    rw[ab,htl];exact gQ (by rw[ab];exact aj _)
   rw[e0]at htw;have e1:xaa rs=none:=htw;rw[e1]at q;exact q G s1
theorem xoj(T:Txt K mg a){H:Hp}{o:Addr}{r:xc}{Q:VK}{σ:L2.St}{i:Nat}(ho:xB K a H o r)(hc:r.cv.length≤300)
  (k:∀l H',xb H H'→H l=none→H' l=some (.lst (r.rds.map V.int))→Q (.ref l) H') (hσ:σ[i]? =some (some (.ref o)):=by rfl):
  yy a.q0b "reads" (xgn a) [] E0 (yC i) vS σ H Q∨yy a.q0a "reads" (xgm a) [] E0 (yC i) vS σ H Q:=by
 cases r with
 |put to sg=>
  obtain⟨dx,u,h1,h2⟩:=ho
  left
  unfold yy yC;rw[hσ];exact⟨o,dx,_,rfl,h1,rfl,o,dx,u,to,sg.length,rfl,h1,fun l H' s n eL=>k l H' s n eL⟩
 |take to st c=>
  obtain⟨dx,h1⟩:=ho
  right
  unfold yy yC;rw[hσ];have hl':c.toNat≤300:=by rw[show xc.cv (.take to st c)=yf to c.toNat from rfl,xY]at hc;exact hc
  exact⟨o,dx,_,rfl,h1,rfl,o,dx,to,st,c,rfl,h1,bg hl' (by decide),fun l H' s n eL=>k l H' s n eL⟩
theorem xok(T:Txt K mg a){H:Hp}{o:Addr}{r:xc}{Q:VK}{σ:L2.St}{i:Nat}(ho:xB K a H o r)(hc:r.cv.length≤300)
  (k:∀l H',xb H H'→H l=none→H' l=some (.lst (r.wrs.map V.int))→Q (.ref l) H') (hσ:σ[i]? =some (some (.ref o)):=by rfl):
  yy a.q0b "writes" (xeV a) [] E0 (yC i) vS σ H Q∨yy a.q0a "writes" (xeU a) [] E0 (yC i) vS σ H Q:=by
 cases r with
 |put to sg=>
  obtain⟨dx,u,h1,h2⟩:=ho
  left
  unfold yy yC;rw[hσ];have e:(sg.length:Int).toNat=sg.length:=by simp
  have hl':sg.length≤300:=by rw[show xc.cv (.put to sg)=yf to sg.length from rfl,xY]at hc;exact hc
  refine⟨o,dx,_,rfl,h1,rfl,o,dx,u,to,sg.length,rfl,h1,by rw[e];exact bg hl' (by decide),fun l H' s n eL=>k l H' s n ?_⟩;rw[e]at eL;exact eL
 |take to st c=>
  obtain⟨dx,h1⟩:=ho
  right
  unfold yy yC;rw[hσ];have hl':c.toNat≤300:=by rw[show xc.cv (.take to st c)=yf to c.toNat from rfl,xY]at hc;exact hc
  exact⟨o,dx,_,rfl,h1,rfl,o,dx,to,st,c,rfl,h1,bg hl' (by decide),fun l H' s n eL=>k l H' s n eL⟩
theorem xcB{ls:List Int}{p:Int→Bool}{j:Nat}(h:∀i,i<j→∀c,ls[i]? =some c→p c=false):ls.find? p=(ls.drop j).find? p:=by
 induction j with
 |zero=>rfl
 |succ j ih=>
  rw[ih fun i hi=>h i (by lia)]
  by_cases hj:j<ls.length
  ·have hc:ls[j]? =some ls[j]:=ai hj;rw[b9 hj,di,h j (by lia) _ hc]
  ·rw[gQ (by lia),gQ (by lia)]
theorem xkq(T:Txt K mg a):xA P w K mg base CX0 2 a.q1V a.xck ["rows","new"] (xkn K a):=by
 refine T.q10.ok xeO (fun vs H Q E h=>?_) (fun cdv A outer s H vs Q E hr h=>?_)
 ·obtain⟨l,rs,new,rfl,_⟩:=h;rfl
 ·obtain⟨l,rs,new,rfl,⟨ts,hl,hp⟩,⟨hr1,hr2⟩,hnew,hN,q⟩:=h;have nd:=xeO.nd;refine⟨_,(xg (xv (i:=2) nd rfl (aJ rfl) xdM)
  (xg (yD bj rfl (xZ (cv 0)) (xO (i:=3) nd rfl (aJ rfl)) (xi (yD bj rfl (xZ (ub (xI (cv 3) T.q0f T.q05 (yq T) (hr.mono (by decide)) T.yw .nil xn) (xI (cv 3) T.q0c T.q0V (yq T) (hr.mono (by decide)) T.yw .nil xn))) (xO (i:=4) nd rfl (aJ rfl)) (xi (xfh (xad hr) (cv 2) (cv 4) zm rfl)))))
  (xg (yD bj rfl (zk (by rfl) T.q06 (xa (cv 1) xf)) (xO (i:=4) nd rfl (aJ rfl)) (xi (xM (xgL (xkX (xad hr) (cv 4) (cv 2)) (by rfl)) jC xH)))
  (xi (xo xaP))))),?_⟩
  walk_at"w";intro d hd';generalize hU0:upd H d _=H1;have sH1:=xb.of_eq hd' hU0;have ed:=xm hU0;clear hU0;walk_at"w";have htl:ts.length=rs.length:=hp.length;refine⟨l,rfl,⟨_,sH1.seq hl⟩,?_⟩;walk_at"w";refine yY (xs:=ts.map V.ref) (fun i σ G=>xb H G∧(∃kvs seen,G d=some (.dK kvs)∧InD kvs seen∧kvs.length≤i*300∧∀c,c∈seen↔c∈((rs.map xc.cv).take i).flatten)∧∃x3 x4,σ=[some (.ref l),some (.int new),some (.ref d),x3,x4]) ⟨sH1,⟨[],[],ed,InD.nil,by simp,fun c=>by simp⟩,_,_,rfl⟩ (fun i σ G hi hP=>hP.1.seq hl) (fun i x σ G hx hP=>?_) (fun σ G hP=>?_)
  ·obtain⟨s1,⟨kvs,seen,hd,hin,hkl,hse⟩,x3,x4,rfl⟩:=hP;rw[ao]at hx;obtain⟨o,ho,rfl⟩:=bf.mp hx;obtain⟨r,hr,hob⟩:=Paired.nth hp ho;have hrm:r∈rs:=aG hr;have hi:i<ts.length:=(aD.mp ho).1;walk_at"w";refine xc3 (K:=K) T (r:=r) (hob.same s1) (hr2 r hrm).1 fun L G3 s3 hL eL=>?_;walk_at"w";refine⟨L,rfl,⟨_,SqL.of eL⟩,?_⟩;walk_at"w";have hd3:G3 d=some (.dK kvs):=s3.at hd;have nLd:L≠d:=yU eL hd3 (fun z=>by cases z);refine yY (xs:=r.cv.map V.int) (fun j σ G4=>xb H G4∧G4 L=some (.lst (r.cv.map V.int))∧(∃kvs seen,G4 d=some (.dK kvs)∧InD kvs seen∧kvs.length≤i*300+j∧∀c,c∈seen↔c∈((rs.map xc.cv).take i).flatten++r.cv.take j)∧∃x4,σ=[some (.ref l),some (.int new),some (.ref d),some (.ref o),x4])
    ⟨s1.trans s3,eL,⟨kvs,seen,hd3,hin,by lia,fun c=>by rw[ll,fm];exact hse c⟩,_,rfl⟩ (fun j σ G4 hj hQ=>SqL.of hQ.2.1) (fun j x σ G4 hx hQ=>?_) (fun σ G4 hQ=>?_)
   ·obtain⟨s4,eL4,⟨kvs4,seen4,hd4,hin4,hk4,hse4⟩,x4,rfl⟩:=hQ;rw[ao]at hx;obtain⟨c,hc,rfl⟩:=bf.mp hx;have hj:j<r.cv.length:=(aD.mp hc).1;have hb:=(hr2 r hrm).1;walk_at"w";refine⟨d,_,rfl,xdL.k (k:=bZ c) hd4 (by rw[ay];lia),?_⟩;generalize hV:upd G4 d _=G5;have s5:xb H G5:=xb.wr s4 hd' hV;have eL5:G5 L=some (.lst (r.cv.map V.int)):=by rw[←hV,xl nLd];exact eL4
    have hd5:=xm hV;clear hV;have:=xd6 kvs4 (bZ c) (.bl true);refine⟨s5,eL5,⟨_,_,hd5,hin4.put c _,by lia,fun y=>?_⟩,_,rfl⟩;rw[bG,hc,←eI,aQ,ax,hse4 y];simp[or_comm]
   ·obtain⟨s4,eL4,⟨kvs4,seen4,hd4,hin4,hk4,hse4⟩,x4,rfl⟩:=hQ;rw[ab]at hk4 hse4;rw[bX]at hse4;have hb:=(hr2 r hrm).1;refine⟨s4,⟨kvs4,seen4,hd4,hin4,by lia,fun c=>?_⟩,_,_,rfl⟩;rw[hse4 c,bG,ao,hr,List.flatten_append];simp
  ·obtain⟨s1,⟨kvs,seen,hd,hin,hkl,hse⟩,x3,x4,rfl⟩:=hP;rw[ab]at hse;have hse':∀c,c∈seen↔c∈(rs.map xc.cv).flatten:=fun c=>by
    rw[hse c,htl];rw[a8 (by rw[ab];exact aj _)]
   walk_at"w";have en:yR 0 ((new:Nat):Int) 1=new:=by rw[zq];lia
   rw[en];refine xb2 (fun i σ G2=>G2=G∧(∀j,j<i→((j:Nat):Int)∈(rs.map xc.cv).flatten)∧∃x4,σ=[some (.ref l),some (.int new),some (.ref d),x3,x4]) ⟨rfl,fun j hj=>absurd hj (dk _),_,rfl⟩ (fun i σ G2 hi hQ=>?_) (fun σ G2 hQ=>?_)
   ·obtain⟨rfl,hall,x4,rfl⟩:=hQ;have ei:(0+(i:Int)*1)=(i:Int):=by lia
    rw[ei];walk_at"w";refine⟨d,_,rfl,xbd.k (k:=bZ (i:Int)) hd,?_⟩;walk_at"w";rw[hin];refine⟨fun e=>?_,fun e=>?_⟩
    ·have e':¬(i:Int)∈seen:=by simpa using e
     have ef:uW rs new=some (i:Int):=by
      unfold uW;rw[xcB (j:=i) (fun j hj c hc=>?_),b9 (by simp;exact hi),di]
      ·simp only[List.getElem_map,mn];have:¬(i:Int)∈(rs.map xc.cv).flatten:=fun z=>e' ((hse' _).mpr z);simp only[decide_eq_false this];rfl
      ·rw[ao,f6 (by lia)]at hc;cases hc;simp only[decide_eq_true (hall j hj)];rfl
     rw[ef]at hN;cases hN
    ·have e':(i:Int)∈seen:=by simpa using e
     refine⟨rfl,fun j hj=>?_,_,rfl⟩
     by_cases hji:j=i
     ·rw[hji];exact(hse' _).mp e'
     ·exact hall j (by lia)
   ·obtain⟨rfl,hall,x4,rfl⟩:=hQ;have ef:uW rs new=none:=by
     unfold uW;rw[fz];intro c hc;obtain⟨j,hj,rfl⟩:=aN.mp hc;simp[hall j (bh.mp hj)]
    rw[ef]at q;exact q G2 s1
theorem xkr(k:Nat)(rs:List xc)(r:xc)(wr:List Int)(h:rs[0]? =some r):vB k rs wr=match r.rds.find? fun c=>decide (c∈wr)with
  |some c=>some (k,c)
  |none=>vB (k+1) (rs.drop 1) (wr++r.wrs):=by
 cases rs with
 |nil=>simp at h
 |cons x t=>simp at h;subst h;rfl
theorem xgo:∀(k:Nat) (rs:List xc) (w1 w2:List Int),(∀c,c∈w1↔c∈w2)→vB k rs w1=vB k rs w2
 |_,[],_,_,_=>rfl
 |k,r::t,w1,w2,h=>by
  unfold vB;have e:(fun c=>decide (c∈w1))=fun c=>decide (c∈w2):=funext fun c=>by congr 1;exact propext (h c)
  rw[e];cases r.rds.find? fun c=>decide (c∈w2)with
  |some c=>rfl
  |none=>exact xgo (k+1) t _ _ fun c=>by rw[aQ,aQ,h c]
theorem xhZ(T:Txt K mg a):xA P w K mg base CX0 3 a.q1q a.xaL ["rows"] (xog K a):=by
 refine T.q1u.ok xcy (fun vs H Q E h=>?_) (fun cdv A outer s H vs Q E hr h=>?_)
 ·obtain⟨l,rs,rfl,_⟩:=h;rfl
 ·obtain⟨l,rs,rfl,⟨ts,hl,hp⟩,⟨hr1,hr2⟩,hnl,q0⟩:=h;have q:xnm H Q "late" (jk rs):=by rw[hnl];exact q0
  have nd:=xcy.nd;refine⟨_,(xg (xv (i:=1) nd rfl (aJ rfl) xdM)
  (xg (yD bj rfl (xfo (by rfl) T.q1O (xa (cv 0) xf)) (ju rfl (yt (xO (i:=2) nd rfl (aJ rfl)) (yt (xO (i:=3) nd rfl (aJ rfl)) vd))) (xg (yD bj rfl (xZ (ub (xI (cv 3) T.q0f T.q2H (xhY T) (hr.mono (by decide)) T.xiJ .nil xn) (xI (cv 3) T.q0c T.q2C (xgC T) (hr.mono (by decide)) T.xhr .nil xn))) (xO (i:=4) nd rfl (aJ rfl)) (xi (xM (xgL (xep (xad hr) (cv 4) (cv 1)) (by rfl)) jC xH)))
  (xi (yD bj rfl (xZ (ub (xI (cv 3) T.q0f T.q2B (xgD T) (hr.mono (by decide)) T.xhs .nil xn) (xI (cv 3) T.q0c T.q2x (xfN T) (hr.mono (by decide)) T.xgz .nil xn))) (xO (i:=4) nd rfl (aJ rfl)) (xi (xfh (xad hr) (cv 1) (cv 4) zm rfl))))))
  (xi (xo xaP)))),?_⟩
  walk_at"w";intro d hd';generalize hU0:upd H d _=H1;have sH1:=xb.of_eq hd' hU0;have ed:=xm hU0;clear hU0;walk_at"w";have htl:ts.length=rs.length:=hp.length;refine⟨l,rfl,⟨_,sH1.seq hl⟩,?_⟩;walk_at"w";refine xdl (xs:=ts.map V.ref) (fun i σ G=>xb H G∧(∃kvs seen,G d=some (.dK kvs)∧InD kvs seen∧kvs.length≤i*300∧jk rs=vB i (rs.drop i) seen)∧∃x2 x3 x4,σ=[some (.ref l),some (.ref d),x2,x3,x4]) ⟨sH1,⟨[],[],ed,InD.nil,by simp,rfl⟩,_,_,_,rfl⟩ (fun i σ G hi hP=>hP.1.seq hl) (fun i x σ G T0 hx hP hT0=>?_) (fun σ G hP=>?_)
  ·obtain⟨s1,⟨kvs,seen,hd,hin,hkl,hla⟩,x2,x3,x4,rfl⟩:=hP;rw[ao]at hx;obtain⟨o,ho,rfl⟩:=bf.mp hx;obtain⟨r,hr,hob⟩:=Paired.nth hp ho;have hrm:r∈rs:=aG hr;generalize hU:upd G T0 _=G2;have s2:=xb.of_eq hT0 hU;have eT:=xm hU;clear hU;have hdr:(rs.drop i)[0]? =some r:=by rw[c9,iq];exact hr
   rw[xkr i _ r seen hdr,List.drop_drop]at hla;walk_at"w";refine⟨T0,_,rfl,SqT.of eT,rfl,?_⟩;walk_at"w";refine⟨_,_,rfl,?_⟩;walk_at"w";refine⟨_,_,rfl,?_⟩;walk_at"w";refine fN rfl ?_;walk_at"w";refine xoj (K:=K) T (r:=r) (hob.same (s1.trans s2)) (hr2 r hrm).1 fun L G3 s3 hL eL=>?_;walk_at"w";refine⟨L,rfl,⟨_,SqL.of eL⟩,?_⟩;walk_at"w";have hd3:G3 d=some (.dK kvs):=s3.at (s2.at hd)
   have s13:xb H G3:=s1.trans (s2.trans s3);refine yY (xs:=r.rds.map V.int) (fun j σ G4=>G4=G3∧(∀i',i'<j→∀c,r.rds[i']? =some c→decide (c∈seen)=false)∧∃x4,σ=[some (.ref l),some (.ref d),some (.int i),some (.ref o),x4])
    ⟨rfl,fun j hj=>absurd hj (dk _),_,rfl⟩ (fun j σ G4 hj hQ=>by rw[hQ.1];exact SqL.of eL) (fun j x σ G4 hx hQ=>?_) (fun σ G4 hQ=>?_)
   ·obtain⟨rfl,hno,x4,rfl⟩:=hQ;rw[ao]at hx;obtain⟨c,hc,rfl⟩:=bf.mp hx;have hj:j<r.rds.length:=(aD.mp hc).1;walk_at"w";refine⟨d,_,rfl,xbd.k (k:=bZ c) hd3,?_⟩;walk_at"w";rw[hin c];refine⟨fun e=>?_,fun e=>?_⟩
    ·have ef:r.rds.find? (fun c=>decide (c∈seen))=some c:=by
      rw[xcB (j:=j) hno,b9 hj,di,(aD.mp hc).2,e]
     rw[ef]at hla;rw[hnl]at hla;cases hla
    ·refine⟨rfl,fun i' hi' c' hc'=>?_,_,rfl⟩
     by_cases hji:i'=j
     ·rw[hji,hc]at hc';cases hc';exact e
     ·exact hno i' (by lia) c' hc'
   ·obtain⟨rfl,hno,x4,rfl⟩:=hQ;rw[ab]at hno;have ef:r.rds.find? (fun c=>decide (c∈seen))=none:=by
     rw[xcB (j:=r.rds.length) hno,km];rfl
    rw[ef]at hla;walk_at"w";refine xok (K:=K) T (r:=r) (hob.same s13) (hr2 r hrm).1 fun L2 G5 s5 hL2 eL2=>?_;walk_at"w";refine⟨L2,rfl,⟨_,SqL.of eL2⟩,?_⟩;walk_at"w";have hd5:G5 d=some (.dK kvs):=s5.at hd3;have nLd:L2≠d:=yU eL2 hd5 (fun z=>by cases z);have hwl:=(hr2 r hrm).2.2;refine yY (xs:=r.wrs.map V.int) (fun j σ G6=>xb H G6∧G6 L2=some (.lst (r.wrs.map V.int))∧(∃kvs' seen',G6 d=some (.dK kvs')∧InD kvs' seen'∧kvs'.length≤i*300+j∧∀c,c∈seen'↔c∈seen++r.wrs.take j)∧∃x4,σ=[some (.ref l),some (.ref d),some (.int i),some (.ref o),x4])
     ⟨s13.trans s5,eL2,⟨kvs,seen,hd5,hin,by lia,fun c=>by rw[ll,fm]⟩,_,rfl⟩ (fun j σ G6 hj hQ=>SqL.of hQ.2.1) (fun j x σ G6 hx hQ=>?_) (fun σ G6 hQ=>?_)
    ·obtain⟨s6,eL6,⟨kvs6,seen6,hd6,hin6,hk6,hse6⟩,x4,rfl⟩:=hQ;rw[ao]at hx;obtain⟨c,hc,rfl⟩:=bf.mp hx;have hj:j<r.wrs.length:=(aD.mp hc).1;have hi:i<ts.length:=(aD.mp ho).1;walk_at"w";refine⟨d,_,rfl,xdL.k (k:=bZ c) hd6 (by rw[ay];lia),?_⟩;generalize hV:upd G6 d _=G7;have s7:xb H G7:=xb.wr s6 hd' hV;have eL7:G7 L2=some (.lst (r.wrs.map V.int)):=by rw[←hV,xl nLd];exact eL6
     have hd7:=xm hV;clear hV;have:=xd6 kvs6 (bZ c) (.bl true);refine⟨s7,eL7,⟨_,_,hd7,hin6.put c _,by lia,fun y=>?_⟩,_,rfl⟩;rw[bG,hc,←eI,aQ,ax,hse6 y];simp[or_comm]
    ·obtain⟨s6,eL6,⟨kvs6,seen6,hd6,hin6,hk6,hse6⟩,x4,rfl⟩:=hQ;rw[ab]at hk6 hse6;rw[bX]at hse6;refine⟨s6,⟨kvs6,seen6,hd6,hin6,by lia,?_⟩,_,_,_,rfl⟩;rw[hla];exact xgo _ _ _ _ fun c=>(hse6 c).symm
  ·obtain⟨s1,⟨kvs,seen,hd,hin,hkl,hla⟩,x2,x3,x4,rfl⟩:=hP;have e0:rs.drop (ts.map V.ref).length=[]:=by
    rw[ab,htl];exact km
   rw[e0]at hla;have e1:jk rs=none:=hla;rw[e1]at q;exact q G s1
theorem xcC(T:Txt K mg a):xA P w K mg base CX0 3 a.q1p a.xaK ["value"] xhQ:=by
 refine T.q02.ok xcx (fun vs H Q E h=>?_) (fun cdv A outer s H vs Q E hr h=>?_)
 ·obtain⟨i,rfl,_⟩:=h;rfl
 ·obtain⟨i,rfl,h0,h3,q⟩:=h;have nd:=xcx.nd;refine⟨_,(xi (xo (zg (xr (yQ T) (hr.mono (by decide)) (by rfl) T.zd T.q0g.kp T.zc .nil xn (xa xh (xa (cv 0) xf))) (zZ (uc xme (cv 0) (zL (v:=.int 300) (by rfl) T.xlJ ⟨_,rfl⟩)))))),?_⟩;walk_at"w";refine⟨_,i,rfl,?_⟩;rw[decide_eq_true h0];walk_at"w";refine⟨fun _=>?_,by walk_at"no"⟩;show Q (.bl (decide (i≤300))) H;rw[decide_eq_true h3];exact q
theorem xeW(T:Txt K mg a):xA P w K mg base CX0 4 a.q0M a.vt ["paper"] (xoh K):=by
 refine T.q0O.ok xao (fun vs H Q E h=>?_) (fun cdv A outer s H vs Q E hr h=>?_)
 ·obtain⟨p,o,n,rs,rfl,_⟩:=h;rfl
 ·obtain⟨p,o,n,rs,rfl,⟨tt,ts,hp,ht,hts⟩,ho0,ho3,hn0,hn3,hl,q⟩:=h;have nd:=xao.nd;refine⟨_,(xi (xo (zg (xr (xcC T) (hr.mono (by decide)) (by rfl) T.xdp T.q02.kp T.xdo .nil xn (xa (xu xx (cv 0) xh (fun _ _=>rfl)) xf)) (zg (xr (xcC T) (hr.mono (by decide)) (by rfl) T.xdp T.q02.kp T.xdo .nil xn (xa (xu xx (cv 0) xh (fun _ _=>rfl)) xf)) (zZ (uc xme (xt xy (by rfl) T.q0i xN (xa (xu xx (cv 0) xh (fun _ _=>rfl)) xf)) (zL (v:=.int 300) (by rfl) T.xlJ ⟨_,rfl⟩))))))),?_⟩;walk_at"w";refine⟨p,_,_,.int o,rfl,rfl,SqT.of hp,rfl,?_⟩;walk_at"w";refine⟨o,rfl,ho0,ho3,?_⟩;walk_at"w";refine⟨fun _=>?_,by walk_at"no"⟩;walk_at"w";refine⟨p,_,_,.int n,rfl,rfl,SqT.of hp,rfl,?_⟩;walk_at"w";refine⟨n,rfl,hn0,hn3,?_⟩;walk_at"w";refine⟨fun _=>?_,by walk_at"no"⟩;walk_at"w";refine⟨p,_,_,.ref tt,rfl,rfl,SqT.of hp,rfl,?_⟩;walk_at"w";refine⟨tt,_,rfl,.inr (SqT.of ht),?_⟩;rw[ab,hts.length];show Q (.bl (decide ((rs.length:Int)≤300))) H;rw[decide_eq_true (by lia)];exact q
theorem xdc(T:Txt K mg a):xA P w K mg base CX0 6 a.q0y a.uw ["told","old","new"] (xko K):=by
 refine T.q0A.ok ja (fun vs H Q E h=>?_) (fun cdv A outer s H vs Q E hr h=>?_)
 ·obtain⟨t,r,old,new,rfl,_⟩:=h;rfl
 ·obtain⟨t,r,old,new,rfl,ht,hk,hf,q⟩:=h;have nd:=ja.nd;refine⟨_,(xg (xnS rfl (xi (xv (i:=3) nd rfl (aJ rfl) (xr (vR T) (hr.mono (by decide)) (by rfl) T.jS T.q1b.kp T.jR .nil xn (xa (cv 0) xf)))))
  (xg (xM (PW.pt (uF (yu (xt yN (by rfl) T.q0h xW (xa (cv 3) (xa (zL (v:=.ref a.q0a) (by rfl) T.xa4 rfl) xf)))) (uy (xD xdN (xw xU (xF (cv 3) rfl) (xF (cv 3) rfl)) (cv 1))))) (xi (xo zm)) xH)
  (xi (xo (uc xme (xu xx (ub (xI (cv 3) T.q0f T.q19 (zv T) (hr.mono (by decide)) T.uT .nil xn) (xI (cv 3) T.q0c T.q17 (zv T) (hr.mono (by decide)) T.uT .nil xn)) xh (fun _ _=>rfl)) (cv 2)))))),?_⟩
  walk_at"w";refine⟨t,r,rfl,ht,hk,fun o H1 s1 _ ho=>?_⟩;cases r with
  |take to st c=>
   obtain⟨dx,ho⟩:=ho;walk_at"w";refine⟨_,_,_,_,true,rfl,rfl,T.xa5 ho,T.q1z,?_⟩;walk_at"w";refine⟨fun _=>?_,by walk_at"no"⟩;walk_at"w";refine⟨o,_,dx,_,.int st,rfl,ho,T.q0c,T.q0e,rfl,?_⟩;walk_at"w";refine⟨o,_,dx,_,.int c,rfl,ho,T.q0c,T.q0d,rfl,?_⟩;walk_at"w";rw[decide_eq_false (show¬old<st+c from by have:=hf.1;lia)];refine⟨by walk_at"no",fun _=>?_⟩;walk_at"w";refine fU ?_;walk_at"w";refine⟨o,dx,_,rfl,ho,rfl,?_⟩;walk_at"w";refine⟨o,a.q0a,dx,_,to,c,rfl,ho,T.q0c,T.q0o,T.q0d,rfl,rfl,?_⟩;intro t3 ht3;generalize hUt3:upd H1 t3 _=H3;have sH3:=xb.of_eq ht3 hUt3;have et3:=xm hUt3;clear hUt3;walk_at"w";refine⟨t3,_,_,.int (to+c),rfl,rfl,SqT.of et3,rfl,?_⟩;show Q (.bl (decide (to+c≤new))) H3;rw[decide_eq_true hf.2];exact q H3 (s1.trans sH3)
  |put to sg=>
   obtain⟨dx,u,ho,hu⟩:=ho;walk_at"w";refine⟨_,_,_,_,false,rfl,rfl,T.xhA ho,T.q2y,?_⟩;walk_at"w";refine⟨by walk_at"no",fun _=>?_⟩;walk_at"w";refine⟨by walk_at"no",fun _=>?_⟩;walk_at"w";refine aJ ?_;walk_at"w";refine⟨o,dx,_,rfl,ho,rfl,?_⟩;walk_at"w";refine⟨o,a.q0b,dx,_,to,sg.length,rfl,ho,T.q0f,T.q0v,T.q0j,rfl,rfl,?_⟩;intro t3 ht3;generalize hUt3:upd H1 t3 _=H3;have sH3:=xb.of_eq ht3 hUt3;have et3:=xm hUt3;clear hUt3;walk_at"w";refine⟨t3,_,_,.int (to+sg.length),rfl,rfl,SqT.of et3,rfl,?_⟩;show Q (.bl (decide (to+(sg.length:Int)≤new))) H3;rw[decide_eq_true (show to+(sg.length:Int)≤new from hf)];exact q H3 (s1.trans sH3)
theorem xcD(T:Txt K mg a):xA P w K mg base CX0 7 a.q0q a.zY ["paper"] (xmG K):=by
 refine T.q0s.ok vQ (fun vs H Q E h=>?_) (fun cdv A outer s H vs Q E hr h=>?_)
 ·obtain⟨p,o,n,rs,rfl,_⟩:=h;rfl
 ·obtain⟨p,o,n,rs,rfl,⟨tt,ts,hp,ht,hts⟩,hk,hl,q⟩:=h;have nd:=vQ.nd;refine⟨_,(xg (yD bj rfl (xmr (by rfl) T.q1O (xa (xu xx (cv 0) xh (fun _ _=>rfl)) xf)) (ju rfl (yt (xO (i:=1) nd rfl (aJ rfl)) (yt (xO (i:=2) nd rfl (aJ rfl)) vd))) (xi (xM (vH (yu (xr (xdc T) (hr.mono (by decide)) (by rfl) T.xd4 T.q0A.kp T.xd3 .nil xn (xa (cv 2) (xa (xu xx (cv 0) xh (fun _ _=>rfl)) (xa (xu xx (cv 0) xh (fun _ _=>rfl)) xf)))))) (xi (xo (cv 1))) xH)))
  (xi (xo xaP))),?_⟩
  walk_at"w";refine⟨p,_,_,.ref tt,rfl,rfl,SqT.of hp,rfl,?_⟩;walk_at"w";refine⟨tt,rfl,⟨_,SqT.of ht⟩,?_⟩;walk_at"w";refine xiE (xs:=ts.map V.ref) (fun i σ H1=>xb H H1∧∃x1 x2,σ=[some (.ref p),x1,x2]) ⟨xb.refl _,_,_,rfl⟩ (fun i σ H1 hi hP=>hP.1.seqT (SqT.of ht)) (fun i x σ H1 T0 hx hP hT0=>?_) (fun σ H1 hP=>?_)
  ·obtain⟨s1,x1,x2,rfl⟩:=hP;rw[ao]at hx;obtain⟨t0,ht0,rfl⟩:=bf.mp hx;obtain⟨r,hr0,pr⟩:=xK hts ht0;obtain⟨k1,k2⟩:=hk r (aG hr0);generalize hU:upd H1 T0 _=H2;have s2:=xb.of_eq hT0 hU;have eT:=xm hU;clear hU;have s02:=s1.trans s2;walk_at"w";refine⟨T0,_,rfl,SqT.of eT,rfl,?_⟩;walk_at"w";refine⟨_,_,rfl,?_⟩;walk_at"w";refine⟨_,_,rfl,?_⟩;walk_at"w";refine fN rfl ?_;walk_at"w";refine⟨p,_,_,.int o,rfl,rfl,SqT.of (s02.at hp),rfl,?_⟩;walk_at"w";refine⟨p,_,_,.int n,rfl,rfl,SqT.of (s02.at hp),rfl,?_⟩;walk_at"w";refine⟨t0,r,o,n,rfl,pr.same s02,k1,k2,fun H3 s3=>?_⟩;walk_at"w";refine⟨by walk_at"no",fun _=>?_⟩;exact⟨s02.trans s3,_,_,rfl⟩
  ·obtain⟨s1,x1,x2,rfl⟩:=hP;exact q H1 s1
theorem xmI{old new:Int}{r:xc}(hk:r.ok)(hn:new≤300)(h:Fit old new r):r.cv.length≤300∧r.rds.length≤300∧r.wrs.length≤300:=by
 cases r with
 |take to st c=>
  obtain⟨k1,k2,k3⟩:=hk;have h2:=h.2;refine⟨by simp only[xc.cv,xY];lia,?_,?_⟩
  ·simp only[xc.rds];split
   ·simp
   ·rw[xY];lia
  ·simp only[xc.wrs];split
   ·simp
   ·rw[xY];lia
 |put to sg=>
  have h2:to+(sg.length:Int)≤new:=h;have k1:=hk.1;refine⟨by simp only[xc.cv,xY];lia,by simp[xc.rds],by simp only[xc.wrs,xY];lia⟩
theorem xd8(T:Txt K mg a):xA P w K mg base CX0 8 a.q2f a.xcX ["paper"] (xhS K):=by
 refine T.q2r.ok xhC (fun vs H Q E h=>?_) (fun cdv A outer s H vs Q E hr h=>?_)
 ·obtain⟨p,o,n,rs,rfl,_⟩:=h;rfl
 ·obtain⟨p,o,n,rs,rfl,hP,ho,hn,hl,hk,h1,h2,hnl,q⟩:=h;have nd:=xhC.nd;refine⟨_,(xg (xM (vH (yu (xr (xeW T) (hr.mono (by decide)) (by rfl) T.xfL T.q0O.kp T.xfK .nil xn (xa (cv 0) xf)))) jC xH)
  (xg (xv (i:=1) nd rfl (aJ rfl) (xr (xcD T) (hr.mono (by decide)) (by rfl) T.xdb T.q0s.kp T.xda .nil xn (xa (cv 0) xf)))
  (xg (xM (xi9 (cv 1)) jC xH)
  (xg (xeu (i:=2) (yo (cap:=[]) (ys:=[]) rfl rfl rfl rfl rfl trivial (by decide+kernel)) rfl nd rfl rfl (xaQ (xu xx (cv 0) xh (fun _ _=>rfl))) (fun _ _ _ _=>(xr (vR T) (hr.mono (by decide)) (by rfl) T.jS T.q1b.kp T.jR .nil xn (xa (cv 0) xf))) (fun _ _ _ _=>yi))
  (xg (xv (i:=3) nd rfl (aJ rfl) (xr (xd7 T) (hr.mono (by decide)) (by rfl) T.xeI T.q0I.kp T.xeH .nil xn (xa (cv 2) xf)))
  (xg (xaS (xM (xgZ (cv 3)) (xi (xv (i:=3) nd rfl (aJ rfl) (xr (xkq T) (hr.mono (by decide)) (by rfl) T.xlI T.q10.kp T.xlH .nil xn (xa (cv 2) (xa (xu xx (cv 0) xh (fun _ _=>rfl)) xf))))) xH))
  (xg (xaS (xM (xgZ (cv 3)) (xi (xv (i:=3) nd rfl (aJ rfl) (xr (xhZ T) (hr.mono (by decide)) (by rfl) T.xiR T.q1u.kp T.xiQ .nil xn (xa (cv 2) xf)))) xH))
  (xi (xo (cv 3)))))))))),?_⟩
  walk_at"w";refine⟨p,o,n,rs,rfl,hP,ho.1,ho.2,hn.1,hn.2,hl,?_⟩;walk_at"w";refine⟨by walk_at"no",fun _=>?_⟩;walk_at"w";refine⟨p,o,n,rs,rfl,hP,hk,hl,fun H1 s1=>?_⟩;walk_at"w";refine⟨by walk_at"no",fun _=>?_⟩;obtain⟨tt,ts,hp,ht,hts⟩:=hP.same s1;walk_at"w";refine⟨p,_,_,.ref tt,rfl,rfl,SqT.of hp,rfl,?_⟩;walk_at"w";refine⟨tt,rfl,⟨_,SqT.of ht⟩,?_⟩;refine xb9 (fun i acc G=>∃(os:List Addr),acc=os.map V.ref∧Paired (xB K a G) os (rs.take i)) (SqT.of ht) (by rw[ab,hts.length,ay];lia) ⟨[],rfl,.nil⟩ (fun i x acc H3 H3' hx s3 s3' hP R hR=>?_) (fun D acc H3 H3' hD hD3 s3 s3' hP hel he=>?_)
  ·obtain⟨os,rfl,hpr⟩:=hP;rw[ao]at hx;obtain⟨t0,ht0,rfl⟩:=bf.mp hx;obtain⟨r,hr0,pr⟩:=xK hts ht0;walk_at"w";refine⟨t0,r,rfl,pr.same (s3.trans s3'),(hk r (aG hr0)).1,fun o H6' s6 hno hob=>hR _ _ s6 fun H6 sx kx=>⟨os++[o],by simp,?_⟩⟩;rw[bG,hr0];exact yd (L2.Paired.imp' (fun _ _ z=>z.same sx) hpr) (hob.mv kx)
  obtain⟨os,rfl,hpr⟩:=hP;rw[ab,hts.length,bX]at hpr;have hpr':=L2.Paired.imp' (fun _ _ (z:xB K a H3 _ _)=>z.same s3') hpr;have sA:xb H H3':=s1.trans (s3.trans s3');have hrok:xeR rs:=⟨hl,fun r hrm=>xmI (hk r hrm).1 hn.2 (hk r hrm).2⟩;have hp3:=(s3.trans s3').at hp;clear hel hD3 s3 s3' hpr hts ht hp;walk_at"w";refine⟨D,rs,rfl,⟨os,SqL.of he,hpr'⟩,hrok,h1,?_⟩;rw[h1];intro H4 s4;walk_at"w";refine⟨fun σ' G=>σ'=[some (.ref p),some .non,some (.ref D),some .non]∧xb H3' G,?_,?_⟩
  ·walk_at"w";refine⟨fun _=>?_,by walk_at"no"⟩;walk_at"w";refine⟨p,_,_,.int n,rfl,rfl,SqT.of (s4.at hp3),rfl,?_⟩;walk_at"w";refine⟨D,rs,n.toNat,by rw[cG hn.1];rfl,⟨os,SqL.of (s4.at he),L2.Paired.imp' (fun _ _ z=>z.same s4) hpr'⟩,hrok,by lia,h2,?_⟩;rw[h2];intro H5 s5;exact⟨rfl,s4.trans s5⟩
  rintro σ' G ⟨rfl,sG⟩;walk_at"w";refine⟨fun σ' G2=>∃v,σ'=[some (.ref p),some .non,some (.ref D),some v]∧Q v G2,?_,?_⟩
  ·walk_at"w";refine⟨fun _=>?_,by walk_at"no"⟩;walk_at"w";refine⟨D,rs,rfl,⟨os,SqL.of (sG.at he),L2.Paired.imp' (fun _ _ z=>z.same sG) hpr'⟩,hrok,hnl,fun H5 s5=>⟨_,rfl,q H5 (sA.trans (sG.trans s5))⟩⟩
  rintro σ' G2 ⟨v,rfl,qv⟩;exact qv
end
end JD
namespace MT
abbrev uj:Expr:=xnN 1 (xlf ((xjd ((xjd ((xQ vo).getD 1 (.Pass ⟨0,0,0,0⟩))).getD 1 (.Pass ⟨0,0,0,0⟩))).getD 0 (.Pass ⟨0,0,0,0⟩)))
theorem xcE:uo ["at","elder"] ["at"] ["elder"] (zt uj):=⟨rfl,rfl,rfl,by decide+kernel,rfl,by decide+kernel,by decide+kernel,by decide+kernel⟩
abbrev xqq(H:Hp)(f:Addr)(fv:List (Str×V)):Prop:=yZ H f "<lambda>" "meant.<locals>.<lambda>" (xaX uj) (.expr (xaY uj)) (zt uj) fv
def xeX:List (Str×V)→Sp:=fun fv vs H Q _=>∃(e:Addr) (es:List Int) (i v:Int),fv=([("elder",.ref e)]:List (Str×V))∧vs=[.int i]∧H e=some (.lst (es.map V.int))∧0≤i∧es[i.toNat]? =some v∧Q (.int v) H
def xmJ(a:Adr):Sp:=fun vs H Q E=>∃(p dx:Addr) (to st c cell:Int) (f:Addr) (fv:List (Str×V)),vs=[.ref p,.int cell,.ref f]∧H p=some (.ins a.q0a dx (xap to st c))∧xqq H f fv∧xeX fv [.int (st+cell - to)] H Q E0
def xmK(a:Adr):Sp:=fun vs H Q E=>∃(p dx u:Addr) (to n cell v:Int) (f:V) (sg:List Int),vs=[.ref p,.int cell,f]∧H p=some (.ins a.q0b dx (jj to u n))∧H u=some (.tup (sg.map V.int))∧0≤cell - to∧sg[(cell - to).toNat]? =some v∧Q (.int v) H
def xmL:Sp:=fun vs H Q E=>∃(p:Addr),vs=[.ref p]∧Q (.int 4) H
def xmM(a:Adr):Sp:=fun vs H Q E=>∃(p dx u:Addr) (to n:Int),vs=[.ref p]∧H p=some (.ins a.q0b dx (jj to u n))∧Q (.int (2+n)) H
def xh0(K:ah):Sp:=fun vs H Q _=>∃(p e:Addr) (o:Int) (rs:List xc) (es nw:List Int),vs=[.ref p,.ref e]∧H uC=some (.tbl jK)∧vC K H p o nw.length rs∧H e=some (.lst (es.map V.int))∧(∀r∈rs,Tells es nw r)∧(∀j,j<nw.length→∃r∈rs,xV r j)∧nw.length≤1000∧rs.length≤1000∧xaM H Q nw
def xjt(K:ah):Sp:=fun vs H Q _=>∃(p:Addr) (o n:Int) (rs:List xc),vs=[.ref p]∧vC K H p o n rs∧(∀r∈rs,r.ok)∧rs.length≤1000∧∀H',xb H H'→Q (.int (rs.map xc.cst).sum) H'
def jr(ns:List Int):List xc:=if ns=[]then[]else[.put 0 ns]
def xh1(K:ah):Sp:=fun vs H Q _=>∃(o:Int) (l:Addr) (ns:List Int),vs=[.int o,.ref l]∧H l=some (.lst (ns.map V.int))∧∀(p:Addr) (H':Hp),xb H H'→vC K H' p o ns.length (jr ns)→Q (.ref p) H'
section
variable {P:aH} {w:World} {K:ah} {mg:Str→Option Value} {base:Heap} {a:Adr}
theorem xh2(T:Txt K mg a):zy P w K mg base CX0 1 "<lambda>" "meant.<locals>.<lambda>" (xaX uj) (.expr (xaY uj)) (zt uj) ["at"] xeX:=by
 refine xbh xcE (fun fv vs H Q E h=>?_) (fun _ _ _ _ _ us hl=>match us,hl with|[_],_=>rfl) (fun A outer s H f clos cdv fv vs Q E hr h=>?_)
 ·obtain⟨e,es,i,v,rfl,rfl,_⟩:=h;exact⟨rfl,rfl⟩
 ·obtain⟨e,es,i,v,rfl,rfl,he,hi,hv,k⟩:=h;have nd:=xcE.nd;refine⟨_,(xu xX (cv 1) (cv 0) (fun _ _=>rfl)),?_⟩;walk_at"w";exact⟨e,_,i,.int v,rfl,rfl,SqL.of he,xg4 hi hv,k⟩
def xks(a:Adr):Sp:=fun vs H Q _=>∃(p dx:Addr) (to st c cell:Int),vs=[.ref p,.int cell]∧H p=some (.ins a.q0a dx (xap to st c))∧Q (.int (st+cell - to)) H
theorem xcF(T:Txt K mg a):xA P w K mg base CX0 1 a.q0l a.zW ["self","cell"] (xks a):=by
 refine T.q0J.ok vO (fun vs H Q E h=>?_) (fun cdv A outer s H vs Q E hr h=>?_)
 ·obtain⟨p,dx,to,st,c,cell,rfl,_⟩:=h;rfl
 ·obtain⟨p,dx,to,st,c,cell,rfl,hp,k⟩:=h;have nd:=vO.nd;refine⟨_,(xi (xo (xw xcS (xw xU (xF (cv 0) rfl) (cv 1)) (xF (cv 0) rfl)))),?_⟩;walk_at"w";refine⟨p,_,dx,_,.int st,rfl,hp,T.q0c,T.q0e,rfl,?_⟩;walk_at"w";refine⟨p,_,dx,_,.int to,rfl,hp,T.q0c,T.q0o,rfl,?_⟩;exact k
theorem xd9(T:Txt K mg a):xA P w K mg base CX0 2 a.q0t a.uP ["self","cell","read"] (xmJ a):=by
 refine T.q0U.ok jW (fun vs H Q E h=>?_) (fun cdv A outer s H vs Q E hr h=>?_)
 ·obtain⟨p,dx,to,st,c,cell,f,fv,rfl,_⟩:=h;rfl
 ·obtain⟨p,dx,to,st,c,cell,f,fv,rfl,hp,hf,k⟩:=h;have nd:=jW.nd;refine⟨_,(xi (xo (xmi 2 (xh2 T) (hr.mono (by decide)) xn (xa (xfc (cv 0) T.q0c T.q11 (xcF T) (hr.mono (by decide)) T.xc7 .nil xn (xa (cv 1) xf)) xf)))),?_⟩;walk_at"w";refine⟨f,fv,rfl,hf,?_⟩;walk_at"w";refine⟨p,dx,_,rfl,hp,rfl,?_⟩;walk_at"w";refine⟨p,dx,to,st,c,cell,rfl,hp,?_⟩;walk_at"w";exact⟨hf,k⟩
theorem xeY(T:Txt K mg a):xA P w K mg base CX0 1 a.q0B a.vp ["self","cell","read"] (xmK a):=by
 refine T.q04.ok xal (fun vs H Q E h=>?_) (fun cdv A outer s H vs Q E hr h=>?_)
 ·obtain⟨p,dx,u,to,n,cell,v,f,sg,rfl,_⟩:=h;rfl
 ·obtain⟨p,dx,u,to,n,cell,v,f,sg,rfl,hp,hu,hi,hv,k⟩:=h;have nd:=xal.nd;refine⟨_,(xi (xo (xu xx (xF (cv 0) rfl) (xw xcS (cv 1) (xF (cv 0) rfl)) (fun _ _=>rfl)))),?_⟩;walk_at"w";refine⟨p,_,dx,_,.ref u,rfl,hp,T.q0f,T.q0w,rfl,?_⟩;walk_at"w";refine⟨p,_,dx,_,.int to,rfl,hp,T.q0f,T.q0v,rfl,?_⟩;walk_at"w";exact⟨u,_,_,.int v,rfl,rfl,SqT.of hu,xg4 hi hv,k⟩
theorem xh3(T:Txt K mg a):xA P w K mg base CX0 1 a.q0Z a.xaE ["self"] xmL:=by
 refine T.q1K.ok xcr (fun vs H Q E h=>?_) (fun cdv A outer s H vs Q E hr h=>?_)
 ·obtain⟨p,rfl,_⟩:=h;rfl
 ·obtain⟨p,rfl,k⟩:=h;have nd:=xcr.nd;refine⟨_,(xi (xo xh)),?_⟩;exact k
theorem xiV(T:Txt K mg a):xA P w K mg base CX0 1 a.q1i a.xbu ["self"] (xmM a):=by
 refine T.q15.ok xds (fun vs H Q E h=>?_) (fun cdv A outer s H vs Q E hr h=>?_)
 ·obtain⟨p,dx,u,to,n,rfl,_⟩:=h;rfl
 ·obtain⟨p,dx,u,to,n,rfl,hp,k⟩:=h;have nd:=xds.nd;refine⟨_,(xi (xo (xw xU xh (xF (cv 0) rfl)))),?_⟩;walk_at"w";exact⟨p,_,dx,_,.int n,rfl,hp,T.q0f,T.q0j,rfl,k⟩
theorem xc3(T:Txt K mg a){H:Hp}{o:Addr}{r:xc}{Q:VK}{σ:L2.St}{i:Nat}(ho:xB K a H o r)(hc:r.cnt≤1000)(k:xaM H Q (yf r.to r.cnt))(hσ:σ[i]? =some (some (.ref o)):=by rfl):
  yy a.q0b "covered" (uV K) [] E0 (yC i) vS σ H Q∨yy a.q0a "covered" (uV K) [] E0 (yC i) vS σ H Q:=by
 cases r with
 |put to sg=>
  obtain⟨dx,u,h1,h2⟩:=ho
  left
  unfold yy yC;rw[hσ];have hc':sg.length≤1000:=hc;exact⟨o,dx,_,rfl,h1,rfl,o,_,dx,_,to,_,rfl,h1,T.q0f,T.q0v,T.q0j,rfl,rfl,by simp;lia,k⟩
 |take to st c=>
  obtain⟨dx,h1⟩:=ho
  right
  unfold yy yC;rw[hσ];have hc':c.toNat≤1000:=hc;exact⟨o,dx,_,rfl,h1,rfl,o,_,dx,_,to,c,rfl,h1,T.q0c,T.q0o,T.q0d,rfl,rfl,by lia,k⟩
theorem xea(T:Txt K mg a):xA P w K mg base CX0 6 a.q13 a.xa2 ["paper","elder"] (xh0 K):=by
 refine T.xa3.okC ["elder"] T.xmC xhD (fun vs H Q E h=>?_) (fun A outer s H vs Q E hr h=>?_)
 ·obtain⟨p,e,o,rs,es,nw,rfl,_⟩:=h;rfl
 ·obtain⟨p,e,o,rs,es,nw,rfl,hP,⟨t,ts,hp,ht,hts⟩,he,htl,hcv,hnw,hrs,k⟩:=h;have nd:=xhD.nd;refine⟨_,(xb5 (x:="elder") (i:=1) nd rfl rfl rfl (by kernel_rfl) (xg (xv (i:=2) nd rfl (aJ rfl) (xw xkT (yn (xa xh xf)) (xu xx (cv 0) xh (fun _ _=>rfl))))
  (xg (yD bj rfl (xaQ (xu xx (cv 0) xh (fun _ _=>rfl))) (xO (i:=3) nd rfl (aJ rfl)) (xg (xv (i:=4) nd rfl (aJ rfl) (xr (vR T) (hr.mono (by decide)) (by rfl) T.jS T.q1b.kp T.jR .nil xn (xa (cv 3) xf)))
  (xi (yD bj rfl (xZ (ub (xI (cv 4) T.q0f T.q05 (yq T) (hr.mono (by decide)) T.yw .nil xn) (xI (cv 4) T.q0c T.q0V (yq T) (hr.mono (by decide)) T.yw .nil xn))) (xO (i:=5) nd rfl (aJ rfl)) (xi (xbT (ub (xfc (cv 4) T.q0f T.q2k (xeY T) (hr.mono (by decide)) T.xfD .nil xn (xa (cv 5) (xa (vL (c:=q1v) (P:=uC) (qs:=jK) (fns:=["elder"]) rfl T.q2O (q:="meant.<locals>.<lambda>") (by kernel_rfl) (.head _) (by kernel_rfl) (by kernel_rfl)) xf))) (xfc (cv 4) T.q0c T.q2e (xd9 T) (hr.mono (by decide)) T.xeC .nil xn (xa (cv 5) (xa (vL (c:=q1v) (P:=uC) (qs:=jK) (fns:=["elder"]) rfl T.q2O (q:="meant.<locals>.<lambda>") (by kernel_rfl) (.head _) (by kernel_rfl) (by kernel_rfl)) xf)))) (xoI (cv 2) (cv 5) set_list)))))))
  (xi (xo (cv 2)))))),?_⟩
  have tl:ts.length=rs.length:=hts.length;walk_at"w";intro a1 e1 z1 d1;refine fN z1 ?_;generalize hU1:upd H a1 _=H1;have s1:=xb.of_eq z1 hU1;have c1:=xm hU1;clear hU1;walk_at"w";walk_at"ss";intro l0 hl0;generalize hUl0:upd H1 l0 _=H2;have sH2:=xb.of_eq hl0 hUl0;have el0:=xm hUl0;clear hUl0;walk_at"w";refine⟨p,_,_,.int nw.length,rfl,rfl,SqT.of ((s1.trans sH2).at hp),rfl,?_⟩;walk_at"w";refine⟨l0,_,_,rfl,rfl,el0,by lia,by lia,by simp[ay];lia,?_⟩;intro nl hnl;generalize hUnl:upd H2 nl _=H3;have sH3:=xb.of_eq hnl hUnl;have enl:=xm hUnl;clear hUnl;walk_at"w";have ef:(bC ((nw.length:Nat):Int).toNat [V.int 0]).flatten=(bC nw.length (0:Int)).map V.int:=by
   rw[gX,my,bJ]
  rw[ef]at enl;have s3:xb H H3:=s1.trans (sH2.trans sH3);refine⟨p,_,_,.ref t,rfl,rfl,SqT.of (s3.at hp),rfl,?_⟩;walk_at"w";refine⟨t,rfl,⟨_,SqT.of (s3.at ht)⟩,?_⟩;have s12:xb H H2:=s1.trans sH2;have nlf:H2 nl=none:=hnl;refine xb3 (xs:=ts.map V.ref) (fun k σ G=>xb H2 G∧∃ys x3 x4 x5,σ=[some (.ref p),some (.ref e),some (.ref nl),x3,x4,x5]∧G nl=some (.lst (ys.map V.int))∧Agree (fun j=>∃r∈rs.take k,xV r j) ys nw) ⟨sH3,_,_,_,_,rfl,enl,by simp,fun j hj=>?_⟩ (fun i σ G hi hP1=>?_) (fun k0 x σ G hx hP1=>?_) (fun σ G hP1=>?_)
  ·obtain⟨r,hr1,_⟩:=hj;simp at hr1
  ·exact SqT.of ((s12.trans hP1.1).at ht)
  ·obtain⟨sG,ys,x3,x4,x5,rfl,enl',hag⟩:=hP1;rw[ao]at hx;cases hb:ts[k0]? with
   |none=>rw[hb]at hx;cases hx
   |some t0=>
    rw[hb]at hx;cases hx;obtain⟨r,hr0,pr⟩:=xK hts hb;have hrm:r∈rs:=aG hr0;obtain⟨g1,g2,g3,g4⟩:=htl r hrm;have gto:=g1.to;have sHG:xb H G:=s12.trans sG;walk_at"w";refine⟨t0,r,rfl,pr.same sHG,g1,fun ob G1 sG1 hob hO=>?_⟩;walk_at"w";have hcnt:r.cnt≤1000:=by lia
    refine xc3 T hO hcnt fun cl G2 sG2 hcl ecl=>?_;walk_at"w";refine⟨cl,rfl,⟨_,SqL.of ecl⟩,?_⟩;have nlc:nl≠cl:=fun z=>by rw[←z,sG1.at enl']at hcl;cases hcl
    have tk:rs.take (k0+1)=rs.take k0++[r]:=by rw[bG,hr0];rfl
    refine yY (xs:=(yf r.to r.cnt).map V.int) (fun i σ G=>xb H2 G∧∃ys x5,σ=[some (.ref p),some (.ref e),some (.ref nl),some (.ref t0),some (.ref ob),x5]∧G nl=some (.lst (ys.map V.int))∧G cl=some (.lst ((yf r.to r.cnt).map V.int))∧xB K a G ob r∧Agree (fun j=>(∃r∈rs.take k0,xV r j)∨(r.to≤j∧(j:Int)<r.to+i)) ys nw)
     ⟨sG.trans (sG1.trans sG2),ys,_,rfl,(sG1.trans sG2).at enl',ecl,hO.same sG2,hag.1,fun j hj=>?_⟩ (fun i σ G hi hP2=>?_) (fun i x σ G hx hP2=>?_) (fun σ G hP2=>?_)
    ·rcases hj with z|z
     ·exact hag.2 j z
     ·lia
    ·obtain⟨_,_,_,_,_,z,_⟩:=hP2;exact SqL.of z
    ·obtain⟨s4,ys4,y5,rfl,enl4,ecl4,hO4,hag4⟩:=hP2;rw[ao]at hx;cases hc0:(yf r.to r.cnt)[i]? with
     |none=>rw[hc0]at hx;cases hx
     |some cell=>
      rw[hc0]at hx;cases hx;have hil:i<r.cnt:=by have:=(aD.mp hc0).1;rwa [xY]at this
      have hcell:cell=r.to+i:=by
       unfold yf at hc0;rw[ao,f6 hil]at hc0;exact(br hc0).symm
      obtain⟨v,hv⟩:∃v,(r.sg es)[i]? =some v:=⟨_,ai (by rw[xc.sg_len g1 g2];exact hil)⟩;have hv2:nw[(r.to+i).toNat]? =some v:=(g4 i hil).trans hv;have c14:=(sH2.trans s4).at c1;have fin:∀G5,xb G G5→∃(p':Addr) (xs':List V) (k':Int) (j':Nat),V.ref nl= .ref p'∧V.int cell= .int k'∧G5 p'=some (.lst xs')∧ixN xs'.length k'=some j'∧(xb H2 (upd G5 p' (.lst (xs'.set j' (.int v))))∧∃ys x5,[some (.ref p),some (.ref e),some (.ref nl),some (.ref t0),some (.ref ob),some (.int cell)]=[some (V.ref p),some (.ref e),some (.ref nl),some (.ref t0),some (.ref ob),x5]∧upd G5 p' (.lst (xs'.set j' (.int v))) nl=some (.lst (ys.map V.int))∧upd G5 p' (.lst (xs'.set j' (.int v))) cl=some (.lst ((yf r.to r.cnt).map V.int))∧xB K a (upd G5 p' (.lst (xs'.set j' (.int v)))) ob r∧Agree (fun j=>(∃r∈rs.take k0,xV r j)∨(r.to≤j∧(j:Int)<r.to+((i+1:Nat):Int))) ys nw):=by
       intro G5 s5;have e5:=s5.at enl4;refine⟨nl,_,cell,(r.to+i).toNat,rfl,rfl,e5,?_,s4.trans s5 |>.put nlf,ys4.set (r.to+i).toNat v,_,rfl,?_,?_,?_,?_⟩
       ·rw[hcell];exact xpo (by lia) (by rw[ab,hag4.1];lia)
       ·rw[xk,List.map_set]
       ·rw[xl (bE nlc)];exact s5.at ecl4
       ·have hO5:=hO4.same s5;cases r with
        |take to st c=>
         obtain⟨dx,q1⟩:=hO5;exact⟨dx,by rw[xl (yU q1 e5 (by intro z;cases z))];exact q1⟩
        |put to sg=>
         obtain⟨dx,u,q1,q2⟩:=hO5;exact⟨dx,u,by rw[xl (yU q1 e5 (by intro z;cases z))];exact q1,by rw[xl (yU q2 e5 (by intro z;cases z))];exact q2⟩
       ·refine hag4.set hv2 fun j hj=>?_;rcases hj with z|z
        ·exact .inl (.inl z)
        ·by_cases hlt:(j:Int)<r.to+i
         ·exact .inl (.inr ⟨z.1,hlt⟩)
         ·exact .inr (by lia)
      walk_at"w";cases r with
      |put to sg=>
       obtain⟨dx,u,q1,q2⟩:=hO4
       left
       refine⟨ob,dx,_,rfl,q1,rfl,?_⟩;walk_at"w";refine⟨(s12.trans s4).at hP,[("elder",.ref e)],rfl,fun x v m=>?_,fun f G5 hf s5 hc=>?_⟩
       ·simp only[ax,iZ,c8,or_false]at m;obtain⟨rfl,rfl⟩:=m;exact⟨a1,e1,c14⟩
       walk_at"w";have eh:cell - to=i:=by rw[hcell];show to+(i:Int) - to=i;lia
       refine⟨ob,dx,u,to,_,cell,v,_,sg,rfl,s5.at q1,s5.at q2,by rw[eh];lia,by rw[eh];exact hv,?_⟩;walk_at"w";exact fin G5 s5
      |take to st c=>
       obtain⟨dx,q1⟩:=hO4
       right
       refine⟨ob,dx,_,rfl,q1,rfl,?_⟩;walk_at"w";refine⟨(s12.trans s4).at hP,[("elder",.ref e)],rfl,fun x v m=>?_,fun f G5 hf s5 hc=>?_⟩
       ·simp only[ax,iZ,c8,or_false]at m;obtain⟨rfl,rfl⟩:=m;exact⟨a1,e1,c14⟩
       walk_at"w";obtain⟨b1,b2,b3⟩:=g1;have eh:st+cell - to=st+i:=by rw[hcell];show st+(to+(i:Int)) - to=st+i;lia
       refine⟨ob,dx,to,st,c,cell,f,_,rfl,s5.at q1,hc,e,es,_,v,rfl,rfl,(s12.trans (s4.trans s5)).at he,by rw[eh];lia,?_,?_⟩
       ·rw[eh];have:((es.drop st.toNat).take c.toNat)[i]? =some v:=hv;rw[cJ (show i<c.toNat from hil),c9]at this;rw[←this]
        congr 1
        lia
       walk_at"w";exact fin G5 s5
    ·obtain⟨s4,ys4,y5,rfl,enl4,ecl4,hO4,hag4⟩:=hP2;refine⟨s4,ys4,_,_,_,rfl,enl4,hag4.1,fun j hj=>?_⟩;obtain⟨r',hr',hc'⟩:=hj;rw[tk]at hr';rcases aQ.mp hr' with z|z
     ·exact hag4.2 j (.inl ⟨r',z,hc'⟩)
     ·rw[aA.mp z]at hc';refine hag4.2 j (.inr ⟨hc'.1,?_⟩);rw[ab,xY];exact hc'.2
  ·obtain⟨sG,ys,x3,x4,x5,rfl,enl',hag⟩:=hP1;have e:ys=nw:=hag.all fun j hj=>by
    obtain⟨r,h1,h2⟩:=hcv j hj;refine⟨r,?_,h2⟩;rw[a8 (by simp;lia)];exact h1
   rw[e]at enl';exact k nl G (s12.trans sG) (s12.back nlf) enl'
theorem xa8(T:Txt K mg a):xA P w K mg base CX0 6 a.q2A a.xez ["paper"] (xjt K):=by
 refine T.q2j.ok xjn (fun vs H Q E h=>?_) (fun cdv A outer s H vs Q E hr h=>?_)
 ·obtain⟨p,o,n,rs,rfl,_⟩:=h;rfl
 ·obtain⟨p,o,n,rs,rfl,⟨t,ts,hp,ht,hts⟩,hok,hle,q⟩:=h;have nd:=xjn.nd;refine⟨_,(xi (xo (xt (xlc rfl) (by rfl) T.q3A xpb (xa (yj (yo (cap:=[]) (ys:=[]) rfl rfl rfl rfl rfl trivial (by decide+kernel)) rfl (xaQ (xu xx (cv 0) xh (fun _ _=>rfl))) (fun _ _ _ _=>(ub (xI (xr (vR T) (hr.mono (by decide)) (by rfl) T.jS T.q1b.kp T.jR .nil xn (xa (cv 0) xf)) T.q0f T.q2L (xiV T) (hr.mono (by decide)) T.xkh .nil xn) (xI (xr (vR T) (hr.mono (by decide)) (by rfl) T.jS T.q1b.kp T.jR .nil xn (xa (cv 0) xf)) T.q0c T.q2I (xh3 T) (hr.mono (by decide)) T.xiI .nil xn))) (fun _ _ _ _=>yi)) xf)))),?_⟩;have tl:ts.length=rs.length:=hts.length;walk_at"w";refine⟨p,_,_,.ref t,rfl,rfl,SqT.of hp,rfl,?_⟩;walk_at"w";refine⟨t,rfl,⟨_,SqT.of ht⟩,?_⟩;refine xb9 (fun i acc _=>acc=((rs.take i).map xc.cst).map V.int) (SqT.of ht) (by rw[ab,ay];lia) (by simp) (fun i x acc H3 H3' hx s3 s3' hP R hR=>?_) (fun D acc H3 H3' hD hD3 s3 s3' hP hl hv=>?_)
  ·rw[ao]at hx;cases hb:ts[i]? with
   |none=>rw[hb]at hx;cases hx
   |some t0=>
    rw[hb]at hx;cases hx;obtain⟨r,hr0,pr⟩:=xK hts hb;have pr':=pr.same (s3.trans s3');have ok:=hok r (aG hr0);have fin:∀G,xb H3' G→R (.int r.cst) G:=fun G sG=>hR _ _ sG fun H6 _ _=>by
     rw[hP,bG,hr0,aI,aI];rfl
    cases r with
    |put to sg=>
     left
     walk_at"w";refine⟨t0,_,rfl,pr',ok,fun ob G sG hn hO=>?_⟩;obtain⟨dx,u,q1,q2⟩:=hO;walk_at"w";refine⟨ob,dx,_,rfl,q1,rfl,?_⟩;walk_at"w";exact⟨ob,dx,u,to,_,rfl,q1,fin G sG⟩
    |take to st c=>
     right
     walk_at"w";refine⟨t0,_,rfl,pr',ok,fun ob G sG hn hO=>?_⟩;obtain⟨dx,q1⟩:=hO;walk_at"w";refine⟨ob,dx,_,rfl,q1,rfl,?_⟩;walk_at"w";exact⟨ob,rfl,fin G sG⟩
  ·rw[hP,a8 (by simp;lia)]at hv;walk_at"w";exact⟨D,_,rfl,SqL.of hv,q _ (s3.trans s3')⟩
theorem xeb(T:Txt K mg a):xA P w K mg base CX0 1 a.q2g a.xcY ["old","newer"] (xh1 K):=by
 refine T.q2s.ok xhE (fun vs H Q E h=>?_) (fun cdv A outer s H vs Q E hr h=>?_)
 ·obtain⟨o,l,ns,rfl,_⟩:=h;rfl
 ·obtain⟨o,l,ns,rfl,hl,q⟩:=h;have nd:=xhE.nd;refine⟨_,(xg (xM (xD ug (xt xy (by rfl) T.q0i xN (xa (cv 1) xf)) xh) (xi (xo (ym (xa (cv 0) (xa xh (xa (ym xf) xf)))))) xH)
  (xi (xo (ym (xa (cv 0) (xa (xt xy (by rfl) T.q0i xN (xa (cv 1) xf)) (xa (ym (xa (ym (xa vF (xa xh (xa (yB uf (by rfl) T.q1P zC (xa (cv 1) xf)) xf)))) xf)) xf))))))),?_⟩
  walk_at"w";refine⟨l,_,rfl,.inl (SqL.of hl),?_⟩;walk_at"w";rw[ab];refine⟨fun e=>?_,fun e=>?_⟩
  ·have e':ns=[]:=by have:=of_decide_eq_true e;exact df.mp (by lia)
   subst e';walk_at"w";walk_at"ss";intro t ht;generalize hUt:upd H t _=H1;have sH1:=xb.of_eq ht hUt;have et:=xm hUt;clear hUt;walk_at"w";walk_at"ss";intro p hp;generalize hUp:upd H1 p _=H2;have sH2:=xb.of_eq hp hUp;have ep:=xm hUp;clear hUp;walk_at"w";exact q p H2 (sH1.trans sH2) ⟨t,[],ep,by walk_at"get",.nil⟩
  ·have e':ns≠[]:=fun z=>by have:=of_decide_eq_false e;rw[z]at this;simp at this
   walk_at"w";refine⟨l,_,rfl,.inl (SqL.of hl),?_⟩;walk_at"w";refine⟨l,_,rfl,.inl ⟨SqL.of hl,?_⟩⟩;intro u hu;generalize hUu:upd H u _=H1;have sH1:=xb.of_eq hu hUu;have eu:=xm hUu;clear hUu;walk_at"w";walk_at"ss";intro r hr;generalize hUr:upd H1 r _=H2;have sH2:=xb.of_eq hr hUr;have er:=xm hUr;clear hUr;walk_at"w";walk_at"ss";intro t ht;generalize hUt:upd H2 t _=H3;have sH3:=xb.of_eq ht hUt;have et:=xm hUt;clear hUt;walk_at"w";walk_at"ss";intro p hp;generalize hUp:upd H3 p _=H4;have sH4:=xb.of_eq hp hUp;have ep:=xm hUp;clear hUp;walk_at"w";rw[ab]at ep;refine q p H4 (by walk_at"same") ⟨t,[r],ep,by walk_at"get",?_⟩;rw[jr,if_neg e'];exact .cons ⟨u,by walk_at"get",by walk_at"get"⟩ .nil
end
end MT
def xqr(H:Hp)(Q:VK)(xss:List (List Int)):Prop:=∀(l:Addr) (as:List Addr) (H':Hp),xb H H'→yS H H' l as xss→Q (.ref l) H'
def Bnd(xs:List Int):Prop:=∀x∈xs,(x.natAbs:Int)<10^60
noncomputable def minOf(ns:List Int):Int:=open Classical in if h:∃m,m∈ns∧∀x∈ns,m≤x then Classical.choose h else 0
theorem xh4{ns:List Int}{m:Int}(h1:m∈ns)(h2:∀x∈ns,m≤x):m=minOf ns:=by
 unfold minOf;have h:∃m,m∈ns∧∀x∈ns,m≤x:=⟨m,h1,h2⟩;rw[dif_pos h];obtain⟨q1,q2⟩:=Classical.choose_spec h;have:=h2 _ q1;have:=q2 _ h1;omega
def itN(f:Int→Int)(a:Int):Nat→Int
 |0=>a
 |i+1=>f (itN f a i)
def orb(f:Int→Int)(a:Int)(j:Nat):List Int:=(aO j).map (itN f a)
theorem xh5(f:Int→Int)(a:Int)(j:Nat):orb f a (j+1)=orb f a j++[itN f a j]:=by unfold orb;rw[gg,aI];rfl
theorem uD(f:Int→Int)(a:Int)(j:Nat):(orb f a j).length=j:=by simp[orb]
theorem xaZ{f:Int→Int}{a:Int}{i j:Nat}(h:i<j):(orb f a j)[i]? =some (itN f a i):=by simp[orb,h]
theorem jt{f:Int→Int}{a x:Int}{j:Nat}:x∈orb f a j↔∃i,i<j∧x=itN f a i:=by
 unfold orb;rw[aN];constructor
 ·rintro⟨i,h1,rfl⟩;exact⟨i,bh.mp h1,rfl⟩
 ·rintro⟨i,h1,rfl⟩;exact⟨i,bh.mpr h1,rfl⟩
theorem xaq{f:Int→Int}{a:Int}:∀{j:Nat},(∀i,i<j→¬itN f a i∈orb f a i)→(orb f a j).Nodup
 |0,_=>by simp[orb]
 |j+1,h=>by
  rw[xh5,List.nodup_append];refine⟨xaq fun i hi=>h i (by lia),by simp,fun x hx y hy e=>?_⟩;rw[aA.mp hy]at e;exact h j (by lia) (by rw[←e];exact hx)
theorem xlO:∀{ns:List Int},ns≠[]→∃m,m∈ns∧∀x∈ns,m≤x
 |[],h=>absurd rfl h
 |[x],_=>⟨x,by simp,by simp⟩
 |x::y::r,_=>by
  obtain⟨m,h1,h2⟩:=xlO (ns:=y::r) (by simp)
  by_cases e:x≤m
  ·refine⟨x,by simp,fun z hz=>?_⟩;rcases ax.mp hz with w|w
   ·lia
   ·have:=h2 z w;lia
  ·refine⟨m,aq _ h1,fun z hz=>?_⟩;rcases ax.mp hz with w|w
   ·lia
   ·exact h2 z w
noncomputable def nxt(xss:List (List Int))(left:List Int)(k:Int):Int:=minOf ((xss.getD k.toNat []).filter fun o=>decide (o∈left))
def xh6(xss:List (List Int))(left ring:List Int):Prop:=∃(a:Int) (j:Nat),(a∈left∧∀x∈left,a≤x)∧itN (nxt xss left) a j∈orb (nxt xss left) a j∧(∀i,i<j→¬itN (nxt xss left) a i∈orb (nxt xss left) a i)∧
 ring=((orb (nxt xss left) a j).drop ((orb (nxt xss left) a j).idxOf (itN (nxt xss left) a j))).reverse
def xcG(xss:List (List Int))(left:List Int):Prop:=∀k∈left,0≤k∧k<xss.length∧∃o∈left,o∈xss.getD k.toNat []
theorem xh7{xss:List (List Int)}{left:List Int}{k:Int}(h:xcG xss left)(hk:k∈left):nxt xss left k∈left∧nxt xss left k∈xss.getD k.toNat []:=by
 obtain⟨_,_,o,ho1,ho2⟩:=h k hk;have hm:o∈(xss.getD k.toNat []).filter fun o=>decide (o∈left):=aK.mpr ⟨ho2,decide_eq_true ho1⟩;have hex:∃m,m∈(xss.getD k.toNat []).filter (fun o=>decide (o∈left))∧∀x∈(xss.getD k.toNat []).filter (fun o=>decide (o∈left)),m≤x:=xlO (mz hm);obtain⟨m,h1,h2⟩:=hex;have e:m=nxt xss left k:=xh4 h1 h2;rw[←e];obtain⟨q1,q2⟩:=aK.mp h1;exact⟨of_decide_eq_true q2,q1⟩
theorem xfO{xss:List (List Int)}{left:List Int}{a:Int}(h:xcG xss left)(ha:a∈left):∀i,itN (nxt xss left) a i∈left
 |0=>ha
 |i+1=>(xh7 h (xfO h ha i)).1
theorem xcH{xss:List (List Int)}{left ring:List Int}(hL:xcG xss left)(hs:∀k∈left,k∉xss.getD k.toNat [])(h:xh6 xss left ring):
  2≤ring.length∧ring.Nodup∧(∀x∈ring,x∈left)∧∀k,k<ring.length→∃x y,ring[if k=0 then ring.length - 1 else k - 1]? =some x∧ring[k]? =some y∧x∈xss.getD y.toNat []:=by
 obtain⟨a,j,⟨a1,a2⟩,p1,p2,rfl⟩:=h;have hnd:=xaq p2;obtain⟨i0,hi0,e0⟩:=jt.mp p1;have hidx:(orb (nxt xss left) a j).idxOf (itN (nxt xss left) a j)=i0:=by
  rw[e0];have hlt:i0<(orb (nxt xss left) a j).length:=by rw[uD];exact hi0
  have hg:(orb (nxt xss left) a j)[i0]=itN (nxt xss left) a i0:=by
   have:=xaZ (f:=nxt xss left) (a:=a) hi0;rw[ai hlt]at this;exact br this
  have hmem:itN (nxt xss left) a i0∈orb (nxt xss left) a j:=jt.mpr ⟨i0,hi0,rfl⟩;have hlt2:=ko.mpr hmem;have hg2:=List.getElem_idxOf hlt2;rcases fG ((orb (nxt xss left) a j).idxOf (itN (nxt xss left) a i0)) i0 with z|z|z
  ·exact absurd (hg2.trans hg.symm) (bt.mp hnd _ _ hlt2 hlt z)
  ·exact z
  ·exact absurd (hg.trans hg2.symm) (bt.mp hnd _ _ hlt hlt2 z)
 rw[hidx];have hlen:((orb (nxt xss left) a j).drop i0).reverse.length=j - i0:=by rw[lV,aX,uD]
 have hget:∀k,k<j - i0→((orb (nxt xss left) a j).drop i0).reverse[k]? =some (itN (nxt xss left) a (j - 1 - k)):=by
  intro k hk;rw[lg (by rw[aX,uD];exact hk),aX,uD,c9,xaZ (by lia)]
  congr 2
  lia
 have hit:=xfO hL a1;have h2:2≤j - i0:=by
  by_cases hj:j - i0=1
  ·exfalso;have ej:j=i0+1:=by lia
   rw[ej]at e0;have:nxt xss left (itN (nxt xss left) a i0)=itN (nxt xss left) a i0:=e0;have hm:=(xh7 hL (hit i0)).2;rw[this]at hm;exact hs _ (hit i0) hm
  ·lia
 refine⟨by rw[hlen];exact h2,?_,?_,?_⟩
 ·exact la.mpr ((hnd.sublist (List.drop_sublist _ _)).imp bE)
 ·intro x hx;have hx2:=fQ (List.mem_reverse.mp hx);obtain⟨i,_,rfl⟩:=jt.mp hx2;exact hit i
 ·intro k hk;rw[hlen]at hk⊢;refine⟨nxt xss left (itN (nxt xss left) a (j - 1 - k)),itN (nxt xss left) a (j - 1 - k),?_,hget k hk,(xh7 hL (hit _)).2⟩
  by_cases hk0:k=0
  ·subst hk0;rw[if_pos rfl,hget _ (by lia)];have e1:j - 1 - (j - i0 - 1)=i0:=by lia
   rw[e1,←e0];have e2:j=(j - 1 - 0)+1:=by lia
   exact congrArg (fun z=>some (itN (nxt xss left) a z)) e2
  ·rw[if_neg hk0,hget _ (by lia)];have e2:j - 1 - (k - 1)=(j - 1 - k)+1:=by lia
   exact congrArg (fun z=>some (itN (nxt xss left) a z)) e2
theorem xar{kvs:List (Key×V)}{left:List Int}(h:kvs.map (·.1)=left.map bZ)(o:Int):(yr kvs (.inl o)).isSome=decide (o∈left):=by
 unfold yr;rw[gJ,List.isSome_find?];have e:(kvs.any fun kv=>decide (kv.1=bZ o))=((kvs.map (·.1)).any fun k=>decide (k=bZ o)):=by rw[kg];rfl
 rw[e,h,kg,dF,dw,decide_eq_true_iff];constructor
 ·rintro⟨x,hx,hq⟩;have:=of_decide_eq_true hq;cases this;exact hx
 ·exact fun hx=>⟨o,hx,decide_eq_true rfl⟩
theorem xb.thaw{H G:Hp}{l:Addr}{x u:HO}(h:H l=some u)(s:xb (upd H l x) G):xb H (upd G l u):=fun b o e=>by
 by_cases hb:b=l
 ·subst hb;rw[xk,←h];exact e
 ·rw[xl hb];refine s b o ?_;rw[xl hb];exact e
theorem xju{H:Hp}{l b:Addr}{x y:HO}{kvs:List (Key×V)}(h:H l=some (.dK kvs))(e:H b=some y)(n:∀q,y≠.dK q):upd H l x b=some y:=by
 rw[xl (fun z=>by rw[z,h]at e;cases e;exact n _ rfl)];exact e
def xbD(xss:List (List Int))(left:List Int)(k:Int):Prop:=∃o∈left,o∈xss.getD k.toNat []
def xdd(K:ah):Sp:=fun vs H Q _=>∃(D l:Addr) (as:List Addr) (H0:Hp) (xss:List (List Int)) (kvs:List (Key×V)) (left:List Int),vs=[.ref D,.ref l]∧yS H0 H D as xss∧H l=some (.dK kvs)∧kvs.map (·.1)=left.map bZ∧(∀k∈left,0≤k∧k<xss.length)∧xss.length≤1000∧(∀xs∈xss,xs.length≤1000)∧
 (∀k∈left,¬xbD xss left k→∀G,xb H G→Q (.int k) G)∧((∀k∈left,xbD xss left k)→∀G,xb H G→Q .non G)
def xfP(K:ah):Sp:=fun vs H Q _=>∃(D l:Addr) (as:List Addr) (H0:Hp) (xss:List (List Int)) (kvs:List (Key×V)) (left:List Int),vs=[.ref D,.ref l]∧yS H0 H D as xss∧H l=some (.dK kvs)∧kvs.map (·.1)=left.map bZ∧left≠[]∧left.length≤1000∧xcG xss left∧xss.length≤1000∧(∀xs∈xss,xs.length≤1000)∧∀ring,xh6 xss left ring→xaM H Q ring
section
variable {P:aH} {w:World} {K:ah} {mg:Str→Option Value} {base:Heap} {a:Adr}
theorem xde(T:Txt K mg a):xA P w K mg base CX0 1 a.q0x a.uv ["spoilt","left"] (xdd K):=by
 refine T.q0z.ok vZ (fun vs H Q E h=>?_) (fun cdv A outer s H vs Q E hr h=>?_)
 ·obtain⟨D,l,as,H0,xss,kvs,left,rfl,_⟩:=h;rfl
 ·obtain⟨D,l,as,H0,xss,kvs,left,rfl,L,hl,hks,hok,hxl,hxs,q1,q2⟩:=h;have nd:=vZ.nd;refine⟨_,(xg (xnW (i:=1) bj rfl (cv 1) (xO (i:=2) nd rfl (aJ rfl)) (xi (xM (vH (yu (xt (xlb rfl) (by rfl) T.q3x xpc (xa (yj (yo (cap:=[1]) (ys:=["left"]) rfl rfl rfl rfl rfl ⟨⟨rfl,rfl,.inl rfl⟩,trivial⟩ (by decide+kernel)) rfl (xZ (xu xX (cv 0) (cv 2) (fun _ _=>rfl))) (fun _ _ _ _=>(xoE (xep (xad hr) (cv 0) (cv 1)) (by rfl))) (fun _ _ _ _=>yi)) xf)))) (xi (xo (cv 2))) xH)))
  (xi (xo xaP))),?_⟩
  walk_at"w";refine⟨l,kvs,rfl,hl,fun o hdat=>?_⟩;generalize hF:upd H l _=F;have eF:F l=some (.frz o (.dK kvs)):=by rw[←hF,xk]
  have LF:yS H0 F D as xss:=⟨by rw[←hF];exact xju hl L.top (by intro _ z;cases z),L.nd,L.len,fun i a xs h1 h2=>by rw[←hF];exact xju hl (L.each i a xs h1 h2) (by intro _ z;cases z),L.fr,L.frs⟩;have hkl:kvs.length=left.length:=by have:=congrArg cD hks;simpa using this
  have back:∀G,xb F G→xb H (upd G l (.dK kvs)):=fun G sG=>by subst hF;exact xb.thaw hl sG
  clear hF;refine xj8 (fun i σ G=>xb F G∧(∃z,σ=[some (.ref D),some (.ref l),z])∧∀j k,j<i→left[j]? =some k→xbD xss left k) ⟨xb.refl _,⟨_,rfl⟩,fun j k hj=>absurd hj (dk _)⟩ (fun i σ G _ hp=>hp.1.at eF) (fun i k σ G hk hp=>?_) (fun σ G hp=>?_)
  ·obtain⟨sG,⟨z,rfl⟩,hh⟩:=hp;have hk2:∃n,left[i]? =some n∧k=bZ n:=by
    rw[hks,ao]at hk;cases e:left[i]? with
    |none=>rw[e]at hk;cases hk
    |some n=>rw[e]at hk;cases hk;exact⟨n,rfl,rfl⟩
   obtain⟨n,hn,rfl⟩:=hk2;have hm:n∈left:=aG hn;obtain⟨k0,k1⟩:=hok n hm;walk_at"w";have hlt:n.toNat<xss.length:=by lia
   have LG:=LF.same sG;have hlta:n.toNat<as.length:=by rw[L.len];exact hlt
   have eg:xss.getD n.toNat []=xss[n.toNat]:=by simp[a9,hlt]
   have ea:=LG.each _ _ _ (ai hlta) (ai hlt);have hxl2:=hxs _ (cS hlt);refine⟨D,_,_,.ref as[n.toNat],rfl,rfl,SqL.of LG.top,?_,?_⟩
   ·have:=yJ (xs:=as.map V.ref) (j:=n.toNat) (v:=.ref as[n.toNat]) (by simp[hlta])
    rwa [cG k0]at this
   walk_at"w";refine⟨_,rfl,⟨_,SqL.of ea⟩,?_⟩;refine xb7 (fun v=>V.bl (inV v (left.map V.int))) (SqL.of ea) (by rw[ab,ay];lia) (fun v G5 hv s5 R hR=>?_) (fun D5 G5 hD5 s5 e5=>?_)
   ·obtain⟨c,_,rfl⟩:=aN.mp hv;walk_at"w";refine⟨l,yr kvs (.inl c),rfl,.inl ⟨kvs,.inl c,.inr ⟨o,(sG.trans s5).at eF⟩,rfl,rfl⟩,?_⟩;rw[xar hks,←jB];exact hR _ (xb.refl _)
   walk_at"w";refine⟨D5,xss[n.toNat].map fun c=>decide (c∈left),rfl,SqL.of (by rw[e5,bS,bS];simp[i7,jB]),?_⟩;walk_at"w";have ha:((xss[n.toNat].map fun c=>decide (c∈left)).any id)=true↔xbD xss left n:=by
    unfold xbD;rw[eg,kg,dw];exact⟨fun⟨x,hx,hq⟩=>⟨x,of_decide_eq_true hq,hx⟩,fun⟨x,hx,hq⟩=>⟨x,hq,decide_eq_true hx⟩⟩
   refine⟨fun e=>?_,fun e=>?_⟩
   ·have hn2:¬xbD xss left n:=fun z=>by rw[←ha]at z;simp only[z]at e;cases e
    walk_at"w";exact⟨⟨o,(sG.trans s5).at eF,hdat⟩,q1 n hm hn2 _ (back _ (sG.trans s5))⟩
   ·have hn2:xbD xss left n:=by rw[←ha];simpa using e
    refine⟨sG.trans s5,⟨_,rfl⟩,fun j k hj hkj=>?_⟩
    by_cases hji:j=i
    ·subst hji;rw[hn]at hkj;cases hkj;exact hn2
    ·exact hh j k (by lia) hkj
  ·obtain⟨sG,⟨z,rfl⟩,hh⟩:=hp;refine⟨⟨o,sG.at eF,hdat⟩,q2 (fun k hk=>?_) _ (back G sG)⟩;obtain⟨j,hj,e⟩:=lX hk;exact hh j k (by lia) (by rw[ai hj,e])
theorem xgE(T:Txt K mg a):xA P w K mg base CX0 1 a.q08 a.jP ["spoilt","left"] (xfP K):=by
 refine T.q1d.ok xbP (fun vs H Q E h=>?_) (fun cdv A outer s H vs Q E hr h=>?_)
 ·obtain⟨D,l,as,H0,xss,kvs,left,rfl,_⟩:=h;rfl
 ·obtain⟨D,l,as,H0,xss,kvs,left,rfl,L,hl,hks,hne,hll,hok,hxl,hxs,q⟩:=h;have nd:=xbP.nd;refine⟨_,(xg (xv (i:=2) nd rfl (aJ rfl) (yn xf))
  (xg (xv (i:=3) nd rfl (aJ rfl) (xt (xlm rfl) (by rfl) T.q2Q xb0 (xa (cv 1) xf)))
  (xg (jA bj (xD xgT (cv 3) (cv 2) (by rfl)) (xg (yE (uE PySem.F.plainAttrs_list PySem.F.slot_list_append PySem.F.type_list_append yH (cv 2) (xa (cv 3) xf)))
  (xi (xv (i:=3) nd rfl (aJ rfl) (xt (xga rfl) (by rfl) T.q2Q xb0 (xa (yj (yo (cap:=[1]) (ys:=["left"]) rfl rfl rfl rfl rfl ⟨⟨rfl,rfl,.inl rfl⟩,trivial⟩ (by decide+kernel)) rfl (xZ (xu xX (cv 0) (cv 3) (fun _ _=>rfl))) (fun _ _ _ _=>(cv 0)) (fun _ _ _ _=>(xaT (xgL (xep (xad hr) (cv 0) (cv 1)) (by rfl))))) xf))))))
  (xi (xo (xj1 rfl (by rfl) T.q2l (by rfl) T.q2R (yF zf (cv 2) (yb (uE PySem.F.plainAttrs_list PySem.F.slot_list_index PySem.F.type_list_index xmn (cv 2) (xa (cv 3) xf))) vf))))))),?_⟩
  walk_at"w";walk_at"ss";intro p hp;generalize hUp:upd H p _=H1;have sH1:=xb.of_eq hp hUp;have ep:=xm hUp;clear hUp;walk_at"w";refine⟨l,kvs,left,rfl,sH1.at hl,hks,hne,fun st hst1 hst2=>?_⟩;walk_at"w";have hit:=xfO hok hst1;have nxs:∀k∈left,(xss.getD k.toNat []).length≤1000:=fun k hk=>by
   obtain⟨h0,h1,_⟩:=hok k hk;have hlt:k.toNat<xss.length:=by lia
   have e:xss.getD k.toNat []=xss[k.toNat]:=by simp[a9,hlt]
   rw[e];exact hxs _ (cS hlt)
  refine ud (m:=left.length) (fun m σ G=>xb H G∧∃j,m=left.length - j∧σ=[some (.ref D),some (.ref l),some (.ref p),some (.int (itN (nxt xss left) st j))]∧G p=some (.lst ((orb (nxt xss left) st j).map V.int))∧∀i,i<j→¬itN (nxt xss left) st i∈orb (nxt xss left) st i) ⟨sH1,0,by simp,rfl,ep,fun i hi=>absurd hi (dk _)⟩ (fun m σ G hP=>?_);obtain⟨sG,j,rfl,rfl,epj,hdis⟩:=hP;have hnd:=xaq hdis;have hjl:j≤left.length:=by
   have:=uA hnd (l₂:=left) fun x hx=>by obtain⟨i,_,rfl⟩:=jt.mp hx;exact hit i
   rwa [uD]at this
  walk_at"w";refine⟨p,_,rfl,.inl (SqL.of epj),rfl,xle _,?_⟩;walk_at"w";rw[jB];refine⟨fun e=>?_,fun e=>?_⟩
  ·have e':¬itN (nxt xss left) st j∈orb (nxt xss left) st j:=by simpa using e
   have hdis':∀i,i<j+1→¬itN (nxt xss left) st i∈orb (nxt xss left) st i:=fun i hi=>by
    by_cases hij:i=j
    ·rw[hij];exact e'
    ·exact hdis i (by lia)
   have hjl':j+1≤left.length:=by
    have:=uA (xaq hdis') (l₂:=left) fun x hx=>by obtain⟨i,_,rfl⟩:=jt.mp hx;exact hit i
    rwa [uD]at this
   refine⟨fun σ' G'=>∃m',m'<left.length - j∧xb H G'∧∃j',m'=left.length - j'∧σ'=[some (.ref D),some (.ref l),some (.ref p),some (.int (itN (nxt xss left) st j'))]∧G' p=some (.lst ((orb (nxt xss left) st j').map V.int))∧∀i,i<j'→¬itN (nxt xss left) st i∈orb (nxt xss left) st i,fun _ _ z=>z,?_⟩;walk_at"w";refine⟨.inl ⟨rfl,_,SqL.of epj⟩,?_⟩;walk_at"w";refine⟨p,_,_,rfl,rfl,epj,by rw[ab,uD,ay];lia,?_⟩;generalize hU:upd G p _=G2;have s2:xb H G2:=xb.wr sG hp hU;have ep2:G2 p=some (.lst ((orb (nxt xss left) st (j+1)).map V.int)):=by rw[←hU,xk,xh5,aI];rfl
   clear hU;walk_at"w";obtain⟨k0,k1,_⟩:=hok _ (hit j);have hlt:(itN (nxt xss left) st j).toNat<xss.length:=by lia
   have hlta:(itN (nxt xss left) st j).toNat<as.length:=by rw[L.len];exact hlt
   have eg:xss.getD (itN (nxt xss left) st j).toNat []=xss[(itN (nxt xss left) st j).toNat]:=by simp[a9,hlt]
   have ea:=L.each _ _ _ (ai hlta) (ai hlt);refine⟨D,_,_,.ref as[(itN (nxt xss left) st j).toNat],rfl,rfl,SqL.of (s2.at L.top),?_,?_⟩
   ·have:=yJ (xs:=as.map V.ref) (j:=(itN (nxt xss left) st j).toNat) (v:=.ref as[(itN (nxt xss left) st j).toNat]) (by simp[hlta])
    rwa [cG k0]at this
   walk_at"w";refine⟨_,rfl,⟨_,SqL.of (s2.at ea)⟩,?_⟩;have hxl2:=nxs _ (hit j);rw[eg]at hxl2;refine jg (fun v=>inV v (left.map V.int)) id (SqL.of (s2.at ea)) (by rw[ab,ay];lia) (fun v G5 hv s5 R hR=>?_) (fun v G5 hv _ s5 R hR=>?_) (fun D5 G5 hD5 s5 e5=>?_)
   ·obtain⟨c,_,rfl⟩:=aN.mp hv;walk_at"w";refine⟨l,yr kvs (.inl c),rfl,.inl ⟨kvs,.inl c,.inl ((s2.trans s5).at hl),rfl,rfl⟩,?_⟩;rw[xar hks,←jB];exact hR _ (xb.refl _)
   ·exact hR _ (xb.refl _)
   rw[mK,xiC]at e5;simp only[jB]at e5;walk_at"w";have hnn:(xss[(itN (nxt xss left) st j).toNat].filter fun x=>decide (x∈left))≠[]:=by
    obtain⟨_,_,o,ho1,ho2⟩:=hok _ (hit j);rw[eg]at ho2;exact mz (aK.mpr ⟨ho2,decide_eq_true ho1⟩)
   refine⟨D5,_,rfl,SqL.of e5,hnn,fun mm h1 h2=>?_⟩;have em:mm=itN (nxt xss left) st (j+1):=by
    have:=xh4 h1 h2;show mm=minOf ((xss.getD (itN (nxt xss left) st j).toNat []).filter fun o=>decide (o∈left));rw[eg];exact this
   rw[em];exact⟨left.length - (j+1),by lia,s2.trans s5,j+1,rfl,rfl,s5.at ep2,hdis'⟩
  ·have e':itN (nxt xss left) st j∈orb (nxt xss left) st j:=by simpa using e
   walk_at"w";refine⟨.inl ⟨rfl,_,SqL.of epj⟩,?_⟩;walk_at"w";have hsm:∀x∈orb (nxt xss left) st j,x.natAbs<2^64:=fun x hx=>by
    obtain⟨i,_,rfl⟩:=jt.mp hx;obtain⟨k0,k1,_⟩:=hok _ (hit i);lia
   refine⟨p,_,_,rfl,rfl,epj,e',by rw[uD];lia,hsm,?_⟩;walk_at"w";refine⟨_,rfl,?_⟩;walk_at"w";refine⟨p,_,rfl,SqL.of epj,?_⟩;intro c hc;generalize hUc:upd G c _=G3;have sG3:=xb.of_eq hc hUc;have ec:=xm hUc;clear hUc;walk_at"w";rw[za,yP (by lia),HT.jv]at ec;refine⟨c,_,rfl,SqL.of ec,fun d hd=>?_⟩;have hidx:(orb (nxt xss left) st j).idxOf (itN (nxt xss left) st j)≤(orb (nxt xss left) st j).length:=cx (ko.mpr e');refine q _ ⟨st,j,⟨hst1,hst2⟩,e',hdis,rfl⟩ d _ ((sG.trans sG3).trans (xb.new hd)) ((sG.trans sG3).back hd) ?_;rw[xk,←List.map_reverse]
   congr 4
   rw[bJ,cN hidx,a8 (by rw[aX];exact aj _)]
end
def xc.rd:xc→Int×Int
 | .take to st c=>if st=to then(0,0)else(st,st+c)
 | .put _ _=>(0,0)
def xc.wr:xc→Int×Int
 | .take to st c=>if st=to then(0,0)else(to,to+c)
 | .put to sg=>(to,to+sg.length)
def xbE(x y:Int×Int):Bool:=decide (max x.1 y.1<min x.2 y.2)
def vD(k:Nat)(w:Int×Int)(rds:List (Int×Int)):List Int:=((aO rds.length).filter fun(i:Nat)=> !decide ((i:Int)=(k:Int))&&xbE w (rds.getD i (0,0))).map fun(i:Nat)=>(i:Int)
def ya(rs:List xc):List (List Int):=(aO rs.length).map fun k=>vD k ((rs.map xc.wr).getD k (0,0)) (rs.map xc.rd)
def xkt(K:ah)(H H':Hp)(t:Addr)(x:Int×Int):Prop:=(∀G,SqT K G t [.int x.1,.int x.2])∨(H t=none∧H' t=some (.tup [.int x.1,.int x.2]))
def xec(K:ah)(H:Hp)(t:Addr)(x:Int×Int):Prop:=SqT K H t [.int x.1,.int x.2]
theorem xkt.at{K:ah}{H H' H6:Hp}{t:Addr}{x:Int×Int}(h:xkt K H H' t x)(k:∀p o,(H p=none∨∀ys,o≠HO.lst ys)→H' p=some o→H6 p=some o):xec K H6 t x:=by
 rcases h with h|⟨h1,h2⟩
 ·exact h _
 ·exact SqT.of (k _ _ (.inl h1) h2)
def xcA(K:ah):Sp:=fun vs H Q _=>∃(p C dx:Addr) (fs:List (Str×V)) (to c:Int),vs=[.ref p]∧H p=some (.ins C dx fs)∧Cls K C∧xT K C "to"∧xT K C "count"∧fs.lookup ("to":Str)=some (.int to)∧fs.lookup ("count":Str)=some (.int c)∧∀t,H t=none→Q (.ref t) (upd H t (.tup [.int to,.int (to+c)]))
def xeZ(K:ah)(a:Adr):Sp:=fun vs H Q _=>∃(o:Addr) (r:xc),vs=[.ref o]∧xB K a H o r∧r.isTake=true∧∀t H',xb H H'→xkt K H H' t r.rd→Q (.ref t) H'
def xcI(K:ah)(a:Adr):Sp:=fun vs H Q _=>∃(o:Addr) (r:xc),vs=[.ref o]∧xB K a H o r∧r.isTake=true∧∀t H',xb H H'→xkt K H H' t r.wr→Q (.ref t) H'
def xol(K:ah):Sp:=fun vs H Q _=>∃(s t:Addr) (x y:Int×Int),vs=[.ref s,.ref t]∧xec K H s x∧xec K H t y∧Q (.bl (xbE x y)) H
def xh8(K:ah):Sp:=fun vs H Q _=>∃(k:Nat) (s l:Addr) (x:Int×Int) (ts:List Addr) (rds:List (Int×Int)),vs=[.int k,.ref s,.ref l]∧xec K H s x∧SqL K H l (ts.map V.ref)∧Paired (xec K H) ts rds∧rds.length≤1000∧xaM H Q (vD k x rds)
def xlP(K:ah)(a:Adr):Sp:=fun vs H Q _=>∃(l:Addr) (rs:List xc),vs=[.ref l]∧xeQ K a H l rs∧rs.length≤1000∧(∀r∈rs,r.isTake=true)∧xqr H Q (ya rs)
section
variable {P:aH} {w:World} {K:ah} {mg:Str→Option Value} {base:Heap} {a:Adr}
theorem zv(T:Txt K mg a):xA P w K mg base CX0 1 a.q0m a.uO ["self"] (xcA K):=by
 refine T.q1a.ok uh (fun vs H Q E h=>?_) (fun cdv A outer s H vs Q E hr h=>?_)
 ·obtain⟨p,C,dx,fs,to,c,rfl,_⟩:=h;rfl
 ·obtain⟨p,C,dx,fs,to,c,rfl,hp,cl,n1,n2,l1,l2,k⟩:=h;have nd:=uh.nd;refine⟨_,(xi (xo (ym (xa (xF (cv 0) rfl) (xa (xw xU (xF (cv 0) rfl) (xF (cv 0) rfl)) xf))))),?_⟩;walk_at"w";refine⟨p,C,dx,fs,_,rfl,hp,cl,n1,l1,?_⟩;walk_at"w";refine⟨p,C,dx,fs,_,rfl,hp,cl,n1,l1,?_⟩;walk_at"w";refine⟨p,C,dx,fs,_,rfl,hp,cl,n2,l2,?_⟩;walk_at"w";exact⟨by walk_at"side",k⟩
theorem xe0(T:Txt K mg a):xA P w K mg base CX0 2 a.q0L a.vq ["row"] (xeZ K a):=by
 refine T.q0N.ok xam (fun vs H Q E h=>?_) (fun cdv A outer s H vs Q E hr h=>?_)
 ·obtain⟨o,r,rfl,_⟩:=h;rfl
 ·obtain⟨o,r,rfl,ho,htk,k⟩:=h;have nd:=xam.nd;refine⟨_,(xg (xM (PW.pt (uF (yu (xt yN (by rfl) T.q0h xW (xa (cv 0) (xa (zL (v:=.ref a.q0a) (by rfl) T.xa4 rfl) xf)))) (uy (vH (yu (xI (cv 0) T.q0c T.q1g (ui T) (hr.mono (by decide)) T.uU .nil xn)))))) (xi (xo (ym (xa (xF (cv 0) rfl) (xa (xw xU (xF (cv 0) rfl) (xF (cv 0) rfl)) xf))))) xH)
  (xi (xo (zL (v:=.ref a.q0S) (by rfl) T.xco rfl)))),?_⟩
  cases r with
  |put _ _=>cases htk
  |take to st c=>
   obtain⟨dx,h1⟩:=ho;walk_at"w";refine⟨_,_,_,_,true,rfl,rfl,T.xa5 h1,T.q1z,?_⟩;walk_at"w";refine⟨fun _=>?_,by walk_at"no"⟩;walk_at"w";refine⟨o,dx,_,rfl,h1,rfl,?_⟩;walk_at"w";refine⟨o,dx,to,st,c,rfl,h1,?_⟩;walk_at"w"
   by_cases e:st=to
   ·rw[decide_eq_true e];refine⟨by walk_at"no",fun _=>?_⟩;walk_at"w";refine k _ _ (xb.refl _) (.inl fun G=>?_);have:=T.xcp G;simpa [xc.rd,e]using this
   ·rw[decide_eq_false e];refine⟨fun _=>?_,by walk_at"no"⟩;walk_at"w";refine⟨o,_,dx,_,.int st,rfl,h1,T.q0c,T.q0e,rfl,?_⟩;walk_at"w";refine⟨o,_,dx,_,.int st,rfl,h1,T.q0c,T.q0e,rfl,?_⟩;walk_at"w";refine⟨o,_,dx,_,.int c,rfl,h1,T.q0c,T.q0d,rfl,?_⟩;walk_at"w";refine⟨by walk_at"side",fun t ht=>k t _ (xb.new ht) (.inr ⟨ht,?_⟩)⟩;rw[xk];simp[xc.rd,e]
theorem xcJ(T:Txt K mg a):xA P w K mg base CX0 2 a.q0p a.zX ["row"] (xcI K a):=by
 refine T.q0r.ok vP (fun vs H Q E h=>?_) (fun cdv A outer s H vs Q E hr h=>?_)
 ·obtain⟨o,r,rfl,_⟩:=h;rfl
 ·obtain⟨o,r,rfl,ho,htk,k⟩:=h;have nd:=vP.nd;refine⟨_,(xg (xM (PW.pt (uF (yu (xt yN (by rfl) T.q0h xW (xa (cv 0) (xa (zL (v:=.ref a.q0a) (by rfl) T.xa4 rfl) xf)))) (uy (yu (xI (cv 0) T.q0c T.q1g (ui T) (hr.mono (by decide)) T.uU .nil xn))))) (xi (xo (zL (v:=.ref a.q0S) (by rfl) T.xco rfl))) xH)
  (xi (xo (xI (cv 0) T.q0c T.q17 (zv T) (hr.mono (by decide)) T.uT .nil xn)))),?_⟩
  cases r with
  |put _ _=>cases htk
  |take to st c=>
   obtain⟨dx,h1⟩:=ho;walk_at"w";refine⟨_,_,_,_,true,rfl,rfl,T.xa5 h1,T.q1z,?_⟩;walk_at"w";refine⟨fun _=>?_,by walk_at"no"⟩;walk_at"w";refine⟨o,dx,_,rfl,h1,rfl,?_⟩;walk_at"w";refine⟨o,dx,to,st,c,rfl,h1,?_⟩;walk_at"w"
   by_cases e:st=to
   ·rw[decide_eq_true e];refine⟨fun _=>?_,by walk_at"no"⟩;walk_at"w";refine k _ _ (xb.refl _) (.inl fun G=>?_);have:=T.xcp G;simpa [xc.wr,e]using this
   ·rw[decide_eq_false e];refine⟨by walk_at"no",fun _=>?_⟩;walk_at"w";refine⟨o,dx,_,rfl,h1,rfl,?_⟩;walk_at"w";refine⟨o,_,dx,_,to,c,rfl,h1,T.q0c,T.q0o,T.q0d,rfl,rfl,fun t ht=>k t _ (xb.new ht) (.inr ⟨ht,?_⟩)⟩;rw[xk];simp[xc.wr,e]
theorem xom(T:Txt K mg a):xA P w K mg base CX0 1 a.q2D a.xhp ["one","other"] (xol K):=by
 refine T.q2F.ok xjl (fun vs H Q E h=>?_) (fun cdv A outer s H vs Q E hr h=>?_)
 ·obtain⟨s,t,x,y,rfl,_⟩:=h;rfl
 ·obtain⟨s1,t1,x,y,rfl,hs,ht,q⟩:=h;have nd:=xjl.nd;refine⟨_,(xi (xo (uc xat (xt (xk4 rfl) (by rfl) T.q21 xgY (xa (xu xx (cv 0) xh (fun _ _=>rfl)) (xa (xu xx (cv 1) xh (fun _ _=>rfl)) xf))) (xt (xpf rfl) (by rfl) T.q2Q xb0 (xa (xu xx (cv 0) xh (fun _ _=>rfl)) (xa (xu xx (cv 1) xh (fun _ _=>rfl)) xf)))))),?_⟩;walk_at"w";refine⟨s1,_,_,.int x.1,rfl,rfl,hs,rfl,?_⟩;walk_at"w";refine⟨t1,_,_,.int y.1,rfl,rfl,ht,rfl,?_⟩;walk_at"w";refine⟨s1,_,_,.int x.2,rfl,rfl,hs,rfl,?_⟩;walk_at"w";refine⟨t1,_,_,.int y.2,rfl,rfl,ht,rfl,?_⟩;exact q
theorem xh9(T:Txt K mg a):xA P w K mg base CX0 2 a.q1o a.xaJ ["number","stretch","read"] (xh8 K):=by
 refine T.q1t.ok xcw (fun vs H Q E h=>?_) (fun cdv A outer s H vs Q E hr h=>?_)
 ·obtain⟨k,s,l,x,ts,rds,rfl,_⟩:=h;rfl
 ·obtain⟨k,s1,l,x,ts,rds,rfl,hs,hl,hp,hle,q⟩:=h;have nd:=xcw.nd;refine⟨_,(xi (xo (xdR (xfp (cap:=[0,1]) (ys:=["number","stretch"]) rfl rfl rfl rfl rfl rfl ⟨⟨rfl,rfl,.inl rfl⟩,⟨⟨rfl,rfl,.inl rfl⟩,trivial⟩⟩ (by decide+kernel)) rfl (xfo (by rfl) T.q1O (xa (cv 2) xf)) (fun _ _ _ _=>(cv 0)) (fun _ _ _ _=>(xaT (PW.pt (uF (xD xcT (cv 0) (cv 2)) (uy (yu (xr (xom T) (hr.mono (by decide)) (by rfl) T.xpD T.q2F.kp T.xpC .nil xn (xa (cv 3) (xa (cv 1) xf)))))))))))),?_⟩;have elen:ts.length=rds.length:=hp.length;walk_at"w";refine⟨l,rfl,⟨_,hl⟩,?_⟩;refine xiB (fun i v=> !decide ((i:Int)=(k:Int))&&xbE x (rds.getD i (0,0))) hl (by rw[ab,ay];lia) (fun i v H3 hv s3 R hR=>?_) (fun i v H3 hv s3 R hR=>?_) (fun D H' hD s' hv=>?_)
  ·rw[ao]at hv;cases ht:ts[i]? with
   |none=>rw[ht]at hv;cases hv
   |some t=>
    rw[ht]at hv;cases hv;obtain⟨y,hy,py⟩:=xK hp ht;have eg:rds.getD i (0,0)=y:=by simp[a9,hy]
    walk_at"w";refine⟨fun e=>?_,fun e=>?_⟩
    ·walk_at"w";refine⟨s1,t,x,y,rfl,s3.seqT hs,s3.seqT py,?_⟩;have:=hR _ (xb.refl _);rw[eg,e,Bool.true_and]at this;exact this
    ·have:=hR _ (xb.refl _);rw[e,Bool.false_and]at this;exact this
  ·exact hR _ (xb.refl _)
  ·refine q D H' s' hD ?_;rw[hv,ab,elen,vD,bS];rfl
theorem xlQ(T:Txt K mg a):xA P w K mg base CX0 3 a.q2b a.xdZ ["rows"] (xlP K a):=by
 refine T.q2d.ok xgk (fun vs H Q E h=>?_) (fun cdv A outer s H vs Q E hr h=>?_)
 ·obtain⟨l,rs,rfl,_⟩:=h;rfl
 ·obtain⟨l,rs,rfl,⟨os,hl,hp⟩,hle,htk,q⟩:=h;have nd:=xgk.nd;refine⟨_,(xg (xv (i:=1) nd rfl (fU rfl) (yj (yo (cap:=[]) (ys:=[]) rfl rfl rfl rfl rfl trivial (by decide+kernel)) rfl (xZ (cv 0)) (fun _ _ _ _=>(xr (xe0 T) (hr.mono (by decide)) (by rfl) T.xfF T.q0N.kp T.xfE .nil xn (xa (cv 0) xf))) (fun _ _ _ _=>yi)))
  (xg (xv (i:=2) nd rfl (fU rfl) (yj (yo (cap:=[]) (ys:=[]) rfl rfl rfl rfl rfl trivial (by decide+kernel)) rfl (xZ (cv 0)) (fun _ _ _ _=>(xr (xcJ T) (hr.mono (by decide)) (by rfl) T.xc9 T.q0r.kp T.xc8 .nil xn (xa (cv 0) xf))) (fun _ _ _ _=>yi)))
  (xi (xo (yj (yo (cap:=[1,2]) (ys:=["read","written"]) rfl rfl rfl rfl rfl ⟨⟨rfl,rfl,.inl rfl⟩,⟨⟨rfl,rfl,.inl rfl⟩,trivial⟩⟩ (by decide+kernel)) rfl (zk (by rfl) T.q06 (xa (xt xy (by rfl) T.q0i xN (xa (cv 0) xf)) xf)) (fun _ _ _ _=>(xr (xh9 T) (hr.mono (by decide)) (by rfl) T.xiP T.q1t.kp T.xiO .nil xn (xa (cv 0) (xa (xu (xg3 (K:=K) rfl) (cv 2) (cv 0) (fun _ _=>rfl)) (xa (cv 1) xf))))) (fun _ _ _ _=>yi)))))),?_⟩
  have elen:os.length=rs.length:=hp.length;have hz:(os.map V.ref).length≤aL:=by rw[ab,ay];lia
  walk_at"w";refine⟨l,rfl,⟨_,hl⟩,?_⟩;refine uH (fun i acc G=>∃ts:List Addr,acc=ts.map V.ref∧Paired (xec K G) ts ((rs.map xc.rd).take i)) hl hz ⟨[],rfl,.nil⟩ (fun i v acc H3 H3' hv s3 s3' hP R hR=>?_) (fun D1 acc H1 H1' hD1 hD1' s1 s1' hP hacc hv1=>?_)
  ·rw[ao]at hv;cases ht:os[i]? with
   |none=>rw[ht]at hv;cases hv
   |some o=>
    rw[ht]at hv;cases hv;obtain⟨r,hy,py⟩:=xK hp ht;obtain⟨ts,rfl,hts⟩:=hP;walk_at"w";refine⟨o,r,rfl,py.same (s3.trans s3'),htk r (aG hy),fun t H6 s6 hn=>hR _ _ s6 fun G sG kG=>⟨ts++[t],by simp,?_⟩⟩;rw[bG,ao,hy];exact yd (L2.Paired.imp' (fun _ _ z=>sG.seqT z) hts) (hn.at kG)
  ·obtain⟨t1,rfl,ht1⟩:=hP;rw[a8 (by simp;lia)]at ht1;walk_at"w";have hl1:=(s1.trans s1').seq hl;refine⟨l,rfl,⟨_,hl1⟩,?_⟩;refine uH (fun i acc G=>∃ts:List Addr,acc=ts.map V.ref∧Paired (xec K G) ts ((rs.map xc.wr).take i)) hl1 hz ⟨[],rfl,.nil⟩ (fun i v acc H3 H3' hv s3 s3' hP R hR=>?_) (fun D2 acc H2 H2' hD2 hD2' s2 s2' hP hacc2 hv2=>?_)
   ·rw[ao]at hv;cases ht:os[i]? with
    |none=>rw[ht]at hv;cases hv
    |some o=>
     rw[ht]at hv;cases hv;obtain⟨r,hy,py⟩:=xK hp ht;obtain⟨ts,rfl,hts⟩:=hP;walk_at"w";refine⟨o,r,rfl,py.same ((s1.trans s1').trans (s3.trans s3')),htk r (aG hy),fun t H6 s6 hn=>hR _ _ s6 fun G sG kG=>⟨ts++[t],by simp,?_⟩⟩;rw[bG,ao,hy];exact yd (L2.Paired.imp' (fun _ _ z=>sG.seqT z) hts) (hn.at kG)
   ·obtain⟨t2,rfl,ht2⟩:=hP;rw[a8 (by simp;lia)]at ht2;walk_at"w";refine⟨l,_,rfl,.inl ((s2.trans s2').seq hl1),?_⟩;walk_at"w";have en:yR 0 ((os.map V.ref).length:Nat) 1=rs.length:=by rw[zq,ab,elen];lia
    rw[en];have hd1:=(s2.trans s2').at hv1;have p1:=L2.Paired.imp' (fun _ _ z=>(s1'.trans (s2.trans s2')).seqT z) ht1;have p2:=L2.Paired.imp' (fun _ _ z=>s2'.seqT z) ht2;have s12:xb H H2':=(s1.trans s1').trans (s2.trans s2');refine xjX (fun k=>vD k ((rs.map xc.wr).getD k (0,0)) (rs.map xc.rd)) (by rw[ay];lia) (fun k H3 hk s3 R hR=>?_) (fun D H' as s' L=>?_)
    ·have hk2:k<t2.length:=by rw[p2.length];simpa using hk
     obtain⟨y,hy,py⟩:=xK p2 (ai hk2);have eg:(rs.map xc.wr).getD k (0,0)=y:=by simp only[a9];rw[hy];rfl
     rw[eg]at hR;have ek:(0:Int)+(k:Int)*1=(k:Int):=by lia
     rw[ek];walk_at"w";refine⟨D2,_,_,.ref t2[k],rfl,rfl,SqL.of (s3.at hv2),?_,?_⟩
     ·exact yJ (by simp[hk2])
     walk_at"w";exact⟨k,t2[k],D1,y,t1,rs.map xc.rd,rfl,s3.seqT py,SqL.of (s3.at hd1),L2.Paired.imp' (fun _ _ z=>s3.seqT z) p1,by simpa using hle,fun l1 H4 s4 hl4 hv4=>hR _ _ s4 hl4 hv4⟩
    ·exact q D as H' (s12.trans s') (L.base s12)
end
def uX:xc→List Int
 | .take to _ c=>[c,to]
 | .put .. =>[]
def dR:xc:=.put 0 []
abbrev xe1:Expr:=xj3 (xlf ((xqi ((xpu ((xQ yz).getD 4 (.Pass ⟨0,0,0,0⟩))).getD 1 (.Pass ⟨0,0,0,0⟩))).getD 1 (.Pass ⟨0,0,0,0⟩)))
theorem xjv:uo ["one","takes"] ["one"] ["takes"] (zt xe1):=⟨rfl,rfl,rfl,by decide+kernel,rfl,by decide+kernel,by decide+kernel,by decide+kernel⟩
def xon(K:ah)(a:Adr):List (Str×V)→Sp:=fun fv vs H Q _=>∃(l:Addr) (os:List Addr) (rs:List xc) (x:Int),fv=([("takes",.ref l)]:List (Str×V))∧vs=[.int x]∧SqL K H l (os.map V.ref)∧Paired (xB K a H) os rs∧(∀r∈rs,r.isTake=true)∧0≤x∧x<rs.length∧
 ∀d,H d=none→Q (.ref d) (upd H d (.tup ((uX (rs.getD x.toNat dR)).map V.int)))
inductive Goes(xss:List (List Int))(key:Int→List Int):List Int→List Int→List (Int×List Int)→Prop
 |nil:Goes xss key [] [] []
 |keep {left ord:List Int} {tur:List (Int×List Int)} (k:Int):k∈left→¬xbD xss left k→Goes xss key (left.filter fun x=>decide (x≠k)) ord tur→Goes xss key left (k::ord) tur
 |turn {left ord ring:List Int} {tur:List (Int×List Int)} (k:Int):(∀x∈left,xbD xss left x)→xh6 xss left ring→k=ring.getD (bst (fun i=>key (ring.getD i 0)) (ring.length - 1)) 0→k∈left→Goes xss key (left.filter fun x=>decide (x≠k)) ord tur→Goes xss key left ord ((k,ring)::tur)
def xia(os:List Addr)(G:Hp)(o t:Addr)(p:Addr)(kr:Int×List Int):Prop:=∃rl,rl≠o∧rl≠t∧G p=some (.tup [.ref (os.getD kr.1.toNat 0),.ref rl])∧G rl=some (.lst (kr.2.map fun x=>V.ref (os.getD x.toNat 0)))
def xe2(K:ah)(a:Adr):Sp:=fun vs H Q _=>∃(l:Addr) (os:List Addr) (rs:List xc),vs=[.ref l]∧SqL K H l (os.map V.ref)∧Paired (xB K a H) os rs∧(∀r∈rs,r.isTake=true)∧rs.length≤1000∧H yp=some (.tbl zb)∧
 ∀(p o t:Addr) (ord:List Int) (tur:List (Int×List Int)) (trs:List Addr) (G:Hp),xb H G→H p=none→H o=none→H t=none→o≠t→G p=some (.tup [.ref o,.ref t])→G o=some (.lst (ord.map fun x=>V.ref (os.getD x.toNat 0)))→G t=some (.lst (trs.map V.ref))→Paired (xia os G o t) trs tur→
  Goes (ya rs) (fun x=>uX (rs.getD x.toNat dR)) ((aO rs.length).map fun(i:Nat)=>(i:Int)) ord tur→Q (.ref p) G
theorem xbF{k:Int}:∀{kvs:List (Key×V)} {left:List Int},kvs.map (·.1)=left.map bZ→(jc kvs (.inl k)).map (·.1)=(left.filter fun x=>decide (x≠k)).map bZ
 |[],[],_=>rfl
 |kv::kvs,x::left,h=>by
  rw[bc,bc]at h;injection h with h1 h2;have ih:=xbF (k:=k) h2;unfold jc at ih⊢
  by_cases e:x=k
  ·rw[fg (by rw[h1,e];simp),fg (by simp[e])];exact ih
  ·rw[fh (by rw[h1];simpa using e),fh (by simpa using e),bc,bc,ih,h1]
theorem xdy{k:Int}{left:List Int}(h:k∈left):(left.filter fun x=>decide (x≠k)).length<left.length:=by
 refine Nat.lt_of_le_of_ne (bO _ _) fun z=>?_;have e:=List.filter_sublist.eq_of_length z;have:=aK.mp (e▸h);simp at this
theorem xbG{rs:List xc}{k:Int}(h0:0≤k)(h1:k<rs.length):k∉(ya rs).getD k.toNat []:=fun hm=>by
 have hk:k.toNat<rs.length:=by lia
 have e:(ya rs).getD k.toNat []=vD k.toNat ((rs.map xc.wr).getD k.toNat (0,0)) (rs.map xc.rd):=by simp[ya,a9,hk]
 rw[e]at hm;unfold vD at hm;obtain⟨i,hi,e2⟩:=aN.mp hm;have:=(aK.mp hi).2;rw[dv]at this;have:=this.1;simp at this;lia
def refOf(os:List Addr):V→V
 | .int x=>.ref (os.getD x.toNat 0)
 |_=>.non
theorem getD_mem{xs:List Int}{i:Nat}(h:i<xs.length):xs.getD i 0∈xs:=by
 have:xs.getD i 0=xs[i]:=by simp[a9,h]
 rw[this];exact cS h
section
variable {P:aH} {w:World} {K:ah} {mg:Str→Option Value} {base:Heap} {a:Adr}
theorem xbS(T:Txt K mg a):zy P w K mg base CX0 1 "<lambda>" "put_in_order.<locals>.<lambda>" (xaX xe1) (.expr (xaY xe1)) (zt xe1) ["one"] (xon K a):=by
 refine xbh xjv (fun fv vs H Q E h=>?_) (fun _ _ _ _ _ us hl=>match us,hl with|[_],_=>rfl) (fun A outer s H f clos cdv fv vs Q E hr h=>?_)
 ·obtain⟨l,os,rs,x,rfl,rfl,_⟩:=h;exact⟨rfl,rfl⟩
 ·obtain⟨l,os,rs,x,rfl,rfl,hl,hp,htk,x0,x1,k⟩:=h;have nd:=xjv.nd;refine⟨_,(ym (xa (xF (xu xX (cv 1) (cv 0) (fun _ _=>rfl)) rfl) (xa (xF (xu xX (cv 1) (cv 0) (fun _ _=>rfl)) rfl) xf))),?_⟩;have elen:os.length=rs.length:=hp.length;have hx:x.toNat<os.length:=by lia
  have hx2:x.toNat<rs.length:=by lia
  obtain⟨r,hr1,hr2⟩:=xK hp (ai hx);have ht:=htk r (aG hr1);have eg:rs.getD x.toNat dR=r:=by simp only[a9];rw[hr1];rfl
  rw[eg]at k;have hat:atI (os.map V.ref) x=some (.ref os[x.toNat]):=by
   have:=yJ (xs:=os.map V.ref) (j:=x.toNat) (v:=.ref os[x.toNat]) (by simp[hx])
   rwa [cG x0]at this
  cases r with
  |put _ _=>cases ht
  |take to st c=>
   obtain⟨dx,h1⟩:=hr2;walk_at"w";refine⟨l,_,_,_,rfl,rfl,hl,hat,?_⟩;walk_at"w";refine⟨_,_,dx,_,.int c,rfl,h1,T.q0c,T.q0d,rfl,?_⟩;walk_at"w";refine⟨l,_,_,_,rfl,rfl,hl,hat,?_⟩;walk_at"w";refine⟨_,_,dx,_,.int to,rfl,h1,T.q0c,T.q0o,rfl,?_⟩;walk_at"w";exact⟨by walk_at"side",k⟩
theorem xe3(T:Txt K mg a):xA P w K mg base CX0 4 a.q0C a.zP ["takes"] (xe2 K a):=by
 refine T.zj.okC ["takes"] T.xeG xan (fun vs H Q E h=>?_) (fun A outer s H vs Q E hr h=>?_)
 ·obtain⟨l,os,rs,rfl,_⟩:=h;rfl
 ·obtain⟨l,os,rs,rfl,hl,hp,htk,hle,hP,q⟩:=h;have nd:=xan.nd;refine⟨_,(xb5 (x:="takes") (i:=0) nd rfl rfl rfl (by kernel_rfl) (xg (xv (i:=1) nd rfl (aJ rfl) (xr (xlQ T) (hr.mono (by decide)) (by rfl) T.xmz T.q2d.kp T.xmy .nil xn (xa (cv 0) xf)))
  (xg (xv (i:=2) nd rfl (aJ rfl) (yB (xka rfl) (by rfl) T.q3k xnE (xa (yj (yo (cap:=[]) (ys:=[]) rfl rfl rfl rfl rfl trivial (by decide+kernel)) rfl (zk (by rfl) T.q06 (xa (xt xy (by rfl) T.q0i xN (xa (cv 0) xf)) xf)) (fun _ _ _ _=>(ym (xa (cv 0) (xa zm xf)))) (fun _ _ _ _=>yi)) xf)))
  (xg (xv (i:=3) nd rfl (aJ rfl) (yn xf))
  (xg (xv (i:=4) nd rfl (aJ rfl) (yn xf))
  (xg (jA bj (xD xdN (xt xk0 (by rfl) T.q0i xN (xa (cv 2) xf)) xh) (xg (xv (i:=5) nd rfl (aJ rfl) (xr (xde T) (hr.mono (by decide)) (by rfl) T.xd2 T.q0z.kp T.xd1 .nil xn (xa (cv 1) (xa (cv 2) xf))))
  (xg (xaS (xM (xgZ (cv 5)) (xg (xv (i:=6) nd rfl (aJ rfl) (xr (xgE T) (hr.mono (by decide)) (by rfl) T.xhw T.q1d.kp T.xhv .nil xn (xa (cv 1) (xa (cv 2) xf))))
  (xg (xv (i:=5) nd rfl (aJ rfl) (xnX (xbS T) (hr.mono (by decide)) rfl (by rfl) T.q2Q (xa (cv 6) xf) (vL (c:=q0k) (P:=yp) (qs:=zb) (fns:=["takes"]) rfl T.q2i (q:="put_in_order.<locals>.<lambda>") (by kernel_rfl) (.head _) (by kernel_rfl) (by kernel_rfl))))
  (xi (yE (uE PySem.F.plainAttrs_list PySem.F.slot_list_append PySem.F.type_list_append yH (cv 4) (xa (ym (xa (xu xX (cv 0) (cv 5) (fun _ _=>rfl)) (xa (yj (yo (cap:=[0]) (ys:=["takes"]) rfl rfl rfl rfl rfl ⟨⟨rfl,rfl,.inl rfl⟩,trivial⟩ (by decide+kernel)) rfl (xZ (cv 6)) (fun _ _ _ _=>(xu (xg3 (K:=K) rfl) (cv 1) (cv 0) (fun _ _=>rfl))) (fun _ _ _ _=>yi)) xf))) xf)))))) (xi (yE (uE PySem.F.plainAttrs_list PySem.F.slot_list_append PySem.F.type_list_append yH (cv 3) (xa (xu xX (cv 0) (cv 5) (fun _ _=>rfl)) xf))))))
  (xi (yE (xmc (cv 2) (cv 5) ⟨by rfl,by rfl,by decide,by rfl⟩))))))
  (xi (xo (ym (xa (cv 3) (xa (cv 4) xf))))))))))),?_⟩
  have elen:os.length=rs.length:=hp.length;walk_at"w";intro a1 e1 z1 d1;refine fN z1 ?_;generalize hU1:upd H a1 _=H1;have s1:=xb.of_eq z1 hU1;have c1:=xm hU1;clear hU1;walk_at"w";refine⟨l,rs,rfl,⟨os,s1.seq hl,L2.Paired.imp' (fun _ _ z=>z.same s1) hp⟩,hle,htk,fun D as H2 s2 L=>?_⟩;walk_at"w";refine⟨l,_,rfl,.inl ((s1.trans s2).seq hl),?_⟩;walk_at"w";have en:yR 0 ((os.map V.ref).length:Nat) 1=rs.length:=by rw[zq,ab,elen];lia
  rw[en];refine xae (fun i acc G=>∃ts:List Addr,acc=ts.map V.ref∧Paired (fun t (kv:Key×V)=>G t=some (.tup [kV kv.1,kv.2])) ts ((aO i).map fun(j:Nat)=>((bZ (j:Int),V.bl true):Key×V))) (by rw[ay];lia) ⟨[],rfl,.nil⟩ (fun i acc H3 H3' hi s3 s3' hPv R hR=>?_) (fun D2 acc H3 H3' hD2 hD2' s3 s3' hPv hacc hv2=>?_)
  ·obtain⟨ts,rfl,hts⟩:=hPv;have ek:(0:Int)+(i:Int)*1=(i:Int):=by lia
   rw[ek];walk_at"w";refine⟨by walk_at"side",fun t ht=>hR _ _ (xb.new ht) fun G sG kG=>⟨ts++[t],by simp,?_⟩⟩;rw[gg,aI];exact yd (L2.Paired.imp' (fun _ _ z=>sG.at z) hts) (kG t _ (.inl ht) xk)
  obtain⟨ts,rfl,hts⟩:=hPv;have s03:xb H1 H3':=s2.trans (s3.trans s3');walk_at"w";refine⟨D2,ts,_,rfl,SqL.of hv2,L2.Paired.imp' (fun _ _ z=>s3'.at z) hts,?_,fun d hd=>?_⟩
  ·rw[bS];exact bQ.mpr (dQ.imp fun h e=>h (by have:=Sum.inl.inj e;lia))
  generalize hU4:upd H3' d _=H4;have s4:=xb.of_eq hd hU4;have c4:=xm hU4;clear hU4;walk_at"w";walk_at"ss";intro o ho;generalize hUo:upd H4 o _=H5;have sH5:=xb.of_eq ho hUo;have eo:=xm hUo;clear hUo;walk_at"w";walk_at"w";walk_at"ss";intro t ht;generalize hUt:upd H5 t _=H6;have sH6:=xb.of_eq ht hUt;have et:=xm hUt;clear hUt;walk_at"w";walk_at"w";have s26:xb H2 H6:=(s3.trans s3').trans (s4.trans (sH5.trans sH6));have fd:H2 d=none:=(s3.trans s3').back hd;have fo:H2 o=none:=((s3.trans s3').trans s4).back ho;have ft:H2 t=none:=(((s3.trans s3').trans s4).trans sH5).back ht;have hot:o≠t:=fun z=>by rw[z]at eo;rw[ht]at eo;cases eo
  have hspl:(ya rs).length=rs.length:=by simp[ya]
  have hspo:∀xs∈ya rs,xs.length≤1000:=fun xs hx=>by
   obtain⟨k,_,rfl⟩:=aN.mp hx;unfold vD;rw[ab];refine bg (bO _ _) ?_;simp;lia
  refine ud (m:=rs.length) (fun m σ G=>xb H2 G∧∃(left:List Int) (kvs:List (Key×V)) (ord:List Int) (tur:List (Int×List Int)) (trs:List Addr) (z5 z6:Option V),m=left.length∧σ=[some (.ref l),some (.ref D),some (.ref d),some (.ref o),some (.ref t),z5,z6]∧G d=some (.dK kvs)∧kvs.map (·.1)=left.map bZ∧(∀x∈left,0≤x∧x<rs.length)∧
   G o=some (.lst (ord.map fun x=>V.ref (os.getD x.toNat 0)))∧G t=some (.lst (trs.map V.ref))∧Paired (xia os G o t) trs tur∧ord.length+tur.length+left.length≤rs.length∧
   ∀ord' tur',Goes (ya rs) (fun x=>uX (rs.getD x.toNat dR)) left ord' tur'→Goes (ya rs) (fun x=>uX (rs.getD x.toNat dR)) ((aO rs.length).map fun(i:Nat)=>(i:Int)) (ord++ord') (tur++tur'))
   ⟨s26,(aO rs.length).map fun(i:Nat)=>(i:Int),_,[],[],[],_,_,by simp,rfl,(sH5.trans sH6).at c4,by rw[bS,bS];rfl,fun x hx=>?_,sH6.at eo,et,.nil,by simp,fun _ _ g=>g⟩ (fun m σ G hPv=>?_)
  ·obtain⟨i,hi,rfl⟩:=aN.mp hx;have:=bh.mp hi;exact⟨by lia,by lia⟩
  obtain⟨sG,left,kvs,ord,tur,trs,z5,z6,rfl,rfl,hdG,hks,hlo,hoG,htG,hpt,hsz,hgo⟩:=hPv;have hkl:kvs.length=left.length:=by have:=congrArg cD hks;simpa using this
  have LG:=L.same sG;walk_at"w";refine⟨d,kvs,rfl,hdG,?_⟩;walk_at"w";refine⟨fun e=>?_,fun e=>?_⟩
  ·refine⟨_,fun _ _ z=>z,?_⟩;have hlp:0<left.length:=by have:=of_decide_eq_true e;lia
   obtain⟨M,eM⟩:∃M:L2.St→Hp→Prop,M=fun σ' G'=>∃(kn:Int) (y6:Option V),σ'=[some (.ref l),some (.ref D),some (.ref d),some (.ref o),some (.ref t),some (.int kn),y6]∧kn∈left∧xb H2 G'∧G' d=some (.dK kvs)∧∃(ord1:List Int) (tur1:List (Int×List Int)) (trs1:List Addr),G' o=some (.lst (ord1.map fun x=>V.ref (os.getD x.toNat 0)))∧G' t=some (.lst (trs1.map V.ref))∧Paired (xia os G' o t) trs1 tur1∧ord1.length+tur1.length+left.length≤rs.length+1∧
    ∀ord' tur',Goes (ya rs) (fun x=>uX (rs.getD x.toNat dR)) (left.filter fun x=>decide (x≠kn)) ord' tur'→Goes (ya rs) (fun x=>uX (rs.getD x.toNat dR)) ((aO rs.length).map fun(i:Nat)=>(i:Int)) (ord1++ord') (tur1++tur'):=⟨_,rfl⟩
   walk_at"w";refine⟨D,d,as,H1,ya rs,kvs,left,rfl,LG,hdG,hks,fun x hx=>by rw[hspl];exact hlo x hx,by lia,hspo,fun kn hkn hh G1 g1=>?_,fun hall G1 g1=>?_⟩
   ·walk_at"w";refine⟨M,?_,fun σ' H' hM=>?_⟩
    ·walk_at"w";refine⟨by walk_at"no",fun _=>?_⟩;walk_at"w";refine⟨.inl ⟨rfl,_,SqL.of (g1.at hoG)⟩,?_⟩;walk_at"w";have hok:=hlo kn hkn;have hat:atI (os.map V.ref) kn=some (.ref (os.getD kn.toNat 0)):=by
      have hx:kn.toNat<os.length:=by lia
      have:=yJ (xs:=os.map V.ref) (j:=kn.toNat) (v:=.ref os[kn.toNat]) (by simp[hx]);rw[cG hok.1]at this;rw[this];simp[a9,hx]
     refine⟨l,_,_,_,rfl,rfl,(s1.trans (s2.trans (sG.trans g1))).seq hl,hat,?_⟩;walk_at"w";refine⟨o,_,_,rfl,rfl,g1.at hoG,by rw[ab,ay];lia,?_⟩;generalize hU:upd G1 o _=G2;have eo2:G2 o=some (.lst ((ord++[kn]).map fun x=>V.ref (os.getD x.toNat 0))):=by rw[←hU,xk,aI];rfl
     have off:∀b u,b≠o→G b=some u→G2 b=some u:=fun b u hb e=>by rw[←hU,xl hb];exact g1.at e
     have s2G:xb H2 G2:=xb.wr (sG.trans g1) fo hU;clear hU;subst eM;refine⟨kn,z6,rfl,hkn,s2G,off d _ (fun z=>by rw[z]at hdG;rw[hdG]at hoG;cases hoG) hdG,ord++[kn],tur,trs,eo2,off t _ (bE hot) htG,L2.Paired.imp' (fun p kr z=>?_) hpt,by rw[ar,bN];lia,fun ord' tur' g=>?_⟩
     ·obtain⟨rl,n1,n2,x1,x2⟩:=z;exact⟨rl,n1,n2,off _ _ (fun z=>by rw[z]at x1;rw[x1]at hoG;cases hoG) x1,off _ _ n1 x2⟩
     ·have:=hgo (kn::ord') tur' (.keep kn hkn hh g);rw[eI];exact this
    subst eM
    ·obtain⟨kn,y6,rfl,hkm,sM,dM,⟨ord1,tur1,trs1,oM,tM,pM,zM,gM⟩⟩:=hM;have hsome:(yr kvs (.inl kn)).isSome=true:=by rw[xar hks];exact decide_eq_true hkm
     obtain⟨vv,hvv⟩:=eW.mp hsome;walk_at"w";refine⟨d,rfl,.inl ⟨_,.inl dM⟩,?_⟩;walk_at"w";refine⟨kvs,.inl kn,vv,dM,rfl,hvv,?_⟩;generalize hU:upd H' d _=G2;have ed2:G2 d=some (.dK (jc kvs (.inl kn))):=by rw[←hU,xk]
     have off:∀b u,b≠d→H' b=some u→G2 b=some u:=fun b u hb e=>by rw[←hU,xl hb];exact e
     have s2G:xb H2 G2:=xb.wr sM fd hU;clear hU;have hfl:=xdy hkm;refine⟨_,hfl,s2G,left.filter fun x=>decide (x≠kn),_,ord1,tur1,trs1,_,_,rfl,rfl,ed2,xbF hks,fun x hx=>hlo x (aK.mp hx).1,off o _ (fun z=>by rw[z]at oM;rw[oM]at dM;cases dM) oM,off t _ (fun z=>by rw[z]at tM;rw[tM]at dM;cases dM) tM,L2.Paired.imp' (fun p kr z=>?_) pM,by lia,gM⟩;obtain⟨rl,n1,n2,x1,x2⟩:=z;exact⟨rl,n1,n2,off _ _ (fun z=>by rw[z]at x1;rw[x1]at dM;cases dM) x1,off _ _ (fun z=>by rw[z]at x2;rw[x2]at dM;cases dM) x2⟩
   ·walk_at"w";refine⟨M,?_,fun σ' H' hM=>?_⟩
    ·walk_at"w";refine⟨fun _=>?_,by walk_at"no"⟩;walk_at"w";have hLok:xcG (ya rs) left:=fun x hx=>⟨(hlo x hx).1,by rw[hspl];exact(hlo x hx).2,hall x hx⟩;refine⟨D,d,as,H1,ya rs,kvs,left,rfl,LG.same g1,g1.at hdG,hks,List.ne_nil_of_length_pos hlp,by lia,hLok,by lia,hspo,fun ring hring r G2 g2 hr2 er2=>?_⟩;walk_at"w";have hat:∀x∈left,atI (os.map V.ref) x=some (.ref (os.getD x.toNat 0)):=fun x hx=>by
      have hok:=hlo x hx;have hx:x.toNat<os.length:=by lia
      have:=yJ (xs:=os.map V.ref) (j:=x.toNat) (v:=.ref os[x.toNat]) (by simp[hx]);rw[cG hok.1]at this;rw[this];simp[a9,hx]
     obtain⟨rg1,rg2,rg3,_⟩:=xcH hLok (fun x hx=>xbG (hlo x hx).1 (hlo x hx).2) hring;have rgl:ring.length≤1000:=by
      have:=uA rg2 rg3;lia
     have sH2:xb H G2:=s1.trans (s2.trans (sG.trans (g1.trans g2)));refine⟨sH2.at hP,[("takes",.ref l)],rfl,fun x v m=>?_,fun f G3 hf g3 hcl=>?_⟩
     ·simp only[ax,iZ,c8,or_false]at m;obtain⟨rfl,rfl⟩:=m;exact⟨a1,e1,(s2.trans (sG.trans (g1.trans g2))).at c1⟩
     walk_at"w";refine⟨r,f,ring,_,fun i=>uX (rs.getD (ring.getD i 0).toNat dR),rfl,rfl,SqL.of (g3.at er2),by lia,hcl,fun i x hx G4 g4=>?_,fun G4 g4=>?_⟩
     ·have hxm:x∈left:=rg3 x (aG hx);refine⟨l,os,rs,x,rfl,rfl,(sH2.trans (g3.trans g4)).seq hl,L2.Paired.imp' (fun _ _ z=>z.same (sH2.trans (g3.trans g4))) hp,htk,(hlo x hxm).1,(hlo x hxm).2,fun dd hdd=>⟨xb.new hdd,dd,rfl,?_⟩⟩;have:ring.getD i 0=x:=by simp[a9,hx]
      rw[xk];show _=some (HO.tup ((uX (rs.getD (ring.getD i 0).toNat dR)).map V.int));rw[this]
     have hbl:=xhb (fun i=>uX (rs.getD (ring.getD i 0).toNat dR)) (ring.length - 1);generalize hkn:ring.getD (bst (fun i=>uX (rs.getD (ring.getD i 0).toNat dR)) (ring.length - 1)) 0=kn;have hkr:kn∈ring:=by
      rw[←hkn];exact getD_mem (by lia)
     have hkm:=rg3 kn hkr;have g14:xb G G4:=g1.trans (g2.trans (g3.trans g4));have sH4:xb H G4:=sH2.trans (g3.trans g4);walk_at"w";refine⟨.inl ⟨rfl,_,SqL.of (g14.at htG)⟩,?_⟩;walk_at"w";refine⟨l,_,_,_,rfl,rfl,sH4.seq hl,hat kn hkm,?_⟩;walk_at"w";refine⟨_,rfl,⟨_,SqL.of ((g3.trans g4).at er2)⟩,?_⟩;refine xb7 (refOf os) (SqL.of ((g3.trans g4).at er2)) (by rw[ab,ay];lia) (fun v G5 hv g5 R hR=>?_) (fun rl G5 hrl g5 erl=>?_)
     ·obtain⟨x,hx,rfl⟩:=aN.mp hv;walk_at"w";refine⟨l,_,_,_,rfl,rfl,(sH4.trans g5).seq hl,hat x (rg3 x hx),?_⟩;exact hR _ (xb.refl _)
     walk_at"w";refine⟨by walk_at"side",fun p hpn=>?_⟩;generalize hV:upd G5 p _=G6;have g6:=xb.of_eq hpn hV;have ep6:=xm hV;clear hV;have g06:xb G G6:=g14.trans (g5.trans g6);walk_at"w";refine⟨t,_,_,rfl,rfl,g06.at htG,by rw[ab,hpt.length,ay];lia,?_⟩;generalize hU:upd G6 t _=G7;have et7:G7 t=some (.lst ((trs++[p]).map V.ref)):=by rw[←hU,xk,aI];rfl
     have off:∀b u,b≠t→G6 b=some u→G7 b=some u:=fun b u hb e=>by rw[←hU,xl hb];exact e
     have s2G:xb H2 G7:=xb.wr (sG.trans g06) ft hU;clear hU;have fp:G p=none:=(g14.trans g5).back hpn;have frl:G rl=none:=g14.back hrl;have hrlo:rl≠o:=fun z=>by rw[z]at frl;rw[frl]at hoG;cases hoG
     have hrlt:rl≠t:=fun z=>by rw[z]at frl;rw[frl]at htG;cases htG
     subst eM;refine⟨kn,_,rfl,hkm,s2G,off d _ (fun z=>by rw[z]at hdG;rw[hdG]at htG;cases htG) (g06.at hdG),ord,tur++[(kn,ring)],trs++[p],off o _ hot (g06.at hoG),et7,yd (L2.Paired.imp' (fun p' kr z=>?_) hpt) ⟨rl,hrlo,hrlt,off _ _ (fun z=>by rw[z]at fp;rw[fp]at htG;cases htG) ep6,off _ _ hrlt (g6.at (by rw[erl,bS];rfl))⟩,by rw[ar,bN];lia,fun ord' tur' g=>?_⟩
     ·obtain⟨rl',n1,n2,x1,x2⟩:=z;exact⟨rl',n1,n2,off _ _ (fun z=>by rw[z]at x1;rw[x1]at htG;cases htG) (g06.at x1),off _ _ n2 (g06.at x2)⟩
     ·have:=hgo ord' ((kn,ring)::tur') (.turn kn hall hring hkn.symm hkm g);rw[eI];exact this
    subst eM
    ·obtain⟨kn,y6,rfl,hkm,sM,dM,⟨ord1,tur1,trs1,oM,tM,pM,zM,gM⟩⟩:=hM;have hsome:(yr kvs (.inl kn)).isSome=true:=by rw[xar hks];exact decide_eq_true hkm
     obtain⟨vv,hvv⟩:=eW.mp hsome;walk_at"w";refine⟨d,rfl,.inl ⟨_,.inl dM⟩,?_⟩;walk_at"w";refine⟨kvs,.inl kn,vv,dM,rfl,hvv,?_⟩;generalize hU:upd H' d _=G2;have ed2:G2 d=some (.dK (jc kvs (.inl kn))):=by rw[←hU,xk]
     have off:∀b u,b≠d→H' b=some u→G2 b=some u:=fun b u hb e=>by rw[←hU,xl hb];exact e
     have s2G:xb H2 G2:=xb.wr sM fd hU;clear hU;have hfl:=xdy hkm;refine⟨_,hfl,s2G,left.filter fun x=>decide (x≠kn),_,ord1,tur1,trs1,_,_,rfl,rfl,ed2,xbF hks,fun x hx=>hlo x (aK.mp hx).1,off o _ (fun z=>by rw[z]at oM;rw[oM]at dM;cases dM) oM,off t _ (fun z=>by rw[z]at tM;rw[tM]at dM;cases dM) tM,L2.Paired.imp' (fun p kr z=>?_) pM,by lia,gM⟩;obtain⟨rl,n1,n2,x1,x2⟩:=z;exact⟨rl,n1,n2,off _ _ (fun z=>by rw[z]at x1;rw[x1]at dM;cases dM) x1,off _ _ (fun z=>by rw[z]at x2;rw[x2]at dM;cases dM) x2⟩
  ·have hl0:left=[]:=df.mp (by have:=of_decide_eq_false e;lia);subst hl0;walk_at"w";refine⟨by walk_at"side",fun p hpn=>?_⟩;have sGp:=xb.new (o:=HO.tup [.ref o,.ref t]) hpn;have g:=hgo [] [] .nil;rw[fm,fm]at g;have sHG:xb H G:=s1.trans (s2.trans sG);exact q p o t ord tur trs _ (sHG.trans sGp) (sHG.back hpn) ((s1.trans s2).back fo) ((s1.trans s2).back ft) hot xk (sGp.at hoG) (sGp.at htG) (L2.Paired.imp' (fun p kr z=>by obtain⟨rl,n1,n2,x1,x2⟩:=z;exact⟨rl,n1,n2,sGp.at x1,sGp.at x2⟩) hpt) g
end
namespace ML
theorem xjw:∀xs:List Int,HT.lexLt xs xs=false
 |[]=>rfl
 |x::xs=>by rw[HT.yW,if_pos rfl];exact xjw xs
theorem xe4:∀{xs ys zs:List Int},HT.lexLt xs ys=true→HT.lexLt ys zs=true→HT.lexLt xs zs=true
 |[],[],_,h,_=>by cases h
 |_::_,[],_,h,_=>by cases h
 |[],_::_,[],_,h=>by cases h
 |[],_::_,_::_,_,_=>rfl
 |_::_,_::_,[],_,h=>by cases h
 |x::xs,y::ys,z::zs,h1,h2=>by
  rw[HT.yW]at h1 h2⊢
  split at h1
  ·rename_i e1;subst e1
   split at h2
   ·rename_i e2;rw[if_pos e2];exact xe4 h1 h2
   ·rename_i e2;rw[if_neg e2];exact h2
  ·rename_i e1;have g1:=of_decide_eq_true h1
   split at h2
   ·rename_i e2;subst e2;rw[if_neg e1];exact h1
   ·have g2:=of_decide_eq_true h2;rw[if_neg (by omega)];exact decide_eq_true (by omega)
theorem xjx:∀{xs ys:List Int},xs.length≠ys.length→HT.lexLt xs ys=true∨HT.lexLt ys xs=true
 |[],[],h=>absurd rfl h
 |[],_::_,_=>.inl rfl
 |_::_,[],_=>.inr rfl
 |x::xs,y::ys,h=>by
  rw[HT.yW,HT.yW]
  by_cases e:x=y
  ·rw[if_pos e,if_pos e.symm];exact xjx (by simpa using h)
  ·rw[if_neg e,if_neg (fun z=>e z.symm)];rcases Int.lt_or_lt_of_ne e with z|z
   ·exact .inl (decide_eq_true z)
   ·exact .inr (decide_eq_true z)
theorem xoo(es:List Int):STO (fun i j=>HT.lexLt (es.drop i) (es.drop j)) es.length where
 irr:=fun i _=>xjw _
 tr:=fun i j k _ _ _ h1 h2=>xe4 h1 h2
 tot:=fun i j hi hj hne=>xjx (by rw[aX,aX];lia)
def xbH(es:List Int)(p:List Nat):Prop:=p.Perm (aO es.length)∧p.Pairwise fun i j=>HT.lexLt (es.drop i) (es.drop j)=true
abbrev uj:Expr:=xj3 (xpn ((xQ zG).getD 0 (.Pass ⟨0,0,0,0⟩)))
theorem xcE:uo ["at","text"] ["at"] ["text"] (zt uj):=⟨rfl,rfl,rfl,by decide+kernel,rfl,by decide+kernel,by decide+kernel,by decide+kernel⟩
def xeX:List (Str×V)→Sp:=fun fv vs H Q _=>∃(e:Addr) (es:List Int) (i:Int),fv=([("text",.ref e)]:List (Str×V))∧vs=[.int i]∧H e=some (.lst (es.map V.int))∧0≤i∧∀d,H d=none→Q (.ref d) (upd H d (.lst ((es.drop i.toNat).map V.int)))
def xku:Sp:=fun vs H Q _=>∃(e:Addr) (es:List Int),vs=[.ref e]∧H yI=some (.tbl zu)∧H e=some (.lst (es.map V.int))∧es.length<64∧∀(l:Addr) (p:List Nat) (H':Hp),xb H H'→H l=none→H' l=some (.lst (p.map fun(i:Nat)=>V.int i))→xbH es p→Q (.ref l) H'
def lcp:List Int→List Int→Nat
 |x::xs,y::ys=>if x=y then lcp xs ys+1 else 0
 |_,_=>0
theorem ux(x y:Int)(xs ys:List Int):lcp (x::xs) (y::ys)=if x=y then lcp xs ys+1 else 0:=rfl
theorem xcK:∀xs ys:List Int,lcp xs ys≤ys.length
 |[],_=>aM _
 |_::_,[]=>aj _
 |x::xs,y::ys=>by
  rw[ux];have:=xcK xs ys
  split<;> simp<;> omega
theorem xlR:∀{a b c:List Int},HT.lexLt a b=true→HT.lexLt b c=true→lcp a c≤lcp b c
 |[],_,_,_,_=>aM _
 |_::_,[],_,h,_=>by cases h
 |_::_,_::_,[],_,h=>by cases h
 |x::a,y::b,z::c,h1,h2=>by
  rw[HT.yW]at h1 h2;rw[ux,ux]
  by_cases e:x=z
  ·subst e;rw[if_pos rfl]
   by_cases e1:x=y
   ·subst e1;rw[if_pos rfl]at h1 h2⊢;have:=xlR h1 h2;lia
   ·rw[if_neg e1]at h1;rw[if_neg (fun q=>e1 q.symm)]at h2;have:=of_decide_eq_true h1;have:=of_decide_eq_true h2;lia
  ·rw[if_neg e];exact aM _
theorem xib:∀{a b c:List Int},HT.lexLt b a=true→HT.lexLt b c=false→lcp a c≤lcp b c
 |[],_,_,_,_=>aM _
 |_::_,_,[],_,_=>aM _
 |_::_,[],_::_,_,h=>by cases h
 |x::a,y::b,z::c,h1,h2=>by
  rw[HT.yW]at h1 h2;rw[ux,ux]
  by_cases e:x=z
  ·subst e;rw[if_pos rfl]
   by_cases e1:y=x
   ·subst e1;rw[if_pos rfl]at h1 h2⊢;have:=xib h1 h2;lia
   ·rw[if_neg e1]at h1 h2;rw[h1]at h2;cases h2
  ·rw[if_neg e];exact aM _
theorem xab:∀{m:Nat} {xs ys:List Int},m≤ys.length→(xs.take m=ys.take m↔m≤lcp xs ys)
 |0,xs,ys,_=>by simp
 |m+1,xs,[],h=>by simp at h
 |m+1,[],y::ys,_=>by simp[lcp]
 |m+1,x::xs,y::ys,h=>by
  have:=xab (m:=m) (xs:=xs) (ys:=ys) (by simpa using h);rw[lY,lY,ux]
  by_cases e:x=y
  ·subst e;rw[if_pos rfl];simp[this]
  ·rw[if_neg e];simp[e]
theorem xmN{xs ys:List Int}{k:Nat}(hk:xs.take k=ys.take k)(h1:k<xs.length)(h2:k<ys.length):(xs[k]=ys[k]↔xs.take (k+1)=ys.take (k+1)):=by
 rw[e9 h1,e9 h2,hk];refine⟨fun e=>by rw[e],fun e=>?_⟩;have:=List.append_cancel_left e;simpa using this
theorem xmO{xs ys:List Int}{k:Nat}(hk:xs.take k=ys.take k)(hy:k≤ys.length)(hn:k<xs.length→k<ys.length→xs.take (k+1)≠ys.take (k+1))(hx:k≤xs.length):lcp xs ys=k:=by
 have h1:=(xab hy).mp hk
 by_cases h:lcp xs ys≤k
 ·lia
 ·have hl:=xcK xs ys;have h2:=(xab (m:=k+1) (xs:=xs) (ys:=ys) (by lia)).mpr (by lia);have hlen:=congrArg cD h2;rw[bI,bI]at hlen;exact absurd h2 (hn (by lia) (by lia))
def xic(es:List Int)(p:List Nat)(ps:List Int)(L:Nat):Prop:=L≤p.length∧(∀i,i<L→HT.lexLt (es.drop (p.getD i 0)) ps=true)∧∀i,L≤i→i<p.length→HT.lexLt (es.drop (p.getD i 0)) ps=false
theorem xe5{es:List Int}{p:List Nat}(hp:xbH es p){i j:Nat}(h:i<j)(hj:j<p.length):HT.lexLt (es.drop (p.getD i 0)) (es.drop (p.getD j 0))=true:=by
 have:=bt.mp hp.2 i j (by lia) hj h;simp only[a9,ai hj,ai (show i<p.length by lia),Option.getD_some];exact this
def around(p:List Nat)(L:Nat):List Nat:=(p.drop (L - 1)).take (L+1 - (L - 1))
theorem xe6{p:List Nat}{L j:Nat}(h1:L - 1≤j)(h2:j≤L)(h3:j<p.length):p.getD j 0∈around p L:=by
 unfold around;refine aG (i:=j - (L - 1)) ?_;rw[List.getElem?_take,if_pos (by lia),c9,show L - 1+(j - (L - 1))=j by lia,ai h3];simp[a9,h3]
theorem xdz{es:List Int}{p:List Nat}{ps:List Int}{L:Nat}(hp:xbH es p)(hL:xic es p ps L){i:Nat}(hi:i<es.length):∃b∈around p L,lcp (es.drop i) ps≤lcp (es.drop b) ps:=by
 obtain⟨j,hj,e⟩:=cz.mp (hp.1.mem_iff.mpr (bh.mpr hi));have ej:p.getD j 0=i:=by simp[a9,hj,e]
 obtain⟨h0,h1,h2⟩:=hL
 by_cases h:j<L
 ·refine⟨p.getD (L - 1) 0,xe6 (aj _) (by omega) (by omega),?_⟩
  by_cases q:j=L - 1
  ·rw[←q,ej];exact aj _
  ·have a1:=xe5 hp (show j<L - 1 by omega) (by omega);rw[ej]at a1;exact xlR a1 (h1 _ (by omega))
 ·refine⟨p.getD L 0,xe6 (by omega) (aj _) (by omega),?_⟩
  by_cases q:j=L
  ·rw[←q,ej];exact aj _
  ·have a1:=xe5 hp (show L<j by omega) hj;rw[ej]at a1;exact xib a1 (h2 _ (aj _) (by omega))
theorem xgp{es:List Int}{p:List Nat}{L b:Nat}(hp:xbH es p)(h:b∈around p L):b<es.length:=
 bh.mp (hp.1.mem_iff.mp (fQ (fR h)))
def zI(es ps:List Int)(n a c:Nat):Prop:=(∀i,i<n→lcp (es.drop i) ps≤c)∧((c=0∧a=0)∨(0<c∧a<n∧lcp (es.drop a) ps=c∧∀i,i<a→lcp (es.drop i) ps<c))
theorem zI.uniq{es ps:List Int}{n a c a' c':Nat}(h:zI es ps n a c)(h':zI es ps n a' c'):a=a'∧c=c':=by
 obtain⟨h1,h2⟩:=h;obtain⟨g1,g2⟩:=h';rcases h2 with⟨rfl,rfl⟩|⟨h2,h3,h4,h5⟩
 ·rcases g2 with⟨rfl,rfl⟩|⟨g2,g3,g4,g5⟩
  ·exact⟨rfl,rfl⟩
  ·have:=h1 a' g3;lia
 ·rcases g2 with⟨rfl,rfl⟩|⟨g2,g3,g4,g5⟩
  ·have:=g1 a h3;lia
  ·have b1:=h1 a' g3;have b2:=g1 a h3;have ec:c=c':=by lia
   refine⟨?_,ec⟩
   by_cases q:a=a'
   ·exact q
   ·exfalso;rcases Nat.lt_or_gt_of_ne q with z|z
    ·have:=g5 a z;lia
    ·have:=h5 a' z;lia
theorem xmP{es:List Int}{p:List Nat}{ps:List Int}{L:Nat}(hp:xbH es p)(hL:xic es p ps L){m:Int}
  (h0:(around p L).map (fun b=>((lcp (es.drop b) ps:Nat):Int))=[]→m=0)
  (h1:(around p L).map (fun b=>((lcp (es.drop b) ps:Nat):Int))≠[]→m∈(around p L).map (fun b=>((lcp (es.drop b) ps:Nat):Int))∧∀a∈(around p L).map (fun b=>((lcp (es.drop b) ps:Nat):Int)),a≤m):
  ∃c:Nat,m=c∧(∀i,i<es.length→lcp (es.drop i) ps≤c)∧(c=0∨∃a,a<es.length∧lcp (es.drop a) ps=c):=by
 by_cases e:around p L=[]
 ·refine⟨0,h0 (by rw[e];rfl),fun i hi=>?_,.inl rfl⟩;obtain⟨b,hb,_⟩:=xdz hp hL hi;rw[e]at hb;cases hb
 ·obtain⟨hm,hle⟩:=h1 (by simpa using e);obtain⟨b,hb,rfl⟩:=aN.mp hm;refine⟨_,rfl,fun i hi=>?_,.inr ⟨b,xgp hp hb,rfl⟩⟩;obtain⟨b2,hb2,h2⟩:=xdz hp hL hi;have:=hle _ (fZ hb2);lia
theorem xop{es ps:List Int}{c a:Nat}(h1:∀i,i<es.length→lcp (es.drop i) ps≤c)(hc:0<c)(ha:a<es.length)(h2:c≤lcp (es.drop a) ps)(h3:∀i,i<es.length→c≤lcp (es.drop i) ps→a≤i):zI es ps es.length a c:=by
 refine⟨h1,.inr ⟨hc,ha,by have:=h1 a ha;lia,fun i hi=>?_⟩⟩
 by_cases q:c≤lcp (es.drop i) ps
 ·have:=h3 i (by lia) q;lia
 ·lia
def xmQ:Sp:=fun vs H Q _=>∃(e q:Addr) (es ps:List Int) (i:Nat),vs=[.ref e,.int i,.ref q]∧H e=some (.lst (es.map V.int))∧H q=some (.lst (ps.map V.int))∧i≤es.length∧Q (.int (lcp (es.drop i) ps:Nat)) H
def xed:Sp:=fun vs H Q _=>∃(e t q:Addr) (es ps:List Int) (p:List Nat),vs=[.ref e,.ref t,.ref q]∧H e=some (.lst (es.map V.int))∧H t=some (.lst (p.map fun(i:Nat)=>V.int i))∧H q=some (.lst (ps.map V.int))∧xbH es p∧∀(L:Nat) (H':Hp),xb H H'→xic es p ps L→Q (.int L) H'
def xkv:Sp:=fun vs H Q _=>∃(e t q:Addr) (es ps:List Int) (p:List Nat),vs=[.ref e,.ref t,.ref q]∧H e=some (.lst (es.map V.int))∧H t=some (.lst (p.map fun(i:Nat)=>V.int i))∧H q=some (.lst (ps.map V.int))∧xbH es p∧es.length<64∧ps.length<100∧
 ∀(r:Addr) (a c:Nat) (H':Hp),xb H H'→H r=none→H' r=some (.tup [.int a,.int c])→zI es ps es.length a c→Q (.ref r) H'
def uY(es ps:List Int)(least:Int):Prop:=∀a c,zI es ps es.length a c→(c:Int)<least
def xE(es ns:List Int)(least:Int):Nat→Bool→List xc→Nat→Bool→Prop
 |i,b,[],j,b'=>i=j∧b=b'
 |i,b,.put to sg::rs,j,b'=>b=false∧to=i∧sg≠[]∧i+sg.length≤ns.length∧sg=(ns.drop i).take sg.length∧(∀k,k<sg.length→uY es (ns.drop (i+k)) least)∧xE es ns least (i+sg.length) true rs j b'
 |i,_,.take to st c::rs,j,b'=>∃st' c':Nat,to=i∧st=st'∧c=c'∧i+c'≤ns.length∧0<c'∧least≤c'∧zI es (ns.drop i) es.length st' c'∧xE es ns least (i+c') false rs j b'
theorem xE.app{es ns:List Int}{least:Int}:∀{rs rs':List xc} {i j k:Nat} {b b' b'':Bool},xE es ns least i b rs j b'→xE es ns least j b' rs' k b''→xE es ns least i b (rs++rs') k b''
 |[],_,_,_,_,_,_,_,⟨h1,h2⟩,h'=>by subst h1;subst h2;exact h'
 | .put to sg::rs,_,_,_,_,_,_,_,h,h'=>by
  obtain⟨h1,h2,h3,h4,h5,h6,h7⟩:=h;exact⟨h1,h2,h3,h4,h5,h6,h7.app h'⟩
 | .take to st c::rs,_,_,_,_,_,_,_,h,h'=>by
  obtain⟨st',c',h1,h2,h3,h4,h5,h6,h7,h8⟩:=h;exact⟨st',c',h1,h2,h3,h4,h5,h6,h7,h8.app h'⟩
theorem xE.ends{es ns:List Int}{least:Int}{rs:List xc}{i:Nat}{b':Bool}(h:xE es ns least i true rs ns.length b'):i=ns.length∨¬uY es (ns.drop i) least:=by
 cases rs with
 |nil=>exact .inl h.1
 |cons r rs=>
  cases r with
  |put to sg=>exact absurd h.1 (by simp)
  |take to st c=>
   obtain⟨st',c',h1,h2,h3,h4,h5,h6,h7,h8⟩:=h;exact .inr fun z=>by have:=z _ _ h7;lia
theorem xE.uniq{es ns:List Int}{least:Int}:∀{rs rs':List xc} {i:Nat} {b b1 b2:Bool},xE es ns least i b rs ns.length b1→xE es ns least i b rs' ns.length b2→rs=rs'
 |[],[],_,_,_,_,_,_=>rfl
 |[],.put to sg::rs',i,_,_,_,h,h'=>by
  obtain⟨h1,h2,h3,h4,_⟩:=h';have:=bB.mpr h3;have:=h.1;lia
 |[],.take to st c::rs',i,_,_,_,h,h'=>by
  obtain⟨st',c',h1,h2,h3,h4,h5,_⟩:=h';have:=h.1;lia
 | .put to sg::rs,[],i,_,_,_,h',h=>by
  obtain⟨h1,h2,h3,h4,_⟩:=h';have:=bB.mpr h3;have:=h.1;lia
 | .take to st c::rs,[],i,_,_,_,h',h=>by
  obtain⟨st',c',h1,h2,h3,h4,h5,_⟩:=h';have:=h.1;lia
 | .put to sg::rs,.take to' st c::rs',i,_,_,_,h,h'=>by
  obtain⟨h1,h2,h3,h4,h5,h6,h7⟩:=h;obtain⟨st',c',g1,g2,g3,g4,g5,g6,g7,g8⟩:=h';have:=h6 0 (bB.mpr h3) st' c' g7;lia
 | .take to' st c::rs',.put to sg::rs,i,_,_,_,h',h=>by
  obtain⟨h1,h2,h3,h4,h5,h6,h7⟩:=h;obtain⟨st',c',g1,g2,g3,g4,g5,g6,g7,g8⟩:=h';have:=h6 0 (bB.mpr h3) st' c' g7;lia
 | .take to st c::rs,.take to' st2 c2::rs',i,_,_,_,h,h'=>by
  obtain⟨st',c',h1,h2,h3,h4,h5,h6,h7,h8⟩:=h;obtain⟨st'',c'',g1,g2,g3,g4,g5,g6,g7,g8⟩:=h';obtain⟨e1,e2⟩:=h7.uniq g7;subst e1;subst e2;subst h1;subst h2;subst h3;subst g2;subst g3;rw[xE.uniq h8 g8,g1]
 | .put to sg::rs,.put to' sg'::rs',i,_,_,_,h,h'=>by
  obtain⟨h1,h2,h3,h4,h5,h6,h7⟩:=h;obtain⟨g1,g2,g3,g4,g5,g6,g7⟩:=h';have el:sg.length=sg'.length:=by
   rcases fG sg.length sg'.length with z|z|z
   ·rcases h7.ends with q|q
    ·lia
    ·exact absurd (g6 _ z) q
   ·exact z
   ·rcases g7.ends with q|q
    ·lia
    ·exact absurd (h6 _ z) q
  have es':sg=sg':=by rw[h5,g5,el]
  subst es';subst h2;rw[g2,xE.uniq h7 g7]
def uZ(i:Int)(sg:List Int):List xc:=if sg=[]then[]else[.put (i - sg.length) sg]
def xid(a:Adr):Sp:=fun vs H Q _=>∃(p dx q:Addr) (to:Int) (xs:List Int),vs=[.ref p,.int to,.ref q]∧H p=some (.ins a.q0b dx [])∧H q=some (.lst (xs.map V.int))∧
 ∀(u:Addr) (H':Hp),H u=none→(∀b o,b≠p→H b=some o→H' b=some o)→H' p=some (.ins a.q0b dx (jj to u xs.length))→H' u=some (.tup (xs.map V.int))→Q .non H'
def xee(K:ah)(a:Adr):Sp:=fun vs H Q _=>∃(q:Addr) (i:Int) (xs:List Int),vs=[.int i,.ref q]∧H q=some (.lst (xs.map V.int))∧
 ∀(l:Addr) (os:List Addr) (H':Hp),xb H H'→H l=none→H' l=some (.lst (os.map V.ref))→Paired (xB K a H') os (uZ i xs)→Q (.ref l) H'
def xgF(K:ah)(a:Adr):Sp:=fun vs H Q _=>∃(e n:Addr) (es ns:List Int) (least:Int),vs=[.ref e,.ref n,.int least]∧H yI=some (.tbl zu)∧H e=some (.lst (es.map V.int))∧H n=some (.lst (ns.map V.int))∧es.length<64∧ns.length<100∧1≤least∧
 ∀(l:Addr) (os:List Addr) (rs:List xc) (b:Bool) (H':Hp),xb H H'→H l=none→H' l=some (.lst (os.map V.ref))→Paired (xB K a H') os rs→xE es ns least 0 false rs ns.length b→Q (.ref l) H'
def xie(K:ah):Sp:=fun vs H Q _=>∃(e n:Addr) (es ns:List Int) (least:Int),vs=[.ref e,.ref n,.int least]∧H yI=some (.tbl zu)∧H e=some (.lst (es.map V.int))∧H n=some (.lst (ns.map V.int))∧es.length<64∧ns.length<100∧1≤least∧
 ∀(l:Addr) (ts:List Addr) (rs:List xc) (b:Bool) (H':Hp),xb H H'→H l=none→H' l=some (.lst (ts.map V.ref))→Paired (TupAt K H') ts rs→xE es ns least 0 false rs ns.length b→Q (.ref l) H'
theorem xB.off{K:ah}{a:Adr}{H:Hp}{t p:Addr}{r:xc}{xs:List V}{o:HO}(h:xB K a H t r)(hp:H p=some (.lst xs)):xB K a (upd H p o) t r:=by
 cases r with
 |take to st c=>obtain⟨dx,h⟩:=h;exact⟨dx,by rw[xl (yU h hp (by intro z;cases z))];exact h⟩
 |put to sg=>
  obtain⟨dx,u,h1,h2⟩:=h;exact⟨dx,u,by rw[xl (yU h1 hp (by intro z;cases z))];exact h1,by rw[xl (yU h2 hp (by intro z;cases z))];exact h2⟩
theorem xE.put{es ns:List Int}{least:Int}{i:Nat}{sg:List Int}(h1:i+sg.length≤ns.length)(h2:sg=(ns.drop i).take sg.length)(h3:∀k,k<sg.length→uY es (ns.drop (i+k)) least):xE es ns least i false (uZ ((i+sg.length:Nat):Int) sg) (i+sg.length) (decide (sg≠[])):=by
 unfold uZ
 by_cases h:sg=[]
 ·rw[if_pos h,h];exact⟨rfl,rfl⟩
 ·rw[if_neg h,decide_eq_true h];exact⟨rfl,by lia,h,h1,h2,h3,rfl,rfl⟩
theorem xE.take{es ns:List Int}{least:Int}{i st c:Nat}{b:Bool}(hi:i≤ns.length)(h0:0<c)(h1:least≤c)(hb:zI es (ns.drop i) es.length st c):xE es ns least i b [.take i st c] (i+c) false∧i+c≤ns.length:=by
 have hc:c≤ns.length - i:=by
  rcases hb.2 with⟨z,_⟩|⟨_,_,z,_⟩
  ·lia
  ·have:=xcK (es.drop st) (ns.drop i);rw[aX]at this;lia
 exact⟨⟨st,c,rfl,rfl,rfl,by lia,h0,h1,hb,rfl,rfl⟩,by lia⟩
theorem uY.of{es ps:List Int}{least:Int}{a c:Nat}(hb:zI es ps es.length a c)(h:(c:Int)<least):uY es ps least:=fun a' c' h'=>by
 obtain⟨_,rfl⟩:=hb.uniq h';exact h
theorem xlS{ns sg:List Int}{i:Nat}(h:sg=(ns.drop i).take sg.length)(hi:i+sg.length<ns.length):sg++[ns[i+sg.length]]=(ns.drop i).take (sg++[ns[i+sg.length]]).length:=by
 rw[ar,bN,e9 (by rw[aX];lia),List.getElem_drop,←h]
theorem zQ{α β:Type}{F:α→β→Prop}:∀{as cs:List α} {bs ds:List β},Paired F as bs→Paired F cs ds→Paired F (as++cs) (bs++ds)
 |_,_,_,_,.nil,h=>h
 |_,_,_,_,.cons x xs,h=>.cons x (zQ xs h)
theorem xe7(i:Int)(sg:List Int):(uZ i sg).length≤1:=by
 unfold uZ
 split<;> simp
theorem xE.few{es ns:List Int}{least:Int}:∀{rs:List xc} {i j:Nat} {b b':Bool},xE es ns least i b rs j b'→i+rs.length≤j
 |[],_,_,_,_,h=>by rw[h.1];exact aj _
 | .put to sg::rs,i,j,_,_,h=>by
  obtain⟨h1,h2,h3,h4,h5,h6,h7⟩:=h;have:=h7.few;have:=bB.mpr h3;rw[aT];lia
 | .take to st c::rs,i,j,_,_,h=>by
  obtain⟨st',c',h1,h2,h3,h4,h5,h6,h7,h8⟩:=h;have:=h8.few;rw[aT];lia
section
variable {P:aH} {w:World} {K:ah} {mg:Str→Option Value} {base:Heap} {a:Adr}
theorem ue(T:Txt K mg a):xA P w K mg base CX0 2 a.q0W a.jh ["self","to","signs"] (xid a):=by
 refine T.q1H.ok vA (fun vs H Q E h=>?_) (fun cdv A outer s H vs Q E hr h=>?_)
 ·obtain⟨p,dx,t,to,xs,rfl,_⟩:=h;rfl
 ·obtain⟨p,dx,t,to,xs,rfl,hp,ht,k⟩:=h;have nd:=vA.nd;have ne:t≠p:=yU ht hp (by intro z;cases z);refine⟨_,(xg (yE (xfl (by rfl) T.xkk T.q18 (xaN T) (hr.mono (by decide)) T.xbz .nil xn (xa (cv 0) (xa (cv 1) xf))))
  (xg (vI (cv 0) (yB uf (by rfl) T.q1P zC (xa (cv 2) xf)) rfl)
  (xi (vI (cv 0) (xt xy (by rfl) T.q0i xN (xa (xF (cv 0) rfl) xf)) rfl)))),?_⟩
  walk_at"w";refine⟨p,_,dx,to,rfl,hp,T.q0f,T.q0v,T.q0j,?_⟩;walk_at"w";refine⟨t,_,rfl,.inl ⟨SqL.of (by rw[xl ne];exact ht),fun u hu=>?_⟩⟩;have nup:u≠p:=fun z=>by rw[z,xk]at hu;cases hu
  have hu0:H u=none:=by rw[xl nup]at hu;exact hu
  generalize hU:upd H p _=H1 at hu⊢;have e1:=xm hU;have o1:∀b o,b≠p→H b=some o→H1 b=some o:=fun b o q z=>by rw[←hU,xl q];exact z
  clear hU;generalize hU:upd H1 u _=H2;have e2:=(show H2 p=H1 p by rw[←hU,xl (bE nup)]).trans e1;have eu:=xm hU;have o2:∀b o,b≠p→H b=some o→H2 b=some o:=fun b o q z=>by rw[←hU,xl (fun y=>by rw[y,hu0]at z;cases z)];exact o1 b o q z
  clear hU;walk_at"w";refine⟨p,_,dx,_,rfl,e2,T.q0f,T.q0w,by walk_at"few",?_⟩;walk_at"w";refine⟨p,_,dx,_,.ref u,rfl,xk,T.q0f,T.q0w,rfl,?_⟩;walk_at"w";refine⟨u,_,rfl,.inr (SqT.of (by rw[xl nup];exact eu)),?_⟩;walk_at"w";refine⟨p,_,dx,_,rfl,xk,T.q0f,T.q0j,by walk_at"few",?_⟩;walk_at"w";rw[zw];generalize hU:upd H2 p _=H3;refine k u H3 hu0 (fun b o q z=>by rw[←hU,xl q];exact o2 b o q z) ?_ (by rw[←hU,xl nup];exact eu);rw[xm hU,ab];rfl
theorem xfQ(T:Txt K mg a):zy P w K mg base CX0 1 "<lambda>" "endings.<locals>.<lambda>" (xaX uj) (.expr (xaY uj)) (zt uj) ["at"] xeX:=by
 refine xbh xcE (fun fv vs H Q E h=>?_) (fun _ _ _ _ _ us hl=>match us,hl with|[_],_=>rfl) (fun A outer s H f clos cdv fv vs Q E hr h=>?_)
 ·obtain⟨e,es,i,rfl,rfl,_⟩:=h;exact⟨rfl,rfl⟩
 ·obtain⟨e,es,i,rfl,rfl,he,hi,k⟩:=h;have nd:=xcE.nd;refine⟨_,(yF zf (cv 1) (yb (cv 0)) vf),?_⟩;walk_at"w";refine⟨_,rfl,?_⟩;walk_at"w";refine⟨e,_,rfl,SqL.of he,fun d hd=>?_⟩;have e1:zB (es.map V.int) (some i) none=(es.drop i.toNat).map V.int:=by
   rw[za,yP hi,HT.jv]
   congr 1
   rw[a8 (by rw[aX];lia)]
   by_cases h:i.toNat≤es.length
   ·rw[cN h]
   ·rw[fT (by lia),cW (aj _),cW (by lia)]
  rw[e1];exact k d hd
theorem xkw(T:Txt K mg a):xA P w K mg base CX0 4 a.q1B a.xag ["text"] xku:=by
 refine T.vN.okC ["text"] T.xke xeK (fun vs H Q E h=>?_) (fun A outer s H vs Q E hr h=>?_)
 ·obtain⟨e,es,rfl,_⟩:=h;rfl
 ·obtain⟨e,es,rfl,hP,he,h64,q⟩:=h;have nd:=xeK.nd;refine⟨_,(xb5 (x:="text") (i:=0) nd rfl rfl rfl (by kernel_rfl) (xi (xo (xj2 (xfQ T) (hr.mono (by decide)) rfl (by rfl) T.q2S (xa (xk3 (by rfl) T.q06 (xa (xt xy (by rfl) T.q0i xN (xa (cv 0) xf)) xf)) xf) (vL (c:=q0X) (P:=yI) (qs:=zu) (fns:=["text"]) rfl T.q2N (q:="endings.<locals>.<lambda>") (by kernel_rfl) (.head _) (by kernel_rfl) (by kernel_rfl)))))),?_⟩;walk_at"w";intro a1 e1 z1 d1;refine fN z1 ?_;generalize hU1:upd H a1 _=H1;have s1:=xb.of_eq z1 hU1;have c1:=xm hU1;clear hU1;walk_at"w";refine⟨e,_,rfl,.inl (SqL.of (s1.at he)),?_⟩;intro r hr;generalize hUr:upd H1 r _=H2;have sH2:=xb.of_eq hr hUr;have er:=xm hUr;clear hUr;walk_at"w";have s2:xb H H2:=s1.trans sH2;refine⟨s2.at hP,[("text",.ref e)],rfl,fun x v m=>?_,fun f H3 hf s3 hc=>?_⟩
  ·simp only[ax,iZ,c8,or_false]at m;obtain⟨rfl,rfl⟩:=m;exact⟨a1,e1,sH2.at c1⟩
  walk_at"w";have er3:=s3.at er;rw[ab]at er3;refine⟨r,f,es.length,_,fun i=>es.drop i,rfl,rfl,er3,h64,hc,fun i hi H4 s4=>?_,xoo es,fun l p H4 s4 hl el hp hpw=>?_⟩
  ·refine⟨e,es,_,rfl,rfl,(s2.trans (s3.trans s4)).at he,by lia,fun d hd=>⟨xb.new hd,d,rfl,?_⟩⟩;rw[xk,bJ]
  ·exact q l p H4 (s2.trans (s3.trans s4)) ((s2.trans s3).back hl) el ⟨hp,hpw⟩
theorem xiW(T:Txt K mg a):xA P w K mg base CX0 1 a.q1C a.xbs ["text","at","part"] xmQ:=by
 refine T.q1G.ok xdq (fun vs H Q E h=>?_) (fun cdv A outer s H vs Q E hr h=>?_)
 ·obtain⟨e,q,es,ps,i,rfl,_⟩:=h;rfl
 ·obtain⟨e,q,es,ps,i,rfl,he,hq,hi,k⟩:=h;have nd:=xdq.nd;refine⟨_,(xg (xv (i:=3) nd rfl (aJ rfl) xh)
  (xg (jA bj (PW.pt (uF (xD xat (cv 3) (xt xy (by rfl) T.q0i xN (xa (cv 2) xf))) (uF (xD xat (xw xU (cv 1) (cv 3)) (xt xy (by rfl) T.q0i xN (xa (cv 0) xf))) (uy (xD ug (xu xX (cv 0) (xw xU (cv 1) (cv 3)) (fun _ _=>rfl)) (xu xX (cv 2) (cv 3) (fun _ _=>rfl))))))) (xi (xv (i:=3) nd rfl (aJ rfl) (xw xU (cv 3) xh))))
  (xi (xo (cv 3))))),?_⟩
  walk_at"w";refine ud (m:=ps.length) (fun m σ G=>G=H∧∃x:Nat,m=ps.length - x∧σ=[some (.ref e),some (.int i),some (.ref q),some (.int x)]∧x≤ps.length∧i+x≤es.length∧(es.drop i).take x=ps.take x) ⟨rfl,0,rfl,rfl,aM _,by lia,by simp⟩ (fun m σ G hP=>?_);obtain⟨rfl,x,rfl,rfl,hx,hy,heq⟩:=hP;have done:((es.drop i).length > x→ps.length > x→(es.drop i).take (x+1)≠ps.take (x+1))→Q (.int x) G:=fun hn=>by
   rw[xmO heq hx (fun h1 h2=>hn h1 h2) (by rw[aX];lia)]at k;exact k
  walk_at"w";refine⟨q,_,rfl,.inl (SqL.of hq),?_⟩;walk_at"w";rw[ab];refine⟨fun e1=>?_,fun e1=>?_⟩
  ·have h1:x<ps.length:=by have:=of_decide_eq_true e1;lia
   walk_at"w";refine⟨e,_,rfl,.inl (SqL.of he),?_⟩;walk_at"w";rw[ab];refine⟨fun e2=>?_,fun e2=>?_⟩
   ·have h2:i+x<es.length:=by have:=of_decide_eq_true e2;lia
    have h3:x<(es.drop i).length:=by rw[aX];lia
    walk_at"w";refine⟨e,_,_,.int es[i+x],rfl,rfl,SqL.of he,xg4 (by lia) (by rw[show((i:Int)+(x:Int)).toNat=i+x by lia];simp[h2]),?_⟩;walk_at"w";refine⟨q,_,_,.int ps[x],rfl,rfl,SqL.of hq,yJ (by simp[h1]),?_⟩;walk_at"w";have st:=xmN heq h3 h1;rw[List.getElem_drop]at st;refine⟨fun e3=>?_,fun e3=>?_⟩
    ·have e4:=st.mp (by simpa using e3);refine⟨fun σ' G'=>∃m',m'<ps.length - x∧G'=G∧∃x:Nat,m'=ps.length - x∧σ'=[some (.ref e),some (.int i),some (.ref q),some (.int x)]∧x≤ps.length∧i+x≤es.length∧(es.drop i).take x=ps.take x,fun _ _ z=>z,?_⟩;walk_at"w";exact⟨ps.length - (x+1),by lia,rfl,x+1,rfl,rfl,by lia,by lia,e4⟩
    ·walk_at"w";refine done fun _ _ z=>?_;have:=st.mpr z;simp[this]at e3
   ·refine⟨by walk_at"no",fun _=>?_⟩;walk_at"w";have:=of_decide_eq_false e2;exact done fun h1 _=>by rw[aX]at h1;lia
  ·refine⟨by walk_at"no",fun _=>?_⟩;walk_at"w";have:=of_decide_eq_false e1;exact done fun _ h2=>by lia
theorem xif(es:List Int)(i:Nat):zB (es.map V.int) (some (i:Int)) none=(es.drop i).map V.int:=by
 rw[za,yP (by lia),HT.jv]
 congr 1
 rw[a8 (by rw[aX];lia),bJ]
 by_cases h:i≤es.length
 ·rw[cN h]
 ·rw[fT (by lia),cW (aj _),cW (by lia)]
theorem xef(T:Txt K mg a):xA P w K mg base CX0 1 a.q0D a.uN ["text","table","part"] xed:=by
 refine T.q0H.ok jV (fun vs H Q E h=>?_) (fun cdv A outer s H vs Q E hr h=>?_)
 ·obtain⟨e,t,q,es,ps,p,rfl,_⟩:=h;rfl
 ·obtain⟨e,t,q,es,ps,p,rfl,he,ht,hq,hp,k⟩:=h;have nd:=jV.nd;refine⟨_,(xg (xv (i:=3) nd rfl (aJ rfl) xh)
  (xg (xv (i:=4) nd rfl (aJ rfl) (xt xy (by rfl) T.q0i xN (xa (cv 1) xf)))
  (xg (jA bj (xD xat (cv 3) (cv 4)) (xg (xv (i:=5) nd rfl (aJ rfl) (xw vJ (xw xU (cv 3) (cv 4)) xh))
  (xi (xM (xD (xpk hr.units0) (yF zf (cv 0) (yb (xu xX (cv 1) (cv 5) (fun _ _=>rfl))) vf) (cv 2)) (xi (xv (i:=3) nd rfl (aJ rfl) (xw xU (cv 5) xh))) (xi (xv (i:=4) nd rfl (aJ rfl) (cv 5)))))))
  (xi (xo (cv 3)))))),?_⟩
  walk_at"w";refine⟨t,_,rfl,.inl (SqL.of ht),?_⟩;walk_at"w";rw[ab];refine ud (m:=p.length) (fun m σ G=>xb H G∧∃(lo hi:Nat) (x5:Option V),m=hi - lo∧σ=[some (.ref e),some (.ref t),some (.ref q),some (.int lo),some (.int hi),x5]∧lo≤hi∧hi≤p.length∧(∀i,i<lo→HT.lexLt (es.drop (p.getD i 0)) ps=true)∧∀i,hi≤i→i<p.length→HT.lexLt (es.drop (p.getD i 0)) ps=false)
   ⟨xb.refl _,0,p.length,_,rfl,rfl,aM _,aj _,fun i hi=>absurd hi (dk _),fun i h1 h2=>absurd h2 (by lia)⟩ (fun m σ G hP=>?_)
  obtain⟨sG,lo,hi,x5,rfl,rfl,h1,h2,h3,h4⟩:=hP;walk_at"w";refine⟨fun e1=>?_,fun e1=>?_⟩
  ·have e1':lo<hi:=by have:=of_decide_eq_true e1;lia
   refine⟨fun σ' G'=>∃m',m'<hi - lo∧xb H G'∧∃(lo hi:Nat) (x5:Option V),m'=hi - lo∧σ'=[some (.ref e),some (.ref t),some (.ref q),some (.int lo),some (.int hi),x5]∧lo≤hi∧hi≤p.length∧(∀i,i<lo→HT.lexLt (es.drop (p.getD i 0)) ps=true)∧∀i,hi≤i→i<p.length→HT.lexLt (es.drop (p.getD i 0)) ps=false,fun _ _ z=>z,?_⟩;walk_at"w";walk_at"ss";have em:((lo:Int)+(hi:Int)) / 2=(((lo+hi) / 2:Nat):Int):=by lia
   generalize hz:(fun(i j:Int)=>V.int (i / j)) ((lo:Int)+(hi:Int)) 2=z;generalize hmid:(lo+hi) / 2=mid at em;have ez:z= .int (mid:Nat):=by rw[←hz];show V.int (((lo:Int)+(hi:Int)) / 2)=_;rw[em]
   clear hz;subst ez;have b1:lo≤mid∧mid<hi:=by lia
   have b2:mid<p.length:=by lia
   have g:p.getD mid 0=p[mid]:=by simp[a9,b2]
   refine⟨t,_,_,.int (p.getD mid 0:Nat),rfl,rfl,SqL.of (sG.at ht),yJ (by rw[g];simp[b2]),?_⟩;walk_at"w";refine⟨_,rfl,?_⟩;walk_at"w";refine⟨e,_,rfl,SqL.of (sG.at he),?_⟩;intro d hd;generalize hUd:upd G d _=G1;have sG1:=xb.of_eq hd hUd;have ed:=xm hUd;clear hUd;walk_at"w";rw[xif]at ed;refine⟨d,q,_,_,rfl,rfl,SqL.of ed,SqL.of ((sG.trans sG1).at hq),?_⟩;walk_at"w";refine⟨fun e2=>?_,fun e2=>?_⟩
   ·walk_at"w";refine⟨hi - (mid+1),by lia,sG.trans sG1,mid+1,hi,_,rfl,rfl,by lia,h2,fun i hi'=>?_,h4⟩
    by_cases c:i=mid
    ·rw[c];exact e2
    ·exact xe4 (xe5 hp (show i<mid by lia) b2) e2
   ·walk_at"w";refine⟨mid - lo,by lia,sG.trans sG1,lo,mid,_,rfl,rfl,by lia,by lia,h3,fun i h5 h6=>?_⟩
    by_cases c:i=mid
    ·rw[c];exact e2
    ·cases hc:HT.lexLt (es.drop (p.getD i 0)) ps with
     |false=>rfl
     |true=>
      have:=xe4 (xe5 hp (show mid<i by lia) h6) hc;rw[e2]at this;cases this
  ·have e1':lo=hi:=by have:=of_decide_eq_false e1;lia
   walk_at"w";subst e1';exact k lo G sG ⟨h2,h3,h4⟩
theorem xig(ps:List Int)(c:Nat):zB (ps.map V.int) none (some (c:Int))=(ps.take c).map V.int:=by
 rw[za,yP (by lia),HT.jv,List.drop_zero,bJ,Nat.sub_zero]
 congr 1
 by_cases q:c≤ps.length
 ·rw[cN q]
 ·rw[fT (by lia),a8 (aj _),a8 (by lia)]
theorem xfR(es:List Int)(b c:Nat)(h:b≤es.length):zB (es.map V.int) (some (b:Int)) (some ((b:Int)+(c:Int)))=((es.drop b).take c).map V.int:=by
 rw[za,yP (by lia),yP (by lia),bJ,show((b:Int)+(c:Int)).toNat=b+c by lia,cN h]
 congr 1
 by_cases q:b+c≤es.length
 ·rw[cN q,show b+c - b=c by lia]
 ·rw[fT (by lia),a8 (by rw[aX];lia),a8 (by rw[aX];lia)]
theorem xkx(p:List Nat)(L:Nat)(h:L≤p.length):zB (p.map fun(i:Nat)=>V.int i) (some (max ((L:Int) - 1) 0)) (some ((L:Int)+1))=(around p L).map fun(i:Nat)=>V.int i:=by
 unfold zB around;rw[ab,yP (by lia),yP (by lia),←List.map_drop,←List.map_take,show(max ((L:Int) - 1) 0).toNat=L - 1 by lia,show((L:Int)+1).toNat=L+1 by lia,cN (show L - 1≤p.length by lia)]
 congr 1
 by_cases q:L+1≤p.length
 ·rw[cN q]
 ·rw[fT (by lia),a8 (by rw[aX];lia),a8 (by rw[aX];lia)]
theorem xky(T:Txt K mg a):xA P w K mg base CX0 2 a.q1Q a.xcg ["text","table","part"] xkv:=by
 refine T.q1X.ok xeL (fun vs H Q E h=>?_) (fun cdv A outer s H vs Q E hr h=>?_)
 ·obtain⟨e,t,q,es,ps,p,rfl,_⟩:=h;rfl
 ·obtain⟨e,t,q,es,ps,p,rfl,he,ht,hq,hp,h64,h100,k⟩:=h;have nd:=xeL.nd;refine⟨_,(xg (xv (i:=3) nd rfl (aJ rfl) (xr (xef T) (hr.mono (by decide)) (by rfl) T.xeB T.q0H.kp T.xeA .nil xn (xa (cv 0) (xa (cv 1) (xa (cv 2) xf)))))
  (xg (xv (i:=4) nd rfl (fU rfl) (xnR rfl (by rfl) T.q21 (xa (yj (yo (cap:=[0,2]) (ys:=["text","part"]) rfl rfl rfl rfl rfl ⟨⟨rfl,rfl,.inl rfl⟩,⟨⟨rfl,rfl,.inl rfl⟩,trivial⟩⟩ (by decide+kernel)) rfl (xZ (yF zf (cv 1) (yb (xt (xk4 rfl) (by rfl) T.q21 xgY (xa (xw xcS (cv 3) xh) (xa xh xf)))) (yb (xw xU (cv 3) xh)))) (fun _ _ _ _=>(xr (xiW T) (hr.mono (by decide)) (by rfl) T.xkg T.q1G.kp T.xkf .nil xn (xa (cv 1) (xa (cv 0) (xa (cv 2) xf))))) (fun _ _ _ _=>yi)) xf) xh))
  (xg (xM (xD ug (cv 4) xh) (xi (xo (ym (xa xh (xa xh xf))))) xH)
  (xg (xv (i:=5) nd rfl (fU rfl) (yF zf (cv 2) vf (yb (cv 4))))
  (xi (xo (ym (xa (xt (xga rfl) (by rfl) T.q2Q xb0 (xa (yj (yo (cap:=[0,4,5]) (ys:=["text","count","beginning"]) rfl rfl rfl rfl rfl ⟨⟨rfl,rfl,.inl rfl⟩,⟨⟨rfl,rfl,.inl rfl⟩,⟨⟨rfl,rfl,.inl rfl⟩,trivial⟩⟩⟩ (by decide+kernel)) rfl (xZ (cv 1)) (fun _ _ _ _=>(cv 0)) (fun _ _ _ _=>(xaT (xD (xqT (K:=K) rfl hr.units) (yF (xml (K:=K) rfl) (cv 1) (yb (cv 0)) (yb (xw xU (cv 0) (cv 2)))) (cv 3))))) xf)) (xa (cv 4) xf))))))))),?_⟩
  walk_at"w";refine⟨e,t,q,es,ps,p,rfl,he,ht,hq,hp,fun L H1 s1 hL=>?_⟩;walk_at"w";refine⟨_,rfl,?_⟩;walk_at"w";refine⟨_,rfl,?_⟩;walk_at"w";refine⟨t,_,rfl,SqL.of (s1.at ht),?_⟩;intro d hd;generalize hUd:upd H1 d _=H2;have sH2:=xb.of_eq hd hUd;have ed:=xm hUd;clear hUd;walk_at"w";rw[xkx p L hL.1]at ed;have s2:=s1.trans sH2;have ba:(around p L).length≤64:=by
   have e1:(around p L).length≤p.length:=by unfold around;rw[bI,aX];omega
   have e2:=hp.1.length_eq;rw[dh]at e2;omega
  refine⟨d,rfl,⟨_,SqL.of ed⟩,?_⟩;refine xb7 (fun v=>match v with| .int x=>.int (lcp (es.drop x.toNat) ps:Nat)|v=>v) (SqL.of ed) (by rw[ab,ay];omega) (fun x H3 hx s3 R hR=>?_) (fun D G hD sG eD=>?_)
  ·obtain⟨b,hb,rfl⟩:=aN.mp hx;walk_at"w";exact⟨e,q,es,ps,b,rfl,(s2.trans s3).at he,(s2.trans s3).at hq,cx (xgp hp hb),hR H3 (xb.refl _)⟩
  have eD':G D=some (.lst (((around p L).map fun b=>((lcp (es.drop b) ps:Nat):Int)).map V.int)):=by
   rw[eD,bS,bS];rfl
  have s4:=s2.trans sG;walk_at"w";refine⟨D,_,_,rfl,rfl,SqL.of eD',fun m m1 m2=>?_⟩;obtain⟨c,rfl,hle,hc⟩:=xmP hp hL m1 m2;walk_at"w";refine⟨fun e1=>?_,fun e1=>?_⟩
  ·have c0:c=0:=by have:=of_decide_eq_true e1;omega
   subst c0;walk_at"w";walk_at"ss";intro z hz;generalize hUz:upd G z _=G2;have sG2:=xb.of_eq hz hUz;have ez:=xm hUz;clear hUz;walk_at"w";exact k z 0 0 G2 (s4.trans sG2) (s4.back hz) ez ⟨hle,.inl ⟨rfl,rfl⟩⟩
  ·have c0:0<c:=by have:=of_decide_eq_false e1;omega
   obtain⟨a0,ha0,ea0⟩:=hc.resolve_left (by omega);have cl:c≤ps.length:=by rw[←ea0];exact xcK _ _
   walk_at"w";refine⟨_,rfl,?_⟩;walk_at"w";refine⟨q,_,rfl,SqL.of (s4.at hq),?_⟩;intro b hb;generalize hUb:upd G b _=G2;have sG2:=xb.of_eq hb hUb;have eb:=xm hUb;clear hUb;walk_at"w";rw[xig]at eb;have s5:=s4.trans sG2;refine⟨t,rfl,⟨_,SqL.of (s5.at ht)⟩,?_⟩;refine jg (fun v=>match v with| .int x=>decide ((es.drop x.toNat).take c=ps.take c)|_=>false) (fun v=>v) (SqL.of (s5.at ht)) (by rw[ab,ay,hp.1.length_eq,dh];omega) (fun x H3 hx s3 R hR=>?_) (fun x H3 hx _ s3 R hR=>?_) (fun D2 G3 hD2 sG3 eD2=>?_)
   ·obtain⟨i,hi,rfl⟩:=aN.mp hx;have hi':i<es.length:=bh.mp (hp.1.mem_iff.mp hi);walk_at"w";refine⟨_,rfl,?_⟩;walk_at"w";refine⟨_,rfl,?_⟩;walk_at"w";refine⟨e,_,rfl,SqL.of ((s5.trans s3).at he),?_⟩;intro g hg;generalize hUg:upd H3 g _=H4;have sH4:=xb.of_eq hg hUg;have eg:=xm hUg;clear hUg;walk_at"w";rw[xfR es i c (by omega)]at eg;refine xaU (f:=fun b=>b) ⟨g,b,_,_,rfl,rfl,SqL.of eg,SqL.of ((s3.trans sH4).at eb),?_⟩;exact hR H4 sH4
   ·walk_at"w";exact hR H3 (xb.refl _)
   have eD3:G3 D2=some (.lst (((p.filter fun i=>decide ((es.drop i).take c=ps.take c)).map fun(i:Nat)=>(i:Int)).map V.int)):=by
    rw[eD2,List.map_id',il,bS];rfl
   have s6:=s5.trans sG3;have mf:∀i,i∈(p.filter fun i=>decide ((es.drop i).take c=ps.take c))↔i<es.length∧c≤lcp (es.drop i) ps:=fun i=>by
    rw[aK,hp.1.mem_iff,bh,decide_eq_true_iff,xab cl]
   walk_at"w";refine⟨D2,_,rfl,SqL.of eD3,?_,fun m m1 m2=>?_⟩
   ·intro z;have:=(mf a0).mpr ⟨ha0,by omega⟩;rw[List.map_eq_nil_iff.mp z]at this;cases this
   obtain⟨i,hi,rfl⟩:=aN.mp m1;obtain⟨hi1,hi2⟩:=(mf i).mp hi;walk_at"w";walk_at"ss";intro z hz;generalize hUz:upd G3 z _=G4;have sG4:=xb.of_eq hz hUz;have ez:=xm hUz;clear hUz;walk_at"w";exact k z i c G4 (s6.trans sG4) (s6.back hz) ez (xop hle c0 hi1 hi2 fun j hj1 hj2=>by
    have:=m2 _ (fZ (f:=fun(i:Nat)=>(i:Int)) ((mf j).mpr ⟨hj1,hj2⟩));omega)
theorem xac(T:Txt K mg a):xA P w K mg base CX0 4 a.q0F a.uR ["end","signs"] (xee K a):=by
 refine T.q0u.ok jY (fun vs H Q E h=>?_) (fun cdv A outer s H vs Q E hr h=>?_)
 ·obtain⟨q,i,xs,rfl,_⟩:=h;rfl
 ·obtain⟨q,i,xs,rfl,hq,k⟩:=h;have nd:=jY.nd;refine⟨_,(xg (xM (xD ug (xt xy (by rfl) T.q0i xN (xa (cv 1) xf)) xh) (xi (xo (yn xf))) xH)
  (xi (xo (yn (xa (jo T.q2M (ue T) (hr.mono (by decide)) (by rfl) T.xeJ T.ji .nil xn (xa (xw xcS (cv 0) (xt xy (by rfl) T.q0i xN (xa (cv 1) xf))) (xa (cv 1) xf))) xf))))),?_⟩
  walk_at"w";refine⟨q,_,rfl,.inl (SqL.of hq),?_⟩;walk_at"w";rw[ab];refine⟨fun e1=>?_,fun e1=>?_⟩
  ·have h0:xs=[]:=df.mp (by have:=of_decide_eq_true e1;lia);walk_at"w";walk_at"ss";intro l hl;generalize hUl:upd H l _=H1;have sH1:=xb.of_eq hl hUl;have el:=xm hUl;clear hUl;walk_at"w";exact k l [] H1 sH1 hl el (by unfold uZ;rw[if_pos h0];exact .nil)
  ·have h0:xs≠[]:=fun z=>by rw[z]at e1;simp at e1
   walk_at"w";refine⟨q,_,rfl,.inl (SqL.of hq),?_⟩;walk_at"w";rw[ab];intro x xdx hx hxdx nex;generalize hUx:upd H xdx (.own x)=H1;have sH1:=xb.of_eq hxdx hUx;have hx3:H1 x=none:=by rw[←hUx,xl (bE nex)];exact hx
   refine⟨x,xdx,q,_,xs,rfl,xk,(xb.new hx3).at (sH1.at hq),fun u H4 hu o4 e4 eu=>⟨rfl,?_⟩⟩;have s4:xb H H4:=fun b o z=>o4 b o (fun y=>by rw[y,hx]at z;cases z) ((sH1.trans (xb.new hx3)).at z);have nux:u≠x:=fun z=>by rw[z,xk]at hu;cases hu
   walk_at"w";walk_at"ss";intro l hl;generalize hUl:upd H4 l _=H5;have sH5:=xb.of_eq hl hUl;have el:=xm hUl;clear hUl;walk_at"w";refine k l [x] H5 (s4.trans sH5) (s4.back hl) el ?_;unfold uZ;rw[if_neg h0];exact .cons ⟨xdx,u,sH5.at e4,sH5.at eu⟩ .nil
theorem xbR(T:Txt K mg a):xA P w K mg base CX0 5 a.q09 a.jQ ["elder","newer","least"] (xgF K a):=by
 refine T.q0T.ok xbQ (fun vs H Q E h=>?_) (fun cdv A outer s H vs Q E hr h=>?_)
 ·obtain⟨e,n,es,ns,least,rfl,_⟩:=h;rfl
 ·obtain⟨e,n,es,ns,least,rfl,hP,he,hn,h64,h100,hls,k⟩:=h;have nd:=xbQ.nd;refine⟨_,(xg (xv (i:=3) nd rfl (aJ rfl) (xr (xkw T) (hr.mono (by decide)) (by rfl) T.xly T.vN.kp T.xlx .nil xn (xa (cv 0) xf)))
  (xg (xv (i:=4) nd rfl (aJ rfl) (yn xf))
  (xg (xv (i:=5) nd rfl (aJ rfl) (yn xf))
  (xg (xv (i:=6) nd rfl (aJ rfl) xh)
  (xg (jA bj (xD xat (cv 6) (xt xy (by rfl) T.q0i xN (xa (cv 1) xf))) (xg (xv (i:=7) nd rfl (aJ rfl) (xr (xky T) (hr.mono (by decide)) (by rfl) T.xlA T.q1X.kp T.xlz .nil xn (xa (cv 0) (xa (cv 3) (xa (yF zf (cv 1) (yb (cv 6)) vf) xf)))))
  (xg (xv (i:=8) nd rfl (aJ rfl) (xu xx (cv 7) xh (fun _ _=>rfl)))
  (xi (xM (PW.pt (uF (xD xdN (cv 8) xh) (uy (xD xo4 (cv 8) (cv 2))))) (xg (yE (uE PySem.F.plainAttrs_list PySem.F.slot_list_extend PySem.F.type_list_extend xf2 (cv 4) (xa (xr (xac T) (hr.mono (by decide)) (by rfl) T.xai T.q0u.kp T.xah .nil xn (xa (cv 6) (xa (cv 5) xf))) xf)))
  (xg (yE (uE PySem.F.plainAttrs_list PySem.F.slot_list_append PySem.F.type_list_append yH (cv 4) (xa (jo T.q2V (xcz T) (hr.mono (by decide)) (by rfl) T.xa4 T.xdn .nil xn (xa (cv 6) (xa (xu xx (cv 7) xh (fun _ _=>rfl)) (xa (cv 8) xf)))) xf)))
  (xg (xv (i:=5) nd rfl (aJ rfl) (yn xf))
  (xi (xv (i:=6) nd rfl (aJ rfl) (xw xU (cv 6) (cv 8))))))) (xg (yE (uE PySem.F.plainAttrs_list PySem.F.slot_list_append PySem.F.type_list_append yH (cv 5) (xa (xu xX (cv 1) (cv 6) (fun _ _=>rfl)) xf)))
  (xi (xv (i:=6) nd rfl (aJ rfl) (xw xU (cv 6) xh)))))))))
  (xi (xo (xw xem (cv 4) (xr (xac T) (hr.mono (by decide)) (by rfl) T.xai T.q0u.kp T.xah .nil xn (xa (cv 6) (xa (cv 5) xf))))))))))),?_⟩
  walk_at"w";refine⟨e,es,rfl,hP,he,h64,fun t p H1 s1 ht et hp=>?_⟩;have he1:=s1.at he;have hn1:=s1.at hn;walk_at"w";walk_at"ss";intro rl hrl;generalize hUrl:upd H1 rl _=H2;have sH2:=xb.of_eq hrl hUrl;have erl:=xm hUrl;clear hUrl;walk_at"w";walk_at"ss";intro sl hsl;generalize hUsl:upd H2 sl _=H3;have sH3:=xb.of_eq hsl hUsl;have esl:=xm hUsl;clear hUsl;walk_at"w";have nrs:rl≠sl:=fun z=>by rw[←z,erl]at hsl;cases hsl
  refine ud (m:=ns.length) (fun m σ G=>xb H1 G∧∃(rl sl:Addr) (os:List Addr) (rs:List xc) (sg:List Int) (i:Nat) (x7 x8:Option V),m=ns.length - (i+sg.length)∧σ=[some (.ref e),some (.ref n),some (.int least),some (.ref t),some (.ref rl),some (.ref sl),some (.int (i+sg.length:Nat)),x7,x8]∧
    H1 rl=none∧H1 sl=none∧rl≠sl∧G rl=some (.lst (os.map V.ref))∧Paired (xB K a G) os rs∧os.length≤2*i∧G sl=some (.lst (sg.map V.int))∧i+sg.length≤ns.length∧sg=(ns.drop i).take sg.length∧(∀k,k<sg.length→uY es (ns.drop (i+k)) least)∧xE es ns least 0 false rs i false)
   ⟨sH2.trans sH3,rl,sl,[],[],[],0,_,_,rfl,rfl,hrl,sH2.back hsl,nrs,sH3.at erl,.nil,aj _,esl,aM _,rfl,fun k hk=>absurd hk (dk _),rfl,rfl⟩ (fun m σ G hP=>?_)
  clear sH2 sH3 erl esl hrl hsl nrs H2 H3 rl sl;obtain⟨sG,rl,sl,os,rs,sg,i,x7,x8,rfl,rfl,hrl,hsl,nrs,erl,hpo,hos,esl,hle,hsg,hnb,hri⟩:=hP;have hol:=hpo.length;walk_at"w";refine⟨n,_,rfl,.inl (SqL.of (sG.at hn1)),?_⟩;walk_at"w";rw[ab];refine⟨fun e1=>?_,fun e1=>?_⟩
  ·have h1:i+sg.length<ns.length:=by have:=of_decide_eq_true e1;lia
   refine⟨fun σ' G'=>∃m',m'<ns.length - (i+sg.length)∧xb H1 G'∧∃(rl sl:Addr) (os:List Addr) (rs:List xc) (sg:List Int) (i:Nat) (x7 x8:Option V),m'=ns.length - (i+sg.length)∧σ'=[some (.ref e),some (.ref n),some (.int least),some (.ref t),some (.ref rl),some (.ref sl),some (.int (i+sg.length:Nat)),x7,x8]∧
    H1 rl=none∧H1 sl=none∧rl≠sl∧G' rl=some (.lst (os.map V.ref))∧Paired (xB K a G') os rs∧os.length≤2*i∧G' sl=some (.lst (sg.map V.int))∧i+sg.length≤ns.length∧sg=(ns.drop i).take sg.length∧(∀k,k<sg.length→uY es (ns.drop (i+k)) least)∧xE es ns least 0 false rs i false,fun _ _ z=>z,?_⟩
   walk_at"w";refine⟨_,rfl,?_⟩;walk_at"w";refine⟨n,_,rfl,SqL.of (sG.at hn1),?_⟩;intro d hd;generalize hUd:upd G d _=G1;have sG1:=xb.of_eq hd hUd;have ed:=xm hUd;clear hUd;walk_at"w";rw[xif]at ed;have s01:=sG.trans sG1;refine⟨e,t,d,es,ns.drop (i+sg.length),p,rfl,s01.at he1,s01.at et,ed,hp,h64,by rw[aX];lia,fun r a1 c G2 s2 hr2 er hb=>?_⟩;have s02:=s01.trans s2;have sg2:=sG1.trans s2;walk_at"w";refine⟨r,_,_,.int c,rfl,rfl,SqT.of er,rfl,?_⟩;have esl2:=sg2.at esl;have erl2:=sg2.at erl;have hpo2:=L2.Paired.imp' (fun _ _ z=>xB.same z sg2) hpo;have more:(c:Int)<least→∀G3 x7 x8,upd G2 sl (.lst (sg.map V.int++[.int ns[i+sg.length]]))=G3→∃m',m'<ns.length - (i+sg.length)∧xb H1 G3∧∃(rl' sl':Addr) (os:List Addr) (rs:List xc) (sg':List Int) (i':Nat) (x7' x8':Option V),m'=ns.length - (i'+sg'.length)∧[some (.ref e),some (.ref n),some (.int least),some (.ref t),some (.ref rl),some (.ref sl),some (.int (((i+sg.length:Nat):Int)+1)),x7,x8]=[some (.ref e),some (.ref n),some (.int least),some (.ref t),some (.ref rl'),some (.ref sl'),some (V.int (i'+sg'.length:Nat)),x7',x8']∧
    H1 rl'=none∧H1 sl'=none∧rl'≠sl'∧G3 rl'=some (.lst (os.map V.ref))∧Paired (xB K a G3) os rs∧os.length≤2*i'∧G3 sl'=some (.lst (sg'.map V.int))∧i'+sg'.length≤ns.length∧sg'=(ns.drop i').take sg'.length∧(∀k,k<sg'.length→uY es (ns.drop (i'+k)) least)∧xE es ns least 0 false rs i' false:=fun hc G3 x7 x8 hU=>by
    have hl1:(sg++[ns[i+sg.length]]).length=sg.length+1:=by rw[ar];rfl
    refine⟨ns.length - (i+(sg++[ns[i+sg.length]]).length),by lia,xb.wr s02 hsl hU,rl,sl,os,rs,sg++[ns[i+sg.length]],i,x7,x8,rfl,?_,hrl,hsl,nrs,by rw[←hU,xl nrs];exact erl2,?_,hos,by rw[xm hU,aI];rfl,by lia,xlS hsg h1,fun k hk=>?_,hri⟩
    ·rw[hl1,show((i+(sg.length+1):Nat):Int)=((i+sg.length:Nat):Int)+1 by lia]
    ·rw[←hU];exact L2.Paired.imp' (fun _ _ z=>xB.off z esl2) hpo2
    ·rw[hl1]at hk
     by_cases z:k=sg.length
     ·rw[z];exact uY.of hb hc
     ·exact hnb k (by lia)
   walk_at"w";refine⟨fun e2=>?_,fun e2=>?_⟩
   ·have c0:0<c:=by have:=of_decide_eq_true e2;lia
    walk_at"w";refine⟨fun e3=>?_,fun e3=>?_⟩
    ·have c1:least≤(c:Int):=by have:=of_decide_eq_true e3;lia
     walk_at"w";refine⟨.inl ⟨rfl,_,SqL.of erl2⟩,?_⟩;walk_at"w";refine⟨sl,_,sg,rfl,esl2,fun l os2 G3 s3 hl el hp2=>?_⟩;have erl3:=s3.at erl2;have hpo3:=L2.Paired.imp' (fun _ _ z=>xB.same z s3) hpo2;have l2:os2.length≤1:=by
      have:=hp2.length;have:=xe7 ((i+sg.length:Nat):Int) sg;lia
     walk_at"w";refine⟨rl,l,_,_,rfl,rfl,erl3,el,by rw[ab,ab,ay];lia,?_⟩;generalize hU:upd G3 rl _=G4;have s04:=xb.wr (s02.trans s3) hrl hU;have erl4:=xm hU;have hpo4:Paired (xB K a G4) (os++os2) (rs++uZ ((i+sg.length:Nat):Int) sg):=by
      rw[←hU];exact zQ (L2.Paired.imp' (fun _ _ z=>xB.off z erl3) hpo3) (L2.Paired.imp' (fun _ _ z=>xB.off z erl3) hp2)
     have er4:G4 r=some (.tup [.int a1,.int c]):=by rw[←hU,xl (yU (s3.at er) erl3 (by intro z;cases z))];exact s3.at er
     clear hU;rw[←aI]at erl4;walk_at"w";refine⟨.inl ⟨rfl,_,SqL.of erl4⟩,?_⟩;walk_at"w";refine⟨r,_,_,.int a1,rfl,rfl,SqT.of er4,rfl,?_⟩;walk_at"w";intro x xdx hx hxdx nex;generalize hUx:upd G4 xdx (.own x)=G5;have sG5:=xb.of_eq hxdx hUx;have hx3:G5 x=none:=by rw[←hUx,xl (bE nex)];exact hx
     refine⟨x,xdx,_,_,_,rfl,xk,rfl,?_⟩;rw[zw];generalize hVx:upd G5 x _=G6;have sG6:=xb.of_eq hx3 hVx;have ex:=xm hVx;walk_at"w";have s46:=sG5.trans sG6;refine⟨rl,_,_,rfl,rfl,s46.at erl4,by rw[ab,ar,ay];lia,?_⟩;generalize hU:upd G6 rl _=G8;have s08:=xb.wr (s04.trans s46) hrl hU;have erl8:=xm hU;have hpo8:Paired (xB K a G8) (os++os2++[x]) (rs++uZ ((i+sg.length:Nat):Int) sg++[.take (i+sg.length:Nat) a1 c]):=by
      rw[←hU];refine zQ (L2.Paired.imp' (fun _ _ z=>xB.off (xB.same z s46) (s46.at erl4)) hpo4) (.cons ?_ .nil);exact xB.off (r:=.take (i+sg.length:Nat) a1 c) ⟨xdx,ex⟩ (s46.at erl4)
     clear hU;walk_at"w";walk_at"ss";intro sz hsz;generalize hUsz:upd G8 sz _=G9;have sG9:=xb.of_eq hsz hUsz;have esz:=xm hUsz;clear hUsz;walk_at"w";obtain⟨rt,hlt⟩:=xE.take (b:=decide (sg≠[])) (cx h1) c0 c1 hb;refine⟨ns.length - (i+sg.length+c),by lia,s08.trans sG9,rl,sz,os++os2++[x],_,[],i+sg.length+c,some (.ref r),some (.int c),rfl,?_,hrl,s08.back hsz,(fun z=>by rw[←z,erl8]at hsz;cases hsz),?_,L2.Paired.imp' (fun _ _ z=>xB.same z sG9) hpo8,?_,esz,by simpa using hlt,by simp,fun k hk=>absurd hk (dk _),(hri.app (xE.put hle hsg hnb)).app rt⟩
     ·have ec:((i+sg.length+c+([]:List Int).length:Nat):Int)=((i+sg.length:Nat):Int)+(c:Int):=by show((i+sg.length+c:Nat):Int)=_;lia
      rw[ec];rfl
     ·rw[sG9.at erl8];simp
     ·simp;lia
    ·have c1:(c:Int)<least:=by have:=of_decide_eq_false e3;lia
     walk_at"w";refine⟨.inl ⟨rfl,_,SqL.of esl2⟩,?_⟩;walk_at"w";refine⟨n,_,_,.int ns[i+sg.length],rfl,rfl,SqL.of (s02.at hn1),yJ (by simp[h1]),?_⟩;walk_at"w";refine⟨sl,_,_,rfl,rfl,esl2,by rw[ab,ay];lia,?_⟩;exact more c1 _ _ _ rfl
   ·have c1:(c:Int)<least:=by have:=of_decide_eq_false e2;lia
    refine⟨by walk_at"no",fun _=>?_⟩;walk_at"w";refine⟨.inl ⟨rfl,_,SqL.of esl2⟩,?_⟩;walk_at"w";refine⟨n,_,_,.int ns[i+sg.length],rfl,rfl,SqL.of (s02.at hn1),yJ (by simp[h1]),?_⟩;walk_at"w";refine⟨sl,_,_,rfl,rfl,esl2,by rw[ab,ay];lia,?_⟩;exact more c1 _ _ _ rfl
  ·have h1:i+sg.length=ns.length:=by have:=of_decide_eq_false e1;lia
   walk_at"w";refine⟨sl,_,sg,rfl,esl,fun l os2 G3 s3 hl el hp2=>?_⟩;walk_at"w";have l2:os2.length≤1:=by
    have:=hp2.length;have:=xe7 ((i+sg.length:Nat):Int) sg;lia
   refine⟨rl,l,_,_,rfl,rfl,s3.at erl,el,by rw[ab,ab,ay];lia,?_⟩;intro z hz;generalize hUz:upd G3 z _=G4;have sG4:=xb.of_eq hz hUz;have ez:=xm hUz;clear hUz;walk_at"w";have s4:=s1.trans (sG.trans s3);refine k z (os++os2) _ (decide (sg≠[])) G4 (s4.trans sG4) (s4.back hz) (by rw[ez,aI]) (zQ (L2.Paired.imp' (fun _ _ z=>xB.same z (s3.trans sG4)) hpo) (L2.Paired.imp' (fun _ _ z=>xB.same z sG4) hp2)) ?_;have:=hri.app (xE.put hle hsg hnb);rw[h1]at this;rw[h1];exact this
end
end ML
namespace ML
def xkz(K:ah)(a:Adr):Sp:=fun vs H Q _=>∃(o e:Addr) (to st c:Int) (es:List Int),vs=[.ref o,.ref e]∧xB K a H o (.take to st c)∧H e=some (.lst (es.map V.int))∧0≤st∧0≤c∧st+c≤es.length∧
 ∀(p:Addr) (H':Hp),xb H H'→H p=none→xB K a H' p (.put to ((es.drop st.toNat).take c.toNat))→Q (.ref p) H'
section
variable {P:aH} {w:World} {K:ah} {mg:Str→Option Value} {base:Heap} {a:Adr}
theorem xkA(T:Txt K mg a):xA P w K mg base CX0 4 a.q1T a.xcj ["take","elder"] (xkz K a):=by
 refine T.q1Z.ok xeN (fun vs H Q E h=>?_) (fun cdv A outer s H vs Q E hr h=>?_)
 ·obtain⟨o,e,to,st,c,es,rfl,_⟩:=h;rfl
 ·obtain⟨o,e,to,st,c,es,rfl,⟨dx,h1⟩,he,st0,c0,hle,k⟩:=h;have nd:=xeN.nd;refine⟨_,(xi (xo (jo T.q2M (ue T) (hr.mono (by decide)) (by rfl) T.xeJ T.ji .nil xn (xa (xF (cv 0) rfl) (xa (yF zf (cv 1) (yb (xF (cv 0) rfl)) (yb (xw xU (xF (cv 0) rfl) (xF (cv 0) rfl)))) xf))))),?_⟩;walk_at"w";refine⟨_,_,dx,_,.int to,rfl,h1,T.q0c,T.q0o,rfl,?_⟩;walk_at"w";refine⟨_,_,dx,_,.int st,rfl,h1,T.q0c,T.q0e,rfl,?_⟩;walk_at"w";refine⟨_,rfl,?_⟩;walk_at"w";refine⟨_,_,dx,_,.int st,rfl,h1,T.q0c,T.q0e,rfl,?_⟩;walk_at"w";refine⟨_,_,dx,_,.int c,rfl,h1,T.q0c,T.q0d,rfl,?_⟩;walk_at"w";refine⟨_,rfl,?_⟩;walk_at"w";refine⟨e,_,rfl,SqL.of he,?_⟩;intro q hq;generalize hUq:upd H q _=H1;have sH1:=xb.of_eq hq hUq;have eq:=xm hUq;clear hUq;walk_at"w";have eq2:H1 q=some (.lst (((es.drop st.toNat).take c.toNat).map V.int)):=by
   rw[eq,za,yP st0,yP (by lia)]
   congr 4
   ·rw[cN (by lia),cN (by lia)];lia
   ·rw[cN (by lia)]
  walk_at"w";intro x xdx hx hxdx nex;generalize hUx:upd H1 xdx (.own x)=H2;have sH2:=xb.of_eq hxdx hUx;have hx3:H2 x=none:=by rw[←hUx,xl (bE nex)];exact hx
  refine⟨x,xdx,q,_,(es.drop st.toNat).take c.toNat,rfl,xk,(xb.new hx3).at (sH2.at eq2),fun u H5 hu o5 e5 eu=>⟨rfl,?_⟩⟩;have s5:xb H1 H5:=fun b o z=>o5 b o (fun y=>by rw[y,hx]at z;cases z) ((sH2.trans (xb.new hx3)).at z);exact k x H5 (sH1.trans s5) (sH1.back hx) ⟨xdx,u,e5,eu⟩
end
end ML
def xqs:Stmt→Expr
 | .For _ it _ _ _=>it
 |_=>.Constant .none 0 ⟨0,0,0,0⟩
abbrev xe8:Expr:=xj3 (xqs ((xQ ur).getD 1 (.Pass ⟨0,0,0,0⟩)))
theorem xjy:uo ["one"] ["one"] [] (zt xe8):=⟨rfl,rfl,rfl,by decide+kernel,rfl,by decide+kernel,by decide+kernel,by decide+kernel⟩
def xoq(a:Adr):List (Str×V)→Sp:=fun fv vs H Q _=>∃(p dx t:Addr) (to n:Int),fv=[]∧vs=[.ref p]∧H p=some (.ins a.q0b dx (jj to t n))∧Q (.int to) H
def rTo:xc→Int
 | .take to _ _=>to
 | .put to _=>to
def xC(acc:List xc)(r:xc):List xc:=match acc.getLast?,r with
 |some (.put t sg),.put to sg'=>if t+sg.length=to then acc.dropLast++[.put t (sg++sg')]else acc++[r]
 |_,_=>acc++[r]
def yA(r:xc):Prop:=∃to sg,r= .put to sg∧sg≠[]∧0≤to∧to+sg.length≤1000
theorem xaO{acc:List xc}{r:xc}(h:∀x∈acc,yA x)(hr:yA r):∀x∈xC acc r,yA x:=by
 obtain⟨to,sg',rfl,s1,s2,s3⟩:=id hr;intro x hx;unfold xC at hx
 split at hx
 ·rename_i t sg to2 sg2 hl e;cases e;obtain⟨to3,sg3,e3,u1,u2,u3⟩:=h _ (List.mem_of_getLast? hl);cases e3
  split at hx
  ·rcases aQ.mp hx with z|z
   ·exact h x (List.dropLast_subset _ z)
   ·rw[aA.mp z];exact⟨t,sg++sg',rfl,by simp[u1],u2,by rw[ar];lia⟩
  ·rcases aQ.mp hx with z|z
   ·exact h x z
   ·rw[aA.mp z];exact hr
 ·rcases aQ.mp hx with z|z
  ·exact h x z
  ·rw[aA.mp z];exact hr
theorem xdA{α β:Type}{R:α→β→Prop}:∀{xs:List α} {ys:List β} {y:β},Paired R xs (ys++[y])→∃xs' x,xs=xs'++[x]∧Paired R xs' ys∧R x y
 |_,[],_,.cons h .nil=>⟨[],_,rfl,.nil,h⟩
 |_,_::ys,_,.cons h r=>by
  obtain⟨xs',x,rfl,h1,h2⟩:=xdA r;exact⟨_::xs',x,rfl,.cons h h1,h2⟩
def xlT(K:ah)(a:Adr):Sp:=fun vs H Q _=>∃(l:Addr) (os:List Addr) (ps:List xc),vs=[.ref l]∧SqL K H l (os.map V.ref)∧Paired (xB K a H) os ps∧(∀r∈ps,yA r)∧ps.length<64∧(ps.map rTo).Nodup∧H zH=some (.tbl vM)∧
 ∀(l':Addr) (os':List Addr) (p:List Nat) (G:Hp),xb H G→H l'=none→G l'=some (.lst (os'.map V.ref))→p.Perm (aO ps.length)→((p.map fun i=>rTo (ps.getD i dR)).Pairwise fun x y=>x<y)→Paired (xB K a G) os' ((p.map fun i=>ps.getD i dR).foldl xC [])→Q (.ref l') G
theorem zJ(r:xc):xC [] r=[r]:=by unfold xC;simp
theorem yT(acc:List xc)(t:Int)(sg:List Int)(to:Int)(sg':List Int):xC (acc++[.put t sg]) (.put to sg')=if t+sg.length=to then acc++[.put t (sg++sg')]else acc++[.put t sg]++[.put to sg']:=by
 unfold xC;simp only[List.getLast?_append,List.getLast?_singleton,Option.some_or,List.dropLast_concat]
theorem xB.offw{K:ah}{a:Adr}{H:Hp}{t p:Addr}{r:xc}{xs:List V}{o:HO}(h:xB K a H t r)(hp:H p=some (.lst xs)):xB K a (upd H p o) t r:=by
 have off:∀{b:Addr} {u:HO},H b=some u→(∀ys,u≠.lst ys)→upd H p o b=some u:=fun{b u} e n=>by
  rw[xl (fun z=>by rw[z,hp]at e;cases e;exact n _ rfl)];exact e
 cases r with
 |take to st c=>obtain⟨dx,h⟩:=h;exact⟨dx,off h (by intro _ z;cases z)⟩
 |put to sg=>obtain⟨dx,u,h1,h2⟩:=h;exact⟨dx,u,off h1 (by intro _ z;cases z),off h2 (by intro _ z;cases z)⟩
section
variable {P:aH} {w:World} {K:ah} {mg:Str→Option Value} {base:Heap} {a:Adr}
theorem xgG(T:Txt K mg a):zy P w K mg base CX0 1 "<lambda>" "joined.<locals>.<lambda>" (xaX xe8) (.expr (xaY xe8)) (zt xe8) ["one"] (xoq a):=by
 refine xbh xjy (fun fv vs H Q E h=>?_) (fun _ _ _ _ _ us hl=>match us,hl with|[_],_=>rfl) (fun A outer s H f clos cdv fv vs Q E hr h=>?_)
 ·obtain⟨p,dx,t,to,n,rfl,rfl,_⟩:=h;exact⟨rfl,rfl⟩
 ·obtain⟨p,dx,t,to,n,rfl,rfl,hp,k⟩:=h;have nd:=xjy.nd;refine⟨_,(xF (cv 0) rfl),?_⟩;walk_at"w";exact⟨_,_,dx,_,.int to,rfl,hp,T.q0f,T.q0v,rfl,k⟩
theorem xlU(T:Txt K mg a):xA P w K mg base CX0 4 a.q1U a.xbx ["puts"] (xlT K a):=by
 refine T.jU.okC [] T.xlG xgl (fun vs H Q E h=>?_) (fun A outer s H vs Q E hr h=>?_)
 ·obtain⟨l,os,ps,rfl,_⟩:=h;rfl
 ·obtain⟨l,os,ps,rfl,hl,hp,hok,h64,hnd,hP,k⟩:=h;have nd:=xgl.nd;refine⟨_,(xg (xv (i:=1) nd rfl (aJ rfl) (yn xf))
  (xg (yD bj rfl (xZ (xiF (xgG T) (hr.mono (by decide)) (by rfl) T.q2S (xa (cv 0) xf) (vL (c:=q1l) (P:=zH) (qs:=vM) (fns:=[]) rfl T.q2T (q:="joined.<locals>.<lambda>") (by kernel_rfl) (.head _) (by kernel_rfl) (by kernel_rfl)))) (xO (i:=2) nd rfl (aJ rfl)) (xi (xM (PW.pt (uF (xD xdN (xt xy (by rfl) T.q0i xN (xa (cv 1) xf)) xh) (uy (xD ug (xu xx (xI (xu xX (cv 1) (xm7 xng xh) (fun _ _=>rfl)) T.q0f T.q19 (zv T) (hr.mono (by decide)) T.uT .nil xn) xh (fun _ _=>rfl)) (xF (cv 2) rfl))))) (xg (xv (i:=3) nd rfl (aJ rfl) (xoZ PySem.F.plainAttrs_list PySem.F.slot_list_pop PySem.F.type_list_pop xo0 (cv 1)))
  (xi (yE (uE PySem.F.plainAttrs_list PySem.F.slot_list_append PySem.F.type_list_append yH (cv 1) (xa (jo T.q2M (ue T) (hr.mono (by decide)) (by rfl) T.xeJ T.ji .nil xn (xa (xF (cv 3) rfl) (xa (xw xnw (xF (cv 3) rfl) (xF (cv 2) rfl)) xf))) xf))))) (xi (yE (uE PySem.F.plainAttrs_list PySem.F.slot_list_append PySem.F.type_list_append yH (cv 1) (xa (cv 2) xf)))))))
  (xi (xo (cv 1))))),?_⟩
  have elen:os.length=ps.length:=hp.length;walk_at"w";walk_at"ss";intro wl hwl;generalize hUwl:upd H wl _=H1;have sH1:=xb.of_eq hwl hUwl;have ewl:=xm hUwl;clear hUwl;walk_at"w";refine⟨sH1.at hP,[],rfl,fun x v m=>by simp at m,fun f H2 hf s2 hcl=>?_⟩;have s02:xb H H2:=sH1.trans s2;walk_at"w";refine⟨l,f,os.map V.ref,[],fun i=>rTo (ps.getD i dR),rfl,rfl,s02.seq hl,by rw[ab];lia,hcl,fun i x hx H3 s3=>?_,⟨fun i hi=>by simp,fun i j k _ _ _ h1 h2=>decide_eq_true (by have:=of_decide_eq_true h1;have:=of_decide_eq_true h2;lia),fun i j hi hj hij=>?_⟩,fun sl p H3 s3 hsl esl hpm hpw=>?_⟩
  ·rw[ao]at hx;cases ho:os[i]? with
   |none=>rw[ho]at hx;cases hx
   |some o=>
    rw[ho]at hx;cases hx;obtain⟨pr,hy,py⟩:=xK hp ho;obtain⟨to,sg,rfl,_⟩:=hok pr (aG hy);obtain⟨dx,t,p1,p2⟩:=py;refine⟨o,dx,t,to,sg.length,rfl,rfl,(s02.trans s3).at p1,xb.refl _,?_⟩;have:ps.getD i dR= .put to sg:=by simp only[a9];rw[hy];rfl
    show V.int to=V.int (rTo (ps.getD i dR));rw[this];rfl
  ·rw[ab]at hi hj;have hi2:i<ps.length:=by lia
   have hj2:j<ps.length:=by lia
   have gi:rTo (ps.getD i dR)=rTo ps[i]:=by simp[a9,hi2]
   have gj:rTo (ps.getD j dR)=rTo ps[j]:=by simp[a9,hj2]
   show decide (rTo (ps.getD i dR)<rTo (ps.getD j dR))=true∨decide (rTo (ps.getD j dR)<rTo (ps.getD i dR))=true;rw[gi,gj];have ne:rTo ps[i]≠rTo ps[j]:=by
    rcases Nat.lt_or_gt_of_ne hij with z|z
    ·have:=bt.mp hnd i j (by simp;lia) (by simp;lia) z;simpa using this
    ·have:=bt.mp hnd j i (by simp;lia) (by simp;lia) z;intro e;exact this (by simp[e])
   rcases Int.lt_or_gt_of_ne ne with z|z
   ·exact .inl (decide_eq_true z)
   ·exact .inr (decide_eq_true z)
  ·walk_at"w";rw[ab,elen]at hpm;have s03:xb H H3:=s02.trans s3;have hwl:H wl=none:=hwl;refine⟨sl,rfl,⟨_,SqL.of esl⟩,?_⟩;have hmem:∀i∈p,i<ps.length:=fun i hi=>bh.mp (hpm.mem_iff.mp hi);refine yY (fun i σ G=>xb H G∧G sl=some (.lst (p.map fun(i:Nat)=>(os.map V.ref).getD i .non))∧∃(z2 z3:Option V) (ros:List Addr),σ=[some (.ref l),some (.ref wl),z2,z3]∧G wl=some (.lst (ros.map V.ref))∧Paired (xB K a G) ros (((p.take i).map fun i=>ps.getD i dR).foldl xC [])∧(∀x∈((p.take i).map fun i=>ps.getD i dR).foldl xC [],yA x)∧ros.length≤i)
    ⟨s03,esl,_,_,[],rfl,(s2.trans s3).at ewl,.nil,fun x hx=>by simp at hx,aj _⟩ (fun i σ G _ hPv=>SqL.of hPv.2.1) (fun i x σ G hx hPv=>?_) (fun σ G hPv=>?_)
   ·obtain⟨sG,hsG,z2,z3,ros,rfl,hwG,hpr,hpk,hrl⟩:=hPv;rw[ao]at hx;cases hpi:p[i]? with
    |none=>rw[hpi]at hx;cases hx
    |some j=>
    rw[hpi]at hx;have hj:j<ps.length:=hmem j (aG hpi);have hjo:j<os.length:=by lia
    have ex:x= .ref os[j]:=by cases hx;simp[a9,hjo]
    clear hx;subst ex;have hil:i<p.length:=(aD.mp hpi).1;have hpl:p.length=ps.length:=by have:=hpm.length_eq;simpa using this
    obtain⟨pr,hy,py⟩:=xK hp (ai hjo);have hpk2:=hok pr (aG hy);obtain⟨to,sg',rfl,g1,g2,g3⟩:=id hpk2;have egj:ps.getD j dR= .put to sg':=by simp only[a9];rw[hy];rfl
    have enext:((p.take (i+1)).map fun i=>ps.getD i dR).foldl xC []=xC (((p.take i).map fun i=>ps.getD i dR).foldl xC []) (.put to sg'):=by
     rw[bG,hpi];simp[List.foldl_append,egj];rw[←egj];rfl
    have hnext:=xaO hpk hpk2;rw[enext];have hwsl:wl≠sl:=fun z=>by rw[z]at ewl;have:=s2.at ewl;rw[hsl]at this;cases this
    generalize ((p.take i).map fun i=>ps.getD i dR).foldl xC []=acc at hpr hpk hnext⊢;obtain⟨dx,u,o1,o2⟩:=py.same sG;clear enext;walk_at"w";refine⟨wl,_,rfl,.inl (SqL.of hwG),?_⟩;walk_at"w";have app:xC acc (.put to sg')=acc++[.put to sg']→∀(G':Hp),xb G G'→xb H (upd G' wl (.lst (ros.map V.ref++[.ref os[j]])))∧upd G' wl (.lst (ros.map V.ref++[.ref os[j]])) sl=some (.lst (p.map fun(i:Nat)=>(os.map V.ref).getD i .non))∧∃(z2' z3':Option V) (ros':List Addr),([some (.ref l),some (.ref wl),some (.ref os[j]),z3]:L2.St)=[some (.ref l),some (.ref wl),z2',z3']∧upd G' wl (.lst (ros.map V.ref++[.ref os[j]])) wl=some (.lst (ros'.map V.ref))∧Paired (xB K a (upd G' wl (.lst (ros.map V.ref++[.ref os[j]])))) ros' (xC acc (.put to sg'))∧(∀x∈xC acc (.put to sg'),yA x)∧ros'.length≤i+1:=fun ej G' g=>by
     refine⟨(sG.trans g).put hwl,by rw[xl (bE hwsl)];exact g.at hsG,_,_,ros++[os[j]],rfl,by rw[xk,aI];rfl,?_,hnext,by rw[ar,bN];lia⟩;rw[ej];exact yd (L2.Paired.imp' (fun _ _ z=>(z.same g).offw (g.at hwG)) hpr) (xB.offw (r:=.put to sg') ⟨dx,u,g.at o1,g.at o2⟩ (g.at hwG))
    refine⟨fun e1=>?_,fun e1=>?_⟩
    ·rcases d8 acc with z|⟨acc',last,z⟩
     ·subst z;cases hpr;simp at e1
     rw[d9]at z;subst z;obtain⟨ros',lo,rfl,hpr',hlast⟩:=xdA hpr;obtain⟨t,sg,rfl,u1,u2,u3⟩:=hpk last (by simp);obtain⟨ldx,lu,l1,l2⟩:=hlast;walk_at"w";have hat:atI ((ros'++[lo]).map V.ref) (-1)=some (.ref lo):=by
      rw[aI];have e:ixN (ros'.length+1) (-1)=some ros'.length:=by
       unfold ixN
       first
        |(rw[if_neg (by lia),if_pos (by lia)];congr 1;lia)
        |(simp;lia)
        |simp
      simp[atI,e]
     refine⟨wl,_,_,_,rfl,rfl,SqL.of hwG,hat,?_⟩;walk_at"w";refine⟨lo,ldx,_,rfl,l1,rfl,?_⟩;walk_at"w";refine⟨lo,_,ldx,_,t,sg.length,rfl,l1,T.q0f,T.q0v,T.q0j,rfl,rfl,fun ct hct=>?_⟩;generalize hV:upd G ct _=G1;have gG1:=xb.of_eq hct hV;have ect:=xm hV;clear hV;walk_at"w";refine⟨ct,_,_,.int (t+sg.length),rfl,rfl,SqT.of ect,rfl,?_⟩;walk_at"w";refine⟨_,_,dx,_,.int to,rfl,gG1.at o1,T.q0f,T.q0v,rfl,?_⟩;walk_at"w";refine⟨fun e2=>?_,fun e2=>?_⟩
     ·have ht2:t+sg.length=to:=of_decide_eq_true e2;walk_at"w";refine⟨.inl ⟨rfl,_,SqL.of (gG1.at hwG)⟩,wl,_,.ref lo,rfl,rfl,gG1.at hwG,by simp,?_⟩;have edl:((ros'++[lo]).map V.ref).dropLast=ros'.map V.ref:=by rw[aI];simp
      rw[edl];generalize hU:upd G1 wl _=G2;have hw2:=xm hU;have off2:∀b w0,b≠wl→G1 b=some w0→G2 b=some w0:=fun b w0 hb e=>by rw[←hU,xl hb];exact e
      have hs2:xb H G2:=by rw[←hU];exact(sG.trans gG1).put hwl
      have nl:∀{b:Addr} {w0:HO},G1 b=some w0→(∀ys,w0≠.lst ys)→b≠wl:=fun{b w0} e n z=>by rw[z,gG1.at hwG]at e;cases e;exact n _ rfl
      have hpr2:Paired (xB K a G2) ros' acc':=by rw[←hU];exact L2.Paired.imp' (fun _ _ z=>(z.same gG1).offw (gG1.at hwG)) hpr'
      clear hU;have l1':=off2 lo _ (nl (gG1.at l1) (by intro _ z;cases z)) (gG1.at l1);have l2':=off2 lu _ (nl (gG1.at l2) (by intro _ z;cases z)) (gG1.at l2);have o1':=off2 os[j] _ (nl (gG1.at o1) (by intro _ z;cases z)) (gG1.at o1);have o2':=off2 u _ (nl (gG1.at o2) (by intro _ z;cases z)) (gG1.at o2);have hsl2:=off2 sl _ (bE hwsl) (gG1.at hsG);walk_at"w";refine⟨.inl ⟨rfl,_,SqL.of hw2⟩,?_⟩;walk_at"w";refine⟨_,_,ldx,_,.int t,rfl,l1',T.q0f,T.q0v,rfl,?_⟩;walk_at"w";refine⟨_,_,ldx,_,.ref lu,rfl,l1',T.q0f,T.q0w,rfl,?_⟩;walk_at"w";refine⟨_,_,dx,_,.ref u,rfl,o1',T.q0f,T.q0w,rfl,?_⟩;walk_at"w";refine⟨lu,u,_,_,rfl,rfl,SqT.of l2',SqT.of o2',by simpa using u1,by rw[ab,ab,ay];lia,fun z=>absurd z (by simpa using g1),fun _ cp hcp=>?_⟩;generalize hW:upd G2 cp _=G3;have g3':=xb.of_eq hcp hW;have ecp:=xm hW;clear hW;walk_at"w";intro x xdx hx hxdx nex;generalize hUx:upd G3 xdx (.own x)=G4;have sG4:=xb.of_eq hxdx hUx;have hx3:G4 x=none:=by rw[←hUx,xl (bE nex)];exact hx
      refine⟨x,xdx,cp,t,_,rfl,xk,SqT.of ((xb.new hx3).at (sG4.at ecp)),rfl,?_⟩;rw[zw];generalize hX:upd G4 x _=G5;have g5:=xb.of_eq hx3 hX;have ex5:=xm hX;clear hX;have g35:xb G3 G5:=sG4.trans g5;have g25:xb G2 G5:=g3'.trans g35;walk_at"w";refine⟨wl,_,_,rfl,rfl,g25.at hw2,by rw[ab,ay];rw[ar,bN]at hrl;lia,?_⟩;refine⟨(hs2.trans g25).put hwl,by rw[xl (bE hwsl)];exact g25.at hsl2,_,_,ros'++[x],rfl,by rw[xk,aI];rfl,?_,hnext,by rw[ar,bN]at hrl⊢;lia⟩;rw[yT,if_pos ht2];refine yd (L2.Paired.imp' (fun _ _ z=>(z.same g25).offw (g25.at hw2)) hpr2) (xB.offw (r:=.put t (sg++sg')) ⟨xdx,cp,?_,?_⟩ (g25.at hw2))
      ·rw[ex5];simp
      ·rw[g35.at ecp,aI]
     ·have ht2:¬t+sg.length=to:=of_decide_eq_false e2;walk_at"w";refine⟨.inl ⟨rfl,_,SqL.of (gG1.at hwG)⟩,?_⟩;walk_at"w";refine⟨wl,_,_,rfl,rfl,gG1.at hwG,by rw[ab,ay];lia,?_⟩;exact app (by rw[yT,if_neg ht2]) _ gG1
    ·have hr0:ros=[]:=by
      have:=of_decide_eq_false e1;rw[ab]at this;exact df.mp (by lia)
     subst hr0;have ha0:acc=[]:=by cases hpr;rfl
     subst ha0;refine⟨by walk_at"no",fun _=>?_⟩;walk_at"w";refine⟨.inl ⟨rfl,_,SqL.of ((xb.refl G).at hwG)⟩,?_⟩;walk_at"w";refine⟨wl,_,_,rfl,rfl,(xb.refl G).at hwG,by rw[ab,ay];lia,?_⟩;exact app (zJ _) _ (xb.refl G)
   ·obtain⟨sG,hsG,z2,z3,ros,rfl,hwG,hpr,hpk,hrl⟩:=hPv;rw[ab,a8 (aj _)]at hpr;walk_at"w";exact k wl ros p G sG hwl hwG hpm (bQ.mpr (hpw.imp fun h=>of_decide_eq_true h)) hpr
end
theorem Goes.sub{xss:List (List Int)}{key:Int→List Int}{left ord:List Int}{tur:List (Int×List Int)}(h:Goes xss key left ord tur):(∀x∈ord,x∈left)∧∀x∈tur,x.1∈left:=by
 induction h with
 |nil=>exact⟨fun _ h=>h,fun _ h=>by simp at h⟩
 |keep k hk _ _ ih=>
  refine⟨fun x hx=>?_,fun x hx=>(aK.mp (ih.2 x hx)).1⟩;rcases ax.mp hx with z|z
  ·rw[z];exact hk
  ·exact(aK.mp (ih.1 x z)).1
 |turn k _ _ _ hk _ ih=>
  refine⟨fun x hx=>(aK.mp (ih.1 x hx)).1,fun x hx=>?_⟩;rcases ax.mp hx with z|z
  ·rw[z];exact hk
  ·exact(aK.mp (ih.2 x z)).1
theorem xcL{left:List Int}{k:Int}(hn:left.Nodup)(hk:k∈left):(k::left.filter fun x=>decide (x≠k)).Perm left:=by
 refine(List.perm_ext_iff_of_nodup ?_ hn).mpr fun x=>?_
 ·exact bT.mpr ⟨fun h=>by simpa using(aK.mp h).2,hn.filter _⟩
 ·rw[ax,aK];constructor
  ·rintro(z|z)
   ·rw[z];exact hk
   ·exact z.1
  ·intro h
   by_cases e:x=k
   ·exact .inl e
   ·exact .inr ⟨h,by simpa using e⟩
theorem Goes.perm{xss:List (List Int)}{key:Int→List Int}{left ord:List Int}{tur:List (Int×List Int)}(h:Goes xss key left ord tur):left.Nodup→(ord++tur.map (·.1)).Perm left:=by
 induction h with
 |nil=>exact fun _=>.refl _
 |keep k hk _ _ ih=>exact fun hn=>((ih (hn.filter _)).cons k).trans (xcL hn hk)
 |turn k _ _ _ hk _ ih=>exact fun hn=>(List.perm_middle.trans ((ih (hn.filter _)).cons k)).trans (xcL hn hk)
theorem Goes.pair{xss:List (List Int)}{key:Int→List Int}{left ord:List Int}{tur:List (Int×List Int)}(h:Goes xss key left ord tur):ord.Pairwise fun k x=>x∉xss.getD k.toNat []:=by
 induction h with
 |nil=>exact .nil
 |keep k hk hh hg ih=>exact cO.mpr ⟨fun x hx hm=>hh ⟨x,(aK.mp (hg.sub.1 x hx)).1,hm⟩,ih⟩
 |turn k _ _ _ hk _ ih=>exact ih
theorem xih:∀{rs:List xc} {n:Nat} {wr:List Int},(∀r∈rs,∀x∈r.rds,x∉wr)→(rs.Pairwise fun r s=>∀x∈s.rds,x∉r.wrs)→vB n rs wr=none
 |[],_,_,_,_=>rfl
 |r::rs,n,wr,h,hp=>by
  obtain⟨h1,h2⟩:=cO.mp hp;have e:(r.rds.find? fun c=>decide (c∈wr))=none:=fz.mpr fun x hx=>by simpa using h r aF x hx
  unfold vB;rw[e];exact xih (fun s hs x hx hm=>by
   rcases aQ.mp hm with z|z
   ·exact h s (aq _ hs) x hx z
   ·exact h1 s hs x hx z) h2
theorem xii{lo x:Int}{n:Nat}(h:x∈yf lo n):lo≤x∧x<lo+n:=by
 unfold yf at h;obtain⟨i,hi,rfl⟩:=aN.mp h;have:=bh.mp hi;lia
theorem xpH{s:xc}{x:Int}(h:x∈s.rds):s.rd.1≤x∧x<s.rd.2:=by
 cases s with
 |put _ _=>simp[xc.rds]at h
 |take to st c=>
  by_cases e:st=to
  ·simp[xc.rds,e]at h
  ·have h2:x∈yf st c.toNat:=by simpa [xc.rds,e]using h
   have:=xii h2;have e2:xc.rd (.take to st c)=(st,st+c):=by simp[xc.rd,e]
   rw[e2];exact⟨this.1,by show x<st+c;lia⟩
theorem xpI{s:xc}{x:Int}(h:x∈s.wrs):s.wr.1≤x∧x<s.wr.2:=by
 cases s with
 |put to sg=>exact xii (show x∈yf to sg.length from h)
 |take to st c=>
  by_cases e:st=to
  ·simp[xc.wrs,e]at h
  ·have h2:x∈yf to c.toNat:=by simpa [xc.wrs,e]using h
   have:=xii h2;have e2:xc.wr (.take to st c)=(to,to+c):=by simp[xc.wr,e]
   rw[e2];exact⟨this.1,by show x<to+c;lia⟩
theorem xos{r s:xc}(h:xbE r.wr s.rd=false):∀x∈s.rds,x∉r.wrs:=fun x hx hw=>by
 have h:=of_decide_eq_false h;have a1:=xpH hx;have a2:=xpI hw;omega
theorem xqt{rs:List xc}{k x:Int}(k0:0≤k)(k1:k<rs.length)(x0:0≤x)(x1:x<rs.length)(ne:x≠k)(h:x∉(ya rs).getD k.toNat []):xbE (rs.getD k.toNat dR).wr (rs.getD x.toNat dR).rd=false:=by
 have hk:k.toNat<rs.length:=by lia
 have hx:x.toNat<rs.length:=by lia
 have e:(ya rs).getD k.toNat []=vD k.toNat ((rs.map xc.wr).getD k.toNat (0,0)) (rs.map xc.rd):=by simp[ya,a9,hk]
 rw[e]at h;have e1:(rs.map xc.wr).getD k.toNat (0,0)=(rs.getD k.toNat dR).wr:=by simp[a9,hk]
 have e2:(rs.map xc.rd).getD x.toNat (0,0)=(rs.getD x.toNat dR).rd:=by simp[a9,hx]
 rw[e1]at h;cases hm:xbE (rs.getD k.toNat dR).wr (rs.getD x.toNat dR).rd with
 |false=>rfl
 |true=>
  refine absurd (aN.mpr ⟨x.toNat,aK.mpr ⟨bh.mpr (by rw[ab];exact hx),?_⟩,by lia⟩) h;rw[e2,hm,iQ];simp;lia
theorem xlV{rs puts:List xc}{key:Int→List Int}{ord:List Int}{tur:List (Int×List Int)}(h:Goes (ya rs) key ((aO rs.length).map fun(i:Nat)=>(i:Int)) ord tur)(hp:∀r∈puts,r.isTake=false):jk ((ord.map fun x=>rs.getD x.toNat dR)++puts)=none:=by
 have hin:∀x∈ord,0≤x∧x<rs.length:=fun x hx=>by
  obtain⟨i,hi,rfl⟩:=aN.mp (h.sub.1 x hx);have:=bh.mp hi;lia
 have hnd:ord.Nodup:=by
  have h1:=(h.perm (bQ.mpr (dQ.imp fun h e=>h (by lia)))).nodup_iff.mpr (bQ.mpr (dQ.imp fun h e=>h (by lia)));exact(List.nodup_append.mp h1).1
 have hput:∀{s:xc},s∈puts→s.rds=[]:=fun{s} hs=>by
  cases s with
  |take _ _ _=>have:=hp _ hs;cases this
  |put _ _=>rfl
 refine xih (fun r _ x _=>by simp) (cT.mpr ⟨bQ.mpr ?_,?_,fun r _ s hs x hx=>by rw[hput hs]at hx;simp at hx⟩)
 ·refine(hnd.and h.pair).imp_of_mem fun{k x} hk hx hq=>?_;exact xos (xqt (hin k hk).1 (hin k hk).2 (hin x hx).1 (hin x hx).2 (bE hq.1) hq.2)
 ·exact List.pairwise_of_forall_mem_list fun r _ s hs x hx=>by rw[hput hs]at hx;simp at hx
theorem xcM{acc:List xc}{to:Int}{sg':List Int}(h:∀x∈acc,yA x)(j:Nat):(∃r∈xC acc (.put to sg'),xV r j)↔(∃r∈acc,xV r j)∨xV (.put to sg') j:=by
 rcases d8 acc with z|⟨acc',last,z⟩
 ·subst z;rw[zJ];simp
 ·rw[d9]at z;subst z;obtain⟨t,sg,rfl,u1,u2,u3⟩:=h last (by simp);rw[yT]
  split
  ·rename_i e;have key:xV (.put t (sg++sg')) j↔xV (.put t sg) j∨xV (.put to sg') j:=by
    unfold xV;simp only[xc.to,xc.cnt,ar];omega
   simp only[aQ,aA,or_and_right,exists_or,exists_eq_left,key];exact or_assoc.symm
  ·simp only[aQ,aA,or_and_right,exists_or,exists_eq_left]
theorem xfS{es nw:List Int}{acc:List xc}{to:Int}{sg':List Int}(h:∀x∈acc,yA x)(hr:yA (.put to sg'))(ha:∀x∈acc,Tells es nw x)(ht:Tells es nw (.put to sg')):∀x∈xC acc (.put to sg'),Tells es nw x:=by
 rcases d8 acc with z|⟨acc',last,z⟩
 ·subst z;rw[zJ];intro x hx;rw[aA.mp hx];exact ht
 ·rw[d9]at z;subst z;obtain⟨t,sg,rfl,u1,u2,u3⟩:=h last (by simp);obtain⟨to2,sg2,e2,v1,v2,v3⟩:=hr;cases e2;have hl:=ha _ (aS _ (fi _));rw[yT]
  split
  ·rename_i e;intro x hx;rcases aQ.mp hx with q|q
   ·exact ha x (b7 _ q)
   ·rw[aA.mp q];obtain⟨⟨a1,a2,a3,a4⟩,_,a5,a6⟩:=hl;obtain⟨⟨b1,b2,b3,b4⟩,_,b5,b6⟩:=ht;simp only[xc.to,xc.cnt,xc.sg]at a5 a6 b5 b6;refine⟨⟨a1,by simp[a2],by rw[ar];lia,fun y hy=>?_⟩,cQ,?_,fun i hi=>?_⟩
    ·rcases aQ.mp hy with w|w
     ·exact a4 y w
     ·exact b4 y w
    ·simp only[xc.to,xc.cnt,ar];lia
    ·simp only[xc.to,xc.cnt,xc.sg,ar]at hi⊢
     by_cases c:i<sg.length
     ·rw[bp c];exact a6 i c
     ·rw[bz (by lia)];have:=b6 (i - sg.length) (by lia);rw[←this]
      congr 2
      lia
  ·intro x hx;rcases aQ.mp hx with q|q
   ·exact ha x q
   ·rw[aA.mp q];exact ht
namespace ML
theorem xE.side{es ns:List Int}{least:Int}:∀{rs:List xc} {i j:Nat} {b b':Bool},xE es ns least i b rs j b'→i≤j∧(∀r∈rs,(i:Int)≤r.to∧r.to+r.cnt≤j∧0<r.cnt)∧(rs.Pairwise fun r s=>r.to+(r.cnt:Int)≤s.to)∧∀c,i≤c→c<j→∃r∈rs,xV r c
 |[],i,j,b,b',h=>by
  have:=h.1;exact⟨by lia,fun r hr=>by simp at hr,.nil,fun c h1 h2=>by lia⟩
 | .put to sg::rs,i,j,b,b',h=>by
  obtain⟨h1,h2,h3,h4,h5,h6,h7⟩:=h;obtain⟨g1,g2,g3,g4⟩:=h7.side;have hp:=bB.mpr h3;subst h2;refine⟨by lia,fun r hr=>?_,cO.mpr ⟨fun s hs=>?_,g3⟩,fun c c1 c2=>?_⟩
  ·rcases ax.mp hr with z|z
   ·rw[z];simp only[xc.to,xc.cnt];lia
   ·have:=g2 r z;lia
  ·have:=(g2 s hs).1;show(i:Int)+(sg.length:Int)≤s.to;lia
  ·by_cases q:c<i+sg.length
   ·exact⟨_,aF,by unfold xV;simp only[xc.to,xc.cnt];lia⟩
   ·obtain⟨r,hr,hc⟩:=g4 c (by lia) c2;exact⟨r,aq _ hr,hc⟩
 | .take to st c::rs,i,j,b,b',h=>by
  obtain⟨st',c',h1,h2,h3,h4,h5,h6,h7,h8⟩:=h;obtain⟨g1,g2,g3,g4⟩:=h8.side;subst h1;subst h2;subst h3;refine⟨by lia,fun r hr=>?_,cO.mpr ⟨fun s hs=>?_,g3⟩,fun d c1 c2=>?_⟩
  ·rcases ax.mp hr with z|z
   ·rw[z];simp only[xc.to,xc.cnt];lia
   ·have:=g2 r z;lia
  ·have:=(g2 s hs).1;show(i:Int)+(((c':Int).toNat:Nat):Int)≤s.to;lia
  ·by_cases q:d<i+c'
   ·exact⟨_,aF,by unfold xV;simp only[xc.to,xc.cnt];lia⟩
   ·obtain⟨r,hr,hc⟩:=g4 d (by lia) c2;exact⟨r,aq _ hr,hc⟩
theorem xij:∀xs ys:List Int,lcp xs ys≤xs.length
 |[],_=>by simp[lcp]
 |x::xs,[]=>by simp[lcp]
 |x::xs,y::ys=>by
  rw[ux]
  split
  ·have:=xij xs ys;simp only[aT];lia
  ·lia
theorem zI.tells{es ps:List Int}{a c:Nat}(h:zI es ps es.length a c)(h0:0<c):a+c≤es.length∧(es.drop a).take c=ps.take c:=by
 rcases h.2 with z|⟨_,g1,g2,_⟩
 ·lia
 ·have h1:=xij (es.drop a) ps;have h2:=xcK (es.drop a) ps;rw[aX]at h1;exact⟨by lia,(xab (by lia)).mpr (by lia)⟩
theorem xE.tells{es ns:List Int}{least:Int}(hb:Bnd ns)(hn:ns.length≤100):∀{rs:List xc} {i j:Nat} {b b':Bool},xE es ns least i b rs j b'→∀r∈rs,Tells es ns r∧xhV es.length ns.length r
 |[],i,j,b,b',h=>fun r hr=>by simp at hr
 | .put to sg::rs,i,j,b,b',h=>fun r hr=>by
  obtain⟨h1,h2,h3,h4,h5,h6,h7⟩:=h;rcases ax.mp hr with z|z
  ·subst z;subst h2;refine⟨⟨⟨by lia,h3,by lia,fun x hx=>?_⟩,cQ,by simp only[xc.to,xc.cnt];lia,fun k hk=>?_⟩,by show(i:Int)+sg.length≤ns.length;lia⟩
   ·rw[h5]at hx;exact hb x (fQ (fR hx))
   ·have hk:k<sg.length:=hk;show ns[((i:Int)+(k:Int)).toNat]? =sg[k]?;have e:sg[k]? =((ns.drop i).take sg.length)[k]? :=by rw[←h5]
    rw[e,cJ hk,c9]
    congr 1
  ·exact h7.tells hb hn r z
 | .take to st c::rs,i,j,b,b',h=>fun r hr=>by
  obtain⟨st',c',h1,h2,h3,h4,h5,h6,h7,h8⟩:=h;rcases ax.mp hr with z|z
  ·subst z;subst h1;subst h2;subst h3;obtain⟨g1,g2⟩:=h7.tells h5;refine⟨⟨⟨by lia,by lia,by lia⟩,by show(st':Int)+(c':Int)≤es.length;lia,by simp only[xc.to,xc.cnt];lia,fun k hk=>?_⟩,by show(st':Int)+c'≤es.length∧(i:Int)+c'≤ns.length;lia⟩;have hk:k<c':=by simpa [xc.cnt]using hk
   show ns[((i:Int)+(k:Int)).toNat]? =((es.drop (st':Int).toNat).take (c':Int).toNat)[k]?;rw[bJ,bJ,g2,cJ hk,c9]
   congr 1
  ·exact h8.tells hb hn r z
theorem uk{α β:Type}{R:α→β→Prop}{p:α→Bool}{q:β→Bool}:∀{xs:List α} {ys:List β},Paired R xs ys→(∀x y,R x y→p x=q y)→Paired R (xs.filter p) (ys.filter q)
 |_,_,.nil,_=>.nil
 |x::xs,y::ys,.cons h r,e=>by
  have:=e x y h;cases hq:q y with
  |true=>rw[fh (by rw[this];exact hq),fh hq];exact .cons h (uk r e)
  |false=>rw[fg (by rw[this,hq];decide),fg (by rw[hq];decide)];exact uk r e
noncomputable def isT(K:ah)(a:Adr)(H:Hp)(o:Addr):Bool:=open Classical in decide (∃r,xB K a H o r∧r.isTake=true)
theorem xik{K:ah}{a:Adr}{H:Hp}{o:Addr}{r:xc}(h:xB K a H o r):isT K a H o=r.isTake:=by
 cases r with
 |take to st c=>unfold isT;exact@decide_eq_true _ (kA _) ⟨_,h,rfl⟩
 |put to sg=>
  unfold isT;refine@decide_eq_false _ (kA _) ?_;rintro⟨r2,h2,e2⟩;cases r2 with
  |put _ _=>cases e2
  |take to2 st2 c2=>
   obtain⟨dx,u,h1,_⟩:=h;obtain⟨dx2,h3⟩:=h2;rw[h1]at h3;injection h3 with h3;injection h3 with _ _ h4;have h5:((["to","count","signs"]:List Str))=(["to","count","source"]:List Str):=congrArg (fun l=>l.map (·.1)) h4
   revert h5
   decide+kernel
end ML
namespace ML
def Off(r s:xc):Prop:=∀c∈r.cv,c∉s.cv
theorem jm{r:xc}{c:Int}:c∈r.cv↔r.to≤c∧c<r.to+r.cnt:=by
 cases r with
 |take to st n=>exact xbA
 |put to sg=>exact xbA
theorem Off.sym{r s:xc}(h:Off r s):Off s r:=fun c h1 h2=>h c h2 h1
theorem xmR{A L:List xc}{x y z:xc}(e:∀c,c∈z.cv→c∈x.cv∨c∈y.cv)(h:(A++x::y::L).Pairwise Off):(A++z::L).Pairwise Off:=by
 obtain⟨h1,h2,h3⟩:=cT.mp h;obtain⟨h4,h5⟩:=cO.mp h2;obtain⟨h6,h7⟩:=cO.mp h5;refine cT.mpr ⟨h1,cO.mpr ⟨fun s hs c hc=>?_,h7⟩,fun r hr s hs=>?_⟩
 ·rcases e c hc with q|q
  ·exact h4 s (aq _ hs) c q
  ·exact h6 s hs c q
 ·rcases ax.mp hs with q|q
  ·subst q;intro c c1 c2;rcases e c c2 with q|q
   ·exact h3 r hr x aF c c1 q
   ·exact h3 r hr y (aq _ aF) c c1 q
  ·exact h3 r hr s (aq _ (aq _ q))
theorem xil{X acc L:List xc}{r:xc}(h:∀x∈acc,yA x)(hr:yA r)(hp:(X++acc++r::L).Pairwise Off):(X++xC acc r++L).Pairwise Off∧(xC acc r).length≤acc.length+1:=by
 obtain⟨to,sg',rfl,v1,v2,v3⟩:=hr;rcases d8 acc with z|⟨acc',last,z⟩
 ·subst z;rw[zJ];exact⟨by simpa using hp,by simp⟩
 ·rw[d9]at z;subst z;obtain⟨t,sg,rfl,u1,u2,u3⟩:=h last (by simp);rw[yT]
  split
  ·rename_i e;refine⟨?_,by simp⟩;have hp':((X++acc')++xc.put t sg::xc.put to sg'::L).Pairwise Off:=by simpa using hp
   have:=xmR (z:=.put t (sg++sg')) (fun c hc=>by
    rw[jm]at hc⊢;rw[jm];simp only[xc.to,xc.cnt,ar]at hc⊢;omega) hp'
   simpa using this
  ·exact⟨by simpa using hp,by simp⟩
theorem xnn{es nw:List Int}{X:List xc}:∀{L acc:List xc},(∀x∈acc,yA x)→(∀x∈L,yA x)→(∀x∈acc,Tells es nw x)→(∀x∈L,Tells es nw x)→(X++acc++L).Pairwise Off→
  (∀x∈L.foldl xC acc,yA x)∧(∀x∈L.foldl xC acc,Tells es nw x)∧(X++L.foldl xC acc).Pairwise Off∧(L.foldl xC acc).length≤acc.length+L.length∧∀j,((∃r∈acc,xV r j)∨∃r∈L,xV r j)→∃r∈L.foldl xC acc,xV r j
 |[],acc,h1,h2,h3,h4,h5=>⟨h1,h3,by simpa using h5,by simp,fun j h=>by
   rcases h with h|⟨r,hr,_⟩
   ·exact h
   ·simp at hr⟩
 |r::L,acc,h1,h2,h3,h4,h5=>by
  have hr:=h2 r aF;obtain⟨to,sg',rfl,v1,v2,v3⟩:=id hr;have ht:=h4 _ aF;obtain⟨o1,o2⟩:=xil h1 hr h5;obtain⟨g1,g2,g3,g4,g5⟩:=xnn (L:=L) (xaO h1 hr) (fun x hx=>h2 x (aq _ hx)) (xfS h1 hr h3 ht) (fun x hx=>h4 x (aq _ hx)) o1;refine⟨g1,g2,g3,?_,fun j hj=>g5 j ?_⟩
  ·rw[aT];rw[kJ];lia
  ·rcases hj with q|⟨s,hs,hc⟩
   ·exact .inl ((xcM h1 j).mpr (.inl q))
   ·rcases ax.mp hs with z|z
    ·subst z;exact .inl ((xcM h1 j).mpr (.inr hc))
    ·exact .inr ⟨s,z,hc⟩
def zR(es:List Int)(r:xc):xc:=.put r.to (r.sg es)
theorem xcN{es nw:List Int}{r:xc}(h:Tells es nw r):(zR es r).cnt=r.cnt:=xc.sg_len h.1 h.2.1
theorem xmS{es nw:List Int}{r:xc}(h:Tells es nw r):(zR es r).cv=r.cv:=by
 have:=xcN h;cases r with
 |take to st n=>unfold zR xc.cv;simp only[xc.to];congr 1
 |put to sg=>rfl
theorem zl{es nw:List Int}{r:xc}(h:Tells es nw r):0<r.cnt:=by
 cases r with
 |take to st n=>have:=h.1.2.2;show 0<n.toNat;lia
 |put to sg=>exact bB.mpr h.1.2.1
theorem xdB{es nw:List Int}{r:xc}(hb:Bnd nw)(hn:nw.length≤60)(h:Tells es nw r):Tells es nw (zR es r)∧yA (zR es r):=by
 have hc:=xcN h;have hl:(r.sg es).length=r.cnt:=hc;have hp:=zl h;have h0:=h.1.to;obtain⟨h1,h2,h3,h4⟩:=h;have hne:r.sg es≠[]:=bB.mp (by lia);refine⟨⟨⟨h0,hne,by lia,fun x hx=>?_⟩,cQ,?_,fun i hi=>?_⟩,r.to,r.sg es,rfl,hne,h0,by lia⟩
 ·obtain⟨i,hi,rfl⟩:=cz.mp hx;have:=h4 i (by lia);rw[ai hi]at this;exact hb _ (aG this)
 ·show r.to+((zR es r).cnt:Int)≤nw.length;rw[hc];exact h3
 ·exact h4 i (by lia)
theorem xgq{es nw:List Int}{r:xc}(he:es.length≤60)(hn:nw.length≤60)(h:Tells es nw r):xhV es.length nw.length r∧Sm r:=by
 obtain⟨h1,h2,h3,h4⟩:=h;cases r with
 |take to st n=>
  obtain⟨k1,k2,k3⟩:=h1;have h2:st+n≤es.length:=h2;have h3:to+(n.toNat:Int)≤nw.length:=h3;exact⟨⟨h2,by lia⟩,by lia,by lia,by lia⟩
 |put to sg=>
  have h3:to+(sg.length:Int)≤nw.length:=h3;have:=h1.1;exact⟨h3,by lia,by lia⟩
theorem xe9(r:xc):rTo r=r.to:=by cases r<;> rfl
theorem range_getD{α:Type}(xs:List α)(d:α):(aO xs.length).map (fun i=>xs.getD i d)=xs:=by
 apply List.ext_getElem
 ·simp
 ·intro i h1 h2;simp[a9,h2]
theorem xeg{es ns:List Int}{least:Int}:∀{rs:List xc} {i j:Nat} {b b':Bool},xE es ns least i b rs j b'→∀r∈rs,r.isTake=true→least≤r.cnt
 |[],i,j,b,b',h=>fun r hr=>by simp at hr
 | .put to sg::rs,i,j,b,b',h=>fun r hr ht=>by
  obtain⟨h1,h2,h3,h4,h5,h6,h7⟩:=h;rcases ax.mp hr with z|z
  ·subst z;cases ht
  ·exact xeg h7 r z ht
 | .take to st c::rs,i,j,b,b',h=>fun r hr ht=>by
  obtain⟨st',c',h1,h2,h3,h4,h5,h6,h7,h8⟩:=h;rcases ax.mp hr with z|z
  ·subst z;subst h3;show least≤(((c':Int).toNat:Nat):Int);lia
  ·exact xeg h8 r z ht
theorem xim{r s:xc}(h:Off r s)(h1:r.to≤s.to)(h2:0<s.cnt):r.to+r.cnt≤s.to:=by
 rcases mB s.to (r.to+r.cnt)with z|z
 ·exact absurd (jm.mpr ⟨by lia,by lia⟩) (h s.to (jm.mpr ⟨h1,z⟩))
 ·exact z
theorem xpJ:∀(m:Nat) (D:List xc) (i n:Int),D.length=m→(∀r∈D,i≤r.to∧r.to+r.cnt≤n∧0<r.cnt)→D.Pairwise Off→(∀j,i≤j→j<n→∃r∈D,r.to≤j∧j<r.to+r.cnt)→(∀r∈D,∀s∈D,r.isTake=false→s.isTake=false→r.to+r.cnt≠s.to)→
  D.countP (fun r=> !r.isTake)≤D.countP xc.isTake+1∧((∀r∈D,r.isTake=false→r.to≠i)→D.countP (fun r=> !r.isTake)≤D.countP xc.isTake)
 |0,D,i,n,hm,_,_,_,_=>by
  rw[df.mp hm];simp
 |m+1,D,i,n,hm,hb,hp,hc,ht=>by
  obtain⟨r0,h0⟩:∃r,r∈D:=List.exists_mem_of_length_pos (by lia);obtain⟨r,hr,hr1,hr2⟩:=hc i (iD _) (by have:=hb r0 h0;lia);have hri:r.to=i:=by have:=hb r hr;lia
  obtain⟨A,B,rfl⟩:=List.append_of_mem hr;have pm:(A++r::B).Perm (r::(A++B)):=List.perm_middle;have hp2:=(pm.pairwise_iff (fun h=>Off.sym h)).mp hp;obtain⟨hp3,hp4⟩:=cO.mp hp2;have sub:∀s∈A++B,s∈A++r::B:=fun s hs=>pm.mem_iff.mpr (aq _ hs);have hrc:=hb r hr;have bs:∀s∈A++B,i+r.cnt≤s.to∧s.to+s.cnt≤n∧0<s.cnt:=fun s hs=>by
   have h1:=hb s (sub s hs);have:=xim (hp3 s hs) (by lia) h1.2.2;exact⟨by lia,h1.2⟩
  obtain⟨g1,g2⟩:=xpJ m (A++B) (i+r.cnt) n (by have:=pm.length_eq;rw[aT]at this;lia) bs hp4 (fun j j1 j2=>by
   obtain⟨s,hs,hs1,hs2⟩:=hc j (by lia) j2;rcases ax.mp (pm.mem_iff.mp hs)with z|z
   ·subst z;lia
   ·exact⟨s,z,hs1,hs2⟩) (fun x hx y hy=>ht x (sub x hx) y (sub y hy))
  rw[pm.countP_eq,pm.countP_eq,List.countP_cons,List.countP_cons];cases hk:r.isTake with
  |true=>simp only[iY,aU,if_false,if_true];exact⟨by lia,fun _=>by lia⟩
  |false=>
   have h2:=g2 fun s hs hsp e=>ht r hr s (sub s hs) hk hsp (by lia);simp only[Bool.not_false,if_true,aU,if_false];exact⟨by lia,fun z=>absurd hri (z r hr hk)⟩
theorem xfT{acc:List xc}{r:xc}(h:∀x∈acc,yA x)(hr:yA r)(hp:acc.Pairwise fun r s=>r.to+(r.cnt:Int)<s.to)(he:∀x∈acc,x.to+(x.cnt:Int)≤r.to):(xC acc r).Pairwise (fun r s=>r.to+(r.cnt:Int)<s.to)∧∀x∈xC acc r,x.to+(x.cnt:Int)≤r.to+r.cnt:=by
 obtain⟨to,sg',rfl,v1,v2,v3⟩:=hr;rcases d8 acc with z|⟨acc',last,z⟩
 ·subst z;rw[zJ];exact⟨gG _ _,fun x hx=>by rw[aA.mp hx];exact iD _⟩
 ·rw[d9]at z;subst z;obtain⟨t,sg,rfl,u1,u2,u3⟩:=h last (by simp);obtain⟨p1,p2,p3⟩:=cT.mp hp;have hl:=he _ (aS _ (fi _));simp only[xc.to,xc.cnt]at hl;have hsg:=bB.mpr u1;rw[yT]
  split
  ·rename_i e;refine⟨cT.mpr ⟨p1,gG _ _,fun x hx y hy=>?_⟩,fun x hx=>?_⟩
   ·rw[aA.mp hy];exact(p3 x hx (.put t sg) (fi _):_<t)
   ·rcases aQ.mp hx with q|q
    ·have:=he x (b7 _ q);simp only[xc.to,xc.cnt]at this⊢;lia
    ·rw[aA.mp q];simp only[xc.to,xc.cnt,ar];lia
  ·rename_i e;refine⟨cT.mpr ⟨hp,gG _ _,fun x hx y hy=>?_⟩,fun x hx=>?_⟩
   ·rw[aA.mp hy];rcases aQ.mp hx with q|q
    ·have:=p3 x q _ (fi _);simp only[xc.to,xc.cnt]at this⊢;lia
    ·rw[aA.mp q];simp only[xc.to,xc.cnt];lia
   ·rcases aQ.mp hx with q|q
    ·have:=he x q;simp only[xc.to,xc.cnt]at this⊢;lia
    ·rw[aA.mp q];exact iD _
theorem xdC:∀{L acc:List xc},(∀x∈acc,yA x)→(∀x∈L,yA x)→(acc.Pairwise fun r s=>r.to+(r.cnt:Int)<s.to)→(∀x∈acc,∀r∈L,x.to+(x.cnt:Int)≤r.to)→(L.Pairwise fun r s=>r.to+(r.cnt:Int)≤s.to)→(L.foldl xC acc).Pairwise fun r s=>r.to+(r.cnt:Int)<s.to
 |[],acc,_,_,h3,_,_=>h3
 |r::L,acc,h1,h2,h3,h4,h5=>by
  have hr:=h2 r aF;obtain⟨h6,h7⟩:=cO.mp h5;obtain⟨g1,g2⟩:=xfT h1 hr h3 fun x hx=>h4 x hx r aF;refine xdC (L:=L) (acc:=xC acc r) (xaO h1 hr) (fun x hx=>h2 x (aq _ hx)) g1 (fun x hx s hs=>?_) h7;have:=g2 x hx;have:=h6 s hs;lia
theorem xot{L:List xc}(h:∀r∈L,r.isTake=false):(L.map xc.cst).sum=2*(L.length:Int)+((L.map xc.cnt).sum:Nat):=by
 induction L with
 |nil=>simp
 |cons r L ih=>
  have hr:=h r aF;rw[bc,bc,i3,i3,ih fun x hx=>h x (aq _ hx),aT];cases r with
  |take _ _ _=>cases hr
  |put to sg=>simp only[xc.cst,xc.cnt];lia
theorem xmT{L:List xc}{least:Int}(hl:6≤least)(h:∀r∈L,r.isTake=true∧least≤r.cnt):(L.map xc.cst).sum+2*(L.length:Int)≤((L.map xc.cnt).sum:Nat):=by
 induction L with
 |nil=>simp
 |cons r L ih=>
  obtain⟨h1,h2⟩:=h r aF;have:=ih fun x hx=>h x (aq _ hx);rw[bc,bc,i3,i3,aT];cases r with
  |put _ _=>cases h1
  |take to st c=>simp only[xc.cst,xc.cnt]at h2⊢;lia
theorem xpK(r:xc):r.cv.length=r.cnt:=by
 cases r with
 |take to st c=>exact xY _ _
 |put to sg=>exact xY _ _
theorem xfa{D:List xc}(h:D.Pairwise Off):(D.map xc.cv).flatten.Nodup:=by
 refine List.pairwise_flatten.mpr ⟨fun l hl=>?_,bQ.mpr (h.imp (S:=fun r s=>∀x∈r.cv,∀y∈s.cv,x≠y) fun hrs x hx y hy e=>hrs x hx (e▸hy))⟩;obtain⟨r,_,rfl⟩:=aN.mp hl;exact xqp r
theorem xou{D:List xc}{n:Nat}(h:D.Pairwise Off)(hb:∀r∈D,0≤r.to∧r.to+r.cnt≤n):(D.map xc.cnt).sum≤n:=by
 have h1:=xfa h;have h2:(D.map xc.cv).flatten.length≤((aO n).map fun(i:Nat)=>(i:Int)).length:=uA h1 fun x hx=>by
  obtain⟨l,hl,hx⟩:=List.mem_flatten.mp hx;obtain⟨r,hr,rfl⟩:=aN.mp hl;have:=jm.mp hx;have:=hb r hr;exact aN.mpr ⟨x.toNat,bh.mpr (by lia),by lia⟩
 rw[ab,dh,List.length_flatten,bS]at h2;rw[show(cD∘xc.cv)=xc.cnt from funext xpK]at h2;exact h2
structure Made(es nw:List Int)(least:Int)(ks all:List xc)(ord:List Int)(tur:List (Int×List Int)):Prop where
 ok:∀r∈all,yA r
 few:all.length<64
 nd:(all.map rTo).Nodup
 all:∀p:List Nat,p.Perm (aO all.length)→((p.map fun i=>rTo (all.getD i dR)).Pairwise fun x y=>x<y)→∀D,D=(ord.map fun x=>ks.getD x.toNat dR)++(p.map fun i=>all.getD i dR).foldl xC []→D.length≤60∧(∀r∈D,xhV es.length nw.length r∧Sm r∧Tells es nw r)∧Dis D∧jk D=none∧(∀j,j<nw.length→∃r∈D,xV r j)∧D.Pairwise Off∧(6≤least→(D.map xc.cst).sum≤nw.length+2)
theorem xov{es nw:List Int}{rs:List xc}{b:Bool}{least:Int}{key:Int→List Int}{ord:List Int}{tur:List (Int×List Int)}(he:es.length≤60)(hn:nw.length≤60)(hb:Bnd nw)(hri:xE es nw least 0 false rs nw.length b)
  (hg:Goes (ya (rs.filter xc.isTake)) key ((aO (rs.filter xc.isTake).length).map fun(i:Nat)=>(i:Int)) ord tur):
  Made es nw least (rs.filter xc.isTake) ((rs.filter fun r=> !r.isTake)++tur.map fun kr=>zR es ((rs.filter xc.isTake).getD kr.1.toNat dR)) ord tur:=by
 obtain⟨_,_,s3,s4⟩:=hri.side;have hfew:=hri.few;have hlst:=xeg hri;have htl:∀r∈rs,Tells es nw r:=fun r hr=>(hri.tells hb (by lia) r hr).1;generalize hks:rs.filter xc.isTake=ks at*;generalize hps:(rs.filter fun r=> !r.isTake)=ps at*;have hperm:(ks++ps).Perm rs:=by rw[←hks,←hps];exact List.filter_append_perm _ _
 have hg2:=(hg.perm (bQ.mpr (dQ.imp fun h e=>h (by lia)))).map fun x=>ks.getD x.toNat dR;rw[bS,show((fun x:Int=>ks.getD x.toNat dR)∘fun(i:Nat)=>(i:Int))=fun i=>ks.getD i dR from funext fun i=>by simp,range_getD,aI,bS]at hg2
 -- all rows,the turned ones as takes
 have hL:((ord.map fun x=>ks.getD x.toNat dR)++(ps++tur.map fun kr=>ks.getD kr.1.toNat dR)).Perm rs:=by
  refine((List.Perm.append_left _ List.perm_append_comm).trans ?_).trans hperm;rw[←eI];exact hg2.append_right _
 have hmem:∀r,r∈rs↔r∈(ord.map fun x=>ks.getD x.toNat dR)++(ps++tur.map fun kr=>ks.getD kr.1.toNat dR):=fun r=>hL.mem_iff.symm;have hkt:∀r∈ord.map fun x=>ks.getD x.toNat dR,r.isTake=true:=fun r hr=>by
  have:=hg2.mem_iff.mp (b7 _ hr);rw[←hks]at this;exact(aK.mp this).2
 have htur:∀kr∈tur,Tells es nw (ks.getD kr.1.toNat dR):=fun kr hk=>htl _ ((hmem _).mpr (aS _ (aS _ (aN.mpr ⟨kr,hk,rfl⟩))));have hoff:((ord.map fun x=>ks.getD x.toNat dR)++(ps++tur.map fun kr=>ks.getD kr.1.toNat dR)).Pairwise Off:=by
  refine(hL.pairwise_iff (fun h=>Off.sym h)).mpr (s3.imp fun{r s} h c c1 c2=>?_);have:=jm.mp c1;have:=jm.mp c2;lia
 have hcv:∀xs:List (Int×List Int),(∀kr∈xs,Tells es nw (ks.getD kr.1.toNat dR))→(xs.map fun kr=>zR es (ks.getD kr.1.toNat dR)).map xc.cv=(xs.map fun kr=>ks.getD kr.1.toNat dR).map xc.cv:=fun xs h=>by
  rw[bS,bS];exact List.map_congr_left fun kr hk=>xmS (h kr hk)
 have hoff2:((ord.map fun x=>ks.getD x.toNat dR)++(ps++tur.map fun kr=>zR es (ks.getD kr.1.toNat dR))).Pairwise Off:=by
  have key:∀xs:List xc,xs.Pairwise Off↔(xs.map xc.cv).Pairwise fun x y=>∀c∈x,c∉y:=fun xs=>by rw[bQ];rfl
  rw[key]at hoff⊢;rw[aI,aI,hcv tur htur,←aI,←aI];exact hoff
 have hput:∀r∈ps++tur.map fun kr=>zR es (ks.getD kr.1.toNat dR),Tells es nw r∧yA r:=fun r hr=>by
  rcases aQ.mp hr with q|q
  ·have ht:=htl r ((hmem r).mpr (aS _ (b7 _ q)));have:r.isTake=false:=by
    rw[←hps]at q;simpa using(aK.mp q).2
   cases r with
   |take _ _ _=>cases this
   |put to sg=>exact⟨ht,(xdB hb hn ht).2⟩
  ·obtain⟨kr,hk,rfl⟩:=aN.mp q;exact xdB hb hn (htur kr hk)
 have hlen:=hL.length_eq;simp only[ar,ab]at hlen;generalize hall:(ps++tur.map fun kr=>zR es (ks.getD kr.1.toNat dR))=all at*;have hal:all.length=ps.length+tur.length:=by rw[←hall];simp
 refine⟨fun r hr=>(hput r hr).2,by lia,?_,fun p hp hso D hD=>?_⟩
 ·refine bQ.mpr ((cT.mp hoff2).2.1.imp_of_mem fun{r s} hr hs h e=>?_);rw[xe9,xe9]at e;have p1:=zl (hput r hr).1;have p2:=zl (hput s hs).1;exact h r.to (jm.mpr ⟨by lia,by lia⟩) (jm.mpr ⟨by lia,by lia⟩)
 ·have hpa:(p.map fun i=>all.getD i dR).Perm all:=by
   have:=hp.map fun i=>all.getD i dR
   rwa [range_getD]at this
  have ho3:((ord.map fun(x:Int)=>ks.getD x.toNat dR)++[]++p.map fun i=>all.getD i dR).Pairwise Off:=by
   rw[fm];exact((hpa.append_left _).pairwise_iff (fun h=>Off.sym h)).mpr hoff2
  obtain⟨g1,g2,g3,g4,g5⟩:=xnn (es:=es) (nw:=nw) (fun x hx=>by simp at hx) (fun x hx=>(hput x (hpa.mem_iff.mp hx)).2) (fun x hx=>by simp at hx) (fun x hx=>(hput x (hpa.mem_iff.mp hx)).1) ho3;have gl:((p.map fun i=>all.getD i dR).foldl xC []).length≤all.length:=by
   refine bg g4 ?_;rw[hpa.length_eq];simp
  have hDt:∀r∈D,Tells es nw r:=fun r hr=>by
   rw[hD]at hr;rcases aQ.mp hr with q|q
   ·exact htl r ((hmem r).mpr (b7 _ q))
   ·exact g2 r q
  have hcovD:∀j,j<nw.length→∃r∈D,xV r j:=fun j hj=>by
   obtain⟨r,hr,hc⟩:=s4 j (by lia) hj;rcases aQ.mp ((hmem r).mp hr)with q|q
   ·exact⟨r,by rw[hD];exact b7 _ q,hc⟩
   ·have hin:∃s∈all,xV s j:=by
     rw[←hall];rcases aQ.mp q with q|q
     ·exact⟨r,b7 _ q,hc⟩
     ·obtain⟨kr,hk,rfl⟩:=aN.mp q;refine⟨_,aS _ (aN.mpr ⟨kr,hk,rfl⟩),?_⟩;have e:=xcN (htur kr hk);unfold xV at hc⊢;rw[e];exact hc
    obtain⟨s,hs,hsc⟩:=hin;obtain⟨u,hu,huc⟩:=g5 j (.inr ⟨s,hpa.mem_iff.mpr hs,hsc⟩);exact⟨u,by rw[hD];exact aS _ hu,huc⟩
  refine⟨?_,fun r hr=>⟨(xgq he hn (hDt r hr)).1,(xgq he hn (hDt r hr)).2,hDt r hr⟩,?_,?_,hcovD,(hD▸g3:D.Pairwise Off),fun h6=>?_⟩
  ·rw[hD,ar,ab];lia
  ·rw[←hD]at g3;intro i j r s hi hj c c1 c2;obtain⟨hi',rfl⟩:=aD.mp hi;obtain⟨hj',rfl⟩:=aD.mp hj;have pw:=bt.mp g3;rcases fG i j with z|z|z
   ·exact absurd c2 (pw i j hi' hj' z c c1)
   ·exact z
   ·exact absurd c1 (pw j i hj' hi' z c c2)
  ·rw[hD];refine xlV hg fun r hr=>?_;obtain⟨to,sg,rfl,_⟩:=g1 r hr;rfl
  ·have hJp:∀r∈(p.map fun i=>all.getD i dR).foldl xC [],r.isTake=false:=fun r hr=>by
    obtain⟨to,sg,rfl,_⟩:=g1 r hr;rfl
   have hok:∀r∈ord.map fun x=>ks.getD x.toNat dR,r.isTake=true∧least≤r.cnt:=fun r hr=>by
    have h1:=hkt r hr;exact⟨h1,hlst r ((hmem r).mpr (b7 _ hr)) h1⟩
   have hL:(p.map fun i=>all.getD i dR).Pairwise fun r s=>r.to+(r.cnt:Int)≤s.to:=by
    have o4:=(cT.mp ho3).2.1;have s5:(p.map fun i=>all.getD i dR).Pairwise fun r s=>r.to<s.to:=by
     refine bQ.mpr ((bQ.mp hso).imp fun{x y} h=>?_);rw[xe9,xe9]at h;exact h
    refine(o4.and s5).imp_of_mem fun{r s} hr hs h=>?_;exact xim h.1 (Int.le_of_lt h.2) (zl (hput s (hpa.mem_iff.mp hs)).1)
   have hap:=xdC (acc:=[]) (fun x hx=>by simp at hx) (fun x hx=>(hput x (hpa.mem_iff.mp hx)).2) .nil (fun x hx=>by simp at hx) hL;have hg:=xpJ D.length D 0 nw.length rfl (fun r hr=>by
    have h1:=hDt r hr;exact⟨h1.1.to,h1.2.2.1,zl h1⟩) (hD▸g3) (fun j j0 j1=>by
     obtain⟨r,hr,c1,c2⟩:=hcovD j.toNat (by lia);exact⟨r,hr,by lia,by lia⟩) (fun r hr s hs hrp hsp e=>by
     have inJ:∀x∈D,x.isTake=false→x∈(p.map fun i=>all.getD i dR).foldl xC []:=fun x hx hxp=>by
      rw[hD]at hx;rcases aQ.mp hx with q|q
      ·rw[(hok x q).1]at hxp;cases hxp
      ·exact q
     obtain⟨i,hi,rfl⟩:=cz.mp (inJ r hr hrp);obtain⟨j,hj,rfl⟩:=cz.mp (inJ s hs hsp);have pw:=bt.mp hap;have c1:=zl (hDt _ hr);have c2:=zl (hDt _ hs);rcases fG i j with z|z|z
     ·have:=pw i j hi hj z;lia
     ·subst z;lia
     ·have:=pw j i hj hi z;lia)
   have hcs:=xou (n:=nw.length) (hD▸g3:D.Pairwise Off) fun r hr=>⟨(hDt r hr).1.to,(hDt r hr).2.2.1⟩;have e1:D.countP (fun r=> !r.isTake)=((p.map fun i=>all.getD i dR).foldl xC []).length:=by
    rw[hD,mC,lZ.mpr (fun r hr=>by rw[(hok r hr).1];simp),ip];exact lq.mpr fun r hr=>by rw[hJp r hr];rfl
   have e2:D.countP xc.isTake=(ord.map fun x=>ks.getD x.toNat dR).length:=by
    rw[hD,mC,lZ (l:=(p.map fun i=>all.getD i dR).foldl xC []) |>.mpr (fun r hr=>by rw[hJp r hr];simp),iq];exact lq.mpr fun r hr=>(hok r hr).1
   have c1:=xot hJp;have c2:=xmT h6 hok;have hg1:=hg.1;rw[e1,e2]at hg1;rw[hD,aI,List.sum_append]at hcs;rw[hD,aI,List.sum_append];lia
end ML
namespace ML
section
variable {P:aH} {w:World} {K:ah} {mg:Str→Option Value} {base:Heap} {a:Adr}
def vE(K:ah)(G:Hp)(t:Addr)(x:xc×List xc):Prop:=∃(b l:Addr) (us:List Addr),G t=some (.tup [.ref b,.ref l])∧TupAt K G b x.1∧G l=some (.lst (us.map V.ref))∧Paired (TupAt K G) us x.2
def xgN(ks:List xc)(kr:Int×List Int):xc×List xc:=(ks.getD kr.1.toNat dR,kr.2.map fun x=>ks.getD x.toNat dR)
def xjz(K:ah):Sp:=fun vs H Q _=>∃(e n:Addr) (es nw:List Int) (least:Int),vs=[.ref e,.ref n,.int least]∧1≤least∧H yI=some (.tbl zu)∧H yp=some (.tbl zb)∧H zH=some (.tbl vM)∧H e=some (.lst (es.map V.int))∧H n=some (.lst (nw.map V.int))∧es.length≤60∧nw.length≤60∧Bnd nw∧
 ∀(t p tt tr:Addr) (us:List Addr) (rs:List xc) (H':Hp),xb H H'→H' t=some (.tup [.ref p,.ref tr])→H' p=some (.tup [.int es.length,.int nw.length,.ref tt])→H' tt=some (.tup (us.map V.ref))→Paired (GT K H') us rs→us.length≤60→(∀r∈rs,xhV es.length nw.length r)→Dis rs→jk rs=none→(∀r∈rs,Tells es nw r)→(∀j,j<nw.length→∃r∈rs,xV r j)→rs.Pairwise Off→(6≤least→(rs.map xc.cst).sum≤nw.length+2)→(∃(rs0:List xc) (b:Bool) (ord:List Int) (tur:List (Int×List Int)) (trs:List Addr),xE es nw least 0 false rs0 nw.length b∧Goes (ya (rs0.filter xc.isTake)) (fun x=>uX ((rs0.filter xc.isTake).getD x.toNat dR)) ((aO (rs0.filter xc.isTake).length).map fun(i:Nat)=>(i:Int)) ord tur∧H' tr=some (.lst (trs.map V.ref))∧Paired (vE K H') trs (tur.map (xgN (rs0.filter xc.isTake))))→Q (.ref t) H'
theorem va(T:Txt K mg a):xA P w K mg base CX0 1 a.q00 a.xaF ["self"] (xhO a):=by
 refine T.q1L.ok xcs (fun vs H Q E h=>?_) (fun cdv A outer s H vs Q E hr h=>?_)
 ·obtain⟨o,dx,to,st,c,rfl,_⟩:=h;rfl
 ·obtain⟨o,dx,to,st,c,rfl,h1,k⟩:=h;have nd:=xcs.nd;refine⟨_,(xi (xo (ym (xa vF (xa (xF (cv 0) rfl) (xa (xF (cv 0) rfl) (xa (xF (cv 0) rfl) xf))))))),?_⟩;walk_at"w";refine⟨o,_,dx,_,.int to,rfl,h1,T.q0c,T.q0o,rfl,?_⟩;walk_at"w";refine⟨o,_,dx,_,.int st,rfl,h1,T.q0c,T.q0e,rfl,?_⟩;walk_at"w";refine⟨o,_,dx,_,.int c,rfl,h1,T.q0c,T.q0d,rfl,?_⟩;walk_at"w";exact⟨by walk_at"side",k⟩
theorem xdD(T:Txt K mg a):xA P w K mg base CX0 1 a.q1j a.xbv ["self"] (xhP a):=by
 refine T.q16.ok xdt (fun vs H Q E h=>?_) (fun cdv A outer s H vs Q E hr h=>?_)
 ·obtain⟨o,dx,u,to,n,rfl,_⟩:=h;rfl
 ·obtain⟨o,dx,u,to,n,rfl,h1,k⟩:=h;have nd:=xdt.nd;refine⟨_,(xi (xo (ym (xa vF (xa (xF (cv 0) rfl) (xa (xF (cv 0) rfl) xf)))))),?_⟩;walk_at"w";refine⟨o,_,dx,_,.int to,rfl,h1,T.q0f,T.q0v,rfl,?_⟩;walk_at"w";refine⟨o,_,dx,_,.ref u,rfl,h1,T.q0f,T.q0w,rfl,?_⟩;walk_at"w";exact⟨by walk_at"side",k⟩
theorem xin{H:Hp}{o:Addr}{r:xc}{Q:VK}{σ:L2.St}{i:Nat}(ho:xB K a H o r)
  (k:∀t H',xb H H'→TupAt K H' t r→Q (.ref t) H') (hσ:σ[i]? =some (some (.ref o)):=by rfl):
  yy a.q0b "told" (xhP a) [] E0 (yC i) vS σ H Q∨yy a.q0a "told" (xhO a) [] E0 (yC i) vS σ H Q:=by
 cases r with
 |put to sg=>
  obtain⟨dx,u,h1,h2⟩:=ho
  left
  unfold yy yC;rw[hσ];exact⟨o,dx,_,rfl,h1,rfl,o,dx,u,to,_,rfl,h1,fun t ht=>k t _ (xb.new ht) ⟨u,xk,(xb.new ht).at h2⟩⟩
 |take to st c=>
  obtain⟨dx,h1⟩:=ho
  right
  unfold yy yC;rw[hσ];exact⟨o,dx,_,rfl,h1,rfl,o,dx,to,st,c,rfl,h1,fun t ht=>k t _ (xb.new ht) xk⟩
theorem jn{α β:Type}{R S:α→β→Prop}:∀{xs:List α} {ys:List β},(∀x,∀y∈ys,R x y→S x y)→Paired R xs ys→Paired S xs ys
 |_,_,_,.nil=>.nil
 |_,_,h,.cons x r=>.cons (h _ _ aF x) (jn (fun x y hy=>h x y (aq _ hy)) r)
theorem xfb{α β γ:Type}{R:α→β→Prop}{f:γ→α}{g:γ→β}:∀{xs:List γ},(∀x∈xs,R (f x) (g x))→Paired R (xs.map f) (xs.map g)
 |[],_=>.nil
 |x::xs,h=>.cons (h x aF) (xfb fun y hy=>h y (aq _ hy))
theorem xkB{xss:List (List Int)}{key:Int→List Int}{left ord:List Int}{tur:List (Int×List Int)}(h:Goes xss key left ord tur):(∀x∈left,0≤x∧x<xss.length∧x∉xss.getD x.toNat [])→∀kr∈tur,(∀x∈kr.2,x∈left)∧kr.2.length≤left.length:=by
 induction h with
 |nil=>exact fun _ kr hk=>by simp at hk
 |keep k hk _ _ ih=>
  refine fun hl kr hkr=>?_;obtain⟨h1,h2⟩:=ih (fun x hx=>hl x (aK.mp hx).1) kr hkr;exact⟨fun x hx=>(aK.mp (h1 x hx)).1,bg h2 (bO _ _)⟩
 |turn k hh hr _ hk _ ih=>
  refine fun hl kr hkr=>?_;rcases ax.mp hkr with z|z
  ·subst z;obtain⟨_,g2,g3,_⟩:=xcH (fun x hx=>⟨(hl x hx).1,(hl x hx).2.1,hh x hx⟩) (fun x hx=>(hl x hx).2.2) hr;exact⟨g3,uA g2 g3⟩
  ·obtain⟨h1,h2⟩:=ih (fun x hx=>hl x (aK.mp hx).1) kr z;exact⟨fun x hx=>(aK.mp (h1 x hx)).1,bg h2 (bO _ _)⟩
theorem xdE{α β:Type}{R:α→β→Prop}{d:α}{d':β}:∀{xs:List α} {ys:List β} {i:Nat},Paired R xs ys→i<ys.length→R (xs.getD i d) (ys.getD i d')
 |_,_,0,.cons h _,_=>h
 |_,_,i+1,.cons _ r,hi=>xdE (i:=i) r (Nat.lt_of_succ_lt_succ hi)
theorem xc4(T:Txt K mg a):xA P w K mg base CX0 6 a.q2h a.xci ["elder","newer","least"] (xjz K):=by
 refine T.jT.ok xjm (fun vs H Q E h=>?_) (fun cdv A outer s H vs Q E hr h=>?_)
 ·obtain⟨e,n,es,nw,least,rfl,_⟩:=h;rfl
 ·obtain⟨e,n,es,nw,least,rfl,hls,hP1,hP2,hP3,he,hn,hel,hnl,hbn,k⟩:=h;have nd:=xjm.nd;refine⟨_,(xg (xv (i:=3) nd rfl (aJ rfl) (xr (xbR T) (hr.mono (by decide)) (by rfl) T.xcn T.q0T.kp T.xcm .nil xn (xa (cv 0) (xa (cv 1) (xa (cv 2) xf)))))
  (xg (xv (i:=4) nd rfl (aJ rfl) (xr (xe3 T) (hr.mono (by decide)) (by rfl) T.xfJ T.zj.kp T.xfI .nil xn (xa (yj (yo (cap:=[]) (ys:=[]) rfl rfl rfl rfl rfl trivial (by decide+kernel)) rfl (xZ (cv 3)) (fun _ _ _ _=>(cv 0)) (fun _ _ _ _=>(xaT (yu (xt (xpm (K:=K) rfl) (by rfl) T.q0h xW (xa (cv 0) (xa (zL (v:=.ref a.q0a) (by rfl) T.xa4 rfl) xf))))))) xf)))
  (xg (xv (i:=5) nd rfl (aJ rfl) (xu xx (cv 4) xh (fun _ _=>rfl)))
  (xg (xv (i:=6) nd rfl (aJ rfl) (xu xx (cv 4) xh (fun _ _=>rfl)))
  (xg (xeu (i:=7) (yo (cap:=[]) (ys:=[]) rfl rfl rfl rfl rfl trivial (by decide+kernel)) rfl nd rfl rfl (xZ (cv 3)) (fun _ _ _ _=>(cv 0)) (fun _ _ _ _=>(xaT (yu (xt (xpm (K:=K) rfl) (by rfl) T.q0h xW (xa (cv 0) (xa (zL (v:=.ref a.q0b) (by rfl) T.xeJ rfl) xf)))))))
  (xg (yE (uE PySem.F.plainAttrs_list PySem.F.slot_list_extend PySem.F.type_list_extend xf2 (cv 7) (xa (xdR (xfp (cap:=[0]) (ys:=["elder"]) rfl rfl rfl rfl rfl rfl ⟨⟨rfl,rfl,.inl rfl⟩,trivial⟩ (by decide+kernel)) rfl (xZ (cv 6)) (fun _ _ _ _=>(xr (xkA T) (hr.mono (by decide)) (by rfl) T.xlF T.q1Z.kp T.xlE .nil xn (xa (cv 0) (xa (cv 2) xf)))) (fun _ _ _ _=>yi)) xf)))
  (xg (xv (i:=8) nd rfl (aJ rfl) (xw xem (cv 5) (xr (xlU T) (hr.mono (by decide)) (by rfl) T.xmB T.jU.kp T.xmA .nil xn (xa (cv 7) xf))))
  (xg (xv (i:=9) nd rfl (aJ rfl) (ym (xa (xt xy (by rfl) T.q0i xN (xa (cv 0) xf)) (xa (xt xy (by rfl) T.q0i xN (xa (cv 1) xf)) (xa (yB uf (by rfl) T.q1P zC (xa (yj (yo (cap:=[]) (ys:=[]) rfl rfl rfl rfl rfl trivial (by decide+kernel)) rfl (xZ (cv 8)) (fun _ _ _ _=>(ub (xI (cv 0) T.q0f T.q2z (xdD T) (hr.mono (by decide)) T.xeD .nil xn) (xI (cv 0) T.q0c T.q1A (va T) (hr.mono (by decide)) T.vz .nil xn))) (fun _ _ _ _=>yi)) xf)) xf)))))
  (xi (xo (ym (xa (cv 9) (xa (xdR (xfp (cap:=[]) (ys:=[]) rfl rfl rfl rfl rfl rfl trivial (by decide+kernel)) rfl (xZ (cv 6)) (fun _ _ _ _=>(ym (xa (xI (cv 0) T.q0c T.q1A (va T) (hr.mono (by decide)) T.vz .nil xn) (xa (yj (yo (cap:=[]) (ys:=[]) rfl rfl rfl rfl rfl trivial (by decide+kernel)) rfl (xmv (K:=K) rfl (cv 1)) (fun _ _ _ _=>(xI (cv 0) T.q0c T.q1A (va T) (hr.mono (by decide)) T.vz .nil xn)) (fun _ _ _ _=>yi)) xf)))) (fun _ _ _ _=>yi)) xf))))))))))))),?_⟩
  walk_at"w";refine⟨e,n,es,nw,least,rfl,hP1,he,hn,by lia,by lia,hls,fun l os rs b H1 s1 hl el hpo hri=>?_⟩;have hpo:Paired (xB K a H1) os rs:=hpo;have elen:os.length=rs.length:=hpo.length;have hfw:=hri.few;have hsz:(os.map V.ref).length<aL:=by rw[ab,ay];lia
  have row:∀{v:V} {G:Hp},v∈os.map V.ref→xb H1 G→∃o r,v= .ref o∧xB K a G o r∧isT K a H1 o=r.isTake:=fun{v G} hv sG=>by
   obtain⟨o,ho,rfl⟩:=aN.mp hv;obtain⟨r,_,hT⟩:=Paired.mem hpo ho;exact⟨o,r,rfl,hT.same sG,xik hT⟩
  walk_at"w";refine⟨l,rfl,⟨_,SqL.of el⟩,?_⟩;refine jg (fun v=>match v with| .ref o=>isT K a H1 o|_=>false) id (SqL.of el) hsz (fun v G2 hv s2 R hR=>?_) (fun v G2 hv _ s2 R hR=>?_) (fun D1 H2 hD1 s2 eD1=>?_)
  ·obtain⟨o,r,rfl,ho,ht⟩:=row hv s2;have:=hR G2 (xb.refl _);dsimp only at this;rw[ht]at this;cases r with
   |take to st c=>
    obtain⟨dx,ho⟩:=ho;walk_at"w";exact⟨_,_,_,_,true,rfl,rfl,T.xa5 ho,T.q1z,this⟩
   |put to sg=>
    obtain⟨dx,u,ho,_⟩:=ho;walk_at"w";exact⟨_,_,_,_,false,rfl,rfl,T.xhA ho,T.q2y,this⟩
  ·exact hR _ (xb.refl _)
  have eD1:H2 D1=some (.lst ((os.filter fun o=>isT K a H1 o).map V.ref)):=by rw[eD1,mK,il];rfl
  have hpt:=uk (p:=fun o=>isT K a H1 o) (q:=xc.isTake) hpo fun x y z=>xik z;have hpp:=uk (p:=fun o=> !isT K a H1 o) (q:=fun r=> !r.isTake) hpo fun x y z=>by rw[xik z]
  generalize htk:(os.filter fun o=>isT K a H1 o)=tk at eD1 hpt;have hkl:(rs.filter xc.isTake).length≤rs.length:=bO _ _;have hpl:(rs.filter fun r=> !r.isTake).length≤rs.length:=bO _ _;walk_at"w";refine⟨D1,tk,rs.filter xc.isTake,rfl,SqL.of eD1,L2.Paired.imp' (fun _ _ z=>z.same s2) hpt,fun r hr=>(aK.mp hr).2,by lia,(s1.trans s2).at hP2,fun p o t ord tur trs H3 s3 hp ho ht hot ep eo et hpt2 hg=>?_⟩;have M:=xov hel hnl hbn hri hg;have hks:∀r∈rs.filter xc.isTake,r.isTake=true∧Tells es nw r:=fun r hr=>⟨(aK.mp hr).2,(hri.tells hbn (by lia) r (aK.mp hr).1).1⟩;generalize hks2:rs.filter xc.isTake=ks at*;generalize hall:((rs.filter fun r=> !r.isTake)++tur.map fun kr=>zR es (ks.getD kr.1.toNat dR))=all at*;have tkAt:∀x∈(aO ks.length).map fun(i:Nat)=>(i:Int),∃to st c,ks.getD x.toNat dR= .take to st c∧xB K a H1 (tk.getD x.toNat 0) (.take to st c)∧Tells es nw (.take to st c):=fun x hx=>by
   obtain⟨i,hi,rfl⟩:=aN.mp hx;have hi:=bh.mp hi;have h1:=xdE (d:=0) (d':=dR) hpt hi;have h2:=hks (ks.getD i dR) (by simp[a9,hi]);rw[bJ];cases hr:ks.getD i dR with
   |put _ _=>rw[hr]at h2;cases h2.1
   |take to st c=>rw[hr]at h1 h2;exact⟨to,st,c,rfl,h1,h2.2⟩
  walk_at"w";refine⟨p,_,_,.ref o,rfl,rfl,SqT.of ep,rfl,?_⟩;walk_at"w";refine⟨p,_,_,.ref t,rfl,rfl,SqT.of ep,rfl,?_⟩;walk_at"w";refine⟨l,rfl,⟨_,SqL.of ((s2.trans s3).at el)⟩,?_⟩;refine jg (fun v=>match v with| .ref o=> !isT K a H1 o|_=>false) id (SqL.of ((s2.trans s3).at el)) hsz (fun v G2 hv s4 R hR=>?_) (fun v G2 hv _ s4 R hR=>?_) (fun D2 H4 hD2 s4 eD2=>?_)
  ·obtain⟨o,r,rfl,ho,ht⟩:=row hv ((s2.trans s3).trans s4);have:=hR G2 (xb.refl _);dsimp only at this;rw[ht]at this;cases r with
   |take to st c=>
    obtain⟨dx,ho⟩:=ho;walk_at"w";exact⟨_,_,_,_,false,rfl,rfl,T.xa5 ho,T.q2K,this⟩
   |put to sg=>
    obtain⟨dx,u,ho,_⟩:=ho;walk_at"w";exact⟨_,_,_,_,true,rfl,rfl,T.xhA ho,T.q2P,this⟩
  ·exact hR _ (xb.refl _)
  have eD2:H4 D2=some (.lst ((os.filter fun o=> !isT K a H1 o).map V.ref)):=by
   rw[eD2,mK,il];rfl
  generalize hpu:(os.filter fun o=> !isT K a H1 o)=pu at eD2 hpp;have s14:xb H1 H4:=s2.trans (s3.trans s4);have hturl:=hpt2.length;have hlen:tur.length≤60:=by
   have:=M.few;have h1:=hg.perm (bQ.mpr (dQ.imp fun h e=>h (by lia)));have h2:=h1.length_eq;simp only[ar,ab,dh]at h2;lia
  walk_at"w";refine⟨.inl ⟨rfl,_,SqL.of eD2⟩,?_⟩;walk_at"w";refine⟨t,rfl,⟨_,SqL.of (s4.at et)⟩,?_⟩;refine xdm (fun i acc G=>∃us:List Addr,acc=us.map V.ref∧Paired (xB K a G) us ((tur.take i).map fun kr=>zR es (ks.getD kr.1.toNat dR))) (SqL.of (s4.at et)) (by rw[ab,ay];lia) ⟨[],rfl,.nil⟩ (fun i x acc G3 G3' hx g3 g3' hPv=>?_) (fun B acc H5 H5' hB hB5 s5 s5' hPv hacc eB=>?_)
  ·obtain⟨us,rfl,hus⟩:=hPv;rw[ao]at hx;cases hc0:trs[i]? with
   |none=>rw[hc0]at hx;cases hx
   |some y=>
   rw[hc0]at hx;cases hx;obtain⟨kr,hkr,rl,n1,n2,x1,x2⟩:=xK hpt2 hc0;obtain⟨to,st,c,ek,hob,htl⟩:=tkAt kr.1 (hg.sub.2 kr (aG hkr));refine⟨y,_,_,rfl,SqT.of ((s4.trans (g3.trans g3')).at x1),fun R hR=>?_⟩;walk_at"w";have hs4:st+c≤es.length:=htl.2.1;have hs5:=htl.1;refine⟨_,e,to,st,c,es,rfl,hob.same (s14.trans (g3.trans g3')),(s1.trans (s14.trans (g3.trans g3'))).at he,hs5.2.1,by have:=hs5.2.2;lia,hs4,fun q G5 g5 hq hoq=>hR _ _ g5 fun G7 s7 k7=>⟨us++[q],by simp,?_⟩⟩;rw[bG,hkr,gA,aI,iK,ek];exact yd (L2.Paired.imp' (fun _ _ z=>z.same s7) hus) (hoq.mv k7)
  obtain⟨us,rfl,hus⟩:=hPv;rw[ab,hturl,bX]at hus;have gB:xb H4 H5':=s5.trans s5';have hul:=hus.length;rw[ab]at hul;walk_at"w";refine⟨D2,B,_,_,rfl,rfl,gB.at eD2,eB,by rw[ab,ab,ay,hpp.length];lia,?_⟩;generalize hU:upd H5' D2 _=H6;have eD6:H6 D2=some (.lst ((pu++us).map V.ref)):=by rw[←hU,xk,aI]
  have hus6:=L2.Paired.imp' (fun _ _ z=>show xB K a H6 _ _ by rw[←hU];exact(z.same s5').offw (gB.at eD2)) hus;have s36:xb H3 H6:=xb.wr (s4.trans gB) hD2 hU;clear hU;have s16:xb H1 H6:=s2.trans (s3.trans s36);have hpa:=zQ (L2.Paired.imp' (fun _ _ z=>z.same s16) hpp) hus6;rw[hall]at hpa;walk_at"w";refine⟨D2,pu++us,all,rfl,SqL.of eD6,hpa,M.ok,M.few,M.nd,(s1.trans s16).at hP3,fun l' os' pm H7 s7 hl' el' hpm hso hpj=>?_⟩;obtain⟨m1,m2,m3,m4,m5,m6,m7⟩:=M.all pm hpm hso _ rfl;have s37:=s36.trans s7;have s17:=s16.trans s7;have hdo:Paired (xB K a H7) ((ord.map fun x=>tk.getD x.toNat 0)++os') ((ord.map fun x=>ks.getD x.toNat dR)++(pm.map fun i=>all.getD i dR).foldl xC []):=zQ (xfb fun x hx=>by
   obtain⟨to,st,c,ek,hob,_⟩:=tkAt x (hg.sub.1 x hx);rw[ek];exact hob.same s17) hpj
  have eo7:H7 o=some (.lst ((ord.map fun x=>tk.getD x.toNat 0).map V.ref)):=by rw[bS];exact s37.at eo
  generalize ord.map (fun x=>tk.getD x.toNat 0)=oo at*;generalize (ord.map fun x=>ks.getD x.toNat dR)++(pm.map fun i=>all.getD i dR).foldl xC []=D at*;have hdl:=hdo.length;walk_at"w";refine⟨o,l',_,_,rfl,rfl,eo7,el',by rw[←ar,←aI,ab,ay];lia,fun dn hdn=>?_⟩;rw[←aI];generalize oo++os'=dos at*;generalize hV:upd H7 dn _=H8;have s8:=xb.of_eq hdn hV;have ed:=xm hV;clear hV;have s08:xb H H8:=s1.trans (s17.trans s8);walk_at"w";refine⟨e,_,rfl,.inl (SqL.of (s08.at he)),?_⟩;walk_at"w";refine⟨n,_,rfl,.inl (SqL.of (s08.at hn)),?_⟩;rw[ab,ab];walk_at"w";refine⟨dn,rfl,⟨_,SqL.of ed⟩,?_⟩;refine uH (fun i acc G=>∃ts:List Addr,acc=ts.map V.ref∧Paired (TupAt K G) ts (D.take i)) (SqL.of ed) (by rw[ab,ay];lia) ⟨[],rfl,.nil⟩ (fun i x acc G3 G3' hx g3 g3' hPv R hR=>?_) (fun D3 acc H9 H9' hD3 hD9 s9 s9' hPv hacc e3=>?_)
  ·obtain⟨ts,rfl,hts⟩:=hPv;rw[ao]at hx;cases hc0:dos[i]? with
   |none=>rw[hc0]at hx;cases hx
   |some y=>
   rw[hc0]at hx;cases hx;obtain⟨r,hr',ho⟩:=xK hdo hc0;walk_at"w";refine xin (xB.same ho (s8.trans (g3.trans g3'))) fun t H4 s4 ht4=>hR _ _ s4 fun G7 s7 k7=>⟨ts++[t],by simp,?_⟩;rw[bG,hr'];exact yd (L2.Paired.imp' (fun _ _ z=>TupAt.same z s7) hts) (ht4.mv k7)
  obtain⟨ts,rfl,hts⟩:=hPv;rw[ab,hdl,bX]at hts;have s89:xb H8 H9':=s9.trans s9';have hts:=L2.Paired.imp' (fun _ _ z=>TupAt.same z s9') hts;walk_at"w";refine⟨D3,_,rfl,.inl ⟨SqL.of e3,fun tt htt=>?_⟩⟩;generalize hV:upd H9' tt _=H10;have s10:=xb.of_eq htt hV;have ett:=xm hV;clear hV;walk_at"w";refine⟨by walk_at"side",fun pp hpq=>?_⟩;generalize hV:upd H10 pp _=H11;have s11:=xb.of_eq hpq hV;have epp:=xm hV;clear hV;have s3z:xb H3 H11:=s37.trans (s8.trans (s89.trans (s10.trans s11)));have s1z:xb H1 H11:=s17.trans (s8.trans (s89.trans (s10.trans s11)));walk_at"w";refine⟨t,rfl,⟨_,SqL.of (s3z.at et)⟩,?_⟩;refine xdm (fun i acc G=>∃ts:List Addr,acc=ts.map V.ref∧Paired (vE K G) ts ((tur.take i).map (xgN ks))) (SqL.of (s3z.at et)) (by rw[ab,ay];lia) ⟨[],rfl,.nil⟩ (fun i x acc G3 G3' hx g3 g3' hPv=>?_) (fun D5 acc H12 H12' hD5 hD12 s12 s12' hPv hacc e5=>?_)
  ·obtain⟨qs,rfl,hqs⟩:=hPv;rw[ao]at hx;cases hc0:trs[i]? with
   |none=>rw[hc0]at hx;cases hx
   |some y=>
   rw[hc0]at hx;cases hx;obtain⟨kr,hkr,rl,n1,n2,x1,x2⟩:=xK hpt2 hc0;have hkm:=aG hkr;obtain⟨to,st,c,ek,hob,htl⟩:=tkAt kr.1 (hg.sub.2 kr hkm);obtain⟨r1,r2⟩:=xkB hg (fun x hx=>by
    obtain⟨i,hi,rfl⟩:=aN.mp hx;have hi:=bh.mp hi;exact⟨by lia,by rw[show(ya ks).length=ks.length by simp[ya]];lia,xbG (by lia) (by lia)⟩) kr hkm
   rw[ab,dh]at r2;have g3z:=s3z.trans (g3.trans g3');have g1z:=s1z.trans (g3.trans g3');refine⟨y,_,_,rfl,SqT.of (g3z.at x1),fun R hR=>?_⟩;obtain⟨dx,hob⟩:=hob;walk_at"w";refine⟨_,dx,_,rfl,g1z.at hob,rfl,?_⟩;walk_at"w";refine⟨_,dx,to,st,c,rfl,g1z.at hob,fun t1 ht1=>?_⟩;generalize hG4:upd G3' t1 _=G4;have f1:=xb.of_eq ht1 hG4;have e1:=xm hG4;clear hG4;walk_at"w";refine⟨rl,rfl,⟨_,SqL.of ((g3z.trans f1).at x2)⟩,?_⟩;refine uH (fun i acc G=>∃us:List Addr,acc=us.map V.ref∧Paired (TupAt K G) us ((kr.2.take i).map fun x=>ks.getD x.toNat dR)) (SqL.of ((g3z.trans f1).at x2)) (by rw[ab,ay];lia) ⟨[],rfl,.nil⟩ (fun i x acc G5 G5' hx g5 g5' hPv R hR2=>?_) (fun D6 acc G6 G6' hD6 hD6' g6 g6' hPv hacc e6=>?_)
   ·obtain⟨us,rfl,hus⟩:=hPv;rw[ao]at hx;cases hc1:kr.2[i]? with
    |none=>rw[hc1]at hx;cases hx
    |some z=>
    rw[hc1]at hx;cases hx;obtain⟨to2,st2,c2,ek2,⟨dx2,hob2⟩,_⟩:=tkAt z (r1 z (aG hc1));have hz:=((g1z.trans f1).trans (g5.trans g5')).at hob2;walk_at"w";refine⟨_,dx2,_,rfl,hz,rfl,?_⟩;walk_at"w";refine⟨_,dx2,to2,st2,c2,rfl,hz,fun t2 ht2=>hR2 _ _ (xb.new ht2) fun G7 s7 k7=>⟨us++[t2],by simp,?_⟩⟩;rw[bG,hc1,gA,aI,iK,ek2];exact yd (L2.Paired.imp' (fun _ _ z=>TupAt.same z s7) hus) (show G7 t2=_ from k7 _ _ (.inl ht2) xk)
   obtain⟨us,rfl,hus⟩:=hPv;rw[ab,bX]at hus;have hus:=L2.Paired.imp' (fun _ _ z=>TupAt.same z g6') hus;have g66:xb G4 G6':=g6.trans g6';walk_at"w";refine⟨by walk_at"side",fun q hq=>hR _ _ (f1.trans (g66.trans (xb.new hq))) fun G7 s7 k7=>⟨qs++[q],by simp,?_⟩⟩;have sq:=xb.new (o:=HO.tup [.ref t1,.ref D6]) hq;rw[bG,hkr,gA,aI,iK];refine yd (jn (fun x y hy z=>?_) hqs) ?_
   ·obtain⟨b,l,us,z1,z2,z3,z4⟩:=z;exact⟨b,l,us,s7.at z1,z2.same s7,s7.at z3,L2.Paired.imp' (fun _ _ w=>TupAt.same w s7) z4⟩
   ·refine⟨t1,D6,us,k7 _ _ (.inl ((f1.trans g66).back hq)) xk,?_,k7 _ _ (.inl (f1.back hD6)) (sq.at e6),L2.Paired.imp' (fun _ _ w=>(w.same sq).mv k7) hus⟩;show TupAt K G7 t1 (ks.getD kr.1.toNat dR);rw[ek];exact k7 _ _ (.inl ht1) ((g66.trans sq).at e1)
  walk_at"w";refine⟨by walk_at"side",fun q hq=>?_⟩;have s12z:=s12.trans s12';have sq:=s12z.trans (xb.new (o:=HO.tup [.ref pp,.ref D5]) hq);obtain⟨qs,rfl,hqs⟩:=hPv;rw[ab,hturl,bX]at hqs;refine k q pp tt D5 ts D _ (s08.trans (s89.trans (s10.trans (s11.trans sq)))) xk (sq.at epp) ((s11.trans sq).at ett) (jn (fun x y hy z=>⟨z.same (s10.trans (s11.trans sq)),(m2 y hy).2.2.1,(m2 y hy).2.1⟩) hts) (by rw[hts.length];exact m1) (fun r hr=>(m2 r hr).1) m3 m4 (fun r hr=>(m2 r hr).2.2) m5 m6 m7 ⟨rs,b,ord,tur,qs,hri,hks2▸hg,(xb.new (o:=HO.tup [.ref pp,.ref D5]) hq).at e5,?_⟩;rw[hks2];refine jn (fun x y hy z=>?_) hqs;obtain⟨b,l,us,z1,z2,z3,z4⟩:=z;have s7:=s12'.trans (xb.new (o:=HO.tup [.ref pp,.ref D5]) hq);exact⟨b,l,us,s7.at z1,z2.same s7,s7.at z3,L2.Paired.imp' (fun _ _ w=>TupAt.same w s7) z4⟩
end
end ML
section
variable {P:aH} {w:World} {K:ah} {mg:Str→Option Value} {base:Heap} {a:Adr}
theorem xio(c k:Int):0≤mixed c k∧mixed c k<2147483647:=by
 unfold mixed
 split
 ·have h1:=cg (c / 2^(1+20*(k%120)).toNat) (show(2^(20:Int).toNat:Int)≠0 by decide);have h2:=cf (c / 2^(1+20*(k%120)).toNat) (show(0:Int)<2^(20:Int).toNat by decide);have h3:(2^(20:Int).toNat:Int)=1048576:=by decide
  omega
 ·exact xeT _
theorem Bnd.app{xs ys:List Int}(h:Bnd xs)(g:Bnd ys):Bnd (xs++ys):=fun x hx=>by
 rcases aQ.mp hx with z|z
 ·exact h x z
 ·exact g x z
theorem Bnd.one{x:Int}(h:(x.natAbs:Int)<10^60):Bnd [x]:=fun y hy=>by rw[aA.mp hy];exact h
def xmU:Sp:=fun vs H Q _=>∃c:Int,vs=[.int c]∧∀(l:Addr) (es:List Int) (H':Hp),xb H H'→H l=none→H' l=some (.lst (es.map V.int))→es.length≤30→Bnd es→Q (.ref l) H'
theorem xmV(T:Txt K mg a):xA P w K mg base CX0 2 a.q2n a.xfz ["_law_cell"] xmU:=by
 refine T.q2t.ok xhG (fun vs H Q E h=>?_) (fun cdv A outer s H vs Q E hr h=>?_)
 ·obtain⟨c,rfl,_⟩:=h;rfl
 ·obtain⟨c,rfl,q⟩:=h;have nd:=xhG.nd;refine⟨_,(xg (xv (i:=1) nd rfl (aJ rfl) (xw yX (cv 0) xh))
  (xg (xM (xD ug (xw yX (xw vJ (cv 0) xh) xh) xh) (xi (xo (yj (yo (cap:=[0]) (ys:=["_law_cell"]) rfl rfl rfl rfl rfl ⟨⟨rfl,rfl,.inl rfl⟩,trivial⟩ (by decide+kernel)) rfl (zk (by rfl) T.q06 (xa (cv 1) xf)) (fun _ _ _ _=>(xw yX (xr (xbC T) (hr.mono (by decide)) (by rfl) T.xc0 T.q1N.kp T.xcZ .nil xn (xa (cv 1) (xa (cv 0) xf))) xh)) (fun _ _ _ _=>yi)))) xH)
  (xi (xo (yj (yo (cap:=[0]) (ys:=["_law_cell"]) rfl rfl rfl rfl rfl ⟨⟨rfl,rfl,.inl rfl⟩,trivial⟩ (by decide+kernel)) rfl (zk (by rfl) T.q06 (xa (cv 1) xf)) (fun _ _ _ _=>(xw xer (xr (xbC T) (hr.mono (by decide)) (by rfl) T.xc0 T.q1N.kp T.xcZ .nil xn (xa (cv 1) (xa (cv 0) xf))) (xw xjQ xh xh))) (fun _ _ _ _=>yi)))))),?_⟩
  have n0:=cg c (show(31:Int)≠0 by decide);have n1:=cf c (show(0:Int)<31 by decide);have er:yR 0 (c%31) 1=(c%31).toNat:=by rw[zq];lia
  walk_at"w";walk_at"ss";refine⟨fun e1=>?_,fun e1=>?_⟩
  ·walk_at"w";rw[er];refine xae (fun i acc _=>∃sg:List Int,acc=sg.map V.int∧sg.length=i∧Bnd sg) (by rw[ay];lia) ⟨[],rfl,rfl,fun _ z=>by cases z⟩ (fun i acc H3 H3' hi s3 s3' hP R hR=>?_) (fun D acc H3 H3' hD hD3 s3 s3' hP hl hv=>?_)
   ·obtain⟨sg,rfl,hsl,hb⟩:=hP;walk_at"w";refine⟨_,_,rfl,?_⟩;generalize mixed _ _=mx;have z0:=cg mx (show(3:Int)≠0 by decide);have z1:=cf mx (show(0:Int)<3 by decide);walk_at"w";walk_at"ss";exact hR _ _ (xb.refl _) fun H6 _ _=>⟨sg++[mx%3],by simp,by simp[hsl],hb.app (Bnd.one (Int.lt_trans (show((mx%3).natAbs:Int)<3 by lia) (by decide)))⟩
   ·obtain⟨sg,rfl,hsl,hb⟩:=hP;exact q D sg H3' (s3.trans s3') hD hv (by lia) hb
  ·walk_at"w";rw[er];refine xae (fun i acc _=>∃sg:List Int,acc=sg.map V.int∧sg.length=i∧Bnd sg) (by rw[ay];lia) ⟨[],rfl,rfl,fun _ z=>by cases z⟩ (fun i acc H3 H3' hi s3 s3' hP R hR=>?_) (fun D acc H3 H3' hD hD3 s3 s3' hP hl hv=>?_)
   ·obtain⟨sg,rfl,hsl,hb⟩:=hP;walk_at"w";refine⟨_,_,rfl,?_⟩;have mb:=xio c (0+(i:Int)*1);generalize mixed _ _=mx at mb;walk_at"w";walk_at"ss";refine hR _ _ (xb.refl _) fun H6 _ _=>⟨sg++[mx*10^Int.toNat 40],by simp,by simp[hsl],hb.app (Bnd.one ?_)⟩;have e40:(10:Int)^Int.toNat 40=10^40:=rfl;have h1:((mx*10^Int.toNat 40).natAbs:Int)=mx*10^40:=by
     rw[e40,Int.natAbs_of_nonneg (Int.mul_nonneg mb.1 (by decide))]
    rw[h1];have h2:mx*10^40≤2147483647*10^40:=Int.mul_le_mul_of_nonneg_right (by lia) (by decide);exact Int.lt_of_le_of_lt h2 (by decide)
   ·obtain⟨sg,rfl,hsl,hb⟩:=hP;exact q D sg H3' (s3.trans s3') hD hv (by lia) hb
theorem xig(sg:List Int){n:Int}(h:0≤n):zB (sg.map V.int) none (some n)=(sg.take n.toNat).map V.int:=by
 rw[za,yP h,HT.jv];simp[←List.take_eq_take_min]
theorem xfR(sg:List Int){m n:Int}(hm:0≤m)(h:m≤n):∃ys:List Int,zB (sg.map V.int) (some m) (some n)=ys.map V.int∧(ys.length:Int)≤n - m∧∀x∈ys,x∈sg:=by
 rw[za,yP hm,yP (by omega)];refine⟨_,rfl,?_,fun x hx=>fQ (fR hx)⟩;rw[bI,aX];omega
def xmW:Sp:=fun vs H Q _=>∃(e:Addr) (es:List Int) (c:Int),vs=[.ref e,.int c]∧H e=some (.lst (es.map V.int))∧Bnd es∧es.length≤1000∧∀(l:Addr) (nw:List Int) (H':Hp),xb H H'→H l=none→H' l=some (.lst (nw.map V.int))→nw.length≤40→Bnd nw→Q (.ref l) H'
theorem xmX(T:Txt K mg a):xA P w K mg base CX0 2 a.q2o a.xfA ["_law_elder_here","_law_cell"] xmW:=by
 refine T.q2u.ok xhH (fun vs H Q E h=>?_) (fun cdv A outer s H vs Q E hr h=>?_)
 ·obtain⟨e,es,c,rfl,_⟩:=h;rfl
 ·obtain⟨e,es,c,rfl,he,hb,hes,q⟩:=h;have nd:=xhH.nd;refine⟨_,(xg (xv (i:=2) nd rfl (aJ rfl) (yn xf))
  (xg (yD bj rfl (zk (by rfl) T.q06 (xa (xw yX (xr (xbC T) (hr.mono (by decide)) (by rfl) T.xc0 T.q1N.kp T.xcZ .nil xn (xa (cv 1) (xa xh xf))) xh) xf)) (xO (i:=3) nd rfl (aJ rfl)) (xg (xv (i:=4) nd rfl (fU rfl) (xr (xbC T) (hr.mono (by decide)) (by rfl) T.xc0 T.q1N.kp T.xcZ .nil xn (xa (cv 1) (xa (xw xU xh (cv 3)) xf))))
  (xg (xaS (xM (xD (xbg hr.units) (cv 0) (yn xf)) (xg (xv (i:=5) nd rfl (aJ rfl) (xw yX (xw vJ (cv 4) xh) (xt xy (by rfl) T.q0i xN (xa (cv 0) xf))))
  (xi (xv (i:=2) nd rfl (aJ rfl) (xw xem (cv 2) (yF zf (cv 0) (yb (cv 5)) (yb (xw xU (xw xU (cv 5) xh) (xw yX (xw vJ (cv 4) xh) xh)))))))) xH))
  (xi (xM (xD ug (xw yX (cv 4) xh) xh) (xi (xv (i:=2) nd rfl (aJ rfl) (xw xem (cv 2) (yj (yo (cap:=[4]) (ys:=["_law_draw"]) rfl rfl rfl rfl rfl ⟨⟨rfl,rfl,.inl rfl⟩,trivial⟩ (by decide+kernel)) rfl (zk (by rfl) T.q06 (xa (xw yX (xw vJ (cv 4) xh) xh) xf)) (fun _ _ _ _=>(xw xcS (xm7 xng xh) (xw yX (cv 1) xh))) (fun _ _ _ _=>yi))))) xH)))))
  (xi (xo (yF zf (cv 2) vf (yb xh)))))),?_⟩
  walk_at"w";walk_at"ss";intro sl0 hsl0;generalize hUsl0:upd H sl0 _=H1;have sH1:=xb.of_eq hsl0 hUsl0;have esl0:=xm hUsl0;clear hUsl0;walk_at"w";refine⟨_,_,rfl,?_⟩;generalize mixed c 3=mx;have z0:=cg mx (show(6:Int)≠0 by decide);have z1:=cf mx (show(0:Int)<6 by decide);walk_at"w";walk_at"ss";obtain⟨N,hN⟩:∃N:Nat,N=yR 0 (mx%6) 1:=⟨_,rfl⟩;rw[←hN];rw[zq]at hN;refine xb2 (fun i σ G=>xb H G∧∃(sl:Addr) (sg:List Int) (x3 x4 x5:Option V),σ=[some (.ref e),some (.int c),some (.ref sl),x3,x4,x5]∧G sl=some (.lst (sg.map V.int))∧sg.length≤20*i∧Bnd sg)
   ⟨sH1,sl0,[],_,_,_,rfl,esl0,by simp,fun _ z=>by cases z⟩ (fun i σ G hi hP=>?_) (fun σ G hP=>?_)
  ·obtain⟨sG,sl,sg,x3,x4,x5,rfl,esl,hsl,hbs⟩:=hP;walk_at"w";refine⟨_,_,rfl,?_⟩;generalize mixed c _=dr;walk_at"w";refine⟨fun σ' G'=>xb G G'∧∃(sl:Addr) (sg:List Int) (x5:Option V),σ'=[some (.ref e),some (.int c),some (.ref sl),some (.int (0+(i:Int)*1)),some (.int dr),x5]∧G' sl=some (.lst (sg.map V.int))∧sg.length≤20*i+14∧Bnd sg,?_,?_⟩
   ·walk_at"w";walk_at"ss";intro zz hzz;generalize hUzz:upd G zz _=G1;have sG1:=xb.of_eq hzz hUzz;have ezz:=xm hUzz;clear hUzz;walk_at"w";refine xaU (f:=fun b=> !b) ⟨e,zz,es,[],rfl,rfl,SqL.of ((sG.trans sG1).at he),SqL.of ezz,?_⟩;walk_at"w";refine⟨fun e3=>?_,fun e3=>⟨sG1,sl,sg,_,rfl,sG1.at esl,by lia,hbs⟩⟩;have e3:es≠[]:=by simpa using e3
    have hd1:0<es.length:=bB.mpr e3;walk_at"w";walk_at"ss";refine⟨e,_,rfl,.inl (SqL.of ((sG.trans sG1).at he)),?_⟩;walk_at"w";rw[ab];refine fN (show(0:Int)<_ by lia) ?_;have j0:=cg (dr / 8) (show((es.length:Nat):Int)≠0 by lia);have j1:=cf (dr / 8) (show(0:Int)<((es.length:Nat):Int)by lia);have y0:=cg (dr / 512) (show(14:Int)≠0 by decide);have y1:=cf (dr / 512) (show(0:Int)<14 by decide);walk_at"w";walk_at"ss";refine⟨_,rfl,?_⟩;walk_at"w";walk_at"ss";refine⟨_,rfl,?_⟩;walk_at"w";refine⟨e,_,rfl,SqL.of ((sG.trans sG1).at he),?_⟩;obtain⟨ys,hys,hyl,hym⟩:=xfR es j0 (show dr / 8%((es.length:Nat):Int)≤dr / 8%((es.length:Nat):Int)+1+dr / 512%14 by lia);rw[hys];intro yl hyl;generalize hUyl:upd G1 yl _=G2;have sG2:=xb.of_eq hyl hUyl;have eyl:=xm hUyl;clear hUyl;walk_at"w";refine⟨sl,yl,_,_,rfl,rfl,(sG1.trans sG2).at esl,eyl,by rw[ay];simp;lia,?_⟩;intro sn hsn;generalize hUsn:upd G2 sn _=G3;have sG3:=xb.of_eq hsn hUsn;have esn:=xm hUsn;clear hUsn;walk_at"w";rw[←aI]at esn;exact⟨sG1.trans (sG2.trans sG3),sn,sg++ys,_,rfl,esn,by rw[ar];lia,hbs.app (fun x hx=>hb x (hym x hx))⟩
   rintro σ' G2 ⟨sG2,sl2,sg2,x5',rfl,esl2,hsl2,hbs2⟩;clear esl hsl hbs sl sg;walk_at"w";walk_at"ss";have y0:=cg (dr / 4) (show(3:Int)≠0 by decide);have y1:=cf (dr / 4) (show(0:Int)<3 by decide);refine⟨fun e3=>?_,fun e3=>⟨sG.trans sG2,sl2,sg2,_,_,_,rfl,esl2,by lia,hbs2⟩⟩;walk_at"w";walk_at"ss";obtain⟨M,hM⟩:∃M:Nat,M=yR 0 (dr / 4%3) 1:=⟨_,rfl⟩;rw[←hM];rw[zq]at hM;have w0:=cg dr (show(4:Int)≠0 by decide);have w1:=cf dr (show(0:Int)<4 by decide);refine xae (fun i acc _=>∃ys:List Int,acc=ys.map V.int∧ys.length=i∧Bnd ys) (by rw[ay];lia) ⟨[],rfl,rfl,fun _ z=>by cases z⟩ (fun i acc H3 H3' hi s3 s3' hP R hR=>?_) (fun D acc G3 G3' hD hD3 s3 s3' hP hl hv=>?_)
   ·obtain⟨ys,rfl,hyl,hby⟩:=hP;walk_at"w";walk_at"ss";exact hR _ _ (xb.refl _) fun H6 _ _=>⟨ys++[-1 - dr%4],by simp,by simp[hyl],hby.app (Bnd.one (Int.lt_trans (show((-1 - dr%4).natAbs:Int)<10 by lia) (by decide)))⟩
   obtain⟨ys,rfl,hyl,hby⟩:=hP;have s23:xb G2 G3':=s3.trans s3';walk_at"w";refine⟨sl2,D,_,_,rfl,rfl,s23.at esl2,hv,by rw[ay];simp;lia,?_⟩;intro sn hsn;generalize hUsn:upd G3' sn _=G4;have sG4:=xb.of_eq hsn hUsn;have esn:=xm hUsn;clear hUsn;walk_at"w";rw[←aI]at esn;exact⟨(sG.trans sG2).trans (s23.trans sG4),sn,sg2++ys,_,_,_,rfl,esn,by rw[ar];lia,hbs2.app hby⟩
  ·obtain⟨sG,sl,sg,x3,x4,x5,rfl,esl,hsl,hbs⟩:=hP;walk_at"w";refine⟨40,rfl,?_⟩;walk_at"w";refine⟨sl,_,rfl,SqL.of esl,?_⟩;rw[xig _ (by decide)];intro fl hfl;generalize hUfl:upd G fl _=G2;have sG2:=xb.of_eq hfl hUfl;have efl:=xm hUfl;clear hUfl;walk_at"w";exact q fl (sg.take 40) G2 (sG.trans sG2) (sG.back hfl) efl (by rw[bI];lia) (fun x hx=>hbs x (fR hx))
end
namespace ML
section
variable {P:aH} {w:World} {K:ah} {mg:Str→Option Value} {base:Heap} {a:Adr}
theorem xbI(T:Txt K mg a):xA P w K mg base CX0 6 a.q12 a.xa1 ["elder","newer","least"] (xie K):=by
 refine T.vw.ok xhB (fun vs H Q E h=>?_) (fun cdv A outer s H vs Q E hr h=>?_)
 ·obtain⟨e,n,es,ns,least,rfl,_⟩:=h;rfl
 ·obtain⟨e,n,es,ns,least,rfl,hP,he,hn,h64,h100,hls,k⟩:=h;have nd:=xhB.nd;refine⟨_,(xi (xo (yj (yo (cap:=[]) (ys:=[]) rfl rfl rfl rfl rfl trivial (by decide+kernel)) rfl (xZ (xr (xbR T) (hr.mono (by decide)) (by rfl) T.xcn T.q0T.kp T.xcm .nil xn (xa (cv 0) (xa (cv 1) (xa (cv 2) xf))))) (fun _ _ _ _=>(ub (xI (cv 0) T.q0f T.q2z (xdD T) (hr.mono (by decide)) T.xeD .nil xn) (xI (cv 0) T.q0c T.q1A (va T) (hr.mono (by decide)) T.vz .nil xn))) (fun _ _ _ _=>yi)))),?_⟩;walk_at"w";refine⟨e,n,es,ns,least,rfl,hP,he,hn,h64,h100,hls,fun l os rs b H1 s1 hl el hpo hri=>?_⟩;walk_at"w";refine⟨l,rfl,⟨_,SqL.of el⟩,?_⟩;have hol:=hpo.length;have hb:=xE.few hri;refine uH (fun i acc G=>∃ts:List Addr,acc=ts.map V.ref∧Paired (TupAt K G) ts (rs.take i)) (SqL.of el) (by rw[ab,ay];lia) ⟨[],rfl,by rw[ll];exact .nil⟩ (fun i x acc H3 H3' hx s3 s3' hP R hR=>?_) (fun D acc H3 H3' hD hD3 s3 s3' hP hl2 hv=>?_)
  ·obtain⟨ts,rfl,hts⟩:=hP;rw[ao]at hx;cases hc0:os[i]? with
   |none=>rw[hc0]at hx;cases hx
   |some y=>
   rw[hc0]at hx;cases hx;obtain⟨r,hr',ho⟩:=xK hpo hc0;walk_at"w";refine xin (xB.same ho (s3.trans s3')) fun t H4 s4 ht4=>hR _ _ s4 fun G7 s7 k7=>⟨ts++[t],by simp,?_⟩;rw[bG,hr'];exact yd (L2.Paired.imp' (fun _ _ z=>TupAt.same z s7) hts) (ht4.mv k7)
  ·obtain⟨ts,rfl,hts⟩:=hP;rw[ab,hol,bX]at hts;exact k D ts rs b H3' (s1.trans (s3.trans s3')) (s1.back hD) hv (L2.Paired.imp' (fun _ _ z=>TupAt.same z s3') hts) hri
end
end ML
section
variable {P:aH} {w:World} {K:ah} {mg:Str→Option Value} {base:Heap} {a:Adr}
def xmY(K:ah):Sp:=fun vs H Q _=>∃(tt:Addr) (us:List Addr) (rs:List xc),vs=[.ref tt]∧H tt=some (.tup (us.map V.ref))∧Paired (TupAt K H) us rs∧rs.length≤1000∧Q (.int (rs.map xc.cst).sum) H
theorem xiX(T:Txt K mg a):xA P w K mg base CX0 1 a.q1E a.xby ["_law_rows"] (xmY K):=by
 refine T.q1I.ok xdv (fun vs H Q E h=>?_) (fun cdv A outer s H vs Q E hr h=>?_)
 ·obtain⟨tt,us,rs,rfl,_⟩:=h;rfl
 ·obtain⟨tt,us,rs,rfl,htt,hus,hln,q⟩:=h;have nd:=xdv.nd;have hul:=hus.length;refine⟨_,(xg (xv (i:=1) nd rfl (aJ rfl) xh)
  (xg (yD bj rfl (xaQ (cv 0)) (xO (i:=2) nd rfl (aJ rfl)) (xi (xM (xD xnf (xu xx (cv 2) xh (fun _ _=>rfl)) vF) (xi (xv (i:=1) nd rfl (aJ rfl) (xw xU (cv 1) xh))) (xi (xv (i:=1) nd rfl (aJ rfl) (xw xU (xw xU (cv 1) xh) (xt xy (by rfl) T.q0i xN (xa (xu xx (cv 2) xh (fun _ _=>rfl)) xf))))))))
  (xi (xo (cv 1))))),?_⟩
  walk_at"w";refine⟨tt,rfl,⟨_,SqT.of htt⟩,?_⟩;refine xb3 (xs:=us.map V.ref) (fun i σ G=>G=H∧∃x2:Option V,σ=[some (.ref tt),some (.int ((rs.take i).map xc.cst).sum),x2]) ⟨rfl,_,rfl⟩ (fun i σ G hi hP=>by rw[hP.1];exact SqT.of htt) (fun i x σ G hx hP=>?_) (fun σ G hP=>?_)
  ·obtain⟨rfl,x2,rfl⟩:=hP;rw[ao]at hx;obtain⟨t0,ht0,rfl⟩:=bf.mp hx;obtain⟨r,hr0,pr⟩:=xK hus ht0;have es:((rs.take (i+1)).map xc.cst).sum=((rs.take i).map xc.cst).sum+r.cst:=by
    rw[bG,hr0];simp
   cases r with
   |take to st c=>
    have pr:G t0=some (.tup [.str "take",.int to,.int st,.int c]):=pr;walk_at"w";refine⟨t0,_,_,.str "take",rfl,rfl,SqT.of pr,rfl,?_⟩;walk_at"w";refine⟨fun _=>?_,by walk_at"no"⟩;walk_at"w";exact⟨rfl,_,by rw[es];rfl⟩
   |put to sg=>
    obtain⟨u,pr,pu⟩:=pr;walk_at"w";refine⟨t0,_,_,.str "put",rfl,rfl,SqT.of pr,rfl,?_⟩;walk_at"w";refine⟨by walk_at"no",fun _=>?_⟩;walk_at"w";refine⟨t0,_,_,.ref u,rfl,rfl,SqT.of pr,rfl,?_⟩;walk_at"w";refine⟨u,_,rfl,.inr (SqT.of pu),?_⟩;walk_at"w";rw[ab];refine⟨rfl,some (.ref t0),?_⟩;rw[es,show((rs.take i).map xc.cst).sum+xc.cst (.put to sg)=((rs.take i).map xc.cst).sum+2+(sg.length:Int)from(Int.add_assoc _ _ _).symm];rfl
  ·obtain⟨rfl,x2,rfl⟩:=hP;rw[ab,hul,bX];exact q
theorem xmZ{es nw:List Int}{r:xc}{cs:List V}(h:Tells es nw r)(hl:cs.length=nw.length):(cs.take r.to.toNat++(r.sg es).map V.int++cs.drop (r.to.toNat+r.cnt)).length=nw.length∧∀j,j<nw.length→(xV r j→(cs.take r.to.toNat++(r.sg es).map V.int++cs.drop (r.to.toNat+r.cnt))[j]? =nw[j]?.map V.int)∧(¬xV r j→(cs.take r.to.toNat++(r.sg es).map V.int++cs.drop (r.to.toNat+r.cnt))[j]? =cs[j]?):=by
 have hsl:=xc.sg_len h.1 h.2.1;have h0:=h.1.to;obtain⟨h1,h2,h3,h4⟩:=h;have e1:(cs.take r.to.toNat).length=r.to.toNat:=by rw[bI];lia
 refine⟨by rw[ar,ar,ab,e1,hsl,aX];lia,fun j hj=>⟨fun hc=>?_,fun hc=>?_⟩⟩
 ·obtain⟨c1,c2⟩:=hc;rw[bp (by rw[ar,ab,e1,hsl];lia),bz (by lia),e1,ao,←h4 (j - r.to.toNat) (by lia)]
  congr 2
  lia
 ·have hc:(j:Int)<r.to∨r.to+r.cnt≤j:=by
   rcases mB (j:Int) r.to with z|z
   ·exact .inl z
   ·rcases mB (j:Int) (r.to+r.cnt)with y|y
    ·exact absurd ⟨z,y⟩ hc
    ·exact .inr y
  rcases hc with hc|hc
  ·rw[bp (by rw[ar,e1];lia),bp (by lia),cJ (by lia)]
  ·rw[bz (by rw[ar,ab,e1,hsl];lia),ar,ab,e1,hsl,c9]
   congr 1
   lia
def xm0(K:ah):Sp:=fun vs H Q _=>∃(p e tt:Addr) (o:Int) (es nw:List Int) (us:List Addr) (rs:List xc),vs=[.ref p,.ref e]∧H p=some (.tup [.int o,.int nw.length,.ref tt])∧H tt=some (.tup (us.map V.ref))∧Paired (TupAt K H) us rs∧H e=some (.lst (es.map V.int))∧nw.length≤1000∧es.length≤1000∧rs.length≤1000∧(∀r∈rs,Tells es nw r)∧(∀j,j<nw.length→∃r∈rs,xV r j)∧xaM H Q nw
theorem xow(T:Txt K mg a):xA P w K mg base CX0 1 a.q2E a.xhq ["_law_paper","_law_elder_here"] (xm0 K):=by
 refine T.q2G.ok xjo (fun vs H Q E h=>?_) (fun cdv A outer s H vs Q E hr h=>?_)
 ·obtain⟨p,e,tt,o,es,nw,us,rs,rfl,_⟩:=h;rfl
 ·obtain⟨p,e,tt,o,es,nw,us,rs,rfl,hp,htt,hus,he,hnl,hel,hrl,htell,hcov,q⟩:=h;have nd:=xjo.nd;have hul:=hus.length;refine⟨_,(xg (xv (i:=2) nd rfl (aJ rfl) (xw xkT (yn (xa xaP xf)) (xu xx (cv 0) xh (fun _ _=>rfl))))
  (xg (yD bj rfl (xaQ (xu xx (cv 0) xh (fun _ _=>rfl))) (xO (i:=3) nd rfl (aJ rfl)) (xi (xM (xD xnf (xu xx (cv 3) xh (fun _ _=>rfl)) vF) (xi (xbT (yF zf (cv 1) (yb (xu xx (cv 3) xh (fun _ _=>rfl))) (yb (xw xU (xu xx (cv 3) xh (fun _ _=>rfl)) (xu xx (cv 3) xh (fun _ _=>rfl))))) (xhc (cv 2) (yb (xu xx (cv 3) xh (fun _ _=>rfl))) (yb (xw xU (xu xx (cv 3) xh (fun _ _=>rfl)) (xu xx (cv 3) xh (fun _ _=>rfl))))))) (xi (xbT (yB jw (by rfl) T.q2l vh (xa (xu xx (cv 3) xh (fun _ _=>rfl)) xf)) (xhc (cv 2) (yb (xu xx (cv 3) xh (fun _ _=>rfl))) (yb (xw xU (xu xx (cv 3) xh (fun _ _=>rfl)) (xt xy (by rfl) T.q0i xN (xa (xu xx (cv 3) xh (fun _ _=>rfl)) xf))))))))))
  (xi (xo (cv 2))))),?_⟩
  walk_at"w";walk_at"ss";intro z0 hz0;generalize hUz0:upd H z0 _=H1;have sH1:=xb.of_eq hz0 hUz0;have ez0:=xm hUz0;clear hUz0;walk_at"w";refine⟨p,_,_,.int nw.length,rfl,rfl,SqT.of (sH1.at hp),rfl,?_⟩;walk_at"w";refine⟨z0,_,_,rfl,rfl,ez0,by lia,by lia,by rw[ay];simp;lia,?_⟩;intro cl hcl;generalize hUcl:upd H1 cl _=H2;have sH2:=xb.of_eq hcl hUcl;have ecl:=xm hUcl;clear hUcl;walk_at"w";have hcl0:=hcl;have s02:xb H H2:=sH1.trans sH2;rw[gX,bJ]at ecl;refine⟨p,_,_,.ref tt,rfl,rfl,SqT.of (s02.at hp),rfl,?_⟩;walk_at"w";refine⟨tt,rfl,⟨_,SqT.of (s02.at htt)⟩,?_⟩;refine xb3 (xs:=us.map V.ref) (fun i σ G=>xb H G∧∃(cs:List V) (x3:Option V),σ=[some (.ref p),some (.ref e),some (.ref cl),x3]∧G cl=some (.lst cs)∧cs.length=nw.length∧∀j,j<nw.length→(∃r∈rs.take i,xV r j)→cs[j]? =nw[j]?.map V.int) ⟨s02,_,_,rfl,ecl,by simp,fun j _ h=>by simp at h⟩ (fun i σ G hi hP=>SqT.of (hP.1.at htt)) (fun i x σ G hx hP=>?_) (fun σ G hP=>?_)
  ·obtain⟨sG,cs,x3,rfl,eG,hcl,hag⟩:=hP;rw[ao]at hx;obtain⟨t0,ht0,rfl⟩:=bf.mp hx;obtain⟨r,hr0,pr⟩:=xK hus ht0;have hT:=htell r (aG hr0);have hr3:=hT.2.2.1;have hr4:=hT.1.to;have hsl:=xc.sg_len hT.1 hT.2.1;obtain⟨l1,l2⟩:=xmZ hT hcl;have fin:∀(G2:Hp) (x3:Option V),xb G G2→G2 cl=some (.lst cs)→∀ys:List V,ys=cs.take r.to.toNat++(r.sg es).map V.int++cs.drop (r.to.toNat+r.cnt)→xb H (upd G2 cl (.lst ys))∧∃(cs':List V) (y3:Option V),[some (V.ref p),some (.ref e),some (.ref cl),x3]=[some (.ref p),some (.ref e),some (.ref cl),y3]∧upd G2 cl (.lst ys) cl=some (.lst cs')∧cs'.length=nw.length∧∀j,j<nw.length→(∃r∈rs.take (i+1),xV r j)→cs'[j]? =nw[j]?.map V.int:=fun G2 x3 s2 e2 ys hys=>by
    subst hys;refine⟨xb.wr (sG.trans s2) (sH1.back hcl0) rfl,_,_,rfl,xk,l1,fun j hj hc=>?_⟩
    by_cases hcr:xV r j
    ·exact(l2 j hj).1 hcr
    ·rw[(l2 j hj).2 hcr];obtain⟨r',hr',hc'⟩:=hc;rw[bG,hr0]at hr';rcases aQ.mp hr' with z|z
     ·exact hag j hj ⟨r',z,hc'⟩
     ·rw[gA,aA]at z;exact absurd (z▸hc') hcr
   cases r with
   |take to st c=>
    have pr:=sG.at (show H t0=some (.tup [.str "take",.int to,.int st,.int c])from pr)
    walk_at"w";refine⟨t0,_,_,.str "take",rfl,rfl,SqT.of pr,rfl,?_⟩;walk_at"w";refine⟨fun _=>?_,by walk_at"no"⟩;walk_at"w";refine⟨t0,_,_,.int st,rfl,rfl,SqT.of pr,rfl,?_⟩;walk_at"w";refine⟨st,rfl,?_⟩;walk_at"w";refine⟨t0,_,_,.int st,rfl,rfl,SqT.of pr,rfl,?_⟩;walk_at"w";refine⟨t0,_,_,.int c,rfl,rfl,SqT.of pr,rfl,?_⟩;walk_at"w";refine⟨_,rfl,?_⟩;walk_at"w";refine⟨e,_,rfl,SqL.of (sG.at he),?_⟩;have hk:=hT.1;have hf:st+c≤es.length:=hT.2.1;have hr3:to+(c.toNat:Int)≤nw.length:=hr3;have hr4:0≤to:=hr4;rw[show zB (es.map V.int) (some st) (some (st+c))=(xc.sg es (.take to st c)).map V.int by
     rw[za,yP hk.2.1,yP (by have:=hk.2.1;have:=hk.2.2;lia)];have:=hk.2.1;have:=hk.2.2;rw[show min st.toNat es.length=st.toNat by lia,show min (st+c).toNat es.length - st.toNat=c.toNat by lia];rfl]
    intro yl hyl;generalize hUyl:upd G yl _=G1;have sG1:=xb.of_eq hyl hUyl;have eyl:=xm hUyl;clear hUyl;walk_at"w";refine⟨t0,_,_,.int to,rfl,rfl,SqT.of (sG1.at pr),rfl,?_⟩;walk_at"w";refine⟨to,rfl,?_⟩;walk_at"w";refine⟨t0,_,_,.int to,rfl,rfl,SqT.of (sG1.at pr),rfl,?_⟩;walk_at"w";refine⟨t0,_,_,.int c,rfl,rfl,SqT.of (sG1.at pr),rfl,?_⟩;walk_at"w";refine⟨_,rfl,?_⟩;walk_at"w";refine⟨cl,yl,_,_,to,to+c,rfl,rfl,rfl,rfl,sG1.at eG,eyl,(fun z=>by rw[z]at eG;rw[hyl]at eG;cases eG),hr4,by have:=hk.2.2;lia,by have:=hk.2.2;lia,by rw[ab,hsl,ay];show _+c.toNat≤_;lia,?_⟩;exact fin G1 _ sG1 (sG1.at eG) _ (by rw[show(to+c).toNat=to.toNat+c.toNat by have:=hk.2.2;lia];rfl)
   |put to sg=>
    obtain⟨u,pr,pu⟩:=pr;have pr:=sG.at pr;have pu:=sG.at pu;walk_at"w";refine⟨t0,_,_,.str "put",rfl,rfl,SqT.of pr,rfl,?_⟩;walk_at"w";refine⟨by walk_at"no",fun _=>?_⟩;walk_at"w";refine⟨t0,_,_,.ref u,rfl,rfl,SqT.of pr,rfl,?_⟩;walk_at"w";refine⟨u,_,rfl,.inr (SqT.of pu),?_⟩;have hr3:to+(sg.length:Int)≤nw.length:=hr3;have hr4:0≤to:=hr4;intro yl hyl;generalize hUyl:upd G yl _=G1;have sG1:=xb.of_eq hyl hUyl;have eyl:=xm hUyl;clear hUyl;walk_at"w";refine⟨t0,_,_,.int to,rfl,rfl,SqT.of (sG1.at pr),rfl,?_⟩;walk_at"w";refine⟨to,rfl,?_⟩;walk_at"w";refine⟨t0,_,_,.int to,rfl,rfl,SqT.of (sG1.at pr),rfl,?_⟩;walk_at"w";refine⟨t0,_,_,.ref u,rfl,rfl,SqT.of (sG1.at pr),rfl,?_⟩;walk_at"w";refine⟨u,_,rfl,.inr (SqT.of (sG1.at pu)),?_⟩;walk_at"w";rw[ab];refine⟨_,rfl,?_⟩;walk_at"w";refine⟨cl,yl,_,_,to,to+(sg.length:Int),rfl,rfl,rfl,rfl,sG1.at eG,eyl,(fun z=>by rw[z]at eG;rw[hyl]at eG;cases eG),hr4,by lia,by lia,by rw[ab,ay];lia,?_⟩;exact fin G1 _ sG1 (sG1.at eG) _ (by rw[show(to+(sg.length:Int)).toNat=to.toNat+sg.length by lia];rfl)
  ·obtain⟨sG,cs,x3,rfl,eG,hcl,hag⟩:=hP;rw[ab,hul,bX]at hag;have hcs:cs=nw.map V.int:=by
    apply eJ;intro j
    by_cases hj:j<nw.length
    ·rw[hag j hj (hcov j hj),ao]
    ·rw[cn (by lia),cn (by simp;lia)]
   rw[hcs]at eG;exact q cl G sG (sH1.back hcl0) eG
end
section
variable {P:aH} {w:World} {K:ah} {mg:Str→Option Value} {base:Heap} {a:Adr}
theorem xbJ(r:xc):dY r.dat=true:=by
 unfold dY;have:=xlL r;rw[xc1 r,decide_eq_true (show dJ r.dat≤64 by lia)];rfl
def xpL(xss:List (List Int))(left:List Int)(k:Int)(ring:List Int):Prop:=k∈ring∧2≤ring.length∧ring.Nodup∧(∀x∈ring,x∈left)∧∀i,i<ring.length→∃x y,ring[if i=0 then ring.length - 1 else i - 1]? =some x∧ring[i]? =some y∧x∈xss.getD y.toNat []
def xcO(xss:List (List Int)):List Int→List (Int×List Int)→Prop
 |_,[]=>True
 |left,(k,ring)::tur=>xpL xss left k ring∧xcO xss (left.filter fun x=>decide (x≠k)) tur
theorem xcO.mono{xss:List (List Int)}:∀{tur:List (Int×List Int)} {l l':List Int},(∀x∈l,x∈l')→xcO xss l tur→xcO xss l' tur
 |[],_,_,_,_=>trivial
 |(k,ring)::tur,l,l',h,f=>by
  obtain⟨⟨a,b,c,d,e⟩,g⟩:=f;refine⟨⟨a,b,c,fun x hx=>h x (d x hx),e⟩,xcO.mono (fun x hx=>?_) g⟩;obtain⟨q1,q2⟩:=aK.mp hx;exact aK.mpr ⟨h x q1,q2⟩
theorem xlW{xss:List (List Int)}{key:Int→List Int}{left ord:List Int}{tur:List (Int×List Int)}(h:Goes xss key left ord tur):(∀x∈left,0≤x∧x<xss.length∧x∉xss.getD x.toNat [])→xcO xss left tur:=by
 induction h with
 |nil=>exact fun _=>trivial
 |keep k hk _ _ ih=>exact fun hl=>(ih fun x hx=>hl x (aK.mp hx).1).mono fun x hx=>(aK.mp hx).1
 | @turn left ord ring tur k hh hr hk1 hk _ ih=>
  intro hl;obtain⟨g1,g2,g3,g4⟩:=xcH (fun x hx=>⟨(hl x hx).1,(hl x hx).2.1,hh x hx⟩) (fun x hx=>(hl x hx).2.2) hr;refine⟨⟨?_,g1,g2,g3,g4⟩,ih fun x hx=>hl x (aK.mp hx).1⟩;rw[hk1];refine getD_mem ?_;have:=xhb (fun i=>key (ring.getD i 0)) (ring.length - 1);lia
theorem xm1{ks:List xc}{x y:Int}(hx:0≤x∧x<ks.length)(hy:0≤y∧y<ks.length)(h:x∈(ya ks).getD y.toNat []){to st c to2 st2 c2:Int}(e1:ks.getD x.toNat dR= .take to st c)(e2:ks.getD y.toNat dR= .take to2 st2 c2):
  to≠st∧to2≠st2∧st<to2+c2∧to2<st+c:=by
 have hk:y.toNat<ks.length:=by lia
 have hkx:x.toNat<ks.length:=by lia
 have e:(ya ks).getD y.toNat []=vD y.toNat ((ks.map xc.wr).getD y.toNat (0,0)) (ks.map xc.rd):=by simp[ya,a9,hk]
 rw[e]at h;unfold vD at h;obtain⟨i,hi,e3⟩:=aN.mp h;have hm:=(aK.mp hi).2;rw[dv]at hm;have hm:=hm.2;have hix:i=x.toNat:=by lia
 subst hix;have f1:(ks.map xc.wr).getD y.toNat (0,0)=(xc.take to2 st2 c2).wr:=by
  rw[←e2];simp[a9,hk]
 have f2:(ks.map xc.rd).getD x.toNat (0,0)=(xc.take to st c).rd:=by
  rw[←e1];simp[a9,hkx]
 rw[f1,f2]at hm;unfold xbE xc.wr xc.rd at hm;have hm:=of_decide_eq_true hm;dsimp only at hm
 split at hm
 ·split at hm
  ·dsimp only at hm;lia
  ·dsimp only at hm;lia
 ·split at hm
  ·dsimp only at hm;lia
  ·dsimp only at hm;lia
theorem xfU{es ns:List Int}{least:Int}:∀{rs:List xc} {i j:Nat} {b b':Bool},ML.xE es ns least i b rs j b'→(∀r∈rs,(i:Int)≤r.to)∧rs.Pairwise fun r r'=>r.to<r'.to
 |[],_,_,_,_,_=>⟨by simp,.nil⟩
 | .put to sg::rs,i,j,_,_,h=>by
  obtain⟨h1,h2,h3,h4,h5,h6,h7⟩:=h;obtain⟨q1,q2⟩:=xfU h7;have hp:=bB.mpr h3;refine⟨fun r hr=>?_,.cons (fun r hr=>?_) q2⟩
  ·rcases ax.mp hr with rfl|hr
   ·show(i:Int)≤to;lia
   ·have:=q1 r hr;lia
  ·have:=q1 r hr;show to<r.to;lia
 | .take to st c::rs,i,j,_,_,h=>by
  obtain⟨st',c',h1,h2,h3,h4,h5,h6,h7,h8⟩:=h;obtain⟨q1,q2⟩:=xfU h8;refine⟨fun r hr=>?_,.cons (fun r hr=>?_) q2⟩
  ·rcases ax.mp hr with rfl|hr
   ·show(i:Int)≤to;lia
   ·have:=q1 r hr;lia
  ·have:=q1 r hr;show to<r.to;lia
theorem xip{ks:List xc}(h:ks.Pairwise fun r r'=>r.to<r'.to){x y:Int}(hx:0≤x∧x<ks.length)(hy:0≤y∧y<ks.length)(e:ks.getD x.toNat dR=ks.getD y.toNat dR):x=y:=by
 have hx':x.toNat<ks.length:=by lia
 have hy':y.toNat<ks.length:=by lia
 have e1:ks.getD x.toNat dR=ks[x.toNat]:=by simp[a9,hx']
 have e2:ks.getD y.toNat dR=ks[y.toNat]:=by simp[a9,hy']
 rw[e1,e2]at e;have p:=bt.mp h;rcases fG x.toNat y.toNat with z|z|z
 ·have:=p _ _ hx' hy' z;rw[e]at this;lia
 ·lia
 ·have:=p _ _ hy' hx' z;rw[e]at this;lia
def kOf:xc→List Key
 | .take to st c=>[.inr "take",.inl to,.inl st,.inl c]
 | .put _ _=>[]
theorem xm2{to st c to2 st2 c2:Int}(h:eP (xc.take to st c).dat (xc.take to2 st2 c2).dat=true):xc.take to st c=xc.take to2 st2 c2:=by
 simp[xc.dat,eP,PyData.eqvAll]at h;obtain⟨rfl,rfl,rfl⟩:=h;rfl
theorem xm3{α:Type}{xs:List α}{k:Nat}(hk:k<xs.length):atI xs ((k:Int) - 1)=xs[if k=0 then xs.length - 1 else k - 1]? :=by
 unfold atI ixN
 by_cases h0:k=0
 ·rw[if_neg (by lia),if_pos (by lia),if_pos h0];show xs[((k:Int) - 1+xs.length).toNat]? =_
  congr 1
  lia
 ·rw[if_pos (by lia),if_pos (by lia),if_neg h0];show xs[((k:Int) - 1).toNat]? =_
  congr 1
  lia
def xlX(K:ah):Sp:=fun vs H Q _=>∃(t u:Addr) (to st c to2 st2 c2:Int),vs=[.ref t,.ref u]∧TupAt K H t (.take to st c)∧TupAt K H u (.take to2 st2 c2)∧to≠st∧to2≠st2∧st<to2+c2∧to2<st+c∧Q (.bl true) H
theorem xm4(T:Txt K mg a):xA P w K mg base CX0 1 a.q2p a.xfB ["_law_one","_law_other"] (xlX K):=by
 refine T.q2v.ok xhI (fun vs H Q E h=>?_) (fun cdv A outer s H vs Q E hr h=>?_)
 ·obtain⟨t,u,to,st,c,to2,st2,c2,rfl,_⟩:=h;rfl
 ·obtain⟨t,u,to,st,c,to2,st2,c2,rfl,ht,hu,n1,n2,l1,l2,q⟩:=h;have nd:=xhI.nd;refine⟨_,(xg (xM (PW.pt (zo (xD ug (xu xx (cv 0) xh (fun _ _=>rfl)) (xu xx (cv 0) xh (fun _ _=>rfl))) (vG (xD ug (xu xx (cv 1) xh (fun _ _=>rfl)) (xu xx (cv 1) xh (fun _ _=>rfl)))))) (xi (xo zm)) xH)
  (xi (xo (zg (uc xat (xu xx (cv 0) xh (fun _ _=>rfl)) (xw xU (xu xx (cv 1) xh (fun _ _=>rfl)) (xu xx (cv 1) xh (fun _ _=>rfl)))) (zZ (uc xat (xu xx (cv 1) xh (fun _ _=>rfl)) (xw xU (xu xx (cv 0) xh (fun _ _=>rfl)) (xu xx (cv 0) xh (fun _ _=>rfl))))))))),?_⟩
  walk_at"w";refine⟨t,_,_,.int to,rfl,rfl,SqT.of ht,rfl,?_⟩;walk_at"w";refine⟨t,_,_,.int st,rfl,rfl,SqT.of ht,rfl,?_⟩;walk_at"w";refine⟨fun z=>absurd (of_decide_eq_true z) n1,fun _=>?_⟩;walk_at"w";refine⟨u,_,_,.int to2,rfl,rfl,SqT.of hu,rfl,?_⟩;walk_at"w";refine⟨u,_,_,.int st2,rfl,rfl,SqT.of hu,rfl,?_⟩;walk_at"w";refine⟨fun z=>absurd (of_decide_eq_true z) n2,fun _=>?_⟩;walk_at"w";refine⟨t,_,_,.int st,rfl,rfl,SqT.of ht,rfl,?_⟩;walk_at"w";refine⟨u,_,_,.int to2,rfl,rfl,SqT.of hu,rfl,?_⟩;walk_at"w";refine⟨u,_,_,.int c2,rfl,rfl,SqT.of hu,rfl,?_⟩;walk_at"w";refine⟨fun _=>?_,fun z=>absurd l1 (of_decide_eq_false z)⟩;walk_at"w";refine⟨u,_,_,.int to2,rfl,rfl,SqT.of hu,rfl,?_⟩;walk_at"w";refine⟨t,_,_,.int st,rfl,rfl,SqT.of ht,rfl,?_⟩;walk_at"w";refine⟨t,_,_,.int c,rfl,rfl,SqT.of ht,rfl,?_⟩;walk_at"w";show Q (.bl (decide (to2<st+c))) H;rw[decide_eq_true l2];exact q
structure xfV(ks rs:List xc)(tur:List (Int×List Int)):Prop where
 eq:ks=rs.filter xc.isTake
 few:ks.length≤60
 rise:ks.Pairwise fun r r'=>r.to<r'.to
 fine:xcO (ya ks) ((aO ks.length).map fun(i:Nat)=>(i:Int)) tur
 many:tur.length≤60
def xiq(K:ah):Sp:=fun vs H Q _=>∃(tr rw:Addr) (trs ts:List Addr) (ks rs:List xc) (tur:List (Int×List Int)),vs=[.ref tr,.ref rw]∧H tr=some (.lst (trs.map V.ref))∧Paired (ML.vE K H) trs (tur.map (ML.xgN ks))∧H rw=some (.lst (ts.map V.ref))∧Paired (TupAt K H) ts rs∧xfV ks rs tur∧∀H',xb H H'→Q (.bl true) H'
theorem zS{ks rs:List xc}(h:ks=rs.filter xc.isTake){x:Int}(hx:0≤x∧x<ks.length):∃to st c,ks.getD x.toNat dR= .take to st c∧xc.take to st c∈rs:=by
 have hx':x.toNat<ks.length:=by lia
 have e1:ks.getD x.toNat dR=ks[x.toNat]:=by simp[a9,hx']
 have hm:ks[x.toNat]∈rs.filter xc.isTake:=by rw[←h];exact cS hx'
 obtain⟨q1,q2⟩:=aK.mp hm;rw[e1];cases hr:ks[x.toNat]with
 |take to st c=>exact⟨to,st,c,rfl,by rw[←hr];exact q1⟩
 |put to sg=>rw[hr]at q2;cases q2
theorem xgr{α β γ:Type}{F:α→β→Prop}{F':α→γ→Prop}{f:Int→β}{g:Int→γ}:∀{xs:List α} {ys:List Int},Paired F xs (ys.map f)→(∀y∈ys,∀x,F x (f y)→F' x (g y))→Paired F' xs (ys.map g)
 |[],[],_,_=>.nil
 |x::xs,y::ys,.cons h t,k=>.cons (k y aF x h) (xgr t fun z hz=>k z (aq _ hz))
theorem xgs{β:Type}{f:Int→β}:∀{xs:List Int},xs.Nodup→(∀x∈xs,∀y∈xs,f x=f y→x=y)→(xs.map f).Nodup
 |[],_,_=>.nil
 |x::xs,h,k=>by
  rw[bT]at h;rw[bc,bT];refine⟨fun z=>?_,xgs h.2 fun a ha b hb=>k a (aq _ ha) b (aq _ hb)⟩;obtain⟨y,hy,e⟩:=aN.mp z;have:=k y (aq _ hy) x aF e;exact h.1 (this▸hy)
theorem xdF{α β:Type}{F:α→β→Prop}:∀{as cs:List α} {bs ds:List β},Paired F as bs→Paired F cs ds→Paired F (as++cs) (bs++ds)
 |_,_,_,_,.nil,h=>h
 |_,_,_,_,.cons x xs,h=>.cons x (xdF xs h)
theorem TupAt.off2{K:ah}{H:Hp}{t p:Addr}{r:xc}{xs:List V}{o:HO}(h:TupAt K H t r)(hp:H p=some (.lst xs)):TupAt K (upd H p o) t r:=by
 cases r with
 |take to st c=>show upd H p o t=_;rw[xl (yU h hp (by intro z;cases z))];exact h
 |put to sg=>
  obtain⟨u,h1,h2⟩:=h;exact⟨u,by rw[xl (yU h1 hp (by intro z;cases z))];exact h1,by rw[xl (yU h2 hp (by intro z;cases z))];exact h2⟩
theorem xm5(T:Txt K mg a):xA P w K mg base CX0 2 a.q2q a.xfC ["_law_turned","_law_rows"] (xiq K):=by
 refine T.q2w.ok xhJ (fun vs H Q E h=>?_) (fun cdv A outer s H vs Q E hr h=>?_)
 ·obtain⟨tr,rw,trs,ts,ks,rs,tur,rfl,_⟩:=h;rfl
 ·obtain⟨tr,rw,trs,ts,ks,rs,tur,rfl,htr,hpt,hrw,hts,ok,q⟩:=h;have nd:=xhJ.nd;refine⟨_,(xg (xv (i:=2) nd rfl (aJ rfl) (yn xf))
  (xg (yD bj rfl (xZ (cv 0)) (ju rfl (yt (xO (i:=3) nd rfl (aJ rfl)) (yt (xO (i:=4) nd rfl (aJ rfl)) vd))) (xg (xM (PW.pt (zo (xD (xgd hr.units65) (cv 3) (cv 4) (by rfl)) (zo (xD xat (xt xy (by rfl) T.q0i xN (xa (cv 4) xf)) xh) (vG (xD xcT (xt xlw (by rfl) T.q0i xN (xa (yB (xiH rfl hr.units) (by rfl) T.q3z xpp (xa (cv 4) xf)) xf)) (xt xy (by rfl) T.q0i xN (xa (cv 4) xf))))))) (xi (xo zm)) xH)
  (xg (yD bj rfl (zk (by rfl) T.q06 (xa (xt xy (by rfl) T.q0i xN (xa (cv 4) xf)) xf)) (xO (i:=5) nd rfl (aJ rfl)) (xi (xM (PW.pt (zo (xD xjR (xu xx (xu xX (cv 4) (cv 5) (fun _ _=>rfl)) xh (fun _ _=>rfl)) vF) (zo (xD (xgd hr.units65) (xu xX (cv 4) (cv 5) (fun _ _=>rfl)) (cv 1) (by rfl)) (zo (xD (xpB hr.units65) (xu xX (cv 4) (cv 5) (fun _ _=>rfl)) (cv 2) (by rfl)) (vG (vH (yu (xr (xm4 T) (hr.mono (by decide)) (by rfl) T.xod T.q2v.kp T.xoc .nil xn (xa (xu xX (cv 4) (xw xcS (cv 5) xh) (fun _ _=>rfl)) (xa (xu xX (cv 4) (cv 5) (fun _ _=>rfl)) xf)))))))))) (xi (xo zm)) xH)))
  (xi (yE (uE PySem.F.plainAttrs_list PySem.F.slot_list_append PySem.F.type_list_append yH (cv 2) (xa (cv 3) xf)))))))
  (xi (xo zm)))),?_⟩
  have tl:trs.length=tur.length:=by have:=hpt.length;rwa [ab]at this
  have few:=ok.few;have many:=ok.many;walk_at"w";walk_at"ss";intro gl hgl;generalize hUgl:upd H gl _=H1;have sH1:=xb.of_eq hgl hUgl;have egl:=xm hUgl;clear hUgl;walk_at"w";refine⟨tr,rfl,⟨_,SqL.of (sH1.at htr)⟩,?_⟩;refine yY (xs:=trs.map V.ref) (fun i σ G=>xb H G∧∃gs x3 x4 x5,σ=[some (.ref tr),some (.ref rw),some (.ref gl),x3,x4,x5]∧G gl=some (.lst (gs.map V.ref))∧Paired (TupAt K G) gs ((tur.take i).map fun(kr:Int×List Int)=>ks.getD kr.1.toNat dR)∧∃left,xcO (ya ks) left (tur.drop i)∧(∀x∈left,0≤x∧x<ks.length∧∀kr∈tur.take i,kr.1≠x)∧∀kr∈tur.take i,0≤kr.1∧kr.1<ks.length)
   ⟨sH1,[],_,_,_,rfl,egl,.nil,_,ok.fine,fun x hx=>?_,by simp⟩ (fun i σ G hi hP=>SqL.of (hP.1.at htr)) (fun i x σ G hx hP=>?_) (fun σ G hP=>?_)
  ·obtain⟨j,hj,rfl⟩:=aN.mp hx;have:=bh.mp hj;exact⟨by lia,by lia,by simp⟩
  ·obtain⟨sG,gs,x3,x4,x5,rfl,eG,hgs,left,hF,hleft,hgone⟩:=hP;rw[ao]at hx;obtain⟨t0,ht0,rfl⟩:=bf.mp hx;obtain⟨y,hy,b,l,us,z1,z2,z3,z4⟩:=xK hpt ht0;rw[ao]at hy;obtain⟨⟨k,ring⟩,hkr,rfl⟩:=bf.mp hy;have hil:i<tur.length:=(aD.mp hkr).1;have gl_len:gs.length=i:=by have:=hgs.length;rw[this,ab,bI];lia
   have hdrop:tur.drop i=(k,ring)::tur.drop (i+1):=by
    rw[b9 hil];rw[ai hil]at hkr;rw[br hkr]
   rw[hdrop]at hF;obtain⟨⟨kin,r2,rnd,rsub,rcons⟩,hF'⟩:=hF;have z2:TupAt K H b (ks.getD k.toNat dR):=z2;have z4:Paired (TupAt K H) us (ring.map fun(x:Int)=>ks.getD x.toNat dR):=z4;have ul:us.length=ring.length:=by have:=z4.length;rwa [ab]at this
   have inL:∀x∈ring,0≤x∧x<ks.length:=fun x hx=>⟨(hleft x (rsub x hx)).1,(hleft x (rsub x hx)).2.1⟩;have rl:ring.length≤ks.length:=by
    have hsub:∀x∈ring,x∈(aO ks.length).map fun(i:Nat)=>(i:Int):=fun x hx=>aN.mpr ⟨x.toNat,bh.mpr (by have:=inL x hx;lia),by have:=inL x hx;lia⟩;have:=uA rnd hsub
    rwa [ab,dh]at this
   walk_at"w";refine⟨t0,_,rfl,SqT.of (sG.at z1),rfl,_,_,rfl,_,_,rfl,rfl,?_⟩;walk_at"w";have z4G:=L2.Paired.imp' (fun _ _ z=>TupAt.same z sG) z4;refine⟨_,(ring.map fun(x:Int)=>ks.getD x.toNat dR).map xc.dat,(z2.same sG).rp,.lst (SqL.of (sG.at z3)) (xc2 z4G),xbJ _,xbB _,?_⟩;have a1:(((ring.map fun(x:Int)=>ks.getD x.toNat dR).map xc.dat).any fun z=>eP z (ks.getD k.toNat dR).dat)=true:=by
    rw[dw];exact⟨_,aN.mpr ⟨_,aN.mpr ⟨k,kin,rfl⟩,rfl⟩,SeqAt.eqv_refl _ (xc1 _)⟩
   rw[a1];walk_at"w";refine⟨by walk_at"no",fun _=>?_⟩;walk_at"w";refine⟨l,_,rfl,.inl (SqL.of (sG.at z3)),?_⟩;walk_at"w";refine⟨fun z=>by have:=of_decide_eq_true z;rw[ab]at this;lia,fun _=>?_⟩;walk_at"w";refine⟨l,us,(ring.map fun(x:Int)=>ks.getD x.toNat dR).map kOf,rfl,SqL.of (sG.at z3),?_,?_,by rw[ab,ab];lia,?_⟩
   ·rw[bS];refine xgr (z4G) fun x hx t ht=>?_;obtain⟨to,st,c,e,_⟩:=zS ok.eq (inL x hx);show G t=some (.tup ((kOf (ks.getD x.toNat dR)).map kV));rw[e]at ht⊢;exact ht
   ·rw[bS];refine xgs rnd fun x hx y hy e=>?_;obtain⟨to,st,c,e1,_⟩:=zS ok.eq (inL x hx);obtain⟨to2,st2,c2,e2,_⟩:=zS ok.eq (inL y hy);refine xip ok.rise (inL x hx) (inL y hy) ?_;have e:kOf (ks.getD x.toNat dR)=kOf (ks.getD y.toNat dR):=e;rw[e1,e2]at e⊢;unfold kOf at e;simp at e;obtain⟨rfl,rfl,rfl⟩:=e;rfl
   intro d hd;generalize hUd:upd G d _=G1;have sG1:=xb.of_eq hd hUd;have ed:=xm hUd;clear hUd;walk_at"w";rw[ab,ab]at ed;refine⟨d,_,rfl,ed,by lia,?_⟩;walk_at"w";refine⟨l,_,rfl,.inl (SqL.of (sG1.at (sG.at z3))),?_⟩;walk_at"w";have sG1':=sG.trans sG1;refine⟨fun z=>by rw[ab,ul]at z;simp at z,fun _=>?_⟩;walk_at"w";refine⟨l,_,rfl,.inl (SqL.of (sG1'.at z3)),?_⟩;walk_at"w";generalize hn:yR 0 _ 1=n;have bn:n=ring.length:=by
    rw[←hn,zq,ab,ul];lia
   clear hn;refine xb2 (fun i σ G2=>G2=G1∧∃x5,σ=[some (.ref tr),some (.ref rw),some (.ref gl),some (.ref b),some (.ref l),x5]) ⟨rfl,_,rfl⟩ (fun j σ G2 hj hP2=>?_) (fun σ G2 hP2=>?_)
   ·obtain⟨rfl,x5,rfl⟩:=hP2;have hj':j<ring.length:=by lia
    obtain⟨xp,yc,hxp,hyc,hsp⟩:=rcons j hj';have hxm:xp∈ring:=aG hxp;have hym:yc∈ring:=aG hyc;obtain⟨to,st,c,e1,_⟩:=zS ok.eq (inL xp hxm);obtain⟨to2,st2,c2,e2,m2⟩:=zS ok.eq (inL yc hym);obtain⟨n1,n2,n3,n4⟩:=xm1 (inL xp hxm) (inL yc hym) hsp e1 e2;have z4c:Paired (TupAt K G2) us (ring.map fun(x:Int)=>ks.getD x.toNat dR):=L2.Paired.imp' (fun _ _ z=>TupAt.same z sG1') z4;obtain⟨tp,htp,ptp⟩:=jf z4c (b:=ks.getD xp.toNat dR) (i:=if j=0 then ring.length - 1 else j - 1) (by rw[ao,hxp];rfl);obtain⟨tc,htc,ptc⟩:=jf z4c (b:=ks.getD yc.toNat dR) (i:=j) (by rw[ao,hyc];rfl);have atc:atI (us.map V.ref) (0+(j:Int)*1)=some (.ref tc):=by
     rw[show(0:Int)+(j:Int)*1=(j:Int)by lia];exact yJ (by rw[ao,htc];rfl)
    have atp:atI (us.map V.ref) (0+(j:Int)*1 - 1)=some (.ref tp):=by
     rw[show(0:Int)+(j:Int)*1 - 1=(j:Int) - 1 by lia,xm3 (by rw[ab,ul];exact hj'),ao,ab,ul,htp];rfl
    have hl2:=sG1'.at z3;rw[e1]at ptp;have ptc':=ptc;rw[e2]at ptc';walk_at"w";refine⟨l,_,_,.ref tc,rfl,rfl,SqL.of hl2,atc,?_⟩;walk_at"w";refine⟨tc,_,_,.str "take",rfl,rfl,SqT.of ptc',rfl,?_⟩;walk_at"w";refine⟨by walk_at"no",fun _=>?_⟩;walk_at"w";refine⟨l,_,_,.ref tc,rfl,rfl,SqL.of hl2,atc,?_⟩;walk_at"w";refine⟨_,rs.map xc.dat,ptc'.rp,.lst (SqL.of (sG1'.at hrw)) (xc2 (L2.Paired.imp' (fun _ _ z=>TupAt.same z sG1') hts)),xbJ _,xbB _,?_⟩;have a2:((rs.map xc.dat).any fun z=>eP z (xc.take to2 st2 c2).dat)=true:=by
     rw[dw];exact⟨_,aN.mpr ⟨_,m2,rfl⟩,SeqAt.eqv_refl _ (xc1 _)⟩
    rw[a2];walk_at"w";refine⟨by walk_at"no",fun _=>?_⟩;walk_at"w";refine⟨l,_,_,.ref tc,rfl,rfl,SqL.of hl2,atc,?_⟩;walk_at"w";refine⟨_,((tur.take i).map fun(kr:Int×List Int)=>ks.getD kr.1.toNat dR).map xc.dat,ptc'.rp,.lst (SqL.of (sG1.at eG)) (xc2 (L2.Paired.imp' (fun _ _ z=>TupAt.same z sG1) hgs)),xbJ _,xbB _,?_⟩;have a3:((((tur.take i).map fun(kr:Int×List Int)=>ks.getD kr.1.toNat dR).map xc.dat).any fun z=>eP z (xc.take to2 st2 c2).dat)=false:=by
     rw[List.any_eq_false];intro z hz hq;obtain⟨r,hr,rfl⟩:=aN.mp hz;obtain⟨kr,hkr2,rfl⟩:=aN.mp hr;obtain⟨to3,st3,c3,e3,_⟩:=zS ok.eq (hgone kr hkr2);rw[e3]at hq;have hq:=xm2 hq;exact(hleft yc (rsub yc hym)).2.2 kr hkr2 (xip ok.rise (hgone kr hkr2) (inL yc hym) (by rw[e3,e2,hq]))
    rw[a3];walk_at"w";refine⟨by walk_at"no",fun _=>?_⟩;walk_at"w";refine⟨l,_,_,.ref tp,rfl,rfl,SqL.of hl2,atp,?_⟩;walk_at"w";refine⟨l,_,_,.ref tc,rfl,rfl,SqL.of hl2,atc,?_⟩;walk_at"w";refine⟨tp,tc,to,st,c,to2,st2,c2,rfl,ptp,ptc',n1,n2,n3,n4,?_⟩;walk_at"w";refine⟨by walk_at"no",fun _=>?_⟩;exact⟨rfl,_,rfl⟩
   ·obtain⟨rfl,x5,rfl⟩:=hP2;walk_at"w";refine fN (.inl ⟨rfl,_,SqL.of (sG1.at eG)⟩) ?_;walk_at"w";refine⟨gl,_,_,rfl,rfl,sG1.at eG,by rw[ab,ay];lia,?_⟩;have eG2:=sG1.at eG;have et:tur.take (i+1)=tur.take i++[(k,ring)]:=by rw[bG,hkr];rfl
    refine⟨sG1'.put hgl,gs++[b],_,_,_,rfl,by rw[xk,aI];rfl,?_,_,hF',fun x hx=>?_,fun kr hkr2=>?_⟩
    ·rw[et,aI];exact xdF (L2.Paired.imp' (fun _ _ z=>(TupAt.same z sG1).off2 eG2) hgs) (.cons ((z2.same sG1').off2 eG2) .nil)
    ·obtain⟨q1,q2⟩:=aK.mp hx;obtain⟨p1,p2,p3⟩:=hleft x q1;refine⟨p1,p2,fun kr hkr2=>?_⟩;rw[et]at hkr2;rcases aQ.mp hkr2 with z|z
     ·exact p3 kr z
     ·rw[aA.mp z];exact fun e=>of_decide_eq_true q2 e.symm
    ·rw[et]at hkr2;rcases aQ.mp hkr2 with z|z
     ·exact hgone kr z
     ·rw[aA.mp z];exact inL k kin
  ·obtain⟨sG,_⟩:=hP;exact q G sG
end
section
variable {P:aH} {w:World} {K:ah} {mg:Str→Option Value} {base:Heap} {a:Adr}
def xqu(K:ah)(G:Hp)(p tr rw:Addr)(es nw:List Int)(least:Int):Prop:=∃(tt:Addr) (us:List Addr) (rs:List xc),G p=some (.tup [.int es.length,.int nw.length,.ref tt])∧G tt=some (.tup (us.map V.ref))∧Paired (TupAt K G) us rs∧us.length≤60∧(∀r∈rs,xhV es.length nw.length r)∧Dis rs∧jk rs=none∧(∀r∈rs,Tells es nw r)∧(∀j,j<nw.length→∃r∈rs,xV r j)∧rs.Pairwise ML.Off∧(6≤least→(rs.map xc.cst).sum≤nw.length+2)∧
 ∃(rs0:List xc) (tur:List (Int×List Int)) (trs ts:List Addr),xfV (rs0.filter xc.isTake) rs0 tur∧G tr=some (.lst (trs.map V.ref))∧Paired (ML.vE K G) trs (tur.map (ML.xgN (rs0.filter xc.isTake)))∧G rw=some (.lst (ts.map V.ref))∧Paired (TupAt K G) ts rs0
theorem xir{es nw:List Int}{least:Int}{rs0:List xc}{b:Bool}{key:Int→List Int}{ord:List Int}{tur:List (Int×List Int)}(hr:ML.xE es nw least 0 false rs0 nw.length b)(hl:nw.length≤60)
  (hg:Goes (ya (rs0.filter xc.isTake)) key ((aO (rs0.filter xc.isTake).length).map fun(i:Nat)=>(i:Int)) ord tur):xfV (rs0.filter xc.isTake) rs0 tur:=by
 have h1:=hr.few;have h2:(rs0.filter xc.isTake).length≤rs0.length:=bO _ _;refine⟨rfl,by lia,(xfU hr).2.filter _,xlW hg fun x hx=>?_,?_⟩
 ·obtain⟨i,hi,rfl⟩:=aN.mp hx;have hi:=bh.mp hi;refine⟨by lia,?_,xbG (by lia) (by lia)⟩;rw[show(ya (rs0.filter xc.isTake)).length=(rs0.filter xc.isTake).length by simp[ya]];lia
 ·have hnd:((aO (rs0.filter xc.isTake).length).map fun(i:Nat)=>(i:Int)).Nodup:=by
   refine bQ.mpr (dQ.imp fun{a b} hab z=>hab (by lia))
  have:=(hg.perm hnd).length_eq;rw[ar,ab,ab,dh]at this;lia
theorem vE.same2{K:ah}{G G':Hp}{t:Addr}{x:xc×List xc}(h:ML.vE K G t x)(s:xb G G'):ML.vE K G' t x:=by
 obtain⟨b,l,us,z1,z2,z3,z4⟩:=h;exact⟨b,l,us,s.at z1,z2.same s,s.at z3,L2.Paired.imp' (fun _ _ w=>TupAt.same w s) z4⟩
def xis(K:ah):Sp:=fun vs H Q _=>∃(l:Addr) (ns:List Int),vs=[.ref l]∧SqL K H l (ns.map V.int)∧ns.length≤63∧H yI=some (.tbl zu)∧H yp=some (.tbl zb)∧H zH=some (.tbl vM)∧H uC=some (.tbl jK)∧∀H',Q (.bl true) H'
theorem xc4(T:Txt K mg a):xA P w K mg base CX0 6 a.q2h a.xci ["elder","newer","least"] (ML.xjz K):=ML.xc4 T
theorem xbI(T:Txt K mg a):xA P w K mg base CX0 6 a.q12 a.xa1 ["elder","newer","least"] (ML.xie K):=ML.xbI T
theorem xd8(T:Txt K mg a):xA P w K mg base CX0 8 a.q2f a.xcX ["paper"] (xhS K):=JD.xd8 T
theorem xea(T:Txt K mg a):xA P w K mg base CX0 6 a.q13 a.xa2 ["paper","elder"] (MT.xh0 K):=MT.xea T
theorem xa8(T:Txt K mg a):xA P w K mg base CX0 6 a.q2A a.xez ["paper"] (MT.xjt K):=MT.xa8 T
theorem xeb(T:Txt K mg a):xA P w K mg base CX0 1 a.q2g a.xcY ["old","newer"] (MT.xh1 K):=MT.xeb T
theorem xpM(T:Txt K mg a):xA P w K mg base CX0 9 a.q2J a.xkd ["_law_script"] (xis K):=by
 refine T.xgM.ok xlK (fun vs H Q E h=>?_) (fun cdv A outer s H vs Q E hr h=>?_)
 ·obtain⟨l,ns,rfl,_⟩:=h;rfl
 ·obtain⟨l,ns,rfl,hl,hns,hPe,hPo,hPj,hPm,q⟩:=h;have nd:=xlK.nd;refine⟨_,(xg (xv (i:=1) nd rfl (aJ rfl) (xr (xmV T) (hr.mono (by decide)) (by rfl) T.xn9 T.q2t.kp T.xn8 .nil xn (xa (xr (jl T) (hr.mono (by decide)) (by rfl) T.xak T.q03.kp T.xaj .nil xn (xa (cv 0) (xa xh xf))) xf)))
  (xg (xv (i:=2) nd rfl (aJ rfl) (xr (xmX T) (hr.mono (by decide)) (by rfl) T.xob T.q2u.kp T.xoa .nil xn (xa (cv 1) (xa (xr (jl T) (hr.mono (by decide)) (by rfl) T.xak T.q03.kp T.xaj .nil xn (xa (cv 0) (xa xh xf))) xf))))
  (xg (xv (i:=3) nd rfl (aJ rfl) xh)
  (xg (xaS (xM (xD ug (xw yX (xr (jl T) (hr.mono (by decide)) (by rfl) T.xak T.q03.kp T.xaj .nil xn (xa (cv 0) (xa xh xf))) xh) xh) (xg (xbT (xr (dvs:=[.int 6]) (xc4 T) (hr.mono (by decide)) (by rfl) T.xlD T.jT.kp T.xfH (.cons ⟨_,rfl⟩ .nil) xn (xa (cv 1) (xa (cv 2) xf))) (ju rfl (yt (xO (i:=4) nd rfl (aJ rfl)) (yt (xO (i:=5) nd rfl (aJ rfl)) vd))))
  (xi (xv (i:=6) nd rfl (aJ rfl) (xr (dvs:=[.int 6]) (xbI T) (hr.mono (by decide)) (by rfl) T.xjk T.vw.kp T.xd0 (.cons ⟨_,rfl⟩ .nil) xn (xa (cv 1) (xa (cv 2) xf)))))) (xg (xv (i:=3) nd rfl (aJ rfl) (xw xU xh (xw yX (xw vJ (xr (jl T) (hr.mono (by decide)) (by rfl) T.xak T.q03.kp T.xaj .nil xn (xa (cv 0) (xa xh xf))) xh) xh)))
  (xg (xv (i:=7) nd rfl (aJ rfl) (yn (xa (yB jw (by rfl) T.q2l vh (xa (cv 1) xf)) (xa (yB jw (by rfl) T.q2l vh (xa (cv 2) xf)) xf))))
  (xg (xbT (xr (xc4 T) (hr.mono (by decide)) (by rfl) T.xlD T.jT.kp T.xhx .nil xn (xa (xu xX (cv 7) xh (fun _ _=>rfl)) (xa (xu xX (cv 7) xh (fun _ _=>rfl)) (xa (cv 3) xf)))) (ju rfl (yt (xO (i:=4) nd rfl (aJ rfl)) (yt (xO (i:=5) nd rfl (aJ rfl)) vd))))
  (xg (xv (i:=6) nd rfl (aJ rfl) (xr (xbI T) (hr.mono (by decide)) (by rfl) T.xjk T.vw.kp T.xfG .nil xn (xa (xu xX (cv 7) xh (fun _ _=>rfl)) (xa (xu xX (cv 7) xh (fun _ _=>rfl)) (xa (cv 3) xf)))))
  (xi (xM (xD (xbg hr.units) (cv 7) (yn (xa (cv 1) (xa (cv 2) xf)))) (xi (xo zm)) xH))))))))
  (xg (xM (PW.pt (zo (xD (xbg hr.units) (yF xoU (cv 4) vf (yb xh)) (ym (xa (xt xy (by rfl) T.q0i xN (xa (cv 1) xf)) (xa (xt xy (by rfl) T.q0i xN (xa (cv 2) xf)) xf)))) (zo (vH (yu (xt yN (by rfl) T.q0h xW (xa (xu xx (cv 4) xh (fun _ _=>rfl)) (xa (vc (v:=.ty "tuple") (by rfl) T.q1P zC rfl) xf))))) (vG (xi9 (xr (xd8 T) (hr.mono (by decide)) (by rfl) T.xn3 T.q2r.kp T.xn2 .nil xn (xa (cv 4) xf))))))) (xi (xo zm)) xH)
  (xg (xM (PW.pt (zo (xD (xbg hr.units) (xr (xow T) (hr.mono (by decide)) (by rfl) T.xpF T.q2G.kp T.xpE .nil xn (xa (cv 4) (xa (cv 1) xf))) (cv 2)) (zo (xD (xbg hr.units) (xr (xea T) (hr.mono (by decide)) (by rfl) T.xn5 T.xa3.kp T.xn4 .nil xn (xa (cv 4) (xa (cv 1) xf))) (cv 2)) (vG (xD xcT (xr (xa8 T) (hr.mono (by decide)) (by rfl) T.xhz T.q2j.kp T.xhy .nil xn (xa (cv 4) xf)) (xr (xiX T) (hr.mono (by decide)) (by rfl) T.xkj T.q1I.kp T.xki .nil xn (xa (xu xx (cv 4) xh (fun _ _=>rfl)) xf))))))) (xi (xo zm)) xH)
  (xg (xv (i:=8) nd rfl (aJ rfl) xh)
  (xg (xaS (xM (xD (xbg hr.units) (cv 2) (yn xf)) (xi (xv (i:=8) nd rfl (aJ rfl) (xw xU xh (xt xy (by rfl) T.q0i xN (xa (cv 2) xf))))) xH))
  (xg (xM (PW.pt (zo (xD xcT (xr (xa8 T) (hr.mono (by decide)) (by rfl) T.xhz T.q2j.kp T.xhy .nil xn (xa (xr (xeb T) (hr.mono (by decide)) (by rfl) T.xn7 T.q2s.kp T.xn6 .nil xn (xa (xt xy (by rfl) T.q0i xN (xa (cv 1) xf)) (xa (cv 2) xf))) xf)) (cv 8)) (vG (PW.pt (uF (xD xdN (cv 3) xh) (uy (xD xdN (xr (xa8 T) (hr.mono (by decide)) (by rfl) T.xhz T.q2j.kp T.xhy .nil xn (xa (cv 4) xf)) (cv 8)))))))) (xi (xo zm)) xH)
  (xi (xo (zg (xt yN (by rfl) T.q0h xW (xa (cv 5) (xa (vc (v:=.ty "list") (by rfl) T.q2l vh rfl) xf))) (zZ (xr (xm5 T) (hr.mono (by decide)) (by rfl) T.xof T.q2w.kp T.xoe .nil xn (xa (cv 5) (xa (cv 6) xf)))))))))))))))),?_⟩
  walk_at"w";refine⟨l,ns,0,rfl,hl,by decide,?_⟩;walk_at"w";refine⟨_,rfl,fun e es H1 s1 he0 he hel hbe=>?_⟩;walk_at"w";refine⟨l,ns,1,rfl,s1.seq hl,by decide,?_⟩;walk_at"w";refine⟨e,es,_,rfl,he,hbe,by lia,fun n nw H2 s2 hn0 hn hnl hbn=>?_⟩;have s02:xb H H2:=s1.trans s2;have he2:=s2.at he;walk_at"w";refine⟨fun σ' G=>xb H2 G∧∃(least:Int) (p tr rw:Addr) (x7:Option V),σ'=[some (.ref l),some (.ref e),some (.ref n),some (.int least),some (.ref p),some (.ref tr),some (.ref rw),x7,none]∧xqu K G p tr rw es nw least,?_,?_⟩
  ·refine⟨l,ns,2,rfl,s02.seq hl,by decide,?_⟩;walk_at"w";walk_at"ss";refine⟨fun e1=>?_,fun e1=>?_⟩
   ·walk_at"w";refine⟨e,n,es,nw,6,rfl,by decide,s02.at hPe,s02.at hPo,s02.at hPj,he2,hn,by lia,by lia,hbn,fun t p tt tr us rs H5 s5 et ep ett hus hul hfit hdis hlt htell hcov hoff hcs hrg=>?_⟩;obtain⟨rs0,b0,ord,tur,trs,hrt,hg,etr,htrs⟩:=hrg;walk_at"w";refine⟨t,_,rfl,SqT.of et,rfl,_,_,rfl,_,_,rfl,rfl,?_⟩;walk_at"w";refine⟨e,n,es,nw,6,rfl,(s02.trans s5).at hPe,s5.at he2,s5.at hn,by lia,by lia,by decide,fun rw ts rs1 b1 H6 s6 hrw0 erw hts1 hrt1=>?_⟩;obtain rfl:=hrt1.uniq hrt;walk_at"w";exact⟨s5.trans s6,6,p,tr,rw,_,rfl,tt,us,rs,s6.at ep,s6.at ett,L2.Paired.imp' (fun _ _ z=>TupAt.same z.1 s6) hus,hul,hfit,hdis,hlt,htell,hcov,hoff,hcs,_,tur,trs,ts,xir hrt (by lia) hg,s6.at etr,L2.Paired.imp' (fun _ _ z=>vE.same2 z s6) htrs,erw,hts1⟩
   ·walk_at"w";refine⟨l,ns,2,rfl,s02.seq hl,by decide,?_⟩;have k0:=cg (cellAt ns 2 / 2) (show(9:Int)≠0 by decide);walk_at"w";walk_at"ss";refine⟨e,_,rfl,.inl (SqL.of he2),?_⟩;intro e1 he1;generalize hUe1:upd H2 e1 _=H3;have sH3:=xb.of_eq he1 hUe1;have ee1:=xm hUe1;clear hUe1;walk_at"w";refine⟨n,_,rfl,.inl (SqL.of (sH3.at hn)),?_⟩;intro n1 hn1;generalize hUn1:upd H3 n1 _=H4;have sH4:=xb.of_eq hn1 hUn1;have en1:=xm hUn1;clear hUn1;walk_at"w";walk_at"ss";intro hd hhd;generalize hUhd:upd H4 hd _=H4b;have sH4b:=xb.of_eq hhd hUhd;have ehd:=xm hUhd;clear hUhd;walk_at"w";have s4b:=sH3.trans (sH4.trans sH4b);have s04:=s02.trans s4b;have ee4:=(sH4.trans sH4b).at ee1;have en4:=sH4b.at en1;refine⟨hd,_,_,.ref e1,rfl,rfl,SqL.of ehd,rfl,?_⟩;walk_at"w";refine⟨hd,_,_,.ref n1,rfl,rfl,SqL.of ehd,rfl,?_⟩;walk_at"w";refine⟨e1,n1,es,nw,_,rfl,by lia,s04.at hPe,s04.at hPo,s04.at hPj,ee4,en4,by lia,by lia,hbn,fun t p tt tr us rs H5 s5 et ep ett hus hul hfit hdis hlt htell hcov hoff hcs hrg=>?_⟩;obtain⟨rs0,b0,ord,tur,trs,hrt,hg,etr,htrs⟩:=hrg;walk_at"w";refine⟨t,_,rfl,SqT.of et,rfl,_,_,rfl,_,_,rfl,rfl,?_⟩;walk_at"w";refine⟨hd,_,_,.ref e1,rfl,rfl,SqL.of (s5.at ehd),rfl,?_⟩;walk_at"w";refine⟨hd,_,_,.ref n1,rfl,rfl,SqL.of (s5.at ehd),rfl,?_⟩;walk_at"w";refine⟨e1,n1,es,nw,_,rfl,(s04.trans s5).at hPe,s5.at ee4,s5.at en4,by lia,by lia,by lia,fun rw ts rs1 b1 H6 s6 hrw0 erw hts1 hrt1=>?_⟩;obtain rfl:=hrt1.uniq hrt;walk_at"w";walk_at"ss";intro l2 hl2;generalize hUl2:upd H6 l2 _=H7;have sH7:=xb.of_eq hl2 hUl2;have el2:=xm hUl2;clear hUl2;walk_at"w";have s57:=s5.trans (s6.trans sH7);have s27:=s4b.trans s57;refine xg2 (d:=.list [.list (es.map c5),.list (nw.map c5)]) (.lst (SqL.of (s57.at ehd)) (.cons (.ints (SqL.of (s57.at ee4))) (.cons (.ints (SqL.of (s57.at en4))) .nil))) (.lst (SqL.of el2) (.cons (.ints (SqL.of (s27.at he2))) (.cons (.ints (SqL.of (s27.at hn))) .nil))) (xjW [es,nw]) ?_;walk_at"w";refine⟨by walk_at"no",fun _=>?_⟩;have s67:=s6.trans sH7;exact⟨s27,_,p,tr,rw,_,rfl,tt,us,rs,s67.at ep,s67.at ett,L2.Paired.imp' (fun _ _ z=>TupAt.same z.1 s67) hus,hul,hfit,hdis,hlt,htell,hcov,hoff,hcs,_,tur,trs,ts,xir hrt (by lia) hg,s67.at etr,L2.Paired.imp' (fun _ _ z=>vE.same2 z s67) htrs,sH7.at erw,L2.Paired.imp' (fun _ _ z=>TupAt.same z sH7) hts1⟩
  rintro σ' G ⟨sG,least,p,tr,rw,x7,rfl,tt,us,rs,ep,ett,hus,hul,hfit,hdis,hlt,htell,hcov,hoff,hcs,rs0,tur,trs,ts,hro,etr,htrs,erw,hts⟩;have hus':Paired (TupAt K G) us rs:=hus;have hrl:us.length=rs.length:=hus.length;have hpap:vC K G p es.length nw.length rs:=⟨tt,us,ep,ett,hus'⟩;have hok:∀r∈rs,r.ok∧Fit es.length nw.length r:=fun r hr=>⟨(htell r hr).1,by have:=hfit r hr;cases r<;> exact this⟩;have hnd:=ML.xfa hoff;have htw:xaa rs=none:=xjr _ _ (by rw[xjs];exact hnd) fun x _ z=>by cases z
  have hlk:uW rs nw.length=none:=by
   unfold uW;rw[fz];intro c hc;obtain⟨i,hi,rfl⟩:=aN.mp hc;have:=bh.mp hi;obtain⟨r,hr,hrc⟩:=hcov i this;simp only[Bool.not_eq_true',decide_eq_false_iff_not,Classical.not_not];exact List.mem_flatten.mpr ⟨_,aN.mpr ⟨r,hr,rfl⟩,xpG.mpr hrc⟩
  have s0G:xb H G:=s02.trans sG;have heG:=sG.at he2;have hnG:=sG.at hn;generalize hcst:(rs.map xc.cst).sum=cst at hcs;have hzero:nw=[]→cst=0:=fun z=>by
   rw[←hcst];cases rs with
   |nil=>rfl
   |cons r rs=>
    have h1:=htell r aF;have h2:=ML.zl h1;have h3:=h1.2.2.1;have h4:=h1.1.to;rw[z]at h3;simp only[gc]at h3;lia
  walk_at"w";refine⟨_,rfl,?_⟩;walk_at"w";refine⟨p,_,rfl,SqT.of ep,fun z=>absurd z.2 (by show¬(2=3);decide),?_⟩;intro c1 hc1;generalize hUc1:upd G c1 _=G1;have sG1:=xb.of_eq hc1 hUc1;have ec1:=xm hUc1;clear hUc1;walk_at"w";refine⟨e,_,rfl,.inl (SqL.of (sG1.at heG)),?_⟩;walk_at"w";refine⟨n,_,rfl,.inl (SqL.of (sG1.at hnG)),?_⟩;walk_at"w";walk_at"ss";intro c2 hc2;generalize hUc2:upd G1 c2 _=G2;have sG2:=xb.of_eq hc2 hUc2;have ec2:=xm hUc2;clear hUc2;walk_at"w";rw[ab,ab]at ec2;have ec1':G2 c1=some (.tup [.int es.length,.int nw.length]):=sG2.at ec1;refine xg2 (d:=.tuple [.int es.length,.int nw.length]) (.tup (SqT.of ec1') (.cons (.int _) (.cons (.int _) .nil))) (.tup (SqT.of ec2) (.cons (.int _) (.cons (.int _) .nil))) (by rfl) ?_;have t2:=sG1.trans sG2;walk_at"w";refine⟨by walk_at"no",fun _=>?_⟩;walk_at"w";refine⟨p,_,_,.ref tt,rfl,rfl,SqT.of (t2.at ep),rfl,?_⟩;walk_at"w";refine⟨_,_,_,_,true,rfl,rfl,yG.tup (t2.at ett),rfl,?_⟩;walk_at"w";refine⟨by walk_at"no",fun _=>?_⟩;walk_at"w";refine⟨p,es.length,nw.length,rs,rfl,hpap.same t2,⟨by lia,by lia⟩,⟨by lia,by lia⟩,by lia,hok,htw,by rw[bJ];exact hlk,hlt,fun G3 s3=>?_⟩;have t3:=t2.trans s3;walk_at"w";refine⟨by walk_at"no",fun _=>?_⟩;walk_at"w";refine⟨p,e,tt,_,es,nw,us,rs,rfl,t3.at ep,t3.at ett,L2.Paired.imp' (fun _ _ z=>TupAt.same z t3) hus',t3.at heG,by lia,by lia,by lia,htell,hcov,fun d G4 s4 hd ed=>?_⟩;have t4:=t3.trans s4;refine xaU (f:=fun b=> !b) ⟨d,n,nw,nw,rfl,rfl,SqL.of ed,SqL.of (t4.at hnG),?_⟩;rw[decide_eq_true rfl];walk_at"w";refine⟨by walk_at"no",fun _=>?_⟩;walk_at"w";refine⟨p,e,es.length,rs,es,nw,rfl,(s0G.trans t4).at hPm,hpap.same t4,t4.at heG,htell,hcov,by lia,by lia,fun d2 G5 s5 hd2 ed2=>?_⟩;have t5:=t4.trans s5;refine xaU (f:=fun b=> !b) ⟨d2,n,nw,nw,rfl,rfl,SqL.of ed2,SqL.of (t5.at hnG),?_⟩;rw[decide_eq_true rfl];walk_at"w";refine⟨by walk_at"no",fun _=>?_⟩;walk_at"w";refine⟨p,es.length,nw.length,rs,rfl,hpap.same t5,fun r hr=>(htell r hr).1,by lia,fun G6 s6=>?_⟩;have t6:=t5.trans s6;walk_at"w";refine⟨p,_,_,.ref tt,rfl,rfl,SqT.of (t6.at ep),rfl,?_⟩;walk_at"w";refine⟨tt,us,rs,rfl,t6.at ett,L2.Paired.imp' (fun _ _ z=>TupAt.same z t6) hus',by lia,?_⟩;rw[hcst];walk_at"w";refine⟨by simp,fun _=>?_⟩;walk_at"w";have hn6:=t6.at hnG;refine⟨fun σ' G7=>xb G6 G7∧σ'=[some (.ref l),some (.ref e),some (.ref n),some (.int least),some (.ref p),some (.ref tr),some (.ref rw),x7,some (.int (if nw=[]then 0 else 2+nw.length))],?_,?_⟩
  ·walk_at"w";walk_at"ss";intro z hz;generalize hUz:upd G6 z _=G7;have sG7:=xb.of_eq hz hUz;have ez:=xm hUz;clear hUz;walk_at"w";refine xaU (f:=fun b=> !b) ⟨n,z,nw,[],rfl,rfl,SqL.of (sG7.at hn6),SqL.of ez,?_⟩;walk_at"w";refine⟨fun e2=>?_,fun e2=>?_⟩
   ·have hne:nw≠[]:=by simpa using e2
    walk_at"w";refine⟨n,_,rfl,.inl (SqL.of (sG7.at hn6)),?_⟩;rw[ab];walk_at"w";refine⟨sG7,?_⟩;rw[if_neg hne];rfl
   ·have hnil:nw=[]:=by simpa using e2
    refine⟨sG7,?_⟩;rw[if_pos hnil];rfl
  rintro σ' G7 ⟨s7,rfl⟩;have t7:=t6.trans s7;generalize hfull:(if nw=[]then(0:Int)else 2+nw.length)=full;walk_at"w";refine⟨e,_,rfl,.inl (SqL.of (t7.at heG)),?_⟩;walk_at"w";refine⟨_,n,nw,rfl,t7.at hnG,fun p2 G8 s8 hp2=>?_⟩;walk_at"w";have hcp:((MT.jr nw).map xc.cst).sum=full:=by
   rw[←hfull];unfold MT.jr
   split
   ·rfl
   ·simp[xc.cst]
  refine⟨p2,_,_,_,rfl,hp2,fun r hr=>?_,?_,fun G9 s9=>?_⟩
  ·unfold MT.jr at hr
   split at hr
   ·simp at hr
   ·rename_i hne;rw[aA.mp hr];exact⟨by decide,hne,by lia,hbn⟩
  ·unfold MT.jr
   split<;> simp
  rw[hcp];have t9:=t7.trans (s8.trans s9);walk_at"w";refine⟨by simp,fun _=>?_⟩;have fin:∀G10,xb G9 G10→yG K G10 (.ref tr) (.type "list"):=fun G10 s10=>yG.lst ((t9.trans s10).at etr);have hend:∀G10,xb G9 G10→xiq K [.ref tr,.ref rw] G10 (fun v G11=>Q v G11) E0:=fun G10 s10=>by
   have t10:=t9.trans s10;refine⟨tr,rw,trs,ts,_,rs0,tur,rfl,t10.at etr,L2.Paired.imp' (fun _ _ z=>vE.same2 z t10) htrs,t10.at erw,L2.Paired.imp' (fun _ _ z=>TupAt.same z t10) hts,hro,fun H' _=>q H'⟩
  walk_at"w";refine⟨fun e2=>?_,fun e2=>?_⟩
  ·have h5:=of_decide_eq_true e2;walk_at"w";refine⟨p,es.length,nw.length,rs,rfl,hpap.same t9,fun r hr=>(htell r hr).1,by lia,fun G10 s10=>?_⟩;rw[hcst];walk_at"w";have h6:=hcs (by lia);refine⟨fun e3=>?_,fun _=>?_⟩
   ·have:=of_decide_eq_true e3;rw[←hfull]at this
    split at this
    ·rename_i hnil;rw[hzero hnil]at this;lia
    ·lia
   ·walk_at"w";refine⟨_,_,_,_,true,rfl,rfl,fin G10 s10,rfl,?_⟩;walk_at"w";refine⟨fun _=>?_,by walk_at"no"⟩;walk_at"w";exact hend G10 s10
  ·walk_at"w";refine⟨by walk_at"no",fun _=>?_⟩;walk_at"w";refine⟨_,_,_,_,true,rfl,rfl,fin G9 (xb.refl _),rfl,?_⟩;walk_at"w";refine⟨fun _=>?_,by walk_at"no"⟩;walk_at"w";exact hend G9 (xb.refl _)
end
abbrev NI(K:ah)(x:Str)(f:Addr):Prop:=W.nsIn K bx x=some (some (.ref f))
abbrev NN(K:ah)(x:Str):Prop:=W.nsIn K bx x=some none
def FL(K:ah)(x q:Str)(st:Stmt)(f:Addr):Prop:=∃fd,Fun K x q st f fd
theorem ze{n:Nat}{us:List Value}(h:us.length=n+1):∃u r,us=u::r∧r.length=n:=by
 cases us with
 |nil=>cases h
 |cons u r=>exact⟨u,r,rfl,Nat.succ.inj h⟩
theorem xc5{us:List Value}(h:us.length=0):us=[]:=df.mp h
theorem bn1{K:ah}{x q:Str}{st:Stmt}{f:Addr}{fd:aE}{p1:Str}(F:Fun K x q st f fd)(h:∀(kV doc pm:Value) (an:Option Addr) (cdv ct u1:Value),gr (dy x q (ye st) (xQ st) (xj st) .none kV doc pm an cdv ct) ⟨[u1],[]⟩=pure [(p1,u1)]:=by intros;exact rfl):Binds K fd [p1] []:=by
 refine F.binds fun kV doc pm an cdv ct us hl=>?_;obtain⟨u1,r1,rfl,k1⟩:=ze hl;obtain rfl:=xc5 k1;exact h kV doc pm an cdv ct u1
theorem bn2{K:ah}{x q:Str}{st:Stmt}{f:Addr}{fd:aE}{p1 p2:Str}(F:Fun K x q st f fd)(h:∀(kV doc pm:Value) (an:Option Addr) (cdv ct u1 u2:Value),gr (dy x q (ye st) (xQ st) (xj st) .none kV doc pm an cdv ct) ⟨[u1,u2],[]⟩=pure [(p1,u1),(p2,u2)]:=by intros;exact rfl):Binds K fd [p1,p2] []:=by
 refine F.binds fun kV doc pm an cdv ct us hl=>?_;obtain⟨u1,r1,rfl,k1⟩:=ze hl;obtain⟨u2,r2,rfl,k2⟩:=ze k1;obtain rfl:=xc5 k2;exact h kV doc pm an cdv ct u1 u2
theorem bn3{K:ah}{x q:Str}{st:Stmt}{f:Addr}{fd:aE}{p1 p2 p3:Str}(F:Fun K x q st f fd)(h:∀(kV doc pm:Value) (an:Option Addr) (cdv ct u1 u2 u3:Value),gr (dy x q (ye st) (xQ st) (xj st) .none kV doc pm an cdv ct) ⟨[u1,u2,u3],[]⟩=pure [(p1,u1),(p2,u2),(p3,u3)]:=by intros;exact rfl):Binds K fd [p1,p2,p3] []:=by
 refine F.binds fun kV doc pm an cdv ct us hl=>?_;obtain⟨u1,r1,rfl,k1⟩:=ze hl;obtain⟨u2,r2,rfl,k2⟩:=ze k1;obtain⟨u3,r3,rfl,k3⟩:=ze k2;obtain rfl:=xc5 k3;exact h kV doc pm an cdv ct u1 u2 u3
theorem bn4{K:ah}{x q:Str}{st:Stmt}{f:Addr}{fd:aE}{p1 p2 p3 p4:Str}(F:Fun K x q st f fd)(h:∀(kV doc pm:Value) (an:Option Addr) (cdv ct u1 u2 u3 u4:Value),gr (dy x q (ye st) (xQ st) (xj st) .none kV doc pm an cdv ct) ⟨[u1,u2,u3,u4],[]⟩=pure [(p1,u1),(p2,u2),(p3,u3),(p4,u4)]:=by intros;exact rfl):Binds K fd [p1,p2,p3,p4] []:=by
 refine F.binds fun kV doc pm an cdv ct us hl=>?_;obtain⟨u1,r1,rfl,k1⟩:=ze hl;obtain⟨u2,r2,rfl,k2⟩:=ze k1;obtain⟨u3,r3,rfl,k3⟩:=ze k2;obtain⟨u4,r4,rfl,k4⟩:=ze k3;obtain rfl:=xc5 k4;exact h kV doc pm an cdv ct u1 u2 u3 u4
theorem xpN{l:W.OpenLaw}{w:World}{K:ah}{h:Heap}{mg:Str→Option Value}{fa:Addr}{q1B q1Q q0D q1C q1h q0m q0n q0Y q0P q0Q q0K q0l q0t q0Z q00 q0W q01 q0R q0B q1i q1j q2a q07 q1m q1n q1R q0E q1D q2b q1o q08 q0L q0p q2D q12 q2h q09 q0F q0C q0x q1T q1U q2f q0M q1p q0q q0y q0G q1V q1q q13 q2A q2g q1W q2m q2n q2o q2E q1E q2p q2q q2J q1F q0a q0b:Addr}{q20:Tok}{q0S:Addr}{q28:Option Addr}{q3g:Nat}{q29:Array (Option Value)}{q22 q23:Tok}{q3l:Addr}{q3E:Option Addr}{q3Q:Nat}{q3F:Array (Option Value)}{q3G:Value}{q1S:Tok}{q3u:Addr}{q3R:Option Addr}{q32:Nat}{q3S:Array (Option Value)}{q3T:Value}{q2c:Tok}{od0 an0 q4X q4Y q4Z q40 q41 q42 q43 q44 q45 q46 q47 q48:Option Addr}{sl0 q49 q5a q5b q5c q5d q5e:Array (Option Value)}{oc0 kV0 dc0 pm0 ct0 q5f q5g q5h q5i q4r q5j q5k q5l q5m q5n q4s q5o q5p q5q q5r q5s q5t q5u q5v q5w q5x q5y q5z q5A q5B q5C q5D q5E q5F q5G q5H q4t q5I:Value}(X:K.In h)(G:h.Ns bx mg)(hfa:mg "law"=some (.ref fa))
  (q4u:NI K "Row" q1F)
  (q33:NI K "Take" q0a)
  (q4v:NI K "Put" q0b)
  (q3H:NI K "endings" q1B)
  (q2N:vU K q0X yI)
  (q3I:K.lookup q1B=some ⟨oc0,od0,.func (dy "endings" "endings" (ye zG) (xQ zG) (xj zG) .none kV0 dc0 pm0 an0 (.ref q0X) ct0),sl0⟩)
  (q0X:eX K (.ref q0X) "endings"=true)
  (q3J:dG K (.ref q1B)=true)
  (q3K:NI K "longest" q1Q)
  (q1X:FL K "longest" "longest" xcb q1Q)
  (q24:NI K "how_many_less" q0D)
  (q0H:FL K "how_many_less" "how_many_less" uI q0D)
  (q3B:NI K "agreeing" q1C)
  (q1G:FL K "agreeing" "agreeing" xbl q1C)
  (q4P:bM K (.ref q1F) "__init__"=some (some (.ref q1h)))
  (q14:FL K "__init__" "Row.__init__" xbm q1h)
  (q4w:bM K (.ref q1F) "covers"=some (some (.ref q0m)))
  (q1a:FL K "covers" "Row.covers" jD q0m)
  (q4p:bM K (.ref q1F) "covered"=some (some (.ref q0n)))
  (q1e:FL K "covered" "Row.covered" vV q0n)
  (q4L:bM K (.ref q0a) "__init__"=some (some (.ref q0Y)))
  (q1J:FL K "__init__" "Take.__init__" xau q0Y)
  (q4x:bM K (.ref q0a) "stays"=some (some (.ref q0P)))
  (q1w:FL K "stays" "Take.stays" jE q0P)
  (q4y:bM K (.ref q0a) "reads"=some (some (.ref q0Q)))
  (q1x:FL K "reads" "Take.reads" jF q0Q)
  (q4q:bM K (.ref q0a) "writes"=some (some (.ref q0K)))
  (q1f:FL K "writes" "Take.writes" vW q0K)
  (q3P:bM K (.ref q0a) "source_for"=some (some (.ref q0l)))
  (q0J:FL K "source_for" "Take.source_for" zT q0l)
  (q31:bM K (.ref q0a) "sign_for"=some (some (.ref q0t)))
  (q0U:FL K "sign_for" "Take.sign_for" uJ q0t)
  (q4M:bM K (.ref q0a) "cost"=some (some (.ref q0Z)))
  (q1K:FL K "cost" "Take.cost" xav q0Z)
  (q4N:bM K (.ref q0a) "told"=some (some (.ref q00)))
  (q1L:FL K "told" "Take.told" xaw q00)
  (q4Q:bM K (.ref q0b) "__init__"=some (some (.ref q0W)))
  (q1H:FL K "__init__" "Put.__init__" xbn q0W)
  (q4O:bM K (.ref q0b) "reads"=some (some (.ref q01)))
  (q1M:FL K "reads" "Put.reads" xax q01)
  (q4z:bM K (.ref q0b) "writes"=some (some (.ref q0R)))
  (q1y:FL K "writes" "Put.writes" jG q0R)
  (q34:bM K (.ref q0b) "sign_for"=some (some (.ref q0B)))
  (q04:FL K "sign_for" "Put.sign_for" vk q0B)
  (q4R:bM K (.ref q0b) "cost"=some (some (.ref q1i)))
  (q15:FL K "cost" "Put.cost" xbo q1i)
  (q4S:bM K (.ref q0b) "told"=some (some (.ref q1j)))
  (q16:FL K "told" "Put.told" xbp q1j)
  (q3U:NI K "row_of" q2a)
  (q1b:FL K "row_of" "row_of" xdW q2a)
  (q3m:NI K "tells_take" q07)
  (q1c:FL K "tells_take" "tells_take" jH q07)
  (q3p:NI K "tells_put" q1m)
  (q1r:FL K "tells_put" "tells_put" xay q1m)
  (q3q:NI K "are_signs" q1n)
  (q1s:FL K "are_signs" "are_signs" xaz q1n)
  (q3L:NI K "is_sign" q1R)
  (q1Y:FL K "is_sign" "is_sign" xcc q1R)
  (q25:NI K "is_whole_from" q0E)
  (q0g:FL K "is_whole_from" "is_whole_from" uK q0E)
  (q3C:NI K "is_whole" q1D)
  (q1k:FL K "is_whole" "is_whole" xbq q1D)
  (q3V:NI K "spoils" q2b)
  (q2d:FL K "spoils" "spoils" xdX q2b)
  (q3r:NI K "spoilt_by" q1o)
  (q1t:FL K "spoilt_by" "spoilt_by" xaA q1o)
  (q3n:NI K "ring_among" q08)
  (q1d:FL K "ring_among" "ring_among" jI q08)
  (q3a:NI K "stretch_read" q0L)
  (q0N:FL K "stretch_read" "stretch_read" vm q0L)
  (q2W:NI K "stretch_written" q0p)
  (q0r:FL K "stretch_written" "stretch_written" zU q0p)
  (q4A:NI K "meet" q2D)
  (q2F:FL K "meet" "meet" xhm q2D)
  (q35:NI K "found" q12)
  (q36:K.lookup q12=some ⟨q5f,q4X,.func (dy "found" "found" (ye jq) (xQ jq) (xj jq) (.ref q3l) q5g q5h q5i q4Y q4r q5j),q49⟩)
  (q3W:K.lookup q3l=some ⟨q3G,q3E,.seq #[.int 6 q1S] q3Q,q3F⟩)
  (q37:eX K q4r "found"=true)
  (q38:dG K (.ref q12)=true)
  (q4B:NI K "made" q2h)
  (q4C:K.lookup q2h=some ⟨q5k,q4Z,.func (dy "made" "made" (ye xa0) (xQ xa0) (xj xa0) (.ref q3u) q5l q5m q5n q40 q4s q5o),q5a⟩)
  (q39:K.lookup q3u=some ⟨q3T,q3R,.seq #[.int 6 q2c] q32,q3S⟩)
  (q4D:eX K q4s "made"=true)
  (q4E:dG K (.ref q2h)=true)
  (q3o:NI K "rows_found" q09)
  (q0T:FL K "rows_found" "rows_found" jJ q09)
  (q26:NI K "put_ending_at" q0F)
  (q0u:FL K "put_ending_at" "put_ending_at" uL q0F)
  (q3b:NI K "put_in_order" q0C)
  (q2i:vU K q0k yp)
  (q3c:K.lookup q0C=some ⟨q5p,q41,.func (dy "put_in_order" "put_in_order" (ye yz) (xQ yz) (xj yz) .none q5q q5r q5s q42 (.ref q0k) q5t),q5b⟩)
  (q0k:eX K (.ref q0k) "put_in_order"=true)
  (q3d:dG K (.ref q0C)=true)
  (q2Y:NI K "harmless_among" q0x)
  (q0z:FL K "harmless_among" "harmless_among" uq q0x)
  (q3M:NI K "put_for" q1T)
  (q1Z:FL K "put_for" "put_for" xcd q1T)
  (q3X:NI K "joined" q1U)
  (q2T:vU K q1l zH)
  (q3Y:K.lookup q1U=some ⟨q5u,q43,.func (dy "joined" "joined" (ye ur) (xQ ur) (xj ur) .none q5v q5w q5x q44 (.ref q1l) q5y),q5c⟩)
  (q1l:eX K (.ref q1l) "joined"=true)
  (q3Z:dG K (.ref q1U)=true)
  (q4a:NI K "judge" q2f)
  (q2r:FL K "judge" "judge" xfr q2f)
  (q3e:NI K "fits_in_size" q0M)
  (q0O:FL K "fits_in_size" "fits_in_size" vn q0M)
  (q3s:NI K "is_length" q1p)
  (q02:FL K "is_length" "is_length" xaB q1p)
  (q2X:NI K "first_wrong_row" q0q)
  (q0s:FL K "first_wrong_row" "first_wrong_row" zV q0q)
  (q2Z:NI K "is_fitting_row" q0y)
  (q0A:FL K "is_fitting_row" "is_fitting_row" uu q0y)
  (q27:NI K "covered_twice" q0G)
  (q0I:FL K "covered_twice" "covered_twice" uM q0G)
  (q3N:NI K "lacking" q1V)
  (q10:FL K "lacking" "lacking" xce q1V)
  (q3t:NI K "read_late" q1q)
  (q1u:FL K "read_late" "read_late" xaC q1q)
  (q4b:NI K "meant" q13)
  (q2O:vU K q1v uC)
  (q4c:K.lookup q13=some ⟨q5z,q45,.func (dy "meant" "meant" (ye vo) (xQ vo) (xj vo) .none q5A q5B q5C q46 (.ref q1v) q5D),q5d⟩)
  (q1v:eX K (.ref q1v) "meant"=true)
  (q4d:dG K (.ref q13)=true)
  (q4F:NI K "cost" q2A)
  (q2j:FL K "cost" "cost" xhn q2A)
  (q4e:NI K "plain" q2g)
  (q2s:FL K "plain" "plain" xfs q2g)
  (q3O:NI K "_law_cell_at" q1W)
  (q03:FL K "_law_cell_at" "_law_cell_at" xcf q1W)
  (q4f:NI K "_law_mixed" q2m)
  (q1N:FL K "_law_mixed" "_law_mixed" xft q2m)
  (q4g:NI K "_law_elder" q2n)
  (q2t:FL K "_law_elder" "_law_elder" xfu q2n)
  (q4h:NI K "_law_newer" q2o)
  (q2u:FL K "_law_newer" "_law_newer" xfv q2o)
  (q4G:NI K "_law_told" q2E)
  (q2G:FL K "_law_told" "_law_told" xho q2E)
  (q3D:NI K "_law_cost" q1E)
  (q1I:FL K "_law_cost" "_law_cost" xbr q1E)
  (q4i:NI K "_law_reads" q2p)
  (q2v:FL K "_law_reads" "_law_reads" xfw q2p)
  (q4j:NI K "_law_rings" q2q)
  (q2w:FL K "_law_rings" "_law_rings" xfx q2q)
  (q4T:NI K "law" q2J)
  (q4U:K.lookup q2J=some ⟨q5E,q47,.func (dy "law" "law" (ye xcW) (xQ xcW) (xj xcW) .none q5F q5G q5H q48 q4t q5I),q5e⟩)
  (q4V:eX K q4t "law"=true)
  (q4W:dG K (.ref q2J)=true)
  (q30:Cls K q1F)
  (q2U:xT K q1F "count")
  (q3f:xT K q1F "to")
  (q0c:Cls K q0a)
  (q0d:xT K q0a "count")
  (q0e:xT K q0a "source")
  (q0o:xT K q0a "to")
  (q2V:Mk K q0a q0Y)
  (q0f:Cls K q0b)
  (q0j:xT K q0b "count")
  (q0w:xT K q0b "signs")
  (q0v:xT K q0b "to")
  (q2M:Mk K q0b q0W)
  (q2L:Meth K q0b "cost" q1i)
  (q05:Meth K q0b "covered" q0n)
  (q19:Meth K q0b "covers" q0m)
  (q2H:Meth K q0b "reads" q01)
  (q2k:Meth K q0b "sign_for" q0B)
  (q2z:Meth K q0b "told" q1j)
  (q2B:Meth K q0b "writes" q0R)
  (q2I:Meth K q0a "cost" q0Z)
  (q0V:Meth K q0a "covered" q0n)
  (q17:Meth K q0a "covers" q0m)
  (q2C:Meth K q0a "reads" q0Q)
  (q2e:Meth K q0a "sign_for" q0t)
  (q11:Meth K q0a "source_for" q0l)
  (q1g:Meth K q0a "stays" q0P)
  (q1A:Meth K q0a "told" q00)
  (q2x:Meth K q0a "writes" q0K)
  (q18:xmg K q1F "__init__" q1h)
  (q4H:bM K (.ref q0b) "__class__"=some (some (.builtin "object.__class__")))
  (q4I:kO K (.builtin "object.__class__") "__get__"=some (some (.builtin "getset_descriptor.__get__")))
  (q4J:W.takesIn K (.builtin "object.__class__")=some true)
  (q4K:W.mroIn K q0b (.type "object")=some true)
  (q4k:bM K (.ref q0a) "__class__"=some (some (.builtin "object.__class__")))
  (q4l:kO K (.builtin "object.__class__") "__get__"=some (some (.builtin "getset_descriptor.__get__")))
  (q4m:W.takesIn K (.builtin "object.__class__")=some true)
  (q4n:W.mroIn K q0a (.type "object")=some true)
  (q2P:fO K (.ref q0b) (.ref q0b)=some true)
  (q2y:fO K (.ref q0b) (.ref q0a)=some false)
  (q2K:fO K (.ref q0a) (.ref q0b)=some false)
  (q1z:fO K (.ref q0a) (.ref q0a)=some true)
  (q4o:W.nsIn K bx "MOST"=some (some (.int 300 q20)))
  (q3h:NI K "NO_STRETCH" q0S)
  (q3i:K.lookup q0S=some ⟨.type "tuple",q28,.seq #[.int 0 q22,.int 0 q23] q3g,q29⟩)
  (q3v:NN K "abs")
  (q3w:NN K "all")
  (q3x:NN K "any")
  (q3j:NN K "bool")
  (q3k:NN K "dict")
  (q1O:NN K "enumerate")
  (q3y:NN K "int")
  (q0h:NN K "isinstance")
  (q0i:NN K "len")
  (q2l:NN K "list")
  (q21:NN K "max")
  (q2Q:NN K "min")
  (q06:NN K "range")
  (q2R:NN K "reversed")
  (q3z:NN K "set")
  (q2S:NN K "sorted")
  (q3A:NN K "sum")
  (q1P:NN K "tuple")
  :∃fd:aE,(∀(s:ae) (v:Value),BindsTo s fd ⟨[v],[]⟩ [("_law_script",v)])∧∀base:Heap,K.In base→base.Ns bx mg→xA l.prog w K mg base CX0 9 fa fd ["_law_script"] (xis K):=by
 have e:=hfa.symm.trans (W.mg_of X G q4T);have e2:q2J=fa:=by injection e with e;injection e with e;exact e.symm
 subst e2;have vN:=xaR (st:=zG) q3I q0X q3J;obtain⟨_,q1X⟩:=q1X;obtain⟨_,q0H⟩:=q0H;obtain⟨_,q1G⟩:=q1G;obtain⟨_,q14⟩:=q14;obtain⟨_,q1a⟩:=q1a;obtain⟨_,q1e⟩:=q1e;obtain⟨_,q1J⟩:=q1J;obtain⟨_,q1w⟩:=q1w;obtain⟨_,q1x⟩:=q1x;obtain⟨_,q1f⟩:=q1f;obtain⟨_,q0J⟩:=q0J;obtain⟨_,q0U⟩:=q0U;obtain⟨_,q1K⟩:=q1K;obtain⟨_,q1L⟩:=q1L;obtain⟨_,q1H⟩:=q1H;obtain⟨_,q1M⟩:=q1M;obtain⟨_,q1y⟩:=q1y;obtain⟨_,q04⟩:=q04;obtain⟨_,q15⟩:=q15;obtain⟨_,q16⟩:=q16;obtain⟨_,q1b⟩:=q1b;obtain⟨_,q1c⟩:=q1c;obtain⟨_,q1r⟩:=q1r;obtain⟨_,q1s⟩:=q1s;obtain⟨_,q1Y⟩:=q1Y;obtain⟨_,q0g⟩:=q0g;obtain⟨_,q1k⟩:=q1k;obtain⟨_,q2d⟩:=q2d;obtain⟨_,q1t⟩:=q1t;obtain⟨_,q1d⟩:=q1d;obtain⟨_,q0N⟩:=q0N;obtain⟨_,q0r⟩:=q0r;obtain⟨_,q2F⟩:=q2F;have vw:=xje (st:=jq) (ds:=[.int 6 q1S]) q36 q37 q38 q3W;have xfG:=vw.binds (ps:=["elder","newer","least"]) (es:=[]) 3 rfl fun _ _ _ _ _ _ _ us hl=>match us,hl with|[_,_,_],_=>⟨_,rfl,rfl⟩
 have xd0:=vw.binds (ps:=["elder","newer","least"]) (es:=[.int 6 q1S]) 2 rfl fun _ _ _ _ _ _ _ us hl=>match us,hl with|[_,_],_=>⟨_,rfl,rfl⟩
 have jT:=xje (st:=xa0) (ds:=[.int 6 q2c]) q4C q4D q4E q39;have xhx:=jT.binds (ps:=["elder","newer","least"]) (es:=[]) 3 rfl fun _ _ _ _ _ _ _ us hl=>match us,hl with|[_,_,_],_=>⟨_,rfl,rfl⟩
 have xfH:=jT.binds (ps:=["elder","newer","least"]) (es:=[.int 6 q2c]) 2 rfl fun _ _ _ _ _ _ _ us hl=>match us,hl with|[_,_],_=>⟨_,rfl,rfl⟩
 obtain⟨_,q0T⟩:=q0T;obtain⟨_,q0u⟩:=q0u;have zj:=xaR (st:=yz) q3c q0k q3d;obtain⟨_,q0z⟩:=q0z;obtain⟨_,q1Z⟩:=q1Z;have jU:=xaR (st:=ur) q3Y q1l q3Z;obtain⟨_,q2r⟩:=q2r;obtain⟨_,q0O⟩:=q0O;obtain⟨_,q02⟩:=q02;obtain⟨_,q0s⟩:=q0s;obtain⟨_,q0A⟩:=q0A;obtain⟨_,q0I⟩:=q0I;obtain⟨_,q10⟩:=q10;obtain⟨_,q1u⟩:=q1u;have xa3:=xaR (st:=vo) q4c q1v q4d;obtain⟨_,q2j⟩:=q2j;obtain⟨_,q2s⟩:=q2s;obtain⟨_,q03⟩:=q03;obtain⟨_,q1N⟩:=q1N;obtain⟨_,q2t⟩:=q2t;obtain⟨_,q2u⟩:=q2u;obtain⟨_,q2G⟩:=q2G;obtain⟨_,q1I⟩:=q1I;obtain⟨_,q2v⟩:=q2v;obtain⟨_,q2w⟩:=q2w;have xgM:=xaR (st:=xcW) q4U q4V q4W;have g {x v} (q:W.nsIn K bx x=some (some v)):=W.mg_of X G q;have g0 {x} (q:W.nsIn K bx x=some none):=W.mg_none_of X G q;have T:Txt K mg ⟨q1B,_,q1Q,_,q0D,_,q1C,_,q1h,_,q0m,_,q0n,_,q0Y,_,q0P,_,q0Q,_,q0K,_,q0l,_,q0t,_,q0Z,_,q00,_,q0W,_,q01,_,q0R,_,q0B,_,q1i,_,q1j,_,q2a,_,q07,_,q1m,_,q1n,_,q1R,_,q0E,_,q1D,_,q2b,_,q1o,_,q08,_,q0L,_,q0p,_,q2D,_,q12,_,q1S,q2h,_,q2c,q09,_,q0F,_,q0C,_,q0x,_,q1T,_,q1U,_,q2f,_,q0M,_,q1p,_,q0q,_,q0y,_,q0G,_,q1V,_,q1q,_,q13,_,q2A,_,q2g,_,q1W,_,q2m,_,q2n,_,q2o,_,q2E,_,q1E,_,q2p,_,q2q,_,q2J,_,q1F,q0a,q0b,q20,q0S⟩:=⟨vN,bn1 vN,g q3H,q2N,rfl,q1X,bn3 q1X,g q3K,q0H,bn3 q0H,g q24,q1G,bn3 q1G,g q3B,q14,bn2 q14,q1a,bn1 q1a,q1e,bn1 q1e,q1J,bn4 q1J,q1w,bn1 q1w,q1x,bn1 q1x,q1f,bn1 q1f,q0J,bn2 q0J,q0U,bn3 q0U,q1K,bn1 q1K,q1L,bn1 q1L,q1H,bn3 q1H,q1M,bn1 q1M,q1y,bn1 q1y,q04,bn3 q04,q15,bn1 q15,q16,bn1 q16,q1b,bn1 q1b,g q3U,q1c,bn1 q1c,g q3m,q1r,bn1 q1r,g q3p,q1s,bn1 q1s,g q3q,q1Y,bn1 q1Y,g q3L,q0g,bn2 q0g,g q25,q1k,bn1 q1k,g q3C,q2d,bn1 q2d,g q3V,q1t,bn3 q1t,g q3r,q1d,bn2 q1d,g q3n,q0N,bn1 q0N,g q3a,q0r,bn1 q0r,g q2W,q2F,bn2 q2F,g q4A,vw,xd0,xfG,g q35,jT,xfH,xhx,g q4B,q0T,bn3 q0T,g q3o,q0u,bn2 q0u,g q26,zj,bn1 zj,g q3b,q2i,rfl,q0z,bn2 q0z,g q2Y,q1Z,bn2 q1Z,g q3M,jU,bn1 jU,g q3X,q2T,rfl,q2r,bn1 q2r,g q4a,q0O,bn1 q0O,g q3e,q02,bn1 q02,g q3s,q0s,bn1 q0s,g q2X,q0A,bn3 q0A,g q2Z,q0I,bn1 q0I,g q27,q10,bn2 q10,g q3N,q1u,bn1 q1u,g q3t,xa3,bn2 xa3,g q4b,q2O,rfl,q2j,bn1 q2j,g q4F,q2s,bn2 q2s,g q4e,q03,bn2 q03,g q3O,q1N,bn2 q1N,g q4f,q2t,bn1 q2t,g q4g,q2u,bn2 q2u,g q4h,q2G,bn2 q2G,g q4G,q1I,bn1 q1I,g q3D,q2v,bn2 q2v,g q4i,q2w,bn2 q2w,g q4j,xgM,bn1 xgM,g q4u,q30,q2U,q3f,g q33,q0c,q0d,q0e,q0o,q2V,g q4v,q0f,q0j,q0w,q0v,q2M,fun e=>.ins e q0f q4H q4I q4J q4K,fun e=>.ins e q0c q4k q4l q4m q4n,q2P,q2y,q2K,q1z,g q4o,g q3h,fun _=>.inr ⟨_,_,_,q3i,rfl,rfl,by simp[ay],(.cons ⟨_,rfl⟩ (.cons ⟨_,rfl⟩ .nil))⟩,q2L,q05,q19,q2H,q2k,q2z,q2B,q2I,q0V,q17,q2C,q2e,q11,q1g,q1A,q2x,q18,g0 q3v,g0 q3w,g0 q3x,g0 q3j,g0 q3k,g0 q1O,g0 q3y,g0 q0h,g0 q0i,g0 q2l,g0 q21,g0 q2Q,g0 q06,g0 q2R,g0 q3z,g0 q2S,g0 q3A,g0 q1P⟩;exact⟨_,fun s v=>.of_eq rfl,fun base _ _=>xpM T⟩
end K92
open PySem PySem.W PyProof.Rows
namespace PySem.W.Fast
theorem tw13925092461837774241:True:=trivial
theorem tw12174246543745538721:True:=trivial
theorem tw10051364211567627426:True:=trivial
theorem tw33692087556039618:True:=trivial
theorem tw3348991731705355140:True:=trivial
theorem tw17358160742573727525:True:=trivial
theorem tw3732763414055198758:True:=trivial
theorem tw9149883085557084518:True:=trivial
theorem tw8980320496870740362:True:=trivial
theorem tw17374731225635288235:True:=trivial
theorem tw18246592237770359276:True:=trivial
theorem tw4257358551740555375:True:=trivial
theorem tw4118588749600145519:True:=trivial
theorem tw11365860530081941936:True:=trivial
theorem tw2543215350509253107:True:=trivial
theorem tw15608881287217006741:True:=trivial
theorem tw7424397007271362165:True:=trivial
theorem tw2259317608738078421:True:=trivial
theorem tw17166542001107338358:True:=trivial
theorem tw13208533864731544887:True:=trivial
theorem tw5791379876707507386:True:=trivial
theorem tw14532307991546344636:True:=trivial
theorem tw16133856380912656446:True:=trivial
theorem tw12139938855378001710:True:=trivial
theorem tw4508243284872435522:True:=trivial
theorem tw8936882332389090562:True:=trivial
theorem tw8393842405750439517:True:=trivial
theorem tw4142235349512655380:True:=trivial
theorem tw13557200654724215816:True:=trivial
theorem tw12509749987030662932:True:=trivial
theorem tw11140619194007016600:True:=trivial
theorem tw5736821634277073366:True:=trivial
theorem tw3369941811214435147:True:=trivial
theorem tw13455579925291076234:True:=trivial
theorem tw4951782182498326344:True:=trivial
theorem tw1448371051137163637:True:=trivial
theorem tw5392151008926296450:True:=trivial
theorem tw15961943160483998910:True:=trivial
theorem tw13778278256285491562:True:=trivial
theorem tw17173167790572112099:True:=trivial
theorem tw6313544021288404599:True:=trivial
theorem tw1948516575521259801:True:=trivial
theorem tw808589390626763118:True:=trivial
theorem tw2691585807824856149:True:=trivial
theorem tw6699283933899694261:True:=trivial
theorem tw13837734544615654599:True:=trivial
theorem tw807744889912666739:True:=trivial
theorem tw2753973916662265519:True:=trivial
theorem tw1632101665231080838:True:=trivial
theorem tw2762822665609592444:True:=trivial
theorem tw4360857677923739851:True:=trivial
theorem tw3307431082261388124:True:=trivial
theorem tw15792649143763347409:True:=trivial
theorem tw3604610829761250333:True:=trivial
theorem tw3521512730087561587:True:=trivial
theorem tw9366969960397120903:True:=trivial
theorem tw11083277217356566960:True:=trivial
theorem tw7629649268310418273:True:=trivial
theorem tw8315996726846965856:True:=trivial
theorem tw12518779566014016275:True:=trivial
theorem tw16260773492672486514:True:=trivial
theorem tw15533873432323015774:True:=trivial
theorem tw7627941945885540590:True:=trivial
theorem tw8770031122321812877:True:=trivial
theorem tw11938087312110204446:True:=trivial
theorem tw5499174719069718151:True:=trivial
theorem tw708622388307458395:True:=trivial
theorem tw13946736896065268020:True:=trivial
theorem tw17124849297673204374:True:=trivial
theorem tw15977405935656034865:True:=trivial
theorem tw2190655613062004932:True:=trivial
theorem tw3692041991203061038:True:=trivial
theorem tw16419022102343083005:True:=trivial
theorem tw11201389972796811296:True:=trivial
theorem tw14742879623383115091:True:=trivial
theorem tw10314969207657879271:True:=trivial
theorem tw9663800825704601232:True:=trivial
theorem tw15566850422816934590:True:=trivial
theorem tw9442420356364427112:True:=trivial
theorem tw10115598941136906547:True:=trivial
theorem tw1204831624453605600:True:=trivial
theorem tw1478724461117823938:True:=trivial
theorem tw16299373844333492876:True:=trivial
theorem tw4300562346289349521:True:=trivial
theorem tw12262028142960069781:True:=trivial
theorem tw4543669696305950257:True:=trivial
theorem tw9196323195436714412:True:=trivial
theorem tw6735427269823957785:True:=trivial
theorem tw2142736316748566012:True:=trivial
theorem tw17235028874547953954:True:=trivial
theorem tw4783182446624423136:True:=trivial
theorem tw1817366694576900159:True:=trivial
theorem tw9770458414556921535:True:=trivial
theorem tw14715082777957677886:True:=trivial
theorem tw633439489478711190:True:=trivial
theorem tw5191915521326357724:True:=trivial
theorem tw5811834024061158082:True:=trivial
theorem tw758111771870538504:True:=trivial
theorem tw12748126808049214541:True:=trivial
theorem tw17525713638339339783:True:=trivial
theorem tw12159422980025248425:True:=trivial
theorem tw5754442249887856906:True:=trivial
theorem tw12962022460795706503:True:=trivial
theorem tw7165382695053130341:True:=trivial
theorem tw5052021321084948125:True:=trivial
theorem tw5163920979783503772:True:=trivial
theorem tw1032617020929097630:True:=trivial
theorem tw9180407886704559419:True:=trivial
theorem tw3458818729329757538:True:=trivial
theorem tw927024044771497099:True:=trivial
theorem tw381414728099335387:True:=trivial
theorem tw8049923130552666914:True:=trivial
theorem tw13644526615512572177:True:=trivial
theorem tw15032702879847656779:True:=trivial
theorem tw6988036849155442319:True:=trivial
theorem tw15878079514192096043:True:=trivial
theorem tw2704784619924282298:True:=trivial
theorem tw9320926606116800377:True:=trivial
theorem tw12707423963420195718:True:=trivial
theorem tw1948937921396921853:True:=trivial
theorem tw444991064556682765:True:=trivial
theorem tw1288327831140680930:True:=trivial
theorem tw10361346706625785880:True:=trivial
theorem tw10867658873969804520:True:=trivial
theorem tw8948871906711980029:True:=trivial
theorem tw12042970743553197945:True:=trivial
theorem tw17468774844512634631:True:=trivial
theorem tw12068999331187483580:True:=trivial
theorem tw16741476089907544863:True:=trivial
theorem tw6229712280150014232:True:=trivial
theorem tw9418649968336474809:True:=trivial
theorem tw4648910880273261550:True:=trivial
theorem tw12253766869796306637:True:=trivial
theorem tw13214293810128138926:True:=trivial
theorem tw10958400368882088309:True:=trivial
theorem tw16676567049592756428:True:=trivial
theorem tw12163760933797583937:True:=trivial
theorem tw15993748007505334874:True:=trivial
theorem tw4533969535047175943:True:=trivial
theorem tw11596200300356687063:True:=trivial
theorem tw2188969177320247200:True:=trivial
theorem tw441918768719281732:True:=trivial
theorem tw8293824601103846789:True:=trivial
theorem tw13553061110500668464:True:=trivial
theorem tw1457626976965664081:True:=trivial
theorem tw1937538528578103082:True:=trivial
theorem tw180191592797248840:True:=trivial
theorem tw1107988972007086100:True:=trivial
theorem tw16375443820663490651:True:=trivial
theorem tw2308444937997284084:True:=trivial
theorem tw16599407279151026579:True:=trivial
theorem tw14883912907303285262:True:=trivial
theorem tw4572643339085996913:True:=trivial
theorem tw7640591725695131559:True:=trivial
theorem tw7724145470155560738:True:=trivial
theorem tw12657221387600754060:True:=trivial
theorem tw9592375452480958786:True:=trivial
theorem tw14794916543901469595:True:=trivial
theorem tw10227683532775139049:True:=trivial
theorem tw17013006021894242555:True:=trivial
theorem tw10785568700464131017:True:=trivial
theorem tw2793426291088776423:True:=trivial
theorem tw17068891210282278960:True:=trivial
theorem tw6005525639161212237:True:=trivial
theorem tw8104369537825653045:True:=trivial
theorem tw2088218990076458269:True:=trivial
theorem tw15586068980171574884:True:=trivial
theorem tw14309371748685032694:True:=trivial
theorem tw17951126579323033999:True:=trivial
theorem tw16333231259115627126:True:=trivial
theorem tw3134025220438226148:True:=trivial
theorem tw8380569956493235605:True:=trivial
theorem tw11564348545601322007:True:=trivial
theorem tw5606777407148575288:True:=trivial
theorem tw11733941746707669205:True:=trivial
theorem tw1261048394794029626:True:=trivial
theorem tw4734711763249720542:True:=trivial
theorem tw6268818039200747603:True:=trivial
theorem tw9920988102828502893:True:=trivial
theorem tw3829190314275099877:True:=trivial
theorem tw1914924028125680375:True:=trivial
theorem tw5756890174797474391:True:=trivial
theorem tw3579516834506908912:True:=trivial
theorem tw1103320062246428038:True:=trivial
theorem tw3812371246444055320:True:=trivial
theorem tw8453552965327351688:True:=trivial
theorem tw18008812448196907119:True:=trivial
theorem tw13403999107527645199:True:=trivial
theorem tw14814673297029536278:True:=trivial
theorem tw1456516921936805332:True:=trivial
theorem tw1288027552694214299:True:=trivial
theorem tw1199240747645410634:True:=trivial
theorem tw13062424458562455879:True:=trivial
theorem tw13915273413164502391:True:=trivial
end PySem.W.Fast
set_option maxRecDepth 100000 in
set_option maxHeartbeats 0 in
theorem PySem.Challenge.cw_oneroom_k92_whole_maker_holds : PySem.Challenge.rw_oneroom_k92_whole_maker.Holds := by
 w_on;o_law;k_head;(case hw=>w_witness2)
 k_fill
 refine L2.xmh (l:=PySem.Challenge.rw_oneroom_k92_whole_maker) (n:=63) (k:=9) (x:="_law_script") (CX:=L2.CX0) (sp:=K92.xis) (tabs:=[(K92.q0X,K92.yI,K92.zu),(K92.q0k,K92.yp,K92.zb),(K92.q1l,K92.zH,K92.vM),(K92.q1v,K92.uC,K92.jK)]) rfl (by decide) rfl ⟨rfl,by decide,by decide⟩ (fun w h Y=>PySem.W.km_in_of Y) (fun w h Y KX=>(List.forall_mem_cons.mpr ⟨⟨PySem.W.codeHd_of_K (c:=K92.q0X) (P:=K92.yI) KX (by kernel_rfl),PySem.W.km_tabs_of Y _ (by decide)⟩,(List.forall_mem_cons.mpr ⟨⟨PySem.W.codeHd_of_K (c:=K92.q0k) (P:=K92.yp) KX (by kernel_rfl),PySem.W.km_tabs_of Y _ (by decide)⟩,(List.forall_mem_cons.mpr ⟨⟨PySem.W.codeHd_of_K (c:=K92.q1l) (P:=K92.zH) KX (by kernel_rfl),PySem.W.km_tabs_of Y _ (by decide)⟩,(List.forall_mem_cons.mpr ⟨⟨PySem.W.codeHd_of_K (c:=K92.q1v) (P:=K92.uC) KX (by kernel_rfl),PySem.W.km_tabs_of Y _ (by decide)⟩,(fun _ z=>nomatch z)⟩)⟩)⟩)⟩)) (fun w=>by kernel_rfl) (by decide) ?F ?S ?C
 case F=>
  intro w mg fa h KX G hmg
  refine' K92.xpN KX G hmg ?_ ?_ ?_ ?_ ?_ ?_ ?_ ?_ ?_ ?_ ?_ ?_ ?_ ?_ ?_ ?_ ?_ ?_ ?_ ?_ ?_ ?_ ?_ ?_ ?_ ?_ ?_ ?_ ?_ ?_ ?_ ?_ ?_ ?_ ?_ ?_ ?_ ?_ ?_ ?_ ?_ ?_ ?_ ?_ ?_ ?_ ?_ ?_ ?_ ?_ ?_ ?_ ?_ ?_ ?_ ?_ ?_ ?_ ?_ ?_ ?_ ?_ ?_ ?_ ?_ ?_ ?_ ?_ ?_ ?_ ?_ ?_ ?_ ?_ ?_ ?_ ?_ ?_ ?_ ?_ ?_ ?_ ?_ ?_ ?_ ?_ ?_ ?_ ?_ ?_ ?_ ?_ ?_ ?_ ?_ ?_ ?_ ?_ ?_ ?_ ?_ ?_ ?_ ?_ ?_ ?_ ?_ ?_ ?_ ?_ ?_ ?_ ?_ ?_ ?_ ?_ ?_ ?_ ?_ ?_ ?_ ?_ ?_ ?_ ?_ ?_ ?_ ?_ ?_ ?_ ?_ ?_ ?_ ?_ ?_ ?_ ?_ ?_ ?_ ?_ ?_ ?_ ?_ ?_ ?_ ?_ ?_ ?_ ?_ ?_ ?_ ?_ ?_ ?_ ?_ ?_ ?_ ?_ ?_ ?_ ?_ ?_ ?_ ?_ ?_ ?_ ?_ ?_ ?_ ?_ ?_ ?_ ?_ ?_ ?_ ?_ ?_ ?_ ?_ ?_ ?_ ?_ ?_ ?_ ?_ ?_ ?_ ?_ ?_ ?_ ?_ ?_ ?_ ?_ ?_ ?_ ?_ ?_ ?_ ?_ ?_ ?_ ?_ ?_ ?_ ?_ ?_ ?_ ?_ ?_
  iterate 2 all_goals first|(show(_:Prop);first|exact⟨_,L2.xaR (by k_is) (by k_is) (by k_is)⟩|exact L2.xnK (by kernel_rfl)|exact⟨by k_is,by k_is,by k_is⟩|exact⟨by k_is,by k_is,by k_is,by k_is⟩|exact⟨by kernel_rfl,by kernel_rfl,by kernel_rfl,by kernel_rfl,by kernel_rfl,by kernel_rfl⟩|exact⟨by kernel_rfl,by kernel_rfl,by kernel_rfl,by kernel_rfl,by kernel_rfl,by kernel_rfl,by kernel_rfl,by kernel_rfl⟩|k_is|(show _=_;k_is)|kernel_rfl)|skip
 case S=>exact fun K H a ns hl hS hT=>⟨a,ns,rfl,hS,hl,hT _ (.head _),hT _ (.tail _ (.head _)),hT _ (.tail _ (.tail _ (.head _))),hT _ (.tail _ (.tail _ (.tail _ (.head _)))),fun _=>rfl⟩
 case C=>exact fun _ _ _ _ z=>z
#print axioms PySem.Challenge.cw_oneroom_k92_whole_maker_holds
