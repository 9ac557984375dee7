import PyProof.Rows.All
import Wide.All
import OpenK.AllK
import Wide.FinOn
import Lean
import PyProof.EqAt
import PyProof.EqKinds
import PyProof.TupleCall
import PySem.Challenge.RW_oneroom_k94_whole_banks
set_option Elab.async false
set_option linter.all false
set_option maxRecDepth 100000
open And renaming intro→a6
open Array renaming getElem?_eq_some_iff→bE,length_toList→dF,getElem?_setIfInBounds_ne→dI,find?_toList→j5
open Bool renaming false_ne_true→aJ,not_eq_false'→c7,false_eq_true→dR,eq_iff_iff→eU,and_eq_true→fz,false_or→gv,not_eq_true'→gA,true_or→gR,or_eq_false_iff→iV
open False renaming elim→aV
open ForInStep renaming yield→dQ
open Function renaming comp_def→kh
open Int renaming emod_lt_of_pos→cC,le_refl→cD,emod_nonneg→cJ,toNat_of_nonneg→cM,toNat_natCast→dn,fdiv_eq_ediv_of_nonneg→gs,toNat→kd
open List renaming mem_singleton→aj,length_map→ao,mem_cons→av,getElem?_eq_some_iff→az,getElem?_map→aD,getElem?_eq_getElem→aK,replicate→aQ,mem_append_right→aR,mem_cons_of_mem→aS,size_toArray→aT,length_append→aW,mem_append_left→aX,mem_of_getElem?→aY,mem_append→a7,mem_cons_self→ba,not_mem_nil→bo,nodup_cons→bp,map_cons→bq,getElem?_set_ne→bA,length_cons→bD,getElem?_append_left→bF,drop_eq_getElem_cons→bG,map_append→bJ,lookup_cons→bK,getElem?_append_right→bN,getElem?_set_self→bP,length_take→bQ,drop_eq_nil_of_le→bR,length_replicate→bZ,take_succ→b8,find?_cons→cc,take_length→cw,mem_iff_getElem?→cy,getElem?_eq_none→cA,append_nil→cE,of_mem_zip→cF,length_set→cH,length_drop→cQ,cons_append→cR,all_eq_true→cS,nodup_nil→cT,mem_filterMap→cX,mem_map→cY,getElem?_take_of_lt→dA,replicate_succ→dG,range→dN,lookup→dW,take_of_length_le→d5,append_assoc→d8,mem_range→d9,getElem_mem→eF,mem_of_mem_drop→eI,filterMap_cons→eP,find?_eq_none→eZ,getElem?_drop→fc,flatten_cons→fq,drop_length→fB,mem_flatten→fC,mem_filter→fH,length_nil→fP,length_pos_iff→fU,getElem?_range→fW,getD_eq_getElem?_getD→gw,length_range→gC,mem_of_find?_eq_some→gD,pairwise_iff_getElem→gF,mem_or_eq_of_mem_set→gG,map_nil→gO,getElem?_replicate→g9,nil_append→ib,length→iq,length_singleton→iC,take_zero→iH,drop_zero→iI,mem_iff_getElem→iQ,mem_of_mem_take→iX,any_cons→i5,map_take→i8,mem_map_of_mem→i9,flatMap_append→j4,getElem_range→j8,filter_append→j9,contains_cons→ka,ne_nil_of_mem→ke
open Nat renaming le_refl→ax,lt_of_lt_of_le→aF,ne_of_lt→aG,le_trans→bw,zero_le→bM,lt_irrefl→bS,le_succ→dy,lt_of_le_of_lt→dP,ne_of_gt→eg,le_of_lt→fJ,succ_mul→gP,mul_comm→gQ,succ_ne_self→gY,not_lt_zero→ik,div_add_mod→il
open Ne renaming symm→au
open Option renaming map_eq_some_iff→aH,map_some→fO,isSome_map→gy,isSome_iff_exists→gN,getD_none→km,map→kn
open Option.some renaming inj→bh,injEq→kg
open Or renaming inl→aA,inr→cI
open Prod renaming snd→iW
open Prod.mk renaming injEq→dJ
open PyProof renaming noPylong_of_log2→gS
open PyProof.Rows renaming callWith_type1→bL,envOfC→di,AllBare→eN,Constant_none→gq,IntsAre→iA,boot_range→iP,subscriptTail→i4
open PySem renaming Shared→aa,wpAny_bind→af,Program→ak,FuncData→aq,wpAny_pure→ay,starEach→aC,Around→aE,wpAny_mono→aI,sizeLine→aN,sizeLine_eq→aZ,mainGlobals→bf,rawInt→bj,wpAny_field→bu,compareOp→bx,wpAny_holding→bz,bootBuiltins→bB,backTo→bC,wpAny_Call_Name_kw→bO,wpAny_standAt→bT,codeAny_mono→bU,Arguments→bV,wpAny_truthy_bool→cb,codeAny→ck,builtinsNs→cm,wpAny_newFunctionEnv_cells→cq,binaryOp→cu,codeAny_call_function→cx,wpAny_setField→cz,wpAny_loadPart_at→cK,behindInMarks→cL,NameKind→cP,wpAny_call→cV,FuncBody→df,wpAny_newObj_type→dk,wpAny_pyIter_enum→dm,sysModules→dM,wpAny_execs_nil→dO,wpAny_updateSeq→dS,bindArgs→dX,callWith→dY,keywordEach→dZ,excClassObj→d7,holding→ee,codeAny_handlers_test→eu,swapsWith→eA,getMethod→eB,codeAny_call_builtin→eG,plainId_quiet→eJ,PyData→eK,wpAny_letOwnedTupleGo_enum→eM,sliceBounds→eO,wpAny_handleBy_cons→eR,wpAny_passesOwn→eS,codeAmong→eW,tupleKind_room_in1→eY,wpAny_seqItems→ff,cameBackBy→fg,wpAny_callSpecial?_slot→fh,wpAny_pyIter_list→fj,foldedSetIterable→fk,ExceptHandler→fw,wpAny_execs_cons→fx,backToKw→fy,wpAny_isTrue_Compare1→fD,standAt→fE,cellsFrom→fF,plainObj_wpAny_Assign_Attribute→fG,assignEach→fK,letOwnedTupleGo→fL,codeAny_func→fN,codeAny_builtin→fQ,unbindBehindTheSuite→fR,wpAny_isSubtype_exc→fV,wpAny_letGo→f7,wpAny_of_eq→f9,assign→gf,wpAny_pyIter_tuple→gi,noteFrame→gj,attributeBase→gu,wpAny_assign_Name→gx,wpAny_Call_ofName→gB,codeAny_handlers_suite_as→gE,valueAt→gI,callerA→gJ,Result→gL,wpAny_comprehension_free→gT,intItems→gW,IsEnum→gX,wpAny_Try_except→gZ,wpAny_call_entry→g7,wpAny_pyNext_enum_itemD→hW,tupleKind→hZ,TriplesOk→ia,updateSeq→ic,seqItems?→ie,setFlight→ig,wpAny_loadPart'→ij,subscripted→ir,wpAny_loadPart→iw,recursionLimit→ix,BindsTo→iy,leaving→iz,getItem→iB,wpAny_tryCatch→iD,Builtin→iE,typeLookup→iL,call_meets→iM,closureFor→iN,IsLongIter→iO,evalArgs→iT,isInstance→iU
open PySem.Around renaming frames_deeper→iK,under_plainId→iS,under→j6
open PySem.AutoSeq1 renaming wpAny_loadPart'→fb
open PySem.Builtin.Builtins renaming bindParams→gm
open PySem.Builtin.List renaming listExtendWith→cg,listTooLong→dB,listSameRef→gU,listItems→iu
open PySem.Builtin.ObjectAttr renaming storeInDict→fS
open PySem.Builtin.Range renaming rangeSize→bc,small→fT
open PySem.Builtin.SmallTypes renaming nextOf→du,fitsIndex→ez
open PySem.Calls renaming Name_function_global→gr
open PySem.Code renaming quiet_builtin→gp,isFrame→j7
open PySem.EntryCells renaming newEntry→eQ
open PySem.F renaming slot_tuple_iterator_next→dg,plain_max_loop→dD,args_tuple_iterator_next_1→fY,entry_tuple_iterator_next→gn,entry_enumerate_new→iF,slot_enumerate_next→iG
open PySem.Heap renaming get?_push_of_some→ai,lt_size→aw,get?_push_size→aL,get?_update_other→aO,get?_update_self→a8,get?_none_of_le→dq,size_push→ek,SameBut→eX,get?_update_ne→j3,ExtBut→kl
open PySem.Heap.Ns1 renaming of_empty→kf
open PySem.Heap.SameBut renaming update→dH
open PySem.IsRange renaming new→kj
open PySem.NameKind renaming free→bH,cell→i6
open PySem.Obj renaming mapFields→bg,mapSeq→cW,data_mapFields→cZ,isFreed_of_fields→c9,cls_mapFields→gz
open PySem.PyData renaming canLayAll0→bt,depthAll→bY,canLay0→b9,depth→dE,int→dU,eqv→eE
open PySem.SeqAt renaming shaped→dC
open PySem.Str renaming ofString→br
open PySem.Value renaming ref→aB,none→aU,bool→cU,type→eC,int→gc,str→gd,builtin→i7,float→ki
open PySem.W renaming Frag→ag,findIn→aM,kitCls→a5,keepIn→bW,fnOf→bX,codeIn→cG,methodCall_KW→c8,emptyDict→dv,kia_one→dw,cellsFrom_some→dz,callWith_K→eo,instObj→eV,tabObj→fA,codeRec_of→fM,mroIn→fX,hasDictIn→fZ,envX→gk,excIn→gK,kitOne→gM,nsIn→g8,specialIn→ip,plainGet→iJ,CodeHd→iR,plainGet_of→iY,looks_clsIn→iZ,callWith_K0→i3
open Sum renaming inl→cO,inr→gH
open True renaming intro→b7
namespace L2
open PySem PySem.Spec PyProof.Rows
abbrev Key:=Sum Int Str
def xex:Key→Value→Bool
 | .inl k,v=>Value.isInt k v
 | .inr x,v=>Value.isStrOf x v
def xrE(w:World):Key→Int
 | .inl k=>hashInt k
 | .inr x=>hashStr w x
theorem yI:∀{k:Key} {v:Value},xex k v=true→(∃i t,k=cO i∧v=gc i t)∨(∃x t,k=gH x∧v=gd x t)
 | .inl i,v,h=>by
  obtain⟨t,e⟩:=Value.isInt_shape (k:=i) (v:=v) h;exact .inl ⟨i,t,rfl,e⟩
 | .inr x,v,h=>by
  obtain⟨t,e⟩:=Value.isStrOf_shape (x:=x) (v:=v) h;exact .inr ⟨x,t,rfl,e⟩
theorem xl6(i:Int)(t:Tok):xex (.inl i) (.int i t)=true:=by simp[xex,Value.isInt]
theorem xl7(x:Str)(t:Tok):xex (.inr x) (.str x t)=true:=by simp[xex,Value.isStrOf]
theorem xp0(a b:Int):decide ((cO a:Key)=cO b)=(a==b):=by
 by_cases e:a=b
 ·subst e;simp
 ·have h:¬(cO a:Key)=cO b:=fun q=>e (Sum.inl.inj q);rw[decide_eq_false h];exact(beq_eq_false_iff_ne.mpr e).symm
theorem xp1(a b:Str):decide ((gH a:Key)=gH b)=decide (a=b):=by
 by_cases e:a=b
 ·subst e;simp
 ·have h:¬(gH a:Key)=gH b:=fun q=>e (Sum.inr.inj q);rw[decide_eq_false h,decide_eq_false e]
theorem xp2(a:Int)(b:Str):decide ((cO a:Key)=gH b)=false:=decide_eq_false (fun q=>nomatch q)
theorem xp3(a:Str)(b:Int):decide ((gH a:Key)=cO b)=false:=decide_eq_false (fun q=>nomatch q)
def yC(prog:ak)(w:World):PySem.KeyKind prog w Key where
 is:=xex
 hash:=xrE w
 inj:=fun v a b ha hb=>by
  rcases yI ha with⟨i,t,rfl,rfl⟩|⟨x,t,rfl,rfl⟩
  ·rcases yI hb with⟨j,u,rfl,e⟩|⟨y,u,rfl,e⟩
   ·injection e with e1 _;rw[e1]
   ·exact nomatch e
  ·rcases yI hb with⟨j,u,rfl,e⟩|⟨y,u,rfl,e⟩
   ·exact nomatch e
   ·injection e with e1 _;rw[e1]
 byValue:=fun k v h=>by
  rcases yI h with⟨i,t,rfl,rfl⟩|⟨x,t,rfl,rfl⟩<;> rfl
 pyHash:=fun hv h=>by
  rcases yI hv with⟨i,t,rfl,rfl⟩|⟨x,t,rfl,rfl⟩
  ·exact wpAny_pyHash_int h
  ·exact wpAny_pyHash_str h
 eqBool:=fun hu hv h=>by
  rcases yI hu with⟨i,t,rfl,rfl⟩|⟨x,t,rfl,rfl⟩
  ·rcases yI hv with⟨j,u,rfl,rfl⟩|⟨y,u,rfl,rfl⟩
   ·rw[xp0]at h;exact wpAny_eqBool_int h
   ·rw[xp2]at h;exact SeqAt.EqAt.int_str i t y u _ _ _ _ h
  ·rcases yI hv with⟨j,u,rfl,rfl⟩|⟨y,u,rfl,rfl⟩
   ·rw[xp3]at h;exact SeqAt.EqAt.str_int x t j u _ _ _ _ h
   ·rw[xp1]at h;exact wpAny_eqBool_str h
 «strs»:=fun k x t v h=>by
  rcases yI h with⟨i,u,rfl,e⟩|⟨y,u,rfl,e⟩
  ·exact nomatch e
  ·injection e with e1 _;subst e1;cases v<;> rfl
theorem xjJ(prog:ak)(w:World)(i:Int)(t:Tok):(yC prog w).is (.inl i) (.int i t)=true:=xl6 i t
theorem xjK(prog:ak)(w:World)(x:Str)(t:Tok):(yC prog w).is (.inr x) (.str x t)=true:=xl7 x t
end L2
namespace L2
open PySem PySem.Spec PyProof.Rows
inductive V where
 |non|bl (b:Bool)|int (i:Int)|str (x:Str)|byt (b:Array UInt8)|flt (b:UInt64)|ref (a:Addr)|ty (n:String)
 deriving DecidableEq
def RelV:V→Value→Prop
 | .non,u=>u=aU
 | .bl b,u=>u=cU b
 | .int i,u=>∃t,u=gc i t
 | .str x,u=>∃t,u=gd x t
 | .byt b,u=>∃t,u=Value.bytes b t
 | .flt b,u=>∃t,u=ki b t
 | .ref a,u=>u=aB a
 | .ty n,u=>u=eC n
theorem RelV.fn{x y:V}{u:Value}(a:RelV x u)(b:RelV y u):x=y:=by
 cases x<;> simp only[RelV]at a<;> (first|subst a|(obtain⟨_,rfl⟩:=a))<;> cases y<;> simp only[RelV]at b<;> first|rfl|(cases b;done)|(cases b;rfl)|(obtain⟨_,b⟩:=b;cases b;done)|(obtain⟨_,b⟩:=b;cases b;rfl)
abbrev Vals:List V→List Value→Prop:=Paired RelV
theorem Vals.length{xs:List V}{us:List Value}(r:Vals xs us):xs.length=us.length:=Paired.length r
theorem Vals.get:∀{xs:List V} {us:List Value} {i:Nat} {x:V},Vals xs us→xs[i]? =some x→∃u,us[i]? =some u∧RelV x u
 |_,_,_,_,.nil,e=>by simp at e
 |_,_,0,_,.cons r _,e=>by simp at e;subst e;exact⟨_,rfl,r⟩
 |_,_,i+1,x,.cons _ t,e=>by
  obtain⟨u,h1,h2⟩:=Vals.get (i:=i) (x:=x) t (by simpa using e);exact⟨u,by simpa using h1,h2⟩
theorem Vals.set{x:V}{u:Value}(r:RelV x u):∀{xs:List V} {us:List Value} (i:Nat),Vals xs us→Vals (xs.set i x) (us.set i u)
 |_,_,_,.nil=>.nil
 |_,_,0,.cons _ t=>.cons r t
 |_,_,i+1,.cons q t=>.cons q (Vals.set r i t)
theorem Vals.append:∀{xs ys:List V} {us ws:List Value},Vals xs us→Vals ys ws→Vals (xs++ys) (us++ws)
 |_,_,_,_,.nil,s=>s
 |_,_,_,_,.cons r t,s=>.cons r (Vals.append t s)
theorem Vals.take:∀{xs:List V} {us:List Value} (n:Nat),Vals xs us→Vals (xs.take n) (us.take n)
 |_,_,0,_=>.nil
 |_,_,_+1,.nil=>.nil
 |_,_,n+1,.cons r t=>.cons r (Vals.take n t)
theorem Vals.drop:∀{xs:List V} {us:List Value} (n:Nat),Vals xs us→Vals (xs.drop n) (us.drop n)
 |_,_,0,r=>r
 |_,_,_+1,.nil=>.nil
 |_,_,n+1,.cons _ t=>Vals.drop n t
def ux:Option V→Option Value→Prop
 |some v,some u=>RelV v u
 |none,none=>True
 |_,_=>False
def KV{κ:Type}:List (κ×V)→List (κ×Value)→Prop:=Paired fun(p:κ×V) (q:κ×Value)=>p.1=q.1∧RelV p.2 q.2
def kV:Key→V
 | .inl i=>.int i
 | .inr x=>.str x
inductive HO where
 |lst (xs:List V)
 |tup (xs:List V)
 |dK (kvs:List (Key×V))|dT (kvs:List (List Key×V))
 |set (S:Int→Bool) (n:Nat)
 |ins (C dx:Addr) (fs:List (Str×V))
 |own (x:Addr)
 |xd (fs:List (Str×V))
 |met (f x:Addr)
 |rng (lo hi:Int)
 |frz (o:Obj) (u:HO)
 |tbl (qs:List (Pos×Str))
 |cel (v:Option V)
 |ext (φ:Heap→Prop)
abbrev Hp:=Addr→Option HO
def upd(H:Hp)(a:Addr)(o:HO):Hp:=fun b=>if b=a then some o else H b
theorem xm{H:Hp}{a:Addr}{o:HO}:upd H a o a=some o:=by unfold upd;rw[if_pos rfl]
theorem xl{H:Hp}{a b:Addr}{o:HO}(h:b≠a):upd H a o b=H b:=by unfold upd;rw[if_neg h]
theorem zv{H:Hp}{a:Addr}{o u:HO}:upd (upd H a o) a u=upd H a u:=by
 funext b;unfold upd;split<;> rfl
theorem xbR{H:Hp}{a b:Addr}{o u:HO}(h:H a=some o)(h':H b=some u)(d:o≠u):a≠b:=by
 intro e;subst e;rw[h]at h';exact d (bh h')
theorem xF{H:Hp}{a b:Addr}{o:HO}(h:H a=some o)(h':H b=none):a≠b:=by
 intro e;subst e;rw[h]at h';cases h'
section
variable (P:ak) (w:World)
def xX(H:Hp)(h:Heap)(a:Addr):HO→Prop
 | .lst xs=>xs.length≤aN∧∃(its:List Value) (n:Nat),Vals xs its∧h.get? a=some {cls:=.type "list",data:=.seq its.toArray n}
 | .tup xs=>xs.length≤aN∧∃its:List Value,Vals xs its∧IsTup h a its.toArray
 | .dK kvs=>kvs.length≤aN∧(a==dM)=false∧∃vs,KV kvs vs∧h.DictOf (yC P w) a vs
 | .dT kvs=>kvs.length≤aN∧(a==dM)=false∧∃xs:List (List Key×Addr×Value),
   Paired (fun(p:List Key×V) (q:List Key×Addr×Value)=>p.1=q.1∧H q.2.1=some (.tup (p.1.map kV))∧RelV p.2 q.2.2) kvs xs∧
   ∃o es ep,h.get? a=some o∧o.ExactDict∧o.data= .dict es ep∧es.toList=xs.map (entryOfKey (hZ (yC P w)))∧(xs.map (·.1)).Nodup
 | .set S n=>h.SetOf (intKind P w) a S n
 | .ins C dx fs=>H dx=some (.own a)∧fs.length≤1000∧dx≠a∧h.get? a=some (eV C dx)∧
   ∃mA,h.Ns1 dx mA∧(∀f,ux (fs.lookup f) (mA f))∧PySem.Within mA (fs.map (·.1))
 | .own _=>∃o,h.get? a=some o
 | .xd fs=>∃mA,h.Ns1 a mA∧∀f,ux (fs.lookup f) (mA f)
 | .rng lo hi=>∃t u v,h.get? a=some {cls:=.type "range",data:=.fields #[.int lo t,.int hi u,.int 1 v]}
 | .frz o u=>h.get? a=some o∧xX H h a u
 | .tbl qs=>∃ps:Array Value,h.get? a=some {cls:=.none,data:=.fields ps}∧ia ps.toList∧∀pos q,(pos,q)∈qs→
   eW pos ps.toList=none∨∃c o u vs t,eW pos ps.toList=some (.ref c)∧H c=some (.frz o u)∧o.data= .fields vs∧vs[1]? =some (.str q t)
 | .cel v=>∃u,h.IsCell a u∧∀x,v=some x→∃y,u=some y∧RelV x y
 | .met f x=>h.get? a=some (W.methodObj (.ref f) (.ref x))
 | .ext φ=>φ h∧(∃o,h.get? a=some o)∧∀h1 h2:Heap,φ h1→(∀o,h1.get? a=some o→h2.get? a=some o)→φ h2
def HOk(H:Hp)(h:Heap):Prop:=∀a o,H a=some o→xX P w H h a o
end
section
variable {P:ak} {w:World} {H H':Hp} {h h':Heap} {a:Addr} {o:HO}
def xp4:HO→Prop
 | .tup _=>True
 | .frz _ _=>True
 |_=>False
def Fix:HO→Prop
 | .tup _=>True
 | .frz _ _=>True
 | .tbl _=>True
 | .cel _=>True
 |_=>False
theorem xX.lt(x:xX P w H h a o):a<h.objs.size:=by
 cases o with
 |lst xs=>obtain⟨_,_,_,_,e⟩:=x;exact aw e
 |tup xs=>obtain⟨_,_,_,p⟩:=x;exact p.lt
 |dK kvs=>obtain⟨_,_,_,_,o,_,_,e,_⟩:=x;exact aw e
 |dT kvs=>obtain⟨_,_,_,_,o,_,_,e,_⟩:=x;exact aw e
 |set S n=>obtain⟨o,_,_,_,e,_⟩:=x;exact aw e
 |ins C dx fs=>obtain⟨_,_,_,e,_⟩:=x;exact aw e
 |own y=>obtain⟨_,e⟩:=x;exact aw e
 |xd fs=>obtain⟨_,⟨_,_,_,e,_⟩,_⟩:=x;exact aw e
 |rng lo hi=>obtain⟨_,_,_,e⟩:=x;exact aw e
 |frz ob u=>obtain⟨e,_⟩:=x;exact aw e
 |tbl qs=>obtain⟨_,e,_⟩:=x;exact aw e
 |cel v=>obtain⟨_,⟨_,e,_⟩,_⟩:=x;exact aw e
 |met f y=>exact aw (show h.get? a=some _ from x)
 |ext φ=>obtain⟨_,⟨_,e⟩,_⟩:=x;exact aw e
theorem Paired.mapP{α β:Type}{F G:α→β→Prop}:∀{l₁:List α} {l₂:List β},Paired F l₁ l₂→(∀a b,F a b→G a b)→Paired G l₁ l₂
 |_,_,.nil,_=>.nil
 |_,_,.cons r t,f=>.cons (f _ _ r) (Paired.mapP t f)
theorem Paired.imp'{α β:Type}{F G:α→β→Prop}(f:∀a b,F a b→G a b){l₁:List α}{l₂:List β}(r:Paired F l₁ l₂):Paired G l₁ l₂:=Paired.mapP r f
theorem xX.stay(x:xX P w H h a o)(k:∀b u,(b=a∨H b=some (.own a))→h.get? b=some u→h'.get? b=some u)
  (ho:∀b,H b=some (.own a)→H' b=some (.own a)) (ht:∀b u,H b=some u→xp4 u→H' b=some u):xX P w H' h' a o:=by
 induction o with
 |lst xs=>obtain⟨z,its,n,r,e⟩:=x;exact⟨z,its,n,r,k _ _ (.inl rfl) e⟩
 |tup xs=>obtain⟨z,its,r,ob,e,c⟩:=x;exact⟨z,its,r,ob,k _ _ (.inl rfl) e,c⟩
 |dK kvs=>obtain⟨z,y,vs,r,ob,es,ep,e,c⟩:=x;exact⟨z,y,vs,r,ob,es,ep,k _ _ (.inl rfl) e,c⟩
 |dT kvs=>
  obtain⟨z,y,xs,r,ob,es,ep,e,c⟩:=x;exact⟨z,y,xs,Paired.mapP r fun p q z=>⟨z.1,ht _ _ z.2.1 trivial,z.2.2⟩,ob,es,ep,k _ _ (.inl rfl) e,c⟩
 |set S n=>obtain⟨ob,es,ep,t,e,c⟩:=x;exact⟨ob,es,ep,t,k _ _ (.inl rfl) e,c⟩
 |ins C dx fs=>
  obtain⟨d,z,ne,e,mA,⟨od,es,ep,e2,c⟩,r⟩:=x;exact⟨ho _ d,z,ne,k _ _ (.inl rfl) e,mA,⟨od,es,ep,k _ _ (.inr d) e2,c⟩,r⟩
 |own y=>obtain⟨ob,e⟩:=x;exact⟨ob,k _ _ (.inl rfl) e⟩
 |xd fs=>obtain⟨mA,⟨od,es,ep,e,c⟩,r⟩:=x;exact⟨mA,⟨od,es,ep,k _ _ (.inl rfl) e,c⟩,r⟩
 |rng lo hi=>obtain⟨t,u,v,e⟩:=x;exact⟨t,u,v,k _ _ (.inl rfl) e⟩
 |frz ob u ih=>obtain⟨e,q⟩:=x;exact⟨k _ _ (.inl rfl) e,ih q⟩
 |tbl qs=>
  obtain⟨ps,e,tr,r⟩:=x;refine⟨ps,k _ _ (.inl rfl) e,tr,fun pos q m=>?_⟩;rcases r pos q m with z|⟨c,ob,u,vs,t,z1,z2,z3⟩
  ·exact .inl z
  ·exact .inr ⟨c,ob,u,vs,t,z1,ht _ _ z2 trivial,z3⟩
 |cel v=>obtain⟨u,⟨ob,e,d⟩,r⟩:=x;exact⟨u,⟨ob,k _ _ (.inl rfl) e,d⟩,r⟩
 |met f y=>
  have e:h.get? a=some (W.methodObj (.ref f) (.ref y)):=x;show h'.get? a=some (W.methodObj (.ref f) (.ref y));exact k a _ (.inl rfl) e
 |ext φ=>obtain⟨p,⟨o,e⟩,st⟩:=x;exact⟨st _ _ p fun o q=>k _ _ (.inl rfl) q,⟨o,k _ _ (.inl rfl) e⟩,st⟩
theorem HOk.lt(x:HOk P w H h)(e:H a=some o):a<h.objs.size:=(x a o e).lt
theorem HOk.fresh(x:HOk P w H h)(e:h.objs.size≤a):H a=none:=by
 cases q:H a with
 |none=>rfl
 |some u=>exact absurd (aF (x.lt q) e) (bS _)
theorem HOk.kept(x:HOk P w H h)(k:∀b u,h.get? b=some u→h'.get? b=some u):HOk P w H h':=fun a o e=>
 (x a o e).stay (fun b u _ q=>k b u q) (fun _ q=>q) fun _ _ q _=>q
theorem HOk.laid(x:HOk P w H h)(k:∀b u,h.get? b=some u→h'.get? b=some u)(hp:h.objs.size≤a)(new:xX P w (upd H a o) h' a o):HOk P w (upd H a o) h':=fun b u e=>by
 have hn:=x.fresh hp
 by_cases hb:b=a
 ·subst hb;rw[xm]at e;cases e;exact new
 ·rw[xl hb]at e;exact(x b u e).stay (fun c v _ q=>k c v q) (fun c q=>by rw[xl (xF q hn)];exact q) fun c xs q _=>by rw[xl (xF q hn)];exact q
end
def Rd(H:Hp)(a:Addr)(u:HO):Prop:=H a=some u∨∃o,H a=some (.frz o u)
theorem Rd.ok{P:ak}{w:World}{H:Hp}{h:Heap}{a:Addr}{u:HO}(r:Rd H a u)(x:HOk P w H h):xX P w H h a u:=by
 rcases r with r|⟨o,r⟩
 ·exact x a u r
 ·obtain⟨_,q⟩:=x a _ r;exact q
def Mut:Option HO→Prop
 |some (.lst _)=>True
 |some (.dK _)=>True
 |some (.dT _)=>True
 |some (.set _ _)=>True
 |some (.ins _ _ _)=>True
 |some (.ext _)=>True
 |_=>False
section
variable {P:ak} {w:World} {H:Hp} {h h':Heap} {x e:Addr} {o':HO}
theorem HOk.write(ok:HOk P w H h)(mu:Mut (H x))(he:e=x∨H e=some (.own x))(k:∀b u,b≠e→h.get? b=some u→h'.get? b=some u)(heo:∃u,h'.get? e=some u)
  (new:xX P w (upd H x o') h' x o'):HOk P w (upd H x o') h':=fun b u q=>by
 have nown:∀c y,H c=some (.own y)→c≠x:=fun c y r z=>by subst z;rw[r]at mu;exact mu
 have ntup:∀c u,H c=some u→xp4 u→c≠x:=fun c u r hf z=>by
  subst z;rw[r]at mu;cases u<;> first|exact mu|exact hf
 by_cases hb:b=x
 ·subst hb;rw[xm]at q;cases q;exact new
 ·rw[xl hb]at q
  by_cases hbe:b=e
  ·have q':H b=some (.own x):=by
    rcases he with z|z
    ·exact absurd (hbe.trans z) hb
    ·rw[hbe];exact z
   rw[q]at q';cases q';obtain⟨v,hv⟩:=heo;exact⟨v,by rw[hbe];exact hv⟩
  ·refine(ok b u q).stay (fun c v hc r=>k c v ?_ r) (fun c r=>by rw[xl (nown c b r)];exact r) fun c xs r hf=>by rw[xl (ntup c xs r hf)];exact r
   rcases hc with rfl|hc
   ·exact hbe
   ·rintro rfl;rcases he with z|z
    ·exact nown c b hc z
    ·rw[hc]at z;cases z;exact hb rfl
end
structure Un(fs ex:List Addr)(H H':Hp)(h h':Heap):Prop where
 keep:∀b o,h.get? b=some o→H b=none→b∉fs→b∉ex→h'.get? b=some o
 slot:∀b o,h.get? b=some o→H b=none→b∈fs→b∉ex→∃sl,h'.get? b=some {o with slots:=sl}
 free:∀b o,h.get? b=some o→H b=none→b∉ex→H' b=none
 there:∀b o,h.get? b=some o→b∉ex→∃o',h'.get? b=some o'
 fix:∀b u,H b=some u→Fix u→H' b=some u
section
variable {fs fs' ex ex':List Addr} {H H1 H2:Hp} {h h1 h2 h':Heap} {a x e:Addr} {o:HO}
theorem Un.any(u:Un fs ex H H1 h h1){b:Addr}{ob:Obj}(q:h.get? b=some ob)(n:H b=none)(hx:b∉ex):∃sl,h1.get? b=some {ob with slots:=sl}:=by
 by_cases hb:b∈fs
 ·exact u.slot b ob q n hb hx
 ·exact⟨ob.slots,u.keep b ob q n hb hx⟩
theorem Un.kept(k:∀b u,h.get? b=some u→h'.get? b=some u):Un fs ex H H h h':=
 ⟨fun b ob q _ _ _=>k b ob q,fun b ob q _ _ _=>⟨ob.slots,k b ob q⟩,fun _ _ _ n _=>n,fun b ob q _=>⟨ob,k b ob q⟩,fun _ _ q _=>q⟩
theorem Un.refl:Un fs ex H H h h:=Un.kept fun _ _ q=>q
theorem Un.laid(k:∀b u,h.get? b=some u→h'.get? b=some u)(hp:h.objs.size≤a)(hn:H a=none):Un fs ex H (upd H a o) h h' where
 keep:=fun b u q _ _ _=>k b u q
 slot:=fun b u q _ _ _=>⟨u.slots,k b u q⟩
 free:=fun b u q n _=>by rw[xl (aG (aF (aw q) hp))];exact n
 there:=fun b u q _=>⟨u,k b u q⟩
 fix:=fun b u q _=>by rw[xl (xF q hn)];exact q
theorem Un.write(mu:Mut (H x))(he:e=x∨H e=some (.own x))(k:∀b u,b≠e→h.get? b=some u→h'.get? b=some u)(heo:∃u,h'.get? e=some u):Un fs ex H (upd H x o) h h':=by
 have hx:∀b,H b=none→b≠x:=fun b n z=>by subst z;rw[n]at mu;exact mu
 have hb:∀b,H b=none→b≠e:=fun b n z=>by
  subst z;rcases he with r|r
  ·exact hx b n r
  ·rw[n]at r;cases r
 have hm:∀b u,H b=some u→¬Mut (some u)→b≠x:=fun b u q nm z=>by subst z;rw[q]at mu;exact nm mu
 refine⟨fun b u q n _ _=>k b u (hb b n) q,fun b u q n _ _=>⟨u.slots,k b u (hb b n) q⟩,fun b u q n _=>by rw[xl (hx b n)];exact n,fun b u q _=>?_,
  fun b u q hf=>by rw[xl (hm b _ q fun z=>by cases u<;> first|exact z|exact hf)];exact q⟩
 by_cases hbe:b=e
 ·subst hbe;exact heo
 ·exact⟨u,k b u hbe q⟩
end
def trk(h:Heap)(H:Hp):List Addr:=(dN h.objs.size).filter fun a=>(H a).isSome
def xcR(h:Heap)(H:Hp):Heap:=W.hideAll h (trk h H)
theorem xl8(h:Heap)(H:Hp):(xcR h H).objs.size=h.objs.size:=W.hideAll_size _ _
theorem xng{h:Heap}{H:Hp}{b:Addr}{o:Obj}(e:h.get? b=some o)(n:H b=none):(xcR h H).get? b=some o:=
 W.hideAll_get _ e fun hm=>by
  have q:(H b).isSome=true:=(fH.mp hm).2;rw[n]at q;simp at q
theorem xoC{h:Heap}{H:Hp}{b:Addr}{o:Obj}(e:(xcR h H).get? b=some o):h.get? b=some o∧H b=none:=by
 have e':h.get? b=some o:=W.of_hideAll (trk h H) e;refine⟨e',?_⟩;cases q:H b with
 |none=>rfl
 |some x=>
  have hm:b∈trk h H:=fH.mpr ⟨d9.mpr (aw e'),by simp[q]⟩;have z:(xcR h H).get? b=none:=W.hideAll_none (trk h H) hm;rw[z]at e;cases e
end L2
namespace L2
open PySem PySem.Spec PyProof.Rows
structure Mod(K:ag)(mg:Str→Option Value)(base:Heap):Prop where
 kin:K.In base
 glob:base.Ns bf mg
 blt:∃mb,base.Ns cm mb∧∀x:Str,x≠"__name__"→mb x=bB x
 nolimit:base.NoLimit
 bm:∃b o,mg "__builtins__"=some (.ref b)∧b≠cm∧base.get? b=some o∧o.cls= .type "module"∧o.dict=some cm∧o.data= .plain
structure Cx where
 prog:ak
 w:World
 K:ag
 mg:Str→Option Value
 base:Heap
 A:aE
 N:List Str
 s₀:aa
 H₀:Hp
 env:Env
 outer:List Env
 stack:List Env
 ex:List Addr
 fn:Str→Bool
 calm:Bool
 pn:List (Addr×Obj)
 xe:Value→aa→Prop
 cp:Str→Bool
def frs(l:List Env):List Addr:=l.filterMap (·.frame)
abbrev Cx.fs(X:Cx):List Addr:=frs X.outer
def Vis(sc:Scope)(x:Str):Prop:=sc.names.lookup x=some .local∨sc.names.lookup x=some .cell∨sc.names.lookup x=some .free
def Loc(sc:Scope)(x:Str):Prop:=sc.names.lookup x=some .local∨sc.names.lookup x=some .cell
def Look(env:Env)(h:Heap)(m:Str→Option Value)(x:Str)(u:Value):Prop:=
 (env.kindOf x=some .local∧m x=some u)∨((env.kindOf x=some .cell∨env.kindOf x=some .free)∧∃c,env.cells.lookup x=some c∧h.IsCell c (some u))
structure Cx.Ok(X:Cx):Prop where
 mod:Mod X.K X.mg X.base
 kind:X.env.scope.kind= .function
 glob:X.env.globals=bf
 blt:X.env.builtins=cm
 above:X.s₀.heap.objs.size≤X.env.locals
 inj:∀x y c,X.env.cells.lookup x=some c→X.env.cells.lookup y=some c→x=y
 has:∀x,(X.env.kindOf x=some .cell∨X.env.kindOf x=some .free)→∃c,X.env.cells.lookup x=some c
 cab:∀x c,X.fn x=true→X.env.cells.lookup x=some c→X.s₀.heap.objs.size≤c
 hd:X.calm=true→X.A.handled=none
 frames:X.A.frames=some X.stack
 stk:X.stack=X.outer∨(X.stack=X.env::X.outer∧X.env.frame=some X.env.locals)
 exf:∀b∈X.ex,b≠X.env.locals∧∀x c,X.env.cells.lookup x=some c→c≠b
 bs:∀b o,X.base.get? b=some o→X.s₀.heap.get? b=some o∧X.H₀ b=none
 bsz:X.base.objs.size≤X.s₀.heap.objs.size
 noex:∀b o,X.base.get? b=some o→b∉X.ex
 exfs:∀b∈X.ex,b∉X.fs
 funs:X.s₀.heap.FunFrames X.base X.outer
 frf:∀b∈X.fs,X.H₀ b=none
 cab2:∀x c,X.cp x=true→X.env.cells.lookup x=some c→X.s₀.heap.objs.size≤c
 hz:∀b,X.s₀.heap.objs.size≤b→X.H₀ b=none
structure Inv(X:Cx)(pins:List (Addr×Obj))(σ:List (Option V))(H:Hp)(s:aa):Prop where
 ok:X.Ok
 os:s.os=X.s₀.os
 bare:eN s.gens
 base:Un X.fs X.ex X.H₀ H X.s₀.heap s.heap
 loc:∃m,s.heap.Ns X.env.locals m∧∀(i:Nat) (x:Str) (v:V),X.N[i]? =some x→σ[i]? =some (some v)→Vis X.env.scope x→∃u,RelV v u∧Look X.env s.heap m x u
 cell:∀x c,X.env.cells.lookup x=some c→∃v,s.heap.IsCell c v
 free:H X.env.locals=none
 freeC:∀x c,X.env.cells.lookup x=some c→H c=none∨(X.fn x=false∧∃o,H c=some (.cel o)∧(o=none→∀(i:Nat) v,X.N[i]? =some x→(X.env.kindOf x=some .cell∨X.env.kindOf x=some .free)→σ[i]?≠some (some v)))
 pin:∀p∈X.pn++pins,s.heap.get? p.1=some p.2∧H p.1=none∧p.1≠X.env.locals∧p.1∉X.fs∧∀v,p.2.data≠.cell v
 hok:HOk X.prog X.w H s.heap
 len:σ.length=X.N.length
section
variable {X:Cx} {pins:List (Addr×Obj)} {σ:List (Option V)} {H H':Hp} {s:aa} {h':Heap}
theorem Cx.Ok.nofr(ok:X.Ok){b:Addr}{o:Obj}(e:X.base.get? b=some o):b∉X.fs:=fun hb=>by
 have:=(ok.funs.mem hb).1;rw[e]at this;cases this
theorem Inv.bs(I:Inv X pins σ H s):∀b o,X.base.get? b=some o→s.heap.get? b=some o∧H b=none:=fun b o e=>
 ⟨I.base.keep b o (I.ok.bs b o e).1 (I.ok.bs b o e).2 (I.ok.nofr e) (I.ok.noex b o e),I.base.free b o (I.ok.bs b o e).1 (I.ok.bs b o e).2 (I.ok.noex b o e)⟩
theorem Inv.bk(I:Inv X pins σ H s):∀b o,X.base.get? b=some o→s.heap.get? b=some o:=fun b o e=>(I.bs b o e).1
theorem Inv.mod(I:Inv X pins σ H s):Mod X.K X.mg X.base:=I.ok.mod
theorem Inv.kIn(I:Inv X pins σ H s):X.K.In s.heap:=I.ok.mod.kin.keeps I.bk
theorem Inv.lt(I:Inv X pins σ H s):X.env.locals<s.heap.objs.size:=let⟨_,hn,_⟩:=I.loc;hn.lt
theorem Inv.sz(I:Inv X pins σ H s):X.s₀.heap.objs.size≤s.heap.objs.size:=bw I.ok.above (fJ I.lt)
theorem Inv.nofs(I:Inv X pins σ H s){a:Addr}(h:s.heap.objs.size≤a):a∉X.fs:=fun hb=>by
 obtain⟨_,o,ho,_⟩:=I.ok.funs.mem hb;exact absurd (aF (aw ho) (bw I.sz h)) (bS _)
theorem Inv.cne(I:Inv X pins σ H s):∀x c,X.env.cells.lookup x=some c→c≠X.env.locals:=fun x c e z=>by
 obtain⟨v,o,ho,hd⟩:=I.cell x c e;obtain⟨m,⟨o',es,ep,ho',hd',_⟩,_⟩:=I.loc;rw[z,ho']at ho;cases ho;rw[hd']at hd;cases hd
theorem Inv.funs(I:Inv X pins σ H s):s.heap.FunFrames X.base X.outer:=by
 have all:∀(l:List Env),(∀b∈frs l,b∈X.fs)→X.s₀.heap.FunFrames X.base l→s.heap.FunFrames X.base l:=by
  intro l
  induction l with
  |nil=>intro _ _;trivial
  |cons env r ih=>
   intro hs hl;obtain⟨hk,⟨L,o,hf,hn,ho,hd⟩,hr⟩:=hl;have hL:L∈X.fs:=hs L (by unfold frs;rw[eP,hf];exact ba);obtain⟨sl,e⟩:=I.base.slot L o ho (I.ok.frf L hL) hL fun z=>I.ok.exfs L z hL;exact⟨hk,⟨L,_,hf,hn,e,hd⟩,ih (fun b hb=>hs b (by unfold frs;rw[eP,hf];exact aS _ hb)) hr⟩
 exact all X.outer (fun _ hb=>hb) I.ok.funs
theorem Inv.stack(I:Inv X pins σ H s):s.heap.FunFrames X.base X.stack:=by
 rcases I.ok.stk with e|⟨e,hf⟩
 ·rw[e];exact I.funs
 ·rw[e];obtain⟨m,hn,_⟩:=I.loc;refine .cons (by rw[I.ok.kind];decide) hf hn ?_ I.funs;exact dq (bw I.ok.bsz I.ok.above)
theorem Inv.stkSub(I:Inv X pins σ H s):∀b∈frs X.stack,b∈X.env.locals::X.fs:=fun b hb=>by
 rcases I.ok.stk with e|⟨e,hf⟩
 ·rw[e]at hb;exact aS _ hb
 ·rw[e]at hb;unfold frs at hb;rw[eP,hf]at hb;exact hb
theorem Inv.stkFree(I:Inv X pins σ H s):∀b∈frs X.stack,H b=none:=fun b hb=>by
 rcases av.mp (I.stkSub b hb)with e|hb
 ·rw[e];exact I.free
 ·obtain⟨_,o,ho,_⟩:=I.ok.funs.mem hb;exact I.base.free b o ho (I.ok.frf b hb) fun z=>I.ok.exfs b z hb
theorem Inv.step{g':Array GenState}{t':Nat}{d':Drawn}{ch:List Addr}(I:Inv X pins σ H s)
  (hch:∀b∈ch,(b∈X.ex∨X.s₀.heap.objs.size≤b)∧b≠X.env.locals∧(∀x c,X.env.cells.lookup x=some c→c≠b)∧∀p∈X.pn++pins,p.1≠b)
  (keep:∀b o,b≠X.env.locals→b∉X.fs→b∉ch→s.heap.get? b=some o→H b=none→h'.get? b=some o)
  (slot:∀b o,b≠X.env.locals→b∈X.fs→b∉ch→s.heap.get? b=some o→H b=none→∃sl,h'.get? b=some {o with slots:=sl}) (free:∀b o,b∉ch→s.heap.get? b=some o→H b=none→H' b=none)
  (there:∀b o,b∉ch→s.heap.get? b=some o→∃o',h'.get? b=some o')
  (fix:∀b u,H b=some u→Fix u→H' b=some u)
  (ns:∀m,s.heap.Ns X.env.locals m→h'.Ns X.env.locals m) (hok:HOk X.prog X.w H' h') (hg:eN g'):
  Inv X pins σ H' {s with heap:=h',gens:=g',drawn:=d',toks:=t'}:=by
 have neL:∀b o,X.s₀.heap.get? b=some o→b≠X.env.locals:=fun b o e=>aG (aF (aw e) I.ok.above);have neC:∀b o,X.s₀.heap.get? b=some o→b∉X.ex→b∉ch:=fun b o e hx hb=>by
  rcases(hch b hb).1 with z|z
  ·exact hx z
  ·exact absurd (aF (aw e) z) (bS _)
 have cellK:∀x c,X.env.cells.lookup x=some c→H c=none→∀v,s.heap.IsCell c v→h'.IsCell c v:=fun x c e hn v ⟨o,ho,hd⟩=>by
  have nch:c∉ch:=fun z=>(hch c z).2.2.1 x c e rfl
  by_cases hc:c∈X.fs
  ·obtain⟨sl,q⟩:=slot c o (I.cne x c e) hc nch ho hn;exact⟨_,q,hd⟩
  ·exact⟨o,keep c o (I.cne x c e) hc nch ho hn,hd⟩
 refine⟨I.ok,I.os,hg,⟨fun b o e n hb hx=>?_,fun b o e n hb hx=>?_,fun b o e n hx=>?_,fun b o e hx=>?_,fun b u e f=>fix b u (I.base.fix b u e f) f⟩,?_,fun x c e=>?_,?_,fun x c e=>?_,fun p hp=>?_,hok,I.len⟩
 ·exact keep b o (neL b o e) hb (neC b o e hx) (I.base.keep b o e n hb hx) (I.base.free b o e n hx)
 ·obtain⟨sl,e1⟩:=I.base.slot b o e n hb hx;obtain⟨sl',e2⟩:=slot b _ (neL b o e) hb (neC b o e hx) e1 (I.base.free b o e n hx);exact⟨sl',e2⟩
 ·obtain⟨o',e1⟩:=I.base.there b o e hx;exact free b o' (neC b o e hx) e1 (I.base.free b o e n hx)
 ·obtain⟨o',e1⟩:=I.base.there b o e hx;exact there b o' (neC b o e hx) e1
 ·obtain⟨m,hn,hl⟩:=I.loc;refine⟨m,ns m hn,fun i x v e1 e2 e3=>?_⟩;obtain⟨u,r,l⟩:=hl i x v e1 e2 e3;rcases l with l|⟨k,c,e,z⟩
  ·exact⟨u,r,.inl l⟩
  ·rcases I.freeC x c e with hn'|⟨_,o,ho,hno⟩
   ·exact⟨u,r,.inr ⟨k,c,e,cellK x c e hn' _ z⟩⟩
   ·cases o with
    |none=>exact absurd e2 (hno rfl i v e1 k)
    |some v'=>
     obtain⟨y,hy,hr⟩:=I.hok c _ ho;obtain⟨y',hy',hr'⟩:=hok c _ (fix c _ ho trivial);obtain⟨y2,rfl,r2⟩:=hr v' rfl;obtain⟨y3,rfl,r3⟩:=hr' v' rfl;have:v=v':=RelV.fn r (by
      obtain⟨o1,q1,q2⟩:=z;obtain⟨o2,q3,q4⟩:=hy;rw[q1]at q3;cases q3;rw[q2]at q4;cases q4;exact r2)
     subst this;exact⟨y3,r3,.inr ⟨k,c,e,hy'⟩⟩
 ·rcases I.freeC x c e with hn'|⟨_,o,ho,_⟩
  ·obtain⟨v,z⟩:=I.cell x c e;exact⟨v,cellK x c e hn' v z⟩
  ·obtain⟨y',hy',_⟩:=hok c _ (fix c _ ho trivial);exact⟨y',hy'⟩
 ·obtain⟨m,⟨o,_,_,ho,_⟩,_⟩:=I.loc;exact free _ o (fun z=>(hch _ z).2.1 rfl) ho I.free
 ·rcases I.freeC x c e with hn'|⟨hf,o,ho,hno⟩
  ·obtain⟨v,o,ho,hd⟩:=I.cell x c e;exact .inl (free c o (fun z=>(hch c z).2.2.1 x c e rfl) ho hn')
  ·exact .inr ⟨hf,o,fix c _ ho trivial,hno⟩
 ·obtain⟨e,n,ne,nf,d⟩:=I.pin p hp;have nch:p.1∉ch:=fun z=>(hch p.1 z).2.2.2 p hp rfl;exact⟨keep p.1 p.2 ne nf nch e n,free p.1 p.2 nch e n,ne,nf,d⟩
theorem Inv.un{t':Nat}(I:Inv X pins σ H s)(u:Un X.fs [] H H' s.heap h')(hok:HOk X.prog X.w H' h'):Inv X pins σ H' {s with heap:=h',toks:=t'}:=by
 obtain⟨m,⟨o,es,ep,ho,r⟩,_⟩:=id I.loc;obtain⟨sl,hL⟩:=u.any ho I.free (by simp);exact I.step (g':=s.gens) (d':=s.drawn) (ch:=[]) (fun _ z=>nomatch z) (fun b o _ hb _ e n=>u.keep b o e n hb (by simp)) (fun b o _ hb _ e n=>u.slot b o e n hb (by simp)) (fun b o _ e n=>u.free b o e n (by simp)) (fun b o _ e=>u.there b o e (by simp)) u.fix (fun m' hm=>by
  obtain⟨o',es',ep',ho',r'⟩:=hm;rw[ho]at ho';cases ho';exact⟨_,es',ep',hL,r'⟩) hok I.bare
theorem Inv.call{g':Array GenState}{t':Nat}{d':Drawn}{ch:List Addr}(I:Inv X pins σ H s)(u:Un (frs X.stack) ch H H' s.heap h')(hok:HOk X.prog X.w H' h')(hg:eN g')
  (hch:∀b∈ch,(b∈X.ex∨X.s₀.heap.objs.size≤b)∧b≠X.env.locals∧(∀x c,X.env.cells.lookup x=some c→c≠b)∧∀p∈X.pn++pins,p.1≠b):
  Inv X pins σ H' {s with heap:=h',gens:=g',drawn:=d',toks:=t'}:=by
 obtain⟨m,⟨o,es,ep,ho,r⟩,_⟩:=id I.loc;obtain⟨sl,hL⟩:=u.any ho I.free fun z=>(hch _ z).2.1 rfl;exact I.step (ch:=ch) hch (fun b o hL hb hc e n=>u.keep b o e n (fun z=>(av.mp (I.stkSub b z)).elim hL hb) hc) (fun b o _ _ hc e n=>u.any e n hc) (fun b o hc e n=>u.free b o e n hc) (fun b o hc e=>u.there b o e hc) u.fix (fun m' hm=>by
  obtain⟨o',es',ep',ho',r'⟩:=hm;rw[ho]at ho';cases ho';exact⟨_,es',ep',hL,r'⟩) hok hg
theorem Inv.turned{t':Nat}{it:Addr}(I:Inv X pins σ H s)(k:∀b o,b≠it→s.heap.get? b=some o→h'.get? b=some o)(hn:H it=none)(hL:it≠X.env.locals)
  (h1:it∈X.ex∨X.s₀.heap.objs.size≤it) (h2:∀x c,X.env.cells.lookup x=some c→c≠it) (h3:∀p∈X.pn++pins,p.1≠it):Inv X pins σ H {s with heap:=h',toks:=t'}:=by
 have nit:∀b u,H b=some u→b≠it:=fun b u e z=>by rw[z,hn]at e;cases e
 refine I.step (g':=s.gens) (d':=s.drawn) (ch:=[it]) (fun b hb=>?_) (fun b o _ _ hc e _=>k b o (fun z=>hc (by simp[z])) e) (fun b o _ _ hc e _=>⟨o.slots,k b o (fun z=>hc (by simp[z])) e⟩) (fun _ _ _ _ n=>n)
  (fun b o hc e=>⟨o,k b o (fun z=>hc (by simp[z])) e⟩) (fun _ _ e _=>e) (fun m hm=>?_) (fun b u e=>?_) I.bare
 ·have e:b=it:=by simpa using hb
  subst e;exact⟨h1,hL,h2,h3⟩
 ·obtain⟨o,es,ep,ho,r⟩:=hm;exact⟨o,es,ep,k _ o (au hL) ho,r⟩
 ·refine(I.hok b u e).stay (fun c v hc q=>k c v ?_ q) (fun _ q=>q) fun _ _ q _=>q;rcases hc with z|z
  ·rw[z];exact nit b u e
  ·exact nit c _ z
theorem Inv.tok(I:Inv X pins σ H s)(t:Nat):Inv X pins σ H {s with toks:=t}:=I.un (h':=s.heap) (t':=t) Un.refl I.hok
theorem Inv.kept{t':Nat}(I:Inv X pins σ H s)(k:∀b u,s.heap.get? b=some u→h'.get? b=some u):Inv X pins σ H {s with heap:=h',toks:=t'}:=I.un (Un.kept k) (I.hok.kept k)
theorem Inv.laid{a:Addr}{o:HO}{t':Nat}(I:Inv X pins σ H s)(k:∀b u,s.heap.get? b=some u→h'.get? b=some u)(hp:s.heap.objs.size≤a)(new:xX X.prog X.w (upd H a o) h' a o):
  Inv X pins σ (upd H a o) {s with heap:=h',toks:=t'}:=I.un (Un.laid k hp (I.hok.fresh hp)) (I.hok.laid k hp new)
theorem Inv.write{x e:Addr}{o:HO}{t':Nat}(I:Inv X pins σ H s)(mu:Mut (H x))(he:e=x∨H e=some (.own x))(k:∀b u,b≠e→s.heap.get? b=some u→h'.get? b=some u)(heo:∃u,h'.get? e=some u)
  (new:xX X.prog X.w (upd H x o) h' x o):Inv X pins σ (upd H x o) {s with heap:=h',toks:=t'}:=I.un (Un.write mu he k heo) (I.hok.write mu he k heo new)
theorem Inv.weak{σ':List (Option V)}(I:Inv X pins σ H s)(hl:σ'.length=σ.length)(w:∀(i:Nat) v,σ'[i]? =some (some v)→σ[i]? =some (some v)):Inv X pins σ' H s:=
 ⟨I.ok,I.os,I.bare,I.base,let⟨m,hn,hl'⟩:=I.loc;⟨m,hn,fun i x v e1 e2 e3=>hl' i x v e1 (w i v e2) e3⟩,I.cell,I.free,fun x c e=>(I.freeC x c e).imp id fun⟨hf,o,ho,hno⟩=>⟨hf,o,ho,fun z i v e1 k e2=>hno z i v e1 k (w i v e2)⟩,I.pin,I.hok,hl.trans I.len⟩
theorem Inv.pins_of{pins':List (Addr×Obj)}(I:Inv X pins σ H s)(h:∀p∈pins',s.heap.get? p.1=some p.2∧H p.1=none∧p.1≠X.env.locals∧p.1∉X.fs∧∀v,p.2.data≠.cell v):Inv X pins' σ H s:=
 ⟨I.ok,I.os,I.bare,I.base,I.loc,I.cell,I.free,I.freeC,fun p hp=>(a7.mp hp).elim (fun z=>I.pin p (aX _ z)) (h p),I.hok,I.len⟩
theorem jP{N:List Str}(hN:N.Nodup){i j:Nat}{x:Str}(a:N[i]? =some x)(b:N[j]? =some x):i=j:=by
 obtain⟨h1,e1⟩:=az.mp a;obtain⟨h2,e2⟩:=az.mp b;exact(List.getElem_inj hN).mp (e1.trans e2.symm)
theorem xhs{M:Model}{A:aE}{E:Value→aa→Prop}{i:Nat}{x:Str}{v:V}{u:Value}{Q:Unit→aa→Prop}(I:Inv X pins σ H s)(hN:X.N.Nodup)(hi:X.N[i]? =some x)(hx:Loc X.env.scope x)(r:RelV v u)
  (h:∀s',Inv X pins (σ.set i (some v)) H s'→(∃a,eX a s.heap s'.heap∧(a=X.env.locals∨X.env.cells.lookup x=some a))→Q () s') (hf:X.fn x=true∨X.env.scope.names.lookup x=some .local:=by first|exact .inl rfl|exact .inr rfl|assumption):wpAny M A (storeName X.env x u) Q E s:=by
 obtain⟨m,hn,hl⟩:=id I.loc;have hcls:(X.env.scope.kind== .class||(X.env.scope.kind== .module&&X.env.locals != X.env.globals))=false:=by rw[I.ok.kind];rfl
 have hiσ:i<σ.length:=by rw[I.len];exact(az.mp hi).1
 have cne:=I.cne;have tracked:∀{a:Addr} {h':Heap},(∃o,s.heap.get? a=some o∧H a=none)→eX a s.heap h'→HOk X.prog X.w H h':=fun{a h'} ha hs b ob e=>by
  obtain⟨_,_,hfree⟩:=ha;refine(I.hok b ob e).stay (fun c w' hc q=>(hs.2 c ?_).trans q) (fun _ q=>q) fun _ _ q _=>q;rintro rfl;rcases hc with rfl|hc
  ·rw[hfree]at e;cases e
  ·rw[hfree]at hc;cases hc
 rcases hx with hk|hk
 ·refine wpAny_storeName_local hk hn (fun h' hn' hs=>?_) hcls;obtain⟨oL,_,_,hoL,_⟩:=id hn;refine h _ ⟨I.ok,I.os,I.bare,⟨fun b o e n hb hx=>?_,fun b o e n hb hx=>?_,I.base.free,fun b o e hx=>?_,I.base.fix⟩,⟨_,hn',fun j y v' e1 e2 e3=>?_⟩,fun y c e=>?_,I.free,fun y c e=>?_,fun p hp=>?_,tracked ⟨oL,hoL,I.free⟩ hs,by simpa using I.len⟩ ⟨_,hs,.inl rfl⟩
  ·exact(hs.2 b (aG (aF (aw e) I.ok.above))).trans (I.base.keep b o e n hb hx)
  ·obtain⟨sl,e1⟩:=I.base.slot b o e n hb hx;exact⟨sl,(hs.2 b (aG (aF (aw e) I.ok.above))).trans e1⟩
  ·obtain⟨o',e1⟩:=I.base.there b o e hx;exact⟨o',(hs.2 b (aG (aF (aw e) I.ok.above))).trans e1⟩
  ·by_cases hj:j=i
   ·subst hj;rw[hi]at e1;cases e1;rw[bP hiσ]at e2;cases e2;exact⟨u,r,.inl ⟨hk,by simp⟩⟩
   ·rw[bA (au hj)]at e2;obtain⟨u',r',q⟩:=hl j y v' e1 e2 e3;refine⟨u',r',?_⟩;rcases q with⟨k,e⟩|⟨k,c,e,z⟩
    ·refine .inl ⟨k,?_⟩;have:y≠x:=fun e=>hj (jP hN e1 (e▸hi));simp[this,e]
    ·exact .inr ⟨k,c,e,z.sameBut hs (cne y c e)⟩
  ·obtain⟨w',z⟩:=I.cell y c e;exact⟨w',z.sameBut hs (cne y c e)⟩
  ·refine(I.freeC y c e).imp id fun⟨hf',o',ho',hno⟩=>⟨hf',o',ho',fun z j v' e1 k e2=>?_⟩
   by_cases hj:j=i
   ·subst hj;rw[hi]at e1;cases e1;have hk':X.env.kindOf x=some .local:=hk;rw[hk']at k;rcases k with k|k<;> cases k
   ·rw[bA (au hj)]at e2;exact hno z j v' e1 k e2
  ·obtain⟨e,n,ne,nf,d⟩:=I.pin p hp;exact⟨(hs.2 p.1 ne).trans e,n,ne,nf,d⟩
 ·have hfn:X.fn x=true:=by
   rcases hf with z|z
   ·exact z
   ·rw[z]at hk;cases hk
  obtain⟨c,hc⟩:=I.ok.has x (.inl hk);have hHc:H c=none:=by
   rcases I.freeC x c hc with z|⟨z,_⟩
   ·exact z
   ·rw[hfn]at z;cases z
  obtain⟨w',z⟩:=I.cell x c hc;refine wpAny_storeName_cell I.ok.kind hk hc z (fun h' hc' hs=>?_);obtain⟨oc,hoc,hocd⟩:=id z;refine h {s with heap:=h'} ⟨I.ok,I.os,I.bare,⟨fun b o e n hb hx=>?_,fun b o e n hb hx=>?_,I.base.free,fun b o e hx=>?_,I.base.fix⟩,⟨m,hn.sameBut hs (au (cne x c hc)),fun j y v' e1 e2 e3=>?_⟩,fun y c' e=>?_,I.free,fun y c' e=>?_,fun p hp=>?_,tracked ⟨oc,hoc,hHc⟩ hs,by simpa using I.len⟩ ⟨c,hs,.inr hc⟩
  ·exact(hs.2 b (aG (aF (aw e) (I.ok.cab x c hfn hc)))).trans (I.base.keep b o e n hb hx)
  ·obtain⟨sl,e1⟩:=I.base.slot b o e n hb hx;exact⟨sl,(hs.2 b (aG (aF (aw e) (I.ok.cab x c hfn hc)))).trans e1⟩
  ·obtain⟨o',e1⟩:=I.base.there b o e hx;exact⟨o',(hs.2 b (aG (aF (aw e) (I.ok.cab x c hfn hc)))).trans e1⟩
  ·by_cases hj:j=i
   ·subst hj;rw[hi]at e1;cases e1;rw[bP hiσ]at e2;cases e2;exact⟨u,r,.inr ⟨.inl hk,c,hc,hc'⟩⟩
   ·rw[bA (au hj)]at e2;obtain⟨u',r',q⟩:=hl j y v' e1 e2 e3;refine⟨u',r',?_⟩;rcases q with q|⟨k,c',e,z'⟩
    ·exact .inl q
    ·refine .inr ⟨k,c',e,z'.sameBut hs ?_⟩;rintro rfl;exact hj (jP hN e1 (I.ok.inj _ _ _ e hc▸hi))
  ·by_cases hcc:c'=c
   ·subst hcc;exact⟨_,hc'⟩
   ·obtain⟨w2,z2⟩:=I.cell y c' e;exact⟨w2,z2.sameBut hs hcc⟩
  ·refine(I.freeC y c' e).imp id fun⟨hf',o',ho',hno⟩=>⟨hf',o',ho',fun z j v' e1 k e2=>?_⟩
   by_cases hj:j=i
   ·subst hj;rw[hi]at e1;cases e1;rw[hfn]at hf';cases hf'
   ·rw[bA (au hj)]at e2;exact hno z j v' e1 k e2
  ·obtain⟨e,n,ne,nf,d⟩:=I.pin p hp;refine⟨(hs.2 p.1 ?_).trans e,n,ne,nf,d⟩;intro q;rw[q,hoc]at e;have q':oc=p.2:=bh e;exact d w' (by rw[←q'];exact hocd)
theorem xa7{M:Model}{A:aE}{E:Value→aa→Prop}{i:Nat}{x:Str}{v:V}{u:Value}{Q:Unit→aa→Prop}(I:Inv X pins σ H s)(hN:X.N.Nodup)(hi:X.N[i]? =some x)(hx:Loc X.env.scope x)(r:RelV v u)
  (h:∀s',Inv X pins (σ.set i (some v)) H s'→Q () s') (hf:X.fn x=true∨X.env.scope.names.lookup x=some .local:=by first|exact .inl rfl|exact .inr rfl|assumption):wpAny M A (storeName X.env x u) Q E s:=
 xhs I hN hi hx r (fun s' I' _=>h s' I') hf
theorem Inv.call'{s':aa}{ch:List Addr}(I:Inv X pins σ H s)(ho:s'.os=s.os)(u:Un (frs X.stack) ch H H' s.heap s'.heap)(hok:HOk X.prog X.w H' s'.heap)(hg:eN s'.gens)
  (hch:∀b∈ch,(b∈X.ex∨X.s₀.heap.objs.size≤b)∧b≠X.env.locals∧(∀x c,X.env.cells.lookup x=some c→c≠b)∧∀p∈X.pn++pins,p.1≠b):Inv X pins σ H' s':=by
 obtain⟨h',g',d',t',o'⟩:=s';have e:o'=s.os:=ho;subst e;exact I.call (g':=g') (t':=t') (d':=d') u hok hg hch
end
abbrev XK:=Value→Option Addr→Hp→Prop
abbrev St:=List (Option V)
abbrev VK:=V→Hp→Prop
abbrev TE:=St→Hp→VK→Prop
abbrev TT:=St→Hp→(Bool→Hp→Prop)→Prop
abbrev TA:=St→Hp→(List V→Hp→Prop)→Prop
structure Ends where
 nx:St→Hp→Prop
 rt:VK
 bk:St→Hp→Prop:=fun _ _=>False
 ct:St→Hp→Prop:=fun _ _=>False
abbrev TS:=Ends→St→Hp→Prop
def EP(X:Cx)(pins:List (Addr×Obj))(σ:St)(Q:VK)(u:Value)(s':aa):Prop:=∃v H',Inv X pins σ H' s'∧RelV v u∧Q v H'
def TP(X:Cx)(pins:List (Addr×Obj))(σ:St)(Q:Bool→Hp→Prop)(b:Bool)(s':aa):Prop:=∃H',Inv X pins σ H' s'∧Q b H'
def AP(X:Cx)(pins:List (Addr×Obj))(σ:St)(Q:List V→Hp→Prop)(us:List Value)(s':aa):Prop:=∃vs H',Inv X pins σ H' s'∧Vals vs us∧Q vs H'
def SP(X:Cx)(pins:List (Addr×Obj))(D:Ends)(f:Flow)(s':aa):Prop:=
 match f with
 | .next=>∃σ' H',Inv X pins σ' H' s'∧D.nx σ' H'
 | .brk=>∃σ' H',Inv X pins σ' H' s'∧D.bk σ' H'
 | .cont=>∃σ' H',Inv X pins σ' H' s'∧D.ct σ' H'
 | .ret u=>∃v σ' H',Inv X pins σ' H' s'∧RelV v u∧D.rt v H'
def PE(X:Cx)(e:Expr)(t:TE):Prop:=
 ∀(pins:List (Addr×Obj)) (s:aa) (σ:St) (H:Hp) (Q:VK),Inv X pins σ H s→t σ H Q→wpAny (model X.prog X.w) X.A (eval e X.env) (EP X pins σ Q) X.xe s
def PT(X:Cx)(e:Expr)(t:TT):Prop:=
 ∀(pins:List (Addr×Obj)) (s:aa) (σ:St) (H:Hp) (Q:Bool→Hp→Prop),Inv X pins σ H s→t σ H Q→wpAny (model X.prog X.w) X.A (isTrue e X.env (eval e X.env)) (TP X pins σ Q) X.xe s
def PW(X:Cx)(e:Expr)(t:TT):Prop:=
 ∀(whole:Sem Value) (pins:List (Addr×Obj)) (s:aa) (σ:St) (H:Hp) (Q:Bool→Hp→Prop),Inv X pins σ H s→t σ H Q→wpAny (model X.prog X.w) X.A (isTrue e X.env whole) (TP X pins σ Q) X.xe s
theorem PW.pt{X:Cx}{e:Expr}{t:TT}(h:PW X e t):PT X e t:=h _
def PA(X:Cx)(es:List Expr)(t:TA):Prop:=
 ∀(pos:Pos) (pins:List (Addr×Obj)) (s:aa) (σ:St) (H:Hp) (Q:List V→Hp→Prop),Inv X pins σ H s→t σ H Q→wpAny (model X.prog X.w) X.A (spliced (bC pos (aC es X.env))) (AP X pins σ Q) X.xe s
def PS(X:Cx)(st:Stmt)(t:TS):Prop:=
 ∀(pins:List (Addr×Obj)) (s:aa) (σ:St) (H:Hp) (D:Ends),Inv X pins σ H s→t D σ H→wpAny (model X.prog X.w) X.A (exec st X.env) (SP X pins D) X.xe s
def PSs(X:Cx)(st:List Stmt)(t:TS):Prop:=
 ∀(pins:List (Addr×Obj)) (s:aa) (σ:St) (H:Hp) (D:Ends),Inv X pins σ H s→t D σ H→wpAny (model X.prog X.w) X.A (execs st X.env) (SP X pins D) X.xe s
theorem thn{α:Type}{t:Sem α}{Q Q':α→aa→Prop}{M:Model}{A:aE}{E:Value→aa→Prop}{s:aa}(h:wpAny M A t Q E s)(hQ:∀a s,Q a s→Q' a s):wpAny M A t Q' E s:=aI h hQ fun _ _ x=>x
end L2
namespace L2
open PySem PySem.Spec PyProof.Rows
section
variable {X:Cx}
def xp5(i:Nat):TE:=fun σ H Q=>∃v,σ[i]? =some (some v)∧Q v H
def tC(v:V):TE:=fun _ H Q=>Q v H
theorem xfI{i:Nat}{x:Str}{pos:Pos}(hN:X.N[i]? =some x)(hv:Vis X.env.scope x)(hd:(x==("__debug__":Str))=false:=by decide)(hcd:(x==("__classdict__":Str))=false:=by decide):PE X (.Name x pos) (xp5 i):=by
 intro pins s σ H Q I h;obtain⟨v,e,h⟩:=h;obtain⟨m,hn,hl⟩:=I.loc;obtain⟨u,r,l⟩:=hl i x v hN e hv;have fin:EP X pins σ Q u s:=⟨v,H,I,r,h⟩;rcases l with⟨hk,hm⟩|⟨hk,c,hc,hcell⟩
 ·exact wpAny_Name (wpAny_loadName_local I.ok.kind hk hn hm fin) hd
 ·rcases hk with hk|hk
  ·exact wpAny_Name (wpAny_loadName_cell I.ok.kind hk hc hcell fin) hd
  ·exact wpAny_Name (wpAny_loadName_free I.ok.kind hk hc hcell fin hcd) hd
theorem xj{i j pos}:PE X (.Constant (.int i) j pos) (tC (.int i)):=fun _ _ _ H _ I h=>wpAny_Constant_int ⟨.int i,H,I.tok _,⟨_,rfl⟩,h⟩
theorem ve{b j pos}:PE X (.Constant (.bool b) j pos) (tC (.bl b)):=fun _ _ _ H _ I h=>Constant_bool ⟨.bl b,H,I,rfl,h⟩
theorem zg{j pos}:PE X (.Constant .none j pos) (tC .non):=fun _ _ _ H _ I h=>gq ⟨.non,H,I,rfl,h⟩
theorem xP{x j pos}:PE X (.Constant (.str x) j pos) (tC (.str x)):=fun _ _ _ H _ I h=>Calls.Constant_str ⟨.str x,H,I.tok _,⟨_,rfl⟩,h⟩
def Gl(X:Cx)(x:Str):Prop:=X.env.kindOf x=some .globalImplicit
theorem zw{E:Value→aa→Prop}{pins:List (Addr×Obj)}{s:aa}{σ:St}{H:Hp}{x:Str}{u:Value}{pos:Pos}{Q:Value→aa→Prop}(I:Inv X pins σ H s)(hg:Gl X x)(hm:X.mg x=some u)(h:Q u s)
  (hd:(x==("__debug__":Str))=false:=by decide):wpAny (model X.prog X.w) X.A (eval (.Name x pos) X.env) Q E s:=
 gr I.ok.kind hg (Calls.loadGlobal_global (by rw[I.ok.glob];exact I.mod.glob.keeps I.bk) hm h) hd
theorem uQ{E:Value→aa→Prop}{pins:List (Addr×Obj)}{s:aa}{σ:St}{H:Hp}{x:Str}{u:Value}{pos:Pos}{Q:Value→aa→Prop}(I:Inv X pins σ H s)(hg:Gl X x)(hm:X.mg x=none)(hv:bB x=some u)(h:Q u s)
  (hn:x≠"__name__":=by decide) (hd:(x==("__debug__":Str))=false:=by decide):wpAny (model X.prog X.w) X.A (eval (.Name x pos) X.env) Q E s:=by
 obtain⟨mb,h1,h2⟩:=I.mod.blt;exact gr I.ok.kind hg (Calls.loadGlobal_builtin (by rw[I.ok.glob];exact I.mod.glob.keeps I.bk) hm (by rw[I.ok.blt];exact h1.keeps I.bk) ((h2 x hn).trans hv) h) hd
theorem xey{x:Str}{v:V}{u:Value}{pos:Pos}(hg:Gl X x)(hm:X.mg x=some u)(r:RelV v u)(hd:(x==("__debug__":Str))=false:=by decide):PE X (.Name x pos) (tC v):=
 fun _ _ _ H _ I h=>zw I hg hm ⟨v,H,I,r,h⟩ hd
theorem xcy{x:Str}{v:V}{u:Value}{pos:Pos}(hg:Gl X x)(hm:X.mg x=none)(hv:bB x=some u)(r:RelV v u)(hn:x≠"__name__":=by decide)(hd:(x==("__debug__":Str))=false:=by decide):PE X (.Name x pos) (tC v):=
 fun _ _ _ H _ I h=>uQ I hg hm hv ⟨v,H,I,r,h⟩ hn hd
variable {a b:Expr} {ta tb:TE} {pos:Pos}
def PC(X:Cx)(op:CmpOp)(a b:Expr)(t:TE):Prop:=
 ∀(pins:List (Addr×Obj)) (s:aa) (σ:St) (H:Hp) (Q:VK),Inv X pins σ H s→t σ H Q→
  wpAny (model X.prog X.w) X.A (eval a X.env) (fun v s₁=>wpAny (model X.prog X.w) X.A (eval b X.env) (fun u s₂=>wpAny (model X.prog X.w) X.A (bx op v u) (EP X pins σ Q) X.xe s₂) X.xe s₁) X.xe s
theorem xnh(b:Expr){op:CmpOp}(h:op≠.In)(h2:op≠.NotIn):cL op b=false:=by
 have e1:(op==CmpOp.In)=false:=by cases op<;> first|rfl|exact absurd rfl h
 have e2:(op==CmpOp.NotIn)=false:=by cases op<;> first|rfl|exact absurd rfl h2
 cases b<;> simp[cL,e1,e2]
def xrF(ta:TE):TE:=fun σ H Q=>ta σ H fun x H1=>Q (.bl (decide (x= .non))) H1
def xq1(ta:TE):TE:=fun σ H Q=>ta σ H fun x H1=>Q (.bl (!decide (x= .non))) H1
theorem RelV.none_iff{x:V}{v:Value}(r:RelV x v):(v==aU)=decide (x= .non):=by
 cases x with
 |non=>cases r;rfl
 |bl _=>cases r;rfl
 |int _=>obtain⟨t,rfl⟩:=r;rfl
 |str _=>obtain⟨t,rfl⟩:=r;rfl
 |byt _=>obtain⟨t,rfl⟩:=r;rfl
 |flt _=>obtain⟨t,rfl⟩:=r;rfl
 |ref _=>cases r;rfl
 |ty _=>cases r;rfl
theorem xp6{j pos'}(ha:PE X a ta):PC X .Is a (.Constant .none j pos') (xrF ta):=by
 intro pins s σ H Q I h;refine thn (ha pins s σ H _ I h) fun v s1 ⟨x,H1,I1,r1,q1⟩=>?_;exact gq (is_none_gen ⟨.bl _,H1,I1,by rw[r1.none_iff];rfl,q1⟩)
theorem xoD{j pos'}(ha:PE X a ta):PC X .IsNot a (.Constant .none j pos') (xq1 ta):=by
 intro pins s σ H Q I h;refine thn (ha pins s σ H _ I h) fun v s1 ⟨x,H1,I1,r1,q1⟩=>?_;exact gq (isnot_none_gen ⟨.bl _,H1,I1,by rw[r1.none_iff];rfl,q1⟩)
def tB(t:TE):TT:=fun σ H Q=>t σ H fun x H1=>∃c,x= .bl c∧Q c H1
theorem xl9{op:CmpOp}{t:TE}(h:PC X op a b t)(h1:cL op b=false:=by first|exact xnh _ (by decide) (by decide)|rfl):PT X (.Compare a [op] [b] pos) (tB t):=by
 intro pins s σ H Q I hw;refine fD (thn (h pins s σ H _ I hw) fun v s1 h1=>thn h1 fun u s2 h2=>thn h2 fun c s3 ⟨x,H1,I1,r1,q1⟩=>?_) h1;obtain⟨d,rfl,q⟩:=q1;cases r1;exact cb ⟨H1,I1,q⟩
variable {tA tB':TT} {rest:List Expr}
def xrG(t:TT):TT:=fun σ H Q=>t σ H fun c H1=>Q (!c) H1
theorem jQ(ha:PT X a tA):PW X (.BoolOp .And [a] pos) tA:=by
 intro wh pins s σ H Q I h;refine isTrue_and (thn (ha pins s σ H Q I h) fun c s1 e=>?_);cases c with
 |true=>exact isTrue_and_nil e
 |false=>exact e
theorem xa8(ha:PT X a tA):PW X (.BoolOp .Or [a] pos) tA:=by
 intro wh pins s σ H Q I h;refine isTrue_or (thn (ha pins s σ H Q I h) fun c s1 e=>?_);cases c with
 |false=>exact isTrue_or_nil e
 |true=>exact e
theorem xcz(ha:PT X a tA):PT X (.UnaryOp .Not a pos) (xrG tA):=by
 intro pins s σ H Q I h;exact isTrue_not (ha pins s σ H (fun c H1=>Q (!c) H1) I h)
theorem vI{op}{t:TE}(h:PE X a t):PE X (.BoolOp op [a] pos) t:=fun pins s σ H Q I hw=>BoolOp_one (h pins s σ H Q I hw)
end
end L2
namespace L2
open PySem PySem.Spec PyProof.Rows
def SqL(K:ag)(H:Hp)(a:Addr)(xs:List V):Prop:=
 Rd H a (.lst xs)∨
  ∃(o:Obj) (its:Array Value) (n:Nat),K.lookup a=some o∧o.cls= .type "list"∧o.dict=none∧o.data= .seq its n∧its.size≤aN∧Vals xs its.toList
def SqT(K:ag)(H:Hp)(a:Addr)(xs:List V):Prop:=
 Rd H a (.tup xs)∨
  ∃(o:Obj) (its:Array Value) (n:Nat),K.lookup a=some o∧o.cls= .type "tuple"∧o.data= .seq its n∧its.size≤aN∧Vals xs its.toList
def xrH:Value→Option V
 | .none=>some .non
 | .bool b=>some (.bl b)
 | .int i _=>some (.int i)
 | .str x _=>some (.str x)
 | .bytes b _=>some (.byt b)
 | .float b _=>some (.flt b)
 | .ref a=>some (.ref a)
 | .type n=>some (.ty n)
 |_=>none
theorem RelV.abs{x:V}{u:Value}(r:RelV x u):xrH u=some x:=by
 cases x with
 |non=>cases r;rfl
 |bl _=>cases r;rfl
 |int _=>obtain⟨t,rfl⟩:=r;rfl
 |str _=>obtain⟨t,rfl⟩:=r;rfl
 |byt _=>obtain⟨t,rfl⟩:=r;rfl
 |flt _=>obtain⟨t,rfl⟩:=r;rfl
 |ref _=>cases r;rfl
 |ty _=>cases r;rfl
theorem RelV.inj{x y:V}{u:Value}(r:RelV x u)(q:RelV y u):x=y:=bh (r.abs.symm.trans q.abs)
theorem Vals.inj:∀{xs ys:List V} {us:List Value},Vals xs us→Vals ys us→xs=ys
 |_,_,_,.nil,.nil=>rfl
 |_,_,_,.cons r t,.cons r' t'=>by rw[r.inj r',Vals.inj t t']
section
variable {X:Cx} {pins:List (Addr×Obj)} {σ:St} {H:Hp} {s:aa} {a:Addr} {xs ys:List V}
theorem SqL.of{K:ag}(h:H a=some (.lst xs)):SqL K H a xs:=.inl (.inl h)
theorem SqT.of{K:ag}(h:H a=some (.tup xs)):SqT K H a xs:=.inl (.inl h)
theorem Inv.list(I:Inv X pins σ H s)(h:SqL X.K H a xs):∃its:List Value,Vals xs its∧PlainL s.heap a its.toArray∧xs.length≤aN:=by
 rcases h with h|⟨o,its,n,hk,hc,hd,hs,hz,r⟩
 ·obtain⟨z,its,n,r,e⟩:=h.ok I.hok;exact⟨its,r,⟨_,n,e,rfl,rfl,rfl⟩,z⟩
 ·refine⟨its.toList,r,⟨o,n,I.kIn a o hk,hc,hd,by simpa using hs⟩,?_⟩;have e:=r.length;simp only[dF]at e;lia
theorem Inv.tuple(I:Inv X pins σ H s)(h:SqT X.K H a xs):∃its:List Value,Vals xs its∧IsTup s.heap a its.toArray∧xs.length≤aN:=by
 rcases h with h|⟨o,its,n,hk,hc,hs,hz,r⟩
 ·obtain⟨z,its,r,p⟩:=h.ok I.hok;exact⟨its,r,p,z⟩
 ·refine⟨its.toList,r,⟨o,I.kIn a o hk,hc,n,by simpa using hs⟩,?_⟩;have e:=r.length;simp only[dF]at e;lia
theorem Inv.list_inj(I:Inv X pins σ H s)(h:SqL X.K H a xs)(h':SqL X.K H a ys):xs=ys:=by
 obtain⟨its,r,⟨o,n,e,_,_,d⟩,_⟩:=I.list h;obtain⟨its',r',⟨o',n',e',_,_,d'⟩,_⟩:=I.list h';rw[e]at e';cases e';rw[d]at d';injection d' with d1 _;have:its=its':=by simpa using congrArg Array.toList d1
 subst this;exact r.inj r'
theorem Inv.tuple_inj(I:Inv X pins σ H s)(h:SqT X.K H a xs)(h':SqT X.K H a ys):xs=ys:=by
 obtain⟨its,r,⟨o,e,_,n,d⟩,_⟩:=I.tuple h;obtain⟨its',r',⟨o',e',_,n',d'⟩,_⟩:=I.tuple h';rw[e]at e';cases e';rw[d]at d';injection d' with d1 _;have:its=its':=by simpa using congrArg Array.toList d1
 subst this;exact r.inj r'
end
abbrev Cx.wish(X:Cx)(E:Value→aa→Prop):Cx:={X with xe:=E}
abbrev Cx.nox(X:Cx):Cx:=X.wish fun _ _=>False
theorem Cx.Ok.wish{X:Cx}(ok:X.Ok)(E:Value→aa→Prop):(X.wish E).Ok:=
 ⟨ok.mod,ok.kind,ok.glob,ok.blt,ok.above,ok.inj,ok.has,ok.cab,ok.hd,ok.frames,ok.stk,ok.exf,ok.bs,ok.bsz,ok.noex,ok.exfs,ok.funs,ok.frf,ok.cab2,ok.hz⟩
theorem Cx.Ok.unwish{X:Cx}{E:Value→aa→Prop}(ok:(X.wish E).Ok):X.Ok:=
 ⟨ok.mod,ok.kind,ok.glob,ok.blt,ok.above,ok.inj,ok.has,ok.cab,ok.hd,ok.frames,ok.stk,ok.exf,ok.bs,ok.bsz,ok.noex,ok.exfs,ok.funs,ok.frf,ok.cab2,ok.hz⟩
section
variable {X:Cx} {pins:List (Addr×Obj)} {σ:St} {H:Hp} {s:aa} {E:Value→aa→Prop}
theorem Inv.wish(I:Inv X pins σ H s)(E:Value→aa→Prop):Inv (X.wish E) pins σ H s:=⟨I.ok.wish E,I.os,I.bare,I.base,I.loc,I.cell,I.free,I.freeC,I.pin,I.hok,I.len⟩
theorem Inv.unwish(I:Inv (X.wish E) pins σ H s):Inv X pins σ H s:=⟨I.ok.unwish,I.os,I.bare,I.base,I.loc,I.cell,I.free,I.freeC,I.pin,I.hok,I.len⟩
theorem SP.unwish{D:Ends}{f:Flow}{s':aa}(h:SP (X.wish E) pins D f s'):SP X pins D f s':=by
 cases f with
 |next=>obtain⟨σ',H',I,q⟩:=h;exact⟨σ',H',I.unwish,q⟩
 |brk=>obtain⟨σ',H',I,q⟩:=h;exact⟨σ',H',I.unwish,q⟩
 |cont=>obtain⟨σ',H',I,q⟩:=h;exact⟨σ',H',I.unwish,q⟩
 |ret u=>obtain⟨v,σ',H',I,r,q⟩:=h;exact⟨v,σ',H',I.unwish,r,q⟩
theorem PSs.nox{st:List Stmt}{t:TS}(h:PSs X.nox st t):PSs X st t:=fun pins s σ H D I hw=>
 aI (h pins s σ H D (I.wish _) hw) (fun _ _ q=>q.unwish) fun _ _ z=>aV z
end
section
variable {X:Cx} {st:Stmt} {rest:List Stmt} {t u:TS} {e:Expr} {te:TE} {pos:Pos}
def xq2:TS:=fun D σ H=>D.nx σ H
def xrI(t u:TS):TS:=fun D σ H=>t {D with nx:=u D} σ H
theorem xC:PSs X [] xq2:=fun _ _ σ H _ I h=>dO ⟨σ,H,I,h⟩
theorem xg(h1:PS X st t)(h2:PSs X rest u):PSs X (st::rest) (xrI t u):=by
 intro pins s σ H D I h;refine fx (thn (h1 pins s σ H {D with nx:=u D} I h) fun f s1 q=>?_);cases f with
 |next=>
  obtain⟨σ',H',I',q⟩:=q;exact h2 pins s1 σ' H' D I' q
 |ret v=>exact q
 |brk=>exact q
 |cont=>exact q
theorem xk(h1:PS X st t):PSs X [st] t:=by
 intro pins s σ H D I h;refine fx (thn (h1 pins s σ H D I h) fun f s1 q=>?_);cases f with
 |next=>exact dO q
 |ret v=>exact q
 |brk=>exact q
 |cont=>exact q
theorem Inv.quiet{pins:List (Addr×Obj)}{σ:St}{H:Hp}{s:aa}(I:Inv X pins σ H s):interactive X.env=false:=by simp[interactive,I.ok.kind]
def xq3(te:TE):TS:=fun D σ H=>te σ H fun _ H1=>D.nx σ H1
theorem xO(he:PE X e te)(hs:eA e none pos.line X.env=pure false:=by rfl):PS X (.Expr e pos) (xq3 te):=by
 intro pins s σ H D I h;exact wpAny_Expr_any (thn (he pins s σ H _ I h) fun v s1 ⟨x,H1,I1,r1,q1⟩=>⟨σ,H1,I1,q1⟩) I.quiet hs
def xrJ(te:TE):TS:=fun D σ H=>te σ H D.rt
theorem xv(he:PE X e te):PS X (.Return (some e) pos) (xrJ te):=by
 intro pins s σ H D I h;exact wpAny_Return_some (thn (he pins s σ H _ I h) fun v s1 ⟨x,H1,I1,r1,q1⟩=>⟨x,σ,H1,I1,r1,q1⟩)
def xq4:TS:=fun D _ H=>D.rt .non H
theorem xoE:PS X (.Return none pos) xq4:=fun _ _ σ H _ I h=>wpAny_Return_none ⟨.non,σ,H,I,rfl,h⟩
end
abbrev TG:=V→St→Hp→(St→Hp→Prop)→Prop
abbrev TGs:=List V→St→Hp→(St→Hp→Prop)→Prop
def PG(X:Cx)(target:Expr)(t:TG):Prop:=
 ∀(pins:List (Addr×Obj)) (s:aa) (σ:St) (H:Hp) (v:V) (u:Value) (Q:St→Hp→Prop),Inv X pins σ H s→RelV v u→t v σ H Q→
  wpAny (model X.prog X.w) X.A (gf target X.env u) (fun _ s'=>∃σ' H',Inv X pins σ' H' s'∧Q σ' H') X.xe s
def PGs(X:Cx)(ts:List Expr)(t:TGs):Prop:=
 ∀(pins:List (Addr×Obj)) (s:aa) (σ:St) (H:Hp) (vs:List V) (us:List Value) (Q:St→Hp→Prop),Inv X pins σ H s→Vals vs us→t vs σ H Q→
  wpAny (model X.prog X.w) X.A (assignInOrder ((fK ts X.env).map (·.2)) us) (fun _ s'=>∃σ' H',Inv X pins σ' H' s'∧Q σ' H') X.xe s
abbrev xni:=V→V→V→Hp→(Hp→Prop)→Prop
def xnj(X:Cx)(t:xni):Prop:=
 ∀(pins:List (Addr×Obj)) (s:aa) (σ:St) (H:Hp) (o i v:V) (ov iv u:Value) (Q:Hp→Prop),Inv X pins σ H s→RelV o ov→RelV i iv→RelV v u→t o i v H Q→
  wpAny (model X.prog X.w) X.A (setItem ov iv u) (fun _ s'=>∃H',Inv X pins σ H' s'∧Q H') X.xe s
section
variable {X:Cx} {pos:Pos}
def xfJ(i:Nat):TG:=fun v σ H Q=>Q (σ.set i (some v)) H
theorem xK{i:Nat}{x:Str}(hN:X.N.Nodup)(hi:X.N[i]? =some x)(hx:Loc X.env.scope x)(hf:X.fn x=true∨X.env.scope.names.lookup x=some .local:=by first|exact .inl rfl|exact .inr rfl|assumption):PG X (.Name x pos) (xfJ i):=by
 intro pins s σ H v u Q I r h;exact gx (xa7 I hN hi hx r (fun s' I'=>⟨_,H,I',h⟩) hf)
def xrK:TGs:=fun vs σ H Q=>vs=[]∧Q σ H
def xq5(t:TG)(u:TGs):TGs:=fun vs σ H Q=>∃v r,vs=v::r∧t v σ H fun σ' H'=>u r σ' H' Q
theorem vf:PGs X [] xrK:=by
 intro pins s σ H vs us Q I r h;obtain⟨e,h⟩:=h;subst e;cases r;exact assignInOrder_nil ⟨σ,H,I,h⟩
theorem xT{e:Expr}{es:List Expr}{t:TG}{u:TGs}(h1:PG X e t)(h2:PGs X es u)
  (hs:(fK (e::es) X.env).map (·.2)=gf e X.env::(fK es X.env).map (·.2):=by rfl):PGs X (e::es) (xq5 t u):=by
 intro pins s σ H vs us Q I r h;obtain⟨v,vr,e1,h⟩:=h;subst e1;cases r with
 |cons r rr=>
  rw[hs];refine assignInOrder_cons (thn (h1 pins s σ H _ _ _ I r h) fun _ s1 ⟨σ1,H1,I1,q1⟩=>?_);exact h2 pins s1 σ1 H1 _ _ Q I1 rr q1
def xrL(K:ag)(n:Nat)(t:TGs):TG:=fun v σ H Q=>∃a xs,v= .ref a∧SqT K H a xs∧xs.length=n∧t xs σ H Q
theorem jm{es:List Expr}{k:Nat}{t:TGs}{n:Nat}(hc:X.calm=true)(h:PGs X es t)
  (hn:(fK es X.env).length=n:=by rfl) (hst:(fK es X.env).findIdx? (·.1)=none:=by rfl):PG X (.Tuple es k pos) (xrL X.K n t):=by
 intro pins s σ H v u Q I r hw;obtain⟨a,xs,e1,hq,hl,hw⟩:=hw;subst e1;cases r;obtain⟨its,rv,ht,hz⟩:=I.tuple hq;refine assign_Tuple_tuple (I.ok.hd hc) ht (by simp[hn,←hl,rv.length]) hst fun h' hx=>?_;have I1:Inv X pins σ H {s with heap:=h'}:=I.kept (t':=s.toks) fun b o e=>hx b o (aG (aw e)) e;exact h pins _ σ H xs _ Q I1 (by simpa using rv) hw
def xrM(to ti:TE)(t:xni):TG:=fun v σ H Q=>to σ H fun o H1=>ti σ H1 fun i H2=>t o i v H2 fun H3=>Q σ H3
theorem xfK{o i:Expr}{to ti:TE}{t:xni}(ho:PE X o to)(hi:PE X i ti)(hs:xnj X t)
  (ha:∀v,gf (.Subscript o i pos) X.env v=(do
   let ov ←ee [v] (eval o X.env)
   let iv ←ee [v,ov] (eval i X.env)
   fE pos
   ee [v,ov,iv] (setItem ov iv v)
   release [v,ov,iv] []):=by intro _;rfl):PG X (.Subscript o i pos) (xrM to ti t):=by
 intro pins s σ H v u Q I r h;rw[ha];refine af (bz (thn (ho pins s σ H _ I h) fun ov s1 ⟨x,H1,I1,r1,q1⟩=>?_));refine af (bz (thn (hi pins s1 σ H1 _ I1 q1) fun iv s2 ⟨y,H2,I2,r2,q2⟩=>?_));refine af (bT (af (bz (thn (hs pins s2 σ H2 x y v ov iv u _ I2 r1 r2 r q2) fun _ s3 ⟨H3,I3,q3⟩=>?_))));exact wpAny_release ⟨σ,H3,I3,q3⟩
def xff(te:TE)(g:TG):TS:=fun D σ H=>te σ H fun x H1=>g x σ H1 D.nx
theorem xan{tg e:Expr}{te:TE}{g:TG}(he:PE X e te)(hg:PG X tg g)(hs:swapsWithSole [tg] e pos.line X.env=pure false:=by rfl)(hw:swappedStores [tg] e X.env=pure none:=by rfl)
  (h1:(fK [tg] X.env).map (·.2)=[gf tg X.env]:=by rfl):PS X (.Assign [tg] e pos) (xff te g):=by
 intro pins s σ H D I h;refine wpAny_Assign_stores (thn (he pins s σ H _ I h) fun v s1 ⟨x,H1,I1,r1,q1⟩=>?_) hs hw;rw[h1];exact thn (hg pins s1 σ H1 x v _ I1 r1 q1) fun _ s2 q=>q
theorem xE{i:Nat}{x:Str}{e:Expr}{te:TE}{pos':Pos}(hN:X.N.Nodup)(hi:X.N[i]? =some x)(hx:Loc X.env.scope x)(he:PE X e te)(hs:eA e (some (.Name x pos')) pos.line X.env=pure false:=by rfl)(hf:X.fn x=true∨X.env.scope.names.lookup x=some .local:=by first|exact .inl rfl|exact .inr rfl|assumption):
  PS X (.Assign [.Name x pos'] e pos) (xff te (xfJ i)):=by
 intro pins s σ H D I h;refine wpAny_Assign_Name (thn (he pins s σ H _ I h) fun v s1 ⟨y,H1,I1,r1,q1⟩=>?_) hs;exact xa7 I1 hN hi hx r1 (fun s2 I2=>⟨_,H1,I2,q1⟩) hf
end
section
variable {X:Cx} {pos:Pos}
end
structure It where
 go:Nat→Hp→Prop
 yld:Nat→Hp→V→Hp→Prop
 stop:Nat→Hp→Prop
def xb8(X:Cx)(pins:List (Addr×Obj))(H:Hp)(b:Addr):Prop:=
 H b=none∧b≠X.env.locals∧b∉X.fs∧(b∈X.ex∨X.s₀.heap.objs.size≤b)∧(∀x c,X.env.cells.lookup x=some c→c≠b)∧∀p∈X.pn++pins,p.1≠b
theorem Inv.fpOk{X:Cx}{pins:List (Addr×Obj)}{σ:St}{H H':Hp}{s:aa}{b:Addr}(I:Inv X pins σ H s)(hb:s.heap.objs.size≤b)(hn:H' b=none):xb8 X pins H' b:=by
 refine⟨hn,eg (aF I.lt hb),I.nofs hb,.inr (bw I.sz hb),fun x c e z=>?_,fun p hp z=>?_⟩
 ·obtain⟨v,q⟩:=I.cell x c e;exact absurd (aF q.lt (by rw[z];exact hb)) (bS _)
 ·exact absurd (aF (aw (I.pin p hp).1) (by rw[z];exact hb)) (bS _)
structure Turn(P:ak)(w:World)(K:ag)(tg:Expr)(J:It)(fp:List Addr)(it:Addr)(tn:Nat→Heap→Prop):Prop where
 mem:it∈fp
 obj:∀i h,tn i h→∀b∈fp,∃o,h.get? b=some o∧∀v,o.data≠.cell v
 keep:∀i h h',tn i h→(∀b∈fp,∀o,h.get? b=some o→h'.get? b=some o)→tn i h'
 item:∀(X:Cx),X.prog=P→X.w=w→X.K=K→X.calm=true→∀(i:Nat) (pins:List (Addr×Obj)) (s:aa) (σ:St) (H:Hp) (E:Value→aa→Prop),Inv X pins σ H s→(∀b∈fp,xb8 X pins H b)→tn i s.heap→J.go i H→
  wpAny (model P w) X.A (pyNext (.ref it)) (fun r s1=>∃u,r=some u∧
   wpAny (model P w) X.A (fL tg (.ref it) u) (fun _ s2=>∃x H',Inv X pins σ H' s2∧RelV x u∧J.yld i H x H'∧tn (i+1) s2.heap∧∀b∈fp,H' b=none) E s1) E s
 done:∀(X:Cx),X.prog=P→X.w=w→X.K=K→X.calm=true→∀(i:Nat) (pins:List (Addr×Obj)) (s:aa) (σ:St) (H:Hp) (E:Value→aa→Prop),Inv X pins σ H s→(∀b∈fp,xb8 X pins H b)→tn i s.heap→J.stop i H→
  wpAny (model P w) X.A (pyNext (.ref it)) (fun r s1=>r=none∧Inv X pins σ H s1) E s
 self:∀(A:aE) (i:Nat) (s:aa) (Q:Value→aa→Prop) (E:Value→aa→Prop),tn i s.heap→Q (.ref it) s→wpAny (model P w) A (pyIter (.ref it)) Q E s
abbrev TI:=St→Hp→(It→Hp→Prop)→Prop
def PIE(X:Cx)(pins:List (Addr×Obj))(σ:St)(tg:Expr)(R:It→Hp→Prop)(itv:Value)(s2:aa):Prop:=
 ∃(it:Addr) (fp:List Addr) (tn:Nat→Heap→Prop) (J:It) (H':Hp),itv= .ref it∧Inv X pins σ H' s2∧Turn X.prog X.w X.K tg J fp it tn∧tn 0 s2.heap∧(∀b∈fp,xb8 X pins H' b)∧R J H'
def PI(X:Cx)(tg iter:Expr)(wi:TI):Prop:=
 ∀(pins:List (Addr×Obj)) (s:aa) (σ:St) (H:Hp) (R:It→Hp→Prop),Inv X pins σ H s→wi σ H R→
  wpAny (model X.prog X.w) X.A (eval iter X.env) (fun v s1=>wpAny (model X.prog X.w) X.A (pyIter v) (PIE X pins σ tg R) X.xe s1) X.xe s
theorem xio{M:Model}{A:aE}{E:Value→aa→Prop}{s:aa}{tg:Expr}{it:Addr}{u:Value}{o:Obj}{n:String}{vs:Array Value}{Q:Unit→aa→Prop}(ho:s.heap.get? it=some o)(hc:o.cls= .type n)(hd:o.data= .fields vs)
  (hn:["enumerate","zip","dict_itemiterator","dict_reverseitemiterator","odict_iterator","itertools.zip_longest","itertools.pairwise"].contains n=false) (hQ:Q () s):wpAny M A (fL tg (.ref it) u) Q E s:=by
 unfold fL;cases tg<;> first
  |exact ay hQ
  |(cases u<;> first
    |exact ay hQ
    |(refine af (wpAny_load ho ?_)
      rw[hc,hd];show wpAny M A (if (["enumerate","zip","dict_itemiterator","dict_reverseitemiterator","odict_iterator","itertools.zip_longest","itertools.pairwise"].contains n&&vs[0]? ==some (bj _))=true then _ else _) Q E s;rw[if_neg (by intro h;rw[hn,Bool.false_and]at h;cases h)];exact ay hQ))
def Itl(K:ag)(a:Addr):It:=
 ⟨fun i H=>∃xs x,SqL K H a xs∧xs[i]? =some x,fun i H x H'=>H'=H∧∀xs,SqL K H a xs→xs[i]? =some x,fun i H=>∃xs,SqL K H a xs∧xs.length≤i⟩
def Itt(K:ag)(a:Addr):It:=
 ⟨fun i H=>∃xs x,SqT K H a xs∧xs[i]? =some x,fun i H x H'=>H'=H∧∀xs,SqT K H a xs→xs[i]? =some x,fun i H=>∃xs,SqT K H a xs∧xs.length≤i⟩
theorem xma{P:ak}{w:World}{K:ag}{tg:Expr}(a it:Addr):Turn P w K tg (Itl K a) [it] it (fun i h=>h.IsListIter it a i) where
 mem:=by simp
 obj:=fun i h st b hb=>by
  have e:b=it:=by simpa using hb
  subst e;obtain⟨o,e,c,d⟩:=st;exact⟨o,e,fun v z=>by rw[d]at z;cases z⟩
 keep:=fun i h h' st k=>st.at fun o e=>k it (by simp) o e
 item:=by
  intro X hP hw hK hc i pins s σ H E I hf st hg;subst hP hw hK;obtain⟨xs,x,hq,hx⟩:=hg;obtain⟨its,rv,p,hz⟩:=I.list hq;obtain⟨u,hu,ru⟩:=rv.get hx;obtain⟨f0,f1,f2,f3,f4,f5⟩:=hf it (by simp);refine wpAny_pyNext_list_item st p.isList (x:=u) (by simpa using hu) fun h' st' sb=>?_;have I1:Inv X pins σ H {s with heap:=h'}:=I.turned (t':=s.toks) (fun b o hb e=>(sb.2 b hb).trans e) f0 f1 f3 f4 f5;obtain⟨o,e,c,d⟩:=id st';exact⟨u,rfl,xio (s:={s with heap:=h'}) e c d (by decide) ⟨x,H,I1,ru,⟨rfl,fun ys hy=>by rw[I.list_inj hy hq];exact hx⟩,st',fun b hb=>(hf b hb).1⟩⟩
 done:=by
  intro X hP hw hK hc i pins s σ H E I hf st hg;subst hP hw hK;obtain⟨xs,hq,hx⟩:=hg;obtain⟨its,rv,p,hz⟩:=I.list hq;obtain⟨f0,f1,f2,f3,f4,f5⟩:=hf it (by simp);have hl:=rv.length;exact wpAny_pyNext_list_end (I.ok.hd hc) st p.isList (by simp;lia) fun h' eb=>⟨rfl,I.turned (t':=s.toks) (fun b o hb e=>eb b o hb e) f0 f1 f3 f4 f5⟩
 self:=fun _ _ _ _ _ st h=>wpAny_pyIter_listiter st h
theorem xk3{P:ak}{w:World}{K:ag}{tg:Expr}(a it:Addr):Turn P w K tg (Itt K a) [it] it (fun i h=>h.IsTupleIter it a i) where
 mem:=by simp
 obj:=fun i h st b hb=>by
  have e:b=it:=by simpa using hb
  subst e;obtain⟨o,e,c,d⟩:=st;exact⟨o,e,fun v z=>by rw[d]at z;cases z⟩
 keep:=fun i h h' st k=>st.at fun o e=>k it (by simp) o e
 item:=by
  intro X hP hw hK hc i pins s σ H E I hf st hg;subst hP hw hK;obtain⟨xs,x,hq,hx⟩:=hg;obtain⟨its,rv,p,hz⟩:=I.tuple hq;obtain⟨u,hu,ru⟩:=rv.get hx;obtain⟨f0,f1,f2,f3,f4,f5⟩:=hf it (by simp);refine wpAny_pyNext_tuple_item st (show s.heap.IsTuple a its.toArray from p) (x:=u) (by simpa using hu) fun h' st' sb=>?_;have I1:Inv X pins σ H {s with heap:=h'}:=I.turned (t':=s.toks) (fun b o hb e=>(sb.2 b hb).trans e) f0 f1 f3 f4 f5;obtain⟨o,e,c,d⟩:=id st';exact⟨u,rfl,xio (s:={s with heap:=h'}) e c d (by decide) ⟨x,H,I1,ru,⟨rfl,fun ys hy=>by rw[I.tuple_inj hy hq];exact hx⟩,st',fun b hb=>(hf b hb).1⟩⟩
 done:=by
  intro X hP hw hK hc i pins s σ H E I hf st hg;subst hP hw hK;obtain⟨xs,hq,hx⟩:=hg;obtain⟨its,rv,p,hz⟩:=I.tuple hq;obtain⟨f0,f1,f2,f3,f4,f5⟩:=hf it (by simp);have hl:=rv.length;exact wpAny_pyNext_tuple_end (I.ok.hd hc) st (show s.heap.IsTuple a its.toArray from p) (by simp;lia) fun h' eb=>⟨rfl,I.turned (t':=s.toks) (fun b o hb e=>eb b o hb e) f0 f1 f3 f4 f5⟩
 self:=fun _ _ _ _ _ st h=>wpAny_pyIter_tupleiter st h
end L2
namespace L2
open PySem PySem.Spec PyProof.Rows
section
variable {X:Cx} {tg:Expr}
def xq6(K:ag)(tl:TE):TI:=fun σ H R=>tl σ H fun x H1=>∃a,x= .ref a∧(∃xs,SqL K H1 a xs)∧R (Itl K a) H1
def xrN(K:ag)(tl:TE):TI:=fun σ H R=>tl σ H fun x H1=>∃a,x= .ref a∧(∃xs,SqT K H1 a xs)∧R (Itt K a) H1
theorem zx{l:Expr}{tl:TE}(hl:PE X l tl):PI X tg l (xq6 X.K tl):=by
 intro pins s σ H R I h;refine thn (hl pins s σ H _ I h) fun v s1 ⟨x,H1,I1,r1,q1⟩=>?_;obtain⟨a,e,⟨xs,hq⟩,q⟩:=q1;subst e;cases r1;obtain⟨its,rv,p,hz⟩:=I1.list hq;refine fj p.isList ?_;refine⟨s1.heap.objs.size,[s1.heap.objs.size],_,_,H1,rfl,I1.kept (t':=s1.toks) fun b o e=>ai _ e,xma a _,⟨_,aL _ rfl,rfl,rfl⟩,fun b hb=>?_,q⟩;have e:b=s1.heap.objs.size:=by simpa using hb
 subst e;exact I1.fpOk (ax _) (I1.hok.fresh (ax _))
theorem xfL{l:Expr}{tl:TE}(hl:PE X l tl):PI X tg l (xrN X.K tl):=by
 intro pins s σ H R I h;refine thn (hl pins s σ H _ I h) fun v s1 ⟨x,H1,I1,r1,q1⟩=>?_;obtain⟨a,e,⟨xs,hq⟩,q⟩:=q1;subst e;cases r1;obtain⟨its,rv,p,hz⟩:=I1.tuple hq;refine gi (show s1.heap.IsTuple a its.toArray from p) ?_;refine⟨s1.heap.objs.size,[s1.heap.objs.size],_,_,H1,rfl,I1.kept (t':=s1.toks) fun b o e=>ai _ e,xk3 a _,⟨_,aL _ rfl,rfl,rfl⟩,fun b hb=>?_,q⟩;have e:b=s1.heap.objs.size:=by simpa using hb
 subst e;exact I1.fpOk (ax _) (I1.hok.fresh (ax _))
def xnk(wi:TI)(g:TG)(tb:TS):TS:=fun D σ H=>wi σ H fun J H1=>∃W:Nat→Nat→St→Hp→Prop,(∃m,W 0 m σ H1)∧∀i m σ H,W i m σ H→
 (J.stop i H∧D.nx σ H)∨(J.go i H∧∃N:St→Hp→Prop,(∀σ' H',N σ' H'→∃m',m'<m∧W (i+1) m' σ' H')∧∀x H',J.yld i H x H'→g x σ H' fun σ2 H2=>tb {D with nx:=N,ct:=N,bk:=D.nx} σ2 H2)
def xa9(fp:List Addr)(h:Heap):List (Addr×Obj):=fp.filterMap fun b=>(h.get? b).map fun o=>(b,o)
theorem xaS{fp:List Addr}{h:Heap}{b:Addr}{o:Obj}(hb:b∈fp)(e:h.get? b=some o):(b,o)∈xa9 fp h:=cX.mpr ⟨b,hb,by rw[e];rfl⟩
theorem xmb{fp:List Addr}{h:Heap}{p:Addr×Obj}(hp:p∈xa9 fp h):p.1∈fp∧h.get? p.1=some p.2:=by
 obtain⟨b,hb,e⟩:=cX.mp hp;cases q:h.get? b with
 |none=>rw[q]at e;cases e
 |some o=>
  rw[q]at e;have e':(b,o)=p:=bh e;subst e';exact⟨hb,q⟩
theorem Inv.pinned{pins:List (Addr×Obj)}{σ:St}{H:Hp}{s:aa}{fp:List Addr}(I:Inv X pins σ H s)(hf:∀b∈fp,xb8 X pins H b)(ho:∀b∈fp,∃o,s.heap.get? b=some o∧∀v,o.data≠.cell v):Inv X (pins++xa9 fp s.heap) σ H s:=
 I.pins_of fun p hp=>(a7.mp hp).elim (fun z=>I.pin p (aR _ z)) fun z=>by
  obtain⟨hb,e⟩:=xmb z;obtain⟨f0,f1,f2,_⟩:=hf p.1 hb;obtain⟨o,e',d⟩:=ho p.1 hb;rw[e]at e';cases e';exact⟨e,f0,f1,f2,d⟩
theorem Inv.unpinned{pins pl:List (Addr×Obj)}{σ:St}{H:Hp}{s:aa}(I:Inv X (pins++pl) σ H s):Inv X pins σ H s:=I.pins_of fun p hp=>I.pin p (aR _ (aX _ hp))
theorem xp7{iter:Expr}{body:List Stmt}{wi:TI}{g:TG}{tb:TS}{pos:Pos}(hp:PassesOwn (model X.prog X.w) X.A X.env X.xe)(hc:X.calm=true)(hi:PI X tg iter wi)(hg:PG X tg g)(hb:PSs X body tb)
  (hs:∀x,fk iter X.env x=pure x:=by intro _;rfl):PS X (.For tg iter body [] pos) (xnk wi g tb):=by
 intro pins s σ H D I h;refine wpAny_For (thn (hi pins s σ H _ I h) fun v s1 h1=>thn h1 fun itv s2 h2=>?_) hs;obtain⟨it,fp,tn,J,H2,e,I2,T,st2,f2,W,⟨m0,w0⟩,turn⟩:=h2;subst e
 -- what stays true of the iterator's objects through the loop
 have stat:∀{H':Hp},(∀b∈fp,H' b=none)→∀b∈fp,xb8 X pins H' b:=fun hn b hb=>⟨hn b hb,(f2 b hb).2⟩;refine codeAny_forLoop_any (fun n s'=>∃i σ' H',Inv X pins σ' H' s'∧tn i s'.heap∧(∀b∈fp,H' b=none)∧W i n σ' H') ?_ m0 ⟨0,σ,H2,I2,st2,fun b hb=>(f2 b hb).1,w0⟩;rintro n s3 ⟨i,σ3,H3,I3,st3,fr3,w3⟩;rcases turn i n σ3 H3 w3 with⟨stop,qn⟩|⟨go,N,hN,step⟩
 ·refine eS hp (thn (T.done X rfl rfl rfl hc i pins s3 σ3 H3 X.xe I3 (stat fr3) st3 stop) fun r s4 ⟨hr,I4⟩=>?_);subst hr;exact dO ⟨σ3,H3,I4,qn⟩
 ·refine eS hp (thn (T.item X rfl rfl rfl hc i pins s3 σ3 H3 X.xe I3 (stat fr3) st3 go) fun r s4 ⟨u,hr,h4⟩=>?_);subst hr;refine eS hp (thn h4 fun _ s5 ⟨x,H5,I5,r5,y5,st5,fr5⟩=>?_);have I5':=I5.pinned (stat fr5) (T.obj _ _ st5);refine eS hp (thn (hg _ s5 σ3 H5 x u _ I5' r5 (step x H5 y5)) fun _ s6 ⟨σ6,H6,I6,q6⟩=>?_);refine eS hp (thn (hb _ s6 σ6 H6 _ I6 q6) fun f s7 q7=>?_);have again:∀{σ7:St} {H7:Hp},Inv X (pins++xa9 fp s5.heap) σ7 H7 s7→N σ7 H7→∃m,m<n∧∃i σ' H',Inv X pins σ' H' s7∧tn i s7.heap∧(∀b∈fp,H' b=none)∧W i m σ' H':=fun{σ7 H7} I7 n7=>by
   obtain⟨m',hm,w7⟩:=hN σ7 H7 n7;refine⟨m',hm,i+1,σ7,H7,I7.unpinned,T.keep _ _ _ st5 fun b hb o e=>(I7.pin (b,o) (aR _ (aR _ (xaS hb e)))).1,fun b hb=>?_,w7⟩;obtain⟨o,e,d⟩:=T.obj _ _ st5 b hb;exact(I7.pin (b,o) (aR _ (aR _ (xaS hb e)))).2.1
  cases f with
  |next=>obtain⟨σ7,H7,I7,n7⟩:=q7;exact again I7 n7
  |cont=>obtain⟨σ7,H7,I7,n7⟩:=q7;exact again I7 n7
  |brk=>obtain⟨σ7,H7,I7,q7⟩:=q7;exact⟨σ7,H7,I7.unpinned,q7⟩
  |ret v=>obtain⟨x7,σ7,H7,I7,r7,q7⟩:=q7;exact⟨x7,σ7,H7,I7.unpinned,r7,q7⟩
end
theorem xnl{K:ag}{a:Addr}{xs:List V}{g:TG}{tb:TS}{D:Ends}{σ:St}{H:Hp}(Pv:Nat→St→Hp→Prop)(h0:Pv 0 σ H)(hl:∀i σ H,i≤xs.length→Pv i σ H→SqL K H a xs)
  (hs:∀i x σ H,xs[i]? =some x→Pv i σ H→g x σ H fun σ2 H2=>tb {D with nx:=Pv (i+1),ct:=Pv (i+1),bk:=D.nx} σ2 H2) (hd:∀σ H,Pv xs.length σ H→D.nx σ H):
  ∃W:Nat→Nat→St→Hp→Prop,(∃m,W 0 m σ H)∧∀i m σ H,W i m σ H→
   ((Itl K a).stop i H∧D.nx σ H)∨((Itl K a).go i H∧∃N:St→Hp→Prop,(∀σ' H',N σ' H'→∃m',m'<m∧W (i+1) m' σ' H')∧∀x H',(Itl K a).yld i H x H'→g x σ H' fun σ2 H2=>tb {D with nx:=N,ct:=N,bk:=D.nx} σ2 H2):=by
 refine⟨fun i m σ H=>m=xs.length - i∧i≤xs.length∧Pv i σ H,⟨xs.length,by simp,bM _,h0⟩,?_⟩;rintro i m σ H ⟨rfl,hi,p⟩;have q:=hl i σ H hi p
 by_cases hlt:i<xs.length
 ·refine .inr ⟨⟨xs,xs[i],q,by simp[hlt]⟩,Pv (i+1),fun σ' H' p'=>⟨xs.length - (i+1),by lia,rfl,hlt,p'⟩,fun x H' y=>?_⟩;obtain⟨e,y⟩:=y;subst e;exact hs i x σ _ (y xs q) p
 ·have e:i=xs.length:=by lia
  subst e;exact .inl ⟨⟨xs,q,ax _⟩,hd σ H p⟩
theorem xoF{K:ag}{a:Addr}{xs:List V}{g:TG}{tb:TS}{D:Ends}{σ:St}{H:Hp}(Pv:Nat→St→Hp→Prop)(h0:Pv 0 σ H)(hl:∀i σ H,i≤xs.length→Pv i σ H→SqT K H a xs)
  (hs:∀i x σ H,xs[i]? =some x→Pv i σ H→g x σ H fun σ2 H2=>tb {D with nx:=Pv (i+1),ct:=Pv (i+1),bk:=D.nx} σ2 H2) (hd:∀σ H,Pv xs.length σ H→D.nx σ H):
  ∃W:Nat→Nat→St→Hp→Prop,(∃m,W 0 m σ H)∧∀i m σ H,W i m σ H→
   ((Itt K a).stop i H∧D.nx σ H)∨((Itt K a).go i H∧∃N:St→Hp→Prop,(∀σ' H',N σ' H'→∃m',m'<m∧W (i+1) m' σ' H')∧∀x H',(Itt K a).yld i H x H'→g x σ H' fun σ2 H2=>tb {D with nx:=N,ct:=N,bk:=D.nx} σ2 H2):=by
 refine⟨fun i m σ H=>m=xs.length - i∧i≤xs.length∧Pv i σ H,⟨xs.length,by simp,bM _,h0⟩,?_⟩;rintro i m σ H ⟨rfl,hi,p⟩;have q:=hl i σ H hi p
 by_cases hlt:i<xs.length
 ·refine .inr ⟨⟨xs,xs[i],q,by simp[hlt]⟩,Pv (i+1),fun σ' H' p'=>⟨xs.length - (i+1),by lia,rfl,hlt,p'⟩,fun x H' y=>?_⟩;obtain⟨e,y⟩:=y;subst e;exact hs i x σ _ (y xs q) p
 ·have e:i=xs.length:=by lia
  subst e;exact .inl ⟨⟨xs,q,ax _⟩,hd σ H p⟩
end L2
namespace L2
open PySem PySem.Spec PyProof.Rows
abbrev R2:=V→V→Hp→VK→Prop
def OpR(X:Cx)(f:Value→Value→Sem Value)(r:R2):Prop:=
 ∀(pins:List (Addr×Obj)) (s:aa) (σ:St) (H:Hp) (x y:V) (v u:Value) (Q:VK),Inv X pins σ H s→RelV x v→RelV y u→r x y H Q→
  wpAny (model X.prog X.w) X.A (f v u) (EP X pins σ Q) X.xe s
def UnR(X:Cx)(f:Value→Sem Value)(r:V→Hp→VK→Prop):Prop:=
 ∀(pins:List (Addr×Obj)) (s:aa) (σ:St) (H:Hp) (x:V) (v:Value) (Q:VK),Inv X pins σ H s→RelV x v→r x H Q→
  wpAny (model X.prog X.w) X.A (f v) (EP X pins σ Q) X.xe s
def yN(X:Cx)(f:Value)(r:List V→Hp→VK→Prop):Prop:=
 ∀(pins:List (Addr×Obj)) (s:aa) (σ:St) (H:Hp) (xs:List V) (us:List Value) (Q:VK),Inv X pins σ H s→Vals xs us→r xs H Q→
  wpAny (model X.prog X.w) X.A (call f us) (EP X pins σ Q) X.xe s
def tOp(r:R2)(ta tb:TE):TE:=fun σ H Q=>ta σ H fun x H1=>tb σ H1 fun y H2=>r x y H2 Q
def tUn(r:V→Hp→VK→Prop)(ta:TE):TE:=fun σ H Q=>ta σ H fun x H1=>r x H1 Q
def rI(C:Int→Int→Prop)(g:Int→Int→V):R2:=fun x y H Q=>∃i j,x= .int i∧y= .int j∧C i j∧Q (g i j) H
def rI0(g:Int→Int→V):R2:=fun x y H Q=>∃i j,x= .int i∧y= .int j∧Q (g i j) H
def rU(g:Int→V):V→Hp→VK→Prop:=fun x H Q=>∃i,x= .int i∧Q (g i) H
section
variable {X:Cx} {a b c:Expr} {ta tb tc:TE} {pos:Pos}
theorem xnm(ha:PE X a ta)(hb:PE X b tb){pins:List (Addr×Obj)}{s:aa}{σ:St}{H:Hp}{R:V→V→Hp→Prop}(I:Inv X pins σ H s)
  (h:ta σ H fun x H1=>tb σ H1 fun y H2=>R x y H2) {Q:Value→aa→Prop} {f:Value→Value→Sem Value}
  (hf:∀v u s2 x y H2,Inv X pins σ H2 s2→RelV x v→RelV y u→R x y H2→wpAny (model X.prog X.w) X.A (f v u) Q X.xe s2):
  wpAny (model X.prog X.w) X.A (eval a X.env) (fun v s₁=>wpAny (model X.prog X.w) X.A (eval b X.env) (fun u s₂=>wpAny (model X.prog X.w) X.A (f v u) Q X.xe s₂) X.xe s₁) X.xe s:=by
 refine thn (ha pins s σ H _ I h) fun v s1 ⟨x,H1,I1,r1,q1⟩=>?_;refine thn (hb pins s1 σ H1 _ I1 q1) fun u s2 ⟨y,H2,I2,r2,q2⟩=>?_;exact hf v u s2 x y H2 I2 r1 r2 q2
theorem xu{op:Operator}{r:R2}(ho:OpR X (cu op) r)(ha:PE X a ta)(hb:PE X b tb):PE X (.BinOp a op b pos) (tOp r ta tb):=by
 intro pins s σ H Q I h;exact wpAny_BinOp (xnm ha hb I h fun v u s2 x y H2 I2 rx ry q=>ho pins s2 σ H2 x y v u Q I2 rx ry q)
theorem xoi{op:UnaryOp}{r:V→Hp→VK→Prop}(ho:UnR X (unaryOp op) r)(ha:PE X a ta):PE X (.UnaryOp op a pos) (tUn r ta):=by
 intro pins s σ H Q I h;exact UnaryOp_ (thn (ha pins s σ H _ I h) fun v s1 ⟨x,H1,I1,r1,q1⟩=>ho pins s1 σ H1 x v Q I1 r1 q1)
theorem opI{f:Value→Value→Sem Value}{C:Int→Int→Prop}{g:Int→Int→Int}
  (rule:∀(i j:Int) (t u:Tok) (s:aa) (Q:Value→aa→Prop) (E:Value→aa→Prop),C i j→Q (.int (g i j) s.toks) {s with toks:=s.toks+1}→wpAny (model X.prog X.w) X.A (f (.int i t) (.int j u)) Q E s):
  OpR X f (rI C fun i j=>.int (g i j)):=by
 intro pins s σ H x y v u Q I rx ry h;obtain⟨i,j,rfl,rfl,hc,q⟩:=h;obtain⟨t,rfl⟩:=rx;obtain⟨t',rfl⟩:=ry;exact rule i j t t' s _ _ hc ⟨.int (g i j),H,I.tok _,⟨_,rfl⟩,q⟩
theorem xp8{f:Value→Value→Sem Value}{g:Int→Int→Int}
  (rule:∀(i j:Int) (t u:Tok) (s:aa) (Q:Value→aa→Prop) (E:Value→aa→Prop),Q (.int (g i j) s.toks) {s with toks:=s.toks+1}→wpAny (model X.prog X.w) X.A (f (.int i t) (.int j u)) Q E s):
  OpR X f (rI0 fun i j=>.int (g i j)):=by
 intro pins s σ H x y v u Q I rx ry h;obtain⟨i,j,rfl,rfl,q⟩:=h;obtain⟨t,rfl⟩:=rx;obtain⟨t',rfl⟩:=ry;exact rule i j t t' s _ _ ⟨.int (g i j),H,I.tok _,⟨_,rfl⟩,q⟩
theorem xk4{f:Value→Value→Sem Value}{g:Int→Int→Bool}
  (rule:∀(i j:Int) (t u:Tok) (s:aa) (Q:Value→aa→Prop) (E:Value→aa→Prop),Q (.bool (g i j)) s→wpAny (model X.prog X.w) X.A (f (.int i t) (.int j u)) Q E s):
  OpR X f (rI0 fun i j=>.bl (g i j)):=by
 intro pins s σ H x y v u Q I rx ry h;obtain⟨i,j,rfl,rfl,q⟩:=h;obtain⟨t,rfl⟩:=rx;obtain⟨t',rfl⟩:=ry;exact rule i j t t' s _ _ ⟨.bl (g i j),H,I,rfl,q⟩
def xp9(i j:Int):Prop:=0≤j∧j≤1000000∧i.natAbs<2^64
def xk5(i j:Int):Prop:=(-(2^64)<i∧i<2^64)∨(-(2^64)<j∧j<2^64)
theorem xk5.ok{i j:Int}(h:xk5 i j):IntMulOk i j:=by
 rcases h with⟨h1,h2⟩|⟨h1,h2⟩
 ·exact .of_left (intBits_le_64 h1 h2)
 ·exact .of_right (intBits_le_64 h1 h2)
theorem xk6(k:Nat):(0:Int)≤2^k:=by
 rw[two_pow_cast];exact Int.natCast_nonneg _
theorem xqa:OpR X (cu .Add) (rI0 fun i j=>.int (i+j)):=xp8 fun _ _ _ _ _ _ _ q=>add_int q
theorem xqb:OpR X (cu .Sub) (rI0 fun i j=>.int (i - j)):=xp8 fun _ _ _ _ _ _ _ q=>sub_int q
theorem xqc:OpR X (cu .Mult) (rI xk5 fun i j=>.int (i*j)):=opI fun _ _ _ _ _ _ _ hc q=>mul_int q hc.ok
theorem xqd:OpR X (cu .Mod) (rI (fun _ j=>0<j) fun i j=>.int (i%j)):=opI fun i j _ _ _ _ _ hc q=>by
 have h1:(0:Int)<j:=hc;exact mod_int' (by lia) (by rw[Int.fmod_eq_emod_of_nonneg i (by lia)];exact q)
theorem xqe:OpR X (cu .Pow) (rI xp9 fun i j=>.int (i^j.toNat)):=opI fun _ _ _ _ _ _ _ hc q=>pow_int_small hc.1 hc.2.1 hc.2.2 q
theorem xqf:OpR X (cu .RShift) (rI (fun _ j=>0≤j) fun i j=>.int (i / 2^j.toNat)):=opI fun i j _ _ _ _ _ hc q=>
 rshift_int hc (by rw[gs i (xk6 _)];exact q)
theorem unI{f:Value→Sem Value}{g:Int→Int}
  (rule:∀(i:Int) (t:Tok) (s:aa) (Q:Value→aa→Prop) (E:Value→aa→Prop),Q (.int (g i) s.toks) {s with toks:=s.toks+1}→wpAny (model X.prog X.w) X.A (f (.int i t)) Q E s):
  UnR X f (rU fun i=>.int (g i)):=by
 intro pins s σ H x v Q I rx h;obtain⟨i,rfl,q⟩:=h;obtain⟨t,rfl⟩:=rx;exact rule i t s _ _ ⟨.int (g i),H,I.tok _,⟨_,rfl⟩,q⟩
theorem xqg:UnR X (unaryOp .USub) (rU fun i=>.int (-i)):=unI fun _ _ _ _ _ q=>neg_int q
end
def xqh:V→V→Bool
 | .non,.non=>true| .non,.int _=>true| .int _,.non=>true| .non,.bl _=>true| .bl _,.non=>true| .non,.str _=>true| .str _,.non=>true
 | .int _,.int _=>true| .bl _,.bl _=>true| .str _,.str _=>true| .byt _,.byt _=>true
 | .int _,.str _=>true| .str _,.int _=>true| .bl _,.str _=>true| .str _,.bl _=>true
 |_,_=>false
def rEq:R2:=fun x y H Q=>xqh x y=true∧Q (.bl (decide (x=y))) H
def rNe:R2:=fun x y H Q=>xqh x y=true∧Q (.bl (!decide (x=y))) H
theorem xki{i j:Int}:decide (V.int i=V.int j)=(i==j):=by
 rw[eU];simp
theorem xmc{i j:Bool}:decide (V.bl i=V.bl j)=(i==j):=by
 rw[eU];simp
theorem xkj{i j:Str}:decide (V.str i=V.str j)=(i==j):=by
 rw[eU];simp
theorem xkk{i j:Array UInt8}:decide (V.byt i=V.byt j)=(i.toList==j.toList):=by
 rw[eU];cases i;cases j;simp
section
variable {X:Cx} {a b c:Expr} {ta tb tc:TE} {pos:Pos}
theorem xW{pins:List (Addr×Obj)}{σ:St}{H:Hp}{s:aa}{Q:VK}{k k':Bool}(I:Inv X pins σ H s)(q:Q (.bl k) H)(e:k=k'):EP X pins σ Q (.bool k') s:=by
 subst e;exact⟨.bl k,H,I,rfl,q⟩
theorem xoj:OpR X (bx .Eq) rEq:=by
 intro pins s σ H x y v u Q I rx ry h;obtain⟨hs,q⟩:=h;cases x with
 |non=>
  cases rx;cases y with
  |non=>cases ry;exact PySem.EqNone.eq_none_none (xW I q (by simp))
  |bl j=>cases ry;exact PySem.EqNone.eq_none_bool (xW I q (by simp))
  |int j=>obtain⟨t',rfl⟩:=ry;exact PySem.EqNone.eq_none_int (xW I q (by simp))
  |str j=>obtain⟨t',rfl⟩:=ry;exact PySem.EqNone.eq_none_str (xW I q (by simp))
  |_=>exact absurd (show false=true from hs) aJ
 |bl i=>
  cases rx;cases y with
  |non=>cases ry;exact PySem.EqNone.eq_bool_none (xW I q (by simp))
  |bl j=>cases ry;exact eq_bool (xW I q xmc)
  |str j=>obtain⟨t',rfl⟩:=ry;exact PySem.EqMixed.eq_bool_str (xW I q (by simp))
  |_=>exact absurd (show false=true from hs) aJ
 |int i=>
  obtain⟨t,rfl⟩:=rx;cases y with
  |non=>cases ry;exact PySem.EqNone.eq_int_none (xW I q (by simp))
  |int j=>obtain⟨t',rfl⟩:=ry;exact eq_int (xW I q xki)
  |str j=>obtain⟨t',rfl⟩:=ry;exact PySem.EqMixed.eq_int_str (xW I q (by simp))
  |_=>exact absurd (show false=true from hs) aJ
 |str i=>
  obtain⟨t,rfl⟩:=rx;cases y with
  |non=>cases ry;exact PySem.EqNone.eq_str_none (xW I q (by simp))
  |bl j=>cases ry;exact PySem.EqMixed.eq_str_bool (xW I q (by simp))
  |int j=>obtain⟨t',rfl⟩:=ry;exact PySem.EqMixed.eq_str_int (xW I q (by simp))
  |str j=>obtain⟨t',rfl⟩:=ry;exact eq_str (xW I q xkj)
  |_=>exact absurd (show false=true from hs) aJ
 |byt i=>
  obtain⟨t,rfl⟩:=rx;cases y with
  |byt j=>obtain⟨t',rfl⟩:=ry;exact W.eq_bytes (xW I q xkk)
  |_=>exact absurd (show false=true from hs) aJ
 |_=>cases y<;> exact absurd (show false=true from hs) aJ
theorem xok:OpR X (bx .NotEq) rNe:=by
 intro pins s σ H x y v u Q I rx ry h;obtain⟨hs,q⟩:=h;cases x with
 |non=>
  cases rx;cases y with
  |non=>cases ry;exact PySem.EqNone.ne_none_none (xW I q (by simp))
  |bl j=>cases ry;exact PySem.EqNone.ne_none_bool (xW I q (by simp))
  |int j=>obtain⟨t',rfl⟩:=ry;exact PySem.EqNone.ne_none_int (xW I q (by simp))
  |str j=>obtain⟨t',rfl⟩:=ry;exact PySem.EqNone.ne_none_str (xW I q (by simp))
  |_=>exact absurd (show false=true from hs) aJ
 |bl i=>
  cases rx;cases y with
  |non=>cases ry;exact PySem.EqNone.ne_bool_none (xW I q (by simp))
  |bl j=>cases ry;exact ne_bool (xW I q (congrArg not xmc))
  |str j=>obtain⟨t',rfl⟩:=ry;exact PySem.EqMixed.ne_bool_str (xW I q (by simp))
  |_=>exact absurd (show false=true from hs) aJ
 |int i=>
  obtain⟨t,rfl⟩:=rx;cases y with
  |non=>cases ry;exact PySem.EqNone.ne_int_none (xW I q (by simp))
  |int j=>obtain⟨t',rfl⟩:=ry;exact ne_int (xW I q (congrArg not xki))
  |str j=>obtain⟨t',rfl⟩:=ry;exact PySem.EqMixed.ne_int_str (xW I q (by simp))
  |_=>exact absurd (show false=true from hs) aJ
 |str i=>
  obtain⟨t,rfl⟩:=rx;cases y with
  |non=>cases ry;exact PySem.EqNone.ne_str_none (xW I q (by simp))
  |bl j=>cases ry;exact PySem.EqMixed.ne_str_bool (xW I q (by simp))
  |int j=>obtain⟨t',rfl⟩:=ry;exact PySem.EqMixed.ne_str_int (xW I q (by simp))
  |str j=>obtain⟨t',rfl⟩:=ry;exact ne_str (xW I q (congrArg not xkj))
  |_=>exact absurd (show false=true from hs) aJ
 |byt i=>
  obtain⟨t,rfl⟩:=rx;cases y with
  |byt j=>obtain⟨t',rfl⟩:=ry;exact W.ne_bytes (xW I q (congrArg not xkk))
  |_=>exact absurd (show false=true from hs) aJ
 |_=>cases y<;> exact absurd (show false=true from hs) aJ
theorem xq7:OpR X (bx .Lt) (rI0 fun i j=>.bl (decide (i<j))):=xk4 fun _ _ _ _ _ _ _ q=>lt_int q
theorem xq8:OpR X (bx .LtE) (rI0 fun i j=>.bl (decide (i≤j))):=xk4 fun _ _ _ _ _ _ _ q=>le_int q
theorem xq9:OpR X (bx .Gt) (rI0 fun i j=>.bl (decide (j<i))):=xk4 fun _ _ _ _ _ _ _ q=>gt_int q
theorem xra:OpR X (bx .GtE) (rI0 fun i j=>.bl (decide (j≤i))):=xk4 fun _ _ _ _ _ _ _ q=>ge_int q
theorem xmd(b:Expr){op:CmpOp}(h:op≠.In:=by decide)(h2:op≠.NotIn:=by decide):cL op b=false:=by
 have e1:(op==CmpOp.In)=false:=by cases op<;> first|rfl|exact absurd rfl h
 have e2:(op==CmpOp.NotIn)=false:=by cases op<;> first|rfl|exact absurd rfl h2
 cases b<;> simp[cL,e1,e2]
theorem xoG{op:CmpOp}{r:R2}(ho:OpR X (bx op) r)(ha:PE X a ta)(hb:PE X b tb)(hm:cL op b=false):PE X (.Compare a [op] [b] pos) (tOp r ta tb):=by
 intro pins s σ H Q I h;exact wpAny_Compare1 (xnm ha hb I h fun v u s2 x y H2 I2 rx ry q=>ho pins s2 σ H2 x y v u Q I2 rx ry q) hm
theorem xfM:(aN:Nat)<2^63:=by rw[aZ];decide
theorem vals1{x:V}{us:List Value}(r:Vals [x] us):∃u,us=[u]∧RelV x u:=by
 cases r with
 |cons r1 r2=>cases r2;exact⟨_,rfl,r1⟩
theorem vals2{x y:V}{us:List Value}(r:Vals [x,y] us):∃u w',us=[u,w']∧RelV x u∧RelV y w':=by
 cases r with
 |cons r1 r2=>
  cases r2 with
  |cons r3 r4=>cases r4;exact⟨_,_,rfl,r1,r3⟩
theorem xnn:yN X (.builtin "abs") (fun xs H Q=>∃i,xs=[.int i]∧Q (.int (if i<0 then -i else i)) H):=by
 intro pins s σ H xs us Q I r h;obtain⟨i,rfl,q⟩:=h;obtain⟨u,rfl,t,rfl⟩:=vals1 r;exact call_abs_int fun u tk=>⟨.int (if i<0 then -i else i),H,I.tok _,⟨_,rfl⟩,q⟩
theorem xme(hc:X.calm=true):yN X (.builtin "max") (fun xs H Q=>∃i j,xs=[.int i,.int j]∧Q (.int (if j > i then j else i)) H):=by
 intro pins s σ H xs us Q I r h;obtain⟨i,j,rfl,q⟩:=h;obtain⟨u,w',rfl,⟨t,rfl⟩,⟨t',rfl⟩⟩:=vals2 r;refine max_two_ints (I.ok.hd hc) fun h' tk k=>⟨_,H,I.kept k,?_,q⟩
 by_cases hj:j > i
 ·rw[if_pos hj,if_pos hj];exact⟨_,rfl⟩
 ·rw[if_neg hj,if_neg hj];exact⟨_,rfl⟩
theorem xmf(hc:X.calm=true):yN X (.builtin "min") (fun xs H Q=>∃i j,xs=[.int i,.int j]∧Q (.int (if j<i then j else i)) H):=by
 intro pins s σ H xs us Q I r h;obtain⟨i,j,rfl,q⟩:=h;obtain⟨u,w',rfl,⟨t,rfl⟩,⟨t',rfl⟩⟩:=vals2 r;refine min_two_ints (I.ok.hd hc) fun h' tk k=>⟨_,H,I.kept k,?_,q⟩
 by_cases hj:j<i
 ·rw[if_pos hj,if_pos hj];exact⟨_,rfl⟩
 ·rw[if_neg hj,if_neg hj];exact⟨_,rfl⟩
theorem xht:yN X (.type "int") (fun xs H Q=>(∃i,xs=[.int i]∧Q (.int i) H)∨∃k,xs=[.bl k]∧Q (.int (if k then 1 else 0)) H):=by
 intro pins s σ H xs us Q I r h;rcases h with⟨i,rfl,q⟩|⟨k,rfl,q⟩
 ·obtain⟨u,rfl,t,rfl⟩:=vals1 r;exact call_int_int ⟨.int i,H,I,⟨_,rfl⟩,q⟩
 ·obtain⟨u,rfl,r1⟩:=vals1 r;cases r1;exact call_int_bool ⟨.int (if k then 1 else 0),H,I.tok _,⟨_,rfl⟩,q⟩
end
end L2
namespace L2
open PySem PySem.Spec PyProof.Rows
structure xfg(h:Heap)(x dx C:Addr)(mA:Str→Option Value):Prop where
 obj:h.get? x=some (eV C dx)
 ns:h.Ns1 dx mA
 ne:dx≠x
theorem xhu{h:Heap}{dx:Addr}{mA:Str→Option Value}(n:h.Ns1 dx mA):∃od,h.get? dx=some od∧∀name,W.lookIn name od=some (mA name):=by
 obtain⟨o,es,ep,ho,hd,hk,_,hm⟩:=n;refine⟨o,ho,fun name=>?_⟩;have e:=hm name;unfold nsFind findBy at e;rw[←j5]at e;unfold W.lookIn;rw[hd];dsimp only
 split
 ·rename_i y q;rw[q]at e;exact congrArg some e
 ·rename_i q;rw[q]at e;have a:es.toList.any (·.refKey)=false:=by
   rw[List.any_eq_false];intro y hy;obtain⟨z,t,hkey⟩:=hk y (Array.mem_toList_iff.mp hy);simp[DictEntry.refKey,hkey]
  have a':¬es.toList.any (·.refKey)=true:=by rw[a];exact aJ
  rw[if_neg a'];exact congrArg some e
theorem xfg.look{h:Heap}{x dx C:Addr}{mA:Str→Option Value}(I:xfg h x dx C mA):∃od,W.InstAt h x (eV C dx) C (some od)∧∀name,W.lookIn name od=some (mA name):=
 let⟨od,ho,hl⟩:=xhu I.ns
 ⟨od,⟨I.obj,rfl,rfl,ho⟩,hl⟩
section
variable {prog:ak} {w:World} {A:aE} {E:Value→aa→Prop} {s:aa} {K:ag} {x dx C f:Addr} {mA:Str→Option Value} {name:Str} {v:Value}
theorem get_map{expr:Bool}{Q:Value→aa→Prop}(X:K.In s.heap)(I:xfg s.heap x dx C mA)(hg:iJ K C name=true)(hh:fZ K C=true)
  (ha:aM K (.ref C) name=some none) (hv:mA name=some v) (hv':W.handedIn v=true) (h:Q v {s with toks:=s.toks+1}):
  wpAny (model prog w) A (getAttr (.ref x) name expr) Q E s:=by
 obtain⟨od,J,hl⟩:=I.look;exact W.get_value X J (iY hg).1 (W.findObj_own hh ha rfl (by rw[hl,hv])) hv' h
theorem xno{pl:Sem Bool}{Q:Value×List Value→aa→Prop}(X:K.In s.heap)(I:xfg s.heap x dx C mA)(hg:iJ K C name=true)
  (hf:aM K (.ref C) name=some (some (.ref f))) (ht:W.isFn K (.ref f)=true) (hv:mA name=none) (h:Q (.ref f,[.ref x]) s):
  wpAny (model prog w) A (eB (.ref x) name pl) Q E s:=by
 obtain⟨od,J,hl⟩:=I.look;exact W.method_fn X J (iY hg).1 (iY hg).2 hf (beq_iff_eq.mp ht) (by show(W.lookIn name od).map (·.isSome)=some false;rw[hl,hv];rfl) h
theorem xoH{ns:List Str}{Q:Unit→aa→Prop}(X:K.In s.heap)(I:xfg s.heap x dx C mA)
  (hs:aM K (.ref C) "__setattr__"=some (some (.builtin "object.__setattr__"))) (hp:W.plainOver K C=true) (ht:W.takerIn K C name=some none) (hh:fZ K C=true)
  (hw:PySem.Within mA ns) (hsz:ns.length≤aN)
  (h:∀h',xfg h' x dx C (fun y=>if y=name then some v else mA y)→eX dx s.heap h'→Q () {s with heap:=h',toks:=s.toks+2}):
  wpAny (model prog w) A (setAttr (.ref x) name v) Q E s:=by
 obtain⟨od,J,hl⟩:=I.look;refine W.set_plain X J hs (W.osa_open (s:={s with toks:=s.toks+1}) (r:=none) X J hp ht fun b=>?_);obtain⟨cd,hc,hd'⟩:=W.any_some hh;have hx:s.heap.get? x=some ⟨.ref C,some dx,.plain,#[]⟩:=I.obj;refine af (ay (af (af (iw hx (af (W.Looks.here (s:={s with toks:=s.toks+1}) (iZ X hc) ?_))))));rw[hd'];refine ay (a:=some dx) (af (ay (af ?_)));refine wpAny_nsSet1 (s:={s with toks:=s.toks+1}) I.ns fun h' hn2 hs2=>?_;obtain⟨oD,esD,epD,hoD,hdD,hcD⟩:=hn2.count (PySem.Within.cons name v hw);refine af (wpAny_lookBehind hoD (by rw[hdD];exact pastItsLine_dict (bw hcD (by rw[bD];lia))) ?_);exact ay (h _ ⟨(hs2.2 _ (au I.ne)).trans I.obj,hn2,I.ne⟩ hs2)
theorem xnp{R:gL→aa→Prop}{vs:List Value}{kw:List (Str×Value)}(X:K.In s.heap)(hm:W.makesIn K C=true)
  (hi:aM K (.ref C) "__init__"=some (some (.ref f))) (hf:W.typeIn K (.ref f)=some (.type "function"))
  (h:ck (model prog w) (A.under (.builtin "type.__call__" ⟨.ref C::vs,kw⟩)) (.call (.ref f) ⟨.ref (s.heap.objs.size+1)::vs,kw⟩) (W.InitBack (s.heap.objs.size+1) R)
   {s with heap:=(s.heap.push dv).push (eV C s.heap.objs.size)}):
  ck (model prog w) A (.call (.ref C) ⟨vs,kw⟩) R s:=by
 obtain⟨hh,g,d,t,os⟩:=s;exact W.make_core (W.makes_of X hm) (W.looks_findIn X hi) (fun self=>W.bind_fn X self hf) (.inl rfl) h
end
def uy(f:Str)(v:V):List (Str×V)→List (Str×V)
 |[]=>[(f,v)]
 |(g,x)::r=>if g=f then(g,v)::r else(g,x)::uy f v r
theorem xeU(f g:Str)(v:V):∀fs:List (Str×V),(uy f v fs).lookup g=if g=f then some v else fs.lookup g
 |[]=>by
  show dW g [(f,v)]=_
  by_cases h:g=f
  ·have hb:(g==f)=true:=beq_iff_eq.mpr h;simp only[dW,hb,if_pos h]
  ·have hb:(g==f)=false:=beq_eq_false_iff_ne.mpr h;simp only[dW,hb,if_neg h]
 |(k,x)::r=>by
  have ih:=xeU f g v r;rw[show uy f v ((k,x)::r)=(if k=f then(k,v)::r else(k,x)::uy f v r)from rfl]
  by_cases hk:k=f
  ·rw[if_pos hk]
   by_cases h:g=k
   ·have hb:(g==k)=true:=beq_iff_eq.mpr h;simp only[dW,hb,if_pos (h.trans hk)]
   ·have hb:(g==k)=false:=beq_eq_false_iff_ne.mpr h;simp only[dW,hb,if_neg (fun e:g=f=>h (e.trans hk.symm))]
  ·rw[if_neg hk]
   by_cases h:g=k
   ·have hb:(g==k)=true:=beq_iff_eq.mpr h;simp only[dW,hb,if_neg (fun e:g=f=>hk (h.symm.trans e))]
   ·have hb:(g==k)=false:=beq_eq_false_iff_ne.mpr h;simp only[dW,hb];exact ih
theorem xdM(f:Str)(v:V):∀fs:List (Str×V),f∈(uy f v fs).map (·.1)∧∀g,g∈fs.map (·.1)→g∈(uy f v fs).map (·.1)
 |[]=>⟨by simp[uy],fun g h=>by simp at h⟩
 |(k,x)::r=>by
  obtain⟨i1,i2⟩:=xdM f v r;rw[show uy f v ((k,x)::r)=(if k=f then(k,v)::r else(k,x)::uy f v r)from rfl]
  by_cases hk:k=f
  ·rw[if_pos hk];subst hk;exact⟨by simp,fun g h=>by simpa using h⟩
  ·rw[if_neg hk];refine⟨?_,fun g h=>?_⟩
   ·rw[bq];exact aS _ i1
   ·rw[bq]at h⊢;rcases av.mp h with e|e
    ·exact av.mpr (.inl e)
    ·exact aS _ (i2 g e)
theorem xb9(f:Str)(v:V):∀fs:List (Str×V),(uy f v fs).length≤fs.length+1
 |[]=>by simp[uy]
 |(k,x)::r=>by
  have ih:=xb9 f v r;rw[show uy f v ((k,x)::r)=(if k=f then(k,v)::r else(k,x)::uy f v r)from rfl]
  by_cases hk:k=f
  ·rw[if_pos hk,bD,bD];lia
  ·rw[if_neg hk,bD,bD];lia
theorem ux.some_of{v:V}{o:Option Value}(r:ux (some v) o):∃u,o=some u∧RelV v u:=by
 cases o with
 |none=>exact(show False from r).elim
 |some u=>exact⟨u,rfl,r⟩
theorem ux.none_of{o:Option Value}(r:ux none o):o=none:=by
 cases o with
 |none=>rfl
 |some u=>exact(show False from r).elim
theorem xhv{v:V}{u:Value}(r:RelV v u):W.handedIn u=true:=by
 cases v with
 |non=>cases (show u=aU from r);rfl
 |bl b=>cases (show u=cU b from r);rfl
 |int i=>obtain⟨t,e⟩:=(show∃t,u=gc i t from r);cases e;rfl
 |str x=>obtain⟨t,e⟩:=(show∃t,u=gd x t from r);cases e;rfl
 |byt b=>obtain⟨t,e⟩:=(show∃t,u=Value.bytes b t from r);cases e;rfl
 |flt b=>obtain⟨t,e⟩:=(show∃t,u=ki b t from r);cases e;rfl
 |ref a=>cases (show u=aB a from r);rfl
 |ty n=>cases (show u=eC n from r);rfl
section
variable {P:ak} {w:World} {H H':Hp} {h h':Heap} {a C dx:Addr} {fs fs':List (Str×V)}
theorem xez(hok:HOk P w H h)(e:H a=some (.ins C dx fs)):∃mA,xfg h a dx C mA∧(∀f,ux (fs.lookup f) (mA f))∧PySem.Within mA (fs.map (·.1))∧fs.length≤1000∧H dx=some (.own a):=by
 obtain⟨d,z,ne,ob,mA,n,r,q⟩:=(show xX P w H h a (.ins C dx fs)from hok a _ e);exact⟨mA,⟨ob,n,ne⟩,r,q,z,d⟩
end
structure Cls(K:ag)(C:Addr):Prop where
 pg:iJ K C Str.empty=true
 hd:fZ K C=true
 po:W.plainOver K C=true
 sa:aM K (.ref C) "__setattr__"=some (some (.builtin "object.__setattr__"))
theorem Cls.get{K:ag}{C:Addr}(c:Cls K C)(f:Str):iJ K C f=true:=c.pg
def xG(K:ag)(C:Addr)(f:Str):Prop:=aM K (.ref C) f=some none
theorem xG.taker{K:ag}{C:Addr}{f:Str}(n:xG K C f):W.takerIn K C f=some none:=by
 unfold W.takerIn;rw[show aM K (.ref C) f=some none from n];rfl
structure Meth(K:ag)(C:Addr)(m:Str)(f:Addr):Prop where
 at_:aM K (.ref C) m=some (some (.ref f))
 fn:W.isFn K (.ref f)=true
 kp:bW K (.ref f)=true
section
variable {X:Cx} {pins:List (Addr×Obj)} {σ:St} {H:Hp} {s:aa} {a C dx:Addr} {fs:List (Str×V)} {f:Str} {v:V} {A:aE} {E:Value→aa→Prop}
theorem xk7{b:Bool}{Q:Value→aa→Prop}(I:Inv X pins σ H s)(e:H a=some (.ins C dx fs))(c:Cls X.K C)(n:xG X.K C f)(l:fs.lookup f=some v)
  (h:∀u s',Inv X pins σ H s'→RelV v u→Q u s'):wpAny (model X.prog X.w) A (getAttr (.ref a) f b) Q E s:=by
 obtain⟨mA,O,r,_,_,_⟩:=xez I.hok e;obtain⟨u,hu,ru⟩:=ux.some_of (v:=v) (o:=mA f) (by rw[←l];exact r f);exact get_map I.kIn O (c.get f) c.hd n hu (xhv ru) (h u _ (I.tok _) ru)
theorem vg{m:Str}{g:Addr}{pl:Sem Bool}{Q:Value×List Value→aa→Prop}(I:Inv X pins σ H s)(e:H a=some (.ins C dx fs))(c:Cls X.K C)(k:Meth X.K C m g)(l:fs.lookup m=none)
  (h:Q (.ref g,[.ref a]) s):wpAny (model X.prog X.w) A (eB (.ref a) m pl) Q E s:=by
 obtain⟨mA,O,r,_,_,_⟩:=xez I.hok e;have hn:mA m=none:=ux.none_of (by rw[←l];exact r m);exact xno I.kIn O (c.get m) k.at_ k.fn hn h
theorem xk8{y:V}{u:Value}{Q:Unit→aa→Prop}(I:Inv X pins σ H s)(e:H a=some (.ins C dx fs))(c:Cls X.K C)(n:xG X.K C f)(hl:fs.length<1000)(ry:RelV y u)
  (h:∀s',Inv X pins σ (upd H a (.ins C dx (uy f y fs))) s'→Q () s'):wpAny (model X.prog X.w) A (setAttr (.ref a) f u) Q E s:=by
 obtain⟨mA,O,r,wi,_,ho⟩:=xez I.hok e;have hz:(fs.map (·.1)).length≤aN:=by rw[ao,aZ];lia
 refine xoH I.kIn O c.sa c.po n.taker c.hd wi hz fun h' O' sb=>h _ ?_;have hd:∃o,h'.get? dx=some o:=let⟨o,_,_,e',_⟩:=O'.ns;⟨o,e'⟩
 refine I.write (x:=a) (e:=dx) (by rw[e];exact b7) (.inr ho) (fun b q hb z=>(sb.2 b hb).trans z) hd ?_;refine⟨by rw[xl O.ne];exact ho,?_,O.ne,O'.obj,_,O'.ns,fun g=>?_,fun g hg=>?_⟩
 ·have:=xb9 f y fs;lia
 ·show ux ((uy f y fs).lookup g) (if g=f then some u else mA g);rw[xeU]
  by_cases q:g=f
  ·rw[if_pos q,if_pos q];exact ry
  ·rw[if_neg q,if_neg q];exact r g
 ·by_cases q:g=f
  ·rw[q];exact(xdM f y fs).1
  ·refine(xdM f y fs).2 g (wi g fun z=>hg ?_);show(if g=f then some u else mA g)=none;rw[if_neg q];exact z
theorem Inv.made(I:Inv X pins σ H s):Inv X pins σ (upd (upd H s.heap.objs.size (.own (s.heap.objs.size+1))) (s.heap.objs.size+1) (.ins C s.heap.objs.size []))
  {s with heap:=(s.heap.push dv).push (eV C s.heap.objs.size)}:=by
 have e1:(s.heap.push dv).get? s.heap.objs.size=some dv:=aL s.heap rfl;have e2:((s.heap.push dv).push (eV C s.heap.objs.size)).get? (s.heap.objs.size+1)=some (eV C s.heap.objs.size):=by
  have:=aL (s.heap.push dv) (o:=eV C s.heap.objs.size) rfl
  rwa [ek]at this
 have e3:(s.heap.push dv).Ns s.heap.objs.size (fun _=>none):=⟨dv,#[],_,e1,rfl,(fun e he=>absurd he (by simp)),fun _=>rfl⟩;have I1:=I.laid (a:=s.heap.objs.size) (o:=.own (s.heap.objs.size+1)) (h':=s.heap.push dv) (t':=s.toks) (fun b u q=>ai _ q) (ax _) ⟨_,e1⟩;refine I1.laid (a:=s.heap.objs.size+1) (o:=.ins C s.heap.objs.size []) (t':=s.toks) (fun b u q=>ai _ q) (Nat.le_of_eq (ek _ _)) ?_;have ne:s.heap.objs.size≠s.heap.objs.size+1:=aG (Nat.lt_succ_self _);refine⟨by rw[xl ne,xm],bM _,ne,e2,fun _=>none,(kf e3).at fun o q=>ai _ q,fun _=>b7,fun y hy=>absurd rfl hy⟩
theorem xkl{prog:ak}{w:World}{env:Env}{e:Expr}{f:Str}{pos:Pos}{s:aa}{Q:Value→aa→Prop}(hb:gu e f env (eval e env)=eval e env)
  (h:wpAny (model prog w) A (eval e env) (fun o s₁=>wpAny (model prog w) A (getAttr o f true) Q E s₁) E s):wpAny (model prog w) A (eval (.Attribute e f pos) env) Q E s:=
 Attribute_any_ h (by rw[arm_eval_Attribute,hb])
end
def xrO(K:ag)(ta:TE)(f:Str):TE:=fun σ H Q=>ta σ H fun x H1=>∃a C dx fs v,x= .ref a∧H1 a=some (.ins C dx fs)∧Cls K C∧xG K C f∧fs.lookup f=some v∧Q v H1
def xqi(K:ag)(ta tv:TE)(f:Str):TS:=fun D σ H=>tv σ H fun y H1=>ta σ H1 fun x H2=>∃a C dx fs,x= .ref a∧H2 a=some (.ins C dx fs)∧Cls K C∧xG K C f∧fs.length<1000∧
 D.nx σ (upd H2 a (.ins C dx (uy f y fs)))
section
variable {X:Cx} {o e value:Expr} {f:Str} {pos pos' tpos:Pos} {ta tv:TE}
theorem xw(he:PE X e ta)(hb:gu e f X.env (eval e X.env)=eval e X.env):PE X (.Attribute e f pos) (xrO X.K ta f):=by
 intro pins s σ H Q I h;refine xkl hb (thn (he pins s σ H _ I h) fun u s1 ⟨x,H1,I1,rx,a,C,dx,fs,v,ex,ea,c,n,l,q⟩=>?_);subst ex;obtain rfl:u=aB a:=rx;exact xk7 I1 ea c n l fun u' s2 I2 ru=>⟨v,H1,I2,ru,q⟩
theorem yh(ha:PE X o ta)(hv:PE X value tv)(hs:eA value (some (.Attribute o f pos')) pos.line X.env=pure false):PS X (.Assign [.Attribute o f pos'] value pos) (xqi X.K ta tv f):=by
 intro pins s σ H D I h;refine fG (thn (hv pins s σ H _ I h) fun u s1 ⟨y,H1,I1,ry,q⟩=>thn (ha pins s1 σ H1 _ I1 q) fun ov s2 ⟨x,H2,I2,rx,a,C,dx,fs,ex,ea,c,n,l,q2⟩=>?_) hs;subst ex;obtain rfl:ov=aB a:=rx;exact xk8 I2 ea c n l ry fun s3 I3=>⟨σ,_,I3,q2⟩
end
section
variable {X:Cx} {pins:List (Addr×Obj)} {σ:St} {H:Hp} {s:aa} {A:aE} {E:Value→aa→Prop} {Q:Value→aa→Prop} {c:Value} {b:Bool}
inductive zI(K:ag)(H:Hp):V→Value→Prop where
 |non:zI K H .non (.type "NoneType")
 |bl (x:Bool):zI K H (.bl x) (.type "bool")
 |int (i:Int):zI K H (.int i) (.type "int")
 |str (x:Str):zI K H (.str x) (.type "str")
 |flt (x:UInt64):zI K H (.flt x) (.type "float")
 |lst {a:Addr} {xs:List V} (e:H a=some (.lst xs)):zI K H (.ref a) (.type "list")
 |frz {a:Addr} {o:Obj} {xs:List V} (e:H a=some (.frz o (.lst xs))):zI K H (.ref a) (.type "list")
 |tup {a:Addr} {xs:List V} (e:H a=some (.tup xs)):zI K H (.ref a) (.type "tuple")
 |dK {a:Addr} {kvs:List (Key×V)} (e:H a=some (.dK kvs)):zI K H (.ref a) (.type "dict")
 |dT {a:Addr} {kvs:List (List Key×V)} (e:H a=some (.dT kvs)):zI K H (.ref a) (.type "dict")
 |ins {a C dx:Addr} {fs:List (Str×V)} (e:H a=some (.ins C dx fs)) (cl:Cls K C) (ha:aM K (.ref C) "__class__"=some (some (.builtin "object.__class__")))
   (hn:ip K (.builtin "object.__class__") "__get__"=some (some (.builtin "getset_descriptor.__get__"))) (htk:W.takesIn K (.builtin "object.__class__")=some true)
   (hm:fX K C (.type "object")=some true):zI K H (.ref a) (.ref C)
theorem xmg{x:V}{u t:Value}(I:Inv X pins σ H s)(rx:RelV x u)(ty:zI X.K H x t)(e:gM X.K t c=some b)(h:∀tk,Q (.bool b) {s with toks:=tk}):
  wpAny (model X.prog X.w) A (call (.builtin "isinstance") [u,c]) Q E s:=by
 cases ty with
 |non=>cases (show u=aU from rx);exact dw W.kitx_none I.kIn b7 e (fun z=>nomatch z) h
 |bl y=>cases (show u=cU y from rx);exact dw W.kitx_bool I.kIn b7 e (fun z=>nomatch z) h
 |int i=>obtain⟨t,q⟩:=(show∃t,u=gc i t from rx);cases q;exact dw W.kitx_int I.kIn b7 e (fun z=>nomatch z) h
 |str y=>obtain⟨t,q⟩:=(show∃t,u=gd y t from rx);cases q;exact dw W.kitx_str I.kIn b7 e (fun z=>nomatch z) h
 |flt y=>obtain⟨t,q⟩:=(show∃t,u=ki y t from rx);cases q;exact dw W.kitx_float I.kIn b7 e (fun z=>nomatch z) h
 | @lst a xs ea=>
  cases (show u=aB a from rx);obtain⟨_,_,n,_,h1⟩:=(show xX X.prog X.w H s.heap a (.lst xs)from I.hok a _ ea);exact dw W.kitx_list I.kIn ⟨_,h1,rfl⟩ e (fun z=>nomatch z) h
 | @frz a ob xs ea=>
  cases (show u=aB a from rx);obtain⟨_,_,_,n,_,h1⟩:=(show xX X.prog X.w H s.heap a (.frz ob (.lst xs))from I.hok a _ ea);exact dw W.kitx_list I.kIn ⟨_,h1,rfl⟩ e (fun z=>nomatch z) h
 | @tup a xs ea=>
  cases (show u=aB a from rx);obtain⟨_,_,_,p⟩:=(show xX X.prog X.w H s.heap a (.tup xs)from I.hok a _ ea);obtain⟨o,h1,h2,_⟩:=p;exact dw W.kitx_tuple I.kIn ⟨o,h1,h2⟩ e (fun z=>nomatch z) h
 | @dK a kvs ea=>
  cases (show u=aB a from rx);obtain⟨_,_,vs,_,p⟩:=(show xX X.prog X.w H s.heap a (.dK kvs)from I.hok a _ ea);obtain⟨o,es,ep,h1,h2,_⟩:=p;exact dw W.kitx_dict I.kIn ⟨o,h1,h2.1⟩ e (fun z=>nomatch z) h
 | @dT a kvs ea=>
  cases (show u=aB a from rx);obtain⟨_,_,xs,_,o,es,ep,h1,h2,_⟩:=(show xX X.prog X.w H s.heap a (.dT kvs)from I.hok a _ ea);exact dw W.kitx_dict I.kIn ⟨o,h1,h2.1⟩ e (fun z=>nomatch z) h
 | @ins a C dx fs ea cl ha hn htk hm=>
  cases (show u=aB a from rx);obtain⟨mA,O,_⟩:=xez I.hok ea;obtain⟨od,J,_⟩:=O.look;exact dw (W.kitx_own (cl.get _) cl.hd ha hn htk hm) I.kIn J e (fun z=>nomatch z) h
end
end L2
namespace L2
open PySem PySem.Spec PyProof.Rows
structure xS(k:Nat)(A:aE):Prop where
 hd:A.handled=none
 dp:A.depth+3*k+5<ix
 un:A.units+16*k+200<cLine
theorem xS.mono{j k:Nat}{A:aE}(r:xS k A)(h:j≤k):xS j A:=⟨r.hd,by have:=r.dp;lia,by have:=r.un;lia⟩
theorem xS.deeper{k:Nat}{A:aE}(r:xS (k+1) A)(env:Env):xS k (A.deeper env):=
 ⟨r.hd,by have:=r.dp;show A.depth+1+3*k+5<_;lia,by have:=r.un;show A.units+3+16*k+200<_;lia⟩
theorem xk9{A:aE}{C:Addr}{us:List Value}{kw:List (Str×Value)}:(A.under (.builtin "type.__call__" ⟨.ref C::us,kw⟩)).depth=A.depth+1:=by
 first|rfl|simp[j6,Code.weight,Code.isCreation,Code.isGuard,Code.isCaller,Code.frames,j7,guardIds]
theorem xla{A:aE}{C:Addr}{us:List Value}{kw:List (Str×Value)}:(A.under (.builtin "type.__call__" ⟨.ref C::us,kw⟩)).units=A.units+1:=by
 first|rfl|simp[j6,Code.cUnits,Code.frames,j7]
theorem xS.make{k:Nat}{A:aE}(r:xS (k+1) A)(C:Addr)(us:List Value)(kw:List (Str×Value)):xS k (A.under (.builtin "type.__call__" ⟨.ref C::us,kw⟩)):=
 ⟨r.hd,by have:=r.dp;rw[xk9];lia,by have:=r.un;rw[xla];lia⟩
theorem xS.depth{k:Nat}{A:aE}(r:xS k A):A.depth<ix:=by have:=r.dp;lia
theorem xS.units{k:Nat}{A:aE}(r:xS k A):A.units+64<cLine:=by have:=r.un;lia
def vy:TA:=fun _ H Q=>Q [] H
def xfN(ta:TE)(tr:TA):TA:=fun σ H Q=>ta σ H fun x H1=>tr σ H1 fun xs H2=>Q (x::xs) H2
section
variable {X:Cx} {e:Expr} {es:List Expr} {te:TE} {t:TA} {pos:Pos}
theorem xc:PA X [] vy:=fun _ _ _ _ H Q I h=>Calls.spliced_nil ⟨[],H,I,.nil,h⟩
theorem xa(ha:PE X e te)(hr:PA X es t)(hs:aC (e::es) X.env=(false,eval e X.env)::aC es X.env:=by rfl):PA X (e::es) (xfN te t):=by
 intro pos pins s σ H Q I h;rw[hs];show wpAny _ _ (spliced ((false,eval e X.env)::bC pos (aC es X.env))) _ _ s;refine Calls.spliced_cons (thn (ha pins s σ H _ I h) fun u s1 ⟨x,H1,I1,r1,q1⟩=>?_);exact thn (hr pos pins s1 σ H1 _ I1 q1) fun us s2 ⟨xs,H2,I2,r2,q2⟩=>⟨x::xs,H2,I2,.cons r1 r2,q2⟩
def xrP(t:TA):TE:=fun σ H Q=>t σ H fun xs H1=>xs.length≤aN∧∀p,H1 p=none→Q (.ref p) (upd H1 p (.tup xs))
def xrQ(t:TA):TE:=fun σ H Q=>t σ H fun xs H1=>xs.length≤aN∧∀p,H1 p=none→Q (.ref p) (upd H1 p (.lst xs))
theorem yX{x1}(h:PA X es t):PE X (.Tuple es x1 pos) (xrP t):=by
 intro pins s σ H Q I hq;refine wpAny_Tuple_spliced (thn (h pos pins s σ H _ I hq) fun us s1 ⟨xs,H1,I1,r,z,q⟩=>⟨by rw[←r.length];exact z,?_⟩);have hf:H1 s1.heap.objs.size=none:=I1.hok.fresh (ax _);refine⟨.ref s1.heap.objs.size,upd H1 s1.heap.objs.size (.tup xs),I1.laid (t':=s1.toks) (fun b u e=>ai _ e) (ax _) ?_,rfl,q _ hf⟩;exact⟨z,us,r,⟨_,aL _ rfl,rfl,_,rfl⟩⟩
theorem ye(h:PA X es t):PE X (.List es pos) (xrQ t):=by
 intro pins s σ H Q I hq;refine wpAny_List_spliced (thn (h pos pins s σ H _ I hq) fun us s1 ⟨xs,H1,I1,r,z,q⟩=>⟨by rw[←r.length];exact z,?_⟩);have hf:H1 s1.heap.objs.size=none:=I1.hok.fresh (ax _);refine⟨.ref s1.heap.objs.size,upd H1 s1.heap.objs.size (.lst xs),I1.laid (t':=s1.toks) (fun b u e=>ai _ e) (ax _) ?_,rfl,q _ hf⟩;exact⟨z,us,0,r,aL _ rfl⟩
end
abbrev Sp:=List V→Hp→VK→XK→Prop
abbrev CXT:=List Env→Hp→aa→XK→Value→aa→Prop
structure jR(P:ak)(w:World)(K:ag)(mg:Str→Option Value)(base:Heap)(A:aE)(outer:List Env)(s:aa)(H:Hp):Prop where
 frames:A.frames=some outer
 mod:Mod K mg base
 bs:∀b o,base.get? b=some o→s.heap.get? b=some o∧H b=none
 bsz:base.objs.size≤s.heap.objs.size
 funs:s.heap.FunFrames base outer
 frf:∀b∈frs outer,H b=none
 hok:HOk P w H s.heap
 bare:eN s.gens
def CE(outer:List Env)(P:ak)(w:World)(H:Hp)(s:aa)(Q:VK)(u:Value)(s':aa):Prop:=
 ∃v H',s'.os=s.os∧eN s'.gens∧Un (frs outer) [] H H' s.heap s'.heap∧HOk P w H' s'.heap∧RelV v u∧Q v H'
def CR(CX:CXT)(outer:List Env)(P:ak)(w:World)(H:Hp)(s:aa)(Q:VK)(E:XK)(r:gL)(s':aa):Prop:=
 match r with
 | .ok (.ret u)=>CE outer P w H s Q u s'
 | .ok _=>False
 | .error e=>CX outer H s E e s'
structure xy(P:ak)(w:World)(K:ag)(mg:Str→Option Value)(base:Heap)(CX:CXT)(k:Nat)(f:Addr)(fd:aq)(ps:List Str)(sp:Sp):Prop where
 len:∀vs H Q E,sp vs H Q E→vs.length=ps.length
 run:∀(A:aE) (outer:List Env) (s:aa) (H:Hp) (args:Args) (us:List Value) (vs:List V) (Q:VK) (E:XK),xS k A→jR P w K mg base A outer s H→iy s fd args (ps.zip us)→Vals vs us→sp vs H Q E→
  ck (model P w) A (.call (.ref f) args) (CR CX outer P w H s Q E) s
theorem jR.make{P:ak}{w:World}{K:ag}{mg:Str→Option Value}{base:Heap}{A:aE}{outer:List Env}{s:aa}{H:Hp}(e:jR P w K mg base A outer s H)(C:Addr)(us:List Value)(kw:List (Str×Value)):
  jR P w K mg base (A.under (.builtin "type.__call__" ⟨.ref C::us,kw⟩)) outer s H:=⟨by first|exact e.frames|(simpa [j6,Code.envs,j7,pushEnvs]using e.frames),e.mod,e.bs,e.bsz,e.funs,e.frf,e.hok,e.bare⟩
section
variable {X:Cx} {pins:List (Addr×Obj)} {σ:St} {H:Hp} {s s':aa}
theorem Inv.env0(I:Inv X pins σ H s):jR X.prog X.w X.K X.mg X.base X.A X.stack s H:=
 ⟨I.ok.frames,I.ok.mod,I.bs,bw I.ok.bsz I.sz,I.stack,I.stkFree,I.hok,I.bare⟩
theorem Inv.after{Q:VK}{u:Value}(I:Inv X pins σ H s)(h:CE X.stack X.prog X.w H s Q u s'):EP X pins σ Q u s':=by
 obtain⟨v,H',os,bare,un,hok,r,q⟩:=h;obtain⟨hh,g,d,t,os'⟩:=s';obtain rfl:os'=s.os:=os;exact⟨v,H',I.call (h':=hh) (g':=g) (d':=d) (t':=t) (ch:=[]) un hok bare (fun b z=>absurd z (by simp)),r,q⟩
end
def xeA(sp:Sp)(dvs:List V)(E:XK)(t:TA):TE:=fun σ H Q=>t σ H fun vs H1=>sp (vs++dvs) H1 Q E
def zr(C:Addr)(m:Str)(sp:Sp)(dvs:List V)(E:XK)(ta:TE)(t:TA):TE:=fun σ H Q=>ta σ H fun x H1=>∃a dx fs,x= .ref a∧H1 a=some (.ins C dx fs)∧fs.lookup m=none∧
 t σ H1 fun vs H2=>sp (x::(vs++dvs)) H2 Q E
def xrb(C:Addr)(sp:Sp)(dvs:List V)(E:XK)(t:TA):TE:=fun σ H Q=>t σ H fun vs H1=>∀x dx,H1 x=none→H1 dx=none→dx≠x→
 sp (.ref x::(vs++dvs)) (upd (upd H1 dx (.own x)) x (.ins C dx [])) (fun v H2=>v= .non∧Q (.ref x) H2) E
def Binds(K:ag)(fd:aq)(ps:List Str)(ds:List Value):Prop:=
 ∀(s:aa) (us:List Value),K.In s.heap→(us++ds).length=ps.length→iy s fd ⟨us,[]⟩ (ps.zip (us++ds))
theorem Binds.all{K:ag}{fd:aq}{ps:List Str}(h:∀us:List Value,us.length=ps.length→dX fd ⟨us,[]⟩=pure (ps.zip us)):Binds K fd ps []:=fun s us _ hl=>by
 rw[cE]at hl⊢;exact .of_eq (h us hl)
def Passes(CX:CXT)(X:Cx)(E:XK):Prop:=∀(pins:List (Addr×Obj)) (σ:St) (H:Hp) (s:aa) (e:Value) (s':aa),Inv X pins σ H s→CX X.stack H s E e s'→X.xe e s'
section
variable {X:Cx} {CX:CXT} {k:Nat} {f C:Addr} {fd:aq} {ps:List Str} {sp:Sp} {dvs:List V} {ds:List Value} {E:XK} {x m:Str} {p pos apos:Pos} {e o:Expr} {es:List Expr} {ta:TE} {t:TA}
theorem xfO{pins:List (Addr×Obj)}{σ:St}{H:Hp}{s:aa}{Q:VK}{us:List Value}{vs:List V}(F:xy X.prog X.w X.K X.mg X.base CX k f fd ps sp)(hr:xS k X.A)(hb:Binds X.K fd ps ds)(hd:Vals dvs ds)(hx:Passes CX X E)
  (I:Inv X pins σ H s) (r:Vals vs us) (h:sp (vs++dvs) H Q E):wpAny (model X.prog X.w) X.A (call (.ref f) us) (EP X pins σ Q) X.xe s:=by
 have r2:Vals (vs++dvs) (us++ds):=r.append hd;have hl:(us++ds).length=ps.length:=by rw[←r2.length];exact F.len _ _ _ _ h
 refine cV (bU (F.run X.A X.stack s H ⟨us,[]⟩ (us++ds) (vs++dvs) Q E hr I.env0 (hb s us I.kIn hl) r2 h) fun r s' hq=>?_);cases r with
 |error e=>exact hx pins σ H s e s' I hq
 |ok fl=>
  cases fl with
  |ret u=>exact I.after hq
  |next=>exact aV hq
  |brk=>exact aV hq
  |cont=>exact aV hq
theorem xD(F:xy X.prog X.w X.K X.mg X.base CX k f fd ps sp)(hr:xS k X.A)(hg:Gl X x)(hm:X.mg x=some (.ref f))(hk:bW X.K (.ref f)=true)(hb:Binds X.K fd ps ds)(hd:Vals dvs ds)(hx:Passes CX X E)
  (ha:PA X (e::es) t) (hdb:(x==("__debug__":Str))=false:=by decide) (he:aC (e::es) X.env=(false,eval e X.env)::aC es X.env:=by rfl) (hpl:(bC pos (aC es X.env)).any (·.1)=false:=by rfl):
  PE X (.Call (.Name x p) (e::es) [] pos) (xeA sp dvs E t):=by
 intro pins s σ H Q I h;refine bO (zw I hg hm ?_ hdb);refine eo (h₀:=X.base) I.ok.mod.kin hk (thn (ha pos pins s σ H _ I h) fun us s1 ⟨vs,H1,I1,r,q⟩=>⟨I1.kIn,?_⟩) he hpl;exact xfO F hr hb hd hx I1 r q
theorem zd{pl:Sem Bool}(he:PE X o ta)(c:Cls X.K C)(hm:Meth X.K C m f)(F:xy X.prog X.w X.K X.mg X.base CX k f fd ps sp)(hr:xS k X.A)(hb:Binds X.K fd ps ds)(hd:Vals dvs ds)(hx:Passes CX X E)(ha:PA X (e::es) t)
  (hst:aC (e::es) X.env=(false,eval e X.env)::aC es X.env:=by rfl) (hpl:(bC pos (aC es X.env)).any (·.1)=false:=by rfl)
  (ht:eval (.Call (.Attribute o m apos) (e::es) [] pos) X.env=(do
   let ov ←eval o X.env
   fE apos.atName
   let(f,first) ←ee [ov] (eB ov m pl)
   dY pos f first (bC pos (aC (e::es) X.env)) (fy pos (dZ [] X.env))):=by rfl):
  PE X (.Call (.Attribute o m apos) (e::es) [] pos) (zr C m sp dvs E ta t):=by
 intro pins s σ H Q I h;refine c8 (pl:=pl) (thn (he pins s σ H _ I h) fun u s1 ⟨x,H1,I1,rx,a,dx,fs,ex,ea,l,q⟩=>?_) ht;subst ex;obtain rfl:u=aB a:=rx;refine vg I1 ea c hm l ?_;refine eo (first:=[.ref a]) (h₀:=X.base) I.ok.mod.kin hm.kp (thn (ha pos pins s1 σ H1 _ I1 q) fun us s2 ⟨vs,H2,I2,r,q2⟩=>⟨I2.kIn,?_⟩) hst hpl;exact xfO (us:=.ref a::us) (vs:=.ref a::vs) F hr hb hd hx I2 (.cons rfl r) q2
theorem xQ{pl:Sem Bool}(he:PE X o ta)(c:Cls X.K C)(hm:Meth X.K C m f)(F:xy X.prog X.w X.K X.mg X.base CX k f fd ps sp)(hr:xS k X.A)(hb:Binds X.K fd ps ds)(hd:Vals dvs ds)(hx:Passes CX X E)
  (ht:eval (.Call (.Attribute o m apos) [] [] pos) X.env=(do
   let ov ←eval o X.env
   fE apos.atName
   let(f,first) ←ee [ov] (eB ov m pl)
   dY pos f first (bC pos (aC [] X.env)) (fy pos (dZ [] X.env))):=by rfl):
  PE X (.Call (.Attribute o m apos) [] [] pos) (zr C m sp dvs E ta vy):=by
 intro pins s σ H Q I h;refine c8 (pl:=pl) (thn (he pins s σ H _ I h) fun u s1 ⟨x,H1,I1,rx,a,dx,fs,ex,ea,l,q⟩=>?_) ht;subst ex;obtain rfl:u=aB a:=rx;refine vg I1 ea c hm l ?_;exact i3 (first:=[.ref a]) I1.kIn hm.kp (xfO (us:=[.ref a]) (vs:=[.ref a]) F hr hb hd hx I1 (.cons rfl .nil) q)
structure Mk(K:ag)(C f:Addr):Prop where
 makes:W.makesIn K C=true
 init:aM K (.ref C) "__init__"=some (some (.ref f))
 fn:W.isFn K (.ref f)=true
 kp:bW K (.ref C)=true
theorem xnq{pins:List (Addr×Obj)}{σ:St}{H:Hp}{s:aa}{Q:VK}{us:List Value}{vs:List V}(M:Mk X.K C f)(F:xy X.prog X.w X.K X.mg X.base CX k f fd ps sp)(hr:xS (k+1) X.A)(hb:Binds X.K fd ps ds)(hd:Vals dvs ds)
  (hx:Passes CX X E) (I:Inv X pins σ H s) (r:Vals vs us)
  (h:∀x dx,H x=none→H dx=none→dx≠x→sp (.ref x::(vs++dvs)) (upd (upd H dx (.own x)) x (.ins C dx [])) (fun v H2=>v= .non∧Q (.ref x) H2) E):
  wpAny (model X.prog X.w) X.A (call (.ref C) us) (EP X pins σ Q) X.xe s:=by
 have hq:=h (s.heap.objs.size+1) s.heap.objs.size (I.hok.fresh (dy _)) (I.hok.fresh (ax _)) (aG (Nat.lt_succ_self _));have I2:=Inv.made (C:=C) I;have r2:Vals (V.ref (s.heap.objs.size+1)::(vs++dvs)) (aB (s.heap.objs.size+1)::(us++ds)):=.cons rfl (r.append hd);have hl:(aB (s.heap.objs.size+1)::us++ds).length=ps.length:=by
  have e:=r2.length;rw[F.len _ _ _ _ hq]at e;exact e.symm
 refine cV (xnp (f:=f) I.kIn M.makes M.init (beq_iff_eq.mp M.fn) (bU (F.run _ X.stack _ _ ⟨aB (s.heap.objs.size+1)::us,[]⟩ (aB (s.heap.objs.size+1)::(us++ds)) _ _ E (hr.make C us [])
  (I2.env0.make C us []) (hb _ (aB (s.heap.objs.size+1)::us) I2.kIn hl) r2 hq) fun r s' hq'=>?_))
 cases r with
 |error e=>exact hx pins σ _ _ e s' I2 hq'
 |ok fl=>
  cases fl with
  |ret u=>
   obtain⟨v,H',I3,rv,ev,q3⟩:=I2.after hq';subst ev;exact⟨rv,⟨V.ref (s.heap.objs.size+1),H',I3,rfl,q3⟩⟩
  |next=>exact aV hq'
  |brk=>exact aV hq'
  |cont=>exact aV hq'
theorem xa1(M:Mk X.K C f)(F:xy X.prog X.w X.K X.mg X.base CX k f fd ps sp)(hr:xS (k+1) X.A)(hg:Gl X x)(hm:X.mg x=some (.ref C))(hb:Binds X.K fd ps ds)(hd:Vals dvs ds)(hx:Passes CX X E)
  (ha:PA X (e::es) t) (hdb:(x==("__debug__":Str))=false:=by decide) (he:aC (e::es) X.env=(false,eval e X.env)::aC es X.env:=by rfl) (hpl:(bC pos (aC es X.env)).any (·.1)=false:=by rfl):
  PE X (.Call (.Name x p) (e::es) [] pos) (xrb C sp dvs E t):=by
 intro pins s σ H Q I h;refine bO (zw I hg hm ?_ hdb);refine eo (h₀:=X.base) I.ok.mod.kin M.kp (thn (ha pos pins s σ H _ I h) fun us s1 ⟨vs,H1,I1,r,q⟩=>⟨I1.kIn,?_⟩) he hpl;exact xnq M F hr hb hd hx I1 r q
end
section
variable {X:Cx} {CX:CXT} {k:Nat} {f C:Addr} {fd:aq} {ps ks:List Str} {sp:Sp} {E:XK} {x m:Str} {p pos apos kpos:Pos} {e o:Expr} {es:List Expr} {kws:List Keyword} {te ta:TE} {t tk:TA} {nm:Option Str}
variable {g:List Value→List Value→List Value} {gV:List V→List V→List V}
end
structure xr(N P:List Str)(sc:Scope):Prop where
 kind:sc.kind= .function
 co:sc.isCoroutine=false
 gen:sc.isGenerator=false
 nd:N.Nodup
 pre:N.take P.length=P
 par:∀x∈P,sc.names.lookup x=some .local∨sc.names.lookup x=some .cell
 nofree:∀y∈sc.names,y.2≠.free
theorem xhw{kindOf:Str→Option cP}{x:Str}:∀{binds:List (Str×Value)} {m:Str→Option Value},(∀v,(x,v)∉binds)→bindL kindOf binds m x=m x
 |[],_,_=>rfl
 |(n,v)::r,m,h=>by
  unfold bindL;rw[xhw fun w hw=>h w (aS _ hw)]
  split
  ·have:x≠n:=by rintro rfl;exact h v ba
   simp[this]
  ·rfl
theorem xhx{kindOf:Str→Option cP}{x:Str}:∀{binds:List (Str×Value)} {m:Str→Option Value},(∀v,(x,v)∉binds)→bindC kindOf binds m x=m x
 |[],_,_=>rfl
 |(n,v)::r,m,h=>by
  unfold bindC;rw[xhx fun w hw=>h w (aS _ hw)]
  split
  ·rfl
  ·have:x≠n:=by rintro rfl;exact h v ba
   simp[this]
theorem xhy{kindOf:Str→Option cP}{x:Str}{v:Value}:∀{P:List Str} {vs:List Value} {i:Nat} {m:Str→Option Value},P.Nodup→P[i]? =some x→vs[i]? =some v→kindOf x=some .local→
  bindL kindOf (P.zip vs) m x=some v
 |[],_,_,_,_,h,_,_=>by simp at h
 |_::_,[],_,_,_,_,h,_=>by simp at h
 |p::P,w::vs,0,m,nd,h1,h2,hk=>by
  simp at h1 h2;subst h1;subst h2;show bindL kindOf ((p,w)::P.zip vs) m p=_;unfold bindL;rw[xhw fun v hv=>(bp.mp nd).1 (cF hv).1,if_pos hk];simp
 |p::P,w::vs,i+1,m,nd,h1,h2,hk=>by
  show bindL kindOf ((p,w)::P.zip vs) m x=_;unfold bindL;exact xhy (i:=i) (bp.mp nd).2 (by simpa using h1) (by simpa using h2) hk
theorem xhz{kindOf:Str→Option cP}{x:Str}{v:Value}:∀{P:List Str} {vs:List Value} {i:Nat} {m:Str→Option Value},P.Nodup→P[i]? =some x→vs[i]? =some v→kindOf x≠some .local→
  bindC kindOf (P.zip vs) m x=some v
 |[],_,_,_,_,h,_,_=>by simp at h
 |_::_,[],_,_,_,_,h,_=>by simp at h
 |p::P,w::vs,0,m,nd,h1,h2,hk=>by
  simp at h1 h2;subst h1;subst h2;show bindC kindOf ((p,w)::P.zip vs) m p=_;unfold bindC;rw[xhx fun v hv=>(bp.mp nd).1 (cF hv).1,if_neg hk];simp
 |p::P,w::vs,i+1,m,nd,h1,h2,hk=>by
  show bindC kindOf ((p,w)::P.zip vs) m x=_;unfold bindC;exact xhz (i:=i) (bp.mp nd).2 (by simpa using h1) (by simpa using h2) hk
def start(N:List Str)(vs:List V):St:=vs.map some++aQ (N.length - vs.length) none
def uz(CX:CXT)(P:ak)(w:World)(K:ag)(mg:Str→Option Value)(base:Heap)(N:List Str)(qual:Str)(scope:Scope)(f:Addr)(cd:Value)(A:aE)(outer:List Env)(s:aa)(H:Hp)(E:XK):Cx where
 prog:=P
 w:=w
 K:=K
 mg:=mg
 base:=base
 A:=A.deeper (di qual scope s.heap.objs.size f cd)
 N:=N
 s₀:=s
 H₀:=H
 env:=di qual scope s.heap.objs.size f cd
 outer:=outer
 stack:=di qual scope s.heap.objs.size f cd::outer
 ex:=[]
 calm:=true
 cp:=fun _=>true
 fn:=fun _=>true
 pn:=[]
 xe:=fun e s'=>wpAny (model P w) (A.deeper (di qual scope s.heap.objs.size f cd)) (iz (di qual scope s.heap.objs.size f cd) e) (fun _ s''=>CX outer H s E e s'') (fun e' s''=>CX outer H s E e' s'') s'
theorem xiv{sc:Scope}{n:Nat}{x:Str}(h:sc.names.lookup x=some .cell):∃c,(fF n sc.names []).lookup x=some c:=by
 have q:=dz sc.names n [] (.inl h);exact gN.mp q
theorem xao{CX:CXT}{P:ak}{w:World}{K:ag}{mg:Str→Option Value}{base:Heap}{N ps:List Str}{qual:Str}{scope:Scope}{f:Addr}{cd:Value}{A:aE}{outer:List Env}{s s1:aa}{H:Hp}{E:XK}{us:List Value}{vs:List V}
  (S:xr N ps scope) (hd:A.handled=none) (e0:jR P w K mg base A outer s H) (hl:vs.length=ps.length) (r:Vals vs us)
  (x:InCallC s s.heap.objs.size (bindL (di qual scope s.heap.objs.size f cd).kindOf (ps.zip us) fun _=>none) (fF (s.heap.objs.size+1) scope.names []) (bindC (di qual scope s.heap.objs.size f cd).kindOf (ps.zip us) fun _=>none) s1):
  Inv (uz CX P w K mg base N qual scope f cd A outer s H E) [] (start N vs) H s1:=by
 have hpl:ps.length≤N.length:=by have:=congrArg iq S.pre;rw[bQ]at this;lia
 obtain⟨h1,tk,rfl,hk⟩:=x.done;have noA:∀b:Addr,b∉(uz CX P w K mg base N qual scope f cd A outer s H E).ex:=fun b z=>absurd (show b∈([]:List Addr)from z) (by simp);refine⟨⟨e0.mod,S.kind,rfl,rfl,ax _,fun y z c h1 h2=>?_,fun y hy=>?_,fun y c _ h=>?_,fun _=>hd,iK e0.frames,.inr ⟨rfl,rfl⟩,fun b z=>absurd z (noA b),e0.bs,e0.bsz,fun b _ _=>noA b,fun b z=>absurd z (noA b),e0.funs,e0.frf,fun y c _ h=>fJ (x.above y c (PySem.mem_of_lookup h)),fun b hb=>e0.hok.fresh hb⟩,
  rfl,e0.bare,Un.kept hk,⟨_,x.toInCall.ns,fun i y v h1 h2 h3=>?_⟩,fun y c h=>⟨_,x.cell y c h⟩,e0.hok.fresh (ax _),fun y c h=>.inl ?_,fun p hp=>absurd (show p∈([]:List (Addr×Obj))from hp) (by simp),e0.hok.kept hk,?_⟩
 ·exact name_of_addr x.apart (PySem.mem_of_lookup h1) (PySem.mem_of_lookup h2)
 ·have hy:scope.names.lookup y=some .cell∨scope.names.lookup y=some .free:=hy;rcases hy with hy|hy
  ·exact xiv hy
  ·exact absurd rfl (S.nofree _ (PySem.mem_of_lookup hy))
 ·exact fJ (x.above y c (PySem.mem_of_lookup h))
 ·have hi:i<vs.length:=by
   unfold start at h2
   by_cases hi:i<vs.length
   ·exact hi
   ·rw[bN (by simpa using hi)]at h2;rw[g9]at h2
    split at h2<;> cases h2
  have ha:vs[i]? =some v:=by
   unfold start at h2;rw[bF (by simpa using hi),aD]at h2;cases e:vs[i]? with
   |none=>rw[e]at h2;cases h2
   |some a=>rw[e]at h2;cases h2;rfl
  obtain⟨u,hu,rv⟩:=r.get ha;have hp:ps[i]? =some y:=by
   rw[←S.pre,dA (by lia)];exact h1
  have ndP:ps.Nodup:=by rw[←S.pre];exact S.nd.sublist (List.take_sublist _ _)
  refine⟨u,rv,?_⟩;rcases S.par y (aY hp)with k|k
  ·exact .inl ⟨k,xhy ndP hp hu k⟩
  ·obtain⟨c,e⟩:=xiv (n:=s.heap.objs.size+1) k;refine .inr ⟨.inl k,c,e,?_⟩;have q:=x.cell y c e;rw[xhz ndP hp hu (by show scope.names.lookup y≠_;rw[k];decide)]at q;exact q
 ·exact e0.hok.fresh (fJ (x.above y c (PySem.mem_of_lookup h)))
 ·unfold start;show _=N.length;rw[aW,ao,bZ];lia
theorem xfP{CX:CXT}{P:ak}{w:World}{K:ag}{mg:Str→Option Value}{base:Heap}{k:Nat}{f:Addr}{name qual:Str}{params:bV}{body:List Stmt}{scope:Scope}{dV kV doc pm cdv ct oc:Value}{an od:Option Addr}
  {osl:Array (Option Value)} {N ps:List Str} {sp:Sp} (lk:K.lookup f=some ⟨oc,od,.func (bX name qual params body scope dV kV doc pm an cdv ct),osl⟩) (hcd:cG K cdv qual=true) (S:xr N ps scope)
  (len:∀vs H Q E,sp vs H Q E→vs.length=ps.length)
  (hbody:∀(A:aE) (outer:List Env) (s:aa) (H:Hp) (vs:List V) (Q:VK) (E:XK),xS k (A.deeper (di qual scope s.heap.objs.size f cdv))→sp vs H Q E→
   ∃t,PSs (uz CX P w K mg base N qual scope f cdv A outer s H E) body t∧t {nx:=fun _ H'=>Q .non H',rt:=Q} (start N vs) H):
  xy P w K mg base CX (k+1) f (bX name qual params body scope dV kV doc pm an cdv ct) ps sp:=by
 refine⟨len,fun A outer s H args us vs Q E hr e0 hb r hsp=>?_⟩;have hl:=len _ _ _ _ hsp;have KX:K.In s.heap:=e0.mod.kin.keeps fun b o e=>(e0.bs b o e).1;have lim:s.heap.NoLimit:=e0.mod.nolimit.keeps fun b o e=>(e0.bs b o e).1;have hkind:∀y∈ps.zip us,scope.names.lookup y.1=some .local∨(scope.names.lookup y.1=some .cell∧((fF (s.heap.objs.size+1) scope.names []).lookup y.1).isSome=true):=fun⟨n,v⟩ hy=>by
  rcases S.par n (cF hy).1 with q|q
  ·exact .inl q
  ·exact .inr ⟨q,dz _ _ _ (.inl q)⟩
 refine cx hr.depth (KX _ _ lk) rfl S.co S.gen rfl (fM KX hcd) (hb _ _ _ _ ?_);refine cq S.kind hkind fun env he s1 x=>?_;subst he;refine⟨lim.keeps x.toInCall.keep,fN ?_⟩;obtain⟨t,ht,hq⟩:=hbody A outer s H vs Q E (hr.deeper _) hsp;have I:Inv (uz CX P w K mg base N qual scope f cdv A outer s H E) [] (start N vs) H s1:=xao S hr.hd e0 hl r x;refine aI (ht [] s1 (start N vs) H _ I hq) (fun fl s' hs=>?_) fun e s' hs=>hs;have fin:∀{σ':St} {H':Hp} {v:V} {u:Value},Inv (uz CX P w K mg base N qual scope f cdv A outer s H E) [] σ' H' s'→RelV v u→Q v H'→CE outer P w H s Q u s':=
  fun{σ' H' v u} J rv q=>⟨v,H',J.os,J.bare,J.base,J.hok,rv,q⟩
 cases fl with
 |ret u=>
  obtain⟨v,σ',H',J,rv,q⟩:=hs;exact fin J rv q
 |next=>
  obtain⟨σ',H',J,q⟩:=hs;exact fin (v:=V.non) (u:=aU) J rfl q
 |brk=>
  obtain⟨_,_,_,q⟩:=hs;exact aV q
 |cont=>
  obtain⟨_,_,_,q⟩:=hs;exact aV q
end L2
namespace L2
open PySem PySem.Spec PyProof.Rows
section
variable {X:Cx} {x:Str} {p pos:Pos} {e:Expr} {es:List Expr} {t:TA} {id T:String} {r:List V→Hp→VK→Prop}
def tCB(r:List V→Hp→VK→Prop)(t:TA):TE:=fun σ H Q=>t σ H fun vs H1=>r vs H1 Q
theorem xN(hc:yN X (.builtin id) r)(hg:Gl X x)(hm:X.mg x=none)(hv:bB x=some (.builtin id))(ha:PA X (e::es) t)(hn:x≠"__name__":=by decide)(hdb:(x==("__debug__":Str))=false:=by decide)
  (he:aC (e::es) X.env=(false,eval e X.env)::aC es X.env:=by rfl) (hpl:(bC pos (aC es X.env)).any (·.1)=false:=by rfl):PE X (.Call (.Name x p) (e::es) [] pos) (tCB r t):=by
 intro pins s σ H Q I h;refine bO (uQ I hg hm hv ?_ hn hdb);exact PyProof.Rows.callWith_builtin1 (thn (ha pos pins s σ H _ I h) fun us s1 ⟨vs,H1,I1,r1,q1⟩=>hc pins s1 σ H1 vs us Q I1 r1 q1) he hpl
theorem xZ(hc:yN X (.type T) r)(hg:Gl X x)(hm:X.mg x=none)(hv:bB x=some (.type T))(ha:PA X (e::es) t)(hn:x≠"__name__":=by decide)(hdb:(x==("__debug__":Str))=false:=by decide)
  (he:aC (e::es) X.env=(false,eval e X.env)::aC es X.env:=by rfl) (hpl:(bC pos (aC es X.env)).any (·.1)=false:=by rfl):PE X (.Call (.Name x p) (e::es) [] pos) (tCB r t):=by
 intro pins s σ H Q I h;refine bO (uQ I hg hm hv ?_ hn hdb);exact bL (thn (ha pos pins s σ H _ I h) fun us s1 ⟨vs,H1,I1,r1,q1⟩=>hc pins s1 σ H1 vs us Q I1 r1 q1) he hpl
end
end L2
namespace HT
open PySem PyProof.Rows
section
open PySem.SeqAt
open PySem.AutoSeq1 (wpAny_loadPart')
open PySem.MeetsSeq PySem.MeetsSeq2 PySem.MeetsSeq3
end
section
variable {prog:ak} {w:World} {A:aE} {E:Value→aa→Prop} {s:aa}
def sIx(n d:Nat):Option Int→Nat
 |none=>d
 |some v=>if v<0 then(v+(n:Int)).toNat else min v.toNat n
theorem xiw(n d:Nat):sIx n d none=d:=rfl
end
end HT
namespace L2
open PySem PySem.Spec PyProof.Rows
abbrev TO:=St→Hp→(Option Int→Hp→Prop)→Prop
def PO(X:Cx)(e:Option Expr)(t:TO):Prop:=
 ∀(pins:List (Addr×Obj)) (s:aa) (σ:St) (H:Hp) (Q:Option Int→Hp→Prop),Inv X pins σ H s→t σ H Q→
  wpAny (model X.prog X.w) X.A (evalPart e X.env) (fun u s'=>∃o H',Inv X pins σ H' s'∧IsPart u o∧Q o H') X.xe s
def xoI:TO:=fun _ H Q=>Q none H
def xrc(t:TE):TO:=fun σ H Q=>t σ H fun x H1=>∃i,x= .int i∧Q (some i) H1
theorem intsAre_of{ns:List Int}:∀{us:List Value},Vals (ns.map V.int) us→iA us ns:=by
 induction ns with
 |nil=>intro us r;rw[gO]at r;cases r;exact .nil
 |cons n ns ih=>
  intro us r;rw[bq]at r;cases r with
  |cons r1 r2=>
   obtain⟨t,e⟩:=r1;subst e;exact .cons n t (ih r2)
section
variable {X:Cx} {e:Expr} {te:TE} {lo hi:Option Expr} {tl th:TO} {pos p2:Pos}
theorem xa2:PO X none xoI:=by
 intro pins s σ H Q I h;rw[evalPart_none];exact ay ⟨none,H,I,.none,h⟩
theorem xa3(h:PE X e te):PO X (some e) (xrc te):=by
 intro pins s σ H Q I hw;rw[evalPart_some];refine thn (h pins s σ H _ I hw) fun u s1 ⟨x,H1,I1,r1,q1⟩=>?_;obtain⟨i,rfl,q⟩:=q1;obtain⟨t,rfl⟩:=r1;exact⟨some i,H1,I1,.int i t,q⟩
def SlR(X:Cx)(r:V→Option Int→Option Int→Hp→VK→Prop):Prop:=
 ∀(pins:List (Addr×Obj)) (s:aa) (σ:St) (H:Hp) (x:V) (v vl vu:Value) (lo hi:Option Int) (sl:Addr) (Q:VK),Inv X pins σ H s→RelV x v→s.heap.IsSliceOf sl vl vu .none→IsPart vl lo→IsPart vu hi→r x lo hi H Q→
  ∃T id,iL (.type T) "__getitem__"=pure (some (.builtin id))∧s.TypeIs v T∧wpAny (model X.prog X.w) X.A (iB v (.ref sl)) (EP X pins σ Q) X.xe s
def tSl(r:V→Option Int→Option Int→Hp→VK→Prop)(te:TE)(tl th:TO):TE:=fun σ H Q=>te σ H fun x H1=>tl σ H1 fun l H2=>th σ H2 fun u H3=>r x l u H3 Q
theorem jS{r:V→Option Int→Option Int→Hp→VK→Prop}(hr:SlR X r)(he:PE X e te)(hl:PO X lo tl)(hu:PO X hi th):PE X (.Subscript e (.Slice lo hi none p2) pos) (tSl r te tl th):=by
 intro pins s σ H Q I h;refine Subscript_ (thn (he pins s σ H _ I h) fun v s1 ⟨x,H1,I1,r1,q1⟩=>?_);refine wpAny_Slice (thn (hl pins s1 σ H1 _ I1 q1) fun vl s2 ⟨l,H2,I2,pl,q2⟩=>thn (hu pins s2 σ H2 _ I2 q2) fun vu s3 ⟨u,H3,I3,pu,q3⟩=>?_);rw[evalPart_none];refine ay ?_;have I4:Inv X pins σ H3 {s3 with heap:=s3.heap.push {cls:=.type "slice",data:=.fields #[vl,vu,.none]}}:=I3.kept (t':=s3.toks) fun b ob q=>ai _ q;obtain⟨T,id,hT,ht,hg⟩:=hr pins {s3 with heap:=s3.heap.push {cls:=.type "slice",data:=.fields #[vl,vu,.none]}} σ H3 x v vl vu l u s3.heap.objs.size Q I4 r1 (Heap.IsSliceOf.new ..) pl pu q3;show wpAny (model X.prog X.w) X.A (i4 e (.Slice lo hi none p2) v (.ref s3.heap.objs.size)) (EP X pins σ Q) X.xe {s3 with heap:=s3.heap.push {cls:=.type "slice",data:=.fields #[vl,vu,.none]}};exact tail_any (ops:=[.ref s3.heap.objs.size,v]) ht hT hg (by with_unfolding_all rfl)
def xba(xs:List V)(lo hi:Option Int):List V:=(xs.drop (HT.sIx xs.length 0 lo)).take (HT.sIx xs.length xs.length hi - HT.sIx xs.length 0 lo)
theorem xjL(xs:List V)(lo hi:Option Int):(xba xs lo hi).length≤xs.length:=by
 unfold xba;rw[bQ,cQ];lia
end
end L2
namespace L2
open PySem PySem.Spec PyProof.Rows
def ixN(n:Nat)(i:Int):Option Nat:=if 0≤i then(if i<n then some i.toNat else none)else if -(n:Int)≤i then some (i+n).toNat else none
def atI{α:Type}(xs:List α)(i:Int):Option α:=(ixN xs.length i).bind fun j=>xs[j]?
theorem xkm{n:Nat}{i:Int}{j:Nat}(h:ixN n i=some j):seqIndex? i n=some j∧j<n∧-(n:Int)≤i∧i<n:=by
 unfold ixN at h
 by_cases h0:0≤i
 ·rw[if_pos h0]at h
  by_cases h1:i<n
  ·rw[if_pos h1]at h;have e:i.toNat=j:=bh h;exact⟨by rw[seqIndex_of h0 h1,e],by lia,by lia,h1⟩
  ·rw[if_neg h1]at h;cases h
 ·rw[if_neg h0]at h
  by_cases h1: -(n:Int)≤i
  ·rw[if_pos h1]at h;have e:(i+n).toNat=j:=bh h;exact⟨by rw[seqIndex_neg (by lia) h1,e],by lia,h1,by lia⟩
  ·rw[if_neg h1]at h;cases h
theorem xkn{α:Type}{xs:List α}{i:Int}{v:α}(h:atI xs i=some v):∃j,seqIndex? i xs.length=some j∧xs[j]? =some v∧j<xs.length∧-(xs.length:Int)≤i∧i<xs.length:=by
 unfold atI at h;cases e:ixN xs.length i with
 |none=>rw[e]at h;cases h
 |some j=>
  rw[e]at h;obtain⟨h1,h2,h3,h4⟩:=xkm e;exact⟨j,h1,h,h2,h3,h4⟩
theorem xeB{α:Type}{xs:List α}{j:Nat}{v:α}(h:xs[j]? =some v):atI xs (j:Int)=some v:=by
 have hj:j<xs.length:=(az.mp h).1;have e:ixN xs.length (j:Int)=some j:=by
  unfold ixN;rw[if_pos (by lia),if_pos (by lia)];simp
 unfold atI;rw[e];exact h
def xoJ(b:Expr):Prop:=∀o i,ir b false o i=operate [o,i] (iB o i)
def IxR(X:Cx)(r:R2):Prop:=
 ∀(value slice:Expr) (pins:List (Addr×Obj)) (s:aa) (σ:St) (H:Hp) (x y:V) (v u:Value) (Q:VK),Inv X pins σ H s→RelV x v→RelV y u→r x y H Q→
  ir slice false v u=operate [v,u] (iB v u)→wpAny (model X.prog X.w) X.A (i4 value slice v u) (EP X pins σ Q) X.xe s
def MtR(X:Cx)(id:String)(r:V→List V→Hp→VK→Prop):Prop:=
 ∀(pins:List (Addr×Obj)) (s:aa) (σ:St) (H:Hp) (x:V) (xs:List V) (v:Value) (us:List Value) (Q:VK),Inv X pins σ H s→RelV x v→Vals xs us→r x xs H Q→
  wpAny (model X.prog X.w) X.A (call (.builtin id) (v::us)) (EP X pins σ Q) X.xe s
section
variable {X:Cx} {a b:Expr} {ta tb:TE} {pos:Pos}
theorem xA{r:R2}(hr:IxR X r)(ha:PE X a ta)(hb:PE X b tb)(hs:xoJ b):PE X (.Subscript a b pos) (tOp r ta tb):=by
 intro pins s σ H Q I h;exact Subscript_ (xnm ha hb I h fun v u s2 x y H2 I2 rx ry q=>hr a b pins s2 σ H2 x y v u Q I2 rx ry q (hs _ _))
def xqj(K:ag):R2:=fun x y H Q=>∃p xs i v,x= .ref p∧y= .int i∧SqL K H p xs∧atI xs i=some v∧Q v H
def xqk(K:ag):R2:=fun x y H Q=>∃p xs i v,x= .ref p∧y= .int i∧SqT K H p xs∧atI xs i=some v∧Q v H
theorem xV:IxR X (xqj X.K):=by
 intro value slice pins s σ H x y v u Q I rx ry h hs;obtain⟨p,xs,i,z,rfl,rfl,hq,he,q⟩:=h;cases rx;obtain⟨t,rfl⟩:=ry;obtain⟨its,r,pl,hz⟩:=I.list hq;obtain⟨j,h1,h2,h3,h4,h5⟩:=xkn he;obtain⟨w,ew,rw'⟩:=r.get h2;have hl:=r.length;have hn:=xfM;have fin:EP X pins σ Q w s:=⟨z,H,I,rw',q⟩
 by_cases h0:0≤i
 ·have hj:i.toNat=j:=by
   rw[seqIndex_of h0 h5]at h1;exact bh h1
  exact item_listR pl.isList h0 (by lia) (by rw[hj];simpa using ew) fin hs
 ·have hj:(i+(its.toArray.size:Int)).toNat=j:=by
   rw[seqIndex_neg (by lia) h4]at h1;rw[aT,←hl];exact bh h1
  exact subscriptTail_builtinR (x:=w) pl.isList.typeIs slot_list_getitem.lookup
   (wpAny_getItem_list_neg (Q:=fun r s'=>r=w∧EP X pins σ Q r s') pl.isList (by lia) (by rw[aT]<;> lia) (by lia) (by rw[hj];simpa using ew) ⟨rfl,fin⟩) hs
theorem xH:IxR X (xqk X.K):=by
 intro value slice pins s σ H x y v u Q I rx ry h hs;obtain⟨p,xs,i,z,rfl,rfl,hq,he,q⟩:=h;cases rx;obtain⟨t,rfl⟩:=ry;obtain⟨its,r,pl,hz⟩:=I.tuple hq;obtain⟨j,h1,h2,h3,h4,h5⟩:=xkn he;obtain⟨w,ew,rw'⟩:=r.get h2;have hl:=r.length;have hn:=xfM;have fin:EP X pins σ Q w s:=⟨z,H,I,rw',q⟩;exact subscriptTail_builtinR (x:=w) pl.typeIs slot_tuple_getitem.lookup
  (getItem_tuple (j:=j) (Q:=fun r s'=>r=w∧EP X pins σ Q r s') pl (by lia) (by lia) (by rw[aT,←hl];exact h1) (by simpa using ew) ⟨rfl,fin⟩) hs
theorem xlb(its:List Value)(n j:Nat)(u:Value):cW (·.setIfInBounds j u) {cls:=.type "list",data:=.seq its.toArray n}={cls:=.type "list",data:=.seq (its.set j u).toArray n}:=by
 simp[cW]
theorem Inv.lst{pins:List (Addr×Obj)}{σ:St}{H:Hp}{s:aa}{p:Addr}{xs:List V}(I:Inv X pins σ H s)(h:H p=some (.lst xs)):
  ∃(its:List Value) (n:Nat),Vals xs its∧s.heap.get? p=some {cls:=.type "list",data:=.seq its.toArray n}∧xs.length≤aN:=by
 obtain⟨z,its,n,r,e⟩:=I.hok p _ h;exact⟨its,n,r,e,z⟩
theorem Inv.lstUpd{pins:List (Addr×Obj)}{σ:St}{H:Hp}{s:aa}{p:Addr}{xs ys:List V}{its its':List Value}{n n':Nat}{f:Obj→Obj}(I:Inv X pins σ H s)(h:H p=some (.lst xs))
  (ho:s.heap.get? p=some {cls:=.type "list",data:=.seq its.toArray n}) (hf:f {cls:=.type "list",data:=.seq its.toArray n}={cls:=.type "list",data:=.seq its'.toArray n'}) (r:Vals ys its') (hz:ys.length≤aN) (t:Nat):
  Inv X pins σ (upd H p (.lst ys)) {s with heap:=s.heap.update p f,toks:=t}:=by
 have e:(s.heap.update p f).get? p=some {cls:=.type "list",data:=.seq its'.toArray n'}:=by
  rw[a8 f ho (by rw[hf]<;> rfl),hf]
 refine I.write (x:=p) (e:=p) (by rw[h];trivial) (.inl rfl) (fun b u hb q=>(aO _ _ (au hb)).trans q) ⟨_,e⟩ ?_;exact⟨hz,its',n',r,e⟩
def xol:V→V→V→Hp→(Hp→Prop)→Prop:=fun o i v H Q=>∃p xs k j,o= .ref p∧i= .int k∧H p=some (.lst xs)∧ixN xs.length k=some j∧Q (upd H p (.lst (xs.set j v)))
theorem set_list:xnj X xol:=by
 intro pins s σ H o i v ov iv u Q I ro ri rv h;obtain⟨p,xs,k,j,rfl,rfl,hp,hj,q⟩:=h;cases ro;obtain⟨t,rfl⟩:=ri;obtain⟨its,n,r,ho,hz⟩:=I.lst hp;obtain⟨h1,h2,h3,h4⟩:=xkm hj;have hl:=r.length;have hn:=xfM;have I':Inv X pins σ (upd H p (.lst (xs.set j v))) {s with heap:=s.heap.update p (cW (·.setIfInBounds j u))}:=
  I.lstUpd hp ho (xlb its n j u) (r.set rv j) (by rw[cH];exact hz) s.toks
 by_cases h0:0≤k
 ·have hk:k.toNat=j:=by
   rw[seqIndex_of h0 h4]at h1;exact bh h1
  exact W.ki_setAt ho h0 (by lia) (by rw[aT,←hl];exact h4) (by rw[hk];exact⟨_,I',q⟩)
 ·have hk:(k+(its.toArray.size:Int)).toNat=j:=by
   rw[seqIndex_neg (by lia) h3]at h1;rw[aT,←hl];exact bh h1
  exact W.ki_setBack ho (by lia) (by rw[aT,←hl];exact h3) (by lia) (by rw[hk];exact⟨_,I',q⟩)
theorem xix(lo hi:Option Int)(n:Nat):(eO lo hi none n).1=((HT.sIx n 0 lo:Nat):Int)∧(eO lo hi none n).2.1=((HT.sIx n n hi:Nat):Int)∧(eO lo hi none n).2.2=1:=by
 refine⟨?_,?_,rfl⟩
 ·cases lo with
  |none=>simp[eO,HT.sIx]
  |some i=>
   simp only[eO,HT.sIx,km,show(1:Int) > 0 by decide,if_true]
   by_cases h:i<0
   ·simp only[h,if_true]<;> lia
   ·simp only[h,if_false]<;> lia
 ·cases hi with
  |none=>simp[eO,HT.sIx]
  |some i=>
   simp only[eO,HT.sIx,km,show(1:Int) > 0 by decide,if_true]
   by_cases h:i<0
   ·simp only[h,if_true]<;> lia
   ·simp only[h,if_false]<;> lia
theorem xh1(its:List Value)(lo hi:Option Int):slicePick its.toArray lo hi none=((its.drop (HT.sIx its.length 0 lo)).take (HT.sIx its.length its.length hi - HT.sIx its.length 0 lo)).toArray:=by
 obtain⟨h1,h2,h3⟩:=xix lo hi its.toArray.size;unfold slicePick;rw[h1,h2,h3];simp only[sliceRange_one,pick_run,aT]<;> rfl
def xql(K:ag):V→Option Int→Option Int→Hp→VK→Prop:=fun x lo hi H Q=>∃a xs,x= .ref a∧SqL K H a xs∧∀p,H p=none→Q (.ref p) (upd H p (.lst (xba xs lo hi)))
theorem jT:SlR X (xql X.K):=by
 intro pins s σ H x v vl vu lo hi sl Q I rx hs pl pu h;obtain⟨a,xs,rfl,hx,q⟩:=h;cases rx;obtain⟨its,r,ht,hz⟩:=I.list hx;have hlen:=r.length;refine⟨"list",_,slot_list_getitem.lookup,ht.isList.typeIs,?_⟩;refine wpAny_getItem_list_slice ht.isList hs pl pu .none (by simp) ?_ (by rw[aT]<;> lia);rw[xh1,←hlen];refine⟨.ref s.heap.objs.size,_,I.laid (t':=s.toks) (o:=.lst (xba xs lo hi)) (fun b ob q=>ai _ q) (ax _) ?_,rfl,q _ (I.hok.fresh (ax _))⟩;exact⟨bw (xjL xs lo hi) hz,_,0,(r.drop (HT.sIx xs.length 0 lo)).take (HT.sIx xs.length xs.length hi - HT.sIx xs.length 0 lo),aL _ rfl⟩
theorem xU:yN X (.builtin "len") (fun xs H Q=>∃p ys,xs=[.ref p]∧(SqL X.K H p ys∨SqT X.K H p ys)∧Q (.int ys.length) H):=by
 intro pins s σ H xs us Q I r h;obtain⟨p,ys,rfl,hq,q⟩:=h;obtain⟨u,rfl,rx⟩:=vals1 r;cases rx;have hn:=xfM;rcases hq with hq|hq
 ·obtain⟨its,r',pl,hz⟩:=I.list hq;have hlen:=r'.length;exact Calls.call_len_list pl.isList (by simp only[aT]<;> lia) ⟨.int ys.length,H,I.tok _,⟨s.toks+1,by rw[aT,hlen]⟩,q⟩
 ·obtain⟨its,r',pl,hz⟩:=I.tuple hq;have hlen:=r'.length;exact len_tuple pl (by simp only[aT]<;> lia) ⟨.int ys.length,H,I.tok _,⟨s.toks+1,by rw[aT,hlen]⟩,q⟩
theorem zO:yN X (.type "list") (fun xs H Q=>∃p ys,xs=[.ref p]∧(SqL X.K H p ys∨SqT X.K H p ys)∧∀l,H l=none→Q (.ref l) (upd H l (.lst ys))):=by
 intro pins s σ H xs us Q I r h;obtain⟨p,ys,rfl,hq,q⟩:=h;obtain⟨u,rfl,rx⟩:=vals1 r;cases rx;have fin:∀(its:List Value),Vals ys its→ys.length≤aN→∀(h':Heap) (c':Nat),(∀b o',s.heap.get? b=some o'→h'.get? b=some o')→
   h'.get? s.heap.objs.size=some {cls:=.type "list",dict:=none,data:=.seq its.toArray c',slots:=#[]}→EP X pins σ Q (.ref s.heap.objs.size) {s with heap:=h'}:=fun its r' hz h' c' kp e=>
  ⟨.ref s.heap.objs.size,_,I.laid (t':=s.toks) kp (ax _) (show xX X.prog X.w _ h' _ (.lst ys)from⟨hz,its,c',r',e⟩),rfl,q _ (I.hok.fresh (ax _))⟩
 rcases hq with hq|hq
 ·obtain⟨its,r',pl,hz⟩:=I.list hq;have hlen:=r'.length;obtain⟨o,ho,hc,n,hd⟩:=pl.isList;exact call_list_seq p (.inl rfl) ho hc hd (fun h' c' kp e=>fin its r' hz h' c' kp e) (by simp only[aT]<;> lia)
 ·obtain⟨its,r',pl,hz⟩:=I.tuple hq;have hlen:=r'.length;obtain⟨o,ho,hc,n,hd⟩:=pl;exact call_list_seq p (.inr rfl) ho hc hd (fun h' c' kp e=>fin its r' hz h' c' kp e) (by simp only[aT]<;> lia)
theorem zy:yN X (.type "tuple") (fun xs H Q=>∃p ys,xs=[.ref p]∧((SqL X.K H p ys∧∀l,H l=none→Q (.ref l) (upd H l (.tup ys)))∨(SqT X.K H p ys∧Q (.ref p) H))):=by
 intro pins s σ H xs us Q I r h;obtain⟨p,ys,rfl,h⟩:=h;obtain⟨u,rfl,rx⟩:=vals1 r;cases rx;rcases h with⟨hq,q⟩|⟨hq,q⟩
 ·obtain⟨its,r',pl,hz⟩:=I.list hq;have hlen:=r'.length;refine call_tuple_list pl.isList (fun h' kp=>?_) (by simp only[aT]<;> lia);have I1:Inv X pins σ H {s with heap:=h'}:=I.kept (t':=s.toks) kp;have I2:Inv X pins σ (upd H h'.objs.size (.tup ys)) {s with heap:=h'.push {cls:=.type "tuple",data:=.seq its.toArray}}:=
   I1.laid (t':=s.toks) (fun b o e=>ai _ e) (ax _) (show xX X.prog X.w _ _ _ (.tup ys)from⟨hz,its,r',IsTup.new _ _⟩)
  exact⟨.ref h'.objs.size,_,I2,rfl,q _ (I1.hok.fresh (ax _))⟩
 ·obtain⟨its,r',pl,hz⟩:=I.tuple hq;exact call_tuple_same pl ⟨.ref p,H,I,rfl,q⟩
def tyV(K:ag)(T:String)(x:V)(H:Hp):Prop:=match x with
 | .str _=>T="str"
 | .int _=>T="int"
 | .ref p=>(T="list"∧∃xs,SqL K H p xs)∨(T="tuple"∧∃o,K.lookup p=some o∧o.cls= .type "tuple"∧o.dict=none)∨
   (T="dict"∧((∃kvs,H p=some (.dK kvs))∨∃kvs,H p=some (.dT kvs)))∨(T="set"∧∃S n,H p=some (.set S n))
 |_=>False
theorem xqm{pins:List (Addr×Obj)}{σ:St}{H:Hp}{s:aa}{T:String}{x:V}{v:Value}(I:Inv X pins σ H s)(r:RelV x v)(ty:tyV X.K T x H):
  s.TypeIs v T∧∀a,v= .ref a→∃ob,s.heap.get? a=some ob∧ob.dict=none:=by
 cases x with
 |str z=>
  obtain⟨t,rfl⟩:=r;cases (show T="str" from ty);exact⟨typeIs_str s z t,fun _ e=>nomatch e⟩
 |int i=>
  obtain⟨t,rfl⟩:=r;cases (show T="int" from ty);exact⟨typeIs_int s i t,fun _ e=>nomatch e⟩
 |ref p=>
  cases r;rcases ty with⟨rfl,xs,hq⟩|⟨rfl,o,hk,hc,hd⟩|⟨rfl,hk⟩|⟨rfl,S,n,hk⟩
  ·obtain⟨its,_,pl,_⟩:=I.list hq;refine⟨pl.isList.typeIs,fun a e=>?_⟩;cases e;obtain⟨o,n,e,c,hd,_⟩:=pl;exact⟨o,e,hd⟩
  ·refine⟨⟨o,I.kIn p o hk,hc⟩,fun a e=>?_⟩;cases e;exact⟨o,I.kIn _ o hk,hd⟩
  ·have z:∃o,s.heap.get? p=some o∧o.ExactDict:=by
    rcases hk with⟨kvs,hk⟩|⟨kvs,hk⟩
    ·obtain⟨_,_,_,_,o,_,_,e,ex,_⟩:=I.hok p _ hk;exact⟨o,e,ex⟩
    ·obtain⟨_,_,_,_,o,_,_,e,ex,_⟩:=I.hok p _ hk;exact⟨o,e,ex⟩
   obtain⟨o,e,ex⟩:=z;refine⟨⟨o,e,ex.1⟩,fun a e2=>?_⟩;cases e2;exact⟨o,e,ex.2.1⟩
  ·obtain⟨o,_,_,_,e,ex,_⟩:=I.hok p _ hk;refine⟨⟨o,e,ex.1⟩,fun a e2=>?_⟩;cases e2;exact⟨o,e,ex.2.1⟩
 |_=>exact aV ty
def tBM(K:ag)(T:String)(r:V→List V→Hp→VK→Prop)(to:TE)(t:TA):TE:=fun σ H Q=>to σ H fun x H1=>tyV K T x H1∧t σ H1 fun xs H2=>r x xs H2 Q
variable {o e:Expr} {es:List Expr} {to:TE} {t:TA} {name:Str} {apos cpos:Pos} {T id:String} {r:V→List V→Hp→VK→Prop}
theorem xeC(pa:PlainAttrs T)(slot:Slot T name id)(hty:typeOf (.builtin id)=pure (.type "method_descriptor"))(hm:MtR X id r)(ho:PE X o to)(ha:PA X (e::es) t)
  (hbase:gu o name X.env (eval o X.env)=eval o X.env:=by rfl)
  (hfew:((bC cpos (aC (e::es) X.env)).all (fun x=> !x.1)&&(fy cpos (dZ [] X.env)).all (fun x=>x.1.isSome)
   &&decide ((e::es).length+([]:List Keyword).length+(if ([]:List Keyword).isEmpty then 0 else 1)<30))=true:=by rfl)
  (hline:(apos.endLine==cpos.line)=true:=by rfl) (hs:aC (e::es) X.env=(false,eval e X.env)::aC es X.env:=by rfl) (hplain:(bC cpos (aC es X.env)).any (·.1)=false:=by rfl):
  PE X (.Call (.Attribute o name apos) (e::es) [] cpos) (tBM X.K T r to t):=by
 intro pins s σ H Q I h;refine wpAny_Call_method_late hbase hfew hline rfl (thn (ho pins s σ H _ I h) fun v s1 ⟨x,H1,I1,r1,ty,q1⟩=>?_);obtain⟨h1,h2⟩:=xqm I1 r1 ty;refine⟨T,id,pa,slot,hty,h1,h2,?_⟩;have hA:=ha cpos pins s1 σ H1 _ I1 q1;rw[hs]at hA⊢;refine Calls.callWith_builtin (by show(false||(bC cpos (aC es X.env)).any (·.1))=false;rw[hplain]<;> rfl) (Calls.evalArgs_plain ?_);exact thn hA fun us s2 ⟨vs,H2,I2,r2,q2⟩=>hm pins s2 σ H2 x vs v us Q I2 r1 r2 q2
end
end L2
namespace L2
open PySem PySem.Spec PyProof.Rows
def MtM(X:Cx)(id:String)(r:V→List V→Hp→VK→Prop):Prop:=
 ∀(pins:List (Addr×Obj)) (s:aa) (σ:St) (H:Hp) (x:V) (xs:List V) (v:Value) (us:List Value) (Q:VK),Inv X pins σ H s→RelV x v→Vals xs us→r x xs H Q→
  wpAny (model X.prog X.w) X.A (call (.builtin id) (v::us)) (EP X pins σ Q) X.xe s
theorem Vals.one:∀{x:V} {us:List Value},Vals [x] us→∃u,us=[u]∧RelV x u
 |_,_,.cons r .nil=>⟨_,rfl,r⟩
theorem Vals.two:∀{x y:V} {us:List Value},Vals [x,y] us→∃u v,us=[u,v]∧RelV x u∧RelV y v
 |_,_,_,.cons r (.cons q .nil)=>⟨_,_,rfl,r,q⟩
theorem Vals.rep{xs:List V}{us:List Value}(h:Vals xs us):∀k:Nat,Vals (aQ k xs).flatten (aQ k us).flatten
 |0=>.nil
 |k+1=>by
  rw[dG,dG,fq,fq];exact Vals.append h (Vals.rep h k)
theorem foldl_rep(its:List Value):∀(k:Nat) (acc:List Value),
  List.foldl (fun x1 x2=>x1++x2) acc.toArray (aQ k its.toArray)=(acc++(aQ k its).flatten).toArray
 |0,acc=>by simp
 |k+1,acc=>by
  have e:acc.toArray++its.toArray=(acc++its).toArray:=by simp
  have e2:(acc++its)++(aQ k its).flatten=acc++(aQ (k+1) its).flatten:=by
   rw[dG,fq,d8]
  rw[←e2,←foldl_rep its k (acc++its),←e,dG,List.foldl_cons]
section
variable {X:Cx} {pins:List (Addr×Obj)} {σ:St} {H:Hp} {s:aa} {l b:Addr} {xs ys zs:List V}
theorem Inv.lset{its its':List Value}{n:Nat}{f:Array Value→Array Value}{t':Nat}(I:Inv X pins σ H s)(hH:H l=some (.lst xs))
  (e:s.heap.get? l=some {cls:=.type "list",data:=.seq its.toArray n}) (hf:f its.toArray=its'.toArray) (hv:Vals ys its') (hz:ys.length≤aN):
  Inv X pins σ (upd H l (.lst ys)) {s with heap:=s.heap.update l (cW f),toks:=t'}:=by
 have q:=PySem.IsL.update e f;rw[hf]at q;refine I.write (x:=l) (e:=l) (by rw[hH];exact trivial) (.inl rfl) (fun b' u hb hu=>(aO s.heap (cW f) (au hb)).trans hu) ⟨_,q⟩ ?_;exact⟨hz,its',_,hv,q⟩
theorem Inv.lnew{its:List Value}{t':Nat}(I:Inv X pins σ H s)(hv:Vals ys its)(hz:ys.length≤aN):
  Inv X pins σ (upd H s.heap.objs.size (.lst ys)) {s with heap:=s.heap.push {cls:=.type "list",data:=.seq its.toArray},toks:=t'}:=
 I.laid (fun _ _ q=>ai _ q) (ax _) ⟨hz,its,0,hv,aL _ rfl⟩
theorem Inv.fresh(I:Inv X pins σ H s):H s.heap.objs.size=none:=I.hok.fresh (ax _)
theorem Inv.lstM(I:Inv X pins σ H s)(hH:H l=some (.lst xs)):xs.length≤aN∧∃(its:List Value) (n:Nat),Vals xs its∧xs.length=its.length∧s.heap.get? l=some {cls:=.type "list",data:=.seq its.toArray n}:=by
 obtain⟨z,its,n,r,e⟩:=I.hok l _ hH;exact⟨z,its,n,r,r.length,e⟩
theorem xiy{n:Nat}(h:n≤aN):dB n=false:=by
 unfold dB;exact decide_eq_false (by lia)
end
section
variable {X:Cx}
def xoK:V→List V→Hp→VK→Prop:=fun x vs H Q=>∃l xs y,x= .ref l∧vs=[y]∧H l=some (.lst xs)∧xs.length<aN∧Q .non (upd H l (.lst (xs++[y])))
theorem je:MtM X "list.append" xoK:=by
 intro pins s σ H x vs v us Q I rx rv h;obtain⟨l,xs,y,rfl,rfl,hH,hz,q⟩:=h;cases rx;obtain⟨u,rfl,ru⟩:=rv.one;obtain⟨z,its,n,r,hl,e⟩:=I.lstM hH;refine iM F.slot_list_append ⟨_,e,rfl⟩ F.entry_list_append (F.args_list_append_2 _ _) (PySem.list_append l its.toArray n u (by rw[aT];lia)) ⟨e,?_⟩;refine⟨.non,_,I.lset (its':=its++[u]) hH e (by simp) (r.append (.cons ru .nil)) ?_,rfl,q⟩;rw[aW,iC];lia
def xoL:V→List V→Hp→VK→Prop:=fun x vs H Q=>∃l b xs zs,x= .ref l∧vs=[.ref b]∧H l=some (.lst xs)∧H b=some (.lst zs)∧xs.length+zs.length≤aN∧Q .non (upd H l (.lst (xs++zs)))
theorem xmh:MtM X "list.extend" xoL:=by
 intro pins s σ H x vs v us Q I rx rv h;obtain⟨l,b,xs,zs,rfl,rfl,hH,hB,hz,q⟩:=h;cases rx;obtain⟨u,rfl,ru⟩:=rv.one;cases ru;obtain⟨z,its,n,r,hl,e⟩:=I.lstM hH;obtain⟨z2,its2,n2,r2,hl2,e2⟩:=I.lstM hB;have hsz:its.toArray.size+its2.toArray.size≤aN:=by rw[aT,aT];lia
 have hlong:¬(!its.toArray.isEmpty&&dB (its.toArray.size+its2.toArray.size))=true:=by
  rw[xiy hsz,Bool.and_false];exact aJ
 refine iM F.slot_list_extend ⟨_,e,rfl⟩ F.entry_list_extend (F.args_list_extend_2 _ _)
  (AutoSeq1.list_extend_list_list_0 l its.toArray n b its2.toArray n2 hlong (by rw[aT];lia) (by lia)) ⟨e,e2,?_⟩
 refine⟨.non,_,I.lset (its':=its++its2) hH e (by simp) (r.append r2) ?_,rfl,q⟩;rw[aW];lia
def xrR:R2:=fun x y H Q=>∃l b xs zs,x= .ref l∧y= .ref b∧H l=some (.lst xs)∧H b=some (.lst zs)∧xs.length+zs.length≤aN∧∀p,H p=none→Q (.ref p) (upd H p (.lst (xs++zs)))
theorem xiz:OpR X (cu .Add) xrR:=by
 intro pins s σ H x y v u Q I rx ry h;obtain⟨l,b,xs,zs,rfl,rfl,hH,hB,hz,q⟩:=h;cases rx;cases ry;obtain⟨z,its,n,r,hl,e⟩:=I.lstM hH;obtain⟨z2,its2,n2,r2,hl2,e2⟩:=I.lstM hB;refine PySem.P.add_list e e2 ?_ (by rw[aT,aT];lia);have ea:its.toArray++its2.toArray=(its++its2).toArray:=by simp
 rw[ea];exact⟨.ref _,_,I.lnew (t':=s.toks) (r.append r2) (by rw[aW];lia),rfl,q _ I.fresh⟩
def xrS:R2:=fun x y H Q=>∃l k xs,x= .ref l∧y= .int k∧H l=some (.lst xs)∧-(2^63)≤k∧k<2^63∧xs.length*k.toNat≤aN∧
 ∀p,H p=none→Q (.ref p) (upd H p (.lst (aQ k.toNat xs).flatten))
theorem len_rep{α:Type}(xs:List α)(k:Nat):(aQ k xs).flatten.length=k*xs.length:=by
 induction k with
 |zero=>simp
 |succ k ih=>rw[dG,fq,aW,ih,gP,Nat.add_comm]
theorem xfQ:OpR X (cu .Mult) xrS:=by
 intro pins s σ H x y v u Q I rx ry h;obtain⟨l,k,xs,rfl,rfl,hH,h1,h2,hz,q⟩:=h;cases rx;obtain⟨t,rfl⟩:=ry;obtain⟨z,its,n,r,hl,e⟩:=I.lstM hH;have hlen:its.toArray.size*k.toNat≤aN:=by rw[aT,←hl];exact hz
 have hcap:¬its.toArray.size*k.toNat > (2^63 - 1) / 8:=by
  have:(aN:Nat)≤(2^63 - 1) / 8:=by decide
  lia
 have hfit:¬(!Builtin.List.listFitsIndex k)=true:=by
  rw[fitsIndex_both h1 h2];exact aJ
 have hlong:¬dB (its.toArray.size*k.toNat)=true:=by
  rw[xiy hlen];exact aJ
 have hnew:List.foldl (fun x1 x2=>x1++x2) #[] (aQ (if its.toArray.isEmpty=true then 0 else k.toNat) its.toArray)=(aQ k.toNat its).flatten.toArray:=by
  have f0:∀m:Nat,List.foldl (fun x1 x2=>x1++x2) #[] (aQ m its.toArray)=(aQ m its).flatten.toArray:=fun m=>by
   have:=foldl_rep its m [];rw[ib]at this;exact this
  rw[f0];cases its with
  |nil=>simp
  |cons a r'=>rw[if_neg (by simp)]
 refine wpAny_binaryOp_repeat_ref (T:="list") (U:="int") (by decide) ⟨_,e,rfl⟩ (fun s'=>typeIs_int s' k t) noFill_list_mul F.fills_int_mul F.slot_int_rmul repeat_list F.slot_int_index.lookup
  (iM F.slot_int_rmul (typeIs_int s k t) F.entry_int_rmul (F.args_int_rmul_2 _ _) (int___rmul___int_list k t l its.toArray n)
   ⟨e,rfl,⟨_,e,rfl⟩,iM F.slot_list_mul ⟨_,e,rfl⟩ F.entry_list_mul (F.args_list_mul_2 _ _) (AutoListH.list___mul___list_int_3 l its.toArray n k t hfit hcap hlong) ⟨e,?_⟩⟩)
 rw[hnew];exact⟨.ref _,_,I.lnew (t':=s.toks) (r.rep k.toNat) (by rw[len_rep,gQ];exact hz),rfl,q _ I.fresh⟩
end
section
variable {prog:ak} {w:World} {A:aE} {E:Value→aa→Prop} {s:aa}
set_option maxRecDepth 100000 in
end
section
variable {X:Cx}
end
end L2
namespace L2
open PySem PySem.Spec PyProof.Rows
section
variable {κ:Type} [DecidableEq κ]
def zt(kvs:List (κ×V))(k:κ):Option V:=(kvs.find? fun kv=>decide (kv.1=k)).map (·.2)
def putK(kvs:List (κ×V))(k:κ)(v:V):List (κ×V):=
 if (kvs.any fun kv=>decide (kv.1=k))=true then kvs.map (fun kv=>if kv.1=k then(kv.1,v)else kv)else kvs++[(k,v)]
theorem xnr{k:κ}:zt ([]:List (κ×V)) k=none:=rfl
theorem zh{p:κ×V}{r:List (κ×V)}{k:κ}(e:p.1=k):zt (p::r) k=some p.2:=by simp[zt,cc,e]
theorem zi{p:κ×V}{r:List (κ×V)}{k:κ}(e:¬p.1=k):zt (p::r) k=zt r k:=by simp[zt,cc,e]
theorem xcS(k:κ):∀kvs:List (κ×V),(kvs.any fun kv=>decide (kv.1=k))=(zt kvs k).isSome
 |[]=>rfl
 |p::r=>by
  rw[i5]
  by_cases e:p.1=k
  ·simp only[zh e,decide_eq_true e,gR,Option.isSome_some]
  ·rw[zi e,decide_eq_false e,gv];exact xcS k r
theorem xiA(k j:κ)(y:V):∀kvs:List (κ×V),zt (kvs.map fun kv=>if kv.1=k then(kv.1,y)else kv) j=(zt kvs j).map fun x=>if j=k then y else x
 |[]=>rfl
 |p::r=>by
  have ih:=xiA k j y r;rw[bq]
  by_cases h:p.1=k
  ·rw[if_pos h]
   by_cases e:p.1=j
   ·rw[zh (p:=(p.1,y)) e,zh e,fO,if_pos (e.symm.trans h)]
   ·rw[zi (p:=(p.1,y)) e,zi e,ih]
  ·rw[if_neg h]
   by_cases e:p.1=j
   ·rw[zh (p:=p) e,zh e,fO,if_neg (fun z=>h (e.trans z))]
   ·rw[zi (p:=p) e,zi e,ih]
theorem xhA(k j:κ)(y:V):∀kvs:List (κ×V),zt kvs k=none→zt (kvs++[(k,y)]) j=if j=k then some y else zt kvs j
 |[],_=>by
  by_cases e:k=j
  ·rw[if_pos e.symm];exact zh (p:=(k,y)) e
  ·rw[if_neg (fun z=>e z.symm)];exact zi (p:=(k,y)) e
 |p::r,hn=>by
  rw[cR];have hk:¬p.1=k:=fun z=>by rw[zh z]at hn;cases hn
  rw[zi hk]at hn;have ih:=xhA k j y r hn
  by_cases e:p.1=j
  ·rw[zh e,zh e,if_neg (fun z=>hk (e.trans z))]
  ·rw[zi e,zi e,ih]
theorem xns(kvs:List (κ×V))(k j:κ)(y:V):zt (putK kvs k y) j=if j=k then some y else zt kvs j:=by
 unfold putK
 by_cases a:(kvs.any fun kv=>decide (kv.1=k))=true
 ·rw[if_pos a,xiA];rw[xcS]at a
  by_cases e:j=k
  ·obtain⟨x,hx⟩:=gN.mp a;rw[if_pos e,e,hx,fO,if_pos rfl]
  ·rw[if_neg e];cases zt kvs j with
   |none=>rfl
   |some x=>rw[fO,if_neg e]
 ·rw[if_neg a];refine xhA k j y kvs ?_;rw[xcS]at a;cases q:zt kvs k with
  |none=>rfl
  |some x=>rw[q]at a;exact(a rfl).elim
theorem xca(kvs:List (κ×V))(k:κ)(v:V):(putK kvs k v).length≤kvs.length+1:=by
 unfold putK
 split
 ·rw[ao];lia
 ·rw[aW,bD,fP];lia
theorem ux.isSome_eq{o:Option V}{u:Option Value}(r:ux o u):o.isSome=u.isSome:=by
 cases o with
 |none=>cases u with
  |none=>rfl
  |some _=>exact(show False from r).elim
 |some _=>cases u with
  |none=>exact(show False from r).elim
  |some _=>rfl
theorem KV.val{kvs:List (κ×V)}{vs:List (κ×Value)}(r:KV kvs vs)(k:κ):ux (zt kvs k) (gI vs k):=by
 unfold KV at r
 induction r with
 |nil=>exact b7
 | @cons p q ps qs h t ih=>
  obtain⟨h1,h2⟩:=h
  by_cases e:p.1=k
  ·have e':q.1=k:=h1.symm.trans e;have b:gI (q::qs) k=some q.2:=by simp[gI,cc,e']
   rw[zh e,b];exact h2
  ·have e':¬q.1=k:=fun z=>e (h1.trans z);have b:gI (q::qs) k=gI qs k:=by simp[gI,cc,e']
   rw[zi e,b];exact ih
theorem KV.any{kvs:List (κ×V)}{vs:List (κ×Value)}(r:KV kvs vs)(k:κ):(kvs.any fun kv=>decide (kv.1=k))=vs.any fun kv=>decide (kv.1=k):=by
 unfold KV at r
 induction r with
 |nil=>rfl
 |cons h t ih=>rw[i5,i5,ih,h.1]
theorem KV.repl{kvs:List (κ×V)}{vs:List (κ×Value)}(r:KV kvs vs)(k:κ){y:V}{u:Value}(ry:RelV y u):
  KV (kvs.map fun kv=>if kv.1=k then(kv.1,y)else kv) (vs.map fun kv=>if kv.1=k then(kv.1,u)else kv):=by
 unfold KV at r⊢
 induction r with
 |nil=>exact .nil
 | @cons p q ps qs h t ih=>
  rw[bq,bq];refine .cons ?_ ih;obtain⟨h1,h2⟩:=h
  by_cases e:p.1=k
  ·rw[if_pos e,if_pos (h1.symm.trans e)];exact⟨h1,ry⟩
  ·rw[if_neg e,if_neg (fun z=>e (h1.trans z))];exact⟨h1,h2⟩
theorem KV.put{kvs:List (κ×V)}{vs:List (κ×Value)}(r:KV kvs vs)(k:κ){y:V}{u:Value}(ry:RelV y u):KV (putK kvs k y) (stored vs k u):=by
 unfold putK stored;rw[r.any k]
 by_cases e:(vs.any fun kv=>decide (kv.1=k))=true
 ·rw[if_pos e,if_pos e];exact r.repl k ry
 ·rw[if_neg e,if_neg e];exact Paired.snoc r ⟨rfl,ry⟩
theorem KV.length{kvs:List (κ×V)}{vs:List (κ×Value)}(r:KV kvs vs):kvs.length=vs.length:=Paired.length r
end
theorem xeD{P:ak}{w:World}{k:Key}{u:Value}(r:RelV (kV k) u):(yC P w).is k u=true:=by
 cases k with
 |inl i=>obtain⟨t,e⟩:=(show∃t,u=gc i t from r);subst e;exact xjJ P w i t
 |inr x=>obtain⟨t,e⟩:=(show∃t,u=gd x t from r);subst e;exact xjK P w x t
theorem xhB{P:ak}{w:World}:∀{ks:List Key} {us:List Value},Vals (ks.map kV) us→ItemsAre (yC P w) ks us
 |[],_,r=>by rw[gO]at r;cases r;exact .nil
 |k::ks,_,r=>by
  rw[bq]at r;cases r with
  |cons h t=>exact .cons (xeD h) (xhB t)
abbrev KT(H:Hp):List (List Key×V)→List (List Key×Addr×Value)→Prop:=Paired fun p q=>p.1=q.1∧H q.2.1=some (.tup (p.1.map kV))∧RelV p.2 q.2.2
theorem KT.val{H:Hp}{kvs:List (List Key×V)}{xs:List (List Key×Addr×Value)}(r:KT H kvs xs)(k:List Key):ux (zt kvs k) ((atKey xs k).map (·.2)):=by
 induction r with
 |nil=>exact b7
 | @cons p q ps qs h t ih=>
  obtain⟨h1,_,h2⟩:=h
  by_cases e:p.1=k
  ·have e':q.1=k:=h1.symm.trans e;have b:atKey (q::qs) k=some q.2:=by simp[atKey,cc,e']
   rw[zh e,b];exact h2
  ·have e':¬q.1=k:=fun z=>e (h1.trans z);have b:atKey (q::qs) k=atKey qs k:=by simp[atKey,cc,e']
   rw[zi e,b];exact ih
theorem KT.repl{H:Hp}{kvs:List (List Key×V)}{xs:List (List Key×Addr×Value)}(r:KT H kvs xs)(k:List Key){y:V}{u:Value}(ry:RelV y u):
  KT H (kvs.map fun kv=>if kv.1=k then(kv.1,y)else kv) (xs.map (putAt k u)):=by
 induction r with
 |nil=>exact .nil
 | @cons p q ps qs h t ih=>
  rw[bq,bq];refine .cons ?_ ih;obtain⟨h1,h2,h3⟩:=h;unfold putAt
  by_cases e:p.1=k
  ·rw[if_pos e,if_pos (h1.symm.trans e)];exact⟨h1,h2,ry⟩
  ·rw[if_neg e,if_neg (fun z=>e (h1.trans z))];exact⟨h1,h2,h3⟩
theorem KT.put{H:Hp}{kvs:List (List Key×V)}{xs:List (List Key×Addr×Value)}(r:KT H kvs xs)(k:List Key){b:Addr}{y:V}{u:Value}(hb:H b=some (.tup (k.map kV)))(ry:RelV y u):
  KT H (putK kvs k y) (storedH xs k b u):=by
 have e:(kvs.any fun kv=>decide (kv.1=k))=(atKey xs k).isSome:=by
  rw[xcS,(r.val k).isSome_eq,gy]
 unfold putK storedH;rw[e]
 by_cases q:(atKey xs k).isSome=true
 ·rw[if_pos q,if_pos q];exact r.repl k ry
 ·rw[if_neg q,if_neg q];exact Paired.snoc r ⟨rfl,hb,ry⟩
theorem KT.keeps{H H':Hp}{kvs:List (List Key×V)}{xs:List (List Key×Addr×Value)}(r:KT H kvs xs)(ht:∀b ys,H b=some (.tup ys)→H' b=some (.tup ys)):KT H' kvs xs:=
 Paired.mapP r fun _ _ z=>⟨z.1,ht _ _ z.2.1,z.2.2⟩
section
variable {P:ak} {w:World} {H:Hp} {h:Heap} {a:Addr}
theorem xom{u:HO}(ok:HOk P w H h)(e:Rd H a u):xX P w H h a u:=e.ok ok
theorem xfR{kvs:List (Key×V)}(ok:HOk P w H h)(e:Rd H a (.dK kvs)):kvs.length≤aN∧(a==dM)=false∧∃vs,KV kvs vs∧h.DictOf (yC P w) a vs:=
 show xX P w H h a (.dK kvs)from xom ok e
theorem xon{kvs:List (Key×V)}(ok:HOk P w H h)(e:H a=some (.dK kvs)):kvs.length≤aN∧(a==dM)=false∧∃vs,KV kvs vs∧h.DictOf (yC P w) a vs:=xfR ok (.inl e)
theorem xdN{ks:List Key}(ok:HOk P w H h)(e:H a=some (.tup (ks.map kV))):(hZ (yC P w)).is h ks a:=by
 obtain⟨_,its,r,o,h1,h2,n,h3⟩:=(show xX P w H h a (.tup (ks.map kV))from ok a _ e);exact⟨o,its.toArray,n,h1,h2,h3,by simpa using xhB r⟩
theorem xfS{kvs:List (List Key×V)}(ok:HOk P w H h)(e:Rd H a (.dT kvs)):kvs.length≤aN∧(a==dM)=false∧
  ∃xs,KT H kvs xs∧h.DictOfH (hZ (yC P w)) a xs:=by
 obtain⟨z,y,xs,r,o,es,ep,h1,h2,h3,h4,h5⟩:=(show xX P w H h a (.dT kvs)from xom ok e);refine⟨z,y,xs,r,o,es,ep,h1,h2,h3,h4,fun x hx=>?_,h5⟩;have all:∀{l:List (List Key×V)} {m:List (List Key×Addr×Value)},KT H l m→∀x∈m,(hZ (yC P w)).is h x.1 x.2.1:=by
  intro l m q
  induction q with
  |nil=>intro x hx;exact nomatch hx
  | @cons p q ps qs hq t ih=>
   intro x hx;rcases av.mp hx with e|hx
   ·subst e;exact xdN ok (by rw[←hq.1];exact hq.2.1)
   ·exact ih x hx
 exact all r x hx
theorem xrd{kvs:List (List Key×V)}(ok:HOk P w H h)(e:H a=some (.dT kvs)):kvs.length≤aN∧(a==dM)=false∧
  ∃xs,KT H kvs xs∧h.DictOfH (hZ (yC P w)) a xs:=xfS ok (.inl e)
end
def uR(H:Hp)(a:Addr)(y:V)(r:Option V):Prop:=
 (∃kvs k,Rd H a (.dK kvs)∧y=kV k∧r=zt kvs k)∨∃kvs k b,Rd H a (.dT kvs)∧y= .ref b∧H b=some (.tup (k.map kV))∧r=zt kvs k
def xdO(H:Hp)(a:Addr)(y v:V)(H':Hp):Prop:=
 (∃kvs k,H a=some (.dK kvs)∧y=kV k∧kvs.length<aN∧H'=upd H a (.dK (putK kvs k v)))∨
 ∃kvs k b,H a=some (.dT kvs)∧y= .ref b∧H b=some (.tup (k.map kV))∧kvs.length<aN∧H'=upd H a (.dT (putK kvs k v))
theorem uR.k{H:Hp}{a:Addr}{kvs:List (Key×V)}{k:Key}(e:H a=some (.dK kvs)):uR H a (kV k) (zt kvs k):=.inl ⟨kvs,k,.inl e,rfl,rfl⟩
theorem xdO.k{H:Hp}{a:Addr}{kvs:List (Key×V)}{k:Key}{v:V}(e:H a=some (.dK kvs))(hl:kvs.length<aN):xdO H a (kV k) v (upd H a (.dK (putK kvs k v))):=.inl ⟨kvs,k,e,rfl,hl,rfl⟩
section
variable {X:Cx} {pins:List (Addr×Obj)} {σ:St} {H:Hp} {s:aa} {a:Addr} {y v:V} {u r:Value} {o:Option V} {A:aE} {E:Value→aa→Prop}
theorem Inv.big(I:Inv X pins σ H s):dM<s.heap.objs.size:=by
 have h:bf<s.heap.objs.size:=(I.mod.glob.keeps I.bk).lt;exact Nat.lt_trans (by decide) h
theorem xmi{Q:Value→aa→Prop}(hu:A.units+1<cLine)(I:Inv X pins σ H s)(g:uR H a y (some v))(ry:RelV y u)(h:∀w' s',Inv X pins σ H s'→RelV v w'→Q w' s'):
  wpAny (model X.prog X.w) A (iB (.ref a) u) Q E s:=by
 rcases g with⟨kvs,k,e,ey,l⟩|⟨kvs,k,b,e,ey,eb,l⟩
 ·subst ey;obtain⟨z,hd,vs,rel,dd⟩:=xfR I.hok e;obtain⟨w',hw,rw'⟩:=ux.some_of (v:=v) (o:=gI vs k) (by rw[l];exact rel.val k);exact wpAny_getItem_of (xeD ry) dd.mapOf hw (h w' _ (I.tok _) rw')
 ·subst ey;cases (show u=aB b from ry);obtain⟨z,hd,xs,rel,dd⟩:=xfS I.hok e;obtain⟨w',hw,rw'⟩:=ux.some_of (v:=v) (o:=(atKey xs k).map (·.2)) (by rw[l];exact rel.val k);obtain⟨p,hp,hp2⟩:=aH.mp hw;refine wpAny_getItem_heap (eY hu) (xdN I.hok eb) dd hp ?_;rw[hp2];exact h w' _ (I.tok _) rw'
theorem xrT{Q:Value→aa→Prop}(hu:A.units+1<cLine)(I:Inv X pins σ H s)(g:uR H a y o)(ry:RelV y u)(h:∀s',Inv X pins σ H s'→Q (.bool o.isSome) s'):
  wpAny (model X.prog X.w) A (bx .In u (.ref a)) Q E s:=by
 rcases g with⟨kvs,k,e,ey,l⟩|⟨kvs,k,b,e,ey,eb,l⟩
 ·subst ey;obtain⟨z,hd,vs,rel,dd⟩:=xfR I.hok e;refine wpAny_in_of (xeD ry) hd dd.mapOf ?_;rw[←(rel.val k).isSome_eq,←l];exact h _ (I.tok _)
 ·subst ey;cases (show u=aB b from ry);obtain⟨z,hd,xs,rel,dd⟩:=xfS I.hok e;refine wpAny_in_heap (eY hu) (xdN I.hok eb) hd dd ?_;have q:=(rel.val k).isSome_eq;rw[gy]at q;rw[←q,←l];exact h _ (I.tok _)
theorem xoM{Q:Value→aa→Prop}(hu:A.units+1<cLine)(I:Inv X pins σ H s)(g:uR H a y o)(ry:RelV y u)(h:∀s',Inv X pins σ H s'→Q (.bool (!o.isSome)) s'):
  wpAny (model X.prog X.w) A (bx .NotIn u (.ref a)) Q E s:=by
 rcases g with⟨kvs,k,e,ey,l⟩|⟨kvs,k,b,e,ey,eb,l⟩
 ·subst ey;obtain⟨z,hd,vs,rel,dd⟩:=xfR I.hok e;refine wpAny_notIn_of (xeD ry) hd dd.mapOf ?_;rw[←(rel.val k).isSome_eq,←l];exact h _ (I.tok _)
 ·subst ey;cases (show u=aB b from ry);obtain⟨z,hd,xs,rel,dd⟩:=xfS I.hok e;refine wpAny_notIn_heap (eY hu) (xdN I.hok eb) hd dd ?_;have q:=(rel.val k).isSome_eq;rw[gy]at q;rw[←q,←l];exact h _ (I.tok _)
theorem xgP{h':Heap}{t':Nat}{ob:HO}(I:Inv X pins σ H s)(mu:Mut (H a))(hs:eX a s.heap h')(he:∃q,h'.get? a=some q)(new:xX X.prog X.w (upd H a ob) h' a ob):
  Inv X pins σ (upd H a ob) {s with heap:=h',toks:=t'}:=
 I.write (x:=a) (e:=a) mu (.inl rfl) (fun b q hb z=>(hs.2 b hb).trans z) he new
theorem xmj{P:ak}{w:World}{H':Hp}{h':Heap}{kvs:List (Key×V)}{vs:List (Key×Value)}(z:kvs.length≤aN)(hd:(a==dM)=false)(rel:KV kvs vs)(dd:h'.DictOf (yC P w) a vs):
  xX P w H' h' a (.dK kvs):=⟨z,hd,vs,rel,dd⟩
theorem xhC{H':Hp}{Q:Unit→aa→Prop}(hu:A.units+1<cLine)(I:Inv X pins σ H s)(g:xdO H a y v H')(ry:RelV y u)(rv:RelV v r)(h:∀s',Inv X pins σ H' s'→Q () s'):
  wpAny (model X.prog X.w) A (setItem (.ref a) u r) Q E s:=by
 rcases g with⟨kvs,k,e,ey,l,eH⟩|⟨kvs,k,b,e,ey,eb,l,eH⟩
 ·subst ey eH;obtain⟨z,hd,vs,rel,dd⟩:=xon I.hok e;have hz:vs.length≤aN:=by rw[←rel.length];exact z
  have hl:(putK kvs k v).length≤aN:=by have:=xca kvs k v;lia
  refine wpAny_setItem_pairs (hsz:=hz) (xeD ry) dd fun h' dd' hs=>h _ ?_;have he:∃q,h'.get? a=some q:=let⟨q,_,_,hq,_⟩:=dd';⟨q,hq⟩
  exact xgP I (by rw[e];exact b7) hs he (xmj hl hd (rel.put k rv) dd')
 ·subst ey eH;cases (show u=aB b from ry);obtain⟨z,hd,xs,rel,dd⟩:=xrd I.hok e;have hz:xs.length≤aN:=by rw[←Paired.length rel];exact z
  have hl:(putK kvs k v).length≤aN:=by have:=xca kvs k v;lia
  refine wpAny_setItem_heap (hsz:=hz) (eY hu) (xdN I.hok eb) dd fun h' dd' hs=>h _ ?_;obtain⟨q,es,ep,hq,h2,h3,h4,_,h5⟩:=dd';refine xgP I (by rw[e];exact b7) hs ⟨q,hq⟩ ⟨hl,hd,_,(rel.put k eb rv).keeps fun c ys ec=>?_,q,es,ep,hq,h2,h3,h4,h5⟩;rw[xl (xbR ec e (fun z=>nomatch z))];exact ec
end
section
variable {X:Cx} {pins:List (Addr×Obj)} {σ:St} {H:Hp} {s:aa} {a:Addr} {kvs:List (Key×V)} {k:Key} {u:Value} {A:aE} {E:Value→aa→Prop}
end
def xqn(i:Expr):Prop:=∀ov iv,ir i false ov iv=operate [ov,iv] (iB ov iv)
theorem xoN{prog:ak}{w:World}{A:aE}{E:Value→aa→Prop}{s:aa}{env:Env}{value slice:Expr}{pos:Pos}{T id:String}{Q:Value→aa→Prop}
  (hl:iL (.type T) "__getitem__"=pure (some (.builtin id))) (hs:xqn slice)
  (h:wpAny (model prog w) A (eval value env) (fun o s₁=>wpAny (model prog w) A (eval slice env) (fun i s₂=>s₂.TypeIs o T∧wpAny (model prog w) A (iB o i) Q E s₂) E s₁) E s):
  wpAny (model prog w) A (eval (.Subscript value slice pos) env) Q E s:=by
 refine Subscript_ (aI h (fun o s₁ h₁=>aI h₁ (fun i s₂ h₂=>?_) fun _ _ x=>x) fun _ _ x=>x);obtain⟨hT,h₂⟩:=h₂;unfold i4;refine af ?_;rw[getitemInPython_of_ne hT.not_modules];refine af (wpAny_specialOf hT hl ?_);have fin:wpAny (model prog w) A (ir slice false o i) (fun r s₃=>wpAny (model prog w) A (letTemporaryGo value o r >>= fun _=>pure r) Q E s₃) E s₂:=by
  rw[hs o i];exact wpAny_operating (aI h₂ (fun r s₃ h₃=>af (wpAny_letTemporaryGo (ay h₃))) fun _ _ x=>x)
 first
  |exact ay (af fin)
  |exact af (ay (af fin))
  |exact af fin
theorem xjM{X:Cx}{pins:List (Addr×Obj)}{σ:St}{H:Hp}{s:aa}{a:Addr}{y:V}{o:Option V}(I:Inv X pins σ H s)(g:uR H a y o):s.TypeIs (.ref a) "dict":=by
 rcases g with⟨kvs,k,e,_,_⟩|⟨kvs,k,b,e,_,_,_⟩
 ·obtain⟨_,_,vs,_,dd⟩:=xfR I.hok e;exact dd.typeIs
 ·obtain⟨_,_,xs,_,dd⟩:=xfS I.hok e;exact dd.typeIs
def xre(td ty:TE):TE:=fun σ H Q=>td σ H fun x H1=>ty σ H1 fun y H2=>∃a v,x= .ref a∧uR H2 a y (some v)∧Q v H2
def xrU(ty td:TE):TE:=fun σ H Q=>ty σ H fun y H1=>td σ H1 fun x H2=>∃a o,x= .ref a∧uR H2 a y o∧Q (.bl o.isSome) H2
def xoO(ty td:TE):TE:=fun σ H Q=>ty σ H fun y H1=>td σ H1 fun x H2=>∃a o,x= .ref a∧uR H2 a y o∧Q (.bl (!o.isSome)) H2
def xrf(td ty tv:TE):TS:=fun D σ H=>tv σ H fun v H1=>td σ H1 fun x H2=>ty σ H2 fun y H3=>∃a H4,x= .ref a∧xdO H3 a y v H4∧D.nx σ H4
section
variable {X:Cx} {o i e value:Expr} {pos pos' tpos:Pos} {td ty tv:TE}
theorem xcA(hu:X.A.units+1<cLine)(ho:PE X o td)(hi:PE X i ty)(hs:xqn i):PE X (.Subscript o i pos) (xre td ty):=by
 intro pins s σ H Q I h;refine xoN PySem.F.slot_dict_getitem.lookup hs (thn (ho pins s σ H _ I h) fun u s1 ⟨x,H1,I1,rx,q1⟩=>thn (hi pins s1 σ H1 _ I1 q1) fun iv s2 ⟨y,H2,I2,ry,a,v,ex,g,q2⟩=>?_);subst ex;obtain rfl:u=aB a:=rx;exact⟨xjM I2 g,xmi hu I2 g ry fun w' s3 I3 rw'=>⟨v,H2,I3,rw',q2⟩⟩
theorem xmk(hu:X.A.units+1<cLine)(hi:PE X i ty)(ho:PE X o td):PC X .In i o (xrU ty td):=by
 intro pins s σ H Q I h;refine thn (hi pins s σ H _ I h) fun iv s1 ⟨y,H1,I1,ry,q1⟩=>thn (ho pins s1 σ H1 _ I1 q1) fun u s2 ⟨x,H2,I2,rx,a,ov,ex,g,q2⟩=>?_;subst ex;obtain rfl:u=aB a:=rx;exact xrT hu I2 g ry fun s3 I3=>⟨.bl ov.isSome,H2,I3,rfl,q2⟩
theorem xml(hu:X.A.units+1<cLine)(hi:PE X i ty)(ho:PE X o td):PC X .NotIn i o (xoO ty td):=by
 intro pins s σ H Q I h;refine thn (hi pins s σ H _ I h) fun iv s1 ⟨y,H1,I1,ry,q1⟩=>thn (ho pins s1 σ H1 _ I1 q1) fun u s2 ⟨x,H2,I2,rx,a,ov,ex,g,q2⟩=>?_;subst ex;obtain rfl:u=aB a:=rx;exact xoM hu I2 g ry fun s3 I3=>⟨.bl (!ov.isSome),H2,I3,rfl,q2⟩
theorem xgQ(hu:X.A.units+1<cLine)(ho:PE X o td)(hi:PE X i ty)(hv:PE X value tv)(hs:eA value (some (.Subscript o i pos')) pos.line X.env=pure false):
  PS X (.Assign [.Subscript o i pos'] value pos) (xrf td ty tv):=by
 intro pins s σ H D I h;refine wpAny_Assign_Subscript (thn (hv pins s σ H _ I h) fun r s1 ⟨v,H1,I1,rv,q1⟩=>thn (ho pins s1 σ H1 _ I1 q1) fun u s2 ⟨x,H2,I2,rx,q2⟩=>thn (hi pins s2 σ H2 _ I2 q2) fun iv s3 ⟨y,H3,I3,ry,a,H4,ex,g,q3⟩=>?_) hs;subst ex;obtain rfl:u=aB a:=rx;exact xhC hu I3 g ry rv fun s4 I4=>⟨σ,H4,I4,q3⟩
end
theorem xiB{P:ak}{w:World}{H:Hp}(h:Heap)(hb:dM<h.objs.size):xX P w H (h.push {cls:=.type "dict",data:=.dict #[]}) h.objs.size (.dK []):=
 ⟨bM _,beq_eq_false_iff_ne.mpr (au (aG hb)),[],.nil,Heap.DictOf.new h⟩
def xqo:TE:=fun _ H Q=>∀p,H p=none→Q (.ref p) (upd H p (.dK []))
section
variable {X:Cx} {pos:Pos}
theorem xfh:PE X (.Dict [] [] pos) xqo:=fun pins s σ H Q I h=>
 wpAny_Dict_empty ⟨.ref s.heap.objs.size,_,I.laid (a:=s.heap.objs.size) (o:=.dK []) (t':=s.toks) (fun _ _ q=>ai _ q) (ax _) (xiB s.heap I.big),rfl,h _ (I.hok.fresh (ax _))⟩
end
def xiC:List (TE×TE)→St→Hp→(List (V×V)→Hp→Prop)→Prop
 |[],_,H,Q=>Q [] H
 |(tk,tv)::r,σ,H,Q=>tk σ H fun x H1=>tv σ H1 fun y H2=>xiC r σ H2 fun ps H3=>Q ((x,y)::ps) H3
abbrev VV:List (V×V)→List (Value×Value)→Prop:=Paired fun p q=>RelV p.1 q.1∧RelV p.2 q.2
def PPs(X:Cx)(pos:Pos)(keys:List (Option Expr))(values:List Expr)(trs:List (TE×TE)):Prop:=
 ∀(pins:List (Addr×Obj)) (s:aa) (σ:St) (H:Hp) (Q:List (V×V)→Hp→Prop),Inv X pins σ H s→xiC trs σ H Q→
  wpAny (model X.prog X.w) X.A (evalPairs (pairTrees keys values X.env pos)) (fun vs s'=>∃ps H',Inv X pins σ H' s'∧VV ps vs∧Q ps H') X.xe s
theorem xoP{X:Cx}{pos:Pos}:PPs X pos [] [] []:=fun pins s σ H Q I h=>pairTrees_nil_walk ⟨[],H,I,.nil,h⟩
theorem xiD{X:Cx}{pos:Pos}{k v:Expr}{ks:List (Option Expr)}{vs:List Expr}{tk tv:TE}{trs:List (TE×TE)}(hk:PE X k tk)(hv:PE X v tv)(hr:PPs X pos ks vs trs):
  PPs X pos (some k::ks) (v::vs) ((tk,tv)::trs):=fun pins s σ H Q I h=>
 pairTrees_cons_walk (thn (hk pins s σ H _ I h) fun u s1 ⟨x,H1,I1,rx,q1⟩=>thn (hv pins s1 σ H1 _ I1 q1) fun w2 s2 ⟨y,H2,I2,ry,q2⟩=>
  thn (hr pins s2 σ H2 _ I2 q2) fun ws s3 ⟨ps,H3,I3,rel,q3⟩=>⟨(x,y)::ps,H3,I3,.cons ⟨rx,ry⟩ rel,q3⟩)
def xcB(kvs more:List (Key×V)):List (Key×V):=more.foldl (fun acc kv=>putK acc kv.1 kv.2) kvs
theorem KV.merge:∀{more:List (Key×V)} {rs:List (Key×Value)} {kvs:List (Key×V)} {vs:List (Key×Value)},KV more rs→KV kvs vs→KV (xcB kvs more) (merged vs rs):=by
 intro more rs kvs vs r;unfold KV at r
 induction r generalizing kvs vs with
 |nil=>intro q;exact q
 | @cons p q ps qs h t ih=>
  intro r0;have e:KV (putK kvs p.1 p.2) (stored vs q.1 q.2):=by
   have:=r0.put p.1 h.2;rw[←h.1];exact this
  exact ih e
theorem xdp:∀(more kvs:List (Key×V)),(xcB kvs more).length≤kvs.length+more.length
 |[],kvs=>by show kvs.length≤kvs.length+0;lia
 |p::r,kvs=>by
  have h1:=xdp r (putK kvs p.1 p.2);have h2:=xca kvs p.1 p.2;show(xcB (putK kvs p.1 p.2) r).length≤_;rw[bD];lia
theorem xfT{P:ak}{w:World}:∀{kvs:List (Key×V)} {ws:List (Value×Value)},VV (kvs.map fun kv=>(kV kv.1,kv.2)) ws→∃rs,Carries (yC P w) ws rs∧KV kvs rs
 |[],_,r=>by rw[gO]at r;cases r;exact⟨[],b7,.nil⟩
 |p::kvs,_,r=>by
  rw[bq]at r;cases r with
  | @cons a b as bs h t=>
   obtain⟨rs,c,q⟩:=xfT (P:=P) (w:=w) t;obtain⟨b1,b2⟩:=b;exact⟨(p.1,b2)::rs,⟨xeD h.1,rfl,c⟩,.cons ⟨rfl,h.2⟩ q⟩
def xrg(trs:List (TE×TE)):TE:=fun σ H Q=>∀p,H p=none→xiC trs σ (upd H p (.dK [])) fun ps H2=>H2 p=some (.dK [])∧∃kvs:List (Key×V),ps=kvs.map (fun kv=>(kV kv.1,kv.2))∧kvs.length≤15∧Q (.ref p) (upd H2 p (.dK (xcB [] kvs)))
theorem xoQ{X:Cx}{pos:Pos}{keys:List (Option Expr)}{values:List Expr}{trs:List (TE×TE)}(h:PPs X pos keys values trs)(hall:keys.all (·.isSome)=true)(hl:keys.length=values.length)(h0:keys≠[])
  (h15:keys.length≤15):PE X (.Dict keys values pos) (xrg trs):=by
 intro pins s σ H Q I q;have hn:=I.hok.fresh (ax s.heap.objs.size);have I1:=I.laid (a:=s.heap.objs.size) (o:=.dK []) (h':=s.heap.push {cls:=.type "dict",data:=.dict #[]}) (t':=s.toks) (fun _ _ q=>ai _ q) (ax _) (xiB s.heap I.big);refine wpAny_Dict_walk (knd:=yC X.prog X.w) hall hl h0 h15 (thn (h pins _ σ _ _ I1 (q _ hn)) fun ws s2 ⟨ps,H2,I2,rel,e,kvs,ep,lk,q2⟩=>?_);subst ep;obtain⟨rs,c,rk⟩:=xfT (P:=X.prog) (w:=X.w) rel;obtain⟨z,hd,vs0,r0,dd⟩:=xon I2.hok e;cases r0;refine⟨rs,c,dd,fun h' dd' hs=>⟨.ref s.heap.objs.size,_,?_,rfl,q2⟩⟩;have hz:(xcB [] kvs).length≤aN:=by
  have h1:=xdp kvs [];rw[fP]at h1;rw[aZ];lia
 have he:∃q,h'.get? s.heap.objs.size=some q:=let⟨q,_,_,hq,_⟩:=dd';⟨q,hq⟩
 exact xgP I2 (by rw[e];exact b7) hs he (xmj hz hd (rk.merge .nil) dd')
section
variable {X:Cx} {pins:List (Addr×Obj)} {σ:St} {H:Hp} {s:aa} {a:Addr} {y d:V} {u r:Value} {o:Option V} {A:aE} {E:Value→aa→Prop}
end
section
variable {X:Cx} {o e f:Expr} {apos cpos:Pos} {td ty tx:TE}
end
section
variable {X:Cx} {pins:List (Addr×Obj)} {σ:St} {H:Hp} {s:aa} {a:Addr} {kvs:List (Key×V)} {A:aE} {E:Value→aa→Prop}
end
section
variable {X:Cx} {pins:List (Addr×Obj)} {σ:St} {H:Hp} {s:aa} {a:Addr} {y:V} {u:Value} {A:aE} {E:Value→aa→Prop}
end
end L2
namespace Att
open PySem PySem.W PySem.Calls PyProof.Rows
theorem xfU{P:Params}{h:Heap}:∀(ns:List Int) (vs:List Value),WellAll P h vs (ns.map WData.int)→iA vs ns:=by
 intro ns
 induction ns with
 |nil=>
  intro vs w;rw[gO]at w;cases w;exact .nil
 |cons n ns ih=>
  intro vs w;rw[bq]at w;cases w with
  |cons a b=>
   cases a;exact .cons _ _ (ih _ b)
theorem xmm{l:OpenLaw}{n:Nat}(hn:l.most=some n){P:Params}{h:Heap}{args:List WData}{vals:List Value}
  (hpre:l.row.toRowW.claim.pre args=true) (hwl:WellAll P h vals args):
  ∃a vs ns,vals=[aB a]∧args=[WData.list (ns.map WData.int)]∧h.get? a=some {cls:=.type "list",data:=.seq vs.toArray}∧iA vs ns∧ns.length≤n:=by
 have hsh:WShape.hasAll [] args [.list .int]=true:=(pre_splitW hpre).1;have hc:l.pre.holds [] {args:=args}=true:=(pre_splitW hpre).2;obtain⟨d,r,rfl,h1,h2⟩:=hasAllW_cons hsh;obtain rfl:=hasAllW_nil h2;obtain⟨xs,rfl,h3⟩:=hasW_list h1;obtain⟨ns,rfl⟩:=items_int h3;have hlen:ns.length≤n:=by
  unfold OpenLaw.pre at hc;have h4:(WTm.not (.lt (.lit (.int (n:Int))) (.len (.arg 0)))).holds [] {args:=[.list (ns.map .int)]}=true:=by
   have h4:=(holds_andW hc).1;rw[hn]at h4;exact h4
  have h5:=condW_of h4 (w_not (w_lt w_lit (w_len_list (w_arg rfl))));rw[ao]at h5;refine Nat.le_of_not_lt fun q=>?_;have q':(n:Int)<((ns.length:Nat):Int):=by omega
  first
   |(rw[decide_eq_true q']at h5;exact absurd h5 (by decide))
   |(simp at h5;omega)
 cases hwl with
 |cons w1 w2=>
  cases w2;cases w1 with
  |list ho hall=>exact⟨_,_,ns,rfl,rfl,ho,xfU ns _ hall,hlen⟩
theorem xmn(l:OpenLaw)(args:List WData):l.row.toRowW.claim.post args (.bool true) args=true:=
 postW_of (r:=l.row.toRowW) (X:=(true==true))
  (show WShape.has [] (.bool true) .bool=true by first|rfl|decide|simp[WShape.has,WShape.arms,WShape.armsAll])
  (show(WTm.eq .res (.lit (.bool true))).value [] {args:=args,res:=some (.bool true),after:=args}=some (.bool (true==true))from w_eq_bool (w_res rfl) w_lit) rfl
theorem xjN{l:OpenLaw}{n:Nat}{q:ak}{loose:List Str}{XP:(Str→Option Value)→Heap→Prop}{YP:World→Heap→Prop}{d:DefRec}
  (hn:l.most=some n) (hdf:d.params.defaults=[])
  (call:∀(w:World) (s₀ s₁:aa) (mg mb:Str→Option Value) (fa:Addr) (o:Obj) (pm cd doc:Value) (a:Addr) (vs:List Value) (ns:List Int),
   Ground q loose [] XP w s₀ mg mb s₁.heap→YP w s₁.heap→
   s₁.heap.get? fa=some o→o.data= .func (docDef d.name d.params d.body d.scope pm cd doc)→s₁.heap.CodeRec cd d.name→mg d.name=some (.ref fa)→
   s₁.heap.get? a=some {cls:=.type "list",data:=.seq vs.toArray}→iA vs ns→ns.length≤n→s₁.gens=#[]→
   ck (model l.prog w) gJ (.call (.ref fa) ⟨[.ref a],[]⟩) (fun r s'=>r= .ok (.ret (.bool true))∧OldK s₁.heap s'.heap∧s'.os=s₁.os∧eN s'.gens) s₁):
  WalkO q loose XP YP l.row.toRowW d [] (fun f vs=>PySem.call f vs):=by
 intro w s₀ s₁ mg mb G Y fa o pm cd doc dV kV ho hd hcd hD hmg hg args vals as hpre hlay hrd hwl hlo;obtain rfl:dV= .none:=Dflts.none hD hdf;obtain rfl:kV= .none:=Dflts.noKw hD;obtain⟨a,vs,ns,rfl,rfl,hobj,hints,hlen⟩:=xmm hn hpre hwl;refine enter_call (bU (call w s₀ s₁ mg mb fa o pm cd doc a vs ns G Y ho (fd_plain hd) hcd hmg hobj hints hlen hg) fun r s' hq=>?_);obtain⟨rfl,h2,h3,h4⟩:=hq;exact⟨.inl ⟨.bool true,.bool true,[],rfl,fun _=>rfl,.bool true,xmn l _,fun _=>⟨List.Pairwise.nil,fun _ hm=>(nomatch hm)⟩⟩,h2,h3,h4⟩
section
variable {prog:ak} {w:World} {A:aE} {E:Value→aa→Prop} {s:aa} {K:Frag}
end
end Att
namespace L2
open PySem PySem.Spec PyProof.Rows
theorem xhD:∀{vs:List Value} {ns:List Int},iA vs ns→Vals (ns.map V.int) vs
 |_,_,.nil=>.nil
 |_,_,.cons n t h=>.cons ⟨t,rfl⟩ (xhD h)
end L2
namespace L2
open PySem PySem.Spec PyProof.Rows
end L2
namespace L2
open PySem PySem.Spec PyProof.Rows
def inClass(s:Stmt)(j:Nat):Stmt:=match s with
 | .ClassDef _ _ _ body _ _ _ _ _ _ _=>body.getD j (.Pass ⟨0,0,0,0⟩)
 |_=>.Pass ⟨0,0,0,0⟩
def xY(s:Stmt):bV:=match s with
 | .FunctionDef _ a _ _ _ _ _ _ _ _=>a
 |_=>{posonlyargs:=[],args:=[],vararg:=none,kwonlyargs:=[],kw_defaults:=[],kwarg:=none,defaults:=[]}
def xI(s:Stmt):List Stmt:=match s with
 | .FunctionDef _ _ b _ _ _ _ _ _ _=>b
 |_=>[]
def xh(s:Stmt):Scope:=match s with
 | .FunctionDef _ _ _ _ _ _ sc _ _ _=>sc
 |_=>{kind:=.function,names:=[],isGenerator:=false,isCoroutine:=false}
abbrev CX0:CXT:=fun _ _ _ _ _ _=>False
abbrev E0:XK:=fun _ _ _=>False
theorem xt{X:Cx}:Passes CX0 X E0:=fun _ _ _ _ _ _ _ h=>h.elim
structure Fun(K:ag)(x qual:Str)(st:Stmt)(f:Addr)(fd:aq):Prop where
 ex:∃(oc:Value) (od:Option Addr) (kV doc pm:Value) (an:Option Addr) (cdv ct:Value) (osl:Array (Option Value)),
  fd=bX x qual (xY st) (xI st) (xh st) .none kV doc pm an cdv ct∧K.lookup f=some ⟨oc,od,.func fd,osl⟩∧cG K cdv qual=true
 kp:bW K (.ref f)=true
section
variable {P:ak} {w:World} {K:ag} {mg:Str→Option Value} {base:Heap}
theorem Fun.ok{x qual:Str}{st:Stmt}{f:Addr}{fd:aq}{N ps:List Str}{k:Nat}{sp:Sp}(F:Fun K x qual st f fd)(S:xr N ps (xh st))(len:∀vs H Q E,sp vs H Q E→vs.length=ps.length)
  (hbody:∀(cdv:Value) (A:aE) (outer:List Env) (s:aa) (H:Hp) (vs:List V) (Q:VK) (E:XK),xS k (A.deeper (di qual (xh st) s.heap.objs.size f cdv))→sp vs H Q E→
   ∃t,PSs (uz CX0 P w K mg base N qual (xh st) f cdv A outer s H E).nox (xI st) t∧t {nx:=fun _ H'=>Q .non H',rt:=Q} (start N vs) H):xy P w K mg base CX0 (k+1) f fd ps sp:=by
 obtain⟨oc,od,kV,doc,pm,an,cdv,ct,osl,rfl,lk,hcd⟩:=F.ex;refine xfP lk hcd S len fun A outer s H vs Q E hr hsp=>?_;obtain⟨t,h,q⟩:=hbody cdv A outer s H vs Q E hr hsp;exact⟨t,h.nox,q⟩
theorem Fun.binds{x qual:Str}{st:Stmt}{f:Addr}{fd:aq}{ps:List Str}(F:Fun K x qual st f fd)
  (h:∀(kV doc pm:Value) (an:Option Addr) (cdv ct:Value) (us:List Value),us.length=ps.length→dX (bX x qual (xY st) (xI st) (xh st) .none kV doc pm an cdv ct) ⟨us,[]⟩=pure (ps.zip us)):Binds K fd ps []:=by
 obtain⟨oc,od,kV,doc,pm,an,cdv,ct,osl,rfl,lk,hcd⟩:=F.ex;exact .all (h kV doc pm an cdv ct)
theorem jn{x qual:Str}{st:Stmt}{f:Addr}{oc:Value}{od an:Option Addr}{osl:Array (Option Value)}{kV doc pm cdv ct:Value}(l:K.lookup f=some ⟨oc,od,.func (bX x qual (xY st) (xI st) (xh st) .none kV doc pm an cdv ct),osl⟩)
  (c:cG K cdv qual=true) (k:bW K (.ref f)=true):Fun K x qual st f (bX x qual (xY st) (xI st) (xh st) .none kV doc pm an cdv ct):=⟨⟨oc,od,kV,doc,pm,an,cdv,ct,osl,rfl,l,c⟩,k⟩
end
theorem vi{A:aE}{k:Nat}(hr:xS k A):A.units+1<cLine:=dP (Nat.add_le_add_left (by decide:1≤64) _) hr.units
section
variable {X:Cx}
end
def xf(H H':Hp):Prop:=∀b o,H b=some o→H' b=some o
theorem xf.refl(H:Hp):xf H H:=fun _ _ h=>h
theorem xf.trans{H H1 H2:Hp}(a:xf H H1)(b:xf H1 H2):xf H H2:=fun c o h=>b c o (a c o h)
theorem xf.free{H H':Hp}(e:xf H H'){l:Addr}(h:H' l=Option.none):H l=Option.none:=by
 cases q:H l with
 |none=>rfl
 |some o=>
  rw[e l o q]at h;cases h
theorem xf.seq{K:ag}{H H':Hp}{a:Addr}{xs:List V}(e:xf H H')(h:SqL K H a xs):SqL K H' a xs:=by
 rcases h with(h|⟨o,h⟩)|h
 ·exact .inl (.inl (e _ _ h))
 ·exact .inl (.inr ⟨o,e _ _ h⟩)
 ·exact .inr h
section
variable {X:Cx}
end
section
variable {κ:Type} [DecidableEq κ]
theorem xko:∀{l:List κ} {k:κ},l.Nodup→¬k∈l→(l++[k]).Nodup
 |[],k,_,_=>by simp
 |a::r,k,h,hk=>by
  obtain⟨h1,h2⟩:=bp.mp h;show(a::(r++[k])).Nodup;refine bp.mpr ⟨fun m=>?_,xko h2 fun m=>hk (av.mpr (cI m))⟩;rcases a7.mp m with q|q
  ·exact h1 q
  ·exact hk (av.mpr (aA (aj.mp q).symm))
end
end L2
set_option maxHeartbeats 4000000
namespace L2
open PySem PySem.Spec PyProof.Rows
section
variable {X:Cx}
theorem PE.imp{e:Expr}{t t':TE}(h:PE X e t)(i:∀σ H Q,t' σ H Q→t σ H Q):PE X e t':=
 fun pins s σ H Q I q=>h pins s σ H Q I (i σ H Q q)
theorem PT.imp{e:Expr}{t t':TT}(h:PT X e t)(i:∀σ H Q,t' σ H Q→t σ H Q):PT X e t':=
 fun pins s σ H Q I q=>h pins s σ H Q I (i σ H Q q)
theorem OpR.imp{f:Value→Value→Sem Value}{r r':R2}(h:OpR X f r)(i:∀x y H Q,r' x y H Q→r x y H Q):OpR X f r':=
 fun pins s σ H x y v u Q I rx ry q=>h pins s σ H x y v u Q I rx ry (i x y H Q q)
theorem UnR.imp{f:Value→Sem Value}{r r':V→Hp→VK→Prop}(h:UnR X f r)(i:∀x H Q,r' x H Q→r x H Q):UnR X f r':=
 fun pins s σ H x v Q I rx q=>h pins s σ H x v Q I rx (i x H Q q)
theorem yN.imp{f:Value}{r r':List V→Hp→VK→Prop}(h:yN X f r)(i:∀xs H Q,r' xs H Q→r xs H Q):yN X f r':=
 fun pins s σ H xs us Q I rv q=>h pins s σ H xs us Q I rv (i xs H Q q)
theorem xbb{e:Expr}{t u:TE}(h:PE X e t)(k:PE X e u):PE X e (fun σ H Q=>t σ H Q∨u σ H Q):=
 fun pins s σ H Q I q=>q.elim (fun z=>h pins s σ H Q I z) (fun z=>k pins s σ H Q I z)
def zZ(i:Nat):TE:=fun σ H Q=>match σ[i]? with
 |some (some v)=>Q v H
 |_=>False
theorem xnt{i:Nat}{σ:St}{H:Hp}{Q:VK}(q:zZ i σ H Q):xp5 i σ H Q:=by
 unfold zZ at q
 split at q
 ·rename_i v e;exact⟨v,e,q⟩
 ·exact q.elim
theorem cv(i:Nat){x:Str}{pos:Pos}(hN:X.N[i]? =some x:=by rfl)(hv:Vis X.env.scope x:=by first|exact aA rfl|exact cI (aA rfl)|exact cI (cI rfl))(hd:(x==("__debug__":Str))=false:=by decide)
  (hcd:(x==("__classdict__":Str))=false:=by decide):PE X (.Name x pos) (zZ i):=(xfI hN hv hd hcd).imp fun _ _ _ q=>xnt q
def kI(C:Int→Int→Prop)(g:Int→Int→V):R2:=fun x y H Q=>match x with
 | .int i=>(match y with
  | .int j=>C i j∧Q (g i j) H
  |_=>False)
 |_=>False
def kI0(g:Int→Int→V):R2:=fun x y H Q=>match x with
 | .int i=>(match y with
  | .int j=>Q (g i j) H
  |_=>False)
 |_=>False
theorem xdP{C:Int→Int→Prop}{g:Int→Int→V}{x y:V}{H:Hp}{Q:VK}(q:kI C g x y H Q):rI C g x y H Q:=by
 cases x with
 |int i=>
  cases y with
  |int j=>exact⟨i,j,rfl,rfl,q.1,q.2⟩
  |_=>exact aV q
 |_=>exact aV q
theorem jf{g:Int→Int→V}{x y:V}{H:Hp}{Q:VK}(q:kI0 g x y H Q):rI0 g x y H Q:=by
 cases x with
 |int i=>
  cases y with
  |int j=>exact⟨i,j,rfl,rfl,q⟩
  |_=>exact aV q
 |_=>exact aV q
theorem yl:OpR X (cu .Add) (kI0 fun i j=>.int (i+j)):=xqa.imp fun _ _ _ _=>jf
theorem yz:OpR X (cu .Sub) (kI0 fun i j=>.int (i - j)):=xqb.imp fun _ _ _ _=>jf
theorem xbS:OpR X (cu .Mult) (kI xk5 fun i j=>.int (i*j)):=xqc.imp fun _ _ _ _=>xdP
def xoo(_i j:Int):Prop:=0<j∧j.natAbs.log2<9000
theorem xcC:OpR X (cu .FloorDiv) (kI xoo fun i j=>.int (i / j)):=
 (opI (C:=xoo) (g:=fun i j=>i / j) fun i j _ _ _ _ _ hc q=>by
  have h0:0<j:=hc.1;rw[←gs i (Int.le_of_lt h0)]at q;exact floordiv_int (Int.ne_of_gt h0) q (.inl (gS hc.2))).imp fun _ _ _ _=>xdP
theorem yq:OpR X (cu .Mod) (kI (fun _ j=>0<j) fun i j=>.int (i%j)):=xqd.imp fun _ _ _ _=>xdP
theorem xeE:OpR X (cu .Pow) (kI xp9 fun i j=>.int (i^j.toNat)):=xqe.imp fun _ _ _ _=>xdP
theorem xfi:OpR X (bx .Lt) (kI0 fun i j=>.bl (decide (i<j))):=xq7.imp fun _ _ _ _=>jf
theorem xlc:OpR X (bx .LtE) (kI0 fun i j=>.bl (decide (i≤j))):=xq8.imp fun _ _ _ _=>jf
theorem xdQ:OpR X (bx .Gt) (kI0 fun i j=>.bl (decide (j<i))):=xq9.imp fun _ _ _ _=>jf
theorem xnu:OpR X (bx .GtE) (kI0 fun i j=>.bl (decide (j≤i))):=xra.imp fun _ _ _ _=>jf
theorem xip{a b:V}{p:Prop}[Decidable p](h:a=b↔p):decide (a=b)=decide p:=by
 by_cases e:p
 ·rw[decide_eq_true e,decide_eq_true (h.mpr e)]
 ·rw[decide_eq_false e,decide_eq_false (fun q=>e (h.mp q))]
theorem zL:OpR X (bx .Eq) (kI0 fun i j=>.bl (decide (i=j))):=xoj.imp fun x y H Q q=>by
 obtain⟨i,j,rfl,rfl,q⟩:=jf q;exact⟨rfl,by rw[xip (p:=i=j) ⟨fun e=>V.int.inj e,fun e=>by rw[e]⟩];exact q⟩
theorem xfV:OpR X (bx .NotEq) (kI0 fun i j=>.bl (!decide (i=j))):=xok.imp fun x y H Q q=>by
 obtain⟨i,j,rfl,rfl,q⟩:=jf q;exact⟨rfl,by rw[xip (p:=i=j) ⟨fun e=>V.int.inj e,fun e=>by rw[e]⟩];exact q⟩
def kS0(g:Str→Str→V):R2:=fun x y H Q=>match x with
 | .str i=>(match y with
  | .str j=>Q (g i j) H
  |_=>False)
 |_=>False
theorem xkp{g:Str→Str→V}{x y:V}{H:Hp}{Q:VK}(q:kS0 g x y H Q):∃i j,x= .str i∧y= .str j∧Q (g i j) H:=by
 cases x with
 |str i=>
  cases y with
  |str j=>exact⟨i,j,rfl,rfl,q⟩
  |_=>exact aV q
 |_=>exact aV q
theorem xbT:OpR X (bx .Eq) (kS0 fun i j=>.bl (decide (i=j))):=xoj.imp fun x y H Q q=>by
 obtain⟨i,j,rfl,rfl,q⟩:=xkp q;exact⟨rfl,by rw[xip (p:=i=j) ⟨fun e=>V.str.inj e,fun e=>by rw[e]⟩];exact q⟩
theorem xbU:OpR X (bx .NotEq) (kS0 fun i j=>.bl (!decide (i=j))):=xok.imp fun x y H Q q=>by
 obtain⟨i,j,rfl,rfl,q⟩:=xkp q;exact⟨rfl,by rw[xip (p:=i=j) ⟨fun e=>V.str.inj e,fun e=>by rw[e]⟩];exact q⟩
def kU(g:Int→V):V→Hp→VK→Prop:=fun x H Q=>match x with
 | .int i=>Q (g i) H
 |_=>False
theorem xop:UnR X (unaryOp .USub) (kU fun i=>.int (-i)):=xqg.imp fun x H Q q=>by
 cases x with
 |int i=>exact⟨i,rfl,q⟩
 |_=>exact aV q
def xiq(Q:Bool→Hp→Prop):VK:=fun x H1=>match x with
 | .bl k=>Q k H1
 |_=>False
theorem xbc{Q:Bool→Hp→Prop}{x:V}{H1:Hp}(q:xiq Q x H1):∃k,x= .bl k∧Q k H1:=by
 cases x with
 |bl k=>exact⟨k,rfl,q⟩
 |_=>exact aV q
def cB(t:TE):TT:=fun σ H Q=>t σ H (xiq Q)
variable {a b c:Expr} {ta tb tc:TE} {tA tB':TT} {pos:Pos} {rest:List Expr}
theorem xJ{op:CmpOp}{r:R2}(ho:OpR X (bx op) r)(ha:PE X a ta)(hb:PE X b tb)(hm:cL op b=false:=by exact xmd _):PT X (.Compare a [op] [b] pos) (cB (tOp r ta tb)):=by
 intro pins s σ H Q I h;refine fD (thn (ha pins s σ H _ I h) fun v s1 ⟨x,H1,I1,r1,q1⟩=>thn (hb pins s1 σ H1 _ I1 q1) fun u s2 ⟨y,H2,I2,r2,q2⟩=>
  thn (ho pins s2 σ H2 x y v u _ I2 r1 r2 q2) fun c s3 ⟨z,H3,I3,r3,q3⟩=>?_) hm
 obtain⟨k,rfl,q⟩:=xbc q3;cases r3;exact cb ⟨H3,I3,q⟩
theorem zP{op:CmpOp}{r:R2}(ho:OpR X (bx op) r)(ha:PE X a ta)(hb:PE X b tb)(hm:cL op b=false:=by exact xmd _):PE X (.Compare a [op] [b] pos) (tOp r ta tb):=xoG ho ha hb hm
theorem zQ{e:Expr}{t:TE}(h:PE X e t)(he:∀whole,isTrue e X.env whole=(do let v ←whole;fE e.pos;ee [v] (truthy v)):=by intro _;rfl):PT X e (cB t):=by
 intro pins s σ H Q I hw;refine isTrue_plain (thn (h pins s σ H _ I hw) fun v s1 ⟨x,H1,I1,r1,q1⟩=>?_) (he _);obtain⟨d,rfl,q⟩:=xbc q1;cases r1;exact cb ⟨H1,I1,q⟩
def xrV(t u:TT):TT:=fun σ H Q=>t σ H fun c H1=>(c=true→u σ H1 Q)∧(c=false→Q false H1)
def cOr(t u:TT):TT:=fun σ H Q=>t σ H fun c H1=>(c=true→Q true H1)∧(c=false→u σ H1 Q)
theorem vJ(ha:PT X a tA)(hb:PW X (.BoolOp .And (b::rest) pos) tB'):PW X (.BoolOp .And (a::b::rest) pos) (xrV tA tB'):=by
 intro wh pins s σ H Q I h;refine isTrue_and (thn (ha pins s σ H _ I h) fun c s1 ⟨H1,I1,q1⟩=>?_);cases c with
 |true=>exact hb wh pins s1 σ H1 Q I1 (q1.1 rfl)
 |false=>exact⟨H1,I1,q1.2 rfl⟩
theorem xaT(ha:PT X a tA)(hb:PW X (.BoolOp .Or (b::rest) pos) tB'):PW X (.BoolOp .Or (a::b::rest) pos) (cOr tA tB'):=by
 intro wh pins s σ H Q I h;refine isTrue_or (thn (ha pins s σ H _ I h) fun c s1 ⟨H1,I1,q1⟩=>?_);cases c with
 |true=>exact⟨H1,I1,q1.1 rfl⟩
 |false=>exact hb wh pins s1 σ H1 Q I1 (q1.2 rfl)
def xrh(ta tb:TE):TE:=fun σ H Q=>ta σ H (xiq fun c H1=>(c=true→tb σ H1 Q)∧(c=false→Q (.bl false) H1))
def xri(ta:TE):TE:=fun σ H Q=>ta σ H (xiq fun c H1=>Q (.bl (!c)) H1)
theorem zR(ha:PE X a ta)(hb:PE X (.BoolOp .And (b::rest) pos) tb):PE X (.BoolOp .And (a::b::rest) pos) (xrh ta tb):=by
 intro pins s σ H Q I h;refine BoolOp_and (thn (ha pins s σ H _ I h) fun v s1 ⟨x,H1,I1,r1,q1⟩=>?_);obtain⟨c,rfl,q1⟩:=xbc q1;cases r1;refine cb ?_;cases c with
 |true=>exact hb pins s1 σ H1 Q I1 (q1.1 rfl)
 |false=>exact⟨.bl false,H1,I1,rfl,q1.2 rfl⟩
theorem xqp(ha:PE X a ta):PE X (.UnaryOp .Not a pos) (xri ta):=by
 intro pins s σ H Q I h;refine UnaryOp_ (thn (ha pins s σ H _ I h) fun v s1 ⟨x,H1,I1,r1,q1⟩=>?_);obtain⟨c,rfl,q1⟩:=xbc q1;cases r1;exact not_of (cb ⟨.bl (!c),H1,I1,rfl,q1⟩)
def xrW(c:TT)(t u:TS):TS:=fun D σ H=>c σ H fun b H1=>(b=true→t D σ H1)∧(b=false→u D σ H1)
theorem xM{c:Expr}{p q:List Stmt}{tc:TT}{t u:TS}(hc:PT X c tc)(ha:PSs X p t)(hb:PSs X q u):PS X (.If c p q pos) (xrW tc t u):=by
 intro pins s σ H D I h;refine wpAny_If (thn (hc pins s σ H _ I h) fun d s1 ⟨H1,I1,q1⟩=>?_);cases d with
 |true=>exact ha pins s1 σ H1 D I1 (q1.1 rfl)
 |false=>exact hb pins s1 σ H1 D I1 (q1.2 rfl)
@[irreducible] def xr5(c:TT)(tb:TS)(D:Ends)(σ:St)(H:Hp):Prop:=∃W:Nat→St→Hp→Prop,(∃m,W m σ H)∧∀m σ H,W m σ H→
 c σ H fun b H1=>(b=true→∃N:St→Hp→Prop,(∀σ' H',N σ' H'→∃m',m'<m∧W m' σ' H')∧tb {D with nx:=N,ct:=N,bk:=D.nx} σ H1)∧(b=false→D.nx σ H1)
@[irreducible] def uK(J:It)(g:TG)(tb:TS)(D:Ends)(σ:St)(H1:Hp):Prop:=∃W:Nat→Nat→St→Hp→Prop,(∃m,W 0 m σ H1)∧∀i m σ H,W i m σ H→
 (J.stop i H∧D.nx σ H)∨(J.go i H∧∃N:St→Hp→Prop,(∀σ' H',N σ' H'→∃m',m'<m∧W (i+1) m' σ' H')∧∀x H',J.yld i H x H'→g x σ H' fun σ2 H2=>tb {D with nx:=N,ct:=N,bk:=D.nx} σ2 H2)
def xnv(wi:TI)(g:TG)(tb:TS):TS:=fun D σ H=>wi σ H fun J H1=>uK J g tb D σ H1
theorem xoR(wi:TI)(g:TG)(tb:TS):xnv wi g tb=xnk wi g tb:=by
 funext D σ H
 unfold xnv xnk
 congr 1
 funext J H1
 unfold uK;rfl
theorem yt{tg iter:Expr}{body:List Stmt}{wi:TI}{g:TG}{tb:TS}{pos:Pos}(hp:PassesOwn (model X.prog X.w) X.A X.env X.xe)(hc:X.calm=true)(hi:PI X tg iter wi)(hg:PG X tg g)(hb:PSs X body tb)
  (hs:∀x,fk iter X.env x=pure x:=by intro _;rfl):PS X (.For tg iter body [] pos) (xnv wi g tb):=by
 rw[xoR];exact xp7 hp hc hi hg hb hs
def xrX(t:TS):TS:=fun D σ H=>∃M:L2.St→Hp→Prop,t {D with nx:=M} σ H∧∀σ' H',M σ' H'→D.nx σ' H'
theorem yY{st:Stmt}{t:TS}(h:PS X st t):PS X st (xrX t):=by
 intro pins s σ H D I q;obtain⟨M,q1,q2⟩:=q;refine thn (h pins s σ H _ I q1) fun f s' z=>?_;cases f with
 |next=>obtain⟨σ',H',I',m⟩:=z;exact⟨σ',H',I',q2 σ' H' m⟩
 |brk=>exact z
 |cont=>exact z
 |ret v=>exact z
def xqq(i:Nat):TG:=fun v σ H Q=>∀y,y=v→Q (σ.set i (some y)) H
theorem xoS(te:TE)(i:Nat):xff te (xqq i)=xff te (xfJ i):=by
 funext D σ H
 unfold xff
 congr 1
 funext x H1
 exact propext ⟨fun q=>q x rfl,fun q y e=>by rw[e];exact q⟩
theorem xap{i:Nat}{x:Str}{e:Expr}{te:TE}{pos':Pos}(hN:X.N.Nodup)(hi:X.N[i]? =some x)(hx:Loc X.env.scope x)(he:PE X e te)(hs:eA e (some (.Name x pos')) pos.line X.env=pure false:=by rfl)
  (hf:X.fn x=true∨X.env.scope.names.lookup x=some .local:=by first|exact .inl rfl|exact .inr rfl|assumption):PS X (.Assign [.Name x pos'] e pos) (xff te (xqq i)):=by
 rw[xoS];exact xE hN hi hx he hs hf
theorem xcD{e:Int}{G:V→Prop}(h:∀i,i=e→G (.int i)):∀y,y=V.int e→G y:=fun y q=>by rw[q];exact h e rfl
theorem xgR{v:V}{G:V→Prop}(h:G v):∀y,y=v→G y:=fun y q=>by rw[q];exact h
end
end L2
namespace L2
open PySem PySem.Spec PyProof.Rows
def yQ(cells:List (Str×Addr)):List (Str×cP)→List (Str×Addr)→List (Str×Addr)
 |[],cs=>cs
 |(n,k)::r,cs=>yQ cells r (if k== .free then(n,(cells.lookup n).getD 0)::cs else cs)
theorem xcT{scope:Scope}{env:Env}(h:∀y∈scope.names,y.2= .free→∃c,env.cells.lookup y.1=some c):iN scope env=pure (yQ env.cells scope.names []):=by
 have all:∀(l:List (Str×cP)) (cs:List (Str×Addr)),(∀y∈l,y.2= .free→∃c,env.cells.lookup y.1=some c)→
   (forIn l cs fun x r=>match x with
    |(name,kind)=>if (kind==bH)=true then do let a ←cellOf env name;pure (dQ ((name,a)::r))else pure (dQ r):Sem (List (Str×Addr)))=pure (yQ env.cells l cs):=by
  intro l
  induction l with
  |nil=>intro cs _;rfl
  |cons y r ih=>
   intro cs hl;obtain⟨n,k⟩:=y;rw[List.forIn_cons]
   by_cases hk:k= .free
   ·subst hk;obtain⟨c,hc⟩:=hl (n,.free) ba rfl;have e:cellOf env n=pure c:=by unfold cellOf;rw[hc]
    simp only[beq_self_eq_true,if_true,e,pure_bind];rw[ih _ fun z hz=>hl z (aS _ hz)];simp[yQ,hc]
   ·have hb:(k==bH)=false:=by simpa using hk
    simp only[hb,dR,if_false,pure_bind];rw[ih _ fun z hz=>hl z (aS _ hz)];simp[yQ,hb]
 unfold iN;have:=all scope.names [] h;simp only[bind_pure]at this⊢;exact this
theorem xfj{cells:List (Str×Addr)}:∀{l:List (Str×cP)} {cs:List (Str×Addr)} {x:Str} {c:Addr},(∀y∈l,y.2= .free→∃c,cells.lookup y.1=some c)→(yQ cells l cs).lookup x=some c→
  cs.lookup x=some c∨cells.lookup x=some c
 |[],cs,x,c,_,h=>.inl h
 |(n,k)::r,cs,x,c,hl,h=>by
  unfold yQ at h;rcases xfj (fun z hz=>hl z (aS _ hz)) h with q|q
  ·split at q
   ·rename_i hk;rw[bK]at q
    split at q
    ·rename_i hx;obtain⟨c',hc⟩:=hl (n,k) ba (by simpa using hk);have e:x=n:=by simpa using hx
     subst e;rw[hc]at q
     right
     rw[hc];simpa using q
    ·exact .inl q
   ·exact .inl q
  ·exact .inr q
theorem xcU{cells:List (Str×Addr)}:∀{l:List (Str×cP)} {cs:List (Str×Addr)} {x:Str},(x,bH)∈l∨(∃c,cs.lookup x=some c)→∃c,(yQ cells l cs).lookup x=some c
 |[],cs,x,h=>by
  rcases h with h|h
  ·simp at h
  ·exact h
 |(n,k)::r,cs,x,h=>by
  unfold yQ;refine xcU ?_;rcases h with h|⟨c,h⟩
  ·rcases av.mp h with h|h
   ·cases h
    right
    simp
   ·exact .inl h
  ·right
   split
   ·rw[bK]
    split
    ·exact⟨_,rfl⟩
    ·exact⟨c,h⟩
   ·exact⟨c,h⟩
def Cx.blk(X:Cx)(scope:Scope)(C:Addr)(Nc:List Str)(s₂:aa)(H₂:Hp)(fp:List Addr):Cx:=
 {X with N:=Nc,s₀:=s₂,H₀:=H₂,env:=compEnvC scope (yQ X.env.cells scope.names []) C X.env,outer:=X.stack,stack:=X.stack,ex:=fp,fn:=fun _=>false,pn:=[],xe:=fun _ _=>False,cp:=fun _=>false}
def xfW(X:Cx)(scope:Scope):List Nat→List Str→Prop
 |[],[]=>True
 |j::js,y::ys=>(X.N[j]? =some y∧scope.names.lookup y=some .free∧(X.env.kindOf y=some .cell∨X.env.kindOf y=some .free))∧xfW X scope js ys
 |_,_=>False
def xbd(σ:St)(cap:List Nat):St:=cap.map fun j=>(σ[j]?).getD none
structure uL(X:Cx)(scope:Scope)(x:Str)(cap:List Nat)(ys:List Str):Prop where
 kind:scope.kind= .function
 nocell:∀y∈scope.names,y.2≠.cell
 locs:∀y∈scope.names,y.2= .local→scope.names.lookup y.1=some .local
 lx:scope.names.lookup x=some .local
 fr:∀y∈scope.names,y.2= .free→X.env.kindOf y.1=some .cell∨X.env.kindOf y.1=some .free
 cap:xfW X scope cap ys
 nd:(x::ys).Nodup
theorem xaq{X:Cx}{scope:Scope}{x:Str}{cap:List Nat}{ys:List Str}(kind:scope.kind= .function)(h1:(scope.names.all fun y=> !(y.2== .cell))=true)(h2:(scope.names.all fun y=> !(y.2== .local)||scope.names.lookup y.1==some .local)=true)
  (hx:scope.names.lookup x=some .local) (h3:(scope.names.all fun y=> !(y.2== .free)||(X.env.kindOf y.1==some .cell||X.env.kindOf y.1==some .free))=true) (hcap:xfW X scope cap ys) (hnd:(x::ys).Nodup):uL X scope x cap ys:=by
 refine⟨kind,fun y hy e=>?_,fun y hy e=>?_,hx,fun y hy e=>?_,hcap,hnd⟩
 ·have:=cS.mp h1 y hy;rw[e]at this;exact absurd this (by decide)
 ·have:=cS.mp h2 y hy;rw[e]at this;simpa using this
 ·have:=cS.mp h3 y hy;rw[e]at this;simpa using this
theorem xdR{X:Cx}{scope:Scope}{σ:St}:∀{cap:List Nat} {ys:List Str} {i:Nat} {y:Str} {v:V},xfW X scope cap ys→ys[i]? =some y→(xbd σ cap)[i]? =some (some v)→
  ∃j:Nat,X.N[j]? =some y∧σ[j]? =some (some v)∧scope.names.lookup y=some .free∧(X.env.kindOf y=some .cell∨X.env.kindOf y=some .free)
 |[],[],i,y,v,_,h,_=>by simp at h
 |j::js,z::zs,0,y,v,⟨⟨h1,h2,h3⟩,_⟩,e1,e2=>by
  simp at e1;subst e1;refine⟨j,h1,?_,h2,h3⟩;simp only[xbd,bq,List.getElem?_cons_zero,kg]at e2;cases q:σ[j]? with
  |none=>rw[q]at e2;cases e2
  |some w=>rw[q]at e2;simp at e2;rw[e2]
 |j::js,z::zs,i+1,y,v,⟨_,h⟩,e1,e2=>xdR (i:=i) h (by simpa using e1) (by simpa [xbd]using e2)
 |[],_::_,_,_,_,h,_,_=>h.elim
 |_::_,[],_,_,_,h,_,_=>h.elim
theorem xhE{X:Cx}{scope:Scope}:∀{cap:List Nat} {ys:List Str},xfW X scope cap ys→cap.length=ys.length
 |[],[],_=>rfl
 |_::_,_::_,⟨_,h⟩=>by simp[xhE h]
 |[],_::_,h=>h.elim
 |_::_,[],h=>h.elim
theorem xfk{l:List (Str×cP)}{y:Str}{k:cP}(h:l.lookup y=some k):(y,k)∈l:=PySem.mem_of_lookup h
theorem xdS{env:Env}:∀{names:List (Str×cP)} {x:Str},names.lookup x=some .free→
  (names.map fun(n,k)=>if (k==bH&&env.scope.kind== .function&&env.kindOf n==some .cell)then(n,i6)else(n,k)).lookup x=some .cell∨
  (names.map fun(n,k)=>if (k==bH&&env.scope.kind== .function&&env.kindOf n==some .cell)then(n,i6)else(n,k)).lookup x=some .free
 |[],_,h=>by simp at h
 |(n,k)::r,x,h=>by
  have ih:= @xdS env r x;rw[bq];rw[bK]at h;cases hx:x==n with
  |true=>
   rw[hx]at h;simp only[kg]at h;subst h;dsimp only
   split
   ·left;rw[bK,hx]
   ·right;rw[bK,hx]
  |false=>
   rw[hx]at h;dsimp only
   split
   ·rw[bK,hx];exact ih h
   ·rw[bK,hx];exact ih h
theorem xaU{env:Env}:∀{names:List (Str×cP)} {x:Str} {k:cP},
  (names.map fun(n,k)=>if (k==bH&&env.scope.kind== .function&&env.kindOf n==some .cell)then(n,i6)else(n,k)).lookup x=some k→(k= .cell∨k= .free)→(∀y∈names,y.2≠.cell)→(x,bH)∈names
 |[],_,_,h,_,_=>by simp at h
 |(n,k')::r,x,k,h,hk,hc=>by
  rw[bq]at h;have hc':∀y∈r,y.2≠.cell:=fun y hy=>hc y (aS _ hy);have nk:k'≠.cell:=hc (n,k') ba;dsimp only at h
  split at h
  ·rename_i q;rw[bK]at h
   split at h
   ·rename_i hx;have e:x=n:=by simpa using hx
    have e2:k'= .free:=by
     simp only[fz,beq_iff_eq]at q;exact q.1.1
    rw[e,e2];exact ba
   ·exact aS _ (xaU h hk hc')
  ·rw[bK]at h
   split at h
   ·rename_i hx;have e:x=n:=by simpa using hx
    have e3:k'=k:=by simpa using h
    rcases hk with q|q
    ·exact absurd (e3.trans q) nk
    ·rw[e,e3,q];exact ba
   ·exact aS _ (xaU h hk hc')
section
variable {X:Cx} {scope:Scope} {x:Str} {cap:List Nat} {ys:List Str}
theorem uL.clos(B:uL X scope x cap ys)(ok:X.Ok):∀y∈scope.names,y.2= .free→∃c,X.env.cells.lookup y.1=some c:=fun y hy e=>ok.has y.1 (B.fr y hy e)
theorem uL.sub(B:uL X scope x cap ys)(ok:X.Ok){z:Str}{c:Addr}(h:(yQ X.env.cells scope.names []).lookup z=some c):X.env.cells.lookup z=some c:=by
 rcases xfj (B.clos ok) h with q|q
 ·simp at q
 ·exact q
theorem uL.start{pins:List (Addr×Obj)}{σ:St}{H₂:Hp}{s₂:aa}{fp:List Addr}{h₁:Heap}{tk:Nat}{C D:Addr}(B:uL X scope x cap ys)(I:Inv X pins σ H₂ s₂)
  (hf:∀b∈fp,xb8 X pins H₂ b) (hD:s₂.heap.objs.size≤D) (hC:s₂.heap.objs.size≤C) (hDC:D≠C) (hk:∀b o,s₂.heap.get? b=some o→h₁.get? b=some o)
  (hns:∃m,h₁.Ns C m) (hl:h₁.get? D=some {cls:=.type "list",data:=.seq ([]:List Value).toArray}) (hfp:∀b∈fp,b<s₂.heap.objs.size):
  Inv (X.blk scope C (x::ys) s₂ H₂ fp) [] (none::xbd σ cap) (upd H₂ D (.lst [])) {s₂ with heap:=h₁,toks:=tk}:=by
 have ok:=I.ok;have freshC:H₂ C=none:=I.hok.fresh hC;have freshD:H₂ D=none:=I.hok.fresh hD;have lt:∀b o,s₂.heap.get? b=some o→b<s₂.heap.objs.size:=fun b o e=>aw e;refine⟨⟨ok.mod,B.kind,ok.glob,ok.blt,hC,fun y z c h1 h2=>ok.inj y z c (B.sub ok h1) (B.sub ok h2),fun y hy=>?_,fun y c h=>(aJ h).elim,ok.hd,ok.frames,.inl rfl,fun b hb=>⟨?_,fun y c h e=>?_⟩,I.bs,bw ok.bsz I.sz,fun b o e hb=>?_,fun b hb hs=>?_,I.stack,I.stkFree,fun y c h=>(aJ h).elim,fun b hb=>I.hok.fresh hb⟩,
  rfl,I.bare,Un.laid hk hD freshD,?_,fun y c h=>?_,?_,fun y c h=>?_,fun p hp=>?_,?_,?_⟩
 ·have hy':(relabel scope X.env).names.lookup y=some .cell∨(relabel scope X.env).names.lookup y=some .free:=hy;have m:(y,bH)∈scope.names:=by
   rcases hy' with q|q
   ·exact xaU q (.inl rfl) B.nocell
   ·exact xaU q (.inr rfl) B.nocell
  exact xcU (.inl m)
 ·exact aG (aF (hfp b hb) hC)
 ·exact(hf b hb).2.2.2.2.1 y c (B.sub ok h) e
 ·rcases(hf b hb).2.2.2.1 with q|q
  ·exact ok.noex b o e q
  ·exact absurd (aF (aw (ok.bs b o e).1) q) (bS _)
 ·rcases av.mp (I.stkSub b hs)with q|q
  ·exact(hf b hb).2.1 q
  ·exact(hf b hb).2.2.1 q
 ·obtain⟨m,hm⟩:=hns;refine⟨m,hm,fun i y v e1 e2 e3=>?_⟩;cases i with
  |zero=>simp at e2
  |succ i=>
   obtain⟨j,n1,n2,n3,n4⟩:=xdR (i:=i) B.cap (by simpa [Cx.blk]using e1) (by simpa using e2);obtain⟨m0,hn0,hl0⟩:=I.loc;have vis:Vis X.env.scope y:=by
    rcases n4 with q|q
    ·exact .inr (.inl q)
    ·exact .inr (.inr q)
   obtain⟨u,ru,l⟩:=hl0 j y v n1 n2 vis;refine⟨u,ru,.inr ⟨xdS n3,?_⟩⟩;rcases l with⟨k,_⟩|⟨_,c,ec,z⟩
   ·rw[k]at n4;rcases n4 with q|q<;> cases q
   ·obtain⟨c',ec'⟩:=xcU (cells:=X.env.cells) (cs:=[]) (.inl (xfk n3));have:=B.sub ok ec';rw[ec]at this;cases this;obtain⟨o,ho,hd⟩:=z;exact⟨c,ec',o,hk c o ho,hd⟩
 ·obtain⟨v,o,ho,hd⟩:=I.cell y c (B.sub ok h);exact⟨v,o,hk c o ho,hd⟩
 ·show upd H₂ D _ C=none;rw[xl (au hDC)];exact freshC
 ·obtain⟨v,o,ho,hd⟩:=I.cell y c (B.sub ok h);rw[xl (aG (aF (lt c o ho) hD))];refine(I.freeC y c (B.sub ok h)).imp id fun⟨_,o',ho',hno⟩=>⟨rfl,o',ho',fun z i v e1 k e2=>?_⟩;cases i with
  |zero=>simp at e2
  |succ i=>
   obtain⟨j,n1,n2,n3,n4⟩:=xdR (i:=i) B.cap (by simpa [Cx.blk]using e1) (by simpa using e2);exact hno z j v n1 n4 n2
 ·exact absurd (show p∈([]:List (Addr×Obj))from hp) (by simp)
 ·exact I.hok.laid hk hD ⟨bM _,[],0,.nil,hl⟩
 ·simp[Cx.blk,xbd,xhE B.cap]
theorem uL.back{pins:List (Addr×Obj)}{σ:St}{H₂ H':Hp}{s₂ s':aa}{fp:List Addr}{C:Addr}{pl:List (Addr×Obj)}{σ':St}(B:uL X scope x cap ys)(I:Inv X pins σ H₂ s₂)
  (hf:∀b∈fp,xb8 X pins H₂ b) (J:Inv (X.blk scope C (x::ys) s₂ H₂ fp) pl σ' H' s'):Inv X pins σ H' s':=
 I.call' (ch:=fp) J.os J.base J.hok J.bare fun b hb=>by
  obtain⟨f0,f1,f2,f3,f4,f5⟩:=hf b hb;refine⟨?_,f1,f4,f5⟩;rcases f3 with q|q
  ·exact .inl q
  ·exact .inr q
theorem uL.far{pins:List (Addr×Obj)}{σ:St}{H₂ H':Hp}{s₂ s':aa}{fp:List Addr}{C:Addr}{pl:List (Addr×Obj)}{σ':St}(I:Inv X pins σ H₂ s₂)
  (hC:s₂.heap.objs.size≤C) (J:Inv (X.blk scope C (x::ys) s₂ H₂ fp) pl σ' H' s'):
  H' C=none∧C≠X.env.locals∧X.s₀.heap.objs.size≤C∧(∀z c,X.env.cells.lookup z=some c→c≠C)∧∀p∈X.pn++pins,p.1≠C:=by
 refine⟨J.free,eg (aF I.lt hC),bw I.sz hC,fun z c e q=>?_,fun p hp q=>?_⟩
 ·obtain⟨v,w⟩:=I.cell z c e;exact absurd (aF w.lt (by rw[q];exact hC)) (bS _)
 ·exact absurd (aF (aw (I.pin p hp).1) (by rw[q];exact hC)) (bS _)
end
theorem xld{prog:ak}{w:World}{A:aE}{R:gL→aa→Prop}{s:aa}{elt tg iter:Expr}{ifs:List Expr}{scope:Scope}{pos:Pos}{it acc:Value}{env:Env}(J:Nat→aa→Prop)
  (go:∀n s,J n s→wpAny (model prog w) A (pyNext it) (fun r s1=>match r with
   |none=>R (.ok .next) s1
   |some v=>wpAny (model prog w) A (fL tg it v) (fun _ s2=>wpAny (model prog w) A (gf tg env v) (fun _ s3=>
     wpAny (model prog w) A (forIn ifs true fun c r=>if r=true then do let ok ←isTrue c env (eval c env);pure (dQ ok)else pure (dQ r)) (fun ok s4=>
      if ok=true then wpAny (model prog w) A (eval elt env) (fun y s5=>wpAny (model prog w) A (call (.builtin "list.append") [acc,y]) (fun _ s6=>∃m,m<n∧J m s6) (fun _ _=>False) s5) (fun _ _=>False) s4
      else∃m,m<n∧J m s4) (fun _ _=>False) s3) (fun _ _=>False) s2) (fun _ _=>False) s1) (fun _ _=>False) s)
  (n:Nat) (h:J n s):ck (model prog w) A (.compLoop (.ListComp elt [⟨tg,iter,ifs,0⟩] scope pos) 0 it acc env) R s:=by
 refine codeAny_loop rfl J (fun n s hJ=>?_) n h;show wpAny _ A ((compTurn (.ListComp elt [⟨tg,iter,ifs,0⟩] scope pos) 0 it acc env).onRaise (fun x=>do gj x env;theTreesLotGoes x)) _ _ s;refine wpAny_noted ?_;rw[compTurn_list];refine af (bT (af (aI (go n s hJ) (fun r s1 h1=>?_) fun _ _ z=>z.elim)));cases r with
 |none=>exact ay h1
 |some v=>
  refine af (aI h1 (fun _ s2 h2=>af (aI h2 (fun _ s3 h3=>af (aI h3 (fun ok s4 h4=>?_) fun _ _ z=>z.elim)) fun _ _ z=>z.elim)) fun _ _ z=>z.elim);cases ok with
  |false=>exact ay ⟨rfl,h4⟩
  |true=>
   exact af (af (aI h4 (fun y s5 h5=>af (aI h5 (fun _ s6 h6=>ay (ay ⟨rfl,h6⟩)) fun _ _ z=>z.elim)) fun _ _ z=>z.elim))
def CTs(Xc:Cx)(ifs:List Expr)(t:TT):Prop:=
 ∀(pins:List (Addr×Obj)) (s:aa) (σ:St) (H:Hp) (Q:Bool→Hp→Prop),Inv Xc pins σ H s→t σ H Q→
  wpAny (model Xc.prog Xc.w) Xc.A (forIn ifs true fun c r=>if r=true then do let ok ←isTrue c Xc.env (eval c Xc.env);pure (dQ ok)else pure (dQ r)) (TP Xc pins σ Q) Xc.xe s
def xgS:TT:=fun _ H Q=>Q true H
theorem jU{Xc:Cx}:CTs Xc [] xgS:=fun _ _ _ H _ I q=>wpAny_tests_nil ⟨H,I,q⟩
theorem xoT{Xc:Cx}{c:Expr}{t:TT}(h:PT Xc c t):CTs Xc [c] t:=fun pins s σ H Q I q=>wpAny_tests_one (h pins s σ H Q I q)
abbrev CW:=Nat→Nat→List V→Hp→Prop
@[irreducible] def zj(J:It)(caps:St)(tt:TT)(te:TE)(Q:VK)(H2:Hp):Prop:=∀D,H2 D=none→∃W:CW,(∃m,W 0 m [] (upd H2 D (.lst [])))∧
 ∀i m acc H3,W i m acc H3→H3 D=some (.lst acc)∧((J.stop i H3∧Q (.ref D) H3)∨(J.go i H3∧acc.length<aN∧∀v H4,J.yld i H3 v H4→tt (some v::caps) H4 fun b H5=>
  (b=true→te (some v::caps) H5 fun u H6=>H6 D=some (.lst acc)∧∃m',m'<m∧W (i+1) m' (acc++[u]) (upd H6 D (.lst (acc++[u]))))∧(b=false→∃m',m'<m∧W (i+1) m' acc H5)))
def xoq(cap:List Nat)(wi:TI)(tt:TT)(te:TE):TE:=fun σ H Q=>wi σ H fun J H2=>zj J (xbd σ cap) tt te Q H2
section
variable {X:Cx} {scope:Scope} {x:Str} {cap:List Nat} {ys:List Str} {elt iter:Expr} {ifs:List Expr} {px pos:Pos} {wi:TI} {tt:TT} {te:TE}
theorem xfX(B:uL X scope x cap ys)(hc:X.calm=true)(he:∀C s H fp,PE (X.blk scope C (x::ys) s H fp) elt te)(ht:∀C s H fp,CTs (X.blk scope C (x::ys) s H fp) ifs tt)
  {pins:List (Addr×Obj)} {σ:St} {s₂:aa} {Q:VK} {RR:Value→Addr→gL→aa→Prop} {itv:Value} {E:Value→aa→Prop}
  (hp:PIE X pins σ (.Name x px) (fun J H2=>zj J (xbd σ cap) tt te Q H2) itv s₂)
  (hR:∀(D C:Addr) (H':Hp) (s':aa),Inv X pins σ H' s'→(∃m,s'.heap.Ns C m)→H' C=none→C≠X.env.locals→X.s₀.heap.objs.size≤C→(∀z c,X.env.cells.lookup z=some c→c≠C)→(∀p∈X.pn++pins,p.1≠C)→Q (.ref D) H'→RR (.ref D) C (.ok .next) s'):
  wpAny (model X.prog X.w) X.A (newList []) (fun acc s₃=>wpAny (model X.prog X.w) X.A (newFunctionEnv scope X.env.globals (yQ X.env.cells scope.names []) [] X.env.qual none .none (some X.env)) (fun cenv s₄=>
   ck (model X.prog X.w) X.A (.compStart (.ListComp elt [⟨.Name x px,iter,ifs,0⟩] scope pos) 0 itv acc {cenv with scope:=relabel scope X.env}) (RR acc cenv.locals) s₄) E s₃) E s₂:=by
 obtain⟨it,fp,tn,J,H2,e,I2,T,st2,f2,hw⟩:=hp;subst e;unfold zj at hw;refine dk (wpAny_newFunctionEnv B.nocell (by intro y hy;simp at hy) (fun h₁ hns₁ hsb₁=>?_) B.kind);dsimp only at hns₁ hsb₁⊢;generalize hG:s₂.heap.push {cls:=.type "list",dict:=none,data:=.seq ([]:List Value).toArray}=G at hns₁ hsb₁⊢;have hsz:G.objs.size=s₂.heap.objs.size+1:=by rw[←hG,ek]
 have hCle:s₂.heap.objs.size≤G.objs.size:=by lia
 have hDC:s₂.heap.objs.size≠G.objs.size:=by lia
 have old:∀b o,s₂.heap.get? b=some o→h₁.get? b=some o:=fun b o q=>by
  have lt:=aw q;refine hsb₁.extBut b o (aG (aF lt hCle)) (ai _ ?_);rw[←hG];exact ai _ q
 have accAt:h₁.get? s₂.heap.objs.size=some {cls:=.type "list",data:=.seq ([]:List Value).toArray}:=by
  refine hsb₁.extBut _ _ hDC (ai _ ?_);rw[←hG];exact aL _ rfl
 have hfp:∀b∈fp,b<s₂.heap.objs.size:=fun b hb=>by
  obtain⟨o,ho,_⟩:=T.obj _ _ st2 b hb;exact aw ho
 obtain⟨W,⟨m0,w0⟩,turn⟩:=hw s₂.heap.objs.size (I2.hok.fresh (ax _));generalize htk:s₂.toks+([]:List (Str×Value)).length=tk;have I0:=B.start (tk:=tk) (C:=G.objs.size) I2 f2 (ax _) hCle hDC old ⟨_,hns₁⟩ accAt hfp;have st0:tn 0 h₁:=T.keep _ _ _ st2 fun b hb o q=>old b o q
 -- what stays true of the iterator's objects
 have f3:∀{H':Hp},(∀b∈fp,H' b=none)→∀b∈fp,xb8 (X.blk scope G.objs.size (x::ys) s₂ H2 fp) [] H' b:=fun hn b hb=>by
  obtain⟨f0,f1,f2',f3',f4,f5⟩:=f2 b hb;refine⟨hn b hb,aG (aF (hfp b hb) hCle),fun hs=>?_,.inl hb,fun z c q=>f4 z c (B.sub I2.ok q),fun p hp=>absurd (show p∈([]:List (Addr×Obj))from hp) (by simp)⟩;rcases av.mp (I2.stkSub b hs)with q|q
  ·exact f1 q
  ·exact f2' q
 have n0:∀b∈fp,upd H2 s₂.heap.objs.size (.lst []) b=none:=fun b hb=>by
  rw[xl (aG (hfp b hb))];exact(f2 b hb).1
 have loop:∀sx:aa,sx={s₂ with heap:=h₁,toks:=tk}→
   ck (model X.prog X.w) X.A (.compLoop (.ListComp elt [⟨.Name x px,iter,ifs,0⟩] scope pos) 0 (.ref it) (.ref s₂.heap.objs.size) (compEnvC scope (yQ X.env.cells scope.names []) G.objs.size X.env)) (RR (.ref s₂.heap.objs.size) G.objs.size) sx:=by
  rintro sx rfl;refine xld (fun n s'=>∃i acc H',Inv (X.blk scope G.objs.size (x::ys) s₂ H2 fp) [] (none::xbd σ cap) H' s'∧tn i s'.heap∧(∀b∈fp,H' b=none)∧W i n acc H') ?_ m0 ⟨0,[],_,I0,st0,n0,w0⟩;rintro n s3 ⟨i,acc,H3,I3,st3,fr3,w3⟩;obtain⟨hD3,alt⟩:=turn i n acc H3 w3;rcases alt with⟨stop,q⟩|⟨go,hlen,step⟩
  ·refine aI (T.done (X.blk scope G.objs.size (x::ys) s₂ H2 fp) rfl rfl rfl hc i [] s3 _ H3 (fun _ _=>False) I3 (f3 fr3) st3 stop) (fun r s4 ⟨hr,I4⟩=>?_) fun _ _ z=>z.elim;subst hr;obtain⟨g1,g2,g3,g4,g5⟩:=uL.far I2 hCle I4;obtain⟨m4,hm4,_⟩:=I4.loc;exact hR _ _ H3 s4 (B.back I2 f2 I4) ⟨m4,hm4⟩ g1 g2 g3 g4 g5 q
  ·refine aI (T.item (X.blk scope G.objs.size (x::ys) s₂ H2 fp) rfl rfl rfl hc i [] s3 _ H3 (fun _ _=>False) I3 (f3 fr3) st3 go) (fun r s4 ⟨u,hr,h4⟩=>?_) fun _ _ z=>z.elim;subst hr;refine aI h4 (fun _ s4 ⟨v,H4,I4,rv,y4,st4,fr4⟩=>?_) fun _ _ z=>z.elim;have I4':=I4.pinned (f3 fr4) (T.obj _ _ st4);refine gx (xa7 (X:=X.blk scope G.objs.size (x::ys) s₂ H2 fp) (i:=0) I4' B.nd rfl (.inl (lookup_relabel_local B.lx)) rv (fun s5 I5=>?_) (.inr (lookup_relabel_local B.lx)));have I5':Inv (X.blk scope G.objs.size (x::ys) s₂ H2 fp) ([]++xa9 fp s4.heap) (some v::xbd σ cap) H4 s5:=I5;refine aI (ht _ _ _ _ _ s5 _ H4 _ I5' (step v H4 y4)) (fun ok s6 ⟨H6,I6,q6⟩=>?_) fun _ _ z=>z.elim;have pinned:∀{σ7:St} {H7:Hp} {s7:aa},Inv (X.blk scope G.objs.size (x::ys) s₂ H2 fp) ([]++xa9 fp s4.heap) σ7 H7 s7→tn (i+1) s7.heap∧∀b∈fp,H7 b=none:=fun{σ7 H7 s7} I7=>by
    refine⟨T.keep _ _ _ st4 fun b hb o e=>(I7.pin (b,o) (aR _ (aR _ (xaS hb e)))).1,fun b hb=>?_⟩;obtain⟨o,e,d⟩:=T.obj _ _ st4 b hb;exact(I7.pin (b,o) (aR _ (aR _ (xaS hb e)))).2.1
   have weak:∀{H7:Hp} {s7:aa},Inv (X.blk scope G.objs.size (x::ys) s₂ H2 fp) ([]++xa9 fp s4.heap) (some v::xbd σ cap) H7 s7→Inv (X.blk scope G.objs.size (x::ys) s₂ H2 fp) [] (none::xbd σ cap) H7 s7:=fun I7=>
    (I7.unpinned (pins:=[])).weak rfl fun j z e=>by
     cases j with
     |zero=>simp at e
     |succ j=>simpa using e
   cases ok with
   |false=>
    rw[if_neg aJ];obtain⟨m',hm',w'⟩:=q6.2 rfl;exact⟨m',hm',i+1,acc,H6,weak I6,(pinned I6).1,(pinned I6).2,w'⟩
   |true=>
    rw[if_pos rfl];refine aI (he _ _ _ _ _ s6 _ H6 _ I6 (q6.1 rfl)) (fun y s7 ⟨z,H7,I7,rz,hD7,m',hm',w'⟩=>?_) fun _ _ z=>z.elim;refine aI (je (X:=X.blk scope G.objs.size (x::ys) s₂ H2 fp) _ s7 _ H7 (.ref s₂.heap.objs.size) [z] (.ref s₂.heap.objs.size) [y] (fun _ H8=>H8=upd H7 s₂.heap.objs.size (.lst (acc++[z]))) I7 rfl (.cons rz .nil) ⟨_,acc,z,rfl,rfl,hD7,hlen,rfl⟩) (fun _ s8 ⟨_,H8,I8,_,e8⟩=>?_) fun _ _ z=>z.elim;subst e8;exact⟨m',hm',i+1,_,_,weak I8,(pinned I8).1,(pinned I8).2,w'⟩
 exact codeAny_compStart_list (loop _ rfl) (T.self _ 0 _ _ _ st0 (loop _ rfl))
theorem jV(B:uL X scope x cap ys)(hc:X.calm=true)(hi:PI X (.Name x px) iter wi)(he:∀C s H fp,PE (X.blk scope C (x::ys) s H fp) elt te)(ht:∀C s H fp,CTs (X.blk scope C (x::ys) s H fp) ifs tt)
  (hs:∀x,fk iter X.env x=pure x:=by intro _;rfl):PE X (.ListComp elt [⟨.Name x px,iter,ifs,0⟩] scope pos) (xoq cap wi tt te):=by
 intro pins s σ H Q I h;rw[eval_ListComp];refine gT (use:=none) rfl hs (xcT (B.clos I.ok)) B.kind B.locs ?_;refine thn (hi pins s σ H _ I h) fun v s1 h1=>thn h1 fun itv s2 h2=>?_;refine xfX (Q:=Q) (RR:=fun acc C=>compPost (model X.prog X.w) X.A X.xe none (EP X pins σ Q) acc C) B hc he ht h2 ?_;rintro D C H' s' J ⟨m,hm⟩ g1 g2 g3 g4 g5 q;exact⟨m,hm,fun h' sb=>⟨.ref D,H',J.turned (t':=s'.toks) (fun b o hb e=>(sb.2 b hb).trans e) g1 g2 (.inr g3) g4 g5,rfl,q⟩⟩
theorem xle{i:Nat}{y:Str}{pos' spos:Pos}(B:uL X scope x cap ys)(hc:X.calm=true)(hN:X.N.Nodup)(hi:X.N[i]? =some y)(hy:X.env.scope.names.lookup y=some .local)(hit:PI X (.Name x px) iter wi)
  (he:∀C s H fp,PE (X.blk scope C (x::ys) s H fp) elt te) (ht:∀C s H fp,CTs (X.blk scope C (x::ys) s H fp) ifs tt)
  (hsw:eA (.ListComp elt [⟨.Name x px,iter,ifs,0⟩] scope pos) (some (.Name y pos')) spos.line X.env=pure true:=by rfl)
  (hs:∀x,fk iter X.env x=pure x:=by intro _;rfl):
  PS X (.Assign [.Name y pos'] (.ListComp elt [⟨.Name x px,iter,ifs,0⟩] scope pos) spos) (xff (xoq cap wi tt te) (xfJ i)):=by
 intro pins s σ H D I h;rw[exec_Assign_Name_used _ _ _ _ hsw];refine af (bT (af ?_));show wpAny _ X.A (do let _ ←comprehension (.ListComp elt [⟨.Name x px,iter,ifs,0⟩] scope pos) scope X.env _ (newList []) false (eval iter X.env) (some (gf (.Name y pos') X.env))) _ _ s;refine af (aI (gT (use:=some (gf (.Name y pos') X.env)) (Q:=fun _ s'=>SP X pins D .next s') rfl hs (xcT (B.clos I.ok)) B.kind B.locs
  (thn (hit pins s σ H _ I h) fun v s1 h1=>thn h1 fun itv s2 h2=>?_)) (fun _ s' hq=>ay (ay hq)) fun _ _ e=>e)
 refine xfX (Q:=fun v H1=>xfJ i v σ H1 D.nx) (RR:=fun acc C=>compPost (model X.prog X.w) X.A X.xe (some (gf (.Name y pos') X.env)) (fun _ s'=>SP X pins D .next s') acc C) B hc he ht h2 ?_;rintro Da C H' s' J ⟨m,hm⟩ g1 g2 g3 g4 g5 q;show wpAny _ X.A (gf (.Name y pos') X.env (.ref Da)) _ _ s';refine(gx (xhs (v:=.ref Da) J hN hi (.inl hy) rfl (fun s4 J4 ⟨a,sb,ha⟩=>?_) (.inr hy)));have hCa:C≠a:=by
  rcases ha with z|z
  ·rw[z];exact g2
  ·exact fun w=>g4 y a z w.symm
 refine⟨m,hm.sameBut sb hCa,fun h' sb'=>?_⟩;exact⟨_,H',J4.turned (t':=s4.toks) (fun b o hb e=>(sb'.2 b hb).trans e) g1 g2 (.inr g3) g4 g5,q⟩
end
end L2
namespace L2
open PySem PySem.Spec PyProof.Rows
def Its(lo st:Int)(n:Nat):It:=⟨fun i _=>i<n,fun i H x H'=>H'=H∧x= .int (lo+i*st),fun i _=>n≤i⟩
theorem xlf{P:ak}{w:World}{K:ag}{tg:Expr}(it:Addr)(lo st:Int)(n:Nat):Turn P w K tg (Its lo st n) [it] it (fun i h=>IsRangeIter h it (lo+(i:Nat)*st) ((n:Int) - (i:Nat)) st) where
 mem:=by simp
 obj:=fun i h q b hb=>by
  have e:b=it:=by simpa using hb
  subst e;exact⟨_,q,fun v z=>by
   have z':Data.fields _=Data.cell v:=z;cases z'⟩
 keep:=fun i h h' q k=>k it (by simp) _ q
 item:=by
  intro X hP hw hK hc i pins s σ H E I hf q hg;subst hP hw hK;obtain⟨f0,f1,f2,f3,f4,f5⟩:=hf it (by simp);refine(Walks.range (prog:=X.prog) (w:=X.w) (I.ok.hd hc) it lo st n).item i s _ _ hg q fun v h' tk hv q' kk=>?_;obtain⟨t,rfl⟩:=hv;have I1:Inv X pins σ H {s with heap:=h',toks:=tk}:=I.turned (fun b o hb e=>kk b o (by simpa using hb) e) f0 f1 f3 f4 f5;exact⟨_,rfl,xio (s:={s with heap:=h',toks:=tk}) (n:="range_iterator") q' rfl rfl (by decide) ⟨.int (lo+i*st),H,I1,⟨t,rfl⟩,⟨rfl,rfl⟩,q',fun b hb=>(hf b hb).1⟩⟩
 done:=by
  intro X hP hw hK hc i pins s σ H E I hf q hg;subst hP hw hK;obtain⟨f0,f1,f2,f3,f4,f5⟩:=hf it (by simp);exact wpAny_pyNext_range_end (I.ok.hd hc) q (by have:n≤i:=hg;lia) fun h' eb=>⟨rfl,I.turned (t':=s.toks) (fun b o hb e=>eb b o hb e) f0 f1 f3 f4 f5⟩
 self:=fun _ _ _ _ _ q h=>wpAny_pyIter_rangeiter q h
theorem xmo{P:ak}{w:World}{K:ag}{tg:Expr}(it:Addr)(lo st:Int)(n:Nat):Turn P w K tg (Its lo st n) [it] it (fun i h=>iO h it (lo+(i:Nat)*st) ((n:Int) - (i:Nat)) st) where
 mem:=by simp
 obj:=fun i h q b hb=>by
  have e:b=it:=by simpa using hb
  subst e;exact⟨_,q,fun v z=>by
   have z':Data.fields _=Data.cell v:=z;cases z'⟩
 keep:=fun i h h' q k=>k it (by simp) _ q
 item:=by
  intro X hP hw hK hc i pins s σ H E I hf q hg;subst hP hw hK;obtain⟨f0,f1,f2,f3,f4,f5⟩:=hf it (by simp);refine(Walks.longrange (prog:=X.prog) (w:=X.w) (I.ok.hd hc) it lo st n).item i s _ _ hg q fun v h' tk hv q' kk=>?_;obtain⟨t,rfl⟩:=hv;have I1:Inv X pins σ H {s with heap:=h',toks:=tk}:=I.turned (fun b o hb e=>kk b o (by simpa using hb) e) f0 f1 f3 f4 f5;exact⟨_,rfl,xio (s:={s with heap:=h',toks:=tk}) (n:="longrange_iterator") q' rfl rfl (by decide) ⟨.int (lo+i*st),H,I1,⟨t,rfl⟩,⟨rfl,rfl⟩,q',fun b hb=>(hf b hb).1⟩⟩
 done:=by
  intro X hP hw hK hc i pins s σ H E I hf q hg;subst hP hw hK;obtain⟨f0,f1,f2,f3,f4,f5⟩:=hf it (by simp);exact wpAny_pyNext_long_end (I.ok.hd hc) q (by have:n≤i:=hg;lia) fun h' eb=>⟨rfl,I.turned (t':=s.toks) (fun b o hb e=>eb b o hb e) f0 f1 f3 f4 f5⟩
 self:=fun _ _ _ _ _ q h=>wpAny_pyIter_longiter q h
def yx(a b c:Int):Nat:=(bc a b c).toNat
theorem xiE(a b c:Int):0≤bc a b c:=by
 unfold bc
 split
 ·split
  ·have:=Int.ediv_nonneg (a:=b - a - 1) (b:=c) (by lia) (by lia);lia
  ·lia
 ·split
  ·have:=Int.ediv_nonneg (a:=a - b - 1) (b:= -c) (by lia) (by lia);lia
  ·lia
theorem xhF(a b c:Int):((yx a b c:Nat):Int)=bc a b c:=cM (xiE a b c)
theorem ua(a b:Int):yx a b 1=(b - a).toNat:=by
 unfold yx bc;simp only[show(1:Int) > 0 by decide,if_true]
 split<;> simp<;> lia
section
variable {X:Cx} {tg:Expr}
theorem xiF{pins:List (Addr×Obj)}{σ:St}{H:Hp}{s:aa}{R:It→Hp→Prop}{E:Value→aa→Prop}{a b c:Int}{t u v:Tok}{r:Addr}(I:Inv X pins σ H s)(hr:IsRange s.heap r a b c t u v)
  (q:R (Its a c (yx a b c)) H):wpAny (model X.prog X.w) X.A (pyIter (.ref r)) (PIE X pins σ tg R) E s:=by
 have e2:bc a b c=((yx a b c:Nat):Int) - ((0:Nat):Int):=by rw[xhF];simp
 have e1:a=a+((0:Nat):Int)*c:=by simp
 have fp:∀b'∈[s.heap.objs.size],xb8 X pins H b':=fun b' hb=>by
  have e:b'=s.heap.objs.size:=by simpa using hb
  subst e;exact I.fpOk (ax _) (I.hok.fresh (ax _))
 cases hsm:fT a b c with
 |true=>
  refine wpAny_pyIter_range hr hsm ⟨s.heap.objs.size,[s.heap.objs.size],_,_,H,rfl,I.kept (t':=s.toks) fun b o e=>ai _ e,xlf _ a c (yx a b c),?_,fp,q⟩;show IsRangeIter _ _ (a+((0:Nat):Int)*c) (((yx a b c:Nat):Int) - ((0:Nat):Int)) c;rw[←e1,←e2];exact aL _ rfl
 |false=>
  refine wpAny_pyIter_longrange hr hsm ⟨s.heap.objs.size,[s.heap.objs.size],_,_,H,rfl,I.kept (t':=s.toks) fun b o e=>ai _ e,xmo _ a c (yx a b c),?_,fp,q⟩;show iO _ _ (a+((0:Nat):Int)*c) (((yx a b c:Nat):Int) - ((0:Nat):Int)) c;rw[←e1,←e2];exact aL _ rfl
def xlg(k:Int→Hp→Prop):List V→Hp→Prop:=fun vs H=>match vs with
 |[.int j]=>k j H
 |_=>False
def xeF(k:Int→Int→Hp→Prop):List V→Hp→Prop:=fun vs H=>match vs with
 |[.int i,.int j]=>k i j H
 |_=>False
def xlh(k:Int→Int→Int→Hp→Prop):List V→Hp→Prop:=fun vs H=>match vs with
 |[.int i,.int j,.int l]=>k i j l H
 |_=>False
theorem xkq{k:Int→Hp→Prop}{vs:List V}{H:Hp}(h:xlg k vs H):∃j,vs=[.int j]∧k j H:=by
 unfold xlg at h
 split at h
 ·exact⟨_,rfl,h⟩
 ·exact h.elim
theorem xcV{k:Int→Int→Hp→Prop}{vs:List V}{H:Hp}(h:xeF k vs H):∃i j,vs=[.int i,.int j]∧k i j H:=by
 unfold xeF at h
 split at h
 ·exact⟨_,_,rfl,h⟩
 ·exact h.elim
theorem xnw{k:Int→Int→Int→Hp→Prop}{vs:List V}{H:Hp}(h:xlh k vs H):∃i j l,vs=[.int i,.int j,.int l]∧k i j l H:=by
 unfold xlh at h
 split at h
 ·exact⟨_,_,_,rfl,h⟩
 ·exact h.elim
theorem xoU{us:List Value}{i:Int}(r:Vals [.int i] us):∃t,us=[.int i t]:=by
 obtain⟨u,rfl,t,rfl⟩:=Vals.one r;exact⟨t,rfl⟩
theorem xgT{us:List Value}{i j:Int}(r:Vals [.int i,.int j] us):∃t t',us=[.int i t,.int j t']:=by
 obtain⟨u,v,rfl,⟨t,rfl⟩,⟨t',rfl⟩⟩:=Vals.two r;exact⟨t,t',rfl⟩
theorem xoV{us:List Value}{i j l:Int}(r:Vals [.int i,.int j,.int l] us):∃t t' t'',us=[.int i t,.int j t',.int l t'']:=by
 cases r with
 |cons r rr=>
  obtain⟨t',t'',rfl⟩:=xgT rr;obtain⟨t,rfl⟩:=r;exact⟨t,t',t'',rfl⟩
def xmp(c:Int):Prop:=c≠0∧c.natAbs.log2<9000
def xrj(ta:TA):TI:=fun σ H R=>ta σ H (xlg fun j H1=>R (Its 0 1 (yx 0 j 1)) H1)
def xrk(ta:TA):TI:=fun σ H R=>ta σ H (xeF fun i j H1=>R (Its i 1 (yx i j 1)) H1)
def xrl(ta:TA):TI:=fun σ H R=>ta σ H (xlh fun i j c H1=>xmp c∧R (Its i c (yx i j c)) H1)
theorem xbV{a:Expr}{ta:TA}{p pos:Pos}(hg:Gl X "range")(hm:X.mg "range"=none)(ha:PA X [a] ta)(hs:aC [a] X.env=[(false,eval a X.env)]:=by rfl):PI X tg (.Call (.Name "range" p) [a] [] pos) (xrj ta):=by
 intro pins s σ H R I h;refine Call_ (uQ I hg hm iP (bL (thn (ha pos pins s σ H _ I h) fun us s1 ⟨vs,H1,I1,r1,q1⟩=>?_) hs rfl));obtain⟨j,rfl,q⟩:=xkq q1;obtain⟨t,rfl⟩:=xoU r1;refine call_range_1 (xiF (I1.kept (t':=_) fun b o e=>ai _ e) (kj ..) q)
theorem xmq{a b:Expr}{ta:TA}{p pos:Pos}(hg:Gl X "range")(hm:X.mg "range"=none)(ha:PA X [a,b] ta)(hs:aC [a,b] X.env=[(false,eval a X.env),(false,eval b X.env)]:=by rfl)(hs2:aC [b] X.env=[(false,eval b X.env)]:=by rfl):
  PI X tg (.Call (.Name "range" p) [a,b] [] pos) (xrk ta):=by
 intro pins s σ H R I h;refine Call_ (uQ I hg hm iP (bL (thn (ha pos pins s σ H _ I h) fun us s1 ⟨vs,H1,I1,r1,q1⟩=>?_) (by rw[hs,hs2]) (by rw[hs2];rfl)));obtain⟨i,j,rfl,q⟩:=xcV q1;obtain⟨t,t',rfl⟩:=xgT r1;exact call_range_2 (xiF (I1.kept (t':=_) fun b o e=>ai _ e) (kj ..) q)
theorem xhG{a b c:Expr}{ta:TA}{p pos:Pos}(hg:Gl X "range")(hm:X.mg "range"=none)(ha:PA X [a,b,c] ta)(hs:aC [a,b,c] X.env=(false,eval a X.env)::aC [b,c] X.env:=by rfl)(hpl:(bC pos (aC [b,c] X.env)).any (·.1)=false:=by rfl):
  PI X tg (.Call (.Name "range" p) [a,b,c] [] pos) (xrl ta):=by
 intro pins s σ H R I h;refine Call_ (uQ I hg hm iP (bL (thn (ha pos pins s σ H _ I h) fun us s1 ⟨vs,H1,I1,r1,q1⟩=>?_) hs hpl));obtain⟨i,j,l,rfl,⟨h0,hl⟩,q⟩:=xnw q1;obtain⟨t,t',t'',rfl⟩:=xoV r1;exact call_range_3 h0 (xiF (I1.kept (t':=_) fun b o e=>ai _ e) (kj ..) q) (.inl (gS hl))
def xrm(ta:TA):TE:=fun σ H Q=>ta σ H (xeF fun i j H1=>∀p,H1 p=none→Q (.ref p) (upd H1 p (.rng i j)))
theorem xbW{a b:Expr}{ta:TA}{p pos:Pos}(hg:Gl X "range")(hm:X.mg "range"=none)(ha:PA X [a,b] ta)(hs:aC [a,b] X.env=[(false,eval a X.env),(false,eval b X.env)]:=by rfl)(hs2:aC [b] X.env=[(false,eval b X.env)]:=by rfl):
  PE X (.Call (.Name "range" p) [a,b] [] pos) (xrm ta):=by
 intro pins s σ H Q I h;refine Call_ (uQ I hg hm iP (bL (thn (ha pos pins s σ H _ I h) fun us s1 ⟨vs,H1,I1,r1,q1⟩=>?_) (by rw[hs,hs2]) (by rw[hs2];rfl)));obtain⟨i,j,rfl,q⟩:=xcV q1;obtain⟨t,t',rfl⟩:=xgT r1;refine call_range_2 ⟨.ref s1.heap.objs.size,upd H1 s1.heap.objs.size (.rng i j),I1.laid (fun b o e=>ai _ e) (ax _) ⟨_,_,_,aL _ rfl⟩,rfl,q _ (I1.hok.fresh (ax _))⟩
end
end L2
namespace PySem
open Sem (wp)
section
variable {prog:ak} {w:World} {A:aE} {E:Value→aa→Prop} {s:aa}
theorem xli{R:gL→aa→Prop}{r:Addr}{a b c:Int}{t u v:Tok}{k:Nat}(hnd:A.handled=none)(hr:IsRange s.heap r a b c t u v)(hbig:fT a b c=false)
  (hk:bc a b c=k) (hle:k≤2^24) (D:Addr) (z:Value) (m₀:Nat) (hD:s.heap.get? D=some {cls:=.type "list",data:=.seq #[] m₀})
  (hR:∀g tk xs m,(∀b o,b≠D→s.heap.get? b=some o→g.get? b=some o)→g.get? D=some {cls:=.type "list",dict:=none,data:=.seq xs m,slots:=#[]}→
   ItemsOf (fun i v=>∃t,v= .int (a+i*c) t) xs k→R (.ok (.ret z)) {s with heap:=g,toks:=tk}):
  wpAny (model prog w) A.in1 (cg (.ref D) (.ref r) z)
   (fun fin s'=>match fin with| .done f=>R (.ok f) s'| .again d=>d.quiet=true∧ck (model prog w) A d R s') (fun e s'=>R (.error e) s') s:=by
 have nDr:D≠r:=fun e=>by rw[e,hr]at hD;simp at hD
 have nDI:D≠s.heap.objs.size:=aG (aw hD);have nDf:D∉[s.heap.objs.size]:=fun q=>nDI (aj.mp q);have Wk:=(Walks.longrange (prog:=prog) (w:=w) (A:=A.in1) hnd s.heap.objs.size a c k).toS;have fin:∀(g:Heap) (m₁ tk:Nat),iO g s.heap.objs.size (a+((0:Nat):Int)*c) ((k:Int) - ((0:Nat):Int)) c→(∀b o,b≠D→s.heap.get? b=some o→g.get? b=some o)→
   g.get? D=some {cls:=.type "list",data:=.seq #[] m₁}→ck (model prog w) A (.builtin "list.extend.loop" ⟨[.ref D,.ref s.heap.objs.size,z],[]⟩) R {s with heap:=g,toks:=tk}:=by
  intro g m₁ tk q1 q2 q3;refine codeAny_extend_loopS Wk (by rw[aZ];omega) D nDf z k 0 _ #[] m₁ rfl (bM _) q1 q3 (ItemsOf.nil _) fun s' xs m hm hD' hx=>?_;rw[Moved.eq_with hm];refine hR s'.heap s'.toks xs m (fun b o hb e=>hm.heap b o (fun hq=>?_) (q2 b o hb e)) hD' hx;rcases av.mp hq with e'|hq
  ·exact hb e'
  ·exact absurd (aw e) (by rw[aj.mp hq];exact bS _)
 unfold cg;refine af (wpAny_typeOf (T:="range") ⟨_,hr,rfl⟩ ?_);have x1:gU (.ref D) (.ref r)=false:=by simp[gU,nDr]
 have x2:(eC "range"==eC "list")=false:=by decide
 have x3:(eC "range"==eC "tuple")=false:=by decide
 simp only[x1,x2,x3,Bool.or_false,dR,if_false];refine af (wpAny_pyIter_longrange hr hbig ?_);refine af (bz (wpAny_hint_range (n:=k) (ai _ hr) hk hle ?_));generalize hG:s.heap.push {cls:=.type "longrange_iterator",data:=.fields #[bj a,bj (bc a b c),bj c]}=G;have i1:iO G s.heap.objs.size (a+((0:Nat):Int)*c) ((k:Int) - ((0:Nat):Int)) c:=by
  have q:G.get? s.heap.objs.size=some {cls:=.type "longrange_iterator",data:=.fields #[bj a,bj (bc a b c),bj c]}:=by rw[←hG];exact aL _ rfl
  rw[hk]at q;show G.get? _=_;rw[q];simp
 have old:∀b o,s.heap.get? b=some o→G.get? b=some o:=fun b o e=>by rw[←hG];exact ai _ e
 have d1:=old D _ hD;refine wpAny_ite_split (fun _=>?_) (fun _=>ay ⟨eJ F.plain_extend_loop _,fin _ m₀ _ i1 (fun b o _ e=>old b o e) d1⟩);refine af (wpAny_rule ?_);refine af ?_;show wpAny _ _ (ic D (·.push .none) >>= fun _=>ic D (·.pop)) _ _ _;refine af (dS d1 rfl ?_);have d2:=a8 (cW (·.push aU)) d1 rfl;refine dS (hz:=by seq_fits) d2 rfl ?_;have d3:=a8 (cW (·.pop)) d2 rfl;refine ay ⟨eJ F.plain_extend_loop _,fin _ _ _ ?_ (fun b o hb e=>?_) d3⟩
 ·exact(aO _ _ nDI).trans ((aO _ _ nDI).trans i1)
 ·exact(aO _ _ (au hb)).trans ((aO _ _ (au hb)).trans (old b o e))
theorem xlj{R:gL→aa→Prop}{r:Addr}{a b c:Int}{t u v:Tok}{k:Nat}(hnd:A.handled=none)(hr:IsRange s.heap r a b c t u v)
  (hk:bc a b c=k) (hle:k≤2^24) (D:Addr) (z:Value) (m₀:Nat) (hD:s.heap.get? D=some {cls:=.type "list",data:=.seq #[] m₀})
  (hR:∀g tk xs m,(∀b o,b≠D→s.heap.get? b=some o→g.get? b=some o)→g.get? D=some {cls:=.type "list",dict:=none,data:=.seq xs m,slots:=#[]}→
   ItemsOf (fun i v=>∃t,v= .int (a+i*c) t) xs k→R (.ok (.ret z)) {s with heap:=g,toks:=tk}):
  wpAny (model prog w) A.in1 (cg (.ref D) (.ref r) z)
   (fun fin s'=>match fin with| .done f=>R (.ok f) s'| .again d=>d.quiet=true∧ck (model prog w) A d R s') (fun e s'=>R (.error e) s') s:=by
 cases hs:fT a b c with
 |true=>exact wpAny_extend_range hnd hr hs hk hle D z m₀ hD hR
 |false=>exact xli hnd hr hs hk hle D z m₀ hD hR
theorem xgU{Q:Value→aa→Prop}{r:Addr}{a b c:Int}{t u v:Tok}{k:Nat}(hnd:A.handled=none)(hr:IsRange s.heap r a b c t u v)
  (hk:bc a b c=k) (hle:k≤2^24)
  (hQ:∀g tk xs m,(∀b o,s.heap.get? b=some o→g.get? b=some o)→
   g.get? s.heap.objs.size=some {cls:=.type "list",dict:=none,data:=.seq xs m,slots:=#[]}→ItemsOf (fun i v=>∃t,v= .int (a+i*c) t) xs k→Q (.ref s.heap.objs.size) {s with heap:=g,toks:=tk}):
  wpAny (model prog w) A (call (.type "list") [.ref r]) Q E s:=by
 refine callType_codes (Q₁:=fun obj s₁=>obj= .ref s.heap.objs.size∧s₁={s with heap:=s.heap.push {cls:=.type "list",data:=.seq #[]}}) F.called_list (F.typeCall_list_1 _) F.entry_list_init
  (code_list_new _ ⟨rfl,rfl⟩) fun obj s₁ q₁=>?_
 obtain⟨rfl,rfl⟩:=q₁;generalize hG:s.heap.push {cls:=.type "list",data:=.seq #[]}=G;have old:∀b o,s.heap.get? b=some o→G.get? b=some o:=fun b o e=>by rw[←hG];exact ai _ e
 have hD:G.get? s.heap.objs.size=some {cls:=.type "list",data:=.seq #[]}:=by rw[←hG];exact aL _ rfl
 have nDr:s.heap.objs.size≠r:=fun e=>absurd (aw hr) (by rw[←e];exact bS _);refine⟨⟨_,hD,rfl⟩,F.args_list_init_2 _ _,?_⟩;show wpAny _ _ (do let old ←iu (.ref s.heap.objs.size);Builtin.List.listUpdate (.ref s.heap.objs.size) (fun _=>#[]);letGo old.toList.reverse;cg (.ref s.heap.objs.size) (.ref r) .none) _ _ _;refine af ?_;unfold iu;refine af (ff hD rfl (ay ?_));show wpAny _ _ (ic s.heap.objs.size (fun _=>#[]) >>= fun _=>letGo (#[]:Array Value).toList.reverse >>= fun _=>cg (.ref s.heap.objs.size) (.ref r) .none) _ _ _;refine af (dS hD rfl ?_);have d2:=a8 (cW (fun _=>(#[]:Array Value))) hD rfl;have oth:∀b o,b≠s.heap.objs.size→G.get? b=some o→(G.update s.heap.objs.size (cW (fun _=>(#[]:Array Value)))).get? b=some o:=
  fun b o hb e=>(aO _ _ (au hb)).trans e
 refine af (f7 ?_);refine xlj (A:=A.in1) hnd (oth r _ (au nDr) (old r _ hr)) hk hle s.heap.objs.size .none _ d2 fun g tk xs m q1 q2 q3=>⟨rfl,?_⟩;exact hQ g tk xs m (fun b o e=>q1 b o (aG (aw e)) (oth b o (aG (aw e)) (old b o e))) q2 q3
end
end PySem
namespace L2
open PySem PySem.Spec PyProof.Rows
def xdT(lo:Int)(n:Nat):List V:=(dN n).map fun(i:Nat)=>V.int (lo+(i:Int))
theorem xeV(lo:Int)(n:Nat):(xdT lo n).length=n:=by simp[xdT]
theorem xeW:∀{xs:List V} {us:List Value},xs.length=us.length→(∀(j:Nat) (x:V) (u:Value),xs[j]? =some x→us[j]? =some u→RelV x u)→Vals xs us
 |[],[],_,_=>.nil
 |[],_::_,h,_=>by simp at h
 |_::_,[],h,_=>by simp at h
 |x::xs,u::us,h,k=>.cons (k 0 x u rfl rfl) (xeW (by simpa using h) fun j y v e1 e2=>k (j+1) y v (by simpa using e1) (by simpa using e2))
theorem xlk{lo:Int}{n:Nat}{xs:Array Value}(h:ItemsOf (fun i v=>∃t,v= .int (lo+(i:Int)*1) t) xs n):Vals (xdT lo n) xs.toList:=by
 obtain⟨hl,hv⟩:=h;refine xeW (by rw[xeV];simp[hl]) fun j x u e1 e2=>?_;obtain⟨t,rfl⟩:=hv j u (by simpa using e2);unfold xdT at e1;rw[aD]at e1;cases q:(dN n)[j]? with
 |none=>rw[q]at e1;cases e1
 |some i=>
  rw[q]at e1;have e3:i=j:=by
   obtain⟨h1,h2⟩:=az.mp q;rw[j8]at h2;exact h2.symm
  subst e3;cases e1;exact⟨t,by rw[Int.mul_one]⟩
section
variable {X:Cx}
theorem vO(hc:X.calm=true):yN X (.type "list") (fun xs H Q=>∃p lo hi,xs=[.ref p]∧H p=some (.rng lo hi)∧yx lo hi 1≤2^24∧∀l,H l=none→Q (.ref l) (upd H l (.lst (xdT lo (yx lo hi 1))))):=by
 intro pins s σ H xs us Q I r h;obtain⟨p,lo,hi,rfl,hp,hz,q⟩:=h;obtain⟨u,rfl,ru⟩:=Vals.one r;cases ru;obtain⟨t,u,v,hr⟩:=I.hok p _ hp;refine xgU (I.ok.hd hc) hr (xhF lo hi 1).symm hz fun g tk xs m k1 k2 k3=>?_;have fr:H s.heap.objs.size=none:=I.hok.fresh (ax _);refine⟨.ref s.heap.objs.size,upd H s.heap.objs.size (.lst (xdT lo (yx lo hi 1))),I.laid (h':=g) (t':=tk) k1 (ax _) ⟨?_,xs.toList,m,xlk k3,by simpa using k2⟩,rfl,q _ fr⟩;rw[xeV,aZ];omega
end
end L2
namespace L2
open PySem PySem.Spec PyProof.Rows
mutual
inductive Rp(K:ag)(H:Hp):V→eK→Prop
 |non:Rp K H .non .none
 |bl (b:Bool):Rp K H (.bl b) (.bool b)
 |int (i:Int):Rp K H (.int i) (.int i)
 |str (x:Str):Rp K H (.str x) (.str x)
 |lst {a:Addr} {xs:List V} {ds:List eK}:SqL K H a xs→Rps K H xs ds→Rp K H (.ref a) (.list ds)
 |tup {a:Addr} {xs:List V} {ds:List eK}:SqT K H a xs→Rps K H xs ds→Rp K H (.ref a) (.tuple ds)
inductive Rps(K:ag)(H:Hp):List V→List eK→Prop
 |nil:Rps K H [] []
 |cons {x:V} {d:eK} {xs:List V} {ds:List eK}:Rp K H x d→Rps K H xs ds→Rps K H (x::xs) (d::ds)
end
theorem xf.seqT{K:ag}{H H':Hp}{a:Addr}{xs:List V}(e:xf H H')(h:SqT K H a xs):SqT K H' a xs:=by
 rcases h with(h|⟨o,h⟩)|h
 ·exact .inl (.inl (e _ _ h))
 ·exact .inl (.inr ⟨o,e _ _ h⟩)
 ·exact .inr h
theorem Rps.ints{K:ag}{H:Hp}:∀ns:List Int,Rps K H (ns.map V.int) (ns.map dU)
 |[]=>.nil
 |i::r=>.cons (.int i) (Rps.ints r)
theorem Rp.ints{K:ag}{H:Hp}{a:Addr}{ns:List Int}(h:SqL K H a (ns.map V.int)):Rp K H (.ref a) (.list (ns.map dU)):=.lst h (.ints ns)
section
variable {X:Cx} {pins:List (Addr×Obj)} {σ:St} {H:Hp} {s:aa}
mutual
theorem Rp.reads(I:Inv X pins σ H s):∀{v:V} {d:eK} {u:Value},Rp X.K H v d→RelV v u→∃as,Reads s.heap u d as
 |_,_,u,.non,r=>by cases (show u=aU from r);exact⟨_,.none⟩
 |_,_,u,.bl b,r=>by cases (show u=cU b from r);exact⟨_,.bool b⟩
 |_,_,u,.int i,r=>by obtain⟨t,e⟩:=(show∃t,u=gc i t from r);subst e;exact⟨_,.int i t⟩
 |_,_,u,.str x,r=>by obtain⟨t,e⟩:=(show∃t,u=gd x t from r);subst e;exact⟨_,.str x t⟩
 |_,_,u,.lst (a:=a) q rr,r=>by
  cases (show u=aB a from r);obtain⟨its,rv,p,hz⟩:=I.list q;obtain⟨as,ra⟩:=Rps.reads I rr rv;obtain⟨o,ho,hc,n,hd⟩:=p.isList;exact⟨_,.list ho hc hd (by simpa using ra)⟩
 |_,_,u,.tup (a:=a) q rr,r=>by
  cases (show u=aB a from r);obtain⟨its,rv,p,hz⟩:=I.tuple q;obtain⟨as,ra⟩:=Rps.reads I rr rv;obtain⟨o,ho,hc,n,hd⟩:=p;exact⟨_,.tuple ho hc hd (by simpa using ra)⟩
theorem Rps.reads(I:Inv X pins σ H s):∀{v:List V} {d:List eK} {u:List Value},Rps X.K H v d→Vals v u→∃as,ReadsAll s.heap u d as
 |_,_,_,.nil,.nil=>⟨_,.nil⟩
 |_,_,_,.cons q rr,.cons r t=>by
  obtain⟨as,h1⟩:=Rp.reads I q r;obtain⟨bs,h2⟩:=Rps.reads I rr t;exact⟨_,.cons h1 h2⟩
end
end
def xll(K:ag)(f:Bool→Bool):R2:=fun x y H Q=>∃da db,Rp K H x da∧Rp K H y db∧dC da=true∧dC db=true∧Q (.bl (f (eE da db))) H
section
variable {X:Cx}
theorem xos(hu:X.A.units+64<cLine):OpR X (bx .Eq) (xll X.K fun b=>b):=by
 intro pins s σ H x y v u Q I rx ry q;obtain⟨da,db,hx,hy,sa,sb,q⟩:=q;obtain⟨as,ra⟩:=hx.reads I rx;obtain⟨bs,rb⟩:=hy.reads I ry;exact eq_dataH ra rb sa sb hu ⟨.bl (eE da db),H,I,rfl,q⟩
theorem xot(hu:X.A.units+64<cLine):OpR X (bx .NotEq) (xll X.K fun b=> !b):=by
 intro pins s σ H x y v u Q I rx ry q;obtain⟨da,db,hx,hy,sa,sb,q⟩:=q;obtain⟨as,ra⟩:=hx.reads I rx;obtain⟨bs,rb⟩:=hy.reads I ry;exact ne_dataH ra rb sa sb hu ⟨.bl (!PyData.eqv da db),H,I,rfl,q⟩
def xqr:V→Option Value
 | .ty n=>some (.type n)
 | .ref a=>some (.ref a)
 |_=>none
theorem xnx{c:V}{cv v:Value}(h:xqr c=some cv)(r:RelV c v):v=cv:=by
 cases c with
 |ref a=>cases h;exact r
 |ty n=>cases h;exact r
 |_=>cases h
def xqs(K:ag):List V→Hp→VK→Prop:=fun xs H Q=>∃x c t cv b,xs=[x,c]∧xqr c=some cv∧zI K H x t∧gM K t cv=some b∧Q (.bl b) H
theorem uS:yN X (.builtin "isinstance") (xqs X.K):=by
 intro pins s σ H xs us Q I r h;obtain⟨x,c,t,cv,b,rfl,rc,ty,e,q⟩:=h;obtain⟨u,v,rfl,ru,rv⟩:=Vals.two r;have e2:=xnx rc rv;subst e2;exact xmg I ru ty e fun tk=>⟨.bl b,H,I.tok _,rfl,q⟩
structure xny(K:ag)(C:Addr)(m:Str)(f:Addr):Prop where
 sp:ip K (.ref C) "__getattribute__"=some (some (.builtin "type.__getattribute__"))
 rd:W.readsIn K C (.type "type")=true
 fd:W.findCls K (.ref C) (.type "type") m=some (.val (.ref f))
 kp:bW K (.ref f)=true
theorem xkr{x m:Str}{C f:Addr}{fd:aq}{ps:List Str}{sp:Sp}{dvs:List V}{ds:List Value}{E:XK}{CX:CXT}{k:Nat}{p apos pos:Pos}{e:Expr}{es:List Expr}{t:TA}{pl:Sem Bool}
  (hg:Gl X x) (hm:X.mg x=some (.ref C)) (M:xny X.K C m f) (F:xy X.prog X.w X.K X.mg X.base CX k f fd ps sp) (hr:xS k X.A) (hb:Binds X.K fd ps ds) (hd:Vals dvs ds) (hx:Passes CX X E) (ha:PA X (e::es) t)
  (hst:aC (e::es) X.env=(false,eval e X.env)::aC es X.env:=by rfl) (hpl:(bC pos (aC es X.env)).any (·.1)=false:=by rfl) (hdb:(x==("__debug__":Str))=false:=by decide)
  (ht:eval (.Call (.Attribute (.Name x p) m apos) (e::es) [] pos) X.env=(do
   let ov ←eval (.Name x p) X.env
   fE apos.atName
   let(f,first) ←ee [ov] (eB ov m pl)
   dY pos f first (bC pos (aC (e::es) X.env)) (fy pos (dZ [] X.env))):=by rfl):
  PE X (.Call (.Attribute (.Name x p) m apos) (e::es) [] pos) (xeA sp dvs E t):=by
 intro pins s σ H Q I h;refine c8 (pl:=pl) (zw I hg hm ?_ hdb) ht;refine W.method_cls I.kIn M.sp (W.cls_value I.kIn M.rd M.fd rfl ?_);have I1:=I.tok (s.toks+1);refine eo (first:=[]) (h₀:=X.base) I.ok.mod.kin M.kp (thn (ha pos pins _ σ H _ I1 h) fun us s2 ⟨vs,H2,I2,r,q2⟩=>⟨I2.kIn,?_⟩) hst hpl;exact xfO F hr hb hd hx I2 r q2
end
end L2
namespace L2
open PySem PySem.Spec PyProof.Rows
theorem yK:bB "len"=some (.builtin "len"):=by decide+kernel
theorem xfY:bB "max"=some (.builtin "max"):=by decide+kernel
theorem xfZ:bB "min"=some (.builtin "min"):=by decide+kernel
theorem xqt:bB "abs"=some (.builtin "abs"):=by decide+kernel
theorem yR:bB "isinstance"=some (.builtin "isinstance"):=by decide+kernel
theorem xmr:bB "sum"=some (.builtin "sum"):=by decide+kernel
theorem xqu:bB "all"=some (.builtin "all"):=by decide+kernel
theorem uu:bB "list"=some (.type "list"):=by decide+kernel
theorem ub:bB "tuple"=some (.type "tuple"):=by decide+kernel
theorem xiG:bB "int"=some (.type "int"):=by decide+kernel
theorem xoW:bB "bool"=some (.type "bool"):=by decide+kernel
theorem xbe:bB "enumerate"=some (.type "enumerate"):=by decide+kernel
theorem xoX{f:Str}{v:V}{fs:List (Str×V)}{n:Nat}(h:fs.length<n):(uy f v fs).length<n+1:=dP (xb9 f v fs) (by lia)
section
variable {X:Cx} {a b c:Expr} {ta tb:TE} {pos:Pos}
theorem xiH(hc:X.calm=true):yN X (.builtin "max") (fun xs H Q=>xeF (fun i j H1=>Q (.int (max i j)) H1) xs H):=(xme hc).imp fun xs H Q q=>by
 obtain⟨i,j,rfl,q⟩:=xcV q;refine⟨i,j,rfl,?_⟩;have e:(if j > i then j else i)=max i j:=by split<;> lia
 rw[e];exact q
theorem xf0(hc:X.calm=true):yN X (.builtin "min") (fun xs H Q=>xeF (fun i j H1=>Q (.int (min i j)) H1) xs H):=(xmf hc).imp fun xs H Q q=>by
 obtain⟨i,j,rfl,q⟩:=xcV q;refine⟨i,j,rfl,?_⟩;have e:(if j<i then j else i)=min i j:=by split<;> lia
 rw[e];exact q
theorem xrn:yN X (.builtin "abs") (fun xs H Q=>xlg (fun i H1=>Q (.int (i.natAbs:Int)) H1) xs H):=xnn.imp fun xs H Q q=>by
 obtain⟨i,rfl,q⟩:=xkq q;refine⟨i,rfl,?_⟩;have e:(if i<0 then -i else i)=(i.natAbs:Int):=by split<;> lia
 rw[e];exact q
def isN:V→Bool
 | .non=>true
 |_=>false
theorem xks(x:V):decide (x= .non)=isN x:=by cases x<;> simp[isN]
def xro(ta:TE):TT:=fun σ H Q=>ta σ H fun x H1=>Q (isN x) H1
def xqv(ta:TE):TT:=fun σ H Q=>ta σ H fun x H1=>Q (!isN x) H1
theorem xdU{j pos'}(ha:PE X a ta):PT X (.Compare a [.Is] [.Constant .none j pos'] pos) (xro ta):=(xl9 (xp6 ha)).imp fun σ H Q q=>by
 show ta σ H _;have e:(fun x H1=>∃c,V.bl (decide (x=V.non))= .bl c∧Q c H1)=fun x H1=>Q (isN x) H1:=by
  funext x H1;rw[xks];apply propext;exact⟨fun⟨c,e,q⟩=>by cases e;exact q,fun q=>⟨_,rfl,q⟩⟩
 rw[e];exact q
theorem jW{j pos'}(ha:PE X a ta):PT X (.Compare a [.IsNot] [.Constant .none j pos'] pos) (xqv ta):=(xl9 (xoD ha)).imp fun σ H Q q=>by
 show ta σ H _;have e:(fun x H1=>∃c,V.bl (!decide (x=V.non))= .bl c∧Q c H1)=fun x H1=>Q (!isN x) H1:=by
  funext x H1;rw[xks];apply propext;exact⟨fun⟨c,e,q⟩=>by cases e;exact q,fun q=>⟨_,rfl,q⟩⟩
 rw[e];exact q
end
theorem xbX{lo st:Int}{n:Nat}{g:TG}{tb:TS}{D:Ends}{σ:St}{H:Hp}(Pv:Nat→St→Hp→Prop)(h0:Pv 0 σ H)
  (hs:∀(i:Nat) σ H,i<n→Pv i σ H→g (.int (lo+i*st)) σ H fun σ2 H2=>tb {D with nx:=Pv (i+1),ct:=Pv (i+1),bk:=D.nx} σ2 H2) (hd:∀σ H,Pv n σ H→D.nx σ H):uK (Its lo st n) g tb D σ H:=by
 unfold uK;refine⟨fun i m σ H=>m=n - i∧i≤n∧Pv i σ H,⟨n,by simp,bM _,h0⟩,?_⟩;rintro i m σ H ⟨rfl,hi,p⟩
 by_cases hlt:i<n
 ·refine .inr ⟨hlt,Pv (i+1),fun σ' H' p'=>⟨n - (i+1),by lia,rfl,hlt,p'⟩,fun x H' y=>?_⟩;obtain⟨e,y⟩:=y;subst e y;exact hs i σ _ hlt p
 ·have e:i=n:=by lia
  subst e;exact .inl ⟨ax _,hd σ H p⟩
theorem yZ{K:ag}{l:Addr}{xs:List V}{g:TG}{tb:TS}{D:Ends}{σ:St}{H:Hp}(Pv:Nat→St→Hp→Prop)(h0:Pv 0 σ H)(hl:∀i σ H,i≤xs.length→Pv i σ H→SqL K H l xs)
  (hs:∀i x σ H,xs[i]? =some x→Pv i σ H→g x σ H fun σ2 H2=>tb {D with nx:=Pv (i+1),ct:=Pv (i+1),bk:=D.nx} σ2 H2) (hd:∀σ H,Pv xs.length σ H→D.nx σ H):uK (Itl K l) g tb D σ H:=by
 unfold uK;exact xnl Pv h0 hl hs hd
theorem xhH{K:ag}{l:Addr}{xs:List V}{g:TG}{tb:TS}{D:Ends}{σ:St}{H:Hp}(Pv:Nat→St→Hp→Prop)(h0:Pv 0 σ H)(hl:∀i σ H,i≤xs.length→Pv i σ H→SqT K H l xs)
  (hs:∀i x σ H,xs[i]? =some x→Pv i σ H→g x σ H fun σ2 H2=>tb {D with nx:=Pv (i+1),ct:=Pv (i+1),bk:=D.nx} σ2 H2) (hd:∀σ H,Pv xs.length σ H→D.nx σ H):uK (Itt K l) g tb D σ H:=by
 unfold uK;exact xoF Pv h0 hl hs hd
theorem xf.new{H:Hp}{p:Addr}{o:HO}(h:H p=none):xf H (upd H p o):=fun b u e=>by rw[xl (xF e h)];exact e
theorem xf.put{H H':Hp}{p:Addr}{o:HO}(e:xf H H')(h:H p=none):xf H (upd H' p o):=fun b u q=>by rw[xl (xF q h)];exact e b u q
theorem xf.at{H H':Hp}{p:Addr}{o:HO}(e:xf H H')(h:H p=some o):H' p=some o:=e p o h
end L2
namespace L2
open PySem PySem.Spec PyProof.Rows
theorem xf.of_eq{H H':Hp}{p:Addr}{o:HO}(h:H p=none)(e:upd H p o=H'):xf H H':=by rw[←e];exact xf.new h
theorem xq{H H':Hp}{p:Addr}{o:HO}(e:upd H p o=H'):H' p=some o:=by rw[←e];exact xm
theorem xf.back{H H':Hp}{p:Addr}(e:xf H H')(h:H' p=none):H p=none:=xf.free e h
theorem xf.wr{H0 H H':Hp}{p:Addr}{o:HO}(s:xf H0 H)(f:H0 p=none)(e:upd H p o=H'):xf H0 H':=by rw[←e];exact s.put f
end L2
namespace L2
open PySem PySem.Spec PyProof.Rows
structure uc(H0 H:Hp)(l:Addr)(as:List Addr)(xss:List (List Int)):Prop where
 top:H l=some (.lst (as.map V.ref))
 nd:(l::as).Nodup
 len:as.length=xss.length
 each:∀(i:Nat) (a:Addr) (xs:List Int),as[i]? =some a→xss[i]? =some xs→H a=some (.lst (xs.map V.int))
 fr:H0 l=none
 frs:∀a∈as,H0 a=none
theorem uc.same{H0 H H':Hp}{l:Addr}{as:List Addr}{xss:List (List Int)}(L:uc H0 H l as xss)(s:xf H H'):uc H0 H' l as xss:=
 ⟨s.at L.top,L.nd,L.len,fun i a xs h1 h2=>s.at (L.each i a xs h1 h2),L.fr,L.frs⟩
theorem uc.nil{H0 H H':Hp}{l:Addr}(h:H0 l=none)(e:H l=some (.lst [])):uc H0 H l [] []:=
 ⟨e,by simp,rfl,fun i a xs h1 _=>by simp at h1,h,fun a ha=>by simp at ha⟩
theorem uc.tracked{H0 H:Hp}{l:Addr}{as:List Addr}{xss:List (List Int)}(L:uc H0 H l as xss){a:Addr}(ha:a∈as):∃xs:List Int,H a=some (.lst (xs.map V.int)):=by
 obtain⟨i,hi,rfl⟩:=iQ.mp ha;have h2:i<xss.length:=by rw[←L.len];exact hi
 exact⟨xss[i],L.each i _ _ (aK hi) (aK h2)⟩
theorem uc.apart{H0 H:Hp}{l:Addr}{as:List Addr}{xss:List (List Int)}(L:uc H0 H l as xss){p:Addr}(h:H p=none):p∉l::as:=by
 intro z;rcases av.mp z with rfl|z
 ·rw[L.top]at h;cases h
 ·obtain⟨xs,e⟩:=L.tracked z;rw[e]at h;cases h
theorem uc.push{H0 H H':Hp}{l p:Addr}{as:List Addr}{xss:List (List Int)}{xs:List Int}(L:uc H0 H l as xss)(hp:H p=some (.lst (xs.map V.int)))(hne:p∉l::as)(hf:H0 p=none)
  (e:upd H l (.lst (as.map V.ref++[.ref p]))=H'):uc H0 H' l (as++[p]) (xss++[xs]):=by
 subst e;have hpl:p≠l:=fun z=>hne (by rw[z];exact ba);have hpa:p∉as:=fun z=>hne (aS _ z);obtain⟨n1,n2⟩:=bp.mp L.nd;refine⟨by rw[xm,bJ];rfl,?_,by simp[L.len],fun i a ys h1 h2=>?_,L.fr,fun a ha=>?_⟩
 ·refine bp.mpr ⟨fun z=>?_,xko n2 hpa⟩;rcases a7.mp z with z|z
  ·exact n1 z
  ·exact hpl (aj.mp z).symm
 ·have hla:a∈as++[p]:=aY h1;have nal:a≠l:=fun z=>by
   subst z;rcases a7.mp hla with z|z
   ·exact n1 z
   ·exact hpl (aj.mp z).symm
  rw[xl nal]
  by_cases hi:i<as.length
  ·rw[bF hi]at h1;rw[bF (by rw[←L.len];exact hi)]at h2;exact L.each i a ys h1 h2
  ·rw[bN (by lia)]at h1;rw[bN (by rw[←L.len];lia)]at h2;have e1:i - as.length=0:=by
    cases hq:i - as.length with
    |zero=>rfl
    |succ k=>rw[hq]at h1;simp at h1
   rw[e1]at h1;rw[←L.len,e1]at h2;simp at h1 h2;rw[←h1,←h2];exact hp
 ·rcases a7.mp ha with z|z
  ·exact L.frs a z
  ·have z':a=p:=by simpa using z
   rw[z'];exact hf
theorem xf1{lo st:Int}{n:Nat}{te:TE}{caps:L2.St}{Q:VK}{H2:Hp}(f:Nat→List Int)(hn:n≤aN)
  (hs:∀(i:Nat) (H3:Hp),i<n→xf H2 H3→∀R:VK,(∀l H6,xf H3 H6→H3 l=none→H6 l=some (.lst ((f i).map V.int))→R (.ref l) H6)→te (some (.int (lo+i*st))::caps) H3 R)
  (hd:∀D H' as,xf H2 H'→uc H2 H' D as ((dN n).map f)→Q (.ref D) H'):zj (Its lo st n) caps xgS te Q H2:=by
 unfold zj;intro D hD;refine⟨fun i m acc H3=>m=n - i∧i≤n∧xf H2 H3∧∃as,acc=as.map V.ref∧uc H2 H3 D as ((dN i).map f),⟨n,by simp,bM _,xf.new hD,[],rfl,uc.nil (H':=H2) hD xm⟩,?_⟩;rintro i m acc H3 ⟨rfl,hi,s3,as,rfl,L⟩;refine⟨L.top,?_⟩
 by_cases hlt:i<n
 ·have hl:as.length=i:=by rw[L.len];simp
  refine .inr ⟨hlt,by simp[hl];lia,fun v H4 y=>?_⟩;obtain⟨e,y⟩:=y;subst e y;refine⟨fun _=>?_,fun z=>by cases z⟩;refine hs i _ hlt s3 _ fun l H6 s6 hl0 hl6=>⟨s6.at L.top,n - (i+1),by lia,rfl,hlt,(s3.trans s6).put hD,as++[l],by rw[bJ];rfl,?_⟩;rw[List.range_succ,bJ];exact(L.same s6).push hl6 (L.apart hl0) (s3.back hl0) rfl
 ·have e:i=n:=by lia
  subst e;exact .inl ⟨ax _,hd D H3 as s3 L⟩
section
variable {X:Cx}
end
end L2
namespace L2
open PySem PySem.Spec PyProof.Rows
abbrev HO.any:HO:=.ext fun _=>True
theorem xX.anyOf{P:ak}{w:World}{H:Hp}{h:Heap}{a:Addr}{o:Obj}(e:h.get? a=some o):xX P w H h a (.frz o HO.any):=⟨e,trivial,⟨o,e⟩,fun _ _ _ _=>trivial⟩
def yJ(H:Hp)(f:Addr)(nm qual:Str)(params:bV)(body:df)(scope:Scope)(fv:List (Str×V)):Prop:=
 ∃(clos:List (Str×Addr)) (c:Addr) (o:Obj) (u u':HO) (vs:Array Value) (t:Tok) (doc pm ctv:Value),
  H f=some (.frz {cls:=.type "function",data:=.func {name:=nm,qualname:=qual,params,body,scope,globals:=bf,closure:=clos,defaults:=.none,kwdefaults:=.none,doc,pyModule:=pm,annotations:=none,code:=.ref c,closureTuple:=ctv,builtins:=cm}} u)∧
  H c=some (.frz o u')∧o.data= .fields vs∧vs[1]? =some (.str qual t)∧
  (∀x y a,clos.lookup x=some a→clos.lookup y=some a→x=y)∧(∀x,(x,bH)∈scope.names→∃a,clos.lookup x=some a)∧
  (∀x v,(x,v)∈fv→∃a,clos.lookup x=some a∧H a=some (.cel (some v)))∧∀x a,clos.lookup x=some a→∃v,H a=some (.cel (some v))
theorem xoY{pos pos':Pos}{c:Value}(l:List Value)(h:ia l):
  eW pos' (l++[bj pos.line,bj pos.col,c])=(match eW pos' l with
   |some d=>some d
   |none=>if ((pos.line:Int)==pos'.line&&(pos.col:Int)==pos'.col)=true then some c else none):=by
 fun_induction ia l with
 |case1=>simp[eW,bj]
 |case2 a t b u x rest ih=>
  simp only[cR,eW]
  split
  ·rfl
  ·exact ih h
 |case3 l h1 h2=>exact h.elim
def zS(K:ag)(c P:Addr):Prop:=∀h:Heap,K.In h→iR h c P
theorem xhI{cells:List (Str×Addr)}:∀{l:List (Str×cP)} {cs:List (Str×Addr)} {x:Str} {c:Addr},(yQ cells l cs).lookup x=some c→(x,bH)∈l∨∃a,cs.lookup x=some a
 |[],cs,x,c,h=>.inr ⟨c,h⟩
 |(n,k)::r,cs,x,c,h=>by
  unfold yQ at h;rcases xhI h with q|⟨a,q⟩
  ·exact .inl (aS _ q)
  ·split at q
   ·rename_i hk;rw[bK]at q
    split at q
    ·rename_i hx;have e:x=n:=by simpa using hx
     have e2:k= .free:=by simpa using hk
     subst e;subst e2;exact .inl ba
    ·exact .inr ⟨a,q⟩
   ·exact .inr ⟨a,q⟩
abbrev xcE(name qual:Str)(params:bV)(body:df)(scope:Scope)(clos:List (Str×Addr))(doc pm cdv ctv:Value):Obj:=
 {cls:=.type "function",data:=.func {name,qualname:=qual,params,body,scope,globals:=bf,closure:=clos,defaults:=.none,kwdefaults:=.none,doc,pyModule:=pm,annotations:=none,code:=cdv,closureTuple:=ctv,builtins:=cm}}
section
variable {M:Model} {A:aE} {E:Value→aa→Prop} {s:aa} {name qual:Str} {params:bV} {body:df} {scope:Scope} {env:Env} {c P:Addr} {ps:Array Value} {pos:Pos} {firstLine:Nat} {mg:Str→Option Value}
 {clos:List (Str×Addr)} {Q:Value→aa→Prop}
theorem xoZ(hcl:iN scope env=pure clos)(hge0:env.globals=bf)(hg:s.heap.Ns bf mg)(hcode:env.code= .ref c)(C:iR s.heap c P)(hP:s.heap.get? P=some (fA ps))(ht:ia ps.toList)
  (hnf:eW pos ps.toList=none) (hgP:bf≠P) (hb:s.heap.BuiltinsAt mg P)
  (h:∀c' ctv doc h' tk,kl P s.heap h'→s.heap.objs.size≤c'→c'<h'.objs.size→h'.CodeRec (.ref c') qual→h'.get? P=some (fA (ps++#[bj pos.line,bj pos.col,.ref c']))→
   Q (.ref h'.objs.size) {s with heap:=h'.push (xcE name qual params body scope clos doc ((mg "__name__").getD .none) (.ref c') ctv),toks:=tk}):
  wpAny M A (makeFunction name qual params body scope env [] [] [] pos firstLine) Q E s:=by
 cases body with
 |stmts b=>exact W.makeFunction_K hcl hge0 hg hcode C hP ht hnf hgP hb h
 |expr e=>exact W.kla_makeFunction hcl hge0 hg hcode C hP ht hnf hgP hb fun c' ctv h' tk=>h c' ctv .none h' tk
theorem xqw{cv:Value}(hcl:iN scope env=pure clos)(hge0:env.globals=bf)(hg:s.heap.Ns bf mg)(hcode:env.code= .ref c)(C:iR s.heap c P)(hP:s.heap.get? P=some (fA ps))(ht:ia ps.toList)
  (hf:eW pos ps.toList=some cv) (hb:s.heap.BuiltinsAt mg P)
  (h:∀(ctv doc:Value) (h':Heap) (tk:Tok),(∀b o,s.heap.get? b=some o→h'.get? b=some o)→s.heap.objs.size≤h'.objs.size→
   Q (.ref h'.objs.size) {s with heap:=h'.push (xcE name qual params body scope clos doc ((mg "__name__").getD .none) cv ctv),toks:=tk}):
  wpAny M A (makeFunction name qual params body scope env [] [] [] pos firstLine) Q E s:=by
 cases body with
 |stmts b=>exact W.makeFunction_hit hcl hge0 hg hcode C hP ht hf hb h
 |expr e=>exact W.kla_makeFunctionHit hcl hge0 hg hcode C hP ht hf hb fun ctv h' tk=>h ctv .none h' tk
end
section
variable {X:Cx} {pins:List (Addr×Obj)} {σ:St} {H:Hp} {s:aa} {c P:Addr} {qs:List (Pos×Str)} {name qual:Str} {params:bV} {body:df} {scope:Scope} {pos:Pos} {fv:List (Str×V)} {Q:VK} {fns:List Str}
def tFn(X:Cx)(P:Addr)(qs:List (Pos×Str))(fns:List Str)(name qual:Str)(params:bV)(body:df)(scope:Scope):TE:=fun σ H Q=>
 H P=some (.tbl qs)∧∃fv:List (Str×V),fv.map (·.1)=fns∧(∀x v,(x,v)∈fv→∃a,X.env.cells.lookup x=some a∧H a=some (.cel (some v)))∧
  ∀f H',H f=none→xf H H'→yJ H' f name qual params body scope fv→Q (.ref f) H'
theorem xo0(I:Inv X pins σ H s)(hcode:X.env.code= .ref c)(T:zS X.K c P)(hq:(pos,qual)∈qs)(hu:(qs.all fun p=> !((pos.line==p.1.line)&&(pos.col==p.1.col))||(p.2==qual))=true)
  (hfr:(scope.names.filter fun y=>y.2== .free).map (·.1)=fns) (h:tFn X P qs fns name qual params body scope σ H Q) {n:Nat}:
  wpAny (model X.prog X.w) X.A (makeFunction name qual params body scope X.env [] [] [] pos n) (EP X pins σ Q) X.xe s:=by
 obtain⟨hP,fv,hn,hf,h⟩:=h;have isfr:∀x,(x,bH)∈scope.names↔x∈fns:=fun x=>by
  rw[←hfr,cY];constructor
  ·exact fun m=>⟨(x,.free),fH.mpr ⟨m,rfl⟩,rfl⟩
  ·rintro⟨⟨y,k⟩,m,rfl⟩;have m2:=fH.mp m;have e:k= .free:=by simpa using m2.2
   subst e;exact m2.1
 have names:∀x,(x,bH)∈scope.names→∃v a,(x,v)∈fv∧X.env.cells.lookup x=some a∧H a=some (.cel (some v)):=fun x hx=>by
  have m:=(isfr x).mp hx;rw[←hn]at m;obtain⟨⟨x',v⟩,hm,rfl⟩:=cY.mp m;obtain⟨a,h1,h2⟩:=hf _ _ hm;exact⟨v,a,hm,h1,h2⟩
 have hcs:∀y∈scope.names,y.2= .free→∃c,X.env.cells.lookup y.1=some c:=fun y hy e=>by
  obtain⟨y1,y2⟩:=y;have e:y2= .free:=e;subst e;obtain⟨_,a,_,h1,_⟩:=names y1 hy;exact⟨a,h1⟩
 have hcl:=xcT (scope:=scope) (env:=X.env) hcs;have sub:∀{z:Str} {a:Addr},(yQ X.env.cells scope.names []).lookup z=some a→X.env.cells.lookup z=some a:=fun{z a} e=>by
  rcases xfj hcs e with q|q
  ·cases q
  ·exact q
 have subF:∀{z:Str} {a:Addr},(yQ X.env.cells scope.names []).lookup z=some a→(z,bH)∈scope.names:=fun{z a} e=>by
  rcases xhI e with q|⟨_,q⟩
  ·exact q
  ·cases q
 have cInj:∀x y a,(yQ X.env.cells scope.names []).lookup x=some a→(yQ X.env.cells scope.names []).lookup y=some a→x=y:=fun x y a e1 e2=>I.ok.inj x y a (sub e1) (sub e2);have cHas:∀x,(x,bH)∈scope.names→∃a,(yQ X.env.cells scope.names []).lookup x=some a:=fun x m=>xcU (.inl m);have cVal:∀x v,(x,v)∈fv→∃a,(yQ X.env.cells scope.names []).lookup x=some a∧H a=some (.cel (some v)):=fun x v m=>by
  obtain⟨a,e1,e2⟩:=hf x v m;obtain⟨a',e3⟩:=cHas x ((isfr x).mpr (by rw[←hn];exact i9 m));have e4:=sub e3;rw[e1]at e4;cases e4;exact⟨a,e3,e2⟩
 have cAll:∀x a,(yQ X.env.cells scope.names []).lookup x=some a→∃v,H a=some (.cel (some v)):=fun x a e=>by
  obtain⟨v,a',_,e1,e2⟩:=names x (subF e);rw[sub e]at e1;cases e1;exact⟨v,e2⟩
 have hg:s.heap.Ns bf X.mg:=I.mod.glob.keeps I.bk;obtain⟨ps,hPo,ht,hent⟩:=I.hok P _ hP;have C:=T s.heap I.kIn;have hgP:bf≠P:=fun q=>by
  obtain⟨o,es,ep,e,hd,_⟩:=hg;rw[q,hPo]at e;cases e;cases hd
 have hB:s.heap.BuiltinsAt X.mg P:=by
  obtain⟨bm,ob,b1,b2,b3,b4,b5,b6⟩:=I.mod.bm;have b3':=I.bk _ _ b3;refine⟨bm,ob,b1,b2,fun q=>?_,fun q=>?_,b3',b4,b5,b6⟩
  ·obtain⟨o,es,ep,e,hd,_⟩:=hg;rw[←q,b3']at e;cases e;rw[b6]at hd;cases hd
  ·rw[q,hPo]at b3';cases b3';cases b4
 rcases hent pos qual hq with hnf|⟨c',o,u,vs,t,hit,hc',hd,hv⟩
 ·refine xoZ hcl I.ok.glob hg hcode C hPo ht hnf hgP hB fun c' ctv doc h' tk hx hge hlt hrec htb=>?_;obtain⟨c2,oc,vs,t,e2,hoc,hd,hv⟩:=hrec;cases e2;have hc0:H c'=none:=I.hok.fresh hge;have hsz:s.heap.objs.size≤h'.objs.size:=fJ (dP hge hlt);have hf0:H h'.objs.size=none:=I.hok.fresh hsz;have hcf:c'≠h'.objs.size:=aG hlt
  let fo:=xcE name qual params body scope (yQ X.env.cells scope.names []) doc ((X.mg "__name__").getD .none) (.ref c') ctv
  let H':=upd (upd H c' (.frz oc HO.any)) h'.objs.size (.frz fo HO.any)
  have sm:∀b u,H b=some u→H' b=some u:=fun b u e=>by
   show upd _ _ _ b=_;rw[xl (xF e hf0),xl (xF e hc0)];exact e
  have H'c:H' c'=some (.frz oc HO.any):=by
   show upd _ _ _ c'=_;rw[xl hcf,xm]
  have H'f:H' h'.objs.size=some (.frz fo HO.any):=xm;have keep:∀b o,b≠P→s.heap.get? b=some o→(h'.push fo).get? b=some o:=fun b o hb e=>ai _ (hx b o hb e);have nP:∀b,H b=none→b≠P:=fun b e q=>by rw[q,hP]at e;cases e
  refine⟨.ref h'.objs.size,H',I.un ⟨fun b o e n _ _=>keep b o (nP b n) e,fun b o e n _ _=>⟨o.slots,keep b o (nP b n) e⟩,fun b o e n _=>?_,fun b o e _=>?_,fun b u e _=>sm b u e⟩ fun b u e=>?_,rfl,?_⟩
  ·have lt:=aw e;show upd _ _ _ b=_;rw[xl (aG (aF lt hsz)),xl (aG (aF lt hge))];exact n
  ·by_cases hb:b=P
   ·exact⟨_,ai _ (by rw[hb];exact htb)⟩
   ·exact⟨o,keep b o hb e⟩
  ·by_cases h1:b=h'.objs.size
   ·subst h1;rw[H'f]at e;cases e;exact xX.anyOf (aL _ rfl)
   ·have e1:upd H c' (.frz oc HO.any) b=some u:=(xl h1).symm.trans e
    by_cases h2:b=c'
    ·subst h2;rw[xm]at e1;cases e1;exact xX.anyOf (ai _ hoc)
    ·rw[xl h2]at e1
     by_cases hb:b=P
     ·subst hb;rw[hP]at e1;cases e1;refine⟨_,ai _ htb,?_,fun pos' q m=>?_⟩
      ·simpa using TriplesOk_snoc (pos.line:Int) (pos.col:Int) (.ref c') ps.toList ht
      ·have e3:(ps++#[bj pos.line,bj pos.col,aB c']).toList=ps.toList++[bj pos.line,bj pos.col,aB c']:=by simp
       rw[e3,xoY _ ht];rcases hent pos' q m with z|⟨d,o,u,vs',t',z1,z2,z3,z4⟩
       ·rw[z]
        by_cases hl:((pos.line:Int)==pos'.line&&(pos.col:Int)==pos'.col)=true
        ·right
         have hqq:q=qual:=by
          have:=cS.mp hu (pos',q) m;simp only[fz,beq_iff_eq,Int.ofNat_inj,Int.natCast_inj]at hl;have a1:pos.line=pos'.line:=by have:=hl.1;omega
          have a2:pos.col=pos'.col:=by have:=hl.2;omega
          simpa [a1,a2]using this
         subst hqq;exact⟨c',oc,HO.any,vs,t,if_pos hl,H'c,hd,hv⟩
        ·exact .inl (if_neg hl)
       ·right
        rw[z1];exact⟨d,o,u,vs',t',rfl,sm _ _ z2,z3,z4⟩
     ·refine(I.hok b u e1).stay (fun d v hc q=>keep d v ?_ q) (fun d q=>sm _ _ q) fun d u q _=>sm _ _ q;rcases hc with rfl|hc
      ·exact hb
      ·intro z;rw[z,hP]at hc;cases hc
  ·exact h h'.objs.size H' hf0 sm ⟨_,c',oc,HO.any,HO.any,vs,t,doc,_,ctv,H'f,H'c,hd,hv,cInj,cHas,fun x v m=>let⟨a,q1,q2⟩:=cVal x v m;⟨a,q1,sm _ _ q2⟩,fun x a q=>let⟨v,q2⟩:=cAll x a q;⟨v,sm _ _ q2⟩⟩
 ·refine xqw hcl I.ok.glob hg hcode C hPo ht hit hB fun ctv doc h' tk hk hsz=>?_;have hf0:H h'.objs.size=none:=I.hok.fresh hsz;have sm:xf H (upd H h'.objs.size (.frz (xcE name qual params body scope (yQ X.env.cells scope.names []) doc ((X.mg "__name__").getD .none) (.ref c') ctv) HO.any)):=fun b u e=>by
   rw[xl (xF e hf0)];exact e
  refine⟨.ref h'.objs.size,_,I.laid (o:=.frz (xcE name qual params body scope (yQ X.env.cells scope.names []) doc ((X.mg "__name__").getD .none) (.ref c') ctv) HO.any) (fun b o e=>ai _ (hk b o e)) hsz (xX.anyOf (aL _ rfl)),rfl,?_⟩;exact h _ _ hf0 sm ⟨_,c',o,HO.any,u,vs,t,doc,_,ctv,xm,sm _ _ hc',hd,hv,cInj,cHas,fun x v m=>let⟨a,q1,q2⟩:=cVal x v m;⟨a,q1,sm _ _ q2⟩,fun x a q=>let⟨v,q2⟩:=cAll x a q;⟨v,sm _ _ q2⟩⟩
theorem xms{e:Expr}(hcode:X.env.code= .ref c)(T:zS X.K c P)(hq:(pos,X.env.qual++"<lambda>")∈qs)(hu:(qs.all fun p=> !((pos.line==p.1.line)&&(pos.col==p.1.col))||(p.2==X.env.qual++"<lambda>"))=true)
  (hfr:(scope.names.filter fun y=>y.2== .free).map (·.1)=fns) (hdef:defaultsOf params X.env=([],[]):=by rfl):
  PE X (.Lambda params e scope pos) (tFn X P qs fns "<lambda>" (X.env.qual++"<lambda>") params (.expr e) scope):=fun _ _ _ _ _ I h=>
 W.kla_eval hdef (xo0 I hcode T hq hu hfr h)
theorem Inv.track{x:Str}{a:Addr}{i:Nat}(I:Inv X pins σ H s)(hN:X.N.Nodup)(hi:X.N[i]? =some x)(hk:X.env.kindOf x=some .cell)(hcp:X.cp x=true)(hfn:X.fn x=false)(ha:X.env.cells.lookup x=some a)(hH:H a=none):
  Inv X pins σ (upd H a (.cel (σ[i]?.join))) s:=by
 have hab:∀b o,X.s₀.heap.get? b=some o→b≠a:=fun b o e=>aG (aF (aw e) (I.ok.cab2 x a hcp ha));obtain⟨v0,hv0⟩:=I.cell x a ha;refine⟨I.ok,I.os,I.bare,⟨I.base.keep,I.base.slot,fun b o e n hx=>?_,I.base.there,fun b u e f=>?_⟩,I.loc,I.cell,?_,fun y c e=>?_,fun p hp=>?_,fun b u e=>?_,I.len⟩
 ·rw[xl (hab b o e)];exact I.base.free b o e n hx
 ·have:=I.base.fix b u e f;rw[xl (xF this hH)];exact this
 ·rw[xl (au (I.cne x a ha))];exact I.free
 ·by_cases hc:c=a
  ·subst hc;obtain rfl:=I.ok.inj _ _ _ e ha;refine .inr ⟨hfn,_,xm,fun z j v e1 k e2=>?_⟩;have:=jP hN e1 hi;subst this;rw[e2]at z;cases z
  ·rw[xl hc];exact I.freeC y c e
 ·obtain⟨e,n,ne,nf,d⟩:=I.pin p hp;refine⟨e,?_,ne,nf,d⟩;rw[xl fun z=>?_]
  ·exact n
  ·obtain⟨o,q1,q2⟩:=hv0;rw[←z,e]at q1;cases q1;exact d _ q2
 ·by_cases hb:b=a
  ·subst hb;rw[xm]at e;cases e;cases hσ:σ[i]?.join with
   |none=>exact⟨v0,hv0,fun x z=>by cases z⟩
   |some v=>
    have hσ':σ[i]? =some (some v):=by
     cases q:σ[i]? with
     |none=>rw[q]at hσ;cases hσ
     |some w=>rw[q]at hσ;cases w with
      |none=>cases hσ
      |some w=>cases hσ;rfl
    obtain⟨m,hn,hl⟩:=I.loc;obtain⟨u,r,l⟩:=hl i x v hi hσ' (.inr (.inl hk));rcases l with⟨k,_⟩|⟨_,c,hc,hcell⟩
    ·rw[hk]at k;cases k
    ·rw[ha]at hc;cases hc;exact⟨_,hcell,fun y z=>by cases z;exact⟨u,rfl,r⟩⟩
  ·rw[xl hb]at e;exact(I.hok b u e).stay (fun _ _ _ q=>q) (fun d q=>by rw[xl (xF q hH)];exact q) fun d u q _=>by rw[xl (xF q hH)];exact q
def xqx(X:Cx)(x:Str)(i:Nat)(t:TS):TS:=fun D σ H=>∀a,X.env.cells.lookup x=some a→X.H₀ a=none→(∀y b,X.env.cells.lookup y=some b→y≠x→b≠a)→H a=none∧t D σ (upd H a (.cel (σ[i]?.join)))
theorem yL{x:Str}{i:Nat}{b:List Stmt}{t:TS}(hN:X.N.Nodup)(hi:X.N[i]? =some x)(hk:X.env.kindOf x=some .cell)(hcp:X.cp x=true)(hfn:X.fn x=false)
  (h:PSs X b t):PSs X b (xqx X x i t):=fun pins s σ H D I q=>by
 obtain⟨a,ha⟩:=I.ok.has x (.inl hk);obtain⟨z,q⟩:=q a ha (I.ok.hz a (I.ok.cab2 x a hcp ha)) fun y b e ne z=>ne (I.ok.inj y x b e (z▸ha));exact h pins s σ _ D (I.track hN hi hk hcp hfn ha z) q
def xrp(X:Cx)(x:Str)(i:Nat)(te:TE):TS:=fun D σ H=>te σ H fun v H1=>∃a,X.env.cells.lookup x=some a∧H1 a=some (.cel none)∧D.nx (σ.set i (some v)) (upd H1 a (.cel (some v)))
theorem xkt{i:Nat}{x:Str}{e:Expr}{te:TE}{pos':Pos}(hN:X.N.Nodup)(hi:X.N[i]? =some x)(hk:X.env.kindOf x=some .cell)(hcp:X.cp x=true)(hfn:X.fn x=false)(he:PE X e te)(hs:eA e (some (.Name x pos')) pos.line X.env=pure false:=by rfl):
  PS X (.Assign [.Name x pos'] e pos) (xrp X x i te):=by
 intro pins s σ H D I h;refine wpAny_Assign_Name (thn (he pins s σ H _ I h) fun u s1 ⟨v,H1,I,r,q⟩=>?_) hs;obtain⟨a,ha,hH,q⟩:=q;obtain⟨w0,z⟩:=I.cell x a ha;obtain⟨m,hn,hl⟩:=id I.loc;have hiσ:i<σ.length:=by rw[I.len];exact(az.mp hi).1
 have hab:∀b o,X.s₀.heap.get? b=some o→b≠a:=fun b o e=>aG (aF (aw e) (I.ok.cab2 x a hcp ha));refine wpAny_storeName_cell I.ok.kind hk ha z fun h' hc' hs=>?_;refine⟨_,_,⟨I.ok,I.os,I.bare,⟨fun b o e n hb hx=>?_,fun b o e n hb hx=>?_,fun b o e n hx=>?_,fun b o e hx=>?_,fun b u e f=>?_⟩,⟨m,hn.sameBut hs (au (I.cne x a ha)),fun j y v' e1 e2 e3=>?_⟩,fun y c' e=>?_,?_,fun y c' e=>?_,fun p hp=>?_,fun b u e=>?_,by simpa using I.len⟩,q⟩
 ·exact(hs.2 b (hab b o e)).trans (I.base.keep b o e n hb hx)
 ·obtain⟨sl,e1⟩:=I.base.slot b o e n hb hx;exact⟨sl,(hs.2 b (hab b o e)).trans e1⟩
 ·rw[xl (hab b o e)];exact I.base.free b o e n hx
 ·obtain⟨o',e1⟩:=I.base.there b o e hx;exact⟨o',(hs.2 b (hab b o e)).trans e1⟩
 ·have h0:=I.ok.hz a (I.ok.cab2 x a hcp ha);rw[xl (xF e h0)];exact I.base.fix b u e f
 ·by_cases hj:j=i
  ·subst hj;rw[hi]at e1;cases e1;rw[bP hiσ]at e2;cases e2;exact⟨u,r,.inr ⟨.inl hk,a,ha,hc'⟩⟩
  ·rw[bA (au hj)]at e2;obtain⟨u',r',q⟩:=hl j y v' e1 e2 e3;refine⟨u',r',?_⟩;rcases q with q|⟨k,c',e,z'⟩
   ·exact .inl q
   ·refine .inr ⟨k,c',e,z'.sameBut hs ?_⟩;rintro rfl;exact hj (jP hN e1 (I.ok.inj _ _ _ e ha▸hi))
 ·by_cases hcc:c'=a
  ·subst hcc;exact⟨_,hc'⟩
  ·obtain⟨w2,z2⟩:=I.cell y c' e;exact⟨w2,z2.sameBut hs hcc⟩
 ·rw[xl (au (I.cne x a ha))];exact I.free
 ·by_cases hcc:c'=a
  ·subst hcc;obtain rfl:=I.ok.inj _ _ _ e ha;exact .inr ⟨hfn,some v,xm,fun z=>by cases z⟩
  ·rw[xl hcc];refine(I.freeC y c' e).imp id fun⟨hf',o',ho',hno⟩=>⟨hf',o',ho',fun z j v' e1 k e2=>?_⟩
   by_cases hj:j=i
   ·subst hj;rw[hi]at e1;cases e1;rw[ha]at e;cases e;exact hcc rfl
   ·rw[bA (au hj)]at e2;exact hno z j v' e1 k e2
 ·obtain⟨e,n,ne,nf,d⟩:=I.pin p hp;have hpa:p.1≠a:=fun q=>by
   obtain⟨oc,hoc,hocd⟩:=z;rw[q,hoc]at e;have q':oc=p.2:=bh e;exact d w0 (by rw[←q'];exact hocd)
  exact⟨(hs.2 p.1 hpa).trans e,by rw[xl hpa];exact n,ne,nf,d⟩
 ·by_cases hb:b=a
  ·subst hb;rw[xm]at e;cases e;exact⟨_,hc',fun y z=>by cases z;exact⟨u,rfl,r⟩⟩
  ·rw[xl hb]at e;have nfix:∀d u',H1 d=some u'→u'≠.cel none→upd H1 a (.cel (some v)) d=some u':=fun d u' e' hu=>by
    rw[xl fun z=>?_]
    ·exact e'
    ·rw[z,hH]at e';cases e';exact hu rfl
   refine(I.hok b u e).stay (fun d w' hc q=>(hs.2 d ?_).trans q) (fun d q=>nfix _ _ q (by simp)) fun d u' q hf=>nfix _ _ q (by rintro rfl;exact hf);rcases hc with rfl|hc
   ·exact hb
   ·intro z;rw[z,hH]at hc;cases hc
end
end L2
namespace L2
open PySem PySem.Spec PyProof.Rows
theorem xmt{P:ak}{w:World}{K:ag}{mg mb:Str→Option Value}{CX:CXT}{k:Nat}{fa a:Addr}{fd:aq}{x:Str}{sp:Sp}{s₁:aa}{vs:List Value}{ns:List Int}{tabs:List (Addr×Addr×List (Pos×Str))}
  (KX:K.In s₁.heap) (hns:s₁.heap.Ns bf mg) (hb:s₁.heap.Ns cm mb) (hbb:∀x:Str,x≠"__name__"→mb x=bB x) (hlim:s₁.heap.NoLimit) (hbm:∃b o,mg "__builtins__"=some (.ref b)∧b≠cm∧s₁.heap.get? b=some o∧o.cls= .type "module"∧o.dict=some cm∧o.data= .plain) (hg:s₁.gens=#[])
  (ha:s₁.heap.get? a=some {cls:=.type "list",data:=.seq vs.toArray}) (hi:iA vs ns) (hl:ns.length≤aN) (hr:xS k gJ)
  (hT:∀q∈tabs,iR s₁.heap q.1 q.2.1∧s₁.heap.get? q.2.1=some (fA #[])) (hnt:W.noTabs K=true) (nd:(tabs.map fun q=>q.2.1).Nodup)
  (F:∀base:Heap,K.In base→base.Ns bf mg→xy P w K mg base CX k fa fd [x] sp) (hbind:∀(s:aa) (u:Value),iy s fd ⟨[u],[]⟩ [(x,u)])
  (hsp:∀H:Hp,SqL K H a (ns.map V.int)→(∀q∈tabs,H q.2.1=some (.tbl q.2.2))→sp [.ref a] H (fun v _=>v= .bl true) fun _ _ _=>False)
  (hCX:∀H e s',CX [] H s₁ (fun _ _ _=>False) e s'→False):
  ck (model P w) gJ (.call (.ref fa) ⟨[.ref a],[]⟩) (fun r s'=>r= .ok (.ret (.bool true))∧OldK s₁.heap s'.heap∧s'.os=s₁.os∧eN s'.gens) s₁:=by
 have rv:=xhD hi;have lenV:=hi.length;have aP:∀q∈tabs,q.2.1≠a:=fun q hq z=>by
  have e:=(hT q hq).2;rw[z,ha]at e;cases e
 have core:∀H:Hp,SqL K H a (ns.map V.int)→(∀q∈tabs,H q.2.1=some (.tbl q.2.2))→
   (∀b u,H b=some u→(b=a∧K.lookup a=none∧∃xs,u= .frz {cls:=.type "list",data:=.seq vs.toArray} (.lst xs))∨∃q∈tabs,b=q.2.1∧u= .tbl q.2.2)→HOk P w H s₁.heap→
   ck (model P w) gJ (.call (.ref fa) ⟨[.ref a],[]⟩) (fun r s'=>r= .ok (.ret (.bool true))∧OldK s₁.heap s'.heap∧s'.os=s₁.os∧eN s'.gens) s₁:=by
  intro H hS hP hA hok;have base_of:∀{b:Addr} {o:Obj},s₁.heap.get? b=some o→H b=none→(xcR s₁.heap H).get? b=some o:=fun e n=>xng e n;have noA:∀{b:Addr} {o:Obj},s₁.heap.get? b=some o→o.cls≠.type "list"∨(∀n,o.data≠.seq vs.toArray n)→o≠fA #[]→H b=none:=fun{b o} e d1 d2=>by
   cases q:H b with
   |none=>rfl
   |some u=>
    rcases hA b u q with⟨rfl,_,_⟩|⟨t,ht,rfl,_⟩
    ·rw[ha]at e;cases e;rcases d1 with d1|d1
     ·exact absurd rfl d1
     ·exact absurd rfl (d1 _)
    ·have e2:=(hT t ht).2;rw[e]at e2;cases e2;exact absurd rfl d2
  have nsK:∀{b:Addr} {m:Str→Option Value},s₁.heap.Ns b m→(xcR s₁.heap H).Ns b m:=fun{b m} ⟨o,es,ep,e,d,r⟩=>
   ⟨o,es,ep,base_of e (noA e (.inr fun n z=>by rw[d]at z;cases z) fun z=>by rw[z]at d;cases d),d,r⟩
  have hKb:K.In (xcR s₁.heap H):=fun b o e=>base_of (KX b o e) (by
   cases q:H b with
   |none=>rfl
   |some u=>
    rcases hA b u q with⟨rfl,z,_⟩|⟨t,ht,rfl,_⟩
    ·rw[z]at e;cases e
    ·have e2:=KX _ _ e;rw[(hT t ht).2]at e2;cases e2;have h2:=cS.mp hnt _ (W.mem_of_lookupK e);exact absurd (show false=true from h2) aJ)
  have hM:Mod K mg (xcR s₁.heap H):=⟨hKb,nsK hns,⟨mb,nsK hb,hbb⟩,let⟨mc,h1,h2⟩:=hlim;⟨mc,nsK h1,h2⟩,let⟨b,o,a1,a2,a3,a4⟩:=hbm;⟨b,o,a1,a2,base_of a3 (noA a3 (.inl fun z=>by rw[a4.1]at z;simp at z) fun z=>by rw[z]at a4;cases a4.1),a4⟩⟩;have e0:jR P w K mg (xcR s₁.heap H) gJ [] s₁ H:=⟨rfl,hM,fun b o e=>xoC e,Nat.le_of_eq (xl8 _ _),trivial,fun b hb=>absurd (show b∈([]:List Addr)from hb) (by simp),hok,.of_eq hg⟩;refine bU ((F _ hKb (nsK hns)).run gJ [] s₁ H ⟨[.ref a],[]⟩ [.ref a] [.ref a] _ _ hr e0 (hbind s₁ (.ref a)) (.cons rfl .nil) (hsp H hS hP)) fun r s' h=>?_;cases r with
  |error e=>exact(hCX H e s' h).elim
  |ok fl=>
   cases fl with
   |next=>exact aV h
   |brk=>exact aV h
   |cont=>exact aV h
   |ret u=>
    obtain⟨v,H',os,bare,un,hok',r',q⟩:=h;have q':v= .bl true:=q;subst q';obtain rfl:u=cU true:=r';have old:∀b o,s₁.heap.get? b=some o→s'.heap.get? b=some o∨∃t∈tabs,b=t.2.1∧o=fA #[]∧∃ps,s'.heap.get? b=some (fA ps):=fun b o e=>by
     cases q:H b with
     |none=>exact .inl (un.keep b o e q (by intro z;exact absurd (show b∈([]:List Addr)from z) (by simp)) (by simp))
     |some u=>
      rcases hA b u q with⟨rfl,_,xs,rfl⟩|⟨t,ht,rfl,rfl⟩
      ·obtain⟨e1,_⟩:=hok _ _ q;obtain⟨e2,_⟩:=hok' _ _ (un.fix _ _ q trivial);rw[e]at e1;cases e1;exact .inl e2
      ·obtain⟨ps,e2,_⟩:=hok' _ _ (un.fix _ _ q trivial);have e3:=(hT t ht).2;rw[e]at e3;cases e3;exact .inr ⟨t,ht,rfl,rfl,ps,e2⟩
    refine⟨rfl,⟨fun b o e=>?_,fun b o e=>?_⟩,os,bare⟩
    ·rcases old b o e with z|⟨t,ht,rfl,rfl,ps,z⟩
     ·exact .inl z
     ·exact .inr (.inl ⟨((hT t ht).1.tab (hT t ht).2).isCodeTable,rfl,#[],ps,rfl,by rw[Array.empty_append];exact z⟩)
    ·rcases old b o e with z|⟨t,ht,rfl,rfl,ps,z⟩
     ·exact⟨o,z⟩
     ·exact⟨_,z⟩
 let Ht:Hp:=fun b=>(tabs.find? fun q=>q.2.1==b).map fun q=>HO.tbl q.2.2
 have HtP:∀q∈tabs,Ht q.2.1=some (.tbl q.2.2):=fun q hq=>by
  show kn _ (tabs.find? _)=_;cases e:tabs.find? fun r=>r.2.1==q.2.1 with
  |none=>
   have:=eZ.mp e q hq;simp at this
  |some r=>
   have h1:=List.find?_some e;have h2:=gD e;have h3:r.2.1=q.2.1:=by simpa using h1
   have:r=q:=by
    obtain⟨i,hi⟩:=cy.mp h2;obtain⟨j,hj⟩:=cy.mp hq;have ei:(tabs.map fun q=>q.2.1)[i]? =some r.2.1:=by rw[aD,hi];rfl
    have ej:(tabs.map fun q=>q.2.1)[j]? =some r.2.1:=by rw[aD,hj,h3];rfl
    obtain⟨i1,i2⟩:=az.mp ei;obtain⟨j1,j2⟩:=az.mp ej;have:=(List.getElem_inj nd).mp (i2.trans j2.symm);subst this;rw[hi]at hj;exact bh hj
   subst this;rfl
 have HtA:∀b u,Ht b=some u→∃q∈tabs,b=q.2.1∧u= .tbl q.2.2:=fun b u e=>by
  have e:kn (fun q=>HO.tbl q.2.2) (tabs.find? fun q=>q.2.1==b)=some u:=e;obtain⟨q,hq,rfl⟩:=aH.mp e;have h1:=List.find?_some hq;exact⟨q,gD hq,(show q.2.1=b by simpa using h1).symm,rfl⟩
 have tok:∀{H:Hp} {q},q∈tabs→xX P w H s₁.heap q.2.1 (.tbl q.2.2):=fun{H q} hq=>⟨#[],(hT q hq).2,trivial,fun _ _ _=>.inl rfl⟩;cases hk:K.lookup a with
 |some o=>
  have e:=KX a o hk;rw[ha]at e;cases e;refine core Ht (.inr ⟨_,vs.toArray,_,hk,rfl,rfl,rfl,by rw[aT,lenV];exact hl,by simpa using rv⟩) HtP (fun b u z=>.inr (HtA b u z)) fun b u z=>?_;obtain⟨q,hq,rfl,rfl⟩:=HtA b u z;exact tok hq
 |none=>
  refine core (fun b=>if b=a then some (.frz {cls:=.type "list",data:=.seq vs.toArray} (.lst (ns.map V.int)))else Ht b) (.inl (.inr ⟨{cls:=.type "list",data:=.seq vs.toArray},if_pos rfl⟩)) (fun q hq=>(if_neg (aP q hq)).trans (HtP q hq)) (fun b u z=>?_) fun b u z=>?_
  ·by_cases hb:b=a
   ·have z':=(if_pos hb).symm.trans z;cases z';exact .inl ⟨hb,hk,_,rfl⟩
   ·exact .inr (HtA b u ((if_neg hb).symm.trans z))
  ·by_cases hb:b=a
   ·have z':=(if_pos hb).symm.trans z;cases z';subst hb;exact⟨ha,by rw[ao];exact hl,vs,_,rv,ha⟩
   ·obtain⟨q,hq,rfl,rfl⟩:=HtA b u ((if_neg hb).symm.trans z);exact tok hq
theorem xnz{l:W.OpenLaw}{n k:Nat}{q:ak}{loose:List Str}{XP:(Str→Option Value)→Heap→Prop}{YP:World→Heap→Prop}{d:DefRec}{K:Params→ag}{CX:CXT}{sp:ag→Sp}{x:Str}{tabs:List (Addr×Addr×List (Pos×Str))}
  (hn:l.most=some n) (hn2:n≤aN) (hdf:d.params.defaults=[]) (hr:xS k gJ)
  (hY:∀(w:World) (h:Heap),YP w h→(K w.params).In h)
  (hT:∀(w:World) (h:Heap),YP w h→(K w.params).In h→∀t∈tabs,iR h t.1 t.2.1∧h.get? t.2.1=some (fA #[])) (hnt:∀w:World,W.noTabs (K w.params)=true) (nd:(tabs.map fun q=>q.2.1).Nodup)
  (F:∀(w:World) (mg:Str→Option Value) (fa:Addr) (h:Heap),(K w.params).In h→h.Ns bf mg→mg d.name=some (.ref fa)→
   ∃fd:aq,(∀(s:aa) (u:Value),iy s fd ⟨[u],[]⟩ [(x,u)])∧
    ∀base:Heap,(K w.params).In base→base.Ns bf mg→xy l.prog w (K w.params) mg base CX k fa fd [x] (sp (K w.params)))
  (hsp:∀(K:ag) (H:Hp) (a:Addr) (ns:List Int),ns.length≤n→SqL K H a (ns.map V.int)→(∀q∈tabs,H q.2.1=some (.tbl q.2.2))→sp K [.ref a] H (fun v _=>v= .bl true) fun _ _ _=>False)
  (hCX:∀(H:Hp) (s:aa) (e:Value) (s':aa),CX [] H s (fun _ _ _=>False) e s'→False):
  W.WalkO q loose XP YP l.row.toRowW d [] (fun f vs=>PySem.call f vs):=by
 refine Att.xjN hn hdf fun w s₀ s₁ mg mb fa o pm cd doc a vs ns G Y ho hd hcd hmg hobj hints hlen hg=>?_;have KX:=hY w _ Y;obtain⟨fd,hb,hF⟩:=F w mg fa _ KX G.T.g hmg;exact xmt KX G.T.g G.T.b G.T.builtins G.T.nolimit G.T.bmain hg hobj hints (bw hlen hn2) hr (hT w _ Y KX) (hnt w) nd hF hb (fun H hS hP=>hsp (K w.params) H a ns hlen hS hP) fun H e s'=>hCX H s₁ e s'
end L2
namespace L2
open PySem PySem.Spec PyProof.Rows
structure yS(N ps fns:List Str)(sc:Scope):Prop where
 kind:sc.kind= .function
 co:sc.isCoroutine=false
 gen:sc.isGenerator=false
 nd:N.Nodup
 pre:N.take (ps.length+fns.length)=ps++fns
 par:∀x∈ps,sc.names.lookup x=some .local
 fre:∀x∈fns,sc.names.lookup x=some .free
 nocell:∀y∈sc.names,y.2≠.cell
def xcF(N:List Str)(vs:List V)(fv:List (Str×V)):St:=vs.map some++fv.map (fun p=>some p.2)++aQ (N.length - vs.length - fv.length) none
def xcW(CX:CXT)(P:ak)(w:World)(K:ag)(mg:Str→Option Value)(base:Heap)(N:List Str)(qual:Str)(scope:Scope)(f:Addr)(cd:Value)(clos:List (Str×Addr))(A:aE)(outer:List Env)(s:aa)(H:Hp)(E:XK):Cx where
 prog:=P
 w:=w
 K:=K
 mg:=mg
 base:=base
 A:=A.deeper (gk qual scope s.heap.objs.size f cd clos)
 N:=N
 s₀:=s
 H₀:=H
 env:=gk qual scope s.heap.objs.size f cd clos
 outer:=outer
 stack:=gk qual scope s.heap.objs.size f cd clos::outer
 ex:=[]
 calm:=true
 cp:=fun _=>false
 fn:=fun _=>false
 pn:=[]
 xe:=fun e s'=>wpAny (model P w) (A.deeper (gk qual scope s.heap.objs.size f cd clos)) (iz (gk qual scope s.heap.objs.size f cd clos) e) (fun _ s''=>CX outer H s E e s'') (fun e' s''=>CX outer H s E e' s'') s'
theorem xhJ{α:Type}:∀{l:List (Str×α)} {x:Str} {v:α},(l.map (·.1)).Nodup→(x,v)∈l→l.lookup x=some v
 |[],_,_,_,m=>by simp at m
 |(y,u)::r,x,v,nd,m=>by
  obtain⟨n1,n2⟩:=bp.mp nd;rw[bK];rcases av.mp m with e|m
  ·cases e;simp
  ·have:x≠y:=fun e=>n1 (by rw[←e];exact i9 (f:=(·.1)) m);rw[beq_false_of_ne this];exact xhJ n2 m
theorem xiI:∀{ps:List Str} {us:List Value},us.length=ps.length→(ps.zip us).map (·.1)=ps
 |[],[],_=>rfl
 |p::ps,u::us,h=>by simp[xiI (ps:=ps) (us:=us) (by simpa using h)]
 |[],_::_,h=>by simp at h
 |_::_,[],h=>by simp at h
theorem xgV{ps:List Str}{us:List Value}{i:Nat}{x:Str}{u:Value}(hl:us.length=ps.length)(nd:ps.Nodup)(h1:ps[i]? =some x)(h2:us[i]? =some u):(ps.zip us).reverse.lookup x=some u:=by
 refine xhJ ?_ (List.mem_reverse.mpr ?_)
 ·rw[List.map_reverse,xiI hl];exact List.pairwise_reverse.mpr (nd.imp fun h=>au h)
 ·refine cy.mpr ⟨i,?_⟩;rw[List.getElem?_zip_eq_some];exact⟨h1,h2⟩
def codeOf(body:df)(env:Env):Code:=match body with
 | .stmts b=>.func b env
 | .expr e=>.expr e env
section
variable {CX:CXT} {P:ak} {w:World} {K:ag} {mg:Str→Option Value} {base:Heap} {N ps fns:List Str} {nm qual:Str} {params:bV} {scope:Scope} {f:Addr} {cd:Value} {clos:List (Str×Addr)} {A:aE} {outer:List Env} {s:aa} {H:Hp} {E:XK} {us:List Value} {vs:List V} {fv:List (Str×V)} {k:Nat}
theorem xlm{h':Heap}{tk:Tok}(S:yS N ps fns scope)(hd:A.handled=none)(e0:jR P w K mg base A outer s H)(hl:vs.length=ps.length)(r:Vals vs us)(hfv:fv.map (·.1)=fns)
  (hin:∀x y a,clos.lookup x=some a→clos.lookup y=some a→x=y) (hhas:∀x,(x,bH)∈scope.names→∃a,clos.lookup x=some a)
  (hval:∀x v,(x,v)∈fv→∃a,clos.lookup x=some a∧H a=some (.cel (some v))) (hall:∀x a,clos.lookup x=some a→∃v,H a=some (.cel (some v)))
  (hns:h'.Ns s.heap.objs.size fun x=>(ps.zip us).reverse.lookup x) (hk:∀b o,s.heap.get? b=some o→h'.get? b=some o):
  Inv (xcW CX P w K mg base N qual scope f cd clos A outer s H E) [] (xcF N vs fv) H {s with heap:=h',toks:=tk}:=by
 have lenF:fv.length=fns.length:=by rw[←hfv,ao]
 have hpl:ps.length+fns.length≤N.length:=by have:=congrArg iq S.pre;rw[bQ,aW]at this;lia
 have noA:∀b:Addr,b∉(xcW CX P w K mg base N qual scope f cd clos A outer s H E).ex:=fun b z=>absurd (show b∈([]:List Addr)from z) (by simp);have lu:us.length=ps.length:=by rw[←r.length];exact hl
 have ndP:(ps++fns).Nodup:=by rw[←S.pre];exact S.nd.sublist (List.take_sublist _ _)
 refine⟨⟨e0.mod,S.kind,rfl,rfl,ax _,fun y z c h1 h2=>hin y z c h1 h2,fun y hy=>?_,fun y c h _=>(aJ h).elim,fun _=>hd,iK e0.frames,.inr ⟨rfl,rfl⟩,fun b z=>absurd z (noA b),e0.bs,e0.bsz,fun b _ _=>noA b,fun b z=>absurd z (noA b),e0.funs,e0.frf,fun y c h _=>(aJ h).elim,fun b hb=>e0.hok.fresh hb⟩,
  rfl,e0.bare,Un.kept hk,⟨_,hns,fun i y v h1 h2 h3=>?_⟩,fun y c h=>?_,e0.hok.fresh (ax _),fun y c h=>?_,fun p hp=>absurd (show p∈([]:List (Addr×Obj))from hp) (by simp),e0.hok.kept hk,?_⟩
 ·have hy:scope.names.lookup y=some .cell∨scope.names.lookup y=some .free:=hy;rcases hy with hy|hy
  ·exact absurd rfl (S.nocell _ (PySem.mem_of_lookup hy))
  ·exact hhas y (PySem.mem_of_lookup hy)
 ·have h1:N[i]? =some y:=h1;unfold xcF at h2
  by_cases hi:i<vs.length
  ·rw[bF (by simp;lia),bF (by simpa using hi),aD]at h2;cases e:vs[i]? with
   |none=>rw[e]at h2;cases h2
   |some a=>
    rw[e]at h2;cases h2;obtain⟨u,hu,rv⟩:=r.get e;have hp:ps[i]? =some y:=by
     have:(N.take (ps.length+fns.length))[i]? =some y:=by rw[dA (by lia)];exact h1
     rw[S.pre,bF (by lia)]at this;exact this
    exact⟨u,rv,.inl ⟨S.par y (aY hp),xgV lu (ndP.sublist (List.sublist_append_left _ _)) hp hu⟩⟩
  ·by_cases hj:i<vs.length+fv.length
   ·rw[bF (by simp;lia),bN (by simpa using hi),ao,aD]at h2;cases e:fv[i - vs.length]? with
    |none=>rw[e]at h2;cases h2
    |some p=>
     obtain⟨z,v'⟩:=p;rw[e]at h2;cases h2;have hp:fns[i - vs.length]? =some y:=by
      have:(N.take (ps.length+fns.length))[i]? =some y:=by rw[dA (by lia)];exact h1
      rw[S.pre,bN (by lia),←hl]at this;exact this
     have hz:z=y:=by
      rw[←hfv,aD,e]at hp;exact bh hp
     subst hz;obtain⟨a,q1,q2⟩:=hval _ _ (aY e);obtain⟨u,q3,q4⟩:=e0.hok a _ q2;obtain⟨y',rfl,r'⟩:=q4 v' rfl;exact⟨y',r',.inr ⟨.inr (S.fre z (aY hp)),a,q1,q3.keeps hk⟩⟩
   ·rw[bN (by simp;lia),g9]at h2
    split at h2<;> cases h2
 ·obtain⟨v,q2⟩:=hall y c h;obtain⟨u,q3,_⟩:=e0.hok c _ q2;exact⟨u,q3.keeps hk⟩
 ·obtain⟨v,q2⟩:=hall y c h;exact .inr ⟨rfl,some v,q2,fun z=>by cases z⟩
 ·unfold xcF;show _=N.length;simp only[aW,ao,bZ];lia
structure yA(P:ak)(w:World)(K:ag)(mg:Str→Option Value)(base:Heap)(CX:CXT)(k:Nat)(nm qual:Str)(params:bV)(body:df)(scope:Scope)(ps:List Str)(sp:List (Str×V)→Sp):Prop where
 len:∀fv vs H Q E,sp fv vs H Q E→vs.length=ps.length
 run:∀(A:aE) (outer:List Env) (s:aa) (H:Hp) (f:Addr) (fv:List (Str×V)) (us:List Value) (vs:List V) (Q:VK) (E:XK),xS k A→jR P w K mg base A outer s H→yJ H f nm qual params body scope fv→Vals vs us→sp fv vs H Q E→
  ck (model P w) A (.call (.ref f) ⟨us,[]⟩) (CR CX outer P w H s Q E) s
theorem xhK{body:df}{sp:List (Str×V)→Sp}(S:yS N ps fns scope)(len:∀fv vs H Q E,sp fv vs H Q E→vs.length=ps.length∧fv.map (·.1)=fns)
  (hb:∀(clos:List (Str×Addr)) (doc pm cdv ctv:Value) (us:List Value),us.length=ps.length→
   dX {name:=nm,qualname:=qual,params,body,scope,globals:=bf,closure:=clos,defaults:=.none,kwdefaults:=.none,doc,pyModule:=pm,annotations:=none,code:=cdv,closureTuple:=ctv,builtins:=cm} ⟨us,[]⟩=pure (ps.zip us))
  (hgo:∀(A:aE) (outer:List Env) (s:aa) (H:Hp) (f:Addr) (clos:List (Str×Addr)) (cdv:Value) (fv:List (Str×V)) (vs:List V) (Q:VK) (E:XK) (s1:aa),xS k (A.deeper (gk qual scope s.heap.objs.size f cdv clos))→sp fv vs H Q E→
   Inv (xcW CX P w K mg base N qual scope f cdv clos A outer s H E) [] (xcF N vs fv) H s1→
   ck (model P w) A (codeOf body (gk qual scope s.heap.objs.size f cdv clos)) (CR CX outer P w H s Q E) s1):
  yA P w K mg base CX (k+1) nm qual params body scope ps sp:=by
 refine⟨fun fv vs H Q E h=>(len fv vs H Q E h).1,fun A outer s H f fv us vs Q E hr e0 hc r hsp=>?_⟩;obtain⟨clos,c,o,u,u',xs,t,doc,pm,ctv,h1,h2,h3,h4,h5,h6,h7,h8⟩:=hc;obtain⟨hl,hfv⟩:=len fv vs H Q E hsp;have lu:us.length=ps.length:=by rw[←r.length];exact hl
 obtain⟨hf,_⟩:=e0.hok f _ h1;obtain⟨hcO,_⟩:=e0.hok c _ h2;have lim:s.heap.NoLimit:=e0.mod.nolimit.keeps fun b o e=>(e0.bs b o e).1;have hloc:∀y∈ps.zip us,scope.names.lookup y.1=some .local:=fun⟨n,v⟩ hy=>S.par n (cF hy).1;have cr:s.heap.CodeRec (.ref c) qual:=⟨c,o,xs,t,rfl,hcO,h3,h4⟩;have fin:wpAny (model P w) A.in1 (newFunctionEnv scope bf clos (ps.zip us) (qual++".<locals>.") (some f) (.ref c) none cm)
   (fun env s₂=>s₂.heap.NoLimit∧ck (model P w) A (codeOf body env) (CR CX outer P w H s Q E) s₂) (fun e s'=>CR CX outer P w H s Q E (.error e) s') s:=by
  refine wpAny_newFunctionEnv S.nocell hloc (fun h' hns hsb=>?_) S.kind;have hk:∀b o,s.heap.get? b=some o→h'.get? b=some o:=fun b o e=>hsb.extBut b o (aG (aw e)) (ai _ e);exact⟨lim.keeps hk,hgo A outer s H f clos (.ref c) fv vs Q E _ (hr.deeper _) hsp (xlm S hr.hd e0 hl r hfv h5 h6 h7 h8 hns hk)⟩
 cases body with
 |stmts b=>
  refine cx hr.depth hf rfl S.co S.gen rfl cr ?_;rw[hb clos doc pm (.ref c) ctv us lu];exact ay fin
 |expr e=>
  refine W.kla_callFunE hr.depth hf rfl S.co S.gen rfl cr ?_;rw[hb clos doc pm (.ref c) ctv us lu];exact ay fin
theorem xbf{e:Expr}{sp:List (Str×V)→Sp}(S:yS N ps fns scope)(len:∀fv vs H Q E,sp fv vs H Q E→vs.length=ps.length∧fv.map (·.1)=fns)
  (hb:∀(clos:List (Str×Addr)) (doc pm cdv ctv:Value) (us:List Value),us.length=ps.length→
   dX {name:=nm,qualname:=qual,params,body:=.expr e,scope,globals:=bf,closure:=clos,defaults:=.none,kwdefaults:=.none,doc,pyModule:=pm,annotations:=none,code:=cdv,closureTuple:=ctv,builtins:=cm} ⟨us,[]⟩=pure (ps.zip us))
  (hbody:∀(A:aE) (outer:List Env) (s:aa) (H:Hp) (f:Addr) (clos:List (Str×Addr)) (cdv:Value) (fv:List (Str×V)) (vs:List V) (Q:VK) (E:XK),xS k (A.deeper (gk qual scope s.heap.objs.size f cdv clos))→sp fv vs H Q E→
   ∃te,PE (xcW CX0 P w K mg base N qual scope f cdv clos A outer s H E).nox e te∧te (xcF N vs fv) H Q):yA P w K mg base CX0 (k+1) nm qual params (.expr e) scope ps sp:=
 xhK S len hb fun A outer s H f clos cdv fv vs Q E s1 hr hsp I=>by
  obtain⟨te,ht,hq⟩:=hbody A outer s H f clos cdv fv vs Q E hr hsp;refine W.kla_codeExpr (aI (ht [] s1 _ H Q (I.wish _) hq) (fun v s' ⟨x,H',J,rv,q⟩=>?_) fun _ _ z=>z.elim);exact⟨x,H',J.os,J.bare,J.base,J.hok,rv,q⟩
end
section
variable {X:Cx} {CX:CXT} {k:Nat} {nm qual x:Str} {params:bV} {body:df} {scope:Scope} {ps:List Str} {sp:List (Str×V)→Sp} {p pos:Pos} {e:Expr} {es:List Expr} {t:TA} {E:XK} {i:Nat}
theorem xku{pins:List (Addr×Obj)}{σ:St}{H:Hp}{s:aa}{Q:VK}{us:List Value}{vs:List V}{f:Addr}{fv:List (Str×V)}(F:yA X.prog X.w X.K X.mg X.base CX k nm qual params body scope ps sp)(hr:xS k X.A)(hx:Passes CX X E)
  (I:Inv X pins σ H s) (hc:yJ H f nm qual params body scope fv) (r:Vals vs us) (h:sp fv vs H Q E):wpAny (model X.prog X.w) X.A (call (.ref f) us) (EP X pins σ Q) X.xe s:=by
 refine cV (bU (F.run X.A X.stack s H f fv us vs Q E hr I.env0 hc r h) fun r s' hq=>?_);cases r with
 |error e=>exact hx pins σ H s e s' I hq
 |ok fl=>
  cases fl with
  |ret u=>exact I.after hq
  |next=>exact aV hq
  |brk=>exact aV hq
  |cont=>exact aV hq
theorem yJ.fn{pins:List (Addr×Obj)}{σ:St}{H:Hp}{s:aa}{f:Addr}{fv:List (Str×V)}(hc:yJ H f nm qual params body scope fv)(I:Inv X pins σ H s):W.FnAt f s.heap:=by
 obtain⟨clos,c,o,u,u',xs,t,doc,pm,ctv,h1,_⟩:=hc;obtain⟨e,_⟩:=I.hok f _ h1;exact⟨_,_,_,_,e⟩
def xqy(nm qual:Str)(params:bV)(body:df)(scope:Scope)(sp:List (Str×V)→Sp)(E:XK)(i:Nat)(t:TA):TE:=fun σ H Q=>∃f fv,σ[i]? =some (some (.ref f))∧yJ H f nm qual params body scope fv∧t σ H fun vs H1=>yJ H1 f nm qual params body scope fv∧sp fv vs H1 Q E
theorem xnA(i:Nat)(F:yA X.prog X.w X.K X.mg X.base CX k nm qual params body scope ps sp)(hr:xS k X.A)(hx:Passes CX X E)(ha:PA X (e::es) t)(hN:X.N[i]? =some x:=by rfl)(hv:Vis X.env.scope x:=by first|exact aA rfl|exact cI (aA rfl)|exact cI (cI rfl))(hd:(x==("__debug__":Str))=false:=by decide)
  (hcd:(x==("__classdict__":Str))=false:=by decide) (he:aC (e::es) X.env=(false,eval e X.env)::aC es X.env:=by rfl) (hpl:(bC pos (aC es X.env)).any (·.1)=false:=by rfl):
  PE X (.Call (.Name x p) (e::es) [] pos) (xqy nm qual params body scope sp E i t):=by
 intro pins s σ H Q I h;obtain⟨f,fv,e1,hc,h⟩:=h;refine bO (thn (xfI (pos:=p) hN hv hd hcd pins s σ H (fun v H1=>v= .ref f∧H1=H) I ⟨_,e1,rfl,rfl⟩) fun u s1 ⟨v,H1,I1,r,q1,q2⟩=>?_);subst q1;subst q2;cases (show u=aB f from r);refine W.callWith_F (hc.fn I1) (thn (ha pos pins s1 σ H1 _ I1 h) fun us s2 ⟨vs,H2,I2,r2,q⟩=>⟨q.1.fn I2,?_⟩) he hpl;exact xku F hr hx I2 q.1 r2 q.2
end
theorem Inv.capd{X:Cx}{pins:List (Addr×Obj)}{σ:St}{H:Hp}{s:aa}(hfn:∀x,X.fn x=true)(I:Inv X pins σ H s)(g:Str→Bool):Inv {X with fn:=g} pins σ H s:=by
 have ok:=I.ok;refine⟨⟨ok.mod,ok.kind,ok.glob,ok.blt,ok.above,ok.inj,ok.has,fun x c _ h=>ok.cab x c (hfn x) h,ok.hd,ok.frames,ok.stk,ok.exf,ok.bs,ok.bsz,ok.noex,ok.exfs,ok.funs,ok.frf,ok.cab2,ok.hz⟩,I.os,I.bare,I.base,I.loc,I.cell,I.free,fun x c e=>?_,I.pin,I.hok,I.len⟩;rcases I.freeC x c e with z|⟨z,_⟩
 ·exact .inl z
 ·rw[hfn x]at z;cases z
abbrev xir(cap:List Str):Str→Bool:=fun x=> !(cap.contains x)
abbrev vj(cap:List Str)(CX:CXT)(P:ak)(w:World)(K:ag)(mg:Str→Option Value)(base:Heap)(N:List Str)(qual:Str)(scope:Scope)(f:Addr)(cd:Value)(A:aE)(outer:List Env)(s:aa)(H:Hp)(E:XK):Cx:=
 {uz CX P w K mg base N qual scope f cd A outer s H E with fn:=xir cap}
theorem Fun.okC{P:ak}{w:World}{K:ag}{mg:Str→Option Value}{base:Heap}{x qual:Str}{st:Stmt}{f c:Addr}{fd:aq}{N ps:List Str}{k:Nat}{sp:Sp}(cap:List Str)(F:Fun K x qual st f fd)(hc:fd.code= .ref c)(S:xr N ps (xh st))(len:∀vs H Q E,sp vs H Q E→vs.length=ps.length)
  (hbody:∀(A:aE) (outer:List Env) (s:aa) (H:Hp) (vs:List V) (Q:VK) (E:XK),xS k (A.deeper (di qual (xh st) s.heap.objs.size f (.ref c)))→sp vs H Q E→
   ∃t,PSs (vj cap CX0 P w K mg base N qual (xh st) f (.ref c) A outer s H E).nox (xI st) t∧t {nx:=fun _ H'=>Q .non H',rt:=Q} (start N vs) H):xy P w K mg base CX0 (k+1) f fd ps sp:=by
 obtain⟨oc,od,kV,doc,pm,an,cdv,ct,osl,rfl,lk,hcd⟩:=F.ex;obtain rfl:cdv= .ref c:=hc;refine⟨len,fun A outer s H args us vs Q E hr e0 hb r hsp=>?_⟩;have hl:=len _ _ _ _ hsp;have KX:K.In s.heap:=e0.mod.kin.keeps fun b o e=>(e0.bs b o e).1;have lim:s.heap.NoLimit:=e0.mod.nolimit.keeps fun b o e=>(e0.bs b o e).1;have hkind:∀y∈ps.zip us,(xh st).names.lookup y.1=some .local∨((xh st).names.lookup y.1=some .cell∧((fF (s.heap.objs.size+1) (xh st).names []).lookup y.1).isSome=true):=fun⟨n,v⟩ hy=>by
  rcases S.par n (cF hy).1 with q|q
  ·exact .inl q
  ·exact .inr ⟨q,dz _ _ _ (.inl q)⟩
 refine cx hr.depth (KX _ _ lk) rfl S.co S.gen rfl (fM KX hcd) (hb _ _ _ _ ?_);refine cq S.kind hkind fun env he s1 x=>?_;subst he;refine⟨lim.keeps x.toInCall.keep,fN ?_⟩;obtain⟨t,ht,hq⟩:=hbody A outer s H vs Q E (hr.deeper _) hsp;have I:Inv (uz CX0 P w K mg base N qual (xh st) f (.ref c) A outer s H E) [] (start N vs) H s1:=xao S hr.hd e0 hl r x;have I':Inv (vj cap CX0 P w K mg base N qual (xh st) f (.ref c) A outer s H E).nox [] (start N vs) H s1:=(I.capd (fun _=>rfl) (xir cap)).wish _;refine aI (ht [] s1 (start N vs) H _ I' hq) (fun fl s' hs=>?_) fun e s' hs=>hs.elim;have fin:∀{σ':St} {H':Hp} {v:V} {u:Value},Inv (vj cap CX0 P w K mg base N qual (xh st) f (.ref c) A outer s H E).nox [] σ' H' s'→RelV v u→Q v H'→CE outer P w H s Q u s':=
  fun{σ' H' v u} J rv q=>⟨v,H',J.os,J.bare,J.base,J.hok,rv,q⟩
 cases fl with
 |ret u=>
  obtain⟨v,σ',H',J,rv,q⟩:=hs;exact fin J rv q
 |next=>
  obtain⟨σ',H',J,q⟩:=hs;exact fin (v:=V.non) (u:=aU) J rfl q
 |brk=>
  obtain⟨_,_,_,q⟩:=hs;exact aV q
 |cont=>
  obtain⟨_,_,_,q⟩:=hs;exact aV q
section
variable {X:Cx} {c P:Addr} {qs:List (Pos×Str)} {name q:Str} {params:bV} {scope:Scope} {pos:Pos} {fns:List Str}
theorem zB{e:Expr}(hcode:X.env.code= .ref c)(T:zS X.K c P)(hql:X.env.qual++"<lambda>"=q)(hq:(pos,q)∈qs)(hu:(qs.all fun p=> !((pos.line==p.1.line)&&(pos.col==p.1.col))||(p.2==q))=true)
  (hfr:(scope.names.filter fun y=>y.2== .free).map (·.1)=fns) (hdef:defaultsOf params X.env=([],[]):=by rfl):
  PE X (.Lambda params e scope pos) (tFn X P qs fns "<lambda>" q params (.expr e) scope):=by
 subst hql;exact xms hcode T hq hu hfr hdef
end
theorem xo1{K:ag}{c P:Addr}(e:W.codeHdIn K c P=true):zS K c P:=fun _ X=>W.codeHd_of_K X e
end L2
namespace L2
open PySem PySem.Spec PyProof.Rows
theorem xln{X:Cx}{a b:Expr}{pos:Pos}{op:CmpOp}{t:TE}(h:PC X op a b t)(h1:cL op b=false):PT X (.Compare a [op] [b] pos) (cB t):=by
 intro pins s σ H Q I hw;refine fD (thn (h pins s σ H _ I hw) fun v s1 h1=>thn h1 fun u s2 h2=>thn h2 fun c s3 ⟨x,H1,I1,r1,q1⟩=>?_) h1;obtain⟨d,rfl,q⟩:=xbc q1;cases r1;exact cb ⟨H1,I1,q⟩
end L2
namespace L2
open PySem PySem.Spec PyProof.Rows
theorem xmu{K:ag}{l:Addr}{xs:List V}{te:TE}{caps:L2.St}{Q:VK}{H2:Hp}(f:V→V)(hl:SqL K H2 l xs)(hn:xs.length≤aN)
  (hs:∀(x:V) (H3:Hp),x∈xs→xf H2 H3→∀R:VK,(∀H6,xf H3 H6→R (f x) H6)→te (some x::caps) H3 R)
  (hd:∀D H',H2 D=none→xf H2 H'→H' D=some (.lst (xs.map f))→Q (.ref D) H'):zj (Itl K l) caps xgS te Q H2:=by
 unfold zj;intro D hD;refine⟨fun i m acc H3=>m=xs.length - i∧i≤xs.length∧acc=(xs.take i).map f∧H3 D=some (.lst acc)∧xf H2 H3,⟨xs.length,by simp,bM _,rfl,xm,xf.new hD⟩,?_⟩;rintro i m acc H3 ⟨rfl,hi,rfl,hD3,s3⟩;refine⟨hD3,?_⟩;have q:=s3.seq hl
 by_cases hlt:i<xs.length
 ·have hx:xs[i]? =some xs[i]:=aK hlt;refine .inr ⟨⟨xs,xs[i],q,hx⟩,by simp;lia,fun v H4 y=>?_⟩;obtain⟨e,y⟩:=y;have ev:=y xs q;rw[hx]at ev;cases ev;subst e;refine⟨fun _=>?_,fun z=>by cases z⟩;refine hs _ _ (eF hlt) s3 _ fun H6 s6=>⟨s6.at hD3,xs.length - (i+1),by lia,rfl,hlt,?_,xm,(s3.trans s6).put hD⟩;rw[b8,hx,bJ];rfl
 ·have e:i=xs.length:=by lia
  subst e;rw[cw]at hD3;exact .inl ⟨⟨xs,q,ax _⟩,hd D H3 hD s3 hD3⟩
end L2
namespace L2
open PySem PySem.Spec PyProof.Rows
section
variable {X:Cx}
theorem xa4{st:Stmt}:PS X st (fun _ _ _=>False):=fun _ _ _ _ _ _ q=>q.elim
theorem xf2:∀{bs:List Bool} {us:List Value},Vals (bs.map V.bl) us→us=bs.map cU
 |[],[],_=>rfl
 |[],_::_,h=>by cases h
 |_::_,[],h=>by cases h
 |b::bs,u::us,h=>by
  cases h with
  |cons h1 h2=>
   rw[xf2 h2];cases h1;rfl
theorem range_all(bs:List Bool)(d:Bool):(dN bs.length).all (fun i=>bs.getD i d)=bs.all id:=by
 rw[eU,cS,cS];constructor
 ·intro h x hx;obtain⟨i,hi,rfl⟩:=iQ.mp hx;have:=h i (by simpa using hi);simpa [hi]using this
 ·intro h i hi;have hi':i<bs.length:=by simpa using hi
  have:=h bs[i] (eF hi');simpa [hi']using this
def xrq(K:ag)(f:List Bool→Bool):List V→Hp→VK→Prop:=fun xs H Q=>∃p bs,xs=[.ref p]∧SqL K H p (bs.map V.bl)∧Q (.bl (f bs)) H
theorem xjO{prog:ak}{w:World}{A:aE}(bs:List Bool):TruthOf prog w A (fun i v=>(bs.map cU).toArray[i]? =some v) (fun i=>bs.getD i true):=by
 intro i v s Q E hP hQ;have e:v= .bool (bs.getD i true):=by
  simp only[List.getElem?_toArray,aD]at hP;cases q:bs[i]? with
  |none=>rw[q]at hP;cases hP
  |some b=>rw[q]at hP;simp at hP;rw[←hP];simp[List.getD,q]
 rw[e];exact cb hQ
theorem xmv(hc:X.calm=true):yN X (.builtin "all") (xrq X.K fun bs=>bs.all id):=by
 intro pins s σ H xs us Q I r h;obtain⟨p,bs,rfl,hq,q⟩:=h;obtain⟨u,rfl,rx⟩:=vals1 r;cases rx;obtain⟨its,r',pl,hz⟩:=I.list hq;have e:=xf2 r';subst e;have hL:=pl.isList;have hlt:p<s.heap.objs.size:=by obtain⟨_,e,_⟩:=hL;exact aw e
 refine call_all_walk (fj hL ⟨_,_,_,_,_,_,fun i=>bs.getD i true,rfl,Walks.list (A:=X.A.in1) (I.ok.hd hc) _ p (aG hlt) (bs.map cU).toArray,⟨⟨_,aL _ rfl,rfl,rfl⟩,hL.push _⟩,xjO bs,fun h' tk hk=>?_⟩);refine⟨.bl (bs.all id),H,I.kept (t':=tk) (fun b o e=>hk b o (fun hb=>?_) (ai _ e)),?_,q⟩
 ·exact absurd (aw e) (by rw[aj.mp hb];exact bS _)
 ·have e:=range_all bs true;simp only[aT,ao];rw[e];rfl
def xrr(K:ag):List V→Hp→VK→Prop:=fun xs H Q=>∃(p:Addr) (ns:List Int),xs=[.ref p]∧SqL K H p (ns.map V.int)∧Q (.int ns.sum) H
theorem xhL(hc:X.calm=true):yN X (.builtin "sum") (xrr X.K):=by
 intro pins s σ H xs us Q I r h;obtain⟨p,ns,rfl,hq,q⟩:=h;obtain⟨u,rfl,rx⟩:=vals1 r;cases rx;obtain⟨its,r',pl,hz⟩:=I.list hq;have hi:=intsAre_of r';have hL:=pl.isList;have hn:=hi.numsOf;obtain⟨ys,e⟩:=hi.allInts.items;rw[e]at hL;have e2:numsOf its=numsOf (gW ys).toList:=by rw[←e]
 rw[e2,nums_intItems]at hn;refine sum_intListG (I.ok.hd hc) hL fun h' tk t' hk=>⟨.int ns.sum,H,I.kept (t':=tk) hk,⟨t',?_⟩,q⟩;rw[preSum_eq,d5 (by simp),hn]
end
end L2
namespace L2
open PySem PySem.Spec PyProof.Rows
section
variable {X:Cx} {pins:List (Addr×Obj)} {σ:St} {H:Hp} {s:aa} {h':Heap}
theorem Inv.turnLaid{t':Nat}{ch:List Addr}{a:Addr}{o:HO}(I:Inv X pins σ H s)(k:∀b u,b∉ch→s.heap.get? b=some u→h'.get? b=some u)(hp:s.heap.objs.size≤a)(new:xX X.prog X.w (upd H a o) h' a o)
  (hn:∀b∈ch,H b=none) (hl:∀b∈ch,b<s.heap.objs.size) (hch:∀b∈ch,(b∈X.ex∨X.s₀.heap.objs.size≤b)∧b≠X.env.locals∧(∀x c,X.env.cells.lookup x=some c→c≠b)∧∀p∈X.pn++pins,p.1≠b):
  Inv X pins σ (upd H a o) {s with heap:=h',toks:=t'}:=by
 have nit:∀b u,H b=some u→b∉ch:=fun b u e z=>by rw[hn b z]at e;cases e
 have fr:=I.hok.fresh hp;refine I.call' (s':={s with heap:=h',toks:=t'}) (ch:=ch) rfl ⟨fun b o q _ _ hx=>k b o hx q,fun b o q _ _ hx=>⟨o.slots,k b o hx q⟩,fun b o q n _=>?_,fun b o q hx=>⟨o,k b o hx q⟩,fun b u q _=>?_⟩ (fun b u e=>?_) I.bare hch
 ·rw[xl (aG (aF (aw q) hp))];exact n
 ·rw[xl (xF q fr)];exact q
 ·by_cases hb:b=a
  ·subst hb;rw[xm]at e;cases e;exact new
  ·rw[xl hb]at e;refine(I.hok b u e).stay (fun c v hc q=>k c v ?_ q) (fun c q=>by rw[xl (xF q fr)];exact q) fun c xs q _=>by rw[xl (xF q fr)];exact q
   rcases hc with z|z
   ·rw[z];exact nit b u e
   ·exact nit c _ z
end
def Ite(K:ag)(a:Addr):It:=
 ⟨fun i H=>∃xs x,SqL K H a xs∧xs[i]? =some x,fun i H v H'=>∃T x,v= .ref T∧H T=none∧H'=upd H T (.tup [.int i,x])∧∀xs,SqL K H a xs→xs[i]? =some x,fun i H=>∃xs,SqL K H a xs∧xs.length≤i⟩
theorem xmw{P:ak}{w:World}{K:ag}{es:List Expr}{k:Nat}{pos:Pos}(a e it:Addr)(hne:e≠it):Turn P w K (.Tuple es k pos) (Ite K a) [e,it] e (fun i h=>(∃old,gX h e it (i:Nat) old)∧h.IsListIter it a i) where
 mem:=by simp
 obj:=fun i h st b hb=>by
  obtain⟨⟨old,he⟩,⟨o,e1,c,d⟩⟩:=st;rcases av.mp hb with z|z
  ·subst z;exact⟨_,he,fun v z=>by cases z⟩
  ·rw[aj.mp z];exact⟨o,e1,fun v z=>by rw[d]at z;cases z⟩
 keep:=fun i h h' st kk=>by
  obtain⟨⟨old,he⟩,hit⟩:=st;exact⟨⟨old,kk e (by simp) _ he⟩,hit.at fun o x=>kk it (by simp) o x⟩
 item:=by
  intro X hP hw hK hc i pins s σ H E I hf st hg;subst hP hw hK;obtain⟨xs,x,hq,hx⟩:=hg;obtain⟨its,rv,p,hz⟩:=I.list hq;obtain⟨u,hu,ru⟩:=rv.get hx;obtain⟨⟨old,he⟩,hit⟩:=st;have he':=aw he;have hi':it<s.heap.objs.size:=by obtain⟨o,q,_⟩:=hit;exact aw q
  refine wpAny_pyNext_enum_item he hit p.isList (x:=u) (by simpa using hu) hne fun h' heo hit' hT hsz hk=>?_;refine⟨_,rfl,eM (s:={s with heap:=h',toks:=s.toks+1}) heo fun h2 he2 hs2=>?_⟩;have hT2:h2.get? s.heap.objs.size=some {cls:=.type "tuple",data:=.seq #[.int i s.toks,u]}:=(hs2.2 _ (eg he')).trans hT;have I2:Inv X pins σ (upd H s.heap.objs.size (.tup [.int i,x])) {s with heap:=h2,toks:=s.toks+1}:=by
   refine I.turnLaid (ch:=[e,it]) (fun b o hb q=>?_) (ax _) ⟨by simp[aZ],[.int i s.toks,u],.cons ⟨_,rfl⟩ (.cons ru .nil),⟨_,hT2,rfl,_,rfl⟩⟩ (fun b hb=>(hf b hb).1) (fun b hb=>?_) fun b hb=>?_
   ·have b1:b≠e:=fun z=>hb (by simp[z]);have b2:b≠it:=fun z=>hb (by simp[z]);exact(hs2.2 b b1).trans (hk b o b1 b2 q)
   ·rcases av.mp hb with z|z
    ·rw[z];exact he'
    ·rw[aj.mp z];exact hi'
   ·obtain⟨f0,f1,f2,f3,f4,f5⟩:=hf b hb;exact⟨f3,f1,f4,f5⟩
  refine⟨.ref s.heap.objs.size,_,I2,rfl,⟨_,x,rfl,I.hok.fresh (ax _),rfl,fun ys hy=>by rw[I.list_inj hy hq];exact hx⟩,⟨⟨u,by simpa using he2⟩,hit'.extBut hs2.extBut (au hne)⟩,fun b hb=>?_⟩;have hb':b≠s.heap.objs.size:=by
   rcases av.mp hb with z|z
   ·rw[z];exact aG he'
   ·rw[aj.mp z];exact aG hi'
  rw[xl hb'];exact(hf b hb).1
 done:=by
  intro X hP hw hK hc i pins s σ H E I hf st hg;subst hP hw hK;obtain⟨xs,hq,hx⟩:=hg;obtain⟨its,rv,p,hz⟩:=I.list hq;obtain⟨⟨old,he⟩,hit⟩:=st;obtain⟨f0,f1,f2,f3,f4,f5⟩:=hf it (by simp);have hl:=rv.length;exact wpAny_pyNext_enum_end (I.ok.hd hc) he hit p.isList (by simp;lia) fun h' eb=>⟨rfl,I.turned (t':=s.toks) (fun b o hb e=>eb b o hb e) f0 f1 f3 f4 f5⟩
 self:=fun _ _ _ _ _ st h=>by
  obtain⟨⟨old,he⟩,_⟩:=st;exact dm he h
section
variable {X:Cx} {es:List Expr} {k:Nat} {tp:Pos}
def xrs(K:ag)(ta:TA):TI:=fun σ H R=>ta σ H fun vs H1=>∃a,vs=[.ref a]∧(∃xs,SqL K H1 a xs)∧R (Ite K a) H1
theorem xkv{l:Expr}{ta:TA}{p pos:Pos}(hg:Gl X "enumerate")(hm:X.mg "enumerate"=none)(ha:PA X [l] ta)(hs:aC [l] X.env=[(false,eval l X.env)]:=by rfl):PI X (.Tuple es k tp) (.Call (.Name "enumerate" p) [l] [] pos) (xrs X.K ta):=by
 intro pins s σ H R I h;refine Call_ (uQ I hg hm xbe (bL (thn (ha pos pins s σ H _ I h) fun us s1 ⟨vs,H1,I1,r1,q1⟩=>?_) hs rfl));obtain⟨a,e,⟨xs,hq⟩,q⟩:=q1;subst e;obtain⟨u,rfl,ru⟩:=Vals.one r1;cases ru;obtain⟨its,rv,pl,hz⟩:=I1.list hq;refine call_enumerate_list pl.isList fun h' he hi hsz hk=>dm (s:={s1 with heap:=h'}) he ?_;refine⟨s1.heap.objs.size+1,[s1.heap.objs.size+1,s1.heap.objs.size],_,_,H1,rfl,I1.kept (t':=s1.toks) hk,xmw a _ _ (gY _),⟨⟨.none,by simpa using he⟩,hi⟩,fun b hb=>?_,q⟩;rcases av.mp hb with z|z
 ·rw[z];exact I1.fpOk (dy _) (I1.hok.fresh (dy _))
 ·rw[aj.mp z];exact I1.fpOk (ax _) (I1.hok.fresh (ax _))
end
section
variable {X:Cx} {scope:Scope} {x1 x2:Str} {cap:List Nat} {ys:List Str}
end
@[irreducible] def xr6(K:ag)(J:It)(caps:St)(tt:TT)(te:TE)(Q:VK)(H2:Hp):Prop:=∀D,H2 D=none→∃W:CW,(∃m,W 0 m [] (upd H2 D (.lst [])))∧
 ∀i m acc H3,W i m acc H3→H3 D=some (.lst acc)∧((J.stop i H3∧Q (.ref D) H3)∨(J.go i H3∧acc.length<aN∧∀v H4,J.yld i H3 v H4→∃T v1 v2,v= .ref T∧SqT K H4 T [v1,v2]∧tt (some v1::some v2::caps) H4 fun b H5=>
  (b=true→te (some v1::some v2::caps) H5 fun u H6=>H6 D=some (.lst acc)∧∃m',m'<m∧W (i+1) m' (acc++[u]) (upd H6 D (.lst (acc++[u]))))∧(b=false→∃m',m'<m∧W (i+1) m' acc H5)))
section
variable {X:Cx} {scope:Scope} {x1 x2:Str} {cap:List Nat} {ys:List Str} {elt iter:Expr} {ifs:List Expr} {px1 px2 px pos:Pos} {kx:Nat} {wi:TI} {tt:TT} {te:TE}
end
end L2
namespace L2
open PySem PySem.Spec PyProof.Rows
theorem xcb{α β:Type}{F:α→β→Prop}:∀{as:List α} {bs:List β} {i:Nat} {a:α},Paired F as bs→as[i]? =some a→∃b,bs[i]? =some b∧F a b
 |_,_,i,b,.nil,h=>by simp at h
 |_,_,0,b,.cons x xs,h=>by simp at h;subst h;exact⟨_,rfl,x⟩
 |_,_,i+1,b,.cons x xs,h=>by obtain⟨a,h1,h2⟩:=xcb (i:=i) xs (by simpa using h);exact⟨a,by simpa using h1,h2⟩
def del(H:Hp)(D:Addr):Hp:=fun b=>if b=D then none else H b
theorem uT{H:Hp}{D:Addr}:del H D D=none:=by unfold del;rw[if_pos rfl]
theorem xar{H:Hp}{D b:Addr}(h:b≠D):del H D b=H b:=by unfold del;rw[if_neg h]
theorem uU{H:Hp}{D:Addr}:xf (del H D) H:=fun b u e=>by
 by_cases h:b=D
 ·rw[h,uT]at e;cases e
 ·rw[xar h]at e;exact e
theorem zz{H:Hp}{D:Addr}{o:HO}:del (upd H D o) D=del H D:=by
 funext b
 by_cases h:b=D
 ·rw[h,uT,uT]
 ·rw[xar h,xar h,xl h]
theorem jX{H:Hp}{D:Addr}(h:H D=none):del H D=H:=by
 funext b
 by_cases e:b=D
 ·rw[e,uT,h]
 ·rw[xar e]
theorem jY{H H':Hp}{D:Addr}(s:xf H H'):xf (del H D) (del H' D):=fun b u e=>by
 by_cases h:b=D
 ·rw[h,uT]at e;cases e
 ·rw[xar h]at e⊢;exact s b u e
theorem xmx{lo st:Int}{n:Nat}{te:TE}{caps:L2.St}{Q:VK}{H2:Hp}(Pv:Nat→List V→Hp→Prop)(hn:n≤aN)(h0:Pv 0 [] H2)
  (hs:∀(i:Nat) acc H3 H3',i<n→xf H2 H3→xf H3 H3'→Pv i acc H3→∀R:VK,(∀u H6',xf H3' H6'→(∀H6,xf H3 H6→(∀p o,(H3' p=none∨∀ys,o≠HO.lst ys)→H6' p=some o→H6 p=some o)→Pv (i+1) (acc++[u]) H6)→R u H6')→te (some (.int (lo+i*st))::caps) H3' R)
  (hd:∀D acc H H',H2 D=none→H D=none→xf H2 H→xf H H'→Pv n acc H→acc.length=n→H' D=some (.lst acc)→Q (.ref D) H'):zj (Its lo st n) caps xgS te Q H2:=by
 unfold zj;intro D hD;refine⟨fun i m acc H3=>m=n - i∧i≤n∧acc.length=i∧H3 D=some (.lst acc)∧xf H2 (del H3 D)∧Pv i acc (del H3 D),⟨n,by simp,bM _,rfl,xm,?_,?_⟩,?_⟩
 ·rw[zz,jX hD];exact xf.refl _
 ·rw[zz,jX hD];exact h0
 rintro i m acc H3 ⟨rfl,hi,hacc,hD3,s3,p3⟩;refine⟨hD3,?_⟩
 by_cases hlt:i<n
 ·refine .inr ⟨hlt,by lia,fun v H4 y=>?_⟩;obtain⟨e,y⟩:=y;subst e y;refine⟨fun _=>?_,fun z=>by cases z⟩;refine hs i acc _ _ hlt s3 uU p3 _ fun u H6' s6 k=>⟨s6.at hD3,n - (i+1),by lia,rfl,hlt,by simp[hacc],xm,?_,?_⟩
  ·rw[zz];exact s3.trans (jY s6)
  ·rw[zz];refine k _ (jY s6) fun p o q1 q2=>?_;rw[xar (fun z=>by
    rcases q1 with q1|q1
    ·rw[z,hD3]at q1;cases q1
    ·rw[z,s6.at hD3]at q2;cases q2;exact q1 _ rfl)]
   exact q2
 ·have e:i=n:=by lia
  subst e;exact .inl ⟨ax _,hd D acc _ H3 hD uT s3 uU p3 hacc hD3⟩
theorem xlo{K:ag}{l:Addr}{xs:List V}{te:TE}{caps:L2.St}{Q:VK}{H2:Hp}(Pv:Nat→List V→Hp→Prop)(hl:SqL K H2 l xs)(hn:xs.length≤aN)(h0:Pv 0 [] H2)
  (hs:∀(i:Nat) x acc H3 H3',xs[i]? =some x→xf H2 H3→xf H3 H3'→Pv i acc H3→∀R:VK,(∀u H6',xf H3' H6'→(∀H6,xf H3 H6→(∀p o,(H3' p=none∨∀ys,o≠HO.lst ys)→H6' p=some o→H6 p=some o)→Pv (i+1) (acc++[u]) H6)→R u H6')→te (some x::caps) H3' R)
  (hd:∀D acc H H',H2 D=none→H D=none→xf H2 H→xf H H'→Pv xs.length acc H→acc.length=xs.length→H' D=some (.lst acc)→Q (.ref D) H'):zj (Itl K l) caps xgS te Q H2:=by
 unfold zj;intro D hD;refine⟨fun i m acc H3=>m=xs.length - i∧i≤xs.length∧acc.length=i∧H3 D=some (.lst acc)∧xf H2 (del H3 D)∧Pv i acc (del H3 D),⟨xs.length,by simp,bM _,rfl,xm,?_,?_⟩,?_⟩
 ·rw[zz,jX hD];exact xf.refl _
 ·rw[zz,jX hD];exact h0
 rintro i m acc H3 ⟨rfl,hi,hacc,hD3,s3,p3⟩;refine⟨hD3,?_⟩;have q:=(s3.trans uU).seq hl
 by_cases hlt:i<xs.length
 ·have hx:xs[i]? =some xs[i]:=aK hlt;refine .inr ⟨⟨xs,xs[i],q,hx⟩,by lia,fun v H4 y=>?_⟩;obtain⟨e,y⟩:=y;have ev:=y xs q;rw[hx]at ev;cases ev;subst e;refine⟨fun _=>?_,fun z=>by cases z⟩;refine hs i _ acc _ _ hx s3 uU p3 _ fun u H6' s6 k=>⟨s6.at hD3,xs.length - (i+1),by lia,rfl,hlt,by simp[hacc],xm,?_,?_⟩
  ·rw[zz];exact s3.trans (jY s6)
  ·rw[zz];refine k _ (jY s6) fun p o q1 q2=>?_;rw[xar (fun z=>by
    rcases q1 with q1|q1
    ·rw[z,hD3]at q1;cases q1
    ·rw[z,s6.at hD3]at q2;cases q2;exact q1 _ rfl)]
   exact q2
 ·have e:i=xs.length:=by lia
  subst e;exact .inl ⟨⟨xs,q,ax _⟩,hd D acc _ H3 hD uT s3 uU p3 hacc hD3⟩
theorem xhM{K:ag}{l:Addr}{xs:List V}{te:TE}{caps:L2.St}{Q:VK}{H2:Hp}(Pv:Nat→List V→Hp→Prop)(hl:SqT K H2 l xs)(hn:xs.length≤aN)(h0:Pv 0 [] H2)
  (hs:∀(i:Nat) x acc H3 H3',xs[i]? =some x→xf H2 H3→xf H3 H3'→Pv i acc H3→∀R:VK,(∀u H6',xf H3' H6'→(∀H6,xf H3 H6→(∀p o,(H3' p=none∨∀ys,o≠HO.lst ys)→H6' p=some o→H6 p=some o)→Pv (i+1) (acc++[u]) H6)→R u H6')→te (some x::caps) H3' R)
  (hd:∀D acc H H',H2 D=none→H D=none→xf H2 H→xf H H'→Pv xs.length acc H→acc.length=xs.length→H' D=some (.lst acc)→Q (.ref D) H'):zj (Itt K l) caps xgS te Q H2:=by
 unfold zj;intro D hD;refine⟨fun i m acc H3=>m=xs.length - i∧i≤xs.length∧acc.length=i∧H3 D=some (.lst acc)∧xf H2 (del H3 D)∧Pv i acc (del H3 D),⟨xs.length,by simp,bM _,rfl,xm,?_,?_⟩,?_⟩
 ·rw[zz,jX hD];exact xf.refl _
 ·rw[zz,jX hD];exact h0
 rintro i m acc H3 ⟨rfl,hi,hacc,hD3,s3,p3⟩;refine⟨hD3,?_⟩;have q:=(s3.trans uU).seqT hl
 by_cases hlt:i<xs.length
 ·have hx:xs[i]? =some xs[i]:=aK hlt;refine .inr ⟨⟨xs,xs[i],q,hx⟩,by lia,fun v H4 y=>?_⟩;obtain⟨e,y⟩:=y;have ev:=y xs q;rw[hx]at ev;cases ev;subst e;refine⟨fun _=>?_,fun z=>by cases z⟩;refine hs i _ acc _ _ hx s3 uU p3 _ fun u H6' s6 k=>⟨s6.at hD3,xs.length - (i+1),by lia,rfl,hlt,by simp[hacc],xm,?_,?_⟩
  ·rw[zz];exact s3.trans (jY s6)
  ·rw[zz];refine k _ (jY s6) fun p o q1 q2=>?_;rw[xar (fun z=>by
    rcases q1 with q1|q1
    ·rw[z,hD3]at q1;cases q1
    ·rw[z,s6.at hD3]at q2;cases q2;exact q1 _ rfl)]
   exact q2
 ·have e:i=xs.length:=by lia
  subst e;exact .inl ⟨⟨xs,q,ax _⟩,hd D acc _ H3 hD uT s3 uU p3 hacc hD3⟩
theorem xlp{K:ag}{l:Addr}{xs:List V}{tt:TT}{te:TE}{caps:L2.St}{Q:VK}{H2:Hp}(p:V→Bool)(f:V→V)(hl:SqL K H2 l xs)(hn:xs.length<aN)
  (ht:∀(x:V) (H3:Hp),x∈xs→xf H2 H3→∀R:Bool→Hp→Prop,(∀H6,xf H3 H6→R (p x) H6)→tt (some x::caps) H3 R)
  (hs:∀(x:V) (H3:Hp),x∈xs→p x=true→xf H2 H3→∀R:VK,(∀H6,xf H3 H6→R (f x) H6)→te (some x::caps) H3 R)
  (hd:∀D H',H2 D=none→xf H2 H'→H' D=some (.lst ((xs.filter p).map f))→Q (.ref D) H'):zj (Itl K l) caps tt te Q H2:=by
 unfold zj;intro D hD;refine⟨fun i m acc H3=>m=xs.length - i∧i≤xs.length∧acc=((xs.take i).filter p).map f∧H3 D=some (.lst acc)∧xf H2 H3,⟨xs.length,by simp,bM _,rfl,xm,xf.new hD⟩,?_⟩;rintro i m acc H3 ⟨rfl,hi,rfl,hD3,s3⟩;refine⟨hD3,?_⟩;have q:=s3.seq hl
 by_cases hlt:i<xs.length
 ·have hx:xs[i]? =some xs[i]:=aK hlt;have hle:(((xs.take i).filter p).map f).length<aN:=by
   rw[ao];refine dP (List.length_filter_le _ _) ?_;rw[bQ];lia
  have et:xs.take (i+1)=xs.take i++[xs[i]]:=by rw[b8,hx];rfl
  refine .inr ⟨⟨xs,xs[i],q,hx⟩,hle,fun v H4 y=>?_⟩;obtain⟨e,y⟩:=y;have ev:=y xs q;rw[hx]at ev;cases ev;subst e;refine ht _ _ (eF hlt) s3 _ fun H5 s5=>⟨fun hp=>?_,fun hp=>?_⟩
  ·refine hs _ _ (eF hlt) hp (s3.trans s5) _ fun H6 s6=>⟨s6.at (s5.at hD3),xs.length - (i+1),by lia,rfl,hlt,?_,xm,(s3.trans (s5.trans s6)).put hD⟩;rw[et,j9,bJ];simp[hp]
  ·refine⟨xs.length - (i+1),by lia,rfl,hlt,?_,s5.at hD3,s3.trans s5⟩;rw[et,j9,bJ];simp[hp]
 ·have e:i=xs.length:=by lia
  subst e;rw[cw]at hD3⊢;exact .inl ⟨⟨xs,q,ax _⟩,hd D H3 hD s3 hD3⟩
end L2
namespace L2
open PySem PySem.Spec PyProof.Rows
section
variable {X:Cx} {K:ag}
theorem xnB(e:X.K=K):IxR X (xqj K):=e▸xV
theorem xr7(e:X.K=K):IxR X (xqk K):=e▸xH
theorem xrY(e:X.K=K):SlR X (xql K):=e▸jT
theorem xsa(e:X.K=K):yN X (.builtin "isinstance") (xqs K):=e▸uS
theorem xsb(e:X.K=K)(hu:X.A.units+64<cLine):OpR X (bx .Eq) (xll K fun b=>b):=e▸xos hu
theorem xsc(e:X.K=K)(hu:X.A.units+64<cLine):OpR X (bx .NotEq) (xll K fun b=> !b):=e▸xot hu
end
end L2
namespace L2
open PySem PySem.Spec PyProof.Rows
end L2
namespace L2
open PySem PySem.Spec PyProof.Rows
theorem xmy{n d:Nat}{i:Int}(h0:0≤i):HT.sIx n d (some i)=min i.toNat n:=by
 show(if i<0 then(i+(n:Int)).toNat else min i.toNat n)=_;rw[if_neg (by lia)]
end L2
namespace L2
open PySem PySem.Spec PyProof.Rows
section
variable {X:Cx}
end
def xo2:Stmt→List Stmt
 | .For _ _ b _ _=>b
 |_=>[]
def xqz:Stmt→Expr
 | .Assign _ v _=>v
 |_=>.Constant .none 0 ⟨0,0,0,0⟩
def xqA:Stmt→Expr
 | .Return (some v) _=>v
 |_=>.Constant .none 0 ⟨0,0,0,0⟩
def vk(i:Nat):Expr→Expr
 | .Call _ as _ _=>as.getD i (.Constant .none 0 ⟨0,0,0,0⟩)
 |_=>.Constant .none 0 ⟨0,0,0,0⟩
def uv:Expr→bV
 | .Lambda a _ _ _=>a
 |_=>xY (.Pass ⟨0,0,0,0⟩)
def uw:Expr→Expr
 | .Lambda _ b _ _=>b
 |e=>e
def yg:Expr→Scope
 | .Lambda _ _ s _=>s
 |_=>xh (.Pass ⟨0,0,0,0⟩)
theorem xf3{xs:List Int}{x v:Int}(h0:0≤x)(h:xs[x.toNat]? =some v):atI (xs.map V.int) x=some (.int v):=by
 have:=xeB (xs:=xs.map V.int) (j:=x.toNat) (v:=.int v) (by rw[aD,h];rfl)
 rwa [cM h0]at this
theorem xf4{n:Nat}{x:Int}(h0:0≤x)(h:x<n):ixN n x=some x.toNat:=by
 unfold ixN;rw[if_pos h0,if_pos h]
end L2
namespace PySem
open Sem (wp)
open PyProof.Rows
namespace F
end F
section
variable {prog:ak} {w:World} {A:aE} {E:Value→aa→Prop} {s:aa}
end
end PySem
namespace L2
open PySem PySem.Spec PyProof.Rows
section
variable {X:Cx}
end
end L2
namespace L2
open PySem PySem.Spec PyProof.Rows
section
variable {X:Cx} {K:ag}
theorem xrt:OpR X (cu .RShift) (kI (fun _ j=>0≤j) fun i j=>.int (i / 2^j.toNat)):=xqf.imp fun _ _ _ _=>xdP
end
end L2
namespace L2
open PySem PySem.Spec PyProof.Rows
theorem xfl{X:Cx}{sts:List Stmt}:PSs X sts (fun _ _ _=>False):=fun _ _ _ _ _ _ q=>q.elim
end L2
namespace L2
open PySem PySem.Spec PyProof.Rows PySem.W
def xqB:Option (Int×Tok)→Array Value
 |none=>#[]
 |some (m,t)=>#[.int m t,.int m t]
def xru(f:Nat→Int)(j:Nat):Option (Int×Tok)→Prop
 |none=>j=0
 |some (m,_)=>(∃i,i<j∧f i=m)∧∀i,i<j→f i≤m
def xmz(f:Nat→Int)(n:Nat)(d v:Value):Prop:=(n=0→v=d)∧(0<n→∃m t,v= .int m t∧(∃i,i<n∧f i=m)∧∀i,i<n→f i≤m)
theorem xnC(a v:Value):argsOk "max" ⟨[a],[(br "default",v)]⟩:=by unfold argsOk;kernel_rfl
section
variable {prog:ak} {w:World} {A:aE} {R:gL→aa→Prop} {I:Addr} {fp wr:List Addr} {n:Nat} {P:Nat→Value→Prop} {St:Nat→Heap→Prop}
theorem xcX(W:Walks prog w A.in1 I fp wr n P St)(f:Nat→Int)(hP:∀i v,P i v→∃t,v= .int (f i) t)(S:Addr)(hSf:S∉fp)(d:Value):∀(k j:Nat) (s:aa) (b:Option (Int×Tok)) (c:Nat),n - j=k→j≤n→St j s.heap→
  s.heap.get? S=some {cls:=.type "list",dict:=none,data:=.seq (xqB b) c,slots:=#[]}→xru f j b→
  (∀v h' tk,xmz f n d v→(∀b o,b∉wr→b≠S→s.heap.get? b=some o→h'.get? b=some o)→R (.ok (.ret v)) {s with heap:=h',toks:=tk})→
  ck (model prog w) A (.builtin "max.loop" ⟨[.ref I,.none,.ref S],[(br "default",d)]⟩) R s
 |0,j,s,b,c,hk,hj,hst,hS,hb,hR=>by
  have hin:j=n:=by lia
  subst hin;have hSw:S∉wr:=fun h=>hSf (W.sub _ h);refine fQ F.entry_max_loop ?_;rw[iS dD _];show wpAny _ A.in1 (ie (.ref S) >>= _) _ _ s;refine af (ff hS rfl ?_);show wpAny _ A.in1 (tryCatch (pyNext (.ref I)) _ >>= _) _ _ s;refine af (iD (W.done s _ _ hst fun h' tk hk'=>?_));have hS':=hk' S _ hSw hS;cases b with
  |none=>
   cases hb;exact af (m:=rule _) (wpAny_rule (ay (hR d _ tk ⟨fun _=>rfl,fun q=>absurd q (bS _)⟩ fun b o hbw _ e=>hk' b o hbw e)))
  |some p=>
   obtain⟨m,t⟩:=p;show wpAny _ A.in1 (ic S (fun _=>#[]) >>= _) _ _ _;refine af (dS hS' rfl (af (f7 (ay ?_))) (by show(2:Nat)≤_;decide));refine hR _ _ tk ⟨fun q=>?_,fun _=>⟨m,t,rfl,hb⟩⟩ fun b o hbw hbS e=>(aO _ _ (au hbS)).trans (hk' b o hbw e);obtain⟨⟨i,hi,_⟩,_⟩:=hb;lia
 |k+1,j,s,b,c,hk,hj,hst,hS,hb,hR=>by
  have hlt:j<n:=by lia
  have hSw:S∉wr:=fun h=>hSf (W.sub _ h);have hname:(toString "max"++toString ".loop":String)="max.loop":=by decide
  refine fQ F.entry_max_loop ?_;rw[iS dD _];show wpAny _ A.in1 (ie (.ref S) >>= _) _ _ s;refine af (ff hS rfl ?_);show wpAny _ A.in1 (tryCatch (pyNext (.ref I)) _ >>= _) _ _ s;refine af (iD (W.item j s _ _ hlt hst fun v h' tk hv hst' hk'=>?_));have hS':=hk' S _ hSw hS;obtain⟨t,rfl⟩:=hP _ _ hv;have turned:∀(g:Array Value→Array Value),(∀b∈fp,∀o,h'.get? b=some o→(h'.update S (cW g)).get? b=some o):=fun g b hbf o e=>(aO _ _ (fun h:S=b=>hSf (by rw[h];exact hbf))).trans e;cases b with
  |none=>
   cases hb;show wpAny _ A.in1 (ic S (fun _=>#[.int (f 0) t,.int (f 0) t]) >>= _) _ _ _;refine af (dS hS' rfl ?_);rw[hname];refine ay ⟨eJ dD _,xcX W f hP S hSf d k 1 _ (some (f 0,t)) (c+1) (by lia) (by lia) (W.frame _ _ _ hst' (turned _)) ?_ ⟨⟨0,by lia,rfl⟩,fun i hi=>?_⟩ fun v' h'' tk'' ho hk''=>?_⟩
   ·exact(a8 _ hS' rfl).trans rfl
   ·rw[show i=0 by lia];exact cD _
   exact hR v' h'' tk'' ho fun b o hbw hbS e=>hk'' b o hbw hbS ((aO _ _ (au hbS)).trans (hk' b o hbw e))
  |some p=>
   obtain⟨m,u⟩:=p;obtain⟨⟨i0,hi0,e0⟩,hle⟩:=hb;show wpAny _ A.in1 (tryCatch (ee [.int (f j) t,.int (f j) t] (richCompare .Gt (.int (f j) t) (.int m u) >>= _)) _ >>= _) _ _ _;have hcmp:=CmpOf.ints_gt (prog:=prog) (w:=w) (A:=A.in1) (P:=fun i v=>∃t,v= .int (if i=0 then f j else m) t) (fun i=>if i=0 then f j else m) (fun i v e=>e);refine af (iD (bz (af (hcmp 0 1 _ _ _ _ _ ⟨t,rfl⟩ ⟨u,rfl⟩ ?_))));refine af (bz (cb ?_));refine af (f7 (ay ?_))
   by_cases hb:f j > m
   ·show wpAny _ _ (if decide (f j > m)=true then _ else _) _ _ _;rw[if_pos (decide_eq_true hb)];refine af (dS hS' rfl (af (f7 ?_)) (by show(2:Nat)≤_;decide));rw[hname];obtain⟨c',e'⟩:∃c',(h'.update S (cW fun _=>#[.int (f j) t,.int (f j) t])).get? S=some {cls:=.type "list",dict:=none,data:=.seq #[.int (f j) t,.int (f j) t] c',slots:=#[]}:=⟨_,a8 _ hS' rfl⟩;refine ay ⟨eJ dD _,xcX W f hP S hSf d k (j+1) _ (some (f j,t)) c' (by lia) hlt (W.frame _ _ _ hst' (turned _)) e' ⟨⟨j,by lia,rfl⟩,fun i hi=>?_⟩ fun v' h'' tk'' ho hk''=>?_⟩
    ·by_cases q:i=j
     ·subst q;exact cD _
     ·have:=hle i (by lia);lia
    ·exact hR v' h'' tk'' ho fun b o hbw hbS e=>hk'' b o hbw hbS ((aO _ _ (au hbS)).trans (hk' b o hbw e))
   ·show wpAny _ _ (if decide (f j > m)=true then _ else _) _ _ _;rw[if_neg (by rw[decide_eq_false hb];exact aJ)];refine af (f7 ?_);rw[hname];refine ay ⟨eJ dD _,xcX W f hP S hSf d k (j+1) _ (some (m,u)) c (by lia) hlt hst' hS' ⟨⟨i0,by lia,e0⟩,fun i hi=>?_⟩ fun v' h'' tk'' ho hk''=>hR v' h'' tk'' ho fun b o hbw hbS e=>hk'' b o hbw hbS (hk' b o hbw e)⟩
    by_cases q:i=j
    ·subst q;lia
    ·exact hle i (by lia)
theorem xnD{E:Value→aa→Prop}{s:aa}{l:Addr}{xs:Array (Int×Tok)}{d:Value}{Q:Value→aa→Prop}(hh:A.handled=none)(hl:s.heap.IsList l (gW xs))
  (h:∀v h' tk,xmz (numAt xs) xs.size d v→(∀b o,s.heap.get? b=some o→h'.get? b=some o)→Q v {s with heap:=h',toks:=tk}):
  wpAny (model prog w) A (call (.builtin "max") [.ref l] [(br "default",d)]) Q E s:=by
 have hname:(toString "max"++toString ".loop":String)="max.loop":=by decide
 refine kmk_tree F.kind_max F.plain_max F.entry_max (xnC _ _) ?_;show wpAny _ A.in1 (gm "max" ["key","default"] 0 ⟨[],[(br "default",d)]⟩ >>= _) _ _ s;refine af (f9 (show gm "max" ["key","default"] 0 ⟨[],[(br "default",d)]⟩=pure [none,some d]from rfl) ?_);refine af (ay (af (iter_intList hl fun s₂ e st hfp hlI=>?_)));subst e;refine af (dk ?_);rw[hname];have W:=Walks.list (prog:=prog) (w:=w) (A:=A.in1) hh s.heap.objs.size l hlI (gW xs);have hsz:(gW xs).size=xs.size:=by simp[gW]
 refine ay ⟨eJ dD _,xcX W (numAt xs) (fun i v e=>intItems_at e) _ (fun hm=>bS _ (hfp _ hm)) d _ 0 _ none 0 rfl (bM _) (W.frame _ _ _ st fun b _ o e=>ai _ e) (aL _ rfl) rfl fun v h' tk ho hk=>?_⟩;rw[hsz]at ho;exact h v h' tk ho (old_kept fun b o hbw e=>hk b o hbw (aG (aw e)) (ai _ e))
end
section
variable {X:Cx}
def xrv(K:ag)(ta:TA)(tf:TE):TE:=fun σ H Q=>ta σ H fun xs H1=>tf σ H1 fun y H2=>
 ∃(l:Addr) (ns:List Int) (z:Int),xs=[.ref l]∧y= .int z∧SqL K H2 l (ns.map V.int)∧∀m,(ns=[]→m=z)→(ns≠[]→m∈ns∧∀a∈ns,a≤m)→Q (.int m) H2
theorem xo3{e fe:Expr}{ta:TA}{tf:TE}{p pos kp:Pos}(hc:X.calm=true)(hg:Gl X "max")(hm:X.mg "max"=none)(ha:PA X [e] ta)(hf:PE X fe tf)
  (he:bC pos (aC [e] X.env)=(false,eval e X.env)::bC pos (aC [] X.env):=by rfl):
  PE X (.Call (.Name "max" p) [e] [⟨some "default",fe,kp⟩] pos) (xrv X.K ta tf):=by
 intro pins s σ H Q I h;refine bO (uQ I hg hm xfY ?_ (by decide) (by decide));refine callWith_kw (thn (ha pos pins s σ H _ I h) fun us s1 ⟨xs,H1,I1,r1,q1⟩=>?_) he (by rw[he];rfl) rfl rfl;refine kws_cons (thn (hf pins s1 σ H1 _ I1 q1) fun fu s2 ⟨y,H2,I2,r2,q2⟩=>kws_nil ?_);obtain⟨l,ns,z,rfl,rfl,hl,q⟩:=q2;obtain⟨u,rfl,ru⟩:=Vals.one r1;cases ru;obtain⟨tz,rfl⟩:=r2;obtain⟨its,r',pl,hz⟩:=I2.list hl;have hi:=intsAre_of r';have hL:=pl.isList;have hn:=hi.numsOf;obtain⟨ys,e⟩:=hi.allInts.items;rw[e]at hL;have e2:numsOf its=numsOf (gW ys).toList:=by rw[←e]
 rw[e2,nums_intItems]at hn;have hlen:=congrArg iq hn;rw[ao,dF]at hlen;show wpAny _ _ (call (.builtin "max") [.ref l] [(br "default",.int z tz)]) _ _ s2;refine xnD (I.ok.hd hc) hL fun v h' tk ho hk=>?_
 by_cases hne:ns=[]
 ·have h0:ys.size=0:=by rw[hlen,hne];rfl
  have:=ho.1 h0;subst this;exact⟨.int z,H2,I2.kept (t':=tk) hk,⟨tz,rfl⟩,q z (fun _=>rfl) fun x=>absurd hne x⟩
 ·have hpos:0<ns.length:=fU.mpr hne;obtain⟨m,t,rfl,⟨i,hi',ei⟩,hle⟩:=ho.2 (by omega);refine⟨.int m,H2,I2.kept (t':=tk) hk,⟨t,rfl⟩,q m (fun x=>absurd x hne) fun _=>⟨?_,fun a ha'=>?_⟩⟩
  ·rw[←hn,←ei,numAt_eq];exact getD_mem (by rw[ao,dF];omega)
  ·rw[←hn]at ha';obtain⟨j,hj,rfl⟩:=mem_getD ha';rw[ao,dF]at hj;rw[←numAt_eq];exact hle j hj
end
end L2
namespace L2
open PySem PySem.Spec PyProof.Rows PySem.W
structure xfm(K:ag)(x qual:Str)(st:Stmt)(f:Addr)(fd:aq)(ds:List Value):Prop where
 ex:∃(oc:Value) (od:Option Addr) (dT:Addr) (o:Obj) (n:Nat) (kV doc pm:Value) (an:Option Addr) (cdv ct:Value) (osl:Array (Option Value)),
  fd=bX x qual (xY st) (xI st) (xh st) (.ref dT) kV doc pm an cdv ct∧K.lookup f=some ⟨oc,od,.func fd,osl⟩∧cG K cdv qual=true∧K.lookup dT=some o∧o.data= .seq ds.toArray n
 kp:bW K (.ref f)=true
section
variable {P:ak} {w:World} {K:ag} {mg:Str→Option Value} {base:Heap}
theorem xfm.ok{x qual:Str}{st:Stmt}{f:Addr}{fd:aq}{ds:List Value}{N ps:List Str}{k:Nat}{sp:Sp}(F:xfm K x qual st f fd ds)(S:xr N ps (xh st))(len:∀vs H Q E,sp vs H Q E→vs.length=ps.length)
  (hbody:∀(cdv:Value) (A:aE) (outer:List Env) (s:aa) (H:Hp) (vs:List V) (Q:VK) (E:XK),xS k (A.deeper (di qual (xh st) s.heap.objs.size f cdv))→sp vs H Q E→
   ∃t,PSs (uz CX0 P w K mg base N qual (xh st) f cdv A outer s H E).nox (xI st) t∧t {nx:=fun _ H'=>Q .non H',rt:=Q} (start N vs) H):xy P w K mg base CX0 (k+1) f fd ps sp:=by
 obtain⟨oc,od,dT,o,n,kV,doc,pm,an,cdv,ct,osl,rfl,lk,hcd,_⟩:=F.ex;refine xfP lk hcd S len fun A outer s H vs Q E hr hsp=>?_;obtain⟨t,h,q⟩:=hbody cdv A outer s H vs Q E hr hsp;exact⟨t,h.nox,q⟩
theorem xfm.binds{x qual:Str}{st:Stmt}{f:Addr}{fd:aq}{ps:List Str}{ds es:List Value}(F:xfm K x qual st f fd ds)(n:Nat)(hn:n+es.length=ps.length)
  (h:∀(dT:Addr) (kV doc pm:Value) (an:Option Addr) (cdv ct:Value) (us:List Value),us.length=n→
   ∃k:Option (Array Value)→Sem (List (Str×Value)),dX (bX x qual (xY st) (xI st) (xh st) (.ref dT) kV doc pm an cdv ct) ⟨us,[]⟩=ie (.ref dT) >>= k∧k (some ds.toArray)=pure (ps.zip (us++es))):Binds K fd ps es:=by
 obtain⟨oc,od,dT,o,n,kV,doc,pm,an,cdv,ct,osl,rfl,lk,hcd,ho,hs⟩:=F.ex;intro s us X hl;obtain⟨k,h1,h2⟩:=h dT kV doc pm an cdv ct us (by rw[aW]at hl;lia);exact binds_K X rfl ho hs h1 h2
theorem xkw{x qual:Str}{st:Stmt}{f dT:Addr}{oc:Value}{od an dod:Option Addr}{osl dsl:Array (Option Value)}{kV doc pm cdv ct dc:Value}{ds:List Value}{n:Nat}(l:K.lookup f=some ⟨oc,od,.func (bX x qual (xY st) (xI st) (xh st) (.ref dT) kV doc pm an cdv ct),osl⟩)
  (c:cG K cdv qual=true) (k:bW K (.ref f)=true) (d:K.lookup dT=some ⟨dc,dod,.seq ds.toArray n,dsl⟩):xfm K x qual st f (bX x qual (xY st) (xI st) (xh st) (.ref dT) kV doc pm an cdv ct) ds:=
 ⟨⟨oc,od,dT,_,n,kV,doc,pm,an,cdv,ct,osl,rfl,l,c,d,rfl⟩,k⟩
end
end L2
namespace L2
open PySem PySem.Spec PyProof.Rows
def Nu(X:Cx)(H:Hp)(b:Addr):Prop:=H b=none∧X.s₀.heap.get? b=none∧∀p∈X.pn,p.1≠b
def xrZ(X:Cx)(H:Hp)(h:Heap)(a:Addr)(cls:Value)(dx:Option Addr):Prop:=
 ∃oe vs a0,h.get? a=some oe∧oe.cls=cls∧oe.dict=dx∧oe.data= .fields vs∧vs[0]? =some a0∧vs[1]? =some .none∧Nu X H a
def xbg(X:Cx)(fl:Value)(H:Hp)(h:Heap)(a:Addr)(cls:Value)(dx:Option Addr):Prop:=
 ∃oe vs a0 T oT ts,h.get? a=some oe∧oe.cls=cls∧oe.dict=dx∧oe.data= .fields vs∧vs[0]? =some a0∧vs[1]? =some (.ref T)∧T≠a∧h.get? T=some oT∧oT.data= .fields ts∧ts[3]? =some fl∧Nu X H a∧Nu X H T
def Fly(X:Cx)(H:Hp)(h:Heap)(a:Addr)(cls:Value)(dx:Option Addr):Prop:=
 xrZ X H h a cls dx∨xbg X .none H h a cls dx∨xbg X (bj X.env.locals) H h a cls dx
structure Own(X:Cx):Prop where
 ex:X.ex=[]
 st:X.stack=X.env::X.outer
 fr:X.env.frame=some X.env.locals
abbrev EEs:=St→XK
def XE(X:Cx)(EE:EEs):Value→aa→Prop:=fun e s'=>
 ∃a cls dx σ H,e= .ref a∧Inv X [] σ H s'∧Fly X H s'.heap a cls dx∧EE σ cls dx H
section
variable {X:Cx} {pins:List (Addr×Obj)} {σ:St} {H:Hp} {s:aa}
theorem Inv.nopins(I:Inv X pins σ H s):Inv X [] σ H s:=I.pins_of fun p hp=>nomatch hp
theorem Own.mem(o:Own X){b:Addr}:b∈frs X.stack↔b=X.env.locals∨b∈X.fs:=by
 rw[o.st];unfold frs;rw[eP,o.fr];exact av
theorem Inv.flown{h':Heap}(o:Own X)(I:Inv X [] σ H s)(ch:Addr→Prop)
  (keep:∀b u,¬ch b→b∉frs X.stack→s.heap.get? b=some u→h'.get? b=some u)
  (slot:∀b u,¬ch b→b∈frs X.stack→s.heap.get? b=some u→∃sl,h'.get? b=some {u with slots:=sl})
  (new:∀b,ch b→Nu X H b∧∀u,s.heap.get? b=some u→∃vs,u.data= .fields vs):Inv X [] σ H {s with heap:=h'}:=by
 have any:∀b u,¬ch b→s.heap.get? b=some u→∃sl,h'.get? b=some {u with slots:=sl}:=fun b u n e=>by
  by_cases hb:b∈frs X.stack
  ·exact slot b u n hb e
  ·exact⟨u.slots,keep b u n hb e⟩
 have old:∀b u,X.s₀.heap.get? b=some u→¬ch b:=fun b u e z=>by
  have:=(new b z).1.2.1;rw[e]at this;cases this
 have neL:∀b u,X.s₀.heap.get? b=some u→b≠X.env.locals:=fun b u e=>aG (aF (aw e) I.ok.above);have cel:∀c v,s.heap.IsCell c v→h'.IsCell c v:=fun c v ⟨u,e,d⟩=>by
  obtain⟨sl,q⟩:=any c u (fun z=>by
   obtain⟨vs,w⟩:=(new c z).2 u e;rw[d]at w;cases w) e
  exact⟨_,q,d⟩
 refine⟨I.ok,I.os,I.bare,⟨fun b u e n hb hx=>?_,fun b u e n hb hx=>?_,I.base.free,fun b u e hx=>?_,I.base.fix⟩,?_,fun x c e=>?_,I.free,I.freeC,fun p hp=>?_,fun b u e=>?_,I.len⟩
 ·exact keep b u (old b u e) (fun z=>(o.mem.mp z).elim (neL b u e) hb) (I.base.keep b u e n hb hx)
 ·obtain⟨sl,e1⟩:=I.base.slot b u e n hb hx;obtain⟨sl',e2⟩:=slot b _ (old b u e) (o.mem.mpr (.inr hb)) e1;exact⟨sl',e2⟩
 ·by_cases hb:b∈X.fs
  ·obtain⟨o',e1⟩:=I.base.there b u e hx;obtain⟨sl,e2⟩:=any b _ (old b u e) e1;exact⟨_,e2⟩
  ·obtain⟨o',e1⟩:=I.base.there b u e hx;obtain⟨sl,e2⟩:=any b _ (old b u e) e1;exact⟨_,e2⟩
 ·obtain⟨m,⟨u,es,ep,e,d⟩,l⟩:=I.loc;obtain⟨sl,q⟩:=any _ u (fun z=>by
   obtain⟨vs,w⟩:=(new _ z).2 u e;rw[d.1]at w;cases w) e
  refine⟨m,⟨_,es,ep,q,d⟩,fun i x v e1 e2 e3=>?_⟩;obtain⟨y,r,z⟩:=l i x v e1 e2 e3;exact⟨y,r,z.imp id fun⟨k,c,e,z⟩=>⟨k,c,e,cel c _ z⟩⟩
 ·obtain⟨v,z⟩:=I.cell x c e;exact⟨v,cel c v z⟩
 ·obtain⟨e,n,ne,nf,d⟩:=I.pin p hp;have hp':p∈X.pn:=by simpa using hp
  exact⟨keep p.1 p.2 (fun z=>(new _ z).1.2.2 p hp' rfl) (fun z=>(o.mem.mp z).elim ne nf) e,n,ne,nf,d⟩
 ·refine(I.hok b u e).stay (fun c v hc q=>?_) (fun _ q=>q) fun _ _ q _=>q;have tr:∃u,H c=some u:=by
   rcases hc with rfl|hc
   ·exact⟨u,e⟩
   ·exact⟨_,hc⟩
  obtain⟨u',tr⟩:=tr;refine keep c v (fun z=>?_) (fun z=>?_) q
  ·rw[(new c z).1.1]at tr;cases tr
  ·rw[I.stkFree c z]at tr;cases tr
theorem xf5{M:Model}{A':aE}{E:Value→aa→Prop}{Q:Unit→aa→Prop}{a:Addr}{oe:Obj}{vs:Array Value}{a0 head:Value}{had:Bool}(o:Own X)(hfr:A'.frames=some X.stack)(I:Inv X [] σ H s)
  (he:s.heap.get? a=some oe) (hd:oe.data= .fields vs) (h0:vs[0]? =some a0) (h1:1<vs.size) (hn:Nu X H a)
  (h:∀s',Inv X [] σ H s'→xbg X (bj X.env.locals) H s'.heap a oe.cls oe.dict→Q () s'):
  wpAny M A' (do let f ←frameOf X.env;let pl ←entryPlaceOf X.env.locals had;let b ←eQ head f .none (bj X.env.locals) .none pl;setField (.ref a) 1 b) Q E s:=by
 have hfs:s.heap.FunFrames X.base (X.env::X.outer):=by have:=I.stack;rwa [o.st]at this
 have hmem:∀b,b∈(X.env::X.outer).filterMap (·.frame)↔b∈frs X.stack:=fun b=>by rw[o.st];rfl
 have hna:a∉frs X.stack:=fun z=>by
  obtain⟨_,u,hu,hnf⟩:=hfs.mem ((hmem a).mpr z);rw[he]at hu;injection hu with hu;subst hu;exact hnf vs hd
 refine af (wpAny_frameOf_fun (by rw[hfr,o.st]) hfs o.fr fun g1 so=>?_);refine af (wpAny_entryPlaceOf fun pl hpl=>?_);unfold eQ newFields;refine af (dk ?_ (hpl.sizeOk5 _ _ _ _ _));have g1a:g1.get? a=some oe:=(so.2.1 a fun z=>hna ((hmem a).mp z)).trans he;generalize hT:({cls:=.type "traceback",dict:=none,data:=.fields ([head,.ref X.env.locals,.none,bj X.env.locals,.none]++(if pl.isEmpty then aQ 6 aU else pl)).toArray}:Obj)=ot;have g2a:=ai (h:=g1) ot g1a;refine cz g2a hd h1 ?_;have neT:g1.objs.size≠a:=eg (aw g1a);have d3:=cZ hd (·.setIfInBounds 1 (aB g1.objs.size));have a3:=a8 (bg (·.setIfInBounds 1 (aB g1.objs.size))) g2a (c9 d3);have t3:((g1.push ot).update a (bg (·.setIfInBounds 1 (aB g1.objs.size)))).get? g1.objs.size=some ot:=(aO _ _ (au neT)).trans (aL g1 (by rw[←hT];rfl));have kp:∀b u,b≠a→g1.get? b=some u→((g1.push ot).update a (bg (·.setIfInBounds 1 (aB g1.objs.size)))).get? b=some u:=fun b u nb e=>
  (aO _ _ (au nb)).trans (ai _ e)
 have old:∀b u,s.heap.get? b=some u→b≠g1.objs.size:=fun b u e=>aG (by rw[so.1];exact aw e);have nT:Nu X H g1.objs.size:=by
  refine⟨I.hok.fresh (by rw[so.1];exact ax _),?_,fun p hp z=>old p.1 p.2 (I.pin p (by simpa using hp)).1 z⟩;exact dq (by rw[so.1];exact I.sz)
 have J:Inv X [] σ H {s with heap:=(g1.push ot).update a (bg (·.setIfInBounds 1 (aB g1.objs.size)))}:=by
  refine I.flown o (fun b=>b=a) (fun b u n nf e=>kp b u n ((so.2.1 b fun z=>nf ((hmem b).mp z)).trans e)) (fun b u n _ e=>?_) (fun b z=>?_)
  ·obtain⟨sl,e1⟩:=so.2.2 b u e;exact⟨sl,kp b _ n e1⟩
  ·subst z;exact⟨hn,fun u e=>⟨vs,by rw[he]at e;cases e;exact hd⟩⟩
 refine h _ J ?_
 ·refine⟨_,_,a0,g1.objs.size,ot,_,a3,gz _ _,?_,d3,by rw[dI (by decide)];exact h0,by simp[h1],neT,t3,by rw[←hT],by simp,hn,nT⟩;obtain⟨c,d,dt,sl⟩:=oe;cases dt<;> rfl
theorem xeG{M:Model}{A':aE}{E:Value→aa→Prop}{Q:Unit→aa→Prop}{a:Addr}{cls:Value}{dx:Option Addr}(o:Own X)(hfr:A'.frames=some X.stack)(I:Inv X [] σ H s)(F:Fly X H s.heap a cls dx)
  (h:∀s',Inv X [] σ H s'→xbg X (bj X.env.locals) H s'.heap a cls dx→Q () s'):wpAny M A' (gj (.ref a) X.env) Q E s:=by
 unfold gj;simp only[o.fr];rcases F with⟨oe,vs,a0,he,rfl,rfl,hd,h0,h1,hn⟩|⟨oe,vs,a0,T,oT,ts,he,rfl,rfl,hd,h0,h1,nT,hT,hdT,h3,hn,hnT⟩|F
 ·refine af (bu he hd h1 ?_);rw[if_neg (by decide)];exact xf5 o hfr I he hd h0 (bE.mp h1).1 hn h
 ·refine af (bu he hd h1 ?_);rw[if_pos (by simp:(aB T != aU)=true)];refine af (bu hT hdT h3 ?_);rw[if_neg (by simp[bj]:¬((aU==bj X.env.locals)=true))];refine af (cz hT hdT (bE.mp h3).1 ?_);have ot:∀b,b≠T→(s.heap.update T (bg (·.setIfInBounds 3 aU))).get? b=s.heap.get? b:=fun b nb=>aO _ _ (au nb);have I':Inv X [] σ H {s with heap:=s.heap.update T (bg (·.setIfInBounds 3 aU))}:=by
   refine I.flown o (fun b=>b=T) (fun b u n _ e=>(ot b n).trans e) (fun b u n _ e=>⟨u.slots,(ot b n).trans e⟩) (fun b z=>?_);subst z;exact⟨hnT,fun u e=>⟨ts,by rw[hT]at e;cases e;exact hdT⟩⟩
  exact xf5 o hfr I' ((ot a (au nT)).trans he) hd h0 (bE.mp h1).1 hn h
 ·obtain⟨oe,vs,a0,T,oT,ts,he,hc,hx,hd,h0,h1,nT,hT,hdT,h3,hn,hnT⟩:=id F;refine af (bu he hd h1 ?_);rw[if_pos (by simp:(aB T != aU)=true)];refine af (bu hT hdT h3 ?_);rw[if_pos (by simp:(bj X.env.locals==bj X.env.locals)=true)];exact ay (h s I F)
theorem jg{M:Model}{A':aE}{E:Value→aa→Prop}{Q:Unit→aa→Prop}{a:Addr}{cls fl:Value}{dx:Option Addr}{to:Option Addr}(o:Own X)(I:Inv X [] σ H s)(F:xbg X fl H s.heap a cls dx)
  (h:∀s',Inv X [] σ H s'→xbg X (to.elim .none fun f=>bj f) H s'.heap a cls dx→Q () s'):wpAny M A' (ig (.ref a) to) Q E s:=by
 obtain⟨oe,vs,a0,T,oT,ts,he,rfl,rfl,hd,h0,h1,nT,hT,hdT,h3,hn,hnT⟩:=F;unfold ig;refine af (bu he hd h1 ?_);rw[if_pos (by simp:(aB T != aU)=true)];have z3:=(bE.mp h3).1;have ot:∀b,b≠T→(s.heap.update T (bg (·.setIfInBounds 3 (to.elim aU fun f=>bj f)))).get? b=s.heap.get? b:=fun b nb=>aO _ _ (au nb);have d3:=cZ hdT (·.setIfInBounds 3 (to.elim aU fun f=>bj f));refine cz hT hdT z3 (h _ (I.flown o (fun b=>b=T) (fun b u n _ e=>(ot b n).trans e) (fun b u n _ e=>⟨u.slots,(ot b n).trans e⟩) fun b z=>?_) ?_)
 ·subst z;exact⟨hnT,fun u e=>⟨ts,by rw[hT]at e;cases e;exact hdT⟩⟩
 ·exact⟨oe,vs,a0,T,_,_,(ot a (au nT)).trans he,rfl,rfl,hd,h0,h1,nT,a8 _ hT (c9 d3),d3,by simp[z3],hn,hnT⟩
theorem xf6{M:Model}{A':aE}{E:Value→aa→Prop}{Q:Unit→aa→Prop}{a:Addr}{cls:Value}{dx:Option Addr}(o:Own X)(hfr:A'.frames=some X.stack)(I:Inv X [] σ H s)(F:Fly X H s.heap a cls dx)
  (h:∀s',Inv X [] σ H s'→xbg X .none H s'.heap a cls dx→Q () s'):wpAny M A' (iz X.env (.ref a)) Q E s:=by
 unfold iz;exact af (xeG o hfr I F fun s1 I1 F1=>jg (to:=none) o I1 F1 h)
end
def CXE(P:ak)(w:World):CXT:=fun outer H s E e s'=>∃a cls dx H' oe vs a0 T oT ts,e= .ref a∧s'.os=s.os∧eN s'.gens∧Un (frs outer) [] H H' s.heap s'.heap∧HOk P w H' s'.heap∧
 s'.heap.get? a=some oe∧oe.cls=cls∧oe.dict=dx∧oe.data= .fields vs∧vs[0]? =some a0∧vs[1]? =some (.ref T)∧T≠a∧s'.heap.get? T=some oT∧oT.data= .fields ts∧ts[3]? =some .none∧
 H' a=none∧s.heap.get? a=none∧H' T=none∧s.heap.get? T=none∧E cls dx H'
theorem xfn{CX:CXT}{P:ak}{w:World}{K:ag}{mg:Str→Option Value}{base:Heap}{N:List Str}{qual:Str}{sc:Scope}{f:Addr}{cd:Value}{A:aE}{outer:List Env}{s:aa}{H:Hp}{E:XK}:
  Own (uz CX P w K mg base N qual sc f cd A outer s H E):=⟨rfl,rfl,rfl⟩
theorem PSs.wished{X:Cx}{E:Value→aa→Prop}{st:List Stmt}{t:TS}(h:PSs (X.wish E) st t)(hE:∀e s,E e s→X.xe e s):PSs X st t:=fun pins s σ H D I hw=>
 aI (h pins s σ H D (I.wish _) hw) (fun _ _ q=>q.unwish) hE
abbrev cxX(P:ak)(w:World)(K:ag)(mg:Str→Option Value)(base:Heap)(N:List Str)(qual:Str)(sc:Scope)(f:Addr)(cd:Value)(A:aE)(outer:List Env)(s:aa)(H:Hp)(E:XK):Cx:=
 (uz (CXE P w) P w K mg base N qual sc f cd A outer s H E).wish (XE (uz (CXE P w) P w K mg base N qual sc f cd A outer s H E) fun _=>E)
section
variable {P:ak} {w:World} {K:ag} {mg:Str→Option Value} {base:Heap}
theorem Fun.okX{x qual:Str}{st:Stmt}{f:Addr}{fd:aq}{N ps:List Str}{k:Nat}{sp:Sp}(F:Fun K x qual st f fd)(S:xr N ps (xh st))(len:∀vs H Q E,sp vs H Q E→vs.length=ps.length)
  (hbody:∀(cdv:Value) (A:aE) (outer:List Env) (s:aa) (H:Hp) (vs:List V) (Q:VK) (E:XK),xS k (A.deeper (di qual (xh st) s.heap.objs.size f cdv))→sp vs H Q E→
   ∃t,PSs (cxX P w K mg base N qual (xh st) f cdv A outer s H E) (xI st) t∧t {nx:=fun _ H'=>Q .non H',rt:=Q} (start N vs) H):xy P w K mg base (CXE P w) (k+1) f fd ps sp:=by
 obtain⟨oc,od,kV,doc,pm,an,cdv,ct,osl,rfl,lk,hcd⟩:=F.ex;refine xfP lk hcd S len fun A outer s H vs Q E hr hsp=>?_;obtain⟨t,h,q⟩:=hbody cdv A outer s H vs Q E hr hsp;refine⟨t,h.wished fun e s' ⟨a,cls,dx,σ,H',he,I,Fl,z⟩=>?_,q⟩;subst he;refine xf6 xfn I.ok.frames I Fl fun s2 I2 F2=>?_;obtain⟨oe,vs,a0,T,oT,ts,he,hc,hx,hd,h0,h1,nT,hT,hdT,h3,hn,hnT⟩:=F2;exact⟨a,cls,dx,H',oe,vs,a0,T,oT,ts,rfl,I2.os,I2.bare,I2.base,I2.hok,he,hc,hx,hd,h0,h1,nT,hT,hdT,h3,hn.1,hn.2.1,hnT.1,hnT.2.1,z⟩
end
section
variable {X:Cx} {EE:EEs}
theorem xlq{pins:List (Addr×Obj)}{σ:St}{H:Hp}{s s':aa}{e:Value}(o:Own X)(I:Inv (X.wish (XE X EE)) pins σ H s)(h:CXE X.prog X.w X.stack H s (EE σ) e s'):XE X EE e s':=by
 obtain⟨a,cls,dx,H',oe,vs,a0,T,oT,ts,rfl,os,bare,un,hok,he,hc,hx,hd,h0,h1,nT,hT,hdT,h3,n1,n2,n3,n4,q⟩:=h;have I0:Inv X pins σ H s:=I.unwish;have I1:Inv X pins σ H' s':=I0.call' os un hok bare fun b z=>absurd z (by simp);have nu:∀b,H' b=none→s.heap.get? b=none→Nu X H' b:=fun b m1 m2=>by
  refine⟨m1,?_,fun p hp z=>?_⟩
  ·cases q:X.s₀.heap.get? b with
   |none=>rfl
   |some u=>
    obtain⟨u',e⟩:=I0.base.there b u q (by rw[o.ex];simp);rw[m2]at e;cases e
  ·have:=(I0.pin p (aX _ hp)).1;rw[z,m2]at this;cases this
 exact⟨a,cls,dx,σ,H',rfl,I1.nopins,.inr (.inl ⟨oe,vs,a0,T,oT,ts,he,hc,hx,hd,h0,h1,nT,hT,hdT,h3,nu a n1 n2,nu T n3 n4⟩),q⟩
variable {k:Nat} {f C:Addr} {fd:aq} {ps:List Str} {sp:Sp} {dvs:List V} {ds:List Value} {x m:Str} {p pos apos:Pos} {e ob:Expr} {es:List Expr} {ta:TE} {t:TA}
theorem xkx{pins:List (Addr×Obj)}{σ:St}{H:Hp}{s:aa}{Q:VK}{us:List Value}{vs:List V}(o:Own X)(F:xy X.prog X.w X.K X.mg X.base (CXE X.prog X.w) k f fd ps sp)(hr:xS k X.A)(hb:Binds X.K fd ps ds)(hd:Vals dvs ds)
  (I:Inv (X.wish (XE X EE)) pins σ H s) (r:Vals vs us) (h:sp (vs++dvs) H Q (EE σ)):wpAny (model X.prog X.w) X.A (call (.ref f) us) (EP (X.wish (XE X EE)) pins σ Q) (XE X EE) s:=by
 have r2:Vals (vs++dvs) (us++ds):=r.append hd;have hl:(us++ds).length=ps.length:=r2.length.symm.trans (F.len _ _ _ _ h);refine cV (bU (F.run X.A X.stack s H ⟨us,[]⟩ (us++ds) (vs++dvs) Q (EE σ) hr I.unwish.env0 (hb s us I.unwish.kIn hl) r2 h) fun z s' hq=>?_)
 match z,hq with
 | .error e,hq=>exact xlq o I hq
 | .ok (.ret u),hq=>exact I.after hq
 | .ok .next,hq=>exact hq.elim
 | .ok .brk,hq=>exact hq.elim
 | .ok .cont,hq=>exact hq.elim
def xqC(sp:Sp)(dvs:List V)(EE:EEs)(t:TA):TE:=fun σ H Q=>t σ H fun vs H1=>sp (vs++dvs) H1 Q (EE σ)
end
end L2
namespace L2
open PySem PySem.Spec PyProof.Rows
def xbh:List Value:=[.type "ValueError",.type "Exception",.type "BaseException",.type "object"]
def xcY(K:ag)(C:Addr):Prop:=gK K C xbh "ValueError.__new__"=true
theorem xcY.obj{K:ag}{C:Addr}{h:Heap}(q:xcY K C)(X:K.In h):∃bm N nm qn bs hdct sn sub ab col dd k0 k1 k2 k3 k5,
  h.get? C=some (d7 nm qn C N bs bm hdct sn sub ab col dd k0 k1 k2 k3 k5 "ValueError.__new__")∧h.Ns N (h.nsMap N)∧h.nsMap N "__init__"=none∧OwnTail h xbh bm:=by
 unfold xcY gK at q
 split at q
 ·rename_i dd cd sl ho
  split at q
  ·rename_i C' bm k0 k1 k2 k3 n k5 hm hs;simp only[fz,beq_iff_eq,gA]at q;obtain⟨⟨⟨⟨⟨rfl,rfl⟩,hdel⟩,ht⟩,hok⟩,hni⟩:=q;obtain⟨nm,bs,mro,ns,qn,hd,sn,sub,ab,col,del⟩:=cd;obtain⟨l⟩:=sl;dsimp only at hm hdel hok hni hs;subst hm hdel hs;exact⟨bm,ns,nm,qn,bs,hd,sn,sub,ab,col,dd,k0,k1,k2,k3,k5,X _ _ ho,.of_isNs (W.isNs_of_in X hok),W.nsMap_none_of_in X hok hni,W.tail_of_in X ht⟩
  ·cases q
 ·cases q
theorem xX.here{P:ak}{w:World}{H:Hp}{h:Heap}{a:Addr}{o:HO}(x:xX P w H h a o):∃u,h.get? a=some u:=by
 cases o with
 |lst xs=>obtain⟨_,_,_,_,e⟩:=x;exact⟨_,e⟩
 |tup xs=>obtain⟨_,_,_,u,e,_⟩:=x;exact⟨_,e⟩
 |dK kvs=>obtain⟨_,_,_,_,o,_,_,e,_⟩:=x;exact⟨_,e⟩
 |dT kvs=>obtain⟨_,_,_,_,o,_,_,e,_⟩:=x;exact⟨_,e⟩
 |set S n=>obtain⟨o,_,_,_,e,_⟩:=x;exact⟨_,e⟩
 |ins C dx fs=>obtain⟨_,_,_,e,_⟩:=x;exact⟨_,e⟩
 |own y=>exact x
 |xd fs=>obtain⟨_,⟨_,_,_,e,_⟩,_⟩:=x;exact⟨_,e⟩
 |rng lo hi=>obtain⟨_,_,_,e⟩:=x;exact⟨_,e⟩
 |frz ob u=>obtain⟨e,_⟩:=x;exact⟨_,e⟩
 |tbl qs=>obtain⟨_,e,_⟩:=x;exact⟨_,e⟩
 |cel v=>obtain⟨_,⟨_,e,_⟩,_⟩:=x;exact⟨_,e⟩
 |met f y=>exact⟨_,x⟩
 |ext φ=>exact x.2.1
section
variable {X:Cx} {EE:EEs}
theorem xlr{pins:List (Addr×Obj)}{σ:St}{H:Hp}{s:aa}(o:Own X)(I:Inv X pins σ H s){b:Addr}(m:s.heap.get? b=none):Nu X H b:=by
 refine⟨?_,?_,fun p hp z=>?_⟩
 ·cases q:H b with
  |none=>rfl
  |some u=>
   obtain⟨v,e⟩:=(I.hok b u q).here;rw[m]at e;cases e
 ·cases q:X.s₀.heap.get? b with
  |none=>rfl
  |some u=>
   obtain⟨u',e⟩:=I.base.there b u q (by rw[o.ex];simp);rw[m]at e;cases e
 ·have:=(I.pin p (aX _ hp)).1;rw[z,m]at this;cases this
def xqD(C:Addr)(EE:EEs)(t:TA):TS:=fun _ σ H=>t σ H fun vs H1=>vs.length≤aN∧EE σ (.ref C) none H1
theorem jZ{C:Addr}{x:Str}{np cpos pos:Pos}{e:Expr}{es:List Expr}{t:TA}(o:Own X)(hc:X.calm=true)(q:xcY X.K C)(hg:Gl X x)(hm:X.mg x=some (.ref C))(ha:PA (X.wish (XE X EE)) (e::es) t)
  (hdb:(x==("__debug__":Str))=false:=by decide) (he:aC (e::es) X.env=(false,eval e X.env)::aC es X.env:=by rfl) (hpl:(bC cpos (aC (e::es) X.env)).any (·.1)=false:=by rfl):
  PS (X.wish (XE X EE)) (.Raise (some (.Call (.Name x np) (e::es) [] cpos)) none pos) (xqD C EE t):=by
 intro pins s σ H D I h;obtain⟨bm,N,nm,qn,bs,hdct,sn,sub,ab,col,dd,k0,k1,k2,k3,k5,hC,hN,hni,TL⟩:=q.obj I.ok.mod.kin;refine wpAny_Raise_call_subT (C:=C) (N:=N) (bm:=bm) (nm:=nm) (q:=qn) (bs:=bs) (hdct:=hdct) (sn:=sn) (sub:=sub) (ab:=ab) (col:=col) (dd:=dd) (k0:=k0) (k1:=k1) (k2:=k2) (k3:=k3) (k5:=k5) PySem.F.excBase_ValueError (TL.hasType PySem.F.excBase_ValueError.hasBase) (I.ok.hd hc) hpl hni (zw I hg hm ⟨rfl,?_⟩ hdb);have ha':=ha cpos pins s σ H _ I h;rw[he]at ha';show wpAny (model X.prog X.w) X.A (iT (.ref C) true (bC cpos (aC (e::es) X.env)) []) _ _ s;rw[he];refine PySem.evalArgs_kw (keywords:=[]) rfl ?_;refine thn ha' fun us s1 ⟨vs,H1,I1,r,z,y⟩=>?_;refine ay ?_;refine⟨rfl,by rw[←r.length];exact z,I1.bk _ _ hC,hN.keeps I1.bk,TL.keeps I1.bk,fun h' a mk=>?_⟩;obtain⟨t0,ea,_,_⟩:=mk.there;have I2:Inv X pins σ H1 {s1 with heap:=h'}:=I1.unwish.kept (t':=s1.toks) mk.keeps;exact⟨a,.ref C,none,σ,H1,rfl,I2.nopins,.inl ⟨_,_,.ref t0,ea,rfl,rfl,rfl,rfl,rfl,xlr o I1.unwish mk.new⟩,y⟩
abbrev Cx.pnd(X:Cx)(ps:List (Addr×Obj)):Cx:={X with pn:=X.pn++ps}
abbrev Cx.held(X:Cx)(a:Addr)(ps:List (Addr×Obj)):Cx:={X with A:=X.A.mark (some (.ref a)),calm:=false,xe:=fun _ _=>False,pn:=X.pn++ps}
theorem Cx.Ok.pnd{ps:List (Addr×Obj)}(ok:X.Ok):(X.pnd ps).Ok:=
 ⟨ok.mod,ok.kind,ok.glob,ok.blt,ok.above,ok.inj,ok.has,ok.cab,ok.hd,ok.frames,ok.stk,ok.exf,ok.bs,ok.bsz,ok.noex,ok.exfs,ok.funs,ok.frf,ok.cab2,ok.hz⟩
theorem Cx.Ok.held{a:Addr}{ps:List (Addr×Obj)}(ok:X.Ok):(X.held a ps).Ok:=
 ⟨ok.mod,ok.kind,ok.glob,ok.blt,ok.above,ok.inj,ok.has,ok.cab,(fun z=>by cases z),ok.frames,ok.stk,ok.exf,ok.bs,ok.bsz,ok.noex,ok.exfs,ok.funs,ok.frf,ok.cab2,ok.hz⟩
theorem Own.pnd{ps:List (Addr×Obj)}(o:Own X):Own (X.pnd ps):=⟨o.ex,o.st,o.fr⟩
section
variable {pins ps:List (Addr×Obj)} {σ:St} {H:Hp} {s:aa}
theorem Inv.pnd(I:Inv X pins σ H s):Inv (X.pnd pins) [] σ H s:=
 ⟨I.ok.pnd,I.os,I.bare,I.base,I.loc,I.cell,I.free,I.freeC,fun p hp=>I.pin p (by simpa using hp),I.hok,I.len⟩
theorem Inv.unpnd{qs:List (Addr×Obj)}(ok:X.Ok)(I:Inv (X.pnd pins) qs σ H s):Inv X pins σ H s:=
 ⟨ok,I.os,I.bare,I.base,I.loc,I.cell,I.free,I.freeC,fun p hp=>I.pin p (aX _ hp),I.hok,I.len⟩
theorem SP.unpnd{qs:List (Addr×Obj)}(ok:X.Ok){D:Ends}{f:Flow}{s':aa}(h:SP (X.pnd pins) qs D f s'):SP X pins D f s':=by
 cases f with
 |next=>obtain⟨σ',H',I,q⟩:=h;exact⟨σ',H',I.unpnd ok,q⟩
 |brk=>obtain⟨σ',H',I,q⟩:=h;exact⟨σ',H',I.unpnd ok,q⟩
 |cont=>obtain⟨σ',H',I,q⟩:=h;exact⟨σ',H',I.unpnd ok,q⟩
 |ret u=>obtain⟨v,σ',H',I,r,q⟩:=h;exact⟨v,σ',H',I.unpnd ok,r,q⟩
theorem Inv.held{a:Addr}{oe:Obj}(I:Inv (X.pnd pins) [] σ H s)(ok:X.Ok)(he:s.heap.get? a=some oe)(hn:H a=none){vs:Array Value}(hd:oe.data= .fields vs):Inv (X.held a (pins++[(a,oe)])) [] σ H s:=by
 refine⟨ok.held,I.os,I.bare,I.base,I.loc,I.cell,I.free,I.freeC,fun p hp=>?_,I.hok,I.len⟩;have hp':p∈X.pn++pins∨p=(a,oe):=by
  have:p∈(X.pn++(pins++[(a,oe)]))++[]:=hp;rw[cE,←d8]at this;rcases a7.mp this with z|z
  ·exact .inl z
  ·exact .inr (aj.mp z)
 rcases hp' with hp'|rfl
 ·exact I.pin p (aX _ hp')
 ·refine⟨he,hn,fun z=>?_,fun z=>?_,fun v z=>?_⟩
  ·obtain⟨m,⟨u,es,ep,e,d⟩,_⟩:=I.loc;have z':a=X.env.locals:=z;rw[z']at he;rw[show s.heap.get? X.env.locals=some u from e]at he;cases he;rw[d.1]at hd;cases hd
  ·obtain⟨_,u,hu,hnf⟩:=I.funs.mem z;have hu':s.heap.get? a=some u:=hu;rw[he]at hu';cases hu';exact hnf vs hd
  ·have z':oe.data= .cell v:=z;rw[hd]at z';cases z'
theorem Inv.unheld{a:Addr}{oe:Obj}{qs:List (Addr×Obj)}(ok:X.Ok)(I:Inv (X.held a (pins++[(a,oe)])) qs σ H s):Inv X pins σ H s:=
 ⟨ok,I.os,I.bare,I.base,I.loc,I.cell,I.free,I.freeC,fun p hp=>I.pin p (by
  show p∈(X.pn++(pins++[(a,oe)]))++qs;rcases a7.mp hp with z|z
  ·exact aX _ (aX _ z)
  ·exact aX _ (aR _ (aX _ z))),I.hok,I.len⟩
theorem SP.unheld{a:Addr}{oe:Obj}{qs:List (Addr×Obj)}(ok:X.Ok){D:Ends}{f:Flow}{s':aa}(h:SP (X.held a (pins++[(a,oe)])) qs D f s'):SP X pins D f s':=by
 cases f with
 |next=>obtain⟨σ',H',I,q⟩:=h;exact⟨σ',H',I.unheld ok,q⟩
 |brk=>obtain⟨σ',H',I,q⟩:=h;exact⟨σ',H',I.unheld ok,q⟩
 |cont=>obtain⟨σ',H',I,q⟩:=h;exact⟨σ',H',I.unheld ok,q⟩
 |ret u=>obtain⟨v,σ',H',I,r,q⟩:=h;exact⟨v,σ',H',I.unheld ok,r,q⟩
end
structure xcc(K:ag)(C':Addr):Prop where
 base:fX K C' (.type "BaseException")=some true
theorem xaV{M:Model}{A':aE}{E:Value→aa→Prop}{K:ag}{s:aa}{a C C':Addr}{oe:Obj}{b:Bool}{Q:Bool→aa→Prop}(KX:K.In s.heap)(he:s.heap.get? a=some oe)(hcls:oe.cls= .ref C)
  (hk:a5 K (.ref C) (.ref C')=some b) (hb:xcc K C') (hq:Q b s):wpAny M A' (excMatches (.ref a) (.ref C')) Q E s:=by
 obtain⟨l1,l2,l3⟩:=W.kit_cls (M:=M) KX hk;have l4:=W.looks_mroIn (M:=M) KX hb.base;have kk:∀b o,s.heap.get? b=some o→s.heap.get? b=some o:=fun _ _ e=>e;unfold excMatches iU;refine af (af (l1 _ _ _ s kk ?_));refine f9 tc_notTuple ?_;simp only[dR,if_false];refine af (ay ?_);simp only[List.forIn_cons,List.forIn_nil];unfold isExcClass;refine af (af (af (af (l2 _ _ _ s kk ?_))));simp only[if_true];refine l4 _ _ _ s kk ?_;simp only[Bool.not_true,dR,if_false];refine ay (ay ?_);have lt:wpAny M A' (typeOf (.ref a)) (fun v s'=>v=oe.cls∧s'=s) E s:=by
  unfold typeOf;exact af (iw he (ay ⟨rfl,rfl⟩))
 refine af (aI lt (fun v s' z=>?_) fun _ _ x=>x);obtain⟨rfl,rfl⟩:=z;rw[hcls];refine af (af (af (l3 _ _ _ s' kk ?_)));cases b with
 |true=>exact ay (ay (ay hq))
 |false=>exact ay (ay (ay hq))
theorem xo4{h₀:fw}{hs:List fw}{pos:Pos}{body:List Stmt}{tb:TS}(hx:X.xe=fun _ _=>False)(hbody:PSs X body tb):PS X (.Try body (h₀::hs) [] [] pos) tb:=by
 intro pins s σ H D I h;refine gZ (aI (hbody pins s σ H D I h) (fun f s1 hq=>?_) fun e s1 z=>?_)
 ·cases f with
  |next=>exact dO hq
  |brk=>exact hq
  |cont=>exact hq
  |ret u=>exact hq
 ·rw[hx]at z;exact z.elim
end
end L2
namespace L2
open PySem PySem.Spec PyProof.Rows
section
variable {X:Cx}
def Ends.gone(D:Ends)(i:Nat):Ends:={nx:=fun σ H=>D.nx (σ.set i none) H,rt:=D.rt,bk:=fun σ H=>D.bk (σ.set i none) H,ct:=fun σ H=>D.ct (σ.set i none) H}
theorem xeH{M:Model}{A':aE}{E:Value→aa→Prop}{Q:Unit→aa→Prop}{pins:List (Addr×Obj)}{σ:St}{H:Hp}{s:aa}{i:Nat}{n:Str}{pos:Pos}(I:Inv X pins σ H s)(hN:X.N.Nodup)(hi:X.N[i]? =some n)(hk:X.env.kindOf n=some .local)
  (h:∀s',Inv X pins (σ.set i none) H s'→Q () s'):wpAny M A' (do bindName X.env n .none;fR X.env n pos) Q E s:=by
 obtain⟨m,hn,hl⟩:=id I.loc;refine wpAny_nameGoes_keeps hk hn (by rw[I.ok.kind];rfl) fun h' v hn' hs=>h _ ?_;have neL:∀b u,X.s₀.heap.get? b=some u→b≠X.env.locals:=fun b u e=>aG (aF (aw e) I.ok.above);obtain⟨oL,_,_,hoL,_⟩:=id hn;refine⟨I.ok,I.os,I.bare,⟨fun b o e n hb hx=>?_,fun b o e n hb hx=>?_,I.base.free,fun b o e hx=>?_,I.base.fix⟩,⟨_,hn',fun j y v' e1 e2 e3=>?_⟩,fun y c e=>?_,I.free,fun y c e=>?_,fun p hp=>?_,fun b u e=>?_,by simpa using I.len⟩
 ·exact(hs.2 b (neL b o e)).trans (I.base.keep b o e n hb hx)
 ·obtain⟨sl,e1⟩:=I.base.slot b o e n hb hx;exact⟨sl,(hs.2 b (neL b o e)).trans e1⟩
 ·obtain⟨o',e1⟩:=I.base.there b o e hx;exact⟨o',(hs.2 b (neL b o e)).trans e1⟩
 ·have hj:j≠i:=fun z=>by
   rw[z]at e2
   by_cases hi':i<σ.length
   ·rw[bP hi']at e2;cases e2
   ·rw[cA (by simpa using hi')]at e2;cases e2
  rw[bA (au hj)]at e2;obtain⟨u',r',q⟩:=hl j y v' e1 e2 e3;refine⟨u',r',q.imp (fun⟨k,e⟩=>⟨k,?_⟩) fun⟨k,c,e,z⟩=>⟨k,c,e,z.sameBut hs (I.cne y c e)⟩⟩;have:y≠n:=fun e=>hj (jP hN e1 (e▸hi));simp[this,e]
 ·obtain⟨w',z⟩:=I.cell y c e;exact⟨w',z.sameBut hs (I.cne y c e)⟩
 ·refine(I.freeC y c e).imp id fun⟨hf',o',ho',hno⟩=>⟨hf',o',ho',fun z j v' e1 k e2=>?_⟩;have hj:j≠i:=fun z=>by
   rw[z]at e2
   by_cases hi':i<σ.length
   ·rw[bP hi']at e2;cases e2
   ·rw[cA (by simpa using hi')]at e2;cases e2
  rw[bA (au hj)]at e2;exact hno z j v' e1 k e2
 ·obtain⟨e,n,ne,nf,d⟩:=I.pin p hp;exact⟨(hs.2 p.1 ne).trans e,n,ne,nf,d⟩
 ·refine(I.hok b u e).stay (fun c w' hc q=>(hs.2 c ?_).trans q) (fun _ q=>q) fun _ _ q _=>q;rintro rfl;rcases hc with rfl|hc
  ·rw[I.free]at e;cases e
  ·rw[I.free]at hc;cases hc
end
end L2
namespace L2
open PySem PySem.Spec PyProof.Rows PySem.W
structure xls(K:Frag)(D:Addr):Prop where
 ga:findIn K (.ref D) "__getattribute__"=some (some (.builtin "BaseException.__getattribute__"))
 gh:findIn K (.ref D) "__getattr__"=some none
 cl:findIn K (.ref D) "__class__"=some (some (.builtin "object.__class__"))
 gt:specialIn K (.builtin "object.__class__") "__get__"=some (some (.builtin "getset_descriptor.__get__"))
 tk:takesIn K (.builtin "object.__class__")=some true
 ob:mroIn K D (.type "object")=some true
 bs:mroIn K D (.type "BaseException")=some true
 is:(clsIn K D).isSome=true
theorem xiJ:builtinKind "BaseException.__getattribute__"=some .slot:=by kernel_rfl
theorem xh2:splitId "BaseException.__getattribute__"=some ("BaseException","__getattribute__"):=by kernel_rfl
section
variable {prog:ak} {w:World} {A:aE} {E:Value→aa→Prop} {s:aa} {K:Frag} {x D:Addr} {ox:Obj} {od:Option Obj}
end
section
variable {X:Cx}
end
end L2
namespace L2
open PySem PySem.Spec PyProof.Rows
section
variable {prog:ak} {w:World} {A:aE} {E:Value→aa→Prop} {s:aa}
theorem xqE{j t:Addr}{i:Nat}{its:Array Value}{x:Value}{Q:Value→aa→Prop}(hj:s.heap.IsTupleIter j t i)(ht:s.heap.IsTuple t its)(hx:its[i]? =some x)
  (q:∀h',h'.IsTupleIter j t (i+1)→eX j s.heap h'→Q x {s with heap:=h'}):wpAny (model prog w) A (du (.ref j)) Q E s:=by
 obtain⟨oj,ej,cj,dj⟩:=id hj;obtain⟨ot,et,_,nt,dt⟩:=ht;unfold du;refine af (fh (name:=br "__next__") hj.typeIs dg (g7 dg hj.typeIs gn ?_ (fY _)));show wpAny _ _ (field (.ref j) 0 >>= _) _ _ s;refine af (bu ej dj (x:=.ref t) rfl ?_);show wpAny _ _ (if (aB t==aU)=true then _ else _) _ _ s;rw[if_neg (show¬((aB t==aU)=true)from aJ)];show wpAny _ _ (field (.ref j) 1 >>= _) _ _ s;refine af (bu ej dj (x:=.int i 0) rfl ?_);show wpAny _ _ (ie (.ref t) >>= _) _ _ s;refine af (ff et dt ?_);simp only[dn,hx];refine af (cz ej dj (by simp) (ay ⟨x,rfl,ay (q _ ?_ (dH ..))⟩));exact⟨_,a8 _ ej (c9 (cZ dj _)),(gz ..).trans cj,by rw[cZ dj];simp[bj]⟩
theorem xhN{j t:Addr}{i:Nat}{its:Array Value}{Q:Value→aa→Prop}(hh:A.handled=none)(hj:s.heap.IsTupleIter j t i)(ht:s.heap.IsTuple t its)(hx:its[i]? =none)
  (q:∀h' e,kl j s.heap h'→(∃o,h'.get? e=some o∧o.cls= .type "StopIteration")→E (.ref e) {s with heap:=h'}):wpAny (model prog w) A (du (.ref j)) Q E s:=by
 obtain⟨oj,ej,cj,dj⟩:=id hj;obtain⟨ot,et,_,nt,dt⟩:=ht;unfold du;refine af (fh (name:=br "__next__") hj.typeIs dg (g7 dg hj.typeIs gn ?_ (fY _)));show wpAny _ _ (field (.ref j) 0 >>= _) _ _ s;refine af (bu ej dj (x:=.ref t) rfl ?_);show wpAny _ _ (if (aB t==aU)=true then _ else _) _ _ s;rw[if_neg (show¬((aB t==aU)=true)from aJ)];show wpAny _ _ (field (.ref j) 1 >>= _) _ _ s;refine af (bu ej dj (x:=.int i 0) rfl ?_);show wpAny _ _ (ie (.ref t) >>= _) _ _ s;refine af (ff et dt ?_);simp only[dn,hx];refine af (wpAny_rule (af (cz ej dj (by simp) ?_)));show wpAny _ _ (newExc (.type "StopIteration") [] >>= _) _ _ _;refine af ?_;simp only[newExc,newTuple];refine af (dk ?_ (by size_fits));refine af (m:=firstArgMember _ _) (f9 (a:=aU) (by first|rfl|(simp only[firstArgMember];rfl)) ?_);refine dk ?_ (by size_fits);simp only[raiseNew];refine af (wpAny_handled ?_);first|rw[show A.in1.handled=none from hh]|rw[hh]
 refine af (ay (wpAny_throw ?_));exact q _ _ (((dH ..).extBut.push _).push _) ⟨_,aL _ rfl,rfl⟩
theorem xmA(hh:A.handled=none)(j t:Addr)(hne:t≠j)(its:Array Value):Draws prog w A j [j,t] its.size (fun i v=>its[i]? =some v) (fun i h=>h.IsTupleIter j t i∧h.IsTuple t its) where
 live:=fun _ _ st=>let⟨o,ho,_⟩:=st.1;⟨o,ho⟩
 frame:=fun _ _ _ ⟨⟨o,e,r⟩,o2,e2,r2⟩ hk=>⟨⟨o,hk j (by simp) o e,r⟩,o2,hk t (by simp) o2 e2,r2⟩
 item:=fun i s Q E hi st q=>by
  refine xqE st.1 st.2 (x:=its[i]) (by simp[hi]) fun h' hj' hs'=>q _ h' s.toks (by simp[hi]) ⟨hj',?_⟩ hs';obtain⟨o2,e2,r2⟩:=st.2;exact⟨o2,(hs'.2 t hne).trans e2,r2⟩
 done:=fun s Q E st q=>xhN hh st.1 st.2 (by simp) q
end
set_option maxHeartbeats 8000000 in
theorem xmB(l:Addr)(its:Array Value)(n:Nat)(dct:Option Addr)(sl:Array (Option Value)):
  Meets (iE.«enumerate.__new__» ⟨[.type "enumerate",.ref l],[]⟩) (fun _ R s=>s.heap.get? l=some {cls:=.type "tuple",dict:=dct,data:=.seq its n,slots:=sl}∧
   R (.ok (.ret (.ref (s.heap.push {cls:=.type "tuple_iterator",data:=.fields #[.ref l,.int 0 0]}).objs.size)))
    {s with heap:=(s.heap.push {cls:=.type "tuple_iterator",data:=.fields #[.ref l,.int 0 0]}).push {cls:=.type "enumerate",data:=.fields #[.none,.bool false,.ref s.heap.objs.size,bj 0,.none,.none]}}):=
 .of_wp fun prog w A R s h=>by
  obtain⟨hp,g,d,tk,os⟩:=s;obtain⟨el,h⟩:=h;have hsub:=sub_enumerate;have hL:Heap.IsTuple (Shared.heap ⟨hp,g,d,tk,os⟩) l its:=⟨_,el,rfl,n,rfl⟩
  wp_walk using fb el
  refine wpAny_stack_any fun st=>ay ?_
  split
  ·rename_i c _ _ _ _ _;cases (c==eC "enumerate")<;> (wp_walk using fb el,gi hL;exact⟨_,rfl,h⟩)
  ·wp_walk using fb el,gi hL;exact⟨_,rfl,h⟩
section
variable {prog:ak} {w:World} {A:aE} {E:Value→aa→Prop} {s:aa}
theorem xlt{l:Addr}{its:Array Value}{Q:Value→aa→Prop}(hL:s.heap.IsTuple l its)
  (q:∀h',gX h' (s.heap.objs.size+1) s.heap.objs.size 0 .none→h'.IsTupleIter s.heap.objs.size l 0→(∀b o,s.heap.get? b=some o→h'.get? b=some o)→Q (.ref (s.heap.objs.size+1)) {s with heap:=h'}):
  wpAny (model prog w) A (call (.type "enumerate") [.ref l]) Q E s:=by
 obtain⟨⟨c,dct,dt,sl⟩,el,hc,n,hd⟩:=hL;cases (show c= .type "tuple" from hc);cases (show dt= .seq its n from hd);refine callType_new F.called_enumerate (by decide) (F.typeCall_enumerate_1 _) (F.newCall_enumerate_1 _) (fun obj=>F.args_object_init_2 obj _) iF (xmB l its n dct sl) ⟨el,?_⟩;generalize hO:({cls:=.type "tuple_iterator",data:=.fields #[.ref l,.int 0 0]}:Obj)=oi;have hz:(s.heap.push oi).objs.size=s.heap.objs.size+1:=ek ..;have f0:oi.isFreed=false:=by rw[←hO];rfl
 show _∧_;rw[hz];have he:gX ((s.heap.push oi).push {cls:=.type "enumerate",data:=.fields #[.none,.bool false,.ref s.heap.objs.size,bj 0,.none,.none]}) (s.heap.objs.size+1) s.heap.objs.size 0 .none:=by
  have e:=aL (s.heap.push oi) (o:={cls:=.type "enumerate",data:=.fields #[.none,.bool false,.ref s.heap.objs.size,bj 0,.none,.none]}) rfl;rw[hz]at e;exact e
 refine⟨⟨_,he,rfl⟩,q _ he ⟨oi,ai _ (aL _ f0),by rw[←hO],by rw[←hO];rfl⟩ fun b o x=>ai _ (ai _ x)⟩
theorem xo5{e j t:Addr}{i:Nat}{k:Int}{its:Array Value}{old:Value}{Q:Option Value→aa→Prop}(hh:A.handled=none)(he:gX s.heap e j k old)(hj:s.heap.IsTupleIter j t i)(ht:s.heap.IsTuple t its)(hx:its[i]? =none)
  (q:∀h',kl j s.heap h'→Q none {s with heap:=h'}):wpAny (model prog w) A (pyNext (.ref e)) Q E s:=by
 have hT:s.TypeIs (.ref e) "enumerate":=⟨_,he,rfl⟩;unfold pyNext;refine af (wpAny_attempt (fh (name:=br "__next__") hT iG (g7 iG hT F.entry_enumerate_next ?_ (F.args_enumerate_next_1 _))));show wpAny _ _ (field (.ref e) 2 >>= _) _ _ _;refine af (bu he rfl (x:=.ref j) rfl ?_);refine af (xhN hh hj ht hx fun h' x eb ⟨o,ho,hc⟩=>?_);refine af (wpAny_isInstance (T:="StopIteration") (b:=true) ⟨o,ho,hc⟩ isSubtype_stop ?_);exact ay (q _ eb)
end
def xnE(K:ag)(a:Addr):It:=
 ⟨fun i H=>∃xs x,SqT K H a xs∧xs[i]? =some x,fun i H v H'=>∃T x,v= .ref T∧H T=none∧H'=upd H T (.tup [.int i,x])∧∀xs,SqT K H a xs→xs[i]? =some x,fun i H=>∃xs,SqT K H a xs∧xs.length≤i⟩
theorem xlu{P:ak}{w:World}{K:ag}{es:List Expr}{k:Nat}{pos:Pos}(a e it:Addr)(hne:e≠it):Turn P w K (.Tuple es k pos) (xnE K a) [e,it] e (fun i h=>(∃old,gX h e it (i:Nat) old)∧h.IsTupleIter it a i) where
 mem:=by simp
 obj:=fun i h st b hb=>by
  obtain⟨⟨old,he⟩,⟨o,e1,c,d⟩⟩:=st;rcases av.mp hb with z|z
  ·subst z;exact⟨_,he,fun v z=>by cases z⟩
  ·rw[aj.mp z];exact⟨o,e1,fun v z=>by rw[d]at z;cases z⟩
 keep:=fun i h h' st kk=>by
  obtain⟨⟨old,he⟩,⟨o,e1,r⟩⟩:=st;exact⟨⟨old,kk e (by simp) _ he⟩,⟨o,kk it (by simp) o e1,r⟩⟩
 item:=by
  intro X hP hw hK hc i pins s σ H E I hf st hg;subst hP hw hK;obtain⟨xs,x,hq,hx⟩:=hg;obtain⟨its,rv,p,hz⟩:=I.tuple hq;obtain⟨u,hu,ru⟩:=rv.get hx;obtain⟨⟨old,he⟩,hit⟩:=st;have he':=aw he;have hi':it<s.heap.objs.size:=by obtain⟨o,q,_⟩:=hit;exact aw q
  have p':s.heap.IsTuple a its.toArray:=p;have hai:a≠it:=fun z=>by
   obtain⟨o,e1,c,d⟩:=hit;obtain⟨o2,e2,c2,_⟩:=p';rw[z,e1]at e2;cases e2;rw[c]at c2;injection c2 with c2;exact absurd c2 (by decide)
  have hae:e≠a:=fun z=>by
   obtain⟨o2,e2,c2,_⟩:=p';have he2:s.heap.get? e=_:=he;rw[z,e2]at he2;cases he2;injection c2 with c2;exact absurd c2 (by decide)
  have hlt:i<its.toArray.size:=by simpa using(az.mp hu).1
  refine hW (xmA (A:=X.A.in1) (I.ok.hd hc) it a hai its.toArray) he ⟨hit,p'⟩ hlt hne (by simp[hne,hae]) fun x2 h' tk px heo st' hT hsz hk=>?_;have ex:x2=u:=by
   have:its.toArray[i]? =some u:=by simpa using hu
   rw[this]at px;cases px;rfl
  subst ex;refine⟨_,rfl,eM (s:={s with heap:=h',toks:=tk+1}) heo fun h2 he2 hs2=>?_⟩;have hT2:h2.get? s.heap.objs.size=some {cls:=.type "tuple",data:=.seq #[.int i tk,x2]}:=(hs2.2 _ (eg he')).trans hT;have I2:Inv X pins σ (upd H s.heap.objs.size (.tup [.int i,x])) {s with heap:=h2,toks:=tk+1}:=by
   refine I.turnLaid (ch:=[e,it]) (fun b o hb q=>?_) (ax _) ⟨by simp[aZ],[.int i tk,x2],.cons ⟨_,rfl⟩ (.cons ru .nil),⟨_,hT2,rfl,_,rfl⟩⟩ (fun b hb=>(hf b hb).1) (fun b hb=>?_) fun b hb=>?_
   ·have b1:b≠e:=fun z=>hb (by simp[z]);have b2:b≠it:=fun z=>hb (by simp[z]);exact(hs2.2 b b1).trans (hk b o b1 b2 q)
   ·rcases av.mp hb with z|z
    ·rw[z];exact he'
    ·rw[aj.mp z];exact hi'
   ·obtain⟨f0,f1,f2,f3,f4,f5⟩:=hf b hb;exact⟨f3,f1,f4,f5⟩
  refine⟨.ref s.heap.objs.size,_,I2,rfl,⟨_,x,rfl,I.hok.fresh (ax _),rfl,fun ys hy=>by rw[I.tuple_inj hy hq];exact hx⟩,⟨⟨x2,by simpa using he2⟩,?_⟩,fun b hb=>?_⟩
  ·obtain⟨⟨o,e1,r⟩,_⟩:=st';exact⟨o,(hs2.2 it (au hne)).trans e1,r⟩
  have hb':b≠s.heap.objs.size:=by
   rcases av.mp hb with z|z
   ·rw[z];exact aG he'
   ·rw[aj.mp z];exact aG hi'
  rw[xl hb'];exact(hf b hb).1
 done:=by
  intro X hP hw hK hc i pins s σ H E I hf st hg;subst hP hw hK;obtain⟨xs,hq,hx⟩:=hg;obtain⟨its,rv,p,hz⟩:=I.tuple hq;obtain⟨⟨old,he⟩,hit⟩:=st;obtain⟨f0,f1,f2,f3,f4,f5⟩:=hf it (by simp);have hl:=rv.length;exact xo5 (I.ok.hd hc) he hit p (by simp;lia) fun h' eb=>⟨rfl,I.turned (t':=s.toks) (fun b o hb e=>eb b o hb e) f0 f1 f3 f4 f5⟩
 self:=fun _ _ _ _ _ st h=>by
  obtain⟨⟨old,he⟩,_⟩:=st;exact dm he h
section
variable {X:Cx} {es:List Expr} {k:Nat} {tp:Pos}
def xqF(K:ag)(ta:TA):TI:=fun σ H R=>ta σ H fun vs H1=>∃a,vs=[.ref a]∧(∃xs,SqT K H1 a xs)∧R (xnE K a) H1
theorem xnF{l:Expr}{ta:TA}{p pos:Pos}(hg:Gl X "enumerate")(hm:X.mg "enumerate"=none)(ha:PA X [l] ta)(hs:aC [l] X.env=[(false,eval l X.env)]:=by rfl):PI X (.Tuple es k tp) (.Call (.Name "enumerate" p) [l] [] pos) (xqF X.K ta):=by
 intro pins s σ H R I h;refine Call_ (uQ I hg hm xbe (bL (thn (ha pos pins s σ H _ I h) fun us s1 ⟨vs,H1,I1,r1,q1⟩=>?_) hs rfl));obtain⟨a,e,⟨xs,hq⟩,q⟩:=q1;subst e;obtain⟨u,rfl,ru⟩:=Vals.one r1;cases ru;obtain⟨its,rv,pl,hz⟩:=I1.tuple hq;refine xlt (show s1.heap.IsTuple a its.toArray from pl) fun h' he hi hk=>dm (s:={s1 with heap:=h'}) he ?_;refine⟨s1.heap.objs.size+1,[s1.heap.objs.size+1,s1.heap.objs.size],_,_,H1,rfl,I1.kept (t':=s1.toks) hk,xlu a _ _ (gY _),⟨⟨.none,by simpa using he⟩,hi⟩,fun b hb=>?_,q⟩;rcases av.mp hb with z|z
 ·rw[z];exact I1.fpOk (dy _) (I1.hok.fresh (dy _))
 ·rw[aj.mp z];exact I1.fpOk (ax _) (I1.hok.fresh (ax _))
theorem xjP{K:ag}{l:Addr}{xs:List V}{g:TG}{tb:TS}{D:Ends}{σ:St}{H:Hp}(Pv:Nat→St→Hp→Prop)(h0:Pv 0 σ H)(hl:∀i σ H,i≤xs.length→Pv i σ H→SqT K H l xs)
  (hs:∀i x σ H T,xs[i]? =some x→Pv i σ H→H T=none→g (.ref T) σ (upd H T (.tup [.int i,x])) fun σ2 H2=>tb {D with nx:=Pv (i+1),ct:=Pv (i+1),bk:=D.nx} σ2 H2) (hd:∀σ H,Pv xs.length σ H→D.nx σ H):uK (xnE K l) g tb D σ H:=by
 unfold uK;refine⟨fun i m σ H=>m=xs.length - i∧i≤xs.length∧Pv i σ H,⟨xs.length,by simp,bM _,h0⟩,?_⟩;rintro i m σ H ⟨rfl,hi,p⟩;have hq:=hl i σ H hi p
 by_cases hlt:i<xs.length
 ·have hx:xs[i]? =some xs[i]:=aK hlt;refine .inr ⟨⟨xs,xs[i],hq,hx⟩,Pv (i+1),fun σ' H' p'=>⟨xs.length - (i+1),by lia,rfl,hlt,p'⟩,fun v H' y=>?_⟩;obtain⟨T,x,rfl,hT,rfl,hx'⟩:=y;have:=hx' xs hq;exact hs i x σ H T this p hT
 ·have e:i=xs.length:=by lia
  subst e;exact .inl ⟨⟨xs,hq,ax _⟩,hd σ H p⟩
theorem xeX{K:ag}{l:Addr}{xs:List V}{g:TG}{tb:TS}{D:Ends}{σ:St}{H:Hp}(Pv:Nat→St→Hp→Prop)(h0:Pv 0 σ H)(hl:∀i σ H,i≤xs.length→Pv i σ H→SqL K H l xs)
  (hs:∀i x σ H T,xs[i]? =some x→Pv i σ H→H T=none→g (.ref T) σ (upd H T (.tup [.int i,x])) fun σ2 H2=>tb {D with nx:=Pv (i+1),ct:=Pv (i+1),bk:=D.nx} σ2 H2) (hd:∀σ H,Pv xs.length σ H→D.nx σ H):uK (Ite K l) g tb D σ H:=by
 unfold uK;refine⟨fun i m σ H=>m=xs.length - i∧i≤xs.length∧Pv i σ H,⟨xs.length,by simp,bM _,h0⟩,?_⟩;rintro i m σ H ⟨rfl,hi,p⟩;have hq:=hl i σ H hi p
 by_cases hlt:i<xs.length
 ·have hx:xs[i]? =some xs[i]:=aK hlt;refine .inr ⟨⟨xs,xs[i],hq,hx⟩,Pv (i+1),fun σ' H' p'=>⟨xs.length - (i+1),by lia,rfl,hlt,p'⟩,fun v H' y=>?_⟩;obtain⟨T,x,rfl,hT,rfl,hx'⟩:=y;have:=hx' xs hq;exact hs i x σ H T this p hT
 ·have e:i=xs.length:=by lia
  subst e;exact .inl ⟨⟨xs,hq,ax _⟩,hd σ H p⟩
end
end L2
namespace L2
open PySem PySem.Spec PyProof.Rows
def xou(K:ag)(C f:Addr):Bool:=match K.lookup C with
 |some ⟨.type "type",_,.cls cd,sl⟩=>(match cd.mro,sl.toList with
  | .ref C'::bm,[_,_,_,_,some (.builtin n),_]=>C'==C&&n=="ValueError.__new__"&& !cd.hasDel&&W.tailIn K xbh bm&&W.nsOkIn K cd.ns&&g8 K cd.ns "__init__"==some (some (.ref f))
  |_,_=>false)
 |_=>false
def xdV:List Value→List Value
 | .ref _::r=>xdV r
 |l=>l
structure xcd(K:ag)(C f:Addr):Prop where
 xi:xou K C f=true
 fn:W.isFn K (.ref f)=true
 hd:fZ K C=true
 mr:(W.clsIn K C).any (fun cd=>xdV cd.mro==xbh)=true
 ob:fX K C (.type "object")=some true
 sa:aM K (.ref C) "__setattr__"=some (some (.builtin "object.__setattr__"))
theorem xdW(self:Value)(what:Str):∀l:List Value,refuseLoop self what l=refuseLoop self what (xdV l)
 |[]=>rfl
 |v::r=>by
  cases v with
  |ref C=>rw[refuseLoop_ref];exact xdW self what r
  |_=>rfl
section
variable {prog:ak} {w:World} {A:aE} {E:Value→aa→Prop} {s:aa} {K:ag} {x C f:Addr} {ox:Obj} {name:Str} {v:Value}
theorem xo6{od:Option Obj}{tk:Tok}{R:gL→aa→Prop}(X:K.In s.heap)(I:W.InstAt s.heap x ox C od)(F:xcd K C f)(n:xG K C name)
  (h:∀b,wpAny (model prog w) A.in1 (Builtin.ObjectAttr.storeInOwnDict (.ref x) (.ref C) (.str name tk) name v b) (fun fin s'=>match fin with| .done f=>R (.ok f) s'| .again c'=>c'.quiet=true∧ck (model prog w) A c' R s') (fun e s'=>R (.error e) s') s):
  ck (model prog w) A (.call (.builtin "object.__setattr__") ⟨[.ref x,.str name tk,v],[]⟩) R s:=by
 have SF:=PySem.F.store_object;obtain⟨cd,hc,hm0⟩:=W.any_some F.mr;have sub:W.Looks (model prog w) s.heap (iU (.ref x) (.type "object")) true:=I.type.andThen (W.looks_mroIn X F.ob);refine eG SF.slot.plain SF.entry (@W.check_slot (model prog w) _ _ s "object.__setattr__" "object" "__setattr__" (.ref x) [.str name tk,v] [] _ SF.kind SF.split sub (SF.args (.ref x) (.str name tk) v) ?_);have hm:W.Looks (model prog w) s.heap (mroOf (.ref C)) cd.mro:=(iZ X hc).andThen .now;have L3:W.Looks (model prog w) s.heap (Builtin.ObjectAttr.storeTaker? none) none:=.now;rw[W.osa_eq,refuse_eq];refine af (af (I.type.here (af (hm.here ?_))));rw[xdW,beq_iff_eq.mp hm0,show refuseLoop (aB x) "__setattr__" xbh=pure ()from PySem.F.store_ValueError.passes _];refine ay (af (I.type.here (af ((W.looks_findIn X n).here (af (L3.here ?_))))));exact h _
theorem xo7{Q:Unit→aa→Prop}(X:K.In s.heap)(I:W.InstAt s.heap x ox C none)(hdx:ox.dict=none){vs:Array Value}(hdat:ox.data= .fields vs)(F:xcd K C f)(n:xG K C name)
  (h:∀h' t',h'.Ns1 s.heap.objs.size (fun y=>if y=name then some v else none)→h'.get? x=some {ox with dict:=some s.heap.objs.size}→(∀b o,b≠x→s.heap.get? b=some o→h'.get? b=some o)→Q () {s with heap:=h',toks:=t'}):
  wpAny (model prog w) A (setAttr (.ref x) name v) Q E s:=by
 refine W.set_plain X I F.sa (xo6 (s:={s with toks:=s.toks+1}) X I F n fun b=>?_);obtain⟨cd,hc,hd'⟩:=W.any_some F.hd;have hx:=I.at_;obtain⟨c0,d0,dt0,sl0⟩:=ox;cases hdx;cases hdat;cases I.cls;refine af (ay (af (af (iw hx (af (W.Looks.here (s:={s with toks:=s.toks+1}) (iZ X hc) ?_))))));rw[hd'];have hx₁:(s.heap.push {cls:=.type "dict",data:=.dict #[]}).get? x=some ⟨.ref C,none,.fields vs,sl0⟩:=ai _ hx;have hxs:x≠s.heap.objs.size:=aG (aw hx);refine af (wpAny_alloc' ?_);refine af (wpAny_update' hx₁ ?_);refine ay ?_;have hgd:((s.heap.push {cls:=.type "dict",data:=.dict #[]}).update x fun o=>{cls:=o.cls,dict:=some s.heap.objs.size,data:=o.data,slots:=o.slots}).get? s.heap.objs.size
   =some {cls:=.type "dict",data:=.dict #[]}:=
  (j3 _ _ _ _ hxs.symm).trans (Heap.get?_push_at rfl rfl)
 have hnd:((s.heap.push {cls:=.type "dict",data:=.dict #[]}).update x fun o=>{cls:=o.cls,dict:=some s.heap.objs.size,data:=o.data,slots:=o.slots}).Ns s.heap.objs.size (fun _=>none):=
  ⟨_,#[],_,hgd,rfl,fun e he=>absurd he (by simp),fun _=>rfl⟩
 show wpAny _ _ (fS s.heap.objs.size (.str name _) name v) _ _ _;unfold fS Builtin.ObjectAttr.newKeyGuard;refine af (ay (af (wpAny_nsSet1 (kf hnd) fun h' hn' hs=>?_)));obtain⟨oD,esD,epD,hoD,hdD,hcD⟩:=hn'.count (Within.cons name v Within.nil);refine af (wpAny_lookBehind hoD (by rw[hdD];exact pastItsLine_dict (bw hcD (by rw[bD,fP,aZ];lia))) ?_);refine ay (h h' _ hn' ((hs.2 x hxs).trans (a8 _ hx₁ rfl)) fun b ob hbx hb=>?_);exact(hs.2 b (aG (aw hb))).trans ((j3 _ _ _ _ hbx).trans (ai _ hb))
end
def HO.exc(a C:Addr)(dx:Option Addr):HO:=.ext fun h=>∃o t,h.get? a=some o∧o.cls= .ref C∧o.dict=dx∧o.data= .fields #[.ref t,.none,.none,.none,.bool false,.none]
def rem(H:Hp)(a:Addr):Hp:=fun b=>if b=a then none else H b
section
variable {X:Cx} {pins:List (Addr×Obj)} {σ:St} {H:Hp} {s:aa} {a C f:Addr} {fl:Str} {y:V} {u:Value} {A:aE} {E:Value→aa→Prop}
theorem xdX{dx:Option Addr}{h1 h2:Heap}(q:∃o t,h1.get? a=some o∧o.cls= .ref C∧o.dict=dx∧o.data= .fields #[.ref t,.none,.none,.none,.bool false,.none])(k:∀o,h1.get? a=some o→h2.get? a=some o):
  ∃o t,h2.get? a=some o∧o.cls= .ref C∧o.dict=dx∧o.data= .fields #[.ref t,.none,.none,.none,.bool false,.none]:=by
 obtain⟨o,t,e,r⟩:=q;exact⟨o,t,k o e,r⟩
theorem xmC{Q:Unit→aa→Prop}(I:Inv X pins σ H s)(e:H a=some (HO.exc a C none))(F:xcd X.K C f)(n:xG X.K C fl)(ry:RelV y u)
  (h:∀d s',H d=none→d≠a→Inv X pins σ (upd (upd H d (.xd [(fl,y)])) a (HO.exc a C (some d))) s'→Q () s'):wpAny (model X.prog X.w) A (setAttr (.ref a) fl u) Q E s:=by
 obtain⟨⟨o,t,ea,hc,hd,hdat⟩,_⟩:=I.hok a _ e;have J:W.InstAt s.heap a o C none:=⟨ea,hc,by obtain⟨c1,d1,dt,sl⟩:=o;cases hdat;rfl,by rw[hd];trivial⟩;refine xo7 I.kIn J hd hdat F n fun h' t' hn hx kp=>?_;have hd0:H s.heap.objs.size=none:=I.hok.fresh (ax _);have nda:s.heap.objs.size≠a:=fun z=>by rw[z,e]at hd0;cases hd0
 have nA:∀b,H b=none→b≠a:=fun b n z=>by rw[z,e]at n;cases n
 have oth:∀b,b≠a→b≠s.heap.objs.size→upd (upd H s.heap.objs.size (.xd [(fl,y)])) a (HO.exc a C (some s.heap.objs.size)) b=H b:=fun b h1 h2=>by rw[xl h1,xl h2]
 have own:∀b u,H b=some u→u≠HO.exc a C none→upd (upd H s.heap.objs.size (.xd [(fl,y)])) a (HO.exc a C (some s.heap.objs.size)) b=some u:=fun b u q nu=>by
  rw[oth b (fun z=>by rw[z,e]at q;exact nu (bh q).symm) (xF q hd0)];exact q
 refine h s.heap.objs.size _ hd0 nda (I.un ⟨fun b o q n _ _=>kp b o (nA b n) q,fun b o q n _ _=>⟨o.slots,kp b o (nA b n) q⟩,fun b o q n _=>?_,fun b o q _=>?_,fun b u q f=>own b u q (by rintro rfl;exact f)⟩ fun b u q=>?_)
 ·rw[oth b (nA b n) (aG (aw q))];exact n
 ·by_cases hb:b=a
  ·subst hb;exact⟨_,hx⟩
  ·exact⟨o,kp b o hb q⟩
 ·by_cases hb:b=a
  ·subst hb;rw[xm]at q;cases q;exact⟨⟨_,t,hx,hc,rfl,hdat⟩,⟨_,hx⟩,fun h1 h2=>xdX⟩
  ·rw[xl hb]at q
   by_cases hb2:b=s.heap.objs.size
   ·subst hb2;rw[xm]at q;cases q;refine⟨_,hn,fun g=>?_⟩;show ux (dW g [(fl,y)]) (if g=fl then some u else none);rw[bK]
    by_cases q:g=fl
    ·subst q;simp;exact ry
    ·rw[beq_false_of_ne q,if_neg q];exact b7
   ·rw[xl hb2]at q;refine(I.hok b u q).stay (fun c v hc q'=>kp c v ?_ q') (fun c q'=>own _ _ q' (fun z=>by cases z)) fun c u' q' hf=>own _ _ q' (by rintro rfl;exact hf);rcases hc with rfl|hc
    ·exact hb
    ·intro z;rw[z,e]at hc;cases hc
theorem Inv.forget(I:Inv X pins σ H s){φ:Heap→Prop}(e:H a=some (.ext φ)):Inv X pins σ (rem H a) s:=by
 have non:∀b,H b=none→rem H a b=none:=fun b n=>by unfold rem;split<;> first|rfl|exact n
 have kp:∀b u,H b=some u→(∀φ,u≠.ext φ)→rem H a b=some u:=fun b u q n=>by
  unfold rem;rw[if_neg]
  ·exact q
  ·intro z;rw[z,e]at q;exact n φ (bh q).symm
 refine⟨I.ok,I.os,I.bare,⟨I.base.keep,I.base.slot,fun b o q n x=>non b (I.base.free b o q n x),I.base.there,fun b u q f=>kp b u (I.base.fix b u q f) (by rintro φ rfl;exact f)⟩,I.loc,I.cell,non _ I.free,fun x c q=>?_,fun p hp=>?_,fun b u q=>?_,I.len⟩
 ·rcases I.freeC x c q with z|⟨z1,o,z2,z3⟩
  ·exact .inl (non c z)
  ·exact .inr ⟨z1,o,kp c _ z2 (fun φ z=>by cases z),z3⟩
 ·obtain⟨e1,n,r⟩:=I.pin p hp;exact⟨e1,non _ n,r⟩
 ·have q':H b=some u:=by
   unfold rem at q
   split at q
   ·cases q
   ·exact q
  exact(I.hok b u q').stay (fun _ _ _ z=>z) (fun c z=>kp c _ z (fun φ z=>by cases z)) fun c u' z hf=>kp c _ z (by rintro φ rfl;exact hf)
end
def xrw(K:ag)(ta tv:TE)(f:Str):TS:=fun D σ H=>tv σ H fun y H1=>ta σ H1 fun x H2=>∃a C g,x= .ref a∧H2 a=some (HO.exc a C none)∧xcd K C g∧xG K C f∧
 ∀d,H2 d=none→d≠a→D.nx σ (upd (upd H2 d (.xd [(f,y)])) a (HO.exc a C (some d)))
theorem xky{X:Cx}{o value:Expr}{f:Str}{pos pos':Pos}{ta tv:TE}(ha:PE X o ta)(hv:PE X value tv)(hs:eA value (some (.Attribute o f pos')) pos.line X.env=pure false):PS X (.Assign [.Attribute o f pos'] value pos) (xrw X.K ta tv f):=by
 intro pins s σ H D I h;refine fG (thn (hv pins s σ H _ I h) fun u s1 ⟨y,H1,I1,ry,q⟩=>thn (ha pins s1 σ H1 _ I1 q) fun ov s2 ⟨x,H2,I2,rx,a,C,g,ex,ea,F,n,q2⟩=>?_) hs;subst ex;obtain rfl:ov=aB a:=rx;exact xmC I2 ea F n ry fun d s3 n1 n2 I3=>⟨σ,_,I3,q2 d n1 n2⟩
def xcZ(C:Addr)(f:Str):Sp:=fun vs H Q _=>∃a v,vs=[.ref a,v]∧H a=some (HO.exc a C none)∧∀d,H d=none→d≠a→Q .non (upd (upd H d (.xd [(f,v)])) a (HO.exc a C (some d)))
section
variable {prog:ak} {w:World} {A:aE} {E:Value→aa→Prop} {h:Heap} {g:Array GenState} {d:Drawn} {t:Nat} {os:OsState}
variable {nm q:Str} {C N:Addr} {bs bm bmB:List Value} {hdct:Bool} {sn:List Str} {sub:List Value} {ab:Bool} {col:Option Bool} {dd:Option Addr} {k0 k1 k2 k3 k5:Option Value} {B newId initId:String}
theorem xh3(F:ExcBaseFacts B newId initId bmB)(T:OwnTail h bmB bm){mN:Str→Option Value}{rest:List Value}{fI:Addr}{oI:Obj}{Q:Fin→aa→Prop}
  (hC:h.get? C=some (d7 nm q C N bs bm hdct sn sub ab col dd k0 k1 k2 k3 k5 newId)) (hn:h.Ns N mN) (hi:mN "__init__"=some (.ref fI))
  (hfI:h.get? fI=some oI) (hfc:oI.cls= .type "function")
  (hq:∀h' e,Heap.MadeExcOf h h' e (.ref C) rest→h.objs.size≤e→
   wpAny (model prog w) A (call (.ref fI) (.ref e::rest)) (fun r s'=>r= .none∧Q (.done (.ret (.ref e))) s') E ⟨h',g,d,t,os⟩) (hrest:rest.length≤aN:=by size_fits):
  wpAny (model prog w) A (iE.«type.__call__» ⟨.ref C::rest,[]⟩) Q E ⟨h,g,d,t,os⟩:=by
 repeat (first|with_reducible refine cK hC ?_|with_reducible refine wpAny_madeBy_exc hC ?_|wp_step)
 refine codeAny_call_builtin_code (gp _ F.quiet) (wpAny_check_new_subT F T hC ?_);refine codeAny_exc_new_subT F T hC ?_ hrest;show wpAny _ _ _ _ _ _;have hC₁:=ai {cls:=.ref C,data:=.fields #[.ref h.objs.size,.none,.none,.none,.bool false,.none]}
  (ai {cls:=.type "tuple",data:=.seq rest.toArray} hC)
 have hfI₁:=ai {cls:=.ref C,data:=.fields #[.ref h.objs.size,.none,.none,.none,.bool false,.none]}
  (ai {cls:=.type "tuple",data:=.seq rest.toArray} hfI)
 have hn₁:((h.push {cls:=.type "tuple",data:=.seq rest.toArray}).push {cls:=.ref C,data:=.fields #[.ref h.objs.size,.none,.none,.none,.bool false,.none]}).Ns N mN:=
  let⟨o,es,ep,e,r⟩:=hn;⟨o,es,ep,ai _ (ai _ e),r⟩
 have hget:((h.push {cls:=.type "tuple",data:=.seq rest.toArray}).push
   {cls:=.ref C,data:=.fields #[.ref h.objs.size,.none,.none,.none,.bool false,.none]}).get? (h.objs.size+1)=some
   {cls:=.ref C,data:=.fields #[.ref h.objs.size,.none,.none,.none,.bool false,.none]}:=by heap_get
 have hcC:(aB C::bm).contains (.ref C)=true:=by simp
 have T₁:=T.keeps (h':=(h.push {cls:=.type "tuple",data:=.seq rest.toArray}).push {cls:=.ref C,data:=.fields #[.ref h.objs.size,.none,.none,.none,.bool false,.none]})
  fun b o e=>ai _ (ai _ e)
 unfold iU
 repeat (first|with_reducible refine cK hget ?_|(with_reducible refine fV hC₁ ?_;rw[hcC])|wp_step)
 show wpAny _ _ (iL (.ref C) _) _ _ _;refine wpAny_typeLookup_tail hC₁ hn₁ T₁ F.mroIs F.init.lookup ?_;rw[hi];refine bz (af ?_);unfold bindSpecial;refine af (wpAny_typeOf (T:="function") ⟨_,hfI₁,hfc⟩ ?_);rw[if_pos (by decide)];refine ay (af (aI (hq _ (h.objs.size+1) ⟨fun b o hb=>ai _ (ai _ hb),dq (dy _),h.objs.size,hget,dq (ax _),?_⟩ (dy _)) (fun r s' hr=>?_) fun _ _ x=>x))
 ·exact ai _ (Heap.get?_push_at rfl rfl)
 ·obtain⟨rfl,hQ⟩:=hr
  wp_walk
  exact hQ
theorem xiK(F:ExcBaseFacts B newId initId bmB)(T:OwnTail h bmB bm){mN:Str→Option Value}{rest:List Value}{fI:Addr}{oI:Obj}{Q:Value→aa→Prop}
  (hC:h.get? C=some (d7 nm q C N bs bm hdct sn sub ab col dd k0 k1 k2 k3 k5 newId)) (hn:h.Ns N mN) (hi:mN "__init__"=some (.ref fI))
  (hfI:h.get? fI=some oI) (hfc:oI.cls= .type "function")
  (hq:∀h' e,Heap.MadeExcOf h h' e (.ref C) rest→h.objs.size≤e→
   wpAny (model prog w) (A.under (.builtin "type.__call__" ⟨.ref C::rest,[]⟩)) (call (.ref fI) (.ref e::rest)) (fun r s'=>r= .none∧Q (.ref e) s') E ⟨h',g,d,t,os⟩) (hrest:rest.length≤aN:=by size_fits):
  wpAny (model prog w) A (call (.ref C) rest) Q E ⟨h,g,d,t,os⟩:=by
 have f1:=tc_lookup;have f2:=tc_bind (.ref C);have hT:(⟨h,g,d,t,os⟩:aa).TypeIs (.ref C) "type":=⟨_,hC,rfl⟩;refine cV (codeAny_of_tree ?_);show wpAny _ _ (callAny (.ref C) _) _ _ _
 repeat (any_goals (first|assumption|with_reducible refine cK hC ?_|wp_step))
 refine⟨rfl,?_⟩;refine codeAny_call_builtin_at (gp _ (by decide+kernel)) entry_typeCall (wpAny_check_type_call_sub hC (xh3 (hrest:=hrest) F T hC hn hi hfI hfc fun h' e hm hl=>?_));exact hq h' e hm hl
end
section
variable {M:Model} {A:aE} {E:Value→aa→Prop} {env:Env}
variable {nm q:Str} {C N:Addr} {bs bm:List Value} {hdct:Bool} {sn:List Str} {sub:List Value} {ab:Bool} {col:Option Bool} {dd:Option Addr} {k0 k1 k2 k3 k5:Option Value} {newId:String}
theorem xf7{s:aa}{x:Sem Value}{Q:Flow→aa→Prop}(hbase:bm.contains (.type "BaseException")=true)(hh:A.handled=none)
  (h:wpAny M A x (fun v s₁=>∃e t od sl,v= .ref e∧s₁.heap.get? C=some (d7 nm q C N bs bm hdct sn sub ab col dd k0 k1 k2 k3 k5 newId)∧
   s₁.heap.get? e=some {cls:=.ref C,dict:=od,data:=.fields #[.ref t,.none,.none,.none,.bool false,.none],slots:=sl}∧E (.ref e) s₁) E s):
  wpAny M A (raiseStmt env (some x) none) Q E s:=by
 have hcB:(aB C::bm).contains (.type "BaseException")=true:=by rw[ka,hbase,Bool.or_true]
 unfold raiseStmt;refine af (aI h (fun v s₁ h₁=>?_) fun _ _ x=>x);obtain⟨e,t,od,sl,rfl,hC,he,hE⟩:=h₁;obtain⟨hp,g,d,tk,os⟩:=s₁
 repeat (first|with_reducible refine cK he ?_|with_reducible refine cK hC ?_|(with_reducible refine fV hC ?_;rw[hcB])|wp_step)
 exact wpAny_raiseNew_none hh hE
end
section
variable {prog:ak} {w:World} {A:aE} {E:Value→aa→Prop} {s:aa} {env:Env}
variable {nm q:Str} {C N:Addr} {bs bm:List Value} {hdct:Bool} {sn:List Str} {sub:List Value} {ab:Bool} {col:Option Bool} {dd:Option Addr} {k0 k1 k2 k3 k5:Option Value} {newId:String}
theorem xlv{x:Str}{np cpos pos:Pos}{args:List Expr}{Q:Flow→aa→Prop}
  (hbase:bm.contains (.type "BaseException")=true) (hh:A.handled=none) (hplain:(bC cpos (aC args env)).any (·.1)=false)
  (h:wpAny (model prog w) A (eval (.Name x np) env) (fun f s₁=>f= .ref C∧wpAny (model prog w) A (iT (.ref C) true (bC cpos (aC args env)) [])
   (fun a s₂=>a.kw=[]∧s₂.heap.get? C=some (d7 nm q C N bs bm hdct sn sub ab col dd k0 k1 k2 k3 k5 newId)∧
    wpAny (model prog w) A (call (.ref C) a.pos) (fun v s₃=>∃e t od sl,v= .ref e∧s₃.heap.get? C=some (d7 nm q C N bs bm hdct sn sub ab col dd k0 k1 k2 k3 k5 newId)∧
     s₃.heap.get? e=some {cls:=.ref C,dict:=od,data:=.fields #[.ref t,.none,.none,.none,.bool false,.none],slots:=sl}∧E (.ref e) s₃) E s₂) E s₁) E s):
  wpAny (model prog w) A (exec (.Raise (some (.Call (.Name x np) args [] cpos)) none pos) env) Q E s:=by
 rw[arm_exec_Raise]
 first
  |refine af (bT (xf7 (C:=C) (nm:=nm) (q:=q) (N:=N) (bs:=bs) (bm:=bm) (hdct:=hdct) (sn:=sn) (sub:=sub) (ab:=ab) (col:=col) (dd:=dd) (k0:=k0) (k1:=k1) (k2:=k2) (k3:=k3) (k5:=k5) (newId:=newId) hbase hh (af (aI (gB (aI h (fun f s₁ h₁=>?_) fun _ _ x=>x)) (fun v s₃ h₃=>af (bT (ay h₃))) fun _ _ x=>x))))
  |(simp only[evalOpt,kn];refine af (bT (xf7 (C:=C) (nm:=nm) (q:=q) (N:=N) (bs:=bs) (bm:=bm) (hdct:=hdct) (sn:=sn) (sub:=sub) (ab:=ab) (col:=col) (dd:=dd) (k0:=k0) (k1:=k1) (k2:=k2) (k3:=k3) (k5:=k5) (newId:=newId) hbase hh (af (aI (gB (aI h (fun f s₁ h₁=>?_) fun _ _ x=>x)) (fun v s₃ h₃=>af (bT (ay h₃))) fun _ _ x=>x)))))
 obtain⟨rfl,h₁⟩:=h₁;unfold dY;refine af (bz (aI h₁ (fun a s₂ h₂=>af (bT ?_)) fun _ _ x=>x));obtain⟨apos,akw⟩:=a;obtain⟨hkw,hC,h₂⟩:=h₂;obtain rfl:akw=[]:=hkw;obtain⟨hp,g,d,tk,os⟩:=s₂;simp only[hplain];refine af (wpAny_keeperOf_exc hC ?_);refine af (aI h₂ (fun v s₃ h₃=>af (bz (wpAny_point (ay h₃)))) fun _ _ x=>x)
end
theorem xlw{K:ag}{h:Heap}{N:Addr}{mg:Str→Option Value}{n:Str}{v:Value}(X:K.In h)(G:h.Ns N mg)(e:g8 K N n=some (some v)):mg n=some v:=by
 obtain⟨o,es,ep,ho,hd,_,hf⟩:=G;unfold g8 at e
 split at e
 ·rename_i c d es' n' sl q;have:=X _ _ q;rw[ho]at this;cases this;cases hd
  split at e
  ·rename_i en he;cases e;rw[←hf];unfold nsFind findBy;rw[←j5,he];rfl
  ·split at e<;> cases e
 ·cases e
theorem xcd.obj{K:ag}{C f:Addr}{h:Heap}(F:xcd K C f)(X:K.In h):∃bm N nm qn bs hdct sn sub ab col dd k0 k1 k2 k3 k5,
  h.get? C=some (d7 nm qn C N bs bm hdct sn sub ab col dd k0 k1 k2 k3 k5 "ValueError.__new__")∧h.Ns N (h.nsMap N)∧h.nsMap N "__init__"=some (.ref f)∧OwnTail h xbh bm:=by
 have q:=F.xi;unfold xou at q
 split at q
 ·rename_i dd cd sl ho
  split at q
  ·rename_i C' bm k0 k1 k2 k3 n k5 hm hs;simp only[fz,beq_iff_eq,gA]at q;obtain⟨⟨⟨⟨⟨rfl,rfl⟩,hdel⟩,ht⟩,hok⟩,hni⟩:=q;obtain⟨nm,bs,mro,ns,qn,hd,sn,sub,ab,col,del⟩:=cd;obtain⟨l⟩:=sl;dsimp only at hm hdel hok hni hs;subst hm hdel hs;have N1:h.Ns ns (h.nsMap ns):=.of_isNs (W.isNs_of_in X hok);exact⟨bm,ns,nm,qn,bs,hd,sn,sub,ab,col,dd,k0,k1,k2,k3,k5,X _ _ ho,N1,xlw X N1 hni,W.tail_of_in X ht⟩
  ·cases q
 ·cases q
section
variable {X:Cx} {EE:EEs}
def xo8(C:Addr)(f:Str)(EE:EEs)(t:TA):TS:=fun _ σ H=>t σ H fun vs H1=>∃v,vs=[v]∧∀d,H1 d=none→EE σ (.ref C) (some d) (upd H1 d (.xd [(f,v)]))
end
end L2
namespace L2
open PySem PySem.Spec PyProof.Rows PySem.W
section
variable {prog:ak} {w:World} {A:aE} {E:Value→aa→Prop} {s:aa} {K:Frag} {x D:Addr} {ox:Obj} {od:Obj}
theorem xo9{Q:Value→aa→Prop}{expr:Bool}{name:Str}{v:Value}(F:xls K D)(hd:hasDictIn K D=true)(X:K.In s.heap)(I:InstAt s.heap x ox D (some od))(na:findIn K (.ref D) name=some none)(hl:lookIn name od=some (some v))(hv:handedIn v=true)
  (h:Q v {s with toks:=s.toks+1}):wpAny (model prog w) A (getAttr (.ref x) name expr) Q E s:=by
 obtain⟨hh,g,d,t,os⟩:=s;have l0:=I.type (M:=model prog w);have l1:=looks_findIn (M:=model prog w) X F.ga;have l2:=looks_findIn (M:=model prog w) X F.gh;have l3:=looks_find (M:=model prog w) X I (findObj_own hd na rfl hl);unfold getAttr getAttrBy;refine af (wpAny_mkText (bz (af (l0.at (af (l1.at ?_))))));dsimp only;rw[if_neg (by rw[show(i7 "BaseException.__getattribute__"==i7 "object.__getattribute__")=false by decide,Bool.and_false];exact aJ)];unfold getAttrByItsOwn hookBefore;rw[if_pos (show onTheHeap (aB D)=true from rfl)];refine af (l2.at (af (wpAny_attempt (bz ?_))));unfold callGetattribute boundAndCalled;have hx0:(expr&&onTheHeap (i7 "BaseException.__getattribute__"))=false:=by cases expr<;> rfl
 rw[if_neg (by rw[hx0];exact aJ)];refine af (f9 (PySem.F.excAttr_ValueError.ga.bind (.ref x)) ?_);have li:Looks (model prog w) hh (iU (.ref x) (.type "BaseException")) true:=l0.andThen (looks_mroIn X F.bs);dsimp only;refine cV ?_;refine eG PySem.F.excAttr_ValueError.ga.plain PySem.F.entry_bexc_ga ?_;have hs:=PySem.F.args_bexc_ga (.ref x) (.str name t);simp only[cR,ib];refine check_slot (M:=model prog w) (A:=A.in1) (i:="BaseException.__getattribute__") (owner:="BaseException") (n:="__getattribute__") (self:=.ref x) (rest:=[.str name t]) (kw:=[]) xiJ xh2 ?_ ?_ ?_
 ·exact li
 ·exact hs
 unfold iE.«object.__getattribute__» slotArgs;simp only[List.isEmpty_nil,Bool.not_true,dR,if_false,bD,fP,Nat.zero_add,bne_self_eq_false];refine af (ay ?_);dsimp only;unfold Builtin.ObjectAttr.attrName;simp only;refine af (ay ?_);refine af (l0.at ?_);refine af (l3.at ?_);dsimp only;refine ay ?_;exact handed_on hv h
end
section
variable {X:Cx}
def xrx(K:Frag)(a:Addr)(cls:Value)(dx:Option Addr)(ta:TE)(f:Str):TE:=fun σ H Q=>ta σ H fun x H1=>∃D d fs v,x= .ref a∧cls= .ref D∧dx=some d∧H1 d=some (.xd fs)∧xls K D∧hasDictIn K D=true∧xG K D f∧fs.lookup f=some v∧Q v H1
theorem xkz{K:Frag}{a:Addr}{cls:Value}{dx:Option Addr}{ps:List (Addr×Obj)}{e:Expr}{f:Str}{pos:Pos}{ta:TE}(hK:X.K=K)(hs:∃oe:Obj,(a,oe)∈ps∧oe.cls=cls∧oe.dict=dx∧∃vs,oe.data= .fields vs)(hp:∀p∈ps,p∈X.pn)
  (he:PE X e ta) (hb:gu e f X.env (eval e X.env)=eval e X.env):PE X (.Attribute e f pos) (xrx K a cls dx ta f):=by
 subst hK;intro pins s σ H Q I h;refine xkl hb (thn (he pins s σ H _ I h) fun u s1 ⟨x,H1,I1,rx,D,d,fs,v,ex,ec,ed,hx,F,hd,na,l,q⟩=>?_);subst ex;obtain rfl:u=aB a:=rx;obtain⟨oe,hp',hc,hdx,vs,hdat⟩:=hs;have hp:=hp _ hp';have hn:notCls oe=true:=by
  obtain⟨c1,d1,dt,sl⟩:=oe;cases hdat;rfl
 obtain⟨mA,N1,r⟩:=I1.hok d _ hx;obtain⟨od,ho,hl⟩:=xhu N1;obtain⟨u,hu,ru⟩:=ux.some_of (v:=v) (o:=mA f) (by rw[←l];exact r f);have J:InstAt s1.heap a oe D (some od):=⟨(I1.pin _ (aX _ hp)).1,hc.trans ec,hn,by rw[hdx,ed];exact ho⟩;exact xo9 F hd I1.kIn J na (by rw[hl,hu]) (xhv ru) ⟨v,H1,I1.tok _,ru,q⟩
end
section
variable {X:Cx}
theorem xlx{C C':Addr}{y n:Str}{i:Nat}{np hp:Pos}{suite:List Stmt}{b₀:Stmt}{rest:List fw}{ts:Addr→Value→Option Addr→TS}{pins:List (Addr×Obj)}{σ:St}{H:Hp}{s:aa}{D:Ends}{a:Addr}{dx:Option Addr}{fl:Value}
  (o:Own X) (hb:xcc X.K C') (hg:Gl X y) (hm:X.mg y=some (.ref C')) (hN:X.N.Nodup) (hi:X.N[i]? =some n) (hk:X.env.kindOf n=some .local)
  (hsuite:∀(ps:List (Addr×Obj)) (a:Addr) (cls:Value) (dx:Option Addr),(∃oe:Obj,(a,oe)∈ps∧oe.cls=cls∧oe.dict=dx∧∃vs,oe.data= .fields vs)→PSs (X.held a ps) (b₀::suite) (ts a cls dx))
  (hdb:(y==("__debug__":Str))=false) (ok:X.Ok) (I3:Inv (X.pnd pins) [] σ H s) (F3:xbg (X.pnd pins) fl H s.heap a (.ref C) dx) (hkc:a5 X.K (.ref C) (.ref C')=some true) (q:ts a (.ref C) dx (D.gone i) (σ.set i (some (.ref a))) H):
  wpAny (model X.prog X.w) X.A (handleBy (.ref a) X.env (.ExceptHandler (some (.Name y np)) (some n) (b₀::suite) hp::rest)) (SP X pins D) X.xe s:=by
 refine eR (eu ?_) (by intro z;cases z);obtain⟨oe,vs,a0,T,oT,ts',he,hc,hx,hd,h0,h1,nT,hT,hdT,h3,hn,hnT⟩:=id F3;have J3:=Inv.held I3 ok he hn.1 hd;refine zw J3 hg hm ?_ hdb;refine xaV (K:=X.K) I3.kIn he hc hkc hb ?_;refine gE ?_;refine jg (X:=X.pnd pins) (to:=none) o.pnd I3 F3 fun s4 I4 F4=>?_;obtain⟨oe',vs',a0',T',oT',ts'',he',hc',hx',hd',h0',h1',nT',hT',hdT',h3',hn',hnT'⟩:=id F4;have J4:=Inv.held I4 ok he' hn'.1 hd';refine xa7 (X:=X.held a (pins++[(a,oe')])) (v:=.ref a) J4 hN hi (.inl hk) rfl (fun s5 J5=>?_) (.inr hk);refine aI (hsuite (pins++[(a,oe')]) a (.ref C) dx ⟨oe',by simp,hc',hx',_,hd'⟩ [] s5 _ H (D.gone i) J5 q) (fun f s6 hq=>?_) fun _ _ z=>z.elim;have hq':SP X pins (D.gone i) f s6:=hq.unheld ok;cases f with
 |next=>
  obtain⟨σ',H',J,z⟩:=hq';exact xeH J hN hi hk fun s7 J7=>⟨_,_,J7,z⟩
 |brk=>
  obtain⟨σ',H',J,z⟩:=hq';exact xeH J hN hi hk fun s7 J7=>⟨_,_,J7,z⟩
 |cont=>
  obtain⟨σ',H',J,z⟩:=hq';exact xeH J hN hi hk fun s7 J7=>⟨_,_,J7,z⟩
 |ret u=>
  obtain⟨v,σ',H',J,r,z⟩:=hq';exact xeH J hN hi hk fun s7 J7=>⟨_,_,_,J7,r,z⟩
theorem xjQ{C C':Addr}{y:Str}{n:Option Str}{np hp:Pos}{suite:List Stmt}{rest:List fw}{pins:List (Addr×Obj)}{σ:St}{H:Hp}{s:aa}{Q:Flow→aa→Prop}{a:Addr}{dx:Option Addr}{fl:Value}
  (hb:xcc X.K C') (hg:Gl X y) (hm:X.mg y=some (.ref C')) (hdb:(y==("__debug__":Str))=false) (ok:X.Ok) (I3:Inv (X.pnd pins) [] σ H s) (F3:xbg (X.pnd pins) fl H s.heap a (.ref C) dx) (hkc:a5 X.K (.ref C) (.ref C')=some false)
  (h:wpAny (model X.prog X.w) X.A (handleBy (.ref a) X.env rest) Q X.xe s):
  wpAny (model X.prog X.w) X.A (handleBy (.ref a) X.env (.ExceptHandler (some (.Name y np)) n suite hp::rest)) Q X.xe s:=by
 refine eR (eu ?_) (by intro z;cases z);obtain⟨oe,vs,a0,T,oT,ts',he,hc,hx,hd,h0,h1,nT,hT,hdT,h3,hn,hnT⟩:=id F3;have J3:=Inv.held I3 ok he hn.1 hd;refine zw J3 hg hm ?_ hdb;refine xaV (K:=X.K) I3.kIn he hc hkc hb ?_;exact h
end
section
variable {P:ak} {w:World} {K:ag} {mg:Str→Option Value} {base:Heap}
end
section
variable {X:Cx} {EE:EEs} {k:Nat} {f C:Addr} {fd:aq} {ps:List Str} {sp:Sp} {dvs:List V} {ds:List Value} {x m:Str} {p pos apos:Pos} {e o:Expr} {es:List Expr} {ta:TE} {t:TA}
def xf8(C:Addr)(m:Str)(sp:Sp)(dvs:List V)(EE:EEs)(ta:TE)(t:TA):TE:=fun σ H Q=>ta σ H fun x H1=>∃a dx fs,x= .ref a∧H1 a=some (.ins C dx fs)∧fs.lookup m=none∧
 t σ H1 fun vs H2=>sp (x::(vs++dvs)) H2 Q (EE σ)
theorem xbi{pl:Sem Bool}(ow:Own X)(he:PE (X.wish (XE X EE)) o ta)(c:Cls X.K C)(hm:Meth X.K C m f)(F:xy X.prog X.w X.K X.mg X.base (CXE X.prog X.w) k f fd ps sp)(hr:xS k X.A)(hb:Binds X.K fd ps ds)(hd:Vals dvs ds)(ha:PA (X.wish (XE X EE)) (e::es) t)
  (hst:aC (e::es) X.env=(false,eval e X.env)::aC es X.env:=by rfl) (hpl:(bC pos (aC es X.env)).any (·.1)=false:=by rfl)
  (ht:eval (.Call (.Attribute o m apos) (e::es) [] pos) X.env=(do
   let ov ←eval o X.env
   fE apos.atName
   let(f,first) ←ee [ov] (eB ov m pl)
   dY pos f first (bC pos (aC (e::es) X.env)) (fy pos (dZ [] X.env))):=by rfl):
  PE (X.wish (XE X EE)) (.Call (.Attribute o m apos) (e::es) [] pos) (xf8 C m sp dvs EE ta t):=by
 intro pins s σ H Q I h;refine c8 (pl:=pl) (thn (he pins s σ H _ I h) fun u s1 ⟨x,H1,I1,rx,a,dx,fs,ex,ea,l,q⟩=>?_) ht;subst ex;obtain rfl:u=aB a:=rx;refine vg I1 ea c hm l ?_;refine eo (first:=[.ref a]) (h₀:=X.base) I.ok.mod.kin hm.kp (thn (ha pos pins s1 σ H1 _ I1 q) fun us s2 ⟨vs,H2,I2,r,q2⟩=>⟨I2.kIn,?_⟩) hst hpl;exact xkx (us:=.ref a::us) (vs:=.ref a::vs) ow F hr hb hd I2 (.cons rfl r) q2
theorem jh{pl:Sem Bool}(ow:Own X)(he:PE (X.wish (XE X EE)) o ta)(c:Cls X.K C)(hm:Meth X.K C m f)(F:xy X.prog X.w X.K X.mg X.base (CXE X.prog X.w) k f fd ps sp)(hr:xS k X.A)(hb:Binds X.K fd ps ds)(hd:Vals dvs ds)
  (ht:eval (.Call (.Attribute o m apos) [] [] pos) X.env=(do
   let ov ←eval o X.env
   fE apos.atName
   let(f,first) ←ee [ov] (eB ov m pl)
   dY pos f first (bC pos (aC [] X.env)) (fy pos (dZ [] X.env))):=by rfl):
  PE (X.wish (XE X EE)) (.Call (.Attribute o m apos) [] [] pos) (xf8 C m sp dvs EE ta vy):=by
 intro pins s σ H Q I h;refine c8 (pl:=pl) (thn (he pins s σ H _ I h) fun u s1 ⟨x,H1,I1,rx,a,dx,fs,ex,ea,l,q⟩=>?_) ht;subst ex;obtain rfl:u=aB a:=rx;refine vg I1 ea c hm l ?_;exact i3 (first:=[.ref a]) I1.kIn hm.kp (xkx (us:=[.ref a]) (vs:=[.ref a]) ow F hr hb hd I1 (.cons rfl .nil) q)
end
def FnV(P:ak)(w:World)(K:ag)(mg:Str→Option Value)(base:Heap)(k:Nat)(H:Hp)(f:Addr)(vs:List V)(Q:VK):Prop:=
 ∃nm qual params body scope ps sp fv,yA P w K mg base CX0 k nm qual params body scope ps sp∧yJ H f nm qual params body scope fv∧sp fv vs H Q E0
section
variable {X:Cx} {k:Nat} {x:Str} {p pos:Pos} {e:Expr} {es:List Expr} {t:TA}
def xqG(X:Cx)(k:Nat)(i:Nat)(t:TA):TE:=fun σ H Q=>∃f,σ[i]? =some (some (.ref f))∧(∃nm qual params body scope fv,yJ H f nm qual params body scope fv)∧t σ H fun vs H1=>FnV X.prog X.w X.K X.mg X.base k H1 f vs Q
theorem xiL(i:Nat)(hr:xS k X.A)(ha:PA X (e::es) t)(hN:X.N[i]? =some x:=by rfl)(hv:Vis X.env.scope x:=by first|exact aA rfl|exact cI (aA rfl)|exact cI (cI rfl))(hd:(x==("__debug__":Str))=false:=by decide)
  (hcd:(x==("__classdict__":Str))=false:=by decide) (he:aC (e::es) X.env=(false,eval e X.env)::aC es X.env:=by rfl) (hpl:(bC pos (aC es X.env)).any (·.1)=false:=by rfl):
  PE X (.Call (.Name x p) (e::es) [] pos) (xqG X k i t):=by
 intro pins s σ H Q I h;obtain⟨f,e1,⟨_,_,_,_,_,_,hc0⟩,h⟩:=h;refine bO (thn (xfI (pos:=p) hN hv hd hcd pins s σ H (fun v H1=>v= .ref f∧H1=H) I ⟨_,e1,rfl,rfl⟩) fun u s1 ⟨v,H1,I1,r,q1,q2⟩=>?_);subst q1;subst q2;cases (show u=aB f from r);refine W.callWith_F (hc0.fn I1) (thn (ha pos pins s1 σ H1 _ I1 h) fun us s2 ⟨vs,H2,I2,r2,q⟩=>?_) he hpl;obtain⟨nm,qual,params,body,scope,ps,sp,fv,F,hc,q⟩:=q;exact⟨hc.fn I2,xku F hr xt I2 hc r2 q⟩
end
end L2
namespace L2
open PySem PySem.Spec PyProof.Rows
theorem xS.units65{k:Nat}{A:aE}(r:xS k A):A.units+65<cLine:=by have:=r.un;lia
end L2
namespace PySem
open Sem (wp)
open AutoSeq1 (wpAny_loadPart')
abbrev kwS(k:Int)(t:Tok):List (Str×Value):=[(br "start",.int k t)]
theorem xpa(a:Value)(k:Int)(t:Tok):checkTypeCall "enumerate" ⟨[a],kwS k t⟩=pure ():=by kernel_rfl
theorem xqH(a:Value)(k:Int)(t:Tok):checkBuiltinCall "enumerate.__new__" ⟨[.type "enumerate",a],kwS k t⟩=pure ():=by kernel_rfl
theorem xpb(x a:Value)(k:Int)(t:Tok):argsOk "object.__init__" ⟨[x,a],kwS k t⟩:=by
 unfold argsOk;rw[signature?_of (id:="object.__init__") (n:="__tini__".toList) (o:="tcejbo".toList) (by kernel_rfl) F.owner_object]
 kernel_rfl
theorem xpc(l:Addr)(items:Array Value)(n:Nat)(dct:Option Addr)(sl:Array (Option Value))(k:Int)(t:Tok)(hf:ez k=true):
  Meets (iE.«enumerate.__new__» ⟨[.type "enumerate",.ref l],kwS k t⟩) (fun _ R s=>s.heap.get? l=some ⟨.type "list",dct,.seq items n,sl⟩∧
   R (.ok (.ret (.ref (s.heap.objs.size+1))))
    {s with heap:=(s.heap.push {cls:=.type "list_iterator",data:=.fields #[.ref l,.int 0 0]}).push {cls:=.type "enumerate",data:=.fields #[.none,.bool false,.ref s.heap.objs.size,bj k,.none,.none]}}):=by
 refine .of_wp fun prog w A R s h=>?_;obtain⟨hl,h⟩:=h;obtain⟨hp,g,d,tk,os⟩:=s;have hz:(hp.push {cls:=.type "list_iterator",data:=.fields #[.ref l,.int 0 0]}).objs.size=hp.objs.size+1:=ek ..;have hsub:=sub_enumerate;have hL:Heap.IsList (Shared.heap ⟨hp,g,d,tk,os⟩) l items:=⟨_,hl,rfl,n,rfl⟩
 wp_walk using ij hl
 refine wpAny_stack_any fun st=>ay ?_
 split
 ·rename_i c _ _ _ _ _;cases (c==eC "enumerate")<;>
   (wp_walk using ij hl,fj hL;exact⟨_,rfl,by rw[hz];exact h⟩)
 ·wp_walk using ij hl,fj hL
  exact⟨_,rfl,by rw[hz];exact h⟩
theorem xmD{T newId:String}{x y:Value}{kw:List (Str×Value)}(hl:iL (.type T) "__init__"=pure (some (.builtin "object.__init__")))(hm:Bind.madeBy (.type T)=pure (some newId))(hne:(some newId != some "object.__new__")=true):
  Meets (iE.«object.__init__» ⟨[x,y],kw⟩) (fun _ R s=>s.TypeIs x T∧R (.ok (.ret .none)) s):=
 .of_wp fun prog w A R s h=>by
  obtain⟨hT,h⟩:=h
  repeat (any_goals (first|assumption|wp_step))
  exact⟨_,rfl,h⟩
section
variable {prog:ak} {w:World} {A:aE} {E:Value→aa→Prop} {s:aa}
theorem xly{l:Addr}{items:Array Value}{k:Int}{t:Tok}{Q:Value→aa→Prop}(hL:s.heap.IsList l items)(hf:ez k=true)
  (h:∀h',gX h' (s.heap.objs.size+1) s.heap.objs.size k .none→h'.IsListIter s.heap.objs.size l 0→(∀b o,s.heap.get? b=some o→h'.get? b=some o)→Q (.ref (s.heap.objs.size+1)) {s with heap:=h'}):
  wpAny (model prog w) A (call (.type "enumerate") [.ref l] (kwS k t)) Q E s:=by
 obtain⟨⟨c0,dct,dt,sl⟩,hl,hc,n,hd⟩:=hL;obtain rfl:c0= .type "list":=hc;obtain rfl:dt= .seq items n:=hd;have ft:=F.called_enumerate;obtain⟨c,tl,hmro⟩:=ft.mro;have hct:=xpa (.ref l) k t;have hmade:=ft.made;have hsub:=ft.sub;have h1:=ft.notType;have h2:=ft.canCreate;have hz:(s.heap.push {cls:=.type "list_iterator",data:=.fields #[.ref l,.int 0 0]}).objs.size=s.heap.objs.size+1:=ek ..;have he:gX ((s.heap.push {cls:=.type "list_iterator",data:=.fields #[.ref l,.int 0 0]}).push {cls:=.type "enumerate",data:=.fields #[.none,.bool false,.ref s.heap.objs.size,bj k,.none,.none]}) (s.heap.objs.size+1) s.heap.objs.size k .none:=by
  rw[←hz];exact aL _ rfl
 have fin:=h _ he ⟨_,ai _ (aL _ rfl),rfl,rfl⟩ fun b o x=>ai _ (ai _ x);refine cV (codeAny_of_tree (ay ⟨gp _ (by decide+kernel),fQ F.entry_type_call ?_⟩));rw[Around.under_plain (weight_type_call_type "enumerate" [.ref l] (kwS k t)) (units_type_call_type "enumerate" [.ref l] (kwS k t))]
 repeat (any_goals (first|assumption|wp_step))
 refine bU (eG ft.plain iF (f9 (xqH (.ref l) k t) (xpc l items n dct sl k t hf prog w A.in1 (wants (fun obj s₁=>s₁.TypeIs obj "enumerate"∧Q obj s₁) E) s ⟨hl,⟨_,he,rfl⟩,fin⟩))) fun r s₁ hr=>?_;rcases r with e|fl
 ·exact hr
 cases fl with
 |ret obj=>
  obtain⟨hT,hq⟩:=(show s₁.TypeIs obj "enumerate"∧Q obj s₁ from hr);have hli:=ft.init.lookup;have hbi:=ft.init.bind obj
  repeat (any_goals (first|assumption|wp_step))
  refine bU (eG ft.init.plain F.entry_object_init (ft.init.check _ _ _ _ _ _ _ _ hT (xpb obj (.ref l) k t) (xmD (T:="enumerate") (kw:=kwS k t) ft.init.lookup ft.made (by decide) prog w A.in1 (wants (fun r s₂=>r= .none∧Q obj s₂) E) s₁ ⟨hT,rfl,hq⟩))) fun r₂ s₂ h3=>?_;rcases r₂ with e|f2
  ·exact h3
  cases f2 with
  |ret r=>
   obtain⟨rfl,h4⟩:=(show r= .none∧Q obj s₂ from h3)
   repeat (any_goals (first|assumption|wp_step))
  |_=>exact h3.elim
 |_=>exact hr.elim
end
end PySem
namespace L2
open PySem PySem.Spec PyProof.Rows
theorem xjR{prog:ak}{w:World}{A:aE}{it:Addr}{fp:List Addr}{n:Nat}{Pv:Nat→Value→Prop}{St:Nat→Heap→Prop}(D:Draws prog w A it fp n Pv St)(m:Nat):
  Draws prog w A it fp (m+n) (fun i v=>m≤i∧Pv (i - m) v) (fun i h=>m≤i∧St (i - m) h) where
 live:=fun _ _ st=>D.live _ _ st.2
 frame:=fun _ _ _ st hk=>⟨st.1,D.frame _ _ _ st.2 hk⟩
 item:=fun i s Q E hi st hQ=>D.item (i - m) s Q E (by lia) st.2 fun x h' tk hp hs hb=>hQ x h' tk ⟨st.1,hp⟩ ⟨by lia,by rw[show i+1 - m=i - m+1 by lia];exact hs⟩ hb
 done:=fun s Q E st hE=>D.done s Q E (by have:=st.2;rwa [show m+n - m=n by lia]at this) hE
section
variable {M:Model} {A:aE} {E:Value→aa→Prop} {s:aa}
theorem xjS{pos:Pos}{T:String}{args:List (Bool×Sem Value)}{kws:List (Option Str×Sem Value)}{Q:Value→aa→Prop}(hp:args.any (·.1)=false)(hk:kws.any (·.1.isNone)=false)
  (h:wpAny M A (iT (.type T) true args kws) (fun a s₁=>wpAny M A (call (.type T) a.pos a.kw) Q E s₁) E s):wpAny M A (dY pos (.type T) [] args kws) Q E s:=by
 unfold dY;refine af (bz ?_);refine aI h (fun a s₁ h₁=>?_) fun _ _ x=>x;refine af (bT ?_);simp only[hp,hk,Bool.or_false];refine af (ay (af ?_));refine aI h₁ (fun r s₂ hr=>?_) fun _ _ x=>x;exact af (bz (wpAny_point (ay hr)))
end
def xnG(K:ag)(a:Addr)(m:Nat):It:=
 ⟨fun i H=>∃xs x,SqL K H a xs∧xs[i]? =some x,fun i H v H'=>∃T x,v= .ref T∧H T=none∧H'=upd H T (.tup [.int ((m+i:Nat):Int),x])∧∀xs,SqL K H a xs→xs[i]? =some x,fun i H=>∃xs,SqL K H a xs∧xs.length≤i⟩
theorem xlz{P:ak}{w:World}{K:ag}{es:List Expr}{k:Nat}{pos:Pos}(a e it:Addr)(m:Nat)(hne:e≠it):Turn P w K (.Tuple es k pos) (xnG K a m) [e,it] e (fun i h=>(∃old,gX h e it ((m+i:Nat):Int) old)∧h.IsListIter it a i) where
 mem:=by simp
 obj:=fun i h st b hb=>by
  obtain⟨⟨old,he⟩,⟨o,e1,c,d⟩⟩:=st;rcases av.mp hb with z|z
  ·subst z;exact⟨_,he,fun v z=>by cases z⟩
  ·rw[aj.mp z];exact⟨o,e1,fun v z=>by rw[d]at z;cases z⟩
 keep:=fun i h h' st kk=>by
  obtain⟨⟨old,he⟩,hit⟩:=st;exact⟨⟨old,kk e (by simp) _ he⟩,hit.at fun o x=>kk it (by simp) o x⟩
 item:=by
  intro X hP hw hK hc i pins s σ H E I hf st hg;subst hP hw hK;obtain⟨xs,x,hq,hx⟩:=hg;obtain⟨its,rv,p,hz⟩:=I.list hq;obtain⟨u,hu,ru⟩:=rv.get hx;obtain⟨⟨old,he⟩,hit⟩:=st;have he':=aw he;have hi':it<s.heap.objs.size:=by obtain⟨o,q,_⟩:=hit;exact aw q
  have hil:i<its.length:=by
   have:=(az.mp hu).1;exact this
  have pl:=p.isList;have hai:a≠it:=fun z=>by
   obtain⟨o1,q1,c1,_⟩:=pl;obtain⟨o2,q2,c2,_⟩:=hit;rw[z,q2]at q1;cases q1;rw[c2]at c1;simp at c1
  have hae:e≠a:=fun z=>by
   obtain⟨o1,q1,c1,_⟩:=pl;rw[←z,he]at q1;cases q1;simp at c1
  have D:=xjR (Draws.list (prog:=X.prog) (w:=X.w) (A:=X.A.in1) (I.ok.hd hc) it a hai its.toArray) m;refine hW D he ⟨by lia,by rw[show m+i - m=i by lia];exact⟨hit,pl⟩⟩ (by simp;lia) hne (by simp[hne,hae]) fun y h' tk hy heo hst hT hsz hk=>?_;have ey:y=u:=by
   have h1:=hy.2;rw[show m+i - m=i by lia]at h1;have h2:its.toArray[i]? =some u:=by simpa using hu
   rw[h2]at h1;exact(bh h1).symm
  subst ey;have hit':=hst.2.1;rw[show m+i+1 - m=i+1 by lia]at hit';refine⟨_,rfl,eM (s:={s with heap:=h',toks:=tk+1}) heo fun h2 he2 hs2=>?_⟩;have hT2:h2.get? s.heap.objs.size=some {cls:=.type "tuple",data:=.seq #[.int ((m+i:Nat):Int) tk,y]}:=(hs2.2 _ (eg he')).trans hT;have I2:Inv X pins σ (upd H s.heap.objs.size (.tup [.int ((m+i:Nat):Int),x])) {s with heap:=h2,toks:=tk+1}:=by
   refine I.turnLaid (ch:=[e,it]) (fun b o hb q=>?_) (ax _) ⟨by simp[aZ],[.int ((m+i:Nat):Int) tk,y],.cons ⟨_,rfl⟩ (.cons ru .nil),⟨_,hT2,rfl,_,rfl⟩⟩ (fun b hb=>(hf b hb).1) (fun b hb=>?_) fun b hb=>?_
   ·have b1:b≠e:=fun z=>hb (by simp[z]);have b2:b≠it:=fun z=>hb (by simp[z]);exact(hs2.2 b b1).trans (hk b o b1 b2 q)
   ·rcases av.mp hb with z|z
    ·rw[z];exact he'
    ·rw[aj.mp z];exact hi'
   ·obtain⟨f0,f1,f2,f3,f4,f5⟩:=hf b hb;exact⟨f3,f1,f4,f5⟩
  refine⟨.ref s.heap.objs.size,_,I2,rfl,⟨_,x,rfl,I.hok.fresh (ax _),rfl,fun ys hy=>by rw[I.list_inj hy hq];exact hx⟩,⟨⟨y,by rw[show((m+(i+1):Nat):Int)=((m+i:Nat):Int)+1 by lia];exact he2⟩,hit'.extBut hs2.extBut (au hne)⟩,fun b hb=>?_⟩;have hb':b≠s.heap.objs.size:=by
   rcases av.mp hb with z|z
   ·rw[z];exact aG he'
   ·rw[aj.mp z];exact aG hi'
  rw[xl hb'];exact(hf b hb).1
 done:=by
  intro X hP hw hK hc i pins s σ H E I hf st hg;subst hP hw hK;obtain⟨xs,hq,hx⟩:=hg;obtain⟨its,rv,p,hz⟩:=I.list hq;obtain⟨⟨old,he⟩,hit⟩:=st;obtain⟨f0,f1,f2,f3,f4,f5⟩:=hf it (by simp);have hl:=rv.length;have pl:=p.isList;have D:Draws X.prog X.w X.A.in1 it [it,a] 0 (fun _ _=>False) (fun _ h=>h.IsListIter it a i∧h.IsList a its.toArray):={
   live:=fun _ _ st=>let⟨o,ho,_⟩:=st.1;⟨o,ho⟩
   frame:=fun _ _ _ st hk=>⟨st.1.at fun o e=>hk it (by simp) o e,st.2.at fun o e=>hk a (by simp) o e⟩
   item:=fun j s Q E hj=>absurd hj (ik _)
   done:=fun s Q E st hE=>wpAny_nextOf_list_end (I.ok.hd hc) st.1 st.2 (by simp;lia) hE}
  exact wpAny_pyNext_enum_endD D he ⟨hit,pl⟩ fun h' eb=>⟨rfl,I.turned (t':=s.toks) (fun b o hb e=>eb b o hb e) f0 f1 f3 f4 f5⟩
 self:=fun _ _ _ _ _ st h=>by
  obtain⟨⟨old,he⟩,_⟩:=st;exact dm he h
section
variable {X:Cx} {es:List Expr} {k:Nat} {tp:Pos}
def xqI(K:ag)(ta:TA)(tf:TE):TI:=fun σ H R=>ta σ H fun vs H1=>tf σ H1 fun y H2=>∃(a:Addr) (m:Nat),vs=[.ref a]∧y= .int m∧(m:Int)<2^62∧(∃xs,SqL K H2 a xs)∧R (xnG K a m) H2
theorem xnH{l fe:Expr}{ta:TA}{tf:TE}{p pos kp:Pos}(hg:Gl X "enumerate")(hm:X.mg "enumerate"=none)(ha:PA X [l] ta)(hf:PE X fe tf)
  (he:bC pos (aC [l] X.env)=(false,eval l X.env)::bC pos (aC [] X.env):=by rfl):PI X (.Tuple es k tp) (.Call (.Name "enumerate" p) [l] [⟨some "start",fe,kp⟩] pos) (xqI X.K ta tf):=by
 intro pins s σ H R I h;refine bO (uQ I hg hm xbe ?_);refine xjS (by rw[he];rfl) rfl ?_;rw[he];refine evalArgs_kwB rfl ?_;rw[←he];refine thn (ha pos pins s σ H _ I h) fun us s1 h1=>?_;obtain⟨vs,H1,I1,r1,q1⟩:=h1;refine kws_cons (thn (hf pins s1 σ H1 _ I1 q1) fun fu s2 h2=>kws_nil ?_);obtain⟨y,H2,I2,r2,a,m,rfl,rfl,hm2,⟨xs,hq⟩,q⟩:=h2;obtain⟨u,rfl,ru⟩:=Vals.one r1;cases ru;obtain⟨tz,rfl⟩:=r2;obtain⟨its,rv,pl,hz⟩:=I2.list hq;show wpAny _ _ (call (.type "enumerate") [.ref a] (kwS m tz)) _ _ s2;refine xly pl.isList (by simp[ez];lia) fun h' he hi hk=>dm (s:={s2 with heap:=h'}) he ?_;refine⟨s2.heap.objs.size+1,[s2.heap.objs.size+1,s2.heap.objs.size],_,_,H2,rfl,I2.kept (t':=s2.toks) hk,xlz a _ _ m (gY _),⟨⟨.none,by simpa using he⟩,hi⟩,fun b hb=>?_,q⟩;rcases av.mp hb with z|z
 ·rw[z];exact I2.fpOk (dy _) (I2.hok.fresh (dy _))
 ·rw[aj.mp z];exact I2.fpOk (ax _) (I2.hok.fresh (ax _))
end
theorem xjT{K:ag}{l:Addr}{n:Nat}{xs:List V}{g:TG}{tb:TS}{D:Ends}{σ:St}{H:Hp}(Pv:Nat→St→Hp→Prop)(h0:Pv 0 σ H)(hl:∀i σ H,i≤xs.length→Pv i σ H→SqL K H l xs)
  (hs:∀i x σ H T,xs[i]? =some x→Pv i σ H→H T=none→g (.ref T) σ (upd H T (.tup [.int ((n+i:Nat):Int),x])) fun σ2 H2=>tb {D with nx:=Pv (i+1),ct:=Pv (i+1),bk:=D.nx} σ2 H2) (hd:∀σ H,Pv xs.length σ H→D.nx σ H):uK (xnG K l n) g tb D σ H:=by
 unfold uK;refine⟨fun i m σ H=>m=xs.length - i∧i≤xs.length∧Pv i σ H,⟨xs.length,by simp,bM _,h0⟩,?_⟩;rintro i m σ H ⟨rfl,hi,p⟩;have hq:=hl i σ H hi p
 by_cases hlt:i<xs.length
 ·have hx:xs[i]? =some xs[i]:=aK hlt;refine .inr ⟨⟨xs,xs[i],hq,hx⟩,Pv (i+1),fun σ' H' p'=>⟨xs.length - (i+1),by lia,rfl,hlt,p'⟩,fun v H' y=>?_⟩;obtain⟨T,x,rfl,hT,rfl,hx'⟩:=y;exact hs i x σ H T (hx' xs hq) p hT
 ·obtain rfl:i=xs.length:=by lia
  exact .inl ⟨⟨xs,hq,ax _⟩,hd σ H p⟩
end L2
namespace L2
open PySem PySem.Spec PyProof.Rows
abbrev xr0(cap:List Str)(P:ak)(w:World)(K:ag)(mg:Str→Option Value)(base:Heap)(N:List Str)(qual:Str)(sc:Scope)(f:Addr)(cd:Value)(A:aE)(outer:List Env)(s:aa)(H:Hp)(E:XK):Cx:=
 (vj cap (CXE P w) P w K mg base N qual sc f cd A outer s H E).wish (XE (vj cap (CXE P w) P w K mg base N qual sc f cd A outer s H E) fun _=>E)
theorem Fun.okXK{P:ak}{w:World}{K:ag}{mg:Str→Option Value}{base:Heap}{x qual:Str}{st:Stmt}{f c:Addr}{fd:aq}{N ps:List Str}{k:Nat}{sp:Sp}(cap:List Str)(F:Fun K x qual st f fd)(hc:fd.code= .ref c)(S:xr N ps (xh st))(len:∀vs H Q E,sp vs H Q E→vs.length=ps.length)
  (hbody:∀(A:aE) (outer:List Env) (s:aa) (H:Hp) (vs:List V) (Q:VK) (E:XK),xS k (A.deeper (di qual (xh st) s.heap.objs.size f (.ref c)))→sp vs H Q E→
   ∃t,PSs (xr0 cap P w K mg base N qual (xh st) f (.ref c) A outer s H E) (xI st) t∧t {nx:=fun _ H'=>Q .non H',rt:=Q} (start N vs) H):xy P w K mg base (CXE P w) (k+1) f fd ps sp:=by
 obtain⟨oc,od,kV,doc,pm,an,cdv,ct,osl,rfl,lk,hcd⟩:=F.ex;obtain rfl:cdv= .ref c:=hc;refine⟨len,fun A outer s H args us vs Q E hr e0 hb r hsp=>?_⟩;have hl:=len _ _ _ _ hsp;have KX:K.In s.heap:=e0.mod.kin.keeps fun b o e=>(e0.bs b o e).1;have lim:s.heap.NoLimit:=e0.mod.nolimit.keeps fun b o e=>(e0.bs b o e).1;have hkind:∀y∈ps.zip us,(xh st).names.lookup y.1=some .local∨((xh st).names.lookup y.1=some .cell∧((fF (s.heap.objs.size+1) (xh st).names []).lookup y.1).isSome=true):=fun⟨n,v⟩ hy=>by
  rcases S.par n (cF hy).1 with q|q
  ·exact .inl q
  ·exact .inr ⟨q,dz _ _ _ (.inl q)⟩
 refine cx hr.depth (KX _ _ lk) rfl S.co S.gen rfl (fM KX hcd) (hb _ _ _ _ ?_);refine cq S.kind hkind fun env he s1 x=>?_;subst he;refine⟨lim.keeps x.toInCall.keep,fN ?_⟩;obtain⟨t,ht0,hq⟩:=hbody A outer s H vs Q E (hr.deeper _) hsp;have ht:PSs (vj cap (CXE P w) P w K mg base N qual (xh st) f (.ref c) A outer s H E) (xI st) t:=ht0.wished fun e s' ⟨a,cls,dx,σ,H',he,I,Fl,z⟩=>by
  subst he;refine xf6 ⟨rfl,rfl,rfl⟩ I.ok.frames I Fl fun s2 I2 F2=>?_;obtain⟨oe,vs,a0,T,oT,ts,he,hc,hx,hd,h0,h1,nT,hT,hdT,h3,hn,hnT⟩:=F2;exact⟨a,cls,dx,H',oe,vs,a0,T,oT,ts,rfl,I2.os,I2.bare,I2.base,I2.hok,he,hc,hx,hd,h0,h1,nT,hT,hdT,h3,hn.1,hn.2.1,hnT.1,hnT.2.1,z⟩
 have I:Inv (uz (CXE P w) P w K mg base N qual (xh st) f (.ref c) A outer s H E) [] (start N vs) H s1:=xao S hr.hd e0 hl r x;have I':Inv (vj cap (CXE P w) P w K mg base N qual (xh st) f (.ref c) A outer s H E) [] (start N vs) H s1:=I.capd (fun _=>rfl) (xir cap);refine aI (ht [] s1 (start N vs) H _ I' hq) (fun fl s' hs=>?_) fun e s' hs=>hs;have fin:∀{σ':St} {H':Hp} {v:V} {u:Value},Inv (vj cap (CXE P w) P w K mg base N qual (xh st) f (.ref c) A outer s H E) [] σ' H' s'→RelV v u→Q v H'→CE outer P w H s Q u s':=
  fun{σ' H' v u} J rv q=>⟨v,H',J.os,J.bare,J.base,J.hok,rv,q⟩
 cases fl with
 |ret u=>
  obtain⟨v,σ',H',J,rv,q⟩:=hs;exact fin J rv q
 |next=>
  obtain⟨σ',H',J,q⟩:=hs;exact fin (v:=V.non) (u:=aU) J rfl q
 |brk=>
  obtain⟨_,_,_,q⟩:=hs;exact aV q
 |cont=>
  obtain⟨_,_,_,q⟩:=hs;exact aV q
end L2
namespace L2
open PySem PySem.Spec PyProof.Rows
def xr1(K:ag):R2:=fun x y H Q=>∃da ds,Rp K H x da∧Rp K H y (.list ds)∧dC da=true∧bt ds=true∧Q (.bl (ds.any fun z=>eE z da)) H
theorem xqJ{X:Cx}(hu:X.A.units+65<cLine):OpR X (bx .In) (xr1 X.K):=by
 intro pins s σ H x y v u Q I rx ry q;obtain⟨da,ds,hx,hy,sa,sb,q⟩:=q;obtain⟨as,ra⟩:=hx.reads I rx;obtain⟨bs,rb⟩:=hy.reads I ry;exact SeqAt.in_list_reads rb ra sb (SeqAt.canLay_of_shaped sa) (room_in_shaped sa hu) ⟨.bl _,H,I,rfl,q⟩
end L2
namespace L2
open PySem PySem.Spec PyProof.Rows
def xry(X:Cx)(H:Hp)(h:Heap)(a:Addr)(cls:Value)(dx:Option Addr):Prop:=
 ∃oe vs a0,h.get? a=some oe∧oe.cls=cls∧oe.dict=dx∧oe.data= .fields vs∧vs[0]? =some a0∧vs[1]? =some .none∧vs[2]? =some .none∧Nu X H a
def xc0(X:Cx)(fl:Value)(H:Hp)(h:Heap)(a:Addr)(cls:Value)(dx:Option Addr):Prop:=
 ∃oe vs a0 T oT ts,h.get? a=some oe∧oe.cls=cls∧oe.dict=dx∧oe.data= .fields vs∧vs[0]? =some a0∧vs[1]? =some (.ref T)∧vs[2]? =some .none∧T≠a∧h.get? T=some oT∧oT.data= .fields ts∧ts[3]? =some fl∧Nu X H a∧Nu X H T
def xnI(X:Cx)(H:Hp)(h:Heap)(a:Addr)(cls:Value)(dx:Option Addr):Prop:=
 xry X H h a cls dx∨xc0 X .none H h a cls dx∨xc0 X (bj X.env.locals) H h a cls dx
def XEN(X:Cx)(EE:EEs):Value→aa→Prop:=fun e s'=>
 ∃a cls dx σ H,e= .ref a∧Inv X [] σ H s'∧xnI X H s'.heap a cls dx∧EE σ cls dx H
section
variable {X:Cx} {pins:List (Addr×Obj)} {σ:St} {H:Hp} {s:aa}
theorem xeY{M:Model}{A':aE}{E:Value→aa→Prop}{Q:Unit→aa→Prop}{a:Addr}{oe:Obj}{vs:Array Value}{a0 head:Value}{had:Bool}(o:Own X)(hfr:A'.frames=some X.stack)(I:Inv X [] σ H s)
  (he:s.heap.get? a=some oe) (hd:oe.data= .fields vs) (h0:vs[0]? =some a0) (h1:1<vs.size) (h2:vs[2]? =some .none) (hn:Nu X H a)
  (h:∀s',Inv X [] σ H s'→xc0 X (bj X.env.locals) H s'.heap a oe.cls oe.dict→Q () s'):
  wpAny M A' (do let f ←frameOf X.env;let pl ←entryPlaceOf X.env.locals had;let b ←eQ head f .none (bj X.env.locals) .none pl;setField (.ref a) 1 b) Q E s:=by
 have hfs:s.heap.FunFrames X.base (X.env::X.outer):=by have:=I.stack;rwa [o.st]at this
 have hmem:∀b,b∈(X.env::X.outer).filterMap (·.frame)↔b∈frs X.stack:=fun b=>by rw[o.st];rfl
 have hna:a∉frs X.stack:=fun z=>by
  obtain⟨_,u,hu,hnf⟩:=hfs.mem ((hmem a).mpr z);rw[he]at hu;injection hu with hu;subst hu;exact hnf vs hd
 refine af (wpAny_frameOf_fun (by rw[hfr,o.st]) hfs o.fr fun g1 so=>?_);refine af (wpAny_entryPlaceOf fun pl hpl=>?_);unfold eQ newFields;refine af (dk ?_ (hpl.sizeOk5 _ _ _ _ _));have g1a:g1.get? a=some oe:=(so.2.1 a fun z=>hna ((hmem a).mp z)).trans he;generalize hT:({cls:=.type "traceback",dict:=none,data:=.fields ([head,.ref X.env.locals,.none,bj X.env.locals,.none]++(if pl.isEmpty then aQ 6 aU else pl)).toArray}:Obj)=ot;have g2a:=ai (h:=g1) ot g1a;refine cz g2a hd h1 ?_;have neT:g1.objs.size≠a:=eg (aw g1a);have d3:=cZ hd (·.setIfInBounds 1 (aB g1.objs.size));have a3:=a8 (bg (·.setIfInBounds 1 (aB g1.objs.size))) g2a (c9 d3);have t3:((g1.push ot).update a (bg (·.setIfInBounds 1 (aB g1.objs.size)))).get? g1.objs.size=some ot:=(aO _ _ (au neT)).trans (aL g1 (by rw[←hT];rfl));have kp:∀b u,b≠a→g1.get? b=some u→((g1.push ot).update a (bg (·.setIfInBounds 1 (aB g1.objs.size)))).get? b=some u:=fun b u nb e=>
  (aO _ _ (au nb)).trans (ai _ e)
 have old:∀b u,s.heap.get? b=some u→b≠g1.objs.size:=fun b u e=>aG (by rw[so.1];exact aw e);have nT:Nu X H g1.objs.size:=by
  refine⟨I.hok.fresh (by rw[so.1];exact ax _),?_,fun p hp z=>old p.1 p.2 (I.pin p (by simpa using hp)).1 z⟩;exact dq (by rw[so.1];exact I.sz)
 have J:Inv X [] σ H {s with heap:=(g1.push ot).update a (bg (·.setIfInBounds 1 (aB g1.objs.size)))}:=by
  refine I.flown o (fun b=>b=a) (fun b u n nf e=>kp b u n ((so.2.1 b fun z=>nf ((hmem b).mp z)).trans e)) (fun b u n _ e=>?_) (fun b z=>?_)
  ·obtain⟨sl,e1⟩:=so.2.2 b u e;exact⟨sl,kp b _ n e1⟩
  ·subst z;exact⟨hn,fun u e=>⟨vs,by rw[he]at e;cases e;exact hd⟩⟩
 refine h _ J ?_
 ·refine⟨_,_,a0,g1.objs.size,ot,_,a3,gz _ _,?_,d3,by rw[dI (by decide)];exact h0,by simp[h1],by rw[dI (by decide)];exact h2,neT,t3,by rw[←hT],by simp,hn,nT⟩;obtain⟨c,d,dt,sl⟩:=oe;cases dt<;> rfl
theorem xfo{M:Model}{A':aE}{E:Value→aa→Prop}{Q:Unit→aa→Prop}{a:Addr}{cls:Value}{dx:Option Addr}(o:Own X)(hfr:A'.frames=some X.stack)(I:Inv X [] σ H s)(F:xnI X H s.heap a cls dx)
  (h:∀s',Inv X [] σ H s'→xc0 X (bj X.env.locals) H s'.heap a cls dx→Q () s'):wpAny M A' (gj (.ref a) X.env) Q E s:=by
 unfold gj;simp only[o.fr];rcases F with⟨oe,vs,a0,he,rfl,rfl,hd,h0,h1,h2,hn⟩|⟨oe,vs,a0,T,oT,ts,he,rfl,rfl,hd,h0,h1,h2,nT,hT,hdT,h3,hn,hnT⟩|F
 ·refine af (bu he hd h1 ?_);rw[if_neg (by decide)];exact xeY o hfr I he hd h0 (bE.mp h1).1 h2 hn h
 ·refine af (bu he hd h1 ?_);rw[if_pos (by simp:(aB T != aU)=true)];refine af (bu hT hdT h3 ?_);rw[if_neg (by simp[bj]:¬((aU==bj X.env.locals)=true))];refine af (cz hT hdT (bE.mp h3).1 ?_);have ot:∀b,b≠T→(s.heap.update T (bg (·.setIfInBounds 3 aU))).get? b=s.heap.get? b:=fun b nb=>aO _ _ (au nb);have I':Inv X [] σ H {s with heap:=s.heap.update T (bg (·.setIfInBounds 3 aU))}:=by
   refine I.flown o (fun b=>b=T) (fun b u n _ e=>(ot b n).trans e) (fun b u n _ e=>⟨u.slots,(ot b n).trans e⟩) (fun b z=>?_);subst z;exact⟨hnT,fun u e=>⟨ts,by rw[hT]at e;cases e;exact hdT⟩⟩
  exact xeY o hfr I' ((ot a (au nT)).trans he) hd h0 (bE.mp h1).1 h2 hn h
 ·obtain⟨oe,vs,a0,T,oT,ts,he,hc,hx,hd,h0,h1,h2,nT,hT,hdT,h3,hn,hnT⟩:=id F;refine af (bu he hd h1 ?_);rw[if_pos (by simp:(aB T != aU)=true)];refine af (bu hT hdT h3 ?_);rw[if_pos (by simp:(bj X.env.locals==bj X.env.locals)=true)];exact ay (h s I F)
theorem xaW{M:Model}{A':aE}{E:Value→aa→Prop}{Q:Unit→aa→Prop}{a:Addr}{cls fl:Value}{dx:Option Addr}{to:Option Addr}(o:Own X)(I:Inv X [] σ H s)(F:xc0 X fl H s.heap a cls dx)
  (h:∀s',Inv X [] σ H s'→xc0 X (to.elim .none fun f=>bj f) H s'.heap a cls dx→Q () s'):wpAny M A' (ig (.ref a) to) Q E s:=by
 obtain⟨oe,vs,a0,T,oT,ts,he,rfl,rfl,hd,h0,h1,h2,nT,hT,hdT,h3,hn,hnT⟩:=F;unfold ig;refine af (bu he hd h1 ?_);rw[if_pos (by simp:(aB T != aU)=true)];have z3:=(bE.mp h3).1;have ot:∀b,b≠T→(s.heap.update T (bg (·.setIfInBounds 3 (to.elim aU fun f=>bj f)))).get? b=s.heap.get? b:=fun b nb=>aO _ _ (au nb);have d3:=cZ hdT (·.setIfInBounds 3 (to.elim aU fun f=>bj f));refine cz hT hdT z3 (h _ (I.flown o (fun b=>b=T) (fun b u n _ e=>(ot b n).trans e) (fun b u n _ e=>⟨u.slots,(ot b n).trans e⟩) fun b z=>?_) ?_)
 ·subst z;exact⟨hnT,fun u e=>⟨ts,by rw[hT]at e;cases e;exact hdT⟩⟩
 ·exact⟨oe,vs,a0,T,_,_,(ot a (au nT)).trans he,rfl,rfl,hd,h0,h1,h2,nT,a8 _ hT (c9 d3),d3,by simp[z3],hn,hnT⟩
theorem xaj{M:Model}{A':aE}{E:Value→aa→Prop}{Q:Unit→aa→Prop}{a:Addr}{cls:Value}{dx:Option Addr}(o:Own X)(hfr:A'.frames=some X.stack)(I:Inv X [] σ H s)(F:xnI X H s.heap a cls dx)
  (h:∀s',Inv X [] σ H s'→xc0 X .none H s'.heap a cls dx→Q () s'):wpAny M A' (iz X.env (.ref a)) Q E s:=by
 unfold iz;exact af (xfo o hfr I F fun s1 I1 F1=>xaW (to:=none) o I1 F1 h)
end
def CXN(P:ak)(w:World):CXT:=fun outer H s E e s'=>∃a cls dx H' oe vs a0 T oT ts,e= .ref a∧s'.os=s.os∧eN s'.gens∧Un (frs outer) [] H H' s.heap s'.heap∧HOk P w H' s'.heap∧
 s'.heap.get? a=some oe∧oe.cls=cls∧oe.dict=dx∧oe.data= .fields vs∧vs[0]? =some a0∧vs[1]? =some (.ref T)∧vs[2]? =some .none∧T≠a∧s'.heap.get? T=some oT∧oT.data= .fields ts∧ts[3]? =some .none∧
 H' a=none∧s.heap.get? a=none∧H' T=none∧s.heap.get? T=none∧E cls dx H'
abbrev cxN(P:ak)(w:World)(K:ag)(mg:Str→Option Value)(base:Heap)(N:List Str)(qual:Str)(sc:Scope)(f:Addr)(cd:Value)(A:aE)(outer:List Env)(s:aa)(H:Hp)(E:XK):Cx:=
 (uz (CXN P w) P w K mg base N qual sc f cd A outer s H E).wish (XEN (uz (CXN P w) P w K mg base N qual sc f cd A outer s H E) fun _=>E)
section
variable {P:ak} {w:World} {K:ag} {mg:Str→Option Value} {base:Heap}
theorem Fun.okN{x qual:Str}{st:Stmt}{f:Addr}{fd:aq}{N ps:List Str}{k:Nat}{sp:Sp}(F:Fun K x qual st f fd)(S:xr N ps (xh st))(len:∀vs H Q E,sp vs H Q E→vs.length=ps.length)
  (hbody:∀(cdv:Value) (A:aE) (outer:List Env) (s:aa) (H:Hp) (vs:List V) (Q:VK) (E:XK),xS k (A.deeper (di qual (xh st) s.heap.objs.size f cdv))→sp vs H Q E→
   ∃t,PSs (cxN P w K mg base N qual (xh st) f cdv A outer s H E) (xI st) t∧t {nx:=fun _ H'=>Q .non H',rt:=Q} (start N vs) H):xy P w K mg base (CXN P w) (k+1) f fd ps sp:=by
 obtain⟨oc,od,kV,doc,pm,an,cdv,ct,osl,rfl,lk,hcd⟩:=F.ex;refine xfP lk hcd S len fun A outer s H vs Q E hr hsp=>?_;obtain⟨t,h,q⟩:=hbody cdv A outer s H vs Q E hr hsp;refine⟨t,h.wished fun e s' ⟨a,cls,dx,σ,H',he,I,Fl,z⟩=>?_,q⟩;subst he;refine xaj xfn I.ok.frames I Fl fun s2 I2 F2=>?_;obtain⟨oe,vs,a0,T,oT,ts,he,hc,hx,hd,h0,h1,h2,nT,hT,hdT,h3,hn,hnT⟩:=F2;exact⟨a,cls,dx,H',oe,vs,a0,T,oT,ts,rfl,I2.os,I2.bare,I2.base,I2.hok,he,hc,hx,hd,h0,h1,h2,nT,hT,hdT,h3,hn.1,hn.2.1,hnT.1,hnT.2.1,z⟩
end
section
variable {X:Cx} {EE:EEs}
theorem xeZ{pins:List (Addr×Obj)}{σ:St}{H:Hp}{s s':aa}{e:Value}(o:Own X)(I:Inv (X.wish (XEN X EE)) pins σ H s)(h:CXN X.prog X.w X.stack H s (EE σ) e s'):XEN X EE e s':=by
 obtain⟨a,cls,dx,H',oe,vs,a0,T,oT,ts,rfl,os,bare,un,hok,he,hc,hx,hd,h0,h1,h2,nT,hT,hdT,h3,n1,n2,n3,n4,q⟩:=h;have I0:Inv X pins σ H s:=I.unwish;have I1:Inv X pins σ H' s':=I0.call' os un hok bare fun b z=>absurd z (by simp);have nu:∀b,H' b=none→s.heap.get? b=none→Nu X H' b:=fun b m1 m2=>by
  refine⟨m1,?_,fun p hp z=>?_⟩
  ·cases q:X.s₀.heap.get? b with
   |none=>rfl
   |some u=>
    obtain⟨u',e⟩:=I0.base.there b u q (by rw[o.ex];simp);rw[m2]at e;cases e
  ·have:=(I0.pin p (aX _ hp)).1;rw[z,m2]at this;cases this
 exact⟨a,cls,dx,σ,H',rfl,I1.nopins,.inr (.inl ⟨oe,vs,a0,T,oT,ts,he,hc,hx,hd,h0,h1,h2,nT,hT,hdT,h3,nu a n1 n2,nu T n3 n4⟩),q⟩
variable {k:Nat} {f C:Addr} {fd:aq} {ps:List Str} {sp:Sp} {dvs:List V} {ds:List Value} {x m:Str} {p pos apos:Pos} {e ob:Expr} {es:List Expr} {ta:TE} {t:TA}
theorem xgW{pins:List (Addr×Obj)}{σ:St}{H:Hp}{s:aa}{Q:VK}{us:List Value}{vs:List V}(o:Own X)(F:xy X.prog X.w X.K X.mg X.base (CXN X.prog X.w) k f fd ps sp)(hr:xS k X.A)(hb:Binds X.K fd ps ds)(hd:Vals dvs ds)
  (I:Inv (X.wish (XEN X EE)) pins σ H s) (r:Vals vs us) (h:sp (vs++dvs) H Q (EE σ)):wpAny (model X.prog X.w) X.A (call (.ref f) us) (EP (X.wish (XEN X EE)) pins σ Q) (XEN X EE) s:=by
 have r2:Vals (vs++dvs) (us++ds):=r.append hd;have hl:(us++ds).length=ps.length:=r2.length.symm.trans (F.len _ _ _ _ h);refine cV (bU (F.run X.A X.stack s H ⟨us,[]⟩ (us++ds) (vs++dvs) Q (EE σ) hr I.unwish.env0 (hb s us I.unwish.kIn hl) r2 h) fun z s' hq=>?_)
 match z,hq with
 | .error e,hq=>exact xeZ o I hq
 | .ok (.ret u),hq=>exact I.after hq
 | .ok .next,hq=>exact hq.elim
 | .ok .brk,hq=>exact hq.elim
 | .ok .cont,hq=>exact hq.elim
theorem xiM(o:Own X)(F:xy X.prog X.w X.K X.mg X.base (CXN X.prog X.w) k f fd ps sp)(hr:xS k X.A)(hg:Gl X x)(hm:X.mg x=some (.ref f))(hk:bW X.K (.ref f)=true)(hb:Binds X.K fd ps ds)(hd:Vals dvs ds)
  (ha:PA (X.wish (XEN X EE)) (e::es) t) (hdb:(x==("__debug__":Str))=false:=by decide) (he:aC (e::es) X.env=(false,eval e X.env)::aC es X.env:=by rfl) (hpl:(bC pos (aC es X.env)).any (·.1)=false:=by rfl):
  PE (X.wish (XEN X EE)) (.Call (.Name x p) (e::es) [] pos) (xqC sp dvs EE t):=by
 intro pins s σ H Q I h;refine bO (zw I hg hm ?_ hdb);refine eo (h₀:=X.base) I.ok.mod.kin hk (thn (ha pos pins s σ H _ I h) fun us s1 ⟨vs,H1,I1,r,q⟩=>⟨I1.kIn,xgW o F hr hb hd I1 r q⟩) he hpl
end
section
variable {X:Cx} {EE:EEs}
end
end L2
namespace L2
open PySem PySem.Spec PyProof.Rows
section
variable {prog:ak} {w:World} {A:aE} {E:Value→aa→Prop} {s:aa} {env:Env}
variable {nm q:Str} {C N:Addr} {bs bm:List Value} {hdct:Bool} {sn:List Str} {sub:List Value} {ab:Bool} {col:Option Bool} {dd:Option Addr} {k0 k1 k2 k3 k5:Option Value} {newId:String}
theorem xiN{e:Value}{h:Addr}{oh:Obj}{vh:Array Value}{Q:Value→aa→Prop}(he:s.heap.get? h=some oh)(hd:oh.data= .fields vh)(h2:vh[2]? =some .none)(hq:Q .none s):
  wpAny (model prog w) A (runValue (.builtin "proto.unchain" ⟨[e,.ref h,.ref h,.bool false],[]⟩)) Q E s:=by
 refine wpAny_runValue (fQ (entryFor_of_fast (by kernel_rfl):entryFor table "proto.unchain"=some iE.«proto.unchain») ?_);show wpAny _ _ (field (.ref h) 2 >>= _) _ _ s;refine af (bu he hd h2 ?_);rw[if_pos (by rfl)];exact ay hq
end
section
variable {X:Cx} {EE:EEs}
end
end L2
namespace L2
open PySem PySem.Spec PyProof.Rows
section
variable {X:Cx}
def xqK:V→V→V→Hp→(Hp→Prop)→Prop:=fun o i v H Q=>xol o i v H Q∨∃a H',o= .ref a∧xdO H a i v H'∧Q H'
theorem xhO(hu:X.A.units+1<cLine):xnj X xqK:=by
 intro pins s σ H o i v ov iv u Q I ro ri rv h;rcases h with h|⟨a,H',rfl,g,q⟩
 ·exact set_list pins s σ H o i v ov iv u Q I ro ri rv h
 ·cases (show ov=aB a from ro);exact xhC hu I g ri rv fun s' I'=>⟨H',I',q⟩
end
abbrev xf9(A:aE):aE:={A with handled:=none}
abbrev SpE:=Addr→Value→Option Addr→Sp
structure xlA(P:ak)(w:World)(K:ag)(mg:Str→Option Value)(base:Heap)(k:Nat)(f:Addr)(fd:aq)(ps:List Str)(sp:SpE):Prop where
 len:∀a cls dx vs H Q E,sp a cls dx vs H Q E→vs.length=ps.length
 run:∀(A:aE) (outer:List Env) (s:aa) (H:Hp) (args:Args) (us:List Value) (vs:List V) (Q:VK) (E:XK) (a:Addr) (oe:Obj),xS k (xf9 A)→jR P w K mg base A outer s H→iy s fd args (ps.zip us)→Vals vs us→
  s.heap.get? a=some oe→H a=none→a∉frs outer→(∃vs,oe.data= .fields vs)→sp a oe.cls oe.dict vs H Q E→ck (model P w) A (.call (.ref f) args) (CR CX0 outer P w H s Q E) s
abbrev cxE(P:ak)(w:World)(K:ag)(mg:Str→Option Value)(base:Heap)(N:List Str)(qual:Str)(scope:Scope)(f:Addr)(cd:Value)(A:aE)(outer:List Env)(s:aa)(H:Hp)(E:XK)(qs:List (Addr×Obj)):Cx:=
 {uz CX0 P w K mg base N qual scope f cd A outer s H E with calm:=false,pn:=qs,xe:=fun _ _=>False}
theorem jR.calm{P:ak}{w:World}{K:ag}{mg:Str→Option Value}{base:Heap}{A:aE}{outer:List Env}{s:aa}{H:Hp}(e:jR P w K mg base A outer s H):jR P w K mg base (xf9 A) outer s H:=
 ⟨e.frames,e.mod,e.bs,e.bsz,e.funs,e.frf,e.hok,e.bare⟩
theorem Fun.okE{P:ak}{w:World}{K:ag}{mg:Str→Option Value}{base:Heap}{x qual:Str}{st:Stmt}{f:Addr}{fd:aq}{N ps:List Str}{k:Nat}{sp:SpE}(F:Fun K x qual st f fd)(S:xr N ps (xh st))(len:∀a cls dx vs H Q E,sp a cls dx vs H Q E→vs.length=ps.length)
  (hbody:∀(cdv:Value) (A:aE) (outer:List Env) (s:aa) (H:Hp) (vs:List V) (Q:VK) (E:XK) (qs:List (Addr×Obj)) (a:Addr) (cls:Value) (dx:Option Addr),(∃oe:Obj,(a,oe)∈qs∧oe.cls=cls∧oe.dict=dx∧∃vs,oe.data= .fields vs)→xS k ((xf9 A).deeper (di qual (xh st) s.heap.objs.size f cdv))→sp a cls dx vs H Q E→
   ∃t,PSs (cxE P w K mg base N qual (xh st) f cdv A outer s H E qs) (xI st) t∧t {nx:=fun _ H'=>Q .non H',rt:=Q} (start N vs) H):xlA P w K mg base (k+1) f fd ps sp:=by
 obtain⟨oc,od,kV,doc,pm,an,cdv,ct,osl,rfl,lk,hcd⟩:=F.ex;refine⟨len,fun A outer s H args us vs Q E a oe hr e0 hb r ha hn hf hdat hsp=>?_⟩;have hl:=len _ _ _ _ _ _ _ hsp;have KX:K.In s.heap:=e0.mod.kin.keeps fun b o e=>(e0.bs b o e).1;have lim:s.heap.NoLimit:=e0.mod.nolimit.keeps fun b o e=>(e0.bs b o e).1;have hkind:∀y∈ps.zip us,(xh st).names.lookup y.1=some .local∨((xh st).names.lookup y.1=some .cell∧((fF (s.heap.objs.size+1) (xh st).names []).lookup y.1).isSome=true):=fun⟨n,v⟩ hy=>by
  rcases S.par n (cF hy).1 with q|q
  ·exact .inl q
  ·exact .inr ⟨q,dz _ _ _ (.inl q)⟩
 refine cx (show A.depth<ix from hr.depth) (KX _ _ lk) rfl S.co S.gen rfl (fM KX hcd) (hb _ _ _ _ ?_);refine cq S.kind hkind fun env he s1 x=>?_;subst he;refine⟨lim.keeps x.toInCall.keep,fN ?_⟩;obtain⟨t,ht,hq⟩:=hbody cdv A outer s H vs Q E [(a,oe)] a oe.cls oe.dict ⟨oe,aj.mpr rfl,rfl,rfl,hdat⟩ (hr.deeper _) hsp;have I0:Inv (uz CX0 P w K mg base N qual (xh st) f cdv (xf9 A) outer s H E) [] (start N vs) H s1:=xao S rfl (e0.calm) hl r x;have ok0:=I0.ok;have I:Inv (cxE P w K mg base N qual (xh st) f cdv A outer s H E [(a,oe)]) [] (start N vs) H s1:=by
  refine⟨⟨ok0.mod,ok0.kind,ok0.glob,ok0.blt,ok0.above,ok0.inj,ok0.has,ok0.cab,(fun z=>by cases z),ok0.frames,ok0.stk,ok0.exf,ok0.bs,ok0.bsz,ok0.noex,ok0.exfs,ok0.funs,ok0.frf,ok0.cab2,ok0.hz⟩,I0.os,I0.bare,I0.base,I0.loc,I0.cell,I0.free,I0.freeC,fun p hp=>?_,I0.hok,I0.len⟩;obtain rfl:p=(a,oe):=by simpa using hp
  refine⟨x.toInCall.keep _ _ ha,hn,?_,hf,fun v z=>?_⟩
  ·exact aG (aw ha)
  ·obtain⟨vs,e⟩:=hdat;rw[show(a,oe).2.data=oe.data from rfl,e]at z;cases z
 refine aI (ht [] s1 (start N vs) H _ I hq) (fun fl s' hs=>?_) fun e s' hs=>hs.elim;have fin:∀{σ':St} {H':Hp} {v:V} {u:Value},Inv (cxE P w K mg base N qual (xh st) f cdv A outer s H E [(a,oe)]) [] σ' H' s'→RelV v u→Q v H'→CE outer P w H s Q u s':=
  fun{σ' H' v u} J rv q=>⟨v,H',J.os,J.bare,J.base,J.hok,rv,q⟩
 cases fl with
 |ret u=>
  obtain⟨v,σ',H',J,rv,q⟩:=hs;exact fin J rv q
 |next=>
  obtain⟨σ',H',J,q⟩:=hs;exact fin (v:=V.non) (u:=aU) J rfl q
 |brk=>
  obtain⟨_,_,_,q⟩:=hs;exact aV q
 |cont=>
  obtain⟨_,_,_,q⟩:=hs;exact aV q
section
variable {X:Cx} {k:Nat} {f:Addr} {fd:aq} {ps:List Str} {sp:SpE} {x:Str} {p pos:Pos} {e:Expr} {es:List Expr} {t:TA}
theorem xS.calm{k:Nat}{A:aE}{m:Option Value}(r:xS k A):xS k (xf9 (A.mark m)):=by
 cases m with
 |none=>exact⟨rfl,r.dp,r.un⟩
 |some v=>exact⟨rfl,r.dp,r.un⟩
end
end L2
namespace L2
open PySem PySem.Spec PyProof.Rows
theorem xpd{P:ak}{w:World}{outer:List Env}{H:Hp}{s:aa}{E:XK}{e:Value}{s':aa}(h:CXN P w outer H s E e s'):CXE P w outer H s E e s':=by
 obtain⟨a,cls,dx,H',oe,vs,a0,T,oT,ts,r1,os,bare,un,hok,he,hc,hx,hd,h0,h1,_,nT,hT,hdT,h3,n1,n2,n3,n4,q⟩:=h;exact⟨a,cls,dx,H',oe,vs,a0,T,oT,ts,r1,os,bare,un,hok,he,hc,hx,hd,h0,h1,nT,hT,hdT,h3,n1,n2,n3,n4,q⟩
theorem xy.toX{P:ak}{w:World}{K:ag}{mg:Str→Option Value}{base:Heap}{k:Nat}{f:Addr}{fd:aq}{ps:List Str}{sp:Sp}(F:xy P w K mg base (CXN P w) k f fd ps sp):xy P w K mg base (CXE P w) k f fd ps sp:=
 ⟨F.len,fun A outer s H args us vs Q E hr e0 hb r hsp=>bU (F.run A outer s H args us vs Q E hr e0 hb r hsp) fun z s' hq=>by
  match z,hq with
  | .error e,hq=>exact xpd hq
  | .ok (.ret u),hq=>exact hq
  | .ok .next,hq=>exact hq
  | .ok .brk,hq=>exact hq
  | .ok .cont,hq=>exact hq⟩
section
variable {X:Cx} {pins:List (Addr×Obj)} {σ:St} {H:Hp} {s:aa}
theorem PassesOwn.xen{EE:EEs}(o:Own X):PassesOwn (model X.prog X.w) X.A X.env (XEN X EE):=by
 rintro e s' ⟨a,cls,dx,σ,H,rfl,I,F,q⟩;refine xfo o I.ok.frames I F fun s1 I1 F1=>?_;unfold fg;obtain⟨oe,vs,a0,T,oT,ts,he,hc,hx,hd,h0,h1,_⟩:=id F1;refine af (bu he hd h1 ?_);rw[if_neg (by simp)];refine xaW (to:=X.env.frame) o I1 F1 fun s2 I2 F2=>⟨a,cls,dx,σ,H,rfl,I2,.inr (.inr ?_),q⟩;rw[o.fr]at F2;exact F2
end
section
variable {P:ak} {w:World} {K:ag} {mg:Str→Option Value} {base:Heap}
theorem Fun.okNC{x qual:Str}{st:Stmt}{f c:Addr}{fd:aq}{N ps:List Str}{k:Nat}{sp:Sp}(F:Fun K x qual st f fd)(hc:fd.code= .ref c)(S:xr N ps (xh st))(len:∀vs H Q E,sp vs H Q E→vs.length=ps.length)
  (hbody:∀(A:aE) (outer:List Env) (s:aa) (H:Hp) (vs:List V) (Q:VK) (E:XK),xS k (A.deeper (di qual (xh st) s.heap.objs.size f (.ref c)))→sp vs H Q E→
   ∃t,PSs (cxN P w K mg base N qual (xh st) f (.ref c) A outer s H E) (xI st) t∧t {nx:=fun _ H'=>Q .non H',rt:=Q} (start N vs) H):xy P w K mg base (CXN P w) (k+1) f fd ps sp:=by
 obtain⟨oc,od,kV,doc,pm,an,cdv,ct,osl,rfl,lk,hcd⟩:=F.ex;obtain rfl:cdv= .ref c:=hc;refine xfP lk hcd S len fun A outer s H vs Q E hr hsp=>?_;obtain⟨t,h,q⟩:=hbody A outer s H vs Q E hr hsp;refine⟨t,h.wished fun e s' ⟨a,cls,dx,σ,H',he,I,Fl,z⟩=>?_,q⟩;subst he;refine xaj xfn I.ok.frames I Fl fun s2 I2 F2=>?_;obtain⟨oe,vs,a0,T,oT,ts,he,hc,hx,hd,h0,h1,h2,nT,hT,hdT,h3,hn,hnT⟩:=F2;exact⟨a,cls,dx,H',oe,vs,a0,T,oT,ts,rfl,I2.os,I2.bare,I2.base,I2.hok,he,hc,hx,hd,h0,h1,h2,nT,hT,hdT,h3,hn.1,hn.2.1,hnT.1,hnT.2.1,z⟩
end
abbrev xr2(cap:List Str)(P:ak)(w:World)(K:ag)(mg:Str→Option Value)(base:Heap)(N:List Str)(qual:Str)(sc:Scope)(f:Addr)(cd:Value)(A:aE)(outer:List Env)(s:aa)(H:Hp)(E:XK):Cx:=
 (vj cap (CXN P w) P w K mg base N qual sc f cd A outer s H E).wish (XEN (vj cap (CXN P w) P w K mg base N qual sc f cd A outer s H E) fun _=>E)
theorem Fun.okNK{P:ak}{w:World}{K:ag}{mg:Str→Option Value}{base:Heap}{x qual:Str}{st:Stmt}{f c:Addr}{fd:aq}{N ps:List Str}{k:Nat}{sp:Sp}(cap:List Str)(F:Fun K x qual st f fd)(hc:fd.code= .ref c)(S:xr N ps (xh st))(len:∀vs H Q E,sp vs H Q E→vs.length=ps.length)
  (hbody:∀(A:aE) (outer:List Env) (s:aa) (H:Hp) (vs:List V) (Q:VK) (E:XK),xS k (A.deeper (di qual (xh st) s.heap.objs.size f (.ref c)))→sp vs H Q E→
   ∃t,PSs (xr2 cap P w K mg base N qual (xh st) f (.ref c) A outer s H E) (xI st) t∧t {nx:=fun _ H'=>Q .non H',rt:=Q} (start N vs) H):xy P w K mg base (CXN P w) (k+1) f fd ps sp:=by
 obtain⟨oc,od,kV,doc,pm,an,cdv,ct,osl,rfl,lk,hcd⟩:=F.ex;obtain rfl:cdv= .ref c:=hc;refine⟨len,fun A outer s H args us vs Q E hr e0 hb r hsp=>?_⟩;have hl:=len _ _ _ _ hsp;have KX:K.In s.heap:=e0.mod.kin.keeps fun b o e=>(e0.bs b o e).1;have lim:s.heap.NoLimit:=e0.mod.nolimit.keeps fun b o e=>(e0.bs b o e).1;have hkind:∀y∈ps.zip us,(xh st).names.lookup y.1=some .local∨((xh st).names.lookup y.1=some .cell∧((fF (s.heap.objs.size+1) (xh st).names []).lookup y.1).isSome=true):=fun⟨n,v⟩ hy=>by
  rcases S.par n (cF hy).1 with q|q
  ·exact .inl q
  ·exact .inr ⟨q,dz _ _ _ (.inl q)⟩
 refine cx hr.depth (KX _ _ lk) rfl S.co S.gen rfl (fM KX hcd) (hb _ _ _ _ ?_);refine cq S.kind hkind fun env he s1 x=>?_;subst he;refine⟨lim.keeps x.toInCall.keep,fN ?_⟩;obtain⟨t,ht0,hq⟩:=hbody A outer s H vs Q E (hr.deeper _) hsp;have ht:PSs (vj cap (CXN P w) P w K mg base N qual (xh st) f (.ref c) A outer s H E) (xI st) t:=ht0.wished fun e s' ⟨a,cls,dx,σ,H',he,I,Fl,z⟩=>by
  subst he;refine xaj ⟨rfl,rfl,rfl⟩ I.ok.frames I Fl fun s2 I2 F2=>?_;obtain⟨oe,vs,a0,T,oT,ts,he,hc,hx,hd,h0,h1,h2,nT,hT,hdT,h3,hn,hnT⟩:=F2;exact⟨a,cls,dx,H',oe,vs,a0,T,oT,ts,rfl,I2.os,I2.bare,I2.base,I2.hok,he,hc,hx,hd,h0,h1,h2,nT,hT,hdT,h3,hn.1,hn.2.1,hnT.1,hnT.2.1,z⟩
 have I:Inv (uz (CXN P w) P w K mg base N qual (xh st) f (.ref c) A outer s H E) [] (start N vs) H s1:=xao S hr.hd e0 hl r x;have I':Inv (vj cap (CXN P w) P w K mg base N qual (xh st) f (.ref c) A outer s H E) [] (start N vs) H s1:=I.capd (fun _=>rfl) (xir cap);refine aI (ht [] s1 (start N vs) H _ I' hq) (fun fl s' hs=>?_) fun e s' hs=>hs;have fin:∀{σ':St} {H':Hp} {v:V} {u:Value},Inv (vj cap (CXN P w) P w K mg base N qual (xh st) f (.ref c) A outer s H E) [] σ' H' s'→RelV v u→Q v H'→CE outer P w H s Q u s':=
  fun{σ' H' v u} J rv q=>⟨v,H',J.os,J.bare,J.base,J.hok,rv,q⟩
 cases fl with
 |ret u=>
  obtain⟨v,σ',H',J,rv,q⟩:=hs;exact fin J rv q
 |next=>
  obtain⟨σ',H',J,q⟩:=hs;exact fin (v:=V.non) (u:=aU) J rfl q
 |brk=>
  obtain⟨_,_,_,q⟩:=hs;exact aV q
 |cont=>
  obtain⟨_,_,_,q⟩:=hs;exact aV q
section
variable {X:Cx} {EE:EEs} {k:Nat} {f C:Addr} {fd:aq} {ps:List Str} {sp:Sp} {dvs:List V} {ds:List Value} {x m:Str} {p pos apos:Pos} {e o:Expr} {es:List Expr} {ta:TE} {t:TA}
theorem yc{pl:Sem Bool}(ow:Own X)(he:PE (X.wish (XEN X EE)) o ta)(c:Cls X.K C)(hm:Meth X.K C m f)(F:xy X.prog X.w X.K X.mg X.base (CXN X.prog X.w) k f fd ps sp)(hr:xS k X.A)(hb:Binds X.K fd ps ds)(hd:Vals dvs ds)(ha:PA (X.wish (XEN X EE)) (e::es) t)
  (hst:aC (e::es) X.env=(false,eval e X.env)::aC es X.env:=by rfl) (hpl:(bC pos (aC es X.env)).any (·.1)=false:=by rfl)
  (ht:eval (.Call (.Attribute o m apos) (e::es) [] pos) X.env=(do
   let ov ←eval o X.env
   fE apos.atName
   let(f,first) ←ee [ov] (eB ov m pl)
   dY pos f first (bC pos (aC (e::es) X.env)) (fy pos (dZ [] X.env))):=by rfl):
  PE (X.wish (XEN X EE)) (.Call (.Attribute o m apos) (e::es) [] pos) (xf8 C m sp dvs EE ta t):=by
 intro pins s σ H Q I h;refine c8 (pl:=pl) (thn (he pins s σ H _ I h) fun u s1 ⟨x,H1,I1,rx,a,dx,fs,ex,ea,l,q⟩=>?_) ht;subst ex;obtain rfl:u=aB a:=rx;refine vg I1 ea c hm l ?_;refine eo (first:=[.ref a]) (h₀:=X.base) I.ok.mod.kin hm.kp (thn (ha pos pins s1 σ H1 _ I1 q) fun us s2 ⟨vs,H2,I2,r,q2⟩=>⟨I2.kIn,?_⟩) hst hpl;exact xgW (us:=.ref a::us) (vs:=.ref a::vs) ow F hr hb hd I2 (.cons rfl r) q2
theorem xhP{pl:Sem Bool}(ow:Own X)(he:PE (X.wish (XEN X EE)) o ta)(c:Cls X.K C)(hm:Meth X.K C m f)(F:xy X.prog X.w X.K X.mg X.base (CXN X.prog X.w) k f fd ps sp)(hr:xS k X.A)(hb:Binds X.K fd ps ds)(hd:Vals dvs ds)
  (ht:eval (.Call (.Attribute o m apos) [] [] pos) X.env=(do
   let ov ←eval o X.env
   fE apos.atName
   let(f,first) ←ee [ov] (eB ov m pl)
   dY pos f first (bC pos (aC [] X.env)) (fy pos (dZ [] X.env))):=by rfl):
  PE (X.wish (XEN X EE)) (.Call (.Attribute o m apos) [] [] pos) (xf8 C m sp dvs EE ta vy):=by
 intro pins s σ H Q I h;refine c8 (pl:=pl) (thn (he pins s σ H _ I h) fun u s1 ⟨x,H1,I1,rx,a,dx,fs,ex,ea,l,q⟩=>?_) ht;subst ex;obtain rfl:u=aB a:=rx;refine vg I1 ea c hm l ?_;exact i3 (first:=[.ref a]) I1.kIn hm.kp (xgW (us:=[.ref a]) (vs:=[.ref a]) ow F hr hb hd I1 (.cons rfl .nil) q)
end
section
variable {X:Cx} {EE:EEs}
theorem xlB{C g:Addr}{fd:aq}{ps:List Str}{fl x:Str}{k:Nat}{np cpos pos:Pos}{e:Expr}{t:TA}(o:Own X)(hc:X.calm=true)(q:xcd X.K C g)(F:xy X.prog X.w X.K X.mg X.base CX0 k g fd ps (xcZ C fl))(hr:xS (k+1) X.A)(hb:Binds X.K fd ps [])
  (hg:Gl X x) (hm:X.mg x=some (.ref C)) (ha:PA (X.wish (XEN X EE)) [e] t)
  (hdb:(x==("__debug__":Str))=false:=by decide) (he:aC [e] X.env=(false,eval e X.env)::aC [] X.env:=by rfl) (hpl:(bC cpos (aC [e] X.env)).any (·.1)=false:=by rfl):
  PS (X.wish (XEN X EE)) (.Raise (some (.Call (.Name x np) [e] [] cpos)) none pos) (xo8 C fl EE t):=by
 intro pins s σ H D I h;obtain⟨bm,N,nm,qn,bs,hdct,sn,sub,ab,col,dd,k0,k1,k2,k3,k5,hC,hN,hni,TL⟩:=q.obj I.ok.mod.kin;refine xlv (C:=C) (N:=N) (bm:=bm) (nm:=nm) (q:=qn) (bs:=bs) (hdct:=hdct) (sn:=sn) (sub:=sub) (ab:=ab) (col:=col) (dd:=dd) (k0:=k0) (k1:=k1) (k2:=k2) (k3:=k3) (k5:=k5) (newId:="ValueError.__new__") (TL.hasType PySem.F.excBase_ValueError.hasBase) (I.ok.hd hc) hpl (zw I hg hm ⟨rfl,?_⟩ hdb);have ha':=ha cpos pins s σ H _ I h;rw[he]at ha';show wpAny (model X.prog X.w) X.A (iT (.ref C) true (bC cpos (aC [e] X.env)) []) _ _ s;rw[he];refine PySem.evalArgs_kw (keywords:=[]) rfl ?_;refine thn ha' fun us s1 ⟨vs,H1,I1,r,v,hv,y⟩=>?_;subst hv;have hl:us.length=1:=r.length.symm;refine ay ⟨rfl,I1.bk _ _ hC,?_⟩;obtain⟨hh,gg,dr,tt,oss⟩:=s1;have hfn:W.typeIn X.K (.ref g)=some (.type "function"):=beq_iff_eq.mp q.fn;obtain⟨og,hog,hgc⟩:=aH.mp (show(X.K.lookup g).map (·.cls)=_ from hfn);refine xiK PySem.F.excBase_ValueError (TL.keeps I1.bk) (I1.bk _ _ hC) (hN.keeps I1.bk) hni (I1.kIn _ _ hog) hgc (fun h' a mk hsz=>?_) (by show us.length≤aN;rw[hl];decide);obtain⟨t0,ea,_,_⟩:=mk.there;have nu:=xlr o I1.unwish mk.new;have I2:=I1.laid (a:=a) (o:=HO.exc a C none) (t':=tt) mk.keeps hsz ⟨⟨_,t0,ea,rfl,rfl,rfl⟩,⟨_,ea⟩,fun h1 h2=>xdX⟩;have hl2:(aB a::us++[]).length=ps.length:=by
  have:=F.len [.ref a,v] (upd H1 a (HO.exc a C none)) (fun _ _=>True) E0 ⟨a,v,rfl,xm,fun _ _ _=>trivial⟩;rw[←this];simp[hl]
 refine cV (bU (F.run _ X.stack _ _ ⟨aB a::us,[]⟩ (aB a::us) [.ref a,v] (fun vv H3=>vv= .non∧∃d,H1 d=none∧d≠a∧H3=upd (upd (upd H1 a (HO.exc a C none)) d (.xd [(fl,v)])) a (HO.exc a C (some d))) E0 (hr.make C us [])
  (I2.env0.make C us []) (by have:=hb _ (aB a::us) I2.kIn hl2;rwa [cE]at this) (.cons rfl r) ⟨a,v,rfl,xm,fun d n1 n2=>⟨rfl,d,by rwa [xl n2]at n1,n2,rfl⟩⟩) fun rr s' hq'=>?_)
 cases rr with
 |error e=>exact aV hq'
 |ok fl'=>
  cases fl' with
  |ret u=>
   obtain⟨vv,H',I3,rv,rfl,d,n1,n2,rfl⟩:=I2.after hq';obtain rfl:u=aU:=rv;obtain⟨⟨oe,t1,ea1,oc,od,odat⟩,_⟩:=I3.hok a _ xm;have hrem:rem (upd (upd (upd H1 a (HO.exc a C none)) d (.xd [(fl,v)])) a (HO.exc a C (some d))) a=upd H1 d (.xd [(fl,v)]):=by
    funext b
    unfold rem
    by_cases hb:b=a
    ·rw[if_pos hb,hb,xl (au n2)];exact nu.1.symm
    ·rw[if_neg hb,xl hb]
     by_cases hd:b=d
     ·rw[hd,xm,xm]
     ·rw[xl hd,xl hd,xl hb]
   have I4:=I3.unwish.forget (a:=a) xm;rw[hrem]at I4;refine⟨rfl,a,t1,some d,oe.slots,rfl,I3.bk _ _ hC,?_,a,.ref C,some d,σ,_,rfl,I4.nopins,.inl ⟨oe,_,.ref t1,ea1,oc,od,odat,rfl,rfl,rfl,?_⟩,y d n1⟩
   ·obtain⟨c1,d1,dt1,sl1⟩:=oe;cases oc;cases od;cases odat;exact ea1
   ·exact⟨by rw[xl (au n2)];exact nu.1,nu.2⟩
  |next=>exact aV hq'
  |brk=>exact aV hq'
  |cont=>exact aV hq'
end
end L2
namespace L2
open PySem PySem.Spec PyProof.Rows
section
variable {P:ak} {w:World} {K:ag} {mg:Str→Option Value} {base:Heap} {N ps fns:List Str} {nm qual:Str} {params:bV} {scope:Scope} {k:Nat}
theorem xdY{e:Expr}{sp:List (Str×V)→Sp}(S:yS N ps fns scope)(len:∀fv vs H Q E,sp fv vs H Q E→vs.length=ps.length∧fv.map (·.1)=fns)
  (hb:∀(clos:List (Str×Addr)) (doc pm cdv ctv:Value) (us:List Value),us.length=ps.length→
   dX {name:=nm,qualname:=qual,params,body:=.expr e,scope,globals:=bf,closure:=clos,defaults:=.none,kwdefaults:=.none,doc,pyModule:=pm,annotations:=none,code:=cdv,closureTuple:=ctv,builtins:=cm} ⟨us,[]⟩=pure (ps.zip us))
  (hbody:∀(A:aE) (outer:List Env) (s:aa) (H:Hp) (f:Addr) (clos:List (Str×Addr)) (cdv:Value) (fv:List (Str×V)) (vs:List V) (Q:VK) (E:XK),xS k (A.deeper (gk qual scope s.heap.objs.size f cdv clos))→sp fv vs H Q E→
   ∃te,PE ((xcW (CXN P w) P w K mg base N qual scope f cdv clos A outer s H E).wish (XEN (xcW (CXN P w) P w K mg base N qual scope f cdv clos A outer s H E) fun _=>E)) e te∧te (xcF N vs fv) H Q):yA P w K mg base (CXN P w) (k+1) nm qual params (.expr e) scope ps sp:=
 xhK S len hb fun A outer s H f clos cdv fv vs Q E s1 hr hsp I=>by
  obtain⟨te,ht,hq⟩:=hbody A outer s H f clos cdv fv vs Q E hr hsp;refine W.kla_codeExpr (aI (ht [] s1 _ H Q (I.wish _) hq) (fun v s' ⟨x,H',J,rv,q⟩=>?_) fun e s' hx=>?_)
  ·exact⟨x,H',J.os,J.bare,J.base,J.hok,rv,q⟩
  ·obtain⟨a,cls,dx,σ,H',rfl,I,Fl,z⟩:=hx;refine xaj (X:=xcW (CXN P w) P w K mg base N qual scope f cdv clos A outer s H E) ⟨rfl,rfl,rfl⟩ I.ok.frames I Fl fun s2 I2 F2=>?_;obtain⟨oe,vs,a0,T,oT,ts,he,hc,hx,hd,h0,h1,h2,nT,hT,hdT,h3,hn,hnT⟩:=F2;exact⟨a,cls,dx,H',oe,vs,a0,T,oT,ts,rfl,I2.os,I2.bare,I2.base,I2.hok,he,hc,hx,hd,h0,h1,h2,nT,hT,hdT,h3,hn.1,hn.2.1,hnT.1,hnT.2.1,z⟩
end
def xqL(P:ak)(w:World)(K:ag)(mg:Str→Option Value)(base:Heap)(k:Nat)(H:Hp)(f:Addr)(vs:List V)(Q:VK)(E:XK):Prop:=
 ∃nm qual params body scope ps sp fv,yA P w K mg base (CXN P w) k nm qual params body scope ps sp∧yJ H f nm qual params body scope fv∧sp fv vs H Q E
section
variable {X:Cx} {EE:EEs} {k:Nat} {x:Str} {p pos:Pos}
theorem xnJ{nm qual:Str}{params:bV}{body:df}{scope:Scope}{ps:List Str}{sp:List (Str×V)→Sp}{pins:List (Addr×Obj)}{σ:St}{H:Hp}{s:aa}{Q:VK}{us:List Value}{vs:List V}{f:Addr}{fv:List (Str×V)}(o:Own X)(F:yA X.prog X.w X.K X.mg X.base (CXN X.prog X.w) k nm qual params body scope ps sp)(hr:xS k X.A)
  (I:Inv (X.wish (XEN X EE)) pins σ H s) (hc:yJ H f nm qual params body scope fv) (r:Vals vs us) (h:sp fv vs H Q (EE σ)):wpAny (model X.prog X.w) X.A (call (.ref f) us) (EP (X.wish (XEN X EE)) pins σ Q) (XEN X EE) s:=by
 refine cV (bU (F.run X.A X.stack s H f fv us vs Q (EE σ) hr I.unwish.env0 hc r h) fun z s' hq=>?_)
 match z,hq with
 | .error e,hq=>exact xeZ o I hq
 | .ok (.ret u),hq=>exact I.after hq
 | .ok .next,hq=>exact hq.elim
 | .ok .brk,hq=>exact hq.elim
 | .ok .cont,hq=>exact hq.elim
def xnK(P:ak)(w:World)(K:ag)(mg:Str→Option Value)(base:Heap)(k:Nat)(i:Nat)(EE:EEs):TE:=fun σ H Q=>∃f,σ[i]? =some (some (.ref f))∧xqL P w K mg base k H f [] Q (EE σ)
theorem xlC{P:ak}{w:World}{K:ag}{mg:Str→Option Value}{base:Heap}(i:Nat)(o:Own X)(hr:xS k X.A)(hP:X.prog=P)(hw:X.w=w)(hK:X.K=K)(hmg:X.mg=mg)(hbs:X.base=base)(hN:X.N[i]? =some x:=by rfl)(hv:Vis X.env.scope x:=by first|exact aA rfl|exact cI (aA rfl)|exact cI (cI rfl))(hd:(x==("__debug__":Str))=false:=by decide)
  (hcd:(x==("__classdict__":Str))=false:=by decide):PE (X.wish (XEN X EE)) (.Call (.Name x p) [] [] pos) (xnK P w K mg base k i EE):=by
 subst hP hw hK hmg hbs;intro pins s σ H Q I h;obtain⟨f,e1,nm,qual,params,body,scope,ps,sp,fv,F,hc,q⟩:=h;refine bO (thn (xfI (X:=X.wish (XEN X EE)) (pos:=p) hN hv hd hcd pins s σ H (fun v H1=>v= .ref f∧H1=H) I ⟨_,e1,rfl,rfl⟩) fun u s1 ⟨v,H1,I1,r,q1,q2⟩=>?_);subst q1;subst q2;cases (show u=aB f from r);exact W.callWith_F0 (hc.fn I1) (xnJ o F hr I1 hc .nil q)
end
section
variable {prog:ak} {w:World} {A:aE} {E:Value→aa→Prop} {s:aa} {env:Env}
variable {nm q:Str} {C N:Addr} {bs bm:List Value} {hdct:Bool} {sn:List Str} {sub:List Value} {ab:Bool} {col:Option Bool} {dd:Option Addr} {k0 k1 k2 k3 k5:Option Value} {newId:String}
theorem xjU{x c:Sem Value}{h:Addr}{Q:Flow→aa→Prop}(hbase:bm.contains (.type "BaseException")=true)(hh:A.handled=some (.ref h))
  (hx:wpAny (model prog w) A x (fun v s₁=>∃e t od sl,v= .ref e∧s₁.heap.get? C=some (d7 nm q C N bs bm hdct sn sub ab col dd k0 k1 k2 k3 k5 newId)∧
   s₁.heap.get? e=some {cls:=.ref C,dict:=od,data:=.fields #[.ref t,.none,.none,.none,.bool false,.none],slots:=sl}∧C≠e∧h≠e∧(∃oh vh,s₁.heap.get? h=some oh∧oh.data= .fields vh∧vh[2]? =some .none)∧
   wpAny (model prog w) A c (fun cv s₂=>cv= .none∧s₂=s₁) E s₁∧∀h',eX e s₁.heap h'→h'.get? e=some {cls:=.ref C,dict:=od,data:=.fields #[.ref t,.none,.ref h,.none,.bool true,.none],slots:=sl}→E (.ref e) {s₁ with heap:=h'}) E s):
  wpAny (model prog w) A (raiseStmt env (some x) (some c)) Q E s:=by
 have hcB:(aB C::bm).contains (.type "BaseException")=true:=by rw[ka,hbase,Bool.or_true]
 unfold raiseStmt;refine af (aI hx (fun v s₁ h₁=>?_) fun _ _ z=>z);obtain⟨e,t,od,sl,rfl,hC,he,nCe,nhe,⟨oh,vh,eh,dh,h2⟩,hc,hE⟩:=h₁;refine af (bz (aI hc (fun cv s₂ z=>?_) fun _ _ z=>z));obtain⟨rfl,rfl⟩:=z;refine af (ay ?_);dsimp only;obtain⟨hp,g,d,tk,os⟩:=s₂
 repeat (first|with_reducible refine cK he ?_|with_reducible refine cK hC ?_|(with_reducible refine fV hC ?_;rw[hcB])|wp_step)
 have e1:(hp.update e (bg fun x=>x.setIfInBounds 3 aU)).get? e=some {cls:=.ref C,dict:=od,data:=.fields #[.ref t,.none,.none,.none,.bool false,.none],slots:=sl}:=a8 (bg fun x=>x.setIfInBounds 3 aU) he rfl;have e2:((hp.update e (bg fun x=>x.setIfInBounds 3 aU)).update e (bg fun x=>x.setIfInBounds 4 (cU true))).get? e=some {cls:=.ref C,dict:=od,data:=.fields #[.ref t,.none,.none,.none,.bool true,.none],slots:=sl}:=a8 (bg fun x=>x.setIfInBounds 4 (cU true)) e1 rfl;have ot:∀b,b≠e→((hp.update e (bg fun x=>x.setIfInBounds 3 aU)).update e (bg fun x=>x.setIfInBounds 4 (cU true))).get? b=hp.get? b:=fun b nb=>(aO _ _ (au nb)).trans (aO _ _ (au nb));unfold raiseNew;refine af (wpAny_handled ?_);rw[hh];dsimp only;rw[if_pos (by simpa using nhe)];refine af (bz (xiN ((ot h nhe).trans eh) dh h2 ?_));show wpAny _ _ (setField (.ref e) 2 (.ref h) >>= fun _=>throw (.ref e)) _ _ _;refine af (cz e2 rfl (show 2<6 by decide) (wpAny_throw (hE _ ?_ (a8 (bg fun x=>x.setIfInBounds 2 (aB h)) e2 rfl))));exact((dH hp e _).trans (dH _ e _)).trans (dH _ e _)
end
section
variable {X:Cx}
theorem xnL{M:Model}{A':aE}{E:Value→aa→Prop}{Q:Unit→aa→Prop}{pins:List (Addr×Obj)}{σ:St}{H:Hp}{s:aa}{i:Nat}{n:Str}{pos:Pos}(I:Inv X pins σ H s)(hN:X.N.Nodup)(hi:X.N[i]? =some n)(hk:X.env.kindOf n=some .local)
  (h:∀s',Inv X pins (σ.set i none) H s'→(∀b,b≠X.env.locals→s'.heap.get? b=s.heap.get? b)→Q () s'):wpAny M A' (do bindName X.env n .none;fR X.env n pos) Q E s:=by
 obtain⟨m,hn,hl⟩:=id I.loc;refine wpAny_nameGoes_keeps hk hn (by rw[I.ok.kind];rfl) fun h' v hn' hs=>h _ ?_ (fun b nb=>hs.2 b nb);have neL:∀b u,X.s₀.heap.get? b=some u→b≠X.env.locals:=fun b u e=>aG (aF (aw e) I.ok.above);obtain⟨oL,_,_,hoL,_⟩:=id hn;refine⟨I.ok,I.os,I.bare,⟨fun b o e n hb hx=>?_,fun b o e n hb hx=>?_,I.base.free,fun b o e hx=>?_,I.base.fix⟩,⟨_,hn',fun j y v' e1 e2 e3=>?_⟩,fun y c e=>?_,I.free,fun y c e=>?_,fun p hp=>?_,fun b u e=>?_,by simpa using I.len⟩
 ·exact(hs.2 b (neL b o e)).trans (I.base.keep b o e n hb hx)
 ·obtain⟨sl,e1⟩:=I.base.slot b o e n hb hx;exact⟨sl,(hs.2 b (neL b o e)).trans e1⟩
 ·obtain⟨o',e1⟩:=I.base.there b o e hx;exact⟨o',(hs.2 b (neL b o e)).trans e1⟩
 ·have hj:j≠i:=fun z=>by
   rw[z]at e2
   by_cases hi':i<σ.length
   ·rw[bP hi']at e2;cases e2
   ·rw[cA (by simpa using hi')]at e2;cases e2
  rw[bA (au hj)]at e2;obtain⟨u',r',q⟩:=hl j y v' e1 e2 e3;refine⟨u',r',q.imp (fun⟨k,e⟩=>⟨k,?_⟩) fun⟨k,c,e,z⟩=>⟨k,c,e,z.sameBut hs (I.cne y c e)⟩⟩;have:y≠n:=fun e=>hj (jP hN e1 (e▸hi));simp[this,e]
 ·obtain⟨w',z⟩:=I.cell y c e;exact⟨w',z.sameBut hs (I.cne y c e)⟩
 ·refine(I.freeC y c e).imp id fun⟨hf',o',ho',hno⟩=>⟨hf',o',ho',fun z j v' e1 k e2=>?_⟩;have hj:j≠i:=fun z=>by
   rw[z]at e2
   by_cases hi':i<σ.length
   ·rw[bP hi']at e2;cases e2
   ·rw[cA (by simpa using hi')]at e2;cases e2
  rw[bA (au hj)]at e2;exact hno z j v' e1 k e2
 ·obtain⟨e,n,ne,nf,d⟩:=I.pin p hp;exact⟨(hs.2 p.1 ne).trans e,n,ne,nf,d⟩
 ·refine(I.hok b u e).stay (fun c w' hc q=>(hs.2 c ?_).trans q) (fun _ q=>q) fun _ _ q _=>q;rintro rfl;rcases hc with rfl|hc
  ·rw[I.free]at e;cases e
  ·rw[I.free]at hc;cases hc
end
def xiO(K:ag)(C' C2:Addr)(i:Nat)(fl:Str)(EE:EEs)(t1:Addr→Value→Option Addr→TS)(ta:Addr→Value→Option Addr→TA):EEs:=fun σ cls dx H=>∃C,cls= .ref C∧a5 K (.ref C) (.ref C')=some true∧∀a,H a=none→
 t1 a cls dx {nx:=fun σ2 H2=>ta a cls dx σ2 H2 fun vs H3=>∃v,vs=[v]∧∀d,H3 d=none→EE (σ2.set i none) (.ref C2) (some d) (upd H3 d (.xd [(fl,v)])),rt:=fun _ _=>False} (σ.set i (some (.ref a))) H
def xlD(K:ag)(C' C2:Addr)(i:Nat)(fl:Str)(EE:EEs)(tb:EEs→TS)(t1:Addr→Value→Option Addr→TS)(ta:Addr→Value→Option Addr→TA):TS:=fun D σ H=>tb (xiO K C' C2 i fl EE t1 ta) D σ H
section
variable {X:Cx} {EE:EEs}
theorem xiP{C' C2 g:Addr}{fd:aq}{qs:List Str}{fl y n x:Str}{i k:Nat}{np hp pos np2 cpos rpos p2:Pos}{n2:Nat}{body:List Stmt}{st1:Stmt}{e:Expr}{tb:EEs→TS}{t1:Addr→Value→Option Addr→TS}{ta:Addr→Value→Option Addr→TA}
  (o:Own X) (hb:xcc X.K C') (hg:Gl X y) (hm:X.mg y=some (.ref C')) (q2:xcd X.K C2 g) (F:xlA X.prog X.w X.K X.mg X.base k g fd qs (fun _ _ _=>xcZ C2 fl)) (hr:xS (k+1) X.A) (hbn:Binds X.K fd qs []) (hg2:Gl X x) (hm2:X.mg x=some (.ref C2))
  (hN:X.N.Nodup) (hi:X.N[i]? =some n) (hk:X.env.kindOf n=some .local)
  (hbody:∀(EE:EEs) (ps:List (Addr×Obj)),PSs ((X.pnd ps).wish (XEN (X.pnd ps) EE)) body (tb EE))
  (hst:∀(ps:List (Addr×Obj)) (a:Addr) (cls:Value) (dx:Option Addr),(∃oe:Obj,(a,oe)∈ps∧oe.cls=cls∧oe.dict=dx∧∃vs,oe.data= .fields vs)→PS (X.held a ps) st1 (t1 a cls dx))
  (ha:∀(ps:List (Addr×Obj)) (a:Addr) (cls:Value) (dx:Option Addr),(∃oe:Obj,(a,oe)∈ps∧oe.cls=cls∧oe.dict=dx∧∃vs,oe.data= .fields vs)→PA (X.held a ps) [e] (ta a cls dx))
  (hdb:(y==("__debug__":Str))=false:=by decide) (hdb2:(x==("__debug__":Str))=false:=by decide) (hse:aC [e] X.env=(false,eval e X.env)::aC [] X.env:=by rfl) (hpl:(bC cpos (aC [e] X.env)).any (·.1)=false:=by rfl):
  PS (X.wish (XE X EE)) (.Try body [.ExceptHandler (some (.Name y np)) (some n) [st1,.Raise (some (.Call (.Name x np2) [e] [] cpos)) (some (.Constant .none n2 p2)) rpos] hp] [] [] pos) (xlD X.K C' C2 i fl EE tb t1 ta):=by
 intro pins s σ H D I h;have ok:=I.unwish.ok;refine gZ (aI (hbody (xiO X.K C' C2 i fl EE t1 ta) pins [] s σ H D (I.unwish.pnd.wish _) h) (fun f s1 hq=>?_) fun e9 s1 hx=>?_)
 ·have hq0:SP X pins D f s1:=(SP.unwish hq).unpnd ok;have hq':SP (X.wish (XE X EE)) pins D f s1:=by
   cases f with
   |next=>obtain⟨σ',H',I,q⟩:=hq0;exact⟨σ',H',I.wish _,q⟩
   |brk=>obtain⟨σ',H',I,q⟩:=hq0;exact⟨σ',H',I.wish _,q⟩
   |cont=>obtain⟨σ',H',I,q⟩:=hq0;exact⟨σ',H',I.wish _,q⟩
   |ret u=>obtain⟨v,σ',H',I,r,q⟩:=hq0;exact⟨v,σ',H',I.wish _,r,q⟩
  cases f with
  |next=>exact dO hq'
  |brk=>exact hq'
  |cont=>exact hq'
  |ret u=>exact hq'
 ·obtain⟨a,cls,dx,σ1,H1,rfl,I1,F1,C,rfl,hkc,q⟩:=hx;refine xfo (X:=X.pnd pins) o.pnd ok.frames I1 F1 fun s2 I2 F2=>?_;refine xaW (X:=X.pnd pins) (to:=none) o.pnd I2 F2 fun s3 I3 F3=>?_;refine eR (eu ?_) (by intro z;cases z);obtain⟨oe,vs,a0,T,oT,ts',he,hc,hx,hd,h0,h1,h2,nT,hT,hdT,h3,hn,hnT⟩:=id F3;have J3:=Inv.held I3 ok he hn.1 hd;refine zw J3 hg hm ?_ hdb;refine xaV (K:=X.K) I3.kIn he hc hkc hb ?_;refine gE ?_;refine xaW (X:=X.pnd pins) (to:=none) o.pnd I3 F3 fun s4 I4 F4=>?_;obtain⟨oe',vs',a0',T',oT',ts'',he',hc',hx',hd',h0',h1',h2',nT',hT',hdT',h3',hn',hnT'⟩:=id F4;have J4:=Inv.held I4 ok he' hn'.1 hd';refine xa7 (X:=X.held a (pins++[(a,oe')])) (v:=.ref a) J4 hN hi (.inl hk) rfl (fun s5 J5=>?_) (.inr hk);have hex:∃oe9:Obj,(a,oe9)∈pins++[(a,oe')]∧oe9.cls= .ref C∧oe9.dict=dx∧∃vs,oe9.data= .fields vs:=⟨oe',by simp,hc',hx',_,hd'⟩;have key:∀e s',XE X EE e s'→notedBy (model X.prog X.w) (X.A.mark (some (.ref a))) X.env (fun x s2=>fg (model X.prog X.w) X.A X.env (XE X EE) x s2) e s':=by
   rintro e s' ⟨a9,cls,dx,σ,H,rfl,I,F,q⟩;refine xeG o I.ok.frames I F fun s1 I1 F1=>?_;unfold fg;obtain⟨oe,vs,a0,T,oT,ts,he,hc,hx,hd,h0,h1,_⟩:=id F1;refine af (bu he hd h1 ?_);rw[if_neg (by simp)];refine jg (to:=X.env.frame) o I1 F1 fun s2 I2 F2=>⟨a9,cls,dx,σ,H,rfl,I2,.inr (.inr ?_),q⟩;rw[o.fr]at F2;exact F2
  have out:∀e s',XE X (fun σ=>EE (σ.set i none)) e s'→wpAny (model X.prog X.w) (X.A.mark (some (.ref a))) (gj e X.env) (fun _ s₃'=>wpAny (model X.prog X.w) (X.A.mark (some (.ref a))) (do bindName X.env n .none;fR X.env n hp)
    (fun _ s₄=>wpAny (model X.prog X.w) (X.A.mark (some (.ref a))) (PySem.passOn "try.except-as" e X.env:Sem Flow) (fun _ _=>False) (notedBy (model X.prog X.w) (X.A.mark (some (.ref a))) X.env (fun x s2=>fg (model X.prog X.w) X.A X.env (XE X EE) x s2)) s₄)
    (fun y s₄=>wpAny (model X.prog X.w) (X.A.mark (some (.ref a))) (ig e none) (fun _ s₅=>(notedBy (model X.prog X.w) (X.A.mark (some (.ref a))) X.env (fun x s2=>fg (model X.prog X.w) X.A X.env (XE X EE) x s2)) y s₅) (notedBy (model X.prog X.w) (X.A.mark (some (.ref a))) X.env (fun x s2=>fg (model X.prog X.w) X.A X.env (XE X EE) x s2)) s₄) s₃') (notedBy (model X.prog X.w) (X.A.mark (some (.ref a))) X.env (fun x s2=>fg (model X.prog X.w) X.A X.env (XE X EE) x s2)) s':=by
   rintro e s' ⟨a9,cls,dx,σ,H,rfl,I,F,q⟩;refine xeG o I.ok.frames I F fun s1 I1 F1=>?_;refine xnL I1 hN hi hk fun s2 I2 hs2=>?_;obtain⟨oe,vs,a0,T,oT,ts,he,hc,hx,hd,h0,h1,nT,hT,hdT,h3,hn,hnT⟩:=id F1;have hnl:∀b ob vb,s1.heap.get? b=some ob→ob.data= .fields vb→b≠X.env.locals:=fun b ob vb e1 e2 z=>by
    obtain⟨m,⟨u,es,ep,e,d⟩,_⟩:=I1.loc;rw[z,e]at e1;cases e1;rw[d.1]at e2;cases e2
   have F2:xbg X (bj X.env.locals) H s2.heap a9 cls dx:=⟨oe,vs,a0,T,oT,ts,(hs2 _ (hnl _ _ _ he hd)).trans he,hc,hx,hd,h0,h1,nT,(hs2 _ (hnl _ _ _ hT hdT)).trans hT,hdT,h3,hn,hnT⟩;unfold PySem.passOn;refine af (bu ((hs2 _ (hnl _ _ _ he hd)).trans he) hd h1 ?_);rw[if_neg (by simp)];refine af (jg (to:=X.env.frame) o I2 F2 fun s3 I3 F3=>wpAny_throw (key _ _ ⟨a9,cls,dx,_,H,rfl,I3,.inr (.inr ?_),q⟩));rw[o.fr]at F3;exact F3
  refine aI (Q:=fun _ _=>False) (E:=XE X (fun σ=>EE (σ.set i none))) ?_ (fun _ _ z=>z.elim) out;refine fx ?_;refine aI (hst (pins++[(a,oe')]) a (.ref C) dx hex [] s5 _ H1 _ J5 (q a hn'.1)) (fun f s6 hq=>?_) fun _ _ z=>z.elim;cases f with
  |brk=>obtain⟨_,_,_,z⟩:=hq;exact z.elim
  |cont=>obtain⟨_,_,_,z⟩:=hq;exact z.elim
  |ret u=>obtain⟨_,_,_,_,_,z⟩:=hq;exact z.elim
  |next=>
  obtain⟨σ2,H2,J6,q6⟩:=hq;refine fx ?_;refine aI (Q:=fun _ _=>False) ?_ (fun _ _ z=>z.elim) fun _ _ z=>z;obtain⟨bm,N,nm,qn,bs,hdct,sn,sub,ab,col,dd,k0,k1,k2,k3,k5,hC,hN2,hni,TL⟩:=q2.obj ok.mod.kin;rw[arm_exec_Raise];refine af (bT ?_);refine xjU (C:=C2) (h:=a) (nm:=nm) (q:=qn) (N:=N) (bs:=bs) (bm:=bm) (hdct:=hdct) (sn:=sn) (sub:=sub) (ab:=ab) (col:=col) (dd:=dd) (k0:=k0) (k1:=k1) (k2:=k2) (k3:=k3) (k5:=k5) (newId:="ValueError.__new__") (TL.hasType PySem.F.excBase_ValueError.hasBase) rfl ?_;refine af (aI (gB (zw J6 hg2 hm2 ?_ hdb2)) (fun v s₃ h₃=>af (bT (ay h₃))) fun _ _ z=>z);have hargs:=ha (pins++[(a,oe')]) a (.ref C) dx hex cpos [] s6 σ2 H2 _ J6 q6;rw[show aC [e] (X.held a (pins++[(a,oe')])).env=(false,eval e X.env)::aC [] X.env from hse]at hargs;have hA:wpAny (model X.prog X.w) (X.A.mark (some (.ref a))) (iT (.ref C2) true (bC cpos (aC [e] X.env)) []) (fun ar s6=>ar.kw=[]∧AP (X.held a (pins++[(a,oe')])) [] σ2 (fun vs H3=>∃v,vs=[v]∧∀d,H3 d=none→EE (σ2.set i none) (.ref C2) (some d) (upd H3 d (.xd [(fl,v)]))) ar.pos s6) (XE X (fun σ=>EE (σ.set i none))) s6:=by
   rw[hse];refine PySem.evalArgs_kw (keywords:=[]) rfl ?_;refine aI hargs (fun us s5 h5=>?_) fun _ _ z=>z.elim;exact ay ⟨rfl,h5⟩
  unfold dY;refine af (bz (aI hA (fun ar s6 h6=>af (bT ?_)) fun _ _ z=>z));obtain⟨us,kw⟩:=ar;obtain⟨hkw,vs5,H5,I5,r5,v,hv5,y⟩:=h6;obtain rfl:kw=[]:=hkw;subst hv5;have hl:us.length=1:=r5.length.symm;have e5:=(I5.pin (a,oe') (aX _ (aR _ (aR _ (aj.mpr rfl)))));obtain⟨hp6,g6,d6,tk6,os6⟩:=s6;simp only[hpl];refine af (wpAny_keeperOf_exc (I5.bk _ _ hC) ?_);have hfn:W.typeIn X.K (.ref g)=some (.type "function"):=beq_iff_eq.mp q2.fn;obtain⟨og,hog,hgc⟩:=aH.mp (show(X.K.lookup g).map (·.cls)=_ from hfn);refine af (xiK PySem.F.excBase_ValueError (TL.keeps I5.bk) (I5.bk _ _ hC) (hN2.keeps I5.bk) hni (I5.kIn _ _ hog) hgc (fun h' b mk hsz=>?_) (by show us.length≤aN;rw[hl];decide));obtain⟨t0,ea,_,_⟩:=mk.there;have I5X:Inv X pins σ2 H5 _:=I5.unheld ok;have nu:=xlr o I5X mk.new;have I6:=I5.laid (a:=b) (o:=HO.exc b C2 none) (t':=tk6) mk.keeps hsz ⟨⟨_,t0,ea,rfl,rfl,rfl⟩,⟨_,ea⟩,fun h1 h2=>xdX⟩;have e6:=(I6.pin (a,oe') (aX _ (aR _ (aR _ (aj.mpr rfl)))));have hl2:(aB b::us++[]).length=qs.length:=by
   have:=F.len b (.ref C2) none [.ref b,v] (upd H5 b (HO.exc b C2 none)) (fun _ _=>True) E0 ⟨b,v,rfl,xm,fun _ _ _=>trivial⟩;rw[←this];simp[hl]
  have hstk:a∉frs X.stack:=fun z=>by
   rcases o.mem.mp z with z|z
   ·exact e6.2.2.1 z
   ·exact e6.2.2.2.1 z
  refine cV (bU (F.run _ X.stack _ _ ⟨aB b::us,[]⟩ (aB b::us) [.ref b,v] (fun vv H3=>vv= .non∧∃d,H5 d=none∧d≠b∧H3=upd (upd (upd H5 b (HO.exc b C2 none)) d (.xd [(fl,v)])) b (HO.exc b C2 (some d))) E0 a oe' ((xS.calm hr).make C2 us [])
   (I6.env0.make C2 us []) (by have:=hbn _ (aB b::us) I6.kIn hl2;rwa [cE]at this) (.cons rfl r5) e6.1 e6.2.1 hstk ⟨_,hd'⟩ ⟨b,v,rfl,xm,fun d n1 n2=>⟨rfl,d,by rwa [xl n2]at n1,n2,rfl⟩⟩) fun rr s' hq'=>?_)
  cases rr with
  |error e=>exact aV hq'
  |ok fl'=>
   cases fl' with
   |next=>exact aV hq'
   |brk=>exact aV hq'
   |cont=>exact aV hq'
   |ret u=>
    obtain⟨vv,H',I7,rv,rfl,d,n1,n2,rfl⟩:=I6.after hq';obtain rfl:u=aU:=rv;obtain⟨⟨oe2,t2,ea2,oc,od,odat⟩,_⟩:=I7.hok b _ xm;have hrem:rem (upd (upd (upd H5 b (HO.exc b C2 none)) d (.xd [(fl,v)])) b (HO.exc b C2 (some d))) b=upd H5 d (.xd [(fl,v)]):=by
     funext b'
     unfold rem
     by_cases hb:b'=b
     ·rw[if_pos hb,hb,xl (au n2)];exact nu.1.symm
     ·rw[if_neg hb,xl hb]
      by_cases hd:b'=d
      ·rw[hd,xm,xm]
      ·rw[xl hd,xl hd,xl hb]
    have e7:=(I7.pin (a,oe') (aX _ (aR _ (aR _ (aj.mpr rfl))))).1;have I8:=I7.forget (a:=b) xm;rw[hrem]at I8;have IX:Inv X pins σ2 (upd H5 d (.xd [(fl,v)])) s':=I8.unheld ok;have nub:Nu X (upd H5 d (.xd [(fl,v)])) b:=⟨by rw[xl (au n2)];exact nu.1,nu.2⟩;have neC:C2≠b:=fun z=>by
     have:=mk.new;rw[←z]at this;rw[I5.bk _ _ hC]at this;cases this
    have nab:a≠b:=fun z=>by
     have:=mk.new;rw[←z,e5.1]at this;cases this
    have ea3:s'.heap.get? b=some {cls:=.ref C2,dict:=some d,data:=.fields #[.ref t2,.none,.none,.none,.bool false,.none],slots:=oe2.slots}:=by
     obtain⟨c1,d1,dt1,sl1⟩:=oe2;cases oc;cases od;cases odat;exact ea2
    refine⟨rfl,?_⟩;refine af (bz (wpAny_point (ay ?_)));refine⟨b,t2,some d,oe2.slots,rfl,I7.bk _ _ hC,ea3,neC,nab,⟨oe',vs',e7,hd',h2'⟩,af (gq (af (bT (ay ⟨rfl,rfl⟩)))),fun h9 sb ea4=>?_⟩;have I9:Inv X [] σ2 (upd H5 d (.xd [(fl,v)])) {s' with heap:=h9}:=IX.nopins.flown o (fun c=>c=b) (fun c u n _ z=>(sb.2 c n).trans z) (fun c u n _ z=>⟨u.slots,(sb.2 c n).trans z⟩) (fun c z=>by
     subst z;refine⟨nub,fun u z=>?_⟩;rw[ea3]at z;cases z;exact⟨_,rfl⟩)
    exact⟨b,.ref C2,some d,σ2,_,rfl,I9,.inl ⟨_,_,.ref t2,ea4,rfl,rfl,rfl,rfl,rfl,nub⟩,y d n1⟩
end
end L2
namespace L2
open PySem PySem.Spec PyProof.Rows
section
variable {X:Cx}
theorem xjV{C C':Addr}{y:Str}{np hp:Pos}{suite:List Stmt}{b₀:Stmt}{rest:List fw}{ts:Addr→Value→TS}{pins:List (Addr×Obj)}{σ:St}{H:Hp}{s:aa}{D:Ends}{a:Addr}{dx:Option Addr}{fl:Value}
  (o:Own X) (hb:xcc X.K C') (hg:Gl X y) (hm:X.mg y=some (.ref C')) (hsuite:∀(ps:List (Addr×Obj)) (a:Addr) (cls:Value),PSs (X.held a ps) (b₀::suite) (ts a cls))
  (hdb:(y==("__debug__":Str))=false) (ok:X.Ok) (I3:Inv (X.pnd pins) [] σ H s) (F3:xbg (X.pnd pins) fl H s.heap a (.ref C) dx) (hkc:a5 X.K (.ref C) (.ref C')=some true) (q:ts a (.ref C) D σ H):
  wpAny (model X.prog X.w) X.A (handleBy (.ref a) X.env (.ExceptHandler (some (.Name y np)) none (b₀::suite) hp::rest)) (SP X pins D) X.xe s:=by
 refine eR (eu ?_) (by intro z;cases z);obtain⟨oe,vs,a0,T,oT,ts',he,hc,hx,hd,h0,h1,nT,hT,hdT,h3,hn,hnT⟩:=id F3;have J3:=Inv.held I3 ok he hn.1 hd;refine zw J3 hg hm ?_ hdb;refine xaV (K:=X.K) I3.kIn he hc hkc hb ?_;refine codeAny_handlers_suite ?_;refine jg (X:=X.pnd pins) (to:=none) o.pnd I3 F3 fun s4 I4 F4=>?_;obtain⟨oe',vs',a0',T',oT',ts'',he',hc',hx',hd',h0',h1',nT',hT',hdT',h3',hn',hnT'⟩:=id F4;have J4:=Inv.held I4 ok he' hn'.1 hd';refine aI (hsuite (pins++[(a,oe')]) a (.ref C) [] s4 σ H D J4 q) (fun f s5 hq=>?_) fun _ _ z=>z.elim;exact hq.unheld ok
def xkA(K:ag)(C1 C2:Addr)(i:Nat)(ts1:Addr→Value→Option Addr→TS)(ts2:Addr→Value→TS)(D:Ends):EEs:=fun σ cls dx H=>∃C,cls= .ref C∧((a5 K (.ref C) (.ref C1)=some true∧∀a,H a=none→ts1 a cls dx (D.gone i) (σ.set i (some (.ref a))) H)∨
 (a5 K (.ref C) (.ref C1)=some false∧a5 K (.ref C) (.ref C2)=some true∧∀a,H a=none→ts2 a cls D σ H))
def xqM(K:ag)(C1 C2:Addr)(i:Nat)(tb:EEs→TS)(ts1:Addr→Value→Option Addr→TS)(ts2:Addr→Value→TS):TS:=fun D σ H=>tb (xkA K C1 C2 i ts1 ts2 D) D σ H
theorem xlE{C1 C2:Addr}{y1 y2 n:Str}{i:Nat}{np1 np2 hp1 hp2 pos:Pos}{body suite1 suite2:List Stmt}{b1 b2:Stmt}{tb:EEs→TS}{ts1:Addr→Value→Option Addr→TS}{ts2:Addr→Value→TS}(o:Own X)(hb1:xcc X.K C1)(hg1:Gl X y1)(hm1:X.mg y1=some (.ref C1))(hb2:xcc X.K C2)(hg2:Gl X y2)(hm2:X.mg y2=some (.ref C2))(hN:X.N.Nodup)(hi:X.N[i]? =some n)(hk:X.env.kindOf n=some .local)
  (hbody:∀(EE:EEs) (ps:List (Addr×Obj)),PSs ((X.pnd ps).wish (XE (X.pnd ps) EE)) body (tb EE))
  (hsuite1:∀(ps:List (Addr×Obj)) (a:Addr) (cls:Value) (dx:Option Addr),(∃oe:Obj,(a,oe)∈ps∧oe.cls=cls∧oe.dict=dx∧∃vs,oe.data= .fields vs)→PSs (X.held a ps) (b1::suite1) (ts1 a cls dx))
  (hsuite2:∀(ps:List (Addr×Obj)) (a:Addr) (cls:Value),PSs (X.held a ps) (b2::suite2) (ts2 a cls))
  (hdb1:(y1==("__debug__":Str))=false:=by decide) (hdb2:(y2==("__debug__":Str))=false:=by decide):
  PS X (.Try body [.ExceptHandler (some (.Name y1 np1)) (some n) (b1::suite1) hp1,.ExceptHandler (some (.Name y2 np2)) none (b2::suite2) hp2] [] [] pos) (xqM X.K C1 C2 i tb ts1 ts2):=by
 intro pins s σ H D I h;have ok:=I.ok;refine gZ (aI (hbody (xkA X.K C1 C2 i ts1 ts2 D) pins [] s σ H D (I.pnd.wish _) h) (fun f s1 hq=>?_) fun e s1 hx=>?_)
 ·have hq':SP X pins D f s1:=(SP.unwish hq).unpnd ok;cases f with
  |next=>exact dO hq'
  |brk=>exact hq'
  |cont=>exact hq'
  |ret u=>exact hq'
 ·obtain⟨a,cls,dx,σ1,H1,rfl,I1,F1,C,rfl,q⟩:=hx;refine xeG (X:=X.pnd pins) o.pnd ok.frames I1 F1 fun s2 I2 F2=>?_;refine jg (X:=X.pnd pins) (to:=none) o.pnd I2 F2 fun s3 I3 F3=>?_;have hn:H1 a=none:=by
   obtain⟨oe,vs,a0,T,oT,ts',he,hc,hx,hd,h0,h1,nT,hT,hdT,h3,hn,hnT⟩:=id F3;exact hn.1
  rcases q with⟨k1,q⟩|⟨k1,k2,q⟩
  ·exact xlx o hb1 hg1 hm1 hN hi hk hsuite1 hdb1 ok I3 F3 k1 (q a hn)
  ·exact xjQ hb1 hg1 hm1 hdb1 ok I3 F3 k1 (xjV o hb2 hg2 hm2 hsuite2 hdb2 ok I3 F3 k2 (q a hn))
end
end L2
namespace K94
open PySem PySem.Spec PyProof.Rows L2
def top(i:Nat):Stmt:=PySem.Challenge.pw_oneroom_k94_whole_banks.main.body.getD i (.Pass ⟨0,0,0,0⟩)
abbrev xaz:Stmt:=inClass (top 4) 0
abbrev xc1:Stmt:=inClass (top 13) 0
abbrev xbj:Stmt:=inClass (top 13) 1
abbrev xaA:Stmt:=inClass (top 13) 2
abbrev xce:Stmt:=inClass (top 14) 0
abbrev xbk:Stmt:=inClass (top 14) 1
abbrev xbl:Stmt:=inClass (top 14) 2
abbrev xaB:Stmt:=inClass (top 14) 3
abbrev xaC:Stmt:=inClass (top 14) 4
abbrev vz:Stmt:=inClass (top 14) 5
abbrev jo:Stmt:=inClass (top 14) 6
abbrev xe0:Stmt:=inClass (top 14) 8
abbrev xc2:Stmt:=inClass (top 15) 0
abbrev xcf:Stmt:=inClass (top 15) 1
abbrev xbm:Stmt:=inClass (top 15) 2
abbrev xbn:Stmt:=inClass (top 15) 3
abbrev xaa:Stmt:=inClass (top 15) 4
abbrev xga:Stmt:=inClass (top 15) 6
abbrev xfp:Stmt:=top 16
abbrev xbo:Stmt:=top 17
abbrev xcg:Stmt:=top 18
abbrev xch:Stmt:=top 19
abbrev xdZ:Stmt:=top 20
abbrev jq:Stmt:=top 21
abbrev xc3:Stmt:=top 22
abbrev xci:Stmt:=top 24
abbrev xgX:Stmt:=top 25
abbrev vV:Stmt:=top 26
abbrev jr:Stmt:=top 27
abbrev jt:Stmt:=top 28
abbrev ud:Stmt:=top 29
abbrev xgY:Stmt:=top 32
abbrev xab:Stmt:=top 33
abbrev xcj:Stmt:=top 34
abbrev vA:Stmt:=top 35
abbrev vW:Stmt:=top 36
abbrev ju:Stmt:=top 37
abbrev xd0:Stmt:=top 38
abbrev xck:Stmt:=top 39
abbrev xc4:Stmt:=inClass (top 41) 0
abbrev vX:Stmt:=inClass (top 41) 1
abbrev ue:Stmt:=inClass (top 41) 2
abbrev zT:Stmt:=inClass (top 42) 0
abbrev xbp:Stmt:=inClass (top 42) 1
abbrev yT:Stmt:=inClass (top 42) 2
abbrev xbq:Stmt:=inClass (top 42) 3
abbrev xaD:Stmt:=inClass (top 42) 4
abbrev xaE:Stmt:=inClass (top 42) 5
abbrev xbr:Stmt:=inClass (top 42) 6
abbrev zJ:Stmt:=inClass (top 42) 8
abbrev yj:Stmt:=inClass (top 42) 9
abbrev zU:Stmt:=inClass (top 44) 0
abbrev xaF:Stmt:=inClass (top 44) 1
abbrev yD:Stmt:=inClass (top 44) 2
abbrev zk:Stmt:=inClass (top 44) 3
abbrev yu:Stmt:=inClass (top 44) 4
abbrev xbs:Stmt:=inClass (top 44) 5
abbrev xbt:Stmt:=inClass (top 44) 6
abbrev uV:Stmt:=inClass (top 44) 7
abbrev uA:Stmt:=inClass (top 44) 8
abbrev uB:Stmt:=inClass (top 44) 9
abbrev uf:Stmt:=inClass (top 44) 10
abbrev uC:Stmt:=inClass (top 44) 11
abbrev ug:Stmt:=inClass (top 44) 12
abbrev vB:Stmt:=inClass (top 44) 13
abbrev yE:Stmt:=inClass (top 44) 14
abbrev uD:Stmt:=inClass (top 44) 15
abbrev xd1:Stmt:=top 45
abbrev xd2:Stmt:=top 47
abbrev xgZ:Stmt:=top 48
abbrev xiQ:Stmt:=top 49
abbrev xcl:Stmt:=top 50
abbrev xg0:Stmt:=top 51
abbrev xd3:Stmt:=top 52
abbrev xiR:Stmt:=top 53
abbrev xg1:Stmt:=top 54
abbrev xg2:Stmt:=top 55
abbrev xg3:Stmt:=top 56
abbrev xc5:Stmt:=top 57
abbrev q1k:Addr:=418
abbrev zC:Addr:=414
def vK:List (Pos×Str):=[(⟨166,45,166,70⟩,"do_piece.<locals>.<lambda>")]
abbrev q0N:Addr:=536
abbrev yU:Addr:=532
def vm:List (Pos×Str):=[(⟨261,50,261,69⟩,"Store.write.<locals>.<lambda>")]
abbrev q0p:Addr:=583
abbrev yk:Addr:=579
def zD:List (Pos×Str):=[(⟨284,52,284,70⟩,"Store.note_down.<locals>.<lambda>")]
abbrev q0D:Addr:=619
abbrev yF:Addr:=615
def uM:List (Pos×Str):=[(⟨307,32,307,78⟩,"Board.update.<locals>.<lambda>")]
abbrev q05:Addr:=626
abbrev zm:Addr:=622
def vP:List (Pos×Str):=[(⟨314,25,314,54⟩,"Board.fine.<locals>.<lambda>")]
abbrev q0A:Addr:=633
abbrev yv:Addr:=629
def uh:List (Pos×Str):=[(⟨321,25,321,76⟩,"Board.go_back.<locals>.<lambda>")]
abbrev q0E:Addr:=703
abbrev yG:Addr:=699
def uN:List (Pos×Str):=[(⟨388,45,388,63⟩,"Board.change.<locals>.<lambda>")]
abbrev q36:Addr:=797
abbrev xeI:Addr:=793
def xiS:List (Pos×Str):=[(⟨477,50,477,123⟩,"law.<locals>.<lambda>")]
set_option genInjectivity false in
set_option genSizeOf false in
set_option genSizeOfSpec false in
structure Adr where
 q07:Addr
 vQ:aq
 q2l:Addr
 xc6:aq
 q06:Addr
 xbu:aq
 q0O:Addr
 xaG:aq
 q13:Addr
 xcm:aq
 q1M:Addr
 xbv:aq
 q1N:Addr
 xbw:aq
 q1B:Addr
 xaH:aq
 q1C:Addr
 xaI:aq
 q0G:Addr
 vC:aq
 q0Y:Addr
 jv:aq
 q3t:Addr
 xe1:aq
 q2m:Addr
 xc7:aq
 q14:Addr
 xcn:aq
 q1O:Addr
 xbx:aq
 q1P:Addr
 xby:aq
 q1h:Addr
 xac:aq
 q3C:Addr
 xgb:aq
 q3y:Addr
 xfq:aq
 q2b:Addr
 xbz:aq
 q2s:Addr
 xco:aq
 q2t:Addr
 xcp:aq
 q3a:Addr
 xd4:aq
 q1l:Addr
 jw:aq
 q2Y:Addr
 xc8:aq
 q2u:Addr
 xcq:aq
 q3L:Addr
 xg4:aq
 q1b:Addr
 vY:aq
 q1m:Addr
 jx:aq
 q1n:Addr
 jy:aq
 q2n:Addr
 xaX:aq
 q3M:Addr
 xg5:aq
 q1H:Addr
 xad:aq
 q2v:Addr
 xcr:aq
 q0W:Addr
 vD:aq
 q1c:Addr
 vZ:aq
 q1o:Addr
 jz:aq
 q3b:Addr
 xd5:aq
 q2w:Addr
 xcs:aq
 q2o:Addr
 xc9:aq
 q0L:Addr
 ja:aq
 q0q:Addr
 ui:aq
 q1p:Addr
 jA:aq
 q1Q:Addr
 xbA:aq
 q08:Addr
 vR:aq
 q1R:Addr
 xbB:aq
 q1D:Addr
 xaJ:aq
 q1E:Addr
 xaK:aq
 q1S:Addr
 xbC:aq
 q0m:Addr
 zK:aq
 q0y:Addr
 zM:aq
 q1q:Addr
 jB:aq
 q09:Addr
 vS:aq
 q0Q:Addr
 vn:aq
 q1r:Addr
 jC:aq
 q0J:Addr
 uO:aq
 q1T:Addr
 xbD:aq
 q1U:Addr
 xbE:aq
 q0C:Addr
 uW:aq
 q0u:Addr
 uE:aq
 q0v:Addr
 uF:aq
 q0r:Addr
 uj:aq
 q0w:Addr
 uG:aq
 q0s:Addr
 uk:aq
 q0H:Addr
 vE:aq
 q0R:Addr
 vo:aq
 q0x:Addr
 uH:aq
 q3c:Addr
 xd6:aq
 q3d:Addr
 xd7:aq
 q3N:Addr
 xg6:aq
 q4l:Addr
 xiT:aq
 q2x:Addr
 xct:aq
 q3O:Addr
 xg7:aq
 q3e:Addr
 xd8:aq
 q4m:Addr
 xiU:aq
 q3P:Addr
 xg8:aq
 q3Q:Addr
 xg9:aq
 q3R:Addr
 xha:aq
 q4s:Addr
 xis:aq
 q2Z:Addr
 q0c:Addr
 q0f:Addr
 q0i:Addr
 q0e:Addr
 q0b:Addr
 q1s:Addr
 q0d:Addr
 q00:Addr
 q0Z:Addr
 q0B:Addr
 q0M:Addr
 q0k:Addr
 q1I:Addr
 q4N:Tok
structure Txt(K:ag)(mg:Str→Option Value)(a:Adr):Prop where
 q1Y:Fun K "__init__" "Fallen.__init__" xaz a.q07 a.vQ
 xdq:Binds K a.vQ ["self","count"] []
 q3o:Fun K "__init__" "Row.__init__" xc1 a.q2l a.xc6
 xgc:Binds K a.xc6 ["self","to"] []
 q2E:Fun K "covers" "Row.covers" xbj a.q06 a.xbu
 xd9:Binds K a.xbu ["self"] []
 q2e:Fun K "covered" "Row.covered" xaA a.q0O a.xaG
 yV:Binds K a.xaG ["self"] []
 q26:Fun K "__init__" "Take.__init__" xce a.q13 a.xcm
 xjW:Binds K a.xcm ["self","to","start","count"] []
 q2F:Fun K "stays" "Take.stays" xbk a.q1M a.xbv
 xbF:Binds K a.xbv ["self"] []
 q2G:Fun K "reads" "Take.reads" xbl a.q1N a.xbw
 xiV:Binds K a.xbw ["self"] []
 q2f:Fun K "writes" "Take.writes" xaB a.q1B a.xaH
 xh4:Binds K a.xaH ["self"] []
 q2g:Fun K "pieces" "Take.pieces" xaC a.q1C a.xaI
 xh5:Binds K a.xaI ["self"] []
 q1z:Fun K "source_for" "Take.source_for" vz a.q0G a.vC
 xaO:Binds K a.vC ["self","cell"] []
 q1X:Fun K "sign_for" "Take.sign_for" jo a.q0Y a.jv
 xgd:Binds K a.jv ["self","cell","read"] []
 q3u:Fun K "told" "Take.told" xe0 a.q3t a.xe1
 xq0:Binds K a.xe1 ["self"] []
 q3p:Fun K "__init__" "Put.__init__" xc2 a.q2m a.xc7
 xlF:Binds K a.xc7 ["self","to","signs"] []
 q27:Fun K "reads" "Put.reads" xcf a.q14 a.xcn
 xjX:Binds K a.xcn ["self"] []
 q2H:Fun K "writes" "Put.writes" xbm a.q1O a.xbx
 xiW:Binds K a.xbx ["self"] []
 q2I:Fun K "pieces" "Put.pieces" xbn a.q1P a.xby
 xiX:Binds K a.xby ["self"] []
 q17:Fun K "sign_for" "Put.sign_for" xaa a.q1h a.xac
 xhb:Binds K a.xac ["self","cell","read"] []
 q3D:Fun K "told" "Put.told" xga a.q3C a.xgb
 xrz:Binds K a.xgb ["self"] []
 q1Z:Fun K "row_of" "row_of" xfp a.q3y a.xfq
 xae:Binds K a.xfq ["told"] []
 xaf:mg "row_of"=some (.ref a.q3y)
 q2c:Fun K "tells_take" "tells_take" xbo a.q2b a.xbz
 xiY:Binds K a.xbz ["told"] []
 xiZ:mg "tells_take"=some (.ref a.q2b)
 q2y:Fun K "tells_put" "tells_put" xcg a.q2s a.xco
 xjY:Binds K a.xco ["told"] []
 xjZ:mg "tells_put"=some (.ref a.q2s)
 q2z:Fun K "are_signs" "are_signs" xch a.q2t a.xcp
 xj0:Binds K a.xcp ["signs"] []
 xj1:mg "are_signs"=some (.ref a.q2t)
 q3f:Fun K "is_sign" "is_sign" xdZ a.q3a a.xd4
 xmE:Binds K a.xd4 ["value"] []
 xmF:mg "is_sign"=some (.ref a.q3a)
 q0t:Fun K "is_whole_from" "is_whole_from" jq a.q1l a.jw
 zE:Binds K a.jw ["least","value"] []
 zF:mg "is_whole_from"=some (.ref a.q1l)
 q2p:Fun K "is_whole" "is_whole" xc3 a.q2Y a.xc8
 xge:Binds K a.xc8 ["value"] []
 xgf:mg "is_whole"=some (.ref a.q2Y)
 q2A:Fun K "pieces_of" "pieces_of" xci a.q2u a.xcq
 xj2:Binds K a.xcq ["paper"] []
 xj3:mg "pieces_of"=some (.ref a.q2u)
 q3S:Fun K "go_on" "go_on" xgX a.q3L a.xg4
 xpe:Binds K a.xg4 ["store","paper"] []
 xpf:mg "go_on"=some (.ref a.q3L)
 q1d:Fun K "refuse_lengths" "refuse_lengths" vV a.q1b a.vY
 xfr:Binds K a.vY ["size","paper"] []
 xfs:mg "refuse_lengths"=some (.ref a.q1b)
 q1t:Fun K "refuse_beyond" "refuse_beyond" jr a.q1m a.jx
 xgg:Binds K a.jx ["size","pieces"] []
 xgh:mg "refuse_beyond"=some (.ref a.q1m)
 q1u:Fun K "places_needed" "places_needed" jt a.q1n a.jy
 xgi:Binds K a.jy ["row","cells"] []
 xgj:mg "places_needed"=some (.ref a.q1n)
 jD:Fun K "do_piece" "do_piece" ud a.q2n a.xaX
 xlG:Binds K a.xaX ["store","row","cells"] []
 xlH:mg "do_piece"=some (.ref a.q2n)
 q37:zS K q1k zC
 xj4:a.xaX.code= .ref q1k
 q3T:Fun K "judge" "judge" xgY a.q3M a.xg5
 xpg:Binds K a.xg5 ["paper"] []
 xph:mg "judge"=some (.ref a.q3M)
 q1J:Fun K "fits_in_size" "fits_in_size" xab a.q1H a.xad
 xhc:Binds K a.xad ["paper"] []
 xhd:mg "fits_in_size"=some (.ref a.q1H)
 q15:Fun K "is_length" "is_length" xcj a.q2v a.xcr
 xe2:Binds K a.xcr ["value"] []
 xe3:mg "is_length"=some (.ref a.q2v)
 q0X:Fun K "first_wrong_row" "first_wrong_row" vA a.q0W a.vD
 xeP:Binds K a.vD ["paper"] []
 xeQ:mg "first_wrong_row"=some (.ref a.q0W)
 q1e:Fun K "is_fitting_row" "is_fitting_row" vW a.q1c a.vZ
 xft:Binds K a.vZ ["told","old","new"] []
 xfu:mg "is_fitting_row"=some (.ref a.q1c)
 q1v:Fun K "covered_twice" "covered_twice" ju a.q1o a.jz
 xgk:Binds K a.jz ["rows"] []
 xgl:mg "covered_twice"=some (.ref a.q1o)
 q3g:Fun K "lacking" "lacking" xd0 a.q3b a.xd5
 xmG:Binds K a.xd5 ["rows","new"] []
 xmH:mg "lacking"=some (.ref a.q3b)
 q2B:Fun K "read_late" "read_late" xck a.q2w a.xcs
 xj5:Binds K a.xcs ["rows"] []
 xj6:mg "read_late"=some (.ref a.q2w)
 q3q:Fun K "__init__" "Pen.__init__" xc4 a.q2o a.xc9
 xgm:Binds K a.xc9 ["self","fall"] []
 q1K:Fun K "write_into" "Pen.write_into" vX a.q0L a.ja
 jb:Binds K a.ja ["self","kept","at","value","torn"] []
 q0S:Fun K "answer_of_fall" "Pen.answer_of_fall" ue a.q0q a.ui
 xda:Binds K a.ui ["self","count"] []
 uX:xfm K "__init__" "Store.__init__" zT a.q1p a.jA [.none]
 xaL:Binds K a.jA ["self","cells","fall"] [.none]
 xea:Binds K a.jA ["self","cells","fall"] []
 q2J:Fun K "read" "Store.read" xbp a.q1Q a.xbA
 xi0:Binds K a.xbA ["self","at"] []
 vT:Fun K "write" "Store.write" yT a.q08 a.vR
 xh6:Binds K a.vR ["self","at","sign"] []
 q3U:zS K q0N yU
 xhe:a.vR.code= .ref q0N
 q2K:Fun K "mark" "Store.mark" xbq a.q1R a.xbB
 xi1:Binds K a.xbB ["self","number"] []
 q2h:Fun K "noted" "Store.noted" xaD a.q1D a.xaJ
 xh7:Binds K a.xaJ ["self"] []
 q2i:Fun K "begin" "Store.begin" xaE a.q1E a.xaK
 xh8:Binds K a.xaK ["self"] []
 q2L:Fun K "told" "Store.told" xbr a.q1S a.xbC
 xeb:Binds K a.xbC ["self"] []
 q0F:Fun K "refuse_lacking" "Store.refuse_lacking" zJ a.q0m a.zK
 vL:Binds K a.zK ["self","at"] []
 zN:Fun K "note_down" "Store.note_down" yj a.q0y a.zM
 vF:Binds K a.zM ["self","at","number"] []
 q3h:zS K q0p yk
 xec:a.zM.code= .ref q0p
 uY:xfm K "__init__" "Board.__init__" zU a.q1q a.jB [.none]
 xdr:Binds K a.jB ["self","text","size","fall"] [.none]
 xbG:Binds K a.jB ["self","text","size","fall"] []
 q2j:Fun K "start" "Board.start" xaF a.q09 a.vS
 xh9:Binds K a.vS ["self"] []
 vp:Fun K "update" "Board.update" yD a.q0Q a.vn
 xhf:Binds K a.vn ["self","paper","total","tries"] []
 q3E:zS K q0D yF
 xgn:a.vn.code= .ref q0D
 jE:Fun K "fine" "Board.fine" zk a.q1r a.jC
 xi2:Binds K a.jC ["self"] []
 q4d:zS K q05 zm
 xia:a.jC.code= .ref q05
 uP:Fun K "go_back" "Board.go_back" yu a.q0J a.uO
 xgo:Binds K a.uO ["self"] []
 q3z:zS K q0A yv
 xfv:a.uO.code= .ref q0A
 q2M:Fun K "text" "Board.text" xbs a.q1T a.xbD
 jG:Binds K a.xbD ["self","bank"] []
 q2N:Fun K "told" "Board.told" xbt a.q1U a.xbE
 zo:Binds K a.xbE ["self"] []
 q1i:Fun K "other_bank" "Board.other_bank" uV a.q0C a.uW
 yM:Binds K a.uW ["self"] []
 q01:Fun K "bank_to_run" "Board.bank_to_run" uA a.q0u a.uE
 xdJ:Binds K a.uE ["self"] []
 q02:Fun K "refuse_down" "Board.refuse_down" uB a.q0v a.uF
 uI:Binds K a.uF ["self"] []
 q0T:Fun K "refuse_paper" "Board.refuse_paper" uf a.q0r a.uj
 xdb:Binds K a.uj ["self","paper"] []
 q03:Fun K "holds_elder" "Board.holds_elder" uC a.q0w a.uG
 xdK:Binds K a.uG ["self","bank","old"] []
 q0U:Fun K "put_on_trial" "Board.put_on_trial" ug a.q0s a.uk
 xdc:Binds K a.uk ["self","paper","total","tries"] []
 q1A:Fun K "make_good" "Board.make_good" vB a.q0H a.vE
 xeR:Binds K a.vE ["self","bank"] []
 vq:Fun K "change" "Board.change" yE a.q0R a.vo
 yf:Binds K a.vo ["self","kept","at","value"] []
 q3F:zS K q0E yG
 xgp:a.vo.code= .ref q0E
 q04:Fun K "run_or_fall" "Board.run_or_fall" uD a.q0x a.uH
 uJ:Binds K a.uH ["self","deed"] []
 q2W:Fun K "bank_of" "bank_of" xd1 a.q3c a.xd6
 xhQ:Binds K a.xd6 ["cells","pen"] []
 xhR:mg "bank_of"=some (.ref a.q3c)
 q16:Fun K "_law_cell_at" "_law_cell_at" xd2 a.q3d a.xd7
 xbY:Binds K a.xd7 ["_law_script","_law_k"] []
 xbZ:mg "_law_cell_at"=some (.ref a.q3d)
 q1j:Fun K "_law_mixed" "_law_mixed" xgZ a.q3N a.xg6
 zV:Binds K a.xg6 ["_law_cell","_law_k"] []
 zW:mg "_law_mixed"=some (.ref a.q3N)
 q4b:Fun K "_law_text" "_law_text" xiQ a.q4l a.xiT
 xmI:Binds K a.xiT ["_law_cell","_law_size"] []
 xmJ:mg "_law_text"=some (.ref a.q4l)
 q2C:Fun K "_law_new_paper" "_law_new_paper" xcl a.q2x a.xct
 xj7:Binds K a.xct ["_law_old","_law_cell"] []
 xj8:mg "_law_new_paper"=some (.ref a.q2x)
 q3V:Fun K "_law_meant" "_law_meant" xg0 a.q3O a.xg7
 xpi:Binds K a.xg7 ["_law_paper_here","_law_elder"] []
 xpj:mg "_law_meant"=some (.ref a.q3O)
 q3i:Fun K "_law_fall_at" "_law_fall_at" xd3 a.q3e a.xd8
 xmK:Binds K a.xd8 ["_law_cell","_law_count"] []
 xmL:mg "_law_fall_at"=some (.ref a.q3e)
 q4n:Fun K "_law_deed" "_law_deed" xiR a.q4m a.xiU
 xqN:Binds K a.xiU ["_law_board","_law_deed_here","_law_paper_here","_law_total_here","_law_tries"] []
 xqO:mg "_law_deed"=some (.ref a.q4m)
 q3W:Fun K "_law_paper" "_law_paper" xg1 a.q3P a.xg8
 xpk:Binds K a.xg8 ["_law_board","_law_papers","_law_cell"] []
 xpl:mg "_law_paper"=some (.ref a.q3P)
 q3X:Fun K "_law_total" "_law_total" xg2 a.q3Q a.xg9
 xpm:Binds K a.xg9 ["_law_board","_law_paper_here","_law_draw"] []
 xpn:mg "_law_total"=some (.ref a.q3Q)
 q3Y:Fun K "_law_right" "_law_right" xg3 a.q3R a.xha
 xpo:Binds K a.xha ["_law_board","_law_texts"] []
 xpp:mg "_law_right"=some (.ref a.q3R)
 xit:Fun K "law" "law" xc5 a.q4s a.xis
 xr9:Binds K a.xis ["_law_script"] []
 q5g:zS K q36 xeI
 xqP:a.xis.code= .ref q36
 xov:mg "Row"=some (.ref a.q2Z)
 q58:Cls K a.q2Z
 q4A:xG K a.q2Z "count"
 q48:xG K a.q2Z "to"
 xi3:mg "Take"=some (.ref a.q0c)
 q0g:Cls K a.q0c
 q0P:xG K a.q0c "count"
 q0z:xG K a.q0c "source"
 q0V:xG K a.q0c "to"
 q4W:Mk K a.q0c a.q13
 xrA:mg "Put"=some (.ref a.q0f)
 q1F:Cls K a.q0f
 q1V:xG K a.q0f "count"
 q3j:xG K a.q0f "signs"
 q2X:xG K a.q0f "to"
 q5h:Mk K a.q0f a.q2m
 xow:mg "Pen"=some (.ref a.q0i)
 q3v:Cls K a.q0i
 q2O:xG K a.q0i "asked"
 q38:xG K a.q0i "fall"
 q4O:Mk K a.q0i a.q2o
 xpq:mg "Store"=some (.ref a.q0e)
 q0l:Cls K a.q0e
 q1L:xG K a.q0e "cells"
 q18:xG K a.q0e "notes"
 q2d:xG K a.q0e "pen"
 q4J:Mk K a.q0e a.q1p
 xpr:mg "Board"=some (.ref a.q0b)
 q0a:Cls K a.q0b
 q2P:xG K a.q0b "banks"
 q1f:xG K a.q0b "lengths"
 q0h:xG K a.q0b "marks"
 q2Q:xG K a.q0b "pen"
 q0o:xG K a.q0b "running"
 q0j:xG K a.q0b "settings"
 q3w:xG K a.q0b "size"
 q4K:Mk K a.q0b a.q1q
 xqQ:mg "Down"=some (.ref a.q1s)
 xdd:mg "Fallen"=some (.ref a.q0d)
 xr8:mg "NoRow"=some (.ref a.q00)
 xmM:mg "NoTrial"=some (.ref a.q0Z)
 xj9:mg "NoWayBack"=some (.ref a.q0B)
 xmN:mg "OnTrial"=some (.ref a.q0M)
 xka:mg "RoomError"=some (.ref a.q0k)
 xkB:mg "Unfit"=some (.ref a.q1I)
 q5i:xcY K a.q1s
 q2R:a5 K (.ref a.q1s) (.ref a.q0d)=some false
 q4x:a5 K (.ref a.q1s) (.ref a.q00)=some false
 q10:a5 K (.ref a.q1s) (.ref a.q0k)=some true
 q3k:xcd K a.q0d a.q07
 xas:fZ K a.q0d=true
 q0K:xG K a.q0d "count"
 q1g:a5 K (.ref a.q0d) (.ref a.q0d)=some true
 q4t:a5 K (.ref a.q0d) (.ref a.q00)=some false
 q3K:a5 K (.ref a.q0d) (.ref a.q0k)=some true
 q3l:xls K a.q0d
 q4B:xcY K a.q0Z
 q3r:a5 K (.ref a.q0Z) (.ref a.q0d)=some false
 q4o:a5 K (.ref a.q0Z) (.ref a.q00)=some false
 q20:a5 K (.ref a.q0Z) (.ref a.q0k)=some true
 q4v:xcY K a.q0B
 q29:a5 K (.ref a.q0B) (.ref a.q0d)=some false
 q4c:a5 K (.ref a.q0B) (.ref a.q00)=some false
 q2D:a5 K (.ref a.q0B) (.ref a.q0k)=some true
 q4C:xcY K a.q0M
 q3s:a5 K (.ref a.q0M) (.ref a.q0d)=some false
 q4p:a5 K (.ref a.q0M) (.ref a.q00)=some false
 q21:a5 K (.ref a.q0M) (.ref a.q0k)=some true
 q4D:xcY K a.q1I
 q3G:a5 K (.ref a.q1I) (.ref a.q0d)=some false
 q4w:a5 K (.ref a.q1I) (.ref a.q00)=some false
 q3m:a5 K (.ref a.q1I) (.ref a.q0k)=some true
 q4u:xcc K a.q0d
 q5j:xcc K a.q00
 q4q:xcc K a.q0k
 xmO:∀{H:Hp} {o dx:Addr} {fs:List (Str×V)},H o=some (.ins a.q0f dx fs)→zI K H (.ref o) (.ref a.q0f)
 xkC:∀{H:Hp} {o dx:Addr} {fs:List (Str×V)},H o=some (.ins a.q0c dx fs)→zI K H (.ref o) (.ref a.q0c)
 q39:gM K (.ref a.q0f) (.ref a.q0c)=some false
 q3H:gM K (.ref a.q0c) (.ref a.q0c)=some true
 xmP:mg "MOST"=some (.int 300 a.q4N)
 q22:Meth K a.q0b "bank_to_run" a.q0u
 q0n:Meth K a.q0b "change" a.q0R
 q4e:Meth K a.q0b "fine" a.q1r
 q3A:Meth K a.q0b "go_back" a.q0J
 q23:Meth K a.q0b "holds_elder" a.q0w
 q3n:Meth K a.q0b "make_good" a.q0H
 q0I:Meth K a.q0b "other_bank" a.q0C
 q2S:Meth K a.q0b "put_on_trial" a.q0s
 q1w:Meth K a.q0b "refuse_down" a.q0v
 q2T:Meth K a.q0b "refuse_paper" a.q0r
 q1x:Meth K a.q0b "run_or_fall" a.q0x
 q3Z:Meth K a.q0b "start" a.q09
 q2k:Meth K a.q0b "text" a.q1T
 q1a:Meth K a.q0b "told" a.q1U
 q3I:Meth K a.q0b "update" a.q0Q
 q2U:Meth K a.q0i "answer_of_fall" a.q0q
 q11:Meth K a.q0i "write_into" a.q0L
 q19:Meth K a.q0f "covered" a.q0O
 q4f:Meth K a.q0f "covers" a.q06
 q4g:Meth K a.q0f "pieces" a.q1P
 q4r:Meth K a.q0f "reads" a.q14
 q3J:Meth K a.q0f "sign_for" a.q1h
 q4h:Meth K a.q0f "writes" a.q1O
 q30:Meth K a.q0e "begin" a.q1E
 q4i:Meth K a.q0e "mark" a.q1R
 q1W:Meth K a.q0e "note_down" a.q0y
 q31:Meth K a.q0e "noted" a.q1D
 q4j:Meth K a.q0e "read" a.q1Q
 q1G:Meth K a.q0e "refuse_lacking" a.q0m
 q3x:Meth K a.q0e "told" a.q1S
 q32:Meth K a.q0e "write" a.q08
 q2q:Meth K a.q0c "covered" a.q0O
 q33:Meth K a.q0c "covers" a.q06
 q34:Meth K a.q0c "pieces" a.q1C
 q4k:Meth K a.q0c "reads" a.q1N
 q3B:Meth K a.q0c "sign_for" a.q0Y
 q2r:Meth K a.q0c "source_for" a.q0G
 q24:Meth K a.q0c "stays" a.q1M
 q35:Meth K a.q0c "writes" a.q1B
 q4a:xny K a.q2Z "__init__" a.q2l
 q5D:mg "abs"=none
 q5E:mg "all"=none
 q5k:mg "bool"=none
 q28:mg "enumerate"=none
 q4P:mg "int"=none
 q1y:mg "isinstance"=none
 q12:mg "len"=none
 q25:mg "list"=none
 q4E:mg "max"=none
 q4F:mg "min"=none
 q2a:mg "range"=none
 q5f:mg "sum"=none
 q2V:mg "tuple"=none
theorem vt:xr ["self","count"] ["self","count"] (xh xaz):=⟨rfl,rfl,rfl,by decide+kernel,rfl,by decide+kernel,by decide+kernel⟩
theorem xe4:xr ["self","to"] ["self","to"] (xh xc1):=⟨rfl,rfl,rfl,by decide+kernel,rfl,by decide+kernel,by decide+kernel⟩
theorem xds:xr ["self"] ["self"] (xh xbj):=⟨rfl,rfl,rfl,by decide+kernel,rfl,by decide+kernel,by decide+kernel⟩
theorem xcG:xr ["self"] ["self"] (xh xaA):=⟨rfl,rfl,rfl,by decide+kernel,rfl,by decide+kernel,by decide+kernel⟩
theorem xed:xr ["self","to","start","count"] ["self","to","start","count"] (xh xce):=⟨rfl,rfl,rfl,by decide+kernel,rfl,by decide+kernel,by decide+kernel⟩
theorem xdt:xr ["self"] ["self"] (xh xbk):=⟨rfl,rfl,rfl,by decide+kernel,rfl,by decide+kernel,by decide+kernel⟩
theorem xdu:xr ["self"] ["self"] (xh xbl):=⟨rfl,rfl,rfl,by decide+kernel,rfl,by decide+kernel,by decide+kernel⟩
theorem xcH:xr ["self"] ["self"] (xh xaB):=⟨rfl,rfl,rfl,by decide+kernel,rfl,by decide+kernel,by decide+kernel⟩
theorem xcI:xr ["self","first","end","step"] ["self"] (xh xaC):=⟨rfl,rfl,rfl,by decide+kernel,rfl,by decide+kernel,by decide+kernel⟩
theorem xat:xr ["self","cell"] ["self","cell"] (xh vz):=⟨rfl,rfl,rfl,by decide+kernel,rfl,by decide+kernel,by decide+kernel⟩
theorem xbH:xr ["self","cell","read"] ["self","cell","read"] (xh jo):=⟨rfl,rfl,rfl,by decide+kernel,rfl,by decide+kernel,by decide+kernel⟩
theorem xe5:xr ["self","to","signs"] ["self","to","signs"] (xh xc2):=⟨rfl,rfl,rfl,by decide+kernel,rfl,by decide+kernel,by decide+kernel⟩
theorem xee:xr ["self"] ["self"] (xh xcf):=⟨rfl,rfl,rfl,by decide+kernel,rfl,by decide+kernel,by decide+kernel⟩
theorem xdv:xr ["self"] ["self"] (xh xbm):=⟨rfl,rfl,rfl,by decide+kernel,rfl,by decide+kernel,by decide+kernel⟩
theorem xdw:xr ["self"] ["self"] (xh xbn):=⟨rfl,rfl,rfl,by decide+kernel,rfl,by decide+kernel,by decide+kernel⟩
theorem xb0:xr ["self","cell","read"] ["self","cell","read"] (xh xaa):=⟨rfl,rfl,rfl,by decide+kernel,rfl,by decide+kernel,by decide+kernel⟩
theorem xhS:xr ["told"] ["told"] (xh xfp):=⟨rfl,rfl,rfl,by decide+kernel,rfl,by decide+kernel,by decide+kernel⟩
theorem xdx:xr ["told"] ["told"] (xh xbo):=⟨rfl,rfl,rfl,by decide+kernel,rfl,by decide+kernel,by decide+kernel⟩
theorem xef:xr ["told"] ["told"] (xh xcg):=⟨rfl,rfl,rfl,by decide+kernel,rfl,by decide+kernel,by decide+kernel⟩
theorem xeg:xr ["signs"] ["signs"] (xh xch):=⟨rfl,rfl,rfl,by decide+kernel,rfl,by decide+kernel,by decide+kernel⟩
theorem xgq:xr ["value"] ["value"] (xh xdZ):=⟨rfl,rfl,rfl,by decide+kernel,rfl,by decide+kernel,by decide+kernel⟩
theorem xbI:xr ["least","value"] ["least","value"] (xh jq):=⟨rfl,rfl,rfl,by decide+kernel,rfl,by decide+kernel,by decide+kernel⟩
theorem xe6:xr ["value"] ["value"] (xh xc3):=⟨rfl,rfl,rfl,by decide+kernel,rfl,by decide+kernel,by decide+kernel⟩
theorem xeh:xr ["paper","pieces","told"] ["paper"] (xh xci):=⟨rfl,rfl,rfl,by decide+kernel,rfl,by decide+kernel,by decide+kernel⟩
theorem xi4:xr ["store","paper","size","pieces","first","left","number","piece"] ["store","paper"] (xh xgX):=⟨rfl,rfl,rfl,by decide+kernel,rfl,by decide+kernel,by decide+kernel⟩
theorem xaP:xr ["size","paper","greater"] ["size","paper"] (xh vV):=⟨rfl,rfl,rfl,by decide+kernel,rfl,by decide+kernel,by decide+kernel⟩
theorem xbJ:xr ["size","pieces","told","cells","at"] ["size","pieces"] (xh jr):=⟨rfl,rfl,rfl,by decide+kernel,rfl,by decide+kernel,by decide+kernel⟩
theorem xbK:xr ["row","cells","places","cell"] ["row","cells"] (xh jt):=⟨rfl,rfl,rfl,by decide+kernel,rfl,by decide+kernel,by decide+kernel⟩
theorem xe7:xr ["store","row","cells","cell"] ["store","row","cells"] (xh ud):=⟨rfl,rfl,rfl,by decide+kernel,rfl,by decide+kernel,by decide+kernel⟩
theorem xi5:xr ["paper","wrong","rows","fault"] ["paper"] (xh xgY):=⟨rfl,rfl,rfl,by decide+kernel,rfl,by decide+kernel,by decide+kernel⟩
theorem xb1:xr ["paper"] ["paper"] (xh xab):=⟨rfl,rfl,rfl,by decide+kernel,rfl,by decide+kernel,by decide+kernel⟩
theorem xei:xr ["value"] ["value"] (xh xcj):=⟨rfl,rfl,rfl,by decide+kernel,rfl,by decide+kernel,by decide+kernel⟩
theorem xau:xr ["paper","number","told"] ["paper"] (xh vA):=⟨rfl,rfl,rfl,by decide+kernel,rfl,by decide+kernel,by decide+kernel⟩
theorem xaQ:xr ["told","old","new","row"] ["told","old","new"] (xh vW):=⟨rfl,rfl,rfl,by decide+kernel,rfl,by decide+kernel,by decide+kernel⟩
theorem xbL:xr ["rows","covered","number","row","cell"] ["rows"] (xh ju):=⟨rfl,rfl,rfl,by decide+kernel,rfl,by decide+kernel,by decide+kernel⟩
theorem xgr:xr ["rows","new","covered","row","cell"] ["rows","new"] (xh xd0):=⟨rfl,rfl,rfl,by decide+kernel,rfl,by decide+kernel,by decide+kernel⟩
theorem xej:xr ["rows","written","number","row","cell"] ["rows"] (xh xck):=⟨rfl,rfl,rfl,by decide+kernel,rfl,by decide+kernel,by decide+kernel⟩
theorem xe8:xr ["self","fall"] ["self","fall"] (xh xc4):=⟨rfl,rfl,rfl,by decide+kernel,rfl,by decide+kernel,by decide+kernel⟩
theorem xaR:xr ["self","kept","at","value","torn","count","answer"] ["self","kept","at","value","torn"] (xh vX):=⟨rfl,rfl,rfl,by decide+kernel,rfl,by decide+kernel,by decide+kernel⟩
theorem ji:xr ["self","count","fall"] ["self","count"] (xh ue):=⟨rfl,rfl,rfl,by decide+kernel,rfl,by decide+kernel,by decide+kernel⟩
theorem xdy:xr ["self","cells","fall"] ["self","cells","fall"] (xh zT):=⟨rfl,rfl,rfl,by decide+kernel,rfl,by decide+kernel,by decide+kernel⟩
theorem xdz:xr ["self","at"] ["self","at"] (xh xbp):=⟨rfl,rfl,rfl,by decide+kernel,rfl,by decide+kernel,by decide+kernel⟩
theorem xcJ:xr ["self","at","sign"] ["self","at","sign"] (xh yT):=⟨rfl,rfl,rfl,by decide+kernel,rfl,by decide+kernel,by decide+kernel⟩
theorem xdA:xr ["self","number"] ["self","number"] (xh xbq):=⟨rfl,rfl,rfl,by decide+kernel,rfl,by decide+kernel,by decide+kernel⟩
theorem xcK:xr ["self"] ["self"] (xh xaD):=⟨rfl,rfl,rfl,by decide+kernel,rfl,by decide+kernel,by decide+kernel⟩
theorem xcL:xr ["self"] ["self"] (xh xaE):=⟨rfl,rfl,rfl,by decide+kernel,rfl,by decide+kernel,by decide+kernel⟩
theorem xdB:xr ["self"] ["self"] (xh xbr):=⟨rfl,rfl,rfl,by decide+kernel,rfl,by decide+kernel,by decide+kernel⟩
theorem vw:xr ["self","at"] ["self","at"] (xh zJ):=⟨rfl,rfl,rfl,by decide+kernel,rfl,by decide+kernel,by decide+kernel⟩
theorem xav:xr ["self","at","number"] ["self","at","number"] (xh yj):=⟨rfl,rfl,rfl,by decide+kernel,rfl,by decide+kernel,by decide+kernel⟩
theorem xdC:xr ["self","text","size","fall"] ["self","text","size","fall"] (xh zU):=⟨rfl,rfl,rfl,by decide+kernel,rfl,by decide+kernel,by decide+kernel⟩
theorem xcM:xr ["self"] ["self"] (xh xaF):=⟨rfl,rfl,rfl,by decide+kernel,rfl,by decide+kernel,by decide+kernel⟩
theorem xb2:xr ["self","paper","total","tries"] ["self","paper","total","tries"] (xh yD):=⟨rfl,rfl,rfl,by decide+kernel,rfl,by decide+kernel,by decide+kernel⟩
theorem xdD:xr ["self","other"] ["self"] (xh zk):=⟨rfl,rfl,rfl,by decide+kernel,rfl,by decide+kernel,by decide+kernel⟩
theorem xbM:xr ["self","other"] ["self"] (xh yu):=⟨rfl,rfl,rfl,by decide+kernel,rfl,by decide+kernel,by decide+kernel⟩
theorem xdE:xr ["self","bank"] ["self","bank"] (xh xbs):=⟨rfl,rfl,rfl,by decide+kernel,rfl,by decide+kernel,by decide+kernel⟩
theorem xdF:xr ["self","marker","counter"] ["self"] (xh xbt):=⟨rfl,rfl,rfl,by decide+kernel,rfl,by decide+kernel,by decide+kernel⟩
theorem jO:xr ["self"] ["self"] (xh uV):=⟨rfl,rfl,rfl,by decide+kernel,rfl,by decide+kernel,by decide+kernel⟩
theorem jH:xr ["self","marked","other","counter"] ["self"] (xh uA):=⟨rfl,rfl,rfl,by decide+kernel,rfl,by decide+kernel,by decide+kernel⟩
theorem jI:xr ["self"] ["self"] (xh uB):=⟨rfl,rfl,rfl,by decide+kernel,rfl,by decide+kernel,by decide+kernel⟩
theorem jj:xr ["self","paper","other","fault"] ["self","paper"] (xh uf):=⟨rfl,rfl,rfl,by decide+kernel,rfl,by decide+kernel,by decide+kernel⟩
theorem jJ:xr ["self","bank","old"] ["self","bank","old"] (xh uC):=⟨rfl,rfl,rfl,by decide+kernel,rfl,by decide+kernel,by decide+kernel⟩
theorem jk:xr ["self","paper","total","tries","other","bank"] ["self","paper","total","tries"] (xh ug):=⟨rfl,rfl,rfl,by decide+kernel,rfl,by decide+kernel,by decide+kernel⟩
theorem xaw:xr ["self","bank"] ["self","bank"] (xh vB):=⟨rfl,rfl,rfl,by decide+kernel,rfl,by decide+kernel,by decide+kernel⟩
theorem xb3:xr ["self","kept","at","value"] ["self","kept","at","value"] (xh yE):=⟨rfl,rfl,rfl,by decide+kernel,rfl,by decide+kernel,by decide+kernel⟩
theorem jK:xr ["self","deed","fallen"] ["self","deed"] (xh uD):=⟨rfl,rfl,rfl,by decide+kernel,rfl,by decide+kernel,by decide+kernel⟩
theorem xgs:xr ["cells","pen","bank"] ["cells","pen"] (xh xd1):=⟨rfl,rfl,rfl,by decide+kernel,rfl,by decide+kernel,by decide+kernel⟩
theorem xgt:xr ["_law_script","_law_k"] ["_law_script","_law_k"] (xh xd2):=⟨rfl,rfl,rfl,by decide+kernel,rfl,by decide+kernel,by decide+kernel⟩
theorem xi6:xr ["_law_cell","_law_k","_law_number"] ["_law_cell","_law_k"] (xh xgZ):=⟨rfl,rfl,rfl,by decide+kernel,rfl,by decide+kernel,by decide+kernel⟩
theorem xkD:xr ["_law_cell","_law_size","_law_sizes"] ["_law_cell","_law_size"] (xh xiQ):=⟨rfl,rfl,rfl,by decide+kernel,rfl,by decide+kernel,by decide+kernel⟩
theorem xek:xr ["_law_old","_law_cell","_law_size","_law_signs","_law_count","_law_rows","_law_start","_law_to"] ["_law_old","_law_cell"] (xh xcl):=⟨rfl,rfl,rfl,by decide+kernel,rfl,by decide+kernel,by decide+kernel⟩
theorem xi7:xr ["_law_paper_here","_law_elder","_law_cells","_law_row","_law_j"] ["_law_paper_here","_law_elder"] (xh xg0):=⟨rfl,rfl,rfl,by decide+kernel,rfl,by decide+kernel,by decide+kernel⟩
theorem xgu:xr ["_law_cell","_law_count","_law_draw"] ["_law_cell","_law_count"] (xh xd3):=⟨rfl,rfl,rfl,by decide+kernel,rfl,by decide+kernel,by decide+kernel⟩
theorem xkE:xr ["_law_board","_law_deed_here","_law_paper_here","_law_total_here","_law_tries","_law_answer","_law_fell","e"] ["_law_board","_law_deed_here","_law_paper_here","_law_total_here","_law_tries"] (xh xiR):=⟨rfl,rfl,rfl,by decide+kernel,rfl,by decide+kernel,by decide+kernel⟩
theorem xi8:xr ["_law_board","_law_papers","_law_cell","_law_marker","_law_marks","_law_lengths","_law_tries","_law_running"] ["_law_board","_law_papers","_law_cell"] (xh xg1):=⟨rfl,rfl,rfl,by decide+kernel,rfl,by decide+kernel,by decide+kernel⟩
theorem xi9:xr ["_law_board","_law_paper_here","_law_draw","_law_marker","_law_marks","_law_lengths","_law_tries","_law_running","_law_elder"] ["_law_board","_law_paper_here","_law_draw"] (xh xg2):=⟨rfl,rfl,rfl,by decide+kernel,rfl,by decide+kernel,by decide+kernel⟩
theorem xja:xr ["_law_board","_law_texts","_law_marker","_law_marks","_law_lengths","_law_tries","_law_running"] ["_law_board","_law_texts"] (xh xg3):=⟨rfl,rfl,rfl,by decide+kernel,rfl,by decide+kernel,by decide+kernel⟩
theorem xmQ:xr ["_law_script","_law_text_here","_law_size","_law_board","_law_texts","_law_papers","_law_left","_law_last","_law_k","_law_draw","_law_deed_here","_law_paper_here","_law_total_here","_law_tries","_law_ahead","_law_answer","_law_fell"] ["_law_script"] (xh xc5):=⟨rfl,rfl,rfl,by decide+kernel,rfl,by decide+kernel,by decide+kernel⟩
def xb4(to st c:Int):List (Str×V):=[("to",.int to),("count",.int c),("source",.int st)]
def xeJ(to:Int)(t:Addr)(n:Int):List (Str×V):=[("to",.int to),("count",.int n),("signs",.ref t)]
def yr(lo:Int)(n:Nat):List Int:=(dN n).map fun(i:Nat)=>lo+(i:Int)
theorem xeK(lo:Int)(n:Nat):xdT lo n=(yr lo n).map V.int:=by simp[xdT,yr,kh]
theorem yi(lo:Int)(n:Nat):(yr lo n).length=n:=by simp[yr]
theorem jc{x lo:Int}{n:Nat}:x∈yr lo n↔lo≤x∧x<lo+n:=by
 unfold yr;rw[cY];constructor
 ·rintro⟨i,hi,rfl⟩;have:=d9.mp hi;lia
 ·rintro⟨h1,h2⟩;exact⟨(x - lo).toNat,d9.mpr (by lia),by lia⟩
inductive xp where
 |take (to st c:Int)
 |put (to:Int) (sg:List Int)
def xp.isTake:xp→Bool
 | .take .. =>true
 | .put .. =>false
def TupAt(K:ag)(H:Hp)(t:Addr):xp→Prop
 | .take to st c=>H t=some (.tup [.str "take",.int to,.int st,.int c])
 | .put to sg=>∃u,H t=some (.tup [.str "put",.int to,.ref u])∧H u=some (.tup (sg.map V.int))
theorem TupAt.same{K:ag}{H H':Hp}{t:Addr}{r:xp}(h:TupAt K H t r)(s:xf H H'):TupAt K H' t r:=by
 cases r with
 |take to st c=>exact s.at h
 |put to sg=>obtain⟨u,h1,h2⟩:=h;exact⟨u,s.at h1,s.at h2⟩
def za(K:ag)(a:Adr)(H:Hp)(o:Addr):xp→Prop
 | .take to st c=>∃dx,H o=some (.ins a.q0c dx (xb4 to st c))
 | .put to sg=>∃dx u,H o=some (.ins a.q0f dx (xeJ to u sg.length))∧H u=some (.tup (sg.map V.int))
theorem za.same{K:ag}{a:Adr}{H H':Hp}{o:Addr}{r:xp}(h:za K a H o r)(s:xf H H'):za K a H' o r:=by
 cases r with
 |take to st c=>obtain⟨dx,h⟩:=h;exact⟨dx,s.at h⟩
 |put to sg=>obtain⟨dx,u,h1,h2⟩:=h;exact⟨dx,u,s.at h1,s.at h2⟩
theorem za.mv{K:ag}{a:Adr}{H H' H6:Hp}{o:Addr}{r:xp}(h:za K a H' o r)(k:∀p o,(H p=none∨∀ys,o≠HO.lst ys)→H' p=some o→H6 p=some o):za K a H6 o r:=by
 cases r with
 |take to st c=>obtain⟨dx,h⟩:=h;exact⟨dx,k _ _ (.inr fun ys z=>by cases z) h⟩
 |put to sg=>obtain⟨dx,u,h1,h2⟩:=h;exact⟨dx,u,k _ _ (.inr fun ys z=>by cases z) h1,k _ _ (.inr fun ys z=>by cases z) h2⟩
def xp.ok:xp→Prop
 | .take to st c=>0≤to∧0≤st∧1≤c
 | .put to sg=>0≤to∧sg≠[]∧sg.length≤100000∧∀x∈sg,(x.natAbs:Int)<10^60
def xp.dat:xp→eK
 | .take to st c=>.tuple [.str "take",.int to,.int st,.int c]
 | .put to sg=>.tuple [.str "put",.int to,.tuple (sg.map dU)]
theorem xjb{K:ag}{H:Hp}:∀xs:List Int,Rps K H (xs.map V.int) (xs.map dU)
 |[]=>.nil
 |x::xs=>.cons (.int x) (xjb xs)
theorem TupAt.rp{K:ag}{H:Hp}{t:Addr}{r:xp}(h:TupAt K H t r):Rp K H (.ref t) r.dat:=by
 cases r with
 |take to st c=>exact .tup (SqT.of h) (.cons (.str _) (.cons (.int _) (.cons (.int _) (.cons (.int _) .nil))))
 |put to sg=>obtain⟨u,h1,h2⟩:=h;exact .tup (SqT.of h1) (.cons (.str _) (.cons (.int _) (.cons (.tup (SqT.of h2) (xjb sg)) .nil)))
theorem xps(r:xp):b9 r.dat=true:=by
 cases r with
 |take to st c=>simp[xp.dat,b9,bt];decide+kernel
 |put to sg=>simp[xp.dat,b9,bt,W.ke_canLayAll0 sg];decide+kernel
theorem xmR(r:xp):dE r.dat≤2:=by
 cases r with
 |take to st c=>simp[xp.dat,dE,bY]
 |put to sg=>simp[xp.dat,dE,bY,W.ke_depthAll sg]
theorem xjc:∀rs:List xp,bt (rs.map xp.dat)=true
 |[]=>by simp[bt]
 |x::r=>by simp only[bq,bt,xps,xjc r,Bool.and_true]
theorem xgv:∀rs:List xp,bY (rs.map xp.dat)≤2
 |[]=>by simp[bY]
 |x::r=>by
  simp only[bq,bY];have:=xmR x;have:=xgv r;lia
def xjd(K:ag)(a:Adr)(H:Hp)(l:Addr)(rs:List xp):Prop:=∃ts:List Addr,SqL K H l (ts.map V.ref)∧Paired (za K a H) ts rs
theorem xkF{K:ag}{H:Hp}:∀{ts:List Addr} {rs:List xp},Paired (TupAt K H) ts rs→Rps K H (ts.map V.ref) (rs.map xp.dat)
 |_,_,.nil=>.nil
 |_,_,.cons x xs=>.cons x.rp (xkF xs)
theorem xmS{K:ag}{H:Hp}{t p C dx:Addr}{xs:List V}{fs:List (Str×V)}{o:HO}(h:SqT K H t xs)(hp:H p=some (.ins C dx fs)):SqT K (upd H p o) t xs:=by
 rcases h with(h|⟨ob,h⟩)|h
 ·exact .inl (.inl (by rw[xl (xbR h hp (by intro z;cases z))];exact h))
 ·exact .inl (.inr ⟨ob,by rw[xl (xbR h hp (by intro z;cases z))];exact h⟩)
 ·exact .inr h
def xkb(K:ag):Sp:=fun vs H Q _=>∃(p C dx:Addr) (to:Int),vs=[.ref p,.int to]∧H p=some (.ins C dx [])∧Cls K C∧xG K C "to"∧xG K C "count"∧Q .non (upd H p (.ins C dx [("to",.int to),("count",.int 0)]))
def xje(a:Adr):Sp:=fun vs H Q _=>∃(p dx:Addr) (to st c:Int),vs=[.ref p,.int to,.int st,.int c]∧H p=some (.ins a.q0c dx [])∧Q .non (upd H p (.ins a.q0c dx (xb4 to st c)))
def xkc(K:ag)(a:Adr):Sp:=fun vs H Q _=>∃(p dx t:Addr) (to:Int) (xs:List V),vs=[.ref p,.int to,.ref t]∧H p=some (.ins a.q0f dx [])∧SqT K H t xs∧Q .non (upd H p (.ins a.q0f dx (xeJ to t xs.length)))
def xfw(H:Hp)(Q:VK)(ns:List Int):Prop:=∀(l:Addr) (H':Hp),xf H H'→H l=none→H' l=some (.lst (ns.map V.int))→Q (.ref l) H'
def xnM(a:Adr):Sp:=fun vs H Q _=>∃(p dx:Addr) (to st c:Int),vs=[.ref p]∧H p=some (.ins a.q0c dx (xb4 to st c))∧Q (.bl (decide (st=to))) H
def xkd:Sp:=fun vs H Q _=>∃i:Int,vs=[.int i]∧Q (.bl true) H
def xfx:Sp:=fun vs H Q _=>∃l i:Int,vs=[.int l,.int i]∧Q (.bl (decide (l≤i))) H
def xlI:Sp:=fun vs H Q _=>∃i:Int,vs=[.int i]∧(i.natAbs:Int)<10^60∧Q (.bl true) H
def xjf(K:ag):Sp:=fun vs H Q _=>∃(u:Addr) (sg:List Int),vs=[.ref u]∧H u=some (.tup (sg.map V.int))∧sg≠[]∧sg.length≤100000∧(∀x∈sg,(x.natAbs:Int)<10^60)∧∀H',xf H H'→Q (.bl true) H'
def xib(K:ag):Sp:=fun vs H Q _=>∃(t:Addr) (r:xp),vs=[.ref t]∧TupAt K H t r∧r.ok∧Q (.bl r.isTake) H
def xjg(K:ag):Sp:=fun vs H Q _=>∃(t:Addr) (to:Int) (sg:List Int),vs=[.ref t]∧TupAt K H t (.put to sg)∧xp.ok (.put to sg)∧∀H',xf H H'→Q (.bl true) H'
def xax(K:ag)(a:Adr):Sp:=fun vs H Q _=>∃(t:Addr) (r:xp),vs=[.ref t]∧TupAt K H t r∧r.ok∧∀(o:Addr) (H':Hp),xf H H'→H o=none→za K a H' o r→Q (.ref o) H'
def mixed(c k:Int):Int:=if c%2=1 then c / 2^(1+20*(k%120)).toNat%2^(20:Int).toNat else
 let n:=(c / 2%2147483647+7919*k+1)*48271%2147483647
 n*(n / 1009+69621)%2147483647
def cellAt(ns:List Int)(k:Int):Int:=if k<ns.length then ns.getD k.toNat 0 else 0
def xde(K:ag):Sp:=fun vs H Q _=>∃(p C dx:Addr) (fs:List (Str×V)) (to c:Int),vs=[.ref p]∧H p=some (.ins C dx fs)∧Cls K C∧xG K C "to"∧xG K C "count"∧fs.lookup ("to":Str)=some (.int to)∧fs.lookup ("count":Str)=some (.int c)∧c.toNat≤2^24∧xfw H Q (yr to c.toNat)
def xlJ(K:ag):Sp:=fun vs H Q _=>∃(l:Addr) (ns:List Int) (k:Int),vs=[.ref l,.int k]∧SqL K H l (ns.map V.int)∧0≤k∧Q (.int (cellAt ns k)) H
def xnN:Sp:=fun vs H Q _=>∃c k:Int,vs=[.int c,.int k]∧Q (.int (mixed c k)) H
def cN(d k:Nat):Nat:=(k+d - 1) / d
def chs(u:Nat→Nat→List Int)(d k:Nat):List (List Int):=(dN (cN d k)).map (u k)
theorem xkG{d:Nat}(hd:0<d):cN d 0=0:=by unfold cN;exact Nat.div_eq_of_lt (by omega)
theorem xeL{d:Nat}(hd:0<d)(k:Nat):cN d (k+1)=k / d+1:=by
 unfold cN;rw[show k+1+d - 1=k+d by lia,Nat.add_div_right _ hd]
def uch(to:Int)(d k j:Nat):List Int:=yr (to+((j*d:Nat):Int)) (min d (k - j*d))
def dch(e:Int)(d k j:Nat):List Int:=yr (e - ((min ((j+1)*d) k:Nat):Int)) (min d (k - j*d))
def zA(to st c:Int):List (List Int):=
 if st=to then[]else if to<st then chs (uch to (st - to).toNat) (st - to).toNat c.toNat else chs (dch (to+c) (to - st).toNat) (to - st).toNat c.toNat
theorem xeM(u:Nat→Nat→List Int)(d k:Nat)(hd:0<d):(chs u d k).length≤k:=by
 unfold chs;rw[ao,gC];cases k with
 |zero=>rw[xkG hd];exact ax _
 |succ k=>rw[xeL hd];have:=Nat.div_le_self k d;lia
theorem xmT{x:Int}(h0:x≠0)(h:x.natAbs<2^200):xmp x:=by
 refine⟨h0,?_⟩;have:x.natAbs.log2<200:=(Nat.log2_lt (by lia)).mpr h;lia
theorem xpt(to c:Int)(d:Nat)(hc:1≤c)(hd:0<d):yx to (to+c) (d:Int)=cN d c.toNat:=by
 unfold yx bc;rw[if_pos (by lia),if_pos (by lia)];obtain⟨n,rfl⟩:∃n:Nat,c=(n:Int)+1:=⟨(c - 1).toNat,by lia⟩;rw[show((n:Int)+1).toNat=n+1 by lia,xeL hd,show to+((n:Int)+1) - to - 1=(n:Int)by lia,←Int.natCast_ediv];generalize n / d=q;lia
theorem xmU(to c:Int)(d:Nat)(hc:1≤c)(hd:0<d):yx (to+c) to (-(d:Int))=cN d c.toNat:=by
 unfold yx bc;rw[if_neg (by lia),if_pos (by lia)];obtain⟨n,rfl⟩:∃n:Nat,c=(n:Int)+1:=⟨(c - 1).toNat,by lia⟩;rw[show((n:Int)+1).toNat=n+1 by lia,xeL hd,show to+((n:Int)+1) - to - 1=(n:Int)by lia,Int.neg_neg,←Int.natCast_ediv];generalize n / d=q;lia
theorem xnO{d i k:Nat}(hd:0<d)(h:i<cN d k):i*d≤k:=by
 cases k with
 |zero=>rw[xkG hd]at h;lia
 |succ k=>
  rw[xeL hd]at h;have h1:i≤k / d:=by lia
  have:=bw (Nat.mul_le_mul_right d h1) (Nat.div_mul_le_self k d);lia
def Kp(S:List Addr)(H H':Hp):Prop:=∀b u,H b=some u→b∉S→H' b=some u
theorem Kp.of{S:List Addr}{H H':Hp}(s:xf H H'):Kp S H H':=fun b u e _=>s b u e
theorem Kp.trans{S:List Addr}{H H1 H2:Hp}(h:Kp S H H1)(g:Kp S H1 H2):Kp S H H2:=fun b u e n=>g b u (h b u e n) n
theorem Kp.mono{S S':List Addr}{H H1:Hp}(h:Kp S H H1)(m:∀x∈S,x∈S'):Kp S' H H1:=fun b u e n=>h b u e fun z=>n (m b z)
theorem Kp.wr{S:List Addr}{H H1:Hp}{p:Addr}{o:HO}(h:Kp S H H1)(m:p∈S):Kp S H (upd H1 p o):=fun b u e n=>by
 rw[xl (fun z=>n (by rw[z];exact m))];exact h b u e n
theorem Kp.mk{S:List Addr}{H H1:Hp}{p:Addr}{o:HO}(h:Kp S H H1)(m:H p=none):Kp S H (upd H1 p o):=fun b u e n=>by
 rw[xl (xF e m)];exact h b u e n
theorem Kp.same{S:List Addr}{H H1 H2:Hp}(h:Kp S H H1)(s:xf H1 H2):Kp S H H2:=h.trans (.of s)
def jd:HO→Prop
 | .ins _ _ _=>True
 | .lst _=>True
 | .dK _=>True
 |_=>False
theorem yJ.kp{H H':Hp}{S:List Addr}{f:Addr}{nm qual:Str}{params:bV}{body:df}{scope:Scope}{fv:List (Str×V)}(h:yJ H f nm qual params body scope fv)(mu:∀x∈S,∃u,H x=some u∧jd u)(k:Kp S H H'):yJ H' f nm qual params body scope fv:=by
 have e:∀b u,H b=some u→¬jd u→H' b=some u:=fun b u q n=>k b u q fun z=>by
  obtain⟨u',q',m⟩:=mu b z;rw[q]at q';cases q';exact n m
 obtain⟨clos,c,o,u,u',vs,t,doc,pm,ctv,h1,h2,h3,h4,h5,h6,h7,h8⟩:=h;exact⟨clos,c,o,u,u',vs,t,doc,pm,ctv,e _ _ h1 (fun z=>z),e _ _ h2 (fun z=>z),h3,h4,h5,h6,fun x v m=>let⟨a,q1,q2⟩:=h7 x v m;⟨a,q1,e _ _ q2 (fun z=>z)⟩,fun x a q=>let⟨v,q2⟩:=h8 x a q;⟨v,e _ _ q2 (fun z=>z)⟩⟩
abbrev zb(n:Int)(fl:V):List (Str×V):=[("asked",.int n),("fall",fl)]
def xke(a:Adr):Sp:=fun vs H Q _=>∃(p dp:Addr) (fl:V),vs=[.ref p,fl]∧H p=some (.ins a.q0i dp [])∧Q .non (upd H p (.ins a.q0i dp (zb 0 fl)))
def xa5:Stmt→Expr
 | .Expr v _=>v
 |_=>.Constant .none 0 ⟨0,0,0,0⟩
abbrev MuL(H:Hp)(L:List Addr):Prop:=∀x∈L,∃u,H x=some u∧jd u
structure FM where
 f:Addr
 M:List Addr
 fo:Nat→Int→Option (Option Int)
 At:Hp→Nat→Int→Prop
 keep:∀{H H':Hp} {L:List Addr} {k:Nat} {n:Int},At H k n→Kp L H H'→MuL H L→(∀x∈L,x∉M)→At H' k n
 mu:∀{H:Hp} {k:Nat} {n:Int},At H k n→MuL H M
def xlK(H:Hp)(v:V):Option (Option Int)→Prop
 |none=>v= .non
 |some none=>∃t,v= .ref t∧H t=some (.tup [])
 |some (some x)=>∃t,v= .ref t∧H t=some (.tup [.int x])
def nf(o:Option (Option Int)):Nat:=if o.isSome then 1 else 0
structure um(P:ak)(w:World)(K:ag)(mg:Str→Option Value)(base:Heap)(F:FM):Prop where
 run:∀{H:Hp} {k:Nat} {n:Int} {Q:VK},F.At H k n→0≤n→(∀v H',Kp F.M H H'→xlK H' v (F.fo k n)→F.At H' (k+nf (F.fo k n)) (n+1)→Q v H')→FnV P w K mg base 3 H F.f [.int n] Q
 clo:∀{H:Hp} {k:Nat} {n:Int},F.At H k n→∃nm qual params body scope fv,yJ H F.f nm qual params body scope fv
def xb5(P:ak)(w:World)(K:ag)(mg:Str→Option Value)(base:Heap)(H:Hp)(g:Addr)(tf:Int→V):Prop:=∃nm qual params body scope ps sp fv,yA P w K mg base CX0 1 nm qual params body scope ps sp∧yJ H g nm qual params body scope fv∧∀(s:Int) (H':Hp) (Q:VK),Q (tf s) H'→sp fv [.int s] H' Q E0
theorem xb5.fnv{P:ak}{w:World}{K:ag}{mg:Str→Option Value}{base:Heap}{H:Hp}{g:Addr}{tf:Int→V}{s:Int}{Q:VK}(h:xb5 P w K mg base H g tf)(q:Q (tf s) H):FnV P w K mg base 1 H g [.int s] Q:=by
 obtain⟨nm,qual,params,body,scope,ps,sp,fv,h1,h2,h3⟩:=h;exact⟨_,_,_,_,_,_,_,_,h1,h2,h3 s H Q q⟩
theorem xb5.clo{P:ak}{w:World}{K:ag}{mg:Str→Option Value}{base:Heap}{H:Hp}{g:Addr}{tf:Int→V}(h:xb5 P w K mg base H g tf):∃nm qual params body scope fv,yJ H g nm qual params body scope fv:=by
 obtain⟨nm,qual,params,body,scope,ps,sp,fv,_,h2,_⟩:=h;exact⟨_,_,_,_,_,_,h2⟩
theorem xb5.kp{P:ak}{w:World}{K:ag}{mg:Str→Option Value}{base:Heap}{H H':Hp}{S:List Addr}{g:Addr}{tf:Int→V}(h:xb5 P w K mg base H g tf)(mu:MuL H S)(k:Kp S H H'):xb5 P w K mg base H' g tf:=by
 obtain⟨nm,qual,params,body,scope,ps,sp,fv,h1,h2,h3⟩:=h;exact⟨_,_,_,_,_,_,_,_,h1,yJ.kp h2 mu k,h3⟩
inductive Slot:HO→V→(V→HO)→Prop
 |lst (xs:List V) (i:Int):0≤i→i<xs.length→Slot (.lst xs) (.int i) (fun v=>.lst (xs.set i.toNat v))
 |dK (k:Key) (kvs:List (Key×V)):kvs.length<100→Slot (.dK kvs) (kV k) (fun v=>.dK (putK kvs k v))
theorem Slot.mu{o:HO}{at':V}{st:V→HO}(h:Slot o at' st):jd o∧(∀v,jd (st v))∧(∀C dx fs,o≠.ins C dx fs):=by
 cases h with
 |lst xs i _ _=>exact⟨trivial,fun _=>trivial,fun _ _ _ z=>by cases z⟩
 |dK k kvs _=>exact⟨trivial,fun _=>trivial,fun _ _ _ z=>by cases z⟩
def xox(o:HO)(st:V→HO)(tf:Int→V):Option Int→HO
 |none=>o
 |some x=>st (tf x)
def xic(P:ak)(w:World)(K:ag)(mg:Str→Option Value)(base:Heap)(a:Adr):Sp:=fun vs H Q _=>∃(F:FM) (p dp:Addr) (n m:Int) (k:Nat),vs=[.ref p,.int n]∧um P w K mg base F∧H p=some (.ins a.q0i dp (zb m (.ref F.f)))∧F.At H k n∧0≤n∧
 ∀v H',Kp F.M H H'→xlK H' v (F.fo k n)→F.At H' (k+nf (F.fo k n)) (n+1)→Q v H'
inductive xel(P:ak)(w:World)(K:ag)(mg:Str→Option Value)(base:Heap)(a:Adr)(vs:List V)(H:Hp)(Q:VK)(E:XK):Prop
 |mk (F:FM) (p dp l g:Addr) (at' val:V) (o:HO) (st:V→HO) (n:Int) (k:Nat) (tf:Int→V):vs=[.ref p,.ref l,at',val,.ref g]→um P w K mg base F→H p=some (.ins a.q0i dp (zb n (.ref F.f)))→0≤n→F.At H k n→p∉F.M→l∉F.M→xb5 P w K mg base H g tf→H l=some o→Slot o at' st→
  (F.fo k n=none→∀H',Kp (p::l::F.M) H H'→H' p=some (.ins a.q0i dp (zb (n+1) (.ref F.f)))→F.At H' k (n+1)→H' l=some (st val)→Q .non H')→
  (∀an,F.fo k n=some an→∀d H',Kp (p::l::F.M) H H'→H' p=some (.ins a.q0i dp (zb (n+1) (.ref F.f)))→F.At H' (k+1) (n+1)→H' l=some (xox o st tf an)→H d=none→H' d=some (.xd [("count",.int n)])→E (.ref a.q0d) (some d) H')→
  xel P w K mg base a vs H Q E
def xjh(P:ak)(w:World)(K:ag)(mg:Str→Option Value)(base:Heap)(a:Adr):Sp:=xel P w K mg base a
structure SA where
 st:Addr
 dx:Addr
 ca:Addr
 na:Addr
 p:Addr
 dp:Addr
def nV:Option Int→V
 |none=>.non
 |some i=>.int i
abbrev SS(S:SA):List Addr:=[S.ca,S.na,S.p]
abbrev stF(S:SA):List (Str×V):=[("cells",.ref S.ca),("notes",.ref S.na),("pen",.ref S.p)]
structure zu(a:Adr)(H:Hp)(S:SA)(cells:List Int)(notes:List (Option Int))(n:Int)(fl:V):Prop where
 st:H S.st=some (.ins a.q0e S.dx (stF S))
 ca:H S.ca=some (.lst (cells.map V.int))
 na:H S.na=some (.lst (notes.map nV))
 p:H S.p=some (.ins a.q0i S.dp (zb n fl))
 ne:S.ca≠S.na
 np:S.p≠S.st
theorem zu.mu{a:Adr}{H:Hp}{S:SA}{cells:List Int}{notes:List (Option Int)}{n:Int}{fl:V}(h:zu a H S cells notes n fl):∀x∈SS S,∃u,H x=some u∧jd u:=by
 intro x hx;simp only[av,bo,or_false]at hx;rcases hx with rfl|rfl|rfl
 ·exact⟨_,h.ca,trivial⟩
 ·exact⟨_,h.na,trivial⟩
 ·exact⟨_,h.p,trivial⟩
theorem zu.kp0{a:Adr}{H H':Hp}{S:SA}{L:List Addr}{cells:List Int}{notes:List (Option Int)}{n:Int}{fl:V}(h:zu a H S cells notes n fl)(k:Kp L H H')(d:∀x∈L,x≠S.st∧x≠S.ca∧x≠S.na∧x≠S.p):zu a H' S cells notes n fl:=
 ⟨k _ _ h.st (fun z=>(d _ z).1 rfl),k _ _ h.ca (fun z=>(d _ z).2.1 rfl),k _ _ h.na (fun z=>(d _ z).2.2.1 rfl),k _ _ h.p (fun z=>(d _ z).2.2.2 rfl),h.ne,h.np⟩
theorem zu.same{a:Adr}{H H':Hp}{S:SA}{cells:List Int}{notes:List (Option Int)}{n:Int}{fl:V}(h:zu a H S cells notes n fl)(s:xf H H'):zu a H' S cells notes n fl:=
 h.kp0 (L:=[]) (Kp.of s) (fun _ z=>nomatch z)
abbrev inR(cells:List Int)(i:Int):Prop:=0≤i∧i<cells.length
def xid(K:ag)(a:Adr):Sp:=fun vs H Q _=>∃(st dx l:Addr) (cells:List Int) (fl:V),vs=[.ref st,.ref l,fl]∧H st=some (.ins a.q0e dx [])∧H l=some (.lst (cells.map V.int))∧
 ∀(S:SA) (H':Hp),S.st=st→Kp [st] H H'→zu a H' S cells [some 0,some 0] 0 fl→H S.ca=none→H S.na=none→H S.p=none→Q .non H'
def xpu(a:Adr):Sp:=fun vs H Q _=>∃(S:SA) (cells:List Int) (notes:List (Option Int)) (n:Int) (fl:V),vs=[.ref S.st]∧zu a H S cells notes n fl∧∀t c m H',xf H H'→H c=none→H m=none→c≠m→H' t=some (.tup [.ref c,.ref m,.int n])→H' c=some (.lst (cells.map V.int))→H' m=some (.lst (notes.map nV))→Q (.ref t) H'
def xak(notes:List (Option Int))(m:Int):Prop:=(notes.filterMap id=[]→m=0)∧(notes.filterMap id≠[]→m∈notes.filterMap id∧∀x∈notes.filterMap id,x≤m)
theorem xak.uniq{notes:List (Option Int)}{m m':Int}(h:xak notes m)(h':xak notes m'):m=m':=by
 by_cases e:notes.filterMap id=[]
 ·rw[h.1 e,h'.1 e]
 ·have a:=h.2 e;have b:=h'.2 e;have:=a.2 _ b.1;have:=b.2 _ a.1;lia
def xmV(a:Adr):Sp:=fun vs H Q _=>∃(S:SA) (cells:List Int) (notes:List (Option Int)) (n:Int) (fl:V),vs=[.ref S.st]∧zu a H S cells notes n fl∧notes.length=2∧∀m H',xf H H'→xak notes m→Q (.int m) H'
local macro_rules| `(tactic|walk_at"w")=>`(tactic|(conv=>whnf))
local macro_rules| `(tactic|walk_at"few")=>`(tactic|first|exact Nat.lt_of_lt_of_le (xoX (n:=998) (by simp)) (by decide)|(simp;done))
local macro_rules| `(tactic|walk_at"pos")=>`(tactic|first|(show(0:Int)<_;decide)|(show(0:Int)<_;lia)|assumption)
local macro_rules| `(tactic|walk_at"same")=>`(tactic|first|exact xf.refl _|assumption|(refine' xf.trans ?sa ?sb;(case sb=>assumption);(case sa=>walk_at"same")))
local macro_rules| `(tactic|walk_at"get")=>`(tactic|first|assumption|exact xm|(refine' xf.at ?ga ?gb;(case gb=>assumption);(case ga=>walk_at"same")))
local macro_rules| `(tactic|walk_at"sq")=>`(tactic|first|assumption|(refine' SqL.of ?g;(case g=>walk_at"get"))|(refine' SqT.of ?g;(case g=>walk_at"get"))|(refine' xf.seq ?sa ?sb;(case sb=>assumption);(case sa=>walk_at"same"))|(refine' xf.seqT ?sa ?sb;(case sb=>assumption);(case sa=>walk_at"same"))|(refine' Or.inl ?g;(case g=>walk_at"sq"))|(refine' Or.inr ?g;(case g=>walk_at"sq")))
local macro_rules| `(tactic|walk_at"no")=>`(tactic|(intro z;first|cases z|(simp at z;done)))
local macro_rules| `(tactic|walk_at"mul")=>`(tactic|first|exact Or.inl ⟨by decide,by decide⟩|exact Or.inr ⟨by decide,by decide⟩|exact Or.inl ⟨by lia,by lia⟩|exact Or.inr ⟨by lia,by lia⟩)
local macro_rules| `(tactic|walk_at"side")=>`(tactic|first|exact⟨by decide,by decide⟩|exact⟨by decide,by decide,by decide⟩|walk_at"pos" |walk_at"mul" |(show(_:Nat)≤sizeLine;first|decide|(simp only[List.length_cons,List.length_nil];decide)))
local macro_rules| `(tactic|walk_at"s")=>`(tactic|(refine And.intro (by walk_at"side") ?_;walk_at"w"))
local macro_rules| `(tactic|walk_at"ss")=>`(tactic|(repeat (walk_at"s")))
section
variable {P:ak} {w:World} {K:ag} {mg:Str→Option Value} {base:Heap} {a:Adr}
theorem xhg(T:Txt K mg a):xy P w K mg base CX0 1 a.q07 a.vQ ["self","count"] (xcZ a.q0d "count"):=by
 refine T.q1Y.ok vt (fun vs H Q E h=>?_) (fun cdv A outer s H vs Q E hr h=>?_)
 ·obtain⟨p,v,rfl,_⟩:=h;rfl
 ·obtain⟨p,v,rfl,hp,k⟩:=h;have nd:=vt.nd;refine⟨_,(xk (xky (cv 0) (cv 1) rfl)),?_⟩;walk_at"w";refine⟨p,_,_,rfl,hp,T.q3k,T.q0K,fun d h1 h2=>?_⟩;exact k d h1 h2
theorem xgw(T:Txt K mg a):xlA P w K mg base 1 a.q07 a.vQ ["self","count"] (fun _ _ _=>xcZ a.q0d "count"):=by
 refine T.q1Y.okE vt (fun ae cls dx vs H Q E h=>?_) (fun cdv A outer s H vs Q E qs ae cls dx hs hr h=>?_)
 ·obtain⟨p,v,rfl,_⟩:=h;rfl
 ·obtain⟨p,v,rfl,hp,k⟩:=h;have nd:=vt.nd;refine⟨_,(xk (xky (cv 0) (cv 1) rfl)),?_⟩;walk_at"w";refine⟨p,_,_,rfl,hp,T.q3k,T.q0K,fun d h1 h2=>?_⟩;exact k d h1 h2
theorem xe9(T:Txt K mg a):xy P w K mg base CX0 1 a.q2o a.xc9 ["self","fall"] (xke a):=by
 refine T.q3q.ok xe8 (fun vs H Q E h=>?_) (fun cdv A outer s H vs Q E hr h=>?_)
 ·obtain⟨p,dp,fl,rfl,_⟩:=h;rfl
 ·obtain⟨p,dp,fl,rfl,hp,k⟩:=h;have nd:=xe8.nd;refine⟨_,(xg (yh (cv 0) xj rfl)
  (xk (yh (cv 0) (cv 1) rfl))),?_⟩
  walk_at"w";refine⟨p,_,dp,_,rfl,hp,T.q3v,T.q2O,by walk_at"few",?_⟩;walk_at"w";refine⟨p,_,dp,_,rfl,xm,T.q3v,T.q38,by walk_at"few",?_⟩;walk_at"w";rw[zv];exact k
theorem xcN(T:Txt K mg a):xy P w K mg base CX0 4 a.q0q a.ui ["self","count"] (xic P w K mg base a):=by
 refine T.q0S.ok ji (fun vs H Q E h=>?_) (fun cdv A outer s H vs Q E hr h=>?_)
 ·obtain⟨F,p,dp,n,m,k,rfl,_⟩:=h;rfl
 ·obtain⟨F,p,dp,n,m,k,rfl,hF,hp,hat,hn,q⟩:=h;have nd:=ji.nd;refine⟨_,(xg (xE (i:=2) nd rfl (aA rfl) (xw (cv 0) rfl))
  (xg (xM (xdU (cv 2)) (xk (xv zg)) xC)
  (xk (xv (xiL (k:=3) 2 (hr.mono (by decide)) (xa (cv 1) xc)))))),?_⟩
  walk_at"w";refine⟨p,_,dp,_,.ref F.f,rfl,hp,T.q3v,T.q38,rfl,?_⟩;walk_at"w";refine⟨by walk_at"no",fun _=>?_⟩;walk_at"w";refine⟨F.f,rfl,hF.clo hat,?_⟩;walk_at"w";exact hF.run hat hn q
theorem vG(T:Txt K mg a):xy P w K mg base (CXN P w) 5 a.q0L a.ja ["self","kept","at","value","torn"] (xjh P w K mg base a):=by
 refine T.q1K.okN xaR (fun vs H Q E h=>?_) (fun cdv A outer s H vs Q E hr h=>?_)
 ·obtain⟨F,p,dp,l,g,at',val,o,st,n,k,tf,rfl,_⟩:=h;rfl
 ·obtain⟨F,p,dp,l,g,at',val,o,st,n,k,tf,rfl,hF,hp,hn,hat,hpM,hlM,ht,hl,hs,q1,q2⟩:=h;have nd:=xaR.nd;refine⟨_,(xg (xE (i:=5) nd rfl (aA rfl) (xw (cv 0) rfl))
  (xg (yh (cv 0) (xu yl (cv 5) xj) rfl)
  (xg (xE (i:=6) nd rfl (aA rfl) (zd (cv 0) T.q3v T.q2U (xcN T) (hr.mono (by decide)) T.xda .nil xt (xa (cv 5) xc)))
  (xg (xM (xdU (cv 6)) (xg (xan (cv 3) (xfK (cv 1) (cv 2) (xhO (vi hr))))
  (xk xoE)) xC)
  (xg (yY (xM (xJ zL (xN xU (by rfl) T.q12 yK (xa (cv 6) xc)) xj) (xk (xan (xiL (k:=1) 4 (hr.mono (by decide)) (xa (xA xH (cv 6) xj (fun _ _=>rfl)) xc)) (xfK (cv 1) (cv 2) (xhO (vi hr))))) xC))
  (xk (xlB (k:=1) ⟨rfl,rfl,rfl⟩ rfl T.q3k (xhg T) (hr.mono (by decide)) T.xdq (by rfl) T.xdd (xa (cv 5) xc)))))))),?_⟩
  have nlp:l≠p:=fun z=>by
   rw[z,hp]at hl;exact hs.mu.2.2 _ _ _ (bh hl).symm
  have mup:MuL H [p]:=fun x hx=>by rw[aj.mp hx];exact⟨_,hp,trivial⟩
  walk_at"w";refine⟨p,_,dp,_,.int n,rfl,hp,T.q3v,T.q2O,rfl,?_⟩;walk_at"w";refine⟨p,_,dp,_,rfl,hp,T.q3v,T.q2O,by walk_at"few",?_⟩;generalize hU:upd H p _=H1;have c1:Kp [p] H H1:=by rw[←hU];exact(Kp.of (xf.refl _)).wr (by simp)
  have hp1:H1 p=some (.ins a.q0i dp (zb (n+1) (.ref F.f))):=by rw[←hU,xm];rfl
  have hl1:H1 l=some o:=by rw[←hU,xl nlp];exact hl
  clear hU;have hat1:=F.keep hat c1 mup (fun x hx=>by rw[aj.mp hx];exact hpM);walk_at"w";refine⟨p,dp,_,rfl,hp1,rfl,?_⟩;walk_at"w";refine⟨F,p,dp,n,_,k,rfl,hF,hp1,hat1,hn,fun v H2 k2 hv hat2=>?_⟩;have mu1:MuL H (p::l::F.M):=fun x hx=>by
   rcases av.mp hx with rfl|hx
   ·exact⟨_,hp,trivial⟩
   rcases av.mp hx with rfl|hx
   ·exact⟨_,hl,hs.mu.1⟩
   ·exact F.mu hat x hx
  have kk:Kp (p::l::F.M) H H2:=(c1.mono (fun x hx=>by rw[aj.mp hx];simp)).trans (k2.mono fun x hx=>by simp[hx]);have hp2:=k2 _ _ hp1 hpM;have hl2:=k2 _ _ hl1 hlM;have ht2:=ht.kp mu1 kk;clear c1 hp1 hl1 k2 hat1;cases hfo:F.fo k n with
  |none=>
   rw[hfo]at hv hat2;obtain rfl:v= .non:=hv;walk_at"w";refine⟨fun _=>?_,by walk_at"no"⟩;walk_at"w";have hat3:∀H3,Kp [l] H2 H3→F.At H3 k (n+1):=fun H3 z=>F.keep hat2 z (fun x hx=>by rw[aj.mp hx];exact⟨_,hl2,hs.mu.1⟩) (fun x hx=>by rw[aj.mp hx];exact hlM);cases hs with
   |lst xs i h0 hi=>
    refine .inl ⟨l,xs,i,_,rfl,rfl,hl2,xf4 h0 hi,?_⟩;exact q1 hfo _ (kk.wr (by simp)) (by rw[xl (au nlp)];exact hp2) (hat3 _ ((Kp.of (xf.refl _)).wr (by simp))) xm
   |dK ky kvs h0=>
    refine .inr ⟨l,_,rfl,.inl ⟨kvs,ky,hl2,rfl,by rw[aZ];lia,rfl⟩,?_⟩;exact q1 hfo _ (kk.wr (by simp)) (by rw[xl (au nlp)];exact hp2) (hat3 _ ((Kp.of (xf.refl _)).wr (by simp))) xm
  |some an=>
   rw[hfo]at hv hat2;have hat2:F.At H2 (k+1) (n+1):=hat2;have q2:=q2 an hfo;have back:∀(H3:Hp) (d:Addr),Kp (p::l::F.M) H H3→H3 p=some (.ins a.q0i dp (zb (n+1) (.ref F.f)))→F.At H3 (k+1) (n+1)→(∃u,H3 l=some u)→H3 d=none→H d=none:=fun H3 d k3 hp3 hat3 hl3 hd=>by
    cases z:H d with
    |none=>rfl
    |some u=>
     by_cases hm:d∈p::l::F.M
     ·rcases av.mp hm with e|hm
      ·rw[e,hp3]at hd;cases hd
      rcases av.mp hm with e|hm
      ·obtain⟨u,hu⟩:=hl3;rw[e,hu]at hd;cases hd
      ·obtain⟨u,hu,_⟩:=F.mu hat3 _ hm;rw[hu]at hd;cases hd
     ·rw[k3 d u z hm]at hd;cases hd
   have fin:∀(H3:Hp),Kp (p::l::F.M) H H3→H3 p=some (.ins a.q0i dp (zb (n+1) (.ref F.f)))→F.At H3 (k+1) (n+1)→H3 l=some (xox o st tf an)→∀d,H3 d=none→E (.ref a.q0d) (some d) (upd H3 d (.xd [("count",.int n)])):=fun H3 z1 z2 z3 z4 d hd=>by
    have hd0:=back H3 d z1 z2 z3 ⟨_,z4⟩ hd;exact q2 d _ (z1.mk hd0) (by rw[xl (xF z2 hd)];exact z2) (F.keep (L:=[]) z3 (Kp.of (xf.new hd)) (fun _ z=>nomatch z) (fun _ z=>nomatch z)) (by rw[xl (xF z4 hd)];exact z4) hd0 xm
   cases an with
   |none=>
    obtain⟨ta,rfl,hta⟩:=hv;walk_at"w";refine⟨by walk_at"no",fun _=>?_⟩;walk_at"w";refine⟨fun σ' H'=>σ'=[some (.ref p),some (.ref l),some at',some val,some (.ref g),some (.int n),some (.ref ta)]∧H'=H2,?_,?_⟩
    ·walk_at"w";refine⟨ta,_,rfl,.inr (SqT.of hta),?_⟩;walk_at"w";refine⟨by walk_at"no",fun _=>⟨rfl,rfl⟩⟩
    ·rintro σ' H' ⟨rfl,rfl⟩;walk_at"w";exact⟨.int n,rfl,fin _ kk hp2 hat2 hl2⟩
   |some s1=>
    obtain⟨ta,rfl,hta⟩:=hv;walk_at"w";refine⟨by walk_at"no",fun _=>?_⟩;walk_at"w";refine⟨fun σ' H'=>σ'=[some (.ref p),some (.ref l),some at',some val,some (.ref g),some (.int n),some (.ref ta)]∧Kp (p::l::F.M) H H'∧H' p=some (.ins a.q0i dp (zb (n+1) (.ref F.f)))∧F.At H' (k+1) (n+1)∧H' l=some (st (tf s1)),?_,?_⟩
    ·walk_at"w";refine⟨ta,_,rfl,.inr (SqT.of hta),?_⟩;walk_at"w";refine⟨fun _=>?_,by walk_at"no"⟩;walk_at"w";refine⟨g,rfl,ht2.clo,?_⟩;walk_at"w";refine⟨ta,_,0,.int s1,rfl,rfl,SqT.of hta,rfl,?_⟩;walk_at"w";refine ht2.fnv ?_;walk_at"w";have hat3:∀H3,Kp [l] H2 H3→F.At H3 (k+1) (n+1):=fun H3 z=>F.keep hat2 z (fun x hx=>by rw[aj.mp hx];exact⟨_,hl2,hs.mu.1⟩) (fun x hx=>by rw[aj.mp hx];exact hlM);cases hs with
     |lst xs i h0 hi=>
      refine .inl ⟨l,xs,i,_,rfl,rfl,hl2,xf4 h0 hi,?_⟩;exact⟨rfl,kk.wr (by simp),by rw[xl (au nlp)];exact hp2,hat3 _ ((Kp.of (xf.refl _)).wr (by simp)),xm⟩
     |dK ky kvs h0=>
      refine .inr ⟨l,_,rfl,.inl ⟨kvs,ky,hl2,rfl,by rw[aZ];lia,rfl⟩,?_⟩;exact⟨rfl,kk.wr (by simp),by rw[xl (au nlp)];exact hp2,hat3 _ ((Kp.of (xf.refl _)).wr (by simp)),xm⟩
    ·rintro σ' H' ⟨rfl,z1,z2,z3,z4⟩;walk_at"w";exact⟨.int n,rfl,fin _ z1 z2 z3 z4⟩
theorem xie(T:Txt K mg a):xy P w K mg base CX0 3 a.q1p a.jA ["self","cells","fall"] (xid K a):=by
 refine T.uX.ok xdy (fun vs H Q E h=>?_) (fun cdv A outer s H vs Q E hr h=>?_)
 ·obtain⟨st,dx,l,cells,fl,rfl,_⟩:=h;rfl
 ·obtain⟨st,dx,l,cells,fl,rfl,hst,hl,k⟩:=h;have nd:=xdy.nd;refine⟨_,(xg (yh (cv 0) (xZ zO (by rfl) T.q25 uu (xa (cv 1) xc)) rfl)
  (xg (yh (cv 0) (ye (xa xj (xa xj xc))) rfl)
  (xk (yh (cv 0) (xa1 T.q4O (xe9 T) (hr.mono (by decide)) (by rfl) T.xow T.xgm .nil xt (xa (cv 2) xc)) rfl)))),?_⟩
  walk_at"w";refine⟨l,_,rfl,.inl (SqL.of hl),?_⟩;intro ca hca;walk_at"w";refine⟨st,_,dx,_,rfl,by rw[xl (xF hst hca)];exact hst,T.q0l,T.q1L,by walk_at"few",?_⟩;generalize hU1:upd (upd H ca _) st _=H1;have k1:Kp [st] H H1:=by rw[←hU1];exact((Kp.of (xf.refl _)).mk hca).wr (by simp)
  have f1:H1 st=some (.ins a.q0e dx [("cells",.ref ca)]):=by rw[←hU1,xm];rfl
  have g1:H1 ca=some (.lst (cells.map V.int)):=by rw[←hU1,xl (au (xF hst hca)),xm]
  have b1:∀b,H1 b=none→H b=none∧b≠st∧b≠ca:=fun b hb=>by
   have n1:b≠st:=fun z=>by rw[z,f1]at hb;cases hb
   have n2:b≠ca:=fun z=>by rw[z,g1]at hb;cases hb
   rw[←hU1,xl n1,xl n2]at hb;exact⟨hb,n1,n2⟩
  clear hU1;walk_at"w";walk_at"ss";intro na hna;obtain⟨na0,na1,na2⟩:=b1 na hna;walk_at"w";refine⟨st,_,dx,_,rfl,by rw[xl (xF f1 hna)];exact f1,T.q0l,T.q18,by walk_at"few",?_⟩;generalize hU2:upd (upd H1 na _) st _=H2;have k2:Kp [st] H H2:=by rw[←hU2];exact(k1.mk na0).wr (by simp)
  have f2:H2 st=some (.ins a.q0e dx [("cells",.ref ca),("notes",.ref na)]):=by rw[←hU2,xm];rfl
  have g2:H2 ca=some (.lst (cells.map V.int)):=by rw[←hU2,xl (xbR g1 f1 (by intro z;cases z)),xl (au na2)];exact g1
  have m2:H2 na=some (.lst ([some 0,some 0].map nV)):=by rw[←hU2,xl na1,xm];rfl
  have b2:∀b,H2 b=none→H b=none∧b≠st∧b≠ca∧b≠na:=fun b hb=>by
   have n1:b≠st:=fun z=>by rw[z,f2]at hb;cases hb
   have n3:b≠na:=fun z=>by rw[z,m2]at hb;cases hb
   rw[←hU2,xl n1,xl n3]at hb;exact⟨(b1 b hb).1,n1,(b1 b hb).2.2,n3⟩
  clear hU2 b1;walk_at"w";intro p dp hp hdp nep;obtain⟨p0,p1,p2,p3⟩:=b2 p hp;obtain⟨q0,q1,q2,q3⟩:=b2 dp hdp;refine⟨p,dp,fl,rfl,xm,?_⟩;refine⟨rfl,?_⟩;walk_at"w";rw[zv];have e3:∀b,b≠p→b≠dp→∀o o',upd (upd H2 dp o) p o' b=H2 b:=fun b n1 n2 o o'=>by rw[xl n1,xl n2]
  refine⟨st,_,dx,_,rfl,by rw[e3 _ (au p1) (au q1)];exact f2,T.q0l,T.q2d,by walk_at"few",?_⟩;refine k ⟨st,dx,ca,na,p,dp⟩ _ rfl (((k2.mk q0).mk p0).wr (by simp)) ⟨?_,?_,?_,?_,au na2,p1⟩ hca na0 p0
  ·rw[xm];rfl
  ·rw[xl (xbR g2 f2 (by intro z;cases z)),e3 _ (au p2) (au q2)];exact g2
  ·rw[xl na1,e3 _ (au p3) (au q3)];exact m2
  ·rw[xl p1,xm]
theorem xdG(T:Txt K mg a):xy P w K mg base CX0 1 a.q1S a.xbC ["self"] (xpu a):=by
 refine T.q2L.ok xdB (fun vs H Q E h=>?_) (fun cdv A outer s H vs Q E hr h=>?_)
 ·obtain⟨S,cells,notes,n,fl,rfl,_⟩:=h;rfl
 ·obtain⟨S,cells,notes,n,fl,rfl,hS,k⟩:=h;have nd:=xdB.nd;refine⟨_,(xk (xv (yX (xa (xZ zO (by rfl) T.q25 uu (xa (xw (cv 0) rfl) xc)) (xa (xZ zO (by rfl) T.q25 uu (xa (xw (cv 0) rfl) xc)) (xa (xw (xw (cv 0) rfl) rfl) xc)))))),?_⟩;walk_at"w";refine⟨S.st,_,S.dx,_,.ref S.ca,rfl,hS.st,T.q0l,T.q1L,rfl,?_⟩;walk_at"w";refine⟨S.ca,_,rfl,.inl (SqL.of hS.ca),?_⟩;intro c hc;generalize hUc:upd H c _=H1;have sH1:=xf.of_eq hc hUc;have ec:=xq hUc;clear hUc;walk_at"w";have hS1:=hS.same sH1;refine⟨S.st,_,S.dx,_,.ref S.na,rfl,hS1.st,T.q0l,T.q18,rfl,?_⟩;walk_at"w";refine⟨S.na,_,rfl,.inl (SqL.of hS1.na),?_⟩;intro m hm;generalize hUm:upd H1 m _=H2;have sH2:=xf.of_eq hm hUm;have em:=xq hUm;clear hUm;walk_at"w";have hS2:=hS1.same sH2;refine⟨S.st,_,S.dx,_,.ref S.p,rfl,hS2.st,T.q0l,T.q2d,rfl,?_⟩;walk_at"w";refine⟨S.p,_,S.dp,_,.int n,rfl,hS2.p,T.q3v,T.q2O,rfl,?_⟩;walk_at"w";walk_at"ss";intro t ht;generalize hUt:upd H2 t _=H3;have sH3:=xf.of_eq ht hUt;have et:=xq hUt;clear hUt;walk_at"w";exact k t c m H3 (sH1.trans (sH2.trans sH3)) hc (sH1.back hm) (xF ec hm) et (sH3.at (sH2.at ec)) (sH3.at em)
theorem xdf:∀notes:List (Option Int),((notes.map nV).filter fun v=> !(isN v)).map (fun v=>v)=(notes.filterMap id).map V.int
 |[]=>rfl
 |none::r=>by
  have:=xdf r;simpa [nV,isN]using this
 |some i::r=>by
  have:=xdf r;simpa [nV,isN]using this
theorem xhh(T:Txt K mg a):xy P w K mg base CX0 1 a.q1D a.xaJ ["self"] (xmV a):=by
 refine T.q2h.ok xcK (fun vs H Q E h=>?_) (fun cdv A outer s H vs Q E hr h=>?_)
 ·obtain⟨S,cells,notes,n,fl,rfl,_⟩:=h;rfl
 ·obtain⟨S,cells,notes,n,fl,rfl,hS,h2,k⟩:=h;have nd:=xcK.nd;refine⟨_,(xk (xv (xo3 rfl (by rfl) T.q4E (xa (jV (xaq (cap:=[]) (ys:=[]) rfl rfl rfl rfl rfl trivial (by decide+kernel)) rfl (zx (xw (cv 0) rfl)) (fun _ _ _ _=>(cv 0)) (fun _ _ _ _=>(xoT (jW (cv 0))))) xc) xj))),?_⟩;walk_at"w";refine⟨S.st,_,S.dx,_,.ref S.na,rfl,hS.st,T.q0l,T.q18,rfl,?_⟩;walk_at"w";refine⟨S.na,rfl,⟨_,SqL.of hS.na⟩,?_⟩;refine xlp (fun v=> !(isN v)) (fun v=>v) (SqL.of hS.na) (by rw[ao,h2];decide) (fun x H3 hx s3 R hR=>?_) (fun x H3 hx hp s3 R hR=>?_) (fun D H' hD s' e'=>?_)
  ·exact hR H3 (xf.refl _)
  ·exact hR H3 (xf.refl _)
  ·rw[xdf]at e';exact⟨D,_,0,rfl,rfl,SqL.of e',fun m h1 h2=>k m H' s' ⟨h1,h2⟩⟩
theorem xfa(T:Txt K mg a):xy P w K mg base CX0 1 a.q2l a.xc6 ["self","to"] (xkb K):=by
 refine T.q3o.ok xe4 (fun vs H Q E h=>?_) (fun cdv A outer s H vs Q E hr h=>?_)
 ·obtain⟨p,C,dx,to,rfl,_⟩:=h;rfl
 ·obtain⟨p,C,dx,to,rfl,hp,c,n1,n2,k⟩:=h;have nd:=xe4.nd;refine⟨_,(xg (yh (cv 0) (cv 1) rfl)
  (xk (yh (cv 0) xj rfl))),?_⟩
  walk_at"w";refine⟨p,C,dx,_,rfl,hp,c,n1,by walk_at"few",?_⟩;walk_at"w";refine⟨p,C,dx,_,rfl,xm,c,n2,by walk_at"few",?_⟩;walk_at"w";rw[zv];exact k
theorem xji(T:Txt K mg a):xy P w K mg base CX0 2 a.q13 a.xcm ["self","to","start","count"] (xje a):=by
 refine T.q26.ok xed (fun vs H Q E h=>?_) (fun cdv A outer s H vs Q E hr h=>?_)
 ·obtain⟨p,dx,to,st,c,rfl,_⟩:=h;rfl
 ·obtain⟨p,dx,to,st,c,rfl,hp,k⟩:=h;have nd:=xed.nd;refine⟨_,(xg (xO (xkr (by rfl) T.xov T.q4a (xfa T) (hr.mono (by decide)) T.xgc .nil xt (xa (cv 0) (xa (cv 1) xc))))
  (xg (yh (cv 0) (cv 2) rfl)
  (xk (yh (cv 0) (cv 3) rfl)))),?_⟩
  walk_at"w";refine⟨p,_,dx,to,rfl,hp,T.q0g,T.q0V,T.q0P,?_⟩;walk_at"w";refine⟨p,_,dx,_,rfl,xm,T.q0g,T.q0z,by walk_at"few",?_⟩;walk_at"w";refine⟨p,_,dx,_,rfl,xm,T.q0g,T.q0P,by walk_at"few",?_⟩;walk_at"w";rw[zv,zv];exact k
theorem xkf(T:Txt K mg a):xy P w K mg base CX0 2 a.q2m a.xc7 ["self","to","signs"] (xkc K a):=by
 refine T.q3p.ok xe5 (fun vs H Q E h=>?_) (fun cdv A outer s H vs Q E hr h=>?_)
 ·obtain⟨p,dx,t,to,xs,rfl,_⟩:=h;rfl
 ·obtain⟨p,dx,t,to,xs,rfl,hp,ht,k⟩:=h;have nd:=xe5.nd;have ht1:∀o,SqT K (upd H p o) t xs:=fun o=>xmS ht hp;refine⟨_,(xg (xO (xkr (by rfl) T.xov T.q4a (xfa T) (hr.mono (by decide)) T.xgc .nil xt (xa (cv 0) (xa (cv 1) xc))))
  (xg (yh (cv 0) (xZ zy (by rfl) T.q2V ub (xa (cv 2) xc)) rfl)
  (xk (yh (cv 0) (xN xU (by rfl) T.q12 yK (xa (xw (cv 0) rfl) xc)) rfl)))),?_⟩
  walk_at"w";refine⟨p,_,dx,to,rfl,hp,T.q1F,T.q2X,T.q1V,?_⟩;walk_at"w";refine⟨t,xs,rfl,.inr ⟨ht1 _,?_⟩⟩;walk_at"w";refine⟨p,_,dx,_,rfl,xm,T.q1F,T.q3j,by walk_at"few",?_⟩;walk_at"w";refine⟨p,_,dx,_,.ref t,rfl,xm,T.q1F,T.q3j,rfl,?_⟩;walk_at"w";refine⟨t,xs,rfl,.inr (xmS (ht1 _) xm),?_⟩;walk_at"w";refine⟨p,_,dx,_,rfl,xm,T.q1F,T.q1V,by walk_at"few",?_⟩;walk_at"w";rw[zv,zv];exact k
theorem yH(T:Txt K mg a):xy P w K mg base CX0 1 a.q0O a.xaG ["self"] (xde K):=by
 refine T.q2e.ok xcG (fun vs H Q E h=>?_) (fun cdv A outer s H vs Q E hr h=>?_)
 ·obtain⟨p,C,dx,fs,to,c,rfl,_⟩:=h;rfl
 ·obtain⟨p,C,dx,fs,to,c,rfl,hp,cl,n1,n2,l1,l2,hc,k⟩:=h;have nd:=xcG.nd;refine⟨_,(xk (xv (xZ (vO rfl) (by rfl) T.q25 uu (xa (xbW (by rfl) T.q2a (xa (xw (cv 0) rfl) (xa (xu yl (xw (cv 0) rfl) (xw (cv 0) rfl)) xc))) xc)))),?_⟩;walk_at"w";refine⟨p,C,dx,fs,_,rfl,hp,cl,n1,l1,?_⟩;walk_at"w";refine⟨p,C,dx,fs,_,rfl,hp,cl,n1,l1,?_⟩;walk_at"w";refine⟨p,C,dx,fs,_,rfl,hp,cl,n2,l2,?_⟩;walk_at"w";intro r hr1;walk_at"w";have e:yx to (to+c) 1=c.toNat:=by rw[ua];congr 1;lia
  refine⟨r,to,to+c,rfl,xm,by rw[e];exact hc,fun l hl=>?_⟩;rw[e,xeK];have hl0:H l=none:=xf.free (xf.new hr1) hl;exact k l _ ((xf.new hr1).put hl0) hl0 xm
theorem xaM(T:Txt K mg a):xy P w K mg base CX0 1 a.q1M a.xbv ["self"] (xnM a):=by
 refine T.q2F.ok xdt (fun vs H Q E h=>?_) (fun cdv A outer s H vs Q E hr h=>?_)
 ·obtain⟨p,dx,to,st,c,rfl,_⟩:=h;rfl
 ·obtain⟨p,dx,to,st,c,rfl,hp,k⟩:=h;have nd:=xdt.nd;refine⟨_,(xk (xv (zP zL (xw (cv 0) rfl) (xw (cv 0) rfl)))),?_⟩;walk_at"w";refine⟨p,_,dx,_,.int st,rfl,hp,T.q0g,T.q0z,rfl,?_⟩;walk_at"w";refine⟨p,_,dx,_,.int to,rfl,hp,T.q0g,T.q0V,rfl,?_⟩;exact k
theorem xaY(T:Txt K mg a):xy P w K mg base CX0 1 a.q3d a.xd7 ["_law_script","_law_k"] (xlJ K):=by
 refine T.q16.ok xgt (fun vs H Q E h=>?_) (fun cdv A outer s H vs Q E hr h=>?_)
 ·obtain⟨l,ns,k,rfl,_⟩:=h;rfl
 ·obtain⟨l,ns,k,rfl,hl,hk,q⟩:=h;have nd:=xgt.nd;refine⟨_,(xg (xM (xJ xfi (cv 1) (xN xU (by rfl) T.q12 yK (xa (cv 0) xc))) (xk (xv (xA xV (cv 0) (cv 1) (fun _ _=>rfl)))) xC)
  (xk (xv xj))),?_⟩
  walk_at"w";refine⟨l,_,rfl,.inl hl,?_⟩;walk_at"w";refine⟨fun e=>?_,fun e=>?_⟩
  ·have e':=of_decide_eq_true e;rw[ao]at e';walk_at"w";refine⟨l,_,k,.int (ns.getD k.toNat 0),rfl,rfl,hl,?_,?_⟩
   ·have hk':k.toNat<ns.length:=by lia
    have:=xeB (xs:=ns.map V.int) (j:=k.toNat) (v:=.int (ns.getD k.toNat 0)) (by simp[hk'])
    rwa [cM hk]at this
   ·walk_at"w";rw[cellAt,if_pos e']at q;exact q
  ·have e':=of_decide_eq_false e;rw[ao]at e';rw[cellAt,if_neg e']at q;exact q
theorem xlL(x:Int):0≤x%2147483647∧x%2147483647<2147483647:=⟨cJ _ (by decide),cC _ (by decide)⟩
theorem zp(T:Txt K mg a):xy P w K mg base CX0 1 a.q3N a.xg6 ["_law_cell","_law_k"] xnN:=by
 refine T.q1j.ok xi6 (fun vs H Q E h=>?_) (fun cdv A outer s H vs Q E hr h=>?_)
 ·obtain⟨c,k,rfl,_⟩:=h;rfl
 ·obtain⟨c,k,rfl,q⟩:=h;have nd:=xi6.nd;refine⟨_,(xg (xM (xJ zL (xu yq (cv 0) xj) xj) (xk (xv (xu yq (xu xrt (cv 0) (xu yl xj (xu xbS xj (xu yq (cv 1) xj)))) (xu xeE xj xj)))) xC)
  (xg (xE (i:=2) nd rfl (aA rfl) (xu yq (xu xbS (xu yl (xu yl (xu yq (xu xcC (cv 0) xj) xj) (xu xbS xj (cv 1))) xj) xj) xj))
  (xk (xv (xu yq (xu xbS (cv 2) (xu yl (xu xcC (cv 2) xj) xj)) xj))))),?_⟩
  walk_at"w";walk_at"ss";refine⟨fun e=>?_,fun e=>?_⟩
  ·have e:c%2=1:=of_decide_eq_true e;rw[mixed,if_pos e]at q;have:=cJ k (show(120:Int)≠0 by decide);walk_at"w";walk_at"ss";refine a6 (show(0:Int)≤_ by lia) ?_;walk_at"w";walk_at"ss";exact q
  ·have e:¬c%2=1:=of_decide_eq_false e;rw[mixed,if_neg e]at q;have b:=xlL ((c / 2%2147483647+7919*k+1)*48271);walk_at"w";walk_at"ss";exact q
theorem xfb(T:Txt K mg a):xy P w K mg base CX0 1 a.q2Y a.xc8 ["value"] xkd:=by
 refine T.q2p.ok xe6 (fun vs H Q E h=>?_) (fun cdv A outer s H vs Q E hr h=>?_)
 ·obtain⟨i,rfl,_⟩:=h;rfl
 ·obtain⟨i,rfl,q⟩:=h;have nd:=xe6.nd;refine⟨_,(xk (xv (zR (xN uS (by rfl) T.q1y yR (xa (cv 0) (xa (xcy (v:=.ty "int") (by rfl) T.q4P xiG rfl) xc))) (vI (xqp (xN uS (by rfl) T.q1y yR (xa (cv 0) (xa (xcy (v:=.ty "bool") (by rfl) T.q5k xoW rfl) xc)))))))),?_⟩;walk_at"w";refine⟨_,_,_,_,true,rfl,rfl,zI.int _,rfl,?_⟩;walk_at"w";refine⟨fun _=>?_,by walk_at"no"⟩;walk_at"w";refine⟨_,_,_,_,false,rfl,rfl,zI.int _,rfl,?_⟩;exact q
theorem zq(T:Txt K mg a):xy P w K mg base CX0 2 a.q1l a.jw ["least","value"] xfx:=by
 refine T.q0t.ok xbI (fun vs H Q E h=>?_) (fun cdv A outer s H vs Q E hr h=>?_)
 ·obtain⟨l,i,rfl,_⟩:=h;rfl
 ·obtain⟨l,i,rfl,q⟩:=h;have nd:=xbI.nd;refine⟨_,(xk (xv (zR (xD (xfb T) (hr.mono (by decide)) (by rfl) T.xgf T.q2p.kp T.xge .nil xt (xa (cv 1) xc)) (vI (zP xnu (cv 1) (cv 0)))))),?_⟩;walk_at"w";refine⟨i,rfl,?_⟩;walk_at"w";exact⟨fun _=>q,by walk_at"no"⟩
theorem xlM(T:Txt K mg a):xy P w K mg base CX0 2 a.q3a a.xd4 ["value"] xlI:=by
 refine T.q3f.ok xgq (fun vs H Q E h=>?_) (fun cdv A outer s H vs Q E hr h=>?_)
 ·obtain⟨i,rfl,_⟩:=h;rfl
 ·obtain⟨i,rfl,hi,q⟩:=h;have nd:=xgq.nd;refine⟨_,(xk (xv (zR (xD (xfb T) (hr.mono (by decide)) (by rfl) T.xgf T.q2p.kp T.xge .nil xt (xa (cv 0) xc)) (vI (zP xfi (xN xrn (by rfl) T.q5D xqt (xa (cv 0) xc)) (xu xeE xj xj)))))),?_⟩;walk_at"w";refine⟨i,rfl,?_⟩;walk_at"w";refine⟨fun _=>?_,by walk_at"no"⟩;walk_at"w";refine⟨⟨by decide,by decide,by decide⟩,?_⟩;walk_at"w";show Q (.bl (decide ((i.natAbs:Int)<10^(60:Int).toNat))) H;have e:decide ((i.natAbs:Int)<10^(60:Int).toNat)=true:=decide_eq_true hi;rw[e];exact q
theorem xjj(T:Txt K mg a):xy P w K mg base CX0 3 a.q2t a.xcp ["signs"] (xjf K):=by
 refine T.q2z.ok xeg (fun vs H Q E h=>?_) (fun cdv A outer s H vs Q E hr h=>?_)
 ·obtain⟨u,sg,rfl,_⟩:=h;rfl
 ·obtain⟨u,sg,rfl,hu,hne,hlen,hs,q⟩:=h;have nd:=xeg.nd;refine⟨_,(xk (xv (zR (xN uS (by rfl) T.q1y yR (xa (cv 0) (xa (xcy (v:=.ty "tuple") (by rfl) T.q2V ub rfl) xc))) (zR (zP xdQ (xN xU (by rfl) T.q12 yK (xa (cv 0) xc)) xj) (vI (xN (xmv rfl) (by rfl) T.q5E xqu (xa (jV (xaq (cap:=[]) (ys:=[]) rfl rfl rfl rfl rfl trivial (by decide+kernel)) rfl (xfL (cv 0)) (fun _ _ _ _=>(xD (xlM T) (hr.mono (by decide)) (by rfl) T.xmF T.q3f.kp T.xmE .nil xt (xa (cv 0) xc))) (fun _ _ _ _=>jU)) xc))))))),?_⟩;walk_at"w";refine⟨_,_,_,_,true,rfl,rfl,zI.tup hu,rfl,?_⟩;walk_at"w";refine⟨fun _=>?_,by walk_at"no"⟩;walk_at"w";refine⟨u,_,rfl,.inr (SqT.of hu),?_⟩;walk_at"w";have hpos:0<sg.length:=fU.mpr hne;refine⟨fun _=>?_,fun z=>by have:=of_decide_eq_false z;rw[ao]at this;lia⟩;walk_at"w";refine⟨u,rfl,⟨_,SqT.of hu⟩,?_⟩;refine xhM (fun i acc _=>acc=aQ i (V.bl true)) (SqT.of hu) (by rw[ao,aZ];lia) rfl (fun i x acc H3 H3' hx s3 s3' hp R hR=>?_) (fun D acc H3 H3' hD hD3 s3 s3' hp hl hv=>?_)
  ·rw[aD]at hx;cases hy:sg[i]? with
   |none=>rw[hy]at hx;cases hx
   |some y=>
    rw[hy]at hx;cases hx;walk_at"w";refine⟨y,rfl,hs y (aY hy),hR _ _ (xf.refl _) fun H6 _ _=>?_⟩;rw[hp,List.replicate_succ']
  ·walk_at"w";refine⟨D,aQ sg.length true,rfl,SqL.of ?_,?_⟩
   ·rw[hv,hp,ao,List.map_replicate]
   ·walk_at"w";show Q (.bl ((aQ sg.length true).all id)) H3';have e:(aQ sg.length true).all id=true:=by simp
    rw[e];exact q _ (s3.trans s3')
theorem xif(T:Txt K mg a):xy P w K mg base CX0 3 a.q2b a.xbz ["told"] (xib K):=by
 refine T.q2c.ok xdx (fun vs H Q E h=>?_) (fun cdv A outer s H vs Q E hr h=>?_)
 ·obtain⟨t,r,rfl,_⟩:=h;rfl
 ·obtain⟨t,r,rfl,ht,hk,q⟩:=h;have nd:=xdx.nd;refine⟨_,(xg (xM (PW.pt (xaT (xcz (zQ (xN uS (by rfl) T.q1y yR (xa (cv 0) (xa (xcy (v:=.ty "tuple") (by rfl) T.q2V ub rfl) xc))))) (xaT (xJ xfV (xN xU (by rfl) T.q12 yK (xa (cv 0) xc)) xj) (xa8 (xJ xbU (xA xH (cv 0) xj (fun _ _=>rfl)) xP))))) (xk (xv ve)) xC)
  (xk (xv (zR (xD (zq T) (hr.mono (by decide)) (by rfl) T.zF T.q0t.kp T.zE .nil xt (xa xj (xa (xA xH (cv 0) xj (fun _ _=>rfl)) xc))) (zR (xD (zq T) (hr.mono (by decide)) (by rfl) T.zF T.q0t.kp T.zE .nil xt (xa xj (xa (xA xH (cv 0) xj (fun _ _=>rfl)) xc))) (vI (xD (zq T) (hr.mono (by decide)) (by rfl) T.zF T.q0t.kp T.zE .nil xt (xa xj (xa (xA xH (cv 0) xj (fun _ _=>rfl)) xc))))))))),?_⟩
  cases r with
  |put to sg=>
   obtain⟨u,h1,h2⟩:=ht;walk_at"w";refine⟨_,_,_,_,true,rfl,rfl,zI.tup h1,rfl,?_⟩;walk_at"w";refine⟨by walk_at"no",fun _=>?_⟩;walk_at"w";refine⟨t,_,rfl,.inr (SqT.of h1),?_⟩;walk_at"w";refine⟨fun _=>?_,by walk_at"no"⟩;walk_at"w";exact⟨fun _=>q,by walk_at"no"⟩
  |take to st c=>
   walk_at"w";refine⟨_,_,_,_,true,rfl,rfl,zI.tup ht,rfl,?_⟩;walk_at"w";refine⟨by walk_at"no",fun _=>?_⟩;walk_at"w";refine⟨t,_,rfl,.inr (SqT.of ht),?_⟩;walk_at"w";refine⟨by walk_at"no",fun _=>?_⟩;walk_at"w";refine⟨t,_,_,.str "take",rfl,rfl,SqT.of ht,rfl,?_⟩;walk_at"w";refine⟨by walk_at"no",fun _=>?_⟩;walk_at"w";obtain⟨k1,k2,k3⟩:=hk;refine⟨t,_,_,.int to,rfl,rfl,SqT.of ht,rfl,?_⟩;walk_at"w";refine⟨_,_,rfl,?_⟩;walk_at"w";refine⟨fun _=>?_,fun z=>absurd k1 (of_decide_eq_false z)⟩;walk_at"w";refine⟨t,_,_,.int st,rfl,rfl,SqT.of ht,rfl,?_⟩;walk_at"w";refine⟨_,_,rfl,?_⟩;walk_at"w";refine⟨fun _=>?_,fun z=>absurd k2 (of_decide_eq_false z)⟩;walk_at"w";refine⟨t,_,_,.int c,rfl,rfl,SqT.of ht,rfl,?_⟩;walk_at"w";refine⟨_,_,rfl,?_⟩;walk_at"w";rw[decide_eq_true k3];exact q
theorem xjk(T:Txt K mg a):xy P w K mg base CX0 4 a.q2s a.xco ["told"] (xjg K):=by
 refine T.q2y.ok xef (fun vs H Q E h=>?_) (fun cdv A outer s H vs Q E hr h=>?_)
 ·obtain⟨t,to,sg,rfl,_⟩:=h;rfl
 ·obtain⟨t,to,sg,rfl,⟨u,h1,h2⟩,⟨k1,k2,k3,k4⟩,q⟩:=h;have nd:=xef.nd;refine⟨_,(xg (xM (PW.pt (xaT (xcz (zQ (xN uS (by rfl) T.q1y yR (xa (cv 0) (xa (xcy (v:=.ty "tuple") (by rfl) T.q2V ub rfl) xc))))) (xaT (xJ xfV (xN xU (by rfl) T.q12 yK (xa (cv 0) xc)) xj) (xa8 (xJ xbU (xA xH (cv 0) xj (fun _ _=>rfl)) xP))))) (xk (xv ve)) xC)
  (xk (xv (zR (xD (zq T) (hr.mono (by decide)) (by rfl) T.zF T.q0t.kp T.zE .nil xt (xa xj (xa (xA xH (cv 0) xj (fun _ _=>rfl)) xc))) (vI (xD (xjj T) (hr.mono (by decide)) (by rfl) T.xj1 T.q2z.kp T.xj0 .nil xt (xa (xA xH (cv 0) xj (fun _ _=>rfl)) xc))))))),?_⟩
  walk_at"w";refine⟨_,_,_,_,true,rfl,rfl,zI.tup h1,rfl,?_⟩;walk_at"w";refine⟨by walk_at"no",fun _=>?_⟩;walk_at"w";refine⟨t,_,rfl,.inr (SqT.of h1),?_⟩;walk_at"w";refine⟨by walk_at"no",fun _=>?_⟩;walk_at"w";refine⟨t,_,_,.str "put",rfl,rfl,SqT.of h1,rfl,?_⟩;walk_at"w";refine⟨by walk_at"no",fun _=>?_⟩;walk_at"w";refine⟨t,_,_,.int to,rfl,rfl,SqT.of h1,rfl,?_⟩;walk_at"w";refine⟨_,_,rfl,?_⟩;walk_at"w";refine⟨fun _=>?_,fun z=>absurd k1 (of_decide_eq_false z)⟩;walk_at"w";refine⟨t,_,_,.ref u,rfl,rfl,SqT.of h1,rfl,?_⟩;walk_at"w";exact⟨u,sg,rfl,h2,k2,k3,k4,q⟩
theorem jl(T:Txt K mg a):xy P w K mg base CX0 5 a.q3y a.xfq ["told"] (xax K a):=by
 refine T.q1Z.ok xhS (fun vs H Q E h=>?_) (fun cdv A outer s H vs Q E hr h=>?_)
 ·obtain⟨t,r,rfl,_⟩:=h;rfl
 ·obtain⟨t,r,rfl,ht,hk,q⟩:=h;have nd:=xhS.nd;refine⟨_,(xg (xM (zQ (xD (xif T) (hr.mono (by decide)) (by rfl) T.xiZ T.q2c.kp T.xiY .nil xt (xa (cv 0) xc))) (xk (xv (xa1 T.q4W (xji T) (hr.mono (by decide)) (by rfl) T.xi3 T.xjW .nil xt (xa (xA xH (cv 0) xj (fun _ _=>rfl)) (xa (xA xH (cv 0) xj (fun _ _=>rfl)) (xa (xA xH (cv 0) xj (fun _ _=>rfl)) xc)))))) xC)
  (xg (xM (zQ (xD (xjk T) (hr.mono (by decide)) (by rfl) T.xjZ T.q2y.kp T.xjY .nil xt (xa (cv 0) xc))) (xk (xv (xa1 T.q5h (xkf T) (hr.mono (by decide)) (by rfl) T.xrA T.xlF .nil xt (xa (xA xH (cv 0) xj (fun _ _=>rfl)) (xa (xA xH (cv 0) xj (fun _ _=>rfl)) xc))))) xC)
  (xk xa4))),?_⟩
  walk_at"w";refine⟨t,r,rfl,ht,hk,?_⟩;cases r with
  |take to st c=>
   walk_at"w";refine⟨fun _=>?_,by walk_at"no"⟩;walk_at"w";refine⟨t,_,_,.int to,rfl,rfl,SqT.of ht,rfl,?_⟩;walk_at"w";refine⟨t,_,_,.int st,rfl,rfl,SqT.of ht,rfl,?_⟩;walk_at"w";refine⟨t,_,_,.int c,rfl,rfl,SqT.of ht,rfl,?_⟩;walk_at"w";intro x dx hx hdx hne;generalize hU:upd H dx (.own x)=H3;have sH3:=xf.of_eq hdx hU;have hx3:H3 x=none:=by rw[←hU,xl (au hne)];exact hx
   refine⟨x,dx,_,_,_,rfl,xm,?_⟩;rw[zv];walk_at"w";exact⟨rfl,q x _ (sH3.trans (xf.new hx3)) hx ⟨dx,xm⟩⟩
  |put to sg=>
   walk_at"w";refine⟨by walk_at"no",fun _=>?_⟩;walk_at"w";refine⟨t,to,sg,rfl,ht,hk,fun H2 s2=>?_⟩;walk_at"w";obtain⟨u,h1,h2⟩:=ht;refine⟨fun _=>?_,by walk_at"no"⟩;walk_at"w";refine⟨t,_,_,.int to,rfl,rfl,SqT.of (s2.at h1),rfl,?_⟩;walk_at"w";refine⟨t,_,_,.ref u,rfl,rfl,SqT.of (s2.at h1),rfl,?_⟩;walk_at"w";intro x dx hx hdx hne;generalize hU:upd H2 dx (.own x)=H3;have sH3:=xf.of_eq hdx hU;have hx3:H3 x=none:=by rw[←hU,xl (au hne)];exact hx
   refine⟨x,dx,u,_,_,rfl,xm,(sH3.trans (xf.new hx3)).seqT (SqT.of (s2.at h2)),?_⟩;rw[zv];walk_at"w";refine⟨rfl,q x _ (s2.trans (sH3.trans (xf.new hx3))) (s2.back hx) ⟨dx,u,?_,(s2.trans (sH3.trans (xf.new hx3))).at h2⟩⟩;rw[xm,ao]
end
def xoy(H:Hp)(Q:VK)(xss:List (List Int)):Prop:=∀(l:Addr) (as:List Addr) (H':Hp),xf H H'→uc H H' l as xss→Q (.ref l) H'
def xdg(a:Adr):Sp:=fun vs H Q _=>∃(p dx:Addr) (to st c:Int),vs=[.ref p]∧H p=some (.ins a.q0c dx (xb4 to st c))∧1≤c∧c≤1000∧(st - to).natAbs<2^200∧xoy H Q (zA to st c)
def xdh(a:Adr):Sp:=fun vs H Q _=>∃(p dx t:Addr) (to n:Int),vs=[.ref p]∧H p=some (.ins a.q0f dx (xeJ to t n))∧n≤1000∧xoy H Q [yr to n.toNat]
def xmW(K:ag):Sp:=fun vs H Q _=>∃(p C dx:Addr) (fs:List (Str×V)) (to c:Int),vs=[.ref p]∧H p=some (.ins C dx fs)∧Cls K C∧xG K C "to"∧xG K C "count"∧fs.lookup ("to":Str)=some (.int to)∧fs.lookup ("count":Str)=some (.int c)∧∀t,H t=none→Q (.ref t) (upd H t (.tup [.int to,.int (to+c)]))
theorem TupAt.off{K:ag}{H:Hp}{t p:Addr}{r:xp}{xs:List V}{o:HO}(h:TupAt K H t r)(hp:H p=some (.lst xs)):TupAt K (upd H p o) t r:=by
 have ne:∀{q:Addr} {ys:List V},H q=some (.tup ys)→upd H p o q=some (.tup ys):=fun{q ys} e=>by
  rw[xl (fun z=>by rw[z,hp]at e;cases e)];exact e
 cases r with
 |take to st c=>exact ne h
 |put to sg=>obtain⟨u,h1,h2⟩:=h;exact⟨u,ne h1,ne h2⟩
def Sm:xp→Prop
 | .take to st c=>to≤100∧st≤100∧c≤9
 | .put to sg=>to≤100∧sg.length≤9
theorem vM{α β:Type}{F:α→β→Prop}{x:α}{y:β}:∀{l₁:List α} {l₂:List β},Paired F l₁ l₂→F x y→Paired F (l₁++[x]) (l₂++[y])
 |_,_,.nil,h=>.cons h .nil
 |_,_,.cons r t,h=>.cons r (vM t h)
def xqR(old new:Int):xp→Prop
 | .take to st c=>st+c≤old∧to+c≤new
 | .put to sg=>to+sg.length≤new
theorem Paired.nth{α β:Type}{F:α→β→Prop}:∀{l₁:List α} {l₂:List β} {i:Nat} {x:α},Paired F l₁ l₂→l₁[i]? =some x→∃y,l₂[i]? =some y∧F x y
 |_,_,_,_,.nil,e=>by simp at e
 |_,_,0,_,.cons r _,e=>by simp at e;subst e;exact⟨_,rfl,r⟩
 |_,_,i+1,_,.cons _ t,e=>by
  obtain⟨y,h1,h2⟩:=Paired.nth (i:=i) t (by simpa using e);exact⟨y,by simpa using h1,h2⟩
def GT(K:ag)(H:Hp)(u:Addr)(r:xp):Prop:=TupAt K H u r∧r.ok∧Sm r
def xp.cv:xp→List Int
 | .take to _ c=>yr to c.toNat
 | .put to sg=>yr to sg.length
def xp.rds:xp→List Int
 | .take to st c=>if st=to then[]else yr st c.toNat
 | .put _ _=>[]
def xp.wrs:xp→List Int
 | .take to st c=>if st=to then[]else yr to c.toNat
 | .put to sg=>yr to sg.length
def num:Nat→List (List Int)→List (Nat×Int)
 |_,[]=>[]
 |k,cs::r=>cs.map (fun c=>(k,c))++num (k+1) r
def tw:List (Nat×Int)→List Int→Option (Nat×Int)
 |[],_=>none
 |(k,c)::r,seen=>if c∈seen then some (k,c)else tw r (c::seen)
def jL(rs:List xp):Option (Nat×Int):=tw (num 0 (rs.map xp.cv)) []
def ur(rs:List xp)(new:Nat):Option Int:=((dN new).map fun(i:Nat)=>(i:Int)).find? fun c=> !decide (c∈(rs.map xp.cv).flatten)
def jM:Nat→List xp→List Int→Option (Nat×Int)
 |_,[],_=>none
 |k,r::rest,wr=>match r.rds.find? fun c=>decide (c∈wr)with
  |some c=>some (k,c)
  |none=>jM (k+1) rest (wr++r.wrs)
def xaZ(rs:List xp):Option (Nat×Int):=jM 0 rs []
def xlN(H:Hp)(Q:VK)(w:Str):Option (Nat×Int)→Prop
 |none=>∀H',xf H H'→Q .non H'
 |some (k,c)=>∀t H',xf H H'→H' t=some (.tup [.str w,.int k,.int c])→Q (.ref t) H'
def xqS(H:Hp)(Q:VK)(w:Str):Option Int→Prop
 |none=>∀H',xf H H'→Q .non H'
 |some c=>∀t H',xf H H'→H' t=some (.tup [.str w,.int c])→Q (.ref t) H'
def xgx(rs:List xp):Prop:=rs.length≤300∧∀r∈rs,r.cv.length≤300∧r.rds.length≤300∧r.wrs.length≤300
def xnP(K:ag)(a:Adr):Sp:=fun vs H Q _=>∃(l:Addr) (rs:List xp),vs=[.ref l]∧xjd K a H l rs∧xgx rs∧jL rs=none∧xlN H Q "twice" (jL rs)
def xlO(K:ag)(a:Adr):Sp:=fun vs H Q _=>∃(l:Addr) (rs:List xp) (new:Nat),vs=[.ref l,.int new]∧xjd K a H l rs∧xgx rs∧new≤300∧xqS H Q "lacks" (ur rs new)
def xpv(K:ag)(a:Adr):Sp:=fun vs H Q _=>∃(l:Addr) (rs:List xp),vs=[.ref l]∧xjd K a H l rs∧xgx rs∧xlN H Q "late" (xaZ rs)
def xp.to:xp→Int
 | .take t _ _=>t
 | .put t _=>t
def xp.cnt:xp→Nat
 | .take _ _ c=>c.toNat
 | .put _ sg=>sg.length
def xp.sg(es:List Int):xp→List Int
 | .take _ st c=>(es.drop st.toNat).take c.toNat
 | .put _ sg=>sg
def xp.fits(es:List Int):xp→Prop
 | .take _ st c=>st+c≤es.length
 | .put _ _=>True
theorem xp.sg_len{es:List Int}{r:xp}(ok:r.ok)(f:r.fits es):(r.sg es).length=r.cnt:=by
 cases r with
 |take to st c=>
  obtain⟨k1,k2,k3⟩:=ok;have f':st+c≤es.length:=f;simp only[xp.sg,xp.cnt,bQ,cQ];lia
 |put to sg=>rfl
theorem xp.ok.to{r:xp}(ok:r.ok):0≤r.to:=by
 cases r with
 |take to st c=>exact ok.1
 |put to sg=>exact ok.1
def Tells(es nw:List Int)(r:xp):Prop:=r.ok∧r.fits es∧r.to+r.cnt≤nw.length∧∀i:Nat,i<r.cnt→nw[(r.to+i).toNat]? =(r.sg es)[i]?
def vN(r:xp)(j:Nat):Prop:=r.to≤j∧(j:Int)<r.to+r.cnt
def zG(K:ag)(H:Hp)(p:Addr)(o n:Int)(rs:List xp):Prop:=∃t ts,H p=some (.tup [.int o,.int n,.ref t])∧H t=some (.tup (ts.map V.ref))∧Paired (TupAt K H) ts rs
theorem zG.same{K:ag}{H H':Hp}{p:Addr}{o n:Int}{rs:List xp}(h:zG K H p o n rs)(s:xf H H'):zG K H' p o n rs:=by
 obtain⟨t,ts,h1,h2,h3⟩:=h;exact⟨t,ts,s.at h1,s.at h2,L2.Paired.imp' (fun _ _ z=>z.same s) h3⟩
def Fit(old new:Int):xp→Prop
 | .take to st c=>st+c≤old∧to+c≤new
 | .put to sg=>to+sg.length≤new
def xjl:Sp:=fun vs H Q _=>∃i:Int,vs=[.int i]∧0≤i∧i≤300∧Q (.bl true) H
inductive xkH(K:ag)(vs:List V)(H:Hp)(Q:VK):Prop
 |mk (p:Addr) (o n:Int) (rs:List xp):(vs=[.ref p])→(zG K H p o n rs)→(0≤o)→(o≤300)→(0≤n)→(n≤300)→(rs.length≤300)→(Q (.bl true) H)→xkH K vs H Q
def xpw(K:ag):Sp:=fun vs H Q _=>xkH K vs H Q
def xlP(K:ag):Sp:=fun vs H Q _=>∃(t:Addr) (r:xp) (old new:Int),vs=[.ref t,.int old,.int new]∧TupAt K H t r∧r.ok∧Fit old new r∧∀H',xf H H'→Q (.bl true) H'
def xnQ(K:ag):Sp:=fun vs H Q _=>∃(p:Addr) (o n:Int) (rs:List xp),vs=[.ref p]∧zG K H p o n rs∧(∀r∈rs,r.ok∧Fit o n r)∧rs.length≤300∧∀H',xf H H'→Q .non H'
def xjm(H:Hp)(Q:VK)(rs:List xp)(n:Int):Prop:=match ur rs n.toNat with
 |some c=>xqS H Q "lacks" (some c)
 |none=>xlN H Q "late" (xaZ rs)
inductive xjn(K:ag)(vs:List V)(H:Hp)(Q:VK):Prop
 |mk (p:Addr) (o n:Int) (rs:List xp):(vs=[.ref p])→(zG K H p o n rs)→((0≤o∧o≤300))→((0≤n∧n≤300))→(rs.length≤300)→((∀r∈rs,r.ok∧Fit o n r))→(jL rs=none)→(xjm H Q rs n)→xjn K vs H Q
def xnR(K:ag):Sp:=fun vs H Q _=>xjn K vs H Q
def xp.neg(_:xp):Prop:=True
def xp.inO(old:Int):xp→Prop
 | .take _ st c=>st+c≤old
 | .put .. =>True
def Good(old:Int)(r:xp):Prop:=r.ok∧r.neg∧r.inO old
inductive Tl(old:Int):List xp→Int→Prop
 |nil:Tl old [] 0
 |snoc {rs:List xp} {at' n:Int} {r:xp}:Tl old rs at'→Good old r→r.to=at'→(r.cnt:Int)=n→Tl old (rs++[r]) (at'+n)
section
variable {P:ak} {w:World} {K:ag} {mg:Str→Option Value} {base:Heap} {a:Adr}
theorem xig(T:Txt K mg a):xy P w K mg base CX0 2 a.q1P a.xby ["self"] (xdh a):=by
 refine T.q2I.ok xdw (fun vs H Q E h=>?_) (fun cdv A outer s H vs Q E hr h=>?_)
 ·obtain⟨p,dx,t,to,n,rfl,_⟩:=h;rfl
 ·obtain⟨p,dx,t,to,n,rfl,hp,hn,k⟩:=h;have nd:=xdw.nd;refine⟨_,(xk (xv (ye (xa (xQ (cv 0) T.q1F T.q19 (yH T) (hr.mono (by decide)) T.yV .nil xt) xc)))),?_⟩;walk_at"w";refine⟨p,dx,_,rfl,hp,rfl,?_⟩;walk_at"w";refine⟨p,_,dx,_,to,n,rfl,hp,T.q1F,T.q2X,T.q1V,rfl,rfl,by lia,fun l H1 s1 hl e1=>?_⟩;walk_at"w";walk_at"ss";intro D hD;have hD0:=s1.back hD;refine k D [l] _ (s1.put hD0) ⟨xm,?_,rfl,fun i b xs h1 h2=>?_,hD0,fun b hb=>?_⟩
  ·have:D≠l:=fun z=>by rw[z,e1]at hD;cases hD
   simpa using this
  ·cases i with
   |zero=>
    simp at h1 h2;subst h1 h2;rw[xl (xF e1 hD)];exact e1
   |succ i=>simp at h1
  ·rw[aj.mp hb];exact hl
theorem xhi(T:Txt K mg a):xy P w K mg base CX0 2 a.q1C a.xaI ["self"] (xdg a):=by
 refine T.q2g.ok xcI (fun vs H Q E h=>?_) (fun cdv A outer s H vs Q E hr h=>?_)
 ·obtain⟨p,dx,to,st,c,rfl,_⟩:=h;rfl
 ·obtain⟨p,dx,to,st,c,rfl,hp,hc1,hc2,hd,k⟩:=h;have nd:=xcI.nd;refine⟨_,(xg (xM (zQ (xQ (cv 0) T.q0g T.q24 (xaM T) (hr.mono (by decide)) T.xbF .nil xt)) (xk (xv (ye xc))) xC)
  (xg (xE (i:=1) nd rfl (cI rfl) (xw (cv 0) rfl))
  (xg (xE (i:=2) nd rfl (cI rfl) (xu yl (xw (cv 0) rfl) (xw (cv 0) rfl)))
  (xg (xM (xJ xfi (xw (cv 0) rfl) (xw (cv 0) rfl)) (xg (xE (i:=3) nd rfl (cI rfl) (xu yz (xw (cv 0) rfl) (xw (cv 0) rfl)))
  (xk (xv (jV (xaq (cap:=[2,3]) (ys:=["end","step"]) rfl rfl rfl rfl rfl ⟨⟨rfl,rfl,.inl rfl⟩,⟨⟨rfl,rfl,.inl rfl⟩,trivial⟩⟩ (by decide+kernel)) rfl (xhG (by rfl) T.q2a (xa (cv 1) (xa (cv 2) (xa (cv 3) xc)))) (fun _ _ _ _=>(xZ (vO rfl) (by rfl) T.q25 uu (xa (xbW (by rfl) T.q2a (xa (cv 0) (xa (xN (xf0 rfl) (by rfl) T.q4F xfZ (xa (xu yl (cv 0) (cv 2)) (xa (cv 1) xc))) xc))) xc))) (fun _ _ _ _=>jU))))) xC)
  (xg (xE (i:=3) nd rfl (cI rfl) (xu yz (xw (cv 0) rfl) (xw (cv 0) rfl)))
  (xk (xv (jV (xaq (cap:=[1,3]) (ys:=["first","step"]) rfl rfl rfl rfl rfl ⟨⟨rfl,rfl,.inl rfl⟩,⟨⟨rfl,rfl,.inl rfl⟩,trivial⟩⟩ (by decide+kernel)) rfl (xhG (by rfl) T.q2a (xa (cv 2) (xa (cv 1) (xa (xoi xop (cv 3)) xc)))) (fun _ _ _ _=>(xZ (vO rfl) (by rfl) T.q25 uu (xa (xbW (by rfl) T.q2a (xa (xN (xiH rfl) (by rfl) T.q4E xfY (xa (xu yz (cv 0) (cv 2)) (xa (cv 1) xc))) (xa (cv 0) xc))) xc))) (fun _ _ _ _=>jU))))))))),?_⟩
  walk_at"w";refine⟨p,dx,_,rfl,hp,rfl,?_⟩;walk_at"w";refine⟨p,dx,to,st,c,rfl,hp,?_⟩;walk_at"w";refine⟨fun e=>?_,fun e=>?_⟩
  ·have e':st=to:=of_decide_eq_true e;walk_at"w";walk_at"ss";intro l hl;refine k l [] _ (xf.new hl) ?_;rw[zA,if_pos e'];exact uc.nil (H':=H) hl xm
  ·have e':¬st=to:=of_decide_eq_false e;walk_at"w";refine⟨p,_,dx,_,.int to,rfl,hp,T.q0g,T.q0V,rfl,?_⟩;walk_at"w";refine⟨p,_,dx,_,.int to,rfl,hp,T.q0g,T.q0V,rfl,?_⟩;walk_at"w";refine⟨p,_,dx,_,.int c,rfl,hp,T.q0g,T.q0P,rfl,?_⟩;walk_at"w";refine⟨p,_,dx,_,.int to,rfl,hp,T.q0g,T.q0V,rfl,?_⟩;walk_at"w";refine⟨p,_,dx,_,.int st,rfl,hp,T.q0g,T.q0z,rfl,?_⟩;walk_at"w";refine⟨fun e2=>?_,fun e2=>?_⟩
   ·have e3:to<st:=of_decide_eq_true e2;walk_at"w";refine⟨p,_,dx,_,.int st,rfl,hp,T.q0g,T.q0z,rfl,?_⟩;walk_at"w";refine⟨p,_,dx,_,.int to,rfl,hp,T.q0g,T.q0V,rfl,?_⟩;walk_at"w";refine a6 (xmT (by lia) hd) ?_;walk_at"w";obtain⟨d,hdd⟩:∃d:Nat,st - to=(d:Int):=⟨(st - to).toNat,by lia⟩;have hd0:0<d:=by lia
    rw[hdd,xpt to c d hc1 hd0];refine xf1 (uch to d c.toNat) (bw ?_ (show 1000≤aN by decide)) (fun i H3 hi s3 R hR=>?_) (fun D H2 as s2 L=>?_)
    ·have:=xeM (uch to d) d c.toNat hd0;unfold chs at this;rw[ao,gC]at this;lia
    ·walk_at"w";intro r hr;generalize hUr:upd H3 r _=H4;have sH4:=xf.of_eq hr hUr;have er:=xq hUr;clear hUr;walk_at"w";have ep:(i:Int)*(d:Int)=((i*d:Nat):Int):=by rw[Int.natCast_mul]
     have el:yx (to+((i*d:Nat):Int)) (min (to+((i*d:Nat):Int)+(st - to)) (to+c)) 1=min d (c.toNat - i*d):=by
      rw[ua];generalize i*d=q;lia
     rw[ep]at er;refine⟨r,_,_,rfl,er,by rw[el];lia,fun l hl=>?_⟩;rw[el,xeK];exact hR l _ (sH4.put (sH4.back hl)) (sH4.back hl) xm
    ·refine k D as H2 s2 ?_;rw[zA,if_neg e',if_pos e3,hdd];exact L
   ·have e3:¬to<st:=of_decide_eq_false e2;walk_at"w";refine⟨p,_,dx,_,.int to,rfl,hp,T.q0g,T.q0V,rfl,?_⟩;walk_at"w";refine⟨p,_,dx,_,.int st,rfl,hp,T.q0g,T.q0z,rfl,?_⟩;walk_at"w";refine a6 (xmT (by lia) (by lia)) ?_;walk_at"w";obtain⟨d,hdd⟩:∃d:Nat,to - st=(d:Int):=⟨(to - st).toNat,by lia⟩;have hd0:0<d:=by lia
    rw[hdd,xmU to c d hc1 hd0];refine xf1 (dch (to+c) d c.toNat) (bw ?_ (show 1000≤aN by decide)) (fun i H3 hi s3 R hR=>?_) (fun D H2 as s2 L=>?_)
    ·have:=xeM (dch (to+c) d) d c.toNat hd0;unfold chs at this;rw[ao,gC]at this;lia
    ·walk_at"w";intro r hr;generalize hUr:upd H3 r _=H4;have sH4:=xf.of_eq hr hUr;have er:=xq hUr;clear hUr;walk_at"w";have ep:(i:Int)* -(d:Int)= -((i*d:Nat):Int):=by rw[Int.mul_neg,Int.natCast_mul]
     have hid:i*d≤c.toNat:=xnO hd0 hi;have el:yx (max (to+c+ -((i*d:Nat):Int) - (to - st)) to) (to+c+ -((i*d:Nat):Int)) 1=min d (c.toNat - i*d):=by
      rw[ua];generalize i*d=q at hid;lia
     rw[ep]at er;refine⟨r,_,_,rfl,er,by rw[el];lia,fun l hl=>?_⟩;rw[el,xeK];refine hR l _ (sH4.put (sH4.back hl)) (sH4.back hl) ?_;rw[xm];unfold dch;have e5:max (to+c+ -((i*d:Nat):Int) - (to - st)) to=to+c - ((min ((i+1)*d) c.toNat:Nat):Int):=by
      rw[gP];generalize i*d=q at hid;lia
     rw[e5]
    ·refine k D as H2 s2 ?_;rw[zA,if_neg e',if_neg e3,hdd];exact L
def xa6:xp→List (List Int)
 | .take to st c=>zA to st c
 | .put to sg=>[yr to sg.length]
theorem xfc{r:xp}(hk:r.ok)(hs:Sm r):(xa6 r).length≤9:=by
 cases r with
 |take to st c=>
  obtain⟨k1,k2,k3⟩:=hk;obtain⟨s1,s2,s3⟩:=hs;show(zA to st c).length≤9;unfold zA
  split
  ·simp
  ·split
   ·have:=xeM (uch to (st - to).toNat) (st - to).toNat c.toNat (by lia);lia
   ·have:=xeM (dch (to+c) (to - st).toNat) (to - st).toNat c.toNat (by lia);lia
 |put to sg=>show 1≤9;lia
def ze(K:ag)(H0:Hp)(tl:Addr)(G:Hp)(u:Addr)(x:xp×List Int):Prop:=∃t c:Addr,(c≠tl∧H0 c=none)∧G u=some (.tup [.ref t,.ref c])∧TupAt K G t x.1∧G c=some (.lst (x.2.map V.int))
theorem ze.same{H0:Hp}{tl:Addr}{G G':Hp}{u:Addr}{x:xp×List Int}(h:ze K H0 tl G u x)(s:xf G G'):ze K H0 tl G' u x:=by
 obtain⟨t,c,h1,h2,h3,h4⟩:=h;exact⟨t,c,h1,s.at h2,h3.same s,s.at h4⟩
theorem ze.off{H0:Hp}{tl:Addr}{G:Hp}{u:Addr}{x:xp×List Int}{xs:List V}{o:HO}(h:ze K H0 tl G u x)(hp:G tl=some (.lst xs)):ze K H0 tl (upd G tl o) u x:=by
 obtain⟨t,c,h1,h2,h3,h4⟩:=h;exact⟨t,c,h1,by rw[xl (fun z=>by rw[z,hp]at h2;cases h2)];exact h2,h3.off hp,by rw[xl h1.1];exact h4⟩
def yy(rs:List xp):List (xp×List Int):=rs.flatMap fun r=>(xa6 r).map fun c=>(r,c)
theorem xdH{α β:Type}{F:α→β→Prop}:∀{l₁ l₃:List α} {l₂ l₄:List β},Paired F l₁ l₂→Paired F l₃ l₄→Paired F (l₁++l₃) (l₂++l₄)
 |_,_,_,_,.nil,h=>h
 |_,_,_,_,.cons r t,h=>.cons r (xdH t h)
def xjo(K:ag):Sp:=fun vs H Q _=>∃(p tt:Addr) (o n:V) (us:List Addr) (rs:List xp),vs=[.ref p]∧H p=some (.tup [o,n,.ref tt])∧H tt=some (.tup (us.map V.ref))∧Paired (GT K H) us rs∧us.length≤58∧
 ∀(l:Addr) (ws:List Addr) (H':Hp),xf H H'→H l=none→H' l=some (.lst (ws.map V.ref))→Paired (ze K H l H') ws (yy rs)→Q (.ref l) H'
theorem GT.same{H H':Hp}{u:Addr}{r:xp}(h:GT K H u r)(s:xf H H'):GT K H' u r:=⟨h.1.same s,h.2⟩
theorem xjp{H0:Hp}{tl:Addr}{L0 L G:Hp}{l t:Addr}{as:List Addr}{xss:List (List Int)}{r:xp}(s0:xf H0 L0)(hL:uc L0 L l as xss)(sL:xf L G)(hT:TupAt K G t r)(htl:L0 tl≠none):∀{ws:List Addr} {i:Nat},Paired (fun w a=>G w=some (.tup [.ref t,.ref a])) ws (as.drop i)→Paired (ze K H0 tl G) ws ((xss.drop i).map fun c=>(r,c))
 |ws,i,h=>by
  have hlen:=hL.len
  by_cases hi:i<as.length
  ·have e1:as.drop i=as[i]::as.drop (i+1):=bG hi;have hi2:i<xss.length:=by lia
   have e2:xss.drop i=xss[i]::xss.drop (i+1):=bG hi2;rw[e1]at h;rw[e2,bq];cases h with
   |cons h1 h2=>
    have hfr:=hL.frs _ (eF hi);refine .cons ⟨t,as[i],⟨fun z=>htl (by rw[←z];exact hfr),s0.back hfr⟩,h1,hT,sL.at (hL.each i _ _ (aK hi) (aK hi2))⟩ (xjp s0 hL sL hT htl h2)
  ·rw[bR (by lia)]at h;rw[bR (by lia)];cases h;exact .nil
 termination_by _ i=>as.length - i
theorem xlQ(T:Txt K mg a){H:Hp}{t:Addr}{r:xp}{Q:VK}{σ:L2.St}{i:Nat}(hT:GT K H t r)
  (k:∀l as H1 H2,xf H H1→xf H1 H2→uc H1 H2 l as (xa6 r)→Q (.ref l) H2) (hσ:σ[i]? =some (some (.ref t)):=by rfl):
  zr a.q0f "pieces" (xdh a) [] E0 (xeA (xax K a) [] E0 (xfN (zZ i) vy)) vy σ H Q∨zr a.q0c "pieces" (xdg a) [] E0 (xeA (xax K a) [] E0 (xfN (zZ i) vy)) vy σ H Q:=by
 obtain⟨hT,hk,hs⟩:=hT;have go:∀{R:VK},xax K a [.ref t] H R E0→xeA (xax K a) [] E0 (xfN (zZ i) vy) σ H R:=fun h=>by
  unfold xeA xfN vy zZ;rw[hσ];exact h
 cases r with
 |put to sg=>
  left
  unfold zr;refine go ⟨t,_,rfl,hT,hk,fun o H1 s1 ho hob=>?_⟩;obtain⟨dx,u,h1,h2⟩:=hob;have h9:sg.length≤9:=hs.2;refine⟨o,dx,_,rfl,h1,rfl,?_⟩;show xdh a [.ref o] H1 Q E0;refine⟨o,dx,u,to,sg.length,rfl,h1,by lia,fun l as H2 s2 L=>k l as H1 H2 s1 s2 ?_⟩;rw[show((sg.length:Int)).toNat=sg.length by lia]at L;exact L
 |take to st c=>
  right
  unfold zr;refine go ⟨t,_,rfl,hT,hk,fun o H1 s1 ho hob=>?_⟩;obtain⟨dx,h1⟩:=hob;obtain⟨k1,k2,k3⟩:=hk;obtain⟨s1',s2',s3'⟩:=hs;refine⟨o,dx,_,rfl,h1,rfl,?_⟩;show xdg a [.ref o] H1 Q E0;have hb:(st - to).natAbs<2^200:=dP (show(st - to).natAbs≤1000 by lia) (by decide);exact⟨o,dx,to,st,c,rfl,h1,k3,by lia,hb,fun l as H2 s2 L=>k l as H1 H2 s1 s2 L⟩
theorem xjq(T:Txt K mg a):xy P w K mg base CX0 6 a.q2u a.xcq ["paper"] (xjo K):=by
 refine T.q2A.ok xeh (fun vs H Q E h=>?_) (fun cdv A outer s H vs Q E hr h=>?_)
 ·obtain⟨p,tt,o,n,us,rs,rfl,_⟩:=h;rfl
 ·obtain⟨p,tt,o,n,us,rs,rfl,hp,ht,hus,hul,q⟩:=h;have nd:=xeh.nd;refine⟨_,(xg (xE (i:=1) nd rfl (aA rfl) (ye xc))
  (xg (yt PassesOwn.never rfl (xfL (xA xH (cv 0) xj (fun _ _=>rfl))) (xK (i:=2) nd rfl (cI rfl)) (xk (xO (xeC PySem.F.plainAttrs_list PySem.F.slot_list_extend PySem.F.type_list_extend xmh (cv 1) (xa (jV (xaq (cap:=[2]) (ys:=["told"]) rfl rfl rfl rfl rfl ⟨⟨rfl,rfl,.inl rfl⟩,trivial⟩ (by decide+kernel)) rfl (zx (xbb (xQ (xD (jl T) (hr.mono (by decide)) (by rfl) T.xaf T.q1Z.kp T.xae .nil xt (xa (cv 2) xc)) T.q1F T.q4g (xig T) (hr.mono (by decide)) T.xiX .nil xt) (xQ (xD (jl T) (hr.mono (by decide)) (by rfl) T.xaf T.q1Z.kp T.xae .nil xt (xa (cv 2) xc)) T.q0g T.q34 (xhi T) (hr.mono (by decide)) T.xh5 .nil xt))) (fun _ _ _ _=>(yX (xa (cv 1) (xa (cv 0) xc)))) (fun _ _ _ _=>jU)) xc)))))
  (xk (xv (cv 1))))),?_⟩
  walk_at"w";walk_at"ss";intro pl hpl;generalize hUpl:upd H pl _=H1;have sH1:=xf.of_eq hpl hUpl;have epl:=xq hUpl;clear hUpl;walk_at"w";refine⟨p,_,_,.ref tt,rfl,rfl,SqT.of (sH1.at hp),rfl,?_⟩;walk_at"w";refine⟨tt,rfl,⟨_,SqT.of (sH1.at ht)⟩,?_⟩;walk_at"w";refine xhH (xs:=us.map V.ref) (fun i σ G=>xf H G∧∃(ws:List Addr) (x2:Option V),σ=[some (.ref p),some (.ref pl),x2]∧G pl=some (.lst (ws.map V.ref))∧Paired (ze K H pl G) ws (yy (rs.take i))∧ws.length≤9*i)
   ⟨sH1,[],_,rfl,epl,.nil,by simp⟩ (fun i σ G hi hP=>SqT.of (hP.1.at ht)) (fun i x σ G hx hP=>?_) (fun σ G hP=>?_)
  ·obtain⟨sG,ws,x2,rfl,epl',hws,hwl⟩:=hP;rw[aD]at hx;obtain⟨t,ht',rfl⟩:=aH.mp hx;have hi:i<us.length:=(az.mp ht').1;obtain⟨r,hr',hT⟩:=Paired.nth hus ht';have hTG:=hT.same sG;walk_at"w";refine⟨.inl ⟨rfl,_,SqL.of epl'⟩,?_⟩;walk_at"w";have hplen:=xfc hT.2.1 hT.2.2;refine xlQ (K:=K) T hTG fun L as G1 G2 s1 s2 hL=>?_;walk_at"w";refine⟨L,rfl,⟨_,SqL.of hL.top⟩,?_⟩;have hal:as.length=(xa6 r).length:=hL.len;refine xlo (fun i acc G=>∃ws2:List Addr,acc=ws2.map V.ref∧Paired (fun w a=>G w=some (.tup [.ref t,.ref a])) ws2 (as.take i)) (SqL.of hL.top) (by rw[ao,aZ];lia) ⟨[],rfl,by rw[iH];exact .nil⟩ (fun j x acc H3 H3' hx s3 s3' hP R hR=>?_) (fun D acc H9 H9' hD hD3 s9 s9' hP hl9 hv=>?_)
   ·obtain⟨ws2,rfl,hws2⟩:=hP;rw[aD]at hx;obtain⟨c,hc,rfl⟩:=aH.mp hx;walk_at"w";walk_at"ss";intro w hw;refine hR _ _ (xf.new hw) fun H6 sx kx=>⟨ws2++[w],by simp,?_⟩;rw[b8,hc];exact vM (L2.Paired.imp' (fun _ _ (z:H3 _=some _)=>sx.at z) hws2) (kx w _ (.inl hw) xm)
   ·obtain⟨ws2,rfl,hws2⟩:=hP;rw[ao,cw]at hws2;rw[ao,ao]at hl9;have sB:xf G H9':=s1.trans (s2.trans (s9.trans s9'));have hpl9:=sB.at epl';have hTr:TupAt K H9' t r:=hTG.1.same sB;have hpi:=xjp (K:=K) (H0:=H) (tl:=pl) (G:=H9') (sG.trans s1) hL (s9.trans s9') hTr (by rw[s1.at epl'];exact fun z=>by cases z) (ws:=ws2) (i:=0) (by rw[iI];exact L2.Paired.imp' (fun _ _ (z:H9 _=some _)=>s9'.at z) hws2);rw[iI]at hpi;walk_at"w";refine⟨pl,D,_,_,rfl,rfl,hpl9,hv,by rw[ao,ao,aZ];lia,?_⟩;generalize hU:upd H9' pl _=G6;refine⟨xf.wr (sG.trans sB) hpl hU,ws++ws2,_,rfl,?_,?_,?_⟩
    ·rw[←hU,xm,bJ]
    ·have e:yy (rs.take (i+1))=yy (rs.take i)++(xa6 r).map fun c=>(r,c):=by
      unfold yy;rw[b8,hr',j4];simp
     rw[e,←hU];exact xdH (L2.Paired.imp' (fun _ _ (z:ze K H pl G _ _)=>(z.same sB).off hpl9) hws) (L2.Paired.imp' (fun _ _ (z:ze K H pl H9' _ _)=>z.off hpl9) hpi)
    ·rw[aW];lia
  ·obtain⟨sG,ws,x2,rfl,epl',hws,hwl⟩:=hP;walk_at"w";have e:rs.take (us.map V.ref).length=rs:=by rw[ao,hus.length,cw]
   rw[e]at hws;exact q pl ws G sG hpl epl' hws
def xlR(a:Adr):Sp:=fun vs H Q _=>∃(p dx:Addr) (to st c cell:Int),vs=[.ref p,.int cell]∧H p=some (.ins a.q0c dx (xb4 to st c))∧Q (.int (st+cell - to)) H
theorem xay(T:Txt K mg a):xy P w K mg base CX0 1 a.q0G a.vC ["self","cell"] (xlR a):=by
 refine T.q1z.ok xat (fun vs H Q E h=>?_) (fun cdv A outer s H vs Q E hr h=>?_)
 ·obtain⟨p,dx,to,st,c,cell,rfl,_⟩:=h;rfl
 ·obtain⟨p,dx,to,st,c,cell,rfl,hp,k⟩:=h;have nd:=xat.nd;refine⟨_,(xk (xv (xu yz (xu yl (xw (cv 0) rfl) (cv 1)) (xw (cv 0) rfl)))),?_⟩;walk_at"w";refine⟨p,_,dx,_,.int st,rfl,hp,T.q0g,T.q0z,rfl,?_⟩;walk_at"w";refine⟨p,_,dx,_,.int to,rfl,hp,T.q0g,T.q0V,rfl,?_⟩;exact k
def plc(r:xp)(c:Int):List Int:=match r with
 | .take to st _=>[st+c - to,c]
 | .put _ _=>[c]
def yO(r:xp)(cs:List Int):List Int:=cs.flatMap (plc r)
theorem xem{r:xp}{cs:List Int}{i:Nat}{d:Int}(h:cs[i]? =some d):yO r (cs.take (i+1))=yO r (cs.take i)++plc r d:=by
 unfold yO;rw[b8,h,j4];simp
theorem xcu(r:xp):∀cs:List Int,(yO r cs).length≤2*cs.length
 |[]=>by simp[yO]
 |c::cs=>by
  have:=xcu r cs;have h2:(plc r c).length≤2:=by cases r<;> simp[plc]
  simp only[yO,List.flatMap_cons,aW,bD]at this⊢;lia
def xmX(K:ag)(a:Adr):Sp:=fun vs H Q _=>∃(o cl:Addr) (r:xp) (cs:List Int),vs=[.ref o,.ref cl]∧za K a H o r∧H cl=some (.lst (cs.map V.int))∧cs.length≤300∧xfw H Q (yO r cs)
theorem xfy(T:Txt K mg a):xy P w K mg base CX0 2 a.q1n a.jy ["row","cells"] (xmX K a):=by
 refine T.q1u.ok xbK (fun vs H Q E h=>?_) (fun cdv A outer s H vs Q E hr h=>?_)
 ·obtain⟨o,cl,r,cs,rfl,_⟩:=h;rfl
 ·obtain⟨o,cl,r,cs,rfl,ho,hcl,hn,q⟩:=h;have nd:=xbK.nd;refine⟨_,(xg (xE (i:=2) nd rfl (aA rfl) (ye xc))
  (xg (yt PassesOwn.never rfl (zx (cv 1)) (xK (i:=3) nd rfl (aA rfl)) (xg (yY (xM (zQ (xN uS (by rfl) T.q1y yR (xa (cv 0) (xa (xey (v:=.ref a.q0c) (by rfl) T.xi3 rfl) xc)))) (xk (xO (xeC PySem.F.plainAttrs_list PySem.F.slot_list_append PySem.F.type_list_append je (cv 2) (xa (zd (cv 0) T.q0g T.q2r (xay T) (hr.mono (by decide)) T.xaO .nil xt (xa (cv 3) xc)) xc)))) xC))
  (xk (xO (xeC PySem.F.plainAttrs_list PySem.F.slot_list_append PySem.F.type_list_append je (cv 2) (xa (cv 3) xc))))))
  (xk (xv (cv 2))))),?_⟩
  walk_at"w";walk_at"ss";intro pl hpl;generalize hUpl:upd H pl _=H1;have sH1:=xf.of_eq hpl hUpl;have epl:=xq hUpl;clear hUpl;walk_at"w";refine⟨cl,rfl,⟨_,SqL.of (sH1.at hcl)⟩,?_⟩;refine yZ (xs:=cs.map V.int) (fun i σ G=>xf H G∧∃(x3:Option V),σ=[some (.ref o),some (.ref cl),some (.ref pl),x3]∧G pl=some (.lst ((yO r (cs.take i)).map V.int)))
   ⟨sH1,_,rfl,epl⟩ (fun i σ G hi hP=>SqL.of (hP.1.at hcl)) (fun i x σ G hx hP=>?_) (fun σ G hP=>?_)
  ·obtain⟨sG,x3,rfl,epl'⟩:=hP;rw[aD]at hx;obtain⟨d,hd,rfl⟩:=aH.mp hx;have hlen:=xcu r (cs.take i);have hi:i<cs.length:=(az.mp hd).1;have htk:(cs.take i).length≤cs.length:=by rw[bQ];lia
   walk_at"w";refine⟨fun σ' G'=>xf H G'∧σ'=[some (.ref o),some (.ref cl),some (.ref pl),some (.int d)]∧∃ys:List Int,G' pl=some (.lst (ys.map V.int))∧ys++[d]=yO r (cs.take (i+1)),?_,?_⟩
   ·have ho':=ho.same sG;cases r with
    |take to st c=>
     obtain⟨dx,h1⟩:=ho';walk_at"w";refine⟨_,_,_,_,true,rfl,rfl,T.xkC h1,T.q3H,?_⟩;walk_at"w";refine⟨fun _=>?_,by walk_at"no"⟩;walk_at"w";refine⟨.inl ⟨rfl,_,SqL.of epl'⟩,?_⟩;walk_at"w";refine⟨o,dx,_,rfl,h1,rfl,?_⟩;walk_at"w";refine⟨o,dx,to,st,c,d,rfl,h1,?_⟩;walk_at"w";refine⟨pl,_,_,rfl,rfl,epl',by rw[ao,aZ];lia,?_⟩;refine⟨sG.put hpl,rfl,yO (.take to st c) (cs.take i)++[st+d - to],by rw[xm,bJ];rfl,?_⟩;rw[xem hd];simp[plc]
    |put to sg=>
     obtain⟨dx,u,h1,h2⟩:=ho';walk_at"w";refine⟨_,_,_,_,false,rfl,rfl,T.xmO h1,T.q39,?_⟩;walk_at"w";refine⟨by walk_at"no",fun _=>?_⟩;refine⟨sG,rfl,_,epl',?_⟩;rw[xem hd];simp[plc]
   ·rintro σ' G' ⟨sG',rfl,ys,eys,hys⟩;walk_at"w";refine⟨.inl ⟨rfl,_,SqL.of eys⟩,?_⟩;walk_at"w";have hyl:=congrArg iq hys;have:=xcu r (cs.take (i+1));have htk2:(cs.take (i+1)).length≤cs.length:=by rw[bQ];lia
    rw[aW,iC]at hyl;refine⟨pl,_,_,rfl,rfl,eys,by rw[ao,aZ];lia,?_⟩;refine⟨sG'.put hpl,_,rfl,?_⟩;rw[xm,←hys,bJ];rfl
  ·obtain⟨sG,x3,rfl,epl'⟩:=hP;rw[ao,cw]at epl';walk_at"w";exact q pl G sG hpl epl'
def xmY(K:ag):Sp:=fun vs H Q _=>∃(size:Int) (H0:Hp) (pl tl:Addr) (ws:List Addr) (xs:List (xp×List Int)),vs=[.int size,.ref pl]∧H pl=some (.lst (ws.map V.ref))∧Paired (ze K H0 tl H) ws xs∧(∀x∈xs,x.1.ok∧x.2.length≤300∧∀p∈yO x.1 x.2,p<size)∧∀H',xf H H'→Q .non H'
theorem xfz(T:Txt K mg a):xy P w K mg base CX0 6 a.q1m a.jx ["size","pieces"] (xmY K):=by
 refine T.q1t.ok xbJ (fun vs H Q E h=>?_) (fun cdv A outer s H vs Q E hr h=>?_)
 ·obtain⟨size,H0,pl,tl,ws,xs,rfl,_⟩:=h;rfl
 ·obtain⟨size,H0,pl,tl,ws,xs,rfl,hpl,hws,hx,q⟩:=h;have nd:=xbJ.nd;refine⟨_,(xk (yt PassesOwn.never rfl (zx (cv 1)) (jm rfl (xT (xK (i:=2) nd rfl (aA rfl)) (xT (xK (i:=3) nd rfl (aA rfl)) vf))) (xk (yt PassesOwn.never rfl (zx (xD (xfy T) (hr.mono (by decide)) (by rfl) T.xgj T.q1u.kp T.xgi .nil xt (xa (xD (jl T) (hr.mono (by decide)) (by rfl) T.xaf T.q1Z.kp T.xae .nil xt (xa (cv 2) xc)) (xa (cv 3) xc)))) (xK (i:=4) nd rfl (aA rfl)) (xk (xM (xJ xnu (cv 4) (cv 0)) (xk xa4) xC)))))),?_⟩;walk_at"w";refine⟨pl,rfl,⟨_,SqL.of hpl⟩,?_⟩;refine yZ (xs:=ws.map V.ref) (fun i σ G=>xf H G∧∃(x2 x3 x4:Option V),σ=[some (.int size),some (.ref pl),x2,x3,x4])
   ⟨xf.refl _,_,_,_,rfl⟩ (fun i σ G hi hP=>SqL.of (hP.1.at hpl)) (fun i x σ G hx' hP=>?_) (fun σ G hP=>?_)
  ·obtain⟨sG,x2,x3,x4,rfl⟩:=hP;rw[aD]at hx';obtain⟨u,hu,rfl⟩:=aH.mp hx';obtain⟨⟨r,cs⟩,hr',t,c,nc,h1,h2,h3⟩:=Paired.nth hws hu;obtain⟨hk,hcl,hpp⟩:=hx _ (aY hr');walk_at"w";refine⟨u,_,rfl,SqT.of (sG.at h1),rfl,?_⟩;walk_at"w";refine⟨_,_,rfl,?_⟩;walk_at"w";refine⟨_,_,rfl,?_⟩;walk_at"w";refine a6 rfl ?_;walk_at"w";refine⟨t,r,rfl,h2.same sG,hk,fun o H1 s1 ho hob=>?_⟩;walk_at"w";refine⟨o,c,r,cs,rfl,hob,s1.at (sG.at h3),hcl,fun l H2 s2 hl el=>?_⟩;have sA:xf H H2:=sG.trans (s1.trans s2);walk_at"w";refine⟨l,rfl,⟨_,SqL.of el⟩,?_⟩;refine yZ (xs:=(yO r cs).map V.int) (fun i σ G=>H2=G∧∃(x4:Option V),σ=[some (.int size),some (.ref pl),some (.ref t),some (.ref c),x4])
    ⟨rfl,_,rfl⟩ (fun i σ G hi hP=>by rw[←hP.1];exact SqL.of el) (fun i x σ G hx' hP=>?_) (fun σ G hP=>?_)
   ·obtain⟨rfl,x4,rfl⟩:=hP;rw[aD]at hx';obtain⟨p,hp,rfl⟩:=aH.mp hx';have hlt:=hpp p (aY hp);walk_at"w";refine⟨fun e=>absurd (of_decide_eq_true e) (by show¬size≤p;lia),fun _=>?_⟩;exact⟨rfl,_,rfl⟩
   ·obtain⟨rfl,x4,rfl⟩:=hP;exact⟨sA,_,_,_,rfl⟩
  ·obtain⟨sG,x2,x3,x4,rfl⟩:=hP;exact q _ sG
def xlS:Sp:=fun vs H Q _=>∃(size o n:Int) (p:Addr) (x:V),vs=[.int size,.ref p]∧H p=some (.tup [.int o,.int n,x])∧max o n≤size∧Q .non H
theorem xeS(T:Txt K mg a):xy P w K mg base CX0 1 a.q1b a.vY ["size","paper"] xlS:=by
 refine T.q1d.ok xaP (fun vs H Q E h=>?_) (fun cdv A outer s H vs Q E hr h=>?_)
 ·obtain⟨size,o,n,p,x,rfl,_⟩:=h;rfl
 ·obtain⟨size,o,n,p,x,rfl,hp,hle,k1⟩:=h;have nd:=xaP.nd;refine⟨_,(xg (xE (i:=2) nd rfl (aA rfl) (xN (xiH rfl) (by rfl) T.q4E xfY (xa (xA xH (cv 1) xj (fun _ _=>rfl)) (xa (xA xH (cv 1) xj (fun _ _=>rfl)) xc))))
  (xk (xM (xJ xfi (cv 0) (cv 2)) (xk xa4) xC))),?_⟩
  walk_at"w";refine⟨p,_,_,.int o,rfl,rfl,SqT.of hp,rfl,?_⟩;walk_at"w";refine⟨p,_,_,.int n,rfl,rfl,SqT.of hp,rfl,?_⟩;walk_at"w";refine⟨fun e=>absurd (of_decide_eq_true e) (by show¬size<max o n;lia),fun e=>?_⟩;exact k1
end
section
variable {P:ak} {w:World} {K:ag} {mg:Str→Option Value} {base:Heap} {a:Adr}
theorem xdI(T:Txt K mg a):xy P w K mg base CX0 1 a.q06 a.xbu ["self"] (xmW K):=by
 refine T.q2E.ok xds (fun vs H Q E h=>?_) (fun cdv A outer s H vs Q E hr h=>?_)
 ·obtain⟨p,C,dx,fs,to,c,rfl,_⟩:=h;rfl
 ·obtain⟨p,C,dx,fs,to,c,rfl,hp,cl,n1,n2,l1,l2,k⟩:=h;have nd:=xds.nd;refine⟨_,(xk (xv (yX (xa (xw (cv 0) rfl) (xa (xu yl (xw (cv 0) rfl) (xw (cv 0) rfl)) xc))))),?_⟩;walk_at"w";refine⟨p,C,dx,fs,_,rfl,hp,cl,n1,l1,?_⟩;walk_at"w";refine⟨p,C,dx,fs,_,rfl,hp,cl,n1,l1,?_⟩;walk_at"w";refine⟨p,C,dx,fs,_,rfl,hp,cl,n2,l2,?_⟩;walk_at"w";exact⟨by walk_at"side",k⟩
def xjr(to st c:Int):List Int:=if st=to then[]else yr st c.toNat
def xhj(to st c:Int):List Int:=if st=to then[]else yr to c.toNat
def xhT(a:Adr):Sp:=fun vs H Q _=>∃(p dx:Addr) (to st c:Int),vs=[.ref p]∧H p=some (.ins a.q0c dx (xb4 to st c))∧c.toNat≤2^24∧xfw H Q (xjr to st c)
def xgy(a:Adr):Sp:=fun vs H Q _=>∃(p dx:Addr) (to st c:Int),vs=[.ref p]∧H p=some (.ins a.q0c dx (xb4 to st c))∧c.toNat≤2^24∧xfw H Q (xhj to st c)
def xhU(a:Adr):Sp:=fun vs H Q _=>∃(p dx t:Addr) (to n:Int),vs=[.ref p]∧H p=some (.ins a.q0f dx (xeJ to t n))∧xfw H Q []
def xgz(a:Adr):Sp:=fun vs H Q _=>∃(p dx t:Addr) (to n:Int),vs=[.ref p]∧H p=some (.ins a.q0f dx (xeJ to t n))∧n.toNat≤2^24∧xfw H Q (yr to n.toNat)
theorem xih(T:Txt K mg a):xy P w K mg base CX0 2 a.q1N a.xbw ["self"] (xhT a):=by
 refine T.q2G.ok xdu (fun vs H Q E h=>?_) (fun cdv A outer s H vs Q E hr h=>?_)
 ·obtain⟨p,dx,to,st,c,rfl,_⟩:=h;rfl
 ·obtain⟨p,dx,to,st,c,rfl,hp,hc,k⟩:=h;have nd:=xdu.nd;refine⟨_,(xg (xM (zQ (xQ (cv 0) T.q0g T.q24 (xaM T) (hr.mono (by decide)) T.xbF .nil xt)) (xk (xv (ye xc))) xC)
  (xk (xv (xZ (vO rfl) (by rfl) T.q25 uu (xa (xbW (by rfl) T.q2a (xa (xw (cv 0) rfl) (xa (xu yl (xw (cv 0) rfl) (xw (cv 0) rfl)) xc))) xc))))),?_⟩
  walk_at"w";refine⟨p,dx,_,rfl,hp,rfl,?_⟩;walk_at"w";refine⟨p,dx,to,st,c,rfl,hp,?_⟩;walk_at"w";refine⟨fun e=>?_,fun e=>?_⟩
  ·walk_at"w";refine⟨by decide,fun l hl=>?_⟩;have e':st=to:=of_decide_eq_true e;exact k l _ (xf.new hl) hl (by rw[xm,xjr,if_pos e'];rfl)
  ·have e':¬st=to:=of_decide_eq_false e;walk_at"w";refine⟨p,_,dx,_,.int st,rfl,hp,T.q0g,T.q0z,rfl,?_⟩;walk_at"w";refine⟨p,_,dx,_,.int st,rfl,hp,T.q0g,T.q0z,rfl,?_⟩;walk_at"w";refine⟨p,_,dx,_,.int c,rfl,hp,T.q0g,T.q0P,rfl,?_⟩;walk_at"w";intro r hr1;walk_at"w";have e2:yx st (st+c) 1=c.toNat:=by rw[ua];congr 1;lia
   refine⟨r,st,st+c,rfl,xm,by rw[e2];exact hc,fun l hl=>?_⟩;rw[e2,xeK];have hl0:H l=none:=xf.free (xf.new hr1) hl;exact k l _ ((xf.new hr1).put hl0) hl0 (by rw[xm,xjr,if_neg e'])
theorem xhk(T:Txt K mg a):xy P w K mg base CX0 2 a.q1B a.xaH ["self"] (xgy a):=by
 refine T.q2f.ok xcH (fun vs H Q E h=>?_) (fun cdv A outer s H vs Q E hr h=>?_)
 ·obtain⟨p,dx,to,st,c,rfl,_⟩:=h;rfl
 ·obtain⟨p,dx,to,st,c,rfl,hp,hc,k⟩:=h;have nd:=xcH.nd;refine⟨_,(xg (xM (zQ (xQ (cv 0) T.q0g T.q24 (xaM T) (hr.mono (by decide)) T.xbF .nil xt)) (xk (xv (ye xc))) xC)
  (xk (xv (xQ (cv 0) T.q0g T.q2q (yH T) (hr.mono (by decide)) T.yV .nil xt)))),?_⟩
  walk_at"w";refine⟨p,dx,_,rfl,hp,rfl,?_⟩;walk_at"w";refine⟨p,dx,to,st,c,rfl,hp,?_⟩;walk_at"w";refine⟨fun e=>?_,fun e=>?_⟩
  ·walk_at"w";refine⟨by decide,fun l hl=>?_⟩;have e':st=to:=of_decide_eq_true e;exact k l _ (xf.new hl) hl (by rw[xm,xhj,if_pos e'];rfl)
  ·have e':¬st=to:=of_decide_eq_false e;walk_at"w";refine⟨p,dx,_,rfl,hp,rfl,?_⟩;walk_at"w";refine⟨p,_,dx,_,to,c,rfl,hp,T.q0g,T.q0V,T.q0P,rfl,rfl,hc,fun l H' s1 hl hv=>?_⟩;exact k l H' s1 hl (by rw[hv,xhj,if_neg e'])
theorem xjs(T:Txt K mg a):xy P w K mg base CX0 1 a.q14 a.xcn ["self"] (xhU a):=by
 refine T.q27.ok xee (fun vs H Q E h=>?_) (fun cdv A outer s H vs Q E hr h=>?_)
 ·obtain⟨p,dx,t,to,n,rfl,_⟩:=h;rfl
 ·obtain⟨p,dx,t,to,n,rfl,hp,k⟩:=h;have nd:=xee.nd;refine⟨_,(xk (xv (ye xc))),?_⟩;walk_at"w";exact⟨by decide,fun l hl=>k l _ (xf.new hl) hl (by rw[xm];rfl)⟩
theorem xii(T:Txt K mg a):xy P w K mg base CX0 2 a.q1O a.xbx ["self"] (xgz a):=by
 refine T.q2H.ok xdv (fun vs H Q E h=>?_) (fun cdv A outer s H vs Q E hr h=>?_)
 ·obtain⟨p,dx,t,to,n,rfl,_⟩:=h;rfl
 ·obtain⟨p,dx,t,to,n,rfl,hp,hn,k⟩:=h;have nd:=xdv.nd;refine⟨_,(xk (xv (xQ (cv 0) T.q1F T.q19 (yH T) (hr.mono (by decide)) T.yV .nil xt))),?_⟩;walk_at"w";refine⟨p,dx,_,rfl,hp,rfl,?_⟩;walk_at"w";exact⟨p,_,dx,_,to,n,rfl,hp,T.q1F,T.q2X,T.q1V,rfl,rfl,hn,k⟩
def InD(kvs:List (Key×V))(seen:List Int):Prop:=∀c:Int,(zt kvs (.inl c)).isSome=decide (c∈seen)
theorem InD.nil:InD [] []:=fun c=>by simp[xnr]
theorem InD.put{kvs:List (Key×V)}{seen:List Int}(h:InD kvs seen)(c:Int)(v:V):InD (putK kvs (.inl c) v) (c::seen):=by
 intro x;rw[xns]
 by_cases e:x=c
 ·subst e;rw[if_pos rfl];simp
 ·rw[if_neg (fun z=>e (by cases z;rfl)),h x]
  congr 1
  exact propext ⟨fun z=>aS _ z,fun z=>(av.mp z).resolve_left e⟩
theorem xfA(kvs:List (Key×V))(k:Key)(v:V):(putK kvs k v).length≤kvs.length+1:=by
 unfold putK
 split
 ·rw[ao];lia
 ·rw[aW];simp
theorem xkI(T:Txt K mg a){H:Hp}{o:Addr}{r:xp}{Q:VK}{σ:L2.St}{i:Nat}(ho:za K a H o r)(hl:r.cv.length≤300)
  (k:∀l H',xf H H'→H l=none→H' l=some (.lst (r.cv.map V.int))→Q (.ref l) H') (hσ:σ[i]? =some (some (.ref o)):=by rfl):
  zr a.q0f "covered" (xde K) [] E0 (zZ i) vy σ H Q∨zr a.q0c "covered" (xde K) [] E0 (zZ i) vy σ H Q:=by
 cases r with
 |put to sg=>
  obtain⟨dx,u,h1,h2⟩:=ho
  left
  unfold zr zZ;rw[hσ];have e:(sg.length:Int).toNat=sg.length:=by simp
  have hl':sg.length≤300:=by rw[show xp.cv (.put to sg)=yr to sg.length from rfl,yi]at hl;exact hl
  refine⟨o,dx,_,rfl,h1,rfl,o,a.q0f,dx,_,to,sg.length,rfl,h1,T.q1F,T.q2X,T.q1V,rfl,rfl,by rw[e];exact bw hl' (by decide),fun l H' s n eL=>k l H' s n ?_⟩;rw[e]at eL;exact eL
 |take to st c=>
  obtain⟨dx,h1⟩:=ho
  right
  unfold zr zZ;rw[hσ];have hl':c.toNat≤300:=by rw[show xp.cv (.take to st c)=yr to c.toNat from rfl,yi]at hl;exact hl
  exact⟨o,dx,_,rfl,h1,rfl,o,a.q0c,dx,_,to,c,rfl,h1,T.q0g,T.q0V,T.q0P,rfl,rfl,bw hl' (by decide),fun l H' s n eL=>k l H' s n eL⟩
theorem xnS(k:Nat)(all:List (List Int))(cs:List Int)(h:all[0]? =some cs):num k all=cs.map (fun c=>(k,c))++num (k+1) (all.drop 1):=by
 cases all with
 |nil=>simp at h
 |cons x r=>simp at h;subst h;rfl
theorem xfB(T:Txt K mg a):xy P w K mg base CX0 2 a.q1o a.jz ["rows"] (xnP K a):=by
 refine T.q1v.ok xbL (fun vs H Q E h=>?_) (fun cdv A outer s H vs Q E hr h=>?_)
 ·obtain⟨l,rs,rfl,_⟩:=h;rfl
 ·obtain⟨l,rs,rfl,⟨ts,hl,hp⟩,⟨hr1,hr2⟩,hN,q⟩:=h;have nd:=xbL.nd;refine⟨_,(xg (xE (i:=1) nd rfl (aA rfl) xfh)
  (xg (yt PassesOwn.never rfl (xkv (by rfl) T.q28 (xa (cv 0) xc)) (jm rfl (xT (xK (i:=2) nd rfl (aA rfl)) (xT (xK (i:=3) nd rfl (aA rfl)) vf))) (xk (yt PassesOwn.never rfl (zx (xbb (xQ (cv 3) T.q1F T.q19 (yH T) (hr.mono (by decide)) T.yV .nil xt) (xQ (cv 3) T.q0g T.q2q (yH T) (hr.mono (by decide)) T.yV .nil xt))) (xK (i:=4) nd rfl (aA rfl)) (xg (xM (xln (xmk (vi hr) (cv 4) (cv 1)) (by rfl)) xfl xC)
  (xk (xgQ (vi hr) (cv 1) (cv 4) ve rfl))))))
  (xk (xv zg)))),?_⟩
  walk_at"w";intro d hd';generalize hU0:upd H d _=H1;have sH1:=xf.of_eq hd' hU0;have ed:=xq hU0;clear hU0;walk_at"w";have htl:ts.length=rs.length:=hp.length;refine⟨l,rfl,⟨_,sH1.seq hl⟩,?_⟩;walk_at"w";refine xeX (xs:=ts.map V.ref) (fun i σ G=>xf H G∧(∃kvs seen,G d=some (.dK kvs)∧InD kvs seen∧kvs.length≤i*300∧jL rs=tw (num i ((rs.map xp.cv).drop i)) seen)∧∃x2 x3 x4,σ=[some (.ref l),some (.ref d),x2,x3,x4]) ⟨sH1,⟨[],[],ed,InD.nil,by simp,rfl⟩,_,_,_,rfl⟩ (fun i σ G hi hP=>hP.1.seq hl) (fun i x σ G T0 hx hP hT0=>?_) (fun σ G hP=>?_)
  ·obtain⟨s1,⟨kvs,seen,hd,hin,hkl,htw⟩,x2,x3,x4,rfl⟩:=hP;rw[aD]at hx;obtain⟨o,ho,rfl⟩:=aH.mp hx;have hi:i<ts.length:=(az.mp ho).1;obtain⟨r,hr,hob⟩:=Paired.nth hp ho;generalize hU:upd G T0 _=G2;have s2:=xf.of_eq hT0 hU;have eT:=xq hU;clear hU;walk_at"w";refine⟨T0,_,rfl,SqT.of eT,rfl,?_⟩;walk_at"w";refine⟨_,_,rfl,?_⟩;walk_at"w";refine⟨_,_,rfl,?_⟩;walk_at"w";refine a6 rfl ?_;walk_at"w";have hrm:r∈rs:=aY hr;refine xkI (K:=K) T (r:=r) (hob.same (s1.trans s2)) (hr2 r hrm).1 fun L G3 s3 hL eL=>?_;walk_at"w";refine⟨L,rfl,⟨_,SqL.of eL⟩,?_⟩;walk_at"w";have hd3:G3 d=some (.dK kvs):=s3.at (s2.at hd)
   have nLd:L≠d:=xbR eL hd3 (fun z=>by cases z);have hdr:((rs.map xp.cv).drop i)[0]? =some r.cv:=by rw[fc,Nat.add_zero,aD,hr];rfl
   rw[xnS i _ _ hdr,List.drop_drop]at htw;refine yZ (xs:=r.cv.map V.int) (fun j σ G4=>xf H G4∧G4 L=some (.lst (r.cv.map V.int))∧(∃kvs seen,G4 d=some (.dK kvs)∧InD kvs seen∧kvs.length≤i*300+j∧jL rs=tw ((r.cv.drop j).map (fun c=>(i,c))++num (i+1) ((rs.map xp.cv).drop (i+1))) seen)∧∃x4,σ=[some (.ref l),some (.ref d),some (.int i),some (.ref o),x4])
    ⟨s1.trans (s2.trans s3),eL,⟨kvs,seen,hd3,hin,by lia,by rw[iI];exact htw⟩,_,rfl⟩ (fun j σ G4 hj hQ=>SqL.of hQ.2.1) (fun j x σ G4 hx hQ=>?_) (fun σ G4 hQ=>?_)
   ·obtain⟨s4,eL4,⟨kvs4,seen4,hd4,hin4,hk4,htw4⟩,x4,rfl⟩:=hQ;rw[aD]at hx;obtain⟨c,hc,rfl⟩:=aH.mp hx;have hj:j<r.cv.length:=(az.mp hc).1;have hb:=(hr2 r hrm).1;have ecut:r.cv.drop j=c::r.cv.drop (j+1):=by
     rw[bG hj,(az.mp hc).2]
    rw[ecut,bq,cR,tw]at htw4;walk_at"w";refine⟨d,_,rfl,uR.k (k:=cO c) hd4,?_⟩;walk_at"w";rw[hin4 c];refine⟨fun e=>?_,fun e=>?_⟩
    ·have e':=of_decide_eq_true e;rw[if_pos e']at htw4;rw[htw4]at hN;cases hN
    ·have e':=of_decide_eq_false e;rw[if_neg e']at htw4;walk_at"w";refine⟨d,_,rfl,xdO.k (k:=cO c) hd4 (by rw[aZ];lia),?_⟩;generalize hV:upd G4 d _=G5;have s5:xf H G5:=xf.wr s4 hd' hV;have eL5:G5 L=some (.lst (r.cv.map V.int)):=by rw[←hV,xl nLd];exact eL4
     have hd5:=xq hV;clear hV;have:=xfA kvs4 (cO c) (.bl true);exact⟨s5,eL5,⟨_,_,hd5,hin4.put c _,by lia,htw4⟩,_,rfl⟩
   ·obtain⟨s4,eL4,⟨kvs4,seen4,hd4,hin4,hk4,htw4⟩,x4,rfl⟩:=hQ;rw[ao]at hk4 htw4;rw[fB]at htw4;have hb:=(hr2 r hrm).1;exact⟨s4,⟨kvs4,seen4,hd4,hin4,by lia,htw4⟩,_,_,_,rfl⟩
  ·obtain⟨s1,⟨kvs,seen,hd,hin,hkl,htw⟩,x2,x3,x4,rfl⟩:=hP;have e0:(rs.map xp.cv).drop (ts.map V.ref).length=[]:=by
    rw[ao,htl];exact bR (by rw[ao];exact ax _)
   rw[e0]at htw;have e1:jL rs=none:=htw;rw[e1]at q;exact q G s1
theorem xpx(T:Txt K mg a){H:Hp}{o:Addr}{r:xp}{Q:VK}{σ:L2.St}{i:Nat}(ho:za K a H o r)(hc:r.cv.length≤300)
  (k:∀l H',xf H H'→H l=none→H' l=some (.lst (r.rds.map V.int))→Q (.ref l) H') (hσ:σ[i]? =some (some (.ref o)):=by rfl):
  zr a.q0f "reads" (xhU a) [] E0 (zZ i) vy σ H Q∨zr a.q0c "reads" (xhT a) [] E0 (zZ i) vy σ H Q:=by
 cases r with
 |put to sg=>
  obtain⟨dx,u,h1,h2⟩:=ho
  left
  unfold zr zZ;rw[hσ];exact⟨o,dx,_,rfl,h1,rfl,o,dx,u,to,sg.length,rfl,h1,fun l H' s n eL=>k l H' s n eL⟩
 |take to st c=>
  obtain⟨dx,h1⟩:=ho
  right
  unfold zr zZ;rw[hσ];have hl':c.toNat≤300:=by rw[show xp.cv (.take to st c)=yr to c.toNat from rfl,yi]at hc;exact hc
  exact⟨o,dx,_,rfl,h1,rfl,o,dx,to,st,c,rfl,h1,bw hl' (by decide),fun l H' s n eL=>k l H' s n eL⟩
theorem xpy(T:Txt K mg a){H:Hp}{o:Addr}{r:xp}{Q:VK}{σ:L2.St}{i:Nat}(ho:za K a H o r)(hc:r.cv.length≤300)
  (k:∀l H',xf H H'→H l=none→H' l=some (.lst (r.wrs.map V.int))→Q (.ref l) H') (hσ:σ[i]? =some (some (.ref o)):=by rfl):
  zr a.q0f "writes" (xgz a) [] E0 (zZ i) vy σ H Q∨zr a.q0c "writes" (xgy a) [] E0 (zZ i) vy σ H Q:=by
 cases r with
 |put to sg=>
  obtain⟨dx,u,h1,h2⟩:=ho
  left
  unfold zr zZ;rw[hσ];have e:(sg.length:Int).toNat=sg.length:=by simp
  have hl':sg.length≤300:=by rw[show xp.cv (.put to sg)=yr to sg.length from rfl,yi]at hc;exact hc
  refine⟨o,dx,_,rfl,h1,rfl,o,dx,u,to,sg.length,rfl,h1,by rw[e];exact bw hl' (by decide),fun l H' s n eL=>k l H' s n ?_⟩;rw[e]at eL;exact eL
 |take to st c=>
  obtain⟨dx,h1⟩:=ho
  right
  unfold zr zZ;rw[hσ];have hl':c.toNat≤300:=by rw[show xp.cv (.take to st c)=yr to c.toNat from rfl,yi]at hc;exact hc
  exact⟨o,dx,_,rfl,h1,rfl,o,dx,to,st,c,rfl,h1,bw hl' (by decide),fun l H' s n eL=>k l H' s n eL⟩
theorem xeo{ls:List Int}{p:Int→Bool}{j:Nat}(h:∀i,i<j→∀c,ls[i]? =some c→p c=false):ls.find? p=(ls.drop j).find? p:=by
 induction j with
 |zero=>rfl
 |succ j ih=>
  rw[ih fun i hi=>h i (by lia)]
  by_cases hj:j<ls.length
  ·have hc:ls[j]? =some ls[j]:=aK hj;rw[bG hj,cc,h j (by lia) _ hc]
  ·rw[bR (by lia),bR (by lia)]
theorem xlT(T:Txt K mg a):xy P w K mg base CX0 2 a.q3b a.xd5 ["rows","new"] (xlO K a):=by
 refine T.q3g.ok xgr (fun vs H Q E h=>?_) (fun cdv A outer s H vs Q E hr h=>?_)
 ·obtain⟨l,rs,new,rfl,_⟩:=h;rfl
 ·obtain⟨l,rs,new,rfl,⟨ts,hl,hp⟩,⟨hr1,hr2⟩,hnew,q⟩:=h;have nd:=xgr.nd;refine⟨_,(xg (xE (i:=2) nd rfl (aA rfl) xfh)
  (xg (yt PassesOwn.never rfl (zx (cv 0)) (xK (i:=3) nd rfl (aA rfl)) (xk (yt PassesOwn.never rfl (zx (xbb (xQ (cv 3) T.q1F T.q19 (yH T) (hr.mono (by decide)) T.yV .nil xt) (xQ (cv 3) T.q0g T.q2q (yH T) (hr.mono (by decide)) T.yV .nil xt))) (xK (i:=4) nd rfl (aA rfl)) (xk (xgQ (vi hr) (cv 2) (cv 4) ve rfl)))))
  (xg (yt PassesOwn.never rfl (xbV (by rfl) T.q2a (xa (cv 1) xc)) (xK (i:=4) nd rfl (aA rfl)) (xk (xM (xln (xml (vi hr) (cv 4) (cv 2)) (by rfl)) (xk (xv (yX (xa xP (xa (cv 4) xc))))) xC)))
  (xk (xv zg))))),?_⟩
  walk_at"w";intro d hd';generalize hU0:upd H d _=H1;have sH1:=xf.of_eq hd' hU0;have ed:=xq hU0;clear hU0;walk_at"w";have htl:ts.length=rs.length:=hp.length;refine⟨l,rfl,⟨_,sH1.seq hl⟩,?_⟩;walk_at"w";refine yZ (xs:=ts.map V.ref) (fun i σ G=>xf H G∧(∃kvs seen,G d=some (.dK kvs)∧InD kvs seen∧kvs.length≤i*300∧∀c,c∈seen↔c∈((rs.map xp.cv).take i).flatten)∧∃x3 x4,σ=[some (.ref l),some (.int new),some (.ref d),x3,x4]) ⟨sH1,⟨[],[],ed,InD.nil,by simp,fun c=>by simp⟩,_,_,rfl⟩ (fun i σ G hi hP=>hP.1.seq hl) (fun i x σ G hx hP=>?_) (fun σ G hP=>?_)
  ·obtain⟨s1,⟨kvs,seen,hd,hin,hkl,hse⟩,x3,x4,rfl⟩:=hP;rw[aD]at hx;obtain⟨o,ho,rfl⟩:=aH.mp hx;obtain⟨r,hr,hob⟩:=Paired.nth hp ho;have hrm:r∈rs:=aY hr;have hi:i<ts.length:=(az.mp ho).1;walk_at"w";refine xkI (K:=K) T (r:=r) (hob.same s1) (hr2 r hrm).1 fun L G3 s3 hL eL=>?_;walk_at"w";refine⟨L,rfl,⟨_,SqL.of eL⟩,?_⟩;walk_at"w";have hd3:G3 d=some (.dK kvs):=s3.at hd;have nLd:L≠d:=xbR eL hd3 (fun z=>by cases z);refine yZ (xs:=r.cv.map V.int) (fun j σ G4=>xf H G4∧G4 L=some (.lst (r.cv.map V.int))∧(∃kvs seen,G4 d=some (.dK kvs)∧InD kvs seen∧kvs.length≤i*300+j∧∀c,c∈seen↔c∈((rs.map xp.cv).take i).flatten++r.cv.take j)∧∃x4,σ=[some (.ref l),some (.int new),some (.ref d),some (.ref o),x4])
    ⟨s1.trans s3,eL,⟨kvs,seen,hd3,hin,by lia,fun c=>by rw[iH,cE];exact hse c⟩,_,rfl⟩ (fun j σ G4 hj hQ=>SqL.of hQ.2.1) (fun j x σ G4 hx hQ=>?_) (fun σ G4 hQ=>?_)
   ·obtain⟨s4,eL4,⟨kvs4,seen4,hd4,hin4,hk4,hse4⟩,x4,rfl⟩:=hQ;rw[aD]at hx;obtain⟨c,hc,rfl⟩:=aH.mp hx;have hj:j<r.cv.length:=(az.mp hc).1;have hb:=(hr2 r hrm).1;walk_at"w";refine⟨d,_,rfl,xdO.k (k:=cO c) hd4 (by rw[aZ];lia),?_⟩;generalize hV:upd G4 d _=G5;have s5:xf H G5:=xf.wr s4 hd' hV;have eL5:G5 L=some (.lst (r.cv.map V.int)):=by rw[←hV,xl nLd];exact eL4
    have hd5:=xq hV;clear hV;have:=xfA kvs4 (cO c) (.bl true);refine⟨s5,eL5,⟨_,_,hd5,hin4.put c _,by lia,fun y=>?_⟩,_,rfl⟩;rw[b8,hc,←d8,a7,av,hse4 y];simp[or_comm]
   ·obtain⟨s4,eL4,⟨kvs4,seen4,hd4,hin4,hk4,hse4⟩,x4,rfl⟩:=hQ;rw[ao]at hk4 hse4;rw[cw]at hse4;have hb:=(hr2 r hrm).1;refine⟨s4,⟨kvs4,seen4,hd4,hin4,by lia,fun c=>?_⟩,_,_,rfl⟩;rw[hse4 c,b8,aD,hr,List.flatten_append];simp
  ·obtain⟨s1,⟨kvs,seen,hd,hin,hkl,hse⟩,x3,x4,rfl⟩:=hP;rw[ao]at hse;have hse':∀c,c∈seen↔c∈(rs.map xp.cv).flatten:=fun c=>by
    rw[hse c,htl];rw[d5 (by rw[ao];exact ax _)]
   walk_at"w";have en:yx 0 ((new:Nat):Int) 1=new:=by rw[ua];lia
   rw[en];refine xbX (fun i σ G2=>G2=G∧(∀j,j<i→((j:Nat):Int)∈(rs.map xp.cv).flatten)∧∃x4,σ=[some (.ref l),some (.int new),some (.ref d),x3,x4]) ⟨rfl,fun j hj=>absurd hj (ik _),_,rfl⟩ (fun i σ G2 hi hQ=>?_) (fun σ G2 hQ=>?_)
   ·obtain⟨rfl,hall,x4,rfl⟩:=hQ;have ei:(0+(i:Int)*1)=(i:Int):=by lia
    rw[ei];walk_at"w";refine⟨d,_,rfl,uR.k (k:=cO (i:Int)) hd,?_⟩;walk_at"w";rw[hin];refine⟨fun e=>?_,fun e=>?_⟩
    ·have e':¬(i:Int)∈seen:=by simpa using e
     have ef:ur rs new=some (i:Int):=by
      unfold ur;rw[xeo (j:=i) (fun j hj c hc=>?_),bG (by simp;exact hi),cc]
      ·simp only[List.getElem_map,j8];have:¬(i:Int)∈(rs.map xp.cv).flatten:=fun z=>e' ((hse' _).mpr z);simp only[decide_eq_false this];rfl
      ·rw[aD,fW (by lia)]at hc;cases hc;simp only[decide_eq_true (hall j hj)];rfl
     rw[ef]at q;walk_at"w";walk_at"ss";intro t ht;exact q t _ (s1.trans (xf.new ht)) xm
    ·have e':(i:Int)∈seen:=by simpa using e
     refine⟨rfl,fun j hj=>?_,_,rfl⟩
     by_cases hji:j=i
     ·rw[hji];exact(hse' _).mp e'
     ·exact hall j (by lia)
   ·obtain⟨rfl,hall,x4,rfl⟩:=hQ;have ef:ur rs new=none:=by
     unfold ur;rw[eZ];intro c hc;obtain⟨j,hj,rfl⟩:=cY.mp hc;simp[hall j (d9.mp hj)]
    rw[ef]at q;exact q G2 s1
theorem xlU(k:Nat)(rs:List xp)(r:xp)(wr:List Int)(h:rs[0]? =some r):jM k rs wr=match r.rds.find? fun c=>decide (c∈wr)with
  |some c=>some (k,c)
  |none=>jM (k+1) (rs.drop 1) (wr++r.wrs):=by
 cases rs with
 |nil=>simp at h
 |cons x t=>simp at h;subst h;rfl
theorem xhV:∀(k:Nat) (rs:List xp) (w1 w2:List Int),(∀c,c∈w1↔c∈w2)→jM k rs w1=jM k rs w2
 |_,[],_,_,_=>rfl
 |k,r::t,w1,w2,h=>by
  unfold jM;have e:(fun c=>decide (c∈w1))=fun c=>decide (c∈w2):=funext fun c=>by congr 1;exact propext (h c)
  rw[e];cases r.rds.find? fun c=>decide (c∈w2)with
  |some c=>rfl
  |none=>exact xhV (k+1) t _ _ fun c=>by rw[a7,a7,h c]
theorem xjt(T:Txt K mg a):xy P w K mg base CX0 3 a.q2w a.xcs ["rows"] (xpv K a):=by
 refine T.q2B.ok xej (fun vs H Q E h=>?_) (fun cdv A outer s H vs Q E hr h=>?_)
 ·obtain⟨l,rs,rfl,_⟩:=h;rfl
 ·obtain⟨l,rs,rfl,⟨ts,hl,hp⟩,⟨hr1,hr2⟩,q⟩:=h;have nd:=xej.nd;refine⟨_,(xg (xE (i:=1) nd rfl (aA rfl) xfh)
  (xg (yt PassesOwn.never rfl (xkv (by rfl) T.q28 (xa (cv 0) xc)) (jm rfl (xT (xK (i:=2) nd rfl (aA rfl)) (xT (xK (i:=3) nd rfl (aA rfl)) vf))) (xg (yt PassesOwn.never rfl (zx (xbb (xQ (cv 3) T.q1F T.q4r (xjs T) (hr.mono (by decide)) T.xjX .nil xt) (xQ (cv 3) T.q0g T.q4k (xih T) (hr.mono (by decide)) T.xiV .nil xt))) (xK (i:=4) nd rfl (aA rfl)) (xk (xM (xln (xmk (vi hr) (cv 4) (cv 1)) (by rfl)) (xk (xv (yX (xa xP (xa (cv 2) (xa (cv 4) xc)))))) xC)))
  (xk (yt PassesOwn.never rfl (zx (xbb (xQ (cv 3) T.q1F T.q4h (xii T) (hr.mono (by decide)) T.xiW .nil xt) (xQ (cv 3) T.q0g T.q35 (xhk T) (hr.mono (by decide)) T.xh4 .nil xt))) (xK (i:=4) nd rfl (aA rfl)) (xk (xgQ (vi hr) (cv 1) (cv 4) ve rfl))))))
  (xk (xv zg)))),?_⟩
  walk_at"w";intro d hd';generalize hU0:upd H d _=H1;have sH1:=xf.of_eq hd' hU0;have ed:=xq hU0;clear hU0;walk_at"w";have htl:ts.length=rs.length:=hp.length;refine⟨l,rfl,⟨_,sH1.seq hl⟩,?_⟩;walk_at"w";refine xeX (xs:=ts.map V.ref) (fun i σ G=>xf H G∧(∃kvs seen,G d=some (.dK kvs)∧InD kvs seen∧kvs.length≤i*300∧xaZ rs=jM i (rs.drop i) seen)∧∃x2 x3 x4,σ=[some (.ref l),some (.ref d),x2,x3,x4]) ⟨sH1,⟨[],[],ed,InD.nil,by simp,rfl⟩,_,_,_,rfl⟩ (fun i σ G hi hP=>hP.1.seq hl) (fun i x σ G T0 hx hP hT0=>?_) (fun σ G hP=>?_)
  ·obtain⟨s1,⟨kvs,seen,hd,hin,hkl,hla⟩,x2,x3,x4,rfl⟩:=hP;rw[aD]at hx;obtain⟨o,ho,rfl⟩:=aH.mp hx;obtain⟨r,hr,hob⟩:=Paired.nth hp ho;have hrm:r∈rs:=aY hr;generalize hU:upd G T0 _=G2;have s2:=xf.of_eq hT0 hU;have eT:=xq hU;clear hU;have hdr:(rs.drop i)[0]? =some r:=by rw[fc,Nat.add_zero];exact hr
   rw[xlU i _ r seen hdr,List.drop_drop]at hla;walk_at"w";refine⟨T0,_,rfl,SqT.of eT,rfl,?_⟩;walk_at"w";refine⟨_,_,rfl,?_⟩;walk_at"w";refine⟨_,_,rfl,?_⟩;walk_at"w";refine a6 rfl ?_;walk_at"w";refine xpx (K:=K) T (r:=r) (hob.same (s1.trans s2)) (hr2 r hrm).1 fun L G3 s3 hL eL=>?_;walk_at"w";refine⟨L,rfl,⟨_,SqL.of eL⟩,?_⟩;walk_at"w";have hd3:G3 d=some (.dK kvs):=s3.at (s2.at hd)
   have s13:xf H G3:=s1.trans (s2.trans s3);refine yZ (xs:=r.rds.map V.int) (fun j σ G4=>G4=G3∧(∀i',i'<j→∀c,r.rds[i']? =some c→decide (c∈seen)=false)∧∃x4,σ=[some (.ref l),some (.ref d),some (.int i),some (.ref o),x4])
    ⟨rfl,fun j hj=>absurd hj (ik _),_,rfl⟩ (fun j σ G4 hj hQ=>by rw[hQ.1];exact SqL.of eL) (fun j x σ G4 hx hQ=>?_) (fun σ G4 hQ=>?_)
   ·obtain⟨rfl,hno,x4,rfl⟩:=hQ;rw[aD]at hx;obtain⟨c,hc,rfl⟩:=aH.mp hx;have hj:j<r.rds.length:=(az.mp hc).1;walk_at"w";refine⟨d,_,rfl,uR.k (k:=cO c) hd3,?_⟩;walk_at"w";rw[hin c];refine⟨fun e=>?_,fun e=>?_⟩
    ·have ef:r.rds.find? (fun c=>decide (c∈seen))=some c:=by
      rw[xeo (j:=j) hno,bG hj,cc,(az.mp hc).2,e]
     rw[ef]at hla;rw[hla]at q;walk_at"w";walk_at"ss";intro t ht;exact q t _ (s13.trans (xf.new ht)) xm
    ·refine⟨rfl,fun i' hi' c' hc'=>?_,_,rfl⟩
     by_cases hji:i'=j
     ·rw[hji,hc]at hc';cases hc';exact e
     ·exact hno i' (by lia) c' hc'
   ·obtain⟨rfl,hno,x4,rfl⟩:=hQ;rw[ao]at hno;have ef:r.rds.find? (fun c=>decide (c∈seen))=none:=by
     rw[xeo (j:=r.rds.length) hno,fB];rfl
    rw[ef]at hla;walk_at"w";refine xpy (K:=K) T (r:=r) (hob.same s13) (hr2 r hrm).1 fun L2 G5 s5 hL2 eL2=>?_;walk_at"w";refine⟨L2,rfl,⟨_,SqL.of eL2⟩,?_⟩;walk_at"w";have hd5:G5 d=some (.dK kvs):=s5.at hd3;have nLd:L2≠d:=xbR eL2 hd5 (fun z=>by cases z);have hwl:=(hr2 r hrm).2.2;refine yZ (xs:=r.wrs.map V.int) (fun j σ G6=>xf H G6∧G6 L2=some (.lst (r.wrs.map V.int))∧(∃kvs' seen',G6 d=some (.dK kvs')∧InD kvs' seen'∧kvs'.length≤i*300+j∧∀c,c∈seen'↔c∈seen++r.wrs.take j)∧∃x4,σ=[some (.ref l),some (.ref d),some (.int i),some (.ref o),x4])
     ⟨s13.trans s5,eL2,⟨kvs,seen,hd5,hin,by lia,fun c=>by rw[iH,cE]⟩,_,rfl⟩ (fun j σ G6 hj hQ=>SqL.of hQ.2.1) (fun j x σ G6 hx hQ=>?_) (fun σ G6 hQ=>?_)
    ·obtain⟨s6,eL6,⟨kvs6,seen6,hd6,hin6,hk6,hse6⟩,x4,rfl⟩:=hQ;rw[aD]at hx;obtain⟨c,hc,rfl⟩:=aH.mp hx;have hj:j<r.wrs.length:=(az.mp hc).1;have hi:i<ts.length:=(az.mp ho).1;walk_at"w";refine⟨d,_,rfl,xdO.k (k:=cO c) hd6 (by rw[aZ];lia),?_⟩;generalize hV:upd G6 d _=G7;have s7:xf H G7:=xf.wr s6 hd' hV;have eL7:G7 L2=some (.lst (r.wrs.map V.int)):=by rw[←hV,xl nLd];exact eL6
     have hd7:=xq hV;clear hV;have:=xfA kvs6 (cO c) (.bl true);refine⟨s7,eL7,⟨_,_,hd7,hin6.put c _,by lia,fun y=>?_⟩,_,rfl⟩;rw[b8,hc,←d8,a7,av,hse6 y];simp[or_comm]
    ·obtain⟨s6,eL6,⟨kvs6,seen6,hd6,hin6,hk6,hse6⟩,x4,rfl⟩:=hQ;rw[ao]at hk6 hse6;rw[cw]at hse6;refine⟨s6,⟨kvs6,seen6,hd6,hin6,by lia,?_⟩,_,_,_,rfl⟩;rw[hla];exact xhV _ _ _ _ fun c=>(hse6 c).symm
  ·obtain⟨s1,⟨kvs,seen,hd,hin,hkl,hla⟩,x2,x3,x4,rfl⟩:=hP;have e0:rs.drop (ts.map V.ref).length=[]:=by
    rw[ao,htl];exact fB
   rw[e0]at hla;have e1:xaZ rs=none:=hla;rw[e1]at q;exact q G s1
end
section
variable {P:ak} {w:World} {K:ag} {mg:Str→Option Value} {base:Heap} {a:Adr}
theorem xep(T:Txt K mg a):xy P w K mg base CX0 3 a.q2v a.xcr ["value"] xjl:=by
 refine T.q15.ok xei (fun vs H Q E h=>?_) (fun cdv A outer s H vs Q E hr h=>?_)
 ·obtain⟨i,rfl,_⟩:=h;rfl
 ·obtain⟨i,rfl,h0,h3,q⟩:=h;have nd:=xei.nd;refine⟨_,(xk (xv (zR (xD (zq T) (hr.mono (by decide)) (by rfl) T.zF T.q0t.kp T.zE .nil xt (xa xj (xa (cv 0) xc))) (vI (zP xlc (cv 0) (xey (v:=.int 300) (by rfl) T.xmP ⟨_,rfl⟩)))))),?_⟩;walk_at"w";refine⟨_,i,rfl,?_⟩;rw[decide_eq_true h0];walk_at"w";refine⟨fun _=>?_,by walk_at"no"⟩;show Q (.bl (decide (i≤300))) H;rw[decide_eq_true h3];exact q
theorem xgA(T:Txt K mg a):xy P w K mg base CX0 4 a.q1H a.xad ["paper"] (xpw K):=by
 refine T.q1J.ok xb1 (fun vs H Q E h=>?_) (fun cdv A outer s H vs Q E hr h=>?_)
 ·obtain⟨p,o,n,rs,rfl,_⟩:=h;rfl
 ·obtain⟨p,o,n,rs,rfl,⟨tt,ts,hp,ht,hts⟩,ho0,ho3,hn0,hn3,hl,q⟩:=h;have nd:=xb1.nd;refine⟨_,(xk (xv (zR (xD (xep T) (hr.mono (by decide)) (by rfl) T.xe3 T.q15.kp T.xe2 .nil xt (xa (xA xH (cv 0) xj (fun _ _=>rfl)) xc)) (zR (xD (xep T) (hr.mono (by decide)) (by rfl) T.xe3 T.q15.kp T.xe2 .nil xt (xa (xA xH (cv 0) xj (fun _ _=>rfl)) xc)) (vI (zP xlc (xN xU (by rfl) T.q12 yK (xa (xA xH (cv 0) xj (fun _ _=>rfl)) xc)) (xey (v:=.int 300) (by rfl) T.xmP ⟨_,rfl⟩))))))),?_⟩;walk_at"w";refine⟨p,_,_,.int o,rfl,rfl,SqT.of hp,rfl,?_⟩;walk_at"w";refine⟨o,rfl,ho0,ho3,?_⟩;walk_at"w";refine⟨fun _=>?_,by walk_at"no"⟩;walk_at"w";refine⟨p,_,_,.int n,rfl,rfl,SqT.of hp,rfl,?_⟩;walk_at"w";refine⟨n,rfl,hn0,hn3,?_⟩;walk_at"w";refine⟨fun _=>?_,by walk_at"no"⟩;walk_at"w";refine⟨p,_,_,.ref tt,rfl,rfl,SqT.of hp,rfl,?_⟩;walk_at"w";refine⟨tt,_,rfl,.inr (SqT.of ht),?_⟩;rw[ao,hts.length];show Q (.bl (decide ((rs.length:Int)≤300))) H;rw[decide_eq_true (by lia)];exact q
theorem xeT(T:Txt K mg a):xy P w K mg base CX0 6 a.q1c a.vZ ["told","old","new"] (xlP K):=by
 refine T.q1e.ok xaQ (fun vs H Q E h=>?_) (fun cdv A outer s H vs Q E hr h=>?_)
 ·obtain⟨t,r,old,new,rfl,_⟩:=h;rfl
 ·obtain⟨t,r,old,new,rfl,ht,hk,hf,q⟩:=h;have nd:=xaQ.nd;refine⟨_,(xg (xo4 rfl (xk (xE (i:=3) nd rfl (aA rfl) (xD (jl (P:=P) (w:=w) (base:=base) T) (hr.mono (by decide)) (by rfl) T.xaf T.q1Z.kp T.xae .nil xt (xa (cv 0) xc)))))
  (xg (xM (PW.pt (vJ (zQ (xN uS (by rfl) T.q1y yR (xa (cv 3) (xa (xey (v:=.ref a.q0c) (by rfl) T.xi3 rfl) xc)))) (jQ (xJ xdQ (xu yl (xw (cv 3) rfl) (xw (cv 3) rfl)) (cv 1))))) (xk (xv ve)) xC)
  (xk (xv (zP xlc (xA xH (xbb (xQ (cv 3) T.q1F T.q4f (xdI (P:=P) (w:=w) (base:=base) T) (hr.mono (by decide)) T.xd9 .nil xt) (xQ (cv 3) T.q0g T.q33 (xdI (P:=P) (w:=w) (base:=base) T) (hr.mono (by decide)) T.xd9 .nil xt)) xj (fun _ _=>rfl)) (cv 2)))))),?_⟩
  walk_at"w";refine⟨t,r,rfl,ht,hk,fun o H1 s1 _ ho=>?_⟩;cases r with
  |take to st c=>
   obtain⟨dx,ho⟩:=ho;walk_at"w";refine⟨_,_,_,_,true,rfl,rfl,T.xkC ho,T.q3H,?_⟩;walk_at"w";refine⟨fun _=>?_,by walk_at"no"⟩;walk_at"w";refine⟨o,_,dx,_,.int st,rfl,ho,T.q0g,T.q0z,rfl,?_⟩;walk_at"w";refine⟨o,_,dx,_,.int c,rfl,ho,T.q0g,T.q0P,rfl,?_⟩;walk_at"w";rw[decide_eq_false (show¬old<st+c from by have:=hf.1;lia)];refine⟨by walk_at"no",fun _=>?_⟩;walk_at"w";refine cI ?_;walk_at"w";refine⟨o,dx,_,rfl,ho,rfl,?_⟩;walk_at"w";refine⟨o,a.q0c,dx,_,to,c,rfl,ho,T.q0g,T.q0V,T.q0P,rfl,rfl,?_⟩;intro t3 ht3;generalize hUt3:upd H1 t3 _=H3;have sH3:=xf.of_eq ht3 hUt3;have et3:=xq hUt3;clear hUt3;walk_at"w";refine⟨t3,_,_,.int (to+c),rfl,rfl,SqT.of et3,rfl,?_⟩;show Q (.bl (decide (to+c≤new))) H3;rw[decide_eq_true hf.2];exact q H3 (s1.trans sH3)
  |put to sg=>
   obtain⟨dx,u,ho,hu⟩:=ho;walk_at"w";refine⟨_,_,_,_,false,rfl,rfl,T.xmO ho,T.q39,?_⟩;walk_at"w";refine⟨by walk_at"no",fun _=>?_⟩;walk_at"w";refine⟨by walk_at"no",fun _=>?_⟩;walk_at"w";refine aA ?_;walk_at"w";refine⟨o,dx,_,rfl,ho,rfl,?_⟩;walk_at"w";refine⟨o,a.q0f,dx,_,to,sg.length,rfl,ho,T.q1F,T.q2X,T.q1V,rfl,rfl,?_⟩;intro t3 ht3;generalize hUt3:upd H1 t3 _=H3;have sH3:=xf.of_eq ht3 hUt3;have et3:=xq hUt3;clear hUt3;walk_at"w";refine⟨t3,_,_,.int (to+sg.length),rfl,rfl,SqT.of et3,rfl,?_⟩;show Q (.bl (decide (to+(sg.length:Int)≤new))) H3;rw[decide_eq_true (show to+(sg.length:Int)≤new from hf)];exact q H3 (s1.trans sH3)
theorem xeq(T:Txt K mg a):xy P w K mg base CX0 7 a.q0W a.vD ["paper"] (xnQ K):=by
 refine T.q0X.ok xau (fun vs H Q E h=>?_) (fun cdv A outer s H vs Q E hr h=>?_)
 ·obtain⟨p,o,n,rs,rfl,_⟩:=h;rfl
 ·obtain⟨p,o,n,rs,rfl,⟨tt,ts,hp,ht,hts⟩,hk,hl,q⟩:=h;have nd:=xau.nd;refine⟨_,(xg (yt PassesOwn.never rfl (xnF (by rfl) T.q28 (xa (xA xH (cv 0) xj (fun _ _=>rfl)) xc)) (jm rfl (xT (xK (i:=1) nd rfl (aA rfl)) (xT (xK (i:=2) nd rfl (aA rfl)) vf))) (xk (xM (xcz (zQ (xD (xeT T) (hr.mono (by decide)) (by rfl) T.xfu T.q1e.kp T.xft .nil xt (xa (cv 2) (xa (xA xH (cv 0) xj (fun _ _=>rfl)) (xa (xA xH (cv 0) xj (fun _ _=>rfl)) xc)))))) (xk (xv (cv 1))) xC)))
  (xk (xv zg))),?_⟩
  walk_at"w";refine⟨p,_,_,.ref tt,rfl,rfl,SqT.of hp,rfl,?_⟩;walk_at"w";refine⟨tt,rfl,⟨_,SqT.of ht⟩,?_⟩;walk_at"w";refine xjP (xs:=ts.map V.ref) (fun i σ H1=>xf H H1∧∃x1 x2,σ=[some (.ref p),x1,x2]) ⟨xf.refl _,_,_,rfl⟩ (fun i σ H1 hi hP=>hP.1.seqT (SqT.of ht)) (fun i x σ H1 T0 hx hP hT0=>?_) (fun σ H1 hP=>?_)
  ·obtain⟨s1,x1,x2,rfl⟩:=hP;rw[aD]at hx;obtain⟨t0,ht0,rfl⟩:=aH.mp hx;obtain⟨r,hr0,pr⟩:=xcb hts ht0;obtain⟨k1,k2⟩:=hk r (aY hr0);generalize hU:upd H1 T0 _=H2;have s2:=xf.of_eq hT0 hU;have eT:=xq hU;clear hU;have s02:=s1.trans s2;walk_at"w";refine⟨T0,_,rfl,SqT.of eT,rfl,?_⟩;walk_at"w";refine⟨_,_,rfl,?_⟩;walk_at"w";refine⟨_,_,rfl,?_⟩;walk_at"w";refine a6 rfl ?_;walk_at"w";refine⟨p,_,_,.int o,rfl,rfl,SqT.of (s02.at hp),rfl,?_⟩;walk_at"w";refine⟨p,_,_,.int n,rfl,rfl,SqT.of (s02.at hp),rfl,?_⟩;walk_at"w";refine⟨t0,r,o,n,rfl,pr.same s02,k1,k2,fun H3 s3=>?_⟩;walk_at"w";refine⟨by walk_at"no",fun _=>?_⟩;exact⟨s02.trans s3,_,_,rfl⟩
  ·obtain⟨s1,x1,x2,rfl⟩:=hP;exact q H1 s1
theorem xnT{old new:Int}{r:xp}(hk:r.ok)(hn:new≤300)(h:Fit old new r):r.cv.length≤300∧r.rds.length≤300∧r.wrs.length≤300:=by
 cases r with
 |take to st c=>
  obtain⟨k1,k2,k3⟩:=hk;have h2:=h.2;refine⟨by simp only[xp.cv,yi];lia,?_,?_⟩
  ·simp only[xp.rds];split
   ·simp
   ·rw[yi];lia
  ·simp only[xp.wrs];split
   ·simp
   ·rw[yi];lia
 |put to sg=>
  have h2:to+(sg.length:Int)≤new:=h;have k1:=hk.1;refine⟨by simp only[xp.cv,yi];lia,by simp[xp.rds],by simp only[xp.wrs,yi];lia⟩
theorem xnU(T:Txt K mg a):xy P w K mg base CX0 8 a.q3M a.xg5 ["paper"] (xnR K):=by
 refine T.q3T.ok xi5 (fun vs H Q E h=>?_) (fun cdv A outer s H vs Q E hr h=>?_)
 ·obtain⟨p,o,n,rs,rfl,_⟩:=h;rfl
 ·obtain⟨p,o,n,rs,rfl,hP,ho,hn,hl,hk,h1,q⟩:=h;have nd:=xi5.nd;refine⟨_,(xg (xM (xcz (zQ (xD (xgA T) (hr.mono (by decide)) (by rfl) T.xhd T.q1J.kp T.xhc .nil xt (xa (cv 0) xc)))) xfl xC)
  (xg (xE (i:=1) nd rfl (aA rfl) (xD (xeq T) (hr.mono (by decide)) (by rfl) T.xeQ T.q0X.kp T.xeP .nil xt (xa (cv 0) xc)))
  (xg (xM (jW (cv 1)) xfl xC)
  (xg (xle (i:=2) (xaq (cap:=[]) (ys:=[]) rfl rfl rfl rfl rfl trivial (by decide+kernel)) rfl nd rfl rfl (xfL (xA xH (cv 0) xj (fun _ _=>rfl))) (fun _ _ _ _=>(xD (jl T) (hr.mono (by decide)) (by rfl) T.xaf T.q1Z.kp T.xae .nil xt (xa (cv 0) xc))) (fun _ _ _ _=>jU))
  (xg (xE (i:=3) nd rfl (aA rfl) (xD (xfB T) (hr.mono (by decide)) (by rfl) T.xgl T.q1v.kp T.xgk .nil xt (xa (cv 2) xc)))
  (xg (yY (xM (xdU (cv 3)) (xk (xE (i:=3) nd rfl (aA rfl) (xD (xlT T) (hr.mono (by decide)) (by rfl) T.xmH T.q3g.kp T.xmG .nil xt (xa (cv 2) (xa (xA xH (cv 0) xj (fun _ _=>rfl)) xc))))) xC))
  (xg (yY (xM (xdU (cv 3)) (xk (xE (i:=3) nd rfl (aA rfl) (xD (xjt T) (hr.mono (by decide)) (by rfl) T.xj6 T.q2B.kp T.xj5 .nil xt (xa (cv 2) xc)))) xC))
  (xk (xv (cv 3)))))))))),?_⟩
  walk_at"w";refine⟨p,o,n,rs,rfl,hP,ho.1,ho.2,hn.1,hn.2,hl,?_⟩;walk_at"w";refine⟨by walk_at"no",fun _=>?_⟩;walk_at"w";refine⟨p,o,n,rs,rfl,hP,hk,hl,fun H1 s1=>?_⟩;walk_at"w";refine⟨by walk_at"no",fun _=>?_⟩;obtain⟨tt,ts,hp,ht,hts⟩:=hP.same s1;walk_at"w";refine⟨p,_,_,.ref tt,rfl,rfl,SqT.of hp,rfl,?_⟩;walk_at"w";refine⟨tt,rfl,⟨_,SqT.of ht⟩,?_⟩;refine xhM (fun i acc G=>∃(os:List Addr),acc=os.map V.ref∧Paired (za K a G) os (rs.take i)) (SqT.of ht) (by rw[ao,hts.length,aZ];lia) ⟨[],rfl,.nil⟩ (fun i x acc H3 H3' hx s3 s3' hP R hR=>?_) (fun D acc H3 H3' hD hD3 s3 s3' hP hel he=>?_)
  ·obtain⟨os,rfl,hpr⟩:=hP;rw[aD]at hx;obtain⟨t0,ht0,rfl⟩:=aH.mp hx;obtain⟨r,hr0,pr⟩:=xcb hts ht0;walk_at"w";refine⟨t0,r,rfl,pr.same (s3.trans s3'),(hk r (aY hr0)).1,fun o H6' s6 hno hob=>hR _ _ s6 fun H6 sx kx=>⟨os++[o],by simp,?_⟩⟩;rw[b8,hr0];exact vM (L2.Paired.imp' (fun _ _ z=>z.same sx) hpr) (hob.mv kx)
  obtain⟨os,rfl,hpr⟩:=hP;rw[ao,hts.length,cw]at hpr;have hpr':=L2.Paired.imp' (fun _ _ (z:za K a H3 _ _)=>z.same s3') hpr;have sA:xf H H3':=s1.trans (s3.trans s3');have hrok:xgx rs:=⟨hl,fun r hrm=>xnT (hk r hrm).1 hn.2 (hk r hrm).2⟩;have hp3:=(s3.trans s3').at hp;clear hel hD3 s3 s3' hpr hts ht hp;walk_at"w";refine⟨D,rs,rfl,⟨os,SqL.of he,hpr'⟩,hrok,h1,?_⟩;rw[h1];intro H4 s4;walk_at"w";refine⟨fun σ' G=>(ur rs n.toNat=none∧σ'=[some (.ref p),some .non,some (.ref D),some .non]∧xf H3' G)∨∃t,σ'=[some (.ref p),some .non,some (.ref D),some (.ref t)]∧Q (.ref t) G,?_,?_⟩
  ·walk_at"w";refine⟨fun _=>?_,by walk_at"no"⟩;walk_at"w";refine⟨p,_,_,.int n,rfl,rfl,SqT.of (s4.at hp3),rfl,?_⟩;walk_at"w";refine⟨D,rs,n.toNat,by rw[cM hn.1];rfl,⟨os,SqL.of (s4.at he),L2.Paired.imp' (fun _ _ z=>z.same s4) hpr'⟩,hrok,by lia,?_⟩;unfold xjm at q;cases hlk:ur rs n.toNat with
   |none=>intro H5 s5;exact .inl ⟨rfl,rfl,s4.trans s5⟩
   |some c=>rw[hlk]at q;intro t H5 s5 et;exact .inr ⟨t,rfl,q t H5 (sA.trans (s4.trans s5)) et⟩
  rintro σ' G (⟨hlk,rfl,sG⟩|⟨t,rfl,qt⟩)
  ·unfold xjm at q;rw[hlk]at q;walk_at"w";refine⟨fun σ' G2=>∃v,σ'=[some (.ref p),some .non,some (.ref D),some v]∧Q v G2,?_,?_⟩
   ·walk_at"w";refine⟨fun _=>?_,by walk_at"no"⟩;walk_at"w";refine⟨D,rs,rfl,⟨os,SqL.of (sG.at he),L2.Paired.imp' (fun _ _ z=>z.same sG) hpr'⟩,hrok,?_⟩;cases hlt:xaZ rs with
    |none=>
     rw[hlt]at q;intro H5 s5;exact⟨_,rfl,q H5 (sA.trans (sG.trans s5))⟩
    |some kc=>
     rw[hlt]at q;intro t H5 s5 e5;exact⟨_,rfl,q t H5 (sA.trans (sG.trans s5)) e5⟩
   rintro σ' G2 ⟨v,rfl,qv⟩;exact qv
  ·walk_at"w";refine⟨fun σ' G2=>∃v,σ'=[some (.ref p),some .non,some (.ref D),some v]∧Q v G2,?_,?_⟩
   ·walk_at"w";refine⟨by walk_at"no",fun _=>?_⟩;exact⟨_,rfl,qt⟩
   rintro σ' G2 ⟨v,rfl,qv⟩;walk_at"w";exact qv
end
abbrev bI(b:Bool):Int:=if b then 1 else 0
structure BA where
 bd:Addr
 dx:Addr
 p:Addr
 dp:Addr
 bl:Addr
 le:Addr
 ma:Addr
 se:Addr
 S:Bool→SA
structure BdS where
 size:Int
 cells:Bool→List Int
 notes:Bool→List (Option Int)
 len:Bool→Int
 mark:Bool→Str
 mr:Bool
 ct:Int
 run:Option Bool
 cnt:Int
 fl:Nat
def vH:Option Bool→V
 |none=>.non
 |some b=>.int (bI b)
abbrev bdF(B:BA)(size:Int)(run:V):List (Str×V):=[("pen",.ref B.p),("size",.int size),("banks",.ref B.bl),("lengths",.ref B.le),("marks",.ref B.ma),("settings",.ref B.se),("running",run)]
abbrev xfC(mk:Bool)(ct:Int):List (Key×V):=[(.inr "marker",.int (bI mk)),(.inr "counter",.int ct)]
abbrev BS(B:BA):List Addr:=[B.bd,B.le,B.ma,B.se,B.p,(B.S false).ca,(B.S false).na,(B.S true).ca,(B.S true).na]
abbrev BF(F:FM)(B:BA):List Addr:=BS B++F.M
structure xx(a:Adr)(F:FM)(H:Hp)(B:BA)(s:BdS):Prop where
 bd:H B.bd=some (.ins a.q0b B.dx (bdF B s.size (vH s.run)))
 bl:H B.bl=some (.lst [.ref (B.S false).st,.ref (B.S true).st])
 le:H B.le=some (.lst [.int (s.len false),.int (s.len true)])
 ma:H B.ma=some (.lst [.str (s.mark false),.str (s.mark true)])
 se:H B.se=some (.dK (xfC s.mr s.ct))
 st:∀b,zu a H (B.S b) (s.cells b) (s.notes b) s.cnt (.ref F.f)
 sp:∀b,(B.S b).p=B.p∧(B.S b).dp=B.dp
 nl:[B.bl,B.le,B.ma,(B.S false).ca,(B.S false).na,(B.S true).ca,(B.S true).na].Nodup
 ni:[B.bd,(B.S false).st,(B.S true).st,B.p].Nodup
 fm:F.At H s.fl s.cnt
 off:∀x∈F.M,x∉BS B∧x≠B.bl∧∀b,x≠(B.S b).st
 c0:0≤s.cnt
theorem xx.pen{a:Adr}{F:FM}{H:Hp}{B:BA}{s:BdS}(h:xx a F H B s):H B.p=some (.ins a.q0i B.dp (zb s.cnt (.ref F.f))):=by
 have:=(h.st false).p;rw[(h.sp false).1,(h.sp false).2]at this;exact this
theorem xx.same{a:Adr}{F:FM}{H H':Hp}{B:BA}{s:BdS}(h:xx a F H B s)(e:xf H H'):xx a F H' B s:=
 ⟨e.at h.bd,e.at h.bl,e.at h.le,e.at h.ma,e.at h.se,fun b=>(h.st b).same e,h.sp,h.nl,h.ni,F.keep (L:=[]) h.fm (Kp.of e) (fun _ z=>nomatch z) (fun _ z=>nomatch z),h.off,h.c0⟩
def xnV(a:Adr):Sp:=fun vs H Q _=>∃(F:FM) (B:BA) (s:BdS),vs=[.ref B.bd]∧xx a F H B s∧Q (.int (bI (!s.mr))) H
def xnW(a:Adr):Sp:=fun vs H Q _=>∃(F:FM) (B:BA) (s:BdS) (b:Bool) (old:Int),vs=[.ref B.bd,.int (bI b),.int old]∧xx a F H B s∧Q (.bl (decide (s.mark b=("open":Str))||decide (old=0)||(decide (s.mark b=("good":Str))&&decide (s.len b=old)))) H
def xnX(a:Adr):Sp:=fun vs H Q _=>∃(F:FM) (B:BA) (s:BdS),vs=[.ref B.bd]∧xx a F H B s∧∀(t m l:Addr) (H':Hp),xf H H'→H m=none→H l=none→m≠l→H' t=some (.tup [.int (bI s.mr),.ref m,.ref l,.int s.ct,vH s.run])→H' m=some (.lst [.str (s.mark false),.str (s.mark true)])→H' l=some (.lst [.int (s.len false),.int (s.len true)])→Q (.ref t) H'
def xnY(a:Adr):Sp:=fun vs H Q _=>∃(F:FM) (B:BA) (s:BdS) (b:Bool),vs=[.ref B.bd,.int (bI b)]∧xx a F H B s∧0≤s.len b∧∀(t:Addr) (H':Hp),xf H H'→H t=none→H' t=some (.lst (((s.cells b).take (s.len b).toNat).map V.int))→Q (.ref t) H'
inductive Wr
 |mark (b:Bool) (v:Str)
 |leng (b:Bool) (v:Int)
 |cter (v:Int)
 |mrk (b:Bool)
 |note (b:Bool) (i:Nat) (m:Int)
 |cell (b:Bool) (i:Nat) (v:Int)
def upB{α:Type}(f:Bool→α)(b:Bool)(v:α):Bool→α:=fun c=>if c=b then v else f c
def Wr.up:Wr→BdS→BdS
 | .mark b v,s=>{s with mark:=upB s.mark b v}
 | .leng b v,s=>{s with len:=upB s.len b v}
 | .cter v,s=>{s with ct:=v}
 | .mrk b,s=>{s with mr:=b}
 | .note b i m,s=>{s with notes:=upB s.notes b ((s.notes b).set i (some m))}
 | .cell b i v,s=>{s with cells:=upB s.cells b ((s.cells b).set i v)}
def Wr.tn(x:Int):Wr→BdS→BdS
 | .note b i _,s=>{s with notes:=upB s.notes b ((s.notes b).set i none)}
 | .cell b i _,s=>{s with cells:=upB s.cells b ((s.cells b).set i x)}
 |y,s=>y.up s
def w1(F:FM)(s:BdS)(y:Wr):BdS:=match F.fo s.fl s.cnt with
 |none=>{y.up s with cnt:=s.cnt+1,fl:=s.fl}
 |some none=>{s with cnt:=s.cnt+1,fl:=s.fl+1}
 |some (some x)=>{y.tn x s with cnt:=s.cnt+1,fl:=s.fl+1}
def xB(F:FM):BdS→List Wr→BdS×Option Int
 |s,[]=>(s,none)
 |s,y::ys=>if F.fo s.fl s.cnt=none then xB F (w1 F s y) ys else(w1 F s y,some s.cnt)
def xR(a:Adr)(F:FM)(H:Hp)(B:BA)(r:BdS×Option Int)(q:Hp→Prop)(E:XK):Prop:=
 (r.2=none→∀H',Kp (BF F B) H H'→xx a F H' B r.1→q H')∧(∀c,r.2=some c→∀d H',Kp (BF F B) H H'→xx a F H' B r.1→H' d=some (.xd [("count",.int c)])→E (.ref a.q0d) (some d) H')
section
variable {a:Adr} {F:FM} {H H':Hp} {B:BA} {s:BdS}
theorem xb6{p q C dx:Addr}{fs:List (Str×V)}{o:HO}(h1:H p=some (.ins C dx fs))(h2:H q=some o)(n:∀C dx fs,o≠.ins C dx fs):q≠p:=fun z=>by
 rw[z,h1]at h2;exact n _ _ _ (bh h2).symm
theorem xx.np(h:xx a F H B s):B.bd≠B.p∧B.bl≠B.p∧B.le≠B.p∧B.ma≠B.p∧B.se≠B.p∧∀b,(B.S b).st≠B.p∧(B.S b).ca≠B.p∧(B.S b).na≠B.p:=by
 have hp:=h.pen;have ni:=h.ni;simp only[bp,av,bo,or_false,not_or,not_false_eq_true,cT,and_true]at ni;refine⟨ni.1.2.2,xb6 hp h.bl (fun _ _ _ z=>by cases z),xb6 hp h.le (fun _ _ _ z=>by cases z),xb6 hp h.ma (fun _ _ _ z=>by cases z),xb6 hp h.se (fun _ _ _ z=>by cases z),fun b=>⟨?_,xb6 hp (h.st b).ca (fun _ _ _ z=>by cases z),xb6 hp (h.st b).na (fun _ _ _ z=>by cases z)⟩⟩;cases b
 ·exact ni.2.1.2
 ·exact ni.2.2
theorem xx.nb(h:xx a F H B s){x:Addr}{o:HO}(e:H x=some o)(n:∀C dx fs,o≠.ins C dx fs):x≠B.bd∧∀b,x≠(B.S b).st:=⟨xb6 h.bd e n,fun b=>xb6 (h.st b).st e n⟩
theorem xx.mu(h:xx a F H B s):∀x∈BS B,∃u,H x=some u∧jd u:=by
 intro x hx;simp only[av,bo,or_false]at hx;rcases hx with rfl|rfl|rfl|rfl|rfl|rfl|rfl|rfl|rfl
 ·exact⟨_,h.bd,trivial⟩
 ·exact⟨_,h.le,trivial⟩
 ·exact⟨_,h.ma,trivial⟩
 ·exact⟨_,h.se,trivial⟩
 ·exact⟨_,h.pen,trivial⟩
 ·exact⟨_,(h.st false).ca,trivial⟩
 ·exact⟨_,(h.st false).na,trivial⟩
 ·exact⟨_,(h.st true).ca,trivial⟩
 ·exact⟨_,(h.st true).na,trivial⟩
theorem xx.nM(h:xx a F H B s){y:Addr}(hy:y∈BS B∨y=B.bl∨∃b,y=(B.S b).st):y∉F.M:=fun z=>by
 obtain⟨z1,z2,z3⟩:=h.off y z;rcases hy with hy|hy|⟨b,hy⟩
 ·exact z1 hy
 ·exact z2 hy
 ·exact z3 b hy
theorem xx.muF(h:xx a F H B s):MuL H (BF F B):=fun x hx=>by
 rcases a7.mp hx with hx|hx
 ·exact h.mu x hx
 ·exact F.mu h.fm x hx
theorem xx.sM(h:xx a F H B s)(b:Bool):(B.S b).st∉F.M∧(B.S b).ca∉F.M∧(B.S b).na∉F.M:=⟨h.nM (.inr (.inr ⟨b,rfl⟩)),h.nM (.inl (by cases b<;> simp)),h.nM (.inl (by cases b<;> simp))⟩
theorem xx.chg(h:xx a F H B s){x:Addr}(k:Kp (B.p::x::F.M) H H')(hp:H' B.p=some (.ins a.q0i B.dp (zb (s.cnt+1) (.ref F.f))))(hx:x=B.le∨x=B.ma∨x=B.se):
  H' B.bd=some (.ins a.q0b B.dx (bdF B s.size (vH s.run)))∧H' B.bl=some (.lst [.ref (B.S false).st,.ref (B.S true).st])∧(x≠B.le→H' B.le=some (.lst [.int (s.len false),.int (s.len true)]))∧(x≠B.ma→H' B.ma=some (.lst [.str (s.mark false),.str (s.mark true)]))∧
  (x≠B.se→H' B.se=some (.dK (xfC s.mr s.ct)))∧∀b,zu a H' (B.S b) (s.cells b) (s.notes b) (s.cnt+1) (.ref F.f):=by
 obtain⟨n1,n2,n3,n4,n5,n6⟩:=h.np;have nl:=h.nl;simp only[bp,av,bo,or_false,not_or,not_false_eq_true,cT,and_true]at nl;obtain⟨⟨l1,l2,l3,l4,l5,l6⟩,⟨m1,m2,m3,m4,m5⟩,⟨k1,k2,k3,k4⟩,_⟩:=nl;have xo:∃o,H x=some o∧∀C dx fs,o≠.ins C dx fs:=by
  rcases hx with rfl|rfl|rfl
  ·exact⟨_,h.le,fun _ _ _ z=>by cases z⟩
  ·exact⟨_,h.ma,fun _ _ _ z=>by cases z⟩
  ·exact⟨_,h.se,fun _ _ _ z=>by cases z⟩
 obtain⟨o,xe,xn⟩:=xo;obtain⟨xb,xs⟩:=h.nb xe xn;have two:∀{y:Addr} {u:HO},H y=some u→y≠B.p→y≠x→y∉F.M→H' y=some u:=fun e a b c=>k _ _ e (by simp[a,b,c]);have ld:∀{y:Addr} {ys:List V},H y=some (.lst ys)→y≠B.se:=fun e z=>by rw[z,h.se]at e;cases e
 have lx:∀{y:Addr} {ys:List V},H y=some (.lst ys)→y≠B.le→y≠B.ma→y≠x:=fun e a b=>by
  rcases hx with rfl|rfl|rfl
  ·exact a
  ·exact b
  ·exact ld e
 refine⟨two h.bd n1 (au xb) (h.nM (.inl (by simp))),two h.bl n2 (lx h.bl l1 l2) (h.nM (.inr (.inl rfl))),fun z=>two h.le n3 (au z) (h.nM (.inl (by simp))),fun z=>two h.ma n4 (au z) (h.nM (.inl (by simp))),fun z=>two h.se n5 (au z) (h.nM (.inl (by simp))),fun b=>?_⟩;have S:=h.st b;have sp:=h.sp b;refine⟨two S.st (n6 b).1 (au (xs b)) (h.sM b).1,two S.ca (n6 b).2.1 (lx S.ca ?_ ?_) (h.sM b).2.1,two S.na (n6 b).2.2 (lx S.na ?_ ?_) (h.sM b).2.2,by rw[sp.1,sp.2];exact hp,S.ne,S.np⟩
 ·cases b
  ·exact au m2
  ·exact au m4
 ·cases b
  ·exact au k1
  ·exact au k3
 ·cases b
  ·exact au m3
  ·exact au m5
 ·cases b
  ·exact au k2
  ·exact au k4
theorem xx.nlm(h:xx a F H B s):B.le≠B.ma∧B.le≠B.se∧B.ma≠B.se:=by
 have nl:=h.nl;simp only[bp,av,bo,or_false,not_or,not_false_eq_true,cT,and_true]at nl;exact⟨nl.2.1.1,fun z=>(by have:=h.le;rw[z,h.se]at this;cases this),fun z=>(by have:=h.ma;rw[z,h.se]at this;cases this)⟩
theorem xx.mark(h:xx a F H B s){b:Bool}{v:Str}(k:Kp (B.p::B.ma::F.M) H H')(hp:H' B.p=some (.ins a.q0i B.dp (zb (s.cnt+1) (.ref F.f)))){fl:Nat}(hat:F.At H' fl (s.cnt+1))(e:H' B.ma=some (.lst ([V.str (s.mark false),V.str (s.mark true)].set (bI b).toNat (.str v)))):
  xx a F H' B {s with mark:=upB s.mark b v,cnt:=s.cnt+1,fl:=fl}:=by
 obtain⟨h1,h2,h3,_,h5,h6⟩:=h.chg k hp (.inr (.inl rfl));obtain⟨n1,n2,n3⟩:=h.nlm;exact⟨h1,h2,h3 (au n1),by rw[e];cases b<;> rfl,h5 n3,h6,h.sp,h.nl,h.ni,hat,h.off,by have:=h.c0;show 0≤s.cnt+1;lia⟩
theorem xx.leng(h:xx a F H B s){b:Bool}{v:Int}(k:Kp (B.p::B.le::F.M) H H')(hp:H' B.p=some (.ins a.q0i B.dp (zb (s.cnt+1) (.ref F.f)))){fl:Nat}(hat:F.At H' fl (s.cnt+1))(e:H' B.le=some (.lst ([V.int (s.len false),V.int (s.len true)].set (bI b).toNat (.int v)))):
  xx a F H' B {s with len:=upB s.len b v,cnt:=s.cnt+1,fl:=fl}:=by
 obtain⟨h1,h2,_,h4,h5,h6⟩:=h.chg k hp (.inl rfl);obtain⟨n1,n2,n3⟩:=h.nlm;exact⟨h1,h2,by rw[e];cases b<;> rfl,h4 n1,h5 n2,h6,h.sp,h.nl,h.ni,hat,h.off,by have:=h.c0;show 0≤s.cnt+1;lia⟩
theorem xx.cter(h:xx a F H B s){v:Int}(k:Kp (B.p::B.se::F.M) H H')(hp:H' B.p=some (.ins a.q0i B.dp (zb (s.cnt+1) (.ref F.f)))){fl:Nat}(hat:F.At H' fl (s.cnt+1))(e:H' B.se=some (.dK (putK (xfC s.mr s.ct) (.inr "counter") (.int v)))):
  xx a F H' B {s with ct:=v,cnt:=s.cnt+1,fl:=fl}:=by
 obtain⟨h1,h2,h3,h4,_,h6⟩:=h.chg k hp (.inr (.inr rfl));obtain⟨n1,n2,n3⟩:=h.nlm;exact⟨h1,h2,h3 (au n2),h4 (au n3),by rw[e];rfl,h6,h.sp,h.nl,h.ni,hat,h.off,by have:=h.c0;show 0≤s.cnt+1;lia⟩
theorem xx.mrk(h:xx a F H B s){b:Bool}(k:Kp (B.p::B.se::F.M) H H')(hp:H' B.p=some (.ins a.q0i B.dp (zb (s.cnt+1) (.ref F.f)))){fl:Nat}(hat:F.At H' fl (s.cnt+1))(e:H' B.se=some (.dK (putK (xfC s.mr s.ct) (.inr "marker") (.int (bI b))))):
  xx a F H' B {s with mr:=b,cnt:=s.cnt+1,fl:=fl}:=by
 obtain⟨h1,h2,h3,h4,_,h6⟩:=h.chg k hp (.inr (.inr rfl));obtain⟨n1,n2,n3⟩:=h.nlm;exact⟨h1,h2,h3 (au n2),h4 (au n3),by rw[e];rfl,h6,h.sp,h.nl,h.ni,hat,h.off,by have:=h.c0;show 0≤s.cnt+1;lia⟩
theorem xx.ahead(h:xx a F H B s)(k:Kp (B.p::F.M) H H')(hp:H' B.p=some (.ins a.q0i B.dp (zb (s.cnt+1) (.ref F.f)))){fl:Nat}(hat:F.At H' fl (s.cnt+1)):xx a F H' B {s with cnt:=s.cnt+1,fl:=fl}:=by
 obtain⟨n1,n2,n3,n4,n5,n6⟩:=h.np;have two:∀{y:Addr} {u:HO},H y=some u→y≠B.p→y∉F.M→H' y=some u:=fun e a c=>k _ _ e (by simp[a,c]);refine⟨two h.bd n1 (h.nM (.inl (by simp))),two h.bl n2 (h.nM (.inr (.inl rfl))),two h.le n3 (h.nM (.inl (by simp))),two h.ma n4 (h.nM (.inl (by simp))),two h.se n5 (h.nM (.inl (by simp))),fun b=>?_,h.sp,h.nl,h.ni,hat,h.off,by have:=h.c0;show 0≤s.cnt+1;lia⟩;have S:=h.st b;exact⟨two S.st (n6 b).1 (h.sM b).1,two S.ca (n6 b).2.1 (h.sM b).2.1,two S.na (n6 b).2.2 (h.sM b).2.2,by rw[(h.sp b).1,(h.sp b).2];exact hp,S.ne,S.np⟩
theorem xx.bank(h:xx a F H B s){b:Bool}{cs:List Int}{ns:List (Option Int)}{n:Int}{fl:Nat}(k:Kp (F.M++SS (B.S b)) H H')(e:zu a H' (B.S b) cs ns n (.ref F.f))(hat:F.At H' fl n)(hn:0≤n):xx a F H' B {s with cells:=upB s.cells b cs,notes:=upB s.notes b ns,cnt:=n,fl:=fl}:=by
 obtain⟨n1,n2,n3,n4,n5,n6⟩:=h.np;have nl:=h.nl;have sp:=h.sp b;simp only[bp,av,bo,or_false,not_or,not_false_eq_true,cT,and_true]at nl;obtain⟨⟨l1,l2,l3,l4,l5,l6⟩,⟨m1,m2,m3,m4,m5⟩,⟨k1,k2,k3,k4⟩,⟨c1,c2,c3⟩,⟨d1,d2⟩,q1⟩:=nl;have lst:∀{y:Addr} {u:HO},H y=some u→y≠(B.S b).ca→y≠(B.S b).na→y≠B.p→y∉F.M→H' y=some u:=fun e a b c d=>k _ _ e (by simp[a,b,sp.1,c,d]);obtain⟨xb,xs⟩:=h.nb (h.st b).ca (fun _ _ _ z=>by cases z);obtain⟨yb,ys⟩:=h.nb (h.st b).na (fun _ _ _ z=>by cases z);have de:∀{y:Addr} {zs:List V},H y=some (.lst zs)→B.se≠y:=fun e z=>by rw[←z,h.se]at e;cases e
 refine⟨lst h.bd (au xb) (au yb) n1 (h.nM (.inl (by simp))),lst h.bl ?_ ?_ n2 (h.nM (.inr (.inl rfl))),lst h.le ?_ ?_ n3 (h.nM (.inl (by simp))),lst h.ma ?_ ?_ n4 (h.nM (.inl (by simp))),lst h.se (de (h.st b).ca) (de (h.st b).na) n5 (h.nM (.inl (by simp))),fun c=>?_,h.sp,h.nl,h.ni,hat,h.off,hn⟩
 ·cases b<;> assumption
 ·cases b<;> assumption
 ·cases b<;> assumption
 ·cases b<;> assumption
 ·cases b<;> assumption
 ·cases b<;> assumption
 ·by_cases hc:c=b
  ·subst hc;show zu a H' (B.S c) (upB s.cells c cs c) (upB s.notes c ns c) n (.ref F.f);unfold upB;rw[if_pos rfl,if_pos rfl];exact e
  ·show zu a H' (B.S c) (upB s.cells b cs c) (upB s.notes b ns c) n (.ref F.f);unfold upB;rw[if_neg hc,if_neg hc];have C:=h.st c;have spc:=h.sp c;refine⟨lst C.st (au (xs c)) (au (ys c)) (n6 c).1 (h.sM c).1,lst C.ca ?_ ?_ (n6 c).2.1 (h.sM c).2.1,lst C.na ?_ ?_ (n6 c).2.2 (h.sM c).2.2,by rw[spc.1,spc.2,←sp.1,←sp.2];exact e.p,C.ne,C.np⟩
   ·cases b<;> cases c<;> first|exact absurd rfl hc|assumption|(apply au;assumption)
   ·cases b<;> cases c<;> first|exact absurd rfl hc|assumption|(apply au;assumption)
   ·cases b<;> cases c<;> first|exact absurd rfl hc|assumption|(apply au;assumption)
   ·cases b<;> cases c<;> first|exact absurd rfl hc|assumption|(apply au;assumption)
theorem xx.rune(h:xx a F H B s){r:Option Bool}:xx a F (upd H B.bd (.ins a.q0b B.dx (bdF B s.size (vH r)))) B {s with run:=r}:=by
 obtain⟨n1,n2,n3,n4,n5,n6⟩:=h.np;have ni:=h.ni;simp only[bp,av,bo,or_false,not_or,not_false_eq_true,cT,and_true]at ni;have o:∀{y:Addr} {u:HO} (_:∀C dx fs,u≠.ins C dx fs),H y=some u→upd H B.bd (.ins a.q0b B.dx (bdF B s.size (vH r))) y=some u:=fun n e=>by rw[xl (h.nb e n).1];exact e
 refine⟨xm,o (fun _ _ _ z=>by cases z) h.bl,o (fun _ _ _ z=>by cases z) h.le,o (fun _ _ _ z=>by cases z) h.ma,o (fun _ _ _ z=>by cases z) h.se,fun b=>?_,h.sp,h.nl,h.ni,F.keep (L:=[B.bd]) h.fm ((Kp.of (xf.refl _)).wr (by simp)) (fun x hx=>by rw[aj.mp hx];exact⟨_,h.bd,trivial⟩) (fun x hx=>by rw[aj.mp hx];exact h.nM (.inl (by simp))),h.off,h.c0⟩;have S:=h.st b;refine⟨?_,o (fun _ _ _ z=>by cases z) S.ca,o (fun _ _ _ z=>by cases z) S.na,?_,S.ne,S.np⟩
 ·rw[xl (by cases b;exact au ni.1.1;exact au ni.1.2.1)];exact S.st
 ·rw[(h.sp b).1,xl (au n1),←(h.sp b).1];exact S.p
def Tbs(H:Hp):Prop:=H zC=some (.tbl vK)∧H yU=some (.tbl vm)∧H yk=some (.tbl zD)∧H yG=some (.tbl uN)∧H yF=some (.tbl uM)∧H zm=some (.tbl vP)∧H yv=some (.tbl uh)
theorem Tbs.kp{L:List Addr}(t:Tbs H)(k:Kp L H H')(mu:∀x∈L,∃u,H x=some u∧jd u):Tbs H':=by
 have one:∀{p:Addr} {q:List (Pos×Str)},H p=some (.tbl q)→H' p=some (.tbl q):=fun{p q} e=>k _ _ e fun z=>by
  obtain⟨u,e',m⟩:=mu p z;rw[e]at e';cases e';exact m
 obtain⟨t1,t2,t3,t4,t5,t6,t7⟩:=t;exact⟨one t1,one t2,one t3,one t4,one t5,one t6,one t7⟩
theorem Tbs.same(t:Tbs H)(e:xf H H'):Tbs H':=t.kp (L:=[]) (Kp.of e) (fun _ z=>nomatch z)
theorem xlV{x:Addr}(k:Kp (B.p::x::F.M) H H')(hx:x∈BS B):Kp (BF F B) H H':=k.mono fun y hy=>by
 rcases av.mp hy with rfl|hy
 ·simp
 rcases av.mp hy with rfl|hy
 ·exact aX _ hx
 ·exact aR _ hy
end
theorem xdi{F:FM}{s:BdS}:xB F s []=(s,none):=rfl
theorem ym{F:FM}{s:BdS}{y:Wr}{ys:List Wr}(h:F.fo s.fl s.cnt=none):xB F s (y::ys)=xB F (w1 F s y) ys:=if_pos h
theorem ya{F:FM}{s:BdS}{y:Wr}{ys:List Wr}(h:¬F.fo s.fl s.cnt=none):xB F s (y::ys)=(w1 F s y,some s.cnt):=if_neg h
theorem xR.step{a:Adr}{F:FM}{H:Hp}{B:BA}{s:BdS}{y:Wr}{ys:List Wr}{q:Hp→Prop}{E:XK}(h:xR a F H B (xB F s (y::ys)) q E):xR a F H B (xB F s [y]) (fun H1=>Kp (BF F B) H H1→xR a F H1 B (xB F (w1 F s y) ys) q E) E:=by
 by_cases e:F.fo s.fl s.cnt=none
 ·rw[ym e]at h;rw[ym e,xdi];refine⟨fun _ H1 k1 _ k1'=>⟨fun e2 H2 k2 h2=>h.1 e2 H2 (k1.trans k2) h2,fun c e2 d H2 k2 h2 hd=>h.2 c e2 d H2 (k1.trans k2) h2 hd⟩,fun c z=>by cases z⟩
 ·rw[ya e]at h;rw[ya e];exact⟨(fun z=>by cases z),h.2⟩
def Wr.loc(B:BA):Wr→Option (Addr×V×V)
 | .mark b v=>some (B.ma,.int (bI b),.str v)
 | .leng b v=>some (B.le,.int (bI b),.int v)
 | .cter v=>some (B.se,.str "counter",.int v)
 | .mrk b=>some (B.se,.str "marker",.int (bI b))
 |_=>none
theorem xdj{F:FM}{s:BdS}{y:Wr}(h:F.fo s.fl s.cnt=none):xB F s [y]=({y.up s with cnt:=s.cnt+1,fl:=s.fl},none):=by
 rw[ym h,xdi];unfold w1;rw[h]
theorem xcv{F:FM}{s:BdS}{y:Wr}(h:F.fo s.fl s.cnt=some none):xB F s [y]=({s with cnt:=s.cnt+1,fl:=s.fl+1},some s.cnt):=by
 rw[ya (by rw[h];simp)];unfold w1;rw[h]
theorem xdk{F:FM}{s:BdS}{y:Wr}{x:Int}(h:F.fo s.fl s.cnt=some (some x)):xB F s [y]=({y.tn x s with cnt:=s.cnt+1,fl:=s.fl+1},some s.cnt):=by
 rw[ya (by rw[h];simp)];unfold w1;rw[h]
section
variable {a:Adr} {F:FM} {H H':Hp} {B:BA} {s:BdS}
theorem xx.slot(h:xx a F H B s){y:Wr}{l:Addr}{at' val:V}(hy:y.loc B=some (l,at',val)):∃o st,H l=some o∧Slot o at' st∧l∈BS B∧(∀x,y.tn x s=y.up s)∧
  ∀H' fl,Kp (B.p::l::F.M) H H'→H' B.p=some (.ins a.q0i B.dp (zb (s.cnt+1) (.ref F.f)))→F.At H' fl (s.cnt+1)→H' l=some (st val)→xx a F H' B {y.up s with cnt:=s.cnt+1,fl:=fl}:=by
 have b2:∀b:Bool,0≤bI b∧bI b<2:=by intro b;cases b<;> decide
 cases y with
 |mark b v=>
  cases hy;exact⟨_,_,h.ma,.lst _ _ (b2 b).1 (b2 b).2,by simp,fun _=>rfl,fun H' fl k hp hat e=>h.mark k hp hat e⟩
 |leng b v=>
  cases hy;exact⟨_,_,h.le,.lst _ _ (b2 b).1 (b2 b).2,by simp,fun _=>rfl,fun H' fl k hp hat e=>h.leng k hp hat e⟩
 |cter v=>
  cases hy;exact⟨_,_,h.se,.dK (.inr "counter") _ (show 2<100 by decide),by simp,fun _=>rfl,fun H' fl k hp hat e=>h.cter k hp hat e⟩
 |mrk b=>
  cases hy;exact⟨_,_,h.se,.dK (.inr "marker") _ (show 2<100 by decide),by simp,fun _=>rfl,fun H' fl k hp hat e=>h.mrk k hp hat e⟩
 |note b i m=>cases hy
 |cell b i v=>cases hy
theorem xoz(h:xx a F H B s){b:Bool}{x:Addr}(hx:x∈[(B.S b).ca,(B.S b).na])(k:Kp (B.p::x::F.M) H H'):Kp (F.M++SS (B.S b)) H H':=k.mono fun y hy=>by
 rcases av.mp hy with rfl|hy
 ·rw[←(h.sp b).1];simp
 rcases av.mp hy with rfl|hy
 ·simp only[av,bo,or_false]at hx;rcases hx with rfl|rfl<;> simp
 ·exact aX _ hy
theorem xmZ{α:Type}(f:Bool→α)(b:Bool):upB f b (f b)=f:=by
 funext c;unfold upB;split
 ·rename_i e;rw[e]
 ·rfl
theorem xx.noted(h:xx a F H B s){b:Bool}{fl:Nat}{i:Nat}{v:Option Int}(k:Kp (B.p::(B.S b).na::F.M) H H')(hp:H' B.p=some (.ins a.q0i B.dp (zb (s.cnt+1) (.ref F.f))))(hat:F.At H' fl (s.cnt+1))(e:H' (B.S b).na=some (.lst (((s.notes b).map nV).set i (nV v)))):
  xx a F H' B {s with notes:=upB s.notes b ((s.notes b).set i v),cnt:=s.cnt+1,fl:=fl}:=by
 have S:=h.st b;obtain⟨_,_,_,_,_,n6⟩:=h.np;have two:∀{y:Addr} {u:HO},H y=some u→y≠B.p→y≠(B.S b).na→y∉F.M→H' y=some u:=fun e a b c=>k _ _ e (by simp[a,b,c]);have St:zu a H' (B.S b) (s.cells b) ((s.notes b).set i v) (s.cnt+1) (.ref F.f):=
  ⟨two S.st (n6 b).1 (fun z=>by have:=S.st;rw[z,S.na]at this;cases this) (h.sM b).1,two S.ca (n6 b).2.1 S.ne (h.sM b).2.1,by rw[e,List.map_set],by rw[(h.sp b).1,(h.sp b).2];exact hp,S.ne,S.np⟩
 have:=h.bank (xoz h (by simp) k) St hat (by have:=h.c0;lia);rw[xmZ]at this;exact this
theorem xx.celled(h:xx a F H B s){b:Bool}{fl:Nat}{i:Nat}{v:Int}(k:Kp (B.p::(B.S b).ca::F.M) H H')(hp:H' B.p=some (.ins a.q0i B.dp (zb (s.cnt+1) (.ref F.f))))(hat:F.At H' fl (s.cnt+1))(e:H' (B.S b).ca=some (.lst (((s.cells b).map V.int).set i (.int v)))):
  xx a F H' B {s with cells:=upB s.cells b ((s.cells b).set i v),cnt:=s.cnt+1,fl:=fl}:=by
 have S:=h.st b;obtain⟨_,_,_,_,_,n6⟩:=h.np;have two:∀{y:Addr} {u:HO},H y=some u→y≠B.p→y≠(B.S b).ca→y∉F.M→H' y=some u:=fun e a b c=>k _ _ e (by simp[a,b,c]);have St:zu a H' (B.S b) ((s.cells b).set i v) (s.notes b) (s.cnt+1) (.ref F.f):=
  ⟨two S.st (n6 b).1 (fun z=>by have:=S.st;rw[z,S.ca]at this;cases this) (h.sM b).1,by rw[e,List.map_set],two S.na (n6 b).2.2 (au S.ne) (h.sM b).2.2,by rw[(h.sp b).1,(h.sp b).2];exact hp,S.ne,S.np⟩
 have:=h.bank (xoz h (by simp) k) St hat (by have:=h.c0;lia);rw[xmZ]at this;exact this
end
def xpz:List (Str×V)→Sp:=fun fv vs H Q _=>∃v x:V,fv=([("value",v)]:List (Str×V))∧vs=[x]∧Q v H
def xpA:List (Str×V)→Sp:=fun fv vs H Q _=>∃v:V,fv=([]:List (Str×V))∧vs=[v]∧Q .non H
abbrev xgB:Expr:=vk 3 (xa5 ((xI yE).getD 0 (.Pass ⟨0,0,0,0⟩)))
abbrev xgC:Expr:=vk 3 (xa5 ((xI yj).getD 0 (.Pass ⟨0,0,0,0⟩)))
theorem xkJ:yS ["sign","value"] ["sign"] ["value"] (yg xgB):=⟨rfl,rfl,rfl,by decide+kernel,rfl,by decide+kernel,by decide+kernel,by decide+kernel⟩
theorem xkK:yS ["other"] ["other"] [] (yg xgC):=⟨rfl,rfl,rfl,by decide+kernel,rfl,by decide+kernel,by decide+kernel,by decide+kernel⟩
def xm0(P:ak)(w:World)(K:ag)(mg:Str→Option Value)(base:Heap)(a:Adr):Sp:=fun vs H Q E=>∃(F:FM) (B:BA) (s:BdS) (y:Wr) (l:Addr) (at' val:V),vs=[.ref B.bd,.ref l,at',val]∧um P w K mg base F∧xx a F H B s∧Tbs H∧y.loc B=some (l,at',val)∧xR a F H B (xB F s [y]) (Q .non) E
def xpB(P:ak)(w:World)(K:ag)(mg:Str→Option Value)(base:Heap)(a:Adr):Sp:=fun vs H Q E=>∃(F:FM) (B:BA) (s:BdS) (b:Bool) (i:Nat) (m:Int),vs=[.ref (B.S b).st,.int i,.int m]∧um P w K mg base F∧xx a F H B s∧Tbs H∧i<(s.notes b).length∧xR a F H B (xB F s [.note b i m]) (Q .non) E
def xnZ(P:ak)(w:World)(K:ag)(mg:Str→Option Value)(base:Heap)(a:Adr):Sp:=fun vs H Q E=>∃(F:FM) (B:BA) (s:BdS) (b:Bool),vs=[.ref (B.S b).st]∧um P w K mg base F∧xx a F H B s∧Tbs H∧(s.notes b).length=2∧xR a F H B (xB F s [.note b 0 0,.note b 1 0]) (Q .non) E
section
variable {P:ak} {w:World} {K:ag} {mg:Str→Option Value} {base:Heap} {a:Adr}
theorem yB(T:Txt K mg a):xy P w K mg base CX0 1 a.q0C a.uW ["self"] (xnV a):=by
 refine T.q1i.ok jO (fun vs H Q E h=>?_) (fun cdv A outer s H vs Q E hr h=>?_)
 ·obtain⟨F,B,s,rfl,_⟩:=h;rfl
 ·obtain⟨F,B,st,rfl,hB,q⟩:=h;have nd:=jO.nd;refine⟨_,(xk (xv (xu yz xj (xcA (vi hr) (xw (cv 0) rfl) xP (fun _ _=>rfl))))),?_⟩;walk_at"w";refine⟨B.bd,_,B.dx,_,.ref B.se,rfl,hB.bd,T.q0a,T.q0j,rfl,?_⟩;walk_at"w";refine⟨B.se,.int (bI st.mr),rfl,uR.k (k:=.inr "marker") hB.se,?_⟩;walk_at"w";have e:(1:Int) - bI st.mr=bI (!st.mr):=by cases st.mr<;> rfl
  rw[←e]at q;exact q
theorem xdl(T:Txt K mg a):xy P w K mg base CX0 1 a.q0w a.uG ["self","bank","old"] (xnW a):=by
 refine T.q03.ok jJ (fun vs H Q E h=>?_) (fun cdv A outer s H vs Q E hr h=>?_)
 ·obtain⟨F,B,s,b,old,rfl,_⟩:=h;rfl
 ·obtain⟨F,B,st,b,old,rfl,hB,q⟩:=h;have nd:=jJ.nd;refine⟨_,(xg (xM (PW.pt (xaT (xJ xbT (xA xV (xw (cv 0) rfl) (cv 1) (fun _ _=>rfl)) xP) (xa8 (xJ zL (cv 2) xj)))) (xk (xv ve)) xC)
  (xk (xv (zR (zP xbT (xA xV (xw (cv 0) rfl) (cv 1) (fun _ _=>rfl)) xP) (vI (zP zL (xA xV (xw (cv 0) rfl) (cv 1) (fun _ _=>rfl)) (cv 2))))))),?_⟩
  have atM:atI [V.str (st.mark false),V.str (st.mark true)] (bI b)=some (.str (st.mark b)):=by cases b<;> rfl
  have atL:atI [V.int (st.len false),V.int (st.len true)] (bI b)=some (.int (st.len b)):=by cases b<;> rfl
  walk_at"w";refine⟨B.bd,_,B.dx,_,.ref B.ma,rfl,hB.bd,T.q0a,T.q0h,rfl,?_⟩;walk_at"w";refine⟨B.ma,_,_,_,rfl,rfl,SqL.of hB.ma,atM,?_⟩;walk_at"w";refine⟨fun c=>?_,fun c=>?_⟩
  ·rw[show decide (st.mark b=("open":Str))=true from c,gR,gR]at q;walk_at"w"
   first|exact q|(refine⟨fun _=>?_,by walk_at"no"⟩;walk_at"w";exact q)
  rw[show decide (st.mark b=("open":Str))=false from c,gv]at q;walk_at"w";refine⟨fun c=>?_,fun c=>?_⟩
  ·walk_at"w";rw[show decide (old=0)=true from c,gR]at q;exact q
  ·rw[show decide (old=0)=false from c,gv]at q;walk_at"w";refine⟨B.bd,_,B.dx,_,.ref B.ma,rfl,hB.bd,T.q0a,T.q0h,rfl,?_⟩;walk_at"w";refine⟨B.ma,_,_,_,rfl,rfl,SqL.of hB.ma,atM,?_⟩;walk_at"w";refine⟨fun c2=>?_,fun c2=>?_⟩
   ·rw[show decide (st.mark b=("good":Str))=true from c2,Bool.true_and]at q;walk_at"w";refine⟨B.bd,_,B.dx,_,.ref B.le,rfl,hB.bd,T.q0a,T.q1f,rfl,?_⟩;walk_at"w";refine⟨B.le,_,_,_,rfl,rfl,SqL.of hB.le,atL,?_⟩;walk_at"w";exact q
   ·rw[show decide (st.mark b=("good":Str))=false from c2,Bool.false_and]at q;walk_at"w";have e:decide (st.mark b=br "good")=false:=c2;exact e▸q
theorem yW(T:Txt K mg a):xy P w K mg base CX0 1 a.q1U a.xbE ["self"] (xnX a):=by
 refine T.q2N.ok xdF (fun vs H Q E h=>?_) (fun cdv A outer s H vs Q E hr h=>?_)
 ·obtain⟨F,B,s,rfl,_⟩:=h;rfl
 ·obtain⟨F,B,st,rfl,hB,q⟩:=h;have nd:=xdF.nd;refine⟨_,(xg (xE (i:=1) nd rfl (aA rfl) (xcA (vi hr) (xw (cv 0) rfl) xP (fun _ _=>rfl)))
  (xg (xE (i:=2) nd rfl (aA rfl) (xcA (vi hr) (xw (cv 0) rfl) xP (fun _ _=>rfl)))
  (xk (xv (yX (xa (cv 1) (xa (xZ zO (by rfl) T.q25 uu (xa (xw (cv 0) rfl) xc)) (xa (xZ zO (by rfl) T.q25 uu (xa (xw (cv 0) rfl) xc)) (xa (cv 2) (xa (xw (cv 0) rfl) xc)))))))))),?_⟩
  walk_at"w";refine⟨B.bd,_,B.dx,_,.ref B.se,rfl,hB.bd,T.q0a,T.q0j,rfl,?_⟩;walk_at"w";refine⟨B.se,.int (bI st.mr),rfl,uR.k (k:=.inr "marker") hB.se,?_⟩;walk_at"w";refine⟨B.bd,_,B.dx,_,.ref B.se,rfl,hB.bd,T.q0a,T.q0j,rfl,?_⟩;walk_at"w";refine⟨B.se,.int st.ct,rfl,uR.k (k:=.inr "counter") hB.se,?_⟩;walk_at"w";refine⟨B.bd,_,B.dx,_,.ref B.ma,rfl,hB.bd,T.q0a,T.q0h,rfl,?_⟩;walk_at"w";refine⟨B.ma,_,rfl,.inl (SqL.of hB.ma),?_⟩;intro m hm;generalize hUm:upd H m _=H1;have sH1:=xf.of_eq hm hUm;have em:=xq hUm;clear hUm;walk_at"w";refine⟨B.bd,_,B.dx,_,.ref B.le,rfl,sH1.at hB.bd,T.q0a,T.q1f,rfl,?_⟩;walk_at"w";refine⟨B.le,_,rfl,.inl (SqL.of (sH1.at hB.le)),?_⟩;intro l hl;generalize hUl:upd H1 l _=H2;have sH2:=xf.of_eq hl hUl;have el:=xq hUl;clear hUl;walk_at"w";refine⟨B.bd,_,B.dx,_,vH st.run,rfl,(sH1.trans sH2).at hB.bd,T.q0a,T.q0o,rfl,?_⟩;walk_at"w";walk_at"ss";intro t ht;generalize hUt:upd H2 t _=H3;have sH3:=xf.of_eq ht hUt;have et:=xq hUt;clear hUt;walk_at"w";exact q t m l H3 (sH1.trans (sH2.trans sH3)) hm (sH1.back hl) (fun z=>by rw[z,hl]at em;cases em) et ((sH2.trans sH3).at em) (sH3.at el)
theorem xeN(xs:List V)(i:Nat):xba xs none (some (i:Int))=xs.take i:=by
 unfold xba;rw[xmy (by lia),HT.xiw,dn];simp[←List.take_eq_take_min]
theorem vU(T:Txt K mg a):xy P w K mg base CX0 2 a.q1T a.xbD ["self","bank"] (xnY a):=by
 refine T.q2M.ok xdE (fun vs H Q E h=>?_) (fun cdv A outer s H vs Q E hr h=>?_)
 ·obtain⟨F,B,s,b,rfl,_⟩:=h;rfl
 ·obtain⟨F,B,st,b,rfl,hB,hl0,q⟩:=h;have nd:=xdE.nd;refine⟨_,(xk (xv (jS jT (xA xH (xQ (xA xV (xw (cv 0) rfl) (cv 1) (fun _ _=>rfl)) T.q0l T.q3x (xdG T) (hr.mono (by decide)) T.xeb .nil xt) xj (fun _ _=>rfl)) xa2 (xa3 (xA xV (xw (cv 0) rfl) (cv 1) (fun _ _=>rfl)))))),?_⟩;have atB:atI [V.ref (B.S false).st,V.ref (B.S true).st] (bI b)=some (.ref (B.S b).st):=by cases b<;> rfl
  have atL:atI [V.int (st.len false),V.int (st.len true)] (bI b)=some (.int (st.len b)):=by cases b<;> rfl
  walk_at"w";refine⟨B.bd,_,B.dx,_,.ref B.bl,rfl,hB.bd,T.q0a,T.q2P,rfl,?_⟩;walk_at"w";refine⟨B.bl,_,_,_,rfl,rfl,SqL.of hB.bl,atB,?_⟩;walk_at"w";refine⟨(B.S b).st,(B.S b).dx,_,rfl,(hB.st b).st,rfl,?_⟩;walk_at"w";refine⟨B.S b,_,_,_,_,rfl,hB.st b,fun t c m H1 s1 _ _ _ et ec _=>?_⟩;walk_at"w";refine⟨t,_,_,.ref c,rfl,rfl,SqT.of et,rfl,?_⟩;walk_at"w";refine⟨B.bd,_,B.dx,_,.ref B.le,rfl,s1.at hB.bd,T.q0a,T.q1f,rfl,?_⟩;walk_at"w";refine⟨B.le,_,_,_,rfl,rfl,SqL.of (s1.at hB.le),atL,?_⟩;walk_at"w";refine⟨_,rfl,?_⟩;walk_at"w";refine⟨c,_,rfl,SqL.of ec,?_⟩;rw[show st.len b=((st.len b).toNat:Int)by lia,xeN,←i8];intro y hy;generalize hUy:upd H1 y _=H2;have sH2:=xf.of_eq hy hUy;have ey:=xq hUy;clear hUy;walk_at"w";exact q y H2 (s1.trans sH2) (s1.back hy) ey
theorem xdL(T:Txt K mg a):yA P w K mg base CX0 1 "<lambda>" "Board.change.<locals>.<lambda>" (uv xgB) (.expr (uw xgB)) (yg xgB) ["sign"] xpz:=by
 refine xbf xkJ (fun fv vs H Q E h=>?_) (fun _ _ _ _ _ us hl=>match us,hl with|[_],_=>rfl) (fun A outer s H f clos cdv fv vs Q E hr h=>?_)
 ·obtain⟨v,x,rfl,rfl,_⟩:=h;exact⟨rfl,rfl⟩
 ·obtain⟨v,x,rfl,rfl,k⟩:=h;have nd:=xkJ.nd;refine⟨_,(cv 1),?_⟩;walk_at"w";exact k
theorem xcw(T:Txt K mg a):yA P w K mg base CX0 1 "<lambda>" "Store.note_down.<locals>.<lambda>" (uv xgC) (.expr (uw xgC)) (yg xgC) ["other"] xpA:=by
 refine xbf xkK (fun fv vs H Q E h=>?_) (fun _ _ _ _ _ us hl=>match us,hl with|[_],_=>rfl) (fun A outer s H f clos cdv fv vs Q E hr h=>?_)
 ·obtain⟨v,rfl,rfl,_⟩:=h;exact⟨rfl,rfl⟩
 ·obtain⟨v,rfl,rfl,k⟩:=h;have nd:=xkK.nd;refine⟨_,zg,?_⟩;exact k
theorem yd(T:Txt K mg a):xy P w K mg base (CXN P w) 6 a.q0R a.vo ["self","kept","at","value"] (xm0 P w K mg base a):=by
 refine T.vq.okNK ["value"] T.xgp xb3 (fun vs H Q E h=>?_) (fun A outer s H vs Q E hr h=>?_)
 ·obtain⟨F,B,s,y,l,at',val,rfl,_⟩:=h;rfl
 ·obtain⟨F,B,st,y,l,at',val,rfl,hF,hB,hT,hy,q⟩:=h;have nd:=xb3.nd;refine⟨_,(yL (x:="value") (i:=3) nd rfl rfl rfl (by kernel_rfl) (xk (xO (yc ⟨rfl,rfl,rfl⟩ (xw (cv 0) rfl) T.q3v T.q11 (vG T) (hr.mono (by decide)) T.jb .nil (xa (cv 1) (xa (cv 2) (xa (cv 3) (xa (zB (c:=q0E) (P:=yG) (qs:=uN) (fns:=["value"]) rfl T.q3F (q:="Board.change.<locals>.<lambda>") (by kernel_rfl) (.head _) (by kernel_rfl) (by kernel_rfl)) xc)))))))),?_⟩;walk_at"w";intro a1 e1 z1 d1;refine a6 z1 ?_;generalize hU1:upd H a1 _=H1;have s1:=xf.of_eq z1 hU1;have c1:=xq hU1;clear hU1;have hB1:=hB.same s1;walk_at"w";refine⟨B.bd,_,B.dx,_,.ref B.p,rfl,hB1.bd,T.q0a,T.q2Q,rfl,?_⟩;walk_at"w";refine⟨B.p,B.dp,_,rfl,hB1.pen,rfl,?_⟩;walk_at"w";refine⟨(hT.same s1).2.2.2.1,[("value",val)],rfl,(fun x v m=>?_),fun g H2 hg s2 hc=>?_⟩
  ·simp only[aj,dJ]at m;obtain⟨rfl,rfl⟩:=m;exact⟨a1,e1,c1⟩
  walk_at"w";have s12:=s1.trans s2;have hB2:=hB.same s12;obtain⟨o,sl,hl,hs,hm,htn,hup⟩:=hB2.slot hy;have kt:∀{H':Hp},Kp (B.p::l::F.M) H2 H'→Kp (BF F B) H H':=fun k=>(Kp.of s12).trans (xlV k hm);refine⟨F,B.p,B.dp,l,g,at',val,o,sl,st.cnt,st.fl,fun _=>val,rfl,hF,hB2.pen,hB2.c0,hB2.fm,hB2.nM (.inl (by simp)),hB2.nM (.inl hm),⟨_,_,_,_,_,_,_,_,xdL T,hc,fun s' H' Q' q'=>⟨val,.int s',rfl,rfl,q'⟩⟩,hl,hs,fun hfo H' k' hp' hat' hl'=>?_,fun an hfo d H' k' hp' hat' hl' _ hd=>?_⟩
  ·have:=hup H' st.fl k' hp' hat' hl';rw[xdj hfo]at q;exact q.1 rfl H' (kt k') this
  ·cases an with
   |none=>
    rw[xcv hfo]at q;refine q.2 _ rfl d H' (kt k') (hB2.ahead (fun b u e n=>?_) hp' hat') hd
    by_cases hb:b=l
    ·rw[hb]at e⊢;rw[hl]at e;rw[hl'];exact e
    ·exact k' b u e (by simp only[av,not_or]at n⊢;exact⟨n.1,hb,n.2⟩)
   |some x=>
    rw[xdk hfo,htn]at q;exact q.2 _ rfl d H' (kt k') (hup H' (st.fl+1) k' hp' hat' hl') hd
theorem uZ(T:Txt K mg a):xy P w K mg base (CXN P w) 6 a.q0y a.zM ["self","at","number"] (xpB P w K mg base a):=by
 refine T.zN.okNC T.xec xav (fun vs H Q E h=>?_) (fun A outer s H vs Q E hr h=>?_)
 ·obtain⟨F,B,s,b,i,m,rfl,_⟩:=h;rfl
 ·obtain⟨F,B,st,b,i,m,rfl,hF,hB,hT,hi,q⟩:=h;have nd:=xav.nd;refine⟨_,(xk (xO (yc ⟨rfl,rfl,rfl⟩ (xw (cv 0) rfl) T.q3v T.q11 (vG T) (hr.mono (by decide)) T.jb .nil (xa (xw (cv 0) rfl) (xa (cv 1) (xa (cv 2) (xa (zB (c:=q0p) (P:=yk) (qs:=zD) (fns:=[]) rfl T.q3h (q:="Store.note_down.<locals>.<lambda>") (by kernel_rfl) (.head _) (by kernel_rfl) (by kernel_rfl)) xc))))))),?_⟩;have S:=hB.st b;have hpen:H (B.S b).p=some (.ins a.q0i (B.S b).dp (zb st.cnt (.ref F.f))):=S.p;walk_at"w";refine⟨(B.S b).st,_,(B.S b).dx,_,.ref (B.S b).p,rfl,S.st,T.q0l,T.q2d,rfl,?_⟩;walk_at"w";refine⟨(B.S b).p,(B.S b).dp,_,rfl,S.p,rfl,?_⟩;walk_at"w";refine⟨(B.S b).st,_,(B.S b).dx,_,.ref (B.S b).na,rfl,S.st,T.q0l,T.q18,rfl,?_⟩;walk_at"w";refine⟨hT.2.2.1,[],rfl,(fun x v m=>nomatch m),fun g H2 hg s2 hc=>?_⟩;walk_at"w";have hB2:=hB.same s2;have S2:=hB2.st b;have hm:(B.S b).na∈BS B:=by cases b<;> simp
  have kt:∀{H':Hp},Kp (B.p::(B.S b).na::F.M) H2 H'→Kp (BF F B) H H':=fun k=>(Kp.of s2).trans (xlV k hm);rw[(hB.sp b).1];refine⟨F,B.p,B.dp,(B.S b).na,g,.int i,.int m,_,_,st.cnt,st.fl,fun _=>.non,rfl,hF,hB2.pen,hB2.c0,hB2.fm,hB2.nM (.inl (by simp)),hB2.nM (.inl hm),⟨_,_,_,_,_,_,_,_,xcw T,hc,fun s' H' Q' q'=>⟨.int s',rfl,rfl,q'⟩⟩,S2.na,.lst _ (i:Int) (by lia) (by rw[ao];lia),fun hfo H' k' hp' hat' hl'=>?_,fun an hfo d H' k' hp' hat' hl' _ hd=>?_⟩
  ·rw[xdj hfo]at q;exact q.1 rfl H' (kt k') (hB2.noted (v:=some m) k' hp' hat' hl')
  ·cases an with
   |none=>
    rw[xcv hfo]at q;refine q.2 _ rfl d H' (kt k') (hB2.ahead (fun c u e n=>?_) hp' hat') hd
    by_cases hb:c=(B.S b).na
    ·rw[hb]at e⊢;rw[S2.na]at e;rw[hl'];exact e
    ·exact k' c u e (by simp only[av,not_or]at n⊢;exact⟨n.1,hb,n.2⟩)
   |some x=>
    rw[xdk hfo]at q;exact q.2 _ rfl d H' (kt k') (hB2.noted (v:=none) k' hp' hat' hl') hd
theorem xhl(T:Txt K mg a):xy P w K mg base (CXN P w) 7 a.q1E a.xaK ["self"] (xnZ P w K mg base a):=by
 refine T.q2i.okN xcL (fun vs H Q E h=>?_) (fun cdv A outer s H vs Q E hr h=>?_)
 ·obtain⟨F,B,s,b,rfl,_⟩:=h;rfl
 ·obtain⟨F,B,st,b,rfl,hF,hB,hT,h2,q⟩:=h;have nd:=xcL.nd;refine⟨_,(xg (xO (yc ⟨rfl,rfl,rfl⟩ (cv 0) T.q0l T.q1W (uZ T) (hr.mono (by decide)) T.vF .nil (xa xj (xa xj xc))))
  (xk (xO (yc ⟨rfl,rfl,rfl⟩ (cv 0) T.q0l T.q1W (uZ T) (hr.mono (by decide)) T.vF .nil (xa xj (xa xj xc)))))),?_⟩
  walk_at"w";refine⟨(B.S b).st,(B.S b).dx,_,rfl,(hB.st b).st,rfl,?_⟩;walk_at"w";have q1:=q.step
  by_cases hfo:F.fo st.fl st.cnt=none
  ·refine⟨F,B,st,b,0,0,rfl,hF,hB,hT,by lia,?_⟩;refine⟨fun e H1 k1 hB1=>?_,q1.2⟩;have q2:=q1.1 e H1 k1 hB1 k1;rw[ym hfo,xdi]at hB1;have hT1:=hT.kp k1 hB.muF;walk_at"w";refine⟨(B.S b).st,(B.S b).dx,_,rfl,(hB1.st b).st,rfl,?_⟩;walk_at"w";refine⟨F,B,_,b,1,0,rfl,hF,hB1,hT1,?_,q2⟩;unfold w1;rw[hfo];show 1<(upB st.notes b ((st.notes b).set 0 (some 0)) b).length;rw[show upB st.notes b ((st.notes b).set 0 (some 0)) b=(st.notes b).set 0 (some 0)from if_pos rfl,cH];lia
  ·refine⟨F,B,st,b,0,0,rfl,hF,hB,hT,by lia,?_⟩;refine⟨fun e=>?_,q1.2⟩;rw[ya hfo]at e;cases e
end
theorem zf{F:FM}{s:BdS}{y:Wr}(h:F.fo s.fl s.cnt=none):w1 F s y={y.up s with cnt:=s.cnt+1,fl:=s.fl}:=by unfold w1;rw[h]
theorem xR.chg{a:Adr}{F:FM}{H:Hp}{B:BA}{s:BdS}{y:Wr}{ys:List Wr}{q R:Hp→Prop}{E:XK}(h:xR a F H B (xB F s (y::ys)) q E)
  (c:F.fo s.fl s.cnt=none→∀H1,Kp (BF F B) H H1→xx a F H1 B {y.up s with cnt:=s.cnt+1,fl:=s.fl}→xR a F H1 B (xB F {y.up s with cnt:=s.cnt+1,fl:=s.fl} ys) q E→R H1):xR a F H B (xB F s [y]) R E:=by
 have h1:=h.step
 by_cases hfo:F.fo s.fl s.cnt=none
 ·rw[zf hfo]at h1;refine⟨fun e H1 k1 hB1=>?_,h1.2⟩;have q1:=h1.1 e H1 k1 hB1 k1;rw[ym hfo,xdi,zf hfo]at hB1;exact c hfo H1 k1 hB1 q1
 ·refine⟨fun e=>?_,h1.2⟩;rw[ya hfo]at e;cases e
theorem xR.two{a:Adr}{F:FM}{H:Hp}{B:BA}{s:BdS}{y z:Wr}{ys:List Wr}{q R:Hp→Prop}{E:XK}(h:xR a F H B (xB F s (y::z::ys)) q E)
  (c:∀H1 s1,s1={z.up {y.up s with cnt:=s.cnt+1,fl:=s.fl}with cnt:=s.cnt+1+1,fl:=s.fl}→Kp (BF F B) H H1→xx a F H1 B s1→xR a F H1 B (xB F s1 ys) q E→R H1):xR a F H B (xB F s [y,z]) R E:=by
 by_cases hfo:F.fo s.fl s.cnt=none
 ·rw[ym hfo,zf hfo]at h;rw[ym hfo,zf hfo];exact h.chg fun hfo2 H1 k1 hB1 q1=>c H1 _ rfl k1 hB1 q1
 ·rw[ya hfo]at h;rw[ya hfo];exact⟨(fun e=>by cases e),h.2⟩
theorem xR.kp{a:Adr}{F:FM}{H H1:Hp}{B:BA}{r:BdS×Option Int}{q:Hp→Prop}{E:XK}(h:xR a F H B r q E)(k:Kp (BF F B) H H1):xR a F H1 B r q E:=
 ⟨fun e H2 k2 hB=>h.1 e H2 (k.trans k2) hB,fun c e d H2 k2 hB hd=>h.2 c e d H2 (k.trans k2) hB hd⟩
theorem xR.same{a:Adr}{F:FM}{H H1:Hp}{B:BA}{r:BdS×Option Int}{q:Hp→Prop}{E:XK}(h:xR a F H B r q E)(k:xf H H1):xR a F H1 B r q E:=h.kp (Kp.of k)
theorem xR.done{a:Adr}{F:FM}{H:Hp}{B:BA}{s:BdS}{q:Hp→Prop}{E:XK}(h:xR a F H B (xB F s []) q E)(hB:xx a F H B s):q H:=h.1 rfl H (Kp.of (xf.refl _)) hB
def startB(s:BdS):Bool:=if s.mark (!s.mr)=("trial":Str)∧s.ct≠0 then !s.mr else s.mr
def yo(s:BdS):List Wr:=if s.mark (!s.mr)=("trial":Str)then(if s.ct=0 then[.mark (!s.mr) "bad"]else[.cter (s.ct - 1)])else[]
def zc(b:Option Bool)(r:BdS×Option Int):BdS×Option Int:=match r.2 with
 |none=>({r.1 with run:=b},none)
 |some c=>({r.1 with run:=none},some c)
def xn0(P:ak)(w:World)(K:ag)(mg:Str→Option Value)(base:Heap)(a:Adr):Sp:=fun vs H Q E=>∃(F:FM) (B:BA) (s:BdS),vs=[.ref B.bd]∧um P w K mg base F∧xx a F H B s∧Tbs H∧xR a F H B (xB F s (yo s)) (Q (.int (bI (startB s)))) E
def xgD(F:FM)(s:BdS):BdS×Option Int:=zc (some (startB s)) (xB F {s with run:=none} (yo s))
def xju(P:ak)(w:World)(K:ag)(mg:Str→Option Value)(base:Heap)(a:Adr):Sp:=fun vs H Q E=>∃(F:FM) (B:BA) (s:BdS),vs=[.ref B.bd]∧um P w K mg base F∧xx a F H B s∧Tbs H∧xR a F H B (xgD F s) (Q (.int (bI (startB s)))) E
def xkL(P:ak)(w:World)(K:ag)(mg:Str→Option Value)(base:Heap)(a:Adr):Sp:=fun vs H Q E=>∃(F:FM) (B:BA) (s:BdS) (b:Bool),vs=[.ref B.bd,.int (bI b)]∧um P w K mg base F∧xx a F H B s∧Tbs H∧xR a F H B (xB F s [.mark b "good",.mrk b]) (Q .non) E
theorem xpC{y:Wr}{s:BdS}:(y.up s).size=s.size∧(y.up s).run=s.run:=by cases y<;> exact⟨rfl,rfl⟩
theorem xpD{y:Wr}{s:BdS}{x:Int}:(y.tn x s).size=s.size∧(y.tn x s).run=s.run:=by cases y<;> exact⟨rfl,rfl⟩
theorem xfD{F:FM}:∀(ys:List Wr) (s:BdS),(xB F s ys).1.size=s.size∧(xB F s ys).1.run=s.run
 |[],_=>⟨rfl,rfl⟩
 |y::ys,s=>by
  have h1:(w1 F s y).size=s.size∧(w1 F s y).run=s.run:=by
   unfold w1
   split
   ·exact xpC
   ·exact⟨rfl,rfl⟩
   ·exact xpD
  by_cases e:F.fo s.fl s.cnt=none
  ·rw[ym e];have:=xfD (F:=F) ys (w1 F s y);exact⟨this.1.trans h1.1,this.2.trans h1.2⟩
  ·rw[ya e];exact h1
section
variable {P:ak} {w:World} {K:ag} {mg:Str→Option Value} {base:Heap} {a:Adr}
theorem xdm(T:Txt K mg a):xy P w K mg base (CXN P w) 7 a.q0u a.uE ["self"] (xn0 P w K mg base a):=by
 refine T.q01.okN jH (fun vs H Q E h=>?_) (fun cdv A outer s H vs Q E hr h=>?_)
 ·obtain⟨F,B,s,rfl,_⟩:=h;rfl
 ·obtain⟨F,B,st,rfl,hF,hB,hT,q⟩:=h;have nd:=jH.nd;refine⟨_,(xg (xE (i:=1) nd rfl (aA rfl) (xcA (vi hr) (xw (cv 0) rfl) xP (fun _ _=>rfl)))
  (xg (xE (i:=2) nd rfl (aA rfl) (xQ (cv 0) T.q0a T.q0I (yB T) (hr.mono (by decide)) T.yM .nil xt))
  (xg (xM (xJ xbU (xA xV (xw (cv 0) rfl) (cv 2) (fun _ _=>rfl)) xP) (xk (xv (cv 1))) xC)
  (xg (xE (i:=3) nd rfl (aA rfl) (xcA (vi hr) (xw (cv 0) rfl) xP (fun _ _=>rfl)))
  (xg (xM (xJ zL (cv 3) xj) (xg (xO (yc ⟨rfl,rfl,rfl⟩ (cv 0) T.q0a T.q0n (yd T) (hr.mono (by decide)) T.yf .nil (xa (xw (cv 0) rfl) (xa (cv 2) (xa xP xc)))))
  (xk (xv (cv 1)))) xC)
  (xg (xO (yc ⟨rfl,rfl,rfl⟩ (cv 0) T.q0a T.q0n (yd T) (hr.mono (by decide)) T.yf .nil (xa (xw (cv 0) rfl) (xa xP (xa (xu yz (cv 3) xj) xc)))))
  (xk (xv (cv 2))))))))),?_⟩
  have atM:atI [V.str (st.mark false),V.str (st.mark true)] (bI (!st.mr))=some (.str (st.mark (!st.mr))):=by cases st.mr<;> rfl
  unfold yo startB at q;walk_at"w";refine⟨B.bd,_,B.dx,_,.ref B.se,rfl,hB.bd,T.q0a,T.q0j,rfl,?_⟩;walk_at"w";refine⟨B.se,.int (bI st.mr),rfl,uR.k (k:=.inr "marker") hB.se,?_⟩;walk_at"w";refine⟨B.bd,B.dx,_,rfl,hB.bd,rfl,?_⟩;walk_at"w";refine⟨F,B,st,rfl,hB,?_⟩;walk_at"w";refine⟨B.bd,_,B.dx,_,.ref B.ma,rfl,hB.bd,T.q0a,T.q0h,rfl,?_⟩;walk_at"w";refine⟨B.ma,_,_,_,rfl,rfl,SqL.of hB.ma,atM,?_⟩;walk_at"w";refine⟨fun c=>?_,fun c=>?_⟩
  ·walk_at"w";have e:¬st.mark (!st.mr)=("trial":Str):=fun e=>by
    rw[show br "trial"=("trial":Str)from rfl,decide_eq_true e]at c;cases c
   rw[if_neg e,if_neg (fun z=>e z.1)]at q;exact q.done hB
  have e:st.mark (!st.mr)=("trial":Str):=of_decide_eq_true (p:=st.mark (!st.mr)=br "trial") (by rw[←c7];exact c);rw[if_pos e]at q;walk_at"w";refine⟨B.bd,_,B.dx,_,.ref B.se,rfl,hB.bd,T.q0a,T.q0j,rfl,?_⟩;walk_at"w";refine⟨B.se,.int st.ct,rfl,uR.k (k:=.inr "counter") hB.se,?_⟩;walk_at"w";refine⟨fun c2=>?_,fun c2=>?_⟩
  ·have c2:st.ct=0:=of_decide_eq_true c2;rw[if_pos c2,if_neg (fun z=>z.2 c2)]at q;walk_at"w";refine⟨B.bd,B.dx,_,rfl,hB.bd,rfl,?_⟩;walk_at"w";refine⟨B.bd,_,B.dx,_,.ref B.ma,rfl,hB.bd,T.q0a,T.q0h,rfl,?_⟩;walk_at"w";refine⟨F,B,st,.mark (!st.mr) "bad",B.ma,_,_,rfl,hF,hB,hT,rfl,q.chg fun _ H1 k1 hB1 q1=>?_⟩;walk_at"w";exact q1.done hB1
  ·have c2:¬st.ct=0:=of_decide_eq_false c2;rw[if_neg c2,if_pos ⟨e,c2⟩]at q;walk_at"w";refine⟨B.bd,B.dx,_,rfl,hB.bd,rfl,?_⟩;walk_at"w";refine⟨B.bd,_,B.dx,_,.ref B.se,rfl,hB.bd,T.q0a,T.q0j,rfl,?_⟩;walk_at"w";refine⟨F,B,st,.cter (st.ct - 1),B.se,_,_,rfl,hF,hB,hT,rfl,q.chg fun _ H1 k1 hB1 q1=>?_⟩;walk_at"w";exact q1.done hB1
theorem xlW(B:BA)(n:Int)(r v:V):uy (br "running") v (bdF B n r)=bdF B n v:=rfl
theorem xgE{F:FM}{H H1:Hp}{B:BA}{o:HO}(k:Kp (BF F B) H H1):Kp (BF F B) H (upd H1 B.bd o):=k.wr (by simp)
theorem xhm(T:Txt K mg a):xy P w K mg base (CXN P w) 8 a.q09 a.vS ["self"] (xju P w K mg base a):=by
 refine T.q2j.okN xcM (fun vs H Q E h=>?_) (fun cdv A outer s H vs Q E hr h=>?_)
 ·obtain⟨F,B,s,rfl,_⟩:=h;rfl
 ·obtain⟨F,B,st,rfl,hF,hB,hT,q⟩:=h;have nd:=xcM.nd;refine⟨_,(xg (yh (cv 0) zg rfl)
  (xg (yh (cv 0) (xhP ⟨rfl,rfl,rfl⟩ (cv 0) T.q0a T.q22 (xdm T) (hr.mono (by decide)) T.xdJ .nil) rfl)
  (xk (xv (xw (cv 0) rfl))))),?_⟩
  walk_at"w";refine⟨B.bd,_,B.dx,_,rfl,hB.bd,T.q0a,T.q0o,by walk_at"few",?_⟩;rw[xlW];have hB0:=hB.rune (r:=none);have k0:Kp (BF F B) H (upd H B.bd (.ins a.q0b B.dx (bdF B st.size (vH none)))):=xgE (Kp.of (xf.refl _));have t0:=hT.kp k0 hB.muF;rw[show(V.non)=vH none from rfl];generalize upd H B.bd (.ins a.q0b B.dx (bdF B st.size (vH none)))=H0 at hB0 k0 t0;walk_at"w";refine⟨B.bd,B.dx,_,rfl,hB0.bd,rfl,?_⟩;walk_at"w";unfold xgD zc at q;have hrn:=xfD (F:=F) (yo st) {st with run:=none};generalize hr9:xB F {st with run:=none} (yo st)=r at q hrn;refine⟨F,B,_,rfl,hF,hB0,t0,?_⟩;rw[show xB F {st with run:=none} (yo {st with run:=none})=r from hr9];obtain⟨s1,rc⟩:=r;cases rc with
  |some c=>
   refine⟨(fun z=>by cases z),fun c' e d H1 k1 hB1 hd=>?_⟩;have:({s1 with run:=none}:BdS)=s1:=by rw[show(none:Option Bool)=s1.run from hrn.2.symm]
   rw[this]at q;exact q.2 c' e d H1 (k0.trans k1) hB1 hd
  |none=>
   refine⟨fun _ H1 k1 hB1=>?_,fun c e=>by cases e⟩;walk_at"w";refine⟨B.bd,_,B.dx,_,rfl,hB1.bd,T.q0a,T.q0o,by walk_at"few",?_⟩;rw[xlW];walk_at"w";refine⟨B.bd,_,B.dx,_,_,rfl,xm,T.q0a,T.q0o,rfl,?_⟩;exact q.1 rfl _ (xgE (k0.trans k1)) (hB1.rune (r:=some (startB st)))
theorem xer(T:Txt K mg a):xy P w K mg base (CXN P w) 7 a.q0H a.vE ["self","bank"] (xkL P w K mg base a):=by
 refine T.q1A.okN xaw (fun vs H Q E h=>?_) (fun cdv A outer s H vs Q E hr h=>?_)
 ·obtain⟨F,B,s,b,rfl,_⟩:=h;rfl
 ·obtain⟨F,B,st,b,rfl,hF,hB,hT,q⟩:=h;have nd:=xaw.nd;refine⟨_,(xg (xO (yc ⟨rfl,rfl,rfl⟩ (cv 0) T.q0a T.q0n (yd T) (hr.mono (by decide)) T.yf .nil (xa (xw (cv 0) rfl) (xa (cv 1) (xa xP xc)))))
  (xk (xO (yc ⟨rfl,rfl,rfl⟩ (cv 0) T.q0a T.q0n (yd T) (hr.mono (by decide)) T.yf .nil (xa (xw (cv 0) rfl) (xa xP (xa (cv 1) xc))))))),?_⟩
  walk_at"w";refine⟨B.bd,B.dx,_,rfl,hB.bd,rfl,?_⟩;walk_at"w";refine⟨B.bd,_,B.dx,_,.ref B.ma,rfl,hB.bd,T.q0a,T.q0h,rfl,?_⟩;walk_at"w";refine⟨F,B,st,.mark b "good",B.ma,_,_,rfl,hF,hB,hT,rfl,q.chg fun _ H1 k1 hB1 q1=>?_⟩;have t1:=hT.kp k1 hB.muF;walk_at"w";refine⟨B.bd,B.dx,_,rfl,hB1.bd,rfl,?_⟩;walk_at"w";refine⟨B.bd,_,B.dx,_,.ref B.se,rfl,hB1.bd,T.q0a,T.q0j,rfl,?_⟩;walk_at"w";refine⟨F,B,_,.mrk b,B.se,_,_,rfl,hF,hB1,t1,rfl,q1.chg fun _ H2 k2 hB2 q2=>?_⟩;exact q2.done hB2
end
def xgF(a:Adr):Sp:=fun vs H Q _=>∃(S:SA) (cells:List Int) (notes:List (Option Int)) (n i:Int) (fl:V),vs=[.ref S.st,.int i]∧zu a H S cells notes n fl∧inR cells i∧Q .non H
def xij(a:Adr):Sp:=fun vs H Q _=>∃(S:SA) (cells:List Int) (notes:List (Option Int)) (n i v:Int) (fl:V),vs=[.ref S.st,.int i]∧zu a H S cells notes n fl∧inR cells i∧cells[i.toNat]? =some v∧Q (.int v) H
def xpE:List (Str×V)→Sp:=fun fv vs H Q _=>∃v:V,fv=([]:List (Str×V))∧vs=[v]∧Q v H
abbrev xgG:Expr:=vk 3 (xa5 ((xI yT).getD 1 (.Pass ⟨0,0,0,0⟩)))
theorem xkM:yS ["other"] ["other"] [] (yg xgG):=⟨rfl,rfl,rfl,by decide+kernel,rfl,by decide+kernel,by decide+kernel,by decide+kernel⟩
def xjv(P:ak)(w:World)(K:ag)(mg:Str→Option Value)(base:Heap)(a:Adr):Sp:=fun vs H Q E=>∃(F:FM) (B:BA) (s:BdS) (b:Bool) (i:Nat) (v:Int),vs=[.ref (B.S b).st,.int i,.int v]∧um P w K mg base F∧xx a F H B s∧Tbs H∧i<(s.cells b).length∧xR a F H B (xB F s [.cell b i v]) (Q .non) E
def xpF(P:ak)(w:World)(K:ag)(mg:Str→Option Value)(base:Heap)(a:Adr):Sp:=fun vs H Q E=>∃(F:FM) (B:BA) (s:BdS) (b:Bool) (m:Nat),vs=[.ref (B.S b).st,.int m]∧um P w K mg base F∧xx a F H B s∧Tbs H∧(s.notes b).length=2∧xR a F H B (xB F s [.note b (m%2) m]) (Q .non) E
section
variable {P:ak} {w:World} {K:ag} {mg:Str→Option Value} {base:Heap} {a:Adr}
theorem vx(T:Txt K mg a):xy P w K mg base CX0 1 a.q0m a.zK ["self","at"] (xgF a):=by
 refine T.q0F.ok vw (fun vs H Q E h=>?_) (fun cdv A outer s H vs Q E hr h=>?_)
 ·obtain⟨S,cells,notes,n,i,fl,rfl,_⟩:=h;rfl
 ·obtain⟨S,cells,notes,n,i,fl,rfl,hS,hi,k⟩:=h;have nd:=vw.nd;refine⟨_,(xk (xM (PW.pt (xaT (xJ xfi (cv 1) xj) (xa8 (xJ xnu (cv 1) (xN xU (by rfl) T.q12 yK (xa (xw (cv 0) rfl) xc)))))) (xk xa4) xC)),?_⟩;walk_at"w";refine⟨fun e=>absurd (of_decide_eq_true e) (by have:=hi.1;omega),fun e=>?_⟩;walk_at"w";refine⟨S.st,_,S.dx,_,.ref S.ca,rfl,hS.st,T.q0l,T.q1L,rfl,?_⟩;walk_at"w";refine⟨S.ca,_,rfl,.inl (SqL.of hS.ca),?_⟩;walk_at"w";rw[ao];refine⟨fun e1=>absurd (of_decide_eq_true e1) (by have:=hi.2;omega),fun e1=>?_⟩;exact k
theorem xik(T:Txt K mg a):xy P w K mg base CX0 2 a.q1Q a.xbA ["self","at"] (xij a):=by
 refine T.q2J.ok xdz (fun vs H Q E h=>?_) (fun cdv A outer s H vs Q E hr h=>?_)
 ·obtain⟨S,cells,notes,n,i,v,fl,rfl,_⟩:=h;rfl
 ·obtain⟨S,cells,notes,n,i,v,fl,rfl,hS,hi,hv,k⟩:=h;have nd:=xdz.nd;refine⟨_,(xg (xO (zd (cv 0) T.q0l T.q1G (vx T) (hr.mono (by decide)) T.vL .nil xt (xa (cv 1) xc)))
  (xk (xv (xA xV (xw (cv 0) rfl) (cv 1) (fun _ _=>rfl))))),?_⟩
  walk_at"w";refine⟨S.st,S.dx,_,rfl,hS.st,rfl,?_⟩;walk_at"w";refine⟨S,cells,notes,n,i,fl,rfl,hS,hi,?_⟩;walk_at"w";refine⟨S.st,_,S.dx,_,.ref S.ca,rfl,hS.st,T.q0l,T.q1L,rfl,?_⟩;walk_at"w";refine⟨S.ca,_,i,.int v,rfl,rfl,SqL.of hS.ca,xf3 hi.1 hv,?_⟩;exact k
theorem xes(T:Txt K mg a):yA P w K mg base CX0 1 "<lambda>" "Store.write.<locals>.<lambda>" (uv xgG) (.expr (uw xgG)) (yg xgG) ["other"] xpE:=by
 refine xbf xkM (fun fv vs H Q E h=>?_) (fun _ _ _ _ _ us hl=>match us,hl with|[_],_=>rfl) (fun A outer s H f clos cdv fv vs Q E hr h=>?_)
 ·obtain⟨v,rfl,rfl,_⟩:=h;exact⟨rfl,rfl⟩
 ·obtain⟨v,rfl,rfl,k⟩:=h;have nd:=xkM.nd;refine⟨_,(cv 0),?_⟩;walk_at"w";exact k
theorem xhn(T:Txt K mg a):xy P w K mg base (CXN P w) 6 a.q08 a.vR ["self","at","sign"] (xjv P w K mg base a):=by
 refine T.vT.okNC T.xhe xcJ (fun vs H Q E h=>?_) (fun A outer s H vs Q E hr h=>?_)
 ·obtain⟨F,B,s,b,i,v,rfl,_⟩:=h;rfl
 ·obtain⟨F,B,st,b,i,v,rfl,hF,hB,hT,hi,q⟩:=h;have nd:=xcJ.nd;refine⟨_,(xg (xO (zd (cv 0) T.q0l T.q1G (vx T) (hr.mono (by decide)) T.vL .nil xt (xa (cv 1) xc)))
  (xk (xO (yc ⟨rfl,rfl,rfl⟩ (xw (cv 0) rfl) T.q3v T.q11 (vG T) (hr.mono (by decide)) T.jb .nil (xa (xw (cv 0) rfl) (xa (cv 1) (xa (cv 2) (xa (zB (c:=q0N) (P:=yU) (qs:=vm) (fns:=[]) rfl T.q3U (q:="Store.write.<locals>.<lambda>") (by kernel_rfl) (.head _) (by kernel_rfl) (by kernel_rfl)) xc)))))))),?_⟩
  have S:=hB.st b;walk_at"w";refine⟨(B.S b).st,(B.S b).dx,_,rfl,S.st,rfl,?_⟩;walk_at"w";refine⟨B.S b,_,_,_,i,_,rfl,S,⟨by lia,by lia⟩,?_⟩;walk_at"w";refine⟨(B.S b).st,_,(B.S b).dx,_,.ref (B.S b).p,rfl,S.st,T.q0l,T.q2d,rfl,?_⟩;walk_at"w";refine⟨(B.S b).p,(B.S b).dp,_,rfl,S.p,rfl,?_⟩;walk_at"w";refine⟨(B.S b).st,_,(B.S b).dx,_,.ref (B.S b).ca,rfl,S.st,T.q0l,T.q1L,rfl,?_⟩;walk_at"w";refine⟨hT.2.1,[],rfl,(fun x v m=>nomatch m),fun g H2 hg s2 hc=>?_⟩;walk_at"w";have hB2:=hB.same s2;have S2:=hB2.st b;have hm:(B.S b).ca∈BS B:=by cases b<;> simp
  have kt:∀{H':Hp},Kp (B.p::(B.S b).ca::F.M) H2 H'→Kp (BF F B) H H':=fun k=>(Kp.of s2).trans (xlV k hm);rw[(hB.sp b).1];refine⟨F,B.p,B.dp,(B.S b).ca,g,.int i,.int v,_,_,st.cnt,st.fl,fun x=>.int x,rfl,hF,hB2.pen,hB2.c0,hB2.fm,hB2.nM (.inl (by simp)),hB2.nM (.inl hm),⟨_,_,_,_,_,_,_,_,xes T,hc,fun s' H' Q' q'=>⟨.int s',rfl,rfl,q'⟩⟩,S2.ca,.lst _ (i:Int) (by lia) (by rw[ao];lia),fun hfo H' k' hp' hat' hl'=>?_,fun an hfo d H' k' hp' hat' hl' _ hd=>?_⟩
  ·rw[xdj hfo]at q;exact q.1 rfl H' (kt k') (hB2.celled k' hp' hat' hl')
  ·cases an with
   |none=>
    rw[xcv hfo]at q;refine q.2 _ rfl d H' (kt k') (hB2.ahead (fun c u e n=>?_) hp' hat') hd
    by_cases hb:c=(B.S b).ca
    ·rw[hb]at e⊢;rw[S2.ca]at e;rw[hl'];exact e
    ·exact k' c u e (by simp only[av,not_or]at n⊢;exact⟨n.1,hb,n.2⟩)
   |some x=>
    rw[xdk hfo]at q;exact q.2 _ rfl d H' (kt k') (hB2.celled k' hp' hat' hl') hd
theorem xil(T:Txt K mg a):xy P w K mg base (CXN P w) 7 a.q1R a.xbB ["self","number"] (xpF P w K mg base a):=by
 refine T.q2K.okN xdA (fun vs H Q E h=>?_) (fun cdv A outer s H vs Q E hr h=>?_)
 ·obtain⟨F,B,s,b,m,rfl,_⟩:=h;rfl
 ·obtain⟨F,B,st,b,m,rfl,hF,hB,hT,h2,q⟩:=h;have nd:=xdA.nd;refine⟨_,(xk (xO (yc ⟨rfl,rfl,rfl⟩ (cv 0) T.q0l T.q1W (uZ T) (hr.mono (by decide)) T.vF .nil (xa (xu yq (cv 1) xj) (xa (cv 1) xc))))),?_⟩;walk_at"w";refine⟨(B.S b).st,(B.S b).dx,_,rfl,(hB.st b).st,rfl,?_⟩;walk_at"w";walk_at"ss";exact⟨F,B,st,b,m%2,m,rfl,hF,hB,hT,by lia,q⟩
end
section
variable {P:ak} {w:World} {K:ag} {mg:Str→Option Value} {base:Heap} {a:Adr}
def xal(r:xp)(C:List Int)(d:Int):List Int:=match r with
 | .take to st _=>C.set d.toNat (C.getD (st+d - to).toNat 0)
 | .put to sg=>C.set d.toNat (sg.getD (d - to).toNat 0)
def doP(r:xp)(C cs:List Int):List Int:=cs.foldl (xal r) C
theorem xm1(r:xp)(C:List Int)(d:Int):(xal r C d).length=C.length:=by cases r<;> simp[xal]
theorem xkN(r:xp):∀(cs C:List Int),(doP r C cs).length=C.length
 |[],_=>rfl
 |d::cs,C=>by
  show(doP r (xal r C d) cs).length=_;rw[xkN r cs,xm1]
abbrev xbN:Expr:=vk 1 (vk 1 (xa5 ((xo2 ((xI ud).getD 0 (.Pass ⟨0,0,0,0⟩))).getD 0 (.Pass ⟨0,0,0,0⟩))))
theorem xkO:yS ["at","store"] ["at"] ["store"] (yg xbN):=⟨rfl,rfl,rfl,by decide+kernel,rfl,by decide+kernel,by decide+kernel,by decide+kernel⟩
abbrev xr3(H:Hp)(f:Addr)(fv:List (Str×V)):Prop:=yJ H f "<lambda>" "do_piece.<locals>.<lambda>" (uv xbN) (.expr (uw xbN)) (yg xbN) fv
def xkP(a:Adr):List (Str×V)→Sp:=fun fv vs H Q _=>∃(S:SA) (cells:List Int) (notes:List (Option Int)) (n i v:Int) (fl:V),fv=([("store",.ref S.st)]:List (Str×V))∧vs=[.int i]∧zu a H S cells notes n fl∧inR cells i∧cells[i.toNat]? =some v∧Q (.int v) H
theorem xgH(T:Txt K mg a):yA P w K mg base CX0 3 "<lambda>" "do_piece.<locals>.<lambda>" (uv xbN) (.expr (uw xbN)) (yg xbN) ["at"] (xkP a):=by
 refine xbf xkO (fun fv vs H Q E h=>?_) (fun _ _ _ _ _ us hl=>match us,hl with|[_],_=>rfl) (fun A outer s H f clos cdv fv vs Q E hr h=>?_)
 ·obtain⟨S,cells,notes,n,i,v,fl,rfl,rfl,_⟩:=h;exact⟨rfl,rfl⟩
 ·obtain⟨S,cells,notes,n,i,v,fl,rfl,rfl,hS,hi,hv,k⟩:=h;have nd:=xkO.nd;refine⟨_,(zd (cv 1) T.q0l T.q4j (xik T) (hr.mono (by decide)) T.xi0 .nil xt (xa (cv 0) xc)),?_⟩;walk_at"w";refine⟨S.st,S.dx,_,rfl,hS.st,rfl,?_⟩;exact⟨S,cells,notes,n,i,v,fl,rfl,hS,hi,hv,k⟩
def xn1(a:Adr):Sp:=fun vs H Q E=>∃(p dx u:Addr) (to n cell v:Int) (f:V) (sg:List Int),vs=[.ref p,.int cell,f]∧H p=some (.ins a.q0f dx (xeJ to u n))∧H u=some (.tup (sg.map V.int))∧0≤cell - to∧sg[(cell - to).toNat]? =some v∧Q (.int v) H
def xn2(a:Adr):Sp:=fun vs H Q _=>∃(p dx:Addr) (to st c cell:Int) (f:Addr) (fv:List (Str×V)),vs=[.ref p,.int cell,.ref f]∧H p=some (.ins a.q0c dx (xb4 to st c))∧xr3 H f fv∧xkP a fv [.int (st+cell - to)] H Q E0
theorem xfE(T:Txt K mg a):xy P w K mg base CX0 4 a.q0Y a.jv ["self","cell","read"] (xn2 a):=by
 refine T.q1X.ok xbH (fun vs H Q E h=>?_) (fun cdv A outer s H vs Q E hr h=>?_)
 ·obtain⟨p,dx,to,st,c,cell,f,fv,rfl,_⟩:=h;rfl
 ·obtain⟨p,dx,to,st,c,cell,f,fv,rfl,hp,hf,k⟩:=h;have nd:=xbH.nd;refine⟨_,(xk (xv (xnA 2 (xgH T) (hr.mono (by decide)) xt (xa (zd (cv 0) T.q0g T.q2r (xay T) (hr.mono (by decide)) T.xaO .nil xt (xa (cv 1) xc)) xc)))),?_⟩;walk_at"w";refine⟨f,fv,rfl,hf,?_⟩;walk_at"w";refine⟨p,dx,_,rfl,hp,rfl,?_⟩;walk_at"w";refine⟨p,dx,to,st,c,cell,rfl,hp,?_⟩;walk_at"w";exact⟨hf,k⟩
theorem xgI(T:Txt K mg a):xy P w K mg base CX0 1 a.q1h a.xac ["self","cell","read"] (xn1 a):=by
 refine T.q17.ok xb0 (fun vs H Q E h=>?_) (fun cdv A outer s H vs Q E hr h=>?_)
 ·obtain⟨p,dx,u,to,n,cell,v,f,sg,rfl,_⟩:=h;rfl
 ·obtain⟨p,dx,u,to,n,cell,v,f,sg,rfl,hp,hu,hi,hv,k⟩:=h;have nd:=xb0.nd;refine⟨_,(xk (xv (xA xH (xw (cv 0) rfl) (xu yz (cv 1) (xw (cv 0) rfl)) (fun _ _=>rfl)))),?_⟩;walk_at"w";refine⟨p,_,dx,_,.ref u,rfl,hp,T.q1F,T.q3j,rfl,?_⟩;walk_at"w";refine⟨p,_,dx,_,.int to,rfl,hp,T.q1F,T.q2X,rfl,?_⟩;walk_at"w";exact⟨u,_,_,.int v,rfl,rfl,SqT.of hu,xf3 hi hv,k⟩
def xho(r:xp)(L:Nat)(d:Int):Prop:=0≤d∧d<L∧match r with
 | .take to st _=>0≤st+d - to∧st+d - to<L
 | .put to sg=>0≤d - to∧d - to<sg.length
theorem za.kpB{H H':Hp}{F:FM}{B:BA}{s:BdS}{o:Addr}{r:xp}(h:za K a H o r)(hB:xx a F H B s)(hn:o∉BF F B)(k:Kp (BF F B) H H'):za K a H' o r:=by
 cases r with
 |take to st c=>obtain⟨dx,h⟩:=h;exact⟨dx,k _ _ h hn⟩
 |put to sg=>obtain⟨dx,u,h1,h2⟩:=h;exact⟨dx,u,k _ _ h1 hn,k _ _ h2 fun z=>by
   obtain⟨u',q',m'⟩:=hB.muF u z;rw[h2]at q';cases q';exact m'⟩
def xdn(r:xp)(C:List Int)(d:Int):Int:=match r with
 | .take to st _=>C.getD (st+d - to).toNat 0
 | .put to sg=>sg.getD (d - to).toNat 0
theorem xhW(r:xp)(C:List Int)(d:Int):xal r C d=C.set d.toNat (xdn r C d):=by cases r<;> rfl
def pcW(b:Bool)(r:xp):List Int→List Int→List Wr
 |_,[]=>[]
 |C,d::ds=>.cell b d.toNat (xdn r C d)::pcW b r (xal r C d) ds
def xkg(P:ak)(w:World)(K:ag)(mg:Str→Option Value)(base:Heap)(a:Adr):Sp:=fun vs H Q E=>∃(F:FM) (B:BA) (s:BdS) (b:Bool) (o c:Addr) (r:xp) (cs:List Int),vs=[.ref (B.S b).st,.ref o,.ref c]∧um P w K mg base F∧xx a F H B s∧Tbs H∧za K a H o r∧o∉BF F B∧H c=some (.lst (cs.map V.int))∧c∉BF F B∧(∀d∈cs,xho r (s.cells b).length d)∧xR a F H B (xB F s (pcW b r (s.cells b) cs)) (Q .non) E
theorem xkh(T:Txt K mg a):xy P w K mg base (CXN P w) 7 a.q2n a.xaX ["store","row","cells"] (xkg P w K mg base a):=by
 refine T.jD.okNK ["store"] T.xj4 xe7 (fun vs H Q E h=>?_) (fun A outer s H vs Q E hr h=>?_)
 ·obtain⟨F,B,s,b,o,c,r,cs,rfl,_⟩:=h;rfl
 ·obtain⟨F,B,s0,b,o,c,r,cs,rfl,hF,hB,hT,ho,hop,hc,hcS,hin,q⟩:=h;have nd:=xe7.nd;refine⟨_,(yL (x:="store") (i:=0) nd rfl rfl rfl (by kernel_rfl) (xk (yt (PassesOwn.xen ⟨rfl,rfl,rfl⟩) rfl (zx (cv 2)) (xK (i:=3) nd rfl (aA rfl)) (xk (xO (yc ⟨rfl,rfl,rfl⟩ (cv 0) T.q0l T.q32 (xhn T) (hr.mono (by decide)) T.xh6 .nil (xa (cv 3) (xa (xbb (zd (cv 1) T.q1F T.q3J (xgI T) (hr.mono (by decide)) T.xhb .nil xt (xa (cv 3) (xa (zB (c:=q1k) (P:=zC) (qs:=vK) (fns:=["store"]) rfl T.q37 (q:="do_piece.<locals>.<lambda>") (by kernel_rfl) (.head _) (by kernel_rfl) (by kernel_rfl)) xc))) (zd (cv 1) T.q0g T.q3B (xfE T) (hr.mono (by decide)) T.xgd .nil xt (xa (cv 3) (xa (zB (c:=q1k) (P:=zC) (qs:=vK) (fns:=["store"]) rfl T.q37 (q:="do_piece.<locals>.<lambda>") (by kernel_rfl) (.head _) (by kernel_rfl) (by kernel_rfl)) xc)))) xc)))))))),?_⟩;walk_at"w";intro a1 e1 z1 d1;refine a6 z1 ?_;generalize hU1:upd H a1 _=H1;have s1:=xf.of_eq z1 hU1;have c1:=xq hU1;clear hU1;have hB1:=hB.same s1;have hT1:=hT.same s1;have q1:=q.same s1;have c1:H1 a1=some (.cel (some (.ref (B.S b).st))):=c1;have n1:a1∉BF F B:=fun z=>by
   obtain⟨u',q',m'⟩:=hB1.muF a1 z;rw[c1]at q';cases q';exact m'
  walk_at"w";refine⟨c,rfl,⟨_,SqL.of (s1.at hc)⟩,?_⟩;refine yZ (xs:=cs.map V.int) (fun i σ G=>Kp (BF F B) H1 G∧(∃s:BdS,xx a F G B s∧(s.cells b).length=(s0.cells b).length∧xR a F G B (xB F s (pcW b r (s.cells b) (cs.drop i))) (Q .non) E)∧∃(x3:Option V),σ=[some (.ref (B.S b).st),some (.ref o),some (.ref c),x3])
   ⟨Kp.of (xf.refl _),⟨s0,hB1,rfl,q1⟩,_,rfl⟩ (fun i σ G hi hP=>SqL.of (hP.1 _ _ (s1.at hc) hcS)) (fun i x σ G hx hP=>?_) (fun σ G hP=>?_)
  ·obtain⟨kp,⟨st,hBG,hlen,qG⟩,x3,rfl⟩:=hP;rw[aD]at hx;obtain⟨d,hd,rfl⟩:=aH.mp hx;obtain⟨hil,hdi⟩:=az.mp hd;obtain⟨hd0,hd1,hd2⟩:=hin d (aY hd);have hOG:za K a G o r:=(ho.same s1).kpB hB1 hop kp;have c1G:G a1=some (.cel (some (.ref (B.S b).st))):=kp _ _ c1 n1;have hTG:=hT1.kp kp hB1.muF;have hSG:=hBG.st b;rw[bG hil,hdi]at qG;have fin:∀(G5:Hp) (v:Int),xf G G5→xdn r (st.cells b) d=v→xjv P w K mg base a [.ref (B.S b).st,.int d,.int v] G5 (fun v' H'=>Kp (BF F B) H1 H'∧(∃s:BdS,xx a F H' B s∧(s.cells b).length=(s0.cells b).length∧xR a F H' B (xB F s (pcW b r (s.cells b) (cs.drop (i+1)))) (Q .non) E)∧∃(x3:Option V),[some (V.ref (B.S b).st),some (.ref o),some (.ref c),some (.int d)]=[some (.ref (B.S b).st),some (.ref o),some (.ref c),x3]) E:=fun G5 v s5 e=>by
    have q5:=qG.same s5;refine⟨F,B,st,b,d.toNat,v,by rw[cM hd0],hF,hBG.same s5,hTG.same s5,by omega,?_⟩;have q5:xR a F G5 B (xB F st (.cell b d.toNat v::pcW b r (xal r (st.cells b) d) (cs.drop (i+1)))) (Q .non) E:=by rw[←e];exact q5
    refine q5.chg fun hfo G6 k6 hB6 q6=>⟨(kp.same s5).trans k6,⟨_,hB6,?_,?_⟩,_,rfl⟩
    ·show(upB st.cells b ((st.cells b).set d.toNat v) b).length=_;rw[show upB st.cells b ((st.cells b).set d.toNat v) b=(st.cells b).set d.toNat v from if_pos rfl,cH];exact hlen
    ·have e6:upB st.cells b ((st.cells b).set d.toNat v) b=xal r (st.cells b) d:=by
      rw[xhW,e];exact if_pos rfl
     show xR a F G6 B (xB F _ (pcW b r (upB st.cells b ((st.cells b).set d.toNat v) b) (cs.drop (i+1)))) (Q .non) E;rw[e6];exact q6
   walk_at"w";refine⟨(B.S b).st,(B.S b).dx,_,rfl,hSG.st,rfl,?_⟩;walk_at"w";cases r with
   |put to sg=>
    obtain⟨dx,u,q1,q2⟩:=hOG;have hd2:0≤d - to∧d - to<sg.length:=hd2;obtain⟨v,hv⟩:∃v,sg[(d - to).toNat]? =some v:=⟨_,aK (by omega)⟩
    left
    refine⟨o,dx,_,rfl,q1,rfl,?_⟩;walk_at"w";refine⟨hTG.1,[("store",.ref (B.S b).st)],rfl,fun x v m=>?_,fun f G5 hf s5 hc=>?_⟩
    ·simp only[av,dJ,bo,or_false]at m;obtain⟨rfl,rfl⟩:=m;exact⟨a1,e1,c1G⟩
    walk_at"w";refine⟨o,dx,u,to,_,d,v,_,sg,rfl,s5.at q1,s5.at q2,hd2.1,hv,?_⟩;walk_at"w";exact fin G5 v s5 (by simp[xdn,gw,hv])
   |take to st' cn=>
    obtain⟨dx,q1⟩:=hOG;have hd2:0≤st'+d - to∧st'+d - to<(s0.cells b).length:=hd2;obtain⟨v,hv⟩:∃v,(st.cells b)[(st'+d - to).toNat]? =some v:=⟨_,aK (by omega)⟩
    right
    refine⟨o,dx,_,rfl,q1,rfl,?_⟩;walk_at"w";refine⟨hTG.1,[("store",.ref (B.S b).st)],rfl,fun x v m=>?_,fun f G5 hf s5 hc=>?_⟩
    ·simp only[av,dJ,bo,or_false]at m;obtain⟨rfl,rfl⟩:=m;exact⟨a1,e1,c1G⟩
    walk_at"w";refine⟨o,dx,to,st',cn,d,f,_,rfl,s5.at q1,hc,B.S b,_,_,_,_,v,.ref F.f,rfl,rfl,hSG.same s5,⟨hd2.1,by omega⟩,hv,?_⟩;walk_at"w";exact fin G5 v s5 (by simp[xdn,gw,hv])
  ·obtain⟨kp,⟨st,hBG,hlen,qG⟩,x3,rfl⟩:=hP;rw[ao,fB]at qG;walk_at"w";exact qG.done hBG
end
section
variable {P:ak} {w:World} {K:ag} {mg:Str→Option Value} {base:Heap} {a:Adr}
def doL(C:List Int)(xs:List (xp×List Int)):List Int:=xs.foldl (fun C x=>doP x.1 C x.2) C
def xag(L:Nat)(x:xp×List Int):Prop:=x.1.ok∧x.2.length≤300∧∀d∈x.2,xho x.1 L d
theorem xhX(xs:List V)(i:Nat):xba xs (some (i:Int)) none=xs.drop i:=by
 unfold xba;rw[xmy (by lia),HT.xiw,dn]
 by_cases h:i≤xs.length
 ·rw[Nat.min_eq_left h];exact d5 (by rw[cQ];lia)
 ·rw[Nat.min_eq_right (by lia),bR (ax _),bR (by lia)];simp
theorem xfd{α β:Type}{F:α→β→Prop}:∀{l₁:List α} {l₂:List β} (n:Nat),Paired F l₁ l₂→Paired F (l₁.drop n) (l₂.drop n)
 |_,_,0,h=>h
 |_,_,n+1,.nil=>.nil
 |_,_,n+1,.cons _ t=>xfd n t
theorem xm2{r:xp}{L:Nat}{cs:List Int}(h:∀d∈cs,xho r L d):∀p∈yO r cs,p<(L:Int):=by
 intro p hp;unfold yO at hp;obtain⟨d,hd,hp⟩:=List.mem_flatMap.mp hp;have h1:=h d hd;cases r with
 |take to st c=>
  have h2:0≤st+d - to∧st+d - to<L:=h1.2.2;simp only[plc,av,bo,or_false]at hp;rcases hp with rfl|rfl
  ·exact h2.2
  ·exact h1.2.1
 |put to sg=>
  simp only[plc,aj]at hp;rw[hp];exact h1.2.1
theorem TupAt.kpS{K:ag}{H H':Hp}{t:Addr}{r:xp}(h:TupAt K H t r)(k:∀b u,H b=some u→¬jd u→H' b=some u):TupAt K H' t r:=by
 cases r with
 |take to st c=>exact k _ _ h (fun z=>z)
 |put to sg=>obtain⟨u,h1,h2⟩:=h;exact⟨u,k _ _ h1 (fun z=>z),k _ _ h2 (fun z=>z)⟩
theorem xx.nin{H:Hp}{F:FM}{B:BA}{s:BdS}(h:xx a F H B s){x:Addr}(e:H x=none):x∉BF F B:=fun z=>by
 obtain⟨u,q,_⟩:=h.muF x z;rw[e]at q;cases q
theorem xx.noMu{H:Hp}{F:FM}{B:BA}{s:BdS}(h:xx a F H B s){x:Addr}{u:HO}(e:H x=some u)(m:¬jd u):x∉BF F B:=fun z=>by
 obtain⟨u',q',m'⟩:=h.muF x z;rw[e]at q';cases q';exact m m'
def goW(b:Bool):List Int→Nat→List (xp×List Int)→List Wr
 |_,_,[]=>[]
 |C,m,x::xs=>pcW b x.1 C x.2++(.note b ((m+1)%2) ((m+1:Nat):Int)::goW b (doP x.1 C x.2) (m+1) xs)
theorem xfF{F:FM}:∀(ys:List Wr) (s:BdS) (zs:List Wr),xB F s (ys++zs)=match (xB F s ys).2 with
  |none=>xB F (xB F s ys).1 zs
  |some c=>((xB F s ys).1,some c)
 |[],_,_=>rfl
 |y::ys,s,zs=>by
  by_cases e:F.fo s.fl s.cnt=none
  ·rw[cR,ym e,ym e];exact xfF ys _ zs
  ·rw[cR,ya e,ya e]
theorem xR.app{H:Hp}{F:FM}{B:BA}{s:BdS}{ys zs:List Wr}{q R:Hp→Prop}{E:XK}(h:xR a F H B (xB F s (ys++zs)) q E)
  (c:(xB F s ys).2=none→∀H1,Kp (BF F B) H H1→xx a F H1 B (xB F s ys).1→xR a F H1 B (xB F (xB F s ys).1 zs) q E→R H1):xR a F H B (xB F s ys) R E:=by
 rw[xfF]at h;refine⟨fun e H1 k1 hB1=>?_,fun x e d H1 k1 hB1 hd=>?_⟩
 ·rw[e]at h;exact c e H1 k1 hB1 (h.kp k1)
 ·rw[e]at h;exact h.2 x rfl d H1 k1 hB1 hd
theorem xah{α:Type}{f:Bool→α}{b:Bool}{v:α}:upB f b v b=v:=if_pos rfl
theorem xhp{F:FM}{b:Bool}{r:xp}:∀(cs:List Int) (s:BdS),(xB F s (pcW b r (s.cells b) cs)).2=none→(xB F s (pcW b r (s.cells b) cs)).1.cells b=doP r (s.cells b) cs∧(xB F s (pcW b r (s.cells b) cs)).1.notes=s.notes
 |[],_,_=>⟨rfl,rfl⟩
 |d::cs,s,h=>by
  by_cases e:F.fo s.fl s.cnt=none
  ·have e1:xB F s (pcW b r (s.cells b) (d::cs))=xB F (w1 F s (.cell b d.toNat (xdn r (s.cells b) d))) (pcW b r (xal r (s.cells b) d) cs):=ym e;have e2:(w1 F s (.cell b d.toNat (xdn r (s.cells b) d))).cells b=xal r (s.cells b) d:=by
    rw[zf e,xhW];exact xah
   have e3:(w1 F s (.cell b d.toNat (xdn r (s.cells b) d))).notes=s.notes:=by rw[zf e];rfl
   rw[e1,←e2]at h⊢;have:=xhp (F:=F) cs _ h;rw[e3,e2]at this;exact⟨by rw[e2];exact this.1,by rw[e2];exact this.2⟩
  ·have e1:xB F s (pcW b r (s.cells b) (d::cs))=(w1 F s (.cell b d.toNat (xdn r (s.cells b) d)),some s.cnt):=ya e;rw[e1]at h;cases h
def xn3(P:ak)(w:World)(K:ag)(mg:Str→Option Value)(base:Heap)(a:Adr):Sp:=fun vs H Q E=>∃(F:FM) (B:BA) (s:BdS) (b:Bool) (p tt:Addr) (o n:Int) (us:List Addr) (rs:List xp) (first:Nat),vs=[.ref (B.S b).st,.ref p]∧um P w K mg base F∧xx a F H B s∧Tbs H∧H p=some (.tup [.int o,.int n,.ref tt])∧H tt=some (.tup (us.map V.ref))∧Paired (GT K H) us rs∧us.length≤58∧(s.notes b).length=2∧xak (s.notes b) first∧first≤10000∧
 max o n≤(s.cells b).length∧(∀x∈yy rs,xag (s.cells b).length x)∧xR a F H B (xB F s (goW b (s.cells b) first ((yy rs).drop first))) (fun H'=>∀v,Q v H') E
theorem xn4(T:Txt K mg a):xy P w K mg base (CXN P w) 8 a.q3L a.xg4 ["store","paper"] (xn3 P w K mg base a):=by
 refine T.q3S.okN xi4 (fun vs H Q E h=>?_) (fun cdv A outer s H vs Q E hr h=>?_)
 ·obtain⟨F,B,s,b,p,tt,o,n,us,rs,first,rfl,_⟩:=h;rfl
 ·obtain⟨F,B,s0,b,p,tt,o,n,us,rs,m,rfl,hF,hB,hT,hp,ht,hus,hul,hn2,hmx,hm4,hle,hok,q⟩:=h;have nd:=xi4.nd;refine⟨_,(xg (xE (i:=2) nd rfl (aA rfl) (xN xU (by rfl) T.q12 yK (xa (xA xH (xQ (cv 0) T.q0l T.q3x (xdG T) (hr.mono (by decide)) T.xeb .nil xt) xj (fun _ _=>rfl)) xc)))
  (xg (xO (xD (xeS T) (hr.mono (by decide)) (by rfl) T.xfs T.q1d.kp T.xfr .nil xt (xa (cv 2) (xa (cv 1) xc))))
  (xg (xE (i:=3) nd rfl (aA rfl) (xD (xjq T) (hr.mono (by decide)) (by rfl) T.xj3 T.q2A.kp T.xj2 .nil xt (xa (cv 1) xc)))
  (xg (xE (i:=4) nd rfl (aA rfl) (xQ (cv 0) T.q0l T.q31 (xhh T) (hr.mono (by decide)) T.xh7 .nil xt))
  (xg (xE (i:=5) nd rfl (aA rfl) (jS jT (cv 3) (xa3 (cv 4)) xa2))
  (xg (xO (xD (xfz T) (hr.mono (by decide)) (by rfl) T.xgh T.q1t.kp T.xgg .nil xt (xa (cv 2) (xa (cv 5) xc))))
  (xg (yt (PassesOwn.xen ⟨rfl,rfl,rfl⟩) rfl (xnH (by rfl) T.q28 (xa (cv 5) xc) (cv 4)) (jm rfl (xT (xK (i:=6) nd rfl (aA rfl)) (xT (xK (i:=7) nd rfl (aA rfl)) vf))) (xg (xO (xiM ⟨rfl,rfl,rfl⟩ (xkh T) (hr.mono (by decide)) (by rfl) T.xlH T.jD.kp T.xlG .nil (xa (cv 0) (xa (xD (jl T) (hr.mono (by decide)) (by rfl) T.xaf T.q1Z.kp T.xae .nil xt (xa (xA xH (cv 7) xj (fun _ _=>rfl)) xc)) (xa (xA xH (cv 7) xj (fun _ _=>rfl)) xc)))))
  (xk (xO (yc ⟨rfl,rfl,rfl⟩ (cv 0) T.q0l T.q4i (xil T) (hr.mono (by decide)) T.xi1 .nil (xa (xu yl (cv 6) xj) xc))))))
  (xk (xv (xN xU (by rfl) T.q12 yK (xa (cv 5) xc))))))))))),?_⟩
  have hS:=hB.st b;walk_at"w";refine⟨(B.S b).st,(B.S b).dx,_,rfl,hS.st,rfl,?_⟩;walk_at"w";refine⟨B.S b,_,_,_,_,rfl,hS,fun t c m' H1 s1 hc hm' ncm et ec em=>?_⟩;walk_at"w";refine⟨t,_,_,.ref c,rfl,rfl,SqT.of et,rfl,?_⟩;walk_at"w";refine⟨c,_,rfl,.inl (SqL.of ec),?_⟩;walk_at"w";refine⟨_,o,n,p,_,rfl,s1.at hp,by rw[ao];exact hle,?_⟩;have hB1:=hB.same s1;have hS1:=hS.same s1;walk_at"w";refine⟨p,tt,.int o,.int n,us,rs,rfl,s1.at hp,s1.at ht,L2.Paired.imp' (fun _ _ z=>z.same s1) hus,hul,fun l ws H2 s2 hl el hws=>?_⟩;have hS2:=hS1.same s2;walk_at"w";refine⟨(B.S b).st,(B.S b).dx,_,rfl,hS2.st,rfl,?_⟩;walk_at"w";refine⟨B.S b,_,_,_,_,rfl,hS2,hn2,fun m2 H3 s3 hmx'=>?_⟩;obtain rfl:=xak.uniq hmx' hmx;have hS3:=hS2.same s3;walk_at"w";refine⟨(m:Int),rfl,?_⟩;walk_at"w";refine⟨l,_,rfl,SqL.of (s3.at el),?_⟩;intro lf hlf;generalize hUlf:upd H3 lf _=H4;have sH4:=xf.of_eq hlf hUlf;have elf:=xq hUlf;clear hUlf;walk_at"w";rw[xhX,←List.map_drop]at elf;have hws4:Paired (ze K H1 l H4) (ws.drop m) ((yy rs).drop m):=xfd m (L2.Paired.imp' (fun _ _ z=>(z.same s3).same sH4) hws);obtain⟨X,hX⟩:∃X,X=yy rs:=⟨_,rfl⟩;rw[←hX]at hws4 q hok;have hwl:(ws.drop m).length=X.length - m:=by rw[hws4.length,cQ]
  refine⟨_,H1,lf,l,ws.drop m,X.drop m,rfl,elf,hws4,fun x hx=>⟨(hok x (eI hx)).1,(hok x (eI hx)).2.1,by rw[ao];exact xm2 (hok x (eI hx)).2.2⟩,fun H5 s5=>?_⟩;have s15:xf H1 H5:=s2.trans (s3.trans (sH4.trans s5));have hB5:=hB1.same s15;have s05:xf H H5:=s1.trans s15;have hT5:=hT.same s05;have nlf:lf∉BF F B:=(hB1.same (s2.trans s3)).nin hlf;have q5:=q.same s05;walk_at"w";refine⟨lf,m,rfl,rfl,by lia,⟨_,SqL.of (s5.at elf)⟩,?_⟩;refine xjT (xs:=(ws.drop m).map V.ref) (fun i σ G=>Kp (BF F B) H5 G∧(∃st:BdS,xx a F G B st∧(st.cells b).length=(s0.cells b).length∧(st.notes b).length=2∧xR a F G B (xB F st (goW b (st.cells b) (m+i) (X.drop (m+i)))) (fun H'=>∀v,Q v H') E)∧∃(x6 x7:Option V),σ=[some (.ref (B.S b).st),some (.ref p),some (.int (((s0.cells b).map V.int).length:Nat)),some (.ref l),some (.int m),some (.ref lf),x6,x7])
   ⟨Kp.of (xf.refl _),⟨s0,hB5,rfl,hn2,q5⟩,_,_,rfl⟩ (fun i σ G hi hP=>SqL.of (hP.1 _ _ (s5.at elf) nlf)) (fun i x σ G Tt hx hP hTt=>?_) (fun σ G hP=>?_)
  ·obtain⟨kp,⟨st,hBG,hcl,hnl,qG⟩,x6,x7,rfl⟩:=hP;rw[aD]at hx;obtain⟨u,hu,rfl⟩:=aH.mp hx;obtain⟨⟨r,cs⟩,hr',t',c',⟨nc1,nc2⟩,h1,h2,h3⟩:=Paired.nth hws4 hu;rw[fc]at hr';obtain⟨hk',hcl',hcells⟩:=hok _ (aY hr');obtain⟨hil,hdi⟩:=az.mp hr';have kG:∀b u,H5 b=some u→¬jd u→G b=some u:=fun b u e mm=>kp b u e (hB5.noMu e mm);have ncS:c'∉BF F B:=hB1.nin nc2;have hcG:G c'=some (.lst (cs.map V.int)):=kp _ _ (s5.at h3) ncS;have huG:=kG _ _ (s5.at h1) (fun z=>z);have htG:TupAt K G t' r:=TupAt.kpS (h2.same s5) kG;have hTG:=hT5.kp kp hB5.muF;rw[bG hil,hdi]at qG;generalize hU:upd G Tt _=G1;have sT:=xf.of_eq hTt hU;have eT:=xq hU;clear hU;walk_at"w";refine⟨Tt,_,rfl,SqT.of eT,rfl,?_⟩;walk_at"w";refine⟨_,_,rfl,?_⟩;walk_at"w";refine⟨_,_,rfl,?_⟩;walk_at"w";refine a6 rfl ?_;walk_at"w";refine⟨u,_,_,.ref t',rfl,rfl,SqT.of (sT.at huG),rfl,?_⟩;walk_at"w";refine⟨t',r,rfl,htG.same sT,hk',fun ob G2 s2' hob hO=>?_⟩;walk_at"w";refine⟨u,_,_,.ref c',rfl,rfl,SqT.of (s2'.at (sT.at huG)),rfl,?_⟩;walk_at"w";have sT2:=sT.trans s2';refine⟨F,B,st,b,ob,c',r,cs,rfl,hF,hBG.same sT2,hTG.same sT2,hO,(hBG.same sT).nin hob,sT2.at hcG,ncS,(fun d hd=>by rw[hcl];exact hcells d hd),?_⟩;have qG2:xR a F G2 B (xB F st (pcW b r (st.cells b) cs++(.note b ((m+i+1)%2) ((m+i+1:Nat):Int)::goW b (doP r (st.cells b) cs) (m+i+1) (X.drop (m+i+1))))) (fun H'=>∀v,Q v H') E:=qG.same sT2;refine qG2.app fun hno G3 kp3 hB3 q3=>?_;obtain⟨pc1,pc2⟩:=xhp cs st hno;generalize xB F st (pcW b r (st.cells b) cs)=z3 at hB3 q3 pc1 pc2;walk_at"w";refine⟨(B.S b).st,(B.S b).dx,_,rfl,(hB3.st b).st,rfl,?_⟩;walk_at"w";refine⟨F,B,z3.1,b,m+i+1,rfl,hF,hB3,(hTG.same sT2).kp kp3 (hBG.same sT2).muF,by rw[pc2];exact hnl,?_⟩;refine q3.chg fun hfo G4 kp4 hB4 q4=>?_;walk_at"w";refine⟨((kp.same sT2).trans kp3).trans kp4,⟨_,hB4,?_,?_,?_⟩,_,_,rfl⟩
   ·show(z3.1.cells b).length=_;rw[pc1,xkN];exact hcl
   ·show(upB z3.1.notes b ((z3.1.notes b).set _ _) b).length=2;rw[xah,cH,pc2];exact hnl
   ·show xR a F G4 B (xB F _ (goW b (z3.1.cells b) (m+i+1) (X.drop (m+i+1)))) _ E;rw[pc1];exact q4
  ·obtain⟨kp,⟨st,hBG,hcl,hnl,qG⟩,x6,x7,rfl⟩:=hP;rw[ao,hwl,bR (show X.length≤m+(X.length - m)by lia)]at qG;walk_at"w";refine⟨lf,_,rfl,.inl (SqL.of (kp _ _ (s5.at elf) nlf)),?_⟩;walk_at"w";exact qG.done hBG _
end
def xbO(s:BdS)(rs:List xp)(first:Nat):List Int:=doL (s.cells (!s.mr)) ((yy rs).drop first)
def xlX(s:BdS)(rs:List xp)(first:Nat)(n total tries:Int):List Wr:=.leng (!s.mr) n::(if ((xbO s rs first).take n.toNat).sum=total then[.cter tries,.mark (!s.mr) "trial"]else[.mark (!s.mr) "bad"])
def xbP(s:BdS)(rs:List xp)(first:Nat)(n total tries:Int):List Wr:=(if s.mark (!s.mr)=("open":Str)then[]else[.note (!s.mr) 0 0,.note (!s.mr) 1 0,.mark (!s.mr) "open"])++(goW (!s.mr) (s.cells (!s.mr)) first ((yy rs).drop first)++xlX s rs first n total tries)
def xai(s:BdS)(first:Nat):Prop:=(s.notes (!s.mr)).length=2∧first≤10000∧if s.mark (!s.mr)=("open":Str)then xak (s.notes (!s.mr)) first else first=0
def xet(K:ag)(H:Hp)(p:Addr)(o n:Int)(rs:List xp):Prop:=∃tt us,H p=some (.tup [.int o,.int n,.ref tt])∧H tt=some (.tup (us.map V.ref))∧Paired (GT K H) us rs∧us.length≤58
theorem zX{L:List Addr}{H H':Hp}{q:Addr}{ys:List V}(k:Kp L H H')(mu:∀x∈L,∃u,H x=some u∧jd u)(e:H q=some (.tup ys)):H' q=some (.tup ys):=k _ _ e fun z=>by
 obtain⟨u,e',m⟩:=mu q z;rw[e]at e';cases e';exact m
theorem xet.kp{K:ag}{L:List Addr}{H H':Hp}{p:Addr}{o n:Int}{rs:List xp}(h:xet K H p o n rs)(k:Kp L H H')(mu:∀x∈L,∃u,H x=some u∧jd u):xet K H' p o n rs:=by
 obtain⟨tt,us,h1,h2,h3,h4⟩:=h;refine⟨tt,us,zX k mu h1,zX k mu h2,L2.Paired.imp' (fun t r z=>⟨?_,z.2⟩) h3,h4⟩;cases r with
 |take to st c=>exact zX k mu z.1
 |put to sg=>obtain⟨u,q1,q2⟩:=z.1;exact⟨u,zX k mu q1,zX k mu q2⟩
inductive xjw(P:ak)(w:World)(K:ag)(mg:Str→Option Value)(base:Heap)(a:Adr)(vs:List V)(H:Hp)(Q:VK)(E:XK):Prop
 |mk (F:FM) (B:BA) (s:BdS) (p:Addr) (o n:Int) (rs:List xp) (total tries:Int) (first:Nat):vs=[.ref B.bd,.ref p,.int total,.int tries]→um P w K mg base F→xx a F H B s→Tbs H→xai s first→xet K H p o n rs→(∀x∈yy rs,xag (s.cells (!s.mr)).length x)→max o n≤(s.cells (!s.mr)).length→0≤n→
  xR a F H B (xB F s (xbP s rs first n total tries)) (Q (.bl (decide (((xbO s rs first).take n.toNat).sum=total)))) E→xjw P w K mg base a vs H Q E
def xjx(P:ak)(w:World)(K:ag)(mg:Str→Option Value)(base:Heap)(a:Adr):Sp:=xjw P w K mg base a
theorem xkQ{α:Type}(f:Bool→α)(b:Bool)(v w:α):upB (upB f b v) b w=upB f b w:=by
 funext c;unfold upB;split<;> rfl
theorem xjy{F:FM}{b:Bool}:∀(xs:List (xp×List Int)) (m:Nat) (s:BdS),(xB F s (goW b (s.cells b) m xs)).2=none→(xB F s (goW b (s.cells b) m xs)).1.cells b=doL (s.cells b) xs
 |[],_,_,_=>rfl
 |x::xs,m,s,h=>by
  have e0:xB F s (goW b (s.cells b) m (x::xs))=xB F s (pcW b x.1 (s.cells b) x.2++(.note b ((m+1)%2) ((m+1:Nat):Int)::goW b (doP x.1 (s.cells b) x.2) (m+1) xs)):=rfl;rw[e0,xfF]at h⊢;cases hp:(xB F s (pcW b x.1 (s.cells b) x.2)).2 with
  |some c=>rw[hp]at h;cases h
  |none=>
   rw[hp]at h;obtain⟨pc1,_⟩:=xhp x.2 s hp;generalize xB F s (pcW b x.1 (s.cells b) x.2)=z at h pc1;show(xB F z.1 (.note b ((m+1)%2) ((m+1:Nat):Int)::goW b (doP x.1 (s.cells b) x.2) (m+1) xs)).1.cells b=_;have h:(xB F z.1 (.note b ((m+1)%2) ((m+1:Nat):Int)::goW b (doP x.1 (s.cells b) x.2) (m+1) xs)).2=none:=h
   by_cases e:F.fo z.1.fl z.1.cnt=none
   ·rw[ym e,zf e,←pc1]at h;rw[ym e,zf e,←pc1];have:=xjy (F:=F) xs (m+1) _ h;refine this.trans ?_;show doL (z.1.cells b) xs=_;rw[pc1];rfl
   ·rw[ya e]at h;cases h
section
variable {P:ak} {w:World} {K:ag} {mg:Str→Option Value} {base:Heap} {a:Adr}
theorem xcO(T:Txt K mg a):xy P w K mg base (CXN P w) 9 a.q0s a.uk ["self","paper","total","tries"] (xjx P w K mg base a):=by
 refine T.q0U.okN jk (fun vs H Q E h=>?_) (fun cdv A outer s H vs Q E hr h=>?_)
 ·obtain⟨F,B,s,p,o,n,rs,total,tries,first,rfl,_⟩:=h;rfl
 ·obtain⟨F,B,st,p,o,n,rs,total,tries,first,rfl,hF,hB,hT,hfi,hpap,hdue,hmax,hn0,q⟩:=h;have nd:=jk.nd;refine⟨_,(xg (xE (i:=4) nd rfl (aA rfl) (xQ (cv 0) T.q0a T.q0I (yB T) (hr.mono (by decide)) T.yM .nil xt))
  (xg (xE (i:=5) nd rfl (aA rfl) (xA xV (xw (cv 0) rfl) (cv 4) (fun _ _=>rfl)))
  (xg (yY (xM (xJ xbU (xA xV (xw (cv 0) rfl) (cv 4) (fun _ _=>rfl)) xP) (xg (xO (xhP ⟨rfl,rfl,rfl⟩ (cv 5) T.q0l T.q30 (xhl T) (hr.mono (by decide)) T.xh8 .nil))
  (xk (xO (yc ⟨rfl,rfl,rfl⟩ (cv 0) T.q0a T.q0n (yd T) (hr.mono (by decide)) T.yf .nil (xa (xw (cv 0) rfl) (xa (cv 4) (xa xP xc))))))) xC))
  (xg (xO (xiM ⟨rfl,rfl,rfl⟩ (xn4 T) (hr.mono (by decide)) (by rfl) T.xpf T.q3S.kp T.xpe .nil (xa (cv 5) (xa (cv 1) xc))))
  (xg (xO (yc ⟨rfl,rfl,rfl⟩ (cv 0) T.q0a T.q0n (yd T) (hr.mono (by decide)) T.yf .nil (xa (xw (cv 0) rfl) (xa (cv 4) (xa (xA xH (cv 1) xj (fun _ _=>rfl)) xc)))))
  (xg (xM (xJ xfV (xN (xhL rfl) (by rfl) T.q5f xmr (xa (zd (cv 0) T.q0a T.q2k (vU T) (hr.mono (by decide)) T.jG .nil xt (xa (cv 4) xc)) xc)) (cv 2)) (xg (xO (yc ⟨rfl,rfl,rfl⟩ (cv 0) T.q0a T.q0n (yd T) (hr.mono (by decide)) T.yf .nil (xa (xw (cv 0) rfl) (xa (cv 4) (xa xP xc)))))
  (xk (xv ve))) xC)
  (xg (xO (yc ⟨rfl,rfl,rfl⟩ (cv 0) T.q0a T.q0n (yd T) (hr.mono (by decide)) T.yf .nil (xa (xw (cv 0) rfl) (xa xP (xa (cv 3) xc)))))
  (xg (xO (yc ⟨rfl,rfl,rfl⟩ (cv 0) T.q0a T.q0n (yd T) (hr.mono (by decide)) T.yf .nil (xa (xw (cv 0) rfl) (xa (cv 4) (xa xP xc)))))
  (xk (xv ve)))))))))),?_⟩
  unfold xai at hfi;unfold xbP xlX at q;generalize hE:xbO st rs first=C9 at*;have hE:doL (st.cells (!st.mr)) ((yy rs).drop first)=C9:=hE;generalize hb:(!st.mr)=b at*;obtain⟨hn2,hf4,hfi⟩:=hfi;have atB:atI [V.ref (B.S false).st,V.ref (B.S true).st] (bI b)=some (.ref (B.S b).st):=by cases b<;> rfl
  have atM:atI [V.str (st.mark false),V.str (st.mark true)] (bI b)=some (.str (st.mark b)):=by cases b<;> rfl
  walk_at"w";refine⟨B.bd,B.dx,_,rfl,hB.bd,rfl,?_⟩;walk_at"w";refine⟨F,B,st,rfl,hB,?_⟩;rw[hb];walk_at"w";refine⟨B.bd,_,B.dx,_,.ref B.bl,rfl,hB.bd,T.q0a,T.q2P,rfl,?_⟩;walk_at"w";refine⟨B.bl,_,_,_,rfl,rfl,SqL.of hB.bl,atB,?_⟩;walk_at"w";generalize hys:(Wr.leng b n::(if (C9.take n.toNat).sum=total then[Wr.cter tries,.mark b "trial"]else[Wr.mark b "bad"]))=ys at q;refine⟨fun σ' G=>σ'=[some (.ref B.bd),some (.ref p),some (.int total),some (.int tries),some (.int (bI b)),some (.ref (B.S b).st)]∧∃s1:BdS,Kp (BF F B) H G∧xx a F G B s1∧s1.cells=st.cells∧((s1.notes b).length=2∧xak (s1.notes b) first)∧xR a F G B (xB F s1 (goW b (st.cells b) first ((yy rs).drop first)++ys)) (Q (.bl (decide ((C9.take n.toNat).sum=total)))) E,?_,?_⟩
  ·walk_at"w";refine⟨B.bd,_,B.dx,_,.ref B.ma,rfl,hB.bd,T.q0a,T.q0h,rfl,?_⟩;walk_at"w";refine⟨B.ma,_,_,_,rfl,rfl,SqL.of hB.ma,atM,?_⟩;walk_at"w";refine⟨fun c=>?_,fun c=>?_⟩
   ·have hno:¬st.mark b=("open":Str):=fun e=>by
     rw[show br "open"=("open":Str)from rfl,decide_eq_true e]at c;cases c
    rw[if_neg hno]at q hfi;walk_at"w";refine⟨(B.S b).st,(B.S b).dx,_,rfl,(hB.st b).st,rfl,?_⟩;walk_at"w";refine⟨F,B,st,b,rfl,hF,hB,hT,hn2,q.two fun H1 s1 es1 k1 hB1 q1=>?_⟩;have hT1:=hT.kp k1 hB.muF;have en:s1.notes b=[some 0,some 0]:=by
     rw[es1];show upB (upB st.notes b ((st.notes b).set 0 (some 0))) b ((upB st.notes b ((st.notes b).set 0 (some 0)) b).set 1 (some 0)) b=_;rw[xah,xah]
     match st.notes b,hn2 with
     |[x,y],_=>rfl
    have ec:s1.cells=st.cells:=by rw[es1];rfl
    clear es1;walk_at"w";refine⟨B.bd,B.dx,_,rfl,hB1.bd,rfl,?_⟩;walk_at"w";refine⟨B.bd,_,B.dx,_,.ref B.ma,rfl,hB1.bd,T.q0a,T.q0h,rfl,?_⟩;walk_at"w";refine⟨F,B,s1,.mark b "open",B.ma,_,_,rfl,hF,hB1,hT1,rfl,q1.chg fun _ H2 k2 hB2 q2=>?_⟩;exact⟨rfl,_,k1.trans k2,hB2,ec,(by show(s1.notes b).length=2∧xak (s1.notes b) first;rw[en,hfi];exact⟨rfl,by simp[xak]⟩),q2⟩
   ·have ho:st.mark b=("open":Str):=of_decide_eq_true (p:=st.mark b=br "open") (by rw[←c7];exact c);rw[if_pos ho]at q hfi;exact⟨rfl,st,Kp.of (xf.refl _),hB,rfl,⟨hn2,hfi⟩,q⟩
  rintro σ' G ⟨rfl,s1,kG,hG,ec,hz,q⟩;have tG:=hT.kp kG hB.muF;have pG:=hpap.kp kG hB.muF;obtain⟨tt,us,p1,p2,p3,p4⟩:=id pG;walk_at"w";rw[←ec]at q;refine⟨F,B,s1,b,p,tt,o,n,us,rs,first,rfl,hF,hG,tG,p1,p2,p3,p4,hz.1,hz.2,hf4,by rw[ec];exact hmax,by rw[ec];exact hdue,q.app fun hno H3 k3 hB3 q3 v3=>?_⟩;have e9:=xjy _ _ s1 hno;generalize xB F s1 (goW b (s1.cells b) first ((yy rs).drop first))=z9 at hB3 q3 e9;rw[ec,hE]at e9;have t3:=tG.kp k3 hG.muF;have p13:=zX k3 hG.muF p1;rw[←hys]at q3;walk_at"w";refine⟨B.bd,B.dx,_,rfl,hB3.bd,rfl,?_⟩;walk_at"w";refine⟨B.bd,_,B.dx,_,.ref B.le,rfl,hB3.bd,T.q0a,T.q1f,rfl,?_⟩;walk_at"w";refine⟨p,_,_,.int n,rfl,rfl,SqT.of p13,rfl,?_⟩;walk_at"w";refine⟨F,B,z9.1,.leng b n,B.le,_,_,rfl,hF,hB3,t3,rfl,q3.chg fun _ H4 k4 hB4 q4=>?_⟩;have t4:=t3.kp k4 hB3.muF;walk_at"w";refine⟨B.bd,B.dx,_,rfl,hB4.bd,rfl,?_⟩;walk_at"w";refine⟨F,B,_,b,rfl,hB4,by show 0≤upB z9.1.len b n b;rw[xah];exact hn0,fun tx H5 s5 _ et=>?_⟩;have et':H5 tx=some (.lst ((C9.take n.toNat).map V.int)):=by
   have e2:upB z9.1.len b n b=n:=xah;rw[←e9,←e2];exact et
  have hB5:=hB4.same s5;have t5:=t4.same s5;have q5:=q4.same s5;generalize hsum:C9.take n.toNat=tx5 at q5 et';walk_at"w";refine⟨tx,_,rfl,SqL.of et',?_⟩;walk_at"w";refine⟨fun c=>?_,fun c=>?_⟩
  ·have ns:¬tx5.sum=total:=fun z=>by
    rw[decide_eq_true z]at c;cases c
   rw[if_neg ns,decide_eq_false ns]at q5;walk_at"w";refine⟨B.bd,B.dx,_,rfl,hB5.bd,rfl,?_⟩;walk_at"w";refine⟨B.bd,_,B.dx,_,.ref B.ma,rfl,hB5.bd,T.q0a,T.q0h,rfl,?_⟩;walk_at"w";refine⟨F,B,_,.mark b "bad",B.ma,_,_,rfl,hF,hB5,t5,rfl,q5.chg fun _ H6 k6 hB6 q6=>?_⟩;walk_at"w";exact q6.done hB6
  ·have ys':tx5.sum=total:=of_decide_eq_true (by rw[←c7];exact c);rw[if_pos ys',decide_eq_true ys']at q5;walk_at"w";refine⟨B.bd,B.dx,_,rfl,hB5.bd,rfl,?_⟩;walk_at"w";refine⟨B.bd,_,B.dx,_,.ref B.se,rfl,hB5.bd,T.q0a,T.q0j,rfl,?_⟩;walk_at"w";refine⟨F,B,_,.cter tries,B.se,_,_,rfl,hF,hB5,t5,rfl,q5.chg fun _ H6 k6 hB6 q6=>?_⟩;have t6:=t5.kp k6 hB5.muF;walk_at"w";refine⟨B.bd,B.dx,_,rfl,hB6.bd,rfl,?_⟩;walk_at"w";refine⟨B.bd,_,B.dx,_,.ref B.ma,rfl,hB6.bd,T.q0a,T.q0h,rfl,?_⟩;walk_at"w";refine⟨F,B,_,.mark b "trial",B.ma,_,_,rfl,hF,hB6,t6,rfl,q6.chg fun _ H7 k7 hB7 q7=>?_⟩;walk_at"w";exact q7.done hB7
end
abbrev xgJ:Expr:=vk 0 (xqA ((xI yD).getD 2 (.Pass ⟨0,0,0,0⟩)))
theorem xkR:yS ["paper","self","total","tries"] [] ["paper","self","total","tries"] (yg xgJ):=⟨rfl,rfl,rfl,by decide+kernel,rfl,by decide+kernel,by decide+kernel,by decide+kernel⟩
abbrev xgK:Expr:=vk 0 (xa5 ((xI zk).getD 3 (.Pass ⟨0,0,0,0⟩)))
theorem xkS:yS ["other","self"] [] ["other","self"] (yg xgK):=⟨rfl,rfl,rfl,by decide+kernel,rfl,by decide+kernel,by decide+kernel,by decide+kernel⟩
abbrev xgL:Expr:=vk 0 (xa5 ((xI yu).getD 3 (.Pass ⟨0,0,0,0⟩)))
theorem xkT:yS ["other","self"] [] ["other","self"] (yg xgL):=⟨rfl,rfl,rfl,by decide+kernel,rfl,by decide+kernel,by decide+kernel,by decide+kernel⟩
def xpG(P:ak)(w:World)(K:ag)(mg:Str→Option Value)(base:Heap)(a:Adr):List (Str×V)→Sp:=fun fv vs H Q E=>∃(bd p:Addr) (total tries:Int),fv=([("paper",.ref p),("self",.ref bd),("total",.int total),("tries",.int tries)]:List (Str×V))∧vs=[]∧xjx P w K mg base a [.ref bd,.ref p,.int total,.int tries] H Q E
def xpH(P:ak)(w:World)(K:ag)(mg:Str→Option Value)(base:Heap)(a:Adr):List (Str×V)→Sp:=fun fv vs H Q E=>∃(bd:Addr) (i:Int),fv=([("other",.int i),("self",.ref bd)]:List (Str×V))∧vs=[]∧xkL P w K mg base a [.ref bd,.int i] H Q E
def xpI(P:ak)(w:World)(K:ag)(mg:Str→Option Value)(base:Heap)(a:Adr):List (Str×V)→Sp:=fun fv vs H Q E=>∃(F:FM) (B:BA) (s:BdS) (b:Bool),fv=([("other",.int (bI b)),("self",.ref B.bd)]:List (Str×V))∧vs=[]∧um P w K mg base F∧xx a F H B s∧Tbs H∧xR a F H B (xB F s [.mrk b]) (Q .non) E
def xoA(a:Adr)(B:BA)(E:XK):XK:=fun cls dx H1=>∃(F:FM) (s:BdS) (d:Addr) (c:Int),cls= .ref a.q0d∧dx=some d∧H1 d=some (.xd [("count",.int c)])∧xx a F H1 B s∧∀d' H2,Kp (BF F B) H1 H2→xx a F H2 B {s with run:=none}→H2 d'=some (.xd [("count",.int c)])→E (.ref a.q0d) (some d') H2
def xqT(P:ak)(w:World)(K:ag)(mg:Str→Option Value)(base:Heap)(a:Adr):Sp:=fun vs H Q E=>∃(B:BA) (f:Addr),vs=[.ref B.bd,.ref f]∧∀E':XK,(∀cls dx H1,xoA a B E cls dx H1→E' cls dx H1)→xqL P w K mg base 10 H f [] Q E'
def xpJ(a:Adr):Sp:=fun vs H Q E=>∃(F:FM) (B:BA) (s:BdS),vs=[.ref B.bd]∧xx a F H B s∧(s.run≠none→Q .non H)∧(s.run=none→∀H',xf H H'→E (.ref a.q1s) none H')
theorem xR.rof{a:Adr}{F:FM}{H:Hp}{B:BA}{r:BdS×Option Int}{b:Option Bool}{q:Hp→Prop}{E:XK}(h:xR a F H B (zc b r) q E):xR a F H B r (fun H1=>∀H2,r.2=none→Kp (BF F B) H H2→xx a F H2 B {r.1 with run:=b}→q H2) (xoA a B E):=by
 obtain⟨s1,rc⟩:=r;cases rc with
 |none=>exact⟨fun _ H1 k1 hB1 H2 _ k2 hB2=>h.1 rfl H2 k2 hB2,fun c e=>by cases e⟩
 |some c0=>
  refine⟨(fun e=>by cases e),fun c e d H1 k1 hB1 hd=>?_⟩;cases e;exact⟨F,s1,d,c0,rfl,rfl,hd,hB1,fun d' H2 k2 hB2 hd2=>h.2 c0 rfl d' H2 (k1.trans k2) hB2 hd2⟩
theorem xR.imp{a:Adr}{F:FM}{H:Hp}{B:BA}{r:BdS×Option Int}{q q':Hp→Prop}{E E':XK}(h:xR a F H B r q E)(hq:∀H1,xx a F H1 B r.1→Kp (BF F B) H H1→r.2=none→q H1→q' H1)(hE:∀cls dx H1,E cls dx H1→E' cls dx H1):xR a F H B r q' E':=
 ⟨fun e H1 k1 hB=>hq H1 hB k1 e (h.1 e H1 k1 hB),fun c e d H1 k1 hB hd=>hE _ _ _ (h.2 c e d H1 k1 hB hd)⟩
section
variable {P:ak} {w:World} {K:ag} {mg:Str→Option Value} {base:Heap} {a:Adr}
theorem xpK{X:Cx}{K:ag}{o value:Expr}{f:Str}{pos pos':Pos}{ta tv:TE}(e:X.K=K)(ha:PE X o ta)(hv:PE X value tv)(hs:eA value (some (.Attribute o f pos')) pos.line X.env=pure false):PS X (.Assign [.Attribute o f pos'] value pos) (xqi K ta tv f):=e▸yh ha hv hs
theorem yA.mono{P:ak}{w:World}{K:ag}{mg:Str→Option Value}{base:Heap}{CX:CXT}{j k:Nat}{nm qual:Str}{params:bV}{body:df}{scope:Scope}{ps:List Str}{sp:List (Str×V)→Sp}(F:yA P w K mg base CX j nm qual params body scope ps sp)(h:j≤k):yA P w K mg base CX k nm qual params body scope ps sp:=
 ⟨F.len,fun A outer s H f fv us vs Q E hr=>F.run A outer s H f fv us vs Q E (hr.mono h)⟩
theorem xpL(T:Txt K mg a):yA P w K mg base (CXN P w) 10 "<lambda>" "Board.update.<locals>.<lambda>" (uv xgJ) (.expr (uw xgJ)) (yg xgJ) [] (xpG P w K mg base a):=by
 refine xdY xkR (fun fv vs H Q E h=>?_) (fun _ _ _ _ _ us hl=>match us,hl with|[],_=>rfl) (fun A outer s H f clos cdv fv vs Q E hr h=>?_)
 ·obtain⟨bd,p,total,tries,rfl,rfl,_⟩:=h;exact⟨rfl,rfl⟩
 ·obtain⟨bd,p,total,tries,rfl,rfl,h⟩:=h;have nd:=xkR.nd;refine⟨_,(yc ⟨rfl,rfl,rfl⟩ (cv 1) T.q0a T.q2S (xcO T) (hr.mono (by decide)) T.xdc .nil (xa (cv 0) (xa (cv 2) (xa (cv 3) xc)))),?_⟩;walk_at"w";have h0:=h;obtain⟨F,B,s,p',o,n,rs,t',r',fi,e,hF,hB,_⟩:=h;have eb:bd=B.bd:=by injection e with e _;injection e
  refine⟨bd,B.dx,_,rfl,by rw[eb];exact hB.bd,rfl,?_⟩;exact h0
theorem xpM(T:Txt K mg a):yA P w K mg base (CXN P w) 8 "<lambda>" "Board.fine.<locals>.<lambda>" (uv xgK) (.expr (uw xgK)) (yg xgK) [] (xpH P w K mg base a):=by
 refine xdY xkS (fun fv vs H Q E h=>?_) (fun _ _ _ _ _ us hl=>match us,hl with|[],_=>rfl) (fun A outer s H f clos cdv fv vs Q E hr h=>?_)
 ·obtain⟨bd,i,rfl,rfl,_⟩:=h;exact⟨rfl,rfl⟩
 ·obtain⟨bd,i,rfl,rfl,h⟩:=h;have nd:=xkS.nd;refine⟨_,(yc ⟨rfl,rfl,rfl⟩ (cv 1) T.q0a T.q3n (xer T) (hr.mono (by decide)) T.xeR .nil (xa (cv 0) xc)),?_⟩;walk_at"w";have h0:=h;obtain⟨F,B,s,b,e,hF,hB,_⟩:=h;have eb:bd=B.bd:=by injection e with e _;injection e
  refine⟨bd,B.dx,_,rfl,by rw[eb];exact hB.bd,rfl,?_⟩;exact h0
theorem xpN(T:Txt K mg a):yA P w K mg base (CXN P w) 7 "<lambda>" "Board.go_back.<locals>.<lambda>" (uv xgL) (.expr (uw xgL)) (yg xgL) [] (xpI P w K mg base a):=by
 refine xdY xkT (fun fv vs H Q E h=>?_) (fun _ _ _ _ _ us hl=>match us,hl with|[],_=>rfl) (fun A outer s H f clos cdv fv vs Q E hr h=>?_)
 ·obtain⟨F,B,s,b,rfl,rfl,_⟩:=h;exact⟨rfl,rfl⟩
 ·obtain⟨F,B,st,b,rfl,rfl,hF,hB,hT,q⟩:=h;have nd:=xkT.nd;refine⟨_,(yc ⟨rfl,rfl,rfl⟩ (cv 1) T.q0a T.q0n (yd T) (hr.mono (by decide)) T.yf .nil (xa (xw (cv 1) rfl) (xa xP (xa (cv 0) xc)))),?_⟩;walk_at"w";refine⟨B.bd,B.dx,_,rfl,hB.bd,rfl,?_⟩;walk_at"w";refine⟨B.bd,_,B.dx,_,.ref B.se,rfl,hB.bd,T.q0a,T.q0j,rfl,?_⟩;walk_at"w";exact⟨F,B,_,.mrk b,B.se,_,_,rfl,hF,hB,hT,rfl,q⟩
theorem uo(T:Txt K mg a):xy P w K mg base (CXE P w) 11 a.q0x a.uH ["self","deed"] (xqT P w K mg base a):=by
 refine T.q04.okX jK (fun vs H Q E h=>?_) (fun cdv A outer s H vs Q E hr h=>?_)
 ·obtain⟨B,f,rfl,_⟩:=h;rfl
 ·obtain⟨B,f,rfl,h⟩:=h;have nd:=jK.nd;refine⟨_,(xk (xiP (i:=2) ⟨rfl,rfl,rfl⟩ T.q4u (by rfl) T.xdd T.q3k (xgw T) (hr.mono (by decide)) T.xdq (by rfl) T.xdd nd rfl rfl (fun _ _=>(xk (xv (xlC (P:=P) (w:=w) (K:=K) (mg:=mg) (base:=base) (k:=10) 1 ⟨rfl,rfl,rfl⟩ (hr.mono (by decide)) rfl rfl rfl rfl rfl)))) (fun _ _ _ _ ep=>(xpK (K:=K) rfl (cv 0) zg rfl)) (fun _ _ _ _ ep=>(xa (xkz (K:=K) rfl ep (by exact fun _ z=>aR _ z) (cv 2) rfl) xc)))),?_⟩;walk_at"w";refine⟨f,rfl,?_⟩;refine h _ fun cls dx H1 hf=>?_;obtain⟨F,s1,d,c,rfl,rfl,hd,hB1,k⟩:=hf;walk_at"w";refine⟨a.q0d,rfl,T.q1g,fun ae hae=>?_⟩;walk_at"w";refine⟨B.bd,_,B.dx,_,rfl,hB1.bd,T.q0a,T.q0o,by walk_at"few",?_⟩;rw[xlW];have nd9:d≠B.bd:=fun z=>by rw[z,hB1.bd]at hd;cases hd
  have hd2:upd H1 B.bd (.ins a.q0b B.dx (bdF B s1.size .non)) d=some (.xd [("count",.int c)]):=by rw[xl nd9];exact hd
  have hB2:=hB1.rune (r:=none);have k2:Kp (BF F B) H1 (upd H1 B.bd (.ins a.q0b B.dx (bdF B s1.size (vH none)))):=xgE (Kp.of (xf.refl _));walk_at"w";refine⟨_,d,_,.int c,rfl,rfl,rfl,hd2,T.q3l,T.xas,T.q0K,rfl,?_⟩;walk_at"w";refine⟨.int c,rfl,fun d' hd'=>?_⟩;exact k d' _ (k2.trans (Kp.of (xf.new hd'))) (hB2.same (xf.new hd')) xm
theorem uq(T:Txt K mg a):xy P w K mg base (CXE P w) 1 a.q0v a.uF ["self"] (xpJ a):=by
 refine T.q02.okX jI (fun vs H Q E h=>?_) (fun cdv A outer s H vs Q E hr h=>?_)
 ·obtain⟨F,B,s,rfl,_⟩:=h;rfl
 ·obtain⟨F,B,st,rfl,hB,q1,q2⟩:=h;have nd:=jI.nd;refine⟨_,(xk (xM (xdU (xw (cv 0) rfl)) (xk (jZ ⟨rfl,rfl,rfl⟩ rfl T.q5i (by rfl) T.xqQ (xa xP xc))) xC)),?_⟩;walk_at"w";refine⟨B.bd,_,B.dx,_,vH st.run,rfl,hB.bd,T.q0a,T.q0o,rfl,?_⟩;walk_at"w";cases hr0:st.run with
  |none=>
   refine⟨fun _=>?_,by walk_at"no"⟩;walk_at"w";exact⟨by decide,q2 hr0 _ (xf.refl _)⟩
  |some b=>
   refine⟨by walk_at"no",fun _=>?_⟩;exact q1 (by rw[hr0];simp)
end
structure PJ(K:ag)(H:Hp)(p:Addr)(o n:Int)(rs:List xp):Prop where
 at':zG K H p o n rs
 ho:0≤o∧o≤300
 hn:0≤n∧n≤300
 few:rs.length≤300
 ok:∀r∈rs,r.ok∧Fit o n r
 tw:jL rs=none
def jF(rs:List xp)(n:Int):Option (List V):=match ur rs n.toNat with
 |some c=>some [.str "lacks",.int c]
 |none=>match xaZ rs with
  |some (k,c)=>some [.str "late",.int k,.int c]
  |none=>none
theorem xpO{H:Hp}{Q:VK}{rs:List xp}{n:Int}(h1:jF rs n=none→∀H',xf H H'→Q .non H')(h2:∀xs,jF rs n=some xs→∀t H',xf H H'→H' t=some (.tup xs)→Q (.ref t) H'):xjm H Q rs n:=by
 unfold jF at h1 h2;unfold xjm;cases hl:ur rs n.toNat with
 |some c=>
  rw[hl]at h2;exact fun t H' s e=>h2 _ rfl t H' s e
 |none=>
  rw[hl]at h1 h2;cases ht:xaZ rs with
  |none=>rw[ht]at h1;exact fun H' s=>h1 rfl H' s
  |some kc=>rw[ht]at h2;exact fun t H' s e=>h2 _ rfl t H' s e
def xm3(s:BdS)(o:Int):Bool:=decide (s.mark (!s.mr)=("open":Str))||decide (o=0)||(decide (s.mark (!s.mr)=("good":Str))&&decide (s.len (!s.mr)=o))
def xaN(s:BdS)(o n:Int):Bool:=decide (s.size<max o n)|| !xm3 s o
def xm4(K:ag)(a:Adr):Sp:=fun vs H Q E=>∃(F:FM) (B:BA) (s:BdS) (p:Addr) (o n:Int) (rs:List xp),vs=[.ref B.bd,.ref p]∧xx a F H B s∧PJ K H p o n rs∧jF rs n=none∧
 (s.mark (!s.mr)=("trial":Str)→∀H',xf H H'→E (.ref a.q0M) none H')∧
 (s.mark (!s.mr)≠("trial":Str)→(xaN s o n=true→∀H',xf H H'→E (.ref a.q1I) none H')∧(xaN s o n=false→∀H',xf H H'→Q .non H'))
inductive xhY(P:ak)(w:World)(K:ag)(mg:Str→Option Value)(base:Heap)(a:Adr)(vs:List V)(H:Hp)(Q:VK)(E:XK):Prop
 |mk (F:FM) (B:BA) (s:BdS) (p:Addr) (o n:Int) (rs:List xp) (total tries:Int) (first:Nat):(vs=[.ref B.bd,.ref p,.int total,.int tries])→um P w K mg base F→(xx a F H B s)→(Tbs H)→(PJ K H p o n rs)→jF rs n=none→xai s first→xet K H p o n rs→(max o n≤s.size→∀x∈yy rs,xag (s.cells (!s.mr)).length x)→(s.cells (!s.mr)).length=s.size→
  (s.run=none→∀H',xf H H'→E (.ref a.q1s) none H')→(s.run≠none→s.mark (!s.mr)=("trial":Str)→∀H',xf H H'→E (.ref a.q0M) none H')→
  (s.run≠none→s.mark (!s.mr)≠("trial":Str)→xaN s o n=true→∀H',xf H H'→E (.ref a.q1I) none H')→
  (s.run≠none→s.mark (!s.mr)≠("trial":Str)→xaN s o n=false→xR a F H B (zc s.run (xB F s (xbP s rs first n total tries))) (Q (.bl (decide (((xbO s rs first).take n.toNat).sum=total)))) E)→xhY P w K mg base a vs H Q E
def xm5(P:ak)(w:World)(K:ag)(mg:Str→Option Value)(base:Heap)(a:Adr):Sp:=xhY P w K mg base a
def xpP(P:ak)(w:World)(K:ag)(mg:Str→Option Value)(base:Heap)(a:Adr):Sp:=fun vs H Q E=>∃(F:FM) (B:BA) (s:BdS),vs=[.ref B.bd]∧um P w K mg base F∧xx a F H B s∧Tbs H∧(s.run=none→∀H',xf H H'→E (.ref a.q1s) none H')∧
 (s.run≠none→¬(s.run=some (!s.mr)∧s.mark (!s.mr)=("trial":Str))→∀H',xf H H'→E (.ref a.q0Z) none H')∧
 (s.run=some (!s.mr)→s.mark (!s.mr)=("trial":Str)→xR a F H B (zc s.run (xB F s [.mark (!s.mr) "good",.mrk (!s.mr)])) (Q .non) E)
def xm6(P:ak)(w:World)(K:ag)(mg:Str→Option Value)(base:Heap)(a:Adr):Sp:=fun vs H Q E=>∃(F:FM) (B:BA) (s:BdS),vs=[.ref B.bd]∧um P w K mg base F∧xx a F H B s∧Tbs H∧(s.run=none→∀H',xf H H'→E (.ref a.q1s) none H')∧
 (s.run≠none→s.mark (!s.mr)≠("good":Str)→∀H',xf H H'→E (.ref a.q0B) none H')∧
 (s.run≠none→s.mark (!s.mr)=("good":Str)→xR a F H B (zc none (xB F s [.mrk (!s.mr)])) (Q .non) E)
theorem xhZ{F:FM}{s:BdS}{ys:List Wr}:({(xB F s ys).1 with run:=s.run}:BdS)=(xB F s ys).1:=by
 rw[←(xfD (F:=F) ys s).2]
section
variable {P:ak} {w:World} {K:ag} {mg:Str→Option Value} {base:Heap} {a:Adr}
theorem xcP(T:Txt K mg a):xy P w K mg base (CXE P w) 9 a.q0r a.uj ["self","paper"] (xm4 K a):=by
 refine T.q0T.okX jj (fun vs H Q E h=>?_) (fun cdv A outer s H vs Q E hr h=>?_)
 ·obtain⟨F,B,s,p,o,n,rs,rfl,_⟩:=h;rfl
 ·obtain⟨F,B,st,p,o,n,rs,rfl,hB,hJ,hj,q1,q2⟩:=h;have nd:=jj.nd;refine⟨_,(xg (xE (i:=2) nd rfl (aA rfl) (xQ (cv 0) T.q0a T.q0I (yB T) (hr.mono (by decide)) T.yM .nil xt))
  (xg (xM (xJ xbT (xA xV (xw (cv 0) rfl) (cv 2) (fun _ _=>rfl)) xP) (xk (jZ ⟨rfl,rfl,rfl⟩ rfl T.q4C (by rfl) T.xmN (xa xP xc))) xC)
  (xg (xE (i:=3) nd rfl (aA rfl) (xD (xnU T) (hr.mono (by decide)) (by rfl) T.xph T.q3T.kp T.xpg .nil xt (xa (cv 1) xc)))
  (xg (xM (jW (cv 3)) (xk xa4) xC)
  (xg (xM (xJ xdQ (xN (xiH rfl) (by rfl) T.q4E xfY (xa (xA xH (cv 1) xj (fun _ _=>rfl)) (xa (xA xH (cv 1) xj (fun _ _=>rfl)) xc))) (xw (cv 0) rfl)) (xk (jZ ⟨rfl,rfl,rfl⟩ rfl T.q4D (by rfl) T.xkB (xa xP xc))) xC)
  (xk (xM (xcz (zQ (zd (cv 0) T.q0a T.q23 (xdl T) (hr.mono (by decide)) T.xdK .nil xt (xa (cv 2) (xa (xA xH (cv 1) xj (fun _ _=>rfl)) xc))))) (xk (jZ ⟨rfl,rfl,rfl⟩ rfl T.q4D (by rfl) T.xkB (xa xP xc))) xC))))))),?_⟩
  have atM:atI [V.str (st.mark false),V.str (st.mark true)] (bI (!st.mr))=some (.str (st.mark (!st.mr))):=by cases st.mr<;> rfl
  walk_at"w";refine⟨B.bd,B.dx,_,rfl,hB.bd,rfl,?_⟩;walk_at"w";refine⟨F,B,st,rfl,hB,?_⟩;walk_at"w";refine⟨B.bd,_,B.dx,_,.ref B.ma,rfl,hB.bd,T.q0a,T.q0h,rfl,?_⟩;walk_at"w";refine⟨B.ma,_,_,_,rfl,rfl,SqL.of hB.ma,atM,?_⟩;walk_at"w";refine⟨fun c=>?_,fun c=>?_⟩
  ·walk_at"w";exact⟨by decide,q1 (of_decide_eq_true c) H (xf.refl _)⟩
  obtain⟨q4,q5⟩:=q2 (of_decide_eq_false c);walk_at"w";refine⟨p,o,n,rs,rfl,hJ.at',hJ.ho,hJ.hn,hJ.few,hJ.ok,hJ.tw,xpO (fun _ H1 s1=>?_) (fun xs hx=>by rw[hj]at hx;cases hx)⟩;walk_at"w";refine⟨by walk_at"no",fun _=>?_⟩;obtain⟨tt,us,hp,_⟩:=hJ.at'.same s1;have hB1:=hB.same s1;walk_at"w";refine⟨p,_,_,.int o,rfl,rfl,SqT.of hp,rfl,?_⟩;walk_at"w";refine⟨p,_,_,.int n,rfl,rfl,SqT.of hp,rfl,?_⟩;walk_at"w";refine⟨B.bd,_,B.dx,_,.int st.size,rfl,hB1.bd,T.q0a,T.q3w,rfl,?_⟩;walk_at"w";refine⟨fun c=>?_,fun c=>?_⟩
  ·walk_at"w";refine⟨by decide,q4 ?_ H1 s1⟩;unfold xaN;rw[show decide (st.size<max o n)=true from c];rfl
  have c:decide (st.size<max o n)=false:=c;walk_at"w";refine⟨B.bd,B.dx,_,rfl,hB1.bd,rfl,?_⟩;walk_at"w";refine⟨p,_,_,.int o,rfl,rfl,SqT.of hp,rfl,?_⟩;walk_at"w";refine⟨F,B,st,(!st.mr),o,rfl,hB1,?_⟩;unfold xaN xm3 at q4 q5;rw[c,gv]at q4 q5;generalize (decide (st.mark (!st.mr)=("open":Str))||decide (o=0)||(decide (st.mark (!st.mr)=("good":Str))&&decide (st.len (!st.mr)=o)))=bb at q4 q5;cases bb with
  |true=>
   walk_at"w";refine⟨by walk_at"no",fun _=>?_⟩;exact q5 rfl H1 s1
  |false=>
   walk_at"w";refine⟨fun _=>?_,by walk_at"no"⟩;walk_at"w";exact⟨by decide,q4 rfl H1 s1⟩
theorem xgM(T:Txt K mg a):xy P w K mg base (CXE P w) 12 a.q0Q a.vn ["self","paper","total","tries"] (xm5 P w K mg base a):=by
 refine T.vp.okXK ["paper","self","total","tries"] T.xgn xb2 (fun vs H Q E h=>?_) (fun A outer s H vs Q E hr h=>?_)
 ·obtain⟨F,B,s,p,o,n,rs,total,tries,first,rfl,_⟩:=h;rfl
 ·obtain⟨F,B,st,p,o,n,rs,total,tries,first,rfl,hF,hB,hT,hJ,hj,hfi,pg,hdue,hsz,q1,q2,q4,q5⟩:=h;have nd:=xb2.nd;refine⟨_,(yL (x:="paper") (i:=1) nd rfl rfl rfl (by kernel_rfl) (yL (x:="self") (i:=0) nd rfl rfl rfl (by kernel_rfl) (yL (x:="total") (i:=2) nd rfl rfl rfl (by kernel_rfl) (yL (x:="tries") (i:=3) nd rfl rfl rfl (by kernel_rfl) (xg (xO (jh ⟨rfl,rfl,rfl⟩ (cv 0) T.q0a T.q1w (uq T) (hr.mono (by decide)) T.uI .nil))
  (xg (xO (xbi ⟨rfl,rfl,rfl⟩ (cv 0) T.q0a T.q2T (xcP T) (hr.mono (by decide)) T.xdb .nil (xa (cv 1) xc)))
  (xk (xv (xbi ⟨rfl,rfl,rfl⟩ (cv 0) T.q0a T.q1x (uo T) (hr.mono (by decide)) T.uJ .nil (xa (zB (c:=q0D) (P:=yF) (qs:=uM) (fns:=["paper","self","total","tries"]) rfl T.q3E (q:="Board.update.<locals>.<lambda>") (by kernel_rfl) (.head _) (by kernel_rfl) (by kernel_rfl)) xc)))))))))),?_⟩
  walk_at"w";intro a1 e1 z1 d1;refine a6 z1 ?_;generalize hU1:upd H a1 _=H1;have s1:=xf.of_eq z1 hU1;have c1:=xq hU1;walk_at"w";intro a2 e2 z2 d2;have n12:a1≠a2:=d2 _ _ e1 (by decide);have y2:H1 a2=none:=by rw[←hU1,xl (au n12)];exact z2
  refine a6 y2 ?_;generalize hU2:upd H1 a2 _=H2;have s2:=xf.of_eq y2 hU2;have c2:=xq hU2;walk_at"w";intro a3 e3 z3 d3;have n13:a1≠a3:=d3 _ _ e1 (by decide);have n23:a2≠a3:=d3 _ _ e2 (by decide);have y3:H2 a3=none:=by rw[←hU2,xl (au n23),←hU1,xl (au n13)];exact z3
  refine a6 y3 ?_;generalize hU3:upd H2 a3 _=H3;have s3:=xf.of_eq y3 hU3;have c3:=xq hU3;walk_at"w";intro a4 e4 z4 d4;have n14:a1≠a4:=d4 _ _ e1 (by decide);have n24:a2≠a4:=d4 _ _ e2 (by decide);have n34:a3≠a4:=d4 _ _ e3 (by decide);have y4:H3 a4=none:=by rw[←hU3,xl (au n34),←hU2,xl (au n24),←hU1,xl (au n14)];exact z4
  refine a6 y4 ?_;generalize hU4:upd H3 a4 _=H4;have s4:=xf.of_eq y4 hU4;have c4:=xq hU4;clear hU1 hU2 hU3 hU4;have s04:=s1.trans (s2.trans (s3.trans s4));have hB4:=hB.same s04;have hJ4:PJ K H4 p o n rs:=⟨hJ.at'.same s04,hJ.ho,hJ.hn,hJ.few,hJ.ok,hJ.tw⟩;walk_at"w";refine⟨B.bd,B.dx,_,rfl,hB4.bd,rfl,?_⟩;walk_at"w";refine⟨F,B,st,rfl,hB4,fun hrun=>?_,fun hrun H' s'=>?_⟩
  rotate_left
  ·exact q1 hrun H' (s04.trans s')
  walk_at"w";refine⟨B.bd,B.dx,_,rfl,hB4.bd,rfl,?_⟩;walk_at"w";refine⟨F,B,st,p,o,n,rs,rfl,hB4,hJ4,hj,fun ht H' s'=>q2 hrun ht H' (s04.trans s'),fun ht=>⟨fun hf H' s'=>q4 hrun ht hf H' (s04.trans s'),fun hf H5 s5=>?_⟩⟩;have q:=q5 hrun ht hf;have hmx:max o n≤st.size:=by
   unfold xaN at hf;have:=of_decide_eq_false (iV.mp hf).1;lia
  have s05:=s04.trans s5;have s25:=s3.trans (s4.trans s5);walk_at"w";refine⟨B.bd,B.dx,_,rfl,s5.at hB4.bd,rfl,?_⟩;walk_at"w";refine⟨(hT.same s05).2.2.2.2.1,[("paper",.ref p),("self",.ref B.bd),("total",.int total),("tries",.int tries)],rfl,(fun x v m=>?_),fun g H6 hg s6 hc=>?_⟩
  ·simp only[av,dJ,bo,or_false]at m;rcases m with⟨rfl,rfl⟩|⟨rfl,rfl⟩|⟨rfl,rfl⟩|⟨rfl,rfl⟩
   ·exact⟨a1,e1,(s2.trans s25).at c1⟩
   ·exact⟨a2,e2,s25.at c2⟩
   ·exact⟨a3,e3,(s4.trans s5).at c3⟩
   ·exact⟨a4,e4,s5.at c4⟩
  walk_at"w";have s06:=s05.trans s6;have hpg:xet K H6 p o n rs:=pg.kp (L:=[]) (Kp.of s06) (fun _ z=>nomatch z);refine⟨B,g,rfl,fun E' hE=>⟨_,_,_,_,_,_,_,_,xpL T,hc,B.bd,p,total,tries,rfl,rfl,F,B,st,p,o,n,rs,total,tries,first,rfl,hF,hB.same s06,hT.same s06,hfi,hpg,hdue hmx,by lia,hJ.hn.1,?_⟩⟩;have q9:=(q.same s06).rof;rw[xhZ]at q9;exact q9.imp (fun H1 hB1 k1 e z=>z H1 e k1 hB1) hE
theorem xim(T:Txt K mg a):xy P w K mg base (CXE P w) 12 a.q1r a.jC ["self"] (xpP P w K mg base a):=by
 refine T.jE.okXK ["other","self"] T.xia xdD (fun vs H Q E h=>?_) (fun A outer s H vs Q E hr h=>?_)
 ·obtain⟨F,B,s,rfl,_⟩:=h;rfl
 ·obtain⟨F,B,st,rfl,hF,hB,hT,q1,q2,q3⟩:=h;have nd:=xdD.nd;refine⟨_,(yL (x:="other") (i:=1) nd rfl rfl rfl (by kernel_rfl) (yL (x:="self") (i:=0) nd rfl rfl rfl (by kernel_rfl) (xg (xO (jh ⟨rfl,rfl,rfl⟩ (cv 0) T.q0a T.q1w (uq T) (hr.mono (by decide)) T.uI .nil))
  (xg (xkt (i:=1) nd rfl rfl rfl (by kernel_rfl) (xQ (cv 0) T.q0a T.q0I (yB T) (hr.mono (by decide)) T.yM .nil xt))
  (xg (xM (PW.pt (xaT (xJ xfV (xw (cv 0) rfl) (cv 1)) (xa8 (xJ xbU (xA xV (xw (cv 0) rfl) (cv 1) (fun _ _=>rfl)) xP)))) (xk (jZ ⟨rfl,rfl,rfl⟩ rfl T.q4B (by rfl) T.xmM (xa xP xc))) xC)
  (xk (xO (xbi ⟨rfl,rfl,rfl⟩ (cv 0) T.q0a T.q1x (uo T) (hr.mono (by decide)) T.uJ .nil (xa (zB (c:=q05) (P:=zm) (qs:=vP) (fns:=["other","self"]) rfl T.q4d (q:="Board.fine.<locals>.<lambda>") (by kernel_rfl) (.head _) (by kernel_rfl) (by kernel_rfl)) xc))))))))),?_⟩
  have atM:atI [V.str (st.mark false),V.str (st.mark true)] (bI (!st.mr))=some (.str (st.mark (!st.mr))):=by cases st.mr<;> rfl
  walk_at"w";intro a1 e1 z1 d1;refine a6 z1 ?_;generalize hU1:upd H a1 _=H1;have s1:=xf.of_eq z1 hU1;have c1:=xq hU1;walk_at"w";intro a2 e2 z2 d2;have n12:a1≠a2:=d2 _ _ e1 (by decide);have y2:H1 a2=none:=by rw[←hU1,xl (au n12)];exact z2
  refine a6 y2 ?_;generalize hU2:upd H1 a2 _=H2;have s2:=xf.of_eq y2 hU2;have c2:=xq hU2;clear hU1 hU2;have s02:=s1.trans s2;have hB2:=hB.same s02;walk_at"w";refine⟨B.bd,B.dx,_,rfl,hB2.bd,rfl,?_⟩;walk_at"w";refine⟨F,B,st,rfl,hB2,fun hrun=>?_,fun hrun H' s'=>?_⟩
  rotate_left
  ·exact q1 hrun H' (s02.trans s')
  walk_at"w";refine⟨B.bd,B.dx,_,rfl,hB2.bd,rfl,?_⟩;walk_at"w";refine⟨F,B,st,rfl,hB2,?_⟩;walk_at"w";refine⟨a1,e1,s2.at c1,?_⟩;generalize hU3:upd H2 a1 _=H3;have s03:xf H H3:=by rw[←hU3];exact s02.put z1
  have c13:H3 a1=some (.cel (some (.int (bI (!st.mr))))):=xq hU3;have c23:H3 a2=some (.cel (some (.ref B.bd))):=by rw[←hU3,xl (au n12)];exact c2
  clear hU3;have hB3:=hB.same s03;obtain⟨r,hr0⟩:∃r,st.run=some r:=by
   cases h:st.run with
   |none=>exact absurd h hrun
   |some r=>exact⟨r,rfl⟩
  have hbd:H3 B.bd=some (.ins a.q0b B.dx (bdF B st.size (.int (bI r)))):=by have:=hB3.bd;rw[hr0]at this;exact this
  have bIe:∀x y:Bool,bI x=bI y↔x=y:=by intro x y;cases x<;> cases y<;> decide
  walk_at"w";refine⟨B.bd,_,B.dx,_,.int (bI r),rfl,hbd,T.q0a,T.q0o,rfl,?_⟩;walk_at"w";refine⟨fun c=>?_,fun c=>?_⟩
  ·walk_at"w";refine⟨fun _=>?_,by walk_at"no"⟩;walk_at"w";refine⟨by decide,q2 hrun (fun z=>?_) H3 s03⟩;rw[hr0]at z;have e:=(bIe r (!st.mr)).mpr (bh z.1);rw[decide_eq_true e]at c;cases c
  have er:r= !st.mr:=(bIe _ _).mp (of_decide_eq_true (p:=bI r=bI (!st.mr)) (by rw[←c7];exact c));walk_at"w";refine⟨B.bd,_,B.dx,_,.ref B.ma,rfl,hB3.bd,T.q0a,T.q0h,rfl,?_⟩;walk_at"w";refine⟨B.ma,_,_,_,rfl,rfl,SqL.of hB3.ma,atM,?_⟩;walk_at"w";refine⟨fun c2=>?_,fun c2=>?_⟩
  ·walk_at"w";refine⟨by decide,q2 hrun (fun z=>?_) H3 s03⟩;rw[show br "trial"=("trial":Str)from rfl,decide_eq_true z.2]at c2;cases c2
  have et:st.mark (!st.mr)=("trial":Str):=of_decide_eq_true (p:=st.mark (!st.mr)=br "trial") (by rw[←c7];exact c2);walk_at"w";refine⟨B.bd,B.dx,_,rfl,hB3.bd,rfl,?_⟩;walk_at"w";refine⟨(hT.same s03).2.2.2.2.2.1,[("other",.int (bI (!st.mr))),("self",.ref B.bd)],rfl,(fun x v m=>?_),fun g H6 hg s6 hc=>?_⟩
  ·simp only[av,dJ,bo,or_false]at m;rcases m with⟨rfl,rfl⟩|⟨rfl,rfl⟩
   ·exact⟨a1,e1,c13⟩
   ·exact⟨a2,e2,c23⟩
  walk_at"w";have s06:=s03.trans s6;refine⟨B,g,rfl,fun E' hE=>⟨_,_,_,_,_,_,_,_,yA.mono (xpM T) (by decide),hc,B.bd,bI (!st.mr),rfl,rfl,F,B,st,(!st.mr),rfl,hF,hB.same s06,hT.same s06,?_⟩⟩;have q9:=((q3 (by rw[hr0,er]) et).same s06).rof;rw[xhZ]at q9;exact q9.imp (fun H1 hB1 k1 e z=>z H1 e k1 hB1) hE
theorem xfG(T:Txt K mg a):xy P w K mg base (CXE P w) 12 a.q0J a.uO ["self"] (xm6 P w K mg base a):=by
 refine T.uP.okXK ["other","self"] T.xfv xbM (fun vs H Q E h=>?_) (fun A outer s H vs Q E hr h=>?_)
 ·obtain⟨F,B,s,rfl,_⟩:=h;rfl
 ·obtain⟨F,B,st,rfl,hF,hB,hT,q1,q2,q3⟩:=h;have nd:=xbM.nd;refine⟨_,(yL (x:="other") (i:=1) nd rfl rfl rfl (by kernel_rfl) (yL (x:="self") (i:=0) nd rfl rfl rfl (by kernel_rfl) (xg (xO (jh ⟨rfl,rfl,rfl⟩ (cv 0) T.q0a T.q1w (uq T) (hr.mono (by decide)) T.uI .nil))
  (xg (xkt (i:=1) nd rfl rfl rfl (by kernel_rfl) (xQ (cv 0) T.q0a T.q0I (yB T) (hr.mono (by decide)) T.yM .nil xt))
  (xg (xM (xJ xbU (xA xV (xw (cv 0) rfl) (cv 1) (fun _ _=>rfl)) xP) (xk (jZ ⟨rfl,rfl,rfl⟩ rfl T.q4v (by rfl) T.xj9 (xa xP xc))) xC)
  (xg (xO (xbi ⟨rfl,rfl,rfl⟩ (cv 0) T.q0a T.q1x (uo T) (hr.mono (by decide)) T.uJ .nil (xa (zB (c:=q0A) (P:=yv) (qs:=uh) (fns:=["other","self"]) rfl T.q3z (q:="Board.go_back.<locals>.<lambda>") (by kernel_rfl) (.head _) (by kernel_rfl) (by kernel_rfl)) xc)))
  (xk (yh (cv 0) zg rfl)))))))),?_⟩
  have atM:atI [V.str (st.mark false),V.str (st.mark true)] (bI (!st.mr))=some (.str (st.mark (!st.mr))):=by cases st.mr<;> rfl
  walk_at"w";intro a1 e1 z1 d1;refine a6 z1 ?_;generalize hU1:upd H a1 _=H1;have s1:=xf.of_eq z1 hU1;have c1:=xq hU1;walk_at"w";intro a2 e2 z2 d2;have n12:a1≠a2:=d2 _ _ e1 (by decide);have y2:H1 a2=none:=by rw[←hU1,xl (au n12)];exact z2
  refine a6 y2 ?_;generalize hU2:upd H1 a2 _=H2;have s2:=xf.of_eq y2 hU2;have c2:=xq hU2;clear hU1 hU2;have s02:=s1.trans s2;have hB2:=hB.same s02;walk_at"w";refine⟨B.bd,B.dx,_,rfl,hB2.bd,rfl,?_⟩;walk_at"w";refine⟨F,B,st,rfl,hB2,fun hrun=>?_,fun hrun H' s'=>?_⟩
  rotate_left
  ·exact q1 hrun H' (s02.trans s')
  walk_at"w";refine⟨B.bd,B.dx,_,rfl,hB2.bd,rfl,?_⟩;walk_at"w";refine⟨F,B,st,rfl,hB2,?_⟩;walk_at"w";refine⟨a1,e1,s2.at c1,?_⟩;generalize hU3:upd H2 a1 _=H3;have s03:xf H H3:=by rw[←hU3];exact s02.put z1
  have c13:H3 a1=some (.cel (some (.int (bI (!st.mr))))):=xq hU3;have c23:H3 a2=some (.cel (some (.ref B.bd))):=by rw[←hU3,xl (au n12)];exact c2
  clear hU3;have hB3:=hB.same s03;walk_at"w";refine⟨B.bd,_,B.dx,_,.ref B.ma,rfl,hB3.bd,T.q0a,T.q0h,rfl,?_⟩;walk_at"w";refine⟨B.ma,_,_,_,rfl,rfl,SqL.of hB3.ma,atM,?_⟩;walk_at"w";refine⟨fun c=>?_,fun c=>?_⟩
  ·walk_at"w";refine⟨by decide,q2 hrun (fun z=>?_) H3 s03⟩;rw[show br "good"=("good":Str)from rfl,decide_eq_true z]at c;cases c
  have et:st.mark (!st.mr)=("good":Str):=of_decide_eq_true (p:=st.mark (!st.mr)=br "good") (by rw[←c7];exact c);walk_at"w";refine⟨B.bd,B.dx,_,rfl,hB3.bd,rfl,?_⟩;walk_at"w";refine⟨(hT.same s03).2.2.2.2.2.2,[("other",.int (bI (!st.mr))),("self",.ref B.bd)],rfl,(fun x v m=>?_),fun g H6 hg s6 hc=>?_⟩
  ·simp only[av,dJ,bo,or_false]at m;rcases m with⟨rfl,rfl⟩|⟨rfl,rfl⟩
   ·exact⟨a1,e1,c13⟩
   ·exact⟨a2,e2,c23⟩
  walk_at"w";have s06:=s03.trans s6;refine⟨B,g,rfl,fun E' hE=>⟨_,_,_,_,_,_,_,_,yA.mono (xpN T) (by decide),hc,F,B,st,(!st.mr),rfl,rfl,hF,hB.same s06,hT.same s06,?_⟩⟩;have q9:=((q3 hrun et).same s06).rof;refine q9.imp (fun H1 hB1 k1 e z=>?_) hE;walk_at"w";refine⟨B.bd,_,B.dx,_,rfl,hB1.bd,T.q0a,T.q0o,by walk_at"few",?_⟩;rw[xlW];exact z _ e (xgE k1) (hB1.rune (r:=none))
end
section
variable {P:ak} {w:World} {K:ag} {mg:Str→Option Value} {base:Heap} {a:Adr}
def xlY(a:Adr):Sp:=fun vs H Q _=>∃(l p dp:Addr) (cells:List Int) (n:Int) (fl:V),vs=[.ref l,.ref p]∧H l=some (.lst (cells.map V.int))∧H p=some (.ins a.q0i dp (zb n fl))∧
 ∀(S:SA) (H':Hp),S.p=p→S.dp=dp→xf H H'→H S.st=none→H S.ca=none→H S.na=none→zu a H' S cells [some 0,some 0] n fl→Q (.ref S.st) H'
theorem xeu{H:Hp}{x y z:Addr}{o o':HO}(h:upd (upd H x o) y o' z=none):z≠y∧z≠x∧H z=none:=by
 have n1:z≠y:=fun e=>by rw[e,xm]at h;cases h
 rw[xl n1]at h;have n2:z≠x:=fun e=>by rw[e,xm]at h;cases h
 rw[xl n2]at h;exact⟨n1,n2,h⟩
theorem xgN(T:Txt K mg a):xy P w K mg base CX0 5 a.q3c a.xd6 ["cells","pen"] (xlY a):=by
 refine T.q2W.ok xgs (fun vs H Q E h=>?_) (fun cdv A outer s H vs Q E hr h=>?_)
 ·obtain⟨l,p,dp,cells,n,fl,rfl,_⟩:=h;rfl
 ·obtain⟨l,p,dp,cells,n,fl,rfl,hl,hp,q⟩:=h;have nd:=xgs.nd;refine⟨_,(xg (xE (i:=2) nd rfl (aA rfl) (xa1 (dvs:=[.non]) T.q4J (xie T) (hr.mono (by decide)) (by rfl) T.xpq T.xaL (.cons rfl .nil) xt (xa (cv 0) xc)))
  (xg (yh (cv 2) (cv 1) rfl)
  (xk (xv (cv 2))))),?_⟩
  walk_at"w";intro st dx hst hdx ne;have up:∀{b:Addr} {u:HO},H b=some u→upd (upd H dx (.own st)) st (.ins a.q0e dx []) b=some u:=fun e=>by rw[xl (xF e hst),xl (xF e hdx)];exact e
  refine⟨st,dx,l,cells,.non,rfl,xm,up hl,fun S H1 e1 k1 hS f1 f2 f3=>⟨rfl,?_⟩⟩;have s1:xf H H1:=fun b u e=>k1 b u (up e) (by simp;exact xF e hst);obtain⟨g1,g2,g3⟩:=xeu f1;obtain⟨g4,g5,g6⟩:=xeu f2;walk_at"w";refine⟨st,_,S.dx,_,rfl,by rw[←e1];exact hS.st,T.q0l,T.q2d,by walk_at"few",?_⟩;walk_at"w";have hpst:p≠st:=xF hp hst;refine q ⟨st,S.dx,S.ca,S.na,p,dp⟩ _ rfl rfl (s1.put hst) hst g3 g6 ⟨?_,?_,?_,?_,hS.ne,hpst⟩
  ·rw[xm];rfl
  ·show upd H1 st _ S.ca=_;rw[xl g1];exact hS.ca
  ·show upd H1 st _ S.na=_;rw[xl g4];exact hS.na
  ·show upd H1 st _ p=_;rw[xl hpst];exact s1.at hp
def bd0(text:List Int)(size:Int)(k:Int):BdS where
 size:=size
 cells:=fun b=>if b then aQ size.toNat 0 else text++aQ (size - text.length).toNat 0
 notes:=fun _=>[some 0,some 0]
 len:=fun b=>if b then 0 else text.length
 mark:=fun b=>if b then"bad" else"good"
 mr:=false
 ct:=0
 run:=none
 cnt:=k
 fl:=0
def xn5(K:ag)(a:Adr):Sp:=fun vs H Q E=>∃(F:FM) (bd dx l:Addr) (text:List Int) (size:Int),vs=[.ref bd,.ref l,.int size,.ref F.f]∧H bd=some (.ins a.q0b dx [])∧H l=some (.lst (text.map V.int))∧text.length≤1000∧size≤1000∧text.length≤size∧F.At H 0 0∧bd∉F.M∧
 ∀(B:BA) (H':Hp),B.bd=bd→Kp [bd] H H'→(∀y∈BS B,y=bd∨H y=none)→xx a F H' B (bd0 text size 0)→Q .non H'
theorem xin(T:Txt K mg a):xy P w K mg base CX0 6 a.q1q a.jB ["self","text","size","fall"] (xn5 K a):=by
 refine T.uY.ok xdC (fun vs H Q E h=>?_) (fun cdv A outer s H vs Q E hr h=>?_)
 ·obtain⟨F,bd,dx,l,text,size,rfl,_⟩:=h;rfl
 ·obtain⟨F,bd,dx,l,text,size,rfl,hbd,hl,ht,hs,hts,hat,hbM,q2⟩:=h;have nd:=xdC.nd;refine⟨_,(xg (xM (xJ xdQ (xN xU (by rfl) T.q12 yK (xa (cv 1) xc)) (cv 2)) (xk xa4) xC)
  (xg (yh (cv 0) (xa1 T.q4O (xe9 T) (hr.mono (by decide)) (by rfl) T.xow T.xgm .nil xt (xa (cv 3) xc)) rfl)
  (xg (yh (cv 0) (cv 2) rfl)
  (xg (yh (cv 0) (ye (xa (xD (xgN T) (hr.mono (by decide)) (by rfl) T.xhR T.q2W.kp T.xhQ .nil xt (xa (xu xiz (xZ zO (by rfl) T.q25 uu (xa (cv 1) xc)) (xu xfQ (ye (xa xj xc)) (xu yz (cv 2) (xN xU (by rfl) T.q12 yK (xa (cv 1) xc))))) (xa (xw (cv 0) rfl) xc))) (xa (xD (xgN T) (hr.mono (by decide)) (by rfl) T.xhR T.q2W.kp T.xhQ .nil xt (xa (xu xfQ (ye (xa xj xc)) (cv 2)) (xa (xw (cv 0) rfl) xc))) xc))) rfl)
  (xg (yh (cv 0) (ye (xa (xN xU (by rfl) T.q12 yK (xa (cv 1) xc)) (xa xj xc))) rfl)
  (xg (yh (cv 0) (ye (xa xP (xa xP xc))) rfl)
  (xg (yh (cv 0) (xoQ (xiD xP xj (xiD xP xj xoP)) rfl rfl (by simp) (by decide)) rfl)
  (xk (yh (cv 0) zg rfl))))))))),?_⟩
  walk_at"w";refine⟨l,_,rfl,.inl (SqL.of hl),?_⟩;rw[ao];walk_at"w";refine⟨fun c=>absurd (of_decide_eq_true c) (by show¬size<(text.length:Int);lia),fun c=>?_⟩;walk_at"w";intro pp pd hpp hpd npd;have up:∀{b:Addr} {u:HO},H b=some u→upd (upd H pd (.own pp)) pp (.ins a.q0i pd []) b=some u:=fun e=>by rw[xl (xF e hpp),xl (xF e hpd)];exact e
  refine⟨pp,pd,.ref F.f,rfl,xm,rfl,?_⟩;rw[zv];generalize hU1:upd (upd H pd (.own pp)) pp _=H1;have s1:xf H H1:=by
   rw[←hU1];exact fun b u e=>by rw[xl (xF e hpp),xl (xF e hpd)];exact e
  have ep1:H1 pp=some (.ins a.q0i pd (zb 0 (.ref F.f))):=by rw[←hU1,xm]
  clear hU1 up;walk_at"w";refine⟨bd,_,dx,_,rfl,s1.at hbd,T.q0a,T.q2Q,by walk_at"few",?_⟩;walk_at"w";refine⟨bd,_,dx,_,rfl,xm,T.q0a,T.q3w,by walk_at"few",?_⟩;rw[zv];have npb:bd≠pp:=xF hbd hpp;generalize hU2:upd H1 bd _=H2;have k2:Kp [bd] H H2:=by rw[←hU2];exact(Kp.of s1).wr (by simp)
  have eb2:H2 bd=some (.ins a.q0b dx [("pen",.ref pp),("size",.int size)]):=by rw[←hU2,xm];rfl
  have ep2:H2 pp=some (.ins a.q0i pd (zb 0 (.ref F.f))):=by rw[←hU2,xl (au npb)];exact ep1
  clear hU2;have nlb:l≠bd:=fun z=>by rw[z,hbd]at hl;cases hl
  have hl2:H2 l=some (.lst (text.map V.int)):=k2 _ _ hl (by simp[nlb]);walk_at"w";refine⟨l,_,rfl,.inl (SqL.of hl2),?_⟩;intro c1 hc1;generalize hUc1:upd H2 c1 _=H3;have sH3:=xf.of_eq hc1 hUc1;have ec1:=xq hUc1;clear hUc1;walk_at"w";walk_at"ss";intro c2 hc2;generalize hUc2:upd H3 c2 _=H4;have sH4:=xf.of_eq hc2 hUc2;have ec2:=xq hUc2;clear hUc2;walk_at"w";refine⟨l,_,rfl,.inl (SqL.of ((sH3.trans sH4).at hl2)),?_⟩;rw[ao];walk_at"w";refine⟨c2,size - text.length,_,rfl,rfl,ec2,by lia,by lia,(by show 1*_≤_;rw[aZ];lia),?_⟩;intro c3 hc3;generalize hUc3:upd H4 c3 _=H5;have sH5:=xf.of_eq hc3 hUc3;have ec3:=xq hUc3;clear hUc3;walk_at"w";refine⟨c1,c3,_,_,rfl,rfl,(sH4.trans sH5).at ec1,ec3,(by simp[aZ];lia),?_⟩;intro c4 hc4;generalize hUc4:upd H5 c4 _=H6;have sH6:=xf.of_eq hc4 hUc4;have ec4:=xq hUc4;clear hUc4;walk_at"w";have s26:=sH3.trans (sH4.trans (sH5.trans sH6));refine⟨bd,_,dx,_,.ref pp,rfl,s26.at eb2,T.q0a,T.q2Q,rfl,?_⟩;walk_at"w";have ec4':H6 c4=some (.lst ((text++aQ (size - text.length).toNat 0).map V.int)):=by rw[ec4];simp
  refine⟨c4,pp,pd,_,0,_,rfl,ec4',s26.at ep2,fun S0 H7 e1 e2 s7 f1 f2 f3 hS0=>?_⟩;walk_at"w";walk_at"ss";intro c5 hc5;generalize hUc5:upd H7 c5 _=H8;have sH8:=xf.of_eq hc5 hUc5;have ec5:=xq hUc5;clear hUc5;walk_at"w";refine⟨c5,size,_,rfl,rfl,ec5,by lia,by lia,(by show 1*_≤_;rw[aZ];lia),?_⟩;intro c6 hc6;generalize hUc6:upd H8 c6 _=H9;have sH9:=xf.of_eq hc6 hUc6;have ec6:=xq hUc6;clear hUc6;walk_at"w";have s29:=s26.trans (s7.trans (sH8.trans sH9));refine⟨bd,_,dx,_,.ref pp,rfl,s29.at eb2,T.q0a,T.q2Q,rfl,?_⟩;walk_at"w";have ec6':H9 c6=some (.lst ((aQ size.toNat (0:Int)).map V.int)):=by rw[ec6];simp
  refine⟨c6,pp,pd,_,0,_,rfl,ec6',s29.at ep2,fun S1 H10 g1 g2 s10 h1 h2 h3 hS1=>?_⟩;walk_at"w";walk_at"ss";intro bl hbl;generalize hUbl:upd H10 bl _=H11;have sH11:=xf.of_eq hbl hUbl;have ebl:=xq hUbl;clear hUbl;walk_at"w";have s211:=s29.trans (s10.trans sH11);have hS0':=hS0.same (sH8.trans (sH9.trans (s10.trans sH11)));have hS1':=hS1.same sH11;refine⟨bd,_,dx,_,rfl,s211.at eb2,T.q0a,T.q2P,by walk_at"few",?_⟩;generalize hU12:upd H11 bd _=H12;have k12:Kp [bd] H11 H12:=by rw[←hU12];exact(Kp.of (xf.refl _)).wr (by simp)
  have eb12:H12 bd=some (.ins a.q0b dx [("pen",.ref pp),("size",.int size),("banks",.ref bl)]):=by rw[←hU12,xm];rfl
  clear hU12;have hl12:H12 l=some (.lst (text.map V.int)):=k12 _ _ (s211.at hl2) (by simp[nlb]);walk_at"w";refine⟨l,_,rfl,.inl (SqL.of hl12),?_⟩;rw[ao];walk_at"w";walk_at"ss";intro le hle;generalize hUle:upd H12 le _=H13;have sH13:=xf.of_eq hle hUle;have ele:=xq hUle;clear hUle;walk_at"w";refine⟨bd,_,dx,_,rfl,sH13.at eb12,T.q0a,T.q1f,by walk_at"few",?_⟩;generalize hU14:upd H13 bd _=H14;have k14:Kp [bd] H13 H14:=by rw[←hU14];exact(Kp.of (xf.refl _)).wr (by simp)
  have eb14:H14 bd=some (.ins a.q0b dx [("pen",.ref pp),("size",.int size),("banks",.ref bl),("lengths",.ref le)]):=by rw[←hU14,xm];rfl
  clear hU14;walk_at"w";walk_at"ss";intro ma hma;generalize hUma:upd H14 ma _=H15;have sH15:=xf.of_eq hma hUma;have ema:=xq hUma;clear hUma;walk_at"w";refine⟨bd,_,dx,_,rfl,sH15.at eb14,T.q0a,T.q0h,by walk_at"few",?_⟩;generalize hU16:upd H15 bd _=H16;have k16:Kp [bd] H15 H16:=by rw[←hU16];exact(Kp.of (xf.refl _)).wr (by simp)
  have eb16:H16 bd=some (.ins a.q0b dx [("pen",.ref pp),("size",.int size),("banks",.ref bl),("lengths",.ref le),("marks",.ref ma)]):=by rw[←hU16,xm];rfl
  clear hU16;walk_at"w";intro se hse;walk_at"w";refine a6 xm ⟨xfC false 0,rfl,by decide,?_⟩;rw[zv,show xcB [] (xfC false 0)=xfC false 0 from by decide];generalize hUs:upd H16 se _=H17;have sH17:=xf.of_eq hse hUs;have ese:=xq hUs;clear hUs;walk_at"w";refine⟨bd,_,dx,_,rfl,sH17.at eb16,T.q0a,T.q0j,by walk_at"few",?_⟩;generalize hU18:upd H17 bd _=H18;have k18:Kp [bd] H17 H18:=by rw[←hU18];exact(Kp.of (xf.refl _)).wr (by simp)
  have eb18:H18 bd=some (.ins a.q0b dx [("pen",.ref pp),("size",.int size),("banks",.ref bl),("lengths",.ref le),("marks",.ref ma),("settings",.ref se)]):=by rw[←hU18,xm];rfl
  clear hU18;walk_at"w";refine⟨bd,_,dx,_,rfl,eb18,T.q0a,T.q0o,by walk_at"few",?_⟩;generalize hU19:upd H18 bd _=H19;have k19:Kp [bd] H18 H19:=by rw[←hU19];exact(Kp.of (xf.refl _)).wr (by simp)
  have eb19:H19 bd=some (.ins a.q0b dx [("pen",.ref pp),("size",.int size),("banks",.ref bl),("lengths",.ref le),("marks",.ref ma),("settings",.ref se),("running",.non)]):=by rw[←hU19,xm];rfl
  clear hU19;have nn:∀{G:Hp} {x y:Addr} {u:HO},G x=none→G y=some u→x≠y:=fun h1 h2 z=>by rw[z,h2]at h1;cases h1
  have k1119:Kp [bd] H11 H19:=k12.trans ((Kp.of sH13).trans (k14.trans ((Kp.of sH15).trans (k16.trans ((Kp.of sH17).trans (k18.trans k19))))));have k219:Kp [bd] H2 H19:=(Kp.of s211).trans k1119;have n0:S0.st≠bd:=nn f1 (s26.at eb2);have n1:S1.st≠bd:=nn h1 (s29.at eb2);have b0:∀{G:Hp} {x:Addr} {xs:List V},G bd=some (.ins a.q0b dx [("pen",.ref pp),("size",.int size)])→G x=some (.lst xs)→x≠bd:=fun e1 e2 z=>by rw[z,e1]at e2;cases e2
  have m0:=b0 (s211.at eb2) hS0'.ca;have m1:=b0 (s211.at eb2) hS0'.na;have m2:=b0 (s211.at eb2) hS1'.ca;have m3:=b0 (s211.at eb2) hS1'.na;have m4:=b0 (s211.at eb2) ebl;have d0:∀x∈[bd],x≠S0.st∧x≠S0.ca∧x≠S0.na∧x≠S0.p:=fun x hx=>by
   rw[aj.mp hx,e1];exact⟨au n0,au m0,au m1,npb⟩
  have d1:∀x∈[bd],x≠S1.st∧x≠S1.ca∧x≠S1.na∧x≠S1.p:=fun x hx=>by
   rw[aj.mp hx,g1];exact⟨au n1,au m2,au m3,npb⟩
  have kk:∀{x:Addr} {u:HO},H11 x=some u→x≠bd→H12 x=some u:=fun e n=>k12 _ _ e (by simp[n]);have kk4:∀{x:Addr} {u:HO},H11 x=some u→x≠bd→H14 x=some u:=fun e n=>k14 _ _ (sH13.at (kk e n)) (by simp[n]);have nle:le≠bd:=nn hle eb12;have nma:ma≠bd:=nn hma eb14;have nse:se≠bd:=nn hse eb16;have ele14:H14 le=some (.lst [.int text.length,.int 0]):=k14 _ _ ele (by simp[nle]);have ele16:=k16 _ _ (sH15.at ele14) (by simp[nle]);have ema16:=k16 _ _ ema (by simp[nma]);have bb9:H9 S0.ca=some _:=(sH8.trans sH9).at hS0.ca;have bb8:H9 S0.na=some _:=(sH8.trans sH9).at hS0.na;have kb:∀{G:Hp} {y:Addr},Kp [bd] H G→G y=none→y=bd∨H y=none:=fun{G y} k e=>by
   by_cases z:y=bd
   ·exact .inl z
   ·right
    cases hh:H y with
    |none=>rfl
    |some u=>rw[k _ _ hh (by simp[z])]at e;cases e
  have k212:Kp [bd] H H12:=(k2.trans (Kp.of s211)).trans k12;have k214:Kp [bd] H H14:=(k212.trans (Kp.of sH13)).trans k14;have k216:Kp [bd] H H16:=(k214.trans (Kp.of sH15)).trans k16;have fr:∀y∈[bd,le,ma,se,pp,S0.ca,S0.na,S1.ca,S1.na],y=bd∨H y=none:=fun y hy=>by
   simp only[av,bo,or_false]at hy;rcases hy with rfl|rfl|rfl|rfl|rfl|rfl|rfl|rfl|rfl
   ·exact .inl rfl
   ·exact kb k212 hle
   ·exact kb k214 hma
   ·exact kb k216 hse
   ·exact .inr hpp
   ·exact kb (k2.trans (Kp.of s26)) f2
   ·exact kb (k2.trans (Kp.of s26)) f3
   ·exact kb (k2.trans (Kp.of s29)) h2
   ·exact kb (k2.trans (Kp.of s29)) h3
  refine q2 ⟨bd,dx,pp,pd,bl,le,ma,se,fun b=>match b with|false=>S0|true=>S1⟩ H19 rfl (k2.trans k219) fr ⟨eb19,?_,?_,?_,?_,?_,?_,?_,?_,F.keep hat (k2.trans k219) (fun x hx=>by rw[aj.mp hx];exact⟨_,hbd,trivial⟩) (fun x hx=>by rw[aj.mp hx];exact hbM),fun x hx=>?_,cD _⟩
  rotate_right
  ·obtain⟨u,hu,_⟩:=F.mu hat x hx;have xn:∀{y:Addr},y=bd∨H y=none→x≠y:=fun h z=>by
    rcases h with h|h
    ·exact hbM (by rw[←h,←z];exact hx)
    ·rw[←z,hu]at h;cases h
   refine⟨fun z=>xn (fr x z) rfl,xn (kb (k2.trans (Kp.of (s29.trans s10))) hbl),fun b=>?_⟩;cases b
   ·exact xn (kb (k2.trans (Kp.of s26)) f1)
   ·exact xn (kb (k2.trans (Kp.of s29)) h1)
  ·exact k1119 _ _ ebl (by simp[m4])
  ·exact k19 _ _ (k18 _ _ (sH17.at ele16) (by simp[nle])) (by simp[nle])
  ·exact k19 _ _ (k18 _ _ (sH17.at ema16) (by simp[nma])) (by simp[nma])
  ·exact k19 _ _ (k18 _ _ ese (by simp[nse])) (by simp[nse])
  ·intro b;cases b
   ·exact hS0'.kp0 k1119 d0
   ·exact hS1'.kp0 k1119 d1
  ·intro b;cases b
   ·exact⟨e1,e2⟩
   ·exact⟨g1,g2⟩
  ·simp only[bp,av,bo,or_false,not_or,not_false_eq_true,cT,and_true];have q0:=hS0.same (sH8.trans (sH9.trans s10));exact⟨⟨au (nn hle (kk ebl m4)),au (nn hma (kk4 ebl m4)),nn hbl q0.ca,nn hbl q0.na,nn hbl hS1.ca,nn hbl hS1.na⟩,⟨au (nn hma ele14),nn hle (kk hS0'.ca m0),nn hle (kk hS0'.na m1),nn hle (kk hS1'.ca m2),nn hle (kk hS1'.na m3)⟩,⟨nn hma (kk4 hS0'.ca m0),nn hma (kk4 hS0'.na m1),nn hma (kk4 hS1'.ca m2),nn hma (kk4 hS1'.na m3)⟩,⟨hS0.ne,au (nn h2 bb9),au (nn h3 bb9)⟩,⟨au (nn h2 bb8),au (nn h3 bb8)⟩,hS1.ne⟩
  ·simp only[bp,av,bo,or_false,not_or,not_false_eq_true,cT,and_true];exact⟨⟨au n0,au n1,npb⟩,⟨au (nn h1 ((sH8.trans sH9).at hS0.st)),nn f1 (s26.at ep2)⟩,nn h1 (s29.at ep2)⟩
end
section
variable {P:ak} {w:World} {K:ag} {mg:Str→Option Value} {base:Heap} {a:Adr}
def Sg(x:Int):Prop:=(x.natAbs:Int)<10^60
def xpQ:Sp:=fun vs H Q _=>∃c n:Int,vs=[.int c,.int n]∧0≤n∧n≤100∧∀(l:Addr) (xs:List Int) (H':Hp),xf H H'→H l=none→H' l=some (.lst (xs.map V.int))→xs.length=n.toNat→(∀x∈xs,Sg x)→Q (.ref l) H'
theorem xkU(T:Txt K mg a):xy P w K mg base CX0 2 a.q4l a.xiT ["_law_cell","_law_size"] xpQ:=by
 refine T.q4b.ok xkD (fun vs H Q E h=>?_) (fun cdv A outer s H vs Q E hr h=>?_)
 ·obtain⟨c,n,rfl,_⟩:=h;rfl
 ·obtain⟨c,n,rfl,h0,h1,q⟩:=h;have nd:=xkD.nd;refine⟨_,(xg (xE (i:=2) nd rfl (cI rfl) (ye (xa xj (xa (xu xeE xj xj) (xa (xu xeE xj xj) (xa (xu xeE xj xj) xc))))))
  (xk (xv (jV (xaq (cap:=[0,2]) (ys:=["_law_cell","_law_sizes"]) rfl rfl rfl rfl rfl ⟨⟨rfl,rfl,.inl rfl⟩,⟨⟨rfl,rfl,.inl rfl⟩,trivial⟩⟩ (by decide+kernel)) rfl (xbV (by rfl) T.q2a (xa (cv 1) xc)) (fun _ _ _ _=>(xu xbS (xu yz (xu yq (xD (zp T) (hr.mono (by decide)) (by rfl) T.zW T.q1j.kp T.zV .nil xt (xa (cv 1) (xa (cv 0) xc))) xj) xj) (xA (xnB (K:=K) rfl) (cv 2) (xu yq (xD (zp T) (hr.mono (by decide)) (by rfl) T.zW T.q1j.kp T.zV .nil xt (xa (cv 1) (xa (xu yl (cv 0) xj) xc))) xj) (fun _ _=>rfl)))) (fun _ _ _ _=>jU))))),?_⟩
  walk_at"w";refine a6 ⟨by decide,by decide,by decide⟩ ?_;walk_at"w";refine a6 ⟨by decide,by decide,by decide⟩ ?_;walk_at"w";refine a6 ⟨by decide,by decide,by decide⟩ ?_;walk_at"w";walk_at"ss";intro zl hzl;generalize hUzl:upd H zl _=H1;have sH1:=xf.of_eq hzl hUzl;have ezl:=xq hUzl;clear hUzl;walk_at"w";have en:yx 0 n 1=n.toNat:=by rw[ua];lia
  rw[en];refine xmx (fun i acc _=>∃xs:List Int,acc=xs.map V.int∧xs.length=i∧∀x∈xs,Sg x) (by rw[aZ];lia) ⟨[],rfl,rfl,by simp⟩ (fun i acc H3 H3' hi s3 s3' hP R hR=>?_) (fun D acc H3 H3' hD hD3 s3 s3' hP hacc hv=>?_)
  ·obtain⟨xs,rfl,hl,hx⟩:=hP;generalize 0+(i:Int)*1=k;walk_at"w";refine⟨c,k,rfl,?_⟩;walk_at"w";walk_at"ss";refine⟨c,k+50,rfl,?_⟩;walk_at"w";walk_at"ss";obtain⟨j,ej,hj⟩:∃j:Nat,mixed c (k+50)%4=(j:Int)∧j<4:=⟨(mixed c (k+50)%4).toNat,by lia,by lia⟩;obtain⟨z,hz,hz0,hz1⟩:∃z:Int,atI [V.int 1,V.int (10^(kd 9)),V.int (10^(kd 30)),V.int (10^(kd 50))] (mixed c (k+50)%4)=some (.int z)∧0≤z∧z≤10^50:=by
    rw[ej]
    match j,hj with
    |0,_=>exact⟨_,rfl,by decide,by decide⟩
    |1,_=>exact⟨_,rfl,by decide,by decide⟩
    |2,_=>exact⟨_,rfl,by decide,by decide⟩
    |3,_=>exact⟨_,rfl,by decide,by decide⟩
   refine⟨zl,_,_,.int z,rfl,rfl,SqL.of ((s3.trans s3').at ezl),hz,?_⟩;walk_at"w";have hm: -2≤mixed c k%5 - 2∧mixed c k%5 - 2≤2:=by lia
   generalize mixed c k%5 - 2=m at hm;refine a6 (.inl ⟨by lia,by lia⟩) ?_;refine hR _ H3' (xf.refl _) fun H6 _ _=>⟨xs++[m*z],by rw[bJ];rfl,by simp[hl],fun x hx'=>?_⟩;rcases a7.mp hx' with h|h
   ·exact hx x h
   ·rw[aj.mp h];unfold Sg;rw[Int.natAbs_mul];have e1:m.natAbs≤2:=by lia
    have e2:z.natAbs≤10^50:=by lia
    have:=Nat.mul_le_mul e1 e2;lia
  ·obtain⟨xs,rfl,hl,hx⟩:=hP;exact q D xs H3' (sH1.trans (s3.trans s3')) (sH1.back hD) hv hl hx
end
section
variable {P:ak} {w:World} {K:ag} {mg:Str→Option Value} {base:Heap} {a:Adr}
inductive NP(old:Int):Int→Int→List xp→Prop
 |no (o:Int) (ho:o=0∨o=old):NP old o 0 []
 |put (o:Int) (sg:List Int) (ho:o=0∨o=old) (h1:1≤sg.length) (h8:sg.length≤8) (hs:∀x∈sg,Sg x):NP old o sg.length [.put 0 sg]
 |take (to st c:Int) (sg:List Int) (h8:sg.length≤8) (hs:∀x∈sg,Sg x) (h0:0≤to) (h1:0≤st) (h2:1≤c) (h3:st+c≤old) (h4:to+c≤sg.length):
   NP old old sg.length (.take to st c::((if 0<to then[.put 0 (sg.take to.toNat)]else[])++(if to+c<sg.length then[.put (to+c) (sg.drop (to+c).toNat)]else[])))
def xjz(K:ag):Sp:=fun vs H Q _=>∃old cell:Int,vs=[.int old,.int cell]∧0≤old∧old≤100∧∀(p:Addr) (o n:Int) (rs:List xp) (H':Hp),xf H H'→zG K H' p o n rs→NP old o n rs→Q (.ref p) H'
theorem xjA(T:Txt K mg a):xy P w K mg base CX0 3 a.q2x a.xct ["_law_old","_law_cell"] (xjz K):=by
 refine T.q2C.ok xek (fun vs H Q E h=>?_) (fun cdv A outer s H vs Q E hr h=>?_)
 ·obtain⟨old,cell,rfl,_⟩:=h;rfl
 ·obtain⟨old,c,rfl,h0,h1,q⟩:=h;have nd:=xek.nd;refine⟨_,(xg (xap (i:=2) nd rfl (aA rfl) (xu yq (xD (zp T) (hr.mono (by decide)) (by rfl) T.zW T.q1j.kp T.zV .nil xt (xa (cv 1) (xa xj xc))) xj))
  (xg (xap (i:=3) nd rfl (aA rfl) (xD (xkU T) (hr.mono (by decide)) (by rfl) T.xmJ T.q4b.kp T.xmI .nil xt (xa (cv 1) (xa (cv 2) xc))))
  (xg (xap (i:=4) nd rfl (aA rfl) xj)
  (xg (yY (xM (PW.pt (vJ (xJ xdQ (cv 0) xj) (jQ (xJ xdQ (cv 2) xj)))) (xk (xap (i:=4) nd rfl (aA rfl) (xu yq (xD (zp T) (hr.mono (by decide)) (by rfl) T.zW T.q1j.kp T.zV .nil xt (xa (cv 1) (xa xj xc))) (xu yl (xN (xf0 rfl) (by rfl) T.q4F xfZ (xa (cv 0) (xa (cv 2) xc))) xj)))) xC))
  (xg (xM (xJ zL (cv 4) xj) (xg (xap (i:=5) nd rfl (aA rfl) (jS jT (ye (xa (yX (xa xP (xa xj (xa (xZ zy (by rfl) T.q2V ub (xa (cv 3) xc)) xc)))) xc)) xa2 (xa3 (xN (xf0 rfl) (by rfl) T.q4F xfZ (xa xj (xa (cv 2) xc))))))
  (xk (xv (yX (xa (xu xbS (cv 0) (xu yq (xD (zp T) (hr.mono (by decide)) (by rfl) T.zW T.q1j.kp T.zV .nil xt (xa (cv 1) (xa xj xc))) xj)) (xa (cv 2) (xa (xZ zy (by rfl) T.q2V ub (xa (cv 5) xc)) xc))))))) xC)
  (xg (xap (i:=6) nd rfl (aA rfl) (xu yq (xD (zp T) (hr.mono (by decide)) (by rfl) T.zW T.q1j.kp T.zV .nil xt (xa (cv 1) (xa xj xc))) (xu yl (xu yz (cv 0) (cv 4)) xj)))
  (xg (xap (i:=7) nd rfl (aA rfl) (xu yq (xD (zp T) (hr.mono (by decide)) (by rfl) T.zW T.q1j.kp T.zV .nil xt (xa (cv 1) (xa xj xc))) (xu yl (xu yz (cv 2) (cv 4)) xj)))
  (xg (xap (i:=5) nd rfl (aA rfl) (ye (xa (yX (xa xP (xa (cv 7) (xa (cv 6) (xa (cv 4) xc))))) xc)))
  (xg (yY (xM (xJ xdQ (cv 7) xj) (xk (xO (xeC PySem.F.plainAttrs_list PySem.F.slot_list_append PySem.F.type_list_append je (cv 5) (xa (yX (xa xP (xa xj (xa (xZ zy (by rfl) T.q2V ub (xa (jS jT (cv 3) xa2 (xa3 (cv 7))) xc)) xc)))) xc)))) xC))
  (xg (yY (xM (xJ xfi (xu yl (cv 7) (cv 4)) (cv 2)) (xk (xO (xeC PySem.F.plainAttrs_list PySem.F.slot_list_append PySem.F.type_list_append je (cv 5) (xa (yX (xa xP (xa (xu yl (cv 7) (cv 4)) (xa (xZ zy (by rfl) T.q2V ub (xa (jS jT (cv 3) (xa3 (xu yl (cv 7) (cv 4))) xa2) xc)) xc)))) xc)))) xC))
  (xk (xv (yX (xa (cv 0) (xa (cv 2) (xa (xZ zy (by rfl) T.q2V ub (xa (cv 5) xc)) xc)))))))))))))))),?_⟩
  walk_at"w";refine⟨c,1,rfl,?_⟩;walk_at"w";walk_at"ss";refine xcD fun n hn=>?_;walk_at"w";have hn8:0≤n∧n≤8:=by lia
  clear hn;refine⟨c,n,rfl,hn8.1,by lia,fun sl sg H1 s1 hsl esl hlen hsg=>?_⟩;refine xgR ?_;walk_at"w";refine xcD fun k0 hk0=>?_;walk_at"w";subst hk0;refine⟨fun σ' G=>∃k:Int,σ'=[some (.int old),some (.int c),some (.int n),some (.ref sl),some (.int k),none,none,none]∧xf H1 G∧0≤k∧k≤old∧k≤n,?_,?_⟩
  ·walk_at"w";refine⟨fun b=>?_,fun b=>?_⟩
   ·have b:=of_decide_eq_true b;walk_at"w";refine⟨fun b2=>?_,fun b2=>?_⟩
    ·have b2:=of_decide_eq_true b2;walk_at"w";refine⟨c,2,rfl,?_⟩;walk_at"w";refine a6 (show(0:Int)<min old n+1 by lia) ?_;refine xcD fun k hk=>?_;walk_at"w";have e1:=cJ (mixed c 2) (b:=min old n+1) (by lia);have e2:=cC (mixed c 2) (b:=min old n+1) (by lia);exact⟨k,rfl,xf.refl _,by lia,by lia,by lia⟩
    ·walk_at"w";exact⟨0,rfl,xf.refl _,by lia,by lia,by lia⟩
   ·walk_at"w"
    first|exact⟨0,rfl,xf.refl _,by lia,by lia,by lia⟩|(refine⟨by walk_at"no",fun _=>?_⟩;exact⟨0,rfl,xf.refl _,by lia,by lia,by lia⟩)
  rintro σ' G ⟨k,rfl,sG,k0,k1,k2⟩;have es:=sG.at esl;have s1G:=s1.trans sG;walk_at"w";refine⟨fun b=>?_,fun b=>?_⟩
  ·have b:=of_decide_eq_true b;walk_at"w";refine⟨sl,_,rfl,.inl ⟨SqL.of es,?_⟩⟩;intro tu htu;generalize hUtu:upd G tu _=G1;have sG1:=xf.of_eq htu hUtu;have etu:=xq hUtu;clear hUtu;walk_at"w";walk_at"ss";intro t0 ht0;generalize hUt0:upd G1 t0 _=G2;have sG2:=xf.of_eq ht0 hUt0;have et0:=xq hUt0;clear hUt0;walk_at"w";walk_at"ss";intro rl hrl;generalize hUrl:upd G2 rl _=G3;have sG3:=xf.of_eq hrl hUrl;have erl:=xq hUrl;clear hUrl;walk_at"w";refine⟨_,rfl,?_⟩;walk_at"w";refine⟨rl,_,rfl,SqL.of erl,?_⟩;rw[show min (1:Int) n=((min 1 n.toNat:Nat):Int)by lia,xeN];intro r2 hr2;generalize hUr2:upd G3 r2 _=G4;have sG4:=xf.of_eq hr2 hUr2;have er2:=xq hUr2;clear hUr2;walk_at"w";refine xgR ?_;walk_at"w";refine⟨c,3,rfl,?_⟩;walk_at"w";walk_at"ss";have hm:mixed c 3%2=0∨mixed c 3%2=1:=by lia
   refine⟨r2,_,rfl,.inl ⟨SqL.of er2,?_⟩⟩;intro tt htt;generalize hUtt:upd G4 tt _=G5;have sG5:=xf.of_eq htt hUtt;have ett:=xq hUtt;clear hUtt;walk_at"w";walk_at"ss";intro p hp;generalize hUp:upd G5 p _=G6;have sG6:=xf.of_eq hp hUp;have ep:=xq hUp;clear hUp;walk_at"w";have ep':G6 p=some (.tup [.int (old*(mixed c 3%2)),.int n,.ref tt]):=ep;generalize mixed c 3%2=m at hm ep';have hom:old*m=0∨old*m=old:=by rcases hm with rfl|rfl<;> simp
   have sA:xf H G6:=s1G.trans (sG1.trans (sG2.trans (sG3.trans (sG4.trans (sG5.trans sG6)))));have ett':=sG6.at ett;have et0':=(sG3.trans (sG4.trans (sG5.trans sG6))).at et0;have etu':=(sG2.trans (sG3.trans (sG4.trans (sG5.trans sG6)))).at etu
   by_cases z:n=0
   ·subst z;exact q p (old*m) 0 [] G6 sA ⟨tt,[],ep',by rw[ett'];rfl,.nil⟩ (.no _ hom)
   ·have en:n=(sg.length:Int):=by lia
    refine q p (old*m) n [.put 0 sg] G6 sA ⟨tt,[t0],ep',by rw[ett',show min 1 n.toNat=1 by lia];rfl,.cons ⟨tu,et0',etu'⟩ .nil⟩ ?_;rw[en];exact .put _ sg hom (by lia) (by lia) hsg
  have b:=of_decide_eq_false b;walk_at"w";refine⟨c,4,rfl,?_⟩;walk_at"w";refine a6 (show(0:Int)<old - k+1 by lia) ?_;refine xcD fun st hst=>?_;walk_at"w";have st0:=cJ (mixed c 4) (b:=old - k+1) (by lia);have st1:=cC (mixed c 4) (b:=old - k+1) (by lia);rw[←hst]at st0 st1;clear hst;refine⟨c,5,rfl,?_⟩;walk_at"w";refine a6 (show(0:Int)<n - k+1 by lia) ?_;refine xcD fun to hto=>?_;walk_at"w";have to0:=cJ (mixed c 5) (b:=n - k+1) (by lia);have to1:=cC (mixed c 5) (b:=n - k+1) (by lia);rw[←hto]at to0 to1;clear hto;walk_at"ss";intro t0 ht0;generalize hUt0:upd G t0 _=G1;have sG1:=xf.of_eq ht0 hUt0;have et0:=xq hUt0;clear hUt0;walk_at"w";walk_at"ss";intro rl hrl;generalize hUrl:upd G1 rl _=G2;have sG2:=xf.of_eq hrl hUrl;have erl:=xq hUrl;clear hUrl;walk_at"w";refine xgR ?_;walk_at"w";refine⟨fun σ' G'=>σ'=[some (.int old),some (.int c),some (.int n),some (.ref sl),some (.int k),some (.ref rl),some (.int st),some (.int to)]∧xf G1 G'∧∃ts,G' rl=some (.lst (ts.map V.ref))∧ts.length≤2∧Paired (TupAt K G') ts (.take to st k::(if 0<to then[.put 0 (sg.take to.toNat)]else[])),?_,?_⟩
  ·walk_at"w";refine⟨fun c1=>?_,fun c1=>?_⟩
   ·have c1:=of_decide_eq_true c1;have cutE:xba (sg.map V.int) none (some to)=(sg.take to.toNat).map V.int:=by
     have e:to=(to.toNat:Int):=by lia
     rw[e,xeN,←i8,←e]
    walk_at"w";refine a6 (.inl ⟨rfl,_,SqL.of erl⟩) ?_;walk_at"w";refine⟨_,rfl,?_⟩;walk_at"w";refine⟨sl,_,rfl,SqL.of ((sG1.trans sG2).at es),?_⟩;rw[cutE];intro cl hcl;generalize hUcl:upd G2 cl _=G3;have sG3:=xf.of_eq hcl hUcl;have ecl:=xq hUcl;clear hUcl;walk_at"w";refine⟨cl,_,rfl,.inl ⟨SqL.of ecl,?_⟩⟩;intro u1 hu1;generalize hUu1:upd G3 u1 _=G4;have sG4:=xf.of_eq hu1 hUu1;have eu1:=xq hUu1;clear hUu1;walk_at"w";walk_at"ss";intro t1 ht1;generalize hUt1:upd G4 t1 _=G5;have sG5:=xf.of_eq ht1 hUt1;have et1:=xq hUt1;clear hUt1;walk_at"w";have sA:=sG3.trans (sG4.trans sG5);refine⟨rl,_,_,rfl,rfl,sA.at erl,by simp[aZ],?_⟩;have n1:t0≠rl:=fun z=>by rw[z]at et0;rw[et0]at hrl;cases hrl
    have n2:t1≠rl:=fun z=>by rw[z,(sG3.trans sG4).at erl]at ht1;cases ht1
    have n3:u1≠rl:=fun z=>by rw[z,sG3.at erl]at hu1;cases hu1
    refine⟨rfl,(sG2.trans sA).put hrl,[t0,t1],by rw[xm];rfl,by simp,?_⟩;rw[if_pos c1];exact .cons (by show upd _ rl _ t0=_;rw[xl n1];exact(sG2.trans sA).at et0) (.cons ⟨u1,by rw[xl n2];exact et1,by rw[xl n3];exact sG5.at eu1⟩ .nil)
   ·have c1:=of_decide_eq_false c1;walk_at"w";refine⟨rfl,sG2,[t0],erl,by simp,?_⟩;rw[if_neg c1];exact .cons (sG2.at et0) .nil
  rintro σ' G3 ⟨rfl,sG3,ts,ets,htl,hts⟩;have en:n=(sg.length:Int):=by lia
  have ss3:G3 sl=some (.lst (sg.map V.int)):=(sG1.trans sG3).at es;walk_at"w";refine⟨fun σ' G'=>σ'=[some (.int old),some (.int c),some (.int n),some (.ref sl),some (.int k),some (.ref rl),some (.int st),some (.int to)]∧xf G1 G'∧∃ts,G' rl=some (.lst (ts.map V.ref))∧ts.length≤3∧Paired (TupAt K G') ts (.take to st k::((if 0<to then[.put 0 (sg.take to.toNat)]else[])++(if to+k<sg.length then[.put (to+k) (sg.drop (to+k).toNat)]else[]))),?_,?_⟩
  ·walk_at"w";refine⟨fun c1=>?_,fun c1=>?_⟩
   ·have c1:to+k<n:=of_decide_eq_true c1;have cutE:xba (sg.map V.int) (some (to+k)) none=(sg.drop (to+k).toNat).map V.int:=by
     have e:to+k=((to+k).toNat:Int):=by lia
     rw[e,xhX,←List.map_drop,←e]
    walk_at"w";refine a6 (.inl ⟨rfl,_,SqL.of ets⟩) ?_;walk_at"w";refine⟨to+k,rfl,?_⟩;walk_at"w";refine⟨sl,_,rfl,SqL.of ss3,?_⟩;rw[cutE];intro cl hcl;generalize hUcl:upd G3 cl _=G4;have sG4:=xf.of_eq hcl hUcl;have ecl:=xq hUcl;clear hUcl;walk_at"w";refine⟨cl,_,rfl,.inl ⟨SqL.of ecl,?_⟩⟩;intro u1 hu1;generalize hUu1:upd G4 u1 _=G5;have sG5:=xf.of_eq hu1 hUu1;have eu1:=xq hUu1;clear hUu1;walk_at"w";walk_at"ss";intro t1 ht1;generalize hUt1:upd G5 t1 _=G6;have sG6:=xf.of_eq ht1 hUt1;have et1:=xq hUt1;clear hUt1;walk_at"w";have sA:=sG4.trans (sG5.trans sG6);refine⟨rl,_,_,rfl,rfl,sA.at ets,by rw[ao,aZ];lia,?_⟩;have n2:t1≠rl:=fun z=>by rw[z,(sG4.trans sG5).at ets]at ht1;cases ht1
    have n3:u1≠rl:=fun z=>by rw[z,sG4.at ets]at hu1;cases hu1
    have et1':G6 t1=some (.tup [.str "put",.int (to+k),.ref u1]):=et1;refine⟨rfl,(sG3.trans sA).put hrl,ts++[t1],by rw[xm,bJ];rfl,by simp;lia,?_⟩;rw[if_pos (show to+k<(sg.length:Int)by lia),←cR];exact vM (L2.Paired.imp' (fun _ _ z=>(z.same sA).off (sA.at ets)) hts) ⟨u1,by rw[xl n2];exact et1',by rw[xl n3];exact sG6.at eu1⟩
   ·have c1:¬to+k<n:=of_decide_eq_false c1;walk_at"w";refine⟨rfl,sG3,ts,ets,by lia,?_⟩;rw[if_neg (show¬to+k<(sg.length:Int)by lia),cE];exact hts
  rintro σ' G4 ⟨rfl,sG4,us,eus,hul,hus⟩;walk_at"w";refine⟨rl,_,rfl,.inl ⟨SqL.of eus,?_⟩⟩;intro tt htt;generalize hUtt:upd G4 tt _=G5;have sG5:=xf.of_eq htt hUtt;have ett:=xq hUtt;clear hUtt;walk_at"w";walk_at"ss";intro p hp;generalize hUp:upd G5 p _=G6;have sG6:=xf.of_eq hp hUp;have ep:=xq hUp;clear hUp;walk_at"w";have sA:xf H G6:=s1G.trans (sG1.trans (sG4.trans (sG5.trans sG6)));refine q p old n _ G6 sA ⟨tt,us,ep,sG6.at ett,L2.Paired.imp' (fun _ _ z=>z.same (sG5.trans sG6)) hus⟩ ?_;rw[en];exact .take to st k sg (by lia) hsg (by lia) (by lia) (by lia) (by lia) (by lia)
end
theorem Paired.mem2{α β:Type}{F:α→β→Prop}:∀{l₁:List α} {l₂:List β} {y:β},Paired F l₁ l₂→y∈l₂→∃x∈l₁,F x y
 |_,_,_,.cons h t,m=>by
  rcases av.mp m with rfl|m
  ·exact⟨_,ba,h⟩
  ·obtain⟨x,h1,h2⟩:=Paired.mem2 t m;exact⟨x,aS _ h1,h2⟩
section
variable {P:ak} {w:World} {K:ag} {mg:Str→Option Value} {base:Heap} {a:Adr}
theorem xhq{u:Nat→Nat→List Int}{d k j:Nat}{p:List Int}(h:(chs u d k)[j]? =some p):j<cN d k∧p=u k j:=by
 unfold chs at h;rw[aD]at h;obtain⟨i,hi,rfl⟩:=aH.mp h;have hj:j<cN d k:=by
  have:=(az.mp hi).1;simpa using this
 rw[fW hj]at hi;cases hi;exact⟨hj,rfl⟩
theorem xjB{lo:Int}{n i:Nat}{d:Int}(h:(yr lo n)[i]? =some d):i<n∧d=lo+i:=by
 unfold yr at h;rw[aD]at h;obtain⟨j,hj,rfl⟩:=aH.mp h;have hi:i<n:=by
  have:=(az.mp hj).1;simpa using this
 rw[fW hi]at hj;cases hj;exact⟨hi,rfl⟩
theorem xn6{to:Int}{d k j:Nat}{x:Int}(h:x∈uch to d k j):to+(j*d:Nat)≤x∧x<to+(j*d:Nat)+d∧x<to+k:=by
 unfold uch at h;have:=jc.mp h;omega
theorem xlZ{e:Int}{d k j:Nat}{x:Int}(h:x∈dch e d k j):e - ((j+1)*d:Nat)≤x∧x<e - (j*d:Nat)∧e - k≤x:=by
 unfold dch at h;have:=jc.mp h;have e1:(j+1)*d=j*d+d:=gP j d;omega
theorem xkV{u:Nat→Nat→List Int}{d k j:Nat}(h:j<cN d k):u k j∈chs u d k:=cY.mpr ⟨j,d9.mpr h,rfl⟩
theorem xoB{d k m:Nat}(hd:0<d)(h:m<k):m / d<cN d k:=by
 unfold cN;rw[Nat.div_lt_iff_lt_mul hd];have h1:=il (k+d - 1) d;have h2:=Nat.mod_lt (k+d - 1) hd;have e1:(k+d - 1) / d*d=d*((k+d - 1) / d):=gQ _ _;omega
theorem xl0{to st c:Int}(hc:1≤c){x:Int}:x∈(zA to st c).flatten↔st≠to∧to≤x∧x<to+c:=by
 unfold zA
 by_cases hne:st=to
 ·rw[if_pos hne];simp[hne]
 rw[if_neg hne]
 by_cases hlt:to<st
 ·rw[if_pos hlt,fC];constructor
  ·rintro⟨p,hp,hx⟩;obtain⟨j,hj⟩:=cy.mp hp;obtain⟨_,rfl⟩:=xhq hj;have:=xn6 hx;exact⟨hne,by omega,by omega⟩
  ·rintro⟨_,h1,h2⟩;have hd:0<(st - to).toNat:=by omega
   generalize (st - to).toNat=d at hd;have hm:=il (x - to).toNat d;have hr:=Nat.mod_lt (x - to).toNat hd;have ec:(x - to).toNat / d*d=d*((x - to).toNat / d):=gQ _ _;refine⟨_,xkV (xoB hd (show(x - to).toNat<c.toNat by omega)),?_⟩;unfold uch;rw[jc];omega
 ·rw[if_neg hlt,fC];constructor
  ·rintro⟨p,hp,hx⟩;obtain⟨j,hj⟩:=cy.mp hp;obtain⟨_,rfl⟩:=xhq hj;have:=xlZ hx;exact⟨hne,by omega,by omega⟩
  ·rintro⟨_,h1,h2⟩;have hd:0<(to - st).toNat:=by omega
   generalize (to - st).toNat=d at hd;have hm:=il (to+c - 1 - x).toNat d;have hr:=Nat.mod_lt (to+c - 1 - x).toNat hd;have ec:(to+c - 1 - x).toNat / d*d=d*((to+c - 1 - x).toNat / d):=gQ _ _;have ed:((to+c - 1 - x).toNat / d+1)*d=(to+c - 1 - x).toNat / d*d+d:=gP _ _;refine⟨_,xkV (xoB hd (show(to+c - 1 - x).toNat<c.toNat by omega)),?_⟩;unfold dch;rw[jc];omega
theorem xjC{to st c:Int}{p:List Int}(hp:p∈zA to st c):p.length≤(st - to).natAbs:=by
 unfold zA at hp
 split at hp
 ·simp at hp
 split at hp
 all_goals
  obtain⟨j,hj⟩:=cy.mp hp;obtain⟨_,rfl⟩:=xhq hj
  first|unfold uch|unfold dch
  rw[yi];lia
theorem xn7{old new:Int}{L:Nat}{r:xp}{c:List Int}(hk:r.ok)(hs:Sm r)(hf:xqR old new r)(h1:old≤L)(h2:new≤L)(hc:c∈xa6 r):xag L (r,c):=by
 cases r with
 |take to st n=>
  obtain⟨k1,k2,k3⟩:=hk;obtain⟨s1,s2,s3⟩:=hs;obtain⟨f1,f2⟩:=hf;have hc:c∈zA to st n:=hc;have hl:=xjC hc;refine⟨⟨k1,k2,k3⟩,by show c.length≤300;lia,fun d hd=>?_⟩;have hm:=(xl0 k3).mp (fC.mpr ⟨c,hc,hd⟩);exact⟨by lia,by lia,by lia,by lia⟩
 |put to sg=>
  have hk':=hk;obtain⟨k1,k2,k3,k4⟩:=hk;have s2:sg.length≤9:=hs.2;have f1:to+sg.length≤new:=hf;have hc:c∈[yr to sg.length]:=hc;rw[aj.mp hc];refine⟨hk',by show(yr to sg.length).length≤300;rw[yi];lia,fun d hd=>?_⟩;have hm:=jc.mp hd;exact⟨by lia,by lia,by lia,by lia⟩
theorem xqU{H:Hp}{us:List Addr}{rs:List xp}{old new:Int}{L:Nat}(hp:Paired (GT K H) us rs)(hf:∀r∈rs,xqR old new r)(h1:old≤L)(h2:new≤L):∀x∈yy rs,xag L x:=by
 intro x hx;unfold yy at hx;obtain⟨r,hr,hx⟩:=List.mem_flatMap.mp hx;obtain⟨c,hc,rfl⟩:=cY.mp hx;obtain⟨u,_,hg⟩:=Paired.mem2 hp hr;exact xn7 hg.2.1 hg.2.2 (hf r hr) h1 h2 hc
theorem xpR(lo:Int)(n:Nat):(yr lo n).Pairwise (· < ·):=by
 rw[gF];intro i j hi hj hij;have h1:=xjB (aK hi);have h2:=xjB (aK hj);lia
theorem xm7{r:xp}{c:Int}:c∈r.cv↔r.to≤c∧c<r.to+r.cnt:=by
 cases r with
 |take to st n=>exact jc
 |put to sg=>exact jc
theorem xrB(r:xp):r.cv.Nodup:=by
 have h:∀lo n,(yr lo n).Nodup:=fun lo n=>(xpR lo n).imp (fun h=>by lia);cases r with
 |take to st n=>exact h _ _
 |put to sg=>exact h _ _
theorem Tl.facts{old at':Int}{rs:List xp}(h:Tl old rs at'):0≤at'∧(rs.map xp.cv).flatten.Nodup∧(∀x,x∈(rs.map xp.cv).flatten↔0≤x∧x<at')∧∀r∈rs,Good old r∧r.to+r.cnt≤at':=by
 induction h with
 |nil=>exact⟨cD _,cT,fun x=>⟨fun z=>by simp at z,fun z=>by lia⟩,fun r z=>by cases z⟩
 | @snoc rs at' n r _ hg ht hn ih=>
  obtain⟨h1,h2,h3,h4⟩:=ih;have e:((rs++[r]).map xp.cv).flatten=(rs.map xp.cv).flatten++r.cv:=by simp
  have hc:∀x,x∈r.cv↔at'≤x∧x<at'+n:=fun x=>by rw[xm7,ht,hn]
  refine⟨by lia,?_,fun x=>?_,fun s hs=>?_⟩
  ·rw[e,List.nodup_append];exact⟨h2,xrB r,fun x hx y hy=>by have:=(h3 x).mp hx;have:=(hc y).mp hy;lia⟩
  ·rw[e,a7,h3,hc];lia
  ·rcases a7.mp hs with hs|hs
   ·obtain⟨z1,z2⟩:=h4 s hs;exact⟨z1,by lia⟩
   ·rw[aj.mp hs];exact⟨hg,by lia⟩
theorem xkW:∀(l:List (Nat×Int)) (seen:List Int),(l.map iW).Nodup→(∀x∈l.map iW,x∉seen)→tw l seen=none
 |[],_,_,_=>rfl
 |(k,c)::r,seen,h1,h2=>by
  have h3:c∉r.map iW∧(r.map iW).Nodup:=bp.mp h1;have h4:c∉seen:=h2 c (by simp);show(if c∈seen then some (k,c)else tw r (c::seen))=none;rw[if_neg h4];refine xkW r (c::seen) h3.2 fun x hx z=>?_;rcases av.mp z with rfl|z
  ·exact h3.1 hx
  ·exact h2 x (aS _ hx) z
theorem xkX:∀(k:Nat) (xss:List (List Int)),(num k xss).map iW=xss.flatten
 |_,[]=>rfl
 |k,cs::r=>by simp[num,xkX (k+1) r,kh]
def Dis(rs:List xp):Prop:=∀(i j:Nat) (r s:xp),rs[i]? =some r→rs[j]? =some s→∀c,c∈r.cv→c∈s.cv→i=j
theorem xqV{rs:List xp}(h:(rs.map xp.cv).flatten.Nodup):Dis rs:=by
 have h1:=(List.pairwise_flatten.mp h).2;rw[List.pairwise_map,gF]at h1;have key:∀(i j:Nat) (r s:xp),rs[i]? =some r→rs[j]? =some s→∀c,c∈r.cv→c∈s.cv→¬i<j:=by
  intro i j r s hi hj c hc1 hc2 hij;obtain⟨li,ei⟩:=az.mp hi;obtain⟨lj,ej⟩:=az.mp hj;exact h1 i j li lj hij c (by rw[ei];exact hc1) c (by rw[ej];exact hc2) rfl
 intro i j r s hi hj c hc1 hc2;have h2:=key i j r s hi hj c hc1 hc2;have h3:=key j i s r hj hi c hc2 hc1;lia
theorem Tl.nw{old at':Int}{rs:List xp}{es:List Int}(h:Tl old rs at')(he:(es.length:Int)=old):∃nw:List Int,(nw.length:Int)=at'∧∀r∈rs,Tells es nw r:=by
 induction h with
 |nil=>exact⟨[],rfl,fun r z=>by cases z⟩
 | @snoc rs at' n r h1 hg ht hn ih=>
  obtain⟨nw,i1,i2⟩:=ih;have fit:r.fits es:=by
   cases r with
   |put to sg=>trivial
   |take to st c=>have:=hg.2.2;have:st+c≤old:=this;show st+c≤_;lia
  have hsl:=xp.sg_len hg.1 fit;refine⟨nw++r.sg es,by rw[aW];lia,fun s hs=>?_⟩;rcases a7.mp hs with hs|hs
  ·obtain⟨t1,t2,t3,t4⟩:=i2 s hs;refine⟨t1,t2,by rw[aW];lia,fun i hi=>?_⟩;have:=t1.to;rw[bF (by lia)];exact t4 i hi
  ·rw[aj.mp hs];refine⟨hg.1,fit,by rw[aW];lia,fun i hi=>?_⟩;have h0:(r.to+i).toNat=nw.length+i:=by lia
   rw[h0,bN (by lia)]
   congr 1;lia
theorem xl1{old new:Int}{rs rs0:List xp}{es:List Int}(hp:rs.Perm rs0)(h:Tl old rs0 new)(he:(es.length:Int)=old):∃nw:List Int,(nw.length:Int)=new∧(∀r∈rs,Tells es nw r)∧(∀j,j<nw.length→∃r∈rs,vN r j)∧(∀r∈rs,Good old r∧r.to+r.cnt≤new)∧Dis rs∧jL rs=none∧ur rs new.toNat=none:=by
 obtain⟨nw,h1,h2⟩:=h.nw he;obtain⟨f1,f2,f3,f4⟩:=h.facts;have hpf:((rs.map xp.cv).flatten).Perm ((rs0.map xp.cv).flatten):=(hp.map xp.cv).flatten;have hnd:(rs.map xp.cv).flatten.Nodup:=hpf.nodup_iff.mpr f2;have hm:∀x,x∈(rs.map xp.cv).flatten↔0≤x∧x<new:=fun x=>by rw[hpf.mem_iff,f3]
 refine⟨nw,h1,fun r hr=>h2 r (hp.mem_iff.mp hr),fun j hj=>?_,fun r hr=>f4 r (hp.mem_iff.mp hr),xqV hnd,?_,?_⟩
 ·have:=(hm j).mpr ⟨by lia,by lia⟩;obtain⟨cs,hc1,hc2⟩:=fC.mp this;obtain⟨r,hr,rfl⟩:=cY.mp hc1;exact⟨r,hr,xm7.mp hc2⟩
 ·exact xkW _ _ (by rw[xkX];exact hnd) fun x _ z=>by cases z
 ·unfold ur;rw[eZ];intro c hc;obtain⟨i,hi,rfl⟩:=cY.mp hc;have:=d9.mp hi;simp only[gA,decide_eq_false_iff_not,Classical.not_not];exact(hm _).mpr (by lia)
end
section
variable {P:ak} {w:World} {K:ag} {mg:Str→Option Value} {base:Heap} {a:Adr}
def zY(S:Nat→Prop)(ys:List V)(nw:List Int):Prop:=ys.length=nw.length∧∀j,S j→ys[j]? =(nw.map V.int)[j]?
theorem zY.set{S S':Nat→Prop}{ys:List V}{nw:List Int}{c:Nat}{v:Int}(h:zY S ys nw)(hv:nw[c]? =some v)(hS:∀j,S' j→S j∨j=c):zY S' (ys.set c (.int v)) nw:=by
 refine⟨by rw[cH];exact h.1,fun j hj=>?_⟩;have hc:c<nw.length:=(az.mp hv).1;rw[List.getElem?_set]
 by_cases e:c=j
 ·subst e;rw[if_pos rfl,if_pos (by rw[h.1];exact hc),aD,hv];rfl
 ·rw[if_neg e];rcases hS j hj with z|z
  ·exact h.2 j z
  ·exact absurd z.symm e
theorem zY.all{S:Nat→Prop}{ys:List V}{nw:List Int}(h:zY S ys nw)(k:∀j,j<nw.length→S j):ys=nw.map V.int:=by
 apply List.ext_getElem?;intro j
 by_cases hj:j<nw.length
 ·exact h.2 j (k j hj)
 ·rw[cA (by rw[h.1];lia),cA (by rw[ao];lia)]
def xm8(K:ag):Sp:=fun vs H Q _=>∃(p e:Addr) (o:Int) (rs:List xp) (es nw:List Int),vs=[.ref p,.ref e]∧zG K H p o nw.length rs∧H e=some (.lst (es.map V.int))∧(∀r∈rs,Tells es nw r)∧(∀j,j<nw.length→∃r∈rs,vN r j)∧nw.length≤1000∧xfw H Q nw
theorem xn8(T:Txt K mg a):xy P w K mg base CX0 1 a.q3O a.xg7 ["_law_paper_here","_law_elder"] (xm8 K):=by
 refine T.q3V.ok xi7 (fun vs H Q E h=>?_) (fun cdv A outer s H vs Q E hr h=>?_)
 ·obtain⟨p,e,o,rs,es,nw,rfl,_⟩:=h;rfl
 ·obtain⟨p,e,o,rs,es,nw,rfl,⟨t,ts,hp,ht,hts⟩,he,htl,hcv,hnw,k⟩:=h;have nd:=xi7.nd;refine⟨_,(xg (xE (i:=2) nd rfl (aA rfl) (xu xfQ (ye (xa zg xc)) (xA xH (cv 0) xj (fun _ _=>rfl))))
  (xg (yt PassesOwn.never rfl (xfL (xA xH (cv 0) xj (fun _ _=>rfl))) (xK (i:=3) nd rfl (aA rfl)) (xk (xM (xJ xbT (xA xH (cv 3) xj (fun _ _=>rfl)) xP) (xk (yt PassesOwn.never rfl (xbV (by rfl) T.q2a (xa (xA xH (cv 3) xj (fun _ _=>rfl)) xc)) (xK (i:=4) nd rfl (aA rfl)) (xk (xan (xA xV (cv 1) (xu yl (xA xH (cv 3) xj (fun _ _=>rfl)) (cv 4)) (fun _ _=>rfl)) (xfK (cv 2) (xu yl (xA xH (cv 3) xj (fun _ _=>rfl)) (cv 4)) set_list))))) (xk (yt PassesOwn.never rfl (xbV (by rfl) T.q2a (xa (xN xU (by rfl) T.q12 yK (xa (xA xH (cv 3) xj (fun _ _=>rfl)) xc)) xc)) (xK (i:=4) nd rfl (aA rfl)) (xk (xan (xA xH (xA xH (cv 3) xj (fun _ _=>rfl)) (cv 4) (fun _ _=>rfl)) (xfK (cv 2) (xu yl (xA xH (cv 3) xj (fun _ _=>rfl)) (cv 4)) set_list))))))))
  (xk (xv (cv 2))))),?_⟩
  have tl:ts.length=rs.length:=hts.length;walk_at"w";walk_at"ss";intro l0 hl0;generalize hUl0:upd H l0 _=H1;have sH1:=xf.of_eq hl0 hUl0;have el0:=xq hUl0;clear hUl0;walk_at"w";refine⟨p,_,_,.int nw.length,rfl,rfl,SqT.of (sH1.at hp),rfl,?_⟩;walk_at"w";refine⟨l0,_,_,rfl,rfl,el0,by lia,by lia,by simp[aZ];lia,?_⟩;intro nl hnl;generalize hUnl:upd H1 nl _=H2;have sH2:=xf.of_eq hnl hUnl;have enl:=xq hUnl;clear hUnl;walk_at"w";have ef:(aQ ((nw.length:Nat):Int).toNat [V.non]).flatten=aQ nw.length V.non:=by
   rw[List.flatten_replicate_singleton,dn]
  rw[ef]at enl;have s2:xf H H2:=sH1.trans sH2;have hnl0:H nl=none:=sH1.back hnl;refine⟨p,_,_,.ref t,rfl,rfl,SqT.of (s2.at hp),rfl,?_⟩;walk_at"w";refine⟨t,rfl,⟨_,SqT.of (s2.at ht)⟩,?_⟩;refine xhH (xs:=ts.map V.ref) (fun k σ G=>xf H G∧∃ys x3 x4,σ=[some (.ref p),some (.ref e),some (.ref nl),x3,x4]∧G nl=some (.lst ys)∧zY (fun j=>∃r∈rs.take k,vN r j) ys nw) ⟨s2,_,_,_,rfl,enl,by simp,fun j hj=>?_⟩ (fun i σ G hi hP1=>?_) (fun k0 x σ G hx hP1=>?_) (fun σ G hP1=>?_)
  ·obtain⟨r,hr1,_⟩:=hj;simp at hr1
  ·exact SqT.of (hP1.1.at ht)
  ·obtain⟨sG,ys,x3,x4,rfl,enl',hag⟩:=hP1;rw[aD]at hx;obtain⟨t0,hb,rfl⟩:=aH.mp hx;obtain⟨r,hr0,pr⟩:=Paired.nth hts hb;obtain⟨g1,g2,g3,g4⟩:=htl r (aY hr0);have gto:=g1.to;have tk:rs.take (k0+1)=rs.take k0++[r]:=by rw[b8,hr0];rfl
   have stp:∀{G5:Hp} {ys5:List V} {i:Nat},xf H G5→G5 nl=some (.lst ys5)→zY (fun j=>(∃r∈rs.take k0,vN r j)∨(r.to≤j∧(j:Int)<r.to+i)) ys5 nw→∀v,(r.sg es)[i]? =some v→i<r.cnt→∀G6,upd G5 nl (.lst (ys5.set (r.to+i).toNat (.int v)))=G6→
     xf H G6∧G6 nl=some (.lst (ys5.set (r.to+i).toNat (.int v)))∧zY (fun j=>(∃r∈rs.take k0,vN r j)∨(r.to≤j∧(j:Int)<r.to+((i+1:Nat):Int))) (ys5.set (r.to+i).toNat (.int v)) nw:=fun{G5 ys5 i} s5 e5 hag5 v hv hil G6 hU=>by
    refine⟨xf.wr s5 hnl0 hU,by rw[←hU,xm],hag5.set ((g4 i hil).trans hv) fun j hj=>?_⟩;rcases hj with z|z
    ·exact .inl (.inl z)
    ·by_cases hlt:(j:Int)<r.to+i
     ·exact .inl (.inr ⟨z.1,hlt⟩)
     ·exact .inr (by lia)
   have fin:∀{G5:Hp} {ys5:List V},xf H G5→G5 nl=some (.lst ys5)→zY (fun j=>(∃r∈rs.take k0,vN r j)∨(r.to≤j∧(j:Int)<r.to+r.cnt)) ys5 nw→zY (fun j=>∃r∈rs.take (k0+1),vN r j) ys5 nw:=fun{G5 ys5} s5 e5 hag5=>by
    refine⟨hag5.1,fun j hj=>?_⟩;obtain⟨r',hr',hc'⟩:=hj;rw[tk]at hr';rcases a7.mp hr' with z|z
    ·exact hag5.2 j (.inl ⟨r',z,hc'⟩)
    ·rw[aj.mp z]at hc';exact hag5.2 j (.inr ⟨hc'.1,hc'.2⟩)
   have h00:zY (fun j=>(∃r∈rs.take k0,vN r j)∨(r.to≤j∧(j:Int)<r.to+((0:Nat):Int))) ys nw:=⟨hag.1,fun j hj=>by
    rcases hj with z|z
    ·exact hag.2 j z
    ·lia⟩
   walk_at"w";cases r with
   |put to sg=>
    obtain⟨u,q1,q2⟩:=pr;refine⟨t0,_,_,.str "put",rfl,rfl,SqT.of (sG.at q1),rfl,?_⟩;walk_at"w";refine⟨by walk_at"no",fun _=>?_⟩;walk_at"w";refine⟨t0,_,_,.ref u,rfl,rfl,SqT.of (sG.at q1),rfl,?_⟩;walk_at"w";refine⟨u,_,rfl,.inr (SqT.of (sG.at q2)),?_⟩;walk_at"w";have er:yx 0 (((sg.map V.int).length:Nat):Int) 1=sg.length:=by rw[ua,ao];lia
    rw[er];refine xbX (fun i σ G=>xf H G∧∃ys x4,σ=[some (.ref p),some (.ref e),some (.ref nl),some (.ref t0),x4]∧G nl=some (.lst ys)∧zY (fun j=>(∃r∈rs.take k0,vN r j)∨(to≤j∧(j:Int)<to+i)) ys nw)
     ⟨sG,ys,_,rfl,enl',h00⟩ (fun i σ G5 hi hP2=>?_) (fun σ G5 hP2=>?_)
    ·obtain⟨s5,ys5,y4,rfl,enl5,hag5⟩:=hP2;have ei:(0:Int)+(i:Int)*1=(i:Int):=by lia
     obtain⟨v,hv⟩:∃v,sg[i]? =some v:=⟨_,aK hi⟩;walk_at"w";rw[ei];refine⟨t0,_,_,.ref u,rfl,rfl,SqT.of (s5.at q1),rfl,?_⟩;walk_at"w";refine⟨u,_,_,.int v,rfl,rfl,SqT.of (s5.at q2),xeB (by rw[aD,hv];rfl),?_⟩;walk_at"w";refine⟨t0,_,_,.int to,rfl,rfl,SqT.of (s5.at q1),rfl,?_⟩;walk_at"w";refine⟨nl,_,_,(to+i).toNat,rfl,rfl,enl5,xf4 (by have:0≤to:=gto;lia) (by rw[hag5.1];have:to+(sg.length:Nat)≤nw.length:=g3;lia),?_⟩;generalize hU:upd G5 nl _=G6;obtain⟨k1,k2,k3⟩:=stp s5 enl5 hag5 v hv hi G6 hU;exact⟨k1,_,_,rfl,k2,k3⟩
    ·obtain⟨s5,ys5,y4,rfl,enl5,hag5⟩:=hP2;exact⟨s5,_,_,_,rfl,enl5,fin s5 enl5 hag5⟩
   |take to st c=>
    obtain⟨b1,b2,b3⟩:=g1;have q1:H t0=some (.tup [.str "take",.int to,.int st,.int c]):=pr;refine⟨t0,_,_,.str "take",rfl,rfl,SqT.of (sG.at q1),rfl,?_⟩;walk_at"w";refine⟨fun _=>?_,by walk_at"no"⟩;walk_at"w";refine⟨t0,_,_,.int c,rfl,rfl,SqT.of (sG.at q1),rfl,?_⟩;walk_at"w";have er:yx 0 c 1=c.toNat:=by rw[ua];lia
    rw[er];refine xbX (fun i σ G=>xf H G∧∃ys x4,σ=[some (.ref p),some (.ref e),some (.ref nl),some (.ref t0),x4]∧G nl=some (.lst ys)∧zY (fun j=>(∃r∈rs.take k0,vN r j)∨(to≤j∧(j:Int)<to+i)) ys nw)
     ⟨sG,ys,_,rfl,enl',h00⟩ (fun i σ G5 hi hP2=>?_) (fun σ G5 hP2=>?_)
    ·obtain⟨s5,ys5,y4,rfl,enl5,hag5⟩:=hP2;have ei:(0:Int)+(i:Int)*1=(i:Int):=by lia
     obtain⟨v,hv⟩:∃v,(xp.sg es (.take to st c))[i]? =some v:=⟨_,aK (by rw[xp.sg_len (r:=.take to st c) ⟨b1,b2,b3⟩ g2];exact hi)⟩;have hv2:es[(st+i).toNat]? =some v:=by
      have hv:((es.drop st.toNat).take c.toNat)[i]? =some v:=hv;rw[dA hi,fc]at hv;rw[←hv];congr 1;lia
     walk_at"w";rw[ei];refine⟨t0,_,_,.int st,rfl,rfl,SqT.of (s5.at q1),rfl,?_⟩;walk_at"w";refine⟨e,_,_,.int v,rfl,rfl,SqL.of (s5.at he),xf3 (by lia) hv2,?_⟩;walk_at"w";refine⟨t0,_,_,.int to,rfl,rfl,SqT.of (s5.at q1),rfl,?_⟩;walk_at"w";refine⟨nl,_,_,(to+i).toNat,rfl,rfl,enl5,xf4 (by lia) (by rw[hag5.1];have:to+(c.toNat:Nat)≤nw.length:=g3;lia),?_⟩;generalize hU:upd G5 nl _=G6;obtain⟨k1,k2,k3⟩:=stp s5 enl5 hag5 v hv hi G6 hU;exact⟨k1,_,_,rfl,k2,k3⟩
    ·obtain⟨s5,ys5,y4,rfl,enl5,hag5⟩:=hP2;exact⟨s5,_,_,_,rfl,enl5,fin s5 enl5 hag5⟩
  ·obtain⟨sG,ys,x3,x4,rfl,enl',hag⟩:=hP1;have e:ys=nw.map V.int:=hag.all fun j hj=>by
    obtain⟨r,h1,h2⟩:=hcv j hj;refine⟨r,?_,h2⟩;rw[d5 (by simp;lia)];exact h1
   rw[e]at enl';exact k nl G sG hnl0 enl'
theorem xfH{old to:Int}{sg:List Int}(h0:0≤to)(h1:sg≠[])(h8:sg.length≤8)(hs:∀x∈sg,Sg x):Good old (.put to sg):=⟨⟨h0,h1,by lia,hs⟩,trivial,trivial⟩
theorem NP.tl{old o n:Int}{rs:List xp}(h:NP old o n rs):∃rs0,rs.Perm rs0∧Tl old rs0 n:=by
 cases h with
 |no o ho=>exact⟨[],.refl _,.nil⟩
 |put o sg ho h1 h8 hs=>
  refine⟨[.put 0 sg],.refl _,?_⟩;have:=Tl.snoc (old:=old) (r:=.put 0 sg) (n:=sg.length) .nil (xfH (by decide) (by intro z;rw[z]at h1;cases h1) h8 hs) rfl rfl;rw[Int.zero_add]at this;exact this
 |take to st c sg h8 hs h0 h1 h2 h3 h4=>
  have tk:∀{rs':List xp},Tl old rs' to→Tl old (rs'++[.take to st c]) (to+c):=fun h=>Tl.snoc (r:=.take to st c) h ⟨⟨h0,h1,h2⟩,trivial,h3⟩ rfl (show((c.toNat:Nat):Int)=c by lia);have fst:∃a,(if 0<to then[xp.put 0 (sg.take to.toNat)]else[])=a∧Tl old a to:=by
   by_cases z:0<to
   ·rw[if_pos z];refine⟨_,rfl,?_⟩;have hl:(sg.take to.toNat).length=to.toNat:=by rw[bQ];lia
    have:=Tl.snoc (old:=old) (r:=.put 0 (sg.take to.toNat)) (n:=to) .nil (xfH (by decide) (by intro e;rw[e]at hl;simp at hl;lia) (by lia) (fun x hx=>hs x (iX hx))) rfl (show((sg.take to.toNat).length:Int)=to by lia);rw[Int.zero_add]at this;exact this
   ·rw[if_neg z];obtain rfl:to=0:=by lia
    exact⟨_,rfl,.nil⟩
  obtain⟨a,ea,ha⟩:=fst;rw[ea];have h2':=tk ha
  by_cases z:to+c<(sg.length:Int)
  ·rw[if_pos z];refine⟨a++[.take to st c]++[.put (to+c) (sg.drop (to+c).toNat)],?_,?_⟩
   ·rw[d8];exact(List.perm_middle (a:=xp.take to st c) (l₁:=a) (l₂:=[.put (to+c) (sg.drop (to+c).toNat)])).symm
   ·have hl:(sg.drop (to+c).toNat).length=sg.length - (to+c).toNat:=cQ;have:=Tl.snoc (r:=.put (to+c) (sg.drop (to+c).toNat)) (n:=(sg.length:Int) - (to+c)) h2' (xfH (by lia) (by intro e;rw[e]at hl;simp at hl;lia) (by lia) (fun x hx=>hs x (eI hx))) rfl (show((sg.drop (to+c).toNat).length:Int)=_ by lia);rw[show to+c+((sg.length:Int) - (to+c))=sg.length by lia]at this;exact this
  ·rw[if_neg z,cE];refine⟨a++[xp.take to st c],(List.perm_append_comm (l₁:=a) (l₂:=[xp.take to st c])).symm,?_⟩;rw[show to+c=(sg.length:Int)by lia]at h2';exact h2'
theorem xev:∀(n:Nat) (rs:List xp) (wr:List Int),(∀r∈rs,r.rds=[])→jM n rs wr=none
 |_,[],_,_=>rfl
 |n,r::rs,wr,h=>by
  rw[jM,h r ba];exact xev (n+1) rs _ fun x hx=>h x (aS _ hx)
theorem NP.late{old o n:Int}{rs:List xp}(h:NP old o n rs):xaZ rs=none:=by
 cases h with
 |no o ho=>rfl
 |put o sg ho h1 h8 hs=>exact xev 0 _ [] fun r hr=>by rw[aj.mp hr];rfl
 |take to st c sg h8 hs h0 h1 h2 h3 h4=>
  unfold xaZ;rw[jM];rw[show(xp.take to st c).rds.find? (fun c=>decide (c∈([]:List Int)))=none by rw[eZ];intro x _;simp];refine xev 1 _ _ fun r hr=>?_;rcases a7.mp hr with hr|hr
  ·split at hr
   ·rw[aj.mp hr];rfl
   ·cases hr
  ·split at hr
   ·rw[aj.mp hr];rfl
   ·cases hr
theorem NP.fine{old o n:Int}{rs:List xp}(h:NP old o n rs)(h0:0≤old):jF rs n=none∧jL rs=none∧0≤n∧n≤8∧rs.length≤3∧(o=0∨o=old):=by
 obtain⟨rs0,hp,ht⟩:=h.tl;obtain⟨nw,e,_,_,_,_,tw,lk⟩:=xl1 (es:=aQ old.toNat 0) hp ht (by rw[bZ];lia);refine⟨by unfold jF;rw[lk,h.late],tw,?_⟩;cases h with
 |no o ho=>exact⟨by decide,by decide,by decide,ho⟩
 |put o sg ho h1 h8 hs=>exact⟨by lia,by lia,by simp,ho⟩
 |take to st c sg h8 hs h0 h1 h2 h3 h4=>
  refine⟨by lia,by lia,?_,.inr rfl⟩;rw[bD,aW]
  split<;> split<;> simp
end
def xiu(c n:Int):Option (Option Int):=if 1<mixed c n%7 then none else if mixed c n / 64%3=0 then some none else if mixed c n / 64%3=1 then some (some (mixed c n / 8%9 - 4))else some (some (mixed c n*10^(kd 30)))
def xl2:Sp:=fun vs H Q _=>∃c n:Int,vs=[.int c,.int n]∧∀v H',xf H H'→xlK H' v (xiu c n)→Q v H'
abbrev xbQ:Expr:=vk 2 (xqz ((xI xc5).getD 2 (.Pass ⟨0,0,0,0⟩)))
theorem xkY:yS ["_law_count","_law_script"] ["_law_count"] ["_law_script"] (yg xbQ):=⟨rfl,rfl,rfl,by decide+kernel,rfl,by decide+kernel,by decide+kernel,by decide+kernel⟩
abbrev xr4(H:Hp)(f sc:Addr):Prop:=yJ H f "<lambda>" "law.<locals>.<lambda>" (uv xbQ) (.expr (uw xbQ)) (yg xbQ) [("_law_script",.ref sc)]
def xpS(K:ag):List (Str×V)→Sp:=fun fv vs H Q _=>∃(sc:Addr) (ns:List Int) (n:Int),fv=([("_law_script",.ref sc)]:List (Str×V))∧vs=[.int n]∧SqL K H sc (ns.map V.int)∧∀v H',xf H H'→xlK H' v (xiu (cellAt ns 1) n)→Q v H'
def xcx(K:ag)(H:Hp)(sc:Addr)(ns:List Int)(M:List Addr):Prop:=(∀x∈M,H x=some (.lst (ns.map V.int)))∧(sc∈M∨(∃o,H sc=some (.frz o (.lst (ns.map V.int))))∨∀H,SqL K H sc (ns.map V.int))
theorem xcx.sq{K:ag}{H:Hp}{sc:Addr}{ns:List Int}{M:List Addr}(h:xcx K H sc ns M):SqL K H sc (ns.map V.int):=by
 rcases h.2 with e|⟨o,e⟩|e
 ·exact SqL.of (h.1 sc e)
 ·exact .inl (.inr ⟨o,e⟩)
 ·exact e H
theorem xcx.of{K:ag}{H:Hp}{sc:Addr}{ns:List Int}(h:SqL K H sc (ns.map V.int)):∃M,xcx K H sc ns M∧∀x∈M,x=sc:=by
 rcases h with(e|⟨o,e⟩)|e
 ·exact⟨[sc],⟨fun x hx=>by rw[aj.mp hx];exact e,.inl (by simp)⟩,fun x hx=>aj.mp hx⟩
 ·exact⟨[],⟨(fun _ z=>nomatch z),.inr (.inl ⟨o,e⟩)⟩,fun _ z=>nomatch z⟩
 ·exact⟨[],⟨(fun _ z=>nomatch z),.inr (.inr fun H=>.inr e)⟩,fun _ z=>nomatch z⟩
theorem xcx.kp{K:ag}{H H':Hp}{sc:Addr}{ns:List Int}{M L:List Addr}(h:xcx K H sc ns M)(kp:Kp L H H')(mu:MuL H L)(hn:∀x∈L,x∉M):xcx K H' sc ns M:=by
 refine⟨fun x hx=>kp _ _ (h.1 x hx) (fun z=>hn x z hx),?_⟩;rcases h.2 with e|⟨o,e⟩|e
 ·exact .inl e
 ·exact .inr (.inl ⟨o,kp _ _ e fun z=>by
   obtain⟨u,q,m⟩:=mu sc z;rw[e]at q;cases q;exact m⟩)
 ·exact .inr (.inr e)
def FLm(K:ag)(f sc:Addr)(ns:List Int)(M:List Addr):FM where
 f:=f
 M:=M
 fo:=fun _ n=>xiu (cellAt ns 1) n
 At:=fun H _ _=>xr4 H f sc∧xcx K H sc ns M
 keep:=fun h kp mu hn=>⟨yJ.kp h.1 mu kp,h.2.kp kp mu hn⟩
 mu:=fun h x hx=>⟨_,h.2.1 x hx,trivial⟩
section
variable {P:ak} {w:World} {K:ag} {mg:Str→Option Value} {base:Heap} {a:Adr}
theorem xn9(c n:Int):0≤mixed c n∧mixed c n<2147483647:=by
 unfold mixed
 split
 ·have:=cJ (c / 2^(1+20*(n%120)).toNat) (show(2:Int)^(20:Int).toNat≠0 by decide);have:=cC (c / 2^(1+20*(n%120)).toNat) (show(0:Int)<2^(20:Int).toNat by decide);have e:(2:Int)^(20:Int).toNat=1048576:=by decide
  lia
 ·dsimp only;exact⟨cJ _ (by decide),cC _ (by decide)⟩
theorem xl3(T:Txt K mg a):xy P w K mg base CX0 2 a.q3e a.xd8 ["_law_cell","_law_count"] xl2:=by
 refine T.q3i.ok xgu (fun vs H Q E h=>?_) (fun cdv A outer s H vs Q E hr h=>?_)
 ·obtain⟨c,n,rfl,_⟩:=h;rfl
 ·obtain⟨c,n,rfl,q⟩:=h;have nd:=xgu.nd;refine⟨_,(xg (xE (i:=2) nd rfl (aA rfl) (xD (zp T) (hr.mono (by decide)) (by rfl) T.zW T.q1j.kp T.zV .nil xt (xa (cv 0) (xa (cv 1) xc))))
  (xg (xM (xJ xdQ (xu yq (cv 2) xj) xj) (xk (xv zg)) xC)
  (xk (xv (xA xV (ye (xa (yX xc) (xa (yX (xa (xu yz (xu yq (xu xcC (cv 2) xj) xj) xj) xc)) (xa (yX (xa (xu xbS (cv 2) (xu xeE xj xj)) xc)) xc)))) (xu yq (xu xcC (cv 2) xj) xj) (fun _ _=>rfl)))))),?_⟩
  unfold xiu at q;walk_at"w";refine⟨c,n,rfl,?_⟩;have hlo:=xn9 c n;generalize mixed c n=dr at q hlo;walk_at"w";walk_at"ss";refine⟨fun c1=>?_,fun c1=>?_⟩
  ·have c1:1<dr%7:=of_decide_eq_true c1;rw[if_pos c1]at q;walk_at"w";exact q .non H (xf.refl _) rfl
  have c1:¬1<dr%7:=of_decide_eq_false c1;rw[if_neg c1]at q;walk_at"w";walk_at"ss";intro t1 ht1;generalize hUt1:upd H t1 _=H1;have sH1:=xf.of_eq ht1 hUt1;have et1:=xq hUt1;clear hUt1;walk_at"w";walk_at"ss";intro t2 ht2;generalize hUt2:upd H1 t2 _=H2;have sH2:=xf.of_eq ht2 hUt2;have et2:=xq hUt2;clear hUt2;walk_at"w";refine a6 ⟨by decide,by decide,by decide⟩ ?_;walk_at"w";refine a6 (.inl ⟨by lia,by lia⟩) ?_;walk_at"w";walk_at"ss";intro t3 ht3;generalize hUt3:upd H2 t3 _=H3;have sH3:=xf.of_eq ht3 hUt3;have et3:=xq hUt3;clear hUt3;walk_at"w";walk_at"ss";intro so hso;generalize hUso:upd H3 so _=H4;have sH4:=xf.of_eq hso hUso;have eso:=xq hUso;clear hUso;walk_at"w";walk_at"ss";have s4:=sH1.trans (sH2.trans (sH3.trans sH4))
  by_cases hz:dr / 64%3=0
  ·rw[if_pos hz]at q;refine⟨so,_,_,.ref t1,rfl,rfl,SqL.of eso,by rw[hz];rfl,?_⟩;exact q _ H4 s4 ⟨t1,rfl,(sH2.trans (sH3.trans sH4)).at et1⟩
  rw[if_neg hz]at q
  by_cases hz1:dr / 64%3=1
  ·rw[if_pos hz1]at q;refine⟨so,_,_,.ref t2,rfl,rfl,SqL.of eso,by rw[hz1];rfl,?_⟩;exact q _ H4 s4 ⟨t2,rfl,(sH3.trans sH4).at et2⟩
  ·rw[if_neg hz1]at q;have h2:dr / 64%3=2:=by lia
   refine⟨so,_,_,.ref t3,rfl,rfl,SqL.of eso,by rw[h2];rfl,?_⟩;exact q _ H4 s4 ⟨t3,rfl,sH4.at et3⟩
theorem xl4(T:Txt K mg a):yA P w K mg base CX0 3 "<lambda>" "law.<locals>.<lambda>" (uv xbQ) (.expr (uw xbQ)) (yg xbQ) ["_law_count"] (xpS K):=by
 refine xbf xkY (fun fv vs H Q E h=>?_) (fun _ _ _ _ _ us hl=>match us,hl with|[_],_=>rfl) (fun A outer s H f clos cdv fv vs Q E hr h=>?_)
 ·obtain⟨sc,ns,n,rfl,rfl,_⟩:=h;exact⟨rfl,rfl⟩
 ·obtain⟨sc,ns,n,rfl,rfl,hs,q⟩:=h;have nd:=xkY.nd;refine⟨_,(xD (xl3 T) (hr.mono (by decide)) (by rfl) T.xmL T.q3i.kp T.xmK .nil xt (xa (xD (xaY T) (hr.mono (by decide)) (by rfl) T.xbZ T.q16.kp T.xbY .nil xt (xa (cv 1) (xa xj xc))) (xa (cv 0) xc))),?_⟩;walk_at"w";refine⟨sc,ns,1,rfl,hs,by decide,?_⟩;walk_at"w";exact⟨_,n,rfl,q⟩
theorem xqW(T:Txt K mg a)(f sc:Addr)(ns:List Int)(M:List Addr):um P w K mg base (FLm K f sc ns M) where
 run:=fun{H k n Q} h _ q=>⟨_,_,_,_,_,_,_,_,xl4 T,h.1,sc,ns,n,rfl,rfl,h.2.sq,fun v H' s hv=>q v H' (Kp.of s) hv ((FLm K f sc ns M).keep (L:=[]) (k:=k) (n:=n) h (Kp.of s) (fun _ z=>nomatch z) (fun _ z=>nomatch z))⟩
 clo:=fun h=>⟨_,_,_,_,_,_,h.1⟩
end
section
variable {P:ak} {w:World} {K:ag} {mg:Str→Option Value} {base:Heap} {a:Adr}
theorem Tl.mono{old old' n:Int}{rs:List xp}(hl:old≤old')(h:Tl old rs n):Tl old' rs n:=by
 induction h with
 |nil=>exact .nil
 | @snoc rs at' n r h1 hg ht hn ih=>
  refine .snoc ih ⟨hg.1,hg.2.1,?_⟩ ht hn;cases r with
  |put to sg=>trivial
  |take to st c=>have:st+c≤old:=hg.2.2;show st+c≤old';lia
theorem NP.sm{old o n:Int}{rs:List xp}(h:NP old o n rs)(ho:old≤100):∀r∈rs,Sm r:=by
 cases h with
 |no=>intro r z;cases z
 |put o sg _ h1 h8 hs=>intro r hr;rw[aj.mp hr];exact⟨by lia,by lia⟩
 |take to st c sg h8 hs h0 h1 h2 h3 h4=>
  intro r hr;rcases av.mp hr with rfl|hr
  ·exact⟨by lia,by lia,by lia⟩
  rcases a7.mp hr with hr|hr
  ·split at hr
   ·rw[aj.mp hr];exact⟨by lia,by rw[bQ];lia⟩
   ·cases hr
  ·split at hr
   ·rw[aj.mp hr];exact⟨by lia,by rw[cQ];lia⟩
   ·cases hr
theorem NP.ok{old o n:Int}{rs:List xp}(h:NP old o n rs)(h0:0≤old):∀r∈rs,r.ok∧Fit o n r:=by
 obtain⟨rs0,hp,ht⟩:=h.tl;obtain⟨nw,e,_,_,g,_⟩:=xl1 (es:=aQ old.toNat 0) hp ht (by rw[bZ];lia);intro r hr;obtain⟨g1,g2⟩:=g r hr;refine⟨g1.1,?_⟩;cases r with
 |put to sg=>exact g2
 |take to st c=>
  have g3:st+c≤old:=g1.2.2;have g2:to+(c.toNat:Nat)≤n:=g2;have g4:=g1.1.2.2;refine⟨?_,by lia⟩;cases h with
  |no=>cases hr
  |put=>cases aj.mp hr
  |take=>exact g3
theorem xm9{y:Wr}{s:BdS}{r:Option Bool}:y.up {s with run:=r}={y.up s with run:=r}:=by cases y<;> rfl
theorem xna{y:Wr}{s:BdS}{r:Option Bool}{x:Int}:y.tn x {s with run:=r}={y.tn x s with run:=r}:=by cases y<;> rfl
theorem xdo{F:FM}{s:BdS}{y:Wr}(h:F.fo s.fl s.cnt=some none):w1 F s y={s with cnt:=s.cnt+1,fl:=s.fl+1}:=by unfold w1;rw[h]
theorem xeO{F:FM}{s:BdS}{y:Wr}{x:Int}(h:F.fo s.fl s.cnt=some (some x)):w1 F s y={y.tn x s with cnt:=s.cnt+1,fl:=s.fl+1}:=by unfold w1;rw[h]
theorem xh0{F:FM}{y:Wr}{s:BdS}{r:Option Bool}:w1 F {s with run:=r} y={w1 F s y with run:=r}:=by
 cases e:F.fo s.fl s.cnt with
 |none=>rw[zf e,zf (s:={s with run:=r}) e,xm9]
 |some z=>
  cases z with
  |none=>rw[xdo e,xdo (s:={s with run:=r}) e]
  |some x=>rw[xeO e,xeO (s:={s with run:=r}) e,xna]
theorem xfe{F:FM}{r:Option Bool}:∀(ys:List Wr) (s:BdS),xB F {s with run:=r} ys=({(xB F s ys).1 with run:=r},(xB F s ys).2)
 |[],_=>rfl
 |y::ys,s=>by
  by_cases e:F.fo s.fl s.cnt=none
  ·rw[ym e,ym (s:={s with run:=r}) e,xh0];exact xfe ys _
  ·rw[ya e,ya (s:={s with run:=r}) e,xh0]
theorem xnb{F:FM}{s:BdS}:xgD F s=zc (some (startB s)) (xB F s (yo s)):=by
 unfold xgD;rw[xfe];unfold zc;cases (xB F s (yo s)).2<;> rfl
theorem xjD{b:Option Bool}{r:BdS×Option Int}:(zc b r).2=r.2:=by
 obtain⟨s,c⟩:=r;cases c<;> rfl
theorem xpT{H:Hp}{us:List Addr}{rs:List xp}(h:Paired (GT K H) us rs):(yy rs).length≤9*us.length:=by
 induction h with
 |nil=>simp[yy]
 |cons hg t ih=>
  have:=xfc hg.2.1 hg.2.2;unfold yy at ih⊢;rw[List.flatMap_cons,aW,ao,bD];lia
end
section
variable {P:ak} {w:World} {K:ag} {mg:Str→Option Value} {base:Heap} {a:Adr}
def yw(I:BdS→Prop):List Wr→BdS→Prop
 |[],s=>I s
 |y::ys,s=>I s∧(∀x,I (y.tn x s))∧yw I ys (y.up s)
def xa0(s:BdS)(ys:List Wr):BdS:=ys.foldl (fun s y=>y.up s) s
theorem yw.app{I:BdS→Prop}{zs:List Wr}:∀{ys:List Wr} {s:BdS},yw I ys s→yw I zs (xa0 s ys)→yw I (ys++zs) s
 |[],_,_,h=>h
 |_::_,_,h,h2=>⟨h.1,h.2.1,yw.app h.2.2 h2⟩
theorem xrC{y:Wr}{s:BdS}{c:Int}{f:Nat}:y.up {s with cnt:=c,fl:=f}={y.up s with cnt:=c,fl:=f}:=by cases y<;> rfl
theorem xrD{y:Wr}{s:BdS}{c x:Int}{f:Nat}:y.tn x {s with cnt:=c,fl:=f}={y.tn x s with cnt:=c,fl:=f}:=by cases y<;> rfl
theorem yw.cf{I:BdS→Prop}(hI:∀s c f,I s→I {s with cnt:=c,fl:=f}):∀{ys:List Wr} {s:BdS} {c:Int} {f:Nat},yw I ys s→yw I ys {s with cnt:=c,fl:=f}
 |[],_,_,_,h=>hI _ _ _ h
 |_::_,_,_,_,h=>⟨hI _ _ _ h.1,fun x=>by rw[xrD];exact hI _ _ _ (h.2.1 x),by rw[xrC];exact yw.cf hI h.2.2⟩
theorem yw.all{F:FM}{I:BdS→Prop}(hI:∀s c f,I s→I {s with cnt:=c,fl:=f}):∀{ys:List Wr} {s:BdS},yw I ys s→I (xB F s ys).1
 |[],_,h=>h
 |y::ys,s,h=>by
  cases e:F.fo s.fl s.cnt with
  |none=>
   rw[ym e,zf e];exact yw.all hI (yw.cf hI h.2.2)
  |some z=>
   rw[ya (by rw[e];simp)];cases z with
   |none=>rw[xdo e];exact hI _ _ _ h.1
   |some x=>rw[xeO e];exact hI _ _ _ (h.2.1 x)
theorem xjE{F:FM}{s:BdS}{y:Wr}:(w1 F s y).cnt=s.cnt+1:=by
 cases e:F.fo s.fl s.cnt with
 |none=>rw[zf e]
 |some z=>
  cases z with
  |none=>rw[xdo e]
  |some x=>rw[xeO e]
theorem xjF{F:FM}:∀(ys:List Wr) (s:BdS),s.cnt≤(xB F s ys).1.cnt∧∀c,(xB F s ys).2=some c→s.cnt≤c∧c<(xB F s ys).1.cnt
 |[],s=>⟨cD _,fun c e=>by cases e⟩
 |y::ys,s=>by
  by_cases e:F.fo s.fl s.cnt=none
  ·rw[ym e];obtain⟨h1,h2⟩:=xjF (F:=F) ys (w1 F s y);rw[xjE]at h1 h2;exact⟨by lia,fun c ec=>by have:=h2 c ec;lia⟩
  ·rw[ya e];refine⟨by show s.cnt≤(w1 F s y).cnt;rw[xjE];lia,fun c ec=>?_⟩;cases ec;exact⟨cD _,by show s.cnt<(w1 F s y).cnt;rw[xjE];lia⟩
def va(ns:List (Option Int))(m:Nat):Prop:=ns.length=2∧ns[m%2]? =some (some (m:Int))∧∀v,some v∈ns→v≤(m:Int)
def xoa(mk:Str)(ns:List (Option Int)):Prop:=ns.length=2∧(mk=("open":Str)→∃m:Nat,m≤600∧va ns m)
structure Okb(tx:Bool→List (List Int))(left size:Int)(s:BdS):Prop where
 sz:s.size=size
 good:∀b,s.mark b=("good":Str)→(s.cells b).take (s.len b).toNat∈tx b
 mg:s.mark s.mr=("good":Str)
 tri:s.mark (!s.mr)=("trial":Str)→0≤s.ct∧s.ct≤left
 cl:∀b,((s.cells b).length:Int)=size
 ln:∀b,0≤s.len b∧s.len b≤size
 nt:∀b,xoa (s.mark b) (s.notes b)
theorem Okb.cf{tx:Bool→List (List Int)}{left size:Int}(s:BdS)(c:Int)(f:Nat)(h:Okb tx left size s):Okb tx left size {s with cnt:=c,fl:=f}:=⟨h.sz,h.good,h.mg,h.tri,h.cl,h.ln,h.nt⟩
theorem Okb.setrun{tx:Bool→List (List Int)}{left size:Int}{s:BdS}(r:Option Bool)(h:Okb tx left size s):Okb tx left size {s with run:=r}:=⟨h.sz,h.good,h.mg,h.tri,h.cl,h.ln,h.nt⟩
theorem Okb.left{tx:Bool→List (List Int)}{left left' size:Int}{s:BdS}(h:Okb tx left size s)(k:s.mark (!s.mr)=("trial":Str)→s.ct≤left'):Okb tx left' size s:=⟨h.sz,h.good,h.mg,fun e=>⟨(h.tri e).1,k e⟩,h.cl,h.ln,h.nt⟩
theorem Okb.more{tx tx':Bool→List (List Int)}{left size:Int}{s:BdS}(h:Okb tx left size s)(k:∀b,∀x∈tx b,x∈tx' b):Okb tx' left size s:=⟨h.sz,fun b e=>k b _ (h.good b e),h.mg,h.tri,h.cl,h.ln,h.nt⟩
theorem yp{α:Type}{f:Bool→α}{b:Bool}{v:α}:upB f b v b=v:=if_pos rfl
theorem zH{α:Type}{f:Bool→α}{b c:Bool}{v:α}(h:c≠b):upB f b v c=f c:=if_neg h
theorem xkZ{α:Type}{f:Bool→α}{b:Bool}{v:α}{p:α→Prop}(h:p v)(k:∀c,c≠b→p (f c))(c:Bool):p (upB f b v c):=by
 unfold upB
 split
 ·exact h
 ·rename_i e;exact k c e
theorem nb(b:Bool):b≠!b:=by cases b<;> decide
section
variable {tx:Bool→List (List Int)} {left size:Int} {s:BdS}
theorem Okb.mark(h:Okb tx left size s){v:Str}(h1:v=("good":Str)→(s.cells (!s.mr)).take (s.len (!s.mr)).toNat∈tx (!s.mr))(h2:v=("trial":Str)→0≤s.ct∧s.ct≤left)(h3:v=("open":Str)→∃m:Nat,m≤600∧va (s.notes (!s.mr)) m):Okb tx left size {s with mark:=upB s.mark (!s.mr) v}:=by
 refine⟨h.sz,fun b e=>?_,?_,fun e=>?_,h.cl,h.ln,fun b=>?_⟩
 ·by_cases hb:b= !s.mr
  ·subst hb;have e:upB s.mark (!s.mr) v (!s.mr)=("good":Str):=e;rw[yp]at e;exact h1 e
  ·have e:upB s.mark (!s.mr) v b=("good":Str):=e;rw[zH hb]at e;exact h.good b e
 ·show upB s.mark (!s.mr) v s.mr=_;rw[zH (nb _)];exact h.mg
 ·have e:upB s.mark (!s.mr) v (!s.mr)=("trial":Str):=e;rw[yp]at e;exact h2 e
 ·show xoa (upB s.mark (!s.mr) v b) (s.notes b)
  by_cases hb:b= !s.mr
  ·subst hb;rw[yp];exact⟨(h.nt _).1,h3⟩
  ·rw[zH hb];exact h.nt b
theorem Okb.note(h:Okb tx left size s){ns:List (Option Int)}(hl:ns.length=2)(ho:s.mark (!s.mr)=("open":Str)→∃m:Nat,m≤600∧va ns m):Okb tx left size {s with notes:=upB s.notes (!s.mr) ns}:=by
 refine⟨h.sz,h.good,h.mg,h.tri,h.cl,h.ln,fun b=>?_⟩;show xoa (s.mark b) (upB s.notes (!s.mr) ns b)
 by_cases hb:b= !s.mr
 ·subst hb;rw[yp];exact⟨hl,ho⟩
 ·rw[zH hb];exact h.nt b
theorem Okb.cell(h:Okb tx left size s)(ho:s.mark (!s.mr)≠("good":Str)){cs:List Int}(hl:(cs.length:Int)=size):Okb tx left size {s with cells:=upB s.cells (!s.mr) cs}:=by
 refine⟨h.sz,fun b e=>?_,h.mg,h.tri,fun b=>?_,h.ln,h.nt⟩
 ·show((upB s.cells (!s.mr) cs b).take _)∈_;have e:s.mark b=("good":Str):=e;rw[zH (fun z=>ho (by rw[←z];exact e))];exact h.good b e
 ·exact xkZ (p:=fun(x:List Int)=>(x.length:Int)=size) hl (fun c _=>h.cl c) b
theorem Okb.leng(h:Okb tx left size s)(ho:s.mark (!s.mr)≠("good":Str)){n:Int}(hl:0≤n∧n≤size):Okb tx left size {s with len:=upB s.len (!s.mr) n}:=by
 refine⟨h.sz,fun b e=>?_,h.mg,h.tri,h.cl,fun b=>?_,h.nt⟩
 ·show((s.cells b).take (upB s.len (!s.mr) n b).toNat)∈_;have e:s.mark b=("good":Str):=e;rw[zH (fun z=>ho (by rw[←z];exact e))];exact h.good b e
 ·exact xkZ (p:=fun(x:Int)=>0≤x∧x≤size) hl (fun c _=>h.ln c) b
theorem Okb.cter(h:Okb tx left size s){n:Int}(hl:s.mark (!s.mr)=("trial":Str)→0≤n∧n≤left):Okb tx left size {s with ct:=n}:=⟨h.sz,h.good,h.mg,hl,h.cl,h.ln,h.nt⟩
theorem Okb.flip(h:Okb tx left size s)(hg:s.mark (!s.mr)=("good":Str)):Okb tx left size {s with mr:= !s.mr}:=by
 refine⟨h.sz,h.good,hg,fun e=>?_,h.cl,h.ln,h.nt⟩;have e:s.mark (!!s.mr)=("trial":Str):=e;rw[Bool.not_not,h.mg]at e;cases e
theorem yw.cells(h:Okb tx left size s)(ho:s.mark (!s.mr)≠("good":Str)):∀(ys:List Wr) (cs:List Int),(cs.length:Int)=size→(∀y∈ys,∃i v,y= .cell (!s.mr) i v)→yw (Okb tx left size) ys {s with cells:=upB s.cells (!s.mr) cs}∧∃cs':List Int,(cs'.length:Int)=size∧xa0 {s with cells:=upB s.cells (!s.mr) cs} ys={s with cells:=upB s.cells (!s.mr) cs'}
 |[],cs,hl,_=>⟨h.cell ho hl,cs,hl,rfl⟩
 |y::ys,cs,hl,hy=>by
  obtain⟨i,v,rfl⟩:=hy _ (ba ..);have e:∀x,(Wr.cell (!s.mr) i x).up {s with cells:=upB s.cells (!s.mr) cs}={s with cells:=upB s.cells (!s.mr) (cs.set i x)}:=fun x=>by
   show({s with cells:=upB (upB s.cells (!s.mr) cs) (!s.mr) ((upB s.cells (!s.mr) cs (!s.mr)).set i x)}:BdS)=_;rw[xkQ,yp]
  have hl':∀x,((cs.set i x).length:Int)=size:=fun x=>by rw[cH];exact hl
  obtain⟨h1,cs',h2,h3⟩:=yw.cells h ho ys (cs.set i v) (hl' v) (fun y z=>hy y (aS _ z));refine⟨⟨h.cell ho hl,fun x=>?_,by rw[e];exact h1⟩,cs',h2,?_⟩
  ·show Okb tx left size ((Wr.cell (!s.mr) i x).up {s with cells:=upB s.cells (!s.mr) cs});rw[e];exact h.cell ho (hl' x)
  ·show xa0 ((Wr.cell (!s.mr) i v).up {s with cells:=upB s.cells (!s.mr) cs}) ys=_;rw[e];exact h3
theorem xjG{b:Bool}{r:xp}:∀(ds C:List Int),∀y∈pcW b r C ds,∃i v,y= .cell b i v
 |[],_,_,h=>nomatch h
 |d::ds,C,y,h=>by
  rcases av.mp h with rfl|h
  ·exact⟨_,_,rfl⟩
  ·exact xjG ds _ y h
theorem va.next{ns:List (Option Int)}{m:Nat}(h:va ns m):va (ns.set ((m+1)%2) (some ((m+1:Nat):Int))) (m+1):=by
 refine⟨by rw[cH];exact h.1,?_,fun v hv=>?_⟩
 ·rw[bP (by have:=h.1;lia)]
 ·rcases gG hv with z|z
  ·have:=h.2.2 v z;lia
  ·cases z;lia
theorem va.torn{ns:List (Option Int)}{m:Nat}(h:va ns m):va (ns.set ((m+1)%2) none) m:=by
 refine⟨by rw[cH];exact h.1,?_,fun v hv=>?_⟩
 ·rw[bA (by lia)];exact h.2.1
 ·rcases gG hv with z|z
  ·exact h.2.2 v z
  ·cases z
theorem xl5:({s with cells:=upB s.cells (!s.mr) (s.cells (!s.mr))}:BdS)=s:=by
 have:upB s.cells (!s.mr) (s.cells (!s.mr))=s.cells:=by
  funext c;unfold upB;split
  ·rename_i e;rw[e]
  ·rfl
 rw[this]
theorem yw.go:∀(xs:List (xp×List Int)) (s:BdS) (C:List Int) (m:Nat),Okb tx left size s→s.mark (!s.mr)=("open":Str)→va (s.notes (!s.mr)) m→m+xs.length≤600→
  yw (Okb tx left size) (goW (!s.mr) C m xs) s∧Okb tx left size (xa0 s (goW (!s.mr) C m xs))∧(xa0 s (goW (!s.mr) C m xs)).mark=s.mark∧(xa0 s (goW (!s.mr) C m xs)).mr=s.mr
 |[],s,C,m,h,ho,hm,hl=>⟨h,h,rfl,rfl⟩
 |x::xs,s,C,m,h,ho,hm,hl=>by
  have ng:s.mark (!s.mr)≠("good":Str):=by rw[ho];decide
  obtain⟨h1,cs',h2,h3⟩:=yw.cells h ng (pcW (!s.mr) x.1 C x.2) (s.cells (!s.mr)) (h.cl _) (xjG _ _);rw[xl5]at h1 h3;have hl':m+1+xs.length≤600:=by simp at hl;lia
  have hc:=h.cell ng h2;generalize hs1:({s with cells:=upB s.cells (!s.mr) cs'}:BdS)=s1 at h3 hc;have e1:s1.mark=s.mark∧s1.mr=s.mr∧s1.notes=s.notes:=by rw[←hs1];exact⟨rfl,rfl,rfl⟩
  have k0:s1.mark (!s1.mr)=("open":Str):=by rw[e1.1,e1.2.1];exact ho
  have k1:va (s1.notes (!s1.mr)) m:=by rw[e1.2.2,e1.2.1];exact hm
  have hn:=hc.note (ns:=(s1.notes (!s1.mr)).set ((m+1)%2) (some ((m+1:Nat):Int))) k1.next.1 (fun _=>⟨m+1,by lia,k1.next⟩);have ht:=hc.note (ns:=(s1.notes (!s1.mr)).set ((m+1)%2) none) k1.torn.1 (fun _=>⟨m,by lia,k1.torn⟩);obtain⟨g1,g2,g3,g4⟩:=yw.go xs {s1 with notes:=upB s1.notes (!s1.mr) ((s1.notes (!s1.mr)).set ((m+1)%2) (some ((m+1:Nat):Int)))} (doP x.1 C x.2) (m+1) hn k0 (by show va (upB s1.notes (!s1.mr) _ (!s1.mr)) _;rw[yp];exact k1.next) hl';have e0:goW (!s.mr) C m (x::xs)=pcW (!s.mr) x.1 C x.2++(.note (!s1.mr) ((m+1)%2) ((m+1:Nat):Int)::goW (!s1.mr) (doP x.1 C x.2) (m+1) xs):=by rw[e1.2.1];rfl
  have e2:xa0 s (goW (!s.mr) C m (x::xs))=xa0 {s1 with notes:=upB s1.notes (!s1.mr) ((s1.notes (!s1.mr)).set ((m+1)%2) (some ((m+1:Nat):Int)))} (goW (!s1.mr) (doP x.1 C x.2) (m+1) xs):=by
   rw[e0];unfold xa0 at h3⊢;rw[List.foldl_append,h3];rfl
  rw[e2,e0];refine⟨h1.app ?_,g2,g3.trans e1.1,g4.trans e1.2.1⟩;rw[h3];exact⟨hc,fun x=>ht,g1⟩
theorem Okb.tail{n total:Int}{tries:Int}{sum:Int}(h:Okb tx tries size s)(ho:s.mark (!s.mr)=("open":Str))(hn:0≤n∧n≤size)(ht:0≤tries):yw (Okb tx tries size) (.leng (!s.mr) n::(if sum=total then[.cter tries,.mark (!s.mr) "trial"]else[.mark (!s.mr) "bad"])) s:=by
 have ng:s.mark (!s.mr)≠("good":Str):=by rw[ho];decide
 have h1:=h.leng ng hn;refine⟨h,fun _=>h1,?_⟩
 split
 ·have h2:=h1.cter (n:=tries) (fun _=>⟨ht,cD _⟩);have h3:=h2.mark (v:="trial") (fun z=>absurd z (by decide)) (fun _=>⟨ht,cD _⟩) (fun z=>absurd z (by decide));exact⟨h1,fun _=>h2,h2,fun _=>h3,h3⟩
 ·have h3:=h1.mark (v:="bad") (fun z=>absurd z (by decide)) (fun z=>absurd z (by decide)) (fun z=>absurd z (by decide));exact⟨h1,fun _=>h3,h3⟩
theorem Okb.upd{rs:List xp}{first:Nat}{n total tries:Int}(h:Okb tx left size s)(hf:xai s first)(hnt:s.mark (!s.mr)≠("trial":Str))(hn:0≤n∧n≤size)(ht:0≤tries)(hd:(yy rs).length≤600):yw (Okb tx tries size) (xbP s rs first n total tries) s:=by
 have h':Okb tx tries size s:=h.left (fun z=>absurd z hnt);have fin:∀(s1:BdS),s1.mr=s.mr→Okb tx tries size s1→s1.mark (!s1.mr)=("open":Str)→va (s1.notes (!s1.mr)) first→(first≤600)→yw (Okb tx tries size) (goW (!s.mr) (s.cells (!s.mr)) first ((yy rs).drop first)++xlX s rs first n total tries) s1:=fun s1 e1 h1 ho hm h6=>by
  obtain⟨g1,g2,g3,g4⟩:=yw.go ((yy rs).drop first) s1 (s.cells (!s.mr)) first h1 ho hm (by rw[cQ];lia);rw[e1]at g1 g2 g3 g4;refine g1.app ?_;unfold xlX;have ho':s1.mark (!s.mr)=("open":Str):=by rw[←e1];exact ho
  have:=g2.tail (n:=n) (total:=total) (sum:=((xbO s rs first).take n.toNat).sum) (by rw[g3,g4];exact ho') hn ht;rw[g4]at this;exact this
 unfold xbP
 by_cases ho:s.mark (!s.mr)=("open":Str)
 ·rw[if_pos ho,ib];obtain⟨f1,f2,f3⟩:=hf;rw[if_pos ho]at f3;obtain⟨n1,m,m6,n2⟩:=(⟨(h.nt (!s.mr)).1,(h.nt (!s.mr)).2 ho⟩:_∧∃m:Nat,m≤600∧va (s.notes (!s.mr)) m);have hmem:some (m:Int)∈s.notes (!s.mr):=aY n2.2.1;have hmf:(m:Int)∈(s.notes (!s.mr)).filterMap id:=cX.mpr ⟨_,hmem,rfl⟩;obtain⟨k1,k2⟩:=f3.2 (ke hmf);obtain⟨o,ho1,ho2⟩:=cX.mp k1;have ho2:o=some (first:Int):=ho2;have z1:=k2 _ hmf;have z2:=n2.2.2 first (by rw[←ho2];exact ho1);have e:first=m:=by lia
  subst e;exact fin s rfl h' ho n2 m6
 ·rw[if_neg ho];have f0:first=0:=by have:=hf.2.2;rw[if_neg ho]at this;exact this
  subst f0;obtain⟨x,y,hxy⟩:∃x y,s.notes (!s.mr)=[x,y]:=by
   have:=(h.nt (!s.mr)).1
   match hh:s.notes (!s.mr),this with
   |[x,y],_=>exact⟨x,y,rfl⟩
  have a1:∀z,Okb tx tries size {s with notes:=upB s.notes (!s.mr) [z,y]}:=fun z=>h'.note rfl (fun q=>absurd q ho);have a2:∀z,Okb tx tries size {s with notes:=upB s.notes (!s.mr) [some 0,z]}:=fun z=>h'.note rfl (fun q=>absurd q ho);have nt0:va [some 0,some 0] 0:=⟨rfl,rfl,fun v hv=>by
   rcases av.mp hv with z|z
   ·cases z;exact cD _
   ·cases aj.mp z;exact cD _⟩
  have a3:=(a2 (some 0)).mark (v:="open") (fun z=>absurd z (by decide)) (fun z=>absurd z (by decide)) (fun _=>⟨0,by decide,by show va (upB s.notes (!s.mr) [some 0,some 0] (!s.mr)) 0;rw[yp];exact nt0⟩);have u1:∀z,({s with notes:=upB s.notes (!s.mr) ((s.notes (!s.mr)).set 0 z)}:BdS)={s with notes:=upB s.notes (!s.mr) [z,y]}:=fun z=>by rw[hxy];rfl
  have u2:∀z,({s with notes:=upB (upB s.notes (!s.mr) [some 0,y]) (!s.mr) ((upB s.notes (!s.mr) [some 0,y] (!s.mr)).set 1 z)}:BdS)={s with notes:=upB s.notes (!s.mr) [some 0,z]}:=fun z=>by rw[xkQ,yp];rfl
  refine⟨h',fun _=>?_,?_⟩
  ·show Okb tx tries size {s with notes:=upB s.notes (!s.mr) ((s.notes (!s.mr)).set 0 none)};rw[u1];exact a1 _
  have e1:(Wr.note (!s.mr) 0 0).up s={s with notes:=upB s.notes (!s.mr) [some 0,y]}:=u1 (some 0);rw[e1];refine⟨a1 _,fun _=>?_,?_⟩
  ·show Okb tx tries size {s with notes:=upB (upB s.notes (!s.mr) [some 0,y]) (!s.mr) ((upB s.notes (!s.mr) [some 0,y] (!s.mr)).set 1 none)};rw[u2];exact a2 _
  have e2:(Wr.note (!s.mr) 1 0).up {s with notes:=upB s.notes (!s.mr) [some 0,y]}={s with notes:=upB s.notes (!s.mr) [some 0,some 0]}:=u2 (some 0);rw[e2];refine⟨a2 _,fun _=>a3,?_⟩;exact fin _ rfl a3 yp (by show va (upB s.notes (!s.mr) [some 0,some 0] (!s.mr)) 0;rw[yp];exact nt0) (by decide)
theorem Okb.start(h:Okb tx left size s):yw (Okb tx left size) (yo s) s:=by
 unfold yo
 split
 ·rename_i e;obtain⟨t0,t1⟩:=h.tri e
  split
  ·have:=h.mark (v:="bad") (fun z=>absurd z (by decide)) (fun z=>absurd z (by decide)) (fun z=>absurd z (by decide));exact⟨h,fun _=>this,this⟩
  ·rename_i e2;have:=h.cter (n:=s.ct - 1) (fun _=>⟨by lia,by lia⟩);exact⟨h,fun _=>this,this⟩
 ·exact h
theorem Okb.fine(h:Okb tx left size s)(hx:(s.cells (!s.mr)).take (s.len (!s.mr)).toNat∈tx (!s.mr)):yw (Okb tx left size) [.mark (!s.mr) "good",.mrk (!s.mr)] s:=by
 have h1:=h.mark (v:="good") (fun _=>hx) (fun z=>absurd z (by decide)) (fun z=>absurd z (by decide));have h2:=h1.flip yp;exact⟨h,fun _=>h1,h1,fun _=>h2,h2⟩
theorem Okb.back(h:Okb tx left size s)(hg:s.mark (!s.mr)=("good":Str)):yw (Okb tx left size) [.mrk (!s.mr)] s:=⟨h,fun _=>h.flip hg,h.flip hg⟩
theorem Okb.first(h:Okb tx left size s):∃first,xai s first:=by
 by_cases ho:s.mark (!s.mr)=("open":Str)
 ·obtain⟨m,m6,n2⟩:=(h.nt (!s.mr)).2 ho;refine⟨m,(h.nt _).1,by lia,?_⟩;rw[if_pos ho];have hmf:(m:Int)∈(s.notes (!s.mr)).filterMap id:=cX.mpr ⟨_,aY n2.2.1,rfl⟩;refine⟨fun z=>absurd z (ke hmf),fun _=>⟨hmf,fun x hx=>?_⟩⟩;obtain⟨o,ho1,ho2⟩:=cX.mp hx;have ho2:o=some x:=ho2;exact n2.2.2 x (by rw[←ho2];exact ho1)
 ·exact⟨0,(h.nt _).1,by lia,by rw[if_neg ho]⟩
end
end
section
variable {P:ak} {w:World} {K:ag} {mg:Str→Option Value} {base:Heap} {a:Adr}
def yP(s:BdS)(d:Nat)(o n:Int)(rs:List xp)(first:Nat)(total tries:Int):Option (List Wr×Option Bool×V):=match d with
 |0=>some (yo s,some (startB s),.int (bI (startB s)))
 |1=>if s.run=none∨s.mark (!s.mr)=("trial":Str)∨xaN s o n=true then none else some (xbP s rs first n total tries,s.run,.bl (decide (((xbO s rs first).take n.toNat).sum=total)))
 |2=>if s.run=some (!s.mr)∧s.mark (!s.mr)=("trial":Str)then some ([.mark (!s.mr) "good",.mrk (!s.mr)],s.run,.non)else none
 |_=>if s.run≠none∧s.mark (!s.mr)=("good":Str)then some ([.mrk (!s.mr)],none,.non)else none
def xob(r:Option Int)(an:V):V×V:=match r with
 |none=>(an,.non)
 |some c=>(.non,.int c)
def vc(F:FM)(s:BdS):Option (List Wr×Option Bool×V)→(V×V)×BdS
 |none=>((.non,.non),s)
 |some (ys,rb,an)=>(xob (xB F s ys).2 an,(zc rb (xB F s ys)).1)
theorem xb7{F:FM}{s:BdS}{ys:List Wr}{rb:Option Bool}{an:V}(h:(xB F s ys).2=none):vc F s (some (ys,rb,an))=((an,.non),{(xB F s ys).1 with run:=rb}):=by
 show(xob (xB F s ys).2 an,(zc rb (xB F s ys)).1)=_;unfold zc;rw[h];rfl
theorem xew{F:FM}{s:BdS}{ys:List Wr}{rb:Option Bool}{an:V}{c:Int}(h:(xB F s ys).2=some c):vc F s (some (ys,rb,an))=((.non,.int c),{(xB F s ys).1 with run:=none}):=by
 show(xob (xB F s ys).2 an,(zc rb (xB F s ys)).1)=_;unfold zc;rw[h];rfl
structure After(tx:Bool→List (List Int))(left size:Int)(s:BdS)(d:Nat)(tries:Int)(r:(V×V)×BdS):Prop where
 fell:r.1.2= .non∨∃c:Int,r.1.2= .int c∧s.cnt≤c∧c<r.2.cnt∧r.2.run=none
 cnt:s.cnt≤r.2.cnt
 ans:d=0→r.1.1= .non∨∃b:Bool,r.1.1= .int (bI b)∧(b≠s.mr→b= !s.mr∧s.mark (!s.mr)=("trial":Str)∧1≤left∧Okb tx (left - 1) size r.2)
 one:d≠1→Okb tx left size r.2
 upd:d=1→Okb tx (if s.mark (!s.mr)=("trial":Str)then left else tries) size r.2
theorem after{F:FM}{tx:Bool→List (List Int)}{left size:Int}{s:BdS}{d:Nat}{o n total tries:Int}{rs:List xp}{first:Nat}(h:Okb tx left size s)(hf:xai s first)(h0:0≤n)(ht:0≤tries)(hd:(yy rs).length≤600)(hd3:d≤3)
  (hx:d=2→s.run=some (!s.mr)→s.mark (!s.mr)=("trial":Str)→(s.cells (!s.mr)).take (s.len (!s.mr)).toNat∈tx (!s.mr)):After tx left size s d tries (vc F s (yP s d o n rs first total tries)):=by
 have no:yP s d o n rs first total tries=none→d≠0→After tx left size s d tries (vc F s (yP s d o n rs first total tries)):=fun e d0=>by
  rw[e];refine⟨.inl rfl,cD _,fun z=>absurd z d0,fun _=>h,fun _=>?_⟩;show Okb tx _ size s
  split
  ·exact h
  ·rename_i e;exact h.left (fun z=>absurd z e)
 have yes:∀ys rb an,yP s d o n rs first total tries=some (ys,rb,an)→∀left',yw (Okb tx left' size) ys s→
   ((vc F s (some (ys,rb,an))).1.2= .non∨∃c:Int,(vc F s (some (ys,rb,an))).1.2= .int c∧s.cnt≤c∧c<(vc F s (some (ys,rb,an))).2.cnt∧(vc F s (some (ys,rb,an))).2.run=none)∧s.cnt≤(vc F s (some (ys,rb,an))).2.cnt∧Okb tx left' size (vc F s (some (ys,rb,an))).2:=fun ys rb an e left' hs=>by
  have h1:=hs.all (F:=F) Okb.cf;obtain⟨c1,c2⟩:=xjF (F:=F) ys s;cases hc:(xB F s ys).2 with
  |none=>rw[xb7 hc];exact⟨.inl rfl,c1,h1.setrun _⟩
  |some c=>rw[xew hc];exact⟨.inr ⟨c,rfl,(c2 c hc).1,(c2 c hc).2,rfl⟩,c1,h1.setrun _⟩
 have hdc:d=0∨d=1∨d=2∨d=3:=by lia
 rcases hdc with rfl|rfl|rfl|rfl
 ·obtain⟨y1,y2,y3⟩:=yes _ _ _ rfl left h.start;refine⟨y1,y2,fun _=>?_,fun _=>y3,(fun z=>by cases z)⟩;show(vc F s (some (yo s,some (startB s),.int (bI (startB s))))).1.1= .non∨_;cases hc:(xB F s (yo s)).2 with
  |some c=>left;rw[xew hc]
  |none=>
   right
   refine⟨startB s,by show(vc F s (some (yo s,some (startB s),.int (bI (startB s))))).1.1=_;rw[xb7 hc],fun hb=>?_⟩;have e:s.mark (!s.mr)=("trial":Str)∧s.ct≠0:=by
    refine Decidable.byContradiction fun z=>hb ?_;unfold startB;rw[if_neg z]
   obtain⟨t0,t1⟩:=h.tri e.1;have eb:startB s= !s.mr:=by unfold startB;rw[if_pos e]
   have ew:yo s=[.cter (s.ct - 1)]:=by unfold yo;rw[if_pos e.1,if_neg e.2]
   refine⟨eb,e.1,by lia,?_⟩;show Okb tx (left - 1) size (vc F s (some (yo s,some (startB s),.int (bI (startB s))))).2;rw[xb7 hc];refine Okb.setrun _ ?_;rw[ew]at hc⊢;cases hfo:F.fo s.fl s.cnt with
   |some z=>rw[ya (by rw[hfo];simp)]at hc;cases hc
   |none=>
    rw[ym hfo,zf hfo];refine Okb.cf _ _ _ ?_;have h1:Okb tx left size ((Wr.cter (s.ct - 1)).up s):=h.cter (n:=s.ct - 1) (fun _=>⟨by lia,by lia⟩);exact h1.left (fun _=>by show s.ct - 1≤left - 1;lia)
 ·by_cases hc:s.run=none∨s.mark (!s.mr)=("trial":Str)∨xaN s o n=true
  ·exact no (if_pos hc) (by decide)
  ·have hpl:yP s 1 o n rs first total tries=some (xbP s rs first n total tries,s.run,.bl (decide (((xbO s rs first).take n.toNat).sum=total))):=if_neg hc;have n1:s.mark (!s.mr)≠("trial":Str):=fun z=>hc (.inr (.inl z));have n2:xaN s o n=false:=by
    cases e:xaN s o n with
    |true=>exact absurd (.inr (.inr e)) hc
    |false=>rfl
   have hns:n≤size:=by
    unfold xaN at n2;have:=(iV.mp n2).1;have:=of_decide_eq_false this;have:=h.sz;lia
   obtain⟨y1,y2,y3⟩:=yes _ _ _ hpl tries (h.upd hf n1 ⟨h0,hns⟩ ht hd);rw[hpl];refine⟨y1,y2,(fun z=>by cases z),fun z=>absurd rfl z,fun _=>?_⟩;rw[if_neg n1];exact y3
 ·by_cases hc:s.run=some (!s.mr)∧s.mark (!s.mr)=("trial":Str)
  ·have hpl:yP s 2 o n rs first total tries=some ([.mark (!s.mr) "good",.mrk (!s.mr)],s.run,.non):=if_pos hc;obtain⟨y1,y2,y3⟩:=yes _ _ _ hpl left (h.fine (hx rfl hc.1 hc.2));rw[hpl];exact⟨y1,y2,(fun z=>by cases z),fun _=>y3,(fun z=>by cases z)⟩
  ·exact no (if_neg hc) (by decide)
 ·by_cases hc:s.run≠none∧s.mark (!s.mr)=("good":Str)
  ·have hpl:yP s 3 o n rs first total tries=some ([.mrk (!s.mr)],none,.non):=if_pos hc;obtain⟨y1,y2,y3⟩:=yes _ _ _ hpl left (h.back hc.2);rw[hpl];exact⟨y1,y2,(fun z=>by cases z),fun _=>y3,(fun z=>by cases z)⟩
  ·exact no (if_neg hc) (by decide)
end
section
variable {P:ak} {w:World} {K:ag} {mg:Str→Option Value} {base:Heap} {a:Adr}
def vd(K:ag)(H:Hp)(p:Addr):Prop:=∃(old o n:Int) (rs:List xp),0≤old∧old≤60∧NP old o n rs∧zG K H p o n rs
theorem vd.same{H H':Hp}{p:Addr}(h:vd K H p)(e:xf H H'):vd K H' p:=by
 obtain⟨old,o,n,rs,h1,h2,h3,h4⟩:=h;exact⟨old,o,n,rs,h1,h2,h3,h4.same e⟩
theorem zG.kp{L:List Addr}{H H':Hp}{p:Addr}{o n:Int}{rs:List xp}(h:zG K H p o n rs)(k:Kp L H H')(mu:MuL H L):zG K H' p o n rs:=by
 obtain⟨tt,us,h1,h2,h3⟩:=h;refine⟨tt,us,zX k mu h1,zX k mu h2,L2.Paired.imp' (fun t r z=>?_) h3⟩;cases r with
 |take to st c=>exact zX k mu z
 |put to sg=>obtain⟨u,q1,q2⟩:=z;exact⟨u,zX k mu q1,zX k mu q2⟩
theorem vd.kp{L:List Addr}{H H':Hp}{p:Addr}(h:vd K H p)(k:Kp L H H')(mu:MuL H L):vd K H' p:=by
 obtain⟨old,o,n,rs,h1,h2,h3,h4⟩:=h;exact⟨old,o,n,rs,h1,h2,h3,h4.kp k mu⟩
theorem zG.gt{old:Int}{H:Hp}{p:Addr}{o n:Int}{rs:List xp}(h:zG K H p o n rs)(hN:NP old o n rs)(h0:0≤old)(h1:old≤100):xet K H p o n rs:=by
 obtain⟨tt,us,q1,q2,q3⟩:=h;have hl:=q3.length;have h3:=(hN.fine h0).2.2.2.2.1;refine⟨tt,us,q1,q2,?_,by lia⟩;have:∀{us:List Addr} {rs:List xp},Paired (TupAt K H) us rs→(∀r∈rs,r.ok∧Sm r)→Paired (GT K H) us rs:=by
  intro us rs h
  induction h with
  |nil=>intro _;exact .nil
  |cons z t ih=>exact fun k=>.cons ⟨z,k _ (ba ..)⟩ (ih fun r hr=>k r (aS _ hr))
 exact this q3 (fun r hr=>⟨(hN.ok h0 r hr).1,hN.sm h1 r hr⟩)
def xhr(o n:Int)(rs:List xp):eK:=.tuple [.int o,.int n,.tuple (rs.map xp.dat)]
theorem zG.rp{H:Hp}{p:Addr}{o n:Int}{rs:List xp}(h:zG K H p o n rs):Rp K H (.ref p) (xhr o n rs):=by
 obtain⟨t,ts,h1,h2,h3⟩:=h;exact .tup (SqT.of h1) (.cons (.int _) (.cons (.int _) (.cons (.tup (SqT.of h2) (xkF h3)) .nil)))
theorem xoc(o n:Int)(rs:List xp):b9 (xhr o n rs)=true∧dE (xhr o n rs)≤10:=by
 have h1:=xjc rs;have h2:=xgv rs;refine⟨by simp[xhr,b9,bt,h1],?_⟩;simp[xhr,dE,bY];lia
theorem xk0{H:Hp}:∀{ps:List Addr},(∀p∈ps,vd K H p)→∃ds,Rps K H (ps.map V.ref) ds∧ds.length=ps.length∧bt ds=true∧bY ds≤10
 |[],_=>⟨[],.nil,rfl,by simp[bt],by simp[bY]⟩
 |p::ps,h=>by
  obtain⟨ds,h1,h2,h3,h4⟩:=xk0 (ps:=ps) (fun q z=>h q (aS _ z));obtain⟨old,o,n,rs,_,_,_,hp⟩:=h p (ba ..);obtain⟨c1,c2⟩:=xoc o n rs;refine⟨xhr o n rs::ds,.cons hp.rp h1,by simp[h2],by simp[bt,c1,h3],?_⟩;simp only[bY];lia
theorem xpU{ds:List eK}(h1:bt ds=true)(h2:bY ds≤10):dC (.list ds)=true:=by
 unfold dC;have e1:b9 (.list ds)=true:=by simp[b9,h1]
 have e2:dE (.list ds)≤64:=by simp[dE];lia
 rw[e1,decide_eq_true e2];rfl
def xnc(K:ag)(a:Adr):Sp:=fun vs H Q _=>∃(F:FM) (B:BA) (s:BdS) (pl:Addr) (ps:List Addr) (c:Int),vs=[.ref B.bd,.ref pl,.int c]∧xx a F H B s∧H pl=some (.lst (ps.map V.ref))∧ps.length≤3∧(∀p∈ps,vd K H p)∧(∀b,0≤s.len b∧s.len b≤60)∧∀p H',xf H H'→vd K H' p→Q (.ref p) H'
theorem xod(T:Txt K mg a):xy P w K mg base CX0 4 a.q3P a.xg8 ["_law_board","_law_papers","_law_cell"] (xnc K a):=by
 refine T.q3W.ok xi8 (fun vs H Q E h=>?_) (fun cdv A outer s H vs Q E hr h=>?_)
 ·obtain⟨F,B,s,pl,ps,c,rfl,_⟩:=h;rfl
 ·obtain⟨F,B,st,pl,ps,c,rfl,hB,hpl,hps,hpo,hln,q⟩:=h;have nd:=xi8.nd;refine⟨_,(xg (xan (xQ (cv 0) T.q0a T.q1a (yW T) (hr.mono (by decide)) T.zo .nil xt) (jm rfl (xT (xK (i:=3) nd rfl (aA rfl)) (xT (xK (i:=4) nd rfl (aA rfl)) (xT (xK (i:=5) nd rfl (aA rfl)) (xT (xK (i:=6) nd rfl (aA rfl)) (xT (xK (i:=7) nd rfl (aA rfl)) vf)))))))
  (xg (xM (PW.pt (vJ (xJ (xot hr.units) (cv 1) (ye xc)) (jQ (xJ zL (xu yq (xD (zp T) (hr.mono (by decide)) (by rfl) T.zW T.q1j.kp T.zV .nil xt (xa (cv 2) (xa xj xc))) xj) xj)))) (xk (xv (xA xV (cv 1) (xu yq (xD (zp T) (hr.mono (by decide)) (by rfl) T.zW T.q1j.kp T.zV .nil xt (xa (cv 2) (xa xj xc))) (xN xU (by rfl) T.q12 yK (xa (cv 1) xc))) (fun _ _=>rfl)))) xC)
  (xk (xv (xD (xjA T) (hr.mono (by decide)) (by rfl) T.xj8 T.q2C.kp T.xj7 .nil xt (xa (xu xbS (xA xV (cv 5) (xu yz xj (cv 3)) (fun _ _=>rfl)) (xZ xht (by rfl) T.q4P xiG (xa (zP xbT (xA xV (cv 4) (xu yz xj (cv 3)) (fun _ _=>rfl)) xP) xc))) (xa (cv 2) xc))))))),?_⟩
  walk_at"w";refine⟨B.bd,B.dx,_,rfl,hB.bd,rfl,?_⟩;walk_at"w";refine⟨F,B,st,rfl,hB,fun tt m l H1 s1 hm hl nml e1 e2 e3=>?_⟩;walk_at"w";refine⟨tt,_,rfl,SqT.of e1,rfl,?_⟩;walk_at"w";refine⟨_,_,rfl,?_⟩;walk_at"w";refine⟨_,_,rfl,?_⟩;walk_at"w";refine⟨_,_,rfl,?_⟩;walk_at"w";refine⟨_,_,rfl,?_⟩;walk_at"w";refine⟨_,_,rfl,?_⟩;walk_at"w";refine a6 rfl ?_;walk_at"w";walk_at"ss";intro e0 he0;generalize hUe0:upd H1 e0 _=H2;have sH2:=xf.of_eq he0 hUe0;have ee0:=xq hUe0;clear hUe0;walk_at"w";have s2:=s1.trans sH2;have hpo2:∀p∈ps,vd K H2 p:=fun p z=>(hpo p z).same s2;obtain⟨ds,d1,d2,d3,d4⟩:=xk0 hpo2;refine⟨.list ds,.list [],.lst (SqL.of (s2.at hpl)) d1,.lst (SqL.of ee0) .nil,xpU d3 d4,by decide+kernel,?_⟩;have heq:eE (.list ds) (.list [])=decide (ps=[]):=by
   cases ds with
   |nil=>rw[List.eq_nil_of_length_eq_zero (show ps.length=0 from d2.symm)];decide+kernel
   |cons d r=>
    rw[decide_eq_false (fun z=>by rw[z]at d2;cases d2)];simp[eE,PyData.eqvAll]
  rw[heq];walk_at"w";have atM:atI [V.str (st.mark false),V.str (st.mark true)] (1 - bI st.mr)=some (.str (st.mark (!st.mr))):=by cases st.mr<;> rfl
  have atL:atI [V.int (st.len false),V.int (st.len true)] (1 - bI st.mr)=some (.int (st.len (!st.mr))):=by cases st.mr<;> rfl
  refine⟨fun b=>?_,fun b=>?_⟩
  ·have hne:ps≠[]:=fun z=>by rw[z]at b;revert b;decide
   walk_at"w";refine⟨c,21,rfl,?_⟩;walk_at"w";walk_at"ss";refine⟨fun b2=>?_,fun b2=>?_⟩
   ·walk_at"w";refine⟨c,22,rfl,?_⟩;walk_at"w";refine⟨pl,_,rfl,.inl (SqL.of (s2.at hpl)),?_⟩;rw[ao];walk_at"w";have hlp:0<ps.length:=fU.mpr hne;refine a6 (show(0:Int)<(ps.length:Int)by lia) ?_;walk_at"w";have j0:=cJ (mixed c 22) (b:=(ps.length:Int)) (by lia);have j1:=cC (mixed c 22) (b:=(ps.length:Int)) (by lia);obtain⟨p,hp⟩:∃p,ps[(mixed c 22%(ps.length:Int)).toNat]? =some p:=⟨_,aK (by lia)⟩;have hat:atI (ps.map V.ref) (mixed c 22%(ps.length:Int))=some (.ref p):=(by have:=xeB (xs:=ps.map V.ref) (j:=(mixed c 22%(ps.length:Int)).toNat) (v:=.ref p) (by rw[aD,hp];rfl);rwa [cM j0]at this);refine⟨pl,_,_,.ref p,rfl,rfl,SqL.of (s2.at hpl),hat,?_⟩;exact q p H2 s2 (hpo2 p (aY hp))
   ·walk_at"w";refine⟨l,_,_,.int (st.len (!st.mr)),rfl,rfl,SqL.of (sH2.at e3),atL,?_⟩;walk_at"w";refine⟨m,_,_,.str (st.mark (!st.mr)),rfl,rfl,SqL.of (sH2.at e2),atM,?_⟩;walk_at"w";walk_at"ss";refine .inr ⟨decide (st.mark (!st.mr)=("good":Str)),rfl,?_⟩;walk_at"w";have hlo:=hln (!st.mr);generalize hg:(if decide (st.mark (!st.mr)=("good":Str))=true then(1:Int)else 0)=g;have hg2:g=0∨g=1:=by rw[←hg];split<;> simp
    clear hg;generalize st.len (!st.mr)=L at hlo;refine a6 (.inl ⟨by lia,by lia⟩) ?_;walk_at"w";have hLg:0≤L*g∧L*g≤60:=by rcases hg2 with rfl|rfl<;> lia
    refine⟨L*g,c,rfl,hLg.1,by lia,fun p o n rs H3 s3 hp hN=>?_⟩;exact q p H3 (s2.trans s3) ⟨_,o,n,rs,hLg.1,hLg.2,hN,hp⟩
  ·walk_at"w";refine⟨by walk_at"no",fun _=>?_⟩;walk_at"w";refine⟨l,_,_,.int (st.len (!st.mr)),rfl,rfl,SqL.of (sH2.at e3),atL,?_⟩;walk_at"w";refine⟨m,_,_,.str (st.mark (!st.mr)),rfl,rfl,SqL.of (sH2.at e2),atM,?_⟩;walk_at"w";walk_at"ss";refine .inr ⟨decide (st.mark (!st.mr)=("good":Str)),rfl,?_⟩;walk_at"w";have hlo:=hln (!st.mr);generalize hg:(if decide (st.mark (!st.mr)=("good":Str))=true then(1:Int)else 0)=g;have hg2:g=0∨g=1:=by rw[←hg];split<;> simp
   clear hg;generalize st.len (!st.mr)=L at hlo;refine a6 (.inl ⟨by lia,by lia⟩) ?_;walk_at"w";have hLg:0≤L*g∧L*g≤60:=by rcases hg2 with rfl|rfl<;> lia
   refine⟨L*g,c,rfl,hLg.1,by lia,fun p o n rs H3 s3 hp hN=>?_⟩;exact q p H3 (s2.trans s3) ⟨_,o,n,rs,hLg.1,hLg.2,hN,hp⟩
end
section
variable {P:ak} {w:World} {K:ag} {mg:Str→Option Value} {base:Heap} {a:Adr}
def xnd(K:ag)(a:Adr):Sp:=fun vs H Q _=>∃(F:FM) (B:BA) (s:BdS) (p:Addr) (d:Int),vs=[.ref B.bd,.ref p,.int d]∧xx a F H B s∧vd K H p∧(∀b,0≤s.len b∧s.len b≤60)∧∀(v:Int) H',xf H H'→Q (.int v) H'
theorem xoe(T:Txt K mg a):xy P w K mg base CX0 3 a.q3Q a.xg9 ["_law_board","_law_paper_here","_law_draw"] (xnd K a):=by
 refine T.q3X.ok xi9 (fun vs H Q E h=>?_) (fun cdv A outer s H vs Q E hr h=>?_)
 ·obtain⟨F,B,s,p,d,rfl,_⟩:=h;rfl
 ·obtain⟨F,B,st,p,d,rfl,hB,hpo,hln,q⟩:=h;have nd:=xi9.nd;refine⟨_,(xg (xan (xQ (cv 0) T.q0a T.q1a (yW T) (hr.mono (by decide)) T.zo .nil xt) (jm rfl (xT (xK (i:=3) nd rfl (aA rfl)) (xT (xK (i:=4) nd rfl (aA rfl)) (xT (xK (i:=5) nd rfl (aA rfl)) (xT (xK (i:=6) nd rfl (aA rfl)) (xT (xK (i:=7) nd rfl (aA rfl)) vf)))))))
  (xg (xE (i:=8) nd rfl (aA rfl) (xu xiz (zd (cv 0) T.q0a T.q2k (vU T) (hr.mono (by decide)) T.jG .nil xt (xa (xu yz xj (cv 3)) xc)) (xu xfQ (ye (xa xj xc)) xj)))
  (xk (xv (xu yl (xN (xhL rfl) (by rfl) T.q5f xmr (xa (jV (xaq (cap:=[]) (ys:=[]) rfl rfl rfl rfl rfl trivial (by decide+kernel)) rfl (zx (xD (xn8 T) (hr.mono (by decide)) (by rfl) T.xpj T.q3V.kp T.xpi .nil xt (xa (cv 1) (xa (cv 8) xc)))) (fun _ _ _ _=>(cv 0)) (fun _ _ _ _=>jU)) xc)) (xZ xht (by rfl) T.q4P xiG (xa (zP zL (xu yq (cv 2) xj) xj) xc))))))),?_⟩
  walk_at"w";refine⟨B.bd,B.dx,_,rfl,hB.bd,rfl,?_⟩;walk_at"w";refine⟨F,B,st,rfl,hB,fun tt m l H1 s1 hm hl nml e1 e2 e3=>?_⟩;walk_at"w";refine⟨tt,_,rfl,SqT.of e1,rfl,?_⟩;walk_at"w";refine⟨_,_,rfl,?_⟩;walk_at"w";refine⟨_,_,rfl,?_⟩;walk_at"w";refine⟨_,_,rfl,?_⟩;walk_at"w";refine⟨_,_,rfl,?_⟩;walk_at"w";refine⟨_,_,rfl,?_⟩;walk_at"w";refine a6 rfl ?_;walk_at"w";have hB1:=hB.same s1;refine⟨B.bd,B.dx,_,rfl,hB1.bd,rfl,?_⟩;walk_at"w";walk_at"ss";refine⟨F,B,st,!st.mr,(by cases st.mr<;> rfl),hB1,(hln _).1,fun t H2 s2 ht et=>?_⟩;walk_at"w";walk_at"ss";intro z0 hz0;generalize hUz0:upd H2 z0 _=H3;have sH3:=xf.of_eq hz0 hUz0;have ez0:=xq hUz0;clear hUz0;walk_at"w";refine⟨z0,99,_,rfl,rfl,ez0,by decide,by decide,(by show 1*_≤_;rw[aZ];decide),?_⟩;intro z1 hz1;generalize hUz1:upd H3 z1 _=H4;have sH4:=xf.of_eq hz1 hUz1;have ez1:=xq hUz1;clear hUz1;walk_at"w";have tl:((st.cells (!st.mr)).take (st.len (!st.mr)).toNat).length≤100:=by have:=hln (!st.mr);rw[bQ];lia
  refine⟨t,z1,_,_,rfl,rfl,(sH3.trans sH4).at et,ez1,(by simp[aZ];simp at tl;lia),?_⟩;intro el hel;generalize hUel:upd H4 el _=H5;have sH5:=xf.of_eq hel hUel;have eel:=xq hUel;clear hUel;walk_at"w";obtain⟨old,o,n,rs,h0,h1,hN,hp⟩:=hpo;have s15:=s1.trans (s2.trans (sH3.trans (sH4.trans sH5)));obtain⟨rs0,hperm,htl⟩:=hN.tl;generalize hes:((st.cells (!st.mr)).take (st.len (!st.mr)).toNat++aQ 99 0:List Int)=es;have hel:H5 el=some (.lst (es.map V.int)):=by rw[eel,←hes,bJ];simp
  have hesl:old≤(es.length:Int):=by rw[←hes,aW,bZ];lia
  obtain⟨nw,n1,n2,n3,_⟩:=xl1 (es:=es) hperm (htl.mono hesl) rfl;have n8:=(hN.fine h0).2.2.2.1;refine⟨p,el,o,rs,es,nw,rfl,by rw[n1];exact hp.same s15,hel,n2,n3,by lia,fun ml H6 s6 hml eml=>?_⟩;walk_at"w";refine⟨ml,rfl,⟨_,SqL.of eml⟩,?_⟩;refine xmu (fun v=>v) (SqL.of eml) (by rw[ao,aZ];lia) (fun v G hv sG R hR=>?_) (fun D G hD sG eD=>?_)
  ·walk_at"w";exact hR G (xf.refl _)
  rw[List.map_id']at eD;walk_at"w";refine⟨D,nw,rfl,SqL.of eD,?_⟩;walk_at"w";walk_at"ss";refine .inr ⟨decide (d%6=0),rfl,?_⟩;walk_at"w";exact q _ G (s15.trans (s6.trans sG))
end
section
variable {P:ak} {w:World} {K:ag} {mg:Str→Option Value} {base:Heap} {a:Adr}
structure jN(H:Hp)(L:List Addr)(x:Addr)(ta:Bool→Addr)(as:Bool→List Addr)(tx:Bool→List (List Int)):Prop where
 top:H x=some (.lst [.ref (ta false),.ref (ta true)])
 bank:∀b,H (ta b)=some (.lst ((as b).map V.ref))
 el:∀b,Paired (fun y xs=>H y=some (.lst (xs.map V.int))) (as b) (tx b)
 few:∀b,(as b).length≤100
 off:x∉L∧∀b,ta b∉L∧x≠ta b∧∀y∈as b,y∉L
 nab:ta false≠ta true
 ne:∀b c,∀y∈as b,y≠ta c
theorem xam{α β:Type}{R S:α→β→Prop}:∀{l₁:List α} {l₂:List β},Paired R l₁ l₂→(∀x∈l₁,∀y,R x y→S x y)→Paired S l₁ l₂
 |_,_,.nil,_=>.nil
 |_,_,.cons r t,h=>.cons (h _ (ba ..) _ r) (xam t fun x hx=>h x (aS _ hx))
theorem jN.kp{H H':Hp}{L:List Addr}{x:Addr}{ta:Bool→Addr}{as:Bool→List Addr}{tx:Bool→List (List Int)}(h:jN H L x ta as tx)(k:Kp L H H'):jN H' L x ta as tx:=
 ⟨k _ _ h.top h.off.1,fun b=>k _ _ (h.bank b) (h.off.2 b).1,fun b=>xam (h.el b) fun y hy xs z=>k _ _ z ((h.off.2 b).2.2 y hy),h.few,h.off,h.nab,h.ne⟩
theorem jN.same{H H':Hp}{L:List Addr}{x:Addr}{ta:Bool→Addr}{as:Bool→List Addr}{tx:Bool→List (List Int)}(h:jN H L x ta as tx)(k:xf H H'):jN H' L x ta as tx:=h.kp (Kp.of k)
theorem jN.add{H:Hp}{L:List Addr}{x:Addr}{ta:Bool→Addr}{as:Bool→List Addr}{tx:Bool→List (List Int)}(h:jN H L x ta as tx){b:Bool}{y:Addr}{xs:List Int}(hy:H y=some (.lst (xs.map V.int)))(hf:(as b).length≤99)(hn:y∉L)(hne:∀c,y≠ta c):
  jN (upd H (ta b) (.lst ((as b).map V.ref++[.ref y]))) L x ta (upB as b (as b++[y])) (upB tx b (tx b++[xs])):=by
 have kp:∀{z:Addr} {u:HO},H z=some u→z≠ta b→upd H (ta b) (.lst ((as b).map V.ref++[.ref y])) z=some u:=fun e n=>by rw[xl n];exact e
 have nbc:∀c d:Bool,c≠d→ta c≠ta d:=fun c d n=>by
  cases c<;> cases d<;> first|exact absurd rfl n|exact h.nab|exact h.nab.symm
 refine⟨kp h.top (h.off.2 b).2.1,fun c=>?_,fun c=>?_,fun c=>?_,⟨h.off.1,fun c=>⟨(h.off.2 c).1,(h.off.2 c).2.1,?_⟩⟩,h.nab,fun c d=>?_⟩
 ·by_cases e:c=b
  ·subst e;rw[xm,yp,bJ];rfl
  ·rw[zH e];exact kp (h.bank c) (nbc _ _ e)
 ·by_cases e:c=b
  ·subst e;rw[yp,yp];exact vM (xam (h.el c) fun z hz xs e=>kp e (h.ne c c z hz)) (kp hy (hne c))
  ·rw[zH e,zH e];exact xam (h.el c) fun z hz xs e=>kp e (h.ne c b z hz)
 ·by_cases e:c=b
  ·subst e;rw[yp,aW];simp;lia
  ·rw[zH e];exact h.few c
 ·by_cases e:c=b
  ·subst e;rw[yp];intro z hz;rcases a7.mp hz with hz|hz
   ·exact(h.off.2 c).2.2 z hz
   ·rw[aj.mp hz];exact hn
  ·rw[zH e];exact(h.off.2 c).2.2
 ·by_cases e:c=b
  ·subst e;rw[yp];intro z hz;rcases a7.mp hz with hz|hz
   ·exact h.ne c d z hz
   ·rw[aj.mp hz];exact hne d
  ·rw[zH e];exact h.ne c d
def txD(tx:List (List Int)):List eK:=tx.map fun xs=>.list (xs.map dU)
theorem xjH{H:Hp}:∀{as:List Addr} {tx:List (List Int)},Paired (fun y xs=>H y=some (.lst (xs.map V.int))) as tx→Rps K H (as.map V.ref) (txD tx)
 |_,_,.nil=>.nil
 |_,_,.cons r t=>.cons (.ints (SqL.of r)) (xjH t)
theorem xk1:∀tx:List (List Int),bt (txD tx)=true
 |[]=>by simp[txD,bt]
 |x::r=>by
  have h1:=xk1 r;have h2:b9 (.list (x.map dU))=true:=by simp[b9,W.ke_canLayAll0 x]
  unfold txD at h1⊢;simp only[bq,bt,h2,h1,Bool.and_true]
theorem xpV{tx:List (List Int)}{ys:List Int}(h:ys∈tx):((txD tx).any fun z=>eE z (.list (ys.map dU)))=true:=by
 rw[List.any_eq_true];refine⟨_,cY.mpr ⟨ys,h,rfl⟩,?_⟩;have e:eE (.list (ys.map dU)) (.list (ys.map dU))=decide (ys=ys):=W.ked_eqvAll ys ys;rw[e];exact decide_eq_true rfl
def xne(a:Adr):Sp:=fun vs H Q _=>∃(F:FM) (B:BA) (s:BdS) (x:Addr) (ta:Bool→Addr) (as:Bool→List Addr) (tx:Bool→List (List Int)) (left size:Int),vs=[.ref B.bd,.ref x]∧xx a F H B s∧Okb tx left size s∧jN H (BF F B) x ta as tx∧∀H',xf H H'→Q (.bl true) H'
theorem xof(T:Txt K mg a):xy P w K mg base CX0 3 a.q3R a.xha ["_law_board","_law_texts"] (xne a):=by
 refine T.q3Y.ok xja (fun vs H Q E h=>?_) (fun cdv A outer s H vs Q E hr h=>?_)
 ·obtain⟨F,B,s,x,ta,as,tx,left,size,rfl,_⟩:=h;rfl
 ·obtain⟨F,B,st,x,ta,as,tx,left,size,rfl,hB,hO,hX,q⟩:=h;have nd:=xja.nd;refine⟨_,(xg (xan (xQ (cv 0) T.q0a T.q1a (yW T) (hr.mono (by decide)) T.zo .nil xt) (jm rfl (xT (xK (i:=2) nd rfl (aA rfl)) (xT (xK (i:=3) nd rfl (aA rfl)) (xT (xK (i:=4) nd rfl (aA rfl)) (xT (xK (i:=5) nd rfl (aA rfl)) (xT (xK (i:=6) nd rfl (aA rfl)) vf)))))))
  (xk (xv (zR (zP xbT (xA xV (cv 3) (cv 2) (fun _ _=>rfl)) xP) (vI (zP (xqJ hr.units65) (zd (cv 0) T.q0a T.q2k (vU T) (hr.mono (by decide)) T.jG .nil xt (xa (cv 2) xc)) (xA xV (cv 1) (cv 2) (fun _ _=>rfl)) (by rfl))))))),?_⟩
  walk_at"w";refine⟨B.bd,B.dx,_,rfl,hB.bd,rfl,?_⟩;walk_at"w";refine⟨F,B,st,rfl,hB,fun tt m l H1 s1 hm hl nml e1 e2 e3=>?_⟩;walk_at"w";refine⟨tt,_,rfl,SqT.of e1,rfl,?_⟩;walk_at"w";refine⟨_,_,rfl,?_⟩;walk_at"w";refine⟨_,_,rfl,?_⟩;walk_at"w";refine⟨_,_,rfl,?_⟩;walk_at"w";refine⟨_,_,rfl,?_⟩;walk_at"w";refine⟨_,_,rfl,?_⟩;walk_at"w";refine a6 rfl ?_;walk_at"w";have hm2:atI [V.str (st.mark false),V.str (st.mark true)] (bI st.mr)=some (.str (st.mark st.mr)):=by cases st.mr<;> rfl
  refine⟨m,_,_,.str (st.mark st.mr),rfl,rfl,SqL.of e2,hm2,?_⟩;rw[hO.mg];walk_at"w";refine⟨fun _=>?_,by walk_at"no"⟩;walk_at"w";have hB1:=hB.same s1;refine⟨B.bd,B.dx,_,rfl,hB1.bd,rfl,?_⟩;walk_at"w";refine⟨F,B,st,st.mr,rfl,hB1,(hO.ln _).1,fun y H2 s2 hy ey=>?_⟩;walk_at"w";have hX2:=hX.same (s1.trans s2);have atT:atI [V.ref (ta false),V.ref (ta true)] (bI st.mr)=some (.ref (ta st.mr)):=by cases st.mr<;> rfl
  refine⟨x,_,_,.ref (ta st.mr),rfl,rfl,SqL.of hX2.top,atT,?_⟩;refine⟨_,txD (tx st.mr),.ints (SqL.of ey),.lst (SqL.of (hX2.bank _)) (xjH (hX2.el _)),W.ke_shaped_ints _,xk1 _,?_⟩;rw[xpV (hO.good _ hO.mg)];exact q H2 (s1.trans s2)
end
section
variable {P:ak} {w:World} {K:ag} {mg:Str→Option Value} {base:Heap} {a:Adr}
theorem xgO(T:Txt K mg a):xy P w K mg base (CXE P w) 8 a.q09 a.vS ["self"] (xju P w K mg base a):=(xhm T).toX
inductive xk2(P:ak)(w:World)(K:ag)(mg:Str→Option Value)(base:Heap)(a:Adr)(vs:List V)(H:Hp)(Q:VK):Prop
 |mk (F:FM) (B:BA) (s:BdS) (p:Addr) (o n:Int) (rs:List xp) (first:Nat) (d:Nat) (total tries:Int):vs=[.ref B.bd,.int d,.ref p,.int total,.int tries]→um P w K mg base F→xx a F H B s→Tbs H→PJ K H p o n rs→jF rs n=none→xai s first→xet K H p o n rs→(max o n≤s.size→∀x∈yy rs,xag (s.cells (!s.mr)).length x)→(s.cells (!s.mr)).length=s.size→d≤3→
  (∀(t:Addr) (H':Hp),Kp (BF F B) H H'→xx a F H' B (vc F s (yP s d o n rs first total tries)).2→H' t=some (.tup [(vc F s (yP s d o n rs first total tries)).1.1,(vc F s (yP s d o n rs first total tries)).1.2])→Q (.ref t) H')→xk2 P w K mg base a vs H Q
def xpW(P:ak)(w:World)(K:ag)(mg:Str→Option Value)(base:Heap)(a:Adr):Sp:=fun vs H Q _=>xk2 P w K mg base a vs H Q
theorem xpX(T:Txt K mg a):xy P w K mg base CX0 13 a.q4m a.xiU ["_law_board","_law_deed_here","_law_paper_here","_law_total_here","_law_tries"] (xpW P w K mg base a):=by
 refine T.q4n.ok xkE (fun vs H Q E h=>?_) (fun cdv A outer s H vs Q E hr h=>?_)
 ·obtain⟨F,B,s,p,o,n,rs,first,d,total,tries,rfl,_⟩:=h;rfl
 ·obtain⟨F,B,st,p,o,n,rs,first,d,total,tries,rfl,hF,hB,hT,hJ,hj,hfi,hpg,hpo,hcl,hd3,q⟩:=h;have nd:=xkE.nd;refine⟨_,(xg (xE (i:=5) nd rfl (aA rfl) zg)
  (xg (xE (i:=6) nd rfl (aA rfl) zg)
  (xg (xlE (i:=7) ⟨rfl,rfl,rfl⟩ T.q4u (by rfl) T.xdd T.q4q (by rfl) T.xka nd rfl rfl (fun _ _=>(xg (yY (xM (xJ zL (cv 1) xj) (xk (xE (i:=5) nd rfl (aA rfl) (jh ⟨rfl,rfl,rfl⟩ (cv 0) T.q0a T.q3Z (xgO (P:=P) (w:=w) (base:=base) T) (hr.mono (by decide)) T.xh9 .nil))) xC))
  (xg (yY (xM (xJ zL (cv 1) xj) (xk (xE (i:=5) nd rfl (aA rfl) (xbi ⟨rfl,rfl,rfl⟩ (cv 0) T.q0a T.q3I (xgM (P:=P) (w:=w) (base:=base) T) (hr.mono (by decide)) T.xhf .nil (xa (cv 2) (xa (cv 3) (xa (cv 4) xc)))))) xC))
  (xg (yY (xM (xJ zL (cv 1) xj) (xk (xO (jh ⟨rfl,rfl,rfl⟩ (cv 0) T.q0a T.q4e (xim (P:=P) (w:=w) (base:=base) T) (hr.mono (by decide)) T.xi2 .nil))) xC))
  (xk (xM (xJ zL (cv 1) xj) (xk (xO (jh ⟨rfl,rfl,rfl⟩ (cv 0) T.q0a T.q3A (xfG (P:=P) (w:=w) (base:=base) T) (hr.mono (by decide)) T.xgo .nil))) xC)))))) (fun _ _ _ _ ep=>(xk (xE (i:=6) nd rfl (aA rfl) (xkz (K:=K) rfl ep (by exact fun _ z=>aR _ z) (cv 7) rfl)))) (fun _ _ _=>(xk (xE (i:=5) nd rfl (aA rfl) zg))))
  (xk (xv (yX (xa (cv 5) (xa (cv 6) xc)))))))),?_⟩
  walk_at"w";have no:yP st d o n rs first total tries=none→∀(t:Addr) (G:Hp),xf H G→G t=some (.tup [.non,.non])→Q (.ref t) G:=fun e t G sG et=>by
   refine q t G (Kp.of sG) ?_ ?_
   ·rw[e];exact hB.same sG
   ·rw[e];exact et
  have yes:∀ys rb an,yP st d o n rs first total tries=some (ys,rb,an)→∀(t:Addr) (G G1:Hp),Kp (BF F B) H G→(zc rb (xB F st ys)).2=none→xx a F G B (zc rb (xB F st ys)).1→xf G G1→G1 t=some (.tup [an,.non])→Q (.ref t) G1:=fun ys rb an e t G G1 kG hn hG s1 et=>by
   rw[xjD]at hn;refine q t G1 (kG.trans (Kp.of s1)) ?_ ?_
   ·rw[e];exact hG.same s1
   ·rw[e];rw[xb7 hn];exact et
  have fel:∀ys rb an,yP st d o n rs first total tries=some (ys,rb,an)→∀(t:Addr) (G G1:Hp) (c:Int),Kp (BF F B) H G→(zc rb (xB F st ys)).2=some c→xx a F G B (zc rb (xB F st ys)).1→xf G G1→G1 t=some (.tup [.non,.int c])→Q (.ref t) G1:=fun ys rb an e t G G1 c kG hn hG s1 et=>by
   rw[xjD]at hn;refine q t G1 (kG.trans (Kp.of s1)) ?_ ?_
   ·rw[e];exact hG.same s1
   ·rw[e];rw[xew hn];exact et
  have hdc:d=0∨d=1∨d=2∨d=3:=by lia
  rcases hdc with rfl|rfl|rfl|rfl
  ·walk_at"w";refine⟨fun σ' G=>σ'=[some (.ref B.bd),some (.int ((0:Nat):Int)),some (.ref p),some (.int total),some (.int tries),some (.int (bI (startB st))),some .non,none]∧Kp (BF F B) H G∧yP st 0 o n rs first total tries=some ((yo st),(some (startB st)),(.int (bI (startB st))))∧(zc (some (startB st)) (xB F st (yo st))).2=none∧xx a F G B (zc (some (startB st)) (xB F st (yo st))).1,?_,?_⟩
   ·walk_at"w";refine⟨fun _=>?_,by walk_at"no"⟩;walk_at"w";refine⟨B.bd,B.dx,_,rfl,hB.bd,rfl,?_⟩;walk_at"w";refine⟨F,B,st,rfl,hF,hB,hT,?_⟩;rw[xnb];refine⟨fun e H2 k2 hB2=>?_,fun c ec dd H2 k2 hB2 hdd=>?_⟩
    ·exact⟨rfl,k2,rfl,e,hB2⟩
    ·walk_at"w";refine⟨a.q0d,rfl,.inl ⟨T.q1g,fun ae hae=>?_⟩⟩;walk_at"w";refine⟨_,dd,_,.int c,rfl,rfl,rfl,hdd,T.q3l,T.xas,T.q0K,rfl,?_⟩;walk_at"w";walk_at"ss";intro t ht;generalize hUt:upd H2 t _=H3;have sH3:=xf.of_eq ht hUt;have et:=xq hUt;clear hUt;walk_at"w";exact fel _ _ _ rfl t H2 H3 c k2 ec hB2 sH3 et
   rintro σ' G ⟨rfl,kG,hpl,hn,hG⟩;walk_at"w";refine⟨fun σ' G'=>σ'=[some (.ref B.bd),some (.int ((0:Nat):Int)),some (.ref p),some (.int total),some (.int tries),some (.int (bI (startB st))),some .non,none]∧G=G',?_,?_⟩
   ·walk_at"w";refine⟨by walk_at"no",fun _=>?_⟩;exact⟨rfl,rfl⟩
   rintro σ' _ ⟨rfl,rfl⟩;walk_at"w";refine⟨fun σ' G'=>σ'=[some (.ref B.bd),some (.int ((0:Nat):Int)),some (.ref p),some (.int total),some (.int tries),some (.int (bI (startB st))),some .non,none]∧G=G',?_,?_⟩
   ·walk_at"w";refine⟨by walk_at"no",fun _=>?_⟩;exact⟨rfl,rfl⟩
   rintro σ' _ ⟨rfl,rfl⟩;walk_at"w";refine⟨by walk_at"no",fun _=>?_⟩;walk_at"w";walk_at"ss";intro t ht;generalize hUt:upd G t _=G1;have sG1:=xf.of_eq ht hUt;have et:=xq hUt;clear hUt;walk_at"w";exact yes _ _ _ hpl t G G1 kG hn hG sG1 et
  ·walk_at"w";refine⟨fun σ' G=>σ'=[some (.ref B.bd),some (.int ((1:Nat):Int)),some (.ref p),some (.int total),some (.int tries),some (.non),some .non,none]∧H=G,?_,?_⟩
   ·walk_at"w";refine⟨by walk_at"no",fun _=>?_⟩;exact⟨rfl,rfl⟩
   rintro σ' _ ⟨rfl,rfl⟩;walk_at"w";refine⟨fun σ' G=>σ'=[some (.ref B.bd),some (.int ((1:Nat):Int)),some (.ref p),some (.int total),some (.int tries),some (.bl (decide (((xbO st rs first).take n.toNat).sum=total))),some .non,none]∧Kp (BF F B) H G∧yP st 1 o n rs first total tries=some ((xbP st rs first n total tries),st.run,(.bl (decide (((xbO st rs first).take n.toNat).sum=total))))∧(zc st.run (xB F st (xbP st rs first n total tries))).2=none∧xx a F G B (zc st.run (xB F st (xbP st rs first n total tries))).1,?_,?_⟩
   ·walk_at"w";refine⟨fun _=>?_,by walk_at"no"⟩;walk_at"w";refine⟨B.bd,B.dx,_,rfl,hB.bd,rfl,?_⟩;walk_at"w";refine⟨F,B,st,p,o,n,rs,total,tries,first,rfl,hF,hB,hT,hJ,hj,hfi,hpg,hpo,hcl,fun c H2 s2=>?_,fun c1 c2 H2 s2=>?_,fun c1 c2 c4 H2 s2=>?_,fun c1 c2 c4=>?_⟩
    ·walk_at"w";refine⟨a.q1s,rfl,.inr ⟨T.q2R,T.q10,fun ae hae=>?_⟩⟩;walk_at"w";walk_at"ss";intro t ht;generalize hUt:upd H2 t _=H3;have sH3:=xf.of_eq ht hUt;have et:=xq hUt;clear hUt;walk_at"w";exact no (if_pos (.inl c)) t H3 (s2.trans sH3) et
    ·walk_at"w";refine⟨a.q0M,rfl,.inr ⟨T.q3s,T.q21,fun ae hae=>?_⟩⟩;walk_at"w";walk_at"ss";intro t ht;generalize hUt:upd H2 t _=H3;have sH3:=xf.of_eq ht hUt;have et:=xq hUt;clear hUt;walk_at"w";exact no (if_pos (.inr (.inl c2))) t H3 (s2.trans sH3) et
    ·walk_at"w";refine⟨a.q1I,rfl,.inr ⟨T.q3G,T.q3m,fun ae hae=>?_⟩⟩;walk_at"w";walk_at"ss";intro t ht;generalize hUt:upd H2 t _=H3;have sH3:=xf.of_eq ht hUt;have et:=xq hUt;clear hUt;walk_at"w";exact no (if_pos (.inr (.inr c4))) t H3 (s2.trans sH3) et
    ·have hpl:yP st 1 o n rs first total tries=some (xbP st rs first n total tries,st.run,.bl (decide (((xbO st rs first).take n.toNat).sum=total))):=if_neg (fun z=>z.elim c1 (fun y=>y.elim c2 (fun x=>by rw[c4]at x;cases x)));refine⟨fun e H2 k2 hB2=>?_,fun c ec dd H2 k2 hB2 hdd=>?_⟩
     ·exact⟨rfl,k2,hpl,e,hB2⟩
     ·walk_at"w";refine⟨a.q0d,rfl,.inl ⟨T.q1g,fun ae hae=>?_⟩⟩;walk_at"w";refine⟨_,dd,_,.int c,rfl,rfl,rfl,hdd,T.q3l,T.xas,T.q0K,rfl,?_⟩;walk_at"w";walk_at"ss";intro t ht;generalize hUt:upd H2 t _=H3;have sH3:=xf.of_eq ht hUt;have et:=xq hUt;clear hUt;walk_at"w";exact fel _ _ _ hpl t H2 H3 c k2 ec hB2 sH3 et
   rintro σ' G ⟨rfl,kG,hpl,hn,hG⟩;walk_at"w";refine⟨fun σ' G'=>σ'=[some (.ref B.bd),some (.int ((1:Nat):Int)),some (.ref p),some (.int total),some (.int tries),some (.bl (decide (((xbO st rs first).take n.toNat).sum=total))),some .non,none]∧G=G',?_,?_⟩
   ·walk_at"w";refine⟨by walk_at"no",fun _=>?_⟩;exact⟨rfl,rfl⟩
   rintro σ' _ ⟨rfl,rfl⟩;walk_at"w";refine⟨by walk_at"no",fun _=>?_⟩;walk_at"w";walk_at"ss";intro t ht;generalize hUt:upd G t _=G1;have sG1:=xf.of_eq ht hUt;have et:=xq hUt;clear hUt;walk_at"w";exact yes _ _ _ hpl t G G1 kG hn hG sG1 et
  ·walk_at"w";refine⟨fun σ' G=>σ'=[some (.ref B.bd),some (.int ((2:Nat):Int)),some (.ref p),some (.int total),some (.int tries),some (.non),some .non,none]∧H=G,?_,?_⟩
   ·walk_at"w";refine⟨by walk_at"no",fun _=>?_⟩;exact⟨rfl,rfl⟩
   rintro σ' _ ⟨rfl,rfl⟩;walk_at"w";refine⟨fun σ' G=>σ'=[some (.ref B.bd),some (.int ((2:Nat):Int)),some (.ref p),some (.int total),some (.int tries),some (.non),some .non,none]∧H=G,?_,?_⟩
   ·walk_at"w";refine⟨by walk_at"no",fun _=>?_⟩;exact⟨rfl,rfl⟩
   rintro σ' _ ⟨rfl,rfl⟩;walk_at"w";refine⟨fun σ' G=>σ'=[some (.ref B.bd),some (.int ((2:Nat):Int)),some (.ref p),some (.int total),some (.int tries),some (.non),some .non,none]∧Kp (BF F B) H G∧yP st 2 o n rs first total tries=some ([.mark (!st.mr) "good",.mrk (!st.mr)],st.run,.non)∧(zc st.run (xB F st [.mark (!st.mr) "good",.mrk (!st.mr)])).2=none∧xx a F G B (zc st.run (xB F st [.mark (!st.mr) "good",.mrk (!st.mr)])).1,?_,?_⟩
   ·walk_at"w";refine⟨fun _=>?_,by walk_at"no"⟩;walk_at"w";refine⟨B.bd,B.dx,_,rfl,hB.bd,rfl,?_⟩;walk_at"w";refine⟨F,B,st,rfl,hF,hB,hT,fun c H2 s2=>?_,fun c1 c2 H2 s2=>?_,fun c1 c2=>?_⟩
    ·walk_at"w";refine⟨a.q1s,rfl,.inr ⟨T.q2R,T.q10,fun ae hae=>?_⟩⟩;walk_at"w";walk_at"ss";intro t ht;generalize hUt:upd H2 t _=H3;have sH3:=xf.of_eq ht hUt;have et:=xq hUt;clear hUt;walk_at"w";exact no (if_neg (fun z=>by have:=z.1;rw[c]at this;cases this)) t H3 (s2.trans sH3) et
    ·walk_at"w";refine⟨a.q0Z,rfl,.inr ⟨T.q3r,T.q20,fun ae hae=>?_⟩⟩;walk_at"w";walk_at"ss";intro t ht;generalize hUt:upd H2 t _=H3;have sH3:=xf.of_eq ht hUt;have et:=xq hUt;clear hUt;walk_at"w";exact no (if_neg c2) t H3 (s2.trans sH3) et
    ·have hpl:yP st 2 o n rs first total tries=some ([.mark (!st.mr) "good",.mrk (!st.mr)],st.run,.non):=if_pos ⟨c1,c2⟩;refine⟨fun e H2 k2 hB2=>?_,fun c ec dd H2 k2 hB2 hdd=>?_⟩
     ·exact⟨rfl,k2,hpl,e,hB2⟩
     ·walk_at"w";refine⟨a.q0d,rfl,.inl ⟨T.q1g,fun ae hae=>?_⟩⟩;walk_at"w";refine⟨_,dd,_,.int c,rfl,rfl,rfl,hdd,T.q3l,T.xas,T.q0K,rfl,?_⟩;walk_at"w";walk_at"ss";intro t ht;generalize hUt:upd H2 t _=H3;have sH3:=xf.of_eq ht hUt;have et:=xq hUt;clear hUt;walk_at"w";exact fel _ _ _ hpl t H2 H3 c k2 ec hB2 sH3 et
   rintro σ' G ⟨rfl,kG,hpl,hn,hG⟩;walk_at"w";refine⟨by walk_at"no",fun _=>?_⟩;walk_at"w";walk_at"ss";intro t ht;generalize hUt:upd G t _=G1;have sG1:=xf.of_eq ht hUt;have et:=xq hUt;clear hUt;walk_at"w";exact yes _ _ _ hpl t G G1 kG hn hG sG1 et
  ·walk_at"w";refine⟨fun σ' G=>σ'=[some (.ref B.bd),some (.int ((3:Nat):Int)),some (.ref p),some (.int total),some (.int tries),some (.non),some .non,none]∧H=G,?_,?_⟩
   ·walk_at"w";refine⟨by walk_at"no",fun _=>?_⟩;exact⟨rfl,rfl⟩
   rintro σ' _ ⟨rfl,rfl⟩;walk_at"w";refine⟨fun σ' G=>σ'=[some (.ref B.bd),some (.int ((3:Nat):Int)),some (.ref p),some (.int total),some (.int tries),some (.non),some .non,none]∧H=G,?_,?_⟩
   ·walk_at"w";refine⟨by walk_at"no",fun _=>?_⟩;exact⟨rfl,rfl⟩
   rintro σ' _ ⟨rfl,rfl⟩;walk_at"w";refine⟨fun σ' G=>σ'=[some (.ref B.bd),some (.int ((3:Nat):Int)),some (.ref p),some (.int total),some (.int tries),some (.non),some .non,none]∧H=G,?_,?_⟩
   ·walk_at"w";refine⟨by walk_at"no",fun _=>?_⟩;exact⟨rfl,rfl⟩
   rintro σ' _ ⟨rfl,rfl⟩;walk_at"w";refine⟨fun _=>?_,by walk_at"no"⟩;walk_at"w";refine⟨B.bd,B.dx,_,rfl,hB.bd,rfl,?_⟩;walk_at"w";refine⟨F,B,st,rfl,hF,hB,hT,fun c H2 s2=>?_,fun c1 c2 H2 s2=>?_,fun c1 c2=>?_⟩
   ·walk_at"w";refine⟨a.q1s,rfl,.inr ⟨T.q2R,T.q10,fun ae hae=>?_⟩⟩;walk_at"w";walk_at"ss";intro t ht;generalize hUt:upd H2 t _=H3;have sH3:=xf.of_eq ht hUt;have et:=xq hUt;clear hUt;walk_at"w";exact no (if_neg (fun z=>z.1 c)) t H3 (s2.trans sH3) et
   ·walk_at"w";refine⟨a.q0B,rfl,.inr ⟨T.q29,T.q2D,fun ae hae=>?_⟩⟩;walk_at"w";walk_at"ss";intro t ht;generalize hUt:upd H2 t _=H3;have sH3:=xf.of_eq ht hUt;have et:=xq hUt;clear hUt;walk_at"w";exact no (if_neg (fun z=>c2 z.2)) t H3 (s2.trans sH3) et
   ·have hpl:yP st 3 o n rs first total tries=some ([.mrk (!st.mr)],none,.non):=if_pos ⟨c1,c2⟩;refine⟨fun e H2 k2 hB2=>?_,fun c ec dd H2 k2 hB2 hdd=>?_⟩
    ·walk_at"w";walk_at"ss";intro t ht;generalize hUt:upd H2 t _=H3;have sH3:=xf.of_eq ht hUt;have et:=xq hUt;clear hUt;walk_at"w";exact yes _ _ _ hpl t H2 H3 k2 e hB2 sH3 et
    ·walk_at"w";refine⟨a.q0d,rfl,.inl ⟨T.q1g,fun ae hae=>?_⟩⟩;walk_at"w";refine⟨_,dd,_,.int c,rfl,rfl,rfl,hdd,T.q3l,T.xas,T.q0K,rfl,?_⟩;walk_at"w";walk_at"ss";intro t ht;generalize hUt:upd H2 t _=H3;have sH3:=xf.of_eq ht hUt;have et:=xq hUt;clear hUt;walk_at"w";exact fel _ _ _ hpl t H2 H3 c k2 ec hB2 sH3 et
end
section
variable {P:ak} {w:World} {K:ag} {mg:Str→Option Value} {base:Heap} {a:Adr}
theorem xx.kp1{a:Adr}{F:FM}{H H':Hp}{B:BA}{s:BdS}(h:xx a F H B s){x:Addr}(k:Kp [x] H H')(hx:x∉BF F B)(hbl:x≠B.bl)(hst:∀b,x≠(B.S b).st)(mu:∃u,H x=some u∧jd u):xx a F H' B s:=by
 have two:∀{y:Addr} {u:HO},H y=some u→y≠x→H' y=some u:=fun e n=>k _ _ e (by simp[n]);have nb:∀{y:Addr},y∈BS B→y≠x:=fun hy z=>hx (by rw[←z];exact aX _ hy);refine⟨two h.bd (nb (by simp)),two h.bl (au hbl),two h.le (nb (by simp)),two h.ma (nb (by simp)),two h.se (nb (by simp)),fun b=>?_,h.sp,h.nl,h.ni,F.keep h.fm k (fun y hy=>by rw[aj.mp hy];exact mu) (fun y hy z=>by rw[aj.mp hy]at z;exact hx (aR _ z)),h.off,h.c0⟩;have S:=h.st b;exact⟨two S.st (au (hst b)),two S.ca (nb (by cases b<;> simp)),two S.na (nb (by cases b<;> simp)),two S.p (by rw[(h.sp b).1];exact nb (by simp)),S.ne,S.np⟩
def xjI(K:ag):Sp:=fun vs H Q _=>∃(l:Addr) (ns:List Int),vs=[.ref l]∧SqL K H l (ns.map V.int)∧ns.length≤63∧H zC=some (.tbl vK)∧H yU=some (.tbl vm)∧H yk=some (.tbl zD)∧H yF=some (.tbl uM)∧H zm=some (.tbl vP)∧H yv=some (.tbl uh)∧H yG=some (.tbl uN)∧H xeI=some (.tbl xiS)∧∀H',Q (.bl true) H'
theorem xqX{tx:List Int}{size:Int}(h:tx.length≤size):Okb (fun b=>if b then[]else[tx]) 0 size (bd0 tx size 0):=by
 refine⟨rfl,fun b e=>?_,rfl,fun e=>?_,fun b=>?_,fun b=>?_,fun b=>⟨rfl,fun e=>?_⟩⟩
 ·cases b
  ·show(tx++aQ _ 0).take (tx.length:Int).toNat∈[tx];rw[dn,List.take_left];exact aj.mpr rfl
  ·exact absurd (show("bad":Str)="good" from e) (by decide)
 ·exact absurd (show("bad":Str)="trial" from e) (by decide)
 ·cases b
  ·show((tx++aQ (size - tx.length).toNat 0).length:Int)=size;rw[aW,bZ];lia
  ·show((aQ size.toNat (0:Int)).length:Int)=size;rw[bZ];lia
 ·cases b
  ·show 0≤(tx.length:Int)∧(tx.length:Int)≤size;lia
  ·show(0:Int)≤0∧(0:Int)≤size;lia
 ·cases b
  ·exact absurd (show("good":Str)="open" from e) (by decide)
  ·exact absurd (show("bad":Str)="open" from e) (by decide)
def xog:Option Bool→eK
 |none=>.none
 |some b=>.int (bI b)
theorem xpY{H:Hp}(r:Option Bool):Rp K H (vH r) (xog r):=by
 cases r with
 |none=>exact .non
 |some b=>exact .int _
theorem xnf(i:Int):dC (.int i)=true:=by
 unfold dC;simp[b9,dE]
theorem xpZ(r:Option Bool):dC (xog r)=true:=by
 cases r with
 |none=>decide+kernel
 |some b=>exact xnf _
theorem xoh(r:Option Bool)(mr:Bool):eE (xog r) (.int (1 - bI mr))=decide (r=some (!mr)):=by
 cases r with
 |none=>cases mr<;> decide+kernel
 |some b=>cases b<;> cases mr<;> decide+kernel
theorem xqY(T:Txt K mg a):xy P w K mg base CX0 14 a.q4s a.xis ["_law_script"] (xjI K):=by
 refine T.xit.okC ["_law_script"] T.xqP xmQ (fun vs H Q E h=>?_) (fun A outer s H vs Q E hr h=>?_)
 ·obtain⟨l,ns,rfl,_⟩:=h;rfl
 ·obtain⟨l,ns,rfl,hl,hns,hP1,hP2,hP3,hP4,hP5,hP6,hP7,hP8,q⟩:=h;have nd:=xmQ.nd;have hT:Tbs H:=⟨hP1,hP2,hP3,hP7,hP4,hP5,hP6⟩;refine⟨_,(yL (x:="_law_script") (i:=0) nd rfl rfl rfl (by kernel_rfl) (xg (xE (i:=1) nd rfl (aA rfl) (xD (xkU T) (hr.mono (by decide)) (by rfl) T.xmJ T.q4b.kp T.xmI .nil xt (xa (xD (xaY T) (hr.mono (by decide)) (by rfl) T.xbZ T.q16.kp T.xbY .nil xt (xa (cv 0) (xa xj xc))) (xa (xu yq (xD (xaY T) (hr.mono (by decide)) (by rfl) T.xbZ T.q16.kp T.xbY .nil xt (xa (cv 0) (xa xj xc))) xj) xc))))
  (xg (xE (i:=2) nd rfl (aA rfl) (xu yl (xu yl (xN xU (by rfl) T.q12 yK (xa (cv 1) xc)) xj) (xu yq (xD (xaY T) (hr.mono (by decide)) (by rfl) T.xbZ T.q16.kp T.xbY .nil xt (xa (cv 0) (xa xj xc))) xj)))
  (xg (xE (i:=3) nd rfl (aA rfl) (xa1 T.q4K (xin T) (hr.mono (by decide)) (by rfl) T.xpr T.xbG .nil xt (xa (cv 1) (xa (cv 2) (xa (zB (c:=q36) (P:=xeI) (qs:=xiS) (fns:=["_law_script"]) rfl T.q5g (q:="law.<locals>.<lambda>") (by kernel_rfl) (.head _) (by kernel_rfl) (by kernel_rfl)) xc)))))
  (xg (xE (i:=4) nd rfl (aA rfl) (ye (xa (ye (xa (cv 1) xc)) (xa (ye xc) xc))))
  (xg (xE (i:=5) nd rfl (aA rfl) (ye xc))
  (xg (xE (i:=6) nd rfl (aA rfl) xj)
  (xg (xE (i:=7) nd rfl (aA rfl) (xoi xop xj))
  (xg (yt PassesOwn.never rfl (xmq (by rfl) T.q2a (xa xj (xa (xN (xf0 rfl) (by rfl) T.q4F xfZ (xa (xN xU (by rfl) T.q12 yK (xa (cv 0) xc)) (xa xj xc))) xc))) (xK (i:=8) nd rfl (aA rfl)) (xg (xE (i:=9) nd rfl (aA rfl) (xD (zp T) (hr.mono (by decide)) (by rfl) T.zW T.q1j.kp T.zV .nil xt (xa (xA xV (cv 0) (cv 8) (fun _ _=>rfl)) (xa (cv 8) xc))))
  (xg (xE (i:=10) nd rfl (aA rfl) (xA xV (ye (xa xj (xa xj (xa xj (xa xj (xa xj (xa xj (xa xj (xa xj (xa xj xc)))))))))) (xu yq (cv 9) xj) (fun _ _=>rfl)))
  (xg (xE (i:=11) nd rfl (aA rfl) (xD (xod T) (hr.mono (by decide)) (by rfl) T.xpl T.q3W.kp T.xpk .nil xt (xa (cv 3) (xa (cv 5) (xa (xA xV (cv 0) (cv 8) (fun _ _=>rfl)) xc)))))
  (xg (xE (i:=5) nd rfl (aA rfl) (xu xiz (ye (xa (cv 11) xc)) (jS jT (cv 5) xa2 (xa3 xj))))
  (xg (xE (i:=12) nd rfl (aA rfl) (xD (xoe T) (hr.mono (by decide)) (by rfl) T.xpn T.q3X.kp T.xpm .nil xt (xa (cv 3) (xa (cv 11) (xa (xu xcC (cv 9) xj) xc)))))
  (xg (xE (i:=13) nd rfl (aA rfl) (xu yq (xu xcC (cv 9) xj) xj))
  (xg (xE (i:=14) nd rfl (aA rfl) (xQ (cv 3) T.q0a T.q1a (yW T) (hr.mono (by decide)) T.zo .nil xt))
  (xg (yY (xM (PW.pt (vJ (xJ zL (cv 10) xj) (vJ (xJ xbT (xA xV (xA xH (cv 14) xj (fun _ _=>rfl)) (xu yz xj (xA xH (cv 14) xj (fun _ _=>rfl))) (fun _ _=>rfl)) xP) (jQ (xJ (xos hr.units) (xA xH (cv 14) xj (fun _ _=>rfl)) (xu yz xj (xA xH (cv 14) xj (fun _ _=>rfl)))))))) (xk (xO (xeC PySem.F.plainAttrs_list PySem.F.slot_list_append PySem.F.type_list_append je (xA xV (cv 4) (xu yz xj (xA xH (cv 14) xj (fun _ _=>rfl))) (fun _ _=>rfl)) (xa (zd (cv 3) T.q0a T.q2k (vU T) (hr.mono (by decide)) T.jG .nil xt (xa (xu yz xj (xA xH (cv 14) xj (fun _ _=>rfl))) xc)) xc)))) xC))
  (xg (xan (xD (xpX T) (hr.mono (by decide)) (by rfl) T.xqO T.q4n.kp T.xqN .nil xt (xa (cv 3) (xa (cv 10) (xa (cv 11) (xa (cv 12) (xa (cv 13) xc)))))) (jm rfl (xT (xK (i:=15) nd rfl (aA rfl)) (xT (xK (i:=16) nd rfl (aA rfl)) vf))))
  (xg (yY (xM (PW.pt (vJ (jW (cv 16)) (jQ (PW.pt (xaT (xJ xlc (cv 16) (cv 7)) (xa8 (jW (xA xH (xQ (cv 3) T.q0a T.q1a (yW T) (hr.mono (by decide)) T.zo .nil xt) xj (fun _ _=>rfl))))))))) (xk (xv ve)) xC))
  (xg (yY (xM (jW (cv 16)) (xk (xE (i:=7) nd rfl (aA rfl) (cv 16))) xC))
  (xg (yY (xM (PW.pt (vJ (xJ zL (cv 10) xj) (vJ (xJ xbT (xA xV (xA xH (xQ (cv 3) T.q0a T.q1a (yW T) (hr.mono (by decide)) T.zo .nil xt) xj (fun _ _=>rfl)) (xu yz xj (xA xH (xQ (cv 3) T.q0a T.q1a (yW T) (hr.mono (by decide)) T.zo .nil xt) xj (fun _ _=>rfl))) (fun _ _=>rfl)) xP) (jQ (xJ xbU (xA xV (xA xH (cv 14) xj (fun _ _=>rfl)) (xu yz xj (xA xH (cv 14) xj (fun _ _=>rfl))) (fun _ _=>rfl)) xP))))) (xk (xE (i:=6) nd rfl (aA rfl) (cv 13))) xC))
  (xg (yY (xM (PW.pt (vJ (xJ zL (cv 10) xj) (vJ (jW (cv 15)) (jQ (xJ xfV (cv 15) (xA xH (cv 14) xj (fun _ _=>rfl))))))) (xg (xE (i:=6) nd rfl (aA rfl) (xu yz (cv 6) xj))
  (xk (xM (PW.pt (xaT (xJ xfi (cv 6) xj) (xa8 (xJ xbU (xA xV (xA xH (cv 14) xj (fun _ _=>rfl)) (cv 15) (fun _ _=>rfl)) xP)))) (xk (xv ve)) xC))) xC))
  (xk (xM (xcz (zQ (xD (xof T) (hr.mono (by decide)) (by rfl) T.xpp T.q3Y.kp T.xpo .nil xt (xa (cv 3) (xa (cv 4) xc))))) (xk (xv ve)) xC))))))))))))))))
  (xk (xv ve))))))))))),?_⟩
  walk_at"w";intro f1 e1 z1 d1;refine a6 z1 ?_;generalize hU1:upd H f1 _=H1;have s1:=xf.of_eq z1 hU1;have c1:H1 f1=some (.cel (some (.ref l))):=xq hU1;clear hU1;walk_at"w";refine⟨l,ns,0,rfl,s1.seq hl,by decide,?_⟩;walk_at"w";refine⟨l,ns,0,rfl,s1.seq hl,by decide,?_⟩;walk_at"w";walk_at"ss";refine⟨cellAt ns 0,_,rfl,by lia,by lia,fun tl tx H2 s2 htl etl hlen hsg=>?_⟩;have htl6:tx.length≤6:=by lia
  have s02:=s1.trans s2;walk_at"w";refine⟨tl,_,rfl,.inl (SqL.of etl),?_⟩;rw[ao];walk_at"w";walk_at"ss";refine⟨l,ns,1,rfl,s02.seq hl,by decide,?_⟩;walk_at"w";walk_at"ss";generalize hsv:(fun(i j:Int)=>V.int (i+j)) ((tx.length:Int)+2) (cellAt ns 1%7)=sv;obtain⟨size,rfl,hsz1,hsz2⟩:∃size:Int,sv= .int size∧tx.length≤size∧size≤14:=⟨_,hsv.symm,by lia,by lia⟩;clear hsv;refine⟨s02.at hP8,[("_law_script",.ref l)],rfl,(fun x v m=>?_),fun g H5 hg s5 hc=>?_⟩
  ·simp only[aj,dJ]at m;obtain⟨rfl,rfl⟩:=m;exact⟨f1,e1,s2.at c1⟩
  walk_at"w";intro bd dx hb hdx ne;have up:∀{b:Addr} {u:HO},H5 b=some u→upd (upd H5 dx (.own bd)) bd (.ins a.q0b dx []) b=some u:=fun e=>by rw[xl (xF e hb),xl (xF e hdx)];exact e
  have s05:=s02.trans s5;obtain⟨M,hM,hMs⟩:=xcx.of hl;have hM5:xcx K H5 l ns M:=hM.kp (L:=[]) (Kp.of s05) (fun _ z=>nomatch z) (fun _ z=>nomatch z);have hFU:(FLm K g l ns M).At (upd (upd H5 dx (.own bd)) bd (.ins a.q0b dx [])) 0 0:=(FLm K g l ns M).keep (L:=[]) (H:=H5) (k:=0) (n:=0) ⟨hc,hM5⟩ (Kp.of fun b u e=>up e) (fun _ z=>nomatch z) (fun _ z=>nomatch z);have hbM:bd∉M:=fun z=>by have:=hM5.1 bd z;rw[hb]at this;cases this
  have htM:tl∉M:=fun z=>by have:=s1.at (hM.1 tl z);rw[htl]at this;cases this
  refine⟨FLm K g l ns M,bd,dx,tl,tx,size,rfl,xm,up (s5.at etl),by lia,by lia,hsz1,hFU,hbM,fun B H6 eb kp fr hB=>⟨rfl,?_⟩⟩;have fr5:∀y∈BS B,H5 y=none:=fun y hy=>by
   rcases fr y hy with rfl|h
   ·exact hb
   ·exact(xeu h).2.2
  have s56:xf H5 H6:=fun b u e=>kp b u (up e) (by simp;exact xF e hb);have etl6:=(s5.trans s56).at etl;have ntl:tl∉BF (FLm K g l ns M) B:=fun z=>by
   rcases a7.mp z with z|z
   ·have:=s5.at etl;rw[fr5 _ z]at this;cases this
   ·exact htM z
  rw[←eb];clear eb kp fr up hFU;walk_at"w";walk_at"ss";intro t0 ht0;generalize hUt0:upd H6 t0 _=H7;have sH7:=xf.of_eq ht0 hUt0;have et0:=xq hUt0;clear hUt0;walk_at"w";walk_at"ss";intro t1 ht1;generalize hUt1:upd H7 t1 _=H8;have sH8:=xf.of_eq ht1 hUt1;have et1:=xq hUt1;clear hUt1;walk_at"w";walk_at"ss";intro tt htt;generalize hUtt:upd H8 tt _=H9;have sH9:=xf.of_eq htt hUtt;have ett:=xq hUtt;clear hUtt;walk_at"w";walk_at"ss";intro pl0 hpl0;generalize hUpl0:upd H9 pl0 _=H10;have sH10:=xf.of_eq hpl0 hUpl0;have epl0:=xq hUpl0;clear hUpl0;walk_at"w";have s610:=sH7.trans (sH8.trans (sH9.trans sH10));have hB10:=hB.same s610;generalize hta:(fun(b:Bool)=>if b then t1 else t0)=ta;have ta0:ta false=t0:=by rw[←hta];rfl
  have ta1:ta true=t1:=by rw[←hta];rfl
  have nT0:t0∉BF (FLm K g l ns M) B:=hB.nin ht0;have nT1:t1∉BF (FLm K g l ns M) B:=(hB.same sH7).nin ht1;have nTt:tt∉BF (FLm K g l ns M) B:=(hB.same (sH7.trans sH8)).nin htt;have nPl:pl0∉BF (FLm K g l ns M) B:=(hB.same (sH7.trans (sH8.trans sH9))).nin hpl0;have n01:t0≠t1:=fun z=>by rw[z]at et0;rw[et0]at ht1;cases ht1
  have nt0:tt≠t0:=fun z=>by rw[←z]at et0;rw[sH8.at et0]at htt;cases htt
  have nt1:tt≠t1:=fun z=>by rw[←z]at et1;rw[et1]at htt;cases htt
  have nl0:tl≠t0:=fun z=>by rw[←z,etl6]at ht0;cases ht0
  have nl1:tl≠t1:=fun z=>by rw[←z,sH7.at etl6]at ht1;cases ht1
  have hbl:∀b,ta b≠B.bl:=fun b=>by
   cases b
   ·rw[ta0];exact fun z=>by rw[z,hB.bl]at ht0;cases ht0
   ·rw[ta1];exact fun z=>by rw[z,sH7.at hB.bl]at ht1;cases ht1
  have hX:jN H10 (BF (FLm K g l ns M) B) tt ta (fun b=>if b then[]else[tl]) (fun b=>if b then[]else[tx]):=by
   refine⟨?_,fun b=>?_,fun b=>?_,fun b=>?_,⟨nTt,fun b=>⟨?_,?_,fun y hy=>?_⟩⟩,by rw[ta0,ta1];exact n01,fun b c y hy=>?_⟩
   ·rw[ta0,ta1];exact sH10.at ett
   ·cases b
    ·rw[ta0];exact(sH8.trans (sH9.trans sH10)).at et0
    ·rw[ta1];exact(sH9.trans sH10).at et1
   ·cases b
    ·exact .cons (s610.at etl6) .nil
    ·exact .nil
   ·cases b
    ·show 1≤100;decide
    ·show 0≤100;decide
   ·cases b
    ·rw[ta0];exact nT0
    ·rw[ta1];exact nT1
   ·cases b
    ·rw[ta0];exact nt0
    ·rw[ta1];exact nt1
   ·cases b
    ·rw[aj.mp hy];exact ntl
    ·cases hy
   ·cases b
    ·rw[aj.mp hy];cases c
     ·rw[ta0];exact nl0
     ·rw[ta1];exact nl1
    ·cases hy
  have sH6:=s05.trans s56;refine⟨l,_,rfl,.inl ((sH6.trans s610).seq hl),?_⟩;rw[ao];walk_at"w";generalize hn:yx 2 (min (ns.length:Int) 52) 1=n;have hnn:(n+2≤ns.length∧n≤50)∨n=0:=by
   rw[ua]at hn;lia
  have hO0:=xqX hsz1;have hT10:=hT.same (sH6.trans s610);refine xbX (fun i σ G=>∃(s:BdS) (pl:Addr) (ps:List Addr) (as:Bool→List Addr) (tx':Bool→List (List Int)) (left last:Int) (y8 y9 y10 y11 y12 y13 y14 y15 y16:Option V),σ=[some (.ref l),some (.ref tl),some (.int size),some (.ref B.bd),some (.ref tt),some (.ref pl),some (.int left),some (.int last),y8,y9,y10,y11,y12,y13,y14,y15,y16]∧xx a (FLm K g l ns M) G B s∧Okb tx' left size s∧jN G (BF (FLm K g l ns M) B) tt ta as tx'∧(∀b,(as b).length≤i+1)∧G pl=some (.lst (ps.map V.ref))∧ps.length≤3∧(∀p∈ps,vd K G p)∧last<s.cnt∧Tbs G)
   ⟨_,pl0,[],_,_,0,-1,_,_,_,_,_,_,_,_,_,rfl,hB10,hO0,hX,(fun b=>by cases b<;> simp),epl0,by simp,(fun _ z=>nomatch z),(by show(-1:Int)<0;decide),hT10⟩ (fun i σ G hi hP=>?_) (fun σ G hP=>?_)
  rotate_left
  ·obtain⟨s',pl,ps,as,tx',left,last,y8,y9,y10,y11,y12,y13,y14,y15,y16,rfl,_⟩:=hP;walk_at"w";exact q G
  obtain⟨st,pl,ps,as,tx',left,last,y8,y9,y10,y11,y12,y13,y14,y15,y16,rfl,hBG,hO,hXG,hfew,hpl,hps,hpo,hlast,hTG⟩:=hP;clear hX hB hB10 hO0 hT10 nPl nTt nT0 nT1 n01 nt0 nt1 nl0 nl1 et0 et1 ett epl0 ht0 ht1 htt hpl0 sH7 sH8 sH9 sH10 s610 sH6 etl6;generalize hk:(2:Int)+(i:Int)*1=kk;obtain⟨v,hv⟩:∃v,ns[kk.toNat]? =some v:=⟨_,aK (by lia)⟩;have hatv:atI (ns.map V.int) kk=some (.int v):=xf3 (by lia) hv;walk_at"w";refine⟨l,_,_,.int v,rfl,rfl,hBG.fm.2.sq,hatv,?_⟩;walk_at"w";refine⟨v,kk,rfl,?_⟩;generalize hdr:mixed v kk=draw;walk_at"w";walk_at"ss";intro dl hdl;generalize hUdl:upd G dl _=G1;have sG1:=xf.of_eq hdl hUdl;have edl:=xq hUdl;clear hUdl;walk_at"w";walk_at"ss";obtain⟨d,hd3,hatd⟩:∃d:Nat,d≤3∧atI [V.int 0,V.int 0,V.int 0,V.int 1,V.int 1,V.int 1,V.int 2,V.int 2,V.int 3] (draw%9)=some (.int d):=by
   obtain⟨j,ej,hj⟩:∃j:Nat,draw%9=(j:Int)∧j<9:=⟨(draw%9).toNat,by lia,by lia⟩;rw[ej]
   match j,hj with
   |0,_=>exact⟨0,by decide,rfl⟩
   |1,_=>exact⟨0,by decide,rfl⟩
   |2,_=>exact⟨0,by decide,rfl⟩
   |3,_=>exact⟨1,by decide,rfl⟩
   |4,_=>exact⟨1,by decide,rfl⟩
   |5,_=>exact⟨1,by decide,rfl⟩
   |6,_=>exact⟨2,by decide,rfl⟩
   |7,_=>exact⟨2,by decide,rfl⟩
   |8,_=>exact⟨3,by decide,rfl⟩
  refine⟨dl,_,_,.int d,rfl,rfl,SqL.of edl,hatd,?_⟩;walk_at"w";have hB1:=hBG.same sG1;refine⟨l,_,_,.int v,rfl,rfl,hB1.fm.2.sq,hatv,?_⟩;walk_at"w";have hln:∀b,0≤st.len b∧st.len b≤60:=fun b=>by have:=hO.ln b;lia
  refine⟨FLm K g l ns M,B,st,pl,ps,v,rfl,hB1,sG1.at hpl,hps,fun p z=>(hpo p z).same sG1,hln,fun p G2 s2 hp=>?_⟩;have sG2:=sG1.trans s2;walk_at"w";walk_at"ss";intro q1 hq1;generalize hUq1:upd G2 q1 _=G3;have sG3:=xf.of_eq hq1 hUq1;have eq1:=xq hUq1;clear hUq1;walk_at"w";refine⟨_,rfl,?_⟩;walk_at"w";refine⟨pl,_,rfl,SqL.of ((sG2.trans sG3).at hpl),?_⟩;have cutE:xba (ps.map V.ref) none (some 2)=(ps.take 2).map V.ref:=by
   rw[show(2:Int)=((2:Nat):Int)by rfl,xeN,←i8]
  rw[cutE];intro q2 hq2;generalize hUq2:upd G3 q2 _=G4;have sG4:=xf.of_eq hq2 hUq2;have eq2:=xq hUq2;clear hUq2;walk_at"w";refine⟨q1,q2,_,_,rfl,rfl,sG4.at eq1,eq2,(by simp[aZ];lia),?_⟩;intro pn hpn;generalize hUpn:upd G4 pn _=G5;have sG5:=xf.of_eq hpn hUpn;have epn:=xq hUpn;clear hUpn;walk_at"w";have epn:G5 pn=some (.lst ((p::ps.take 2).map V.ref)):=epn;have s25:=sG3.trans (sG4.trans sG5);have s05':=sG2.trans s25;have hp5:=hp.same s25;have hpo5:∀p'∈p::ps.take 2,vd K G5 p':=fun p' z=>by
   rcases av.mp z with rfl|z
   ·exact hp5
   ·exact(hpo p' (iX z)).same s05'
  walk_at"w";walk_at"ss";refine⟨FLm K g l ns M,B,st,p,_,rfl,hBG.same s05',hp5,hln,fun tot G6 s6=>?_⟩;walk_at"w";walk_at"ss";generalize hts:(fun(i j:Int)=>V.int (i%j)) (draw / 512) 4=tv;obtain⟨tries,rfl,htr⟩:∃tries:Int,tv= .int tries∧0≤tries:=⟨_,hts.symm,by lia⟩;clear hts;have hB6:=hBG.same (s05'.trans s6);refine⟨B.bd,B.dx,_,rfl,hB6.bd,rfl,?_⟩;walk_at"w";refine⟨FLm K g l ns M,B,st,rfl,hB6,fun ah m ll G7 s7 hm hll nml g1 g2 g3=>?_⟩;have s07:=s05'.trans (s6.trans s7);have hB7:=hBG.same s07;have hX7:=hXG.same s07;walk_at"w";have hT7:=hTG.same s07;have atM:atI [V.str (st.mark false),V.str (st.mark true)] (1 - bI st.mr)=some (.str (st.mark (!st.mr))):=by cases st.mr<;> rfl
  have atT:atI [V.ref (ta false),V.ref (ta true)] (1 - bI st.mr)=some (.ref (ta (!st.mr))):=by cases st.mr<;> rfl
  have hpo7:∀p'∈p::ps.take 2,vd K G7 p':=fun p' z=>(hpo5 p' z).same (s6.trans s7);have epn7:=(s6.trans s7).at epn;have npn:pn∉BF (FLm K g l ns M) B:=(hBG.same (sG2.trans (sG3.trans sG4))).nin hpn;have nm:m∉BF (FLm K g l ns M) B:=hB6.nin hm;refine⟨fun σ' G'=>σ'=[some (.ref l),some (.ref tl),some (.int size),some (.ref B.bd),some (.ref tt),some (.ref pn),some (.int left),some (.int last),some (.int kk),some (.int draw),some (.int (d:Int)),some (.ref p),some (.int tot),some (.int tries),some (.ref ah),y15,y16]∧∃as2 tx2,xx a (FLm K g l ns M) G' B st∧Okb tx2 left size st∧jN G' (BF (FLm K g l ns M) B) tt ta as2 tx2∧(∀b,(as2 b).length≤i+2)∧G' ah=some (.tup [.int (bI st.mr),.ref m,.ref ll,.int st.ct,vH st.run])∧G' m=some (.lst [.str (st.mark false),.str (st.mark true)])∧G' pn=some (.lst ((p::ps.take 2).map V.ref))∧(∀p'∈p::ps.take 2,vd K G' p')∧Tbs G'∧(d=2→st.run=some (!st.mr)→st.mark (!st.mr)=("trial":Str)→(st.cells (!st.mr)).take (st.len (!st.mr)).toNat∈tx2 (!st.mr)),?_,?_⟩
  ·have no:¬(d=2∧st.run=some (!st.mr)∧st.mark (!st.mr)=("trial":Str))→∃as2 tx2,xx a (FLm K g l ns M) G7 B st∧Okb tx2 left size st∧jN G7 (BF (FLm K g l ns M) B) tt ta as2 tx2∧(∀b,(as2 b).length≤i+2)∧G7 ah=some (.tup [.int (bI st.mr),.ref m,.ref ll,.int st.ct,vH st.run])∧G7 m=some (.lst [.str (st.mark false),.str (st.mark true)])∧G7 pn=some (.lst ((p::ps.take 2).map V.ref))∧(∀p'∈p::ps.take 2,vd K G7 p')∧Tbs G7∧(d=2→st.run=some (!st.mr)→st.mark (!st.mr)=("trial":Str)→(st.cells (!st.mr)).take (st.len (!st.mr)).toNat∈tx2 (!st.mr)):=fun z=>
    ⟨as,tx',hB7,hO,hX7,(fun b=>Nat.le_succ_of_le (hfew b)),g1,g2,epn7,hpo7,hT7,fun k1 k2 k3=>absurd ⟨k1,k2,k3⟩ z⟩
   walk_at"w";refine⟨fun b=>?_,fun b=>?_⟩
   ·have b:(d:Int)=2:=of_decide_eq_true b;walk_at"w";refine⟨ah,_,_,.ref m,rfl,rfl,SqT.of g1,rfl,?_⟩;walk_at"w";refine⟨ah,_,_,.int (bI st.mr),rfl,rfl,SqT.of g1,rfl,?_⟩;walk_at"w";refine⟨m,_,_,.str (st.mark (!st.mr)),rfl,rfl,SqL.of g2,atM,?_⟩;walk_at"w";walk_at"ss";refine⟨fun b2=>?_,fun b2=>?_⟩
    ·have b2:st.mark (!st.mr)=("trial":Str):=of_decide_eq_true b2;walk_at"w";refine⟨ah,_,_,vH st.run,rfl,rfl,SqT.of g1,rfl,?_⟩;walk_at"w";refine⟨ah,_,_,.int (bI st.mr),rfl,rfl,SqT.of g1,rfl,?_⟩;walk_at"w";refine⟨_,_,xpY _,.int _,xpZ _,xnf _,?_⟩;rw[xoh];walk_at"w";refine⟨fun b3=>?_,fun b3=>?_⟩
     ·have b3:st.run=some (!st.mr):=of_decide_eq_true b3;walk_at"w";refine⟨ah,_,_,.int (bI st.mr),rfl,rfl,SqT.of g1,rfl,?_⟩;walk_at"w";refine⟨tt,_,_,.ref (ta (!st.mr)),rfl,rfl,SqL.of hX7.top,atT,?_⟩;walk_at"w";refine a6 (.inl ⟨rfl,_,SqL.of (hX7.bank _)⟩) ?_;walk_at"w";refine⟨B.bd,B.dx,_,rfl,hB7.bd,rfl,?_⟩;walk_at"w";refine⟨ah,_,_,.int (bI st.mr),rfl,rfl,SqT.of g1,rfl,?_⟩;walk_at"w";refine⟨FLm K g l ns M,B,st,!st.mr,(by cases st.mr<;> rfl),hB7,(hO.ln _).1,fun y G8 s8 hy ey=>?_⟩;walk_at"w";have hX8:=hX7.same s8;have hB8:=hB7.same s8;have hf8:=hfew (!st.mr);refine⟨ta (!st.mr),_,_,rfl,rfl,hX8.bank _,(by rw[ao,aZ];lia),?_⟩;have mu8:∀z∈[ta (!st.mr)],∃u,G8 z=some u∧jd u:=fun z hz=>by rw[aj.mp hz];exact⟨_,hX8.bank _,trivial⟩
      have k8:∀o,Kp [ta (!st.mr)] G8 (upd G8 (ta (!st.mr)) o):=fun o=>(Kp.of (xf.refl _)).wr (by simp);have nmt:m≠ta (!st.mr):=fun z=>by
       have:=(hXG.same (s05'.trans s6)).bank (!st.mr);rw[←z,hm]at this;cases this
      have npt:pn≠ta (!st.mr):=fun z=>by
       have:=(hXG.same (sG2.trans (sG3.trans sG4))).bank (!st.mr);rw[←z,hpn]at this;cases this
      have nyt:∀c,y≠ta c:=fun c z=>by
       have:=hX7.bank c;rw[←z,hy]at this;cases this
      refine⟨rfl,upB as (!st.mr) (as (!st.mr)++[y]),upB tx' (!st.mr) (tx' (!st.mr)++[(st.cells (!st.mr)).take (st.len (!st.mr)).toNat]),hB8.kp1 (k8 _) (hX8.off.2 _).1 (hbl _) (fun b z=>by have:=(hB8.st b).st;rw[←z,hX8.bank]at this;cases this) ⟨_,hX8.bank _,trivial⟩,hO.more (fun b x hx=>?_),hX8.add ey (by lia) (hB7.nin hy) nyt,fun b=>?_,zX (k8 _) mu8 (s8.at g1),by rw[xl nmt];exact s8.at g2,by rw[xl npt];exact s8.at epn7,fun p' z=>((hpo7 p' z).same s8).kp (k8 _) mu8,(hT7.same s8).kp (k8 _) mu8,fun _ _ _=>by rw[yp];simp⟩
      ·by_cases e:b= !st.mr
       ·rw[e,yp];rw[e]at hx;exact aX _ hx
       ·rw[zH e];exact hx
      ·by_cases e:b= !st.mr
       ·rw[e,yp,aW];show _+1≤_;lia
       ·rw[zH e];exact Nat.le_succ_of_le (hfew b)
     ·have b3:¬st.run=some (!st.mr):=of_decide_eq_false b3;walk_at"w";exact⟨rfl,no fun z=>b3 z.2.1⟩
    ·have b2:¬st.mark (!st.mr)=("trial":Str):=of_decide_eq_false b2;walk_at"w";refine⟨by walk_at"no",fun _=>?_⟩;exact⟨rfl,no fun z=>b2 z.2.2⟩
   ·have b:¬(d:Int)=2:=of_decide_eq_false b;walk_at"w";refine⟨by walk_at"no",fun _=>?_⟩;exact⟨rfl,no fun z=>b (by rw[z.1];rfl)⟩
  rintro σ' G8 ⟨rfl,as2,tx2,hB8,hO8,hX8,hfew8,h1,h2,hpn8,hpo8,hT8,hx8⟩;clear hX7 hB7 hpo7 epn7 hT7 g1 g2 g3 hpo5 epn hp5 hB6 hB1 hXG hO hpo hpl hfew hBG hTG s07 s05' s25 sG1 sG2 sG3 sG4 sG5 s2 s6 s7;walk_at"w";obtain⟨old,o,n',rs,o0,o60,hN,hpA⟩:=hpo8 p (ba ..);obtain⟨f1',f2,f3,f4,f5,f6⟩:=hN.fine o0;have hJ8:PJ K G8 p o n' rs:=⟨hpA,by lia,by lia,by lia,hN.ok o0,f2⟩;have hG8:=hpA.gt hN o0 (by lia);obtain⟨fi,hfi⟩:=hO8.first;have hsz8:=hO8.sz;have hcl8:=hO8.cl (!st.mr);have hdue:(yy rs).length≤600:=by
   obtain⟨_,us,_,_,q3,q4⟩:=hG8;have:=xpT q3;lia
  have hpc:max o n'≤st.size→∀x∈yy rs,xag (st.cells (!st.mr)).length x:=fun hm=>by
   obtain⟨_,us,_,_,q3,q4⟩:=hG8;refine xqU (old:=o) (new:=n') q3 (fun r hr=>?_) (by lia) (by lia);have:=(hN.ok o0 r hr).2;cases r with
   |take to st' c=>exact this
   |put to sg=>exact this
  refine⟨FLm K g l ns M,B,st,p,o,n',rs,fi,d,tot,tries,rfl,xqW T g l ns M,hB8,hT8,hJ8,f1',hfi,hG8,hpc,by lia,hd3,fun tr G9 k9 hB9 e9=>?_⟩;have hA:=after (F:=FLm K g l ns M) (o:=o) (total:=tot) hO8 hfi f3 htr hdue hd3 hx8;generalize vc (FLm K g l ns M) st (yP st d o n' rs fi tot tries)=res at hB9 e9 hA;obtain⟨⟨an,fe⟩,s9⟩:=res;have mu8:=hB8.muF;have h1':=zX k9 mu8 h1;have h2':=k9 _ _ h2 nm;have hX9:=hX8.kp k9;have hpn9:=k9 _ _ hpn8 npn;have hpo9:∀p'∈p::ps.take 2,vd K G9 p':=fun p' z=>(hpo8 p' z).kp k9 mu8;have hT9:=hT8.kp k9 mu8;clear h1 h2 hX8 hpn8 hpo8 hT8 hB8 mu8 hJ8 hG8 hpA hpc;walk_at"w";refine⟨tr,_,rfl,SqT.of e9,rfl,?_⟩;walk_at"w";refine⟨_,_,rfl,?_⟩;walk_at"w";refine⟨_,_,rfl,?_⟩;walk_at"w";refine a6 rfl ?_;walk_at"w";have hB9:xx a (FLm K g l ns M) G9 B s9:=hB9;refine⟨fun σ' G'=>σ'=[some (.ref l),some (.ref tl),some (.int size),some (.ref B.bd),some (.ref tt),some (.ref pn),some (.int left),some (.int last),some (.int kk),some (.int draw),some (.int (d:Int)),some (.ref p),some (.int tot),some (.int tries),some (.ref ah),some an,some fe]∧xf G9 G'∧(fe= .non∨∃c:Int,fe= .int c∧last<c∧c<s9.cnt),?_,?_⟩
  ·rcases hA.fell with rfl|⟨c,rfl,c1,c2,c3⟩
   ·walk_at"w";refine⟨by walk_at"no",fun _=>?_⟩;walk_at"w";refine⟨by walk_at"no",fun _=>?_⟩;exact⟨rfl,xf.refl _,.inl rfl⟩
   ·have c3:s9.run=none:=c3;walk_at"w";refine⟨fun _=>?_,by walk_at"no"⟩;walk_at"w";refine⟨fun b=>absurd (of_decide_eq_true b) (by lia),fun _=>?_⟩;walk_at"w";refine⟨B.bd,B.dx,_,rfl,hB9.bd,rfl,?_⟩;walk_at"w";refine⟨FLm K g l ns M,B,s9,rfl,hB9,fun t1' m1 l1 G10 s10 hm1 hl1 nml1 g1 g2 g3=>?_⟩;walk_at"w";refine⟨t1',_,_,vH s9.run,rfl,rfl,SqT.of g1,rfl,?_⟩;rw[c3];walk_at"w";refine⟨by walk_at"no",fun _=>?_⟩;exact⟨rfl,s10,.inr ⟨c,rfl,by lia,c2⟩⟩
  rintro σ' G10 ⟨rfl,s10,hfe⟩;walk_at"w";refine⟨fun σ' G'=>∃last':Int,σ'=[some (.ref l),some (.ref tl),some (.int size),some (.ref B.bd),some (.ref tt),some (.ref pn),some (.int left),some (.int last'),some (.int kk),some (.int draw),some (.int (d:Int)),some (.ref p),some (.int tot),some (.int tries),some (.ref ah),some an,some fe]∧xf G9 G'∧last'<s9.cnt,?_,?_⟩
  ·rcases hfe with rfl|⟨c,rfl,c1,c2⟩
   ·walk_at"w";refine⟨by walk_at"no",fun _=>?_⟩;exact⟨last,rfl,s10,Int.lt_of_lt_of_le hlast hA.cnt⟩
   ·walk_at"w";refine⟨fun _=>?_,by walk_at"no"⟩;exact⟨c,rfl,s10,c2⟩
  rintro σ' G11 ⟨last',rfl,s11,hlast'⟩;clear s10 hfe;walk_at"w";have atM9:atI [V.str (s9.mark false),V.str (s9.mark true)] (1 - bI s9.mr)=some (.str (s9.mark (!s9.mr))):=by cases s9.mr<;> rfl
  refine⟨fun σ' G'=>∃left':Int,σ'=[some (.ref l),some (.ref tl),some (.int size),some (.ref B.bd),some (.ref tt),some (.ref pn),some (.int left'),some (.int last'),some (.int kk),some (.int draw),some (.int (d:Int)),some (.ref p),some (.int tot),some (.int tries),some (.ref ah),some an,some fe]∧xf G9 G'∧(d≠0→Okb tx2 left' size s9)∧(d=0→left'=left),?_,?_⟩
  ·walk_at"w";refine⟨fun b=>?_,fun b=>?_⟩
   ·have b:(d:Int)=1:=of_decide_eq_true b;have hd1:d=1:=by lia
    have hup:=hA.upd hd1;have hB11:=hB9.same s11;walk_at"w";refine⟨B.bd,B.dx,_,rfl,hB11.bd,rfl,?_⟩;walk_at"w";refine⟨FLm K g l ns M,B,s9,rfl,hB11,fun t1' m1 l1 G12 s12 hm1 hl1 nml1 g1 g2 g3=>?_⟩;walk_at"w";refine⟨t1',_,_,.ref m1,rfl,rfl,SqT.of g1,rfl,?_⟩;walk_at"w";refine⟨B.bd,B.dx,_,rfl,(hB11.same s12).bd,rfl,?_⟩;walk_at"w";refine⟨FLm K g l ns M,B,s9,rfl,hB11.same s12,fun t2' m2 l2 G13 s13 hm2 hl2 nml2 k1 k2 k3=>?_⟩;walk_at"w";refine⟨t2',_,_,.int (bI s9.mr),rfl,rfl,SqT.of k1,rfl,?_⟩;walk_at"w";refine⟨m1,_,_,.str (s9.mark (!s9.mr)),rfl,rfl,SqL.of (s13.at g2),atM9,?_⟩;walk_at"w";walk_at"ss";have s913:=s11.trans (s12.trans s13);refine⟨fun b2=>?_,fun b2=>?_⟩
    ·walk_at"w";refine⟨ah,_,_,.ref m,rfl,rfl,SqT.of (s913.at h1'),rfl,?_⟩;walk_at"w";refine⟨ah,_,_,.int (bI st.mr),rfl,rfl,SqT.of (s913.at h1'),rfl,?_⟩;walk_at"w";refine⟨m,_,_,.str (st.mark (!st.mr)),rfl,rfl,SqL.of (s913.at h2'),atM,?_⟩;walk_at"w";walk_at"ss";refine⟨fun b3=>?_,fun b3=>?_⟩
     ·have b3:¬st.mark (!st.mr)=("trial":Str):=by simpa using b3
      rw[if_neg b3]at hup;exact⟨tries,rfl,s913,fun _=>hup,fun z=>by lia⟩
     ·have b3:st.mark (!st.mr)=("trial":Str):=by simpa using b3
      rw[if_pos b3]at hup;exact⟨left,rfl,s913,fun _=>hup,fun _=>rfl⟩
    ·have b2:¬s9.mark (!s9.mr)=("trial":Str):=of_decide_eq_false b2;walk_at"w";refine⟨by walk_at"no",fun _=>?_⟩;exact⟨left,rfl,s913,fun _=>hup.left (fun z=>absurd z b2),fun _=>rfl⟩
   ·have b:¬(d:Int)=1:=of_decide_eq_false b;walk_at"w";refine⟨by walk_at"no",fun _=>?_⟩;exact⟨left,rfl,s11,fun _=>hA.one (by lia),fun _=>rfl⟩
  rintro σ' G12 ⟨left',rfl,s12,hne0,heq0⟩;clear s11;walk_at"w";refine⟨fun σ' G'=>∃left2:Int,σ'=[some (.ref l),some (.ref tl),some (.int size),some (.ref B.bd),some (.ref tt),some (.ref pn),some (.int left2),some (.int last'),some (.int kk),some (.int draw),some (.int (d:Int)),some (.ref p),some (.int tot),some (.int tries),some (.ref ah),some an,some fe]∧xf G9 G'∧Okb tx2 left2 size s9,?_,?_⟩
  ·walk_at"w";refine⟨fun b=>?_,fun b=>?_⟩
   ·have b:(d:Int)=0:=of_decide_eq_true b;have hd0:d=0:=by lia
    have hl':=heq0 hd0;have hone:=hA.one (by lia);rw[←hl']at hone;rcases hA.ans hd0 with z|⟨b1,z,hb1⟩
    ·have z:an= .non:=z;subst z;walk_at"w";refine⟨by walk_at"no",fun _=>?_⟩;walk_at"w";refine⟨by walk_at"no",fun _=>?_⟩;exact⟨left',rfl,s12,hone⟩
    ·have z:an= .int (bI b1):=z;subst z;walk_at"w";refine⟨fun _=>?_,by walk_at"no"⟩;walk_at"w";refine⟨ah,_,_,.int (bI st.mr),rfl,rfl,SqT.of (s12.at h1'),rfl,?_⟩;walk_at"w";walk_at"ss";refine⟨fun b2=>?_,fun b2=>?_⟩
     ·have hbn:b1≠st.mr:=fun z=>by rw[z]at b2;revert b2;simp
      obtain⟨r1,r2,r3,r4⟩:=hb1 hbn;walk_at"w";walk_at"ss";refine⟨fun b3=>absurd (of_decide_eq_true b3) (by lia),fun _=>?_⟩;walk_at"w";refine⟨ah,_,_,.ref m,rfl,rfl,SqT.of (s12.at h1'),rfl,?_⟩;walk_at"w";have atA:atI [V.str (st.mark false),V.str (st.mark true)] (bI b1)=some (.str (st.mark (!st.mr))):=by rw[r1];cases st.mr<;> rfl
      refine⟨m,_,_,.str (st.mark (!st.mr)),rfl,rfl,SqL.of (s12.at h2'),atA,?_⟩;rw[r2];walk_at"w";refine⟨by walk_at"no",fun _=>?_⟩;exact⟨left' - 1,rfl,s12,by rw[hl'];exact r4⟩
     ·walk_at"w";exact⟨left',rfl,s12,hone⟩
   ·have b:¬(d:Int)=0:=of_decide_eq_false b;walk_at"w";refine⟨by walk_at"no",fun _=>?_⟩;exact⟨left',rfl,s12,hne0 (by lia)⟩
  rintro σ' G13 ⟨left2,rfl,s13,hO13⟩;clear s12;walk_at"w";refine⟨FLm K g l ns M,B,s9,tt,ta,as2,tx2,left2,size,rfl,hB9.same s13,hO13,hX9.same s13,fun G14 s14=>?_⟩;walk_at"w";refine⟨by walk_at"no",fun _=>?_⟩;have s914:=s13.trans s14;exact⟨s9,pn,p::ps.take 2,as2,tx2,left2,last',_,_,_,_,_,_,_,_,_,rfl,hB9.same s914,hO13,hX9.same s914,hfew8,s914.at hpn9,(by rw[bD,bQ];lia),fun p' z=>(hpo9 p' z).same s914,hlast',hT9.same s914⟩
end
abbrev NI(K:ag)(x:Str)(f:Addr):Prop:=g8 K bf x=some (some (.ref f))
abbrev NN(K:ag)(x:Str):Prop:=g8 K bf x=some none
def FL(K:ag)(x q:Str)(st:Stmt)(f:Addr):Prop:=∃fd,Fun K x q st f fd
theorem yn{n:Nat}{us:List Value}(h:us.length=n+1):∃u r,us=u::r∧r.length=n:=by
 cases us with
 |nil=>cases h
 |cons u r=>exact⟨u,r,rfl,Nat.succ.inj h⟩
theorem xcQ{us:List Value}(h:us.length=0):us=[]:=List.length_eq_zero_iff.mp h
theorem bn1{K:ag}{x q:Str}{st:Stmt}{f:Addr}{fd:aq}{p1:Str}(F:Fun K x q st f fd)(h:∀(kV doc pm:Value) (an:Option Addr) (cdv ct u1:Value),dX (bX x q (xY st) (xI st) (xh st) .none kV doc pm an cdv ct) ⟨[u1],[]⟩=pure [(p1,u1)]:=by intros;exact rfl):Binds K fd [p1] []:=by
 refine F.binds fun kV doc pm an cdv ct us hl=>?_;obtain⟨u1,r1,rfl,k1⟩:=yn hl;obtain rfl:=xcQ k1;exact h kV doc pm an cdv ct u1
theorem bn2{K:ag}{x q:Str}{st:Stmt}{f:Addr}{fd:aq}{p1 p2:Str}(F:Fun K x q st f fd)(h:∀(kV doc pm:Value) (an:Option Addr) (cdv ct u1 u2:Value),dX (bX x q (xY st) (xI st) (xh st) .none kV doc pm an cdv ct) ⟨[u1,u2],[]⟩=pure [(p1,u1),(p2,u2)]:=by intros;exact rfl):Binds K fd [p1,p2] []:=by
 refine F.binds fun kV doc pm an cdv ct us hl=>?_;obtain⟨u1,r1,rfl,k1⟩:=yn hl;obtain⟨u2,r2,rfl,k2⟩:=yn k1;obtain rfl:=xcQ k2;exact h kV doc pm an cdv ct u1 u2
theorem bn3{K:ag}{x q:Str}{st:Stmt}{f:Addr}{fd:aq}{p1 p2 p3:Str}(F:Fun K x q st f fd)(h:∀(kV doc pm:Value) (an:Option Addr) (cdv ct u1 u2 u3:Value),dX (bX x q (xY st) (xI st) (xh st) .none kV doc pm an cdv ct) ⟨[u1,u2,u3],[]⟩=pure [(p1,u1),(p2,u2),(p3,u3)]:=by intros;exact rfl):Binds K fd [p1,p2,p3] []:=by
 refine F.binds fun kV doc pm an cdv ct us hl=>?_;obtain⟨u1,r1,rfl,k1⟩:=yn hl;obtain⟨u2,r2,rfl,k2⟩:=yn k1;obtain⟨u3,r3,rfl,k3⟩:=yn k2;obtain rfl:=xcQ k3;exact h kV doc pm an cdv ct u1 u2 u3
theorem bn4{K:ag}{x q:Str}{st:Stmt}{f:Addr}{fd:aq}{p1 p2 p3 p4:Str}(F:Fun K x q st f fd)(h:∀(kV doc pm:Value) (an:Option Addr) (cdv ct u1 u2 u3 u4:Value),dX (bX x q (xY st) (xI st) (xh st) .none kV doc pm an cdv ct) ⟨[u1,u2,u3,u4],[]⟩=pure [(p1,u1),(p2,u2),(p3,u3),(p4,u4)]:=by intros;exact rfl):Binds K fd [p1,p2,p3,p4] []:=by
 refine F.binds fun kV doc pm an cdv ct us hl=>?_;obtain⟨u1,r1,rfl,k1⟩:=yn hl;obtain⟨u2,r2,rfl,k2⟩:=yn k1;obtain⟨u3,r3,rfl,k3⟩:=yn k2;obtain⟨u4,r4,rfl,k4⟩:=yn k3;obtain rfl:=xcQ k4;exact h kV doc pm an cdv ct u1 u2 u3 u4
theorem bn5{K:ag}{x q:Str}{st:Stmt}{f:Addr}{fd:aq}{p1 p2 p3 p4 p5:Str}(F:Fun K x q st f fd)(h:∀(kV doc pm:Value) (an:Option Addr) (cdv ct u1 u2 u3 u4 u5:Value),dX (bX x q (xY st) (xI st) (xh st) .none kV doc pm an cdv ct) ⟨[u1,u2,u3,u4,u5],[]⟩=pure [(p1,u1),(p2,u2),(p3,u3),(p4,u4),(p5,u5)]:=by intros;exact rfl):Binds K fd [p1,p2,p3,p4,p5] []:=by
 refine F.binds fun kV doc pm an cdv ct us hl=>?_;obtain⟨u1,r1,rfl,k1⟩:=yn hl;obtain⟨u2,r2,rfl,k2⟩:=yn k1;obtain⟨u3,r3,rfl,k3⟩:=yn k2;obtain⟨u4,r4,rfl,k4⟩:=yn k3;obtain⟨u5,r5,rfl,k5⟩:=yn k4;obtain rfl:=xcQ k5;exact h kV doc pm an cdv ct u1 u2 u3 u4 u5
theorem xqZ{l:W.OpenLaw}{w:World}{K:ag}{h:Heap}{mg:Str→Option Value}{fa:Addr}{q07 q2l q06 q0O q13 q1M q1N q1B q1C q0G q0Y q3t q2m q14 q1O q1P q1h q3C q3y q2b q2s q2t q3a q1l q2Y q2u q3L q1b q1m q1n q2n q3M q1H q2v q0W q1c q1o q3b q2w q2o q0L q0q q1p q1Q q08 q1R q1D q1E q1S q0m q0y q1q q09 q0Q q1r q0J q1T q1U q0C q0u q0v q0r q0w q0s q0H q0R q0x q3c q3d q3N q4l q2x q3O q3e q4m q3P q3Q q3R q4s q2Z q0c q0f q0i q0e q0b q1s q0d q00 q0Z q0B q0M q0k q1I:Addr}{q4N:Tok}{q4y:Addr}{q4X:Option Addr}{q49:Nat}{q4Y:Array (Option Value)}{q4Z:Value}{q4z:Addr}{q40:Option Addr}{q5a:Nat}{q41:Array (Option Value)}{q42:Value}{q68 q69 q7a q7b q7c q7d q7e q7f q7g q7h q7i q7j q7k q7l q7m q7n q7o q7p q7q q7r:Option Addr}{q7s q7t q7u q7v q7w q7x q7y q7z q7A q7B:Array (Option Value)}{q7C q7D q7E q7F q7G q7H q7I q7J q7K q6A q7L q7M q7N q7O q7P q7Q q7R q7S q7T q7U q7V q7W q7X q7Y q7Z q6B q70 q71 q72 q73 q74 q75 q76 q77 q78 q79 q8a q8b q8c q8d q8e q8f q8g q8h q8i q8j q8k q8l q8m q8n q8o q8p:Value}(X:K.In h)(G:h.Ns bf mg)(hfa:mg "law"=some (.ref fa))
  (q6C:NI K "Row" q2Z)
  (q6b:NI K "Take" q0c)
  (q6D:NI K "Put" q0f)
  (q6E:NI K "Pen" q0i)
  (q52:NI K "Store" q0e)
  (q53:NI K "Board" q0b)
  (q6c:NI K "Down" q1s)
  (q5S:NI K "Fallen" q0d)
  (q54:NI K "NoRow" q00)
  (q5F:NI K "NoTrial" q0Z)
  (q5l:NI K "NoWayBack" q0B)
  (q5G:NI K "OnTrial" q0M)
  (q5m:NI K "RoomError" q0k)
  (q55:NI K "Unfit" q1I)
  (q5i:gK K q1s L2.xbh "ValueError.__new__"=true)
  (q2R:a5 K (.ref q1s) (.ref q0d)=some false)
  (q4x:a5 K (.ref q1s) (.ref q00)=some false)
  (q10:a5 K (.ref q1s) (.ref q0k)=some true)
  (q3k:xcd K q0d q07)
  (q0K:xG K q0d "count")
  (q1g:a5 K (.ref q0d) (.ref q0d)=some true)
  (q4t:a5 K (.ref q0d) (.ref q00)=some false)
  (q3K:a5 K (.ref q0d) (.ref q0k)=some true)
  (q3l:xls K q0d)
  (q4B:gK K q0Z L2.xbh "ValueError.__new__"=true)
  (q3r:a5 K (.ref q0Z) (.ref q0d)=some false)
  (q4o:a5 K (.ref q0Z) (.ref q00)=some false)
  (q20:a5 K (.ref q0Z) (.ref q0k)=some true)
  (q4v:gK K q0B L2.xbh "ValueError.__new__"=true)
  (q29:a5 K (.ref q0B) (.ref q0d)=some false)
  (q4c:a5 K (.ref q0B) (.ref q00)=some false)
  (q2D:a5 K (.ref q0B) (.ref q0k)=some true)
  (q4C:gK K q0M L2.xbh "ValueError.__new__"=true)
  (q3s:a5 K (.ref q0M) (.ref q0d)=some false)
  (q4p:a5 K (.ref q0M) (.ref q00)=some false)
  (q21:a5 K (.ref q0M) (.ref q0k)=some true)
  (q4D:gK K q1I L2.xbh "ValueError.__new__"=true)
  (q3G:a5 K (.ref q1I) (.ref q0d)=some false)
  (q4w:a5 K (.ref q1I) (.ref q00)=some false)
  (q3m:a5 K (.ref q1I) (.ref q0k)=some true)
  (q4u:fX K q0d (.type "BaseException")=some true)
  (q5j:fX K q00 (.type "BaseException")=some true)
  (q4q:fX K q0k (.type "BaseException")=some true)
  (q6s:aM K (.ref q0d) "__init__"=some (some (.ref q07)))
  (q1Y:FL K "__init__" "Fallen.__init__" xaz q07)
  (q61:aM K (.ref q2Z) "__init__"=some (some (.ref q2l)))
  (q3o:FL K "__init__" "Row.__init__" xc1 q2l)
  (q6F:aM K (.ref q2Z) "covers"=some (some (.ref q06)))
  (q2E:FL K "covers" "Row.covers" xbj q06)
  (q6t:aM K (.ref q2Z) "covered"=some (some (.ref q0O)))
  (q2e:FL K "covered" "Row.covered" xaA q0O)
  (q6Y:aM K (.ref q0c) "__init__"=some (some (.ref q13)))
  (q26:FL K "__init__" "Take.__init__" xce q13)
  (q6G:aM K (.ref q0c) "stays"=some (some (.ref q1M)))
  (q2F:FL K "stays" "Take.stays" xbk q1M)
  (q6H:aM K (.ref q0c) "reads"=some (some (.ref q1N)))
  (q2G:FL K "reads" "Take.reads" xbl q1N)
  (q6u:aM K (.ref q0c) "writes"=some (some (.ref q1B)))
  (q2f:FL K "writes" "Take.writes" xaB q1B)
  (q6v:aM K (.ref q0c) "pieces"=some (some (.ref q1C)))
  (q2g:FL K "pieces" "Take.pieces" xaC q1C)
  (q5Z:aM K (.ref q0c) "source_for"=some (some (.ref q0G)))
  (q1z:FL K "source_for" "Take.source_for" vz q0G)
  (q59:aM K (.ref q0c) "sign_for"=some (some (.ref q0Y)))
  (q1X:FL K "sign_for" "Take.sign_for" jo q0Y)
  (q6Z:aM K (.ref q0c) "told"=some (some (.ref q3t)))
  (q3u:FL K "told" "Take.told" xe0 q3t)
  (q62:aM K (.ref q0f) "__init__"=some (some (.ref q2m)))
  (q3p:FL K "__init__" "Put.__init__" xc2 q2m)
  (q60:aM K (.ref q0f) "reads"=some (some (.ref q14)))
  (q27:FL K "reads" "Put.reads" xcf q14)
  (q6I:aM K (.ref q0f) "writes"=some (some (.ref q1O)))
  (q2H:FL K "writes" "Put.writes" xbm q1O)
  (q6J:aM K (.ref q0f) "pieces"=some (some (.ref q1P)))
  (q2I:FL K "pieces" "Put.pieces" xbn q1P)
  (q6d:aM K (.ref q0f) "sign_for"=some (some (.ref q1h)))
  (q17:FL K "sign_for" "Put.sign_for" xaa q1h)
  (q63:aM K (.ref q0f) "told"=some (some (.ref q3C)))
  (q3D:FL K "told" "Put.told" xga q3C)
  (q56:NI K "row_of" q3y)
  (q1Z:FL K "row_of" "row_of" xfp q3y)
  (q5n:NI K "tells_take" q2b)
  (q2c:FL K "tells_take" "tells_take" xbo q2b)
  (q5w:NI K "tells_put" q2s)
  (q2y:FL K "tells_put" "tells_put" xcg q2s)
  (q5x:NI K "are_signs" q2t)
  (q2z:FL K "are_signs" "are_signs" xch q2t)
  (q5T:NI K "is_sign" q3a)
  (q3f:FL K "is_sign" "is_sign" xdZ q3a)
  (q4Q:NI K "is_whole_from" q1l)
  (q0t:FL K "is_whole_from" "is_whole_from" jq q1l)
  (q5H:NI K "is_whole" q2Y)
  (q2p:FL K "is_whole" "is_whole" xc3 q2Y)
  (q5y:NI K "pieces_of" q2u)
  (q2A:FL K "pieces_of" "pieces_of" xci q2u)
  (q6e:NI K "go_on" q3L)
  (q3S:FL K "go_on" "go_on" xgX q3L)
  (q4L:NI K "refuse_lengths" q1b)
  (q1d:FL K "refuse_lengths" "refuse_lengths" vV q1b)
  (q4R:NI K "refuse_beyond" q1m)
  (q1t:FL K "refuse_beyond" "refuse_beyond" jr q1m)
  (q4S:NI K "places_needed" q1n)
  (q1u:FL K "places_needed" "places_needed" jt q1n)
  (q5I:NI K "do_piece" q2n)
  (q37:zS K q1k zC)
  (q5J:K.lookup q2n=some ⟨q7C,q68,.func (bX "do_piece" "do_piece" (xY ud) (xI ud) (xh ud) .none q7D q7E q7F q69 (.ref q1k) q7G),q7s⟩)
  (q1k:cG K (.ref q1k) "do_piece"=true)
  (q5K:bW K (.ref q2n)=true)
  (q6f:NI K "judge" q3M)
  (q3T:FL K "judge" "judge" xgY q3M)
  (q43:NI K "fits_in_size" q1H)
  (q1J:FL K "fits_in_size" "fits_in_size" xab q1H)
  (q5z:NI K "is_length" q2v)
  (q15:FL K "is_length" "is_length" xcj q2v)
  (q4G:NI K "first_wrong_row" q0W)
  (q0X:FL K "first_wrong_row" "first_wrong_row" vA q0W)
  (q4M:NI K "is_fitting_row" q1c)
  (q1e:FL K "is_fitting_row" "is_fitting_row" vW q1c)
  (q4T:NI K "covered_twice" q1o)
  (q1v:FL K "covered_twice" "covered_twice" ju q1o)
  (q5U:NI K "lacking" q3b)
  (q3g:FL K "lacking" "lacking" xd0 q3b)
  (q5A:NI K "read_late" q2w)
  (q2B:FL K "read_late" "read_late" xck q2w)
  (q64:aM K (.ref q0i) "__init__"=some (some (.ref q2o)))
  (q3q:FL K "__init__" "Pen.__init__" xc4 q2o)
  (q57:aM K (.ref q0i) "write_into"=some (some (.ref q0L)))
  (q1K:FL K "write_into" "Pen.write_into" vX q0L)
  (q5L:aM K (.ref q0i) "answer_of_fall"=some (some (.ref q0q)))
  (q0S:FL K "answer_of_fall" "Pen.answer_of_fall" ue q0q)
  (q6K:aM K (.ref q0e) "__init__"=some (some (.ref q1p)))
  (q5o:K.lookup q1p=some ⟨q7H,q7a,.func (bX "__init__" "Store.__init__" (xY zT) (xI zT) (xh zT) (.ref q4y) q7I q7J q7K q7b q6A q7L),q7t⟩)
  (q5b:K.lookup q4y=some ⟨q4Z,q4X,.seq #[.none] q49,q4Y⟩)
  (q5p:cG K q6A "Store.__init__"=true)
  (q5q:bW K (.ref q1p)=true)
  (q6L:aM K (.ref q0e) "read"=some (some (.ref q1Q)))
  (q2J:FL K "read" "Store.read" xbp q1Q)
  (q6w:aM K (.ref q0e) "write"=some (some (.ref q08)))
  (q3U:zS K q0N yU)
  (q5c:K.lookup q08=some ⟨q7M,q7c,.func (bX "write" "Store.write" (xY yT) (xI yT) (xh yT) .none q7N q7O q7P q7d (.ref q0N) q7Q),q7u⟩)
  (q0N:cG K (.ref q0N) "Store.write"=true)
  (q5d:bW K (.ref q08)=true)
  (q6M:aM K (.ref q0e) "mark"=some (some (.ref q1R)))
  (q2K:FL K "mark" "Store.mark" xbq q1R)
  (q6x:aM K (.ref q0e) "noted"=some (some (.ref q1D)))
  (q2h:FL K "noted" "Store.noted" xaD q1D)
  (q6y:aM K (.ref q0e) "begin"=some (some (.ref q1E)))
  (q2i:FL K "begin" "Store.begin" xaE q1E)
  (q6N:aM K (.ref q0e) "told"=some (some (.ref q1S)))
  (q2L:FL K "told" "Store.told" xbr q1S)
  (q5B:aM K (.ref q0e) "refuse_lacking"=some (some (.ref q0m)))
  (q0F:FL K "refuse_lacking" "Store.refuse_lacking" zJ q0m)
  (q50:aM K (.ref q0e) "note_down"=some (some (.ref q0y)))
  (q3h:zS K q0p yk)
  (q4H:K.lookup q0y=some ⟨q7R,q7e,.func (bX "note_down" "Store.note_down" (xY yj) (xI yj) (xh yj) .none q7S q7T q7U q7f (.ref q0p) q7V),q7v⟩)
  (q0p:cG K (.ref q0p) "Store.note_down"=true)
  (q4I:bW K (.ref q0y)=true)
  (q6O:aM K (.ref q0b) "__init__"=some (some (.ref q1q)))
  (q5r:K.lookup q1q=some ⟨q7W,q7g,.func (bX "__init__" "Board.__init__" (xY zU) (xI zU) (xh zU) (.ref q4z) q7X q7Y q7Z q7h q6B q70),q7w⟩)
  (q5e:K.lookup q4z=some ⟨q42,q40,.seq #[.none] q5a,q41⟩)
  (q5s:cG K q6B "Board.__init__"=true)
  (q5t:bW K (.ref q1q)=true)
  (q6z:aM K (.ref q0b) "start"=some (some (.ref q09)))
  (q2j:FL K "start" "Board.start" xaF q09)
  (q6g:aM K (.ref q0b) "update"=some (some (.ref q0Q)))
  (q3E:zS K q0D yF)
  (q44:K.lookup q0Q=some ⟨q71,q7i,.func (bX "update" "Board.update" (xY yD) (xI yD) (xh yD) .none q72 q73 q74 q7j (.ref q0D) q75),q7x⟩)
  (q0D:cG K (.ref q0D) "Board.update"=true)
  (q45:bW K (.ref q0Q)=true)
  (q6P:aM K (.ref q0b) "fine"=some (some (.ref q1r)))
  (q4d:zS K q05 zm)
  (q5u:K.lookup q1r=some ⟨q76,q7k,.func (bX "fine" "Board.fine" (xY zk) (xI zk) (xh zk) .none q77 q78 q79 q7l (.ref q05) q8a),q7y⟩)
  (q05:cG K (.ref q05) "Board.fine"=true)
  (q5v:bW K (.ref q1r)=true)
  (q6a:aM K (.ref q0b) "go_back"=some (some (.ref q0J)))
  (q3z:zS K q0A yv)
  (q4U:K.lookup q0J=some ⟨q8b,q7m,.func (bX "go_back" "Board.go_back" (xY yu) (xI yu) (xh yu) .none q8c q8d q8e q7n (.ref q0A) q8f),q7z⟩)
  (q0A:cG K (.ref q0A) "Board.go_back"=true)
  (q4V:bW K (.ref q0J)=true)
  (q6Q:aM K (.ref q0b) "text"=some (some (.ref q1T)))
  (q2M:FL K "text" "Board.text" xbs q1T)
  (q6R:aM K (.ref q0b) "told"=some (some (.ref q1U)))
  (q2N:FL K "told" "Board.told" xbt q1U)
  (q5V:aM K (.ref q0b) "other_bank"=some (some (.ref q0C)))
  (q1i:FL K "other_bank" "Board.other_bank" uV q0C)
  (q5O:aM K (.ref q0b) "bank_to_run"=some (some (.ref q0u)))
  (q01:FL K "bank_to_run" "Board.bank_to_run" uA q0u)
  (q5P:aM K (.ref q0b) "refuse_down"=some (some (.ref q0v)))
  (q02:FL K "refuse_down" "Board.refuse_down" uB q0v)
  (q5M:aM K (.ref q0b) "refuse_paper"=some (some (.ref q0r)))
  (q0T:FL K "refuse_paper" "Board.refuse_paper" uf q0r)
  (q5Q:aM K (.ref q0b) "holds_elder"=some (some (.ref q0w)))
  (q03:FL K "holds_elder" "Board.holds_elder" uC q0w)
  (q5N:aM K (.ref q0b) "put_on_trial"=some (some (.ref q0s)))
  (q0U:FL K "put_on_trial" "Board.put_on_trial" ug q0s)
  (q51:aM K (.ref q0b) "make_good"=some (some (.ref q0H)))
  (q1A:FL K "make_good" "Board.make_good" vB q0H)
  (q6h:aM K (.ref q0b) "change"=some (some (.ref q0R)))
  (q3F:zS K q0E yG)
  (q46:K.lookup q0R=some ⟨q8g,q7o,.func (bX "change" "Board.change" (xY yE) (xI yE) (xh yE) .none q8h q8i q8j q7p (.ref q0E) q8k),q7A⟩)
  (q0E:cG K (.ref q0E) "Board.change"=true)
  (q47:bW K (.ref q0R)=true)
  (q5R:aM K (.ref q0b) "run_or_fall"=some (some (.ref q0x)))
  (q04:FL K "run_or_fall" "Board.run_or_fall" uD q0x)
  (q5W:NI K "bank_of" q3c)
  (q2W:FL K "bank_of" "bank_of" xd1 q3c)
  (q5X:NI K "_law_cell_at" q3d)
  (q16:FL K "_law_cell_at" "_law_cell_at" xd2 q3d)
  (q6i:NI K "_law_mixed" q3N)
  (q1j:FL K "_law_mixed" "_law_mixed" xgZ q3N)
  (q6S:NI K "_law_text" q4l)
  (q4b:FL K "_law_text" "_law_text" xiQ q4l)
  (q5C:NI K "_law_new_paper" q2x)
  (q2C:FL K "_law_new_paper" "_law_new_paper" xcl q2x)
  (q6j:NI K "_law_meant" q3O)
  (q3V:FL K "_law_meant" "_law_meant" xg0 q3O)
  (q5Y:NI K "_law_fall_at" q3e)
  (q3i:FL K "_law_fall_at" "_law_fall_at" xd3 q3e)
  (q6T:NI K "_law_deed" q4m)
  (q4n:FL K "_law_deed" "_law_deed" xiR q4m)
  (q6k:NI K "_law_paper" q3P)
  (q3W:FL K "_law_paper" "_law_paper" xg1 q3P)
  (q6l:NI K "_law_total" q3Q)
  (q3X:FL K "_law_total" "_law_total" xg2 q3Q)
  (q6m:NI K "_law_right" q3R)
  (q3Y:FL K "_law_right" "_law_right" xg3 q3R)
  (q65:NI K "law" q4s)
  (q5g:zS K q36 xeI)
  (q66:K.lookup q4s=some ⟨q8l,q7q,.func (bX "law" "law" (xY xc5) (xI xc5) (xh xc5) .none q8m q8n q8o q7r (.ref q36) q8p),q7B⟩)
  (q36:cG K (.ref q36) "law"=true)
  (q67:bW K (.ref q4s)=true)
  (q58:Cls K q2Z)
  (q4A:xG K q2Z "count")
  (q48:xG K q2Z "to")
  (q0g:Cls K q0c)
  (q0P:xG K q0c "count")
  (q0z:xG K q0c "source")
  (q0V:xG K q0c "to")
  (q4W:Mk K q0c q13)
  (q1F:Cls K q0f)
  (q1V:xG K q0f "count")
  (q3j:xG K q0f "signs")
  (q2X:xG K q0f "to")
  (q5h:Mk K q0f q2m)
  (q3v:Cls K q0i)
  (q2O:xG K q0i "asked")
  (q38:xG K q0i "fall")
  (q4O:Mk K q0i q2o)
  (q0l:Cls K q0e)
  (q1L:xG K q0e "cells")
  (q18:xG K q0e "notes")
  (q2d:xG K q0e "pen")
  (q4J:Mk K q0e q1p)
  (q0a:Cls K q0b)
  (q2P:xG K q0b "banks")
  (q1f:xG K q0b "lengths")
  (q0h:xG K q0b "marks")
  (q2Q:xG K q0b "pen")
  (q0o:xG K q0b "running")
  (q0j:xG K q0b "settings")
  (q3w:xG K q0b "size")
  (q4K:Mk K q0b q1q)
  (q22:Meth K q0b "bank_to_run" q0u)
  (q0n:Meth K q0b "change" q0R)
  (q4e:Meth K q0b "fine" q1r)
  (q3A:Meth K q0b "go_back" q0J)
  (q23:Meth K q0b "holds_elder" q0w)
  (q3n:Meth K q0b "make_good" q0H)
  (q0I:Meth K q0b "other_bank" q0C)
  (q2S:Meth K q0b "put_on_trial" q0s)
  (q1w:Meth K q0b "refuse_down" q0v)
  (q2T:Meth K q0b "refuse_paper" q0r)
  (q1x:Meth K q0b "run_or_fall" q0x)
  (q3Z:Meth K q0b "start" q09)
  (q2k:Meth K q0b "text" q1T)
  (q1a:Meth K q0b "told" q1U)
  (q3I:Meth K q0b "update" q0Q)
  (q2U:Meth K q0i "answer_of_fall" q0q)
  (q11:Meth K q0i "write_into" q0L)
  (q19:Meth K q0f "covered" q0O)
  (q4f:Meth K q0f "covers" q06)
  (q4g:Meth K q0f "pieces" q1P)
  (q4r:Meth K q0f "reads" q14)
  (q3J:Meth K q0f "sign_for" q1h)
  (q4h:Meth K q0f "writes" q1O)
  (q30:Meth K q0e "begin" q1E)
  (q4i:Meth K q0e "mark" q1R)
  (q1W:Meth K q0e "note_down" q0y)
  (q31:Meth K q0e "noted" q1D)
  (q4j:Meth K q0e "read" q1Q)
  (q1G:Meth K q0e "refuse_lacking" q0m)
  (q3x:Meth K q0e "told" q1S)
  (q32:Meth K q0e "write" q08)
  (q2q:Meth K q0c "covered" q0O)
  (q33:Meth K q0c "covers" q06)
  (q34:Meth K q0c "pieces" q1C)
  (q4k:Meth K q0c "reads" q1N)
  (q3B:Meth K q0c "sign_for" q0Y)
  (q2r:Meth K q0c "source_for" q0G)
  (q24:Meth K q0c "stays" q1M)
  (q35:Meth K q0c "writes" q1B)
  (q4a:xny K q2Z "__init__" q2l)
  (q6U:aM K (.ref q0f) "__class__"=some (some (.builtin "object.__class__")))
  (q6V:ip K (.builtin "object.__class__") "__get__"=some (some (.builtin "getset_descriptor.__get__")))
  (q6W:W.takesIn K (.builtin "object.__class__")=some true)
  (q6X:fX K q0f (.type "object")=some true)
  (q6n:aM K (.ref q0c) "__class__"=some (some (.builtin "object.__class__")))
  (q6o:ip K (.builtin "object.__class__") "__get__"=some (some (.builtin "getset_descriptor.__get__")))
  (q6p:W.takesIn K (.builtin "object.__class__")=some true)
  (q6q:fX K q0c (.type "object")=some true)
  (q39:gM K (.ref q0f) (.ref q0c)=some false)
  (q3H:gM K (.ref q0c) (.ref q0c)=some true)
  (q6r:g8 K bf "MOST"=some (some (.int 300 q4N)))
  (q5D:NN K "abs")
  (q5E:NN K "all")
  (q5k:NN K "bool")
  (q28:NN K "enumerate")
  (q4P:NN K "int")
  (q1y:NN K "isinstance")
  (q12:NN K "len")
  (q25:NN K "list")
  (q4E:NN K "max")
  (q4F:NN K "min")
  (q2a:NN K "range")
  (q5f:NN K "sum")
  (q2V:NN K "tuple")
  :∃fd:aq,(∀(s:aa) (v:Value),iy s fd ⟨[v],[]⟩ [("_law_script",v)])∧∀base:Heap,K.In base→base.Ns bf mg→xy l.prog w K mg base CX0 14 fa fd ["_law_script"] (xjI K):=by
 have e:=hfa.symm.trans (W.mg_of X G q65);have e2:q4s=fa:=by injection e with e;injection e with e;exact e.symm
 subst e2;obtain⟨_,q1Y⟩:=q1Y;obtain⟨_,q3o⟩:=q3o;obtain⟨_,q2E⟩:=q2E;obtain⟨_,q2e⟩:=q2e;obtain⟨_,q26⟩:=q26;obtain⟨_,q2F⟩:=q2F;obtain⟨_,q2G⟩:=q2G;obtain⟨_,q2f⟩:=q2f;obtain⟨_,q2g⟩:=q2g;obtain⟨_,q1z⟩:=q1z;obtain⟨_,q1X⟩:=q1X;obtain⟨_,q3u⟩:=q3u;obtain⟨_,q3p⟩:=q3p;obtain⟨_,q27⟩:=q27;obtain⟨_,q2H⟩:=q2H;obtain⟨_,q2I⟩:=q2I;obtain⟨_,q17⟩:=q17;obtain⟨_,q3D⟩:=q3D;obtain⟨_,q1Z⟩:=q1Z;obtain⟨_,q2c⟩:=q2c;obtain⟨_,q2y⟩:=q2y;obtain⟨_,q2z⟩:=q2z;obtain⟨_,q3f⟩:=q3f;obtain⟨_,q0t⟩:=q0t;obtain⟨_,q2p⟩:=q2p;obtain⟨_,q2A⟩:=q2A;obtain⟨_,q3S⟩:=q3S;obtain⟨_,q1d⟩:=q1d;obtain⟨_,q1t⟩:=q1t;obtain⟨_,q1u⟩:=q1u;have jD:=jn (st:=ud) q5J q1k q5K;obtain⟨_,q3T⟩:=q3T;obtain⟨_,q1J⟩:=q1J;obtain⟨_,q15⟩:=q15;obtain⟨_,q0X⟩:=q0X;obtain⟨_,q1e⟩:=q1e;obtain⟨_,q1v⟩:=q1v;obtain⟨_,q3g⟩:=q3g;obtain⟨_,q2B⟩:=q2B;obtain⟨_,q3q⟩:=q3q;obtain⟨_,q1K⟩:=q1K;obtain⟨_,q0S⟩:=q0S;have uX:=xkw (st:=zT) (ds:=[.none]) q5o q5p q5q q5b;have xea:=uX.binds (ps:=["self","cells","fall"]) (es:=[]) 3 rfl fun _ _ _ _ _ _ _ us hl=>match us,hl with|[_,_,_],_=>⟨_,rfl,rfl⟩
 have xaL:=uX.binds (ps:=["self","cells","fall"]) (es:=[.none]) 2 rfl fun _ _ _ _ _ _ _ us hl=>match us,hl with|[_,_],_=>⟨_,rfl,rfl⟩
 obtain⟨_,q2J⟩:=q2J;have vT:=jn (st:=yT) q5c q0N q5d;obtain⟨_,q2K⟩:=q2K;obtain⟨_,q2h⟩:=q2h;obtain⟨_,q2i⟩:=q2i;obtain⟨_,q2L⟩:=q2L;obtain⟨_,q0F⟩:=q0F;have zN:=jn (st:=yj) q4H q0p q4I;have uY:=xkw (st:=zU) (ds:=[.none]) q5r q5s q5t q5e;have xbG:=uY.binds (ps:=["self","text","size","fall"]) (es:=[]) 4 rfl fun _ _ _ _ _ _ _ us hl=>match us,hl with|[_,_,_,_],_=>⟨_,rfl,rfl⟩
 have xdr:=uY.binds (ps:=["self","text","size","fall"]) (es:=[.none]) 3 rfl fun _ _ _ _ _ _ _ us hl=>match us,hl with|[_,_,_],_=>⟨_,rfl,rfl⟩
 obtain⟨_,q2j⟩:=q2j;have vp:=jn (st:=yD) q44 q0D q45;have jE:=jn (st:=zk) q5u q05 q5v;have uP:=jn (st:=yu) q4U q0A q4V;obtain⟨_,q2M⟩:=q2M;obtain⟨_,q2N⟩:=q2N;obtain⟨_,q1i⟩:=q1i;obtain⟨_,q01⟩:=q01;obtain⟨_,q02⟩:=q02;obtain⟨_,q0T⟩:=q0T;obtain⟨_,q03⟩:=q03;obtain⟨_,q0U⟩:=q0U;obtain⟨_,q1A⟩:=q1A;have vq:=jn (st:=yE) q46 q0E q47;obtain⟨_,q04⟩:=q04;obtain⟨_,q2W⟩:=q2W;obtain⟨_,q16⟩:=q16;obtain⟨_,q1j⟩:=q1j;obtain⟨_,q4b⟩:=q4b;obtain⟨_,q2C⟩:=q2C;obtain⟨_,q3V⟩:=q3V;obtain⟨_,q3i⟩:=q3i;obtain⟨_,q4n⟩:=q4n;obtain⟨_,q3W⟩:=q3W;obtain⟨_,q3X⟩:=q3X;obtain⟨_,q3Y⟩:=q3Y;have xit:=jn (st:=xc5) q66 q36 q67;have g {x v} (q:g8 K bf x=some (some v)):=W.mg_of X G q;have g0 {x} (q:g8 K bf x=some none):=W.mg_none_of X G q;have T:Txt K mg ⟨q07,_,q2l,_,q06,_,q0O,_,q13,_,q1M,_,q1N,_,q1B,_,q1C,_,q0G,_,q0Y,_,q3t,_,q2m,_,q14,_,q1O,_,q1P,_,q1h,_,q3C,_,q3y,_,q2b,_,q2s,_,q2t,_,q3a,_,q1l,_,q2Y,_,q2u,_,q3L,_,q1b,_,q1m,_,q1n,_,q2n,_,q3M,_,q1H,_,q2v,_,q0W,_,q1c,_,q1o,_,q3b,_,q2w,_,q2o,_,q0L,_,q0q,_,q1p,_,q1Q,_,q08,_,q1R,_,q1D,_,q1E,_,q1S,_,q0m,_,q0y,_,q1q,_,q09,_,q0Q,_,q1r,_,q0J,_,q1T,_,q1U,_,q0C,_,q0u,_,q0v,_,q0r,_,q0w,_,q0s,_,q0H,_,q0R,_,q0x,_,q3c,_,q3d,_,q3N,_,q4l,_,q2x,_,q3O,_,q3e,_,q4m,_,q3P,_,q3Q,_,q3R,_,q4s,_,q2Z,q0c,q0f,q0i,q0e,q0b,q1s,q0d,q00,q0Z,q0B,q0M,q0k,q1I,q4N⟩:=⟨q1Y,bn2 q1Y,q3o,bn2 q3o,q2E,bn1 q2E,q2e,bn1 q2e,q26,bn4 q26,q2F,bn1 q2F,q2G,bn1 q2G,q2f,bn1 q2f,q2g,bn1 q2g,q1z,bn2 q1z,q1X,bn3 q1X,q3u,bn1 q3u,q3p,bn3 q3p,q27,bn1 q27,q2H,bn1 q2H,q2I,bn1 q2I,q17,bn3 q17,q3D,bn1 q3D,q1Z,bn1 q1Z,g q56,q2c,bn1 q2c,g q5n,q2y,bn1 q2y,g q5w,q2z,bn1 q2z,g q5x,q3f,bn1 q3f,g q5T,q0t,bn2 q0t,g q4Q,q2p,bn1 q2p,g q5H,q2A,bn1 q2A,g q5y,q3S,bn2 q3S,g q6e,q1d,bn2 q1d,g q4L,q1t,bn2 q1t,g q4R,q1u,bn2 q1u,g q4S,jD,bn3 jD,g q5I,q37,rfl,q3T,bn1 q3T,g q6f,q1J,bn1 q1J,g q43,q15,bn1 q15,g q5z,q0X,bn1 q0X,g q4G,q1e,bn3 q1e,g q4M,q1v,bn1 q1v,g q4T,q3g,bn2 q3g,g q5U,q2B,bn1 q2B,g q5A,q3q,bn2 q3q,q1K,bn5 q1K,q0S,bn2 q0S,uX,xaL,xea,q2J,bn2 q2J,vT,bn3 vT,q3U,rfl,q2K,bn2 q2K,q2h,bn1 q2h,q2i,bn1 q2i,q2L,bn1 q2L,q0F,bn2 q0F,zN,bn3 zN,q3h,rfl,uY,xdr,xbG,q2j,bn1 q2j,vp,bn4 vp,q3E,rfl,jE,bn1 jE,q4d,rfl,uP,bn1 uP,q3z,rfl,q2M,bn2 q2M,q2N,bn1 q2N,q1i,bn1 q1i,q01,bn1 q01,q02,bn1 q02,q0T,bn2 q0T,q03,bn3 q03,q0U,bn4 q0U,q1A,bn2 q1A,vq,bn4 vq,q3F,rfl,q04,bn2 q04,q2W,bn2 q2W,g q5W,q16,bn2 q16,g q5X,q1j,bn2 q1j,g q6i,q4b,bn2 q4b,g q6S,q2C,bn2 q2C,g q5C,q3V,bn2 q3V,g q6j,q3i,bn2 q3i,g q5Y,q4n,bn5 q4n,g q6T,q3W,bn3 q3W,g q6k,q3X,bn3 q3X,g q6l,q3Y,bn2 q3Y,g q6m,xit,bn1 xit,q5g,rfl,g q6C,q58,q4A,q48,g q6b,q0g,q0P,q0z,q0V,q4W,g q6D,q1F,q1V,q3j,q2X,q5h,g q6E,q3v,q2O,q38,q4O,g q52,q0l,q1L,q18,q2d,q4J,g q53,q0a,q2P,q1f,q0h,q2Q,q0o,q0j,q3w,q4K,g q6c,g q5S,g q54,g q5F,g q5l,g q5G,g q5m,g q55,q5i,q2R,q4x,q10,q3k,q3k.hd,q0K,q1g,q4t,q3K,q3l,q4B,q3r,q4o,q20,q4v,q29,q4c,q2D,q4C,q3s,q4p,q21,q4D,q3G,q4w,q3m,⟨q4u⟩,⟨q5j⟩,⟨q4q⟩,fun e=>.ins e q1F q6U q6V q6W q6X,fun e=>.ins e q0g q6n q6o q6p q6q,q39,q3H,g q6r,q22,q0n,q4e,q3A,q23,q3n,q0I,q2S,q1w,q2T,q1x,q3Z,q2k,q1a,q3I,q2U,q11,q19,q4f,q4g,q4r,q3J,q4h,q30,q4i,q1W,q31,q4j,q1G,q3x,q32,q2q,q33,q34,q4k,q3B,q2r,q24,q35,q4a,g0 q5D,g0 q5E,g0 q5k,g0 q28,g0 q4P,g0 q1y,g0 q12,g0 q25,g0 q4E,g0 q4F,g0 q2a,g0 q5f,g0 q2V⟩;exact⟨_,fun s v=>.of_eq rfl,fun base _ _=>xqY T⟩
end K94
open PySem PySem.W PyProof.Rows
namespace PySem.W.Fast
theorem tw12863776847638704128:True:=trivial
theorem tw18330660780855849440:True:=trivial
theorem tw1513656480886289376:True:=trivial
theorem tw14277021994731539457:True:=trivial
theorem tw11974024379472352705:True:=trivial
theorem tw14940411933168625313:True:=trivial
theorem tw7898063164995644194:True:=trivial
theorem tw5330819020275561507:True:=trivial
theorem tw8825401989166157028:True:=trivial
theorem tw10037749737999462372:True:=trivial
theorem tw6730319463202994405:True:=trivial
theorem tw17413752446826420965:True:=trivial
theorem tw12655076463641421669:True:=trivial
theorem tw16369197308155017414:True:=trivial
theorem tw4155761531454171846:True:=trivial
theorem tw13158363229353904902:True:=trivial
theorem tw13969037186505219974:True:=trivial
theorem tw2930521082383551751:True:=trivial
theorem tw9179626406455545671:True:=trivial
theorem tw11829459715221730345:True:=trivial
theorem tw7467722468757181737:True:=trivial
theorem tw7312578641689235209:True:=trivial
theorem tw15497212616233846219:True:=trivial
theorem tw5484774421227122989:True:=trivial
theorem tw9248341363497845485:True:=trivial
theorem tw15788557773620352622:True:=trivial
theorem tw16408754662316436719:True:=trivial
theorem tw17767135343784351920:True:=trivial
theorem tw13966425939564699632:True:=trivial
theorem tw6478824607503564914:True:=trivial
theorem tw1350690945741335765:True:=trivial
theorem tw12651850105458149653:True:=trivial
theorem tw4593564160086452661:True:=trivial
theorem tw13896231014730656983:True:=trivial
theorem tw8970847664219663480:True:=trivial
theorem tw10888059638473622008:True:=trivial
theorem tw12618199562901570456:True:=trivial
theorem tw15858758476464133048:True:=trivial
theorem tw1341683126767757753:True:=trivial
theorem tw11004789897322102331:True:=trivial
theorem tw10462230329959219131:True:=trivial
theorem tw13001065490786245692:True:=trivial
theorem tw17590511933200550716:True:=trivial
theorem tw9735301566230343548:True:=trivial
theorem tw1594055995744293501:True:=trivial
theorem tw4745561317672145661:True:=trivial
theorem tw17325078502827646974:True:=trivial
theorem tw13629518146276450655:True:=trivial
theorem tw4148500780786717730:True:=trivial
theorem tw562664358852675728:True:=trivial
theorem tw4766927100027145823:True:=trivial
theorem tw5756460033496685160:True:=trivial
theorem tw8111991985534034688:True:=trivial
theorem tw8072193628316668574:True:=trivial
theorem tw2905191975567774229:True:=trivial
theorem tw18304920033415892394:True:=trivial
theorem tw10362189543781764372:True:=trivial
theorem tw7750075518726230277:True:=trivial
theorem tw6829347873510451866:True:=trivial
theorem tw13582582572995657664:True:=trivial
theorem tw11329593211398384640:True:=trivial
theorem tw16473995957469975979:True:=trivial
theorem tw12974965364737391620:True:=trivial
theorem tw14925716563139597359:True:=trivial
theorem tw15441341031814971729:True:=trivial
theorem tw2781472231925248795:True:=trivial
theorem tw932710659460063097:True:=trivial
theorem tw16073580292891936165:True:=trivial
theorem tw15523814474123759465:True:=trivial
theorem tw11548938469607674242:True:=trivial
theorem tw6180436711612824645:True:=trivial
theorem tw4405426098214218287:True:=trivial
theorem tw13144734144860354868:True:=trivial
theorem tw7525607030768225853:True:=trivial
theorem tw7314316704410088585:True:=trivial
theorem tw14439985374590885271:True:=trivial
theorem tw2792104384520049802:True:=trivial
theorem tw1430650246413787275:True:=trivial
theorem tw3813055774041165250:True:=trivial
theorem tw12167518881325706861:True:=trivial
theorem tw1367055358123546299:True:=trivial
theorem tw2555582644289438305:True:=trivial
theorem tw3450557883997538111:True:=trivial
theorem tw14907771531246335576:True:=trivial
theorem tw665897845442647027:True:=trivial
theorem tw10154789056501067703:True:=trivial
theorem tw17764419062307235054:True:=trivial
theorem tw9171083011147372814:True:=trivial
theorem tw10488712913563156197:True:=trivial
theorem tw12865082731613513110:True:=trivial
theorem tw17309643368254977651:True:=trivial
theorem tw18426887203714514735:True:=trivial
theorem tw3558535707872876459:True:=trivial
theorem tw15768571770222758506:True:=trivial
theorem tw1860449556923749061:True:=trivial
theorem tw10915169428498766254:True:=trivial
theorem tw12600831759936723468:True:=trivial
theorem tw2898668133517275790:True:=trivial
theorem tw15464567178480778815:True:=trivial
theorem tw17996588560752000152:True:=trivial
theorem tw3472799090762766760:True:=trivial
theorem tw9507968428314239248:True:=trivial
theorem tw6579741682282372203:True:=trivial
theorem tw12298118927492938123:True:=trivial
theorem tw7774888319492290002:True:=trivial
theorem tw17171283582679472695:True:=trivial
theorem tw6742654465412511703:True:=trivial
theorem tw16779932343064737135:True:=trivial
theorem tw7763125353392568738:True:=trivial
theorem tw6722918631831064490:True:=trivial
theorem tw9646921955991606374:True:=trivial
theorem tw5488534950983436117:True:=trivial
theorem tw9520229018446477865:True:=trivial
theorem tw12946823680114794662:True:=trivial
theorem tw11748310125278545042:True:=trivial
theorem tw3887918498679390581:True:=trivial
theorem tw5930432180617168156:True:=trivial
theorem tw12012640970568304143:True:=trivial
theorem tw13201556885807757776:True:=trivial
theorem tw13126246500657015836:True:=trivial
theorem tw12775427861108058492:True:=trivial
theorem tw6044640492638718242:True:=trivial
theorem tw12960650672749218359:True:=trivial
theorem tw2134897107397947411:True:=trivial
theorem tw3716678928979182184:True:=trivial
theorem tw105959117817506040:True:=trivial
theorem tw17573120788347137017:True:=trivial
theorem tw9942316596940557024:True:=trivial
theorem tw13121833489299015095:True:=trivial
theorem tw11859949360736798561:True:=trivial
theorem tw10789207872835120130:True:=trivial
theorem tw7922068441293061960:True:=trivial
theorem tw13989679187618353611:True:=trivial
theorem tw1421991955062286854:True:=trivial
theorem tw9315257156044843003:True:=trivial
theorem tw6040126958301609023:True:=trivial
theorem tw12780694706134023059:True:=trivial
theorem tw11131144833614989174:True:=trivial
theorem tw14034043528650446664:True:=trivial
theorem tw10460053741811756484:True:=trivial
theorem tw3479973237334943023:True:=trivial
theorem tw16696279155409340117:True:=trivial
theorem tw12042072256161231411:True:=trivial
theorem tw15147354953532551872:True:=trivial
theorem tw18334726467268556556:True:=trivial
theorem tw11787456911458187890:True:=trivial
theorem tw15191351165351353027:True:=trivial
theorem tw5374006917352358930:True:=trivial
theorem tw9759937184613128557:True:=trivial
theorem tw1623170525243460592:True:=trivial
theorem tw8415566576094485948:True:=trivial
theorem tw9051965562388046571:True:=trivial
theorem tw12791912585562067616:True:=trivial
theorem tw6368466440859598391:True:=trivial
theorem tw1505116980246271587:True:=trivial
theorem tw15738319667786500226:True:=trivial
theorem tw5157800861576330795:True:=trivial
theorem tw9371445326854462144:True:=trivial
theorem tw3198042775734940338:True:=trivial
theorem tw3255175914681673098:True:=trivial
theorem tw15215187258251678352:True:=trivial
theorem tw13895121561257966765:True:=trivial
theorem tw16752018783670316935:True:=trivial
theorem tw8883821645958275977:True:=trivial
theorem tw2668046208295581594:True:=trivial
theorem tw7439903937966263784:True:=trivial
theorem tw12158855117308322103:True:=trivial
theorem tw12217180612052659271:True:=trivial
theorem tw18373784242222117037:True:=trivial
theorem tw17122991630415067916:True:=trivial
theorem tw12027025152656743347:True:=trivial
theorem tw17784088911059729860:True:=trivial
theorem tw1219986172464709711:True:=trivial
theorem tw9212693622014467090:True:=trivial
theorem tw7068063764027795927:True:=trivial
theorem tw17283085793365361052:True:=trivial
theorem tw2050395259393842034:True:=trivial
theorem tw7708437408405294129:True:=trivial
theorem tw16386339165711593746:True:=trivial
theorem tw4777184932558974727:True:=trivial
theorem tw10889612797713993633:True:=trivial
theorem tw2769121964071414947:True:=trivial
theorem tw8853442048391187741:True:=trivial
theorem tw11965174510758358075:True:=trivial
theorem tw6769380672549762080:True:=trivial
theorem tw7839392226634622042:True:=trivial
theorem tw8152058381536309188:True:=trivial
theorem tw17716018486571139164:True:=trivial
theorem tw3263225918919124927:True:=trivial
theorem tw290524419106511390:True:=trivial
theorem tw4278013210826319218:True:=trivial
theorem tw10806931483178308740:True:=trivial
theorem tw12641398721338250615:True:=trivial
theorem tw2342630212998327255:True:=trivial
theorem tw1291879226225777646:True:=trivial
theorem tw2433757072623748768:True:=trivial
theorem tw11420630178596110215:True:=trivial
theorem tw97317408360046669:True:=trivial
theorem tw1936800790845200106:True:=trivial
theorem tw17117998972683383441:True:=trivial
theorem tw7871946176852362753:True:=trivial
theorem tw1761059005629532336:True:=trivial
theorem tw10273971354880505541:True:=trivial
theorem tw17222083683408546028:True:=trivial
theorem tw16544482559188005414:True:=trivial
theorem tw10247433641450389560:True:=trivial
theorem tw11427982107173702241:True:=trivial
theorem tw15480914432128694110:True:=trivial
theorem tw17804390551423300618:True:=trivial
theorem tw8770433276203603386:True:=trivial
theorem tw120299439756837062:True:=trivial
theorem tw14913852397810366533:True:=trivial
theorem tw7201823384125448622:True:=trivial
theorem tw217614742581076354:True:=trivial
theorem tw4645929649592727512:True:=trivial
theorem tw4112210460079882029:True:=trivial
theorem tw7336882050525103828:True:=trivial
theorem tw3486101125823830233:True:=trivial
theorem tw6108771274268204497:True:=trivial
theorem tw8512006308370384751:True:=trivial
theorem tw17083205120530231419:True:=trivial
theorem tw13368710983382700599:True:=trivial
theorem tw639691587653279815:True:=trivial
theorem tw1245834109014273393:True:=trivial
theorem tw8425827804086914821:True:=trivial
theorem tw1654504646038205081:True:=trivial
theorem tw10561429940941890673:True:=trivial
theorem tw14075811177381602558:True:=trivial
theorem tw11359302658654016762:True:=trivial
theorem tw12338633772937509373:True:=trivial
theorem tw6744642983599734256:True:=trivial
theorem tw2502037358224076048:True:=trivial
theorem tw7474767346553029243:True:=trivial
theorem tw7887507681905535909:True:=trivial
theorem tw5140280097204166784:True:=trivial
theorem tw8620498017685980964:True:=trivial
theorem tw7905858680269975949:True:=trivial
theorem tw9743874796208630288:True:=trivial
theorem tw17627872311047825125:True:=trivial
theorem tw14671156486268923531:True:=trivial
theorem tw15469851239577126969:True:=trivial
theorem tw4364969302412983436:True:=trivial
theorem tw292660818818258795:True:=trivial
theorem tw6236339312099038351:True:=trivial
theorem tw7607120795191208239:True:=trivial
theorem tw9676566057356404392:True:=trivial
theorem tw6362201654376292801:True:=trivial
theorem tw3890489479894432114:True:=trivial
theorem tw8732299739606913253:True:=trivial
theorem tw7171519257913358862:True:=trivial
theorem tw10168825507142371175:True:=trivial
theorem tw14799076313680990507:True:=trivial
theorem tw15519812977250589450:True:=trivial
theorem tw2983932258044176179:True:=trivial
theorem tw4169171782247257439:True:=trivial
theorem tw5272886686532510345:True:=trivial
theorem tw7797936966504419358:True:=trivial
theorem tw8536110512688506548:True:=trivial
theorem tw9048445036413780389:True:=trivial
theorem tw6089940009164338939:True:=trivial
theorem tw7200552100960112444:True:=trivial
theorem tw7861962456186016790:True:=trivial
theorem tw11025712702754272961:True:=trivial
theorem tw14751429420510610044:True:=trivial
theorem tw11999086895110133356:True:=trivial
theorem tw12379256863689231554:True:=trivial
theorem tw2881371450515768628:True:=trivial
theorem tw7860781071854316049:True:=trivial
theorem tw11884862013850895557:True:=trivial
theorem tw16502846539909719853:True:=trivial
theorem tw14097301709257003286:True:=trivial
theorem tw14186943537582643501:True:=trivial
theorem tw17065262209585353187:True:=trivial
theorem tw15221893110024788980:True:=trivial
theorem tw10911381184231394534:True:=trivial
theorem tw1256876961770316403:True:=trivial
theorem tw17630483418570808338:True:=trivial
theorem tw6296112304824852109:True:=trivial
theorem tw8269241739677699767:True:=trivial
theorem tw11076934225608835153:True:=trivial
theorem tw2344034087976688507:True:=trivial
theorem tw12219444040503450844:True:=trivial
theorem tw13488918422380263857:True:=trivial
theorem tw4799818035511332419:True:=trivial
theorem tw10415491381785393816:True:=trivial
theorem tw2524649131694963732:True:=trivial
theorem tw4492911042369828218:True:=trivial
theorem tw5823217981540845868:True:=trivial
theorem tw9514573756435842332:True:=trivial
theorem tw15998567605138933722:True:=trivial
theorem tw17846328551745956863:True:=trivial
theorem tw3911728717549731895:True:=trivial
theorem tw15476005407940299033:True:=trivial
theorem tw3175632714798832892:True:=trivial
theorem tw68771439696677775:True:=trivial
theorem tw14693634681507455831:True:=trivial
theorem tw16884700549039889072:True:=trivial
theorem tw18023695562933756200:True:=trivial
theorem tw14870264917862601641:True:=trivial
theorem tw7984688711143651362:True:=trivial
theorem tw17023148482420146204:True:=trivial
theorem tw6123392223915597804:True:=trivial
theorem tw2068580177651370875:True:=trivial
theorem tw9091071380503508341:True:=trivial
theorem tw7223673539387728885:True:=trivial
theorem tw3524618448908656292:True:=trivial
theorem tw8878955964159097744:True:=trivial
theorem tw13457896168378255667:True:=trivial
theorem tw13984247813272002551:True:=trivial
theorem tw16516719153411054804:True:=trivial
theorem tw3478721129643266600:True:=trivial
theorem tw11349305399507162789:True:=trivial
theorem tw11938061375229087040:True:=trivial
theorem tw13665595641784037278:True:=trivial
theorem tw14067205643380074016:True:=trivial
theorem tw2127460621688992450:True:=trivial
theorem tw12175916024955683141:True:=trivial
theorem tw14657173729930584470:True:=trivial
theorem tw12153462899538900873:True:=trivial
theorem tw13571229214610252314:True:=trivial
theorem tw2726665228493174992:True:=trivial
theorem tw1610454870941769263:True:=trivial
theorem tw16857214512477626062:True:=trivial
theorem tw18179467565754233104:True:=trivial
theorem tw1154732108947908469:True:=trivial
theorem tw11693588453445176236:True:=trivial
theorem tw11781243134015131176:True:=trivial
theorem tw12442355911623212676:True:=trivial
theorem tw12979719710682909684:True:=trivial
theorem tw13163664206126006310:True:=trivial
theorem tw13233915719951419247:True:=trivial
theorem tw13498580911735074645:True:=trivial
theorem tw13586402413324034692:True:=trivial
theorem tw1444629153605079011:True:=trivial
theorem tw14585878580401752004:True:=trivial
theorem tw15069082881282226634:True:=trivial
theorem tw15374613933758011464:True:=trivial
theorem tw15483083071187598567:True:=trivial
theorem tw16077837696033146526:True:=trivial
theorem tw16163646479693445351:True:=trivial
theorem tw16265329980697746316:True:=trivial
theorem tw17850815634603773027:True:=trivial
theorem tw1957933582611594231:True:=trivial
theorem tw2145369578316593874:True:=trivial
theorem tw2212002319690400306:True:=trivial
theorem tw224644460139751199:True:=trivial
theorem tw2358514529639678578:True:=trivial
theorem tw2713876752141260346:True:=trivial
theorem tw2817566270495136333:True:=trivial
theorem tw2879975781278840477:True:=trivial
theorem tw3006226024698589563:True:=trivial
theorem tw3047605955680788204:True:=trivial
theorem tw3051538221173519671:True:=trivial
theorem tw3193339680564054849:True:=trivial
theorem tw3195330040960408919:True:=trivial
theorem tw3382333337645863848:True:=trivial
theorem tw3889278305504569165:True:=trivial
theorem tw4066045909914521883:True:=trivial
theorem tw4126492214942976500:True:=trivial
theorem tw4193926654450001995:True:=trivial
theorem tw4804780859153384786:True:=trivial
theorem tw5307067091422500100:True:=trivial
theorem tw5457285597369658433:True:=trivial
theorem tw6039403206929446067:True:=trivial
theorem tw606519628675741045:True:=trivial
theorem tw6365184052663545988:True:=trivial
theorem tw6626008993877369904:True:=trivial
theorem tw7175221051187685479:True:=trivial
theorem tw7502357008152502592:True:=trivial
theorem tw7751339033125855904:True:=trivial
theorem tw8984367276105980735:True:=trivial
theorem tw9137201260501566088:True:=trivial
theorem tw9173571727976740535:True:=trivial
theorem tw9543893841933446859:True:=trivial
theorem tw18084946173764361625:True:=trivial
theorem tw12187397633345786960:True:=trivial
theorem tw14748096347034506955:True:=trivial
theorem tw10421765113758336238:True:=trivial
theorem tw1060252636318762222:True:=trivial
theorem tw10914314525312781669:True:=trivial
theorem tw11583302620559934157:True:=trivial
theorem tw11705290200494690082:True:=trivial
theorem tw11915266173222888554:True:=trivial
end PySem.W.Fast
set_option maxRecDepth 100000 in
set_option maxHeartbeats 0 in
theorem PySem.Challenge.cw_oneroom_k94_whole_banks_holds : PySem.Challenge.rw_oneroom_k94_whole_banks.Holds := by
 w_on;o_law;k_head;(case hw=>w_witness2)
 k_fill
 refine L2.xnz (l:=PySem.Challenge.rw_oneroom_k94_whole_banks) (n:=63) (k:=14) (x:="_law_script") (CX:=L2.CX0) (sp:=K94.xjI) (tabs:=[(K94.q1k,K94.zC,K94.vK),(K94.q0N,K94.yU,K94.vm),(K94.q0p,K94.yk,K94.zD),(K94.q0D,K94.yF,K94.uM),(K94.q05,K94.zm,K94.vP),(K94.q0A,K94.yv,K94.uh),(K94.q0E,K94.yG,K94.uN),(K94.q36,K94.xeI,K94.xiS)]) rfl (by decide) rfl ⟨rfl,by decide,by decide⟩ (fun w h Y=>PySem.W.km_in_of Y) (fun w h Y KX=>(List.forall_mem_cons.mpr ⟨⟨PySem.W.codeHd_of_K (c:=K94.q1k) (P:=K94.zC) KX (by kernel_rfl),PySem.W.km_tabs_of Y _ (by decide)⟩,(List.forall_mem_cons.mpr ⟨⟨PySem.W.codeHd_of_K (c:=K94.q0N) (P:=K94.yU) KX (by kernel_rfl),PySem.W.km_tabs_of Y _ (by decide)⟩,(List.forall_mem_cons.mpr ⟨⟨PySem.W.codeHd_of_K (c:=K94.q0p) (P:=K94.yk) KX (by kernel_rfl),PySem.W.km_tabs_of Y _ (by decide)⟩,(List.forall_mem_cons.mpr ⟨⟨PySem.W.codeHd_of_K (c:=K94.q0D) (P:=K94.yF) KX (by kernel_rfl),PySem.W.km_tabs_of Y _ (by decide)⟩,(List.forall_mem_cons.mpr ⟨⟨PySem.W.codeHd_of_K (c:=K94.q05) (P:=K94.zm) KX (by kernel_rfl),PySem.W.km_tabs_of Y _ (by decide)⟩,(List.forall_mem_cons.mpr ⟨⟨PySem.W.codeHd_of_K (c:=K94.q0A) (P:=K94.yv) KX (by kernel_rfl),PySem.W.km_tabs_of Y _ (by decide)⟩,(List.forall_mem_cons.mpr ⟨⟨PySem.W.codeHd_of_K (c:=K94.q0E) (P:=K94.yG) KX (by kernel_rfl),PySem.W.km_tabs_of Y _ (by decide)⟩,(List.forall_mem_cons.mpr ⟨⟨PySem.W.codeHd_of_K (c:=K94.q36) (P:=K94.xeI) KX (by kernel_rfl),PySem.W.km_tabs_of Y _ (by decide)⟩,(fun _ z=>nomatch z)⟩)⟩)⟩)⟩)⟩)⟩)⟩)⟩)) (fun w=>by kernel_rfl) (by decide) ?F ?S ?C
 case F=>
  intro w mg fa h KX G hmg
  refine' K94.xqZ KX G hmg ?_ ?_ ?_ ?_ ?_ ?_ ?_ ?_ ?_ ?_ ?_ ?_ ?_ ?_ ?_ ?_ ?_ ?_ ?_ ?_ ?_ ?_ ?_ ?_ ?_ ?_ ?_ ?_ ?_ ?_ ?_ ?_ ?_ ?_ ?_ ?_ ?_ ?_ ?_ ?_ ?_ ?_ ?_ ?_ ?_ ?_ ?_ ?_ ?_ ?_ ?_ ?_ ?_ ?_ ?_ ?_ ?_ ?_ ?_ ?_ ?_ ?_ ?_ ?_ ?_ ?_ ?_ ?_ ?_ ?_ ?_ ?_ ?_ ?_ ?_ ?_ ?_ ?_ ?_ ?_ ?_ ?_ ?_ ?_ ?_ ?_ ?_ ?_ ?_ ?_ ?_ ?_ ?_ ?_ ?_ ?_ ?_ ?_ ?_ ?_ ?_ ?_ ?_ ?_ ?_ ?_ ?_ ?_ ?_ ?_ ?_ ?_ ?_ ?_ ?_ ?_ ?_ ?_ ?_ ?_ ?_ ?_ ?_ ?_ ?_ ?_ ?_ ?_ ?_ ?_ ?_ ?_ ?_ ?_ ?_ ?_ ?_ ?_ ?_ ?_ ?_ ?_ ?_ ?_ ?_ ?_ ?_ ?_ ?_ ?_ ?_ ?_ ?_ ?_ ?_ ?_ ?_ ?_ ?_ ?_ ?_ ?_ ?_ ?_ ?_ ?_ ?_ ?_ ?_ ?_ ?_ ?_ ?_ ?_ ?_ ?_ ?_ ?_ ?_ ?_ ?_ ?_ ?_ ?_ ?_ ?_ ?_ ?_ ?_ ?_ ?_ ?_ ?_ ?_ ?_ ?_ ?_ ?_ ?_ ?_ ?_ ?_ ?_ ?_ ?_ ?_ ?_ ?_ ?_ ?_ ?_ ?_ ?_ ?_ ?_ ?_ ?_ ?_ ?_ ?_ ?_ ?_ ?_ ?_ ?_ ?_ ?_ ?_ ?_ ?_ ?_ ?_ ?_ ?_ ?_ ?_ ?_ ?_ ?_ ?_ ?_ ?_ ?_ ?_ ?_ ?_ ?_ ?_ ?_ ?_ ?_ ?_ ?_ ?_ ?_ ?_ ?_ ?_ ?_ ?_ ?_ ?_ ?_ ?_ ?_ ?_ ?_ ?_ ?_ ?_ ?_ ?_ ?_ ?_ ?_ ?_ ?_ ?_ ?_ ?_ ?_ ?_ ?_ ?_ ?_ ?_ ?_ ?_ ?_ ?_ ?_ ?_ ?_ ?_ ?_ ?_ ?_ ?_ ?_ ?_ ?_ ?_ ?_ ?_ ?_ ?_ ?_ ?_ ?_ ?_ ?_ ?_ ?_ ?_ ?_ ?_ ?_ ?_ ?_ ?_ ?_ ?_ ?_ ?_ ?_ ?_
  iterate 2 all_goals first|(show(_:Prop);first|exact⟨_,L2.jn (by k_is) (by k_is) (by k_is)⟩|exact L2.xo1 (by kernel_rfl)|exact⟨by k_is,by k_is,by k_is⟩|exact⟨by k_is,by k_is,by k_is,by k_is⟩|exact⟨by kernel_rfl,by kernel_rfl,by kernel_rfl,by kernel_rfl,by kernel_rfl,by kernel_rfl⟩|exact⟨by kernel_rfl,by kernel_rfl,by kernel_rfl,by kernel_rfl,by kernel_rfl,by kernel_rfl,by kernel_rfl,by kernel_rfl⟩|k_is|(show _=_;k_is)|kernel_rfl)|skip
 case S=>exact fun K H a ns hl hS hT=>⟨a,ns,rfl,hS,hl,hT _ (.head _),hT _ (.tail _ (.head _)),hT _ (.tail _ (.tail _ (.head _))),hT _ (.tail _ (.tail _ (.tail _ (.head _)))),hT _ (.tail _ (.tail _ (.tail _ (.tail _ (.head _))))),hT _ (.tail _ (.tail _ (.tail _ (.tail _ (.tail _ (.head _)))))),hT _ (.tail _ (.tail _ (.tail _ (.tail _ (.tail _ (.tail _ (.head _))))))),hT _ (.tail _ (.tail _ (.tail _ (.tail _ (.tail _ (.tail _ (.tail _ (.head _)))))))),fun _=>rfl⟩
 case C=>exact fun _ _ _ _ z=>z
#print axioms PySem.Challenge.cw_oneroom_k94_whole_banks_holds
