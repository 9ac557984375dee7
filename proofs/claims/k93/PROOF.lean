import PyProof.Rows.All
import Wide.All
import OpenK.AllK
import Wide.FinOn
import Lean
import PyProof.EqAt
import PyProof.EqKinds
import PyProof.TupleCall
import PySem.Challenge.RW_oneroom_k93_whole_made_and_done
set_option Elab.async false
set_option linter.all false
set_option maxRecDepth 100000
open And renaming intro→dF
open Array renaming length_toList→br,getElem?_eq_getElem→de,getElem?_eq_some_iff→dJ,forIn_toList→fR,getElem?_toList→gr,perm_iff_toList_perm→gU,mem_toList_iff→i4,find?_toList→ku
open Bool renaming false_ne_true→aC,false_eq_true→cf,eq_iff_iff→di,and_eq_true→dW
open Classical renaming propDecidable→iF
open False renaming elim→bo
open ForInStep renaming yield→eG
open Function renaming comp_def→kN
open Int renaming toNat_of_nonneg→bL,emod_lt_of_pos→bU,emod_nonneg→bW,toNat_natCast→cz,fdiv_eq_ediv_of_nonneg→gT
open List renaming length_map→af,getElem?_eq_getElem→aj,mem_cons→ar,length_append→av,size_toArray→ay,toArray→az,mem_of_getElem?→aB,mem_cons_of_mem→aD,mem_singleton→aE,getElem?_map→aF,getElem?_eq_some_iff→aH,map_append→aJ,mem_append_right→aO,mem_cons_self→aS,mem_filter→aU,length_drop→aX,mem_append→aY,mem_map→a7,range→a9,getD→bc,mem_append_left→bf,take_of_length_le→bh,getElem?_append_left→bj,length_cons→bt,not_mem_nil→bu,replicate→bw,mem_range→bx,length_singleton→bB,getElem?_append_right→bE,mem_iff_getElem?→bI,length_take→bM,map_cons→bQ,pairwise_iff_getElem→bT,lookup_cons→bY,all_eq_true→bZ,length_filter_le→b8,getElem?_eq_none→b9,take_succ→cb,getD_eq_getElem?_getD→cc,getElem?_drop→ck,map_map→cm,take_length→cq,length_pos_iff→cu,nodup_cons→cA,length→cC,getElem_mem→cG,drop_of_length_le→cI,append_assoc→cJ,pairwise_map→cK,length_set→cL,getElem?_set_ne→cY,mem_iff_getElem→cZ,mem_of_mem_take→c5,mem_of_mem_drop→c6,length_range→c7,pairwise_cons→c9,drop_eq_getElem_cons→df,getElem?_take_of_lt→dj,flatten_cons→du,ext_getElem?→dv,getElem?_take→dG,append_nil→dI,nodup_range→dZ,any_eq_true→d4,take_succ_eq_append_getElem→d7,replicate_succ→d8,filter_cons_of_neg→d9,filter_cons_of_pos→ee,of_mem_zip→eC,find?_cons→eE,getElem?_set_self→eI,lookup→eJ,drop_eq_nil_of_le→eL,foldl_append→eO,eq_nil_or_concat→eW,concat_eq_append→eX,mem_flatten→fc,pairwise_append→ff,filterMap_cons→fw,mem_map_of_mem→fz,nil_append→fC,range_succ→fE,mem_filterMap→fH,filter_append→fQ,length_eq_zero_iff→fV,filter_cons→gf,mem_flatMap→gm,length_nil→gx,forIn_cons→gz,filter_map→gD,flatMap_append→gJ,take_succ_cons→gK,find?_eq_none→gR,mem_of_find?_eq_some→gZ,mem_or_eq_of_mem_set→g8,ne_nil_of_length_pos→g9,getElem_inj→ig,any_map→iu,map_set→iA,idxOf_lt_length_iff→iB,getElem?_replicate→iC,length_replicate→iP,pairwise_reverse→iT,getElem?_reverse→iU,forIn_nil→iV,drop_zero→i3,map_drop→ke,length_reverse→kg,toList_toArray→kh,getElem_of_mem→kl,getElem?_range→km,zip_cons_cons→kC,map_nil→kE,forIn_toArray→kF,map_replicate→kH,ne_nil_of_mem→kJ,map_id→kR
open Nat renaming le_refl→ak,ne_of_lt→aq,lt_of_lt_of_le→au,zero_le→aN,le_trans→bg,lt_irrefl→bJ,le_of_lt→bS,min_eq_left→cj,not_lt_zero→cP,lt_succ_self→cS,le_succ→cW,ne_of_gt→dC,lt_of_le_of_lt→dD,min_eq_right→d6,succ_mul→eS,le_of_eq→gw,mul_le_mul_right→gG,mul_comm→il,div_add_mod→iI
open Ne renaming symm→aR
open Option renaming map_eq_some_iff→bD,isSome_iff_exists→fM,isSome_map→kL,getD_none→kT,map→kY
open Option.some renaming inj→bp,injEq→kM
open Or renaming inl→aM,inr→dk
open PUnit renaming unit→j7
open Prod.mk renaming injEq→f9
open PyProof renaming noPylong_of_log2→ip
open PyProof.Rows renaming seqObj→aW,callWith_type1→bO,IntsAre→cE,AllBare→ef,get?_update_seq→eH,envOfC→eP,listUpdate_at→fi,oneType'→gN,listItems_at→iz,callWith_kw→iK,boot_range→j4,kws_cons→j8,Constant_none→ka
open PySem renaming wpAny_bind→aa,Shared→ae,wpAny_pure→ao,FuncData→aw,sizeLine_eq→ax,Program→aG,starEach→aI,wpAny_mono→aK,Around→aL,sizeLine→aQ,mainGlobals→bz,wpAny_holding→bA,wpAny_loadPart'→bF,bootBuiltins→bG,wpAny_Call_Name_kw→bH,compareOp→bK,backTo→bN,plainId_quiet→bV,rawInt→bX,Arguments→b7,wpAny_truthy_bool→cy,codeAny→cD,wpAny_updateSeq→cM,codeAny_builtin→cO,binaryOp→cQ,codeAny_mono→cT,FuncBody→cV,behindInMarks→c8,wpAny_letGo→dg,builtinsNs→dh,lookup_relabel_local→dm,wpAny_pyIter_list→dq,wpAny_standAt→dw,NameKind→dy,wpAny_tryCatch→dA,wpAny_passesOwn→dH,foldedSetIterable→dN,wpAny_call→dO,holding→dU,wpAny_loadPart_at→eN,codeAny_call_function→eQ,Builtin→eR,wpAny_seqItems→eU,sysModules→eY,bindArgs→e9,wpAny_newFunctionEnv_cells→fg,wpAny_newList→fh,keywordEach→fj,sliceBounds→fm,wpAny_field→fq,wpAny_execs_nil→fA,codeAmong→fG,Result→fJ,wpAny_comprehension_free→fN,updateSeq→fO,call_meets→fU,wpAny_newObj_type→fX,wpAny_pyIter_enum→fY,excClassObj→f6,attributeBase→f7,callWith→gc,wpAny_isTrue_Compare1→gp,getMethod→gq,plainObj_wpAny_Assign_Attribute→gs,assignEach→gu,letOwnedTupleGo→gv,typeLookup→gy,wpAny_newFunctionEnv→gA,wpAny_typeOf→gC,codeAny_call_builtin→gE,backToKw→gL,swapsWith→gP,assign→gQ,wpAny_letOwnedTupleGo_enum→gW,wpAny_assign_Name→gX,wpAny_rule→gY,standAt→ia,valueAt→ib,callerA→ic,ItemsOf→ie,pyNext→ik,PyData→iq,intItems→ix,TriplesOk→iG,cellsFrom→iH,wpAny_of_eq→iL,wpAny_loadPart→iN,relabel→iQ,newFunctionEnv→iR,callType_codes→iS,wpAny_setField→iW,closureFor→i9,IsLongIter→j3
open PySem.Around renaming under_plainId→c3,frames_deeper→i6,under→ky
open PySem.Builtin.Builtins renaming bindParams→dE
open PySem.Builtin.Dict renaming updateFrom→iE
open PySem.Builtin.List renaming listExtendWith→bC,listTooLong→dX,listSameRef→dY,listItems→eK,listUpdate→iD
open PySem.Builtin.ObjectAttr renaming storeInDict→gF
open PySem.Builtin.Range renaming rangeSize→bb,small→gH
open PySem.Builtin.SmallTypes renaming fitsIndex→eV
open PySem.Calls renaming spliced_cons→fK,spliced_nil→fW,callWith_builtin→fZ,Name_function_global→gS,evalArgs_plain→i8
open PySem.Code renaming quiet_builtin→fP,isFrame→kz
open PySem.Data renaming fields→kQ
open PySem.EntryCells renaming newEntry→ki
open PySem.F renaming plain_max_loop→d5,slot_list_getattribute→fT,plain_extend_loop→gI
open PySem.Heap renaming get?_push_of_some→ag,lt_size→ai,get?_push_size→aA,get?_update_other→aZ,get?_update_self→bP,size_push→cH,get?_none_of_le→eZ,SameBut→ij,size_update→iy,DictAt→iM,get?_update_ne→kj
open PySem.Heap.Ns1 renaming of_empty→kK
open PySem.Heap.SameBut renaming update→cw
open PySem.NameKind renaming free→bR,cell→kd
open PySem.Obj renaming mapSeq→aV,mapFields→eh,isFreed_of_fields→iX
open PySem.PyData renaming int→dP,weightAll→iw,weight→kf,eqv→kX
open PySem.PyData.weight renaming eq_def→j6
open PySem.SeqAt renaming EqAt→kW
open PySem.SeqAt.EqAt renaming int_str→ko,str_int→kq,int_int→kB
open PySem.Str renaming ofString→cg
open PySem.Value renaming ref→aT,none→a8,type→cF,bool→dB,int→eA,str→gn,notImplemented→i7,isStrOf→j9,isInt→kO,float→kP
open PySem.W renaming Frag→ah,findIn→bq,keepIn→cR,fnOf→cU,codeIn→dz,emptyDict→dQ,kia_one→dS,kitOne→e7,methodCall_KW→fB,instObj→fF,callWith_K→fL,cellsFrom_some→gd,tabObj→gk,hasDictIn→gO,envX→ir,specialIn→iJ,mroIn→iO,nsIn→iY,plainGet→i5,CodeHd→j5,plainGet_of→kb,looks_clsIn→kc,codeRec_of→kA
open PySem.Walks renaming list→g7,dictKeys→iZ
open Sum renaming inl→cX,inr→hZ
open True renaming intro→b0
namespace L2
open PySem PySem.Spec PyProof.Rows
abbrev Key:=Sum Int Str
def zZ:Key→Value→Bool
 | .inl k,v=>kO k v
 | .inr x,v=>j9 x v
def xqD(w:World):Key→Int
 | .inl k=>hashInt k
 | .inr x=>hashStr w x
theorem yf:∀{k:Key} {v:Value},zZ k v=true→(∃i t,k=cX i∧v=eA i t)∨(∃x t,k=hZ x∧v=gn x t)
 | .inl i,v,h=>by
  obtain⟨t,e⟩:=Value.isInt_shape (k:=i) (v:=v) h;exact .inl ⟨i,t,rfl,e⟩
 | .inr x,v,h=>by
  obtain⟨t,e⟩:=Value.isStrOf_shape (x:=x) (v:=v) h;exact .inr ⟨x,t,rfl,e⟩
theorem xkZ(i:Int)(t:Tok):zZ (.inl i) (.int i t)=true:=by simp[zZ,kO]
theorem xk0(x:Str)(t:Tok):zZ (.inr x) (.str x t)=true:=by simp[zZ,j9]
theorem xoR(a b:Int):decide ((cX a:Key)=cX b)=(a==b):=by
 by_cases e:a=b
 ·subst e;simp
 ·have h:¬(cX a:Key)=cX b:=fun q=>e (Sum.inl.inj q);rw[decide_eq_false h];exact(beq_eq_false_iff_ne.mpr e).symm
theorem xoS(a b:Str):decide ((hZ a:Key)=hZ b)=decide (a=b):=by
 by_cases e:a=b
 ·subst e;simp
 ·have h:¬(hZ a:Key)=hZ b:=fun q=>e (Sum.inr.inj q);rw[decide_eq_false h,decide_eq_false e]
theorem xoT(a:Int)(b:Str):decide ((cX a:Key)=hZ b)=false:=decide_eq_false (fun q=>nomatch q)
theorem xoU(a:Str)(b:Int):decide ((hZ a:Key)=cX b)=false:=decide_eq_false (fun q=>nomatch q)
def xS(prog:aG)(w:World):PySem.KeyKind prog w Key where
 is:=zZ
 hash:=xqD w
 inj:=fun v a b ha hb=>by
  rcases yf ha with⟨i,t,rfl,rfl⟩|⟨x,t,rfl,rfl⟩
  ·rcases yf hb with⟨j,u,rfl,e⟩|⟨y,u,rfl,e⟩
   ·injection e with e1 _;rw[e1]
   ·exact nomatch e
  ·rcases yf hb with⟨j,u,rfl,e⟩|⟨y,u,rfl,e⟩
   ·exact nomatch e
   ·injection e with e1 _;rw[e1]
 byValue:=fun k v h=>by
  rcases yf h with⟨i,t,rfl,rfl⟩|⟨x,t,rfl,rfl⟩<;> rfl
 pyHash:=fun hv h=>by
  rcases yf hv with⟨i,t,rfl,rfl⟩|⟨x,t,rfl,rfl⟩
  ·exact wpAny_pyHash_int h
  ·exact wpAny_pyHash_str h
 eqBool:=fun hu hv h=>by
  rcases yf hu with⟨i,t,rfl,rfl⟩|⟨x,t,rfl,rfl⟩
  ·rcases yf hv with⟨j,u,rfl,rfl⟩|⟨y,u,rfl,rfl⟩
   ·rw[xoR]at h;exact wpAny_eqBool_int h
   ·rw[xoT]at h;exact ko i t y u _ _ _ _ h
  ·rcases yf hv with⟨j,u,rfl,rfl⟩|⟨y,u,rfl,rfl⟩
   ·rw[xoU]at h;exact kq x t j u _ _ _ _ h
   ·rw[xoS]at h;exact wpAny_eqBool_str h
 «strs»:=fun k x t v h=>by
  rcases yf h with⟨i,u,rfl,e⟩|⟨y,u,rfl,e⟩
  ·exact nomatch e
  ·injection e with e1 _;subst e1;cases v<;> rfl
theorem xiC(prog:aG)(w:World)(i:Int)(t:Tok):(xS prog w).is (.inl i) (.int i t)=true:=xkZ i t
theorem xiD(prog:aG)(w:World)(x:Str)(t:Tok):(xS prog w).is (.inr x) (.str x t)=true:=xk0 x t
end L2
namespace L2
open PySem PySem.Spec PyProof.Rows
inductive V where
 |non|bl (b:Bool)|int (i:Int)|str (x:Str)|byt (b:Array UInt8)|flt (b:UInt64)|ref (a:Addr)|ty (n:String)
 deriving DecidableEq
def RelV:V→Value→Prop
 | .non,u=>u=a8
 | .bl b,u=>u=dB b
 | .int i,u=>∃t,u=eA i t
 | .str x,u=>∃t,u=gn x t
 | .byt b,u=>∃t,u=Value.bytes b t
 | .flt b,u=>∃t,u=kP b t
 | .ref a,u=>u=aT a
 | .ty n,u=>u=cF n
theorem RelV.fn{x y:V}{u:Value}(a:RelV x u)(b:RelV y u):x=y:=by
 cases x<;> simp only[RelV]at a<;> (first|subst a|(obtain⟨_,rfl⟩:=a))<;> cases y<;> simp only[RelV]at b<;> first|rfl|(cases b;done)|(cases b;rfl)|(obtain⟨_,b⟩:=b;cases b;done)|(obtain⟨_,b⟩:=b;cases b;rfl)
abbrev Vals:List V→List Value→Prop:=Paired RelV
theorem Vals.length{xs:List V}{us:List Value}(r:Vals xs us):xs.length=us.length:=Paired.length r
theorem Vals.get:∀{xs:List V} {us:List Value} {i:Nat} {x:V},Vals xs us→xs[i]? =some x→∃u,us[i]? =some u∧RelV x u
 |_,_,_,_,.nil,e=>by simp at e
 |_,_,0,_,.cons r _,e=>by simp at e;subst e;exact⟨_,rfl,r⟩
 |_,_,i+1,x,.cons _ t,e=>by
  obtain⟨u,h1,h2⟩:=Vals.get (i:=i) (x:=x) t (by simpa using e);exact⟨u,by simpa using h1,h2⟩
theorem Vals.set{x:V}{u:Value}(r:RelV x u):∀{xs:List V} {us:List Value} (i:Nat),Vals xs us→Vals (xs.set i x) (us.set i u)
 |_,_,_,.nil=>.nil
 |_,_,0,.cons _ t=>.cons r t
 |_,_,i+1,.cons q t=>.cons q (Vals.set r i t)
theorem Vals.append:∀{xs ys:List V} {us ws:List Value},Vals xs us→Vals ys ws→Vals (xs++ys) (us++ws)
 |_,_,_,_,.nil,s=>s
 |_,_,_,_,.cons r t,s=>.cons r (Vals.append t s)
theorem Vals.take:∀{xs:List V} {us:List Value} (n:Nat),Vals xs us→Vals (xs.take n) (us.take n)
 |_,_,0,_=>.nil
 |_,_,_+1,.nil=>.nil
 |_,_,n+1,.cons r t=>.cons r (Vals.take n t)
theorem Vals.drop:∀{xs:List V} {us:List Value} (n:Nat),Vals xs us→Vals (xs.drop n) (us.drop n)
 |_,_,0,r=>r
 |_,_,_+1,.nil=>.nil
 |_,_,n+1,.cons _ t=>Vals.drop n t
def uo:Option V→Option Value→Prop
 |some v,some u=>RelV v u
 |none,none=>True
 |_,_=>False
def KV{κ:Type}:List (κ×V)→List (κ×Value)→Prop:=Paired fun(p:κ×V) (q:κ×Value)=>p.1=q.1∧RelV p.2 q.2
def kV:Key→V
 | .inl i=>.int i
 | .inr x=>.str x
inductive HO where
 |lst (xs:List V)
 |tup (xs:List V)
 |dK (kvs:List (Key×V))|dT (kvs:List (List Key×V))
 |set (S:Int→Bool) (n:Nat)
 |ins (C dx:Addr) (fs:List (Str×V))
 |own (x:Addr)
 |xd (fs:List (Str×V))
 |met (f x:Addr)
 |rng (lo hi:Int)
 |frz (o:Obj) (u:HO)
 |tbl (qs:List (Pos×Str))
 |cel (v:Option V)
 |ext (φ:Heap→Prop)
abbrev Hp:=Addr→Option HO
def upd(H:Hp)(a:Addr)(o:HO):Hp:=fun b=>if b=a then some o else H b
theorem xk{H:Hp}{a:Addr}{o:HO}:upd H a o a=some o:=by unfold upd;rw[if_pos rfl]
theorem xj{H:Hp}{a b:Addr}{o:HO}(h:b≠a):upd H a o b=H b:=by unfold upd;rw[if_neg h]
theorem yU{H:Hp}{a:Addr}{o u:HO}:upd (upd H a o) a u=upd H a u:=by
 funext b;unfold upd;split<;> rfl
theorem uD{H:Hp}{a b:Addr}{o u:HO}(h:H a=some o)(h':H b=some u)(d:o≠u):a≠b:=by
 intro e;subst e;rw[h]at h';exact d (bp h')
theorem xv{H:Hp}{a b:Addr}{o:HO}(h:H a=some o)(h':H b=none):a≠b:=by
 intro e;subst e;rw[h]at h';cases h'
section
variable (P:aG) (w:World)
def xE(H:Hp)(h:Heap)(a:Addr):HO→Prop
 | .lst xs=>xs.length≤aQ∧∃(its:List Value) (n:Nat),Vals xs its∧h.get? a=some {cls:=.type "list",data:=.seq its.toArray n}
 | .tup xs=>xs.length≤aQ∧∃its:List Value,Vals xs its∧IsTup h a its.toArray
 | .dK kvs=>kvs.length≤aQ∧(a==eY)=false∧∃vs,KV kvs vs∧h.DictOf (xS P w) a vs
 | .dT kvs=>kvs.length≤aQ∧(a==eY)=false∧∃xs:List (List Key×Addr×Value),
   Paired (fun(p:List Key×V) (q:List Key×Addr×Value)=>p.1=q.1∧H q.2.1=some (.tup (p.1.map kV))∧RelV p.2 q.2.2) kvs xs∧
   ∃o es ep,h.get? a=some o∧o.ExactDict∧o.data= .dict es ep∧es.toList=xs.map (entryOfKey (tupleKind (xS P w)))∧(xs.map (·.1)).Nodup
 | .set S n=>h.SetOf (intKind P w) a S n
 | .ins C dx fs=>H dx=some (.own a)∧fs.length≤1000∧dx≠a∧h.get? a=some (fF C dx)∧
   ∃mA,h.Ns1 dx mA∧(∀f,uo (fs.lookup f) (mA f))∧PySem.Within mA (fs.map (·.1))
 | .own _=>∃o,h.get? a=some o
 | .xd fs=>∃mA,h.Ns1 a mA∧∀f,uo (fs.lookup f) (mA f)
 | .rng lo hi=>∃t u v,h.get? a=some {cls:=.type "range",data:=.fields #[.int lo t,.int hi u,.int 1 v]}
 | .frz o u=>h.get? a=some o∧xE H h a u
 | .tbl qs=>∃ps:Array Value,h.get? a=some {cls:=.none,data:=.fields ps}∧iG ps.toList∧∀pos q,(pos,q)∈qs→
   fG pos ps.toList=none∨∃c o u vs t,fG pos ps.toList=some (.ref c)∧H c=some (.frz o u)∧o.data= .fields vs∧vs[1]? =some (.str q t)
 | .cel v=>∃u,h.IsCell a u∧∀x,v=some x→∃y,u=some y∧RelV x y
 | .met f x=>h.get? a=some (W.methodObj (.ref f) (.ref x))
 | .ext φ=>φ h∧(∃o,h.get? a=some o)∧∀h1 h2:Heap,φ h1→(∀o,h1.get? a=some o→h2.get? a=some o)→φ h2
def HOk(H:Hp)(h:Heap):Prop:=∀a o,H a=some o→xE P w H h a o
end
section
variable {P:aG} {w:World} {H H':Hp} {h h':Heap} {a:Addr} {o:HO}
def xoV:HO→Prop
 | .tup _=>True
 | .frz _ _=>True
 |_=>False
def Fix:HO→Prop
 | .tup _=>True
 | .frz _ _=>True
 | .tbl _=>True
 | .cel _=>True
 |_=>False
theorem xE.lt(x:xE P w H h a o):a<h.objs.size:=by
 cases o with
 |lst xs=>obtain⟨_,_,_,_,e⟩:=x;exact ai e
 |tup xs=>obtain⟨_,_,_,p⟩:=x;exact p.lt
 |dK kvs=>obtain⟨_,_,_,_,o,_,_,e,_⟩:=x;exact ai e
 |dT kvs=>obtain⟨_,_,_,_,o,_,_,e,_⟩:=x;exact ai e
 |set S n=>obtain⟨o,_,_,_,e,_⟩:=x;exact ai e
 |ins C dx fs=>obtain⟨_,_,_,e,_⟩:=x;exact ai e
 |own y=>obtain⟨_,e⟩:=x;exact ai e
 |xd fs=>obtain⟨_,⟨_,_,_,e,_⟩,_⟩:=x;exact ai e
 |rng lo hi=>obtain⟨_,_,_,e⟩:=x;exact ai e
 |frz ob u=>obtain⟨e,_⟩:=x;exact ai e
 |tbl qs=>obtain⟨_,e,_⟩:=x;exact ai e
 |cel v=>obtain⟨_,⟨_,e,_⟩,_⟩:=x;exact ai e
 |met f y=>exact ai (show h.get? a=some _ from x)
 |ext φ=>obtain⟨_,⟨_,e⟩,_⟩:=x;exact ai e
theorem Paired.mapP{α β:Type}{F G:α→β→Prop}:∀{l₁:List α} {l₂:List β},Paired F l₁ l₂→(∀a b,F a b→G a b)→Paired G l₁ l₂
 |_,_,.nil,_=>.nil
 |_,_,.cons r t,f=>.cons (f _ _ r) (Paired.mapP t f)
theorem Paired.imp'{α β:Type}{F G:α→β→Prop}(f:∀a b,F a b→G a b){l₁:List α}{l₂:List β}(r:Paired F l₁ l₂):Paired G l₁ l₂:=Paired.mapP r f
theorem xE.stay(x:xE P w H h a o)(k:∀b u,(b=a∨H b=some (.own a))→h.get? b=some u→h'.get? b=some u)
  (ho:∀b,H b=some (.own a)→H' b=some (.own a)) (ht:∀b u,H b=some u→xoV u→H' b=some u):xE P w H' h' a o:=by
 induction o with
 |lst xs=>obtain⟨z,its,n,r,e⟩:=x;exact⟨z,its,n,r,k _ _ (.inl rfl) e⟩
 |tup xs=>obtain⟨z,its,r,ob,e,c⟩:=x;exact⟨z,its,r,ob,k _ _ (.inl rfl) e,c⟩
 |dK kvs=>obtain⟨z,y,vs,r,ob,es,ep,e,c⟩:=x;exact⟨z,y,vs,r,ob,es,ep,k _ _ (.inl rfl) e,c⟩
 |dT kvs=>
  obtain⟨z,y,xs,r,ob,es,ep,e,c⟩:=x;exact⟨z,y,xs,Paired.mapP r fun p q z=>⟨z.1,ht _ _ z.2.1 trivial,z.2.2⟩,ob,es,ep,k _ _ (.inl rfl) e,c⟩
 |set S n=>obtain⟨ob,es,ep,t,e,c⟩:=x;exact⟨ob,es,ep,t,k _ _ (.inl rfl) e,c⟩
 |ins C dx fs=>
  obtain⟨d,z,ne,e,mA,⟨od,es,ep,e2,c⟩,r⟩:=x;exact⟨ho _ d,z,ne,k _ _ (.inl rfl) e,mA,⟨od,es,ep,k _ _ (.inr d) e2,c⟩,r⟩
 |own y=>obtain⟨ob,e⟩:=x;exact⟨ob,k _ _ (.inl rfl) e⟩
 |xd fs=>obtain⟨mA,⟨od,es,ep,e,c⟩,r⟩:=x;exact⟨mA,⟨od,es,ep,k _ _ (.inl rfl) e,c⟩,r⟩
 |rng lo hi=>obtain⟨t,u,v,e⟩:=x;exact⟨t,u,v,k _ _ (.inl rfl) e⟩
 |frz ob u ih=>obtain⟨e,q⟩:=x;exact⟨k _ _ (.inl rfl) e,ih q⟩
 |tbl qs=>
  obtain⟨ps,e,tr,r⟩:=x;refine⟨ps,k _ _ (.inl rfl) e,tr,fun pos q m=>?_⟩;rcases r pos q m with z|⟨c,ob,u,vs,t,z1,z2,z3⟩
  ·exact .inl z
  ·exact .inr ⟨c,ob,u,vs,t,z1,ht _ _ z2 trivial,z3⟩
 |cel v=>obtain⟨u,⟨ob,e,d⟩,r⟩:=x;exact⟨u,⟨ob,k _ _ (.inl rfl) e,d⟩,r⟩
 |met f y=>
  have e:h.get? a=some (W.methodObj (.ref f) (.ref y)):=x;show h'.get? a=some (W.methodObj (.ref f) (.ref y));exact k a _ (.inl rfl) e
 |ext φ=>obtain⟨p,⟨o,e⟩,st⟩:=x;exact⟨st _ _ p fun o q=>k _ _ (.inl rfl) q,⟨o,k _ _ (.inl rfl) e⟩,st⟩
theorem HOk.lt(x:HOk P w H h)(e:H a=some o):a<h.objs.size:=(x a o e).lt
theorem HOk.fresh(x:HOk P w H h)(e:h.objs.size≤a):H a=none:=by
 cases q:H a with
 |none=>rfl
 |some u=>exact absurd (au (x.lt q) e) (bJ _)
theorem HOk.kept(x:HOk P w H h)(k:∀b u,h.get? b=some u→h'.get? b=some u):HOk P w H h':=fun a o e=>
 (x a o e).stay (fun b u _ q=>k b u q) (fun _ q=>q) fun _ _ q _=>q
theorem HOk.laid(x:HOk P w H h)(k:∀b u,h.get? b=some u→h'.get? b=some u)(hp:h.objs.size≤a)(new:xE P w (upd H a o) h' a o):HOk P w (upd H a o) h':=fun b u e=>by
 have hn:=x.fresh hp
 by_cases hb:b=a
 ·subst hb;rw[xk]at e;cases e;exact new
 ·rw[xj hb]at e;exact(x b u e).stay (fun c v _ q=>k c v q) (fun c q=>by rw[xj (xv q hn)];exact q) fun c xs q _=>by rw[xj (xv q hn)];exact q
end
def Rd(H:Hp)(a:Addr)(u:HO):Prop:=H a=some u∨∃o,H a=some (.frz o u)
theorem Rd.ok{P:aG}{w:World}{H:Hp}{h:Heap}{a:Addr}{u:HO}(r:Rd H a u)(x:HOk P w H h):xE P w H h a u:=by
 rcases r with r|⟨o,r⟩
 ·exact x a u r
 ·obtain⟨_,q⟩:=x a _ r;exact q
def Mut:Option HO→Prop
 |some (.lst _)=>True
 |some (.dK _)=>True
 |some (.dT _)=>True
 |some (.set _ _)=>True
 |some (.ins _ _ _)=>True
 |some (.ext _)=>True
 |_=>False
section
variable {P:aG} {w:World} {H:Hp} {h h':Heap} {x e:Addr} {o':HO}
theorem HOk.write(ok:HOk P w H h)(mu:Mut (H x))(he:e=x∨H e=some (.own x))(k:∀b u,b≠e→h.get? b=some u→h'.get? b=some u)(heo:∃u,h'.get? e=some u)
  (new:xE P w (upd H x o') h' x o'):HOk P w (upd H x o') h':=fun b u q=>by
 have nown:∀c y,H c=some (.own y)→c≠x:=fun c y r z=>by subst z;rw[r]at mu;exact mu
 have ntup:∀c u,H c=some u→xoV u→c≠x:=fun c u r hf z=>by
  subst z;rw[r]at mu;cases u<;> first|exact mu|exact hf
 by_cases hb:b=x
 ·subst hb;rw[xk]at q;cases q;exact new
 ·rw[xj hb]at q
  by_cases hbe:b=e
  ·have q':H b=some (.own x):=by
    rcases he with z|z
    ·exact absurd (hbe.trans z) hb
    ·rw[hbe];exact z
   rw[q]at q';cases q';obtain⟨v,hv⟩:=heo;exact⟨v,by rw[hbe];exact hv⟩
  ·refine(ok b u q).stay (fun c v hc r=>k c v ?_ r) (fun c r=>by rw[xj (nown c b r)];exact r) fun c xs r hf=>by rw[xj (ntup c xs r hf)];exact r
   rcases hc with rfl|hc
   ·exact hbe
   ·rintro rfl;rcases he with z|z
    ·exact nown c b hc z
    ·rw[hc]at z;cases z;exact hb rfl
end
structure Un(fs ex:List Addr)(H H':Hp)(h h':Heap):Prop where
 keep:∀b o,h.get? b=some o→H b=none→b∉fs→b∉ex→h'.get? b=some o
 slot:∀b o,h.get? b=some o→H b=none→b∈fs→b∉ex→∃sl,h'.get? b=some {o with slots:=sl}
 free:∀b o,h.get? b=some o→H b=none→b∉ex→H' b=none
 there:∀b o,h.get? b=some o→b∉ex→∃o',h'.get? b=some o'
 fix:∀b u,H b=some u→Fix u→H' b=some u
section
variable {fs fs' ex ex':List Addr} {H H1 H2:Hp} {h h1 h2 h':Heap} {a x e:Addr} {o:HO}
theorem Un.any(u:Un fs ex H H1 h h1){b:Addr}{ob:Obj}(q:h.get? b=some ob)(n:H b=none)(hx:b∉ex):∃sl,h1.get? b=some {ob with slots:=sl}:=by
 by_cases hb:b∈fs
 ·exact u.slot b ob q n hb hx
 ·exact⟨ob.slots,u.keep b ob q n hb hx⟩
theorem Un.trans(a:Un fs ex H H1 h h1)(b:Un fs ex H1 H2 h1 h2):Un fs ex H H2 h h2 where
 keep:=fun c ob q n hc hx=>b.keep c ob (a.keep c ob q n hc hx) (a.free c ob q n hx) hc hx
 slot:=fun c ob q n hc hx=>by
  obtain⟨sl,e1⟩:=a.slot c ob q n hc hx;obtain⟨sl',e2⟩:=b.slot c _ e1 (a.free c ob q n hx) hc hx;exact⟨sl',e2⟩
 free:=fun c ob q n hx=>by
  obtain⟨o',e1⟩:=a.there c ob q hx;exact b.free c o' e1 (a.free c ob q n hx) hx
 there:=fun c ob q hx=>by
  obtain⟨o',e1⟩:=a.there c ob q hx;exact b.there c o' e1 hx
 fix:=fun c u q f=>b.fix c u (a.fix c u q f) f
theorem Un.kept(k:∀b u,h.get? b=some u→h'.get? b=some u):Un fs ex H H h h':=
 ⟨fun b ob q _ _ _=>k b ob q,fun b ob q _ _ _=>⟨ob.slots,k b ob q⟩,fun _ _ _ n _=>n,fun b ob q _=>⟨ob,k b ob q⟩,fun _ _ q _=>q⟩
theorem Un.refl:Un fs ex H H h h:=Un.kept fun _ _ q=>q
theorem Un.laid(k:∀b u,h.get? b=some u→h'.get? b=some u)(hp:h.objs.size≤a)(hn:H a=none):Un fs ex H (upd H a o) h h' where
 keep:=fun b u q _ _ _=>k b u q
 slot:=fun b u q _ _ _=>⟨u.slots,k b u q⟩
 free:=fun b u q n _=>by rw[xj (aq (au (ai q) hp))];exact n
 there:=fun b u q _=>⟨u,k b u q⟩
 fix:=fun b u q _=>by rw[xj (xv q hn)];exact q
theorem Un.write(mu:Mut (H x))(he:e=x∨H e=some (.own x))(k:∀b u,b≠e→h.get? b=some u→h'.get? b=some u)(heo:∃u,h'.get? e=some u):Un fs ex H (upd H x o) h h':=by
 have hx:∀b,H b=none→b≠x:=fun b n z=>by subst z;rw[n]at mu;exact mu
 have hb:∀b,H b=none→b≠e:=fun b n z=>by
  subst z;rcases he with r|r
  ·exact hx b n r
  ·rw[n]at r;cases r
 have hm:∀b u,H b=some u→¬Mut (some u)→b≠x:=fun b u q nm z=>by subst z;rw[q]at mu;exact nm mu
 refine⟨fun b u q n _ _=>k b u (hb b n) q,fun b u q n _ _=>⟨u.slots,k b u (hb b n) q⟩,fun b u q n _=>by rw[xj (hx b n)];exact n,fun b u q _=>?_,
  fun b u q hf=>by rw[xj (hm b _ q fun z=>by cases u<;> first|exact z|exact hf)];exact q⟩
 by_cases hbe:b=e
 ·subst hbe;exact heo
 ·exact⟨u,k b u hbe q⟩
end
def trk(h:Heap)(H:Hp):List Addr:=(a9 h.objs.size).filter fun a=>(H a).isSome
def xbH(h:Heap)(H:Hp):Heap:=W.hideAll h (trk h H)
theorem xk1(h:Heap)(H:Hp):(xbH h H).objs.size=h.objs.size:=W.hideAll_size _ _
theorem xmx{h:Heap}{H:Hp}{b:Addr}{o:Obj}(e:h.get? b=some o)(n:H b=none):(xbH h H).get? b=some o:=
 W.hideAll_get _ e fun hm=>by
  have q:(H b).isSome=true:=(aU.mp hm).2;rw[n]at q;simp at q
theorem xnP{h:Heap}{H:Hp}{b:Addr}{o:Obj}(e:(xbH h H).get? b=some o):h.get? b=some o∧H b=none:=by
 have e':h.get? b=some o:=W.of_hideAll (trk h H) e;refine⟨e',?_⟩;cases q:H b with
 |none=>rfl
 |some x=>
  have hm:b∈trk h H:=aU.mpr ⟨bx.mpr (ai e'),by simp[q]⟩;have z:(xbH h H).get? b=none:=W.hideAll_none (trk h H) hm;rw[z]at e;cases e
end L2
namespace L2
open PySem PySem.Spec PyProof.Rows
structure Mod(K:ah)(mg:Str→Option Value)(base:Heap):Prop where
 kin:K.In base
 glob:base.Ns bz mg
 blt:∃mb,base.Ns dh mb∧∀x:Str,x≠"__name__"→mb x=bG x
 nolimit:base.NoLimit
 bm:∃b o,mg "__builtins__"=some (.ref b)∧b≠dh∧base.get? b=some o∧o.cls= .type "module"∧o.dict=some dh∧o.data= .plain
structure Cx where
 prog:aG
 w:World
 K:ah
 mg:Str→Option Value
 base:Heap
 A:aL
 N:List Str
 s₀:ae
 H₀:Hp
 env:Env
 outer:List Env
 stack:List Env
 ex:List Addr
 fn:Str→Bool
 calm:Bool
 pn:List (Addr×Obj)
 xe:Value→ae→Prop
 cp:Str→Bool
def frs(l:List Env):List Addr:=l.filterMap (·.frame)
abbrev Cx.fs(X:Cx):List Addr:=frs X.outer
def Vis(sc:Scope)(x:Str):Prop:=sc.names.lookup x=some .local∨sc.names.lookup x=some .cell∨sc.names.lookup x=some .free
def Loc(sc:Scope)(x:Str):Prop:=sc.names.lookup x=some .local∨sc.names.lookup x=some .cell
def Look(env:Env)(h:Heap)(m:Str→Option Value)(x:Str)(u:Value):Prop:=
 (env.kindOf x=some .local∧m x=some u)∨((env.kindOf x=some .cell∨env.kindOf x=some .free)∧∃c,env.cells.lookup x=some c∧h.IsCell c (some u))
structure Cx.Ok(X:Cx):Prop where
 mod:Mod X.K X.mg X.base
 kind:X.env.scope.kind= .function
 glob:X.env.globals=bz
 blt:X.env.builtins=dh
 above:X.s₀.heap.objs.size≤X.env.locals
 inj:∀x y c,X.env.cells.lookup x=some c→X.env.cells.lookup y=some c→x=y
 has:∀x,(X.env.kindOf x=some .cell∨X.env.kindOf x=some .free)→∃c,X.env.cells.lookup x=some c
 cab:∀x c,X.fn x=true→X.env.cells.lookup x=some c→X.s₀.heap.objs.size≤c
 hd:X.calm=true→X.A.handled=none
 frames:X.A.frames=some X.stack
 stk:X.stack=X.outer∨(X.stack=X.env::X.outer∧X.env.frame=some X.env.locals)
 exf:∀b∈X.ex,b≠X.env.locals∧∀x c,X.env.cells.lookup x=some c→c≠b
 bs:∀b o,X.base.get? b=some o→X.s₀.heap.get? b=some o∧X.H₀ b=none
 bsz:X.base.objs.size≤X.s₀.heap.objs.size
 noex:∀b o,X.base.get? b=some o→b∉X.ex
 exfs:∀b∈X.ex,b∉X.fs
 funs:X.s₀.heap.FunFrames X.base X.outer
 frf:∀b∈X.fs,X.H₀ b=none
 cab2:∀x c,X.cp x=true→X.env.cells.lookup x=some c→X.s₀.heap.objs.size≤c
 hz:∀b,X.s₀.heap.objs.size≤b→X.H₀ b=none
structure Inv(X:Cx)(pins:List (Addr×Obj))(σ:List (Option V))(H:Hp)(s:ae):Prop where
 ok:X.Ok
 os:s.os=X.s₀.os
 bare:ef s.gens
 base:Un X.fs X.ex X.H₀ H X.s₀.heap s.heap
 loc:∃m,s.heap.Ns X.env.locals m∧∀(i:Nat) (x:Str) (v:V),X.N[i]? =some x→σ[i]? =some (some v)→Vis X.env.scope x→∃u,RelV v u∧Look X.env s.heap m x u
 cell:∀x c,X.env.cells.lookup x=some c→∃v,s.heap.IsCell c v
 free:H X.env.locals=none
 freeC:∀x c,X.env.cells.lookup x=some c→H c=none∨(X.fn x=false∧∃o,H c=some (.cel o)∧(o=none→∀(i:Nat) v,X.N[i]? =some x→(X.env.kindOf x=some .cell∨X.env.kindOf x=some .free)→σ[i]?≠some (some v)))
 pin:∀p∈X.pn++pins,s.heap.get? p.1=some p.2∧H p.1=none∧p.1≠X.env.locals∧p.1∉X.fs∧∀v,p.2.data≠.cell v
 hok:HOk X.prog X.w H s.heap
 len:σ.length=X.N.length
section
variable {X:Cx} {pins:List (Addr×Obj)} {σ:List (Option V)} {H H':Hp} {s:ae} {h':Heap}
theorem Cx.Ok.nofr(ok:X.Ok){b:Addr}{o:Obj}(e:X.base.get? b=some o):b∉X.fs:=fun hb=>by
 have:=(ok.funs.mem hb).1;rw[e]at this;cases this
theorem Inv.bs(I:Inv X pins σ H s):∀b o,X.base.get? b=some o→s.heap.get? b=some o∧H b=none:=fun b o e=>
 ⟨I.base.keep b o (I.ok.bs b o e).1 (I.ok.bs b o e).2 (I.ok.nofr e) (I.ok.noex b o e),I.base.free b o (I.ok.bs b o e).1 (I.ok.bs b o e).2 (I.ok.noex b o e)⟩
theorem Inv.bk(I:Inv X pins σ H s):∀b o,X.base.get? b=some o→s.heap.get? b=some o:=fun b o e=>(I.bs b o e).1
theorem Inv.mod(I:Inv X pins σ H s):Mod X.K X.mg X.base:=I.ok.mod
theorem Inv.kIn(I:Inv X pins σ H s):X.K.In s.heap:=I.ok.mod.kin.keeps I.bk
theorem Inv.lt(I:Inv X pins σ H s):X.env.locals<s.heap.objs.size:=let⟨_,hn,_⟩:=I.loc;hn.lt
theorem Inv.sz(I:Inv X pins σ H s):X.s₀.heap.objs.size≤s.heap.objs.size:=bg I.ok.above (bS I.lt)
theorem Inv.nofs(I:Inv X pins σ H s){a:Addr}(h:s.heap.objs.size≤a):a∉X.fs:=fun hb=>by
 obtain⟨_,o,ho,_⟩:=I.ok.funs.mem hb;exact absurd (au (ai ho) (bg I.sz h)) (bJ _)
theorem Inv.cne(I:Inv X pins σ H s):∀x c,X.env.cells.lookup x=some c→c≠X.env.locals:=fun x c e z=>by
 obtain⟨v,o,ho,hd⟩:=I.cell x c e;obtain⟨m,⟨o',es,ep,ho',hd',_⟩,_⟩:=I.loc;rw[z,ho']at ho;cases ho;rw[hd']at hd;cases hd
theorem Inv.funs(I:Inv X pins σ H s):s.heap.FunFrames X.base X.outer:=by
 have all:∀(l:List Env),(∀b∈frs l,b∈X.fs)→X.s₀.heap.FunFrames X.base l→s.heap.FunFrames X.base l:=by
  intro l
  induction l with
  |nil=>intro _ _;trivial
  |cons env r ih=>
   intro hs hl;obtain⟨hk,⟨L,o,hf,hn,ho,hd⟩,hr⟩:=hl;have hL:L∈X.fs:=hs L (by unfold frs;rw[fw,hf];exact aS);obtain⟨sl,e⟩:=I.base.slot L o ho (I.ok.frf L hL) hL fun z=>I.ok.exfs L z hL;exact⟨hk,⟨L,_,hf,hn,e,hd⟩,ih (fun b hb=>hs b (by unfold frs;rw[fw,hf];exact aD _ hb)) hr⟩
 exact all X.outer (fun _ hb=>hb) I.ok.funs
theorem Inv.stack(I:Inv X pins σ H s):s.heap.FunFrames X.base X.stack:=by
 rcases I.ok.stk with e|⟨e,hf⟩
 ·rw[e];exact I.funs
 ·rw[e];obtain⟨m,hn,_⟩:=I.loc;refine .cons (by rw[I.ok.kind];decide) hf hn ?_ I.funs;exact eZ (bg I.ok.bsz I.ok.above)
theorem Inv.stkSub(I:Inv X pins σ H s):∀b∈frs X.stack,b∈X.env.locals::X.fs:=fun b hb=>by
 rcases I.ok.stk with e|⟨e,hf⟩
 ·rw[e]at hb;exact aD _ hb
 ·rw[e]at hb;unfold frs at hb;rw[fw,hf]at hb;exact hb
theorem Inv.stkFree(I:Inv X pins σ H s):∀b∈frs X.stack,H b=none:=fun b hb=>by
 rcases ar.mp (I.stkSub b hb)with e|hb
 ·rw[e];exact I.free
 ·obtain⟨_,o,ho,_⟩:=I.ok.funs.mem hb;exact I.base.free b o ho (I.ok.frf b hb) fun z=>I.ok.exfs b z hb
theorem Inv.step{g':Array GenState}{t':Nat}{d':Drawn}{ch:List Addr}(I:Inv X pins σ H s)
  (hch:∀b∈ch,(b∈X.ex∨X.s₀.heap.objs.size≤b)∧b≠X.env.locals∧(∀x c,X.env.cells.lookup x=some c→c≠b)∧∀p∈X.pn++pins,p.1≠b)
  (keep:∀b o,b≠X.env.locals→b∉X.fs→b∉ch→s.heap.get? b=some o→H b=none→h'.get? b=some o)
  (slot:∀b o,b≠X.env.locals→b∈X.fs→b∉ch→s.heap.get? b=some o→H b=none→∃sl,h'.get? b=some {o with slots:=sl}) (free:∀b o,b∉ch→s.heap.get? b=some o→H b=none→H' b=none)
  (there:∀b o,b∉ch→s.heap.get? b=some o→∃o',h'.get? b=some o')
  (fix:∀b u,H b=some u→Fix u→H' b=some u)
  (ns:∀m,s.heap.Ns X.env.locals m→h'.Ns X.env.locals m) (hok:HOk X.prog X.w H' h') (hg:ef g'):
  Inv X pins σ H' {s with heap:=h',gens:=g',drawn:=d',toks:=t'}:=by
 have neL:∀b o,X.s₀.heap.get? b=some o→b≠X.env.locals:=fun b o e=>aq (au (ai e) I.ok.above);have neC:∀b o,X.s₀.heap.get? b=some o→b∉X.ex→b∉ch:=fun b o e hx hb=>by
  rcases(hch b hb).1 with z|z
  ·exact hx z
  ·exact absurd (au (ai e) z) (bJ _)
 have cellK:∀x c,X.env.cells.lookup x=some c→H c=none→∀v,s.heap.IsCell c v→h'.IsCell c v:=fun x c e hn v ⟨o,ho,hd⟩=>by
  have nch:c∉ch:=fun z=>(hch c z).2.2.1 x c e rfl
  by_cases hc:c∈X.fs
  ·obtain⟨sl,q⟩:=slot c o (I.cne x c e) hc nch ho hn;exact⟨_,q,hd⟩
  ·exact⟨o,keep c o (I.cne x c e) hc nch ho hn,hd⟩
 refine⟨I.ok,I.os,hg,⟨fun b o e n hb hx=>?_,fun b o e n hb hx=>?_,fun b o e n hx=>?_,fun b o e hx=>?_,fun b u e f=>fix b u (I.base.fix b u e f) f⟩,?_,fun x c e=>?_,?_,fun x c e=>?_,fun p hp=>?_,hok,I.len⟩
 ·exact keep b o (neL b o e) hb (neC b o e hx) (I.base.keep b o e n hb hx) (I.base.free b o e n hx)
 ·obtain⟨sl,e1⟩:=I.base.slot b o e n hb hx;obtain⟨sl',e2⟩:=slot b _ (neL b o e) hb (neC b o e hx) e1 (I.base.free b o e n hx);exact⟨sl',e2⟩
 ·obtain⟨o',e1⟩:=I.base.there b o e hx;exact free b o' (neC b o e hx) e1 (I.base.free b o e n hx)
 ·obtain⟨o',e1⟩:=I.base.there b o e hx;exact there b o' (neC b o e hx) e1
 ·obtain⟨m,hn,hl⟩:=I.loc;refine⟨m,ns m hn,fun i x v e1 e2 e3=>?_⟩;obtain⟨u,r,l⟩:=hl i x v e1 e2 e3;rcases l with l|⟨k,c,e,z⟩
  ·exact⟨u,r,.inl l⟩
  ·rcases I.freeC x c e with hn'|⟨_,o,ho,hno⟩
   ·exact⟨u,r,.inr ⟨k,c,e,cellK x c e hn' _ z⟩⟩
   ·cases o with
    |none=>exact absurd e2 (hno rfl i v e1 k)
    |some v'=>
     obtain⟨y,hy,hr⟩:=I.hok c _ ho;obtain⟨y',hy',hr'⟩:=hok c _ (fix c _ ho trivial);obtain⟨y2,rfl,r2⟩:=hr v' rfl;obtain⟨y3,rfl,r3⟩:=hr' v' rfl;have:v=v':=RelV.fn r (by
      obtain⟨o1,q1,q2⟩:=z;obtain⟨o2,q3,q4⟩:=hy;rw[q1]at q3;cases q3;rw[q2]at q4;cases q4;exact r2)
     subst this;exact⟨y3,r3,.inr ⟨k,c,e,hy'⟩⟩
 ·rcases I.freeC x c e with hn'|⟨_,o,ho,_⟩
  ·obtain⟨v,z⟩:=I.cell x c e;exact⟨v,cellK x c e hn' v z⟩
  ·obtain⟨y',hy',_⟩:=hok c _ (fix c _ ho trivial);exact⟨y',hy'⟩
 ·obtain⟨m,⟨o,_,_,ho,_⟩,_⟩:=I.loc;exact free _ o (fun z=>(hch _ z).2.1 rfl) ho I.free
 ·rcases I.freeC x c e with hn'|⟨hf,o,ho,hno⟩
  ·obtain⟨v,o,ho,hd⟩:=I.cell x c e;exact .inl (free c o (fun z=>(hch c z).2.2.1 x c e rfl) ho hn')
  ·exact .inr ⟨hf,o,fix c _ ho trivial,hno⟩
 ·obtain⟨e,n,ne,nf,d⟩:=I.pin p hp;have nch:p.1∉ch:=fun z=>(hch p.1 z).2.2.2 p hp rfl;exact⟨keep p.1 p.2 ne nf nch e n,free p.1 p.2 nch e n,ne,nf,d⟩
theorem Inv.un{t':Nat}(I:Inv X pins σ H s)(u:Un X.fs [] H H' s.heap h')(hok:HOk X.prog X.w H' h'):Inv X pins σ H' {s with heap:=h',toks:=t'}:=by
 obtain⟨m,⟨o,es,ep,ho,r⟩,_⟩:=id I.loc;obtain⟨sl,hL⟩:=u.any ho I.free (by simp);exact I.step (g':=s.gens) (d':=s.drawn) (ch:=[]) (fun _ z=>nomatch z) (fun b o _ hb _ e n=>u.keep b o e n hb (by simp)) (fun b o _ hb _ e n=>u.slot b o e n hb (by simp)) (fun b o _ e n=>u.free b o e n (by simp)) (fun b o _ e=>u.there b o e (by simp)) u.fix (fun m' hm=>by
  obtain⟨o',es',ep',ho',r'⟩:=hm;rw[ho]at ho';cases ho';exact⟨_,es',ep',hL,r'⟩) hok I.bare
theorem Inv.call{g':Array GenState}{t':Nat}{d':Drawn}{ch:List Addr}(I:Inv X pins σ H s)(u:Un (frs X.stack) ch H H' s.heap h')(hok:HOk X.prog X.w H' h')(hg:ef g')
  (hch:∀b∈ch,(b∈X.ex∨X.s₀.heap.objs.size≤b)∧b≠X.env.locals∧(∀x c,X.env.cells.lookup x=some c→c≠b)∧∀p∈X.pn++pins,p.1≠b):
  Inv X pins σ H' {s with heap:=h',gens:=g',drawn:=d',toks:=t'}:=by
 obtain⟨m,⟨o,es,ep,ho,r⟩,_⟩:=id I.loc;obtain⟨sl,hL⟩:=u.any ho I.free fun z=>(hch _ z).2.1 rfl;exact I.step (ch:=ch) hch (fun b o hL hb hc e n=>u.keep b o e n (fun z=>(ar.mp (I.stkSub b z)).elim hL hb) hc) (fun b o _ _ hc e n=>u.any e n hc) (fun b o hc e n=>u.free b o e n hc) (fun b o hc e=>u.there b o e hc) u.fix (fun m' hm=>by
  obtain⟨o',es',ep',ho',r'⟩:=hm;rw[ho]at ho';cases ho';exact⟨_,es',ep',hL,r'⟩) hok hg
theorem Inv.turned{t':Nat}{it:Addr}(I:Inv X pins σ H s)(k:∀b o,b≠it→s.heap.get? b=some o→h'.get? b=some o)(hn:H it=none)(hL:it≠X.env.locals)
  (h1:it∈X.ex∨X.s₀.heap.objs.size≤it) (h2:∀x c,X.env.cells.lookup x=some c→c≠it) (h3:∀p∈X.pn++pins,p.1≠it):Inv X pins σ H {s with heap:=h',toks:=t'}:=by
 have nit:∀b u,H b=some u→b≠it:=fun b u e z=>by rw[z,hn]at e;cases e
 refine I.step (g':=s.gens) (d':=s.drawn) (ch:=[it]) (fun b hb=>?_) (fun b o _ _ hc e _=>k b o (fun z=>hc (by simp[z])) e) (fun b o _ _ hc e _=>⟨o.slots,k b o (fun z=>hc (by simp[z])) e⟩) (fun _ _ _ _ n=>n)
  (fun b o hc e=>⟨o,k b o (fun z=>hc (by simp[z])) e⟩) (fun _ _ e _=>e) (fun m hm=>?_) (fun b u e=>?_) I.bare
 ·have e:b=it:=by simpa using hb
  subst e;exact⟨h1,hL,h2,h3⟩
 ·obtain⟨o,es,ep,ho,r⟩:=hm;exact⟨o,es,ep,k _ o (aR hL) ho,r⟩
 ·refine(I.hok b u e).stay (fun c v hc q=>k c v ?_ q) (fun _ q=>q) fun _ _ q _=>q;rcases hc with z|z
  ·rw[z];exact nit b u e
  ·exact nit c _ z
theorem Inv.tok(I:Inv X pins σ H s)(t:Nat):Inv X pins σ H {s with toks:=t}:=I.un (h':=s.heap) (t':=t) Un.refl I.hok
theorem Inv.kept{t':Nat}(I:Inv X pins σ H s)(k:∀b u,s.heap.get? b=some u→h'.get? b=some u):Inv X pins σ H {s with heap:=h',toks:=t'}:=I.un (Un.kept k) (I.hok.kept k)
theorem Inv.laid{a:Addr}{o:HO}{t':Nat}(I:Inv X pins σ H s)(k:∀b u,s.heap.get? b=some u→h'.get? b=some u)(hp:s.heap.objs.size≤a)(new:xE X.prog X.w (upd H a o) h' a o):
  Inv X pins σ (upd H a o) {s with heap:=h',toks:=t'}:=I.un (Un.laid k hp (I.hok.fresh hp)) (I.hok.laid k hp new)
theorem Inv.write{x e:Addr}{o:HO}{t':Nat}(I:Inv X pins σ H s)(mu:Mut (H x))(he:e=x∨H e=some (.own x))(k:∀b u,b≠e→s.heap.get? b=some u→h'.get? b=some u)(heo:∃u,h'.get? e=some u)
  (new:xE X.prog X.w (upd H x o) h' x o):Inv X pins σ (upd H x o) {s with heap:=h',toks:=t'}:=I.un (Un.write mu he k heo) (I.hok.write mu he k heo new)
theorem Inv.weak{σ':List (Option V)}(I:Inv X pins σ H s)(hl:σ'.length=σ.length)(w:∀(i:Nat) v,σ'[i]? =some (some v)→σ[i]? =some (some v)):Inv X pins σ' H s:=
 ⟨I.ok,I.os,I.bare,I.base,let⟨m,hn,hl'⟩:=I.loc;⟨m,hn,fun i x v e1 e2 e3=>hl' i x v e1 (w i v e2) e3⟩,I.cell,I.free,fun x c e=>(I.freeC x c e).imp id fun⟨hf,o,ho,hno⟩=>⟨hf,o,ho,fun z i v e1 k e2=>hno z i v e1 k (w i v e2)⟩,I.pin,I.hok,hl.trans I.len⟩
theorem Inv.pins_of{pins':List (Addr×Obj)}(I:Inv X pins σ H s)(h:∀p∈pins',s.heap.get? p.1=some p.2∧H p.1=none∧p.1≠X.env.locals∧p.1∉X.fs∧∀v,p.2.data≠.cell v):Inv X pins' σ H s:=
 ⟨I.ok,I.os,I.bare,I.base,I.loc,I.cell,I.free,I.freeC,fun p hp=>(aY.mp hp).elim (fun z=>I.pin p (bf _ z)) (h p),I.hok,I.len⟩
theorem xbI{N:List Str}(hN:N.Nodup){i j:Nat}{x:Str}(a:N[i]? =some x)(b:N[j]? =some x):i=j:=by
 obtain⟨h1,e1⟩:=aH.mp a;obtain⟨h2,e2⟩:=aH.mp b;exact(ig hN).mp (e1.trans e2.symm)
theorem xgo{M:Model}{A:aL}{E:Value→ae→Prop}{i:Nat}{x:Str}{v:V}{u:Value}{Q:Unit→ae→Prop}(I:Inv X pins σ H s)(hN:X.N.Nodup)(hi:X.N[i]? =some x)(hx:Loc X.env.scope x)(r:RelV v u)
  (h:∀s',Inv X pins (σ.set i (some v)) H s'→(∃a,ij a s.heap s'.heap∧(a=X.env.locals∨X.env.cells.lookup x=some a))→Q () s') (hf:X.fn x=true∨X.env.scope.names.lookup x=some .local:=by first|exact .inl rfl|exact .inr rfl|assumption):wpAny M A (storeName X.env x u) Q E s:=by
 obtain⟨m,hn,hl⟩:=id I.loc;have hcls:(X.env.scope.kind== .class||(X.env.scope.kind== .module&&X.env.locals != X.env.globals))=false:=by rw[I.ok.kind];rfl
 have hiσ:i<σ.length:=by rw[I.len];exact(aH.mp hi).1
 have cne:=I.cne;have tracked:∀{a:Addr} {h':Heap},(∃o,s.heap.get? a=some o∧H a=none)→ij a s.heap h'→HOk X.prog X.w H h':=fun{a h'} ha hs b ob e=>by
  obtain⟨_,_,hfree⟩:=ha;refine(I.hok b ob e).stay (fun c w' hc q=>(hs.2 c ?_).trans q) (fun _ q=>q) fun _ _ q _=>q;rintro rfl;rcases hc with rfl|hc
  ·rw[hfree]at e;cases e
  ·rw[hfree]at hc;cases hc
 rcases hx with hk|hk
 ·refine wpAny_storeName_local hk hn (fun h' hn' hs=>?_) hcls;obtain⟨oL,_,_,hoL,_⟩:=id hn;refine h _ ⟨I.ok,I.os,I.bare,⟨fun b o e n hb hx=>?_,fun b o e n hb hx=>?_,I.base.free,fun b o e hx=>?_,I.base.fix⟩,⟨_,hn',fun j y v' e1 e2 e3=>?_⟩,fun y c e=>?_,I.free,fun y c e=>?_,fun p hp=>?_,tracked ⟨oL,hoL,I.free⟩ hs,by simpa using I.len⟩ ⟨_,hs,.inl rfl⟩
  ·exact(hs.2 b (aq (au (ai e) I.ok.above))).trans (I.base.keep b o e n hb hx)
  ·obtain⟨sl,e1⟩:=I.base.slot b o e n hb hx;exact⟨sl,(hs.2 b (aq (au (ai e) I.ok.above))).trans e1⟩
  ·obtain⟨o',e1⟩:=I.base.there b o e hx;exact⟨o',(hs.2 b (aq (au (ai e) I.ok.above))).trans e1⟩
  ·by_cases hj:j=i
   ·subst hj;rw[hi]at e1;cases e1;rw[eI hiσ]at e2;cases e2;exact⟨u,r,.inl ⟨hk,by simp⟩⟩
   ·rw[cY (aR hj)]at e2;obtain⟨u',r',q⟩:=hl j y v' e1 e2 e3;refine⟨u',r',?_⟩;rcases q with⟨k,e⟩|⟨k,c,e,z⟩
    ·refine .inl ⟨k,?_⟩;have:y≠x:=fun e=>hj (xbI hN e1 (e▸hi));simp[this,e]
    ·exact .inr ⟨k,c,e,z.sameBut hs (cne y c e)⟩
  ·obtain⟨w',z⟩:=I.cell y c e;exact⟨w',z.sameBut hs (cne y c e)⟩
  ·refine(I.freeC y c e).imp id fun⟨hf',o',ho',hno⟩=>⟨hf',o',ho',fun z j v' e1 k e2=>?_⟩
   by_cases hj:j=i
   ·subst hj;rw[hi]at e1;cases e1;have hk':X.env.kindOf x=some .local:=hk;rw[hk']at k;rcases k with k|k<;> cases k
   ·rw[cY (aR hj)]at e2;exact hno z j v' e1 k e2
  ·obtain⟨e,n,ne,nf,d⟩:=I.pin p hp;exact⟨(hs.2 p.1 ne).trans e,n,ne,nf,d⟩
 ·have hfn:X.fn x=true:=by
   rcases hf with z|z
   ·exact z
   ·rw[z]at hk;cases hk
  obtain⟨c,hc⟩:=I.ok.has x (.inl hk);have hHc:H c=none:=by
   rcases I.freeC x c hc with z|⟨z,_⟩
   ·exact z
   ·rw[hfn]at z;cases z
  obtain⟨w',z⟩:=I.cell x c hc;refine wpAny_storeName_cell I.ok.kind hk hc z (fun h' hc' hs=>?_);obtain⟨oc,hoc,hocd⟩:=id z;refine h {s with heap:=h'} ⟨I.ok,I.os,I.bare,⟨fun b o e n hb hx=>?_,fun b o e n hb hx=>?_,I.base.free,fun b o e hx=>?_,I.base.fix⟩,⟨m,hn.sameBut hs (aR (cne x c hc)),fun j y v' e1 e2 e3=>?_⟩,fun y c' e=>?_,I.free,fun y c' e=>?_,fun p hp=>?_,tracked ⟨oc,hoc,hHc⟩ hs,by simpa using I.len⟩ ⟨c,hs,.inr hc⟩
  ·exact(hs.2 b (aq (au (ai e) (I.ok.cab x c hfn hc)))).trans (I.base.keep b o e n hb hx)
  ·obtain⟨sl,e1⟩:=I.base.slot b o e n hb hx;exact⟨sl,(hs.2 b (aq (au (ai e) (I.ok.cab x c hfn hc)))).trans e1⟩
  ·obtain⟨o',e1⟩:=I.base.there b o e hx;exact⟨o',(hs.2 b (aq (au (ai e) (I.ok.cab x c hfn hc)))).trans e1⟩
  ·by_cases hj:j=i
   ·subst hj;rw[hi]at e1;cases e1;rw[eI hiσ]at e2;cases e2;exact⟨u,r,.inr ⟨.inl hk,c,hc,hc'⟩⟩
   ·rw[cY (aR hj)]at e2;obtain⟨u',r',q⟩:=hl j y v' e1 e2 e3;refine⟨u',r',?_⟩;rcases q with q|⟨k,c',e,z'⟩
    ·exact .inl q
    ·refine .inr ⟨k,c',e,z'.sameBut hs ?_⟩;rintro rfl;exact hj (xbI hN e1 (I.ok.inj _ _ _ e hc▸hi))
  ·by_cases hcc:c'=c
   ·subst hcc;exact⟨_,hc'⟩
   ·obtain⟨w2,z2⟩:=I.cell y c' e;exact⟨w2,z2.sameBut hs hcc⟩
  ·refine(I.freeC y c' e).imp id fun⟨hf',o',ho',hno⟩=>⟨hf',o',ho',fun z j v' e1 k e2=>?_⟩
   by_cases hj:j=i
   ·subst hj;rw[hi]at e1;cases e1;rw[hfn]at hf';cases hf'
   ·rw[cY (aR hj)]at e2;exact hno z j v' e1 k e2
  ·obtain⟨e,n,ne,nf,d⟩:=I.pin p hp;refine⟨(hs.2 p.1 ?_).trans e,n,ne,nf,d⟩;intro q;rw[q,hoc]at e;have q':oc=p.2:=bp e;exact d w' (by rw[←q'];exact hocd)
theorem xec{M:Model}{A:aL}{E:Value→ae→Prop}{i:Nat}{x:Str}{v:V}{u:Value}{Q:Unit→ae→Prop}(I:Inv X pins σ H s)(hN:X.N.Nodup)(hi:X.N[i]? =some x)(hx:Loc X.env.scope x)(r:RelV v u)
  (h:∀s',Inv X pins (σ.set i (some v)) H s'→Q () s') (hf:X.fn x=true∨X.env.scope.names.lookup x=some .local:=by first|exact .inl rfl|exact .inr rfl|assumption):wpAny M A (storeName X.env x u) Q E s:=
 xgo I hN hi hx r (fun s' I' _=>h s' I') hf
theorem Inv.call'{s':ae}{ch:List Addr}(I:Inv X pins σ H s)(ho:s'.os=s.os)(u:Un (frs X.stack) ch H H' s.heap s'.heap)(hok:HOk X.prog X.w H' s'.heap)(hg:ef s'.gens)
  (hch:∀b∈ch,(b∈X.ex∨X.s₀.heap.objs.size≤b)∧b≠X.env.locals∧(∀x c,X.env.cells.lookup x=some c→c≠b)∧∀p∈X.pn++pins,p.1≠b):Inv X pins σ H' s':=by
 obtain⟨h',g',d',t',o'⟩:=s';have e:o'=s.os:=ho;subst e;exact I.call (g':=g') (t':=t') (d':=d') u hok hg hch
end
abbrev XK:=Value→Option Addr→Hp→Prop
abbrev St:=List (Option V)
abbrev VK:=V→Hp→Prop
abbrev TE:=St→Hp→VK→Prop
abbrev TT:=St→Hp→(Bool→Hp→Prop)→Prop
abbrev TA:=St→Hp→(List V→Hp→Prop)→Prop
structure Ends where
 nx:St→Hp→Prop
 rt:VK
 bk:St→Hp→Prop:=fun _ _=>False
 ct:St→Hp→Prop:=fun _ _=>False
abbrev TS:=Ends→St→Hp→Prop
def EP(X:Cx)(pins:List (Addr×Obj))(σ:St)(Q:VK)(u:Value)(s':ae):Prop:=∃v H',Inv X pins σ H' s'∧RelV v u∧Q v H'
def TP(X:Cx)(pins:List (Addr×Obj))(σ:St)(Q:Bool→Hp→Prop)(b:Bool)(s':ae):Prop:=∃H',Inv X pins σ H' s'∧Q b H'
def AP(X:Cx)(pins:List (Addr×Obj))(σ:St)(Q:List V→Hp→Prop)(us:List Value)(s':ae):Prop:=∃vs H',Inv X pins σ H' s'∧Vals vs us∧Q vs H'
def SP(X:Cx)(pins:List (Addr×Obj))(D:Ends)(f:Flow)(s':ae):Prop:=
 match f with
 | .next=>∃σ' H',Inv X pins σ' H' s'∧D.nx σ' H'
 | .brk=>∃σ' H',Inv X pins σ' H' s'∧D.bk σ' H'
 | .cont=>∃σ' H',Inv X pins σ' H' s'∧D.ct σ' H'
 | .ret u=>∃v σ' H',Inv X pins σ' H' s'∧RelV v u∧D.rt v H'
def PE(X:Cx)(e:Expr)(t:TE):Prop:=
 ∀(pins:List (Addr×Obj)) (s:ae) (σ:St) (H:Hp) (Q:VK),Inv X pins σ H s→t σ H Q→wpAny (model X.prog X.w) X.A (eval e X.env) (EP X pins σ Q) X.xe s
def PT(X:Cx)(e:Expr)(t:TT):Prop:=
 ∀(pins:List (Addr×Obj)) (s:ae) (σ:St) (H:Hp) (Q:Bool→Hp→Prop),Inv X pins σ H s→t σ H Q→wpAny (model X.prog X.w) X.A (isTrue e X.env (eval e X.env)) (TP X pins σ Q) X.xe s
def PW(X:Cx)(e:Expr)(t:TT):Prop:=
 ∀(whole:Sem Value) (pins:List (Addr×Obj)) (s:ae) (σ:St) (H:Hp) (Q:Bool→Hp→Prop),Inv X pins σ H s→t σ H Q→wpAny (model X.prog X.w) X.A (isTrue e X.env whole) (TP X pins σ Q) X.xe s
theorem PW.pt{X:Cx}{e:Expr}{t:TT}(h:PW X e t):PT X e t:=h _
def PA(X:Cx)(es:List Expr)(t:TA):Prop:=
 ∀(pos:Pos) (pins:List (Addr×Obj)) (s:ae) (σ:St) (H:Hp) (Q:List V→Hp→Prop),Inv X pins σ H s→t σ H Q→wpAny (model X.prog X.w) X.A (spliced (bN pos (aI es X.env))) (AP X pins σ Q) X.xe s
def PS(X:Cx)(st:Stmt)(t:TS):Prop:=
 ∀(pins:List (Addr×Obj)) (s:ae) (σ:St) (H:Hp) (D:Ends),Inv X pins σ H s→t D σ H→wpAny (model X.prog X.w) X.A (exec st X.env) (SP X pins D) X.xe s
def PSs(X:Cx)(st:List Stmt)(t:TS):Prop:=
 ∀(pins:List (Addr×Obj)) (s:ae) (σ:St) (H:Hp) (D:Ends),Inv X pins σ H s→t D σ H→wpAny (model X.prog X.w) X.A (execs st X.env) (SP X pins D) X.xe s
theorem thn{α:Type}{t:Sem α}{Q Q':α→ae→Prop}{M:Model}{A:aL}{E:Value→ae→Prop}{s:ae}(h:wpAny M A t Q E s)(hQ:∀a s,Q a s→Q' a s):wpAny M A t Q' E s:=aK h hQ fun _ _ x=>x
end L2
namespace L2
open PySem PySem.Spec PyProof.Rows
section
variable {X:Cx}
def xoW(i:Nat):TE:=fun σ H Q=>∃v,σ[i]? =some (some v)∧Q v H
def tC(v:V):TE:=fun _ H Q=>Q v H
theorem xhm{i:Nat}{x:Str}{pos:Pos}(hN:X.N[i]? =some x)(hv:Vis X.env.scope x)(hd:(x==("__debug__":Str))=false:=by decide)(hcd:(x==("__classdict__":Str))=false:=by decide):PE X (.Name x pos) (xoW i):=by
 intro pins s σ H Q I h;obtain⟨v,e,h⟩:=h;obtain⟨m,hn,hl⟩:=I.loc;obtain⟨u,r,l⟩:=hl i x v hN e hv;have fin:EP X pins σ Q u s:=⟨v,H,I,r,h⟩;rcases l with⟨hk,hm⟩|⟨hk,c,hc,hcell⟩
 ·exact wpAny_Name (wpAny_loadName_local I.ok.kind hk hn hm fin) hd
 ·rcases hk with hk|hk
  ·exact wpAny_Name (wpAny_loadName_cell I.ok.kind hk hc hcell fin) hd
  ·exact wpAny_Name (wpAny_loadName_free I.ok.kind hk hc hcell fin hcd) hd
theorem xm{i j pos}:PE X (.Constant (.int i) j pos) (tC (.int i)):=fun _ _ _ H _ I h=>wpAny_Constant_int ⟨.int i,H,I.tok _,⟨_,rfl⟩,h⟩
theorem vR{b j pos}:PE X (.Constant (.bool b) j pos) (tC (.bl b)):=fun _ _ _ H _ I h=>Constant_bool ⟨.bl b,H,I,rfl,h⟩
theorem xeG{j pos}:PE X (.Constant .none j pos) (tC .non):=fun _ _ _ H _ I h=>ka ⟨.non,H,I,rfl,h⟩
theorem xeH{x j pos}:PE X (.Constant (.str x) j pos) (tC (.str x)):=fun _ _ _ H _ I h=>Calls.Constant_str ⟨.str x,H,I.tok _,⟨_,rfl⟩,h⟩
def Gl(X:Cx)(x:Str):Prop:=X.env.kindOf x=some .globalImplicit
theorem vD{E:Value→ae→Prop}{pins:List (Addr×Obj)}{s:ae}{σ:St}{H:Hp}{x:Str}{u:Value}{pos:Pos}{Q:Value→ae→Prop}(I:Inv X pins σ H s)(hg:Gl X x)(hm:X.mg x=some u)(h:Q u s)
  (hd:(x==("__debug__":Str))=false:=by decide):wpAny (model X.prog X.w) X.A (eval (.Name x pos) X.env) Q E s:=
 gS I.ok.kind hg (Calls.loadGlobal_global (by rw[I.ok.glob];exact I.mod.glob.keeps I.bk) hm h) hd
theorem yO{E:Value→ae→Prop}{pins:List (Addr×Obj)}{s:ae}{σ:St}{H:Hp}{x:Str}{u:Value}{pos:Pos}{Q:Value→ae→Prop}(I:Inv X pins σ H s)(hg:Gl X x)(hm:X.mg x=none)(hv:bG x=some u)(h:Q u s)
  (hn:x≠"__name__":=by decide) (hd:(x==("__debug__":Str))=false:=by decide):wpAny (model X.prog X.w) X.A (eval (.Name x pos) X.env) Q E s:=by
 obtain⟨mb,h1,h2⟩:=I.mod.blt;exact gS I.ok.kind hg (Calls.loadGlobal_builtin (by rw[I.ok.glob];exact I.mod.glob.keeps I.bk) hm (by rw[I.ok.blt];exact h1.keeps I.bk) ((h2 x hn).trans hv) h) hd
theorem vE{x:Str}{v:V}{u:Value}{pos:Pos}(hg:Gl X x)(hm:X.mg x=some u)(r:RelV v u)(hd:(x==("__debug__":Str))=false:=by decide):PE X (.Name x pos) (tC v):=
 fun _ _ _ H _ I h=>vD I hg hm ⟨v,H,I,r,h⟩ hd
theorem xbn{x:Str}{v:V}{u:Value}{pos:Pos}(hg:Gl X x)(hm:X.mg x=none)(hv:bG x=some u)(r:RelV v u)(hn:x≠"__name__":=by decide)(hd:(x==("__debug__":Str))=false:=by decide):PE X (.Name x pos) (tC v):=
 fun _ _ _ H _ I h=>yO I hg hm hv ⟨v,H,I,r,h⟩ hn hd
variable {a b:Expr} {ta tb:TE} {pos:Pos}
def PC(X:Cx)(op:CmpOp)(a b:Expr)(t:TE):Prop:=
 ∀(pins:List (Addr×Obj)) (s:ae) (σ:St) (H:Hp) (Q:VK),Inv X pins σ H s→t σ H Q→
  wpAny (model X.prog X.w) X.A (eval a X.env) (fun v s₁=>wpAny (model X.prog X.w) X.A (eval b X.env) (fun u s₂=>wpAny (model X.prog X.w) X.A (bK op v u) (EP X pins σ Q) X.xe s₂) X.xe s₁) X.xe s
theorem xhn(b:Expr){op:CmpOp}(h:op≠.In)(h2:op≠.NotIn):c8 op b=false:=by
 have e1:(op==CmpOp.In)=false:=by cases op<;> first|rfl|exact absurd rfl h
 have e2:(op==CmpOp.NotIn)=false:=by cases op<;> first|rfl|exact absurd rfl h2
 cases b<;> simp[c8,e1,e2]
def xqE(ta:TE):TE:=fun σ H Q=>ta σ H fun x H1=>Q (.bl (decide (x= .non))) H1
def xpY(ta:TE):TE:=fun σ H Q=>ta σ H fun x H1=>Q (.bl (!decide (x= .non))) H1
theorem RelV.none_iff{x:V}{v:Value}(r:RelV x v):(v==a8)=decide (x= .non):=by
 cases x with
 |non=>cases r;rfl
 |bl _=>cases r;rfl
 |int _=>obtain⟨t,rfl⟩:=r;rfl
 |str _=>obtain⟨t,rfl⟩:=r;rfl
 |byt _=>obtain⟨t,rfl⟩:=r;rfl
 |flt _=>obtain⟨t,rfl⟩:=r;rfl
 |ref _=>cases r;rfl
 |ty _=>cases r;rfl
theorem xoX{j pos'}(ha:PE X a ta):PC X .Is a (.Constant .none j pos') (xqE ta):=by
 intro pins s σ H Q I h;refine thn (ha pins s σ H _ I h) fun v s1 ⟨x,H1,I1,r1,q1⟩=>?_;exact ka (is_none_gen ⟨.bl _,H1,I1,by rw[r1.none_iff];rfl,q1⟩)
theorem xnQ{j pos'}(ha:PE X a ta):PC X .IsNot a (.Constant .none j pos') (xpY ta):=by
 intro pins s σ H Q I h;refine thn (ha pins s σ H _ I h) fun v s1 ⟨x,H1,I1,r1,q1⟩=>?_;exact ka (isnot_none_gen ⟨.bl _,H1,I1,by rw[r1.none_iff];rfl,q1⟩)
def tB(t:TE):TT:=fun σ H Q=>t σ H fun x H1=>∃c,x= .bl c∧Q c H1
theorem xoY{op:CmpOp}{t:TE}(h:PC X op a b t)(h1:c8 op b=false:=by first|exact xhn _ (by decide) (by decide)|rfl):PE X (.Compare a [op] [b] pos) t:=fun pins s σ H Q I hw=>wpAny_Compare1 (h pins s σ H Q I hw) h1
theorem xk2{op:CmpOp}{t:TE}(h:PC X op a b t)(h1:c8 op b=false:=by first|exact xhn _ (by decide) (by decide)|rfl):PT X (.Compare a [op] [b] pos) (tB t):=by
 intro pins s σ H Q I hw;refine gp (thn (h pins s σ H _ I hw) fun v s1 h1=>thn h1 fun u s2 h2=>thn h2 fun c s3 ⟨x,H1,I1,r1,q1⟩=>?_) h1;obtain⟨d,rfl,q⟩:=q1;cases r1;exact cy ⟨H1,I1,q⟩
variable {tA tB':TT} {rest:List Expr}
def xqF(t:TT):TT:=fun σ H Q=>t σ H fun c H1=>Q (!c) H1
theorem jQ(ha:PT X a tA):PW X (.BoolOp .And [a] pos) tA:=by
 intro wh pins s σ H Q I h;refine isTrue_and (thn (ha pins s σ H Q I h) fun c s1 e=>?_);cases c with
 |true=>exact isTrue_and_nil e
 |false=>exact e
theorem xcA(ha:PT X a tA):PW X (.BoolOp .Or [a] pos) tA:=by
 intro wh pins s σ H Q I h;refine isTrue_or (thn (ha pins s σ H Q I h) fun c s1 e=>?_);cases c with
 |false=>exact isTrue_or_nil e
 |true=>exact e
theorem xbo(ha:PT X a tA):PT X (.UnaryOp .Not a pos) (xqF tA):=by
 intro pins s σ H Q I h;exact isTrue_not (ha pins s σ H (fun c H1=>Q (!c) H1) I h)
theorem jT{op}{t:TE}(h:PE X a t):PE X (.BoolOp op [a] pos) t:=fun pins s σ H Q I hw=>BoolOp_one (h pins s σ H Q I hw)
end
end L2
namespace L2
open PySem PySem.Spec PyProof.Rows
def SqL(K:ah)(H:Hp)(a:Addr)(xs:List V):Prop:=
 Rd H a (.lst xs)∨
  ∃(o:Obj) (its:Array Value) (n:Nat),K.lookup a=some o∧o.cls= .type "list"∧o.dict=none∧o.data= .seq its n∧its.size≤aQ∧Vals xs its.toList
def SqT(K:ah)(H:Hp)(a:Addr)(xs:List V):Prop:=
 Rd H a (.tup xs)∨
  ∃(o:Obj) (its:Array Value) (n:Nat),K.lookup a=some o∧o.cls= .type "tuple"∧o.data= .seq its n∧its.size≤aQ∧Vals xs its.toList
def xqG:Value→Option V
 | .none=>some .non
 | .bool b=>some (.bl b)
 | .int i _=>some (.int i)
 | .str x _=>some (.str x)
 | .bytes b _=>some (.byt b)
 | .float b _=>some (.flt b)
 | .ref a=>some (.ref a)
 | .type n=>some (.ty n)
 |_=>none
theorem RelV.abs{x:V}{u:Value}(r:RelV x u):xqG u=some x:=by
 cases x with
 |non=>cases r;rfl
 |bl _=>cases r;rfl
 |int _=>obtain⟨t,rfl⟩:=r;rfl
 |str _=>obtain⟨t,rfl⟩:=r;rfl
 |byt _=>obtain⟨t,rfl⟩:=r;rfl
 |flt _=>obtain⟨t,rfl⟩:=r;rfl
 |ref _=>cases r;rfl
 |ty _=>cases r;rfl
theorem RelV.inj{x y:V}{u:Value}(r:RelV x u)(q:RelV y u):x=y:=bp (r.abs.symm.trans q.abs)
theorem Vals.inj:∀{xs ys:List V} {us:List Value},Vals xs us→Vals ys us→xs=ys
 |_,_,_,.nil,.nil=>rfl
 |_,_,_,.cons r t,.cons r' t'=>by rw[r.inj r',Vals.inj t t']
section
variable {X:Cx} {pins:List (Addr×Obj)} {σ:St} {H:Hp} {s:ae} {a:Addr} {xs ys:List V}
theorem SqL.of{K:ah}(h:H a=some (.lst xs)):SqL K H a xs:=.inl (.inl h)
theorem SqT.of{K:ah}(h:H a=some (.tup xs)):SqT K H a xs:=.inl (.inl h)
theorem Inv.list(I:Inv X pins σ H s)(h:SqL X.K H a xs):∃its:List Value,Vals xs its∧PlainL s.heap a its.toArray∧xs.length≤aQ:=by
 rcases h with h|⟨o,its,n,hk,hc,hd,hs,hz,r⟩
 ·obtain⟨z,its,n,r,e⟩:=h.ok I.hok;exact⟨its,r,⟨_,n,e,rfl,rfl,rfl⟩,z⟩
 ·refine⟨its.toList,r,⟨o,n,I.kIn a o hk,hc,hd,by simpa using hs⟩,?_⟩;have e:=r.length;simp only[br]at e;lia
theorem Inv.tuple(I:Inv X pins σ H s)(h:SqT X.K H a xs):∃its:List Value,Vals xs its∧IsTup s.heap a its.toArray∧xs.length≤aQ:=by
 rcases h with h|⟨o,its,n,hk,hc,hs,hz,r⟩
 ·obtain⟨z,its,r,p⟩:=h.ok I.hok;exact⟨its,r,p,z⟩
 ·refine⟨its.toList,r,⟨o,I.kIn a o hk,hc,n,by simpa using hs⟩,?_⟩;have e:=r.length;simp only[br]at e;lia
theorem Inv.list_inj(I:Inv X pins σ H s)(h:SqL X.K H a xs)(h':SqL X.K H a ys):xs=ys:=by
 obtain⟨its,r,⟨o,n,e,_,_,d⟩,_⟩:=I.list h;obtain⟨its',r',⟨o',n',e',_,_,d'⟩,_⟩:=I.list h';rw[e]at e';cases e';rw[d]at d';injection d' with d1 _;have:its=its':=by simpa using congrArg Array.toList d1
 subst this;exact r.inj r'
theorem Inv.tuple_inj(I:Inv X pins σ H s)(h:SqT X.K H a xs)(h':SqT X.K H a ys):xs=ys:=by
 obtain⟨its,r,⟨o,e,_,n,d⟩,_⟩:=I.tuple h;obtain⟨its',r',⟨o',e',_,n',d'⟩,_⟩:=I.tuple h';rw[e]at e';cases e';rw[d]at d';injection d' with d1 _;have:its=its':=by simpa using congrArg Array.toList d1
 subst this;exact r.inj r'
end
abbrev Cx.wish(X:Cx)(E:Value→ae→Prop):Cx:={X with xe:=E}
abbrev Cx.nox(X:Cx):Cx:=X.wish fun _ _=>False
theorem Cx.Ok.wish{X:Cx}(ok:X.Ok)(E:Value→ae→Prop):(X.wish E).Ok:=
 ⟨ok.mod,ok.kind,ok.glob,ok.blt,ok.above,ok.inj,ok.has,ok.cab,ok.hd,ok.frames,ok.stk,ok.exf,ok.bs,ok.bsz,ok.noex,ok.exfs,ok.funs,ok.frf,ok.cab2,ok.hz⟩
theorem Cx.Ok.unwish{X:Cx}{E:Value→ae→Prop}(ok:(X.wish E).Ok):X.Ok:=
 ⟨ok.mod,ok.kind,ok.glob,ok.blt,ok.above,ok.inj,ok.has,ok.cab,ok.hd,ok.frames,ok.stk,ok.exf,ok.bs,ok.bsz,ok.noex,ok.exfs,ok.funs,ok.frf,ok.cab2,ok.hz⟩
section
variable {X:Cx} {pins:List (Addr×Obj)} {σ:St} {H:Hp} {s:ae} {E:Value→ae→Prop}
theorem Inv.wish(I:Inv X pins σ H s)(E:Value→ae→Prop):Inv (X.wish E) pins σ H s:=⟨I.ok.wish E,I.os,I.bare,I.base,I.loc,I.cell,I.free,I.freeC,I.pin,I.hok,I.len⟩
theorem Inv.unwish(I:Inv (X.wish E) pins σ H s):Inv X pins σ H s:=⟨I.ok.unwish,I.os,I.bare,I.base,I.loc,I.cell,I.free,I.freeC,I.pin,I.hok,I.len⟩
theorem SP.unwish{D:Ends}{f:Flow}{s':ae}(h:SP (X.wish E) pins D f s'):SP X pins D f s':=by
 cases f with
 |next=>obtain⟨σ',H',I,q⟩:=h;exact⟨σ',H',I.unwish,q⟩
 |brk=>obtain⟨σ',H',I,q⟩:=h;exact⟨σ',H',I.unwish,q⟩
 |cont=>obtain⟨σ',H',I,q⟩:=h;exact⟨σ',H',I.unwish,q⟩
 |ret u=>obtain⟨v,σ',H',I,r,q⟩:=h;exact⟨v,σ',H',I.unwish,r,q⟩
theorem PSs.nox{st:List Stmt}{t:TS}(h:PSs X.nox st t):PSs X st t:=fun pins s σ H D I hw=>
 aK (h pins s σ H D (I.wish _) hw) (fun _ _ q=>q.unwish) fun _ _ z=>bo z
end
section
variable {X:Cx} {st:Stmt} {rest:List Stmt} {t u:TS} {e:Expr} {te:TE} {pos:Pos}
def xpZ:TS:=fun D σ H=>D.nx σ H
def xqH(t u:TS):TS:=fun D σ H=>t {D with nx:=u D} σ H
theorem xN:PSs X [] xpZ:=fun _ _ σ H _ I h=>fA ⟨σ,H,I,h⟩
theorem xg(h1:PS X st t)(h2:PSs X rest u):PSs X (st::rest) (xqH t u):=by
 intro pins s σ H D I h;refine wpAny_execs_cons (thn (h1 pins s σ H {D with nx:=u D} I h) fun f s1 q=>?_);cases f with
 |next=>
  obtain⟨σ',H',I',q⟩:=q;exact h2 pins s1 σ' H' D I' q
 |ret v=>exact q
 |brk=>exact q
 |cont=>exact q
theorem xl(h1:PS X st t):PSs X [st] t:=by
 intro pins s σ H D I h;refine wpAny_execs_cons (thn (h1 pins s σ H D I h) fun f s1 q=>?_);cases f with
 |next=>exact fA q
 |ret v=>exact q
 |brk=>exact q
 |cont=>exact q
theorem Inv.quiet{pins:List (Addr×Obj)}{σ:St}{H:Hp}{s:ae}(I:Inv X pins σ H s):interactive X.env=false:=by simp[interactive,I.ok.kind]
def xp0(te:TE):TS:=fun D σ H=>te σ H fun _ H1=>D.nx σ H1
theorem xH(he:PE X e te)(hs:gP e none pos.line X.env=pure false:=by rfl):PS X (.Expr e pos) (xp0 te):=by
 intro pins s σ H D I h;exact wpAny_Expr_any (thn (he pins s σ H _ I h) fun v s1 ⟨x,H1,I1,r1,q1⟩=>⟨σ,H1,I1,q1⟩) I.quiet hs
def xqI(te:TE):TS:=fun D σ H=>te σ H D.rt
theorem xu(he:PE X e te):PS X (.Return (some e) pos) (xqI te):=by
 intro pins s σ H D I h;exact wpAny_Return_some (thn (he pins s σ H _ I h) fun v s1 ⟨x,H1,I1,r1,q1⟩=>⟨x,σ,H1,I1,r1,q1⟩)
def xp1:TS:=fun D _ H=>D.rt .non H
theorem xnR:PS X (.Return none pos) xp1:=fun _ _ σ H _ I h=>wpAny_Return_none ⟨.non,σ,H,I,rfl,h⟩
end
abbrev TG:=V→St→Hp→(St→Hp→Prop)→Prop
abbrev TGs:=List V→St→Hp→(St→Hp→Prop)→Prop
def PG(X:Cx)(target:Expr)(t:TG):Prop:=
 ∀(pins:List (Addr×Obj)) (s:ae) (σ:St) (H:Hp) (v:V) (u:Value) (Q:St→Hp→Prop),Inv X pins σ H s→RelV v u→t v σ H Q→
  wpAny (model X.prog X.w) X.A (gQ target X.env u) (fun _ s'=>∃σ' H',Inv X pins σ' H' s'∧Q σ' H') X.xe s
def PGs(X:Cx)(ts:List Expr)(t:TGs):Prop:=
 ∀(pins:List (Addr×Obj)) (s:ae) (σ:St) (H:Hp) (vs:List V) (us:List Value) (Q:St→Hp→Prop),Inv X pins σ H s→Vals vs us→t vs σ H Q→
  wpAny (model X.prog X.w) X.A (assignInOrder ((gu ts X.env).map (·.2)) us) (fun _ s'=>∃σ' H',Inv X pins σ' H' s'∧Q σ' H') X.xe s
abbrev xmy:=V→V→V→Hp→(Hp→Prop)→Prop
def xoZ(X:Cx)(t:xmy):Prop:=
 ∀(pins:List (Addr×Obj)) (s:ae) (σ:St) (H:Hp) (o i v:V) (ov iv u:Value) (Q:Hp→Prop),Inv X pins σ H s→RelV o ov→RelV i iv→RelV v u→t o i v H Q→
  wpAny (model X.prog X.w) X.A (setItem ov iv u) (fun _ s'=>∃H',Inv X pins σ H' s'∧Q H') X.xe s
section
variable {X:Cx} {pos:Pos}
def xdu(i:Nat):TG:=fun v σ H Q=>Q (σ.set i (some v)) H
theorem yz{i:Nat}{x:Str}(hN:X.N.Nodup)(hi:X.N[i]? =some x)(hx:Loc X.env.scope x)(hf:X.fn x=true∨X.env.scope.names.lookup x=some .local:=by first|exact .inl rfl|exact .inr rfl|assumption):PG X (.Name x pos) (xdu i):=by
 intro pins s σ H v u Q I r h;exact gX (xec I hN hi hx r (fun s' I'=>⟨_,H,I',h⟩) hf)
def xo0:TGs:=fun vs σ H Q=>vs=[]∧Q σ H
def xjL(t:TG)(u:TGs):TGs:=fun vs σ H Q=>∃v r,vs=v::r∧t v σ H fun σ' H'=>u r σ' H' Q
theorem xfC:PGs X [] xo0:=by
 intro pins s σ H vs us Q I r h;obtain⟨e,h⟩:=h;subst e;cases r;exact assignInOrder_nil ⟨σ,H,I,h⟩
theorem vF{e:Expr}{es:List Expr}{t:TG}{u:TGs}(h1:PG X e t)(h2:PGs X es u)
  (hs:(gu (e::es) X.env).map (·.2)=gQ e X.env::(gu es X.env).map (·.2):=by rfl):PGs X (e::es) (xjL t u):=by
 intro pins s σ H vs us Q I r h;obtain⟨v,vr,e1,h⟩:=h;subst e1;cases r with
 |cons r rr=>
  rw[hs];refine assignInOrder_cons (thn (h1 pins s σ H _ _ _ I r h) fun _ s1 ⟨σ1,H1,I1,q1⟩=>?_);exact h2 pins s1 σ1 H1 _ _ Q I1 rr q1
def xo1(K:ah)(n:Nat)(t:TGs):TG:=fun v σ H Q=>∃a xs,v= .ref a∧SqT K H a xs∧xs.length=n∧t xs σ H Q
theorem xho{es:List Expr}{k:Nat}{t:TGs}{n:Nat}(hc:X.calm=true)(h:PGs X es t)
  (hn:(gu es X.env).length=n:=by rfl) (hst:(gu es X.env).findIdx? (·.1)=none:=by rfl):PG X (.Tuple es k pos) (xo1 X.K n t):=by
 intro pins s σ H v u Q I r hw;obtain⟨a,xs,e1,hq,hl,hw⟩:=hw;subst e1;cases r;obtain⟨its,rv,ht,hz⟩:=I.tuple hq;refine assign_Tuple_tuple (I.ok.hd hc) ht (by simp[hn,←hl,rv.length]) hst fun h' hx=>?_;have I1:Inv X pins σ H {s with heap:=h'}:=I.kept (t':=s.toks) fun b o e=>hx b o (aq (ai e)) e;exact h pins _ σ H xs _ Q I1 (by simpa using rv) hw
def xqJ(to ti:TE)(t:xmy):TG:=fun v σ H Q=>to σ H fun o H1=>ti σ H1 fun i H2=>t o i v H2 fun H3=>Q σ H3
theorem xk3{o i:Expr}{to ti:TE}{t:xmy}(ho:PE X o to)(hi:PE X i ti)(hs:xoZ X t)
  (ha:∀v,gQ (.Subscript o i pos) X.env v=(do
   let ov ←dU [v] (eval o X.env)
   let iv ←dU [v,ov] (eval i X.env)
   ia pos
   dU [v,ov,iv] (setItem ov iv v)
   release [v,ov,iv] []):=by intro _;rfl):PG X (.Subscript o i pos) (xqJ to ti t):=by
 intro pins s σ H v u Q I r h;rw[ha];refine aa (bA (thn (ho pins s σ H _ I h) fun ov s1 ⟨x,H1,I1,r1,q1⟩=>?_));refine aa (bA (thn (hi pins s1 σ H1 _ I1 q1) fun iv s2 ⟨y,H2,I2,r2,q2⟩=>?_));refine aa (dw (aa (bA (thn (hs pins s2 σ H2 x y v ov iv u _ I2 r1 r2 r q2) fun _ s3 ⟨H3,I3,q3⟩=>?_))));exact wpAny_release ⟨σ,H3,I3,q3⟩
def xmz(te:TE)(g:TG):TS:=fun D σ H=>te σ H fun x H1=>g x σ H1 D.nx
theorem xk4{tg e:Expr}{te:TE}{g:TG}(he:PE X e te)(hg:PG X tg g)(hs:swapsWithSole [tg] e pos.line X.env=pure false:=by rfl)(hw:swappedStores [tg] e X.env=pure none:=by rfl)
  (h1:(gu [tg] X.env).map (·.2)=[gQ tg X.env]:=by rfl):PS X (.Assign [tg] e pos) (xmz te g):=by
 intro pins s σ H D I h;refine wpAny_Assign_stores (thn (he pins s σ H _ I h) fun v s1 ⟨x,H1,I1,r1,q1⟩=>?_) hs hw;rw[h1];exact thn (hg pins s1 σ H1 x v _ I1 r1 q1) fun _ s2 q=>q
theorem xt{i:Nat}{x:Str}{e:Expr}{te:TE}{pos':Pos}(hN:X.N.Nodup)(hi:X.N[i]? =some x)(hx:Loc X.env.scope x)(he:PE X e te)(hs:gP e (some (.Name x pos')) pos.line X.env=pure false:=by rfl)(hf:X.fn x=true∨X.env.scope.names.lookup x=some .local:=by first|exact .inl rfl|exact .inr rfl|assumption):
  PS X (.Assign [.Name x pos'] e pos) (xmz te (xdu i)):=by
 intro pins s σ H D I h;refine wpAny_Assign_Name (thn (he pins s σ H _ I h) fun v s1 ⟨y,H1,I1,r1,q1⟩=>?_) hs;exact xec I1 hN hi hx r1 (fun s2 I2=>⟨_,H1,I2,q1⟩) hf
end
section
variable {X:Cx} {pos:Pos}
end
structure It where
 go:Nat→Hp→Prop
 yld:Nat→Hp→V→Hp→Prop
 stop:Nat→Hp→Prop
def vG(X:Cx)(pins:List (Addr×Obj))(H:Hp)(b:Addr):Prop:=
 H b=none∧b≠X.env.locals∧b∉X.fs∧(b∈X.ex∨X.s₀.heap.objs.size≤b)∧(∀x c,X.env.cells.lookup x=some c→c≠b)∧∀p∈X.pn++pins,p.1≠b
theorem Inv.fpOk{X:Cx}{pins:List (Addr×Obj)}{σ:St}{H H':Hp}{s:ae}{b:Addr}(I:Inv X pins σ H s)(hb:s.heap.objs.size≤b)(hn:H' b=none):vG X pins H' b:=by
 refine⟨hn,dC (au I.lt hb),I.nofs hb,.inr (bg I.sz hb),fun x c e z=>?_,fun p hp z=>?_⟩
 ·obtain⟨v,q⟩:=I.cell x c e;exact absurd (au q.lt (by rw[z];exact hb)) (bJ _)
 ·exact absurd (au (ai (I.pin p hp).1) (by rw[z];exact hb)) (bJ _)
structure Turn(P:aG)(w:World)(K:ah)(tg:Expr)(J:It)(fp:List Addr)(it:Addr)(tn:Nat→Heap→Prop):Prop where
 mem:it∈fp
 obj:∀i h,tn i h→∀b∈fp,∃o,h.get? b=some o∧∀v,o.data≠.cell v
 keep:∀i h h',tn i h→(∀b∈fp,∀o,h.get? b=some o→h'.get? b=some o)→tn i h'
 item:∀(X:Cx),X.prog=P→X.w=w→X.K=K→X.calm=true→∀(i:Nat) (pins:List (Addr×Obj)) (s:ae) (σ:St) (H:Hp) (E:Value→ae→Prop),Inv X pins σ H s→(∀b∈fp,vG X pins H b)→tn i s.heap→J.go i H→
  wpAny (model P w) X.A (ik (.ref it)) (fun r s1=>∃u,r=some u∧
   wpAny (model P w) X.A (gv tg (.ref it) u) (fun _ s2=>∃x H',Inv X pins σ H' s2∧RelV x u∧J.yld i H x H'∧tn (i+1) s2.heap∧∀b∈fp,H' b=none) E s1) E s
 done:∀(X:Cx),X.prog=P→X.w=w→X.K=K→X.calm=true→∀(i:Nat) (pins:List (Addr×Obj)) (s:ae) (σ:St) (H:Hp) (E:Value→ae→Prop),Inv X pins σ H s→(∀b∈fp,vG X pins H b)→tn i s.heap→J.stop i H→
  wpAny (model P w) X.A (ik (.ref it)) (fun r s1=>r=none∧Inv X pins σ H s1) E s
 self:∀(A:aL) (i:Nat) (s:ae) (Q:Value→ae→Prop) (E:Value→ae→Prop),tn i s.heap→Q (.ref it) s→wpAny (model P w) A (pyIter (.ref it)) Q E s
abbrev TI:=St→Hp→(It→Hp→Prop)→Prop
def PIE(X:Cx)(pins:List (Addr×Obj))(σ:St)(tg:Expr)(R:It→Hp→Prop)(itv:Value)(s2:ae):Prop:=
 ∃(it:Addr) (fp:List Addr) (tn:Nat→Heap→Prop) (J:It) (H':Hp),itv= .ref it∧Inv X pins σ H' s2∧Turn X.prog X.w X.K tg J fp it tn∧tn 0 s2.heap∧(∀b∈fp,vG X pins H' b)∧R J H'
def PI(X:Cx)(tg iter:Expr)(wi:TI):Prop:=
 ∀(pins:List (Addr×Obj)) (s:ae) (σ:St) (H:Hp) (R:It→Hp→Prop),Inv X pins σ H s→wi σ H R→
  wpAny (model X.prog X.w) X.A (eval iter X.env) (fun v s1=>wpAny (model X.prog X.w) X.A (pyIter v) (PIE X pins σ tg R) X.xe s1) X.xe s
theorem xeI{M:Model}{A:aL}{E:Value→ae→Prop}{s:ae}{tg:Expr}{it:Addr}{u:Value}{o:Obj}{n:String}{vs:Array Value}{Q:Unit→ae→Prop}(ho:s.heap.get? it=some o)(hc:o.cls= .type n)(hd:o.data= .fields vs)
  (hn:["enumerate","zip","dict_itemiterator","dict_reverseitemiterator","odict_iterator","itertools.zip_longest","itertools.pairwise"].contains n=false) (hQ:Q () s):wpAny M A (gv tg (.ref it) u) Q E s:=by
 unfold gv;cases tg<;> first
  |exact ao hQ
  |(cases u<;> first
    |exact ao hQ
    |(refine aa (wpAny_load ho ?_)
      rw[hc,hd];show wpAny M A (if (["enumerate","zip","dict_itemiterator","dict_reverseitemiterator","odict_iterator","itertools.zip_longest","itertools.pairwise"].contains n&&vs[0]? ==some (bX _))=true then _ else _) Q E s;rw[if_neg (by intro h;rw[hn,Bool.false_and]at h;cases h)];exact ao hQ))
def Itl(K:ah)(a:Addr):It:=
 ⟨fun i H=>∃xs x,SqL K H a xs∧xs[i]? =some x,fun i H x H'=>H'=H∧∀xs,SqL K H a xs→xs[i]? =some x,fun i H=>∃xs,SqL K H a xs∧xs.length≤i⟩
def Itt(K:ah)(a:Addr):It:=
 ⟨fun i H=>∃xs x,SqT K H a xs∧xs[i]? =some x,fun i H x H'=>H'=H∧∀xs,SqT K H a xs→xs[i]? =some x,fun i H=>∃xs,SqT K H a xs∧xs.length≤i⟩
theorem xk5{P:aG}{w:World}{K:ah}{tg:Expr}(a it:Addr):Turn P w K tg (Itl K a) [it] it (fun i h=>h.IsListIter it a i) where
 mem:=by simp
 obj:=fun i h st b hb=>by
  have e:b=it:=by simpa using hb
  subst e;obtain⟨o,e,c,d⟩:=st;exact⟨o,e,fun v z=>by rw[d]at z;cases z⟩
 keep:=fun i h h' st k=>st.at fun o e=>k it (by simp) o e
 item:=by
  intro X hP hw hK hc i pins s σ H E I hf st hg;subst hP hw hK;obtain⟨xs,x,hq,hx⟩:=hg;obtain⟨its,rv,p,hz⟩:=I.list hq;obtain⟨u,hu,ru⟩:=rv.get hx;obtain⟨f0,f1,f2,f3,f4,f5⟩:=hf it (by simp);refine wpAny_pyNext_list_item st p.isList (x:=u) (by simpa using hu) fun h' st' sb=>?_;have I1:Inv X pins σ H {s with heap:=h'}:=I.turned (t':=s.toks) (fun b o hb e=>(sb.2 b hb).trans e) f0 f1 f3 f4 f5;obtain⟨o,e,c,d⟩:=id st';exact⟨u,rfl,xeI (s:={s with heap:=h'}) e c d (by decide) ⟨x,H,I1,ru,⟨rfl,fun ys hy=>by rw[I.list_inj hy hq];exact hx⟩,st',fun b hb=>(hf b hb).1⟩⟩
 done:=by
  intro X hP hw hK hc i pins s σ H E I hf st hg;subst hP hw hK;obtain⟨xs,hq,hx⟩:=hg;obtain⟨its,rv,p,hz⟩:=I.list hq;obtain⟨f0,f1,f2,f3,f4,f5⟩:=hf it (by simp);have hl:=rv.length;exact wpAny_pyNext_list_end (I.ok.hd hc) st p.isList (by simp;lia) fun h' eb=>⟨rfl,I.turned (t':=s.toks) (fun b o hb e=>eb b o hb e) f0 f1 f3 f4 f5⟩
 self:=fun _ _ _ _ _ st h=>wpAny_pyIter_listiter st h
theorem xjM{P:aG}{w:World}{K:ah}{tg:Expr}(a it:Addr):Turn P w K tg (Itt K a) [it] it (fun i h=>h.IsTupleIter it a i) where
 mem:=by simp
 obj:=fun i h st b hb=>by
  have e:b=it:=by simpa using hb
  subst e;obtain⟨o,e,c,d⟩:=st;exact⟨o,e,fun v z=>by rw[d]at z;cases z⟩
 keep:=fun i h h' st k=>st.at fun o e=>k it (by simp) o e
 item:=by
  intro X hP hw hK hc i pins s σ H E I hf st hg;subst hP hw hK;obtain⟨xs,x,hq,hx⟩:=hg;obtain⟨its,rv,p,hz⟩:=I.tuple hq;obtain⟨u,hu,ru⟩:=rv.get hx;obtain⟨f0,f1,f2,f3,f4,f5⟩:=hf it (by simp);refine wpAny_pyNext_tuple_item st (show s.heap.IsTuple a its.toArray from p) (x:=u) (by simpa using hu) fun h' st' sb=>?_;have I1:Inv X pins σ H {s with heap:=h'}:=I.turned (t':=s.toks) (fun b o hb e=>(sb.2 b hb).trans e) f0 f1 f3 f4 f5;obtain⟨o,e,c,d⟩:=id st';exact⟨u,rfl,xeI (s:={s with heap:=h'}) e c d (by decide) ⟨x,H,I1,ru,⟨rfl,fun ys hy=>by rw[I.tuple_inj hy hq];exact hx⟩,st',fun b hb=>(hf b hb).1⟩⟩
 done:=by
  intro X hP hw hK hc i pins s σ H E I hf st hg;subst hP hw hK;obtain⟨xs,hq,hx⟩:=hg;obtain⟨its,rv,p,hz⟩:=I.tuple hq;obtain⟨f0,f1,f2,f3,f4,f5⟩:=hf it (by simp);have hl:=rv.length;exact wpAny_pyNext_tuple_end (I.ok.hd hc) st (show s.heap.IsTuple a its.toArray from p) (by simp;lia) fun h' eb=>⟨rfl,I.turned (t':=s.toks) (fun b o hb e=>eb b o hb e) f0 f1 f3 f4 f5⟩
 self:=fun _ _ _ _ _ st h=>wpAny_pyIter_tupleiter st h
end L2
namespace L2
open PySem PySem.Spec PyProof.Rows
section
variable {X:Cx} {tg:Expr}
def xnA(K:ah)(tl:TE):TI:=fun σ H R=>tl σ H fun x H1=>∃a,x= .ref a∧(∃xs,SqL K H1 a xs)∧R (Itl K a) H1
def xqK(K:ah)(tl:TE):TI:=fun σ H R=>tl σ H fun x H1=>∃a,x= .ref a∧(∃xs,SqT K H1 a xs)∧R (Itt K a) H1
theorem xW{l:Expr}{tl:TE}(hl:PE X l tl):PI X tg l (xnA X.K tl):=by
 intro pins s σ H R I h;refine thn (hl pins s σ H _ I h) fun v s1 ⟨x,H1,I1,r1,q1⟩=>?_;obtain⟨a,e,⟨xs,hq⟩,q⟩:=q1;subst e;cases r1;obtain⟨its,rv,p,hz⟩:=I1.list hq;refine dq p.isList ?_;refine⟨s1.heap.objs.size,[s1.heap.objs.size],_,_,H1,rfl,I1.kept (t':=s1.toks) fun b o e=>ag _ e,xk5 a _,⟨_,aA _ rfl,rfl,rfl⟩,fun b hb=>?_,q⟩;have e:b=s1.heap.objs.size:=by simpa using hb
 subst e;exact I1.fpOk (ak _) (I1.hok.fresh (ak _))
theorem xk6{l:Expr}{tl:TE}(hl:PE X l tl):PI X tg l (xqK X.K tl):=by
 intro pins s σ H R I h;refine thn (hl pins s σ H _ I h) fun v s1 ⟨x,H1,I1,r1,q1⟩=>?_;obtain⟨a,e,⟨xs,hq⟩,q⟩:=q1;subst e;cases r1;obtain⟨its,rv,p,hz⟩:=I1.tuple hq;refine wpAny_pyIter_tuple (show s1.heap.IsTuple a its.toArray from p) ?_;refine⟨s1.heap.objs.size,[s1.heap.objs.size],_,_,H1,rfl,I1.kept (t':=s1.toks) fun b o e=>ag _ e,xjM a _,⟨_,aA _ rfl,rfl,rfl⟩,fun b hb=>?_,q⟩;have e:b=s1.heap.objs.size:=by simpa using hb
 subst e;exact I1.fpOk (ak _) (I1.hok.fresh (ak _))
def xjN(wi:TI)(g:TG)(tb:TS):TS:=fun D σ H=>wi σ H fun J H1=>∃W:Nat→Nat→St→Hp→Prop,(∃m,W 0 m σ H1)∧∀i m σ H,W i m σ H→
 (J.stop i H∧D.nx σ H)∨(J.go i H∧∃N:St→Hp→Prop,(∀σ' H',N σ' H'→∃m',m'<m∧W (i+1) m' σ' H')∧∀x H',J.yld i H x H'→g x σ H' fun σ2 H2=>tb {D with nx:=N,ct:=N,bk:=D.nx} σ2 H2)
def ux(fp:List Addr)(h:Heap):List (Addr×Obj):=fp.filterMap fun b=>(h.get? b).map fun o=>(b,o)
theorem ua{fp:List Addr}{h:Heap}{b:Addr}{o:Obj}(hb:b∈fp)(e:h.get? b=some o):(b,o)∈ux fp h:=fH.mpr ⟨b,hb,by rw[e];rfl⟩
theorem xk7{fp:List Addr}{h:Heap}{p:Addr×Obj}(hp:p∈ux fp h):p.1∈fp∧h.get? p.1=some p.2:=by
 obtain⟨b,hb,e⟩:=fH.mp hp;cases q:h.get? b with
 |none=>rw[q]at e;cases e
 |some o=>
  rw[q]at e;have e':(b,o)=p:=bp e;subst e';exact⟨hb,q⟩
theorem Inv.pinned{pins:List (Addr×Obj)}{σ:St}{H:Hp}{s:ae}{fp:List Addr}(I:Inv X pins σ H s)(hf:∀b∈fp,vG X pins H b)(ho:∀b∈fp,∃o,s.heap.get? b=some o∧∀v,o.data≠.cell v):Inv X (pins++ux fp s.heap) σ H s:=
 I.pins_of fun p hp=>(aY.mp hp).elim (fun z=>I.pin p (aO _ z)) fun z=>by
  obtain⟨hb,e⟩:=xk7 z;obtain⟨f0,f1,f2,_⟩:=hf p.1 hb;obtain⟨o,e',d⟩:=ho p.1 hb;rw[e]at e';cases e';exact⟨e,f0,f1,f2,d⟩
theorem Inv.unpinned{pins pl:List (Addr×Obj)}{σ:St}{H:Hp}{s:ae}(I:Inv X (pins++pl) σ H s):Inv X pins σ H s:=I.pins_of fun p hp=>I.pin p (aO _ (bf _ hp))
theorem xk8{iter:Expr}{body:List Stmt}{wi:TI}{g:TG}{tb:TS}{pos:Pos}(hp:PassesOwn (model X.prog X.w) X.A X.env X.xe)(hc:X.calm=true)(hi:PI X tg iter wi)(hg:PG X tg g)(hb:PSs X body tb)
  (hs:∀x,dN iter X.env x=pure x:=by intro _;rfl):PS X (.For tg iter body [] pos) (xjN wi g tb):=by
 intro pins s σ H D I h;refine wpAny_For (thn (hi pins s σ H _ I h) fun v s1 h1=>thn h1 fun itv s2 h2=>?_) hs;obtain⟨it,fp,tn,J,H2,e,I2,T,st2,f2,W,⟨m0,w0⟩,turn⟩:=h2;subst e
 -- what stays true of the iterator's objects through the loop
 have stat:∀{H':Hp},(∀b∈fp,H' b=none)→∀b∈fp,vG X pins H' b:=fun hn b hb=>⟨hn b hb,(f2 b hb).2⟩;refine codeAny_forLoop_any (fun n s'=>∃i σ' H',Inv X pins σ' H' s'∧tn i s'.heap∧(∀b∈fp,H' b=none)∧W i n σ' H') ?_ m0 ⟨0,σ,H2,I2,st2,fun b hb=>(f2 b hb).1,w0⟩;rintro n s3 ⟨i,σ3,H3,I3,st3,fr3,w3⟩;rcases turn i n σ3 H3 w3 with⟨stop,qn⟩|⟨go,N,hN,step⟩
 ·refine dH hp (thn (T.done X rfl rfl rfl hc i pins s3 σ3 H3 X.xe I3 (stat fr3) st3 stop) fun r s4 ⟨hr,I4⟩=>?_);subst hr;exact fA ⟨σ3,H3,I4,qn⟩
 ·refine dH hp (thn (T.item X rfl rfl rfl hc i pins s3 σ3 H3 X.xe I3 (stat fr3) st3 go) fun r s4 ⟨u,hr,h4⟩=>?_);subst hr;refine dH hp (thn h4 fun _ s5 ⟨x,H5,I5,r5,y5,st5,fr5⟩=>?_);have I5':=I5.pinned (stat fr5) (T.obj _ _ st5);refine dH hp (thn (hg _ s5 σ3 H5 x u _ I5' r5 (step x H5 y5)) fun _ s6 ⟨σ6,H6,I6,q6⟩=>?_);refine dH hp (thn (hb _ s6 σ6 H6 _ I6 q6) fun f s7 q7=>?_);have again:∀{σ7:St} {H7:Hp},Inv X (pins++ux fp s5.heap) σ7 H7 s7→N σ7 H7→∃m,m<n∧∃i σ' H',Inv X pins σ' H' s7∧tn i s7.heap∧(∀b∈fp,H' b=none)∧W i m σ' H':=fun{σ7 H7} I7 n7=>by
   obtain⟨m',hm,w7⟩:=hN σ7 H7 n7;refine⟨m',hm,i+1,σ7,H7,I7.unpinned,T.keep _ _ _ st5 fun b hb o e=>(I7.pin (b,o) (aO _ (aO _ (ua hb e)))).1,fun b hb=>?_,w7⟩;obtain⟨o,e,d⟩:=T.obj _ _ st5 b hb;exact(I7.pin (b,o) (aO _ (aO _ (ua hb e)))).2.1
  cases f with
  |next=>obtain⟨σ7,H7,I7,n7⟩:=q7;exact again I7 n7
  |cont=>obtain⟨σ7,H7,I7,n7⟩:=q7;exact again I7 n7
  |brk=>obtain⟨σ7,H7,I7,q7⟩:=q7;exact⟨σ7,H7,I7.unpinned,q7⟩
  |ret v=>obtain⟨x7,σ7,H7,I7,r7,q7⟩:=q7;exact⟨x7,σ7,H7,I7.unpinned,r7,q7⟩
end
theorem xmA{K:ah}{a:Addr}{xs:List V}{g:TG}{tb:TS}{D:Ends}{σ:St}{H:Hp}(Pv:Nat→St→Hp→Prop)(h0:Pv 0 σ H)(hl:∀i σ H,i≤xs.length→Pv i σ H→SqL K H a xs)
  (hs:∀i x σ H,xs[i]? =some x→Pv i σ H→g x σ H fun σ2 H2=>tb {D with nx:=Pv (i+1),ct:=Pv (i+1),bk:=D.nx} σ2 H2) (hd:∀σ H,Pv xs.length σ H→D.nx σ H):
  ∃W:Nat→Nat→St→Hp→Prop,(∃m,W 0 m σ H)∧∀i m σ H,W i m σ H→
   ((Itl K a).stop i H∧D.nx σ H)∨((Itl K a).go i H∧∃N:St→Hp→Prop,(∀σ' H',N σ' H'→∃m',m'<m∧W (i+1) m' σ' H')∧∀x H',(Itl K a).yld i H x H'→g x σ H' fun σ2 H2=>tb {D with nx:=N,ct:=N,bk:=D.nx} σ2 H2):=by
 refine⟨fun i m σ H=>m=xs.length - i∧i≤xs.length∧Pv i σ H,⟨xs.length,by simp,aN _,h0⟩,?_⟩;rintro i m σ H ⟨rfl,hi,p⟩;have q:=hl i σ H hi p
 by_cases hlt:i<xs.length
 ·refine .inr ⟨⟨xs,xs[i],q,by simp[hlt]⟩,Pv (i+1),fun σ' H' p'=>⟨xs.length - (i+1),by lia,rfl,hlt,p'⟩,fun x H' y=>?_⟩;obtain⟨e,y⟩:=y;subst e;exact hs i x σ _ (y xs q) p
 ·have e:i=xs.length:=by lia
  subst e;exact .inl ⟨⟨xs,q,ak _⟩,hd σ H p⟩
theorem xnS{K:ah}{a:Addr}{xs:List V}{g:TG}{tb:TS}{D:Ends}{σ:St}{H:Hp}(Pv:Nat→St→Hp→Prop)(h0:Pv 0 σ H)(hl:∀i σ H,i≤xs.length→Pv i σ H→SqT K H a xs)
  (hs:∀i x σ H,xs[i]? =some x→Pv i σ H→g x σ H fun σ2 H2=>tb {D with nx:=Pv (i+1),ct:=Pv (i+1),bk:=D.nx} σ2 H2) (hd:∀σ H,Pv xs.length σ H→D.nx σ H):
  ∃W:Nat→Nat→St→Hp→Prop,(∃m,W 0 m σ H)∧∀i m σ H,W i m σ H→
   ((Itt K a).stop i H∧D.nx σ H)∨((Itt K a).go i H∧∃N:St→Hp→Prop,(∀σ' H',N σ' H'→∃m',m'<m∧W (i+1) m' σ' H')∧∀x H',(Itt K a).yld i H x H'→g x σ H' fun σ2 H2=>tb {D with nx:=N,ct:=N,bk:=D.nx} σ2 H2):=by
 refine⟨fun i m σ H=>m=xs.length - i∧i≤xs.length∧Pv i σ H,⟨xs.length,by simp,aN _,h0⟩,?_⟩;rintro i m σ H ⟨rfl,hi,p⟩;have q:=hl i σ H hi p
 by_cases hlt:i<xs.length
 ·refine .inr ⟨⟨xs,xs[i],q,by simp[hlt]⟩,Pv (i+1),fun σ' H' p'=>⟨xs.length - (i+1),by lia,rfl,hlt,p'⟩,fun x H' y=>?_⟩;obtain⟨e,y⟩:=y;subst e;exact hs i x σ _ (y xs q) p
 ·have e:i=xs.length:=by lia
  subst e;exact .inl ⟨⟨xs,q,ak _⟩,hd σ H p⟩
end L2
namespace L2
open PySem PySem.Spec PyProof.Rows
abbrev R2:=V→V→Hp→VK→Prop
def OpR(X:Cx)(f:Value→Value→Sem Value)(r:R2):Prop:=
 ∀(pins:List (Addr×Obj)) (s:ae) (σ:St) (H:Hp) (x y:V) (v u:Value) (Q:VK),Inv X pins σ H s→RelV x v→RelV y u→r x y H Q→
  wpAny (model X.prog X.w) X.A (f v u) (EP X pins σ Q) X.xe s
def UnR(X:Cx)(f:Value→Sem Value)(r:V→Hp→VK→Prop):Prop:=
 ∀(pins:List (Addr×Obj)) (s:ae) (σ:St) (H:Hp) (x:V) (v:Value) (Q:VK),Inv X pins σ H s→RelV x v→r x H Q→
  wpAny (model X.prog X.w) X.A (f v) (EP X pins σ Q) X.xe s
def yn(X:Cx)(f:Value)(r:List V→Hp→VK→Prop):Prop:=
 ∀(pins:List (Addr×Obj)) (s:ae) (σ:St) (H:Hp) (xs:List V) (us:List Value) (Q:VK),Inv X pins σ H s→Vals xs us→r xs H Q→
  wpAny (model X.prog X.w) X.A (call f us) (EP X pins σ Q) X.xe s
def tOp(r:R2)(ta tb:TE):TE:=fun σ H Q=>ta σ H fun x H1=>tb σ H1 fun y H2=>r x y H2 Q
def tUn(r:V→Hp→VK→Prop)(ta:TE):TE:=fun σ H Q=>ta σ H fun x H1=>r x H1 Q
def rI(C:Int→Int→Prop)(g:Int→Int→V):R2:=fun x y H Q=>∃i j,x= .int i∧y= .int j∧C i j∧Q (g i j) H
def rI0(g:Int→Int→V):R2:=fun x y H Q=>∃i j,x= .int i∧y= .int j∧Q (g i j) H
def rU(g:Int→V):V→Hp→VK→Prop:=fun x H Q=>∃i,x= .int i∧Q (g i) H
section
variable {X:Cx} {a b c:Expr} {ta tb tc:TE} {pos:Pos}
theorem xmB(ha:PE X a ta)(hb:PE X b tb){pins:List (Addr×Obj)}{s:ae}{σ:St}{H:Hp}{R:V→V→Hp→Prop}(I:Inv X pins σ H s)
  (h:ta σ H fun x H1=>tb σ H1 fun y H2=>R x y H2) {Q:Value→ae→Prop} {f:Value→Value→Sem Value}
  (hf:∀v u s2 x y H2,Inv X pins σ H2 s2→RelV x v→RelV y u→R x y H2→wpAny (model X.prog X.w) X.A (f v u) Q X.xe s2):
  wpAny (model X.prog X.w) X.A (eval a X.env) (fun v s₁=>wpAny (model X.prog X.w) X.A (eval b X.env) (fun u s₂=>wpAny (model X.prog X.w) X.A (f v u) Q X.xe s₂) X.xe s₁) X.xe s:=by
 refine thn (ha pins s σ H _ I h) fun v s1 ⟨x,H1,I1,r1,q1⟩=>?_;refine thn (hb pins s1 σ H1 _ I1 q1) fun u s2 ⟨y,H2,I2,r2,q2⟩=>?_;exact hf v u s2 x y H2 I2 r1 r2 q2
theorem xr{op:Operator}{r:R2}(ho:OpR X (cQ op) r)(ha:PE X a ta)(hb:PE X b tb):PE X (.BinOp a op b pos) (tOp r ta tb):=by
 intro pins s σ H Q I h;exact wpAny_BinOp (xmB ha hb I h fun v u s2 x y H2 I2 rx ry q=>ho pins s2 σ H2 x y v u Q I2 rx ry q)
theorem xhc{op:UnaryOp}{r:V→Hp→VK→Prop}(ho:UnR X (unaryOp op) r)(ha:PE X a ta):PE X (.UnaryOp op a pos) (tUn r ta):=by
 intro pins s σ H Q I h;exact UnaryOp_ (thn (ha pins s σ H _ I h) fun v s1 ⟨x,H1,I1,r1,q1⟩=>ho pins s1 σ H1 x v Q I1 r1 q1)
theorem opI{f:Value→Value→Sem Value}{C:Int→Int→Prop}{g:Int→Int→Int}
  (rule:∀(i j:Int) (t u:Tok) (s:ae) (Q:Value→ae→Prop) (E:Value→ae→Prop),C i j→Q (.int (g i j) s.toks) {s with toks:=s.toks+1}→wpAny (model X.prog X.w) X.A (f (.int i t) (.int j u)) Q E s):
  OpR X f (rI C fun i j=>.int (g i j)):=by
 intro pins s σ H x y v u Q I rx ry h;obtain⟨i,j,rfl,rfl,hc,q⟩:=h;obtain⟨t,rfl⟩:=rx;obtain⟨t',rfl⟩:=ry;exact rule i j t t' s _ _ hc ⟨.int (g i j),H,I.tok _,⟨_,rfl⟩,q⟩
theorem xo2{f:Value→Value→Sem Value}{g:Int→Int→Int}
  (rule:∀(i j:Int) (t u:Tok) (s:ae) (Q:Value→ae→Prop) (E:Value→ae→Prop),Q (.int (g i j) s.toks) {s with toks:=s.toks+1}→wpAny (model X.prog X.w) X.A (f (.int i t) (.int j u)) Q E s):
  OpR X f (rI0 fun i j=>.int (g i j)):=by
 intro pins s σ H x y v u Q I rx ry h;obtain⟨i,j,rfl,rfl,q⟩:=h;obtain⟨t,rfl⟩:=rx;obtain⟨t',rfl⟩:=ry;exact rule i j t t' s _ _ ⟨.int (g i j),H,I.tok _,⟨_,rfl⟩,q⟩
theorem xmC{f:Value→Value→Sem Value}{g:Int→Int→Bool}
  (rule:∀(i j:Int) (t u:Tok) (s:ae) (Q:Value→ae→Prop) (E:Value→ae→Prop),Q (.bool (g i j)) s→wpAny (model X.prog X.w) X.A (f (.int i t) (.int j u)) Q E s):
  OpR X f (rI0 fun i j=>.bl (g i j)):=by
 intro pins s σ H x y v u Q I rx ry h;obtain⟨i,j,rfl,rfl,q⟩:=h;obtain⟨t,rfl⟩:=rx;obtain⟨t',rfl⟩:=ry;exact rule i j t t' s _ _ ⟨.bl (g i j),H,I,rfl,q⟩
def xo3(i j:Int):Prop:=0≤j∧j≤1000000∧i.natAbs<2^64
def xjO(i j:Int):Prop:=(-(2^64)<i∧i<2^64)∨(-(2^64)<j∧j<2^64)
theorem xjO.ok{i j:Int}(h:xjO i j):IntMulOk i j:=by
 rcases h with⟨h1,h2⟩|⟨h1,h2⟩
 ·exact .of_left (intBits_le_64 h1 h2)
 ·exact .of_right (intBits_le_64 h1 h2)
theorem xjP(k:Nat):(0:Int)≤2^k:=by
 rw[two_pow_cast];exact Int.natCast_nonneg _
theorem xo4:OpR X (cQ .Add) (rI0 fun i j=>.int (i+j)):=xo2 fun _ _ _ _ _ _ _ q=>add_int q
theorem xo5:OpR X (cQ .Sub) (rI0 fun i j=>.int (i - j)):=xo2 fun _ _ _ _ _ _ _ q=>sub_int q
theorem xo6:OpR X (cQ .Mult) (rI xjO fun i j=>.int (i*j)):=opI fun _ _ _ _ _ _ _ hc q=>mul_int q hc.ok
theorem xo7:OpR X (cQ .Mod) (rI (fun _ j=>0<j) fun i j=>.int (i%j)):=opI fun i j _ _ _ _ _ hc q=>by
 have h1:(0:Int)<j:=hc;exact mod_int' (by lia) (by rw[Int.fmod_eq_emod_of_nonneg i (by lia)];exact q)
theorem xo8:OpR X (cQ .Pow) (rI xo3 fun i j=>.int (i^j.toNat)):=opI fun _ _ _ _ _ _ _ hc q=>pow_int_small hc.1 hc.2.1 hc.2.2 q
theorem xo9:OpR X (cQ .RShift) (rI (fun _ j=>0≤j) fun i j=>.int (i / 2^j.toNat)):=opI fun i j _ _ _ _ _ hc q=>
 rshift_int hc (by rw[gT i (xjP _)];exact q)
theorem unI{f:Value→Sem Value}{g:Int→Int}
  (rule:∀(i:Int) (t:Tok) (s:ae) (Q:Value→ae→Prop) (E:Value→ae→Prop),Q (.int (g i) s.toks) {s with toks:=s.toks+1}→wpAny (model X.prog X.w) X.A (f (.int i t)) Q E s):
  UnR X f (rU fun i=>.int (g i)):=by
 intro pins s σ H x v Q I rx h;obtain⟨i,rfl,q⟩:=h;obtain⟨t,rfl⟩:=rx;exact rule i t s _ _ ⟨.int (g i),H,I.tok _,⟨_,rfl⟩,q⟩
theorem xpa:UnR X (unaryOp .USub) (rU fun i=>.int (-i)):=unI fun _ _ _ _ _ q=>neg_int q
end
def xpb:V→V→Bool
 | .non,.non=>true| .non,.int _=>true| .int _,.non=>true| .non,.bl _=>true| .bl _,.non=>true| .non,.str _=>true| .str _,.non=>true
 | .int _,.int _=>true| .bl _,.bl _=>true| .str _,.str _=>true| .byt _,.byt _=>true
 | .int _,.str _=>true| .str _,.int _=>true| .bl _,.str _=>true| .str _,.bl _=>true
 |_,_=>false
def rEq:R2:=fun x y H Q=>xpb x y=true∧Q (.bl (decide (x=y))) H
def rNe:R2:=fun x y H Q=>xpb x y=true∧Q (.bl (!decide (x=y))) H
theorem xja{i j:Int}:decide (V.int i=V.int j)=(i==j):=by
 rw[di];simp
theorem xk9{i j:Bool}:decide (V.bl i=V.bl j)=(i==j):=by
 rw[di];simp
theorem xjb{i j:Str}:decide (V.str i=V.str j)=(i==j):=by
 rw[di];simp
theorem xjc{i j:Array UInt8}:decide (V.byt i=V.byt j)=(i.toList==j.toList):=by
 rw[di];cases i;cases j;simp
section
variable {X:Cx} {a b c:Expr} {ta tb tc:TE} {pos:Pos}
theorem xP{pins:List (Addr×Obj)}{σ:St}{H:Hp}{s:ae}{Q:VK}{k k':Bool}(I:Inv X pins σ H s)(q:Q (.bl k) H)(e:k=k'):EP X pins σ Q (.bool k') s:=by
 subst e;exact⟨.bl k,H,I,rfl,q⟩
theorem xp2:OpR X (bK .Eq) rEq:=by
 intro pins s σ H x y v u Q I rx ry h;obtain⟨hs,q⟩:=h;cases x with
 |non=>
  cases rx;cases y with
  |non=>cases ry;exact PySem.EqNone.eq_none_none (xP I q (by simp))
  |bl j=>cases ry;exact PySem.EqNone.eq_none_bool (xP I q (by simp))
  |int j=>obtain⟨t',rfl⟩:=ry;exact PySem.EqNone.eq_none_int (xP I q (by simp))
  |str j=>obtain⟨t',rfl⟩:=ry;exact PySem.EqNone.eq_none_str (xP I q (by simp))
  |_=>exact absurd (show false=true from hs) aC
 |bl i=>
  cases rx;cases y with
  |non=>cases ry;exact PySem.EqNone.eq_bool_none (xP I q (by simp))
  |bl j=>cases ry;exact eq_bool (xP I q xk9)
  |str j=>obtain⟨t',rfl⟩:=ry;exact PySem.EqMixed.eq_bool_str (xP I q (by simp))
  |_=>exact absurd (show false=true from hs) aC
 |int i=>
  obtain⟨t,rfl⟩:=rx;cases y with
  |non=>cases ry;exact PySem.EqNone.eq_int_none (xP I q (by simp))
  |int j=>obtain⟨t',rfl⟩:=ry;exact eq_int (xP I q xja)
  |str j=>obtain⟨t',rfl⟩:=ry;exact PySem.EqMixed.eq_int_str (xP I q (by simp))
  |_=>exact absurd (show false=true from hs) aC
 |str i=>
  obtain⟨t,rfl⟩:=rx;cases y with
  |non=>cases ry;exact PySem.EqNone.eq_str_none (xP I q (by simp))
  |bl j=>cases ry;exact PySem.EqMixed.eq_str_bool (xP I q (by simp))
  |int j=>obtain⟨t',rfl⟩:=ry;exact PySem.EqMixed.eq_str_int (xP I q (by simp))
  |str j=>obtain⟨t',rfl⟩:=ry;exact eq_str (xP I q xjb)
  |_=>exact absurd (show false=true from hs) aC
 |byt i=>
  obtain⟨t,rfl⟩:=rx;cases y with
  |byt j=>obtain⟨t',rfl⟩:=ry;exact W.eq_bytes (xP I q xjc)
  |_=>exact absurd (show false=true from hs) aC
 |_=>cases y<;> exact absurd (show false=true from hs) aC
theorem xnB:OpR X (bK .NotEq) rNe:=by
 intro pins s σ H x y v u Q I rx ry h;obtain⟨hs,q⟩:=h;cases x with
 |non=>
  cases rx;cases y with
  |non=>cases ry;exact PySem.EqNone.ne_none_none (xP I q (by simp))
  |bl j=>cases ry;exact PySem.EqNone.ne_none_bool (xP I q (by simp))
  |int j=>obtain⟨t',rfl⟩:=ry;exact PySem.EqNone.ne_none_int (xP I q (by simp))
  |str j=>obtain⟨t',rfl⟩:=ry;exact PySem.EqNone.ne_none_str (xP I q (by simp))
  |_=>exact absurd (show false=true from hs) aC
 |bl i=>
  cases rx;cases y with
  |non=>cases ry;exact PySem.EqNone.ne_bool_none (xP I q (by simp))
  |bl j=>cases ry;exact ne_bool (xP I q (congrArg not xk9))
  |str j=>obtain⟨t',rfl⟩:=ry;exact PySem.EqMixed.ne_bool_str (xP I q (by simp))
  |_=>exact absurd (show false=true from hs) aC
 |int i=>
  obtain⟨t,rfl⟩:=rx;cases y with
  |non=>cases ry;exact PySem.EqNone.ne_int_none (xP I q (by simp))
  |int j=>obtain⟨t',rfl⟩:=ry;exact ne_int (xP I q (congrArg not xja))
  |str j=>obtain⟨t',rfl⟩:=ry;exact PySem.EqMixed.ne_int_str (xP I q (by simp))
  |_=>exact absurd (show false=true from hs) aC
 |str i=>
  obtain⟨t,rfl⟩:=rx;cases y with
  |non=>cases ry;exact PySem.EqNone.ne_str_none (xP I q (by simp))
  |bl j=>cases ry;exact PySem.EqMixed.ne_str_bool (xP I q (by simp))
  |int j=>obtain⟨t',rfl⟩:=ry;exact PySem.EqMixed.ne_str_int (xP I q (by simp))
  |str j=>obtain⟨t',rfl⟩:=ry;exact ne_str (xP I q (congrArg not xjb))
  |_=>exact absurd (show false=true from hs) aC
 |byt i=>
  obtain⟨t,rfl⟩:=rx;cases y with
  |byt j=>obtain⟨t',rfl⟩:=ry;exact W.ne_bytes (xP I q (congrArg not xjc))
  |_=>exact absurd (show false=true from hs) aC
 |_=>cases y<;> exact absurd (show false=true from hs) aC
theorem xp3:OpR X (bK .Lt) (rI0 fun i j=>.bl (decide (i<j))):=xmC fun _ _ _ _ _ _ _ q=>lt_int q
theorem xp4:OpR X (bK .Gt) (rI0 fun i j=>.bl (decide (j<i))):=xmC fun _ _ _ _ _ _ _ q=>gt_int q
theorem xp5:OpR X (bK .GtE) (rI0 fun i j=>.bl (decide (j≤i))):=xmC fun _ _ _ _ _ _ _ q=>ge_int q
theorem xla(b:Expr){op:CmpOp}(h:op≠.In:=by decide)(h2:op≠.NotIn:=by decide):c8 op b=false:=by
 have e1:(op==CmpOp.In)=false:=by cases op<;> first|rfl|exact absurd rfl h
 have e2:(op==CmpOp.NotIn)=false:=by cases op<;> first|rfl|exact absurd rfl h2
 cases b<;> simp[c8,e1,e2]
theorem xnT{op:CmpOp}{r:R2}(ho:OpR X (bK op) r)(ha:PE X a ta)(hb:PE X b tb)(hm:c8 op b=false):PE X (.Compare a [op] [b] pos) (tOp r ta tb):=by
 intro pins s σ H Q I h;exact wpAny_Compare1 (xmB ha hb I h fun v u s2 x y H2 I2 rx ry q=>ho pins s2 σ H2 x y v u Q I2 rx ry q) hm
theorem xeJ:(aQ:Nat)<2^63:=by rw[ax];decide
theorem vals1{x:V}{us:List Value}(r:Vals [x] us):∃u,us=[u]∧RelV x u:=by
 cases r with
 |cons r1 r2=>cases r2;exact⟨_,rfl,r1⟩
theorem vals2{x y:V}{us:List Value}(r:Vals [x,y] us):∃u w',us=[u,w']∧RelV x u∧RelV y w':=by
 cases r with
 |cons r1 r2=>
  cases r2 with
  |cons r3 r4=>cases r4;exact⟨_,_,rfl,r1,r3⟩
theorem xmD:yn X (.builtin "abs") (fun xs H Q=>∃i,xs=[.int i]∧Q (.int (if i<0 then -i else i)) H):=by
 intro pins s σ H xs us Q I r h;obtain⟨i,rfl,q⟩:=h;obtain⟨u,rfl,t,rfl⟩:=vals1 r;exact call_abs_int fun u tk=>⟨.int (if i<0 then -i else i),H,I.tok _,⟨_,rfl⟩,q⟩
theorem xlb(hc:X.calm=true):yn X (.builtin "max") (fun xs H Q=>∃i j,xs=[.int i,.int j]∧Q (.int (if j > i then j else i)) H):=by
 intro pins s σ H xs us Q I r h;obtain⟨i,j,rfl,q⟩:=h;obtain⟨u,w',rfl,⟨t,rfl⟩,⟨t',rfl⟩⟩:=vals2 r;refine max_two_ints (I.ok.hd hc) fun h' tk k=>⟨_,H,I.kept k,?_,q⟩
 by_cases hj:j > i
 ·rw[if_pos hj,if_pos hj];exact⟨_,rfl⟩
 ·rw[if_neg hj,if_neg hj];exact⟨_,rfl⟩
theorem xlc(hc:X.calm=true):yn X (.builtin "min") (fun xs H Q=>∃i j,xs=[.int i,.int j]∧Q (.int (if j<i then j else i)) H):=by
 intro pins s σ H xs us Q I r h;obtain⟨i,j,rfl,q⟩:=h;obtain⟨u,w',rfl,⟨t,rfl⟩,⟨t',rfl⟩⟩:=vals2 r;refine min_two_ints (I.ok.hd hc) fun h' tk k=>⟨_,H,I.kept k,?_,q⟩
 by_cases hj:j<i
 ·rw[if_pos hj,if_pos hj];exact⟨_,rfl⟩
 ·rw[if_neg hj,if_neg hj];exact⟨_,rfl⟩
end
end L2
namespace L2
open PySem PySem.Spec PyProof.Rows
structure xed(h:Heap)(x dx C:Addr)(mA:Str→Option Value):Prop where
 obj:h.get? x=some (fF C dx)
 ns:h.Ns1 dx mA
 ne:dx≠x
theorem xld{h:Heap}{dx:Addr}{mA:Str→Option Value}(n:h.Ns1 dx mA):∃od,h.get? dx=some od∧∀name,W.lookIn name od=some (mA name):=by
 obtain⟨o,es,ep,ho,hd,hk,_,hm⟩:=n;refine⟨o,ho,fun name=>?_⟩;have e:=hm name;unfold nsFind findBy at e;rw[←ku]at e;unfold W.lookIn;rw[hd];dsimp only
 split
 ·rename_i y q;rw[q]at e;exact congrArg some e
 ·rename_i q;rw[q]at e;have a:es.toList.any (·.refKey)=false:=by
   rw[List.any_eq_false];intro y hy;obtain⟨z,t,hkey⟩:=hk y (i4.mp hy);simp[DictEntry.refKey,hkey]
  have a':¬es.toList.any (·.refKey)=true:=by rw[a];exact aC
  rw[if_neg a'];exact congrArg some e
theorem xed.look{h:Heap}{x dx C:Addr}{mA:Str→Option Value}(I:xed h x dx C mA):∃od,W.InstAt h x (fF C dx) C (some od)∧∀name,W.lookIn name od=some (mA name):=
 let⟨od,ho,hl⟩:=xld I.ns
 ⟨od,⟨I.obj,rfl,rfl,ho⟩,hl⟩
section
variable {prog:aG} {w:World} {A:aL} {E:Value→ae→Prop} {s:ae} {K:ah} {x dx C f:Addr} {mA:Str→Option Value} {name:Str} {v:Value}
theorem get_map{expr:Bool}{Q:Value→ae→Prop}(X:K.In s.heap)(I:xed s.heap x dx C mA)(hg:i5 K C name=true)(hh:gO K C=true)
  (ha:bq K (.ref C) name=some none) (hv:mA name=some v) (hv':W.handedIn v=true) (h:Q v {s with toks:=s.toks+1}):
  wpAny (model prog w) A (getAttr (.ref x) name expr) Q E s:=by
 obtain⟨od,J,hl⟩:=I.look;exact W.get_value X J (kb hg).1 (W.findObj_own hh ha rfl (by rw[hl,hv])) hv' h
theorem xmE{pl:Sem Bool}{Q:Value×List Value→ae→Prop}(X:K.In s.heap)(I:xed s.heap x dx C mA)(hg:i5 K C name=true)
  (hf:bq K (.ref C) name=some (some (.ref f))) (ht:W.isFn K (.ref f)=true) (hv:mA name=none) (h:Q (.ref f,[.ref x]) s):
  wpAny (model prog w) A (gq (.ref x) name pl) Q E s:=by
 obtain⟨od,J,hl⟩:=I.look;exact W.method_fn X J (kb hg).1 (kb hg).2 hf (beq_iff_eq.mp ht) (by show(W.lookIn name od).map (·.isSome)=some false;rw[hl,hv];rfl) h
theorem xnU{ns:List Str}{Q:Unit→ae→Prop}(X:K.In s.heap)(I:xed s.heap x dx C mA)
  (hs:bq K (.ref C) "__setattr__"=some (some (.builtin "object.__setattr__"))) (hp:W.plainOver K C=true) (ht:W.takerIn K C name=some none) (hh:gO K C=true)
  (hw:PySem.Within mA ns) (hsz:ns.length≤aQ)
  (h:∀h',xed h' x dx C (fun y=>if y=name then some v else mA y)→ij dx s.heap h'→Q () {s with heap:=h',toks:=s.toks+2}):
  wpAny (model prog w) A (setAttr (.ref x) name v) Q E s:=by
 obtain⟨od,J,hl⟩:=I.look;refine W.set_plain X J hs (W.osa_open (s:={s with toks:=s.toks+1}) (r:=none) X J hp ht fun b=>?_);obtain⟨cd,hc,hd'⟩:=W.any_some hh;have hx:s.heap.get? x=some ⟨.ref C,some dx,.plain,#[]⟩:=I.obj;refine aa (ao (aa (aa (iN hx (aa (W.Looks.here (s:={s with toks:=s.toks+1}) (kc X hc) ?_))))));rw[hd'];refine ao (a:=some dx) (aa (ao (aa ?_)));refine wpAny_nsSet1 (s:={s with toks:=s.toks+1}) I.ns fun h' hn2 hs2=>?_;obtain⟨oD,esD,epD,hoD,hdD,hcD⟩:=hn2.count (PySem.Within.cons name v hw);refine aa (wpAny_lookBehind hoD (by rw[hdD];exact pastItsLine_dict (bg hcD (by rw[bt];lia))) ?_);exact ao (h _ ⟨(hs2.2 _ (aR I.ne)).trans I.obj,hn2,I.ne⟩ hs2)
theorem xmF{R:fJ→ae→Prop}{vs:List Value}{kw:List (Str×Value)}(X:K.In s.heap)(hm:W.makesIn K C=true)
  (hi:bq K (.ref C) "__init__"=some (some (.ref f))) (hf:W.typeIn K (.ref f)=some (.type "function"))
  (h:cD (model prog w) (A.under (.builtin "type.__call__" ⟨.ref C::vs,kw⟩)) (.call (.ref f) ⟨.ref (s.heap.objs.size+1)::vs,kw⟩) (W.InitBack (s.heap.objs.size+1) R)
   {s with heap:=(s.heap.push dQ).push (fF C s.heap.objs.size)}):
  cD (model prog w) A (.call (.ref C) ⟨vs,kw⟩) R s:=by
 obtain⟨hh,g,d,t,os⟩:=s;exact W.make_core (W.makes_of X hm) (W.looks_findIn X hi) (fun self=>W.bind_fn X self hf) (.inl rfl) h
end
def zP(f:Str)(v:V):List (Str×V)→List (Str×V)
 |[]=>[(f,v)]
 |(g,x)::r=>if g=f then(g,v)::r else(g,x)::zP f v r
theorem xdQ(f g:Str)(v:V):∀fs:List (Str×V),(zP f v fs).lookup g=if g=f then some v else fs.lookup g
 |[]=>by
  show eJ g [(f,v)]=_
  by_cases h:g=f
  ·have hb:(g==f)=true:=beq_iff_eq.mpr h;simp only[eJ,hb,if_pos h]
  ·have hb:(g==f)=false:=beq_eq_false_iff_ne.mpr h;simp only[eJ,hb,if_neg h]
 |(k,x)::r=>by
  have ih:=xdQ f g v r;rw[show zP f v ((k,x)::r)=(if k=f then(k,v)::r else(k,x)::zP f v r)from rfl]
  by_cases hk:k=f
  ·rw[if_pos hk]
   by_cases h:g=k
   ·have hb:(g==k)=true:=beq_iff_eq.mpr h;simp only[eJ,hb,if_pos (h.trans hk)]
   ·have hb:(g==k)=false:=beq_eq_false_iff_ne.mpr h;simp only[eJ,hb,if_neg (fun e:g=f=>h (e.trans hk.symm))]
  ·rw[if_neg hk]
   by_cases h:g=k
   ·have hb:(g==k)=true:=beq_iff_eq.mpr h;simp only[eJ,hb,if_neg (fun e:g=f=>hk (h.symm.trans e))]
   ·have hb:(g==k)=false:=beq_eq_false_iff_ne.mpr h;simp only[eJ,hb];exact ih
theorem xcB(f:Str)(v:V):∀fs:List (Str×V),f∈(zP f v fs).map (·.1)∧∀g,g∈fs.map (·.1)→g∈(zP f v fs).map (·.1)
 |[]=>⟨by simp[zP],fun g h=>by simp at h⟩
 |(k,x)::r=>by
  obtain⟨i1,i2⟩:=xcB f v r;rw[show zP f v ((k,x)::r)=(if k=f then(k,v)::r else(k,x)::zP f v r)from rfl]
  by_cases hk:k=f
  ·rw[if_pos hk];subst hk;exact⟨by simp,fun g h=>by simpa using h⟩
  ·rw[if_neg hk];refine⟨?_,fun g h=>?_⟩
   ·rw[bQ];exact aD _ i1
   ·rw[bQ]at h⊢;rcases ar.mp h with e|e
    ·exact ar.mpr (.inl e)
    ·exact aD _ (i2 g e)
theorem xa5(f:Str)(v:V):∀fs:List (Str×V),(zP f v fs).length≤fs.length+1
 |[]=>by simp[zP]
 |(k,x)::r=>by
  have ih:=xa5 f v r;rw[show zP f v ((k,x)::r)=(if k=f then(k,v)::r else(k,x)::zP f v r)from rfl]
  by_cases hk:k=f
  ·rw[if_pos hk,bt,bt];lia
  ·rw[if_neg hk,bt,bt];lia
theorem uo.some_of{v:V}{o:Option Value}(r:uo (some v) o):∃u,o=some u∧RelV v u:=by
 cases o with
 |none=>exact(show False from r).elim
 |some u=>exact⟨u,rfl,r⟩
theorem uo.none_of{o:Option Value}(r:uo none o):o=none:=by
 cases o with
 |none=>rfl
 |some u=>exact(show False from r).elim
theorem xle{v:V}{u:Value}(r:RelV v u):W.handedIn u=true:=by
 cases v with
 |non=>cases (show u=a8 from r);rfl
 |bl b=>cases (show u=dB b from r);rfl
 |int i=>obtain⟨t,e⟩:=(show∃t,u=eA i t from r);cases e;rfl
 |str x=>obtain⟨t,e⟩:=(show∃t,u=gn x t from r);cases e;rfl
 |byt b=>obtain⟨t,e⟩:=(show∃t,u=Value.bytes b t from r);cases e;rfl
 |flt b=>obtain⟨t,e⟩:=(show∃t,u=kP b t from r);cases e;rfl
 |ref a=>cases (show u=aT a from r);rfl
 |ty n=>cases (show u=cF n from r);rfl
section
variable {P:aG} {w:World} {H H':Hp} {h h':Heap} {a C dx:Addr} {fs fs':List (Str×V)}
theorem xdv(hok:HOk P w H h)(e:H a=some (.ins C dx fs)):∃mA,xed h a dx C mA∧(∀f,uo (fs.lookup f) (mA f))∧PySem.Within mA (fs.map (·.1))∧fs.length≤1000∧H dx=some (.own a):=by
 obtain⟨d,z,ne,ob,mA,n,r,q⟩:=(show xE P w H h a (.ins C dx fs)from hok a _ e);exact⟨mA,⟨ob,n,ne⟩,r,q,z,d⟩
end
structure Cls(K:ah)(C:Addr):Prop where
 pg:i5 K C Str.empty=true
 hd:gO K C=true
 po:W.plainOver K C=true
 sa:bq K (.ref C) "__setattr__"=some (some (.builtin "object.__setattr__"))
theorem Cls.get{K:ah}{C:Addr}(c:Cls K C)(f:Str):i5 K C f=true:=c.pg
def xC(K:ah)(C:Addr)(f:Str):Prop:=bq K (.ref C) f=some none
theorem xC.taker{K:ah}{C:Addr}{f:Str}(n:xC K C f):W.takerIn K C f=some none:=by
 unfold W.takerIn;rw[show bq K (.ref C) f=some none from n];rfl
structure Meth(K:ah)(C:Addr)(m:Str)(f:Addr):Prop where
 at_:bq K (.ref C) m=some (some (.ref f))
 fn:W.isFn K (.ref f)=true
 kp:cR K (.ref f)=true
section
variable {X:Cx} {pins:List (Addr×Obj)} {σ:St} {H:Hp} {s:ae} {a C dx:Addr} {fs:List (Str×V)} {f:Str} {v:V} {A:aL} {E:Value→ae→Prop}
theorem xjQ{b:Bool}{Q:Value→ae→Prop}(I:Inv X pins σ H s)(e:H a=some (.ins C dx fs))(c:Cls X.K C)(n:xC X.K C f)(l:fs.lookup f=some v)
  (h:∀u s',Inv X pins σ H s'→RelV v u→Q u s'):wpAny (model X.prog X.w) A (getAttr (.ref a) f b) Q E s:=by
 obtain⟨mA,O,r,_,_,_⟩:=xdv I.hok e;obtain⟨u,hu,ru⟩:=uo.some_of (v:=v) (o:=mA f) (by rw[←l];exact r f);exact get_map I.kIn O (c.get f) c.hd n hu (xle ru) (h u _ (I.tok _) ru)
theorem jI{m:Str}{g:Addr}{pl:Sem Bool}{Q:Value×List Value→ae→Prop}(I:Inv X pins σ H s)(e:H a=some (.ins C dx fs))(c:Cls X.K C)(k:Meth X.K C m g)(l:fs.lookup m=none)
  (h:Q (.ref g,[.ref a]) s):wpAny (model X.prog X.w) A (gq (.ref a) m pl) Q E s:=by
 obtain⟨mA,O,r,_,_,_⟩:=xdv I.hok e;have hn:mA m=none:=uo.none_of (by rw[←l];exact r m);exact xmE I.kIn O (c.get m) k.at_ k.fn hn h
theorem xjR{y:V}{u:Value}{Q:Unit→ae→Prop}(I:Inv X pins σ H s)(e:H a=some (.ins C dx fs))(c:Cls X.K C)(n:xC X.K C f)(hl:fs.length<1000)(ry:RelV y u)
  (h:∀s',Inv X pins σ (upd H a (.ins C dx (zP f y fs))) s'→Q () s'):wpAny (model X.prog X.w) A (setAttr (.ref a) f u) Q E s:=by
 obtain⟨mA,O,r,wi,_,ho⟩:=xdv I.hok e;have hz:(fs.map (·.1)).length≤aQ:=by rw[af,ax];lia
 refine xnU I.kIn O c.sa c.po n.taker c.hd wi hz fun h' O' sb=>h _ ?_;have hd:∃o,h'.get? dx=some o:=let⟨o,_,_,e',_⟩:=O'.ns;⟨o,e'⟩;refine I.write (x:=a) (e:=dx) (by rw[e];exact b0) (.inr ho) (fun b q hb z=>(sb.2 b hb).trans z) hd ?_;refine⟨by rw[xj O.ne];exact ho,?_,O.ne,O'.obj,_,O'.ns,fun g=>?_,fun g hg=>?_⟩
 ·have:=xa5 f y fs;lia
 ·show uo ((zP f y fs).lookup g) (if g=f then some u else mA g);rw[xdQ]
  by_cases q:g=f
  ·rw[if_pos q,if_pos q];exact ry
  ·rw[if_neg q,if_neg q];exact r g
 ·by_cases q:g=f
  ·rw[q];exact(xcB f y fs).1
  ·refine(xcB f y fs).2 g (wi g fun z=>hg ?_);show(if g=f then some u else mA g)=none;rw[if_neg q];exact z
theorem Inv.made(I:Inv X pins σ H s):Inv X pins σ (upd (upd H s.heap.objs.size (.own (s.heap.objs.size+1))) (s.heap.objs.size+1) (.ins C s.heap.objs.size []))
  {s with heap:=(s.heap.push dQ).push (fF C s.heap.objs.size)}:=by
 have e1:(s.heap.push dQ).get? s.heap.objs.size=some dQ:=aA s.heap rfl;have e2:((s.heap.push dQ).push (fF C s.heap.objs.size)).get? (s.heap.objs.size+1)=some (fF C s.heap.objs.size):=by
  have:=aA (s.heap.push dQ) (o:=fF C s.heap.objs.size) rfl
  rwa [cH]at this
 have e3:(s.heap.push dQ).Ns s.heap.objs.size (fun _=>none):=⟨dQ,#[],_,e1,rfl,(fun e he=>absurd he (by simp)),fun _=>rfl⟩;have I1:=I.laid (a:=s.heap.objs.size) (o:=.own (s.heap.objs.size+1)) (h':=s.heap.push dQ) (t':=s.toks) (fun b u q=>ag _ q) (ak _) ⟨_,e1⟩;refine I1.laid (a:=s.heap.objs.size+1) (o:=.ins C s.heap.objs.size []) (t':=s.toks) (fun b u q=>ag _ q) (gw (cH _ _)) ?_;have ne:s.heap.objs.size≠s.heap.objs.size+1:=aq (cS _);refine⟨by rw[xj ne,xk],aN _,ne,e2,fun _=>none,(kK e3).at fun o q=>ag _ q,fun _=>b0,fun y hy=>absurd rfl hy⟩
theorem xnV{prog:aG}{w:World}{env:Env}{e:Expr}{f:Str}{pos:Pos}{s:ae}{Q:Value→ae→Prop}(hb:f7 e f env (eval e env)=eval e env)
  (h:wpAny (model prog w) A (eval e env) (fun o s₁=>wpAny (model prog w) A (getAttr o f true) Q E s₁) E s):wpAny (model prog w) A (eval (.Attribute e f pos) env) Q E s:=
 Attribute_any_ h (by rw[arm_eval_Attribute,hb])
end
def xqL(K:ah)(ta:TE)(f:Str):TE:=fun σ H Q=>ta σ H fun x H1=>∃a C dx fs v,x= .ref a∧H1 a=some (.ins C dx fs)∧Cls K C∧xC K C f∧fs.lookup f=some v∧Q v H1
def xqM(K:ah)(ta tv:TE)(f:Str):TS:=fun D σ H=>tv σ H fun y H1=>ta σ H1 fun x H2=>∃a C dx fs,x= .ref a∧H2 a=some (.ins C dx fs)∧Cls K C∧xC K C f∧fs.length<1000∧
 D.nx σ (upd H2 a (.ins C dx (zP f y fs)))
section
variable {X:Cx} {o e value:Expr} {f:Str} {pos pos' tpos:Pos} {ta tv:TE}
theorem xA(he:PE X e ta)(hb:f7 e f X.env (eval e X.env)=eval e X.env):PE X (.Attribute e f pos) (xqL X.K ta f):=by
 intro pins s σ H Q I h;refine xnV hb (thn (he pins s σ H _ I h) fun u s1 ⟨x,H1,I1,rx,a,C,dx,fs,v,ex,ea,c,n,l,q⟩=>?_);subst ex;obtain rfl:u=aT a:=rx;exact xjQ I1 ea c n l fun u' s2 I2 ru=>⟨v,H1,I2,ru,q⟩
theorem yW(ha:PE X o ta)(hv:PE X value tv)(hs:gP value (some (.Attribute o f pos')) pos.line X.env=pure false):PS X (.Assign [.Attribute o f pos'] value pos) (xqM X.K ta tv f):=by
 intro pins s σ H D I h;refine gs (thn (hv pins s σ H _ I h) fun u s1 ⟨y,H1,I1,ry,q⟩=>thn (ha pins s1 σ H1 _ I1 q) fun ov s2 ⟨x,H2,I2,rx,a,C,dx,fs,ex,ea,c,n,l,q2⟩=>?_) hs;subst ex;obtain rfl:ov=aT a:=rx;exact xjR I2 ea c n l ry fun s3 I3=>⟨σ,_,I3,q2⟩
end
section
variable {X:Cx} {pins:List (Addr×Obj)} {σ:St} {H:Hp} {s:ae} {A:aL} {E:Value→ae→Prop} {Q:Value→ae→Prop} {c:Value} {b:Bool}
inductive ze(K:ah)(H:Hp):V→Value→Prop where
 |non:ze K H .non (.type "NoneType")
 |bl (x:Bool):ze K H (.bl x) (.type "bool")
 |int (i:Int):ze K H (.int i) (.type "int")
 |str (x:Str):ze K H (.str x) (.type "str")
 |flt (x:UInt64):ze K H (.flt x) (.type "float")
 |lst {a:Addr} {xs:List V} (e:H a=some (.lst xs)):ze K H (.ref a) (.type "list")
 |frz {a:Addr} {o:Obj} {xs:List V} (e:H a=some (.frz o (.lst xs))):ze K H (.ref a) (.type "list")
 |tup {a:Addr} {xs:List V} (e:H a=some (.tup xs)):ze K H (.ref a) (.type "tuple")
 |dK {a:Addr} {kvs:List (Key×V)} (e:H a=some (.dK kvs)):ze K H (.ref a) (.type "dict")
 |dT {a:Addr} {kvs:List (List Key×V)} (e:H a=some (.dT kvs)):ze K H (.ref a) (.type "dict")
 |ins {a C dx:Addr} {fs:List (Str×V)} (e:H a=some (.ins C dx fs)) (cl:Cls K C) (ha:bq K (.ref C) "__class__"=some (some (.builtin "object.__class__")))
   (hn:iJ K (.builtin "object.__class__") "__get__"=some (some (.builtin "getset_descriptor.__get__"))) (htk:W.takesIn K (.builtin "object.__class__")=some true)
   (hm:iO K C (.type "object")=some true):ze K H (.ref a) (.ref C)
theorem xlf{x:V}{u t:Value}(I:Inv X pins σ H s)(rx:RelV x u)(ty:ze X.K H x t)(e:e7 X.K t c=some b)(h:∀tk,Q (.bool b) {s with toks:=tk}):
  wpAny (model X.prog X.w) A (call (.builtin "isinstance") [u,c]) Q E s:=by
 cases ty with
 |non=>cases (show u=a8 from rx);exact dS W.kitx_none I.kIn b0 e (fun z=>nomatch z) h
 |bl y=>cases (show u=dB y from rx);exact dS W.kitx_bool I.kIn b0 e (fun z=>nomatch z) h
 |int i=>obtain⟨t,q⟩:=(show∃t,u=eA i t from rx);cases q;exact dS W.kitx_int I.kIn b0 e (fun z=>nomatch z) h
 |str y=>obtain⟨t,q⟩:=(show∃t,u=gn y t from rx);cases q;exact dS W.kitx_str I.kIn b0 e (fun z=>nomatch z) h
 |flt y=>obtain⟨t,q⟩:=(show∃t,u=kP y t from rx);cases q;exact dS W.kitx_float I.kIn b0 e (fun z=>nomatch z) h
 | @lst a xs ea=>
  cases (show u=aT a from rx);obtain⟨_,_,n,_,h1⟩:=(show xE X.prog X.w H s.heap a (.lst xs)from I.hok a _ ea);exact dS W.kitx_list I.kIn ⟨_,h1,rfl⟩ e (fun z=>nomatch z) h
 | @frz a ob xs ea=>
  cases (show u=aT a from rx);obtain⟨_,_,_,n,_,h1⟩:=(show xE X.prog X.w H s.heap a (.frz ob (.lst xs))from I.hok a _ ea);exact dS W.kitx_list I.kIn ⟨_,h1,rfl⟩ e (fun z=>nomatch z) h
 | @tup a xs ea=>
  cases (show u=aT a from rx);obtain⟨_,_,_,p⟩:=(show xE X.prog X.w H s.heap a (.tup xs)from I.hok a _ ea);obtain⟨o,h1,h2,_⟩:=p;exact dS W.kitx_tuple I.kIn ⟨o,h1,h2⟩ e (fun z=>nomatch z) h
 | @dK a kvs ea=>
  cases (show u=aT a from rx);obtain⟨_,_,vs,_,p⟩:=(show xE X.prog X.w H s.heap a (.dK kvs)from I.hok a _ ea);obtain⟨o,es,ep,h1,h2,_⟩:=p;exact dS W.kitx_dict I.kIn ⟨o,h1,h2.1⟩ e (fun z=>nomatch z) h
 | @dT a kvs ea=>
  cases (show u=aT a from rx);obtain⟨_,_,xs,_,o,es,ep,h1,h2,_⟩:=(show xE X.prog X.w H s.heap a (.dT kvs)from I.hok a _ ea);exact dS W.kitx_dict I.kIn ⟨o,h1,h2.1⟩ e (fun z=>nomatch z) h
 | @ins a C dx fs ea cl ha hn htk hm=>
  cases (show u=aT a from rx);obtain⟨mA,O,_⟩:=xdv I.hok ea;obtain⟨od,J,_⟩:=O.look;exact dS (W.kitx_own (cl.get _) cl.hd ha hn htk hm) I.kIn J e (fun z=>nomatch z) h
end
end L2
namespace L2
open PySem PySem.Spec PyProof.Rows
structure xI(k:Nat)(A:aL):Prop where
 hd:A.handled=none
 dp:A.depth+3*k+5<recursionLimit
 un:A.units+16*k+200<cLine
theorem xI.mono{j k:Nat}{A:aL}(r:xI k A)(h:j≤k):xI j A:=⟨r.hd,by have:=r.dp;lia,by have:=r.un;lia⟩
theorem xI.deeper{k:Nat}{A:aL}(r:xI (k+1) A)(env:Env):xI k (A.deeper env):=
 ⟨r.hd,by have:=r.dp;show A.depth+1+3*k+5<_;lia,by have:=r.un;show A.units+3+16*k+200<_;lia⟩
theorem xI.in1{k:Nat}{A:aL}(r:xI (k+1) A):xI k A.in1:=
 ⟨r.hd,by have:=r.dp;show A.depth+3*k+5<_;lia,by have:=r.un;show A.units+1+16*k+200<_;lia⟩
theorem xjS{A:aL}{C:Addr}{us:List Value}{kw:List (Str×Value)}:(A.under (.builtin "type.__call__" ⟨.ref C::us,kw⟩)).depth=A.depth+1:=by
 first|rfl|simp[ky,Code.weight,Code.isCreation,Code.isGuard,Code.isCaller,Code.frames,kz,guardIds]
theorem xjT{A:aL}{C:Addr}{us:List Value}{kw:List (Str×Value)}:(A.under (.builtin "type.__call__" ⟨.ref C::us,kw⟩)).units=A.units+1:=by
 first|rfl|simp[ky,Code.cUnits,Code.frames,kz]
theorem xI.make{k:Nat}{A:aL}(r:xI (k+1) A)(C:Addr)(us:List Value)(kw:List (Str×Value)):xI k (A.under (.builtin "type.__call__" ⟨.ref C::us,kw⟩)):=
 ⟨r.hd,by have:=r.dp;rw[xjS];lia,by have:=r.un;rw[xjT];lia⟩
theorem xI.depth{k:Nat}{A:aL}(r:xI k A):A.depth<recursionLimit:=by have:=r.dp;lia
theorem xI.units{k:Nat}{A:aL}(r:xI k A):A.units+64<cLine:=by have:=r.un;lia
theorem xI.units0{k:Nat}{A:aL}(r:xI k A):A.units<cLine:=by have:=r.un;lia
def jU:TA:=fun _ H Q=>Q [] H
def xeK(ta:TE)(tr:TA):TA:=fun σ H Q=>ta σ H fun x H1=>tr σ H1 fun xs H2=>Q (x::xs) H2
section
variable {X:Cx} {e:Expr} {es:List Expr} {te:TE} {t:TA} {pos:Pos}
theorem xc:PA X [] jU:=fun _ _ _ _ H Q I h=>fW ⟨[],H,I,.nil,h⟩
theorem xa(ha:PE X e te)(hr:PA X es t)(hs:aI (e::es) X.env=(false,eval e X.env)::aI es X.env:=by rfl):PA X (e::es) (xeK te t):=by
 intro pos pins s σ H Q I h;rw[hs];show wpAny _ _ (spliced ((false,eval e X.env)::bN pos (aI es X.env))) _ _ s;refine fK (thn (ha pins s σ H _ I h) fun u s1 ⟨x,H1,I1,r1,q1⟩=>?_);exact thn (hr pos pins s1 σ H1 _ I1 q1) fun us s2 ⟨xs,H2,I2,r2,q2⟩=>⟨x::xs,H2,I2,.cons r1 r2,q2⟩
def xqN(t:TA):TE:=fun σ H Q=>t σ H fun xs H1=>xs.length≤aQ∧∀p,H1 p=none→Q (.ref p) (upd H1 p (.tup xs))
def xqO(t:TA):TE:=fun σ H Q=>t σ H fun xs H1=>xs.length≤aQ∧∀p,H1 p=none→Q (.ref p) (upd H1 p (.lst xs))
theorem yx{x1}(h:PA X es t):PE X (.Tuple es x1 pos) (xqN t):=by
 intro pins s σ H Q I hq;refine wpAny_Tuple_spliced (thn (h pos pins s σ H _ I hq) fun us s1 ⟨xs,H1,I1,r,z,q⟩=>⟨by rw[←r.length];exact z,?_⟩);have hf:H1 s1.heap.objs.size=none:=I1.hok.fresh (ak _);refine⟨.ref s1.heap.objs.size,upd H1 s1.heap.objs.size (.tup xs),I1.laid (t':=s1.toks) (fun b u e=>ag _ e) (ak _) ?_,rfl,q _ hf⟩;exact⟨z,us,r,⟨_,aA _ rfl,rfl,_,rfl⟩⟩
theorem yi(h:PA X es t):PE X (.List es pos) (xqO t):=by
 intro pins s σ H Q I hq;refine wpAny_List_spliced (thn (h pos pins s σ H _ I hq) fun us s1 ⟨xs,H1,I1,r,z,q⟩=>⟨by rw[←r.length];exact z,?_⟩);have hf:H1 s1.heap.objs.size=none:=I1.hok.fresh (ak _);refine⟨.ref s1.heap.objs.size,upd H1 s1.heap.objs.size (.lst xs),I1.laid (t':=s1.toks) (fun b u e=>ag _ e) (ak _) ?_,rfl,q _ hf⟩;exact⟨z,us,0,r,aA _ rfl⟩
end
abbrev Sp:=List V→Hp→VK→XK→Prop
abbrev CXT:=List Env→Hp→ae→XK→Value→ae→Prop
structure jm(P:aG)(w:World)(K:ah)(mg:Str→Option Value)(base:Heap)(A:aL)(outer:List Env)(s:ae)(H:Hp):Prop where
 frames:A.frames=some outer
 mod:Mod K mg base
 bs:∀b o,base.get? b=some o→s.heap.get? b=some o∧H b=none
 bsz:base.objs.size≤s.heap.objs.size
 funs:s.heap.FunFrames base outer
 frf:∀b∈frs outer,H b=none
 hok:HOk P w H s.heap
 bare:ef s.gens
def CE(outer:List Env)(P:aG)(w:World)(H:Hp)(s:ae)(Q:VK)(u:Value)(s':ae):Prop:=
 ∃v H',s'.os=s.os∧ef s'.gens∧Un (frs outer) [] H H' s.heap s'.heap∧HOk P w H' s'.heap∧RelV v u∧Q v H'
def CR(CX:CXT)(outer:List Env)(P:aG)(w:World)(H:Hp)(s:ae)(Q:VK)(E:XK)(r:fJ)(s':ae):Prop:=
 match r with
 | .ok (.ret u)=>CE outer P w H s Q u s'
 | .ok _=>False
 | .error e=>CX outer H s E e s'
structure xy(P:aG)(w:World)(K:ah)(mg:Str→Option Value)(base:Heap)(CX:CXT)(k:Nat)(f:Addr)(fd:aw)(ps:List Str)(sp:Sp):Prop where
 len:∀vs H Q E,sp vs H Q E→vs.length=ps.length
 run:∀(A:aL) (outer:List Env) (s:ae) (H:Hp) (args:Args) (us:List Value) (vs:List V) (Q:VK) (E:XK),xI k A→jm P w K mg base A outer s H→BindsTo s fd args (ps.zip us)→Vals vs us→sp vs H Q E→
  cD (model P w) A (.call (.ref f) args) (CR CX outer P w H s Q E) s
theorem jm.make{P:aG}{w:World}{K:ah}{mg:Str→Option Value}{base:Heap}{A:aL}{outer:List Env}{s:ae}{H:Hp}(e:jm P w K mg base A outer s H)(C:Addr)(us:List Value)(kw:List (Str×Value)):
  jm P w K mg base (A.under (.builtin "type.__call__" ⟨.ref C::us,kw⟩)) outer s H:=⟨by first|exact e.frames|(simpa [ky,Code.envs,kz,pushEnvs]using e.frames),e.mod,e.bs,e.bsz,e.funs,e.frf,e.hok,e.bare⟩
section
variable {X:Cx} {pins:List (Addr×Obj)} {σ:St} {H:Hp} {s s':ae}
theorem Inv.env0(I:Inv X pins σ H s):jm X.prog X.w X.K X.mg X.base X.A X.stack s H:=
 ⟨I.ok.frames,I.ok.mod,I.bs,bg I.ok.bsz I.sz,I.stack,I.stkFree,I.hok,I.bare⟩
theorem Inv.after{Q:VK}{u:Value}(I:Inv X pins σ H s)(h:CE X.stack X.prog X.w H s Q u s'):EP X pins σ Q u s':=by
 obtain⟨v,H',os,bare,un,hok,r,q⟩:=h;obtain⟨hh,g,d,t,os'⟩:=s';obtain rfl:os'=s.os:=os;exact⟨v,H',I.call (h':=hh) (g':=g) (d':=d) (t':=t) (ch:=[]) un hok bare (fun b z=>absurd z (by simp)),r,q⟩
end
def xdw(sp:Sp)(dvs:List V)(E:XK)(t:TA):TE:=fun σ H Q=>t σ H fun vs H1=>sp (vs++dvs) H1 Q E
def vS(C:Addr)(m:Str)(sp:Sp)(dvs:List V)(E:XK)(ta:TE)(t:TA):TE:=fun σ H Q=>ta σ H fun x H1=>∃a dx fs,x= .ref a∧H1 a=some (.ins C dx fs)∧fs.lookup m=none∧
 t σ H1 fun vs H2=>sp (x::(vs++dvs)) H2 Q E
def xp6(C:Addr)(sp:Sp)(dvs:List V)(E:XK)(t:TA):TE:=fun σ H Q=>t σ H fun vs H1=>∀x dx,H1 x=none→H1 dx=none→dx≠x→
 sp (.ref x::(vs++dvs)) (upd (upd H1 dx (.own x)) x (.ins C dx [])) (fun v H2=>v= .non∧Q (.ref x) H2) E
def Binds(K:ah)(fd:aw)(ps:List Str)(ds:List Value):Prop:=
 ∀(s:ae) (us:List Value),K.In s.heap→(us++ds).length=ps.length→BindsTo s fd ⟨us,[]⟩ (ps.zip (us++ds))
theorem Binds.all{K:ah}{fd:aw}{ps:List Str}(h:∀us:List Value,us.length=ps.length→e9 fd ⟨us,[]⟩=pure (ps.zip us)):Binds K fd ps []:=fun s us _ hl=>by
 rw[dI]at hl⊢;exact .of_eq (h us hl)
def Passes(CX:CXT)(X:Cx)(E:XK):Prop:=∀(pins:List (Addr×Obj)) (σ:St) (H:Hp) (s:ae) (e:Value) (s':ae),Inv X pins σ H s→CX X.stack H s E e s'→X.xe e s'
section
variable {X:Cx} {CX:CXT} {k:Nat} {f C:Addr} {fd:aw} {ps:List Str} {sp:Sp} {dvs:List V} {ds:List Value} {E:XK} {x m:Str} {p pos apos:Pos} {e o:Expr} {es:List Expr} {ta:TE} {t:TA}
theorem xeL{pins:List (Addr×Obj)}{σ:St}{H:Hp}{s:ae}{Q:VK}{us:List Value}{vs:List V}(F:xy X.prog X.w X.K X.mg X.base CX k f fd ps sp)(hr:xI k X.A)(hb:Binds X.K fd ps ds)(hd:Vals dvs ds)(hx:Passes CX X E)
  (I:Inv X pins σ H s) (r:Vals vs us) (h:sp (vs++dvs) H Q E):wpAny (model X.prog X.w) X.A (call (.ref f) us) (EP X pins σ Q) X.xe s:=by
 have r2:Vals (vs++dvs) (us++ds):=r.append hd;have hl:(us++ds).length=ps.length:=by rw[←r2.length];exact F.len _ _ _ _ h
 refine dO (cT (F.run X.A X.stack s H ⟨us,[]⟩ (us++ds) (vs++dvs) Q E hr I.env0 (hb s us I.kIn hl) r2 h) fun r s' hq=>?_);cases r with
 |error e=>exact hx pins σ H s e s' I hq
 |ok fl=>
  cases fl with
  |ret u=>exact I.after hq
  |next=>exact bo hq
  |brk=>exact bo hq
  |cont=>exact bo hq
theorem xw(F:xy X.prog X.w X.K X.mg X.base CX k f fd ps sp)(hr:xI k X.A)(hg:Gl X x)(hm:X.mg x=some (.ref f))(hk:cR X.K (.ref f)=true)(hb:Binds X.K fd ps ds)(hd:Vals dvs ds)(hx:Passes CX X E)
  (ha:PA X (e::es) t) (hdb:(x==("__debug__":Str))=false:=by decide) (he:aI (e::es) X.env=(false,eval e X.env)::aI es X.env:=by rfl) (hpl:(bN pos (aI es X.env)).any (·.1)=false:=by rfl):
  PE X (.Call (.Name x p) (e::es) [] pos) (xdw sp dvs E t):=by
 intro pins s σ H Q I h;refine bH (vD I hg hm ?_ hdb);refine fL (h₀:=X.base) I.ok.mod.kin hk (thn (ha pos pins s σ H _ I h) fun us s1 ⟨vs,H1,I1,r,q⟩=>⟨I1.kIn,?_⟩) he hpl;exact xeL F hr hb hd hx I1 r q
theorem uT{pl:Sem Bool}(he:PE X o ta)(c:Cls X.K C)(hm:Meth X.K C m f)(F:xy X.prog X.w X.K X.mg X.base CX k f fd ps sp)(hr:xI k X.A)(hb:Binds X.K fd ps ds)(hd:Vals dvs ds)(hx:Passes CX X E)(ha:PA X (e::es) t)
  (hst:aI (e::es) X.env=(false,eval e X.env)::aI es X.env:=by rfl) (hpl:(bN pos (aI es X.env)).any (·.1)=false:=by rfl)
  (ht:eval (.Call (.Attribute o m apos) (e::es) [] pos) X.env=(do
   let ov ←eval o X.env
   ia apos.atName
   let(f,first) ←dU [ov] (gq ov m pl)
   gc pos f first (bN pos (aI (e::es) X.env)) (gL pos (fj [] X.env))):=by rfl):
  PE X (.Call (.Attribute o m apos) (e::es) [] pos) (vS C m sp dvs E ta t):=by
 intro pins s σ H Q I h;refine fB (pl:=pl) (thn (he pins s σ H _ I h) fun u s1 ⟨x,H1,I1,rx,a,dx,fs,ex,ea,l,q⟩=>?_) ht;subst ex;obtain rfl:u=aT a:=rx;refine jI I1 ea c hm l ?_;refine fL (first:=[.ref a]) (h₀:=X.base) I.ok.mod.kin hm.kp (thn (ha pos pins s1 σ H1 _ I1 q) fun us s2 ⟨vs,H2,I2,r,q2⟩=>⟨I2.kIn,?_⟩) hst hpl;exact xeL (us:=.ref a::us) (vs:=.ref a::vs) F hr hb hd hx I2 (.cons rfl r) q2
theorem yb{pl:Sem Bool}(he:PE X o ta)(c:Cls X.K C)(hm:Meth X.K C m f)(F:xy X.prog X.w X.K X.mg X.base CX k f fd ps sp)(hr:xI k X.A)(hb:Binds X.K fd ps ds)(hd:Vals dvs ds)(hx:Passes CX X E)
  (ht:eval (.Call (.Attribute o m apos) [] [] pos) X.env=(do
   let ov ←eval o X.env
   ia apos.atName
   let(f,first) ←dU [ov] (gq ov m pl)
   gc pos f first (bN pos (aI [] X.env)) (gL pos (fj [] X.env))):=by rfl):
  PE X (.Call (.Attribute o m apos) [] [] pos) (vS C m sp dvs E ta jU):=by
 intro pins s σ H Q I h;refine fB (pl:=pl) (thn (he pins s σ H _ I h) fun u s1 ⟨x,H1,I1,rx,a,dx,fs,ex,ea,l,q⟩=>?_) ht;subst ex;obtain rfl:u=aT a:=rx;refine jI I1 ea c hm l ?_;exact W.callWith_K0 (first:=[.ref a]) I1.kIn hm.kp (xeL (us:=[.ref a]) (vs:=[.ref a]) F hr hb hd hx I1 (.cons rfl .nil) q)
structure Mk(K:ah)(C f:Addr):Prop where
 makes:W.makesIn K C=true
 init:bq K (.ref C) "__init__"=some (some (.ref f))
 fn:W.isFn K (.ref f)=true
 kp:cR K (.ref C)=true
theorem xmG{pins:List (Addr×Obj)}{σ:St}{H:Hp}{s:ae}{Q:VK}{us:List Value}{vs:List V}(M:Mk X.K C f)(F:xy X.prog X.w X.K X.mg X.base CX k f fd ps sp)(hr:xI (k+1) X.A)(hb:Binds X.K fd ps ds)(hd:Vals dvs ds)
  (hx:Passes CX X E) (I:Inv X pins σ H s) (r:Vals vs us)
  (h:∀x dx,H x=none→H dx=none→dx≠x→sp (.ref x::(vs++dvs)) (upd (upd H dx (.own x)) x (.ins C dx [])) (fun v H2=>v= .non∧Q (.ref x) H2) E):
  wpAny (model X.prog X.w) X.A (call (.ref C) us) (EP X pins σ Q) X.xe s:=by
 have hq:=h (s.heap.objs.size+1) s.heap.objs.size (I.hok.fresh (cW _)) (I.hok.fresh (ak _)) (aq (cS _));have I2:=Inv.made (C:=C) I;have r2:Vals (V.ref (s.heap.objs.size+1)::(vs++dvs)) (aT (s.heap.objs.size+1)::(us++ds)):=.cons rfl (r.append hd);have hl:(aT (s.heap.objs.size+1)::us++ds).length=ps.length:=by
  have e:=r2.length;rw[F.len _ _ _ _ hq]at e;exact e.symm
 refine dO (xmF (f:=f) I.kIn M.makes M.init (beq_iff_eq.mp M.fn) (cT (F.run _ X.stack _ _ ⟨aT (s.heap.objs.size+1)::us,[]⟩ (aT (s.heap.objs.size+1)::(us++ds)) _ _ E (hr.make C us [])
  (I2.env0.make C us []) (hb _ (aT (s.heap.objs.size+1)::us) I2.kIn hl) r2 hq) fun r s' hq'=>?_))
 cases r with
 |error e=>exact hx pins σ _ _ e s' I2 hq'
 |ok fl=>
  cases fl with
  |ret u=>
   obtain⟨v,H',I3,rv,ev,q3⟩:=I2.after hq';subst ev;exact⟨rv,⟨V.ref (s.heap.objs.size+1),H',I3,rfl,q3⟩⟩
  |next=>exact bo hq'
  |brk=>exact bo hq'
  |cont=>exact bo hq'
theorem uU(M:Mk X.K C f)(F:xy X.prog X.w X.K X.mg X.base CX k f fd ps sp)(hr:xI (k+1) X.A)(hg:Gl X x)(hm:X.mg x=some (.ref C))(hb:Binds X.K fd ps ds)(hd:Vals dvs ds)(hx:Passes CX X E)
  (ha:PA X (e::es) t) (hdb:(x==("__debug__":Str))=false:=by decide) (he:aI (e::es) X.env=(false,eval e X.env)::aI es X.env:=by rfl) (hpl:(bN pos (aI es X.env)).any (·.1)=false:=by rfl):
  PE X (.Call (.Name x p) (e::es) [] pos) (xp6 C sp dvs E t):=by
 intro pins s σ H Q I h;refine bH (vD I hg hm ?_ hdb);refine fL (h₀:=X.base) I.ok.mod.kin M.kp (thn (ha pos pins s σ H _ I h) fun us s1 ⟨vs,H1,I1,r,q⟩=>⟨I1.kIn,?_⟩) he hpl;exact xmG M F hr hb hd hx I1 r q
end
section
variable {X:Cx} {CX:CXT} {k:Nat} {f C:Addr} {fd:aw} {ps ks:List Str} {sp:Sp} {E:XK} {x m:Str} {p pos apos kpos:Pos} {e o:Expr} {es:List Expr} {kws:List Keyword} {te ta:TE} {t tk:TA} {nm:Option Str}
variable {g:List Value→List Value→List Value} {gV:List V→List V→List V}
end
structure xo(N P:List Str)(sc:Scope):Prop where
 kind:sc.kind= .function
 co:sc.isCoroutine=false
 gen:sc.isGenerator=false
 nd:N.Nodup
 pre:N.take P.length=P
 par:∀x∈P,sc.names.lookup x=some .local∨sc.names.lookup x=some .cell
 nofree:∀y∈sc.names,y.2≠.free
theorem xgp{kindOf:Str→Option dy}{x:Str}:∀{binds:List (Str×Value)} {m:Str→Option Value},(∀v,(x,v)∉binds)→bindL kindOf binds m x=m x
 |[],_,_=>rfl
 |(n,v)::r,m,h=>by
  unfold bindL;rw[xgp fun w hw=>h w (aD _ hw)]
  split
  ·have:x≠n:=by rintro rfl;exact h v aS
   simp[this]
  ·rfl
theorem xgq{kindOf:Str→Option dy}{x:Str}:∀{binds:List (Str×Value)} {m:Str→Option Value},(∀v,(x,v)∉binds)→bindC kindOf binds m x=m x
 |[],_,_=>rfl
 |(n,v)::r,m,h=>by
  unfold bindC;rw[xgq fun w hw=>h w (aD _ hw)]
  split
  ·rfl
  ·have:x≠n:=by rintro rfl;exact h v aS
   simp[this]
theorem xgr{kindOf:Str→Option dy}{x:Str}{v:Value}:∀{P:List Str} {vs:List Value} {i:Nat} {m:Str→Option Value},P.Nodup→P[i]? =some x→vs[i]? =some v→kindOf x=some .local→
  bindL kindOf (P.zip vs) m x=some v
 |[],_,_,_,_,h,_,_=>by simp at h
 |_::_,[],_,_,_,_,h,_=>by simp at h
 |p::P,w::vs,0,m,nd,h1,h2,hk=>by
  simp at h1 h2;subst h1;subst h2;show bindL kindOf ((p,w)::P.zip vs) m p=_;unfold bindL;rw[xgp fun v hv=>(cA.mp nd).1 (eC hv).1,if_pos hk];simp
 |p::P,w::vs,i+1,m,nd,h1,h2,hk=>by
  show bindL kindOf ((p,w)::P.zip vs) m x=_;unfold bindL;exact xgr (i:=i) (cA.mp nd).2 (by simpa using h1) (by simpa using h2) hk
theorem xgs{kindOf:Str→Option dy}{x:Str}{v:Value}:∀{P:List Str} {vs:List Value} {i:Nat} {m:Str→Option Value},P.Nodup→P[i]? =some x→vs[i]? =some v→kindOf x≠some .local→
  bindC kindOf (P.zip vs) m x=some v
 |[],_,_,_,_,h,_,_=>by simp at h
 |_::_,[],_,_,_,_,h,_=>by simp at h
 |p::P,w::vs,0,m,nd,h1,h2,hk=>by
  simp at h1 h2;subst h1;subst h2;show bindC kindOf ((p,w)::P.zip vs) m p=_;unfold bindC;rw[xgq fun v hv=>(cA.mp nd).1 (eC hv).1,if_neg hk];simp
 |p::P,w::vs,i+1,m,nd,h1,h2,hk=>by
  show bindC kindOf ((p,w)::P.zip vs) m x=_;unfold bindC;exact xgs (i:=i) (cA.mp nd).2 (by simpa using h1) (by simpa using h2) hk
def start(N:List Str)(vs:List V):St:=vs.map some++bw (N.length - vs.length) none
def vH(CX:CXT)(P:aG)(w:World)(K:ah)(mg:Str→Option Value)(base:Heap)(N:List Str)(qual:Str)(scope:Scope)(f:Addr)(cd:Value)(A:aL)(outer:List Env)(s:ae)(H:Hp)(E:XK):Cx where
 prog:=P
 w:=w
 K:=K
 mg:=mg
 base:=base
 A:=A.deeper (eP qual scope s.heap.objs.size f cd)
 N:=N
 s₀:=s
 H₀:=H
 env:=eP qual scope s.heap.objs.size f cd
 outer:=outer
 stack:=eP qual scope s.heap.objs.size f cd::outer
 ex:=[]
 calm:=true
 cp:=fun _=>true
 fn:=fun _=>true
 pn:=[]
 xe:=fun e s'=>wpAny (model P w) (A.deeper (eP qual scope s.heap.objs.size f cd)) (leaving (eP qual scope s.heap.objs.size f cd) e) (fun _ s''=>CX outer H s E e s'') (fun e' s''=>CX outer H s E e' s'') s'
theorem xhp{sc:Scope}{n:Nat}{x:Str}(h:sc.names.lookup x=some .cell):∃c,(iH n sc.names []).lookup x=some c:=by
 have q:=gd sc.names n [] (.inl h);exact fM.mp q
theorem xcC{CX:CXT}{P:aG}{w:World}{K:ah}{mg:Str→Option Value}{base:Heap}{N ps:List Str}{qual:Str}{scope:Scope}{f:Addr}{cd:Value}{A:aL}{outer:List Env}{s s1:ae}{H:Hp}{E:XK}{us:List Value}{vs:List V}
  (S:xo N ps scope) (hd:A.handled=none) (e0:jm P w K mg base A outer s H) (hl:vs.length=ps.length) (r:Vals vs us)
  (x:InCallC s s.heap.objs.size (bindL (eP qual scope s.heap.objs.size f cd).kindOf (ps.zip us) fun _=>none) (iH (s.heap.objs.size+1) scope.names []) (bindC (eP qual scope s.heap.objs.size f cd).kindOf (ps.zip us) fun _=>none) s1):
  Inv (vH CX P w K mg base N qual scope f cd A outer s H E) [] (start N vs) H s1:=by
 have hpl:ps.length≤N.length:=by have:=congrArg cC S.pre;rw[bM]at this;lia
 obtain⟨h1,tk,rfl,hk⟩:=x.done;have noA:∀b:Addr,b∉(vH CX P w K mg base N qual scope f cd A outer s H E).ex:=fun b z=>absurd (show b∈([]:List Addr)from z) (by simp);refine⟨⟨e0.mod,S.kind,rfl,rfl,ak _,fun y z c h1 h2=>?_,fun y hy=>?_,fun y c _ h=>?_,fun _=>hd,i6 e0.frames,.inr ⟨rfl,rfl⟩,fun b z=>absurd z (noA b),e0.bs,e0.bsz,fun b _ _=>noA b,fun b z=>absurd z (noA b),e0.funs,e0.frf,fun y c _ h=>bS (x.above y c (PySem.mem_of_lookup h)),fun b hb=>e0.hok.fresh hb⟩,
  rfl,e0.bare,Un.kept hk,⟨_,x.toInCall.ns,fun i y v h1 h2 h3=>?_⟩,fun y c h=>⟨_,x.cell y c h⟩,e0.hok.fresh (ak _),fun y c h=>.inl ?_,fun p hp=>absurd (show p∈([]:List (Addr×Obj))from hp) (by simp),e0.hok.kept hk,?_⟩
 ·exact name_of_addr x.apart (PySem.mem_of_lookup h1) (PySem.mem_of_lookup h2)
 ·have hy:scope.names.lookup y=some .cell∨scope.names.lookup y=some .free:=hy;rcases hy with hy|hy
  ·exact xhp hy
  ·exact absurd rfl (S.nofree _ (PySem.mem_of_lookup hy))
 ·exact bS (x.above y c (PySem.mem_of_lookup h))
 ·have hi:i<vs.length:=by
   unfold start at h2
   by_cases hi:i<vs.length
   ·exact hi
   ·rw[bE (by simpa using hi)]at h2;rw[iC]at h2
    split at h2<;> cases h2
  have ha:vs[i]? =some v:=by
   unfold start at h2;rw[bj (by simpa using hi),aF]at h2;cases e:vs[i]? with
   |none=>rw[e]at h2;cases h2
   |some a=>rw[e]at h2;cases h2;rfl
  obtain⟨u,hu,rv⟩:=r.get ha;have hp:ps[i]? =some y:=by
   rw[←S.pre,dj (by lia)];exact h1
  have ndP:ps.Nodup:=by rw[←S.pre];exact S.nd.sublist (List.take_sublist _ _)
  refine⟨u,rv,?_⟩;rcases S.par y (aB hp)with k|k
  ·exact .inl ⟨k,xgr ndP hp hu k⟩
  ·obtain⟨c,e⟩:=xhp (n:=s.heap.objs.size+1) k;refine .inr ⟨.inl k,c,e,?_⟩;have q:=x.cell y c e;rw[xgs ndP hp hu (by show scope.names.lookup y≠_;rw[k];decide)]at q;exact q
 ·exact e0.hok.fresh (bS (x.above y c (PySem.mem_of_lookup h)))
 ·unfold start;show _=N.length;rw[av,af,iP];lia
theorem xhd{CX:CXT}{P:aG}{w:World}{K:ah}{mg:Str→Option Value}{base:Heap}{k:Nat}{f:Addr}{name qual:Str}{params:b7}{body:List Stmt}{scope:Scope}{dV kV doc pm cdv ct oc:Value}{an od:Option Addr}
  {osl:Array (Option Value)} {N ps:List Str} {sp:Sp} (lk:K.lookup f=some ⟨oc,od,.func (cU name qual params body scope dV kV doc pm an cdv ct),osl⟩) (hcd:dz K cdv qual=true) (S:xo N ps scope)
  (len:∀vs H Q E,sp vs H Q E→vs.length=ps.length)
  (hbody:∀(A:aL) (outer:List Env) (s:ae) (H:Hp) (vs:List V) (Q:VK) (E:XK),xI k (A.deeper (eP qual scope s.heap.objs.size f cdv))→sp vs H Q E→
   ∃t,PSs (vH CX P w K mg base N qual scope f cdv A outer s H E) body t∧t {nx:=fun _ H'=>Q .non H',rt:=Q} (start N vs) H):
  xy P w K mg base CX (k+1) f (cU name qual params body scope dV kV doc pm an cdv ct) ps sp:=by
 refine⟨len,fun A outer s H args us vs Q E hr e0 hb r hsp=>?_⟩;have hl:=len _ _ _ _ hsp;have KX:K.In s.heap:=e0.mod.kin.keeps fun b o e=>(e0.bs b o e).1;have lim:s.heap.NoLimit:=e0.mod.nolimit.keeps fun b o e=>(e0.bs b o e).1;have hkind:∀y∈ps.zip us,scope.names.lookup y.1=some .local∨(scope.names.lookup y.1=some .cell∧((iH (s.heap.objs.size+1) scope.names []).lookup y.1).isSome=true):=fun⟨n,v⟩ hy=>by
  rcases S.par n (eC hy).1 with q|q
  ·exact .inl q
  ·exact .inr ⟨q,gd _ _ _ (.inl q)⟩
 refine eQ hr.depth (KX _ _ lk) rfl S.co S.gen rfl (kA KX hcd) (hb _ _ _ _ ?_);refine fg S.kind hkind fun env he s1 x=>?_;subst he;refine⟨lim.keeps x.toInCall.keep,codeAny_func ?_⟩;obtain⟨t,ht,hq⟩:=hbody A outer s H vs Q E (hr.deeper _) hsp;have I:Inv (vH CX P w K mg base N qual scope f cdv A outer s H E) [] (start N vs) H s1:=xcC S hr.hd e0 hl r x;refine aK (ht [] s1 (start N vs) H _ I hq) (fun fl s' hs=>?_) fun e s' hs=>hs;have fin:∀{σ':St} {H':Hp} {v:V} {u:Value},Inv (vH CX P w K mg base N qual scope f cdv A outer s H E) [] σ' H' s'→RelV v u→Q v H'→CE outer P w H s Q u s':=
  fun{σ' H' v u} J rv q=>⟨v,H',J.os,J.bare,J.base,J.hok,rv,q⟩
 cases fl with
 |ret u=>
  obtain⟨v,σ',H',J,rv,q⟩:=hs;exact fin J rv q
 |next=>
  obtain⟨σ',H',J,q⟩:=hs;exact fin (v:=V.non) (u:=a8) J rfl q
 |brk=>
  obtain⟨_,_,_,q⟩:=hs;exact bo q
 |cont=>
  obtain⟨_,_,_,q⟩:=hs;exact bo q
end L2
namespace L2
open PySem PySem.Spec PyProof.Rows
section
variable {X:Cx} {x:Str} {p pos:Pos} {e:Expr} {es:List Expr} {t:TA} {id T:String} {r:List V→Hp→VK→Prop}
def tCB(r:List V→Hp→VK→Prop)(t:TA):TE:=fun σ H Q=>t σ H fun vs H1=>r vs H1 Q
theorem xq(hc:yn X (.builtin id) r)(hg:Gl X x)(hm:X.mg x=none)(hv:bG x=some (.builtin id))(ha:PA X (e::es) t)(hn:x≠"__name__":=by decide)(hdb:(x==("__debug__":Str))=false:=by decide)
  (he:aI (e::es) X.env=(false,eval e X.env)::aI es X.env:=by rfl) (hpl:(bN pos (aI es X.env)).any (·.1)=false:=by rfl):PE X (.Call (.Name x p) (e::es) [] pos) (tCB r t):=by
 intro pins s σ H Q I h;refine bH (yO I hg hm hv ?_ hn hdb);exact PyProof.Rows.callWith_builtin1 (thn (ha pos pins s σ H _ I h) fun us s1 ⟨vs,H1,I1,r1,q1⟩=>hc pins s1 σ H1 vs us Q I1 r1 q1) he hpl
theorem yK(hc:yn X (.type T) r)(hg:Gl X x)(hm:X.mg x=none)(hv:bG x=some (.type T))(ha:PA X (e::es) t)(hn:x≠"__name__":=by decide)(hdb:(x==("__debug__":Str))=false:=by decide)
  (he:aI (e::es) X.env=(false,eval e X.env)::aI es X.env:=by rfl) (hpl:(bN pos (aI es X.env)).any (·.1)=false:=by rfl):PE X (.Call (.Name x p) (e::es) [] pos) (tCB r t):=by
 intro pins s σ H Q I h;refine bH (yO I hg hm hv ?_ hn hdb);exact bO (thn (ha pos pins s σ H _ I h) fun us s1 ⟨vs,H1,I1,r1,q1⟩=>hc pins s1 σ H1 vs us Q I1 r1 q1) he hpl
end
end L2
namespace HT
open PySem PyProof.Rows
def lexLt:List Int→List Int→Bool
 |[],[]=>false
 |[],_::_=>true
 |_::_,[]=>false
 |x::xs,y::ys=>if x=y then lexLt xs ys else decide (x<y)
theorem yX(x y:Int)(xs ys:List Int):lexLt (x::xs) (y::ys)=if x=y then lexLt xs ys else decide (x<y):=rfl
theorem xgP:lexLt [] []=false:=rfl
theorem xfD(y:Int)(ys:List Int):lexLt [] (y::ys)=true:=rfl
theorem xfE(x:Int)(xs:List Int):lexLt (x::xs) []=false:=rfl
theorem xhq(A:aL)(s:ae)(a:Int)(t:Tok)(c:Int)(u:Tok):∃e,kW A s (.int a t) (.int c u) e∧(e=true↔a=c):=
 ⟨(a==c),kB a t c u,by simp⟩
theorem xhr(A:aL)(s:ae)(a:Int)(t:Tok)(c:Int)(u:Tok)(prog:aG)(w:World)(E:Value→ae→Prop)(Q:Value→ae→Prop)(h:Q (.bool (decide (a<c))) s):
  wpAny (model prog w) A (richCompare .Lt (.int a t) (.int c u)) Q E s:=
 (PyProof.Rows.lt_int h:wpAny (model prog w) A (bK .Lt (.int a t) (.int c u)) Q E s)
section
open PySem.SeqAt
open PySem.AutoSeq1 (wpAny_loadPart')
open PySem.MeetsSeq PySem.MeetsSeq2 PySem.MeetsSeq3
theorem xgQ(l b:Addr)(items items2:Array Value)(n n2:Nat)(dd dd2:Option Addr)(sl sl2:Array (Option Value))(ns ms:List Int)(hi:cE items.toList ns)(hj:cE items2.toList ms):
  Meets (eR.«tuple.__lt__» ⟨[.ref l,.ref b],[]⟩)
   (fun _ R s=>s.heap.get? l=some {cls:=.type "tuple",dict:=dd,data:=.seq items n,slots:=sl}∧s.heap.get? b=some {cls:=.type "tuple",dict:=dd2,data:=.seq items2 n2,slots:=sl2}∧
    R (.ok (.ret (.bool (lexLt ns ms)))) s):=
 .of_wp fun prog w A R s h=>by
  obtain⟨hp,g,d,tk,os⟩:=s;obtain⟨hl,hb,h⟩:=h;have f2:=AutoSeq1.sub_tuple_tuple;have z1:items.size=ns.length:=by rw[←hi.length];simp
  have z2:items2.size=ms.length:=by rw[←hj.length];simp
  wp_walk using bF hl,bF hb,wpAny_forIn_list _ (fun rest b s'=>b.1=none∧s'=⟨hp,g,d,tk,os⟩∧∃(vs ws:List Value) (ns' ms':List Int),rest=vs.zip ws∧
   cE vs ns'∧cE ws ms'∧ns'.length+items2.size=ms'.length+items.size∧R (.ok (.ret (.bool (lexLt ns' ms')))) ⟨hp,g,d,tk,os⟩) _
  case turn=>
   rintro⟨y,x⟩ rest b s' ⟨hb',rfl,vs,ws,ns',ms',hz,hvi,hwi,hlen,hR⟩;cases hvi with
   |nil=>rw[List.zip_nil_left]at hz;cases hz
   |cons a t hvi'=>
    cases hwi with
    |nil=>rw[List.zip_nil_right]at hz;cases hz
    |cons c u hwi'=>
     rw[kC]at hz;injection hz with hyx hrest;injection hyx with hy hx;subst hy hx;rw[yX]at hR;simp only[bt]at hlen;obtain⟨e,he,hiff⟩:=xhq A.in1 ⟨hp,g,d,tk,os⟩ a t c u;refine aa (he prog w _ _ ?_);cases e with
     |true=>
      rw[if_pos (hiff.mp rfl)]at hR
      wp_walk
      exact⟨rfl,rfl,_,_,_,_,hrest,hvi',hwi',by lia,hR⟩
     |false=>
      rw[if_neg (fun q=>absurd (hiff.mpr q) aC)]at hR;have hri:=xhr A.in1 ⟨hp,g,d,tk,os⟩ a t c u prog w
      wp_walk using hri
      exact⟨_,rfl,by simpa using hR⟩
  case fin=>
   rintro⟨b1,b2⟩ s' ⟨hb',rfl,vs,ws,ns',ms',hz,hvi,hwi,hlen,hR⟩;simp only at hb';subst hb';have hv:lexLt ns' ms'=decide (items.size<items2.size):=by
    cases hvi with
    |nil=>
     cases hwi with
     |nil=>
      simp only[gx]at hlen;rw[xgP];exact(decide_eq_false (by lia)).symm
     |cons c u hw=>
      simp only[gx,bt]at hlen;rw[xfD];exact(decide_eq_true (by lia)).symm
    |cons a t hv=>
     cases hwi with
     |nil=>
      simp only[gx,bt]at hlen;rw[xfE];exact(decide_eq_false (by lia)).symm
     |cons c u hw=>
      rw[kC]at hz;cases hz
   rw[hv]at hR
   wp_walk
   exact⟨_,rfl,by simpa [Builtin.Tuple.tupleCompareSizes]using hR⟩
  case h=>
   exact⟨rfl,rfl,items.toList,items2.toList,ns,ms,rfl,hi,hj,by lia,h⟩
end
section
variable {prog:aG} {w:World} {A:aL} {E:Value→ae→Prop} {s:ae}
theorem xjU{l b:Addr}{items items2:Array Value}{ns ms:List Int}{Q:Value→ae→Prop}(hl:IsTup s.heap l items)(hb:IsTup s.heap b items2)(hi:cE items.toList ns)(hj:cE items2.toList ms)
  (hu:A.units<cLine) (h:Q (.bool (lexLt ns ms)) s):wpAny (model prog w) A (bK .Lt (.ref l) (.ref b)) Q E s:=by
 obtain⟨⟨cls,dd,data,sl⟩,ho,hc,n,hd⟩:=id hl;obtain⟨⟨cls2,dd2,data2,sl2⟩,ho2,hc2,n2,hd2⟩:=id hb;simp only at hc hd hc2 hd2;subst hc hd hc2 hd2;exact richCompare_meets_room (op:=.Lt) ⟨_,ho,rfl⟩ ⟨_,ho2,rfl⟩ PySem.F.slot_tuple_lt PySem.F.entry_tuple_lt (PySem.F.args_tuple_lt_2 _ _) (xgQ l b items items2 n n2 dd dd2 sl sl2 ns ms hi hj)
  ⟨ho,ho2,show dB (lexLt ns ms)≠i7∧Q (.bool (lexLt ns ms)) s from⟨(fun x=>nomatch x),h⟩⟩ hu
theorem xnW{t b:Addr}{vs ws:List Value}{Q:Value→ae→Prop}(ht:IsTup s.heap t vs.toArray)(hb:IsTup s.heap b ws.toArray)(hv:vs≠[])
  (h1:ws=[]→Q (.ref t) s) (h2:ws≠[]→Q (.ref s.heap.objs.size) {s with heap:=s.heap.push {cls:=.type "tuple",data:=.seq (vs++ws).toArray}})
  (hsz:vs.length+ws.length≤aQ):wpAny (model prog w) A (cQ .Add (.ref t) (.ref b)) Q E s:=by
 obtain⟨⟨cls,dd,data,sl⟩,ho,hc,n,hd⟩:=id ht;obtain⟨⟨cls2,dd2,data2,sl2⟩,ho2,hc2,n2,hd2⟩:=id hb;simp only at hc hd hc2 hd2;subst hc hd hc2 hd2;have e:vs.toArray++ws.toArray=(vs++ws).toArray:=by simp
 by_cases hw:ws=[]
 ·exact concat_meets ⟨_,ho,rfl⟩ ⟨_,ho2,rfl⟩ noFill_tuple_add seq_tuple_add PySem.F.slot_tuple_add PySem.F.entry_tuple_add (PySem.F.args_tuple_add_2 _ _)
   (tuple_addW1 t b vs.toArray ws.toArray n n2 dd dd2 sl sl2 (by simpa using hv) (by simp[hw])) ⟨ho,ho2,h1 hw⟩
 ·refine concat_meets ⟨_,ho,rfl⟩ ⟨_,ho2,rfl⟩ noFill_tuple_add seq_tuple_add PySem.F.slot_tuple_add PySem.F.entry_tuple_add (PySem.F.args_tuple_add_2 _ _)
   (tuple_addW2 t b vs.toArray ws.toArray n n2 dd dd2 sl sl2 (by simpa using hv) (by simpa using hw) (by rw[ay,ay];exact hsz)) ⟨ho,ho2,?_⟩
  rw[e];exact h2 hw
def sIx(n d:Nat):Option Int→Nat
 |none=>d
 |some v=>if v<0 then(v+(n:Int)).toNat else min v.toNat n
theorem uI(n d:Nat):sIx n d none=d:=rfl
end
end HT
namespace L2
open PySem PySem.Spec PyProof.Rows
abbrev TO:=St→Hp→(Option Int→Hp→Prop)→Prop
def PO(X:Cx)(e:Option Expr)(t:TO):Prop:=
 ∀(pins:List (Addr×Obj)) (s:ae) (σ:St) (H:Hp) (Q:Option Int→Hp→Prop),Inv X pins σ H s→t σ H Q→
  wpAny (model X.prog X.w) X.A (evalPart e X.env) (fun u s'=>∃o H',Inv X pins σ H' s'∧IsPart u o∧Q o H') X.xe s
def xnX:TO:=fun _ H Q=>Q none H
def xp7(t:TE):TO:=fun σ H Q=>t σ H fun x H1=>∃i,x= .int i∧Q (some i) H1
theorem intsAre_of{ns:List Int}:∀{us:List Value},Vals (ns.map V.int) us→cE us ns:=by
 induction ns with
 |nil=>intro us r;rw[kE]at r;cases r;exact .nil
 |cons n ns ih=>
  intro us r;rw[bQ]at r;cases r with
  |cons r1 r2=>
   obtain⟨t,e⟩:=r1;subst e;exact .cons n t (ih r2)
section
variable {X:Cx} {e:Expr} {te:TE} {lo hi:Option Expr} {tl th:TO} {pos p2:Pos}
theorem ub:PO X none xnX:=by
 intro pins s σ H Q I h;rw[evalPart_none];exact ao ⟨none,H,I,.none,h⟩
theorem yj(h:PE X e te):PO X (some e) (xp7 te):=by
 intro pins s σ H Q I hw;rw[evalPart_some];refine thn (h pins s σ H _ I hw) fun u s1 ⟨x,H1,I1,r1,q1⟩=>?_;obtain⟨i,rfl,q⟩:=q1;obtain⟨t,rfl⟩:=r1;exact⟨some i,H1,I1,.int i t,q⟩
def SlR(X:Cx)(r:V→Option Int→Option Int→Hp→VK→Prop):Prop:=
 ∀(pins:List (Addr×Obj)) (s:ae) (σ:St) (H:Hp) (x:V) (v vl vu:Value) (lo hi:Option Int) (sl:Addr) (Q:VK),Inv X pins σ H s→RelV x v→s.heap.IsSliceOf sl vl vu .none→IsPart vl lo→IsPart vu hi→r x lo hi H Q→
  ∃T id,gy (.type T) "__getitem__"=pure (some (.builtin id))∧s.TypeIs v T∧wpAny (model X.prog X.w) X.A (getItem v (.ref sl)) (EP X pins σ Q) X.xe s
def tSl(r:V→Option Int→Option Int→Hp→VK→Prop)(te:TE)(tl th:TO):TE:=fun σ H Q=>te σ H fun x H1=>tl σ H1 fun l H2=>th σ H2 fun u H3=>r x l u H3 Q
theorem yA{r:V→Option Int→Option Int→Hp→VK→Prop}(hr:SlR X r)(he:PE X e te)(hl:PO X lo tl)(hu:PO X hi th):PE X (.Subscript e (.Slice lo hi none p2) pos) (tSl r te tl th):=by
 intro pins s σ H Q I h;refine Subscript_ (thn (he pins s σ H _ I h) fun v s1 ⟨x,H1,I1,r1,q1⟩=>?_);refine wpAny_Slice (thn (hl pins s1 σ H1 _ I1 q1) fun vl s2 ⟨l,H2,I2,pl,q2⟩=>thn (hu pins s2 σ H2 _ I2 q2) fun vu s3 ⟨u,H3,I3,pu,q3⟩=>?_);rw[evalPart_none];refine ao ?_;have I4:Inv X pins σ H3 {s3 with heap:=s3.heap.push {cls:=.type "slice",data:=.fields #[vl,vu,.none]}}:=I3.kept (t':=s3.toks) fun b ob q=>ag _ q;obtain⟨T,id,hT,ht,hg⟩:=hr pins {s3 with heap:=s3.heap.push {cls:=.type "slice",data:=.fields #[vl,vu,.none]}} σ H3 x v vl vu l u s3.heap.objs.size Q I4 r1 (Heap.IsSliceOf.new ..) pl pu q3;show wpAny (model X.prog X.w) X.A (subscriptTail e (.Slice lo hi none p2) v (.ref s3.heap.objs.size)) (EP X pins σ Q) X.xe {s3 with heap:=s3.heap.push {cls:=.type "slice",data:=.fields #[vl,vu,.none]}};exact tail_any (ops:=[.ref s3.heap.objs.size,v]) ht hT hg (by with_unfolding_all rfl)
def zx(xs:List V)(lo hi:Option Int):List V:=(xs.drop (HT.sIx xs.length 0 lo)).take (HT.sIx xs.length xs.length hi - HT.sIx xs.length 0 lo)
theorem xiE(xs:List V)(lo hi:Option Int):(zx xs lo hi).length≤xs.length:=by
 unfold zx;rw[bM,aX];lia
def xp8(K:ah):R2:=fun x y H Q=>∃a b xs ys,x= .ref a∧y= .ref b∧SqT K H a xs∧SqT K H b ys∧xs≠[]∧xs.length+ys.length≤aQ∧
 (ys=[]→Q (.ref a) H)∧(ys≠[]→∀p,H p=none→Q (.ref p) (upd H p (.tup (xs++ys))))
theorem Vals.nil_iff{xs:List V}{us:List Value}(r:Vals xs us):us=[]↔xs=[]:=by
 cases r with
 |nil=>simp
 |cons _ _=>simp
theorem xnY:OpR X (cQ .Add) (xp8 X.K):=by
 intro pins s σ H x y v u Q I rx ry h;obtain⟨a,b,xs,ys,rfl,rfl,ha,hb,hx,hz,q1,q2⟩:=h;cases rx;cases ry;obtain⟨its,r1,p1,_⟩:=I.tuple ha;obtain⟨its2,r2,p2,_⟩:=I.tuple hb;refine HT.xnW p1 p2 (fun z=>hx (r1.nil_iff.mp z)) (fun z=>⟨.ref a,H,I,rfl,q1 (r2.nil_iff.mp z)⟩) (fun z=>?_) (by rw[←r1.length,←r2.length];exact hz);refine⟨.ref s.heap.objs.size,_,I.laid (t':=s.toks) (o:=.tup (xs++ys)) (fun b ob q=>ag _ q) (ak _) ?_,rfl,q2 (fun w=>z (r2.nil_iff.mpr w)) _ (I.hok.fresh (ak _))⟩;exact⟨by rw[av];exact hz,_,r1.append r2,IsTup.new _ _⟩
end
end L2
namespace L2
open PySem PySem.Spec PyProof.Rows
def ixN(n:Nat)(i:Int):Option Nat:=if 0≤i then(if i<n then some i.toNat else none)else if -(n:Int)≤i then some (i+n).toNat else none
def atI{α:Type}(xs:List α)(i:Int):Option α:=(ixN xs.length i).bind fun j=>xs[j]?
theorem xjd{n:Nat}{i:Int}{j:Nat}(h:ixN n i=some j):seqIndex? i n=some j∧j<n∧-(n:Int)≤i∧i<n:=by
 unfold ixN at h
 by_cases h0:0≤i
 ·rw[if_pos h0]at h
  by_cases h1:i<n
  ·rw[if_pos h1]at h;have e:i.toNat=j:=bp h;exact⟨by rw[seqIndex_of h0 h1,e],by lia,by lia,h1⟩
  ·rw[if_neg h1]at h;cases h
 ·rw[if_neg h0]at h
  by_cases h1: -(n:Int)≤i
  ·rw[if_pos h1]at h;have e:(i+n).toNat=j:=bp h;exact⟨by rw[seqIndex_neg (by lia) h1,e],by lia,h1,by lia⟩
  ·rw[if_neg h1]at h;cases h
theorem xje{α:Type}{xs:List α}{i:Int}{v:α}(h:atI xs i=some v):∃j,seqIndex? i xs.length=some j∧xs[j]? =some v∧j<xs.length∧-(xs.length:Int)≤i∧i<xs.length:=by
 unfold atI at h;cases e:ixN xs.length i with
 |none=>rw[e]at h;cases h
 |some j=>
  rw[e]at h;obtain⟨h1,h2,h3,h4⟩:=xjd e;exact⟨j,h1,h,h2,h3,h4⟩
theorem yV{α:Type}{xs:List α}{j:Nat}{v:α}(h:xs[j]? =some v):atI xs (j:Int)=some v:=by
 have hj:j<xs.length:=(aH.mp h).1;have e:ixN xs.length (j:Int)=some j:=by
  unfold ixN;rw[if_pos (by lia),if_pos (by lia)];simp
 unfold atI;rw[e];exact h
def xnZ(b:Expr):Prop:=∀o i,subscripted b false o i=operate [o,i] (getItem o i)
def IxR(X:Cx)(r:R2):Prop:=
 ∀(value slice:Expr) (pins:List (Addr×Obj)) (s:ae) (σ:St) (H:Hp) (x y:V) (v u:Value) (Q:VK),Inv X pins σ H s→RelV x v→RelV y u→r x y H Q→
  subscripted slice false v u=operate [v,u] (getItem v u)→wpAny (model X.prog X.w) X.A (subscriptTail value slice v u) (EP X pins σ Q) X.xe s
def MtR(X:Cx)(id:String)(r:V→List V→Hp→VK→Prop):Prop:=
 ∀(pins:List (Addr×Obj)) (s:ae) (σ:St) (H:Hp) (x:V) (xs:List V) (v:Value) (us:List Value) (Q:VK),Inv X pins σ H s→RelV x v→Vals xs us→r x xs H Q→
  wpAny (model X.prog X.w) X.A (call (.builtin id) (v::us)) (EP X pins σ Q) X.xe s
section
variable {X:Cx} {a b:Expr} {ta tb:TE} {pos:Pos}
theorem xF{r:R2}(hr:IxR X r)(ha:PE X a ta)(hb:PE X b tb)(hs:xnZ b):PE X (.Subscript a b pos) (tOp r ta tb):=by
 intro pins s σ H Q I h;exact Subscript_ (xmB ha hb I h fun v u s2 x y H2 I2 rx ry q=>hr a b pins s2 σ H2 x y v u Q I2 rx ry q (hs _ _))
def xpc(K:ah):R2:=fun x y H Q=>∃p xs i v,x= .ref p∧y= .int i∧SqL K H p xs∧atI xs i=some v∧Q v H
def xpd(K:ah):R2:=fun x y H Q=>∃p xs i v,x= .ref p∧y= .int i∧SqT K H p xs∧atI xs i=some v∧Q v H
theorem yB:IxR X (xpc X.K):=by
 intro value slice pins s σ H x y v u Q I rx ry h hs;obtain⟨p,xs,i,z,rfl,rfl,hq,he,q⟩:=h;cases rx;obtain⟨t,rfl⟩:=ry;obtain⟨its,r,pl,hz⟩:=I.list hq;obtain⟨j,h1,h2,h3,h4,h5⟩:=xje he;obtain⟨w,ew,rw'⟩:=r.get h2;have hl:=r.length;have hn:=xeJ;have fin:EP X pins σ Q w s:=⟨z,H,I,rw',q⟩
 by_cases h0:0≤i
 ·have hj:i.toNat=j:=by
   rw[seqIndex_of h0 h5]at h1;exact bp h1
  exact item_listR pl.isList h0 (by lia) (by rw[hj];simpa using ew) fin hs
 ·have hj:(i+(its.toArray.size:Int)).toNat=j:=by
   rw[seqIndex_neg (by lia) h4]at h1;rw[ay,←hl];exact bp h1
  exact subscriptTail_builtinR (x:=w) pl.isList.typeIs slot_list_getitem.lookup
   (wpAny_getItem_list_neg (Q:=fun r s'=>r=w∧EP X pins σ Q r s') pl.isList (by lia) (by rw[ay]<;> lia) (by lia) (by rw[hj];simpa using ew) ⟨rfl,fin⟩) hs
theorem xJ:IxR X (xpd X.K):=by
 intro value slice pins s σ H x y v u Q I rx ry h hs;obtain⟨p,xs,i,z,rfl,rfl,hq,he,q⟩:=h;cases rx;obtain⟨t,rfl⟩:=ry;obtain⟨its,r,pl,hz⟩:=I.tuple hq;obtain⟨j,h1,h2,h3,h4,h5⟩:=xje he;obtain⟨w,ew,rw'⟩:=r.get h2;have hl:=r.length;have hn:=xeJ;have fin:EP X pins σ Q w s:=⟨z,H,I,rw',q⟩;exact subscriptTail_builtinR (x:=w) pl.typeIs slot_tuple_getitem.lookup
  (getItem_tuple (j:=j) (Q:=fun r s'=>r=w∧EP X pins σ Q r s') pl (by lia) (by lia) (by rw[ay,←hl];exact h1) (by simpa using ew) ⟨rfl,fin⟩) hs
theorem xjV(its:List Value)(n j:Nat)(u:Value):aV (·.setIfInBounds j u) {cls:=.type "list",data:=.seq its.toArray n}={cls:=.type "list",data:=.seq (its.set j u).toArray n}:=by
 simp[aV]
theorem Inv.lst{pins:List (Addr×Obj)}{σ:St}{H:Hp}{s:ae}{p:Addr}{xs:List V}(I:Inv X pins σ H s)(h:H p=some (.lst xs)):
  ∃(its:List Value) (n:Nat),Vals xs its∧s.heap.get? p=some {cls:=.type "list",data:=.seq its.toArray n}∧xs.length≤aQ:=by
 obtain⟨z,its,n,r,e⟩:=I.hok p _ h;exact⟨its,n,r,e,z⟩
theorem Inv.lstUpd{pins:List (Addr×Obj)}{σ:St}{H:Hp}{s:ae}{p:Addr}{xs ys:List V}{its its':List Value}{n n':Nat}{f:Obj→Obj}(I:Inv X pins σ H s)(h:H p=some (.lst xs))
  (ho:s.heap.get? p=some {cls:=.type "list",data:=.seq its.toArray n}) (hf:f {cls:=.type "list",data:=.seq its.toArray n}={cls:=.type "list",data:=.seq its'.toArray n'}) (r:Vals ys its') (hz:ys.length≤aQ) (t:Nat):
  Inv X pins σ (upd H p (.lst ys)) {s with heap:=s.heap.update p f,toks:=t}:=by
 have e:(s.heap.update p f).get? p=some {cls:=.type "list",data:=.seq its'.toArray n'}:=by
  rw[bP f ho (by rw[hf]<;> rfl),hf]
 refine I.write (x:=p) (e:=p) (by rw[h];trivial) (.inl rfl) (fun b u hb q=>(aZ _ _ (aR hb)).trans q) ⟨_,e⟩ ?_;exact⟨hz,its',n',r,e⟩
def xp9:V→V→V→Hp→(Hp→Prop)→Prop:=fun o i v H Q=>∃p xs k j,o= .ref p∧i= .int k∧H p=some (.lst xs)∧ixN xs.length k=some j∧Q (upd H p (.lst (xs.set j v)))
theorem set_list:xoZ X xp9:=by
 intro pins s σ H o i v ov iv u Q I ro ri rv h;obtain⟨p,xs,k,j,rfl,rfl,hp,hj,q⟩:=h;cases ro;obtain⟨t,rfl⟩:=ri;obtain⟨its,n,r,ho,hz⟩:=I.lst hp;obtain⟨h1,h2,h3,h4⟩:=xjd hj;have hl:=r.length;have hn:=xeJ;have I':Inv X pins σ (upd H p (.lst (xs.set j v))) {s with heap:=s.heap.update p (aV (·.setIfInBounds j u))}:=
  I.lstUpd hp ho (xjV its n j u) (r.set rv j) (by rw[cL];exact hz) s.toks
 by_cases h0:0≤k
 ·have hk:k.toNat=j:=by
   rw[seqIndex_of h0 h4]at h1;exact bp h1
  exact W.ki_setAt ho h0 (by lia) (by rw[ay,←hl];exact h4) (by rw[hk];exact⟨_,I',q⟩)
 ·have hk:(k+(its.toArray.size:Int)).toNat=j:=by
   rw[seqIndex_neg (by lia) h3]at h1;rw[ay,←hl];exact bp h1
  exact W.ki_setBack ho (by lia) (by rw[ay,←hl];exact h3) (by lia) (by rw[hk];exact⟨_,I',q⟩)
theorem xhs(lo hi:Option Int)(n:Nat):(fm lo hi none n).1=((HT.sIx n 0 lo:Nat):Int)∧(fm lo hi none n).2.1=((HT.sIx n n hi:Nat):Int)∧(fm lo hi none n).2.2=1:=by
 refine⟨?_,?_,rfl⟩
 ·cases lo with
  |none=>simp[fm,HT.sIx]
  |some i=>
   simp only[fm,HT.sIx,kT,show(1:Int) > 0 by decide,if_true]
   by_cases h:i<0
   ·simp only[h,if_true]<;> lia
   ·simp only[h,if_false]<;> lia
 ·cases hi with
  |none=>simp[fm,HT.sIx]
  |some i=>
   simp only[fm,HT.sIx,kT,show(1:Int) > 0 by decide,if_true]
   by_cases h:i<0
   ·simp only[h,if_true]<;> lia
   ·simp only[h,if_false]<;> lia
theorem xgR(its:List Value)(lo hi:Option Int):slicePick its.toArray lo hi none=((its.drop (HT.sIx its.length 0 lo)).take (HT.sIx its.length its.length hi - HT.sIx its.length 0 lo)).toArray:=by
 obtain⟨h1,h2,h3⟩:=xhs lo hi its.toArray.size;unfold slicePick;rw[h1,h2,h3];simp only[sliceRange_one,pick_run,ay]<;> rfl
def xpe(K:ah):V→Option Int→Option Int→Hp→VK→Prop:=fun x lo hi H Q=>∃a xs,x= .ref a∧SqL K H a xs∧∀p,H p=none→Q (.ref p) (upd H p (.lst (zx xs lo hi)))
theorem yL:SlR X (xpe X.K):=by
 intro pins s σ H x v vl vu lo hi sl Q I rx hs pl pu h;obtain⟨a,xs,rfl,hx,q⟩:=h;cases rx;obtain⟨its,r,ht,hz⟩:=I.list hx;have hlen:=r.length;refine⟨"list",_,slot_list_getitem.lookup,ht.isList.typeIs,?_⟩;refine wpAny_getItem_list_slice ht.isList hs pl pu .none (by simp) ?_ (by rw[ay]<;> lia);rw[xgR,←hlen];refine⟨.ref s.heap.objs.size,_,I.laid (t':=s.toks) (o:=.lst (zx xs lo hi)) (fun b ob q=>ag _ q) (ak _) ?_,rfl,q _ (I.hok.fresh (ak _))⟩;exact⟨bg (xiE xs lo hi) hz,_,0,(r.drop (HT.sIx xs.length 0 lo)).take (HT.sIx xs.length xs.length hi - HT.sIx xs.length 0 lo),aA _ rfl⟩
def jJ:V→Bool
 | .non=>true
 | .bl _=>true
 | .int _=>true
 | .str _=>true
 |_=>false
def eqV:V→V→Bool
 | .non,.non=>true
 | .bl a,.bl b=>a==b
 | .bl a,.int b=>(if a then 1 else 0)==b
 | .int a,.bl b=>a==(if b then 1 else 0)
 | .int a,.int b=>a==b
 | .str a,.str b=>a==b
 |_,_=>false
theorem xpf{A:aL}{s:ae}{y x:V}{u v:Value}(ry:RelV y u)(rx:RelV x v)(fy:jJ y=true)(fx:jJ x=true):kW A s u v (eqV y x):=by
 cases y with
 |non=>
  cases ry;cases x with
  |non=>cases rx;exact SeqAt.EqAt.same _
  |bl b=>cases rx;exact SeqAt.EqAt.none_bool b
  |int b=>obtain⟨t,rfl⟩:=rx;exact SeqAt.EqAt.none_int b t
  |str b=>obtain⟨t,rfl⟩:=rx;exact SeqAt.EqAt.none_str b t
  |_=>exact absurd (show false=true from fx) aC
 |bl a=>
  cases ry;cases x with
  |non=>cases rx;exact SeqAt.EqAt.bool_none a
  |bl b=>cases rx;exact SeqAt.EqAt.bool_bool a b
  |int b=>obtain⟨t,rfl⟩:=rx;exact SeqAt.EqAt.bool_int a b t
  |str b=>obtain⟨t,rfl⟩:=rx;exact SeqAt.EqAt.bool_str a b t
  |_=>exact absurd (show false=true from fx) aC
 |int a=>
  obtain⟨t',rfl⟩:=ry;cases x with
  |non=>cases rx;exact SeqAt.EqAt.int_none a t'
  |bl b=>cases rx;exact SeqAt.EqAt.int_bool a t' b
  |int b=>obtain⟨t,rfl⟩:=rx;exact kB a t' b t
  |str b=>obtain⟨t,rfl⟩:=rx;exact ko a t' b t
  |_=>exact absurd (show false=true from fx) aC
 |str a=>
  obtain⟨t',rfl⟩:=ry;cases x with
  |non=>cases rx;exact SeqAt.EqAt.str_none a t'
  |bl b=>cases rx;exact SeqAt.EqAt.str_bool a t' b
  |int b=>obtain⟨t,rfl⟩:=rx;exact kq a t' b t
  |str b=>obtain⟨t,rfl⟩:=rx;exact SeqAt.EqAt.str_str a t' b t
  |_=>exact absurd (show false=true from fx) aC
 |_=>exact absurd (show false=true from fy) aC
def eqU(x:V)(u:Value):Bool:=match u with
 | .none=>eqV .non x
 | .bool b=>eqV (.bl b) x
 | .int i _=>eqV (.int i) x
 | .str z _=>eqV (.str z) x
 |_=>false
theorem xlg{x y:V}{u:Value}(r:RelV y u)(f:jJ y=true):eqU x u=eqV y x:=by
 cases y with
 |non=>cases r;rfl
 |bl b=>cases r;rfl
 |int i=>obtain⟨t,rfl⟩:=r;rfl
 |str z=>obtain⟨t,rfl⟩:=r;rfl
 |_=>exact absurd (show false=true from f) aC
theorem xfF{x:V}:∀{xs:List V} {us:List Value},Vals xs us→xs.all jJ=true→us.any (eqU x)=xs.any fun y=>eqV y x
 |_,_,.nil,_=>rfl
 |y::xs,u::us,.cons r t,f=>by
  rw[List.all_cons,dW]at f;rw[List.any_cons,List.any_cons,xlg r f.1,xfF t f.2]
theorem xee{A:aL}{s:ae}{x:V}{v:Value}(rx:RelV x v)(fx:jJ x=true):∀{xs:List V} {us:List Value},Vals xs us→xs.all jJ=true→∀u∈us,kW A s u v (eqU x u)
 |_,_,.nil,_=>fun u hu=>by cases hu
 |y::xs,u::us,.cons r t,f=>fun u' hu=>by
  rw[List.all_cons,dW]at f;rcases ar.mp hu with rfl|hu
  ·rw[xlg r f.1];exact xpf r rx f.1 fx
  ·exact xee rx fx t f.2 u' hu
def inV(x:V)(xs:List V):Bool:=xs.any fun y=>eqV y x
def rIn(K:ah)(neg:Bool):R2:=fun x y H Q=>∃p xs,y= .ref p∧(SqL K H p xs∨SqT K H p xs)∧jJ x=true∧xs.all jJ=true∧Q (.bl (if neg then !inV x xs else inV x xs)) H
theorem xht:OpR X (bK .NotIn) (rIn X.K true):=by
 intro pins s σ H x y v u Q I rx ry h;obtain⟨p,xs,rfl,hq,fx,fs,q⟩:=h;cases ry;rcases hq with hq|hq
 ·obtain⟨its,r,pl,hz⟩:=I.list hq;refine SeqAt.notIn_listAt (eqU x) pl.isList (fun w hw=>xee rx fx r fs w (by simpa using hw)) ⟨.bl _,H,I,rfl,?_⟩;rw[show its.toArray.any (eqU x)=its.any (eqU x)by simp,xfF r fs];exact q
 ·obtain⟨its,r,pl,hz⟩:=I.tuple hq;refine SeqAt.notIn_tupleAt (eqU x) pl (fun w hw=>xee rx fx r fs w (by simpa using hw)) ⟨.bl _,H,I,rfl,?_⟩;rw[show its.toArray.any (eqU x)=its.any (eqU x)by simp,xfF r fs];exact q
theorem xx:yn X (.builtin "len") (fun xs H Q=>∃p ys,xs=[.ref p]∧(SqL X.K H p ys∨SqT X.K H p ys)∧Q (.int ys.length) H):=by
 intro pins s σ H xs us Q I r h;obtain⟨p,ys,rfl,hq,q⟩:=h;obtain⟨u,rfl,rx⟩:=vals1 r;cases rx;have hn:=xeJ;rcases hq with hq|hq
 ·obtain⟨its,r',pl,hz⟩:=I.list hq;have hlen:=r'.length;exact Calls.call_len_list pl.isList (by simp only[ay]<;> lia) ⟨.int ys.length,H,I.tok _,⟨s.toks+1,by rw[ay,hlen]⟩,q⟩
 ·obtain⟨its,r',pl,hz⟩:=I.tuple hq;have hlen:=r'.length;exact len_tuple pl (by simp only[ay]<;> lia) ⟨.int ys.length,H,I.tok _,⟨s.toks+1,by rw[ay,hlen]⟩,q⟩
theorem jV:yn X (.type "list") (fun xs H Q=>∃p ys,xs=[.ref p]∧(SqL X.K H p ys∨SqT X.K H p ys)∧∀l,H l=none→Q (.ref l) (upd H l (.lst ys))):=by
 intro pins s σ H xs us Q I r h;obtain⟨p,ys,rfl,hq,q⟩:=h;obtain⟨u,rfl,rx⟩:=vals1 r;cases rx;have fin:∀(its:List Value),Vals ys its→ys.length≤aQ→∀(h':Heap) (c':Nat),(∀b o',s.heap.get? b=some o'→h'.get? b=some o')→
   h'.get? s.heap.objs.size=some {cls:=.type "list",dict:=none,data:=.seq its.toArray c',slots:=#[]}→EP X pins σ Q (.ref s.heap.objs.size) {s with heap:=h'}:=fun its r' hz h' c' kp e=>
  ⟨.ref s.heap.objs.size,_,I.laid (t':=s.toks) kp (ak _) (show xE X.prog X.w _ h' _ (.lst ys)from⟨hz,its,c',r',e⟩),rfl,q _ (I.hok.fresh (ak _))⟩
 rcases hq with hq|hq
 ·obtain⟨its,r',pl,hz⟩:=I.list hq;have hlen:=r'.length;obtain⟨o,ho,hc,n,hd⟩:=pl.isList;exact call_list_seq p (.inl rfl) ho hc hd (fun h' c' kp e=>fin its r' hz h' c' kp e) (by simp only[ay]<;> lia)
 ·obtain⟨its,r',pl,hz⟩:=I.tuple hq;have hlen:=r'.length;obtain⟨o,ho,hc,n,hd⟩:=pl;exact call_list_seq p (.inr rfl) ho hc hd (fun h' c' kp e=>fin its r' hz h' c' kp e) (by simp only[ay]<;> lia)
theorem jn:yn X (.type "tuple") (fun xs H Q=>∃p ys,xs=[.ref p]∧((SqL X.K H p ys∧∀l,H l=none→Q (.ref l) (upd H l (.tup ys)))∨(SqT X.K H p ys∧Q (.ref p) H))):=by
 intro pins s σ H xs us Q I r h;obtain⟨p,ys,rfl,h⟩:=h;obtain⟨u,rfl,rx⟩:=vals1 r;cases rx;rcases h with⟨hq,q⟩|⟨hq,q⟩
 ·obtain⟨its,r',pl,hz⟩:=I.list hq;have hlen:=r'.length;refine call_tuple_list pl.isList (fun h' kp=>?_) (by simp only[ay]<;> lia);have I1:Inv X pins σ H {s with heap:=h'}:=I.kept (t':=s.toks) kp;have I2:Inv X pins σ (upd H h'.objs.size (.tup ys)) {s with heap:=h'.push {cls:=.type "tuple",data:=.seq its.toArray}}:=
   I1.laid (t':=s.toks) (fun b o e=>ag _ e) (ak _) (show xE X.prog X.w _ _ _ (.tup ys)from⟨hz,its,r',IsTup.new _ _⟩)
  exact⟨.ref h'.objs.size,_,I2,rfl,q _ (I1.hok.fresh (ak _))⟩
 ·obtain⟨its,r',pl,hz⟩:=I.tuple hq;exact call_tuple_same pl ⟨.ref p,H,I,rfl,q⟩
def tyV(K:ah)(T:String)(x:V)(H:Hp):Prop:=match x with
 | .str _=>T="str"
 | .int _=>T="int"
 | .ref p=>(T="list"∧∃xs,SqL K H p xs)∨(T="tuple"∧∃o,K.lookup p=some o∧o.cls= .type "tuple"∧o.dict=none)∨
   (T="dict"∧((∃kvs,H p=some (.dK kvs))∨∃kvs,H p=some (.dT kvs)))∨(T="set"∧∃S n,H p=some (.set S n))
 |_=>False
theorem xlh{pins:List (Addr×Obj)}{σ:St}{H:Hp}{s:ae}{T:String}{x:V}{v:Value}(I:Inv X pins σ H s)(r:RelV x v)(ty:tyV X.K T x H):
  s.TypeIs v T∧∀a,v= .ref a→∃ob,s.heap.get? a=some ob∧ob.dict=none:=by
 cases x with
 |str z=>
  obtain⟨t,rfl⟩:=r;cases (show T="str" from ty);exact⟨typeIs_str s z t,fun _ e=>nomatch e⟩
 |int i=>
  obtain⟨t,rfl⟩:=r;cases (show T="int" from ty);exact⟨typeIs_int s i t,fun _ e=>nomatch e⟩
 |ref p=>
  cases r;rcases ty with⟨rfl,xs,hq⟩|⟨rfl,o,hk,hc,hd⟩|⟨rfl,hk⟩|⟨rfl,S,n,hk⟩
  ·obtain⟨its,_,pl,_⟩:=I.list hq;refine⟨pl.isList.typeIs,fun a e=>?_⟩;cases e;obtain⟨o,n,e,c,hd,_⟩:=pl;exact⟨o,e,hd⟩
  ·refine⟨⟨o,I.kIn p o hk,hc⟩,fun a e=>?_⟩;cases e;exact⟨o,I.kIn _ o hk,hd⟩
  ·have z:∃o,s.heap.get? p=some o∧o.ExactDict:=by
    rcases hk with⟨kvs,hk⟩|⟨kvs,hk⟩
    ·obtain⟨_,_,_,_,o,_,_,e,ex,_⟩:=I.hok p _ hk;exact⟨o,e,ex⟩
    ·obtain⟨_,_,_,_,o,_,_,e,ex,_⟩:=I.hok p _ hk;exact⟨o,e,ex⟩
   obtain⟨o,e,ex⟩:=z;refine⟨⟨o,e,ex.1⟩,fun a e2=>?_⟩;cases e2;exact⟨o,e,ex.2.1⟩
  ·obtain⟨o,_,_,_,e,ex,_⟩:=I.hok p _ hk;refine⟨⟨o,e,ex.1⟩,fun a e2=>?_⟩;cases e2;exact⟨o,e,ex.2.1⟩
 |_=>exact bo ty
def xqP(K:ah)(T:String)(r:V→List V→Hp→VK→Prop)(to:TE):TE:=fun σ H Q=>to σ H fun x H1=>tyV K T x H1∧r x [] H1 Q
def tBM(K:ah)(T:String)(r:V→List V→Hp→VK→Prop)(to:TE)(t:TA):TE:=fun σ H Q=>to σ H fun x H1=>tyV K T x H1∧t σ H1 fun xs H2=>r x xs H2 Q
variable {o e:Expr} {es:List Expr} {to:TE} {t:TA} {name:Str} {apos cpos:Pos} {T id:String} {r:V→List V→Hp→VK→Prop}
theorem xpg(pa:PlainAttrs T)(slot:Slot T name id)(hty:typeOf (.builtin id)=pure (.type "method_descriptor"))(hm:MtR X id r)(ho:PE X o to)
  (hbase:f7 o name X.env (eval o X.env)=eval o X.env:=by rfl) (hline:(apos.endLine==cpos.line)=true:=by rfl):PE X (.Call (.Attribute o name apos) [] [] cpos) (xqP X.K T r to):=by
 intro pins s σ H Q I h;refine wpAny_Call_method0_late hbase hline (thn (ho pins s σ H _ I h) fun v s1 ⟨x,H1,I1,r1,ty,q1⟩=>?_);obtain⟨h1,h2⟩:=xlh I1 r1 ty;exact⟨T,id,pa,slot,hty,h1,h2,fZ rfl (PySem.evalArgs_none (hm pins s1 σ H1 x [] v [] Q I1 r1 .nil q1))⟩
theorem zK(pa:PlainAttrs T)(slot:Slot T name id)(hty:typeOf (.builtin id)=pure (.type "method_descriptor"))(hm:MtR X id r)(ho:PE X o to)(ha:PA X (e::es) t)
  (hbase:f7 o name X.env (eval o X.env)=eval o X.env:=by rfl)
  (hfew:((bN cpos (aI (e::es) X.env)).all (fun x=> !x.1)&&(gL cpos (fj [] X.env)).all (fun x=>x.1.isSome)
   &&decide ((e::es).length+([]:List Keyword).length+(if ([]:List Keyword).isEmpty then 0 else 1)<30))=true:=by rfl)
  (hline:(apos.endLine==cpos.line)=true:=by rfl) (hs:aI (e::es) X.env=(false,eval e X.env)::aI es X.env:=by rfl) (hplain:(bN cpos (aI es X.env)).any (·.1)=false:=by rfl):
  PE X (.Call (.Attribute o name apos) (e::es) [] cpos) (tBM X.K T r to t):=by
 intro pins s σ H Q I h;refine wpAny_Call_method_late hbase hfew hline rfl (thn (ho pins s σ H _ I h) fun v s1 ⟨x,H1,I1,r1,ty,q1⟩=>?_);obtain⟨h1,h2⟩:=xlh I1 r1 ty;refine⟨T,id,pa,slot,hty,h1,h2,?_⟩;have hA:=ha cpos pins s1 σ H1 _ I1 q1;rw[hs]at hA⊢;refine fZ (by show(false||(bN cpos (aI es X.env)).any (·.1))=false;rw[hplain]<;> rfl) (i8 ?_);exact thn hA fun us s2 ⟨vs,H2,I2,r2,q2⟩=>hm pins s2 σ H2 x vs v us Q I2 r1 r2 q2
end
end L2
namespace L2
open PySem PySem.Spec PyProof.Rows
def MtM(X:Cx)(id:String)(r:V→List V→Hp→VK→Prop):Prop:=
 ∀(pins:List (Addr×Obj)) (s:ae) (σ:St) (H:Hp) (x:V) (xs:List V) (v:Value) (us:List Value) (Q:VK),Inv X pins σ H s→RelV x v→Vals xs us→r x xs H Q→
  wpAny (model X.prog X.w) X.A (call (.builtin id) (v::us)) (EP X pins σ Q) X.xe s
theorem Vals.one:∀{x:V} {us:List Value},Vals [x] us→∃u,us=[u]∧RelV x u
 |_,_,.cons r .nil=>⟨_,rfl,r⟩
theorem Vals.two:∀{x y:V} {us:List Value},Vals [x,y] us→∃u v,us=[u,v]∧RelV x u∧RelV y v
 |_,_,_,.cons r (.cons q .nil)=>⟨_,_,rfl,r,q⟩
theorem Vals.zero:∀{us:List Value},Vals [] us→us=[]
 |_,.nil=>rfl
theorem Vals.dropLast{xs:List V}{us:List Value}(h:Vals xs us):Vals xs.dropLast us.dropLast:=by
 induction h with
 |nil=>exact .nil
 |cons r t ih=>
  cases t with
  |nil=>exact .nil
  |cons q t'=>exact .cons r ih
theorem Vals.reverse{xs:List V}{us:List Value}(h:Vals xs us):Vals xs.reverse us.reverse:=by
 induction h with
 |nil=>exact .nil
 |cons r t ih=>rw[List.reverse_cons,List.reverse_cons];exact Vals.append ih (.cons r .nil)
theorem Vals.rep{xs:List V}{us:List Value}(h:Vals xs us):∀k:Nat,Vals (bw k xs).flatten (bw k us).flatten
 |0=>.nil
 |k+1=>by
  rw[d8,d8,du,du];exact Vals.append h (Vals.rep h k)
theorem xjW{α:Type}(l:List α):l.eraseIdx (l.length - 1)=l.dropLast:=by
 induction l with
 |nil=>rfl
 |cons a r ih=>
  cases r with
  |nil=>rfl
  |cons b r=>
   have e:(a::b::r).length - 1=((b::r).length - 1)+1:=by
    have h1:(a::b::r).length=r.length+2:=rfl;have h2:(b::r).length=r.length+1:=rfl;lia
   rw[e,List.eraseIdx_cons_succ,ih]
   all_goals rfl
theorem foldl_rep(its:List Value):∀(k:Nat) (acc:List Value),
  List.foldl (fun x1 x2=>x1++x2) acc.toArray (bw k its.toArray)=(acc++(bw k its).flatten).toArray
 |0,acc=>by simp
 |k+1,acc=>by
  have e:acc.toArray++its.toArray=(acc++its).toArray:=by simp
  have e2:(acc++its)++(bw k its).flatten=acc++(bw (k+1) its).flatten:=by
   rw[d8,du,cJ]
  rw[←e2,←foldl_rep its k (acc++its),←e,d8,List.foldl_cons]
section
variable {X:Cx} {pins:List (Addr×Obj)} {σ:St} {H:Hp} {s:ae} {l b:Addr} {xs ys zs:List V}
theorem Inv.lset{its its':List Value}{n:Nat}{f:Array Value→Array Value}{t':Nat}(I:Inv X pins σ H s)(hH:H l=some (.lst xs))
  (e:s.heap.get? l=some {cls:=.type "list",data:=.seq its.toArray n}) (hf:f its.toArray=its'.toArray) (hv:Vals ys its') (hz:ys.length≤aQ):
  Inv X pins σ (upd H l (.lst ys)) {s with heap:=s.heap.update l (aV f),toks:=t'}:=by
 have q:=PySem.IsL.update e f;rw[hf]at q;refine I.write (x:=l) (e:=l) (by rw[hH];exact trivial) (.inl rfl) (fun b' u hb hu=>(aZ s.heap (aV f) (aR hb)).trans hu) ⟨_,q⟩ ?_;exact⟨hz,its',_,hv,q⟩
theorem Inv.lnew{its:List Value}{t':Nat}(I:Inv X pins σ H s)(hv:Vals ys its)(hz:ys.length≤aQ):
  Inv X pins σ (upd H s.heap.objs.size (.lst ys)) {s with heap:=s.heap.push {cls:=.type "list",data:=.seq its.toArray},toks:=t'}:=
 I.laid (fun _ _ q=>ag _ q) (ak _) ⟨hz,its,0,hv,aA _ rfl⟩
theorem Inv.fresh(I:Inv X pins σ H s):H s.heap.objs.size=none:=I.hok.fresh (ak _)
theorem Inv.lstM(I:Inv X pins σ H s)(hH:H l=some (.lst xs)):xs.length≤aQ∧∃(its:List Value) (n:Nat),Vals xs its∧xs.length=its.length∧s.heap.get? l=some {cls:=.type "list",data:=.seq its.toArray n}:=by
 obtain⟨z,its,n,r,e⟩:=I.hok l _ hH;exact⟨z,its,n,r,r.length,e⟩
theorem xhu{n:Nat}(h:n≤aQ):dX n=false:=by
 unfold dX;exact decide_eq_false (by lia)
end
section
variable {X:Cx}
def xn0:V→List V→Hp→VK→Prop:=fun x vs H Q=>∃l xs y,x= .ref l∧vs=[y]∧H l=some (.lst xs)∧xs.length<aQ∧Q .non (upd H l (.lst (xs++[y])))
theorem yt:MtM X "list.append" xn0:=by
 intro pins s σ H x vs v us Q I rx rv h;obtain⟨l,xs,y,rfl,rfl,hH,hz,q⟩:=h;cases rx;obtain⟨u,rfl,ru⟩:=rv.one;obtain⟨z,its,n,r,hl,e⟩:=I.lstM hH;refine fU F.slot_list_append ⟨_,e,rfl⟩ F.entry_list_append (F.args_list_append_2 _ _) (PySem.list_append l its.toArray n u (by rw[ay];lia)) ⟨e,?_⟩;refine⟨.non,_,I.lset (its':=its++[u]) hH e (by simp) (r.append (.cons ru .nil)) ?_,rfl,q⟩;rw[av,bB];lia
def xn1:V→List V→Hp→VK→Prop:=fun x vs H Q=>∃l b xs zs,x= .ref l∧vs=[.ref b]∧H l=some (.lst xs)∧H b=some (.lst zs)∧xs.length+zs.length≤aQ∧Q .non (upd H l (.lst (xs++zs)))
theorem xcD:MtM X "list.extend" xn1:=by
 intro pins s σ H x vs v us Q I rx rv h;obtain⟨l,b,xs,zs,rfl,rfl,hH,hB,hz,q⟩:=h;cases rx;obtain⟨u,rfl,ru⟩:=rv.one;cases ru;obtain⟨z,its,n,r,hl,e⟩:=I.lstM hH;obtain⟨z2,its2,n2,r2,hl2,e2⟩:=I.lstM hB;have hsz:its.toArray.size+its2.toArray.size≤aQ:=by rw[ay,ay];lia
 have hlong:¬(!its.toArray.isEmpty&&dX (its.toArray.size+its2.toArray.size))=true:=by
  rw[xhu hsz,Bool.and_false];exact aC
 refine fU F.slot_list_extend ⟨_,e,rfl⟩ F.entry_list_extend (F.args_list_extend_2 _ _)
  (AutoSeq1.list_extend_list_list_0 l its.toArray n b its2.toArray n2 hlong (by rw[ay];lia) (by lia)) ⟨e,e2,?_⟩
 refine⟨.non,_,I.lset (its':=its++its2) hH e (by simp) (r.append r2) ?_,rfl,q⟩;rw[av];lia
def xqQ:V→List V→Hp→VK→Prop:=fun x vs H Q=>∃l xs y,x= .ref l∧vs=[]∧H l=some (.lst xs)∧xs[xs.length - 1]? =some y∧Q y (upd H l (.lst xs.dropLast))
theorem xph:MtM X "list.pop" xqQ:=by
 intro pins s σ H x vs v us Q I rx rv h;obtain⟨l,xs,y,rfl,rfl,hH,hy,q⟩:=h;cases rx;have hus:=rv.zero;subst hus;obtain⟨z,its,n,r,hl,e⟩:=I.lstM hH;obtain⟨u,hu,ru⟩:=r.get hy;have hy':its.toArray[its.toArray.size - 1]? =some u:=by
  show its.toArray[its.length - 1]? =some u;rw[←gr,←hl];exact hu
 refine fU F.slot_list_pop ⟨_,e,rfl⟩ F.entry_list_pop (F.args_list_pop_1 _) (MeetsSeq.list_pop_last l its.toArray n u hy' (by rw[ay];lia)) ⟨e,?_⟩;refine⟨y,_,I.lset (its':=its.dropLast) hH e ?_ r.dropLast ?_,ru,q⟩
 ·show its.toArray.eraseIdxIfInBounds (its.toArray.size - 1)=its.dropLast.toArray;rw[ay,List.eraseIdxIfInBounds_toArray,xjW]
 ·rw[List.length_dropLast];lia
def xqR:R2:=fun x y H Q=>∃l b xs zs,x= .ref l∧y= .ref b∧H l=some (.lst xs)∧H b=some (.lst zs)∧xs.length+zs.length≤aQ∧∀p,H p=none→Q (.ref p) (upd H p (.lst (xs++zs)))
theorem xbp:OpR X (cQ .Add) xqR:=by
 intro pins s σ H x y v u Q I rx ry h;obtain⟨l,b,xs,zs,rfl,rfl,hH,hB,hz,q⟩:=h;cases rx;cases ry;obtain⟨z,its,n,r,hl,e⟩:=I.lstM hH;obtain⟨z2,its2,n2,r2,hl2,e2⟩:=I.lstM hB;refine PySem.P.add_list e e2 ?_ (by rw[ay,ay];lia);have ea:its.toArray++its2.toArray=(its++its2).toArray:=by simp
 rw[ea];exact⟨.ref _,_,I.lnew (t':=s.toks) (r.append r2) (by rw[av];lia),rfl,q _ I.fresh⟩
def xqS:R2:=fun x y H Q=>∃l k xs,x= .ref l∧y= .int k∧H l=some (.lst xs)∧-(2^63)≤k∧k<2^63∧xs.length*k.toNat≤aQ∧
 ∀p,H p=none→Q (.ref p) (upd H p (.lst (bw k.toNat xs).flatten))
theorem len_rep{α:Type}(xs:List α)(k:Nat):(bw k xs).flatten.length=k*xs.length:=by
 induction k with
 |zero=>simp
 |succ k ih=>rw[d8,du,av,ih,eS,Nat.add_comm]
theorem xpi:OpR X (cQ .Mult) xqS:=by
 intro pins s σ H x y v u Q I rx ry h;obtain⟨l,k,xs,rfl,rfl,hH,h1,h2,hz,q⟩:=h;cases rx;obtain⟨t,rfl⟩:=ry;obtain⟨z,its,n,r,hl,e⟩:=I.lstM hH;have hlen:its.toArray.size*k.toNat≤aQ:=by rw[ay,←hl];exact hz
 have hcap:¬its.toArray.size*k.toNat > (2^63 - 1) / 8:=by
  have:(aQ:Nat)≤(2^63 - 1) / 8:=by decide
  lia
 have hfit:¬(!Builtin.List.listFitsIndex k)=true:=by
  rw[fitsIndex_both h1 h2];exact aC
 have hlong:¬dX (its.toArray.size*k.toNat)=true:=by
  rw[xhu hlen];exact aC
 have hnew:List.foldl (fun x1 x2=>x1++x2) #[] (bw (if its.toArray.isEmpty=true then 0 else k.toNat) its.toArray)=(bw k.toNat its).flatten.toArray:=by
  have f0:∀m:Nat,List.foldl (fun x1 x2=>x1++x2) #[] (bw m its.toArray)=(bw m its).flatten.toArray:=fun m=>by
   have:=foldl_rep its m [];rw[fC]at this;exact this
  rw[f0];cases its with
  |nil=>simp
  |cons a r'=>rw[if_neg (by simp)]
 refine wpAny_binaryOp_repeat_ref (T:="list") (U:="int") (by decide) ⟨_,e,rfl⟩ (fun s'=>typeIs_int s' k t) noFill_list_mul F.fills_int_mul F.slot_int_rmul repeat_list F.slot_int_index.lookup
  (fU F.slot_int_rmul (typeIs_int s k t) F.entry_int_rmul (F.args_int_rmul_2 _ _) (int___rmul___int_list k t l its.toArray n)
   ⟨e,rfl,⟨_,e,rfl⟩,fU F.slot_list_mul ⟨_,e,rfl⟩ F.entry_list_mul (F.args_list_mul_2 _ _) (AutoListH.list___mul___list_int_3 l its.toArray n k t hfit hcap hlong) ⟨e,?_⟩⟩)
 rw[hnew];exact⟨.ref _,_,I.lnew (t':=s.toks) (r.rep k.toNat) (by rw[len_rep,il];exact hz),rfl,q _ I.fresh⟩
end
section
variable {prog:aG} {w:World} {A:aL} {E:Value→ae→Prop} {s:ae}
set_option maxRecDepth 100000 in
end
section
variable {X:Cx}
end
end L2
namespace L2
open PySem PySem.Spec PyProof.Rows
section
variable {κ:Type} [DecidableEq κ]
def zI(kvs:List (κ×V))(k:κ):Option V:=(kvs.find? fun kv=>decide (kv.1=k)).map (·.2)
def jK(kvs:List (κ×V))(k:κ):List (κ×V):=kvs.filter fun kv=>decide (kv.1≠k)
theorem xqT{k:κ}:zI ([]:List (κ×V)) k=none:=rfl
theorem xhv{p:κ×V}{r:List (κ×V)}{k:κ}(e:p.1=k):zI (p::r) k=some p.2:=by simp[zI,eE,e]
theorem xhw{p:κ×V}{r:List (κ×V)}{k:κ}(e:¬p.1=k):zI (p::r) k=zI r k:=by simp[zI,eE,e]
theorem uo.isSome_eq{o:Option V}{u:Option Value}(r:uo o u):o.isSome=u.isSome:=by
 cases o with
 |none=>cases u with
  |none=>rfl
  |some _=>exact(show False from r).elim
 |some _=>cases u with
  |none=>exact(show False from r).elim
  |some _=>rfl
theorem KV.val{kvs:List (κ×V)}{vs:List (κ×Value)}(r:KV kvs vs)(k:κ):uo (zI kvs k) (ib vs k):=by
 unfold KV at r
 induction r with
 |nil=>exact b0
 | @cons p q ps qs h t ih=>
  obtain⟨h1,h2⟩:=h
  by_cases e:p.1=k
  ·have e':q.1=k:=h1.symm.trans e;have b:ib (q::qs) k=some q.2:=by simp[ib,eE,e']
   rw[xhv e,b];exact h2
  ·have e':¬q.1=k:=fun z=>e (h1.trans z);have b:ib (q::qs) k=ib qs k:=by simp[ib,eE,e']
   rw[xhw e,b];exact ih
theorem KV.drop{kvs:List (κ×V)}{vs:List (κ×Value)}(r:KV kvs vs)(k:κ):KV (jK kvs k) (without vs k):=by
 unfold KV at r⊢;unfold jK without
 induction r with
 |nil=>exact .nil
 | @cons p q ps qs h t ih=>
  obtain⟨h1,h2⟩:=h;rw[gf,gf]
  by_cases e:p.1=k
  ·have a:¬decide (p.1≠k)=true:=by simp[e]
   have b:¬decide (q.1≠k)=true:=by simp[h1.symm.trans e]
   rw[if_neg a,if_neg b];exact ih
  ·have e':¬q.1=k:=fun z=>e (h1.trans z);have a:decide (p.1≠k)=true:=by simp[e]
   have b:decide (q.1≠k)=true:=by simp[e']
   rw[if_pos a,if_pos b];exact .cons ⟨h1,h2⟩ ih
theorem KV.length{kvs:List (κ×V)}{vs:List (κ×Value)}(r:KV kvs vs):kvs.length=vs.length:=Paired.length r
theorem xmH(kvs:List (κ×V))(k:κ):(jK kvs k).length≤kvs.length:=b8 _ _
end
theorem xjX{P:aG}{w:World}{k:Key}{u:Value}(r:RelV (kV k) u):(xS P w).is k u=true:=by
 cases k with
 |inl i=>obtain⟨t,e⟩:=(show∃t,u=eA i t from r);subst e;exact xiC P w i t
 |inr x=>obtain⟨t,e⟩:=(show∃t,u=gn x t from r);subst e;exact xiD P w x t
theorem xgt{P:aG}{w:World}:∀{ks:List Key} {us:List Value},Vals (ks.map kV) us→ItemsAre (xS P w) ks us
 |[],_,r=>by rw[kE]at r;cases r;exact .nil
 |k::ks,_,r=>by
  rw[bQ]at r;cases r with
  |cons h t=>exact .cons (xjX h) (xgt t)
abbrev KT(H:Hp):List (List Key×V)→List (List Key×Addr×Value)→Prop:=Paired fun p q=>p.1=q.1∧H q.2.1=some (.tup (p.1.map kV))∧RelV p.2 q.2.2
theorem KT.val{H:Hp}{kvs:List (List Key×V)}{xs:List (List Key×Addr×Value)}(r:KT H kvs xs)(k:List Key):uo (zI kvs k) ((atKey xs k).map (·.2)):=by
 induction r with
 |nil=>exact b0
 | @cons p q ps qs h t ih=>
  obtain⟨h1,_,h2⟩:=h
  by_cases e:p.1=k
  ·have e':q.1=k:=h1.symm.trans e;have b:atKey (q::qs) k=some q.2:=by simp[atKey,eE,e']
   rw[xhv e,b];exact h2
  ·have e':¬q.1=k:=fun z=>e (h1.trans z);have b:atKey (q::qs) k=atKey qs k:=by simp[atKey,eE,e']
   rw[xhw e,b];exact ih
section
variable {P:aG} {w:World} {H:Hp} {h:Heap} {a:Addr}
theorem xnC{u:HO}(ok:HOk P w H h)(e:Rd H a u):xE P w H h a u:=e.ok ok
theorem xhe{kvs:List (Key×V)}(ok:HOk P w H h)(e:Rd H a (.dK kvs)):kvs.length≤aQ∧(a==eY)=false∧∃vs,KV kvs vs∧h.DictOf (xS P w) a vs:=
 show xE P w H h a (.dK kvs)from xnC ok e
theorem xqa{kvs:List (Key×V)}(ok:HOk P w H h)(e:H a=some (.dK kvs)):kvs.length≤aQ∧(a==eY)=false∧∃vs,KV kvs vs∧h.DictOf (xS P w) a vs:=xhe ok (.inl e)
theorem xli{ks:List Key}(ok:HOk P w H h)(e:H a=some (.tup (ks.map kV))):(tupleKind (xS P w)).is h ks a:=by
 obtain⟨_,its,r,o,h1,h2,n,h3⟩:=(show xE P w H h a (.tup (ks.map kV))from ok a _ e);exact⟨o,its.toArray,n,h1,h2,h3,by simpa using xgt r⟩
theorem xnD{kvs:List (List Key×V)}(ok:HOk P w H h)(e:Rd H a (.dT kvs)):kvs.length≤aQ∧(a==eY)=false∧
  ∃xs,KT H kvs xs∧h.DictOfH (tupleKind (xS P w)) a xs:=by
 obtain⟨z,y,xs,r,o,es,ep,h1,h2,h3,h4,h5⟩:=(show xE P w H h a (.dT kvs)from xnC ok e);refine⟨z,y,xs,r,o,es,ep,h1,h2,h3,h4,fun x hx=>?_,h5⟩;have all:∀{l:List (List Key×V)} {m:List (List Key×Addr×Value)},KT H l m→∀x∈m,(tupleKind (xS P w)).is h x.1 x.2.1:=by
  intro l m q
  induction q with
  |nil=>intro x hx;exact nomatch hx
  | @cons p q ps qs hq t ih=>
   intro x hx;rcases ar.mp hx with e|hx
   ·subst e;exact xli ok (by rw[←hq.1];exact hq.2.1)
   ·exact ih x hx
 exact all r x hx
end
def xpj(H:Hp)(a:Addr)(y:V)(r:Option V):Prop:=
 (∃kvs k,Rd H a (.dK kvs)∧y=kV k∧r=zI kvs k)∨∃kvs k b,Rd H a (.dT kvs)∧y= .ref b∧H b=some (.tup (k.map kV))∧r=zI kvs k
section
variable {X:Cx} {pins:List (Addr×Obj)} {σ:St} {H:Hp} {s:ae} {a:Addr} {y v:V} {u r:Value} {o:Option V} {A:aL} {E:Value→ae→Prop}
theorem Inv.big(I:Inv X pins σ H s):eY<s.heap.objs.size:=by
 have h:bz<s.heap.objs.size:=(I.mod.glob.keeps I.bk).lt;exact Nat.lt_trans (by decide) h
theorem xqU{Q:Value→ae→Prop}(hu:A.units+1<cLine)(I:Inv X pins σ H s)(g:xpj H a y o)(ry:RelV y u)(h:∀s',Inv X pins σ H s'→Q (.bool o.isSome) s'):
  wpAny (model X.prog X.w) A (bK .In u (.ref a)) Q E s:=by
 rcases g with⟨kvs,k,e,ey,l⟩|⟨kvs,k,b,e,ey,eb,l⟩
 ·subst ey;obtain⟨z,hd,vs,rel,dd⟩:=xhe I.hok e;refine wpAny_in_of (xjX ry) hd dd.mapOf ?_;rw[←(rel.val k).isSome_eq,←l];exact h _ (I.tok _)
 ·subst ey;cases (show u=aT b from ry);obtain⟨z,hd,xs,rel,dd⟩:=xnD I.hok e;refine wpAny_in_heap (tupleKind_room_in1 hu) (xli I.hok eb) hd dd ?_;have q:=(rel.val k).isSome_eq;rw[kL]at q;rw[←q,←l];exact h _ (I.tok _)
theorem xn2{h':Heap}{t':Nat}{ob:HO}(I:Inv X pins σ H s)(mu:Mut (H a))(hs:ij a s.heap h')(he:∃q,h'.get? a=some q)(new:xE X.prog X.w (upd H a ob) h' a ob):
  Inv X pins σ (upd H a ob) {s with heap:=h',toks:=t'}:=
 I.write (x:=a) (e:=a) mu (.inl rfl) (fun b q hb z=>(hs.2 b hb).trans z) he new
theorem xlj{P:aG}{w:World}{H':Hp}{h':Heap}{kvs:List (Key×V)}{vs:List (Key×Value)}(z:kvs.length≤aQ)(hd:(a==eY)=false)(rel:KV kvs vs)(dd:h'.DictOf (xS P w) a vs):
  xE P w H' h' a (.dK kvs):=⟨z,hd,vs,rel,dd⟩
end
section
variable {X:Cx} {pins:List (Addr×Obj)} {σ:St} {H:Hp} {s:ae} {a:Addr} {kvs:List (Key×V)} {k:Key} {u:Value} {A:aL} {E:Value→ae→Prop}
theorem xqb{v:V}{more:List Value}{Q:Value→ae→Prop}(I:Inv X pins σ H s)(e:H a=some (.dK kvs))(ry:RelV (kV k) u)(l:zI kvs k=some v)(hm:more=[]∨∃x,more=[x])
  (h:∀w' s',Inv X pins σ (upd H a (.dK (jK kvs k))) s'→RelV v w'→Q w' s'):wpAny (model X.prog X.w) A (call (.builtin "dict.pop") (.ref a::u::more)) Q E s:=by
 obtain⟨z,hd,vs,rel,dd⟩:=xqa I.hok e;obtain⟨w',hw,rw'⟩:=uo.some_of (v:=v) (o:=ib vs k) (by rw[←l];exact rel.val k);have hp:(keyPart u).isSome=true:=by
  cases k with
  |inl i=>obtain⟨t,q⟩:=(show∃t,u=eA i t from ry);subst q;rfl
  |inr x=>obtain⟨t,q⟩:=(show∃t,u=gn x t from ry);subst q;rfl
 have ha:argsOk "dict.pop" ⟨.ref a::u::more,[]⟩:=by
  rcases hm with q|⟨x,q⟩
  ·subst q;exact PySem.F.args_dict_pop_2 _ _
  ·subst q;exact PySem.F.args_dict_pop_3 _ _ _
 refine call_meetsIn PySem.F.slot_dict_pop dd.typeIs PySem.F.entry_dict_pop ha (meets_dict_pop_there (xS X.prog X.w) a (xjX ry) more hm hp)
  ⟨vs,w',dd,by rw[←rel.length];exact z,hw,fun h' dd' hs=>h w' _ ?_ rw'⟩
 have he:∃q,h'.get? a=some q:=let⟨q,_,_,hq,_⟩:=dd';⟨q,hq⟩;exact xn2 I (by rw[e];exact b0) hs he (xlj (bg (xmH kvs k) z) hd (rel.drop k) dd')
theorem xqc{Q:Value→ae→Prop}(I:Inv X pins σ H s)(e:Rd H a (.dK kvs))(h:∀t s',Inv X pins σ H s'→Q (.int kvs.length t) s'):wpAny (model X.prog X.w) A (call (.builtin "len") [.ref a]) Q E s:=by
 obtain⟨z,hd,vs,rel,dd⟩:=xhe I.hok e;refine call_len_dict hd dd (by rw[←rel.length];rw[ax]at z;lia) ?_;rw[←rel.length];exact h _ _ (I.tok _)
end
def xqV(ty td:TE):TE:=fun σ H Q=>ty σ H fun y H1=>td σ H1 fun x H2=>∃a o,x= .ref a∧xpj H2 a y o∧Q (.bl o.isSome) H2
section
variable {X:Cx} {o i e value:Expr} {pos pos' tpos:Pos} {td ty tv:TE}
theorem xlk(hu:X.A.units+1<cLine)(hi:PE X i ty)(ho:PE X o td):PC X .In i o (xqV ty td):=by
 intro pins s σ H Q I h;refine thn (hi pins s σ H _ I h) fun iv s1 ⟨y,H1,I1,ry,q1⟩=>thn (ho pins s1 σ H1 _ I1 q1) fun u s2 ⟨x,H2,I2,rx,a,ov,ex,g,q2⟩=>?_;subst ex;obtain rfl:u=aT a:=rx;exact xqU hu I2 g ry fun s3 I3=>⟨.bl ov.isSome,H2,I3,rfl,q2⟩
end
section
variable {X:Cx} {pos:Pos}
end
structure M1(X:Cx)(o:Expr)(m:Str)(apos:Pos)(e:Expr)(cpos:Pos):Prop where
 base:f7 o m X.env (eval o X.env)=eval o X.env
 few:((bN cpos (aI [e] X.env)).all (fun x=> !x.1)&&(gL cpos (fj [] X.env)).all (fun x=>x.1.isSome)
  &&decide (([e]:List Expr).length+([]:List Keyword).length+(if ([]:List Keyword).isEmpty then 0 else 1)<30))=true
 line:(apos.endLine==cpos.line)=true
 trees:bN cpos (aI [e] X.env)=[(false,eval e X.env)]
def IsD(H:Hp)(a:Addr):Prop:=(∃kvs,Rd H a (.dK kvs))∨∃kvs,Rd H a (.dT kvs)
theorem xpk{X:Cx}{pins:List (Addr×Obj)}{σ:St}{H:Hp}{s:ae}{a:Addr}(I:Inv X pins σ H s)(d:IsD H a):
  s.TypeIs (.ref a) "dict"∧(∀b,aT a= .ref b→∃ob,s.heap.get? b=some ob∧ob.dict=none)∧(a==eY)=false:=by
 rcases d with⟨kvs,e⟩|⟨kvs,e⟩
 ·obtain⟨_,hd,vs,_,dd⟩:=xhe I.hok e;refine⟨dd.typeIs,fun b q=>?_,hd⟩;cases q;obtain⟨ob,_,_,h1,h2,_⟩:=dd;exact⟨ob,h1,h2.2.1⟩
 ·obtain⟨_,hd,xs,_,dd⟩:=xnD I.hok e;refine⟨dd.typeIs,fun b q=>?_,hd⟩;cases q;obtain⟨ob,_,_,h1,h2,_⟩:=dd;exact⟨ob,h1,h2.2.1⟩
section
variable {X:Cx} {pins:List (Addr×Obj)} {σ:St} {H:Hp} {s:ae} {a:Addr} {y d:V} {u r:Value} {o:Option V} {A:aL} {E:Value→ae→Prop}
end
def xpl(td ty:TE):TE:=fun σ H Q=>td σ H fun x H1=>∃a,x= .ref a∧IsD H1 a∧ty σ H1 fun y H2=>∃kvs k v,H2 a=some (.dK kvs)∧y=kV k∧zI kvs k=some v∧Q v (upd H2 a (.dK (jK kvs k)))
section
variable {X:Cx} {o e f:Expr} {apos cpos:Pos} {td ty tx:TE}
theorem xmI(ho:PE X o td)(he:PE X e ty)(m:M1 X o "pop" apos e cpos):PE X (.Call (.Attribute o "pop" apos) [e] [] cpos) (xpl td ty):=by
 intro pins s σ H Q I h;refine wpAny_Call_method m.base m.few m.line PySem.F.plainAttrs_dict PySem.F.slot_dict_pop PySem.F.type_dict_pop (thn (ho pins s σ H _ I h) fun u s1 ⟨x,H1,I1,rx,a,ex,d,q1⟩=>?_);subst ex;obtain rfl:u=aT a:=rx;obtain⟨t1,t2,_⟩:=xpk I1 d;refine⟨t1,t2,?_⟩;rw[m.trees];refine fZ rfl (i8 (fK (thn (he pins s1 σ H1 _ I1 q1) fun iv s2 ⟨y,H2,I2,ry,kvs,k,v,ea,ey,l,q2⟩=>fW ?_)));subst ey;exact xqb I2 ea ry l (.inl rfl) fun w' s3 I3 rw'=>⟨v,_,I3,rw',q2⟩
end
section
variable {X:Cx} {pins:List (Addr×Obj)} {σ:St} {H:Hp} {s:ae} {a:Addr} {kvs:List (Key×V)} {A:aL} {E:Value→ae→Prop}
end
section
variable {X:Cx} {pins:List (Addr×Obj)} {σ:St} {H:Hp} {s:ae} {a:Addr} {y:V} {u:Value} {A:aL} {E:Value→ae→Prop}
end
end L2
namespace Att
open PySem PySem.W PySem.Calls PyProof.Rows
theorem xeM{P:Params}{h:Heap}:∀(ns:List Int) (vs:List Value),WellAll P h vs (ns.map WData.int)→cE vs ns:=by
 intro ns
 induction ns with
 |nil=>
  intro vs w;rw[kE]at w;cases w;exact .nil
 |cons n ns ih=>
  intro vs w;rw[bQ]at w;cases w with
  |cons a b=>
   cases a;exact .cons _ _ (ih _ b)
theorem xll{l:OpenLaw}{n:Nat}(hn:l.most=some n){P:Params}{h:Heap}{args:List WData}{vals:List Value}
  (hpre:l.row.toRowW.claim.pre args=true) (hwl:WellAll P h vals args):
  ∃a vs ns,vals=[aT a]∧args=[WData.list (ns.map WData.int)]∧h.get? a=some {cls:=.type "list",data:=.seq vs.toArray}∧cE vs ns∧ns.length≤n:=by
 have hsh:WShape.hasAll [] args [.list .int]=true:=(pre_splitW hpre).1;have hc:l.pre.holds [] {args:=args}=true:=(pre_splitW hpre).2;obtain⟨d,r,rfl,h1,h2⟩:=hasAllW_cons hsh;obtain rfl:=hasAllW_nil h2;obtain⟨xs,rfl,h3⟩:=hasW_list h1;obtain⟨ns,rfl⟩:=items_int h3;have hlen:ns.length≤n:=by
  unfold OpenLaw.pre at hc;have h4:(WTm.not (.lt (.lit (.int (n:Int))) (.len (.arg 0)))).holds [] {args:=[.list (ns.map .int)]}=true:=by
   have h4:=(holds_andW hc).1;rw[hn]at h4;exact h4
  have h5:=condW_of h4 (w_not (w_lt w_lit (w_len_list (w_arg rfl))));rw[af]at h5;refine Nat.le_of_not_lt fun q=>?_;have q':(n:Int)<((ns.length:Nat):Int):=by omega
  first
   |(rw[decide_eq_true q']at h5;exact absurd h5 (by decide))
   |(simp at h5;omega)
 cases hwl with
 |cons w1 w2=>
  cases w2;cases w1 with
  |list ho hall=>exact⟨_,_,ns,rfl,rfl,ho,xeM ns _ hall,hlen⟩
theorem xlm(l:OpenLaw)(args:List WData):l.row.toRowW.claim.post args (.bool true) args=true:=
 postW_of (r:=l.row.toRowW) (X:=(true==true))
  (show WShape.has [] (.bool true) .bool=true by first|rfl|decide|simp[WShape.has,WShape.arms,WShape.armsAll])
  (show(WTm.eq .res (.lit (.bool true))).value [] {args:=args,res:=some (.bool true),after:=args}=some (.bool (true==true))from w_eq_bool (w_res rfl) w_lit) rfl
theorem xiF{l:OpenLaw}{n:Nat}{q:aG}{loose:List Str}{XP:(Str→Option Value)→Heap→Prop}{YP:World→Heap→Prop}{d:DefRec}
  (hn:l.most=some n) (hdf:d.params.defaults=[])
  (call:∀(w:World) (s₀ s₁:ae) (mg mb:Str→Option Value) (fa:Addr) (o:Obj) (pm cd doc:Value) (a:Addr) (vs:List Value) (ns:List Int),
   Ground q loose [] XP w s₀ mg mb s₁.heap→YP w s₁.heap→
   s₁.heap.get? fa=some o→o.data= .func (docDef d.name d.params d.body d.scope pm cd doc)→s₁.heap.CodeRec cd d.name→mg d.name=some (.ref fa)→
   s₁.heap.get? a=some {cls:=.type "list",data:=.seq vs.toArray}→cE vs ns→ns.length≤n→s₁.gens=#[]→
   cD (model l.prog w) ic (.call (.ref fa) ⟨[.ref a],[]⟩) (fun r s'=>r= .ok (.ret (.bool true))∧OldK s₁.heap s'.heap∧s'.os=s₁.os∧ef s'.gens) s₁):
  WalkO q loose XP YP l.row.toRowW d [] (fun f vs=>PySem.call f vs):=by
 intro w s₀ s₁ mg mb G Y fa o pm cd doc dV kV ho hd hcd hD hmg hg args vals as hpre hlay hrd hwl hlo;obtain rfl:dV= .none:=Dflts.none hD hdf;obtain rfl:kV= .none:=Dflts.noKw hD;obtain⟨a,vs,ns,rfl,rfl,hobj,hints,hlen⟩:=xll hn hpre hwl;refine enter_call (cT (call w s₀ s₁ mg mb fa o pm cd doc a vs ns G Y ho (fd_plain hd) hcd hmg hobj hints hlen hg) fun r s' hq=>?_);obtain⟨rfl,h2,h3,h4⟩:=hq;exact⟨.inl ⟨.bool true,.bool true,[],rfl,fun _=>rfl,.bool true,xlm l _,fun _=>⟨List.Pairwise.nil,fun _ hm=>(nomatch hm)⟩⟩,h2,h3,h4⟩
section
variable {prog:aG} {w:World} {A:aL} {E:Value→ae→Prop} {s:ae} {K:Frag}
end
end Att
namespace L2
open PySem PySem.Spec PyProof.Rows
theorem xcE:∀{vs:List Value} {ns:List Int},cE vs ns→Vals (ns.map V.int) vs
 |_,_,.nil=>.nil
 |_,_,.cons n t h=>.cons ⟨t,rfl⟩ (xcE h)
end L2
namespace L2
open PySem PySem.Spec PyProof.Rows
end L2
namespace L2
open PySem PySem.Spec PyProof.Rows
def inClass(s:Stmt)(j:Nat):Stmt:=match s with
 | .ClassDef _ _ _ body _ _ _ _ _ _ _=>body.getD j (.Pass ⟨0,0,0,0⟩)
 |_=>.Pass ⟨0,0,0,0⟩
def xR(s:Stmt):b7:=match s with
 | .FunctionDef _ a _ _ _ _ _ _ _ _=>a
 |_=>{posonlyargs:=[],args:=[],vararg:=none,kwonlyargs:=[],kw_defaults:=[],kwarg:=none,defaults:=[]}
def xD(s:Stmt):List Stmt:=match s with
 | .FunctionDef _ _ b _ _ _ _ _ _ _=>b
 |_=>[]
def xh(s:Stmt):Scope:=match s with
 | .FunctionDef _ _ _ _ _ _ sc _ _ _=>sc
 |_=>{kind:=.function,names:=[],isGenerator:=false,isCoroutine:=false}
abbrev CX0:CXT:=fun _ _ _ _ _ _=>False
abbrev E0:XK:=fun _ _ _=>False
theorem xp{X:Cx}:Passes CX0 X E0:=fun _ _ _ _ _ _ _ h=>h.elim
structure Fun(K:ah)(x qual:Str)(st:Stmt)(f:Addr)(fd:aw):Prop where
 ex:∃(oc:Value) (od:Option Addr) (kV doc pm:Value) (an:Option Addr) (cdv ct:Value) (osl:Array (Option Value)),
  fd=cU x qual (xR st) (xD st) (xh st) .none kV doc pm an cdv ct∧K.lookup f=some ⟨oc,od,.func fd,osl⟩∧dz K cdv qual=true
 kp:cR K (.ref f)=true
section
variable {P:aG} {w:World} {K:ah} {mg:Str→Option Value} {base:Heap}
theorem Fun.ok{x qual:Str}{st:Stmt}{f:Addr}{fd:aw}{N ps:List Str}{k:Nat}{sp:Sp}(F:Fun K x qual st f fd)(S:xo N ps (xh st))(len:∀vs H Q E,sp vs H Q E→vs.length=ps.length)
  (hbody:∀(cdv:Value) (A:aL) (outer:List Env) (s:ae) (H:Hp) (vs:List V) (Q:VK) (E:XK),xI k (A.deeper (eP qual (xh st) s.heap.objs.size f cdv))→sp vs H Q E→
   ∃t,PSs (vH CX0 P w K mg base N qual (xh st) f cdv A outer s H E).nox (xD st) t∧t {nx:=fun _ H'=>Q .non H',rt:=Q} (start N vs) H):xy P w K mg base CX0 (k+1) f fd ps sp:=by
 obtain⟨oc,od,kV,doc,pm,an,cdv,ct,osl,rfl,lk,hcd⟩:=F.ex;refine xhd lk hcd S len fun A outer s H vs Q E hr hsp=>?_;obtain⟨t,h,q⟩:=hbody cdv A outer s H vs Q E hr hsp;exact⟨t,h.nox,q⟩
theorem Fun.binds{x qual:Str}{st:Stmt}{f:Addr}{fd:aw}{ps:List Str}(F:Fun K x qual st f fd)
  (h:∀(kV doc pm:Value) (an:Option Addr) (cdv ct:Value) (us:List Value),us.length=ps.length→e9 (cU x qual (xR st) (xD st) (xh st) .none kV doc pm an cdv ct) ⟨us,[]⟩=pure (ps.zip us)):Binds K fd ps []:=by
 obtain⟨oc,od,kV,doc,pm,an,cdv,ct,osl,rfl,lk,hcd⟩:=F.ex;exact .all (h kV doc pm an cdv ct)
theorem vY{x qual:Str}{st:Stmt}{f:Addr}{oc:Value}{od an:Option Addr}{osl:Array (Option Value)}{kV doc pm cdv ct:Value}(l:K.lookup f=some ⟨oc,od,.func (cU x qual (xR st) (xD st) (xh st) .none kV doc pm an cdv ct),osl⟩)
  (c:dz K cdv qual=true) (k:cR K (.ref f)=true):Fun K x qual st f (cU x qual (xR st) (xD st) (xh st) .none kV doc pm an cdv ct):=⟨⟨oc,od,kV,doc,pm,an,cdv,ct,osl,rfl,l,c⟩,k⟩
end
theorem xnE{A:aL}{k:Nat}(hr:xI k A):A.units+1<cLine:=dD (Nat.add_le_add_left (by decide:1≤64) _) hr.units
section
variable {X:Cx}
end
def xb(H H':Hp):Prop:=∀b o,H b=some o→H' b=some o
theorem xb.refl(H:Hp):xb H H:=fun _ _ h=>h
theorem xb.trans{H H1 H2:Hp}(a:xb H H1)(b:xb H1 H2):xb H H2:=fun c o h=>b c o (a c o h)
theorem xb.free{H H':Hp}(e:xb H H'){l:Addr}(h:H' l=Option.none):H l=Option.none:=by
 cases q:H l with
 |none=>rfl
 |some o=>
  rw[e l o q]at h;cases h
theorem xb.seq{K:ah}{H H':Hp}{a:Addr}{xs:List V}(e:xb H H')(h:SqL K H a xs):SqL K H' a xs:=by
 rcases h with(h|⟨o,h⟩)|h
 ·exact .inl (.inl (e _ _ h))
 ·exact .inl (.inr ⟨o,e _ _ h⟩)
 ·exact .inr h
section
variable {X:Cx}
theorem xln:yn X (.builtin "len") (fun xs H Q=>∃a kvs,xs=[V.ref a]∧H a=some (.dK kvs)∧Q (.int kvs.length) H):=by
 intro pins s σ H xs us Q I r h;obtain⟨a,kvs,rfl,ha,q⟩:=h;obtain⟨u,rfl,ru⟩:=vals1 r;cases ru;exact xqc I (.inl ha) fun t s' I'=>⟨.int kvs.length,H,I',⟨t,rfl⟩,q⟩
end
section
variable {κ:Type} [DecidableEq κ]
theorem xjf:∀{l:List κ} {k:κ},l.Nodup→¬k∈l→(l++[k]).Nodup
 |[],k,_,_=>by simp
 |a::r,k,h,hk=>by
  obtain⟨h1,h2⟩:=cA.mp h;show(a::(r++[k])).Nodup;refine cA.mpr ⟨fun m=>?_,xjf h2 fun m=>hk (ar.mpr (dk m))⟩;rcases aY.mp m with q|q
  ·exact h1 q
  ·exact hk (ar.mpr (aM (aE.mp q).symm))
end
end L2
set_option maxHeartbeats 4000000
namespace L2
open PySem PySem.Spec PyProof.Rows
section
variable {X:Cx}
theorem PE.imp{e:Expr}{t t':TE}(h:PE X e t)(i:∀σ H Q,t' σ H Q→t σ H Q):PE X e t':=
 fun pins s σ H Q I q=>h pins s σ H Q I (i σ H Q q)
theorem PT.imp{e:Expr}{t t':TT}(h:PT X e t)(i:∀σ H Q,t' σ H Q→t σ H Q):PT X e t':=
 fun pins s σ H Q I q=>h pins s σ H Q I (i σ H Q q)
theorem OpR.imp{f:Value→Value→Sem Value}{r r':R2}(h:OpR X f r)(i:∀x y H Q,r' x y H Q→r x y H Q):OpR X f r':=
 fun pins s σ H x y v u Q I rx ry q=>h pins s σ H x y v u Q I rx ry (i x y H Q q)
theorem UnR.imp{f:Value→Sem Value}{r r':V→Hp→VK→Prop}(h:UnR X f r)(i:∀x H Q,r' x H Q→r x H Q):UnR X f r':=
 fun pins s σ H x v Q I rx q=>h pins s σ H x v Q I rx (i x H Q q)
theorem yn.imp{f:Value}{r r':List V→Hp→VK→Prop}(h:yn X f r)(i:∀xs H Q,r' xs H Q→r xs H Q):yn X f r':=
 fun pins s σ H xs us Q I rv q=>h pins s σ H xs us Q I rv (i xs H Q q)
theorem xhx{e:Expr}{t u:TE}(h:PE X e t)(k:PE X e u):PE X e (fun σ H Q=>t σ H Q∨u σ H Q):=
 fun pins s σ H Q I q=>q.elim (fun z=>h pins s σ H Q I z) (fun z=>k pins s σ H Q I z)
def uY(i:Nat):TE:=fun σ H Q=>match σ[i]? with
 |some (some v)=>Q v H
 |_=>False
theorem xmJ{i:Nat}{σ:St}{H:Hp}{Q:VK}(q:uY i σ H Q):xoW i σ H Q:=by
 unfold uY at q
 split at q
 ·rename_i v e;exact⟨v,e,q⟩
 ·exact q.elim
theorem cv(i:Nat){x:Str}{pos:Pos}(hN:X.N[i]? =some x:=by rfl)(hv:Vis X.env.scope x:=by first|exact aM rfl|exact dk (aM rfl)|exact dk (dk rfl))(hd:(x==("__debug__":Str))=false:=by decide)
  (hcd:(x==("__classdict__":Str))=false:=by decide):PE X (.Name x pos) (uY i):=(xhm hN hv hd hcd).imp fun _ _ _ q=>xmJ q
def kI(C:Int→Int→Prop)(g:Int→Int→V):R2:=fun x y H Q=>match x with
 | .int i=>(match y with
  | .int j=>C i j∧Q (g i j) H
  |_=>False)
 |_=>False
def kI0(g:Int→Int→V):R2:=fun x y H Q=>match x with
 | .int i=>(match y with
  | .int j=>Q (g i j) H
  |_=>False)
 |_=>False
theorem xcF{C:Int→Int→Prop}{g:Int→Int→V}{x y:V}{H:Hp}{Q:VK}(q:kI C g x y H Q):rI C g x y H Q:=by
 cases x with
 |int i=>
  cases y with
  |int j=>exact⟨i,j,rfl,rfl,q.1,q.2⟩
  |_=>exact bo q
 |_=>exact bo q
theorem vI{g:Int→Int→V}{x y:V}{H:Hp}{Q:VK}(q:kI0 g x y H Q):rI0 g x y H Q:=by
 cases x with
 |int i=>
  cases y with
  |int j=>exact⟨i,j,rfl,rfl,q⟩
  |_=>exact bo q
 |_=>exact bo q
theorem xY:OpR X (cQ .Add) (kI0 fun i j=>.int (i+j)):=xo4.imp fun _ _ _ _=>vI
theorem uE:OpR X (cQ .Sub) (kI0 fun i j=>.int (i - j)):=xo5.imp fun _ _ _ _=>vI
theorem xdy:OpR X (cQ .Mult) (kI xjO fun i j=>.int (i*j)):=xo6.imp fun _ _ _ _=>xcF
def xnF(_i j:Int):Prop:=0<j∧j.natAbs.log2<9000
theorem uZ:OpR X (cQ .FloorDiv) (kI xnF fun i j=>.int (i / j)):=
 (opI (C:=xnF) (g:=fun i j=>i / j) fun i j _ _ _ _ _ hc q=>by
  have h0:0<j:=hc.1;rw[←gT i (Int.le_of_lt h0)]at q;exact floordiv_int (Int.ne_of_gt h0) q (.inl (ip hc.2))).imp fun _ _ _ _=>xcF
theorem yE:OpR X (cQ .Mod) (kI (fun _ j=>0<j) fun i j=>.int (i%j)):=xo7.imp fun _ _ _ _=>xcF
theorem xhf:OpR X (cQ .Pow) (kI xo3 fun i j=>.int (i^j.toNat)):=xo8.imp fun _ _ _ _=>xcF
theorem xa6:OpR X (bK .Lt) (kI0 fun i j=>.bl (decide (i<j))):=xp3.imp fun _ _ _ _=>vI
theorem xfG:OpR X (bK .Gt) (kI0 fun i j=>.bl (decide (j<i))):=xp4.imp fun _ _ _ _=>vI
theorem xjY:OpR X (bK .GtE) (kI0 fun i j=>.bl (decide (j≤i))):=xp5.imp fun _ _ _ _=>vI
theorem xjZ{a b:V}{p:Prop}[Decidable p](h:a=b↔p):decide (a=b)=decide p:=by
 by_cases e:p
 ·rw[decide_eq_true e,decide_eq_true (h.mpr e)]
 ·rw[decide_eq_false e,decide_eq_false (fun q=>e (h.mp q))]
theorem vT:OpR X (bK .Eq) (kI0 fun i j=>.bl (decide (i=j))):=xp2.imp fun x y H Q q=>by
 obtain⟨i,j,rfl,rfl,q⟩:=vI q;exact⟨rfl,by rw[xjZ (p:=i=j) ⟨fun e=>V.int.inj e,fun e=>by rw[e]⟩];exact q⟩
theorem xj0:OpR X (bK .NotEq) (kI0 fun i j=>.bl (!decide (i=j))):=xnB.imp fun x y H Q q=>by
 obtain⟨i,j,rfl,rfl,q⟩:=vI q;exact⟨rfl,by rw[xjZ (p:=i=j) ⟨fun e=>V.int.inj e,fun e=>by rw[e]⟩];exact q⟩
def kS0(g:Str→Str→V):R2:=fun x y H Q=>match x with
 | .str i=>(match y with
  | .str j=>Q (g i j) H
  |_=>False)
 |_=>False
theorem xn3{g:Str→Str→V}{x y:V}{H:Hp}{Q:VK}(q:kS0 g x y H Q):∃i j,x= .str i∧y= .str j∧Q (g i j) H:=by
 cases x with
 |str i=>
  cases y with
  |str j=>exact⟨i,j,rfl,rfl,q⟩
  |_=>exact bo q
 |_=>exact bo q
theorem xnG:OpR X (bK .NotEq) (kS0 fun i j=>.bl (!decide (i=j))):=xnB.imp fun x y H Q q=>by
 obtain⟨i,j,rfl,rfl,q⟩:=xn3 q;exact⟨rfl,by rw[xjZ (p:=i=j) ⟨fun e=>V.str.inj e,fun e=>by rw[e]⟩];exact q⟩
def kU(g:Int→V):V→Hp→VK→Prop:=fun x H Q=>match x with
 | .int i=>Q (g i) H
 |_=>False
theorem xhg:UnR X (unaryOp .USub) (kU fun i=>.int (-i)):=xpa.imp fun x H Q q=>by
 cases x with
 |int i=>exact⟨i,rfl,q⟩
 |_=>exact bo q
def xhh(Q:Bool→Hp→Prop):VK:=fun x H1=>match x with
 | .bl k=>Q k H1
 |_=>False
theorem jW{Q:Bool→Hp→Prop}{x:V}{H1:Hp}(q:xhh Q x H1):∃k,x= .bl k∧Q k H1:=by
 cases x with
 |bl k=>exact⟨k,rfl,q⟩
 |_=>exact bo q
def cB(t:TE):TT:=fun σ H Q=>t σ H (xhh Q)
variable {a b c:Expr} {ta tb tc:TE} {tA tB':TT} {pos:Pos} {rest:List Expr}
theorem xK{op:CmpOp}{r:R2}(ho:OpR X (bK op) r)(ha:PE X a ta)(hb:PE X b tb)(hm:c8 op b=false:=by exact xla _):PT X (.Compare a [op] [b] pos) (cB (tOp r ta tb)):=by
 intro pins s σ H Q I h;refine gp (thn (ha pins s σ H _ I h) fun v s1 ⟨x,H1,I1,r1,q1⟩=>thn (hb pins s1 σ H1 _ I1 q1) fun u s2 ⟨y,H2,I2,r2,q2⟩=>
  thn (ho pins s2 σ H2 x y v u _ I2 r1 r2 q2) fun c s3 ⟨z,H3,I3,r3,q3⟩=>?_) hm
 obtain⟨k,rfl,q⟩:=jW q3;cases r3;exact cy ⟨H3,I3,q⟩
theorem vZ{op:CmpOp}{r:R2}(ho:OpR X (bK op) r)(ha:PE X a ta)(hb:PE X b tb)(hm:c8 op b=false:=by exact xla _):PE X (.Compare a [op] [b] pos) (tOp r ta tb):=xnT ho ha hb hm
theorem yy{e:Expr}{t:TE}(h:PE X e t)(he:∀whole,isTrue e X.env whole=(do let v ←whole;ia e.pos;dU [v] (truthy v)):=by intro _;rfl):PT X e (cB t):=by
 intro pins s σ H Q I hw;refine isTrue_plain (thn (h pins s σ H _ I hw) fun v s1 ⟨x,H1,I1,r1,q1⟩=>?_) (he _);obtain⟨d,rfl,q⟩:=jW q1;cases r1;exact cy ⟨H1,I1,q⟩
def xqW(t u:TT):TT:=fun σ H Q=>t σ H fun c H1=>(c=true→u σ H1 Q)∧(c=false→Q false H1)
def cOr(t u:TT):TT:=fun σ H Q=>t σ H fun c H1=>(c=true→Q true H1)∧(c=false→u σ H1 Q)
theorem jX(ha:PT X a tA)(hb:PW X (.BoolOp .And (b::rest) pos) tB'):PW X (.BoolOp .And (a::b::rest) pos) (xqW tA tB'):=by
 intro wh pins s σ H Q I h;refine isTrue_and (thn (ha pins s σ H _ I h) fun c s1 ⟨H1,I1,q1⟩=>?_);cases c with
 |true=>exact hb wh pins s1 σ H1 Q I1 (q1.1 rfl)
 |false=>exact⟨H1,I1,q1.2 rfl⟩
theorem xbJ(ha:PT X a tA)(hb:PW X (.BoolOp .Or (b::rest) pos) tB'):PW X (.BoolOp .Or (a::b::rest) pos) (cOr tA tB'):=by
 intro wh pins s σ H Q I h;refine isTrue_or (thn (ha pins s σ H _ I h) fun c s1 ⟨H1,I1,q1⟩=>?_);cases c with
 |true=>exact⟨H1,I1,q1.1 rfl⟩
 |false=>exact hb wh pins s1 σ H1 Q I1 (q1.2 rfl)
def xqd(ta tb:TE):TE:=fun σ H Q=>ta σ H (xhh fun c H1=>(c=true→tb σ H1 Q)∧(c=false→Q (.bl false) H1))
def xqe(ta:TE):TE:=fun σ H Q=>ta σ H (xhh fun c H1=>Q (.bl (!c)) H1)
theorem va(ha:PE X a ta)(hb:PE X (.BoolOp .And (b::rest) pos) tb):PE X (.BoolOp .And (a::b::rest) pos) (xqd ta tb):=by
 intro pins s σ H Q I h;refine BoolOp_and (thn (ha pins s σ H _ I h) fun v s1 ⟨x,H1,I1,r1,q1⟩=>?_);obtain⟨c,rfl,q1⟩:=jW q1;cases r1;refine cy ?_;cases c with
 |true=>exact hb pins s1 σ H1 Q I1 (q1.1 rfl)
 |false=>exact⟨.bl false,H1,I1,rfl,q1.2 rfl⟩
theorem xpm(ha:PE X a ta):PE X (.UnaryOp .Not a pos) (xqe ta):=by
 intro pins s σ H Q I h;refine UnaryOp_ (thn (ha pins s σ H _ I h) fun v s1 ⟨x,H1,I1,r1,q1⟩=>?_);obtain⟨c,rfl,q1⟩:=jW q1;cases r1;exact not_of (cy ⟨.bl (!c),H1,I1,rfl,q1⟩)
def xqX(c:TT)(t u:TS):TS:=fun D σ H=>c σ H fun b H1=>(b=true→t D σ H1)∧(b=false→u D σ H1)
theorem xT{c:Expr}{p q:List Stmt}{tc:TT}{t u:TS}(hc:PT X c tc)(ha:PSs X p t)(hb:PSs X q u):PS X (.If c p q pos) (xqX tc t u):=by
 intro pins s σ H D I h;refine wpAny_If (thn (hc pins s σ H _ I h) fun d s1 ⟨H1,I1,q1⟩=>?_);cases d with
 |true=>exact ha pins s1 σ H1 D I1 (q1.1 rfl)
 |false=>exact hb pins s1 σ H1 D I1 (q1.2 rfl)
@[irreducible] def xdz(c:TT)(tb:TS)(D:Ends)(σ:St)(H:Hp):Prop:=∃W:Nat→St→Hp→Prop,(∃m,W m σ H)∧∀m σ H,W m σ H→
 c σ H fun b H1=>(b=true→∃N:St→Hp→Prop,(∀σ' H',N σ' H'→∃m',m'<m∧W m' σ' H')∧tb {D with nx:=N,ct:=N,bk:=D.nx} σ H1)∧(b=false→D.nx σ H1)
def xlo(c:TT)(tb:TS):TS:=fun D σ H=>xdz c tb D σ H
@[irreducible] def uc(J:It)(g:TG)(tb:TS)(D:Ends)(σ:St)(H1:Hp):Prop:=∃W:Nat→Nat→St→Hp→Prop,(∃m,W 0 m σ H1)∧∀i m σ H,W i m σ H→
 (J.stop i H∧D.nx σ H)∨(J.go i H∧∃N:St→Hp→Prop,(∀σ' H',N σ' H'→∃m',m'<m∧W (i+1) m' σ' H')∧∀x H',J.yld i H x H'→g x σ H' fun σ2 H2=>tb {D with nx:=N,ct:=N,bk:=D.nx} σ2 H2)
def xj1(wi:TI)(g:TG)(tb:TS):TS:=fun D σ H=>wi σ H fun J H1=>uc J g tb D σ H1
theorem xjg(wi:TI)(g:TG)(tb:TS):xj1 wi g tb=xjN wi g tb:=by
 funext D σ H
 unfold xj1 xjN
 congr 1
 funext J H1
 unfold uc;rfl
theorem uy{tg iter:Expr}{body:List Stmt}{wi:TI}{g:TG}{tb:TS}{pos:Pos}(hp:PassesOwn (model X.prog X.w) X.A X.env X.xe)(hc:X.calm=true)(hi:PI X tg iter wi)(hg:PG X tg g)(hb:PSs X body tb)
  (hs:∀x,dN iter X.env x=pure x:=by intro _;rfl):PS X (.For tg iter body [] pos) (xj1 wi g tb):=by
 rw[xjg];exact xk8 hp hc hi hg hb hs
def xqY(t:TS):TS:=fun D σ H=>∃M:L2.St→Hp→Prop,t {D with nx:=M} σ H∧∀σ' H',M σ' H'→D.nx σ' H'
theorem xeN{st:Stmt}{t:TS}(h:PS X st t):PS X st (xqY t):=by
 intro pins s σ H D I q;obtain⟨M,q1,q2⟩:=q;refine thn (h pins s σ H _ I q1) fun f s' z=>?_;cases f with
 |next=>obtain⟨σ',H',I',m⟩:=z;exact⟨σ',H',I',q2 σ' H' m⟩
 |brk=>exact z
 |cont=>exact z
 |ret v=>exact z
end
end L2
namespace L2
open PySem PySem.Spec PyProof.Rows
def yu(cells:List (Str×Addr)):List (Str×dy)→List (Str×Addr)→List (Str×Addr)
 |[],cs=>cs
 |(n,k)::r,cs=>yu cells r (if k== .free then(n,(cells.lookup n).getD 0)::cs else cs)
theorem jL{scope:Scope}{env:Env}(h:∀y∈scope.names,y.2= .free→∃c,env.cells.lookup y.1=some c):i9 scope env=pure (yu env.cells scope.names []):=by
 have all:∀(l:List (Str×dy)) (cs:List (Str×Addr)),(∀y∈l,y.2= .free→∃c,env.cells.lookup y.1=some c)→
   (forIn l cs fun x r=>match x with
    |(name,kind)=>if (kind==bR)=true then do let a ←cellOf env name;pure (eG ((name,a)::r))else pure (eG r):Sem (List (Str×Addr)))=pure (yu env.cells l cs):=by
  intro l
  induction l with
  |nil=>intro cs _;rfl
  |cons y r ih=>
   intro cs hl;obtain⟨n,k⟩:=y;rw[gz]
   by_cases hk:k= .free
   ·subst hk;obtain⟨c,hc⟩:=hl (n,.free) aS rfl;have e:cellOf env n=pure c:=by unfold cellOf;rw[hc]
    simp only[beq_self_eq_true,if_true,e,pure_bind];rw[ih _ fun z hz=>hl z (aD _ hz)];simp[yu,hc]
   ·have hb:(k==bR)=false:=by simpa using hk
    simp only[hb,cf,if_false,pure_bind];rw[ih _ fun z hz=>hl z (aD _ hz)];simp[yu,hb]
 unfold i9;have:=all scope.names [] h;simp only[bind_pure]at this⊢;exact this
theorem xbK{cells:List (Str×Addr)}:∀{l:List (Str×dy)} {cs:List (Str×Addr)} {x:Str} {c:Addr},(∀y∈l,y.2= .free→∃c,cells.lookup y.1=some c)→(yu cells l cs).lookup x=some c→
  cs.lookup x=some c∨cells.lookup x=some c
 |[],cs,x,c,_,h=>.inl h
 |(n,k)::r,cs,x,c,hl,h=>by
  unfold yu at h;rcases xbK (fun z hz=>hl z (aD _ hz)) h with q|q
  ·split at q
   ·rename_i hk;rw[bY]at q
    split at q
    ·rename_i hx;obtain⟨c',hc⟩:=hl (n,k) aS (by simpa using hk);have e:x=n:=by simpa using hx
     subst e;rw[hc]at q
     right
     rw[hc];simpa using q
    ·exact .inl q
   ·exact .inl q
  ·exact .inr q
theorem vJ{cells:List (Str×Addr)}:∀{l:List (Str×dy)} {cs:List (Str×Addr)} {x:Str},(x,bR)∈l∨(∃c,cs.lookup x=some c)→∃c,(yu cells l cs).lookup x=some c
 |[],cs,x,h=>by
  rcases h with h|h
  ·simp at h
  ·exact h
 |(n,k)::r,cs,x,h=>by
  unfold yu;refine vJ ?_;rcases h with h|⟨c,h⟩
  ·rcases ar.mp h with h|h
   ·cases h
    right
    simp
   ·exact .inl h
  ·right
   split
   ·rw[bY]
    split
    ·exact⟨_,rfl⟩
    ·exact⟨c,h⟩
   ·exact⟨c,h⟩
def Cx.blk(X:Cx)(scope:Scope)(C:Addr)(Nc:List Str)(s₂:ae)(H₂:Hp)(fp:List Addr):Cx:=
 {X with N:=Nc,s₀:=s₂,H₀:=H₂,env:=compEnvC scope (yu X.env.cells scope.names []) C X.env,outer:=X.stack,stack:=X.stack,ex:=fp,fn:=fun _=>false,pn:=[],xe:=fun _ _=>False,cp:=fun _=>false}
def xbL(X:Cx)(scope:Scope):List Nat→List Str→Prop
 |[],[]=>True
 |j::js,y::ys=>(X.N[j]? =some y∧scope.names.lookup y=some .free∧(X.env.kindOf y=some .cell∨X.env.kindOf y=some .free))∧xbL X scope js ys
 |_,_=>False
def zk(σ:St)(cap:List Nat):St:=cap.map fun j=>(σ[j]?).getD none
structure zL(X:Cx)(scope:Scope)(x:Str)(cap:List Nat)(ys:List Str):Prop where
 kind:scope.kind= .function
 nocell:∀y∈scope.names,y.2≠.cell
 locs:∀y∈scope.names,y.2= .local→scope.names.lookup y.1=some .local
 lx:scope.names.lookup x=some .local
 fr:∀y∈scope.names,y.2= .free→X.env.kindOf y.1=some .cell∨X.env.kindOf y.1=some .free
 cap:xbL X scope cap ys
 nd:(x::ys).Nodup
theorem yg{X:Cx}{scope:Scope}{x:Str}{cap:List Nat}{ys:List Str}(kind:scope.kind= .function)(h1:(scope.names.all fun y=> !(y.2== .cell))=true)(h2:(scope.names.all fun y=> !(y.2== .local)||scope.names.lookup y.1==some .local)=true)
  (hx:scope.names.lookup x=some .local) (h3:(scope.names.all fun y=> !(y.2== .free)||(X.env.kindOf y.1==some .cell||X.env.kindOf y.1==some .free))=true) (hcap:xbL X scope cap ys) (hnd:(x::ys).Nodup):zL X scope x cap ys:=by
 refine⟨kind,fun y hy e=>?_,fun y hy e=>?_,hx,fun y hy e=>?_,hcap,hnd⟩
 ·have:=bZ.mp h1 y hy;rw[e]at this;exact absurd this (by decide)
 ·have:=bZ.mp h2 y hy;rw[e]at this;simpa using this
 ·have:=bZ.mp h3 y hy;rw[e]at this;simpa using this
theorem ja{X:Cx}{scope:Scope}{σ:St}:∀{cap:List Nat} {ys:List Str} {i:Nat} {y:Str} {v:V},xbL X scope cap ys→ys[i]? =some y→(zk σ cap)[i]? =some (some v)→
  ∃j:Nat,X.N[j]? =some y∧σ[j]? =some (some v)∧scope.names.lookup y=some .free∧(X.env.kindOf y=some .cell∨X.env.kindOf y=some .free)
 |[],[],i,y,v,_,h,_=>by simp at h
 |j::js,z::zs,0,y,v,⟨⟨h1,h2,h3⟩,_⟩,e1,e2=>by
  simp at e1;subst e1;refine⟨j,h1,?_,h2,h3⟩;simp only[zk,bQ,List.getElem?_cons_zero,kM]at e2;cases q:σ[j]? with
  |none=>rw[q]at e2;cases e2
  |some w=>rw[q]at e2;simp at e2;rw[e2]
 |j::js,z::zs,i+1,y,v,⟨_,h⟩,e1,e2=>ja (i:=i) h (by simpa using e1) (by simpa [zk]using e2)
 |[],_::_,_,_,_,h,_,_=>h.elim
 |_::_,[],_,_,_,h,_,_=>h.elim
theorem xcG{X:Cx}{scope:Scope}:∀{cap:List Nat} {ys:List Str},xbL X scope cap ys→cap.length=ys.length
 |[],[],_=>rfl
 |_::_,_::_,⟨_,h⟩=>by simp[xcG h]
 |[],_::_,h=>h.elim
 |_::_,[],h=>h.elim
theorem jY{l:List (Str×dy)}{y:Str}{k:dy}(h:l.lookup y=some k):(y,k)∈l:=PySem.mem_of_lookup h
theorem jZ{env:Env}:∀{names:List (Str×dy)} {x:Str},names.lookup x=some .free→
  (names.map fun(n,k)=>if (k==bR&&env.scope.kind== .function&&env.kindOf n==some .cell)then(n,kd)else(n,k)).lookup x=some .cell∨
  (names.map fun(n,k)=>if (k==bR&&env.scope.kind== .function&&env.kindOf n==some .cell)then(n,kd)else(n,k)).lookup x=some .free
 |[],_,h=>by simp at h
 |(n,k)::r,x,h=>by
  have ih:= @jZ env r x;rw[bQ];rw[bY]at h;cases hx:x==n with
  |true=>
   rw[hx]at h;simp only[kM]at h;subst h;dsimp only
   split
   ·left;rw[bY,hx]
   ·right;rw[bY,hx]
  |false=>
   rw[hx]at h;dsimp only
   split
   ·rw[bY,hx];exact ih h
   ·rw[bY,hx];exact ih h
theorem ud{env:Env}:∀{names:List (Str×dy)} {x:Str} {k:dy},
  (names.map fun(n,k)=>if (k==bR&&env.scope.kind== .function&&env.kindOf n==some .cell)then(n,kd)else(n,k)).lookup x=some k→(k= .cell∨k= .free)→(∀y∈names,y.2≠.cell)→(x,bR)∈names
 |[],_,_,h,_,_=>by simp at h
 |(n,k')::r,x,k,h,hk,hc=>by
  rw[bQ]at h;have hc':∀y∈r,y.2≠.cell:=fun y hy=>hc y (aD _ hy);have nk:k'≠.cell:=hc (n,k') aS;dsimp only at h
  split at h
  ·rename_i q;rw[bY]at h
   split at h
   ·rename_i hx;have e:x=n:=by simpa using hx
    have e2:k'= .free:=by
     simp only[dW,beq_iff_eq]at q;exact q.1.1
    rw[e,e2];exact aS
   ·exact aD _ (ud h hk hc')
  ·rw[bY]at h
   split at h
   ·rename_i hx;have e:x=n:=by simpa using hx
    have e3:k'=k:=by simpa using h
    rcases hk with q|q
    ·exact absurd (e3.trans q) nk
    ·rw[e,e3,q];exact aS
   ·exact aD _ (ud h hk hc')
section
variable {X:Cx} {scope:Scope} {x:Str} {cap:List Nat} {ys:List Str}
theorem zL.clos(B:zL X scope x cap ys)(ok:X.Ok):∀y∈scope.names,y.2= .free→∃c,X.env.cells.lookup y.1=some c:=fun y hy e=>ok.has y.1 (B.fr y hy e)
theorem zL.sub(B:zL X scope x cap ys)(ok:X.Ok){z:Str}{c:Addr}(h:(yu X.env.cells scope.names []).lookup z=some c):X.env.cells.lookup z=some c:=by
 rcases xbK (B.clos ok) h with q|q
 ·simp at q
 ·exact q
theorem zL.start{pins:List (Addr×Obj)}{σ:St}{H₂:Hp}{s₂:ae}{fp:List Addr}{h₁:Heap}{tk:Nat}{C D:Addr}(B:zL X scope x cap ys)(I:Inv X pins σ H₂ s₂)
  (hf:∀b∈fp,vG X pins H₂ b) (hD:s₂.heap.objs.size≤D) (hC:s₂.heap.objs.size≤C) (hDC:D≠C) (hk:∀b o,s₂.heap.get? b=some o→h₁.get? b=some o)
  (hns:∃m,h₁.Ns C m) (hl:h₁.get? D=some {cls:=.type "list",data:=.seq ([]:List Value).toArray}) (hfp:∀b∈fp,b<s₂.heap.objs.size):
  Inv (X.blk scope C (x::ys) s₂ H₂ fp) [] (none::zk σ cap) (upd H₂ D (.lst [])) {s₂ with heap:=h₁,toks:=tk}:=by
 have ok:=I.ok;have freshC:H₂ C=none:=I.hok.fresh hC;have freshD:H₂ D=none:=I.hok.fresh hD;have lt:∀b o,s₂.heap.get? b=some o→b<s₂.heap.objs.size:=fun b o e=>ai e;refine⟨⟨ok.mod,B.kind,ok.glob,ok.blt,hC,fun y z c h1 h2=>ok.inj y z c (B.sub ok h1) (B.sub ok h2),fun y hy=>?_,fun y c h=>(aC h).elim,ok.hd,ok.frames,.inl rfl,fun b hb=>⟨?_,fun y c h e=>?_⟩,I.bs,bg ok.bsz I.sz,fun b o e hb=>?_,fun b hb hs=>?_,I.stack,I.stkFree,fun y c h=>(aC h).elim,fun b hb=>I.hok.fresh hb⟩,
  rfl,I.bare,Un.laid hk hD freshD,?_,fun y c h=>?_,?_,fun y c h=>?_,fun p hp=>?_,?_,?_⟩
 ·have hy':(iQ scope X.env).names.lookup y=some .cell∨(iQ scope X.env).names.lookup y=some .free:=hy;have m:(y,bR)∈scope.names:=by
   rcases hy' with q|q
   ·exact ud q (.inl rfl) B.nocell
   ·exact ud q (.inr rfl) B.nocell
  exact vJ (.inl m)
 ·exact aq (au (hfp b hb) hC)
 ·exact(hf b hb).2.2.2.2.1 y c (B.sub ok h) e
 ·rcases(hf b hb).2.2.2.1 with q|q
  ·exact ok.noex b o e q
  ·exact absurd (au (ai (ok.bs b o e).1) q) (bJ _)
 ·rcases ar.mp (I.stkSub b hs)with q|q
  ·exact(hf b hb).2.1 q
  ·exact(hf b hb).2.2.1 q
 ·obtain⟨m,hm⟩:=hns;refine⟨m,hm,fun i y v e1 e2 e3=>?_⟩;cases i with
  |zero=>simp at e2
  |succ i=>
   obtain⟨j,n1,n2,n3,n4⟩:=ja (i:=i) B.cap (by simpa [Cx.blk]using e1) (by simpa using e2);obtain⟨m0,hn0,hl0⟩:=I.loc;have vis:Vis X.env.scope y:=by
    rcases n4 with q|q
    ·exact .inr (.inl q)
    ·exact .inr (.inr q)
   obtain⟨u,ru,l⟩:=hl0 j y v n1 n2 vis;refine⟨u,ru,.inr ⟨jZ n3,?_⟩⟩;rcases l with⟨k,_⟩|⟨_,c,ec,z⟩
   ·rw[k]at n4;rcases n4 with q|q<;> cases q
   ·obtain⟨c',ec'⟩:=vJ (cells:=X.env.cells) (cs:=[]) (.inl (jY n3));have:=B.sub ok ec';rw[ec]at this;cases this;obtain⟨o,ho,hd⟩:=z;exact⟨c,ec',o,hk c o ho,hd⟩
 ·obtain⟨v,o,ho,hd⟩:=I.cell y c (B.sub ok h);exact⟨v,o,hk c o ho,hd⟩
 ·show upd H₂ D _ C=none;rw[xj (aR hDC)];exact freshC
 ·obtain⟨v,o,ho,hd⟩:=I.cell y c (B.sub ok h);rw[xj (aq (au (lt c o ho) hD))];refine(I.freeC y c (B.sub ok h)).imp id fun⟨_,o',ho',hno⟩=>⟨rfl,o',ho',fun z i v e1 k e2=>?_⟩;cases i with
  |zero=>simp at e2
  |succ i=>
   obtain⟨j,n1,n2,n3,n4⟩:=ja (i:=i) B.cap (by simpa [Cx.blk]using e1) (by simpa using e2);exact hno z j v n1 n4 n2
 ·exact absurd (show p∈([]:List (Addr×Obj))from hp) (by simp)
 ·exact I.hok.laid hk hD ⟨aN _,[],0,.nil,hl⟩
 ·simp[Cx.blk,zk,xcG B.cap]
theorem zL.back{pins:List (Addr×Obj)}{σ:St}{H₂ H':Hp}{s₂ s':ae}{fp:List Addr}{C:Addr}{pl:List (Addr×Obj)}{σ':St}(B:zL X scope x cap ys)(I:Inv X pins σ H₂ s₂)
  (hf:∀b∈fp,vG X pins H₂ b) (J:Inv (X.blk scope C (x::ys) s₂ H₂ fp) pl σ' H' s'):Inv X pins σ H' s':=
 I.call' (ch:=fp) J.os J.base J.hok J.bare fun b hb=>by
  obtain⟨f0,f1,f2,f3,f4,f5⟩:=hf b hb;refine⟨?_,f1,f4,f5⟩;rcases f3 with q|q
  ·exact .inl q
  ·exact .inr q
theorem zL.far{pins:List (Addr×Obj)}{σ:St}{H₂ H':Hp}{s₂ s':ae}{fp:List Addr}{C:Addr}{pl:List (Addr×Obj)}{σ':St}(I:Inv X pins σ H₂ s₂)
  (hC:s₂.heap.objs.size≤C) (J:Inv (X.blk scope C (x::ys) s₂ H₂ fp) pl σ' H' s'):
  H' C=none∧C≠X.env.locals∧X.s₀.heap.objs.size≤C∧(∀z c,X.env.cells.lookup z=some c→c≠C)∧∀p∈X.pn++pins,p.1≠C:=by
 refine⟨J.free,dC (au I.lt hC),bg I.sz hC,fun z c e q=>?_,fun p hp q=>?_⟩
 ·obtain⟨v,w⟩:=I.cell z c e;exact absurd (au w.lt (by rw[q];exact hC)) (bJ _)
 ·exact absurd (au (ai (I.pin p hp).1) (by rw[q];exact hC)) (bJ _)
end
theorem xeO{prog:aG}{w:World}{A:aL}{R:fJ→ae→Prop}{s:ae}{elt tg iter:Expr}{ifs:List Expr}{scope:Scope}{pos:Pos}{it acc:Value}{env:Env}(J:Nat→ae→Prop)
  (go:∀n s,J n s→wpAny (model prog w) A (ik it) (fun r s1=>match r with
   |none=>R (.ok .next) s1
   |some v=>wpAny (model prog w) A (gv tg it v) (fun _ s2=>wpAny (model prog w) A (gQ tg env v) (fun _ s3=>
     wpAny (model prog w) A (forIn ifs true fun c r=>if r=true then do let ok ←isTrue c env (eval c env);pure (eG ok)else pure (eG r)) (fun ok s4=>
      if ok=true then wpAny (model prog w) A (eval elt env) (fun y s5=>wpAny (model prog w) A (call (.builtin "list.append") [acc,y]) (fun _ s6=>∃m,m<n∧J m s6) (fun _ _=>False) s5) (fun _ _=>False) s4
      else∃m,m<n∧J m s4) (fun _ _=>False) s3) (fun _ _=>False) s2) (fun _ _=>False) s1) (fun _ _=>False) s)
  (n:Nat) (h:J n s):cD (model prog w) A (.compLoop (.ListComp elt [⟨tg,iter,ifs,0⟩] scope pos) 0 it acc env) R s:=by
 refine codeAny_loop rfl J (fun n s hJ=>?_) n h;show wpAny _ A ((compTurn (.ListComp elt [⟨tg,iter,ifs,0⟩] scope pos) 0 it acc env).onRaise (fun x=>do noteFrame x env;theTreesLotGoes x)) _ _ s;refine wpAny_noted ?_;rw[compTurn_list];refine aa (dw (aa (aK (go n s hJ) (fun r s1 h1=>?_) fun _ _ z=>z.elim)));cases r with
 |none=>exact ao h1
 |some v=>
  refine aa (aK h1 (fun _ s2 h2=>aa (aK h2 (fun _ s3 h3=>aa (aK h3 (fun ok s4 h4=>?_) fun _ _ z=>z.elim)) fun _ _ z=>z.elim)) fun _ _ z=>z.elim);cases ok with
  |false=>exact ao ⟨rfl,h4⟩
  |true=>
   exact aa (aa (aK h4 (fun y s5 h5=>aa (aK h5 (fun _ s6 h6=>ao (ao ⟨rfl,h6⟩)) fun _ _ z=>z.elim)) fun _ _ z=>z.elim))
def CTs(Xc:Cx)(ifs:List Expr)(t:TT):Prop:=
 ∀(pins:List (Addr×Obj)) (s:ae) (σ:St) (H:Hp) (Q:Bool→Hp→Prop),Inv Xc pins σ H s→t σ H Q→
  wpAny (model Xc.prog Xc.w) Xc.A (forIn ifs true fun c r=>if r=true then do let ok ←isTrue c Xc.env (eval c Xc.env);pure (eG ok)else pure (eG r)) (TP Xc pins σ Q) Xc.xe s
def xef:TT:=fun _ H Q=>Q true H
theorem ye{Xc:Cx}:CTs Xc [] xef:=fun _ _ _ H _ I q=>wpAny_tests_nil ⟨H,I,q⟩
theorem jR{Xc:Cx}{c:Expr}{t:TT}(h:PT Xc c t):CTs Xc [c] t:=fun pins s σ H Q I q=>wpAny_tests_one (h pins s σ H Q I q)
abbrev CW:=Nat→Nat→List V→Hp→Prop
@[irreducible] def yP(J:It)(caps:St)(tt:TT)(te:TE)(Q:VK)(H2:Hp):Prop:=∀D,H2 D=none→∃W:CW,(∃m,W 0 m [] (upd H2 D (.lst [])))∧
 ∀i m acc H3,W i m acc H3→H3 D=some (.lst acc)∧((J.stop i H3∧Q (.ref D) H3)∨(J.go i H3∧acc.length<aQ∧∀v H4,J.yld i H3 v H4→tt (some v::caps) H4 fun b H5=>
  (b=true→te (some v::caps) H5 fun u H6=>H6 D=some (.lst acc)∧∃m',m'<m∧W (i+1) m' (acc++[u]) (upd H6 D (.lst (acc++[u]))))∧(b=false→∃m',m'<m∧W (i+1) m' acc H5)))
def xnH(cap:List Nat)(wi:TI)(tt:TT)(te:TE):TE:=fun σ H Q=>wi σ H fun J H2=>yP J (zk σ cap) tt te Q H2
section
variable {X:Cx} {scope:Scope} {x:Str} {cap:List Nat} {ys:List Str} {elt iter:Expr} {ifs:List Expr} {px pos:Pos} {wi:TI} {tt:TT} {te:TE}
theorem xeP(B:zL X scope x cap ys)(hc:X.calm=true)(he:∀C s H fp,PE (X.blk scope C (x::ys) s H fp) elt te)(ht:∀C s H fp,CTs (X.blk scope C (x::ys) s H fp) ifs tt)
  {pins:List (Addr×Obj)} {σ:St} {s₂:ae} {Q:VK} {RR:Value→Addr→fJ→ae→Prop} {itv:Value} {E:Value→ae→Prop}
  (hp:PIE X pins σ (.Name x px) (fun J H2=>yP J (zk σ cap) tt te Q H2) itv s₂)
  (hR:∀(D C:Addr) (H':Hp) (s':ae),Inv X pins σ H' s'→(∃m,s'.heap.Ns C m)→H' C=none→C≠X.env.locals→X.s₀.heap.objs.size≤C→(∀z c,X.env.cells.lookup z=some c→c≠C)→(∀p∈X.pn++pins,p.1≠C)→Q (.ref D) H'→RR (.ref D) C (.ok .next) s'):
  wpAny (model X.prog X.w) X.A (newList []) (fun acc s₃=>wpAny (model X.prog X.w) X.A (iR scope X.env.globals (yu X.env.cells scope.names []) [] X.env.qual none .none (some X.env)) (fun cenv s₄=>
   cD (model X.prog X.w) X.A (.compStart (.ListComp elt [⟨.Name x px,iter,ifs,0⟩] scope pos) 0 itv acc {cenv with scope:=iQ scope X.env}) (RR acc cenv.locals) s₄) E s₃) E s₂:=by
 obtain⟨it,fp,tn,J,H2,e,I2,T,st2,f2,hw⟩:=hp;subst e;unfold yP at hw;refine fX (gA B.nocell (by intro y hy;simp at hy) (fun h₁ hns₁ hsb₁=>?_) B.kind);dsimp only at hns₁ hsb₁⊢;generalize hG:s₂.heap.push {cls:=.type "list",dict:=none,data:=.seq ([]:List Value).toArray}=G at hns₁ hsb₁⊢;have hsz:G.objs.size=s₂.heap.objs.size+1:=by rw[←hG,cH]
 have hCle:s₂.heap.objs.size≤G.objs.size:=by lia
 have hDC:s₂.heap.objs.size≠G.objs.size:=by lia
 have old:∀b o,s₂.heap.get? b=some o→h₁.get? b=some o:=fun b o q=>by
  have lt:=ai q;refine hsb₁.extBut b o (aq (au lt hCle)) (ag _ ?_);rw[←hG];exact ag _ q
 have accAt:h₁.get? s₂.heap.objs.size=some {cls:=.type "list",data:=.seq ([]:List Value).toArray}:=by
  refine hsb₁.extBut _ _ hDC (ag _ ?_);rw[←hG];exact aA _ rfl
 have hfp:∀b∈fp,b<s₂.heap.objs.size:=fun b hb=>by
  obtain⟨o,ho,_⟩:=T.obj _ _ st2 b hb;exact ai ho
 obtain⟨W,⟨m0,w0⟩,turn⟩:=hw s₂.heap.objs.size (I2.hok.fresh (ak _));generalize htk:s₂.toks+([]:List (Str×Value)).length=tk;have I0:=B.start (tk:=tk) (C:=G.objs.size) I2 f2 (ak _) hCle hDC old ⟨_,hns₁⟩ accAt hfp;have st0:tn 0 h₁:=T.keep _ _ _ st2 fun b hb o q=>old b o q
 -- what stays true of the iterator's objects
 have f3:∀{H':Hp},(∀b∈fp,H' b=none)→∀b∈fp,vG (X.blk scope G.objs.size (x::ys) s₂ H2 fp) [] H' b:=fun hn b hb=>by
  obtain⟨f0,f1,f2',f3',f4,f5⟩:=f2 b hb;refine⟨hn b hb,aq (au (hfp b hb) hCle),fun hs=>?_,.inl hb,fun z c q=>f4 z c (B.sub I2.ok q),fun p hp=>absurd (show p∈([]:List (Addr×Obj))from hp) (by simp)⟩;rcases ar.mp (I2.stkSub b hs)with q|q
  ·exact f1 q
  ·exact f2' q
 have n0:∀b∈fp,upd H2 s₂.heap.objs.size (.lst []) b=none:=fun b hb=>by
  rw[xj (aq (hfp b hb))];exact(f2 b hb).1
 have loop:∀sx:ae,sx={s₂ with heap:=h₁,toks:=tk}→
   cD (model X.prog X.w) X.A (.compLoop (.ListComp elt [⟨.Name x px,iter,ifs,0⟩] scope pos) 0 (.ref it) (.ref s₂.heap.objs.size) (compEnvC scope (yu X.env.cells scope.names []) G.objs.size X.env)) (RR (.ref s₂.heap.objs.size) G.objs.size) sx:=by
  rintro sx rfl;refine xeO (fun n s'=>∃i acc H',Inv (X.blk scope G.objs.size (x::ys) s₂ H2 fp) [] (none::zk σ cap) H' s'∧tn i s'.heap∧(∀b∈fp,H' b=none)∧W i n acc H') ?_ m0 ⟨0,[],_,I0,st0,n0,w0⟩;rintro n s3 ⟨i,acc,H3,I3,st3,fr3,w3⟩;obtain⟨hD3,alt⟩:=turn i n acc H3 w3;rcases alt with⟨stop,q⟩|⟨go,hlen,step⟩
  ·refine aK (T.done (X.blk scope G.objs.size (x::ys) s₂ H2 fp) rfl rfl rfl hc i [] s3 _ H3 (fun _ _=>False) I3 (f3 fr3) st3 stop) (fun r s4 ⟨hr,I4⟩=>?_) fun _ _ z=>z.elim;subst hr;obtain⟨g1,g2,g3,g4,g5⟩:=zL.far I2 hCle I4;obtain⟨m4,hm4,_⟩:=I4.loc;exact hR _ _ H3 s4 (B.back I2 f2 I4) ⟨m4,hm4⟩ g1 g2 g3 g4 g5 q
  ·refine aK (T.item (X.blk scope G.objs.size (x::ys) s₂ H2 fp) rfl rfl rfl hc i [] s3 _ H3 (fun _ _=>False) I3 (f3 fr3) st3 go) (fun r s4 ⟨u,hr,h4⟩=>?_) fun _ _ z=>z.elim;subst hr;refine aK h4 (fun _ s4 ⟨v,H4,I4,rv,y4,st4,fr4⟩=>?_) fun _ _ z=>z.elim;have I4':=I4.pinned (f3 fr4) (T.obj _ _ st4);refine gX (xec (X:=X.blk scope G.objs.size (x::ys) s₂ H2 fp) (i:=0) I4' B.nd rfl (.inl (dm B.lx)) rv (fun s5 I5=>?_) (.inr (dm B.lx)));have I5':Inv (X.blk scope G.objs.size (x::ys) s₂ H2 fp) ([]++ux fp s4.heap) (some v::zk σ cap) H4 s5:=I5;refine aK (ht _ _ _ _ _ s5 _ H4 _ I5' (step v H4 y4)) (fun ok s6 ⟨H6,I6,q6⟩=>?_) fun _ _ z=>z.elim;have pinned:∀{σ7:St} {H7:Hp} {s7:ae},Inv (X.blk scope G.objs.size (x::ys) s₂ H2 fp) ([]++ux fp s4.heap) σ7 H7 s7→tn (i+1) s7.heap∧∀b∈fp,H7 b=none:=fun{σ7 H7 s7} I7=>by
    refine⟨T.keep _ _ _ st4 fun b hb o e=>(I7.pin (b,o) (aO _ (aO _ (ua hb e)))).1,fun b hb=>?_⟩;obtain⟨o,e,d⟩:=T.obj _ _ st4 b hb;exact(I7.pin (b,o) (aO _ (aO _ (ua hb e)))).2.1
   have weak:∀{H7:Hp} {s7:ae},Inv (X.blk scope G.objs.size (x::ys) s₂ H2 fp) ([]++ux fp s4.heap) (some v::zk σ cap) H7 s7→Inv (X.blk scope G.objs.size (x::ys) s₂ H2 fp) [] (none::zk σ cap) H7 s7:=fun I7=>
    (I7.unpinned (pins:=[])).weak rfl fun j z e=>by
     cases j with
     |zero=>simp at e
     |succ j=>simpa using e
   cases ok with
   |false=>
    rw[if_neg aC];obtain⟨m',hm',w'⟩:=q6.2 rfl;exact⟨m',hm',i+1,acc,H6,weak I6,(pinned I6).1,(pinned I6).2,w'⟩
   |true=>
    rw[if_pos rfl];refine aK (he _ _ _ _ _ s6 _ H6 _ I6 (q6.1 rfl)) (fun y s7 ⟨z,H7,I7,rz,hD7,m',hm',w'⟩=>?_) fun _ _ z=>z.elim;refine aK (yt (X:=X.blk scope G.objs.size (x::ys) s₂ H2 fp) _ s7 _ H7 (.ref s₂.heap.objs.size) [z] (.ref s₂.heap.objs.size) [y] (fun _ H8=>H8=upd H7 s₂.heap.objs.size (.lst (acc++[z]))) I7 rfl (.cons rz .nil) ⟨_,acc,z,rfl,rfl,hD7,hlen,rfl⟩) (fun _ s8 ⟨_,H8,I8,_,e8⟩=>?_) fun _ _ z=>z.elim;subst e8;exact⟨m',hm',i+1,_,_,weak I8,(pinned I8).1,(pinned I8).2,w'⟩
 exact codeAny_compStart_list (loop _ rfl) (T.self _ 0 _ _ _ st0 (loop _ rfl))
theorem xX(B:zL X scope x cap ys)(hc:X.calm=true)(hi:PI X (.Name x px) iter wi)(he:∀C s H fp,PE (X.blk scope C (x::ys) s H fp) elt te)(ht:∀C s H fp,CTs (X.blk scope C (x::ys) s H fp) ifs tt)
  (hs:∀x,dN iter X.env x=pure x:=by intro _;rfl):PE X (.ListComp elt [⟨.Name x px,iter,ifs,0⟩] scope pos) (xnH cap wi tt te):=by
 intro pins s σ H Q I h;rw[eval_ListComp];refine fN (use:=none) rfl hs (jL (B.clos I.ok)) B.kind B.locs ?_;refine thn (hi pins s σ H _ I h) fun v s1 h1=>thn h1 fun itv s2 h2=>?_;refine xeP (Q:=Q) (RR:=fun acc C=>compPost (model X.prog X.w) X.A X.xe none (EP X pins σ Q) acc C) B hc he ht h2 ?_;rintro D C H' s' J ⟨m,hm⟩ g1 g2 g3 g4 g5 q;exact⟨m,hm,fun h' sb=>⟨.ref D,H',J.turned (t':=s'.toks) (fun b o hb e=>(sb.2 b hb).trans e) g1 g2 (.inr g3) g4 g5,rfl,q⟩⟩
theorem xj2{i:Nat}{y:Str}{pos' spos:Pos}(B:zL X scope x cap ys)(hc:X.calm=true)(hN:X.N.Nodup)(hi:X.N[i]? =some y)(hy:X.env.scope.names.lookup y=some .local)(hit:PI X (.Name x px) iter wi)
  (he:∀C s H fp,PE (X.blk scope C (x::ys) s H fp) elt te) (ht:∀C s H fp,CTs (X.blk scope C (x::ys) s H fp) ifs tt)
  (hsw:gP (.ListComp elt [⟨.Name x px,iter,ifs,0⟩] scope pos) (some (.Name y pos')) spos.line X.env=pure true:=by rfl)
  (hs:∀x,dN iter X.env x=pure x:=by intro _;rfl):
  PS X (.Assign [.Name y pos'] (.ListComp elt [⟨.Name x px,iter,ifs,0⟩] scope pos) spos) (xmz (xnH cap wi tt te) (xdu i)):=by
 intro pins s σ H D I h;rw[exec_Assign_Name_used _ _ _ _ hsw];refine aa (dw (aa ?_));show wpAny _ X.A (do let _ ←comprehension (.ListComp elt [⟨.Name x px,iter,ifs,0⟩] scope pos) scope X.env _ (newList []) false (eval iter X.env) (some (gQ (.Name y pos') X.env))) _ _ s;refine aa (aK (fN (use:=some (gQ (.Name y pos') X.env)) (Q:=fun _ s'=>SP X pins D .next s') rfl hs (jL (B.clos I.ok)) B.kind B.locs
  (thn (hit pins s σ H _ I h) fun v s1 h1=>thn h1 fun itv s2 h2=>?_)) (fun _ s' hq=>ao (ao hq)) fun _ _ e=>e)
 refine xeP (Q:=fun v H1=>xdu i v σ H1 D.nx) (RR:=fun acc C=>compPost (model X.prog X.w) X.A X.xe (some (gQ (.Name y pos') X.env)) (fun _ s'=>SP X pins D .next s') acc C) B hc he ht h2 ?_;rintro Da C H' s' J ⟨m,hm⟩ g1 g2 g3 g4 g5 q;show wpAny _ X.A (gQ (.Name y pos') X.env (.ref Da)) _ _ s';refine(gX (xgo (v:=.ref Da) J hN hi (.inl hy) rfl (fun s4 J4 ⟨a,sb,ha⟩=>?_) (.inr hy)));have hCa:C≠a:=by
  rcases ha with z|z
  ·rw[z];exact g2
  ·exact fun w=>g4 y a z w.symm
 refine⟨m,hm.sameBut sb hCa,fun h' sb'=>?_⟩;exact⟨_,H',J4.turned (t':=s4.toks) (fun b o hb e=>(sb'.2 b hb).trans e) g1 g2 (.inr g3) g4 g5,q⟩
end
end L2
namespace L2
open PySem PySem.Spec PyProof.Rows
def Its(lo st:Int)(n:Nat):It:=⟨fun i _=>i<n,fun i H x H'=>H'=H∧x= .int (lo+i*st),fun i _=>n≤i⟩
theorem xj3{P:aG}{w:World}{K:ah}{tg:Expr}(it:Addr)(lo st:Int)(n:Nat):Turn P w K tg (Its lo st n) [it] it (fun i h=>IsRangeIter h it (lo+(i:Nat)*st) ((n:Int) - (i:Nat)) st) where
 mem:=by simp
 obj:=fun i h q b hb=>by
  have e:b=it:=by simpa using hb
  subst e;exact⟨_,q,fun v z=>by
   have z':kQ _=Data.cell v:=z;cases z'⟩
 keep:=fun i h h' q k=>k it (by simp) _ q
 item:=by
  intro X hP hw hK hc i pins s σ H E I hf q hg;subst hP hw hK;obtain⟨f0,f1,f2,f3,f4,f5⟩:=hf it (by simp);refine(Walks.range (prog:=X.prog) (w:=X.w) (I.ok.hd hc) it lo st n).item i s _ _ hg q fun v h' tk hv q' kk=>?_;obtain⟨t,rfl⟩:=hv;have I1:Inv X pins σ H {s with heap:=h',toks:=tk}:=I.turned (fun b o hb e=>kk b o (by simpa using hb) e) f0 f1 f3 f4 f5;exact⟨_,rfl,xeI (s:={s with heap:=h',toks:=tk}) (n:="range_iterator") q' rfl rfl (by decide) ⟨.int (lo+i*st),H,I1,⟨t,rfl⟩,⟨rfl,rfl⟩,q',fun b hb=>(hf b hb).1⟩⟩
 done:=by
  intro X hP hw hK hc i pins s σ H E I hf q hg;subst hP hw hK;obtain⟨f0,f1,f2,f3,f4,f5⟩:=hf it (by simp);exact wpAny_pyNext_range_end (I.ok.hd hc) q (by have:n≤i:=hg;lia) fun h' eb=>⟨rfl,I.turned (t':=s.toks) (fun b o hb e=>eb b o hb e) f0 f1 f3 f4 f5⟩
 self:=fun _ _ _ _ _ q h=>wpAny_pyIter_rangeiter q h
theorem xlp{P:aG}{w:World}{K:ah}{tg:Expr}(it:Addr)(lo st:Int)(n:Nat):Turn P w K tg (Its lo st n) [it] it (fun i h=>j3 h it (lo+(i:Nat)*st) ((n:Int) - (i:Nat)) st) where
 mem:=by simp
 obj:=fun i h q b hb=>by
  have e:b=it:=by simpa using hb
  subst e;exact⟨_,q,fun v z=>by
   have z':kQ _=Data.cell v:=z;cases z'⟩
 keep:=fun i h h' q k=>k it (by simp) _ q
 item:=by
  intro X hP hw hK hc i pins s σ H E I hf q hg;subst hP hw hK;obtain⟨f0,f1,f2,f3,f4,f5⟩:=hf it (by simp);refine(Walks.longrange (prog:=X.prog) (w:=X.w) (I.ok.hd hc) it lo st n).item i s _ _ hg q fun v h' tk hv q' kk=>?_;obtain⟨t,rfl⟩:=hv;have I1:Inv X pins σ H {s with heap:=h',toks:=tk}:=I.turned (fun b o hb e=>kk b o (by simpa using hb) e) f0 f1 f3 f4 f5;exact⟨_,rfl,xeI (s:={s with heap:=h',toks:=tk}) (n:="longrange_iterator") q' rfl rfl (by decide) ⟨.int (lo+i*st),H,I1,⟨t,rfl⟩,⟨rfl,rfl⟩,q',fun b hb=>(hf b hb).1⟩⟩
 done:=by
  intro X hP hw hK hc i pins s σ H E I hf q hg;subst hP hw hK;obtain⟨f0,f1,f2,f3,f4,f5⟩:=hf it (by simp);exact wpAny_pyNext_long_end (I.ok.hd hc) q (by have:n≤i:=hg;lia) fun h' eb=>⟨rfl,I.turned (t':=s.toks) (fun b o hb e=>eb b o hb e) f0 f1 f3 f4 f5⟩
 self:=fun _ _ _ _ _ q h=>wpAny_pyIter_longiter q h
def yv(a b c:Int):Nat:=(bb a b c).toNat
theorem xhy(a b c:Int):0≤bb a b c:=by
 unfold bb
 split
 ·split
  ·have:=Int.ediv_nonneg (a:=b - a - 1) (b:=c) (by lia) (by lia);lia
  ·lia
 ·split
  ·have:=Int.ediv_nonneg (a:=a - b - 1) (b:= -c) (by lia) (by lia);lia
  ·lia
theorem xgu(a b c:Int):((yv a b c:Nat):Int)=bb a b c:=bL (xhy a b c)
theorem zQ(a b:Int):yv a b 1=(b - a).toNat:=by
 unfold yv bb;simp only[show(1:Int) > 0 by decide,if_true]
 split<;> simp<;> lia
section
variable {X:Cx} {tg:Expr}
theorem xlq{pins:List (Addr×Obj)}{σ:St}{H:Hp}{s:ae}{R:It→Hp→Prop}{E:Value→ae→Prop}{a b c:Int}{t u v:Tok}{r:Addr}(I:Inv X pins σ H s)(hr:IsRange s.heap r a b c t u v)
  (q:R (Its a c (yv a b c)) H):wpAny (model X.prog X.w) X.A (pyIter (.ref r)) (PIE X pins σ tg R) E s:=by
 have e2:bb a b c=((yv a b c:Nat):Int) - ((0:Nat):Int):=by rw[xgu];simp
 have e1:a=a+((0:Nat):Int)*c:=by simp
 have fp:∀b'∈[s.heap.objs.size],vG X pins H b':=fun b' hb=>by
  have e:b'=s.heap.objs.size:=by simpa using hb
  subst e;exact I.fpOk (ak _) (I.hok.fresh (ak _))
 cases hsm:gH a b c with
 |true=>
  refine wpAny_pyIter_range hr hsm ⟨s.heap.objs.size,[s.heap.objs.size],_,_,H,rfl,I.kept (t':=s.toks) fun b o e=>ag _ e,xj3 _ a c (yv a b c),?_,fp,q⟩;show IsRangeIter _ _ (a+((0:Nat):Int)*c) (((yv a b c:Nat):Int) - ((0:Nat):Int)) c;rw[←e1,←e2];exact aA _ rfl
 |false=>
  refine wpAny_pyIter_longrange hr hsm ⟨s.heap.objs.size,[s.heap.objs.size],_,_,H,rfl,I.kept (t':=s.toks) fun b o e=>ag _ e,xlp _ a c (yv a b c),?_,fp,q⟩;show j3 _ _ (a+((0:Nat):Int)*c) (((yv a b c:Nat):Int) - ((0:Nat):Int)) c;rw[←e1,←e2];exact aA _ rfl
def xhz(k:Int→Hp→Prop):List V→Hp→Prop:=fun vs H=>match vs with
 |[.int j]=>k j H
 |_=>False
def xeQ(k:Int→Int→Hp→Prop):List V→Hp→Prop:=fun vs H=>match vs with
 |[.int i,.int j]=>k i j H
 |_=>False
def xj4(k:Int→Int→Int→Hp→Prop):List V→Hp→Prop:=fun vs H=>match vs with
 |[.int i,.int j,.int l]=>k i j l H
 |_=>False
theorem xfH{k:Int→Hp→Prop}{vs:List V}{H:Hp}(h:xhz k vs H):∃j,vs=[.int j]∧k j H:=by
 unfold xhz at h
 split at h
 ·exact⟨_,rfl,h⟩
 ·exact h.elim
theorem xeg{k:Int→Int→Hp→Prop}{vs:List V}{H:Hp}(h:xeQ k vs H):∃i j,vs=[.int i,.int j]∧k i j H:=by
 unfold xeQ at h
 split at h
 ·exact⟨_,_,rfl,h⟩
 ·exact h.elim
theorem xmK{k:Int→Int→Int→Hp→Prop}{vs:List V}{H:Hp}(h:xj4 k vs H):∃i j l,vs=[.int i,.int j,.int l]∧k i j l H:=by
 unfold xj4 at h
 split at h
 ·exact⟨_,_,_,rfl,h⟩
 ·exact h.elim
theorem xjh{us:List Value}{i:Int}(r:Vals [.int i] us):∃t,us=[.int i t]:=by
 obtain⟨u,rfl,t,rfl⟩:=Vals.one r;exact⟨t,rfl⟩
theorem xji{us:List Value}{i j:Int}(r:Vals [.int i,.int j] us):∃t t',us=[.int i t,.int j t']:=by
 obtain⟨u,v,rfl,⟨t,rfl⟩,⟨t',rfl⟩⟩:=Vals.two r;exact⟨t,t',rfl⟩
theorem xn4{us:List Value}{i j l:Int}(r:Vals [.int i,.int j,.int l] us):∃t t' t'',us=[.int i t,.int j t',.int l t'']:=by
 cases r with
 |cons r rr=>
  obtain⟨t',t'',rfl⟩:=xji rr;obtain⟨t,rfl⟩:=r;exact⟨t,t',t'',rfl⟩
def xlr(c:Int):Prop:=c≠0∧c.natAbs.log2<9000
def xqf(ta:TA):TI:=fun σ H R=>ta σ H (xhz fun j H1=>R (Its 0 1 (yv 0 j 1)) H1)
def xqg(ta:TA):TI:=fun σ H R=>ta σ H (xj4 fun i j c H1=>xlr c∧R (Its i c (yv i j c)) H1)
theorem zu{a:Expr}{ta:TA}{p pos:Pos}(hg:Gl X "range")(hm:X.mg "range"=none)(ha:PA X [a] ta)(hs:aI [a] X.env=[(false,eval a X.env)]:=by rfl):PI X tg (.Call (.Name "range" p) [a] [] pos) (xqf ta):=by
 intro pins s σ H R I h;refine Call_ (yO I hg hm j4 (bO (thn (ha pos pins s σ H _ I h) fun us s1 ⟨vs,H1,I1,r1,q1⟩=>?_) hs rfl));obtain⟨j,rfl,q⟩:=xfH q1;obtain⟨t,rfl⟩:=xjh r1;refine call_range_1 (xlq (I1.kept (t':=_) fun b o e=>ag _ e) (IsRange.new ..) q)
theorem xgv{a b c:Expr}{ta:TA}{p pos:Pos}(hg:Gl X "range")(hm:X.mg "range"=none)(ha:PA X [a,b,c] ta)(hs:aI [a,b,c] X.env=(false,eval a X.env)::aI [b,c] X.env:=by rfl)(hpl:(bN pos (aI [b,c] X.env)).any (·.1)=false:=by rfl):
  PI X tg (.Call (.Name "range" p) [a,b,c] [] pos) (xqg ta):=by
 intro pins s σ H R I h;refine Call_ (yO I hg hm j4 (bO (thn (ha pos pins s σ H _ I h) fun us s1 ⟨vs,H1,I1,r1,q1⟩=>?_) hs hpl));obtain⟨i,j,l,rfl,⟨h0,hl⟩,q⟩:=xmK q1;obtain⟨t,t',t'',rfl⟩:=xn4 r1;exact call_range_3 h0 (xlq (I1.kept (t':=_) fun b o e=>ag _ e) (IsRange.new ..) q) (.inl (ip hl))
def xqh(ta:TA):TE:=fun σ H Q=>ta σ H (xeQ fun i j H1=>∀p,H1 p=none→Q (.ref p) (upd H1 p (.rng i j)))
def xpn(ta:TA):TE:=fun σ H Q=>ta σ H (xhz fun j H1=>∀p,H1 p=none→Q (.ref p) (upd H1 p (.rng 0 j)))
theorem xcH{a b:Expr}{ta:TA}{p pos:Pos}(hg:Gl X "range")(hm:X.mg "range"=none)(ha:PA X [a,b] ta)(hs:aI [a,b] X.env=[(false,eval a X.env),(false,eval b X.env)]:=by rfl)(hs2:aI [b] X.env=[(false,eval b X.env)]:=by rfl):
  PE X (.Call (.Name "range" p) [a,b] [] pos) (xqh ta):=by
 intro pins s σ H Q I h;refine Call_ (yO I hg hm j4 (bO (thn (ha pos pins s σ H _ I h) fun us s1 ⟨vs,H1,I1,r1,q1⟩=>?_) (by rw[hs,hs2]) (by rw[hs2];rfl)));obtain⟨i,j,rfl,q⟩:=xeg q1;obtain⟨t,t',rfl⟩:=xji r1;refine call_range_2 ⟨.ref s1.heap.objs.size,upd H1 s1.heap.objs.size (.rng i j),I1.laid (fun b o e=>ag _ e) (ak _) ⟨_,_,_,aA _ rfl⟩,rfl,q _ (I1.hok.fresh (ak _))⟩
theorem xls{a:Expr}{ta:TA}{p pos:Pos}(hg:Gl X "range")(hm:X.mg "range"=none)(ha:PA X [a] ta)(hs:aI [a] X.env=[(false,eval a X.env)]:=by rfl):
  PE X (.Call (.Name "range" p) [a] [] pos) (xpn ta):=by
 intro pins s σ H Q I h;refine Call_ (yO I hg hm j4 (bO (thn (ha pos pins s σ H _ I h) fun us s1 ⟨vs,H1,I1,r1,q1⟩=>?_) hs rfl));obtain⟨j,rfl,q⟩:=xfH q1;obtain⟨t,rfl⟩:=xjh r1;refine call_range_1 ⟨.ref s1.heap.objs.size,upd H1 s1.heap.objs.size (.rng 0 j),I1.laid (fun b o e=>ag _ e) (ak _) ⟨_,_,_,aA _ rfl⟩,rfl,q _ (I1.hok.fresh (ak _))⟩
end
end L2
namespace PySem
open Sem (wp)
section
variable {prog:aG} {w:World} {A:aL} {E:Value→ae→Prop} {s:ae}
theorem xj5{R:fJ→ae→Prop}{r:Addr}{a b c:Int}{t u v:Tok}{k:Nat}(hnd:A.handled=none)(hr:IsRange s.heap r a b c t u v)(hbig:gH a b c=false)
  (hk:bb a b c=k) (hle:k≤2^24) (D:Addr) (z:Value) (m₀:Nat) (hD:s.heap.get? D=some {cls:=.type "list",data:=.seq #[] m₀})
  (hR:∀g tk xs m,(∀b o,b≠D→s.heap.get? b=some o→g.get? b=some o)→g.get? D=some {cls:=.type "list",dict:=none,data:=.seq xs m,slots:=#[]}→
   ie (fun i v=>∃t,v= .int (a+i*c) t) xs k→R (.ok (.ret z)) {s with heap:=g,toks:=tk}):
  wpAny (model prog w) A.in1 (bC (.ref D) (.ref r) z)
   (fun fin s'=>match fin with| .done f=>R (.ok f) s'| .again d=>d.quiet=true∧cD (model prog w) A d R s') (fun e s'=>R (.error e) s') s:=by
 have nDr:D≠r:=fun e=>by rw[e,hr]at hD;simp at hD
 have nDI:D≠s.heap.objs.size:=aq (ai hD);have nDf:D∉[s.heap.objs.size]:=fun q=>nDI (aE.mp q);have Wk:=(Walks.longrange (prog:=prog) (w:=w) (A:=A.in1) hnd s.heap.objs.size a c k).toS;have fin:∀(g:Heap) (m₁ tk:Nat),j3 g s.heap.objs.size (a+((0:Nat):Int)*c) ((k:Int) - ((0:Nat):Int)) c→(∀b o,b≠D→s.heap.get? b=some o→g.get? b=some o)→
   g.get? D=some {cls:=.type "list",data:=.seq #[] m₁}→cD (model prog w) A (.builtin "list.extend.loop" ⟨[.ref D,.ref s.heap.objs.size,z],[]⟩) R {s with heap:=g,toks:=tk}:=by
  intro g m₁ tk q1 q2 q3;refine codeAny_extend_loopS Wk (by rw[ax];omega) D nDf z k 0 _ #[] m₁ rfl (aN _) q1 q3 (ItemsOf.nil _) fun s' xs m hm hD' hx=>?_;rw[Moved.eq_with hm];refine hR s'.heap s'.toks xs m (fun b o hb e=>hm.heap b o (fun hq=>?_) (q2 b o hb e)) hD' hx;rcases ar.mp hq with e'|hq
  ·exact hb e'
  ·exact absurd (ai e) (by rw[aE.mp hq];exact bJ _)
 unfold bC;refine aa (gC (T:="range") ⟨_,hr,rfl⟩ ?_);have x1:dY (.ref D) (.ref r)=false:=by simp[dY,nDr]
 have x2:(cF "range"==cF "list")=false:=by decide
 have x3:(cF "range"==cF "tuple")=false:=by decide
 simp only[x1,x2,x3,Bool.or_false,cf,if_false];refine aa (wpAny_pyIter_longrange hr hbig ?_);refine aa (bA (wpAny_hint_range (n:=k) (ag _ hr) hk hle ?_));generalize hG:s.heap.push {cls:=.type "longrange_iterator",data:=.fields #[bX a,bX (bb a b c),bX c]}=G;have i1:j3 G s.heap.objs.size (a+((0:Nat):Int)*c) ((k:Int) - ((0:Nat):Int)) c:=by
  have q:G.get? s.heap.objs.size=some {cls:=.type "longrange_iterator",data:=.fields #[bX a,bX (bb a b c),bX c]}:=by rw[←hG];exact aA _ rfl
  rw[hk]at q;show G.get? _=_;rw[q];simp
 have old:∀b o,s.heap.get? b=some o→G.get? b=some o:=fun b o e=>by rw[←hG];exact ag _ e
 have d1:=old D _ hD;refine wpAny_ite_split (fun _=>?_) (fun _=>ao ⟨bV gI _,fin _ m₀ _ i1 (fun b o _ e=>old b o e) d1⟩);refine aa (gY ?_);refine aa ?_;show wpAny _ _ (fO D (·.push .none) >>= fun _=>fO D (·.pop)) _ _ _;refine aa (cM d1 rfl ?_);have d2:=bP (aV (·.push a8)) d1 rfl;refine cM (hz:=by seq_fits) d2 rfl ?_;have d3:=bP (aV (·.pop)) d2 rfl;refine ao ⟨bV gI _,fin _ _ _ ?_ (fun b o hb e=>?_) d3⟩
 ·exact(aZ _ _ nDI).trans ((aZ _ _ nDI).trans i1)
 ·exact(aZ _ _ (aR hb)).trans ((aZ _ _ (aR hb)).trans (old b o e))
theorem xeR{R:fJ→ae→Prop}{r:Addr}{a b c:Int}{t u v:Tok}{k:Nat}(hnd:A.handled=none)(hr:IsRange s.heap r a b c t u v)
  (hk:bb a b c=k) (hle:k≤2^24) (D:Addr) (z:Value) (m₀:Nat) (hD:s.heap.get? D=some {cls:=.type "list",data:=.seq #[] m₀})
  (hR:∀g tk xs m,(∀b o,b≠D→s.heap.get? b=some o→g.get? b=some o)→g.get? D=some {cls:=.type "list",dict:=none,data:=.seq xs m,slots:=#[]}→
   ie (fun i v=>∃t,v= .int (a+i*c) t) xs k→R (.ok (.ret z)) {s with heap:=g,toks:=tk}):
  wpAny (model prog w) A.in1 (bC (.ref D) (.ref r) z)
   (fun fin s'=>match fin with| .done f=>R (.ok f) s'| .again d=>d.quiet=true∧cD (model prog w) A d R s') (fun e s'=>R (.error e) s') s:=by
 cases hs:gH a b c with
 |true=>exact wpAny_extend_range hnd hr hs hk hle D z m₀ hD hR
 |false=>exact xj5 hnd hr hs hk hle D z m₀ hD hR
theorem xfI{Q:Value→ae→Prop}{r:Addr}{a b c:Int}{t u v:Tok}{k:Nat}(hnd:A.handled=none)(hr:IsRange s.heap r a b c t u v)
  (hk:bb a b c=k) (hle:k≤2^24)
  (hQ:∀g tk xs m,(∀b o,s.heap.get? b=some o→g.get? b=some o)→
   g.get? s.heap.objs.size=some {cls:=.type "list",dict:=none,data:=.seq xs m,slots:=#[]}→ie (fun i v=>∃t,v= .int (a+i*c) t) xs k→Q (.ref s.heap.objs.size) {s with heap:=g,toks:=tk}):
  wpAny (model prog w) A (call (.type "list") [.ref r]) Q E s:=by
 refine iS (Q₁:=fun obj s₁=>obj= .ref s.heap.objs.size∧s₁={s with heap:=s.heap.push {cls:=.type "list",data:=.seq #[]}}) F.called_list (F.typeCall_list_1 _) F.entry_list_init
  (code_list_new _ ⟨rfl,rfl⟩) fun obj s₁ q₁=>?_
 obtain⟨rfl,rfl⟩:=q₁;generalize hG:s.heap.push {cls:=.type "list",data:=.seq #[]}=G;have old:∀b o,s.heap.get? b=some o→G.get? b=some o:=fun b o e=>by rw[←hG];exact ag _ e
 have hD:G.get? s.heap.objs.size=some {cls:=.type "list",data:=.seq #[]}:=by rw[←hG];exact aA _ rfl
 have nDr:s.heap.objs.size≠r:=fun e=>absurd (ai hr) (by rw[←e];exact bJ _);refine⟨⟨_,hD,rfl⟩,F.args_list_init_2 _ _,?_⟩;show wpAny _ _ (do let old ←eK (.ref s.heap.objs.size);iD (.ref s.heap.objs.size) (fun _=>#[]);letGo old.toList.reverse;bC (.ref s.heap.objs.size) (.ref r) .none) _ _ _;refine aa ?_;unfold eK;refine aa (eU hD rfl (ao ?_));show wpAny _ _ (fO s.heap.objs.size (fun _=>#[]) >>= fun _=>letGo (#[]:Array Value).toList.reverse >>= fun _=>bC (.ref s.heap.objs.size) (.ref r) .none) _ _ _;refine aa (cM hD rfl ?_);have d2:=bP (aV (fun _=>(#[]:Array Value))) hD rfl;have oth:∀b o,b≠s.heap.objs.size→G.get? b=some o→(G.update s.heap.objs.size (aV (fun _=>(#[]:Array Value)))).get? b=some o:=
  fun b o hb e=>(aZ _ _ (aR hb)).trans e
 refine aa (dg ?_);refine xeR (A:=A.in1) hnd (oth r _ (aR nDr) (old r _ hr)) hk hle s.heap.objs.size .none _ d2 fun g tk xs m q1 q2 q3=>⟨rfl,?_⟩;exact hQ g tk xs m (fun b o e=>q1 b o (aq (ai e)) (oth b o (aq (ai e)) (old b o e))) q2 q3
end
end PySem
namespace L2
open PySem PySem.Spec PyProof.Rows
def xcI(lo:Int)(n:Nat):List V:=(a9 n).map fun(i:Nat)=>V.int (lo+(i:Int))
theorem xdR(lo:Int)(n:Nat):(xcI lo n).length=n:=by simp[xcI]
theorem vU:∀{xs:List V} {us:List Value},xs.length=us.length→(∀(j:Nat) (x:V) (u:Value),xs[j]? =some x→us[j]? =some u→RelV x u)→Vals xs us
 |[],[],_,_=>.nil
 |[],_::_,h,_=>by simp at h
 |_::_,[],h,_=>by simp at h
 |x::xs,u::us,h,k=>.cons (k 0 x u rfl rfl) (vU (by simpa using h) fun j y v e1 e2=>k (j+1) y v (by simpa using e1) (by simpa using e2))
theorem xj6{lo:Int}{n:Nat}{xs:Array Value}(h:ie (fun i v=>∃t,v= .int (lo+(i:Int)*1) t) xs n):Vals (xcI lo n) xs.toList:=by
 obtain⟨hl,hv⟩:=h;refine vU (by rw[xdR];simp[hl]) fun j x u e1 e2=>?_;obtain⟨t,rfl⟩:=hv j u (by simpa using e2);unfold xcI at e1;rw[aF]at e1;cases q:(a9 n)[j]? with
 |none=>rw[q]at e1;cases e1
 |some i=>
  rw[q]at e1;have e3:i=j:=by
   obtain⟨h1,h2⟩:=aH.mp q;rw[List.getElem_range]at h2;exact h2.symm
  subst e3;cases e1;exact⟨t,by rw[Int.mul_one]⟩
section
variable {X:Cx}
theorem jo(hc:X.calm=true):yn X (.type "list") (fun xs H Q=>∃p lo hi,xs=[.ref p]∧H p=some (.rng lo hi)∧yv lo hi 1≤2^24∧∀l,H l=none→Q (.ref l) (upd H l (.lst (xcI lo (yv lo hi 1))))):=by
 intro pins s σ H xs us Q I r h;obtain⟨p,lo,hi,rfl,hp,hz,q⟩:=h;obtain⟨u,rfl,ru⟩:=Vals.one r;cases ru;obtain⟨t,u,v,hr⟩:=I.hok p _ hp;refine xfI (I.ok.hd hc) hr (xgu lo hi 1).symm hz fun g tk xs m k1 k2 k3=>?_;have fr:H s.heap.objs.size=none:=I.hok.fresh (ak _);refine⟨.ref s.heap.objs.size,upd H s.heap.objs.size (.lst (xcI lo (yv lo hi 1))),I.laid (h':=g) (t':=tk) k1 (ak _) ⟨?_,xs.toList,m,xj6 k3,by simpa using k2⟩,rfl,q _ fr⟩;rw[xdR,ax];omega
end
end L2
namespace L2
open PySem PySem.Spec PyProof.Rows
mutual
inductive Rp(K:ah)(H:Hp):V→iq→Prop
 |non:Rp K H .non .none
 |bl (b:Bool):Rp K H (.bl b) (.bool b)
 |int (i:Int):Rp K H (.int i) (.int i)
 |str (x:Str):Rp K H (.str x) (.str x)
 |lst {a:Addr} {xs:List V} {ds:List iq}:SqL K H a xs→Rps K H xs ds→Rp K H (.ref a) (.list ds)
 |tup {a:Addr} {xs:List V} {ds:List iq}:SqT K H a xs→Rps K H xs ds→Rp K H (.ref a) (.tuple ds)
inductive Rps(K:ah)(H:Hp):List V→List iq→Prop
 |nil:Rps K H [] []
 |cons {x:V} {d:iq} {xs:List V} {ds:List iq}:Rp K H x d→Rps K H xs ds→Rps K H (x::xs) (d::ds)
end
theorem xb.seqT{K:ah}{H H':Hp}{a:Addr}{xs:List V}(e:xb H H')(h:SqT K H a xs):SqT K H' a xs:=by
 rcases h with(h|⟨o,h⟩)|h
 ·exact .inl (.inl (e _ _ h))
 ·exact .inl (.inr ⟨o,e _ _ h⟩)
 ·exact .inr h
theorem Rps.ints{K:ah}{H:Hp}:∀ns:List Int,Rps K H (ns.map V.int) (ns.map dP)
 |[]=>.nil
 |i::r=>.cons (.int i) (Rps.ints r)
theorem Rp.ints{K:ah}{H:Hp}{a:Addr}{ns:List Int}(h:SqL K H a (ns.map V.int)):Rp K H (.ref a) (.list (ns.map dP)):=.lst h (.ints ns)
section
variable {X:Cx} {pins:List (Addr×Obj)} {σ:St} {H:Hp} {s:ae}
mutual
theorem Rp.reads(I:Inv X pins σ H s):∀{v:V} {d:iq} {u:Value},Rp X.K H v d→RelV v u→∃as,Reads s.heap u d as
 |_,_,u,.non,r=>by cases (show u=a8 from r);exact⟨_,.none⟩
 |_,_,u,.bl b,r=>by cases (show u=dB b from r);exact⟨_,.bool b⟩
 |_,_,u,.int i,r=>by obtain⟨t,e⟩:=(show∃t,u=eA i t from r);subst e;exact⟨_,.int i t⟩
 |_,_,u,.str x,r=>by obtain⟨t,e⟩:=(show∃t,u=gn x t from r);subst e;exact⟨_,.str x t⟩
 |_,_,u,.lst (a:=a) q rr,r=>by
  cases (show u=aT a from r);obtain⟨its,rv,p,hz⟩:=I.list q;obtain⟨as,ra⟩:=Rps.reads I rr rv;obtain⟨o,ho,hc,n,hd⟩:=p.isList;exact⟨_,.list ho hc hd (by simpa using ra)⟩
 |_,_,u,.tup (a:=a) q rr,r=>by
  cases (show u=aT a from r);obtain⟨its,rv,p,hz⟩:=I.tuple q;obtain⟨as,ra⟩:=Rps.reads I rr rv;obtain⟨o,ho,hc,n,hd⟩:=p;exact⟨_,.tuple ho hc hd (by simpa using ra)⟩
theorem Rps.reads(I:Inv X pins σ H s):∀{v:List V} {d:List iq} {u:List Value},Rps X.K H v d→Vals v u→∃as,ReadsAll s.heap u d as
 |_,_,_,.nil,.nil=>⟨_,.nil⟩
 |_,_,_,.cons q rr,.cons r t=>by
  obtain⟨as,h1⟩:=Rp.reads I q r;obtain⟨bs,h2⟩:=Rps.reads I rr t;exact⟨_,.cons h1 h2⟩
end
end
def xhA(K:ah)(f:Bool→Bool):R2:=fun x y H Q=>∃da db,Rp K H x da∧Rp K H y db∧SeqAt.shaped da=true∧SeqAt.shaped db=true∧Q (.bl (f (kX da db))) H
section
variable {X:Cx}
theorem xj7(hu:X.A.units+64<cLine):OpR X (bK .Eq) (xhA X.K fun b=>b):=by
 intro pins s σ H x y v u Q I rx ry q;obtain⟨da,db,hx,hy,sa,sb,q⟩:=q;obtain⟨as,ra⟩:=hx.reads I rx;obtain⟨bs,rb⟩:=hy.reads I ry;exact eq_dataH ra rb sa sb hu ⟨.bl (kX da db),H,I,rfl,q⟩
theorem xnI(hu:X.A.units+64<cLine):OpR X (bK .NotEq) (xhA X.K fun b=> !b):=by
 intro pins s σ H x y v u Q I rx ry q;obtain⟨da,db,hx,hy,sa,sb,q⟩:=q;obtain⟨as,ra⟩:=hx.reads I rx;obtain⟨bs,rb⟩:=hy.reads I ry;exact ne_dataH ra rb sa sb hu ⟨.bl (!PyData.eqv da db),H,I,rfl,q⟩
def xqZ(K:ah)(f:Bool→Bool):R2:=fun x y H Q=>∃(a b:Addr) (ns ms:List Int),x= .ref a∧y= .ref b∧SqL K H a (ns.map V.int)∧SqL K H b (ms.map V.int)∧Q (.bl (f (decide (ns=ms)))) H
theorem xdA{K:ah}{f:Bool→Bool}{x y:V}{H:Hp}{Q:VK}(q:xqZ K f x y H Q):xhA K f x y H Q:=by
 obtain⟨a,b,ns,ms,rfl,rfl,ha,hb,q⟩:=q;refine⟨_,_,.ints ha,.ints hb,W.ke_shaped_ints ns,W.ke_shaped_ints ms,?_⟩;have e:kX (.list (ns.map dP)) (.list (ms.map dP))=decide (ns=ms):=W.ked_eqvAll ns ms;rw[e];exact q
def xpo:V→Option Value
 | .ty n=>some (.type n)
 | .ref a=>some (.ref a)
 |_=>none
theorem xmL{c:V}{cv v:Value}(h:xpo c=some cv)(r:RelV c v):v=cv:=by
 cases c with
 |ref a=>cases h;exact r
 |ty n=>cases h;exact r
 |_=>cases h
def xpp(K:ah):List V→Hp→VK→Prop:=fun xs H Q=>∃x c t cv b,xs=[x,c]∧xpo c=some cv∧ze K H x t∧e7 K t cv=some b∧Q (.bl b) H
theorem zy:yn X (.builtin "isinstance") (xpp X.K):=by
 intro pins s σ H xs us Q I r h;obtain⟨x,c,t,cv,b,rfl,rc,ty,e,q⟩:=h;obtain⟨u,v,rfl,ru,rv⟩:=Vals.two r;have e2:=xmL rc rv;subst e2;exact xlf I ru ty e fun tk=>⟨.bl b,H,I.tok _,rfl,q⟩
structure xmM(K:ah)(C:Addr)(m:Str)(f:Addr):Prop where
 sp:iJ K (.ref C) "__getattribute__"=some (some (.builtin "type.__getattribute__"))
 rd:W.readsIn K C (.type "type")=true
 fd:W.findCls K (.ref C) (.type "type") m=some (.val (.ref f))
 kp:cR K (.ref f)=true
theorem xfJ{x m:Str}{C f:Addr}{fd:aw}{ps:List Str}{sp:Sp}{dvs:List V}{ds:List Value}{E:XK}{CX:CXT}{k:Nat}{p apos pos:Pos}{e:Expr}{es:List Expr}{t:TA}{pl:Sem Bool}
  (hg:Gl X x) (hm:X.mg x=some (.ref C)) (M:xmM X.K C m f) (F:xy X.prog X.w X.K X.mg X.base CX k f fd ps sp) (hr:xI k X.A) (hb:Binds X.K fd ps ds) (hd:Vals dvs ds) (hx:Passes CX X E) (ha:PA X (e::es) t)
  (hst:aI (e::es) X.env=(false,eval e X.env)::aI es X.env:=by rfl) (hpl:(bN pos (aI es X.env)).any (·.1)=false:=by rfl) (hdb:(x==("__debug__":Str))=false:=by decide)
  (ht:eval (.Call (.Attribute (.Name x p) m apos) (e::es) [] pos) X.env=(do
   let ov ←eval (.Name x p) X.env
   ia apos.atName
   let(f,first) ←dU [ov] (gq ov m pl)
   gc pos f first (bN pos (aI (e::es) X.env)) (gL pos (fj [] X.env))):=by rfl):
  PE X (.Call (.Attribute (.Name x p) m apos) (e::es) [] pos) (xdw sp dvs E t):=by
 intro pins s σ H Q I h;refine fB (pl:=pl) (vD I hg hm ?_ hdb) ht;refine W.method_cls I.kIn M.sp (W.cls_value I.kIn M.rd M.fd rfl ?_);have I1:=I.tok (s.toks+1);refine fL (first:=[]) (h₀:=X.base) I.ok.mod.kin M.kp (thn (ha pos pins _ σ H _ I1 h) fun us s2 ⟨vs,H2,I2,r,q2⟩=>⟨I2.kIn,?_⟩) hst hpl;exact xeL F hr hb hd hx I2 r q2
end
end L2
namespace L2
open PySem PySem.Spec PyProof.Rows
theorem xM:bG "len"=some (.builtin "len"):=by decide+kernel
theorem xaa:bG "max"=some (.builtin "max"):=by decide+kernel
theorem xbq:bG "min"=some (.builtin "min"):=by decide+kernel
theorem xpq:bG "abs"=some (.builtin "abs"):=by decide+kernel
theorem xZ:bG "isinstance"=some (.builtin "isinstance"):=by decide+kernel
theorem xgw:bG "sorted"=some (.builtin "sorted"):=by decide+kernel
theorem xpr:bG "any"=some (.builtin "any"):=by decide+kernel
theorem xps:bG "all"=some (.builtin "all"):=by decide+kernel
theorem vK:bG "list"=some (.type "list"):=by decide+kernel
theorem vL:bG "tuple"=some (.type "tuple"):=by decide+kernel
theorem xpt:bG "int"=some (.type "int"):=by decide+kernel
theorem xn5:bG "bool"=some (.type "bool"):=by decide+kernel
theorem xn6:bG "dict"=some (.type "dict"):=by decide+kernel
theorem xcJ:bG "enumerate"=some (.type "enumerate"):=by decide+kernel
theorem xiG:bG "reversed"=some (.type "reversed"):=by decide+kernel
theorem xn7{f:Str}{v:V}{fs:List (Str×V)}{n:Nat}(h:fs.length<n):(zP f v fs).length<n+1:=dD (xa5 f v fs) (by lia)
section
variable {X:Cx} {a b c:Expr} {ta tb:TE} {pos:Pos}
theorem xcK(hc:X.calm=true):yn X (.builtin "max") (fun xs H Q=>xeQ (fun i j H1=>Q (.int (max i j)) H1) xs H):=(xlb hc).imp fun xs H Q q=>by
 obtain⟨i,j,rfl,q⟩:=xeg q;refine⟨i,j,rfl,?_⟩;have e:(if j > i then j else i)=max i j:=by split<;> lia
 rw[e];exact q
theorem xlt(hc:X.calm=true):yn X (.builtin "min") (fun xs H Q=>xeQ (fun i j H1=>Q (.int (min i j)) H1) xs H):=(xlc hc).imp fun xs H Q q=>by
 obtain⟨i,j,rfl,q⟩:=xeg q;refine⟨i,j,rfl,?_⟩;have e:(if j<i then j else i)=min i j:=by split<;> lia
 rw[e];exact q
theorem xqi:yn X (.builtin "abs") (fun xs H Q=>xhz (fun i H1=>Q (.int (i.natAbs:Int)) H1) xs H):=xmD.imp fun xs H Q q=>by
 obtain⟨i,rfl,q⟩:=xfH q;refine⟨i,rfl,?_⟩;have e:(if i<0 then -i else i)=(i.natAbs:Int):=by split<;> lia
 rw[e];exact q
def isN:V→Bool
 | .non=>true
 |_=>false
theorem xjj(x:V):decide (x= .non)=isN x:=by cases x<;> simp[isN]
def xqj(ta:TE):TT:=fun σ H Q=>ta σ H fun x H1=>Q (isN x) H1
def xpu(ta:TE):TT:=fun σ H Q=>ta σ H fun x H1=>Q (!isN x) H1
theorem xhB{j pos'}(ha:PE X a ta):PT X (.Compare a [.Is] [.Constant .none j pos'] pos) (xqj ta):=(xk2 (xoX ha)).imp fun σ H Q q=>by
 show ta σ H _;have e:(fun x H1=>∃c,V.bl (decide (x=V.non))= .bl c∧Q c H1)=fun x H1=>Q (isN x) H1:=by
  funext x H1;rw[xjj];apply propext;exact⟨fun⟨c,e,q⟩=>by cases e;exact q,fun q=>⟨_,rfl,q⟩⟩
 rw[e];exact q
theorem xn8{j pos'}(ha:PE X a ta):PT X (.Compare a [.IsNot] [.Constant .none j pos'] pos) (xpu ta):=(xk2 (xnQ ha)).imp fun σ H Q q=>by
 show ta σ H _;have e:(fun x H1=>∃c,V.bl (!decide (x=V.non))= .bl c∧Q c H1)=fun x H1=>Q (!isN x) H1:=by
  funext x H1;rw[xjj];apply propext;exact⟨fun⟨c,e,q⟩=>by cases e;exact q,fun q=>⟨_,rfl,q⟩⟩
 rw[e];exact q
theorem xab{body:List Stmt}{tc:TT}{tb:TS}(hp:PassesOwn (model X.prog X.w) X.A X.env X.xe)(hc:PT X c tc)(hb:PSs X body tb):PS X (.While c body [] pos) (xlo tc tb):=by
 intro pins s σ H D I h;unfold xlo xdz at h;obtain⟨W,⟨m0,w0⟩,turn⟩:=h;refine wpAny_While (codeAny_whileLoop (fun n s'=>∃σ' H',Inv X pins σ' H' s'∧W n σ' H') ?_ m0 ⟨σ,H,I,w0⟩);rintro n s1 ⟨σ1,H1,I1,w1⟩;refine dH hp (thn (hc pins s1 σ1 H1 _ I1 (turn n σ1 H1 w1)) fun b s2 ⟨H2,I2,q2⟩=>?_);cases b with
 |true=>
  obtain⟨N,hN,q2⟩:=q2.1 rfl;rw[if_pos rfl];refine dH hp (thn (hb pins s2 σ1 H2 _ I2 q2) fun f s3 q3=>?_);cases f with
  |next=>
   obtain⟨σ3,H3,I3,n3⟩:=q3;obtain⟨m',hm,w3⟩:=hN σ3 H3 n3;exact⟨m',hm,σ3,H3,I3,w3⟩
  |cont=>
   obtain⟨σ3,H3,I3,n3⟩:=q3;obtain⟨m',hm,w3⟩:=hN σ3 H3 n3;exact⟨m',hm,σ3,H3,I3,w3⟩
  |brk=>exact q3
  |ret v=>exact q3
 |false=>
  rw[if_neg aC];exact fA ⟨σ1,H2,I2,q2.2 rfl⟩
end
theorem xcL{lo st:Int}{n:Nat}{g:TG}{tb:TS}{D:Ends}{σ:St}{H:Hp}(Pv:Nat→St→Hp→Prop)(h0:Pv 0 σ H)
  (hs:∀(i:Nat) σ H,i<n→Pv i σ H→g (.int (lo+i*st)) σ H fun σ2 H2=>tb {D with nx:=Pv (i+1),ct:=Pv (i+1),bk:=D.nx} σ2 H2) (hd:∀σ H,Pv n σ H→D.nx σ H):uc (Its lo st n) g tb D σ H:=by
 unfold uc;refine⟨fun i m σ H=>m=n - i∧i≤n∧Pv i σ H,⟨n,by simp,aN _,h0⟩,?_⟩;rintro i m σ H ⟨rfl,hi,p⟩
 by_cases hlt:i<n
 ·refine .inr ⟨hlt,Pv (i+1),fun σ' H' p'=>⟨n - (i+1),by lia,rfl,hlt,p'⟩,fun x H' y=>?_⟩;obtain⟨e,y⟩:=y;subst e y;exact hs i σ _ hlt p
 ·have e:i=n:=by lia
  subst e;exact .inl ⟨ak _,hd σ H p⟩
theorem vc{K:ah}{l:Addr}{xs:List V}{g:TG}{tb:TS}{D:Ends}{σ:St}{H:Hp}(Pv:Nat→St→Hp→Prop)(h0:Pv 0 σ H)(hl:∀i σ H,i≤xs.length→Pv i σ H→SqL K H l xs)
  (hs:∀i x σ H,xs[i]? =some x→Pv i σ H→g x σ H fun σ2 H2=>tb {D with nx:=Pv (i+1),ct:=Pv (i+1),bk:=D.nx} σ2 H2) (hd:∀σ H,Pv xs.length σ H→D.nx σ H):uc (Itl K l) g tb D σ H:=by
 unfold uc;exact xmA Pv h0 hl hs hd
theorem xlu{K:ah}{l:Addr}{xs:List V}{g:TG}{tb:TS}{D:Ends}{σ:St}{H:Hp}(Pv:Nat→St→Hp→Prop)(h0:Pv 0 σ H)(hl:∀i σ H,i≤xs.length→Pv i σ H→SqT K H l xs)
  (hs:∀i x σ H,xs[i]? =some x→Pv i σ H→g x σ H fun σ2 H2=>tb {D with nx:=Pv (i+1),ct:=Pv (i+1),bk:=D.nx} σ2 H2) (hd:∀σ H,Pv xs.length σ H→D.nx σ H):uc (Itt K l) g tb D σ H:=by
 unfold uc;exact xnS Pv h0 hl hs hd
theorem xb.new{H:Hp}{p:Addr}{o:HO}(h:H p=none):xb H (upd H p o):=fun b u e=>by rw[xj (xv e h)];exact e
theorem xb.put{H H':Hp}{p:Addr}{o:HO}(e:xb H H')(h:H p=none):xb H (upd H' p o):=fun b u q=>by rw[xj (xv q h)];exact e b u q
theorem xb.at{H H':Hp}{p:Addr}{o:HO}(e:xb H H')(h:H p=some o):H' p=some o:=e p o h
end L2
namespace L2
open PySem PySem.Spec PyProof.Rows
theorem xb.of_eq{H H':Hp}{p:Addr}{o:HO}(h:H p=none)(e:upd H p o=H'):xb H H':=by rw[←e];exact xb.new h
theorem xn{H H':Hp}{p:Addr}{o:HO}(e:upd H p o=H'):H' p=some o:=by rw[←e];exact xk
theorem xb.back{H H':Hp}{p:Addr}(e:xb H H')(h:H' p=none):H p=none:=xb.free e h
theorem xb.wr{H0 H H':Hp}{p:Addr}{o:HO}(s:xb H0 H)(f:H0 p=none)(e:upd H p o=H'):xb H0 H':=by rw[←e];exact s.put f
end L2
namespace L2
open PySem PySem.Spec PyProof.Rows
structure yH(H0 H:Hp)(l:Addr)(as:List Addr)(xss:List (List Int)):Prop where
 top:H l=some (.lst (as.map V.ref))
 nd:(l::as).Nodup
 len:as.length=xss.length
 each:∀(i:Nat) (a:Addr) (xs:List Int),as[i]? =some a→xss[i]? =some xs→H a=some (.lst (xs.map V.int))
 fr:H0 l=none
 frs:∀a∈as,H0 a=none
theorem yH.same{H0 H H':Hp}{l:Addr}{as:List Addr}{xss:List (List Int)}(L:yH H0 H l as xss)(s:xb H H'):yH H0 H' l as xss:=
 ⟨s.at L.top,L.nd,L.len,fun i a xs h1 h2=>s.at (L.each i a xs h1 h2),L.fr,L.frs⟩
theorem yH.base{H0 H0' H:Hp}{l:Addr}{as:List Addr}{xss:List (List Int)}(L:yH H0 H l as xss)(s:xb H0' H0):yH H0' H l as xss:=
 ⟨L.top,L.nd,L.len,L.each,s.back L.fr,fun a ha=>s.back (L.frs a ha)⟩
theorem yH.nil{H0 H H':Hp}{l:Addr}(h:H0 l=none)(e:H l=some (.lst [])):yH H0 H l [] []:=
 ⟨e,by simp,rfl,fun i a xs h1 _=>by simp at h1,h,fun a ha=>by simp at ha⟩
theorem yH.tracked{H0 H:Hp}{l:Addr}{as:List Addr}{xss:List (List Int)}(L:yH H0 H l as xss){a:Addr}(ha:a∈as):∃xs:List Int,H a=some (.lst (xs.map V.int)):=by
 obtain⟨i,hi,rfl⟩:=cZ.mp ha;have h2:i<xss.length:=by rw[←L.len];exact hi
 exact⟨xss[i],L.each i _ _ (aj hi) (aj h2)⟩
theorem yH.apart{H0 H:Hp}{l:Addr}{as:List Addr}{xss:List (List Int)}(L:yH H0 H l as xss){p:Addr}(h:H p=none):p∉l::as:=by
 intro z;rcases ar.mp z with rfl|z
 ·rw[L.top]at h;cases h
 ·obtain⟨xs,e⟩:=L.tracked z;rw[e]at h;cases h
theorem yH.push{H0 H H':Hp}{l p:Addr}{as:List Addr}{xss:List (List Int)}{xs:List Int}(L:yH H0 H l as xss)(hp:H p=some (.lst (xs.map V.int)))(hne:p∉l::as)(hf:H0 p=none)
  (e:upd H l (.lst (as.map V.ref++[.ref p]))=H'):yH H0 H' l (as++[p]) (xss++[xs]):=by
 subst e;have hpl:p≠l:=fun z=>hne (by rw[z];exact aS);have hpa:p∉as:=fun z=>hne (aD _ z);obtain⟨n1,n2⟩:=cA.mp L.nd;refine⟨by rw[xk,aJ];rfl,?_,by simp[L.len],fun i a ys h1 h2=>?_,L.fr,fun a ha=>?_⟩
 ·refine cA.mpr ⟨fun z=>?_,xjf n2 hpa⟩;rcases aY.mp z with z|z
  ·exact n1 z
  ·exact hpl (aE.mp z).symm
 ·have hla:a∈as++[p]:=aB h1;have nal:a≠l:=fun z=>by
   subst z;rcases aY.mp hla with z|z
   ·exact n1 z
   ·exact hpl (aE.mp z).symm
  rw[xj nal]
  by_cases hi:i<as.length
  ·rw[bj hi]at h1;rw[bj (by rw[←L.len];exact hi)]at h2;exact L.each i a ys h1 h2
  ·rw[bE (by lia)]at h1;rw[bE (by rw[←L.len];lia)]at h2;have e1:i - as.length=0:=by
    cases hq:i - as.length with
    |zero=>rfl
    |succ k=>rw[hq]at h1;simp at h1
   rw[e1]at h1;rw[←L.len,e1]at h2;simp at h1 h2;rw[←h1,←h2];exact hp
 ·rcases aY.mp ha with z|z
  ·exact L.frs a z
  ·have z':a=p:=by simpa using z
   rw[z'];exact hf
theorem xbM{lo st:Int}{n:Nat}{te:TE}{caps:L2.St}{Q:VK}{H2:Hp}(f:Nat→List Int)(hn:n≤aQ)
  (hs:∀(i:Nat) (H3:Hp),i<n→xb H2 H3→∀R:VK,(∀l H6,xb H3 H6→H3 l=none→H6 l=some (.lst ((f i).map V.int))→R (.ref l) H6)→te (some (.int (lo+i*st))::caps) H3 R)
  (hd:∀D H' as,xb H2 H'→yH H2 H' D as ((a9 n).map f)→Q (.ref D) H'):yP (Its lo st n) caps xef te Q H2:=by
 unfold yP;intro D hD;refine⟨fun i m acc H3=>m=n - i∧i≤n∧xb H2 H3∧∃as,acc=as.map V.ref∧yH H2 H3 D as ((a9 i).map f),⟨n,by simp,aN _,xb.new hD,[],rfl,yH.nil (H':=H2) hD xk⟩,?_⟩;rintro i m acc H3 ⟨rfl,hi,s3,as,rfl,L⟩;refine⟨L.top,?_⟩
 by_cases hlt:i<n
 ·have hl:as.length=i:=by rw[L.len];simp
  refine .inr ⟨hlt,by simp[hl];lia,fun v H4 y=>?_⟩;obtain⟨e,y⟩:=y;subst e y;refine⟨fun _=>?_,fun z=>by cases z⟩;refine hs i _ hlt s3 _ fun l H6 s6 hl0 hl6=>⟨s6.at L.top,n - (i+1),by lia,rfl,hlt,(s3.trans s6).put hD,as++[l],by rw[aJ];rfl,?_⟩;rw[fE,aJ];exact(L.same s6).push hl6 (L.apart hl0) (s3.back hl0) rfl
 ·have e:i=n:=by lia
  subst e;exact .inl ⟨ak _,hd D H3 as s3 L⟩
section
variable {X:Cx}
end
end L2
namespace L2
open PySem PySem.Spec PyProof.Rows
abbrev HO.any:HO:=.ext fun _=>True
theorem xE.anyOf{P:aG}{w:World}{H:Hp}{h:Heap}{a:Addr}{o:Obj}(e:h.get? a=some o):xE P w H h a (.frz o HO.any):=⟨e,trivial,⟨o,e⟩,fun _ _ _ _=>trivial⟩
def xV(H:Hp)(f:Addr)(nm qual:Str)(params:b7)(body:cV)(scope:Scope)(fv:List (Str×V)):Prop:=
 ∃(clos:List (Str×Addr)) (c:Addr) (o:Obj) (u u':HO) (vs:Array Value) (t:Tok) (doc pm ctv:Value),
  H f=some (.frz {cls:=.type "function",data:=.func {name:=nm,qualname:=qual,params,body,scope,globals:=bz,closure:=clos,defaults:=.none,kwdefaults:=.none,doc,pyModule:=pm,annotations:=none,code:=.ref c,closureTuple:=ctv,builtins:=dh}} u)∧
  H c=some (.frz o u')∧o.data= .fields vs∧vs[1]? =some (.str qual t)∧
  (∀x y a,clos.lookup x=some a→clos.lookup y=some a→x=y)∧(∀x,(x,bR)∈scope.names→∃a,clos.lookup x=some a)∧
  (∀x v,(x,v)∈fv→∃a,clos.lookup x=some a∧H a=some (.cel (some v)))∧∀x a,clos.lookup x=some a→∃v,H a=some (.cel (some v))
theorem xV.same{H H':Hp}{f:Addr}{nm qual:Str}{params:b7}{body:cV}{scope:Scope}{fv:List (Str×V)}(h:xV H f nm qual params body scope fv)(e:xb H H'):xV H' f nm qual params body scope fv:=by
 obtain⟨clos,c,o,u,u',vs,t,doc,pm,ctv,h1,h2,h3,h4,h5,h6,h7,h8⟩:=h;exact⟨clos,c,o,u,u',vs,t,doc,pm,ctv,e _ _ h1,e _ _ h2,h3,h4,h5,h6,fun x v m=>let⟨a,q1,q2⟩:=h7 x v m;⟨a,q1,e _ _ q2⟩,fun x a q=>let⟨v,q2⟩:=h8 x a q;⟨v,e _ _ q2⟩⟩
theorem xn9{pos pos':Pos}{c:Value}(l:List Value)(h:iG l):
  fG pos' (l++[bX pos.line,bX pos.col,c])=(match fG pos' l with
   |some d=>some d
   |none=>if ((pos.line:Int)==pos'.line&&(pos.col:Int)==pos'.col)=true then some c else none):=by
 fun_induction iG l with
 |case1=>simp[fG,bX]
 |case2 a t b u x rest ih=>
  simp only[List.cons_append,fG]
  split
  ·rfl
  ·exact ih h
 |case3 l h1 h2=>exact h.elim
def zJ(K:ah)(c P:Addr):Prop:=∀h:Heap,K.In h→j5 h c P
theorem xgx{cells:List (Str×Addr)}:∀{l:List (Str×dy)} {cs:List (Str×Addr)} {x:Str} {c:Addr},(yu cells l cs).lookup x=some c→(x,bR)∈l∨∃a,cs.lookup x=some a
 |[],cs,x,c,h=>.inr ⟨c,h⟩
 |(n,k)::r,cs,x,c,h=>by
  unfold yu at h;rcases xgx h with q|⟨a,q⟩
  ·exact .inl (aD _ q)
  ·split at q
   ·rename_i hk;rw[bY]at q
    split at q
    ·rename_i hx;have e:x=n:=by simpa using hx
     have e2:k= .free:=by simpa using hk
     subst e;subst e2;exact .inl aS
    ·exact .inr ⟨a,q⟩
   ·exact .inr ⟨a,q⟩
abbrev xbr(name qual:Str)(params:b7)(body:cV)(scope:Scope)(clos:List (Str×Addr))(doc pm cdv ctv:Value):Obj:=
 {cls:=.type "function",data:=.func {name,qualname:=qual,params,body,scope,globals:=bz,closure:=clos,defaults:=.none,kwdefaults:=.none,doc,pyModule:=pm,annotations:=none,code:=cdv,closureTuple:=ctv,builtins:=dh}}
section
variable {M:Model} {A:aL} {E:Value→ae→Prop} {s:ae} {name qual:Str} {params:b7} {body:cV} {scope:Scope} {env:Env} {c P:Addr} {ps:Array Value} {pos:Pos} {firstLine:Nat} {mg:Str→Option Value}
 {clos:List (Str×Addr)} {Q:Value→ae→Prop}
theorem xoa(hcl:i9 scope env=pure clos)(hge0:env.globals=bz)(hg:s.heap.Ns bz mg)(hcode:env.code= .ref c)(C:j5 s.heap c P)(hP:s.heap.get? P=some (gk ps))(ht:iG ps.toList)
  (hnf:fG pos ps.toList=none) (hgP:bz≠P) (hb:s.heap.BuiltinsAt mg P)
  (h:∀c' ctv doc h' tk,Heap.ExtBut P s.heap h'→s.heap.objs.size≤c'→c'<h'.objs.size→h'.CodeRec (.ref c') qual→h'.get? P=some (gk (ps++#[bX pos.line,bX pos.col,.ref c']))→
   Q (.ref h'.objs.size) {s with heap:=h'.push (xbr name qual params body scope clos doc ((mg "__name__").getD .none) (.ref c') ctv),toks:=tk}):
  wpAny M A (makeFunction name qual params body scope env [] [] [] pos firstLine) Q E s:=by
 cases body with
 |stmts b=>exact W.makeFunction_K hcl hge0 hg hcode C hP ht hnf hgP hb h
 |expr e=>exact W.kla_makeFunction hcl hge0 hg hcode C hP ht hnf hgP hb fun c' ctv h' tk=>h c' ctv .none h' tk
theorem xpv{cv:Value}(hcl:i9 scope env=pure clos)(hge0:env.globals=bz)(hg:s.heap.Ns bz mg)(hcode:env.code= .ref c)(C:j5 s.heap c P)(hP:s.heap.get? P=some (gk ps))(ht:iG ps.toList)
  (hf:fG pos ps.toList=some cv) (hb:s.heap.BuiltinsAt mg P)
  (h:∀(ctv doc:Value) (h':Heap) (tk:Tok),(∀b o,s.heap.get? b=some o→h'.get? b=some o)→s.heap.objs.size≤h'.objs.size→
   Q (.ref h'.objs.size) {s with heap:=h'.push (xbr name qual params body scope clos doc ((mg "__name__").getD .none) cv ctv),toks:=tk}):
  wpAny M A (makeFunction name qual params body scope env [] [] [] pos firstLine) Q E s:=by
 cases body with
 |stmts b=>exact W.makeFunction_hit hcl hge0 hg hcode C hP ht hf hb h
 |expr e=>exact W.kla_makeFunctionHit hcl hge0 hg hcode C hP ht hf hb fun ctv h' tk=>h ctv .none h' tk
end
section
variable {X:Cx} {pins:List (Addr×Obj)} {σ:St} {H:Hp} {s:ae} {c P:Addr} {qs:List (Pos×Str)} {name qual:Str} {params:b7} {body:cV} {scope:Scope} {pos:Pos} {fv:List (Str×V)} {Q:VK} {fns:List Str}
def tFn(X:Cx)(P:Addr)(qs:List (Pos×Str))(fns:List Str)(name qual:Str)(params:b7)(body:cV)(scope:Scope):TE:=fun σ H Q=>
 H P=some (.tbl qs)∧∃fv:List (Str×V),fv.map (·.1)=fns∧(∀x v,(x,v)∈fv→∃a,X.env.cells.lookup x=some a∧H a=some (.cel (some v)))∧
  ∀f H',H f=none→xb H H'→xV H' f name qual params body scope fv→Q (.ref f) H'
theorem xob(I:Inv X pins σ H s)(hcode:X.env.code= .ref c)(T:zJ X.K c P)(hq:(pos,qual)∈qs)(hu:(qs.all fun p=> !((pos.line==p.1.line)&&(pos.col==p.1.col))||(p.2==qual))=true)
  (hfr:(scope.names.filter fun y=>y.2== .free).map (·.1)=fns) (h:tFn X P qs fns name qual params body scope σ H Q) {n:Nat}:
  wpAny (model X.prog X.w) X.A (makeFunction name qual params body scope X.env [] [] [] pos n) (EP X pins σ Q) X.xe s:=by
 obtain⟨hP,fv,hn,hf,h⟩:=h;have isfr:∀x,(x,bR)∈scope.names↔x∈fns:=fun x=>by
  rw[←hfr,a7];constructor
  ·exact fun m=>⟨(x,.free),aU.mpr ⟨m,rfl⟩,rfl⟩
  ·rintro⟨⟨y,k⟩,m,rfl⟩;have m2:=aU.mp m;have e:k= .free:=by simpa using m2.2
   subst e;exact m2.1
 have names:∀x,(x,bR)∈scope.names→∃v a,(x,v)∈fv∧X.env.cells.lookup x=some a∧H a=some (.cel (some v)):=fun x hx=>by
  have m:=(isfr x).mp hx;rw[←hn]at m;obtain⟨⟨x',v⟩,hm,rfl⟩:=a7.mp m;obtain⟨a,h1,h2⟩:=hf _ _ hm;exact⟨v,a,hm,h1,h2⟩
 have hcs:∀y∈scope.names,y.2= .free→∃c,X.env.cells.lookup y.1=some c:=fun y hy e=>by
  obtain⟨y1,y2⟩:=y;have e:y2= .free:=e;subst e;obtain⟨_,a,_,h1,_⟩:=names y1 hy;exact⟨a,h1⟩
 have hcl:=jL (scope:=scope) (env:=X.env) hcs;have sub:∀{z:Str} {a:Addr},(yu X.env.cells scope.names []).lookup z=some a→X.env.cells.lookup z=some a:=fun{z a} e=>by
  rcases xbK hcs e with q|q
  ·cases q
  ·exact q
 have subF:∀{z:Str} {a:Addr},(yu X.env.cells scope.names []).lookup z=some a→(z,bR)∈scope.names:=fun{z a} e=>by
  rcases xgx e with q|⟨_,q⟩
  ·exact q
  ·cases q
 have cInj:∀x y a,(yu X.env.cells scope.names []).lookup x=some a→(yu X.env.cells scope.names []).lookup y=some a→x=y:=fun x y a e1 e2=>I.ok.inj x y a (sub e1) (sub e2);have cHas:∀x,(x,bR)∈scope.names→∃a,(yu X.env.cells scope.names []).lookup x=some a:=fun x m=>vJ (.inl m);have cVal:∀x v,(x,v)∈fv→∃a,(yu X.env.cells scope.names []).lookup x=some a∧H a=some (.cel (some v)):=fun x v m=>by
  obtain⟨a,e1,e2⟩:=hf x v m;obtain⟨a',e3⟩:=cHas x ((isfr x).mpr (by rw[←hn];exact fz m));have e4:=sub e3;rw[e1]at e4;cases e4;exact⟨a,e3,e2⟩
 have cAll:∀x a,(yu X.env.cells scope.names []).lookup x=some a→∃v,H a=some (.cel (some v)):=fun x a e=>by
  obtain⟨v,a',_,e1,e2⟩:=names x (subF e);rw[sub e]at e1;cases e1;exact⟨v,e2⟩
 have hg:s.heap.Ns bz X.mg:=I.mod.glob.keeps I.bk;obtain⟨ps,hPo,ht,hent⟩:=I.hok P _ hP;have C:=T s.heap I.kIn;have hgP:bz≠P:=fun q=>by
  obtain⟨o,es,ep,e,hd,_⟩:=hg;rw[q,hPo]at e;cases e;cases hd
 have hB:s.heap.BuiltinsAt X.mg P:=by
  obtain⟨bm,ob,b1,b2,b3,b4,b5,b6⟩:=I.mod.bm;have b3':=I.bk _ _ b3;refine⟨bm,ob,b1,b2,fun q=>?_,fun q=>?_,b3',b4,b5,b6⟩
  ·obtain⟨o,es,ep,e,hd,_⟩:=hg;rw[←q,b3']at e;cases e;rw[b6]at hd;cases hd
  ·rw[q,hPo]at b3';cases b3';cases b4
 rcases hent pos qual hq with hnf|⟨c',o,u,vs,t,hit,hc',hd,hv⟩
 ·refine xoa hcl I.ok.glob hg hcode C hPo ht hnf hgP hB fun c' ctv doc h' tk hx hge hlt hrec htb=>?_;obtain⟨c2,oc,vs,t,e2,hoc,hd,hv⟩:=hrec;cases e2;have hc0:H c'=none:=I.hok.fresh hge;have hsz:s.heap.objs.size≤h'.objs.size:=bS (dD hge hlt);have hf0:H h'.objs.size=none:=I.hok.fresh hsz;have hcf:c'≠h'.objs.size:=aq hlt
  let fo:=xbr name qual params body scope (yu X.env.cells scope.names []) doc ((X.mg "__name__").getD .none) (.ref c') ctv
  let H':=upd (upd H c' (.frz oc HO.any)) h'.objs.size (.frz fo HO.any)
  have sm:∀b u,H b=some u→H' b=some u:=fun b u e=>by
   show upd _ _ _ b=_;rw[xj (xv e hf0),xj (xv e hc0)];exact e
  have H'c:H' c'=some (.frz oc HO.any):=by
   show upd _ _ _ c'=_;rw[xj hcf,xk]
  have H'f:H' h'.objs.size=some (.frz fo HO.any):=xk;have keep:∀b o,b≠P→s.heap.get? b=some o→(h'.push fo).get? b=some o:=fun b o hb e=>ag _ (hx b o hb e);have nP:∀b,H b=none→b≠P:=fun b e q=>by rw[q,hP]at e;cases e
  refine⟨.ref h'.objs.size,H',I.un ⟨fun b o e n _ _=>keep b o (nP b n) e,fun b o e n _ _=>⟨o.slots,keep b o (nP b n) e⟩,fun b o e n _=>?_,fun b o e _=>?_,fun b u e _=>sm b u e⟩ fun b u e=>?_,rfl,?_⟩
  ·have lt:=ai e;show upd _ _ _ b=_;rw[xj (aq (au lt hsz)),xj (aq (au lt hge))];exact n
  ·by_cases hb:b=P
   ·exact⟨_,ag _ (by rw[hb];exact htb)⟩
   ·exact⟨o,keep b o hb e⟩
  ·by_cases h1:b=h'.objs.size
   ·subst h1;rw[H'f]at e;cases e;exact xE.anyOf (aA _ rfl)
   ·have e1:upd H c' (.frz oc HO.any) b=some u:=(xj h1).symm.trans e
    by_cases h2:b=c'
    ·subst h2;rw[xk]at e1;cases e1;exact xE.anyOf (ag _ hoc)
    ·rw[xj h2]at e1
     by_cases hb:b=P
     ·subst hb;rw[hP]at e1;cases e1;refine⟨_,ag _ htb,?_,fun pos' q m=>?_⟩
      ·simpa using TriplesOk_snoc (pos.line:Int) (pos.col:Int) (.ref c') ps.toList ht
      ·have e3:(ps++#[bX pos.line,bX pos.col,aT c']).toList=ps.toList++[bX pos.line,bX pos.col,aT c']:=by simp
       rw[e3,xn9 _ ht];rcases hent pos' q m with z|⟨d,o,u,vs',t',z1,z2,z3,z4⟩
       ·rw[z]
        by_cases hl:((pos.line:Int)==pos'.line&&(pos.col:Int)==pos'.col)=true
        ·right
         have hqq:q=qual:=by
          have:=bZ.mp hu (pos',q) m;simp only[dW,beq_iff_eq,Int.ofNat_inj,Int.natCast_inj]at hl;have a1:pos.line=pos'.line:=by have:=hl.1;omega
          have a2:pos.col=pos'.col:=by have:=hl.2;omega
          simpa [a1,a2]using this
         subst hqq;exact⟨c',oc,HO.any,vs,t,if_pos hl,H'c,hd,hv⟩
        ·exact .inl (if_neg hl)
       ·right
        rw[z1];exact⟨d,o,u,vs',t',rfl,sm _ _ z2,z3,z4⟩
     ·refine(I.hok b u e1).stay (fun d v hc q=>keep d v ?_ q) (fun d q=>sm _ _ q) fun d u q _=>sm _ _ q;rcases hc with rfl|hc
      ·exact hb
      ·intro z;rw[z,hP]at hc;cases hc
  ·exact h h'.objs.size H' hf0 sm ⟨_,c',oc,HO.any,HO.any,vs,t,doc,_,ctv,H'f,H'c,hd,hv,cInj,cHas,fun x v m=>let⟨a,q1,q2⟩:=cVal x v m;⟨a,q1,sm _ _ q2⟩,fun x a q=>let⟨v,q2⟩:=cAll x a q;⟨v,sm _ _ q2⟩⟩
 ·refine xpv hcl I.ok.glob hg hcode C hPo ht hit hB fun ctv doc h' tk hk hsz=>?_;have hf0:H h'.objs.size=none:=I.hok.fresh hsz;have sm:xb H (upd H h'.objs.size (.frz (xbr name qual params body scope (yu X.env.cells scope.names []) doc ((X.mg "__name__").getD .none) (.ref c') ctv) HO.any)):=fun b u e=>by
   rw[xj (xv e hf0)];exact e
  refine⟨.ref h'.objs.size,_,I.laid (o:=.frz (xbr name qual params body scope (yu X.env.cells scope.names []) doc ((X.mg "__name__").getD .none) (.ref c') ctv) HO.any) (fun b o e=>ag _ (hk b o e)) hsz (xE.anyOf (aA _ rfl)),rfl,?_⟩;exact h _ _ hf0 sm ⟨_,c',o,HO.any,u,vs,t,doc,_,ctv,xk,sm _ _ hc',hd,hv,cInj,cHas,fun x v m=>let⟨a,q1,q2⟩:=cVal x v m;⟨a,q1,sm _ _ q2⟩,fun x a q=>let⟨v,q2⟩:=cAll x a q;⟨v,sm _ _ q2⟩⟩
theorem xlv{e:Expr}(hcode:X.env.code= .ref c)(T:zJ X.K c P)(hq:(pos,X.env.qual++"<lambda>")∈qs)(hu:(qs.all fun p=> !((pos.line==p.1.line)&&(pos.col==p.1.col))||(p.2==X.env.qual++"<lambda>"))=true)
  (hfr:(scope.names.filter fun y=>y.2== .free).map (·.1)=fns) (hdef:defaultsOf params X.env=([],[]):=by rfl):
  PE X (.Lambda params e scope pos) (tFn X P qs fns "<lambda>" (X.env.qual++"<lambda>") params (.expr e) scope):=fun _ _ _ _ _ I h=>
 W.kla_eval hdef (xob I hcode T hq hu hfr h)
theorem Inv.track{x:Str}{a:Addr}{i:Nat}(I:Inv X pins σ H s)(hN:X.N.Nodup)(hi:X.N[i]? =some x)(hk:X.env.kindOf x=some .cell)(hcp:X.cp x=true)(hfn:X.fn x=false)(ha:X.env.cells.lookup x=some a)(hH:H a=none):
  Inv X pins σ (upd H a (.cel (σ[i]?.join))) s:=by
 have hab:∀b o,X.s₀.heap.get? b=some o→b≠a:=fun b o e=>aq (au (ai e) (I.ok.cab2 x a hcp ha));obtain⟨v0,hv0⟩:=I.cell x a ha;refine⟨I.ok,I.os,I.bare,⟨I.base.keep,I.base.slot,fun b o e n hx=>?_,I.base.there,fun b u e f=>?_⟩,I.loc,I.cell,?_,fun y c e=>?_,fun p hp=>?_,fun b u e=>?_,I.len⟩
 ·rw[xj (hab b o e)];exact I.base.free b o e n hx
 ·have:=I.base.fix b u e f;rw[xj (xv this hH)];exact this
 ·rw[xj (aR (I.cne x a ha))];exact I.free
 ·by_cases hc:c=a
  ·subst hc;obtain rfl:=I.ok.inj _ _ _ e ha;refine .inr ⟨hfn,_,xk,fun z j v e1 k e2=>?_⟩;have:=xbI hN e1 hi;subst this;rw[e2]at z;cases z
  ·rw[xj hc];exact I.freeC y c e
 ·obtain⟨e,n,ne,nf,d⟩:=I.pin p hp;refine⟨e,?_,ne,nf,d⟩;rw[xj fun z=>?_]
  ·exact n
  ·obtain⟨o,q1,q2⟩:=hv0;rw[←z,e]at q1;cases q1;exact d _ q2
 ·by_cases hb:b=a
  ·subst hb;rw[xk]at e;cases e;cases hσ:σ[i]?.join with
   |none=>exact⟨v0,hv0,fun x z=>by cases z⟩
   |some v=>
    have hσ':σ[i]? =some (some v):=by
     cases q:σ[i]? with
     |none=>rw[q]at hσ;cases hσ
     |some w=>rw[q]at hσ;cases w with
      |none=>cases hσ
      |some w=>cases hσ;rfl
    obtain⟨m,hn,hl⟩:=I.loc;obtain⟨u,r,l⟩:=hl i x v hi hσ' (.inr (.inl hk));rcases l with⟨k,_⟩|⟨_,c,hc,hcell⟩
    ·rw[hk]at k;cases k
    ·rw[ha]at hc;cases hc;exact⟨_,hcell,fun y z=>by cases z;exact⟨u,rfl,r⟩⟩
  ·rw[xj hb]at e;exact(I.hok b u e).stay (fun _ _ _ q=>q) (fun d q=>by rw[xj (xv q hH)];exact q) fun d u q _=>by rw[xj (xv q hH)];exact q
def xpw(X:Cx)(x:Str)(i:Nat)(t:TS):TS:=fun D σ H=>∀a,X.env.cells.lookup x=some a→X.H₀ a=none→(∀y b,X.env.cells.lookup y=some b→y≠x→b≠a)→H a=none∧t D σ (upd H a (.cel (σ[i]?.join)))
theorem jb{x:Str}{i:Nat}{b:List Stmt}{t:TS}(hN:X.N.Nodup)(hi:X.N[i]? =some x)(hk:X.env.kindOf x=some .cell)(hcp:X.cp x=true)(hfn:X.fn x=false)
  (h:PSs X b t):PSs X b (xpw X x i t):=fun pins s σ H D I q=>by
 obtain⟨a,ha⟩:=I.ok.has x (.inl hk);obtain⟨z,q⟩:=q a ha (I.ok.hz a (I.ok.cab2 x a hcp ha)) fun y b e ne z=>ne (I.ok.inj y x b e (z▸ha));exact h pins s σ _ D (I.track hN hi hk hcp hfn ha z) q
def xqk(X:Cx)(x:Str)(i:Nat)(te:TE):TS:=fun D σ H=>te σ H fun v H1=>∃a,X.env.cells.lookup x=some a∧H1 a=some (.cel none)∧D.nx (σ.set i (some v)) (upd H1 a (.cel (some v)))
theorem xoc{i:Nat}{x:Str}{e:Expr}{te:TE}{pos':Pos}(hN:X.N.Nodup)(hi:X.N[i]? =some x)(hk:X.env.kindOf x=some .cell)(hcp:X.cp x=true)(hfn:X.fn x=false)(he:PE X e te)(hs:gP e (some (.Name x pos')) pos.line X.env=pure false:=by rfl):
  PS X (.Assign [.Name x pos'] e pos) (xqk X x i te):=by
 intro pins s σ H D I h;refine wpAny_Assign_Name (thn (he pins s σ H _ I h) fun u s1 ⟨v,H1,I,r,q⟩=>?_) hs;obtain⟨a,ha,hH,q⟩:=q;obtain⟨w0,z⟩:=I.cell x a ha;obtain⟨m,hn,hl⟩:=id I.loc;have hiσ:i<σ.length:=by rw[I.len];exact(aH.mp hi).1
 have hab:∀b o,X.s₀.heap.get? b=some o→b≠a:=fun b o e=>aq (au (ai e) (I.ok.cab2 x a hcp ha));refine wpAny_storeName_cell I.ok.kind hk ha z fun h' hc' hs=>?_;refine⟨_,_,⟨I.ok,I.os,I.bare,⟨fun b o e n hb hx=>?_,fun b o e n hb hx=>?_,fun b o e n hx=>?_,fun b o e hx=>?_,fun b u e f=>?_⟩,⟨m,hn.sameBut hs (aR (I.cne x a ha)),fun j y v' e1 e2 e3=>?_⟩,fun y c' e=>?_,?_,fun y c' e=>?_,fun p hp=>?_,fun b u e=>?_,by simpa using I.len⟩,q⟩
 ·exact(hs.2 b (hab b o e)).trans (I.base.keep b o e n hb hx)
 ·obtain⟨sl,e1⟩:=I.base.slot b o e n hb hx;exact⟨sl,(hs.2 b (hab b o e)).trans e1⟩
 ·rw[xj (hab b o e)];exact I.base.free b o e n hx
 ·obtain⟨o',e1⟩:=I.base.there b o e hx;exact⟨o',(hs.2 b (hab b o e)).trans e1⟩
 ·have h0:=I.ok.hz a (I.ok.cab2 x a hcp ha);rw[xj (xv e h0)];exact I.base.fix b u e f
 ·by_cases hj:j=i
  ·subst hj;rw[hi]at e1;cases e1;rw[eI hiσ]at e2;cases e2;exact⟨u,r,.inr ⟨.inl hk,a,ha,hc'⟩⟩
  ·rw[cY (aR hj)]at e2;obtain⟨u',r',q⟩:=hl j y v' e1 e2 e3;refine⟨u',r',?_⟩;rcases q with q|⟨k,c',e,z'⟩
   ·exact .inl q
   ·refine .inr ⟨k,c',e,z'.sameBut hs ?_⟩;rintro rfl;exact hj (xbI hN e1 (I.ok.inj _ _ _ e ha▸hi))
 ·by_cases hcc:c'=a
  ·subst hcc;exact⟨_,hc'⟩
  ·obtain⟨w2,z2⟩:=I.cell y c' e;exact⟨w2,z2.sameBut hs hcc⟩
 ·rw[xj (aR (I.cne x a ha))];exact I.free
 ·by_cases hcc:c'=a
  ·subst hcc;obtain rfl:=I.ok.inj _ _ _ e ha;exact .inr ⟨hfn,some v,xk,fun z=>by cases z⟩
  ·rw[xj hcc];refine(I.freeC y c' e).imp id fun⟨hf',o',ho',hno⟩=>⟨hf',o',ho',fun z j v' e1 k e2=>?_⟩
   by_cases hj:j=i
   ·subst hj;rw[hi]at e1;cases e1;rw[ha]at e;cases e;exact hcc rfl
   ·rw[cY (aR hj)]at e2;exact hno z j v' e1 k e2
 ·obtain⟨e,n,ne,nf,d⟩:=I.pin p hp;have hpa:p.1≠a:=fun q=>by
   obtain⟨oc,hoc,hocd⟩:=z;rw[q,hoc]at e;have q':oc=p.2:=bp e;exact d w0 (by rw[←q'];exact hocd)
  exact⟨(hs.2 p.1 hpa).trans e,by rw[xj hpa];exact n,ne,nf,d⟩
 ·by_cases hb:b=a
  ·subst hb;rw[xk]at e;cases e;exact⟨_,hc',fun y z=>by cases z;exact⟨u,rfl,r⟩⟩
  ·rw[xj hb]at e;have nfix:∀d u',H1 d=some u'→u'≠.cel none→upd H1 a (.cel (some v)) d=some u':=fun d u' e' hu=>by
    rw[xj fun z=>?_]
    ·exact e'
    ·rw[z,hH]at e';cases e';exact hu rfl
   refine(I.hok b u e).stay (fun d w' hc q=>(hs.2 d ?_).trans q) (fun d q=>nfix _ _ q (by simp)) fun d u' q hf=>nfix _ _ q (by rintro rfl;exact hf);rcases hc with rfl|hc
   ·exact hb
   ·intro z;rw[z,hH]at hc;cases hc
end
end L2
namespace L2
open PySem PySem.Spec PyProof.Rows
theorem xlw{P:aG}{w:World}{K:ah}{mg mb:Str→Option Value}{CX:CXT}{k:Nat}{fa a:Addr}{fd:aw}{x:Str}{sp:Sp}{s₁:ae}{vs:List Value}{ns:List Int}{tabs:List (Addr×Addr×List (Pos×Str))}
  (KX:K.In s₁.heap) (hns:s₁.heap.Ns bz mg) (hb:s₁.heap.Ns dh mb) (hbb:∀x:Str,x≠"__name__"→mb x=bG x) (hlim:s₁.heap.NoLimit) (hbm:∃b o,mg "__builtins__"=some (.ref b)∧b≠dh∧s₁.heap.get? b=some o∧o.cls= .type "module"∧o.dict=some dh∧o.data= .plain) (hg:s₁.gens=#[])
  (ha:s₁.heap.get? a=some {cls:=.type "list",data:=.seq vs.toArray}) (hi:cE vs ns) (hl:ns.length≤aQ) (hr:xI k ic)
  (hT:∀q∈tabs,j5 s₁.heap q.1 q.2.1∧s₁.heap.get? q.2.1=some (gk #[])) (hnt:W.noTabs K=true) (nd:(tabs.map fun q=>q.2.1).Nodup)
  (F:∀base:Heap,K.In base→base.Ns bz mg→xy P w K mg base CX k fa fd [x] sp) (hbind:∀(s:ae) (u:Value),BindsTo s fd ⟨[u],[]⟩ [(x,u)])
  (hsp:∀H:Hp,SqL K H a (ns.map V.int)→(∀q∈tabs,H q.2.1=some (.tbl q.2.2))→sp [.ref a] H (fun v _=>v= .bl true) fun _ _ _=>False)
  (hCX:∀H e s',CX [] H s₁ (fun _ _ _=>False) e s'→False):
  cD (model P w) ic (.call (.ref fa) ⟨[.ref a],[]⟩) (fun r s'=>r= .ok (.ret (.bool true))∧OldK s₁.heap s'.heap∧s'.os=s₁.os∧ef s'.gens) s₁:=by
 have rv:=xcE hi;have lenV:=hi.length;have aP:∀q∈tabs,q.2.1≠a:=fun q hq z=>by
  have e:=(hT q hq).2;rw[z,ha]at e;cases e
 have core:∀H:Hp,SqL K H a (ns.map V.int)→(∀q∈tabs,H q.2.1=some (.tbl q.2.2))→
   (∀b u,H b=some u→(b=a∧K.lookup a=none∧∃xs,u= .frz {cls:=.type "list",data:=.seq vs.toArray} (.lst xs))∨∃q∈tabs,b=q.2.1∧u= .tbl q.2.2)→HOk P w H s₁.heap→
   cD (model P w) ic (.call (.ref fa) ⟨[.ref a],[]⟩) (fun r s'=>r= .ok (.ret (.bool true))∧OldK s₁.heap s'.heap∧s'.os=s₁.os∧ef s'.gens) s₁:=by
  intro H hS hP hA hok;have base_of:∀{b:Addr} {o:Obj},s₁.heap.get? b=some o→H b=none→(xbH s₁.heap H).get? b=some o:=fun e n=>xmx e n;have noA:∀{b:Addr} {o:Obj},s₁.heap.get? b=some o→o.cls≠.type "list"∨(∀n,o.data≠.seq vs.toArray n)→o≠gk #[]→H b=none:=fun{b o} e d1 d2=>by
   cases q:H b with
   |none=>rfl
   |some u=>
    rcases hA b u q with⟨rfl,_,_⟩|⟨t,ht,rfl,_⟩
    ·rw[ha]at e;cases e;rcases d1 with d1|d1
     ·exact absurd rfl d1
     ·exact absurd rfl (d1 _)
    ·have e2:=(hT t ht).2;rw[e]at e2;cases e2;exact absurd rfl d2
  have nsK:∀{b:Addr} {m:Str→Option Value},s₁.heap.Ns b m→(xbH s₁.heap H).Ns b m:=fun{b m} ⟨o,es,ep,e,d,r⟩=>
   ⟨o,es,ep,base_of e (noA e (.inr fun n z=>by rw[d]at z;cases z) fun z=>by rw[z]at d;cases d),d,r⟩
  have hKb:K.In (xbH s₁.heap H):=fun b o e=>base_of (KX b o e) (by
   cases q:H b with
   |none=>rfl
   |some u=>
    rcases hA b u q with⟨rfl,z,_⟩|⟨t,ht,rfl,_⟩
    ·rw[z]at e;cases e
    ·have e2:=KX _ _ e;rw[(hT t ht).2]at e2;cases e2;have h2:=bZ.mp hnt _ (W.mem_of_lookupK e);exact absurd (show false=true from h2) aC)
  have hM:Mod K mg (xbH s₁.heap H):=⟨hKb,nsK hns,⟨mb,nsK hb,hbb⟩,let⟨mc,h1,h2⟩:=hlim;⟨mc,nsK h1,h2⟩,let⟨b,o,a1,a2,a3,a4⟩:=hbm;⟨b,o,a1,a2,base_of a3 (noA a3 (.inl fun z=>by rw[a4.1]at z;simp at z) fun z=>by rw[z]at a4;cases a4.1),a4⟩⟩;have e0:jm P w K mg (xbH s₁.heap H) ic [] s₁ H:=⟨rfl,hM,fun b o e=>xnP e,gw (xk1 _ _),trivial,fun b hb=>absurd (show b∈([]:List Addr)from hb) (by simp),hok,.of_eq hg⟩;refine cT ((F _ hKb (nsK hns)).run ic [] s₁ H ⟨[.ref a],[]⟩ [.ref a] [.ref a] _ _ hr e0 (hbind s₁ (.ref a)) (.cons rfl .nil) (hsp H hS hP)) fun r s' h=>?_;cases r with
  |error e=>exact(hCX H e s' h).elim
  |ok fl=>
   cases fl with
   |next=>exact bo h
   |brk=>exact bo h
   |cont=>exact bo h
   |ret u=>
    obtain⟨v,H',os,bare,un,hok',r',q⟩:=h;have q':v= .bl true:=q;subst q';obtain rfl:u=dB true:=r';have old:∀b o,s₁.heap.get? b=some o→s'.heap.get? b=some o∨∃t∈tabs,b=t.2.1∧o=gk #[]∧∃ps,s'.heap.get? b=some (gk ps):=fun b o e=>by
     cases q:H b with
     |none=>exact .inl (un.keep b o e q (by intro z;exact absurd (show b∈([]:List Addr)from z) (by simp)) (by simp))
     |some u=>
      rcases hA b u q with⟨rfl,_,xs,rfl⟩|⟨t,ht,rfl,rfl⟩
      ·obtain⟨e1,_⟩:=hok _ _ q;obtain⟨e2,_⟩:=hok' _ _ (un.fix _ _ q trivial);rw[e]at e1;cases e1;exact .inl e2
      ·obtain⟨ps,e2,_⟩:=hok' _ _ (un.fix _ _ q trivial);have e3:=(hT t ht).2;rw[e]at e3;cases e3;exact .inr ⟨t,ht,rfl,rfl,ps,e2⟩
    refine⟨rfl,⟨fun b o e=>?_,fun b o e=>?_⟩,os,bare⟩
    ·rcases old b o e with z|⟨t,ht,rfl,rfl,ps,z⟩
     ·exact .inl z
     ·exact .inr (.inl ⟨((hT t ht).1.tab (hT t ht).2).isCodeTable,rfl,#[],ps,rfl,by rw[Array.empty_append];exact z⟩)
    ·rcases old b o e with z|⟨t,ht,rfl,rfl,ps,z⟩
     ·exact⟨o,z⟩
     ·exact⟨_,z⟩
 let Ht:Hp:=fun b=>(tabs.find? fun q=>q.2.1==b).map fun q=>HO.tbl q.2.2
 have HtP:∀q∈tabs,Ht q.2.1=some (.tbl q.2.2):=fun q hq=>by
  show kY _ (tabs.find? _)=_;cases e:tabs.find? fun r=>r.2.1==q.2.1 with
  |none=>
   have:=gR.mp e q hq;simp at this
  |some r=>
   have h1:=List.find?_some e;have h2:=gZ e;have h3:r.2.1=q.2.1:=by simpa using h1
   have:r=q:=by
    obtain⟨i,hi⟩:=bI.mp h2;obtain⟨j,hj⟩:=bI.mp hq;have ei:(tabs.map fun q=>q.2.1)[i]? =some r.2.1:=by rw[aF,hi];rfl
    have ej:(tabs.map fun q=>q.2.1)[j]? =some r.2.1:=by rw[aF,hj,h3];rfl
    obtain⟨i1,i2⟩:=aH.mp ei;obtain⟨j1,j2⟩:=aH.mp ej;have:=(ig nd).mp (i2.trans j2.symm);subst this;rw[hi]at hj;exact bp hj
   subst this;rfl
 have HtA:∀b u,Ht b=some u→∃q∈tabs,b=q.2.1∧u= .tbl q.2.2:=fun b u e=>by
  have e:kY (fun q=>HO.tbl q.2.2) (tabs.find? fun q=>q.2.1==b)=some u:=e;obtain⟨q,hq,rfl⟩:=bD.mp e;have h1:=List.find?_some hq;exact⟨q,gZ hq,(show q.2.1=b by simpa using h1).symm,rfl⟩
 have tok:∀{H:Hp} {q},q∈tabs→xE P w H s₁.heap q.2.1 (.tbl q.2.2):=fun{H q} hq=>⟨#[],(hT q hq).2,trivial,fun _ _ _=>.inl rfl⟩;cases hk:K.lookup a with
 |some o=>
  have e:=KX a o hk;rw[ha]at e;cases e;refine core Ht (.inr ⟨_,vs.toArray,_,hk,rfl,rfl,rfl,by rw[ay,lenV];exact hl,by simpa using rv⟩) HtP (fun b u z=>.inr (HtA b u z)) fun b u z=>?_;obtain⟨q,hq,rfl,rfl⟩:=HtA b u z;exact tok hq
 |none=>
  refine core (fun b=>if b=a then some (.frz {cls:=.type "list",data:=.seq vs.toArray} (.lst (ns.map V.int)))else Ht b) (.inl (.inr ⟨{cls:=.type "list",data:=.seq vs.toArray},if_pos rfl⟩)) (fun q hq=>(if_neg (aP q hq)).trans (HtP q hq)) (fun b u z=>?_) fun b u z=>?_
  ·by_cases hb:b=a
   ·have z':=(if_pos hb).symm.trans z;cases z';exact .inl ⟨hb,hk,_,rfl⟩
   ·exact .inr (HtA b u ((if_neg hb).symm.trans z))
  ·by_cases hb:b=a
   ·have z':=(if_pos hb).symm.trans z;cases z';subst hb;exact⟨ha,by rw[af];exact hl,vs,_,rv,ha⟩
   ·obtain⟨q,hq,rfl,rfl⟩:=HtA b u ((if_neg hb).symm.trans z);exact tok hq
theorem xmN{l:W.OpenLaw}{n k:Nat}{q:aG}{loose:List Str}{XP:(Str→Option Value)→Heap→Prop}{YP:World→Heap→Prop}{d:DefRec}{K:Params→ah}{CX:CXT}{sp:ah→Sp}{x:Str}{tabs:List (Addr×Addr×List (Pos×Str))}
  (hn:l.most=some n) (hn2:n≤aQ) (hdf:d.params.defaults=[]) (hr:xI k ic)
  (hY:∀(w:World) (h:Heap),YP w h→(K w.params).In h)
  (hT:∀(w:World) (h:Heap),YP w h→(K w.params).In h→∀t∈tabs,j5 h t.1 t.2.1∧h.get? t.2.1=some (gk #[])) (hnt:∀w:World,W.noTabs (K w.params)=true) (nd:(tabs.map fun q=>q.2.1).Nodup)
  (F:∀(w:World) (mg:Str→Option Value) (fa:Addr) (h:Heap),(K w.params).In h→h.Ns bz mg→mg d.name=some (.ref fa)→
   ∃fd:aw,(∀(s:ae) (u:Value),BindsTo s fd ⟨[u],[]⟩ [(x,u)])∧
    ∀base:Heap,(K w.params).In base→base.Ns bz mg→xy l.prog w (K w.params) mg base CX k fa fd [x] (sp (K w.params)))
  (hsp:∀(K:ah) (H:Hp) (a:Addr) (ns:List Int),ns.length≤n→SqL K H a (ns.map V.int)→(∀q∈tabs,H q.2.1=some (.tbl q.2.2))→sp K [.ref a] H (fun v _=>v= .bl true) fun _ _ _=>False)
  (hCX:∀(H:Hp) (s:ae) (e:Value) (s':ae),CX [] H s (fun _ _ _=>False) e s'→False):
  W.WalkO q loose XP YP l.row.toRowW d [] (fun f vs=>PySem.call f vs):=by
 refine Att.xiF hn hdf fun w s₀ s₁ mg mb fa o pm cd doc a vs ns G Y ho hd hcd hmg hobj hints hlen hg=>?_;have KX:=hY w _ Y;obtain⟨fd,hb,hF⟩:=F w mg fa _ KX G.T.g hmg;exact xlw KX G.T.g G.T.b G.T.builtins G.T.nolimit G.T.bmain hg hobj hints (bg hlen hn2) hr (hT w _ Y KX) (hnt w) nd hF hb (fun H hS hP=>hsp (K w.params) H a ns hlen hS hP) fun H e s'=>hCX H s₁ e s'
end L2
namespace L2
open PySem PySem.Spec PyProof.Rows
structure zf(N ps fns:List Str)(sc:Scope):Prop where
 kind:sc.kind= .function
 co:sc.isCoroutine=false
 gen:sc.isGenerator=false
 nd:N.Nodup
 pre:N.take (ps.length+fns.length)=ps++fns
 par:∀x∈ps,sc.names.lookup x=some .local
 fre:∀x∈fns,sc.names.lookup x=some .free
 nocell:∀y∈sc.names,y.2≠.cell
def xcM(N:List Str)(vs:List V)(fv:List (Str×V)):St:=vs.map some++fv.map (fun p=>some p.2)++bw (N.length - vs.length - fv.length) none
def xhi(CX:CXT)(P:aG)(w:World)(K:ah)(mg:Str→Option Value)(base:Heap)(N:List Str)(qual:Str)(scope:Scope)(f:Addr)(cd:Value)(clos:List (Str×Addr))(A:aL)(outer:List Env)(s:ae)(H:Hp)(E:XK):Cx where
 prog:=P
 w:=w
 K:=K
 mg:=mg
 base:=base
 A:=A.deeper (ir qual scope s.heap.objs.size f cd clos)
 N:=N
 s₀:=s
 H₀:=H
 env:=ir qual scope s.heap.objs.size f cd clos
 outer:=outer
 stack:=ir qual scope s.heap.objs.size f cd clos::outer
 ex:=[]
 calm:=true
 cp:=fun _=>false
 fn:=fun _=>false
 pn:=[]
 xe:=fun e s'=>wpAny (model P w) (A.deeper (ir qual scope s.heap.objs.size f cd clos)) (leaving (ir qual scope s.heap.objs.size f cd clos) e) (fun _ s''=>CX outer H s E e s'') (fun e' s''=>CX outer H s E e' s'') s'
theorem xgy{α:Type}:∀{l:List (Str×α)} {x:Str} {v:α},(l.map (·.1)).Nodup→(x,v)∈l→l.lookup x=some v
 |[],_,_,_,m=>by simp at m
 |(y,u)::r,x,v,nd,m=>by
  obtain⟨n1,n2⟩:=cA.mp nd;rw[bY];rcases ar.mp m with e|m
  ·cases e;simp
  ·have:x≠y:=fun e=>n1 (by rw[←e];exact fz (f:=(·.1)) m);rw[beq_false_of_ne this];exact xgy n2 m
theorem xhC:∀{ps:List Str} {us:List Value},us.length=ps.length→(ps.zip us).map (·.1)=ps
 |[],[],_=>rfl
 |p::ps,u::us,h=>by simp[xhC (ps:=ps) (us:=us) (by simpa using h)]
 |[],_::_,h=>by simp at h
 |_::_,[],h=>by simp at h
theorem xfK{ps:List Str}{us:List Value}{i:Nat}{x:Str}{u:Value}(hl:us.length=ps.length)(nd:ps.Nodup)(h1:ps[i]? =some x)(h2:us[i]? =some u):(ps.zip us).reverse.lookup x=some u:=by
 refine xgy ?_ (List.mem_reverse.mpr ?_)
 ·rw[List.map_reverse,xhC hl];exact iT.mpr (nd.imp fun h=>aR h)
 ·refine bI.mpr ⟨i,?_⟩;rw[List.getElem?_zip_eq_some];exact⟨h1,h2⟩
def codeOf(body:cV)(env:Env):Code:=match body with
 | .stmts b=>.func b env
 | .expr e=>.expr e env
section
variable {CX:CXT} {P:aG} {w:World} {K:ah} {mg:Str→Option Value} {base:Heap} {N ps fns:List Str} {nm qual:Str} {params:b7} {scope:Scope} {f:Addr} {cd:Value} {clos:List (Str×Addr)} {A:aL} {outer:List Env} {s:ae} {H:Hp} {E:XK} {us:List Value} {vs:List V} {fv:List (Str×V)} {k:Nat}
theorem xj8{h':Heap}{tk:Tok}(S:zf N ps fns scope)(hd:A.handled=none)(e0:jm P w K mg base A outer s H)(hl:vs.length=ps.length)(r:Vals vs us)(hfv:fv.map (·.1)=fns)
  (hin:∀x y a,clos.lookup x=some a→clos.lookup y=some a→x=y) (hhas:∀x,(x,bR)∈scope.names→∃a,clos.lookup x=some a)
  (hval:∀x v,(x,v)∈fv→∃a,clos.lookup x=some a∧H a=some (.cel (some v))) (hall:∀x a,clos.lookup x=some a→∃v,H a=some (.cel (some v)))
  (hns:h'.Ns s.heap.objs.size fun x=>(ps.zip us).reverse.lookup x) (hk:∀b o,s.heap.get? b=some o→h'.get? b=some o):
  Inv (xhi CX P w K mg base N qual scope f cd clos A outer s H E) [] (xcM N vs fv) H {s with heap:=h',toks:=tk}:=by
 have lenF:fv.length=fns.length:=by rw[←hfv,af]
 have hpl:ps.length+fns.length≤N.length:=by have:=congrArg cC S.pre;rw[bM,av]at this;lia
 have noA:∀b:Addr,b∉(xhi CX P w K mg base N qual scope f cd clos A outer s H E).ex:=fun b z=>absurd (show b∈([]:List Addr)from z) (by simp);have lu:us.length=ps.length:=by rw[←r.length];exact hl
 have ndP:(ps++fns).Nodup:=by rw[←S.pre];exact S.nd.sublist (List.take_sublist _ _)
 refine⟨⟨e0.mod,S.kind,rfl,rfl,ak _,fun y z c h1 h2=>hin y z c h1 h2,fun y hy=>?_,fun y c h _=>(aC h).elim,fun _=>hd,i6 e0.frames,.inr ⟨rfl,rfl⟩,fun b z=>absurd z (noA b),e0.bs,e0.bsz,fun b _ _=>noA b,fun b z=>absurd z (noA b),e0.funs,e0.frf,fun y c h _=>(aC h).elim,fun b hb=>e0.hok.fresh hb⟩,
  rfl,e0.bare,Un.kept hk,⟨_,hns,fun i y v h1 h2 h3=>?_⟩,fun y c h=>?_,e0.hok.fresh (ak _),fun y c h=>?_,fun p hp=>absurd (show p∈([]:List (Addr×Obj))from hp) (by simp),e0.hok.kept hk,?_⟩
 ·have hy:scope.names.lookup y=some .cell∨scope.names.lookup y=some .free:=hy;rcases hy with hy|hy
  ·exact absurd rfl (S.nocell _ (PySem.mem_of_lookup hy))
  ·exact hhas y (PySem.mem_of_lookup hy)
 ·have h1:N[i]? =some y:=h1;unfold xcM at h2
  by_cases hi:i<vs.length
  ·rw[bj (by simp;lia),bj (by simpa using hi),aF]at h2;cases e:vs[i]? with
   |none=>rw[e]at h2;cases h2
   |some a=>
    rw[e]at h2;cases h2;obtain⟨u,hu,rv⟩:=r.get e;have hp:ps[i]? =some y:=by
     have:(N.take (ps.length+fns.length))[i]? =some y:=by rw[dj (by lia)];exact h1
     rw[S.pre,bj (by lia)]at this;exact this
    exact⟨u,rv,.inl ⟨S.par y (aB hp),xfK lu (ndP.sublist (List.sublist_append_left _ _)) hp hu⟩⟩
  ·by_cases hj:i<vs.length+fv.length
   ·rw[bj (by simp;lia),bE (by simpa using hi),af,aF]at h2;cases e:fv[i - vs.length]? with
    |none=>rw[e]at h2;cases h2
    |some p=>
     obtain⟨z,v'⟩:=p;rw[e]at h2;cases h2;have hp:fns[i - vs.length]? =some y:=by
      have:(N.take (ps.length+fns.length))[i]? =some y:=by rw[dj (by lia)];exact h1
      rw[S.pre,bE (by lia),←hl]at this;exact this
     have hz:z=y:=by
      rw[←hfv,aF,e]at hp;exact bp hp
     subst hz;obtain⟨a,q1,q2⟩:=hval _ _ (aB e);obtain⟨u,q3,q4⟩:=e0.hok a _ q2;obtain⟨y',rfl,r'⟩:=q4 v' rfl;exact⟨y',r',.inr ⟨.inr (S.fre z (aB hp)),a,q1,q3.keeps hk⟩⟩
   ·rw[bE (by simp;lia),iC]at h2
    split at h2<;> cases h2
 ·obtain⟨v,q2⟩:=hall y c h;obtain⟨u,q3,_⟩:=e0.hok c _ q2;exact⟨u,q3.keeps hk⟩
 ·obtain⟨v,q2⟩:=hall y c h;exact .inr ⟨rfl,some v,q2,fun z=>by cases z⟩
 ·unfold xcM;show _=N.length;simp only[av,af,iP];lia
structure yR(P:aG)(w:World)(K:ah)(mg:Str→Option Value)(base:Heap)(CX:CXT)(k:Nat)(nm qual:Str)(params:b7)(body:cV)(scope:Scope)(ps:List Str)(sp:List (Str×V)→Sp):Prop where
 len:∀fv vs H Q E,sp fv vs H Q E→vs.length=ps.length
 run:∀(A:aL) (outer:List Env) (s:ae) (H:Hp) (f:Addr) (fv:List (Str×V)) (us:List Value) (vs:List V) (Q:VK) (E:XK),xI k A→jm P w K mg base A outer s H→xV H f nm qual params body scope fv→Vals vs us→sp fv vs H Q E→
  cD (model P w) A (.call (.ref f) ⟨us,[]⟩) (CR CX outer P w H s Q E) s
theorem xlx{body:cV}{sp:List (Str×V)→Sp}(S:zf N ps fns scope)(len:∀fv vs H Q E,sp fv vs H Q E→vs.length=ps.length∧fv.map (·.1)=fns)
  (hb:∀(clos:List (Str×Addr)) (doc pm cdv ctv:Value) (us:List Value),us.length=ps.length→
   e9 {name:=nm,qualname:=qual,params,body,scope,globals:=bz,closure:=clos,defaults:=.none,kwdefaults:=.none,doc,pyModule:=pm,annotations:=none,code:=cdv,closureTuple:=ctv,builtins:=dh} ⟨us,[]⟩=pure (ps.zip us))
  (hgo:∀(A:aL) (outer:List Env) (s:ae) (H:Hp) (f:Addr) (clos:List (Str×Addr)) (cdv:Value) (fv:List (Str×V)) (vs:List V) (Q:VK) (E:XK) (s1:ae),xI k (A.deeper (ir qual scope s.heap.objs.size f cdv clos))→sp fv vs H Q E→
   Inv (xhi CX P w K mg base N qual scope f cdv clos A outer s H E) [] (xcM N vs fv) H s1→
   cD (model P w) A (codeOf body (ir qual scope s.heap.objs.size f cdv clos)) (CR CX outer P w H s Q E) s1):
  yR P w K mg base CX (k+1) nm qual params body scope ps sp:=by
 refine⟨fun fv vs H Q E h=>(len fv vs H Q E h).1,fun A outer s H f fv us vs Q E hr e0 hc r hsp=>?_⟩;obtain⟨clos,c,o,u,u',xs,t,doc,pm,ctv,h1,h2,h3,h4,h5,h6,h7,h8⟩:=hc;obtain⟨hl,hfv⟩:=len fv vs H Q E hsp;have lu:us.length=ps.length:=by rw[←r.length];exact hl
 obtain⟨hf,_⟩:=e0.hok f _ h1;obtain⟨hcO,_⟩:=e0.hok c _ h2;have lim:s.heap.NoLimit:=e0.mod.nolimit.keeps fun b o e=>(e0.bs b o e).1;have hloc:∀y∈ps.zip us,scope.names.lookup y.1=some .local:=fun⟨n,v⟩ hy=>S.par n (eC hy).1;have cr:s.heap.CodeRec (.ref c) qual:=⟨c,o,xs,t,rfl,hcO,h3,h4⟩;have fin:wpAny (model P w) A.in1 (iR scope bz clos (ps.zip us) (qual++".<locals>.") (some f) (.ref c) none dh)
   (fun env s₂=>s₂.heap.NoLimit∧cD (model P w) A (codeOf body env) (CR CX outer P w H s Q E) s₂) (fun e s'=>CR CX outer P w H s Q E (.error e) s') s:=by
  refine gA S.nocell hloc (fun h' hns hsb=>?_) S.kind;have hk:∀b o,s.heap.get? b=some o→h'.get? b=some o:=fun b o e=>hsb.extBut b o (aq (ai e)) (ag _ e);exact⟨lim.keeps hk,hgo A outer s H f clos (.ref c) fv vs Q E _ (hr.deeper _) hsp (xj8 S hr.hd e0 hl r hfv h5 h6 h7 h8 hns hk)⟩
 cases body with
 |stmts b=>
  refine eQ hr.depth hf rfl S.co S.gen rfl cr ?_;rw[hb clos doc pm (.ref c) ctv us lu];exact ao fin
 |expr e=>
  refine W.kla_callFunE hr.depth hf rfl S.co S.gen rfl cr ?_;rw[hb clos doc pm (.ref c) ctv us lu];exact ao fin
theorem uJ{e:Expr}{sp:List (Str×V)→Sp}(S:zf N ps fns scope)(len:∀fv vs H Q E,sp fv vs H Q E→vs.length=ps.length∧fv.map (·.1)=fns)
  (hb:∀(clos:List (Str×Addr)) (doc pm cdv ctv:Value) (us:List Value),us.length=ps.length→
   e9 {name:=nm,qualname:=qual,params,body:=.expr e,scope,globals:=bz,closure:=clos,defaults:=.none,kwdefaults:=.none,doc,pyModule:=pm,annotations:=none,code:=cdv,closureTuple:=ctv,builtins:=dh} ⟨us,[]⟩=pure (ps.zip us))
  (hbody:∀(A:aL) (outer:List Env) (s:ae) (H:Hp) (f:Addr) (clos:List (Str×Addr)) (cdv:Value) (fv:List (Str×V)) (vs:List V) (Q:VK) (E:XK),xI k (A.deeper (ir qual scope s.heap.objs.size f cdv clos))→sp fv vs H Q E→
   ∃te,PE (xhi CX0 P w K mg base N qual scope f cdv clos A outer s H E).nox e te∧te (xcM N vs fv) H Q):yR P w K mg base CX0 (k+1) nm qual params (.expr e) scope ps sp:=
 xlx S len hb fun A outer s H f clos cdv fv vs Q E s1 hr hsp I=>by
  obtain⟨te,ht,hq⟩:=hbody A outer s H f clos cdv fv vs Q E hr hsp;refine W.kla_codeExpr (aK (ht [] s1 _ H Q (I.wish _) hq) (fun v s' ⟨x,H',J,rv,q⟩=>?_) fun _ _ z=>z.elim);exact⟨x,H',J.os,J.bare,J.base,J.hok,rv,q⟩
end
section
variable {X:Cx} {CX:CXT} {k:Nat} {nm qual x:Str} {params:b7} {body:cV} {scope:Scope} {ps:List Str} {sp:List (Str×V)→Sp} {p pos:Pos} {e:Expr} {es:List Expr} {t:TA} {E:XK} {i:Nat}
theorem xjk{pins:List (Addr×Obj)}{σ:St}{H:Hp}{s:ae}{Q:VK}{us:List Value}{vs:List V}{f:Addr}{fv:List (Str×V)}(F:yR X.prog X.w X.K X.mg X.base CX k nm qual params body scope ps sp)(hr:xI k X.A)(hx:Passes CX X E)
  (I:Inv X pins σ H s) (hc:xV H f nm qual params body scope fv) (r:Vals vs us) (h:sp fv vs H Q E):wpAny (model X.prog X.w) X.A (call (.ref f) us) (EP X pins σ Q) X.xe s:=by
 refine dO (cT (F.run X.A X.stack s H f fv us vs Q E hr I.env0 hc r h) fun r s' hq=>?_);cases r with
 |error e=>exact hx pins σ H s e s' I hq
 |ok fl=>
  cases fl with
  |ret u=>exact I.after hq
  |next=>exact bo hq
  |brk=>exact bo hq
  |cont=>exact bo hq
theorem xV.fn{pins:List (Addr×Obj)}{σ:St}{H:Hp}{s:ae}{f:Addr}{fv:List (Str×V)}(hc:xV H f nm qual params body scope fv)(I:Inv X pins σ H s):W.FnAt f s.heap:=by
 obtain⟨clos,c,o,u,u',xs,t,doc,pm,ctv,h1,_⟩:=hc;obtain⟨e,_⟩:=I.hok f _ h1;exact⟨_,_,_,_,e⟩
def xpx(nm qual:Str)(params:b7)(body:cV)(scope:Scope)(sp:List (Str×V)→Sp)(E:XK)(i:Nat)(t:TA):TE:=fun σ H Q=>∃f fv,σ[i]? =some (some (.ref f))∧xV H f nm qual params body scope fv∧t σ H fun vs H1=>xV H1 f nm qual params body scope fv∧sp fv vs H1 Q E
theorem xhD(i:Nat)(F:yR X.prog X.w X.K X.mg X.base CX k nm qual params body scope ps sp)(hr:xI k X.A)(hx:Passes CX X E)(ha:PA X (e::es) t)(hN:X.N[i]? =some x:=by rfl)(hv:Vis X.env.scope x:=by first|exact aM rfl|exact dk (aM rfl)|exact dk (dk rfl))(hd:(x==("__debug__":Str))=false:=by decide)
  (hcd:(x==("__classdict__":Str))=false:=by decide) (he:aI (e::es) X.env=(false,eval e X.env)::aI es X.env:=by rfl) (hpl:(bN pos (aI es X.env)).any (·.1)=false:=by rfl):
  PE X (.Call (.Name x p) (e::es) [] pos) (xpx nm qual params body scope sp E i t):=by
 intro pins s σ H Q I h;obtain⟨f,fv,e1,hc,h⟩:=h;refine bH (thn (xhm (pos:=p) hN hv hd hcd pins s σ H (fun v H1=>v= .ref f∧H1=H) I ⟨_,e1,rfl,rfl⟩) fun u s1 ⟨v,H1,I1,r,q1,q2⟩=>?_);subst q1;subst q2;cases (show u=aT f from r);refine W.callWith_F (hc.fn I1) (thn (ha pos pins s1 σ H1 _ I1 h) fun us s2 ⟨vs,H2,I2,r2,q⟩=>⟨q.1.fn I2,?_⟩) he hpl;exact xjk F hr hx I2 q.1 r2 q.2
end
theorem Inv.capd{X:Cx}{pins:List (Addr×Obj)}{σ:St}{H:Hp}{s:ae}(hfn:∀x,X.fn x=true)(I:Inv X pins σ H s)(g:Str→Bool):Inv {X with fn:=g} pins σ H s:=by
 have ok:=I.ok;refine⟨⟨ok.mod,ok.kind,ok.glob,ok.blt,ok.above,ok.inj,ok.has,fun x c _ h=>ok.cab x c (hfn x) h,ok.hd,ok.frames,ok.stk,ok.exf,ok.bs,ok.bsz,ok.noex,ok.exfs,ok.funs,ok.frf,ok.cab2,ok.hz⟩,I.os,I.bare,I.base,I.loc,I.cell,I.free,fun x c e=>?_,I.pin,I.hok,I.len⟩;rcases I.freeC x c e with z|⟨z,_⟩
 ·exact .inl z
 ·rw[hfn x]at z;cases z
abbrev xj9(cap:List Str):Str→Bool:=fun x=> !(cap.contains x)
abbrev xaO(cap:List Str)(CX:CXT)(P:aG)(w:World)(K:ah)(mg:Str→Option Value)(base:Heap)(N:List Str)(qual:Str)(scope:Scope)(f:Addr)(cd:Value)(A:aL)(outer:List Env)(s:ae)(H:Hp)(E:XK):Cx:=
 {vH CX P w K mg base N qual scope f cd A outer s H E with fn:=xj9 cap}
theorem Fun.okC{P:aG}{w:World}{K:ah}{mg:Str→Option Value}{base:Heap}{x qual:Str}{st:Stmt}{f c:Addr}{fd:aw}{N ps:List Str}{k:Nat}{sp:Sp}(cap:List Str)(F:Fun K x qual st f fd)(hc:fd.code= .ref c)(S:xo N ps (xh st))(len:∀vs H Q E,sp vs H Q E→vs.length=ps.length)
  (hbody:∀(A:aL) (outer:List Env) (s:ae) (H:Hp) (vs:List V) (Q:VK) (E:XK),xI k (A.deeper (eP qual (xh st) s.heap.objs.size f (.ref c)))→sp vs H Q E→
   ∃t,PSs (xaO cap CX0 P w K mg base N qual (xh st) f (.ref c) A outer s H E).nox (xD st) t∧t {nx:=fun _ H'=>Q .non H',rt:=Q} (start N vs) H):xy P w K mg base CX0 (k+1) f fd ps sp:=by
 obtain⟨oc,od,kV,doc,pm,an,cdv,ct,osl,rfl,lk,hcd⟩:=F.ex;obtain rfl:cdv= .ref c:=hc;refine⟨len,fun A outer s H args us vs Q E hr e0 hb r hsp=>?_⟩;have hl:=len _ _ _ _ hsp;have KX:K.In s.heap:=e0.mod.kin.keeps fun b o e=>(e0.bs b o e).1;have lim:s.heap.NoLimit:=e0.mod.nolimit.keeps fun b o e=>(e0.bs b o e).1;have hkind:∀y∈ps.zip us,(xh st).names.lookup y.1=some .local∨((xh st).names.lookup y.1=some .cell∧((iH (s.heap.objs.size+1) (xh st).names []).lookup y.1).isSome=true):=fun⟨n,v⟩ hy=>by
  rcases S.par n (eC hy).1 with q|q
  ·exact .inl q
  ·exact .inr ⟨q,gd _ _ _ (.inl q)⟩
 refine eQ hr.depth (KX _ _ lk) rfl S.co S.gen rfl (kA KX hcd) (hb _ _ _ _ ?_);refine fg S.kind hkind fun env he s1 x=>?_;subst he;refine⟨lim.keeps x.toInCall.keep,codeAny_func ?_⟩;obtain⟨t,ht,hq⟩:=hbody A outer s H vs Q E (hr.deeper _) hsp;have I:Inv (vH CX0 P w K mg base N qual (xh st) f (.ref c) A outer s H E) [] (start N vs) H s1:=xcC S hr.hd e0 hl r x;have I':Inv (xaO cap CX0 P w K mg base N qual (xh st) f (.ref c) A outer s H E).nox [] (start N vs) H s1:=(I.capd (fun _=>rfl) (xj9 cap)).wish _;refine aK (ht [] s1 (start N vs) H _ I' hq) (fun fl s' hs=>?_) fun e s' hs=>hs.elim;have fin:∀{σ':St} {H':Hp} {v:V} {u:Value},Inv (xaO cap CX0 P w K mg base N qual (xh st) f (.ref c) A outer s H E).nox [] σ' H' s'→RelV v u→Q v H'→CE outer P w H s Q u s':=
  fun{σ' H' v u} J rv q=>⟨v,H',J.os,J.bare,J.base,J.hok,rv,q⟩
 cases fl with
 |ret u=>
  obtain⟨v,σ',H',J,rv,q⟩:=hs;exact fin J rv q
 |next=>
  obtain⟨σ',H',J,q⟩:=hs;exact fin (v:=V.non) (u:=a8) J rfl q
 |brk=>
  obtain⟨_,_,_,q⟩:=hs;exact bo q
 |cont=>
  obtain⟨_,_,_,q⟩:=hs;exact bo q
section
variable {X:Cx} {c P:Addr} {qs:List (Pos×Str)} {name q:Str} {params:b7} {scope:Scope} {pos:Pos} {fns:List Str}
theorem zv{e:Expr}(hcode:X.env.code= .ref c)(T:zJ X.K c P)(hql:X.env.qual++"<lambda>"=q)(hq:(pos,q)∈qs)(hu:(qs.all fun p=> !((pos.line==p.1.line)&&(pos.col==p.1.col))||(p.2==q))=true)
  (hfr:(scope.names.filter fun y=>y.2== .free).map (·.1)=fns) (hdef:defaultsOf params X.env=([],[]):=by rfl):
  PE X (.Lambda params e scope pos) (tFn X P qs fns "<lambda>" q params (.expr e) scope):=by
 subst hql;exact xlv hcode T hq hu hfr hdef
end
theorem xod{K:ah}{c P:Addr}(e:W.codeHdIn K c P=true):zJ K c P:=fun _ X=>W.codeHd_of_K X e
end L2
namespace L2
open PySem PySem.Spec PyProof.Rows
theorem xql{X:Cx}{a b:Expr}{pos:Pos}{op:CmpOp}{t:TE}(h:PC X op a b t)(h1:c8 op b=false):PT X (.Compare a [op] [b] pos) (cB t):=by
 intro pins s σ H Q I hw;refine gp (thn (h pins s σ H _ I hw) fun v s1 h1=>thn h1 fun u s2 h2=>thn h2 fun c s3 ⟨x,H1,I1,r1,q1⟩=>?_) h1;obtain⟨d,rfl,q⟩:=jW q1;cases r1;exact cy ⟨H1,I1,q⟩
end L2
namespace L2
open PySem PySem.Spec PyProof.Rows
theorem xcN{K:ah}{l:Addr}{xs:List V}{te:TE}{caps:L2.St}{Q:VK}{H2:Hp}(f:V→V)(hl:SqL K H2 l xs)(hn:xs.length≤aQ)
  (hs:∀(x:V) (H3:Hp),x∈xs→xb H2 H3→∀R:VK,(∀H6,xb H3 H6→R (f x) H6)→te (some x::caps) H3 R)
  (hd:∀D H',H2 D=none→xb H2 H'→H' D=some (.lst (xs.map f))→Q (.ref D) H'):yP (Itl K l) caps xef te Q H2:=by
 unfold yP;intro D hD;refine⟨fun i m acc H3=>m=xs.length - i∧i≤xs.length∧acc=(xs.take i).map f∧H3 D=some (.lst acc)∧xb H2 H3,⟨xs.length,by simp,aN _,rfl,xk,xb.new hD⟩,?_⟩;rintro i m acc H3 ⟨rfl,hi,rfl,hD3,s3⟩;refine⟨hD3,?_⟩;have q:=s3.seq hl
 by_cases hlt:i<xs.length
 ·have hx:xs[i]? =some xs[i]:=aj hlt;refine .inr ⟨⟨xs,xs[i],q,hx⟩,by simp;lia,fun v H4 y=>?_⟩;obtain⟨e,y⟩:=y;have ev:=y xs q;rw[hx]at ev;cases ev;subst e;refine⟨fun _=>?_,fun z=>by cases z⟩;refine hs _ _ (cG hlt) s3 _ fun H6 s6=>⟨s6.at hD3,xs.length - (i+1),by lia,rfl,hlt,?_,xk,(s3.trans s6).put hD⟩;rw[cb,hx,aJ];rfl
 ·have e:i=xs.length:=by lia
  subst e;rw[cq]at hD3;exact .inl ⟨⟨xs,q,ak _⟩,hd D H3 hD s3 hD3⟩
end L2
namespace L2
open PySem PySem.W PyProof.Rows
structure STO(lt:Nat→Nat→Bool)(n:Nat):Prop where
 irr:∀i,i<n→lt i i=false
 tr:∀i j k,i<n→j<n→k<n→lt i j=true→lt j k=true→lt i k=true
 tot:∀i j,i<n→j<n→i≠j→lt i j=true∨lt j i=true
def Wp{α:Type}(lt:Nat→Nat→Bool)(n:Nat):KasT α→(α→Prop)→Prop
 | .ret a,Q=>Q a
 | .ask i j k,Q=>i<n∧j<n∧Wp lt n (k (lt i j)) Q
section
variable {lt:Nat→Nat→Bool} {n:Nat} {α β:Type}
theorem Wp.bind{f:α→KasT β}{Q:β→Prop}:∀{t:KasT α},Wp lt n t (fun a=>Wp lt n (f a) Q)→Wp lt n (t.bind f) Q
 | .ret _,h=>h
 | .ask _ _ _,⟨h1,h2,h⟩=>⟨h1,h2,Wp.bind h⟩
theorem Wp.kas{cmp:Nat→Nat→(Bool→ae→Prop)→ae→Prop}{Q:α→ae→Prop}{s:ae}(hc:∀i j (C:Bool→ae→Prop),i<n→j<n→C (lt i j) s→cmp i j C s):∀{t:KasT α},Wp lt n t (fun a=>Q a s)→t.kasWp cmp Q s
 | .ret _,h=>h
 | .ask i j k,⟨h1,h2,h⟩=>hc i j _ h1 h2 (Wp.kas hc h)
theorem wp_mono{Q Q':α→Prop}:∀{t:KasT α},Wp lt n t Q→(∀a,Q a→Q' a)→Wp lt n t Q'
 | .ret _,h,k=>k _ h
 | .ask _ _ _,⟨h1,h2,h⟩,k=>⟨h1,h2,wp_mono h k⟩
structure Pm(n:Nat)(p:Array Nat):Prop where
 size:p.size=n
 perm:p.toList.Perm (a9 n)
abbrev g0(p:Array Nat)(i:Nat):Nat:=p.getD i 0
theorem vV(p:Array Nat)(i:Nat):g0 p i=(p[i]?).getD 0:=by unfold g0;rw[Array.getD_eq_getD_getElem?]
theorem Pm.bd{p:Array Nat}(P:Pm n p){i:Nat}(h:i<n):g0 p i<n:=by
 have hi:i<p.size:=by rw[P.size];exact h
 have e:g0 p i=p[i]:=by rw[vV,de hi];rfl
 rw[e];exact bx.mp (P.perm.mem_iff.mp (i4.mpr (Array.getElem_mem hi)))
theorem Pm.inj{p:Array Nat}(P:Pm n p){i j:Nat}(h:i<n)(h':j<n)(ne:i≠j):g0 p i≠g0 p j:=by
 have nd:p.toList.Nodup:=P.perm.nodup_iff.mpr dZ;have hi:i<p.toList.length:=by rw[br,P.size];exact h
 have hj:j<p.toList.length:=by rw[br,P.size];exact h'
 have e:∀k (hk:k<p.toList.length),g0 p k=p.toList[k]:=fun k hk=>by
  rw[vV,←gr,aj hk];rfl
 rw[e i hi,e j hj];exact fun z=>ne ((ig nd).mp z)
def Up(lt:Nat→Nat→Bool)(p:Array Nat)(m:Nat):Prop:=∀i j,i<j→j<m→lt (g0 p i) (g0 p j)=true
def Dn(lt:Nat→Nat→Bool)(p:Array Nat)(m:Nat):Prop:=∀i j,i<j→j<m→lt (g0 p j) (g0 p i)=true
theorem Up.snoc(S:STO lt n){p:Array Nat}(P:Pm n p){m:Nat}(hm:m<n)(h1:1≤m)(U:Up lt p m)(h:lt (g0 p (m - 1)) (g0 p m)=true):Up lt p (m+1):=fun i j hij hj=>by
 by_cases e:j=m
 ·subst e
  by_cases e2:i=j - 1
  ·subst e2;exact h
  ·exact S.tr _ _ _ (P.bd (by lia)) (P.bd (by lia)) (P.bd hm) (U i (j - 1) (by lia) (by lia)) h
 ·exact U i j hij (by lia)
theorem Dn.snoc(S:STO lt n){p:Array Nat}(P:Pm n p){m:Nat}(hm:m<n)(h1:1≤m)(U:Dn lt p m)(h:lt (g0 p m) (g0 p (m - 1))=true):Dn lt p (m+1):=fun i j hij hj=>by
 by_cases e:j=m
 ·subst e
  by_cases e2:i=j - 1
  ·subst e2;exact h
  ·exact S.tr _ _ _ (P.bd hm) (P.bd (by lia)) (P.bd (by lia)) h (U i (j - 1) (by lia) (by lia))
 ·exact U i j hij (by lia)
theorem xhE(S:STO lt n){p:Array Nat}(P:Pm n p){Q:Nat→Prop}:∀(f m:Nat),1≤m→m+f≤n→Up lt p m→(∀m',m≤m'→m'≤m+f→Up lt p m'→(m'<m+f→lt (g0 p m') (g0 p (m' - 1))=true)→Q m')→Wp lt n (kas_asc p f m) Q
 |0,m,_,_,U,h=>h m (ak _) (ak _) U (fun z=>absurd z (by lia))
 |f+1,m,h1,hf,U,h=>by
  refine⟨P.bd (by lia),P.bd (by lia),?_⟩;cases e:lt (p.getD m 0) (p.getD (m - 1) 0)with
  |true=>exact h m (ak _) (by lia) U fun _=>e
  |false=>
   have e2:lt (g0 p (m - 1)) (g0 p m)=true:=(S.tot _ _ (P.bd (by lia)) (P.bd (by lia)) (P.inj (by lia) (by lia) (by lia))).resolve_right (by rw[show lt (g0 p m) (g0 p (m - 1))=false from e];simp);exact xhE S P f (m+1) (by lia) (by lia) (U.snoc S P (by lia) h1 e2) fun m' a1 a2 a3 a4=>h m' (by lia) (by lia) a3 fun z=>a4 (by lia)
theorem xjl(S:STO lt n){p:Array Nat}(P:Pm n p){Q:Array Nat×Nat×Nat→Prop}:∀(f m:Nat),2≤m→m+f≤n→Dn lt p m→(∀m',2≤m'→m'≤n→Dn lt p m'→Q (p,m',0))→Wp lt n (kas_desc f p m 0) Q
 |0,m,_,hf,U,h=>h m (by lia) (by lia) U
 |f+1,m,h1,hf,U,h=>by
  refine⟨P.bd (by lia),P.bd (by lia),?_⟩;cases e:lt (p.getD m 0) (p.getD (m - 1) 0)with
  |true=>exact xjl S P f (m+1) (by lia) (by lia) (U.snoc S P (by lia) (by lia) e) h
  |false=>
   have e2:lt (g0 p (m - 1)) (g0 p m)=true:=(S.tot _ _ (P.bd (by lia)) (P.bd (by lia)) (P.inj (by lia) (by lia) (by lia))).resolve_right (by rw[show lt (g0 p m) (g0 p (m - 1))=false from e];simp);refine⟨P.bd (by lia),P.bd (by lia),?_⟩;rw[show lt (p.getD (m - 1) 0) (p.getD m 0)=true from e2];exact h m (by lia) (by lia) U
theorem Pm.rev{p:Array Nat}(P:Pm n p)(i j:Nat):Pm n (kas_rev p i j):=⟨by unfold kas_rev;rw[mirror_size];exact P.size,(gU.mp (mirror_perm p i j ((j - i) / 2))).trans P.perm⟩
theorem Dn.rev{p:Array Nat}(P:Pm n p){m:Nat}(hm:m≤n)(U:Dn lt p m):Up lt (kas_rev p 0 m) m:=fun i j hij hj=>by
 have e:∀k,k<m→g0 (kas_rev p 0 m) k=g0 p (m - 1 - k):=fun k hk=>by
  rw[vV,vV];unfold kas_rev;rw[getElem?_mirror_all (by rw[P.size];exact hm),if_pos ⟨aN _,hk⟩]
  congr 2
  lia
 rw[e i (by lia),e j hj];exact U (m - 1 - j) (m - 1 - i) (by lia) (by lia)
theorem xmO(S:STO lt n){p:Array Nat}(P:Pm n p){m:Nat}(h1:1≤m)(hm:m≤n)(U:Dn lt p m):Wp lt n (kas_tail3 m n p) (fun r=>Pm n r.2∧1≤r.1∧r.1≤n∧Up lt r.2 r.1):=
 Wp.bind (xhE S (P.rev 0 m) (n - m) m h1 (by lia) (U.rev P hm) fun m' a1 a2 a3 _=>⟨P.rev 0 m,by show 1≤m';lia,by show m'≤n;lia,a3⟩)
theorem xmP(S:STO lt n){p:Array Nat}(P:Pm n p)(h2:2≤n):Wp lt n (kas_count n p) (fun r=>Pm n r.2∧1≤r.1∧r.1≤n∧Up lt r.2 r.1):=by
 refine Wp.bind (xhE S P (n - 1) 1 (ak _) (by lia) (fun i j h1 h2=>absurd h2 (by lia)) fun m a1 a2 a3 a4=>?_)
 by_cases e:(m==n)=true
 ·rw[if_pos e];exact⟨P,a1,by show m≤n;lia,a3⟩
 ·rw[if_neg e];have hmn:m<n:=by
   have:m≠n:=by simpa using e
   lia
  by_cases e2:m > 1
  ·rw[if_pos e2];refine⟨P.bd (by lia),P.bd (by lia),?_⟩;rw[show lt (p.getD 0 0) (p.getD (m - 1) 0)=true from a3 0 (m - 1) (by lia) (by lia)];exact⟨P,a1,by show m≤n;lia,a3⟩
  ·rw[if_neg e2];have e3:m=1:=by lia
   subst e3;refine Wp.bind (xjl S P (n - 2) 2 (ak _) (by lia) (fun i j h1 h2=>?_) fun m' b1 b2 b3=>?_)
   ·obtain rfl:j=1:=by lia
    obtain rfl:i=0:=by lia
    exact a4 (by lia)
   ·exact xmO S P (by show 1≤m';lia) b2 b3
theorem xeh(S:STO lt n){p:Array Nat}(P:Pm n p){k:Nat}(hk:k<n){Q:Nat→Prop}(h:∀l,l≤k→(∀i,i<l→lt (g0 p i) (g0 p k)=true)→(∀i,l≤i→i<k→lt (g0 p k) (g0 p i)=true)→Q l)(U:Up lt p k):
  ∀(f l r:Nat),l≤r→r≤k→r - l≤f→(∀i,i<l→lt (g0 p i) (g0 p k)=true)→(∀i,r≤i→i<k→lt (g0 p k) (g0 p i)=true)→Wp lt n (kas_place p k f l r) Q
 |0,l,r,a1,a2,a3,b1,b2=>h l (by lia) b1 fun i h1 h2=>b2 i (by lia) h2
 |f+1,l,r,a1,a2,a3,b1,b2=>by
  unfold kas_place
  by_cases e:l≥r
  ·rw[if_pos e];exact h l (by lia) b1 fun i h1 h2=>b2 i (by lia) h2
  ·rw[if_neg e];have hm1:(l+r) / 2<r:=by lia
   have hm2:l≤(l+r) / 2:=by lia
   refine⟨P.bd hk,P.bd (by lia),?_⟩;cases e2:lt (p.getD k 0) (p.getD ((l+r) / 2) 0)with
   |true=>
    refine xeh S P hk h U f l ((l+r) / 2) hm2 (by lia) (by lia) b1 fun i h1 h2=>?_
    by_cases e3:i=(l+r) / 2
    ·subst e3;exact e2
    ·exact S.tr _ _ _ (P.bd hk) (P.bd (by lia)) (P.bd (by lia)) e2 (U ((l+r) / 2) i (by lia) h2)
   |false=>
    have e4:lt (g0 p ((l+r) / 2)) (g0 p k)=true:=(S.tot _ _ (P.bd (by lia)) (P.bd hk) (P.inj (by lia) hk (by lia))).resolve_right (by rw[show lt (g0 p k) (g0 p ((l+r) / 2))=false from e2];simp);refine xeh S P hk h U f ((l+r) / 2+1) r (by lia) a2 (by lia) (fun i h1=>?_) b2
    by_cases e3:i=(l+r) / 2
    ·subst e3;exact e4
    ·exact S.tr _ _ _ (P.bd (by lia)) (P.bd (by lia)) (P.bd hk) (U i ((l+r) / 2) (by lia) (by lia)) e4
theorem Up.ins{p:Array Nat}(P:Pm n p){k l:Nat}(hk:k<n)(hl:l≤k)(U:Up lt p k)(b1:∀i,i<l→lt (g0 p i) (g0 p k)=true)(b2:∀i,l≤i→i<k→lt (g0 p k) (g0 p i)=true):Up lt (bubble p k (k - l)) (k+1):=fun i j hij hj=>by
 have e:∀x,g0 (bubble p k (k - l)) x=if x=l then g0 p k else if l<x∧x≤k then g0 p (x - 1)else g0 p x:=fun x=>by
  rw[vV,getElem?_bubble (by rw[P.size];exact hk) (k - l) (by lia),show k - (k - l)=l by lia]
  by_cases h1:x=l
  ·rw[if_pos h1,if_pos h1,vV]
  ·rw[if_neg h1,if_neg h1]
   by_cases h2:l<x∧x≤k
   ·rw[if_pos h2,if_pos h2,vV]
   ·rw[if_neg h2,if_neg h2,vV]
 rw[e i,e j]
 by_cases hi:i=l
 ·rw[if_pos hi,if_neg (by lia),if_pos ⟨by lia,by lia⟩];exact b2 (j - 1) (by lia) (by lia)
 ·rw[if_neg hi]
  by_cases hj':j=l
  ·rw[if_pos hj',if_neg (by lia)];exact b1 i (by lia)
  ·rw[if_neg hj']
   by_cases h1:l<i∧i≤k
   ·rw[if_pos h1,if_pos ⟨by lia,by lia⟩];exact U (i - 1) (j - 1) (by lia) (by lia)
   ·rw[if_neg h1]
    by_cases h2:l<j∧j≤k
    ·rw[if_pos h2];exact U i (j - 1) (by lia) (by lia)
    ·rw[if_neg h2];exact U i j hij (by lia)
theorem Pm.bub{p:Array Nat}(P:Pm n p)(k d:Nat):Pm n (bubble p k d):=⟨by rw[bubble_size];exact P.size,(gU.mp (bubble_perm p k d)).trans P.perm⟩
theorem xly(S:STO lt n):∀(f:Nat) (p:Array Nat) (k:Nat),k+f=n→Pm n p→Up lt p k→Wp lt n (kas_bin f p k) (fun q=>Pm n q∧Up lt q n)
 |0,p,k,e,P,U=>⟨P,by rw[show n=k by lia];exact U⟩
 |f+1,p,k,e,P,U=>by
  refine Wp.bind (xeh S P (by lia) (fun l hl b1 b2=>?_) U k 0 k (aN _) (ak _) (by lia) (fun i h=>absurd h (by lia)) fun i h1 h2=>absurd h2 (by lia));exact xly S f _ (k+1) (by lia) (P.bub k (k - l)) (U.ins P (by lia) hl b1 b2)
theorem xjm(S:STO lt n)(h2:2≤n):Wp lt n (kas_sort n) (fun q=>Pm n q∧Up lt q n):=by
 have P0:Pm n (az (a9 n)):=⟨by simp,by simp⟩;refine Wp.bind ?_;refine wp_mono (xmP S P0 h2) fun r hr=>?_;obtain⟨P,a1,a2,U⟩:=hr
 by_cases e:r.1<n
 ·rw[if_pos e,show max r.1 1=r.1 by lia];exact xly S (n - r.1) r.2 r.1 (by lia) P U
 ·rw[if_neg e];exact⟨P,by rw[show n=r.1 by lia];exact U⟩
end
end L2
namespace PySem
open PyProof.Rows
section
variable {prog:aG} {w:World} {A:aL} {E:Value→ae→Prop} {s:ae}
theorem xiH{r:Addr}{a b c:Int}{t u v:Tok}{k:Nat}{Q:List Value→ae→Prop}(hnd:A.handled=none)(hr:IsRange s.heap r a b c t u v)
  (hk:bb a b c=k) (hle:k≤2^24)
  (hQ:∀g tk xs m,(∀b o,s.heap.get? b=some o→g.get? b=some o)→s.heap.objs.size<g.objs.size→
   g.get? s.heap.objs.size=some {cls:=.type "list",dict:=none,data:=.seq xs m,slots:=#[]}→ie (fun i v=>∃t,v= .int (a+i*c) t) xs k→Q xs.toList {s with heap:=g,toks:=tk}):
  wpAny (model prog w) A (collect (.ref r)) Q E s:=by
 unfold collect;refine aa (wpAny_runValue (cO entry_proto_collect' ?_));show wpAny _ _ (do again (.builtin "list.__iadd__" ⟨[←newList [],.ref r],[]⟩)) _ _ s;refine aa (fh (ao ⟨fP _ (by decide+kernel),cO entry_list_iadd' ?_⟩));show wpAny _ _ (bC (.ref s.heap.objs.size) (.ref r) (.ref s.heap.objs.size)) _ _ {s with heap:=s.heap.push (aW "list" #[] 0)};have hD:(s.heap.push (aW "list" #[] 0)).get? s.heap.objs.size=some {cls:=.type "list",data:=.seq #[] 0}:=aA _ rfl;have old:∀b o,s.heap.get? b=some o→(s.heap.push (aW "list" #[] 0)).get? b=some o:=fun b o e=>ag _ e;refine xeR (prog:=prog) (w:=w) (A:=A) (R:=fun r s'=>match r with| .ok (.ret v)=>wpAny (model prog w) A (match v with| .ref a=>do {let o ←load a;match o.data with| .seq xs _=>pure xs.toList|_=>unsupported "internal:collect"} |_=>unsupported "internal:collect") Q E s'| .ok _=>False| .error e=>E e s') (s:={s with heap:=s.heap.push (aW "list" #[] 0)}) hnd (old r _ hr) hk hle s.heap.objs.size (.ref s.heap.objs.size) 0 hD fun g tk xs m q1 q2 q3=>?_;show wpAny (model prog w) A (do
   let o ←load s.heap.objs.size
   match o.data with
   | .seq xs _=>pure xs.toList
   |_=>unsupported "internal:collect") Q E {s with heap:=g,toks:=tk}
 refine aa (wpAny_load q2 ?_);exact ao (hQ g tk xs m (fun b o e=>q1 b o (aq (ai e)) (old b o e)) (ai q2) q2 q3)
end
end PySem
namespace HT
open PySem PyProof.Rows
open PySem.SeqAt
open PySem.AutoSeq1 (wpAny_loadPart')
open PySem.MeetsSeq PySem.MeetsSeq2 PySem.MeetsSeq3
theorem xjn{vs:List Value}{ns:List Int}(h:cE vs ns){i:Nat}(hi:i<ns.length):∃t,vs[i]? =some (.int ns[i] t):=by
 have hx:(ns.map L2.V.int)[i]? =some (.int ns[i]):=by rw[aF,aj hi];rfl
 obtain⟨u,h1,t,rfl⟩:=L2.Vals.get (L2.xcE h) hx;exact⟨t,h1⟩
theorem xoe(l b:Addr)(items items2:Array Value)(n n2:Nat)(dd dd2:Option Addr)(sl sl2:Array (Option Value))(ns ms:List Int)(hi:cE items.toList ns)(hj:cE items2.toList ms)(k:Nat):
  ∀i:Nat,ns.length - i=k→i≤ns.length→i≤ms.length→Meets (eR.«list.__eq__.loop» ⟨[.ref l,.ref b,bX i,bX 0],[]⟩)
   (fun A R s=>s.heap.get? l=some {cls:=.type "list",dict:=dd,data:=.seq items n,slots:=sl}∧s.heap.get? b=some {cls:=.type "list",dict:=dd2,data:=.seq items2 n2,slots:=sl2}∧
    R (.ok (.ret (.bool (lexLt (ns.drop i) (ms.drop i))))) s):=by
 have z1:items.size=ns.length:=by rw[←hi.length];simp
 have z2:items2.size=ms.length:=by rw[←hj.length];simp
 induction k with
 |zero=>
  intro i hk h1 h2 prog w A R s h;obtain⟨hp,g,d,tk,os⟩:=s;obtain⟨hl,hb,h⟩:=h
  wp_walk using bF hl,bF hb
  have hi1:items[((i:Nat):Int).toNat]? =none:=by simp;lia
  rw[hi1]
  wp_walk using bF hl,bF hb
  show R (.ok (.ret (.bool (decide (items.size<items2.size))))) _;rw[cI (by lia)]at h;cases e:ms.drop i with
  |nil=>
   rw[e]at h;have:ms.length≤i:=List.drop_eq_nil_iff.mp e;rw[decide_eq_false (by lia)];exact h
  |cons y r=>
   rw[e]at h;have:¬ms.length≤i:=fun z=>by rw[cI z]at e;cases e
   rw[decide_eq_true (by lia)];exact h
 |succ k ih=>
  intro i hk h1 h2 prog w A R s h;obtain⟨hp,g,d,tk,os⟩:=s;obtain⟨hl,hb,h⟩:=h;have hlt:i<ns.length:=by lia
  obtain⟨t,ht⟩:=xjn hi hlt;have hi1:items[((i:Nat):Int).toNat]? =some (.int ns[i] t):=by simpa using ht
  wp_walk using bF hl,bF hb
  by_cases hlt2:i<ms.length
  ·obtain⟨u,hu⟩:=xjn hj hlt2;have hi2:items2[((i:Nat):Int).toNat]? =some (.int ms[i] u):=by simpa using hu
   rw[hi1,hi2];have e1:ns.drop i=ns[i]::ns.drop (i+1):=df hlt;have e2:ms.drop i=ms[i]::ms.drop (i+1):=df hlt2;rw[e1,e2,yX]at h;have hc:((i:Int)+1)=((i+1:Nat):Int):=by push_cast;rfl
   obtain⟨e,he,hiff⟩:=xhq A.in1 ⟨hp,g,d,tk,os⟩ ns[i] t ms[i] u;refine aa (he prog w _ _ ?_);cases e with
   |true=>
    rw[if_pos (hiff.mp rfl)]at h
    wp_walk
    rw[hc];exact⟨bV plain_eq_loop _,cO entry_eq_loop (by
     rw[c3 plain_eq_loop _];exact ih (i+1) (by lia) (by lia) (by lia) prog w A R _ ⟨hl,hb,h⟩)⟩
   |false=>
    rw[if_neg (fun q=>absurd (hiff.mpr q) aC)]at h
    wp_walk using bF hl,bF hb
    rw[hi1,hi2];have hri:=xhr A.in1 ⟨hp,g,d,tk,os⟩ ns[i] t ms[i] u prog w
    wp_walk using hri
    simpa using h
  ·have hi2:items2[((i:Nat):Int).toNat]? =none:=by simp;lia
   rw[hi1,hi2]
   wp_walk using bF hl,bF hb
   show R (.ok (.ret (.bool (decide (items.size<items2.size))))) _;rw[decide_eq_false (by lia)];have e1:ns.drop i=ns[i]::ns.drop (i+1):=df hlt;have e2:ms.drop i=[]:=cI (by lia);rw[e1,e2]at h;exact h
theorem xcO(l b:Addr)(items items2:Array Value)(n n2:Nat)(dd dd2:Option Addr)(sl sl2:Array (Option Value))(ns ms:List Int)(hi:cE items.toList ns)(hj:cE items2.toList ms):
  Meets (eR.«list.__lt__» ⟨[.ref l,.ref b],[]⟩)
   (fun _ R s=>s.heap.get? l=some {cls:=.type "list",dict:=dd,data:=.seq items n,slots:=sl}∧s.heap.get? b=some {cls:=.type "list",dict:=dd2,data:=.seq items2 n2,slots:=sl2}∧
    R (.ok (.ret (.bool (lexLt ns ms)))) s):=by
 intro prog w A R s h;obtain⟨hp,g,d,tk,os⟩:=s;obtain⟨hl,hb,h⟩:=h;have f3:=AutoSeq1.sub_list_list
 wp_walk using bF hl,bF hb
 exact⟨bV plain_eq_loop _,cO entry_eq_loop (by
  rw[c3 plain_eq_loop _];exact xoe l b items items2 n n2 dd dd2 sl sl2 ns ms hi hj _ 0 rfl (aN _) (aN _) prog w A R _ ⟨hl,hb,by simpa using h⟩)⟩
end HT
namespace HT
open PySem PyProof.Rows
section
variable {prog:aG} {w:World} {A:aL} {E:Value→ae→Prop} {s:ae}
theorem xiI{l b:Addr}{items items2:Array Value}{ns ms:List Int}{Q:Value→ae→Prop}(hl:s.heap.IsList l items)(hb:s.heap.IsList b items2)(hi:cE items.toList ns)(hj:cE items2.toList ms)
  (hu:A.units<cLine) (h:Q (.bool (lexLt ns ms)) s):wpAny (model prog w) A (bK .Lt (.ref l) (.ref b)) Q E s:=by
 obtain⟨⟨cls,dd,data,sl⟩,ho,hc,n,hd⟩:=id hl;obtain⟨⟨cls2,dd2,data2,sl2⟩,ho2,hc2,n2,hd2⟩:=id hb;simp only at hc hd hc2 hd2;subst hc hd hc2 hd2;exact richCompare_meets_room (op:=.Lt) ⟨_,ho,rfl⟩ ⟨_,ho2,rfl⟩ PySem.F.slot_list_lt PySem.F.entry_list_lt (PySem.F.args_list_lt_2 _ _) (xcO l b items items2 n n2 dd dd2 sl sl2 ns ms hi hj)
  ⟨ho,ho2,show dB (lexLt ns ms)≠i7∧Q (.bool (lexLt ns ms)) s from⟨(fun x=>nomatch x),h⟩⟩ hu
end
end HT
namespace L2
open PySem PySem.Spec PyProof.Rows
section
variable {X:Cx}
def xq0(K:ah):R2:=fun x y H Q=>∃a b ns ms,x= .ref a∧y= .ref b∧SqL K H a (ns.map V.int)∧SqL K H b (ms.map V.int)∧Q (.bl (HT.lexLt ns ms)) H
theorem xpy(hu:X.A.units<cLine):OpR X (bK .Lt) (xq0 X.K):=by
 intro pins s σ H x y v u Q I rx ry h;obtain⟨a,b,ns,ms,rfl,rfl,ha,hb,q⟩:=h;cases rx;cases ry;obtain⟨its,r1,p1,_⟩:=I.list ha;obtain⟨its2,r2,p2,_⟩:=I.list hb;have i1:cE its.toArray.toList ns:=intsAre_of r1;have i2:cE its2.toArray.toList ms:=intsAre_of r2;exact HT.xiI p1.isList p2.isList i1 i2 hu ⟨.bl (HT.lexLt ns ms),H,I,rfl,q⟩
end
end L2
namespace HT
open PySem PyProof.Rows
section
variable {prog:aG} {w:World} {A:aL} {E:Value→ae→Prop} {s:ae}
theorem xfL{l b:Addr}{items items2:Array Value}{ns ms:List Int}{Q:Bool→ae→Prop}(hl:s.heap.IsList l items)(hb:s.heap.IsList b items2)(hi:cE items.toList ns)(hj:cE items2.toList ms)
  (hu:A.units<cLine) (h:Q (lexLt ns ms) s):wpAny (model prog w) A (oneLt' true (.ref l) (.ref b)) Q E s:=by
 obtain⟨⟨cls,dd,data,sl⟩,ho,hc,n,hd⟩:=id hl;obtain⟨⟨cls2,dd2,data2,sl2⟩,ho2,hc2,n2,hd2⟩:=id hb;simp only at hc hd hc2 hd2;subst hc hd hc2 hd2;rw[oneLt'_eq];simp only[if_true];refine aa (wpAny_cRoomFor hu ?_);refine aa (wpAny_callSpecialIfBound?_slot (T:="list") ⟨_,ho,rfl⟩ PySem.F.slot_list_lt (fU PySem.F.slot_list_lt ⟨_,ho,rfl⟩ PySem.F.entry_list_lt (PySem.F.args_list_lt_2 _ _) (xcO l b items items2 n n2 dd dd2 sl sl2 ns ms hi hj) ⟨ho,ho2,?_⟩));exact cy h
end
end HT
namespace L2
open PySem PySem.Spec PyProof.Rows
section
variable {X:Cx}
theorem xdB{st:Stmt}:PS X st (fun _ _ _=>False):=fun _ _ _ _ _ _ q=>q.elim
theorem xbN:∀{bs:List Bool} {us:List Value},Vals (bs.map V.bl) us→us=bs.map dB
 |[],[],_=>rfl
 |[],_::_,h=>by cases h
 |_::_,[],h=>by cases h
 |b::bs,u::us,h=>by
  cases h with
  |cons h1 h2=>
   rw[xbN h2];cases h1;rfl
theorem range_all(bs:List Bool)(d:Bool):(a9 bs.length).all (fun i=>bs.getD i d)=bs.all id:=by
 rw[di,bZ,bZ];constructor
 ·intro h x hx;obtain⟨i,hi,rfl⟩:=cZ.mp hx;have:=h i (by simpa using hi);simpa [hi]using this
 ·intro h i hi;have hi':i<bs.length:=by simpa using hi
  have:=h bs[i] (cG hi');simpa [hi']using this
theorem range_any(bs:List Bool)(d:Bool):(a9 bs.length).any (fun i=>bs.getD i d)=bs.any id:=by
 rw[di,d4,d4];constructor
 ·rintro⟨i,hi,h⟩;have hi':i<bs.length:=by simpa using hi
  exact⟨bs[i],cG hi',by simpa [hi']using h⟩
 ·rintro⟨x,hx,h⟩;obtain⟨i,hi,rfl⟩:=cZ.mp hx;exact⟨i,by simpa using hi,by simpa [hi]using h⟩
def xnJ(K:ah)(f:List Bool→Bool):List V→Hp→VK→Prop:=fun xs H Q=>∃p bs,xs=[.ref p]∧SqL K H p (bs.map V.bl)∧Q (.bl (f bs)) H
theorem xdS{prog:aG}{w:World}{A:aL}(bs:List Bool):TruthOf prog w A (fun i v=>(bs.map dB).toArray[i]? =some v) (fun i=>bs.getD i true):=by
 intro i v s Q E hP hQ;have e:v= .bool (bs.getD i true):=by
  simp only[List.getElem?_toArray,aF]at hP;cases q:bs[i]? with
  |none=>rw[q]at hP;cases hP
  |some b=>rw[q]at hP;simp at hP;rw[←hP];simp[bc,q]
 rw[e];exact cy hQ
theorem xlz(hc:X.calm=true):yn X (.builtin "all") (xnJ X.K fun bs=>bs.all id):=by
 intro pins s σ H xs us Q I r h;obtain⟨p,bs,rfl,hq,q⟩:=h;obtain⟨u,rfl,rx⟩:=vals1 r;cases rx;obtain⟨its,r',pl,hz⟩:=I.list hq;have e:=xbN r';subst e;have hL:=pl.isList;have hlt:p<s.heap.objs.size:=by obtain⟨_,e,_⟩:=hL;exact ai e
 refine call_all_walk (dq hL ⟨_,_,_,_,_,_,fun i=>bs.getD i true,rfl,g7 (A:=X.A.in1) (I.ok.hd hc) _ p (aq hlt) (bs.map dB).toArray,⟨⟨_,aA _ rfl,rfl,rfl⟩,hL.push _⟩,xdS bs,fun h' tk hk=>?_⟩);refine⟨.bl (bs.all id),H,I.kept (t':=tk) (fun b o e=>hk b o (fun hb=>?_) (ag _ e)),?_,q⟩
 ·exact absurd (ai e) (by rw[aE.mp hb];exact bJ _)
 ·have e:=range_all bs true;simp only[ay,af];rw[e];rfl
theorem xlA(hc:X.calm=true):yn X (.builtin "any") (xnJ X.K fun bs=>bs.any id):=by
 intro pins s σ H xs us Q I r h;obtain⟨p,bs,rfl,hq,q⟩:=h;obtain⟨u,rfl,rx⟩:=vals1 r;cases rx;obtain⟨its,r',pl,hz⟩:=I.list hq;have e:=xbN r';subst e;have hL:=pl.isList;have hlt:p<s.heap.objs.size:=by obtain⟨_,e,_⟩:=hL;exact ai e
 refine call_any_walk (dq hL ⟨_,_,_,_,_,_,fun i=>bs.getD i true,rfl,g7 (A:=X.A.in1) (I.ok.hd hc) _ p (aq hlt) (bs.map dB).toArray,⟨⟨_,aA _ rfl,rfl,rfl⟩,hL.push _⟩,xdS bs,fun h' tk hk=>?_⟩);refine⟨.bl (bs.any id),H,I.kept (t':=tk) (fun b o e=>hk b o (fun hb=>?_) (ag _ e)),?_,q⟩
 ·exact absurd (ai e) (by rw[aE.mp hb];exact bJ _)
 ·have e:=range_any bs true;simp only[ay,af];rw[e];rfl
end
end L2
namespace L2
open PySem PySem.Spec PyProof.Rows
section
variable {X:Cx} {pins:List (Addr×Obj)} {σ:St} {H:Hp} {s:ae} {h':Heap}
theorem Inv.turnLaid{t':Nat}{ch:List Addr}{a:Addr}{o:HO}(I:Inv X pins σ H s)(k:∀b u,b∉ch→s.heap.get? b=some u→h'.get? b=some u)(hp:s.heap.objs.size≤a)(new:xE X.prog X.w (upd H a o) h' a o)
  (hn:∀b∈ch,H b=none) (hl:∀b∈ch,b<s.heap.objs.size) (hch:∀b∈ch,(b∈X.ex∨X.s₀.heap.objs.size≤b)∧b≠X.env.locals∧(∀x c,X.env.cells.lookup x=some c→c≠b)∧∀p∈X.pn++pins,p.1≠b):
  Inv X pins σ (upd H a o) {s with heap:=h',toks:=t'}:=by
 have nit:∀b u,H b=some u→b∉ch:=fun b u e z=>by rw[hn b z]at e;cases e
 have fr:=I.hok.fresh hp;refine I.call' (s':={s with heap:=h',toks:=t'}) (ch:=ch) rfl ⟨fun b o q _ _ hx=>k b o hx q,fun b o q _ _ hx=>⟨o.slots,k b o hx q⟩,fun b o q n _=>?_,fun b o q hx=>⟨o,k b o hx q⟩,fun b u q _=>?_⟩ (fun b u e=>?_) I.bare hch
 ·rw[xj (aq (au (ai q) hp))];exact n
 ·rw[xj (xv q fr)];exact q
 ·by_cases hb:b=a
  ·subst hb;rw[xk]at e;cases e;exact new
  ·rw[xj hb]at e;refine(I.hok b u e).stay (fun c v hc q=>k c v ?_ q) (fun c q=>by rw[xj (xv q fr)];exact q) fun c xs q _=>by rw[xj (xv q fr)];exact q
   rcases hc with z|z
   ·rw[z];exact nit b u e
   ·exact nit c _ z
end
def Ite(K:ah)(a:Addr):It:=
 ⟨fun i H=>∃xs x,SqL K H a xs∧xs[i]? =some x,fun i H v H'=>∃T x,v= .ref T∧H T=none∧H'=upd H T (.tup [.int i,x])∧∀xs,SqL K H a xs→xs[i]? =some x,fun i H=>∃xs,SqL K H a xs∧xs.length≤i⟩
theorem xlB{P:aG}{w:World}{K:ah}{es:List Expr}{k:Nat}{pos:Pos}(a e it:Addr)(hne:e≠it):Turn P w K (.Tuple es k pos) (Ite K a) [e,it] e (fun i h=>(∃old,IsEnum h e it (i:Nat) old)∧h.IsListIter it a i) where
 mem:=by simp
 obj:=fun i h st b hb=>by
  obtain⟨⟨old,he⟩,⟨o,e1,c,d⟩⟩:=st;rcases ar.mp hb with z|z
  ·subst z;exact⟨_,he,fun v z=>by cases z⟩
  ·rw[aE.mp z];exact⟨o,e1,fun v z=>by rw[d]at z;cases z⟩
 keep:=fun i h h' st kk=>by
  obtain⟨⟨old,he⟩,hit⟩:=st;exact⟨⟨old,kk e (by simp) _ he⟩,hit.at fun o x=>kk it (by simp) o x⟩
 item:=by
  intro X hP hw hK hc i pins s σ H E I hf st hg;subst hP hw hK;obtain⟨xs,x,hq,hx⟩:=hg;obtain⟨its,rv,p,hz⟩:=I.list hq;obtain⟨u,hu,ru⟩:=rv.get hx;obtain⟨⟨old,he⟩,hit⟩:=st;have he':=ai he;have hi':it<s.heap.objs.size:=by obtain⟨o,q,_⟩:=hit;exact ai q
  refine wpAny_pyNext_enum_item he hit p.isList (x:=u) (by simpa using hu) hne fun h' heo hit' hT hsz hk=>?_;refine⟨_,rfl,gW (s:={s with heap:=h',toks:=s.toks+1}) heo fun h2 he2 hs2=>?_⟩;have hT2:h2.get? s.heap.objs.size=some {cls:=.type "tuple",data:=.seq #[.int i s.toks,u]}:=(hs2.2 _ (dC he')).trans hT;have I2:Inv X pins σ (upd H s.heap.objs.size (.tup [.int i,x])) {s with heap:=h2,toks:=s.toks+1}:=by
   refine I.turnLaid (ch:=[e,it]) (fun b o hb q=>?_) (ak _) ⟨by simp[ax],[.int i s.toks,u],.cons ⟨_,rfl⟩ (.cons ru .nil),⟨_,hT2,rfl,_,rfl⟩⟩ (fun b hb=>(hf b hb).1) (fun b hb=>?_) fun b hb=>?_
   ·have b1:b≠e:=fun z=>hb (by simp[z]);have b2:b≠it:=fun z=>hb (by simp[z]);exact(hs2.2 b b1).trans (hk b o b1 b2 q)
   ·rcases ar.mp hb with z|z
    ·rw[z];exact he'
    ·rw[aE.mp z];exact hi'
   ·obtain⟨f0,f1,f2,f3,f4,f5⟩:=hf b hb;exact⟨f3,f1,f4,f5⟩
  refine⟨.ref s.heap.objs.size,_,I2,rfl,⟨_,x,rfl,I.hok.fresh (ak _),rfl,fun ys hy=>by rw[I.list_inj hy hq];exact hx⟩,⟨⟨u,by simpa using he2⟩,hit'.extBut hs2.extBut (aR hne)⟩,fun b hb=>?_⟩;have hb':b≠s.heap.objs.size:=by
   rcases ar.mp hb with z|z
   ·rw[z];exact aq he'
   ·rw[aE.mp z];exact aq hi'
  rw[xj hb'];exact(hf b hb).1
 done:=by
  intro X hP hw hK hc i pins s σ H E I hf st hg;subst hP hw hK;obtain⟨xs,hq,hx⟩:=hg;obtain⟨its,rv,p,hz⟩:=I.list hq;obtain⟨⟨old,he⟩,hit⟩:=st;obtain⟨f0,f1,f2,f3,f4,f5⟩:=hf it (by simp);have hl:=rv.length;exact wpAny_pyNext_enum_end (I.ok.hd hc) he hit p.isList (by simp;lia) fun h' eb=>⟨rfl,I.turned (t':=s.toks) (fun b o hb e=>eb b o hb e) f0 f1 f3 f4 f5⟩
 self:=fun _ _ _ _ _ st h=>by
  obtain⟨⟨old,he⟩,_⟩:=st;exact fY he h
section
variable {X:Cx} {es:List Expr} {k:Nat} {tp:Pos}
def xqm(K:ah)(ta:TA):TI:=fun σ H R=>ta σ H fun vs H1=>∃a,vs=[.ref a]∧(∃xs,SqL K H1 a xs)∧R (Ite K a) H1
theorem xof{l:Expr}{ta:TA}{p pos:Pos}(hg:Gl X "enumerate")(hm:X.mg "enumerate"=none)(ha:PA X [l] ta)(hs:aI [l] X.env=[(false,eval l X.env)]:=by rfl):PI X (.Tuple es k tp) (.Call (.Name "enumerate" p) [l] [] pos) (xqm X.K ta):=by
 intro pins s σ H R I h;refine Call_ (yO I hg hm xcJ (bO (thn (ha pos pins s σ H _ I h) fun us s1 ⟨vs,H1,I1,r1,q1⟩=>?_) hs rfl));obtain⟨a,e,⟨xs,hq⟩,q⟩:=q1;subst e;obtain⟨u,rfl,ru⟩:=Vals.one r1;cases ru;obtain⟨its,rv,pl,hz⟩:=I1.list hq;refine call_enumerate_list pl.isList fun h' he hi hsz hk=>fY (s:={s1 with heap:=h'}) he ?_;refine⟨s1.heap.objs.size+1,[s1.heap.objs.size+1,s1.heap.objs.size],_,_,H1,rfl,I1.kept (t':=s1.toks) hk,xlB a _ _ (Nat.succ_ne_self _),⟨⟨.none,by simpa using he⟩,hi⟩,fun b hb=>?_,q⟩;rcases ar.mp hb with z|z
 ·rw[z];exact I1.fpOk (cW _) (I1.hok.fresh (cW _))
 ·rw[aE.mp z];exact I1.fpOk (ak _) (I1.hok.fresh (ak _))
end
structure zl(X:Cx)(scope:Scope)(x1 x2:Str)(cap:List Nat)(ys:List Str):Prop where
 kind:scope.kind= .function
 nocell:∀y∈scope.names,y.2≠.cell
 locs:∀y∈scope.names,y.2= .local→scope.names.lookup y.1=some .local
 lx1:scope.names.lookup x1=some .local
 lx2:scope.names.lookup x2=some .local
 fr:∀y∈scope.names,y.2= .free→X.env.kindOf y.1=some .cell∨X.env.kindOf y.1=some .free
 cap:xbL X scope cap ys
 nd:(x1::x2::ys).Nodup
theorem xfM{X:Cx}{scope:Scope}{x1 x2:Str}{cap:List Nat}{ys:List Str}(kind:scope.kind= .function)(h1:(scope.names.all fun y=> !(y.2== .cell))=true)(h2:(scope.names.all fun y=> !(y.2== .local)||scope.names.lookup y.1==some .local)=true)
  (hx1:scope.names.lookup x1=some .local) (hx2:scope.names.lookup x2=some .local) (h3:(scope.names.all fun y=> !(y.2== .free)||(X.env.kindOf y.1==some .cell||X.env.kindOf y.1==some .free))=true) (hcap:xbL X scope cap ys) (hnd:(x1::x2::ys).Nodup):zl X scope x1 x2 cap ys:=by
 refine⟨kind,fun y hy e=>?_,fun y hy e=>?_,hx1,hx2,fun y hy e=>?_,hcap,hnd⟩
 ·have:=bZ.mp h1 y hy;rw[e]at this;exact absurd this (by decide)
 ·have:=bZ.mp h2 y hy;rw[e]at this;simpa using this
 ·have:=bZ.mp h3 y hy;rw[e]at this;simpa using this
section
variable {X:Cx} {scope:Scope} {x1 x2:Str} {cap:List Nat} {ys:List Str}
theorem zl.clos(B:zl X scope x1 x2 cap ys)(ok:X.Ok):∀y∈scope.names,y.2= .free→∃c,X.env.cells.lookup y.1=some c:=fun y hy e=>ok.has y.1 (B.fr y hy e)
theorem zl.sub(B:zl X scope x1 x2 cap ys)(ok:X.Ok){z:Str}{c:Addr}(h:(yu X.env.cells scope.names []).lookup z=some c):X.env.cells.lookup z=some c:=by
 rcases xbK (B.clos ok) h with q|q
 ·simp at q
 ·exact q
theorem zl.start{pins:List (Addr×Obj)}{σ:St}{H₂:Hp}{s₂:ae}{fp:List Addr}{h₁:Heap}{tk:Nat}{C D:Addr}(B:zl X scope x1 x2 cap ys)(I:Inv X pins σ H₂ s₂)
  (hf:∀b∈fp,vG X pins H₂ b) (hD:s₂.heap.objs.size≤D) (hC:s₂.heap.objs.size≤C) (hDC:D≠C) (hk:∀b o,s₂.heap.get? b=some o→h₁.get? b=some o)
  (hns:∃m,h₁.Ns C m) (hl:h₁.get? D=some {cls:=.type "list",data:=.seq ([]:List Value).toArray}) (hfp:∀b∈fp,b<s₂.heap.objs.size):
  Inv (X.blk scope C (x1::x2::ys) s₂ H₂ fp) [] (none::none::zk σ cap) (upd H₂ D (.lst [])) {s₂ with heap:=h₁,toks:=tk}:=by
 have ok:=I.ok;have freshC:H₂ C=none:=I.hok.fresh hC;have freshD:H₂ D=none:=I.hok.fresh hD;have lt:∀b o,s₂.heap.get? b=some o→b<s₂.heap.objs.size:=fun b o e=>ai e;refine⟨⟨ok.mod,B.kind,ok.glob,ok.blt,hC,fun y z c h1 h2=>ok.inj y z c (B.sub ok h1) (B.sub ok h2),fun y hy=>?_,fun y c h=>(aC h).elim,ok.hd,ok.frames,.inl rfl,fun b hb=>⟨?_,fun y c h e=>?_⟩,I.bs,bg ok.bsz I.sz,fun b o e hb=>?_,fun b hb hs=>?_,I.stack,I.stkFree,fun y c h=>(aC h).elim,fun b hb=>I.hok.fresh hb⟩,
  rfl,I.bare,Un.laid hk hD freshD,?_,fun y c h=>?_,?_,fun y c h=>?_,fun p hp=>?_,?_,?_⟩
 ·have hy':(iQ scope X.env).names.lookup y=some .cell∨(iQ scope X.env).names.lookup y=some .free:=hy;have m:(y,bR)∈scope.names:=by
   rcases hy' with q|q
   ·exact ud q (.inl rfl) B.nocell
   ·exact ud q (.inr rfl) B.nocell
  exact vJ (.inl m)
 ·exact aq (au (hfp b hb) hC)
 ·exact(hf b hb).2.2.2.2.1 y c (B.sub ok h) e
 ·rcases(hf b hb).2.2.2.1 with q|q
  ·exact ok.noex b o e q
  ·exact absurd (au (ai (ok.bs b o e).1) q) (bJ _)
 ·rcases ar.mp (I.stkSub b hs)with q|q
  ·exact(hf b hb).2.1 q
  ·exact(hf b hb).2.2.1 q
 ·obtain⟨m,hm⟩:=hns;refine⟨m,hm,fun i y v e1 e2 e3=>?_⟩;cases i with
  |zero=>simp at e2
  |succ i=>
   cases i with
   |zero=>simp at e2
   |succ i=>
    obtain⟨j,n1,n2,n3,n4⟩:=ja (i:=i) B.cap (by simpa [Cx.blk]using e1) (by simpa using e2);obtain⟨m0,hn0,hl0⟩:=I.loc;have vis:Vis X.env.scope y:=by
     rcases n4 with q|q
     ·exact .inr (.inl q)
     ·exact .inr (.inr q)
    obtain⟨u,ru,l⟩:=hl0 j y v n1 n2 vis;refine⟨u,ru,.inr ⟨jZ n3,?_⟩⟩;rcases l with⟨k,_⟩|⟨_,c,ec,z⟩
    ·rw[k]at n4;rcases n4 with q|q<;> cases q
    ·obtain⟨c',ec'⟩:=vJ (cells:=X.env.cells) (cs:=[]) (.inl (jY n3));have:=B.sub ok ec';rw[ec]at this;cases this;obtain⟨o,ho,hd⟩:=z;exact⟨c,ec',o,hk c o ho,hd⟩
 ·obtain⟨v,o,ho,hd⟩:=I.cell y c (B.sub ok h);exact⟨v,o,hk c o ho,hd⟩
 ·show upd H₂ D _ C=none;rw[xj (aR hDC)];exact freshC
 ·obtain⟨v,o,ho,hd⟩:=I.cell y c (B.sub ok h);rw[xj (aq (au (lt c o ho) hD))];refine(I.freeC y c (B.sub ok h)).imp id fun⟨_,o',ho',hno⟩=>⟨rfl,o',ho',fun z i v e1 k e2=>?_⟩;cases i with
  |zero=>simp at e2
  |succ i=>
   cases i with
   |zero=>simp at e2
   |succ i=>
    obtain⟨j,n1,n2,n3,n4⟩:=ja (i:=i) B.cap (by simpa [Cx.blk]using e1) (by simpa using e2);exact hno z j v n1 n4 n2
 ·exact absurd (show p∈([]:List (Addr×Obj))from hp) (by simp)
 ·exact I.hok.laid hk hD ⟨aN _,[],0,.nil,hl⟩
 ·simp[Cx.blk,zk,xcG B.cap]
theorem zl.back{pins:List (Addr×Obj)}{σ:St}{H₂ H':Hp}{s₂ s':ae}{fp:List Addr}{C:Addr}{pl:List (Addr×Obj)}{σ':St}(B:zl X scope x1 x2 cap ys)(I:Inv X pins σ H₂ s₂)
  (hf:∀b∈fp,vG X pins H₂ b) (J:Inv (X.blk scope C (x1::x2::ys) s₂ H₂ fp) pl σ' H' s'):Inv X pins σ H' s':=
 I.call' (ch:=fp) J.os J.base J.hok J.bare fun b hb=>by
  obtain⟨f0,f1,f2,f3,f4,f5⟩:=hf b hb;refine⟨?_,f1,f4,f5⟩;rcases f3 with q|q
  ·exact .inl q
  ·exact .inr q
theorem zl.far{pins:List (Addr×Obj)}{σ:St}{H₂ H':Hp}{s₂ s':ae}{fp:List Addr}{C:Addr}{pl:List (Addr×Obj)}{σ':St}(I:Inv X pins σ H₂ s₂)
  (hC:s₂.heap.objs.size≤C) (J:Inv (X.blk scope C (x1::x2::ys) s₂ H₂ fp) pl σ' H' s'):
  H' C=none∧C≠X.env.locals∧X.s₀.heap.objs.size≤C∧(∀z c,X.env.cells.lookup z=some c→c≠C)∧∀p∈X.pn++pins,p.1≠C:=by
 refine⟨J.free,dC (au I.lt hC),bg I.sz hC,fun z c e q=>?_,fun p hp q=>?_⟩
 ·obtain⟨v,w⟩:=I.cell z c e;exact absurd (au w.lt (by rw[q];exact hC)) (bJ _)
 ·exact absurd (au (ai (I.pin p hp).1) (by rw[q];exact hC)) (bJ _)
end
@[irreducible] def vM(K:ah)(J:It)(caps:St)(tt:TT)(te:TE)(Q:VK)(H2:Hp):Prop:=∀D,H2 D=none→∃W:CW,(∃m,W 0 m [] (upd H2 D (.lst [])))∧
 ∀i m acc H3,W i m acc H3→H3 D=some (.lst acc)∧((J.stop i H3∧Q (.ref D) H3)∨(J.go i H3∧acc.length<aQ∧∀v H4,J.yld i H3 v H4→∃T v1 v2,v= .ref T∧SqT K H4 T [v1,v2]∧tt (some v1::some v2::caps) H4 fun b H5=>
  (b=true→te (some v1::some v2::caps) H5 fun u H6=>H6 D=some (.lst acc)∧∃m',m'<m∧W (i+1) m' (acc++[u]) (upd H6 D (.lst (acc++[u]))))∧(b=false→∃m',m'<m∧W (i+1) m' acc H5)))
def xpz(K:ah)(cap:List Nat)(wi:TI)(tt:TT)(te:TE):TE:=fun σ H Q=>wi σ H fun J H2=>vM K J (zk σ cap) tt te Q H2
section
variable {X:Cx} {scope:Scope} {x1 x2:Str} {cap:List Nat} {ys:List Str} {elt iter:Expr} {ifs:List Expr} {px1 px2 px pos:Pos} {kx:Nat} {wi:TI} {tt:TT} {te:TE}
theorem xiJ(B:zl X scope x1 x2 cap ys)(hc:X.calm=true)(he:∀C s H fp,PE (X.blk scope C (x1::x2::ys) s H fp) elt te)(ht:∀C s H fp,CTs (X.blk scope C (x1::x2::ys) s H fp) ifs tt)
  {pins:List (Addr×Obj)} {σ:St} {s₂:ae} {Q:VK} {RR:Value→Addr→fJ→ae→Prop} {itv:Value} {E:Value→ae→Prop}
  (hp:PIE X pins σ (.Tuple [.Name x1 px1,.Name x2 px2] kx px) (fun J H2=>vM X.K J (zk σ cap) tt te Q H2) itv s₂)
  (hR:∀(D C:Addr) (H':Hp) (s':ae),Inv X pins σ H' s'→(∃m,s'.heap.Ns C m)→H' C=none→C≠X.env.locals→X.s₀.heap.objs.size≤C→(∀z c,X.env.cells.lookup z=some c→c≠C)→(∀p∈X.pn++pins,p.1≠C)→Q (.ref D) H'→RR (.ref D) C (.ok .next) s'):
  wpAny (model X.prog X.w) X.A (newList []) (fun acc s₃=>wpAny (model X.prog X.w) X.A (iR scope X.env.globals (yu X.env.cells scope.names []) [] X.env.qual none .none (some X.env)) (fun cenv s₄=>
   cD (model X.prog X.w) X.A (.compStart (.ListComp elt [⟨.Tuple [.Name x1 px1,.Name x2 px2] kx px,iter,ifs,0⟩] scope pos) 0 itv acc {cenv with scope:=iQ scope X.env}) (RR acc cenv.locals) s₄) E s₃) E s₂:=by
 obtain⟨it,fp,tn,J,H2,e,I2,T,st2,f2,hw⟩:=hp;subst e;unfold vM at hw;refine fX (gA B.nocell (by intro y hy;simp at hy) (fun h₁ hns₁ hsb₁=>?_) B.kind);dsimp only at hns₁ hsb₁⊢;generalize hG:s₂.heap.push {cls:=.type "list",dict:=none,data:=.seq ([]:List Value).toArray}=G at hns₁ hsb₁⊢;have hsz:G.objs.size=s₂.heap.objs.size+1:=by rw[←hG,cH]
 have hCle:s₂.heap.objs.size≤G.objs.size:=by lia
 have hDC:s₂.heap.objs.size≠G.objs.size:=by lia
 have old:∀b o,s₂.heap.get? b=some o→h₁.get? b=some o:=fun b o q=>by
  have lt:=ai q;refine hsb₁.extBut b o (aq (au lt hCle)) (ag _ ?_);rw[←hG];exact ag _ q
 have accAt:h₁.get? s₂.heap.objs.size=some {cls:=.type "list",data:=.seq ([]:List Value).toArray}:=by
  refine hsb₁.extBut _ _ hDC (ag _ ?_);rw[←hG];exact aA _ rfl
 have hfp:∀b∈fp,b<s₂.heap.objs.size:=fun b hb=>by
  obtain⟨o,ho,_⟩:=T.obj _ _ st2 b hb;exact ai ho
 obtain⟨W,⟨m0,w0⟩,turn⟩:=hw s₂.heap.objs.size (I2.hok.fresh (ak _));generalize htk:s₂.toks+([]:List (Str×Value)).length=tk;have I0:=B.start (tk:=tk) (C:=G.objs.size) I2 f2 (ak _) hCle hDC old ⟨_,hns₁⟩ accAt hfp;have st0:tn 0 h₁:=T.keep _ _ _ st2 fun b hb o q=>old b o q
 -- what stays true of the iterator's objects
 have f3:∀{H':Hp},(∀b∈fp,H' b=none)→∀b∈fp,vG (X.blk scope G.objs.size (x1::x2::ys) s₂ H2 fp) [] H' b:=fun hn b hb=>by
  obtain⟨f0,f1,f2',f3',f4,f5⟩:=f2 b hb;refine⟨hn b hb,aq (au (hfp b hb) hCle),fun hs=>?_,.inl hb,fun z c q=>f4 z c (B.sub I2.ok q),fun p hp=>absurd (show p∈([]:List (Addr×Obj))from hp) (by simp)⟩;rcases ar.mp (I2.stkSub b hs)with q|q
  ·exact f1 q
  ·exact f2' q
 have n0:∀b∈fp,upd H2 s₂.heap.objs.size (.lst []) b=none:=fun b hb=>by
  rw[xj (aq (hfp b hb))];exact(f2 b hb).1
 have loop:∀sx:ae,sx={s₂ with heap:=h₁,toks:=tk}→
   cD (model X.prog X.w) X.A (.compLoop (.ListComp elt [⟨.Tuple [.Name x1 px1,.Name x2 px2] kx px,iter,ifs,0⟩] scope pos) 0 (.ref it) (.ref s₂.heap.objs.size) (compEnvC scope (yu X.env.cells scope.names []) G.objs.size X.env)) (RR (.ref s₂.heap.objs.size) G.objs.size) sx:=by
  rintro sx rfl;refine xeO (fun n s'=>∃i acc H',Inv (X.blk scope G.objs.size (x1::x2::ys) s₂ H2 fp) [] (none::none::zk σ cap) H' s'∧tn i s'.heap∧(∀b∈fp,H' b=none)∧W i n acc H') ?_ m0 ⟨0,[],_,I0,st0,n0,w0⟩;rintro n s3 ⟨i,acc,H3,I3,st3,fr3,w3⟩;obtain⟨hD3,alt⟩:=turn i n acc H3 w3;rcases alt with⟨stop,q⟩|⟨go,hlen,step⟩
  ·refine aK (T.done (X.blk scope G.objs.size (x1::x2::ys) s₂ H2 fp) rfl rfl rfl hc i [] s3 _ H3 (fun _ _=>False) I3 (f3 fr3) st3 stop) (fun r s4 ⟨hr,I4⟩=>?_) fun _ _ z=>z.elim;subst hr;obtain⟨g1,g2,g3,g4,g5⟩:=zl.far I2 hCle I4;obtain⟨m4,hm4,_⟩:=I4.loc;exact hR _ _ H3 s4 (B.back I2 f2 I4) ⟨m4,hm4⟩ g1 g2 g3 g4 g5 q
  ·refine aK (T.item (X.blk scope G.objs.size (x1::x2::ys) s₂ H2 fp) rfl rfl rfl hc i [] s3 _ H3 (fun _ _=>False) I3 (f3 fr3) st3 go) (fun r s4 ⟨u,hr,h4⟩=>?_) fun _ _ z=>z.elim;subst hr;refine aK h4 (fun _ s4 ⟨v,H4,I4,rv,y4,st4,fr4⟩=>?_) fun _ _ z=>z.elim;have I4':=I4.pinned (f3 fr4) (T.obj _ _ st4);obtain⟨Tt,v1,v2,ev,hT4,step⟩:=step v H4 y4;have G0:PG (X.blk scope G.objs.size (x1::x2::ys) s₂ H2 fp) (.Tuple [.Name x1 px1,.Name x2 px2] kx px) (xo1 X.K 2 (xjL (xdu 0) (xjL (xdu 1) xo0))):=
    xho hc (vF (yz (i:=0) B.nd rfl (.inl (dm B.lx1)) (.inr (dm B.lx1))) (vF (yz (i:=1) B.nd rfl (.inl (dm B.lx2)) (.inr (dm B.lx2))) xfC))
   refine aK (G0 _ s4 _ H4 v u (fun σ5 H5=>σ5=some v1::some v2::zk σ cap∧H4=H5) I4' rv ⟨Tt,[v1,v2],ev,hT4,rfl,⟨v1,_,rfl,v2,_,rfl,⟨rfl,rfl,rfl⟩⟩⟩) (fun _ s5 z5=>?_) fun _ _ z=>z.elim;obtain⟨σ5,H5,I5,e5,e6⟩:=z5;subst e5 e6;have I5':Inv (X.blk scope G.objs.size (x1::x2::ys) s₂ H2 fp) ([]++ux fp s4.heap) (some v1::some v2::zk σ cap) H4 s5:=I5;refine aK (ht _ _ _ _ _ s5 _ H4 _ I5' step) (fun ok s6 ⟨H6,I6,q6⟩=>?_) fun _ _ z=>z.elim;have pinned:∀{σ7:St} {H7:Hp} {s7:ae},Inv (X.blk scope G.objs.size (x1::x2::ys) s₂ H2 fp) ([]++ux fp s4.heap) σ7 H7 s7→tn (i+1) s7.heap∧∀b∈fp,H7 b=none:=fun{σ7 H7 s7} I7=>by
    refine⟨T.keep _ _ _ st4 fun b hb o e=>(I7.pin (b,o) (aO _ (aO _ (ua hb e)))).1,fun b hb=>?_⟩;obtain⟨o,e,d⟩:=T.obj _ _ st4 b hb;exact(I7.pin (b,o) (aO _ (aO _ (ua hb e)))).2.1
   have weak:∀{H7:Hp} {s7:ae},Inv (X.blk scope G.objs.size (x1::x2::ys) s₂ H2 fp) ([]++ux fp s4.heap) (some v1::some v2::zk σ cap) H7 s7→Inv (X.blk scope G.objs.size (x1::x2::ys) s₂ H2 fp) [] (none::none::zk σ cap) H7 s7:=fun I7=>
    (I7.unpinned (pins:=[])).weak rfl fun j z e=>by
     cases j with
     |zero=>simp at e
     |succ j=>
      cases j with
      |zero=>simp at e
      |succ j=>simpa using e
   cases ok with
   |false=>
    rw[if_neg aC];obtain⟨m',hm',w'⟩:=q6.2 rfl;exact⟨m',hm',i+1,acc,H6,weak I6,(pinned I6).1,(pinned I6).2,w'⟩
   |true=>
    rw[if_pos rfl];refine aK (he _ _ _ _ _ s6 _ H6 _ I6 (q6.1 rfl)) (fun y s7 ⟨z,H7,I7,rz,hD7,m',hm',w'⟩=>?_) fun _ _ z=>z.elim;refine aK (yt (X:=X.blk scope G.objs.size (x1::x2::ys) s₂ H2 fp) _ s7 _ H7 (.ref s₂.heap.objs.size) [z] (.ref s₂.heap.objs.size) [y] (fun _ H8=>H8=upd H7 s₂.heap.objs.size (.lst (acc++[z]))) I7 rfl (.cons rz .nil) ⟨_,acc,z,rfl,rfl,hD7,hlen,rfl⟩) (fun _ s8 ⟨_,H8,I8,_,e8⟩=>?_) fun _ _ z=>z.elim;subst e8;exact⟨m',hm',i+1,_,_,weak I8,(pinned I8).1,(pinned I8).2,w'⟩
 exact codeAny_compStart_list (loop _ rfl) (T.self _ 0 _ _ _ st0 (loop _ rfl))
theorem xei(B:zl X scope x1 x2 cap ys)(hc:X.calm=true)(hi:PI X (.Tuple [.Name x1 px1,.Name x2 px2] kx px) iter wi)(he:∀C s H fp,PE (X.blk scope C (x1::x2::ys) s H fp) elt te)(ht:∀C s H fp,CTs (X.blk scope C (x1::x2::ys) s H fp) ifs tt)
  (hs:∀x,dN iter X.env x=pure x:=by intro _;rfl):PE X (.ListComp elt [⟨.Tuple [.Name x1 px1,.Name x2 px2] kx px,iter,ifs,0⟩] scope pos) (xpz X.K cap wi tt te):=by
 intro pins s σ H Q I h;rw[eval_ListComp];refine fN (use:=none) rfl hs (jL (B.clos I.ok)) B.kind B.locs ?_;refine thn (hi pins s σ H _ I h) fun v s1 h1=>thn h1 fun itv s2 h2=>?_;refine xiJ (Q:=Q) (RR:=fun acc C=>compPost (model X.prog X.w) X.A X.xe none (EP X pins σ Q) acc C) B hc he ht h2 ?_;rintro D C H' s' J ⟨m,hm⟩ g1 g2 g3 g4 g5 q;exact⟨m,hm,fun h' sb=>⟨.ref D,H',J.turned (t':=s'.toks) (fun b o hb e=>(sb.2 b hb).trans e) g1 g2 (.inr g3) g4 g5,rfl,q⟩⟩
end
end L2
namespace L2
open PySem PySem.Spec PyProof.Rows
theorem yh{α β:Type}{F:α→β→Prop}:∀{as:List α} {bs:List β} {i:Nat} {a:α},Paired F as bs→as[i]? =some a→∃b,bs[i]? =some b∧F a b
 |_,_,i,b,.nil,h=>by simp at h
 |_,_,0,b,.cons x xs,h=>by simp at h;subst h;exact⟨_,rfl,x⟩
 |_,_,i+1,b,.cons x xs,h=>by obtain⟨a,h1,h2⟩:=yh (i:=i) xs (by simpa using h);exact⟨a,by simpa using h1,h2⟩
def del(H:Hp)(D:Addr):Hp:=fun b=>if b=D then none else H b
theorem zA{H:Hp}{D:Addr}:del H D D=none:=by unfold del;rw[if_pos rfl]
theorem vd{H:Hp}{D b:Addr}(h:b≠D):del H D b=H b:=by unfold del;rw[if_neg h]
theorem yQ{H:Hp}{D:Addr}:xb (del H D) H:=fun b u e=>by
 by_cases h:b=D
 ·rw[h,zA]at e;cases e
 ·rw[vd h]at e;exact e
theorem yr{H:Hp}{D:Addr}{o:HO}:del (upd H D o) D=del H D:=by
 funext b
 by_cases h:b=D
 ·rw[h,zA,zA]
 ·rw[vd h,vd h,xj h]
theorem zR{H:Hp}{D:Addr}(h:H D=none):del H D=H:=by
 funext b
 by_cases e:b=D
 ·rw[e,zA,h]
 ·rw[vd e]
theorem zS{H H':Hp}{D:Addr}(s:xb H H'):xb (del H D) (del H' D):=fun b u e=>by
 by_cases h:b=D
 ·rw[h,zA]at e;cases e
 ·rw[vd h]at e⊢;exact s b u e
theorem xaP{lo st:Int}{n:Nat}{te:TE}{caps:L2.St}{Q:VK}{H2:Hp}(Pv:Nat→List V→Hp→Prop)(hn:n≤aQ)(h0:Pv 0 [] H2)
  (hs:∀(i:Nat) acc H3 H3',i<n→xb H2 H3→xb H3 H3'→Pv i acc H3→∀R:VK,(∀u H6',xb H3' H6'→(∀H6,xb H3 H6→(∀p o,(H3' p=none∨∀ys,o≠HO.lst ys)→H6' p=some o→H6 p=some o)→Pv (i+1) (acc++[u]) H6)→R u H6')→te (some (.int (lo+i*st))::caps) H3' R)
  (hd:∀D acc H H',H2 D=none→H D=none→xb H2 H→xb H H'→Pv n acc H→acc.length=n→H' D=some (.lst acc)→Q (.ref D) H'):yP (Its lo st n) caps xef te Q H2:=by
 unfold yP;intro D hD;refine⟨fun i m acc H3=>m=n - i∧i≤n∧acc.length=i∧H3 D=some (.lst acc)∧xb H2 (del H3 D)∧Pv i acc (del H3 D),⟨n,by simp,aN _,rfl,xk,?_,?_⟩,?_⟩
 ·rw[yr,zR hD];exact xb.refl _
 ·rw[yr,zR hD];exact h0
 rintro i m acc H3 ⟨rfl,hi,hacc,hD3,s3,p3⟩;refine⟨hD3,?_⟩
 by_cases hlt:i<n
 ·refine .inr ⟨hlt,by lia,fun v H4 y=>?_⟩;obtain⟨e,y⟩:=y;subst e y;refine⟨fun _=>?_,fun z=>by cases z⟩;refine hs i acc _ _ hlt s3 yQ p3 _ fun u H6' s6 k=>⟨s6.at hD3,n - (i+1),by lia,rfl,hlt,by simp[hacc],xk,?_,?_⟩
  ·rw[yr];exact s3.trans (zS s6)
  ·rw[yr];refine k _ (zS s6) fun p o q1 q2=>?_;rw[vd (fun z=>by
    rcases q1 with q1|q1
    ·rw[z,hD3]at q1;cases q1
    ·rw[z,s6.at hD3]at q2;cases q2;exact q1 _ rfl)]
   exact q2
 ·have e:i=n:=by lia
  subst e;exact .inl ⟨ak _,hd D acc _ H3 hD zA s3 yQ p3 hacc hD3⟩
theorem ve{K:ah}{l:Addr}{xs:List V}{te:TE}{caps:L2.St}{Q:VK}{H2:Hp}(Pv:Nat→List V→Hp→Prop)(hl:SqL K H2 l xs)(hn:xs.length≤aQ)(h0:Pv 0 [] H2)
  (hs:∀(i:Nat) x acc H3 H3',xs[i]? =some x→xb H2 H3→xb H3 H3'→Pv i acc H3→∀R:VK,(∀u H6',xb H3' H6'→(∀H6,xb H3 H6→(∀p o,(H3' p=none∨∀ys,o≠HO.lst ys)→H6' p=some o→H6 p=some o)→Pv (i+1) (acc++[u]) H6)→R u H6')→te (some x::caps) H3' R)
  (hd:∀D acc H H',H2 D=none→H D=none→xb H2 H→xb H H'→Pv xs.length acc H→acc.length=xs.length→H' D=some (.lst acc)→Q (.ref D) H'):yP (Itl K l) caps xef te Q H2:=by
 unfold yP;intro D hD;refine⟨fun i m acc H3=>m=xs.length - i∧i≤xs.length∧acc.length=i∧H3 D=some (.lst acc)∧xb H2 (del H3 D)∧Pv i acc (del H3 D),⟨xs.length,by simp,aN _,rfl,xk,?_,?_⟩,?_⟩
 ·rw[yr,zR hD];exact xb.refl _
 ·rw[yr,zR hD];exact h0
 rintro i m acc H3 ⟨rfl,hi,hacc,hD3,s3,p3⟩;refine⟨hD3,?_⟩;have q:=(s3.trans yQ).seq hl
 by_cases hlt:i<xs.length
 ·have hx:xs[i]? =some xs[i]:=aj hlt;refine .inr ⟨⟨xs,xs[i],q,hx⟩,by lia,fun v H4 y=>?_⟩;obtain⟨e,y⟩:=y;have ev:=y xs q;rw[hx]at ev;cases ev;subst e;refine⟨fun _=>?_,fun z=>by cases z⟩;refine hs i _ acc _ _ hx s3 yQ p3 _ fun u H6' s6 k=>⟨s6.at hD3,xs.length - (i+1),by lia,rfl,hlt,by simp[hacc],xk,?_,?_⟩
  ·rw[yr];exact s3.trans (zS s6)
  ·rw[yr];refine k _ (zS s6) fun p o q1 q2=>?_;rw[vd (fun z=>by
    rcases q1 with q1|q1
    ·rw[z,hD3]at q1;cases q1
    ·rw[z,s6.at hD3]at q2;cases q2;exact q1 _ rfl)]
   exact q2
 ·have e:i=xs.length:=by lia
  subst e;exact .inl ⟨⟨xs,q,ak _⟩,hd D acc _ H3 hD zA s3 yQ p3 hacc hD3⟩
theorem xlC{K:ah}{l:Addr}{xs:List V}{te:TE}{caps:L2.St}{Q:VK}{H2:Hp}(Pv:Nat→List V→Hp→Prop)(hl:SqT K H2 l xs)(hn:xs.length≤aQ)(h0:Pv 0 [] H2)
  (hs:∀(i:Nat) x acc H3 H3',xs[i]? =some x→xb H2 H3→xb H3 H3'→Pv i acc H3→∀R:VK,(∀u H6',xb H3' H6'→(∀H6,xb H3 H6→(∀p o,(H3' p=none∨∀ys,o≠HO.lst ys)→H6' p=some o→H6 p=some o)→Pv (i+1) (acc++[u]) H6)→R u H6')→te (some x::caps) H3' R)
  (hd:∀D acc H H',H2 D=none→H D=none→xb H2 H→xb H H'→Pv xs.length acc H→acc.length=xs.length→H' D=some (.lst acc)→Q (.ref D) H'):yP (Itt K l) caps xef te Q H2:=by
 unfold yP;intro D hD;refine⟨fun i m acc H3=>m=xs.length - i∧i≤xs.length∧acc.length=i∧H3 D=some (.lst acc)∧xb H2 (del H3 D)∧Pv i acc (del H3 D),⟨xs.length,by simp,aN _,rfl,xk,?_,?_⟩,?_⟩
 ·rw[yr,zR hD];exact xb.refl _
 ·rw[yr,zR hD];exact h0
 rintro i m acc H3 ⟨rfl,hi,hacc,hD3,s3,p3⟩;refine⟨hD3,?_⟩;have q:=(s3.trans yQ).seqT hl
 by_cases hlt:i<xs.length
 ·have hx:xs[i]? =some xs[i]:=aj hlt;refine .inr ⟨⟨xs,xs[i],q,hx⟩,by lia,fun v H4 y=>?_⟩;obtain⟨e,y⟩:=y;have ev:=y xs q;rw[hx]at ev;cases ev;subst e;refine⟨fun _=>?_,fun z=>by cases z⟩;refine hs i _ acc _ _ hx s3 yQ p3 _ fun u H6' s6 k=>⟨s6.at hD3,xs.length - (i+1),by lia,rfl,hlt,by simp[hacc],xk,?_,?_⟩
  ·rw[yr];exact s3.trans (zS s6)
  ·rw[yr];refine k _ (zS s6) fun p o q1 q2=>?_;rw[vd (fun z=>by
    rcases q1 with q1|q1
    ·rw[z,hD3]at q1;cases q1
    ·rw[z,s6.at hD3]at q2;cases q2;exact q1 _ rfl)]
   exact q2
 ·have e:i=xs.length:=by lia
  subst e;exact .inl ⟨⟨xs,q,ak _⟩,hd D acc _ H3 hD zA s3 yQ p3 hacc hD3⟩
theorem vf{K:ah}{l:Addr}{xs:List V}{tt:TT}{te:TE}{caps:L2.St}{Q:VK}{H2:Hp}(p:V→Bool)(f:V→V)(hl:SqL K H2 l xs)(hn:xs.length<aQ)
  (ht:∀(x:V) (H3:Hp),x∈xs→xb H2 H3→∀R:Bool→Hp→Prop,(∀H6,xb H3 H6→R (p x) H6)→tt (some x::caps) H3 R)
  (hs:∀(x:V) (H3:Hp),x∈xs→p x=true→xb H2 H3→∀R:VK,(∀H6,xb H3 H6→R (f x) H6)→te (some x::caps) H3 R)
  (hd:∀D H',H2 D=none→xb H2 H'→H' D=some (.lst ((xs.filter p).map f))→Q (.ref D) H'):yP (Itl K l) caps tt te Q H2:=by
 unfold yP;intro D hD;refine⟨fun i m acc H3=>m=xs.length - i∧i≤xs.length∧acc=((xs.take i).filter p).map f∧H3 D=some (.lst acc)∧xb H2 H3,⟨xs.length,by simp,aN _,rfl,xk,xb.new hD⟩,?_⟩;rintro i m acc H3 ⟨rfl,hi,rfl,hD3,s3⟩;refine⟨hD3,?_⟩;have q:=s3.seq hl
 by_cases hlt:i<xs.length
 ·have hx:xs[i]? =some xs[i]:=aj hlt;have hle:(((xs.take i).filter p).map f).length<aQ:=by
   rw[af];refine dD (b8 _ _) ?_;rw[bM];lia
  have et:xs.take (i+1)=xs.take i++[xs[i]]:=by rw[cb,hx];rfl
  refine .inr ⟨⟨xs,xs[i],q,hx⟩,hle,fun v H4 y=>?_⟩;obtain⟨e,y⟩:=y;have ev:=y xs q;rw[hx]at ev;cases ev;subst e;refine ht _ _ (cG hlt) s3 _ fun H5 s5=>⟨fun hp=>?_,fun hp=>?_⟩
  ·refine hs _ _ (cG hlt) hp (s3.trans s5) _ fun H6 s6=>⟨s6.at (s5.at hD3),xs.length - (i+1),by lia,rfl,hlt,?_,xk,(s3.trans (s5.trans s6)).put hD⟩;rw[et,fQ,aJ];simp[hp]
  ·refine⟨xs.length - (i+1),by lia,rfl,hlt,?_,s5.at hD3,s3.trans s5⟩;rw[et,fQ,aJ];simp[hp]
 ·have e:i=xs.length:=by lia
  subst e;rw[cq]at hD3⊢;exact .inl ⟨⟨xs,q,ak _⟩,hd D H3 hD s3 hD3⟩
theorem xiK{K:ah}{l:Addr}{xs:List V}{tt:TT}{te:TE}{caps:L2.St}{Q:VK}{H2:Hp}(p:Nat→V→Bool)(hl:SqL K H2 l xs)(hn:xs.length<aQ)
  (ht:∀(i:Nat) (x:V) (H3:Hp),xs[i]? =some x→xb H2 H3→∀R:Bool→Hp→Prop,(∀H6,xb H3 H6→R (p i x) H6)→tt (some (.int i)::some x::caps) H3 R)
  (hs:∀(i:Nat) (x:V) (H3:Hp),xs[i]? =some x→xb H2 H3→∀R:VK,(∀H6,xb H3 H6→R (.int i) H6)→te (some (.int i)::some x::caps) H3 R)
  (hd:∀D H',H2 D=none→xb H2 H'→H' D=some (.lst (((a9 xs.length).filter fun i=>p i (xs.getD i .non)).map fun(i:Nat)=>V.int i))→Q (.ref D) H'):vM K (Ite K l) caps tt te Q H2:=by
 unfold vM;intro D hD;refine⟨fun i m acc H3=>m=xs.length - i∧i≤xs.length∧acc=((a9 i).filter fun i=>p i (xs.getD i .non)).map (fun(i:Nat)=>V.int i)∧H3 D=some (.lst acc)∧xb H2 H3,⟨xs.length,by simp,aN _,rfl,xk,xb.new hD⟩,?_⟩;rintro i m acc H3 ⟨rfl,hi,rfl,hD3,s3⟩;refine⟨hD3,?_⟩;have q:=s3.seq hl
 by_cases hlt:i<xs.length
 ·have hx:xs[i]? =some xs[i]:=aj hlt;have hle:(((a9 i).filter fun i=>p i (xs.getD i .non)).map fun(i:Nat)=>V.int i).length<aQ:=by
   rw[af];refine dD (b8 _ _) ?_;rw[c7];lia
  have eg:xs.getD i .non=xs[i]:=by simp[bc,hx]
  refine .inr ⟨⟨xs,xs[i],q,hx⟩,hle,fun v H4 y=>?_⟩;obtain⟨T,x,rfl,hT,rfl,y⟩:=y;have ev:=y xs q;rw[hx]at ev;cases ev;have s4:=xb.new (o:=.tup [.int i,xs[i]]) hT;refine⟨T,.int i,xs[i],rfl,SqT.of xk,?_⟩;refine ht i _ _ hx (s3.trans s4) _ fun H5 s5=>⟨fun hp=>?_,fun hp=>?_⟩
  ·refine hs i _ _ hx (s3.trans (s4.trans s5)) _ fun H6 s6=>⟨s6.at (s5.at (s4.at hD3)),xs.length - (i+1),by lia,rfl,hlt,?_,xk,(s3.trans (s4.trans (s5.trans s6))).put hD⟩;rw[fE,fQ,aJ,gf,eg,if_pos hp];rfl
  ·refine⟨xs.length - (i+1),by lia,rfl,hlt,?_,s5.at (s4.at hD3),s3.trans (s4.trans s5)⟩;rw[fE,fQ,aJ,gf,eg,if_neg (by rw[hp];exact aC)];simp
 ·have e:i=xs.length:=by lia
  subst e;exact .inl ⟨⟨xs,q,ak _⟩,hd D H3 hD s3 hD3⟩
end L2
namespace L2
open PySem PySem.Spec PyProof.Rows
section
variable {X:Cx} {K:ah}
theorem xhF(e:X.K=K):IxR X (xpc K):=e▸yB
theorem xra(e:X.K=K):IxR X (xpd K):=e▸xJ
theorem xmQ(e:X.K=K):SlR X (xpe K):=e▸yL
theorem xpA(e:X.K=K):yn X (.builtin "isinstance") (xpp K):=e▸zy
theorem xq1(e:X.K=K)(hu:X.A.units+64<cLine):OpR X (bK .Eq) (xhA K fun b=>b):=e▸xj7 hu
theorem xrc(e:X.K=K)(hu:X.A.units+64<cLine):OpR X (bK .NotEq) (xhA K fun b=> !b):=e▸xnI hu
end
end L2
namespace L2
open PySem PySem.Spec PyProof.Rows
theorem xac(i:Int)(own:List Int):inV (.int i) (own.map V.int)=decide (i∈own):=by
 unfold inV;rw[iu,di,d4,decide_eq_true_iff];constructor
 ·rintro⟨y,hy,h⟩;have:y=i:=by simpa [eqV,Function.comp]using h
  rw[←this];exact hy
 ·intro h;exact⟨i,h,by simp[eqV,Function.comp]⟩
theorem xlD(xs:List Int):(xs.map V.int).all jJ=true:=by
 rw[bZ];intro x hx;obtain⟨y,_,rfl⟩:=a7.mp hx;rfl
theorem zw(es:List Int)(lo hi:Option Int):zx (es.map V.int) lo hi=((es.drop (HT.sIx es.length 0 lo)).take (HT.sIx es.length es.length hi - HT.sIx es.length 0 lo)).map V.int:=by
 unfold zx;rw[af,←ke,←List.map_take]
theorem xiL(p:V→Bool)(xs:List Int):(xs.map V.int).filter p=(xs.filter fun x=>p (.int x)).map V.int:=by
 rw[gD];rfl
end L2
namespace L2
open PySem PySem.Spec PyProof.Rows
theorem yY{n d:Nat}{i:Int}(h0:0≤i):HT.sIx n d (some i)=min i.toNat n:=by
 show(if i<0 then(i+(n:Int)).toNat else min i.toNat n)=_;rw[if_neg (by lia)]
end L2
namespace L2
open PySem PySem.Spec PyProof.Rows
section
variable {X:Cx}
end
def xog:Stmt→List Stmt
 | .For _ _ b _ _=>b
 |_=>[]
def xlE:Stmt→Expr
 | .Assign _ v _=>v
 |_=>.Constant .none 0 ⟨0,0,0,0⟩
def xpB:Stmt→Expr
 | .Return (some v) _=>v
 |_=>.Constant .none 0 ⟨0,0,0,0⟩
def xbs(i:Nat):Expr→Expr
 | .Call _ as _ _=>as.getD i (.Constant .none 0 ⟨0,0,0,0⟩)
 |_=>.Constant .none 0 ⟨0,0,0,0⟩
def zm:Expr→b7
 | .Lambda a _ _ _=>a
 |_=>xR (.Pass ⟨0,0,0,0⟩)
def zo:Expr→Expr
 | .Lambda _ b _ _=>b
 |e=>e
def xU:Expr→Scope
 | .Lambda _ _ s _=>s
 |_=>xh (.Pass ⟨0,0,0,0⟩)
theorem xhG{xs:List Int}{x v:Int}(h0:0≤x)(h:xs[x.toNat]? =some v):atI (xs.map V.int) x=some (.int v):=by
 have:=yV (xs:=xs.map V.int) (j:=x.toNat) (v:=.int v) (by rw[aF,h];rfl)
 rwa [bL h0]at this
theorem xlF{n:Nat}{x:Int}(h0:0≤x)(h:x<n):ixN n x=some x.toNat:=by
 unfold ixN;rw[if_pos h0,if_pos h]
end L2
namespace PySem
open Sem (wp)
open PyProof.Rows
namespace F
theorem xlG:gy (.type "list_reverseiterator") "__len__"=pure none:=by rw[typeLookup_type,builtinLookup_eq_fast];kernel_rfl
theorem xmR:gy (.type "list_reverseiterator") "__length_hint__"=pure (some (.builtin "list_reverseiterator.__length_hint__")):=by rw[typeLookup_type,builtinLookup_eq_fast];kernel_rfl
end F
section
variable {prog:aG} {w:World} {A:aL} {E:Value→ae→Prop} {s:ae}
theorem xka{R:fJ→ae→Prop}{r l:Addr}{items:Array Value}(hnd:A.handled=none)(hr:s.heap.IsRevIter r l ((items.size:Int) - 1))(hl:s.heap.IsList l items)(hne:l≠r)(hsz:items.size≤aQ)
  (D:Addr) (z:Value) (m₀:Nat) (hD:s.heap.get? D=some {cls:=.type "list",data:=.seq #[] m₀}) (hDl:D≠l)
  (hR:∀g tk xs m,(∀b o,b≠D→b≠r→s.heap.get? b=some o→g.get? b=some o)→g.get? D=some {cls:=.type "list",dict:=none,data:=.seq xs m,slots:=#[]}→
   ie (fun i v=>items[items.size - 1 - i]? =some v) xs items.size→R (.ok (.ret z)) {s with heap:=g,toks:=tk}):
  wpAny (model prog w) A.in1 (bC (.ref D) (.ref r) z)
   (fun fin s'=>match fin with| .done f=>R (.ok f) s'| .again d=>d.quiet=true∧cD (model prog w) A d R s') (fun e s'=>R (.error e) s') s:=by
 have nDr:D≠r:=fun e=>by
  obtain⟨o,ho,hc,_⟩:=hr;rw[e,ho]at hD;have e2:=congrArg Obj.cls (bp hD);rw[hc]at e2;have e3:cF "list_reverseiterator"=cF "list":=e2;exact absurd e3 (by decide)
 have nDf:D∉[r,l]:=fun q=>by
  rcases ar.mp q with q|q
  ·exact nDr q
  ·exact hDl (aE.mp q)
 have Wk:=(Walks.listRev (prog:=prog) (w:=w) (A:=A.in1) hnd r l hne items).toS;have e0:(items.size:Int) - 1=(items.size:Int) - 1 - ((0:Nat):Int):=by lia
 rw[e0]at hr;have T:s.TypeIs (.ref r) "list_reverseiterator":=hr.typeIs;unfold bC;refine aa (gC T ?_);have x1:dY (.ref D) (.ref r)=false:=by simp[dY,nDr]
 rw[if_neg (by rw[x1];decide)];refine aa (wpAny_pyIter_revIter hr ?_);refine aa (bA ?_);unfold Builtin.List.listLengthHint;refine aa (wpAny_specialOf T F.xlG ?_);show wpAny _ A.in1 (specialOf (aT r) (cg "__length_hint__") >>= _) _ _ _;refine aa (wpAny_specialOf T F.xmR ?_)
 (generalize hid:("list_reverseiterator.__length_hint__":String)=id0;(fail_if_success (clear hid id0));wp_delta;rw[show splitId id0=some ("list_reverseiterator","__length_hint__")from by subst hid;decide+kernel];subst hid)
 refine aa (wpAny_isInstance (b:=true) T (by rw[isSubtype_type];kernel_rfl) ?_);refine ao ?_;rw[if_neg (by decide)];refine ao ⟨bV gI _,codeAny_extend_loopS Wk hsz D nDf z items.size 0 _ #[] m₀ rfl (aN _) ⟨aN _,hr,hl⟩ hD (ItemsOf.nil _) fun s' xs m hm hD' hx=>?_⟩;rw[Moved.eq_with hm];refine hR s'.heap s'.toks xs m (fun b o hb hb2 e=>hm.heap b o (fun hq=>?_) e) hD' hx;rcases ar.mp hq with e'|hq
 ·exact hb e'
 ·exact hb2 (aE.mp hq)
theorem xiM{Q:Value→ae→Prop}{r l:Addr}{items:Array Value}(hnd:A.handled=none)(hr:s.heap.IsRevIter r l ((items.size:Int) - 1))(hl:s.heap.IsList l items)(hne:l≠r)(hsz:items.size≤aQ)
  (hQ:∀g tk xs m,(∀b o,b≠r→s.heap.get? b=some o→g.get? b=some o)→
   g.get? s.heap.objs.size=some {cls:=.type "list",dict:=none,data:=.seq xs m,slots:=#[]}→ie (fun i v=>items[items.size - 1 - i]? =some v) xs items.size→Q (.ref s.heap.objs.size) {s with heap:=g,toks:=tk}):
  wpAny (model prog w) A (call (.type "list") [.ref r]) Q E s:=by
 refine iS (Q₁:=fun obj s₁=>obj= .ref s.heap.objs.size∧s₁={s with heap:=s.heap.push {cls:=.type "list",data:=.seq #[]}}) F.called_list (F.typeCall_list_1 _) F.entry_list_init
  (code_list_new _ ⟨rfl,rfl⟩) fun obj s₁ q₁=>?_
 obtain⟨rfl,rfl⟩:=q₁;generalize hG:s.heap.push {cls:=.type "list",data:=.seq #[]}=G;have old:∀b o,s.heap.get? b=some o→G.get? b=some o:=fun b o e=>by rw[←hG];exact ag _ e
 have hD:G.get? s.heap.objs.size=some {cls:=.type "list",data:=.seq #[]}:=by rw[←hG];exact aA _ rfl
 have hrl:r<s.heap.objs.size:=by obtain⟨o,ho,_⟩:=hr;exact ai ho
 have hll:l<s.heap.objs.size:=by obtain⟨o,ho,_⟩:=hl;exact ai ho
 refine⟨⟨_,hD,rfl⟩,F.args_list_init_2 _ _,?_⟩;show wpAny _ _ (do let old ←eK (.ref s.heap.objs.size);iD (.ref s.heap.objs.size) (fun _=>#[]);letGo old.toList.reverse;bC (.ref s.heap.objs.size) (.ref r) .none) _ _ _;refine aa ?_;unfold eK;refine aa (eU hD rfl (ao ?_));show wpAny _ _ (fO s.heap.objs.size (fun _=>#[]) >>= fun _=>letGo (#[]:Array Value).toList.reverse >>= fun _=>bC (.ref s.heap.objs.size) (.ref r) .none) _ _ _;refine aa (cM hD rfl ?_);have d2:=bP (aV (fun _=>(#[]:Array Value))) hD rfl;have oth:∀b o,b≠s.heap.objs.size→G.get? b=some o→(G.update s.heap.objs.size (aV (fun _=>(#[]:Array Value)))).get? b=some o:=
  fun b o hb e=>(aZ _ _ (aR hb)).trans e
 refine aa (dg ?_);refine xka (A:=A.in1) hnd (hr.at fun o e=>oth r o (aq hrl) (old r o e)) (hl.at fun o e=>oth l o (aq hll) (old l o e)) hne hsz s.heap.objs.size .none _ d2 (dC hll) fun g tk xs m q1 q2 q3=>⟨rfl,?_⟩;exact hQ g tk xs m (fun b o hb e=>q1 b o (aq (ai e)) hb (oth b o (aq (ai e)) (old b o e))) q2 q3
end
end PySem
namespace L2
open PySem PySem.Spec PyProof.Rows
theorem log2_small{n:Nat}(h:n<2^64):n.log2≤64:=by
 by_cases h0:n=0
 ·subst h0;decide
 ·exact bS ((Nat.log2_lt h0).mpr h)
theorem xcP:∀ns:List Int,(∀x∈ns,x.natAbs<2^64)→iw (ns.map dP)≤66*ns.length
 |[],_=>by simp[iw]
 |x::xs,h=>by
  have ih:=xcP xs fun y hy=>h y (aD _ hy);have hx:=log2_small (h x aS);rw[bQ,PyData.weightAll.eq_2,bt];have:kf (.int x)≤65:=by
   rw[j6];show(if (x==0)=true then 0 else x.natAbs.log2+1)≤65
   split
   ·lia
   ·lia
  lia
section
variable {X:Cx}
def xqn(K:ah)(te:TE):TE:=fun σ H Q=>te σ H fun x H1=>∃l ys,x= .ref l∧SqL K H1 l ys∧∀d,H1 d=none→Q (.ref d) (upd H1 d (.lst ys.reverse))
theorem xkb{e:Expr}{te:TE}{p1 p2 pos1 pos2:Pos}(hc:X.calm=true)(hg1:Gl X "list")(hm1:X.mg "list"=none)(hg2:Gl X "reversed")(hm2:X.mg "reversed"=none)(he:PE X e te)
  (hs2:aI [e] X.env=[(false,eval e X.env)]:=by rfl)
  (hs1:aI [.Call (.Name "reversed" p2) [e] [] pos2] X.env=[(false,eval (.Call (.Name "reversed" p2) [e] [] pos2) X.env)]:=by rfl):
  PE X (.Call (.Name "list" p1) [.Call (.Name "reversed" p2) [e] [] pos2] [] pos1) (xqn X.K te):=by
 intro pins s σ H Q I h;refine bH (yO I hg1 hm1 vK ?_ (by decide) (by decide));refine bO ?_ hs1 rfl;rw[hs1];refine fK ?_;refine bH (yO I hg2 hm2 xiG ?_ (by decide) (by decide));refine bO ?_ hs2 rfl;rw[hs2];refine fK (thn (he pins s σ H _ I h) fun v s1 ⟨x,H1,I1,r1,q1⟩=>?_);obtain⟨l,ys,rfl,hq,q⟩:=q1;cases r1;obtain⟨its,rv,pl,hz⟩:=I1.list hq;have hlen:=rv.length;have hL:=pl.isList;have hll:l<s1.heap.objs.size:=by obtain⟨o,ho,_⟩:=hL;exact ai ho
 refine fW (call_reversed_list hL (fW ?_));refine xiM (s:={s1 with heap:=s1.heap.push (revObj l ((its.toArray.size:Int) - 1))}) (I.ok.hd hc) ⟨_,aA _ rfl,rfl,rfl⟩ (hL.push _) (aq hll) (by rw[ay];lia) fun g tk xs m q1 q2 q3=>?_;have hsz:(s1.heap.push (revObj l ((its.toArray.size:Int) - 1))).objs.size=s1.heap.objs.size+1:=cH ..;have q2':g.get? (s1.heap.objs.size+1)=some {cls:=.type "list",dict:=none,data:=.seq xs m,slots:=#[]}:=by rw[←hsz];exact q2
 have exs:xs.toList=its.reverse:=by
  obtain⟨h1,h2⟩:=q3;have h1':xs.size=its.length:=by rw[h1];simp
  apply dv;intro i
  by_cases hi:i<its.length
  ·have hix:i<xs.size:=by lia
   have:=h2 i xs[i] (de hix);rw[iU hi,gr,de hix,←this];simp
  ·rw[b9 (by simp;lia),b9 (by simp;lia)]
 refine⟨.ref (s1.heap.objs.size+1),upd H1 (s1.heap.objs.size+1) (.lst ys.reverse),I1.laid (h':=g) (t':=tk) (fun b o e=>q1 b o (aq (ai e)) (ag _ e)) (cW _) ⟨by rw[kg];exact hz,xs.toList,m,by rw[exs];exact rv.reverse,by simpa using q2'⟩,by show aT _=aT _;rw[hsz],q _ (I1.hok.fresh (cW _))⟩
def xqo(K:ah):List V→Hp→VK→Prop:=fun xs H Q=>∃(p:Addr) (ns:List Int),xs=[.ref p]∧SqL K H p (ns.map V.int)∧ns≠[]∧∀m,m∈ns→(∀x∈ns,m≤x)→Q (.int m) H
theorem xgz(hc:X.calm=true):yn X (.builtin "min") (xqo X.K):=by
 intro pins s σ H xs us Q I r h;obtain⟨p,ns,rfl,hq,hne,q⟩:=h;obtain⟨u,rfl,rx⟩:=vals1 r;cases rx;obtain⟨its,r',pl,hz⟩:=I.list hq;have hi:=intsAre_of r';have hL:=pl.isList;have hn:=hi.numsOf;obtain⟨ys,e⟩:=hi.allInts.items;rw[e]at hL;have e2:numsOf its=numsOf (ix ys).toList:=by rw[←e]
 rw[e2,nums_intItems]at hn;have hlen:=congrArg cC hn;rw[af,br]at hlen;have hpos:0<ns.length:=cu.mpr hne;refine min_intList (I.ok.hd hc) hL (by lia) fun v h' tk hv hk=>?_;obtain⟨t,rfl⟩:=intItems_at hv;obtain⟨h1,h2⟩:=argBest_lt (numAt ys) (ys.size - 1);refine⟨.int _,H,I.kept (t':=tk) hk,⟨t,rfl⟩,q _ ?_ fun a ha=>?_⟩
 ·rw[←hn,numAt_eq];exact getD_mem (by rw[af,br];lia)
 ·rw[←hn]at ha;obtain⟨j,hj,rfl⟩:=mem_getD ha;rw[af,br]at hj;rw[←numAt_eq];exact h2 j (by lia)
def xoh:V→List V→Hp→VK→Prop:=fun x vs H Q=>∃(l:Addr) (ns:List Int) (i:Int),x= .ref l∧vs=[.int i]∧H l=some (.lst (ns.map V.int))∧i∈ns∧ns.length≤1000∧(∀x∈ns,x.natAbs<2^64)∧Q (.int (ns.idxOf i:Nat)) H
theorem xmS:MtM X "list.index" xoh:=by
 intro pins s σ H x vs v us Q I rx rv h;obtain⟨l,ns,i,rfl,rfl,hH,hi,hlen,hsm,q⟩:=h;cases rx;obtain⟨u,rfl,ru⟩:=rv.one;obtain⟨t,rfl⟩:=ru;obtain⟨its,r',pl,hz⟩:=I.list (SqL.of hH);refine index_list_ints pl.isList (intsAre_of r') ?_ hi ⟨.int _,H,I.tok _,⟨_,rfl⟩,q⟩;have w:=xcP ns hsm;have h1:PyData.canLay0 (.list (ns.map dP))=true:=by unfold PyData.canLay0;exact W.ke_canLayAll0 ns
 have h2:PyData.depth (.list (ns.map dP))≤64:=by unfold PyData.depth;rw[W.ke_depthAll];decide
 have h3:kf (.list (ns.map dP))≤2^20:=by
  have e:kf (.list (ns.map dP))=iw (ns.map dP):=by rw[j6]
  rw[e];lia
 unfold PyData.layable0;rw[h1,decide_eq_true h2,decide_eq_true h3];rfl
end
end L2
namespace L2
open PySem PySem.Spec PyProof.Rows
section
variable {X:Cx} {K:ah}
theorem xqp:OpR X (cQ .RShift) (kI (fun _ j=>0≤j) fun i j=>.int (i / 2^j.toNat)):=xo9.imp fun _ _ _ _=>xcF
end
end L2
namespace L2
open PySem PySem.Spec PyProof.Rows
theorem uz{c:TT}{tb:TS}{D:Ends}{σ:St}{H:Hp}(Pv:Nat→St→Hp→Prop){m:Nat}(h0:Pv m σ H)
  (hs:∀m σ H,Pv m σ H→c σ H fun b H1=>(b=true→∃N:St→Hp→Prop,(∀σ' H',N σ' H'→∃m',m'<m∧Pv m' σ' H')∧tb {D with nx:=N,ct:=N,bk:=D.nx} σ H1)∧(b=false→D.nx σ H1)):xdz c tb D σ H:=by
 unfold xdz;exact⟨Pv,⟨m,h0⟩,hs⟩
theorem xaQ{l₁:List Int}(h:l₁.Nodup):∀{l₂:List Int},(∀x∈l₁,x∈l₂)→l₁.length≤l₂.length:=by
 induction l₁ with
 |nil=>intro l₂ _;exact aN _
 |cons x xs ih=>
  intro l₂ hs;obtain⟨h1,h2⟩:=cA.mp h;have hx:=hs x aS;have:=ih h2 (l₂:=l₂.erase x) fun y hy=>(List.mem_erase_of_ne (fun z=>h1 (by rw[←z];exact hy))).mpr (hs y (aD _ hy));rw[List.length_erase_of_mem hx]at this;have hpos:0<l₂.length:=List.length_pos_of_mem hx;rw[bt];lia
end L2
namespace PySem.W
open PySem PySem.Calls PyProof.Rows
def xej(h:Heap)(ks:List Value):Prop:=∀v∈ks,∃a o,v= .ref a∧h.get? a=some o∧o.cls= .type "list"
section
variable {M:Model} {A:aL} {E:Value→ae→Prop} {s:ae}
theorem xgA:∀(vs:List Value) {Q:List (Option Value)→ae→Prop},xej s.heap vs→Q (vs.map fun _=>none) s→wpAny M A (vs.mapM firstOfTuple') Q E s
 |[],_,_,h=>by rw[List.mapM_nil];exact ao h
 |v::vs,Q,t,h=>by
  obtain⟨a,o,rfl,ho,hc⟩:=t v aS;rw[List.mapM_cons];refine aa ?_;rw[kas_first_eq];refine aa (Looks.here (show Looks M s.heap (typeOf (.ref a)) o.cls from(Looks.ld ho).andThen .now) ?_);rw[hc,if_pos (by first|decide|simp)];refine ao ?_;exact aa (xgA vs (Q:=fun bs s'=>wpAny M A (pure (none::bs)) Q E s') (fun v hv=>t v (aD _ hv)) (ao h))
theorem xoi{vs:List Value}{Q:SortKind→ae→Prop}(hne:0<vs.length)(t:xej s.heap vs)(h:Q gN s):wpAny M A (keyKind' vs.toArray) Q E s:=by
 obtain⟨f₁,fr,rfl⟩:∃f₁ fr,vs=f₁::fr:=by
  match vs,hne with
  |f₁::fr,_=>exact⟨f₁,fr,rfl⟩
 rw[kat_kind_eq,List.mapM_toArray,map_eq_pure_bind];refine aa (aa (xgA _ t (ao ?_)));have h1:((((f₁::fr).map fun _=>(none:Option Value)).toArray).all fun x=>x.isSome)=false:=by simp
 rw[if_neg (by rw[h1];decide)];have h2:((((f₁::fr).map fun _=>(none:Option Value)).toArray)[0]?.bind id).isSome=false:=by simp
 rw[if_neg (by rw[h2];decide)];rw[oneTypeOnly'_eq,List.mapM_toArray,map_eq_pure_bind];refine aa (aa (aa (kas_mapM (r:=cF "list") _ (fun v hv Q' hq=>?_) (ao ?_))))
 ·obtain⟨a,o,rfl,ho,hc⟩:=t v hv;refine Looks.here (show Looks M s.heap (typeOf (.ref a)) o.cls from(Looks.ld ho).andThen .now) ?_;rw[hc];exact hq
 ·have hall2:((List.map (fun _=>cF "list") (f₁::fr)).toArray.all fun x=>x==cF "list")=true:=by
   simp only[List.all_toArray,List.all_map,bZ];intro _ _;rfl
  have h0:(List.map (fun _=>cF "list") (f₁::fr)).toArray[0]? =some (cF "list"):=by simp
  rw[h0];dsimp only;rw[if_pos hall2];exact ao (ao h)
end
section
variable {prog:aG} {w:World} {A:aL} {E:Value→ae→Prop} {s:ae} {a kS:Addr} {vs:List Value} {e1:Nat} {f:Value} {P:PySem.Fin→ae→Prop}
def xhH(prog:aG)(w:World)(A:aL)(kS a:Addr)(vs:List Value)(P:PySem.Fin→ae→Prop)(ks:List Value)(s:ae):Prop:=
 ∃lt:Nat→Nat→Bool,L2.STO lt vs.length∧xej s.heap ks∧(∀i j (C:Bool→ae→Prop),i<vs.length→j<vs.length→C (lt i j) s→wpAny (model prog w) A (keyLt' gN (ks.getD i a8) (ks.getD j a8)) C (fun _ _=>False) s)∧
 ∀p:Array Nat,L2.Pm vs.length p→L2.Up lt p vs.length→∀h' c,(∀b o,b≠kS→b≠a→s.heap.get? b=some o→h'.get? b=some o)→h'.get? a=some (aW "list" (az (p.toList.map fun i=>vs.getD i a8)) c)→P (.done (.ret .none)) {s with heap:=h'}
def uV(prog:aG)(w:World)(A:aL)(kS a:Addr)(e1:Nat)(f:Value)(vs:List Value)(P:PySem.Fin→ae→Prop):List Value→List Value→ae→Prop
 |[],ks,s=>s.heap.get? a=some (aW "list" #[] e1)∧xhH prog w A kS a vs P ks s
 |v::r,ks,s=>wpAny (model prog w) A (call f [v]) (fun k s'=>(∃e,s'.heap.get? kS=some (aW "list" (az ks) e))∧∀h' c,(∀b o,b≠kS→s'.heap.get? b=some o→h'.get? b=some o)→h'.get? kS=some (aW "list" (az (ks++[k])) c)→uV prog w A kS a e1 f vs P r (ks++[k]) {s' with heap:=h'}) (fun _ _=>False) s
theorem xbO{st:SortSt}{out ks:List Value}{e:Nat}(hak:a≠kS)(hout:(arrOf st).map (·.2)=az out)(hz:out.length<64)(hkz:ks.length<64)(hf:failedOf st=none)
  (ha:s.heap.get? a=some (aW "list" #[] e1)) (hk:s.heap.get? kS=some (aW "list" (az ks) e))
  (h:∀h' c,(∀b o,b≠kS→b≠a→s.heap.get? b=some o→h'.get? b=some o)→h'.get? a=some (aW "list" (az out) c)→P (.done (.ret .none)) {s with heap:=h'}):wpAny (model prog w) A (ksk_tail a false e1 (.ref kS) st) P E s:=by
 have s1:=cw s.heap kS (aV fun _=>(#[]:Array Value));have ha1:(s.heap.update kS (aV fun _=>(#[]:Array Value))).get? a=some (aW "list" #[] e1):=(s1.2 a hak).trans ha;have s2:=cw (s.heap.update kS (aV fun _=>(#[]:Array Value))) a (aV fun _=>az out);obtain⟨c2,hc2⟩:∃c2,((s.heap.update kS (aV fun _=>(#[]:Array Value))).update a (aV fun _=>az out)).get? a=some (aW "list" (az out) c2):=⟨_,eH ha1 fun _=>az out⟩;have hsz:(az out).size=out.length:=ay;unfold ksk_tail
 try dsimp only
 rw[hout];refine aa (fi hk rfl ?_ (by rw[ay,ax];lia) (aN _));refine aa (dg ?_);refine aa (seqEpoch_at ha1 rfl ?_);refine aa (fi ha1 rfl ?_ (aN _) (bg (gw hsz) (by rw[ax];lia)));rw[hf];simp only[bne_self_eq_false,cf,if_false];exact ao (h _ c2 (fun b o h1 h2 q=>(s2.2 b h2).trans ((s1.2 b h1).trans q)) hc2)
theorem xoj{ks:List Value}{e:Nat}(hak:a≠kS)(hl:ks.length=vs.length)(h64:vs.length<64)(ha:s.heap.get? a=some (aW "list" #[] e1))(hk:s.heap.get? kS=some (aW "list" (az ks) e))
  (h:xhH prog w A kS a vs P ks s):wpAny (model prog w) A (ksk_end a false vs.toArray e1 (.ref kS) (az ks)) P E s:=by
 obtain⟨lt,S,hL,hcmp,fin⟩:=h;unfold ksk_end
 try dsimp only
 by_cases h2:2≤vs.length
 ·have hn2:¬vs.toArray.size<2:=by rw[ay];lia
  have hk1:wpAny (model prog w) A (keyKind' (az ks)) (fun κ s'=>κ=gN∧s=s') (fun _ _=>False) s:=xoi (by lia) hL ⟨rfl,rfl⟩;simp only[cf,if_false];rw[if_neg hn2,if_neg hn2];refine aa (aK hk1 (fun κ s0 hk=>?_) fun _ _ x=>x.elim);obtain⟨rfl,rfl⟩:=hk;have hw:(kas_sort vs.length).kasWp (kas_ask prog w A gN ks) (fun p s''=>s=s''∧L2.Pm vs.length p∧L2.Up lt p vs.length) s:=by
   refine L2.Wp.kas (lt:=lt) (n:=vs.length) (fun i j C hi hj hc=>hcmp i j C hi hj hc) ?_;exact L2.wp_mono (L2.xjm S h2) fun q hq=>⟨rfl,hq⟩
  refine aa (aK (kat_run (Q:=fun st' s'=>∃p:Array Nat,arrOf st'=p.map (kas_item ((az ks).zip (az vs)))∧failedOf st'=none∧s=s'∧L2.Pm vs.length p∧L2.Up lt p vs.length)
   hl h2 h64 (fun p' st' s' a1 a2 a3 a4=>⟨p',a2,a3,a4⟩) hw) ?_ fun _ _ x=>x)
  rintro⟨⟨⟩,st'⟩ s' ⟨p,har,hf,rfl,hp,hu⟩
  try dsimp only
  refine xbO hak (kat_snds hl har) (by rw[af,br,hp.size];exact h64) (by lia) hf ha hk fun h' c k1 k2=>fin p hp hu h' c k1 k2
 ·have hn2:vs.toArray.size<2:=by rw[ay];lia
  simp only[cf,if_false];rw[if_pos hn2,if_pos hn2];refine aa (ao ?_);refine aa (ao ?_)
  try dsimp only
  have hsn:(arrOf (SortSt.mk' general' ((az ks).zip (az vs)) #[] 7 none)).map (·.2)=az vs:=by
   show((az ks).zip (az vs)).map (·.2)=az vs;apply Array.toList_inj.mp;simp[List.map_snd_zip,hl]
  refine xbO hak hsn h64 (by lia) rfl ha hk fun h' c k1 k2=>fin (az (a9 vs.length)) ⟨by simp,by simp⟩ (fun i j hij hj=>by lia) h' c k1 ?_;have e:((az (a9 vs.length)).toList.map fun i=>vs.getD i a8)=vs:=by
   apply dv;intro i
   by_cases hi:i<vs.length
   ·simp[hi]
   ·simp[hi]
  rw[e];exact k2
theorem xhI{n:Nat}{body:Value→PUnit→Sem (ForInStep PUnit)}(hn:n<64)
  (hb:∀x ks (s:ae) (C:Value→Nat→ae→Prop),cC ks<64→wpAny (model prog w) A (call f [x]) (fun k s'=>(∃e,s'.heap.get? kS=some (aW "list" (az ks) e))∧∀h' c,(∀b o,b≠kS→s'.heap.get? b=some o→h'.get? b=some o)→h'.get? kS=some (aW "list" (az (ks++[k])) c)→C k c {s' with heap:=h'}) (fun _ _=>False) s→
   wpAny (model prog w) A (body x ⟨⟩) (fun r s'=>r= .yield ⟨⟩∧∃k c,s'.heap.get? kS=some (aW "list" (az (ks++[k])) c)∧C k c s') E s):∀(r ks:List Value) (e:Nat) (s:ae),ks.length+r.length=n→
   s.heap.get? kS=some (aW "list" (az ks) e)→uV prog w A kS a e1 f vs P r ks s→
   wpAny (model prog w) A (forIn r j7 body) (fun _ s'=>∃ks e,s'.heap.get? kS=some (aW "list" (az ks) e)∧ks.length=n∧s'.heap.get? a=some (aW "list" #[] e1)∧xhH prog w A kS a vs P ks s') E s
 |[],ks,e,s,hl,hk,h=>by
  rw[iV];exact ao ⟨ks,e,hk,by simpa using hl,h⟩
 |x::r,ks,e,s,hl,hk,h=>by
  rw[bt]at hl;rw[gz];have h':=h;unfold uV at h';refine aa (aK (hb x ks s (fun k c s'=>uV prog w A kS a e1 f vs P r (ks++[k]) s') (by lia) (aK h' (fun k s' hq=>hq) fun _ _ x=>x)) (fun q s' hq=>?_) fun _ _ x=>x);obtain⟨rfl,k,c,hk',h2⟩:=hq;show wpAny (model prog w) A (forIn r j7 body) _ E s';exact xhI hn hb r (ks++[k]) c s' (by rw[av,bB];lia) hk' h2
theorem xlH{n:Nat}(ho:s.heap.get? a=some (aW "list" vs.toArray n))(h64:vs.length<64)
  (h:∀kS e1 h',(∀b o,b≠a→s.heap.get? b=some o→h'.get? b=some o)→h'.get? a=some (aW "list" #[] e1)→h'.get? kS=some (aW "list" #[] 0)→s.heap.objs.size≤kS→uV prog w A kS a e1 f vs P vs [] {s with heap:=h'}):
  wpAny (model prog w) A (ksk_tree a f false) P E s:=by
 have ha:a<s.heap.objs.size:=ai ho;have s1:=cw s.heap a (aV fun _=>(#[]:Array Value));obtain⟨e1,ho1⟩:∃e1,(s.heap.update a (aV fun _=>(#[]:Array Value))).get? a=some (aW "list" #[] e1):=⟨_,eH ho fun _=>#[]⟩;have hkS:((s.heap.update a (aV fun _=>(#[]:Array Value))).push (aW "tuple" vs.toArray 0)).objs.size=s.heap.objs.size+1:=by rw[size_push',iy]
 unfold ksk_tree;refine aa (iz ho rfl ?_);refine aa (fi ho rfl ?_ (by rw[ay,ax];lia) (aN _));refine aa (seqEpoch_at ho1 rfl ?_);refine aa (wpAny_newTuple ?_ (by show vs.length≤_;rw[ax];lia));refine aa (fh ?_ (aN _));refine bA ?_;generalize hK:((s.heap.update a (aV fun _=>(#[]:Array Value))).push (aW "tuple" vs.toArray 0)).objs.size=kS at hkS;generalize hh:((s.heap.update a (aV fun _=>(#[]:Array Value))).push (aW "tuple" vs.toArray 0)).push (aW "list" #[] 0)=h1;have hk0:h1.get? kS=some (aW "list" #[] 0):=by rw[←hh,←hK];exact aA _ rfl
 have hk:=h kS e1 h1 (fun b o hb q=>by rw[←hh];exact ag _ (ag _ ((s1.2 b hb).trans q))) (by rw[←hh];exact ag _ (ag _ ho1)) hk0 (by rw[hkS];exact cW _);have hak:a≠kS:=aq (by rw[hkS];exact Nat.lt_succ_of_lt ha);unfold ksk_rest;refine aa (gY ?_)
 first
  |rw[kF]
  |(rw[←fR];simp only[kh])
  |rw[←fR]
 refine aa (aK (xhI h64 (fun x ks s' C hz hx=>?_) vs [] 0 {s with heap:=h1} (by simp) hk0 hk) (fun _ s' hd=>?_) fun _ _ x=>x)
 ·refine aa (wpAny_attempt (aK hx (fun k s'' hk=>?_) fun _ _ hF=>hF.elim));obtain⟨⟨e,nk⟩,c⟩:=hk;have s1:=cw s''.heap kS (aV (·.push k));have ea:(az ks).push k=az (ks++[k]):=by simp
  obtain⟨c2,hc2⟩:∃c2,(s''.heap.update kS (aV (·.push k))).get? kS=some (aW "list" (az (ks++[k])) c2):=⟨_,by rw[←ea];exact eH nk (·.push k)⟩
  try dsimp only
  refine aa (fi nk rfl ?_ (by rw[ay,ax];lia) (bg (gw (Array.size_push ..)) (by rw[ay,ax];lia)));exact ao ⟨rfl,k,c2,hc2,c _ c2 (fun b o hb q=>(s1.2 b hb).trans q) hc2⟩
 ·obtain⟨ks,e,hk',hl,ha',fin⟩:=hd
  try dsimp only
  refine aa (iz hk' rfl ?_);exact xoj hak hl h64 ha' hk' fin
end
end PySem.W
namespace L2
open PySem PySem.Spec PyProof.Rows PySem.W
structure xq2(X:Cx)(H2:Hp)(s2:ae)(kk:Nat→List Int)(D kS:Addr)(e1:Nat)(ks:List Value)(G:Hp)(s':ae):Prop where
 os:s'.os=s2.os
 bare:ef s'.gens
 un:Un (frs X.stack) [] H2 G s2.heap s'.heap
 hok:HOk X.prog X.w G s'.heap
 same:xb H2 G
 keys:∀i,i<ks.length→∃d,ks[i]? =some (.ref d)∧G d=some (.lst ((kk i).map V.int))
 atD:s'.heap.get? D=some (aW "list" #[] e1)
 fD:G D=none
 fk:G kS=none
section
variable {X:Cx} {k:Nat} {nm qual:Str} {params:b7} {body:cV} {scope:Scope} {ps:List Str} {sp:List (Str×V)→Sp} {pins:List (Addr×Obj)} {σ:St} {H2:Hp} {s2:ae} {f D kS:Addr} {fv:List (Str×V)} {kk:Nat→List Int} {vs:List Value} {P:PySem.Fin→ae→Prop} {e1:Nat}
theorem Inv.young(I:Inv X pins σ H2 s2){b:Addr}(h:s2.heap.objs.size≤b):b∉frs X.stack:=fun z=>by
 rcases ar.mp (I.stkSub b z)with q|q
 ·exact absurd I.lt (by rw[←q];exact Nat.not_lt.mpr h)
 ·exact I.nofs h q
theorem xek{P:aG}{w:World}{G:Hp}{h h':Heap}{b:Addr}(x:HOk P w G h)(fb:G b=none)(k:∀c o,c≠b→h.get? c=some o→h'.get? c=some o):HOk P w G h':=fun a o e=>
 (x a o e).stay (fun c u hc q=>k c u (by
  rintro rfl;rcases hc with z|z
  ·rw[←z,fb]at e;cases e
  ·rw[fb]at z;cases z) q) (fun _ q=>q) fun _ _ q _=>q
theorem xhJ(F:yR X.prog X.w X.K X.mg X.base CX0 k nm qual params body scope ps sp)(hr:xI (k+2) X.A)(I:Inv X pins σ H2 s2)(hc:xV H2 f nm qual params body scope fv)
  (hsp:∀i,i<vs.length→∀H3,xb H2 H3→sp fv [.int (i:Nat)] H3 (fun v H4=>xb H3 H4∧∃d,v= .ref d∧H4 d=some (.lst ((kk i).map V.int))) E0)
  (hv:∀(i:Nat) v,vs[i]? =some v→∃t,v= .int (i:Nat) t) (hD:s2.heap.objs.size≤D) (hk:s2.heap.objs.size≤kS) (hDk:D≠kS) (h64:vs.length<64)
  (S:STO (fun i j=>HT.lexLt (kk i) (kk j)) vs.length)
  (fin:∀p:Array Nat,Pm vs.length p→Up (fun i j=>HT.lexLt (kk i) (kk j)) p vs.length→∀sF G',Inv X pins σ G' sF→xb H2 G'→G' D=some (.lst (p.toList.map fun(i:Nat)=>V.int i))→P (.done (.ret .none)) sF):
  ∀(r ks:List Value) (s':ae) (G:Hp),r=vs.drop ks.length→ks.length≤vs.length→xq2 X H2 s2 kk D kS e1 ks G s'→(∃e,s'.heap.get? kS=some (aW "list" (az ks) e))→
   uV X.prog X.w X.A.in1.in1 kS D e1 (.ref f) vs P r ks s'
 |[],ks,s',G,hr0,hle,J,hkS=>by
  have hlen:ks.length=vs.length:=by
   have:=congrArg cC hr0;simp at this;lia
  unfold uV;refine⟨J.atD,fun i j=>HT.lexLt (kk i) (kk j),S,fun v hvm=>?_,fun i j C hi hj hC=>?_,fun p hp hu h' c keep hDc=>?_⟩
  ·obtain⟨i,hi,rfl⟩:=cZ.mp hvm;obtain⟨d,h1,h2⟩:=J.keys i hi;rw[aj hi]at h1;obtain⟨_,its,n,_,e⟩:=J.hok d _ h2;exact⟨d,_,bp h1,e,rfl⟩
  ·obtain⟨d1,a1,a2⟩:=J.keys i (by lia);obtain⟨d2,b1,b2⟩:=J.keys j (by lia);have g1:ks.getD i a8= .ref d1:=by simp[bc,a1]
   have g2:ks.getD j a8= .ref d2:=by simp[bc,b1]
   rw[g1,g2,keyLt'_oneType];obtain⟨_,its1,n1,r1,e1'⟩:=J.hok d1 _ a2;obtain⟨_,its2,n2,r2,e2'⟩:=J.hok d2 _ b2;exact HT.xfL ⟨_,e1',rfl,_,rfl⟩ ⟨_,e2',rfl,_,rfl⟩ (intsAre_of r1) (intsAre_of r2) hr.in1.in1.units0 hC
  ·have lenp:p.toList.length=vs.length:=by rw[br];exact hp.size
   have hvals:Vals (p.toList.map fun(i:Nat)=>V.int i) (p.toList.map fun i=>vs.getD i a8):=by
    refine vU (by simp) fun j x u e1 e2=>?_;rw[aF]at e1 e2;cases q:p.toList[j]? with
    |none=>rw[q]at e1;cases e1
    |some m=>
     rw[q]at e1 e2;cases e1;have hm:m<vs.length:=bx.mp (hp.perm.mem_iff.mp (aB q));obtain⟨t,ht⟩:=hv m vs[m] (aj hm);have:vs.getD m a8= .int (m:Nat) t:=by simp[bc,hm,ht]
     cases e2;show RelV (.int (m:Nat)) (vs.getD m a8);rw[this];exact⟨t,rfl⟩
   have newD:xE X.prog X.w (upd G D (.lst (p.toList.map fun(i:Nat)=>V.int i))) h' D (.lst (p.toList.map fun(i:Nat)=>V.int i)):=⟨by rw[af,lenp,ax];lia,_,c,hvals,hDc⟩;have hokF:HOk X.prog X.w (upd G D (.lst (p.toList.map fun(i:Nat)=>V.int i))) h':=fun b u e=>by
    by_cases hb:b=D
    ·subst hb;rw[xk]at e;cases e;exact newD
    ·rw[xj hb]at e;refine(J.hok b u e).stay (fun c' v hc' q=>keep c' v ?_ ?_ q) (fun c' q=>by rw[xj (xv q J.fD)];exact q) fun c' xs q _=>by rw[xj (xv q J.fD)];exact q
     ·rintro rfl;rcases hc' with z|z
      ·rw[←z,J.fk]at e;cases e
      ·rw[J.fk]at z;cases z
     ·rintro rfl;rcases hc' with z|z
      ·exact hb z.symm
      ·rw[J.fD]at z;cases z
   have lt2:∀b o,s2.heap.get? b=some o→b≠D∧b≠kS:=fun b o q=>⟨aq (au (ai q) hD),aq (au (ai q) hk)⟩;have un2:Un (frs X.stack) [] H2 (upd G D (.lst (p.toList.map fun(i:Nat)=>V.int i))) s2.heap h':=by
    refine⟨fun b o q n1 n2 n3=>keep b o (lt2 b o q).2 (lt2 b o q).1 (J.un.keep b o q n1 n2 n3),fun b o q n1 n2 n3=>?_,fun b o q n1 n3=>by rw[xj (lt2 b o q).1];exact J.un.free b o q n1 n3,fun b o q n3=>?_,fun b u q fx=>?_⟩
    ·obtain⟨sl,e⟩:=J.un.slot b o q n1 n2 n3;exact⟨sl,keep b _ (lt2 b o q).2 (lt2 b o q).1 e⟩
    ·obtain⟨o',e⟩:=J.un.there b o q n3;exact⟨o',keep b _ (lt2 b o q).2 (lt2 b o q).1 e⟩
    ·have:=J.un.fix b u q fx;rw[xj (xv this J.fD)];exact this
   have IF:Inv X pins σ (upd G D (.lst (p.toList.map fun(i:Nat)=>V.int i))) {s' with heap:=h'}:=I.call' (s':={s' with heap:=h'}) (ch:=[]) J.os un2 hokF J.bare fun b z=>absurd z (by simp);refine fin p hp hu _ _ IF (fun b u q=>?_) xk;have:=J.same b u q;rw[xj (xv this J.fD)];exact this
 |x::r,ks,s',G,hr0,hle,J,hkS=>by
  have hlt:ks.length<vs.length:=by
   have:=congrArg cC hr0;simp at this;lia
  have hx:vs[ks.length]? =some x:=by
   have:=congrArg (fun l=>l[0]?) hr0;simp at this;exact this.symm
  have hr1:r=vs.drop (ks.length+1):=by
   have:=congrArg List.tail hr0;simpa using this
  obtain⟨t,rfl⟩:=hv _ x hx;have Iu:Inv X pins σ G s':=I.call' (s':=s') (ch:=[]) J.os J.un J.hok J.bare fun b z=>absurd z (by simp);have E0':jm X.prog X.w X.K X.mg X.base X.A.in1.in1 X.stack s' G:=by
   have e:=Iu.env0;exact⟨e.frames,e.mod,e.bs,e.bsz,e.funs,e.frf,e.hok,e.bare⟩
  unfold uV;refine dO (cT (F.run X.A.in1.in1 X.stack s' G f fv _ [.int (ks.length:Nat)] _ E0 hr.in1.in1 E0' (hc.same J.same) (.cons ⟨t,rfl⟩ .nil) (hsp ks.length hlt G J.same)) fun rr s'' hq=>?_);cases rr with
  |error e=>exact hq.elim
  |ok fl=>
   cases fl with
   |next=>exact hq.elim
   |brk=>exact hq.elim
   |cont=>exact hq.elim
   |ret u=>
    obtain⟨v,H',hos,hbare,hun,hhok,hrv,hS,d,rfl,hd⟩:=hq;cases hrv;obtain⟨e,hkSe⟩:=hkS;have hDs:D∉frs X.stack:=I.young hD;have hks:kS∉frs X.stack:=I.young hk;have kD:=hun.keep D _ J.atD J.fD hDs (by simp);have kk2:=hun.keep kS _ hkSe J.fk hks (by simp);refine⟨⟨e,kk2⟩,fun h' c keep hnew=>?_⟩;refine xhJ F hr I hc hsp hv hD hk hDk h64 S fin r (ks++[.ref d]) {s'' with heap:=h'} H' (by rw[hr1,av];rfl) (by rw[av];exact hlt) ⟨hos.trans J.os,hbare,?_,?_,J.same.trans hS,fun i hi=>?_,keep D _ hDk kD,hun.free D _ J.atD J.fD (by simp),hun.free kS _ hkSe J.fk (by simp)⟩ ⟨c,hnew⟩
    ·have u2:=J.un.trans hun;have lt2:∀b o,s2.heap.get? b=some o→b≠kS:=fun b o q=>aq (au (ai q) hk);refine⟨fun b o q n1 n2 n3=>keep b o (lt2 b o q) (u2.keep b o q n1 n2 n3),fun b o q n1 n2 n3=>?_,u2.free,fun b o q n3=>?_,u2.fix⟩
     ·obtain⟨sl,e⟩:=u2.slot b o q n1 n2 n3;exact⟨sl,keep b _ (lt2 b o q) e⟩
     ·obtain⟨o',e⟩:=u2.there b o q n3;exact⟨o',keep b _ (lt2 b o q) e⟩
    ·exact xek hhok (hun.free kS _ hkSe J.fk (by simp)) fun c' o hcb q=>keep c' o hcb q
    ·rw[av,bB]at hi
     by_cases hij:i=ks.length
     ·subst hij;exact⟨d,by rw[bE (ak _)];simp,hd⟩
     ·obtain⟨d',g1,g2⟩:=J.keys i (by lia);exact⟨d',by rw[bj (by lia)];exact g1,hS.at g2⟩
theorem xdT{lt:Nat→Nat→Bool}{n:Nat}{p:Array Nat}(hp:Pm n p)(hu:Up lt p n):p.toList.Pairwise fun i j=>lt i j=true:=by
 refine bT.mpr fun i j hi hj hij=>?_;rw[br]at hi hj;have:=hu i j hij (by rw[←hp.size];exact hj);rw[vV,vV,de hi,de hj]at this;simpa using this
def xpC(nm qual:Str)(params:b7)(body:cV)(scope:Scope)(sp:List (Str×V)→Sp)(ta:TA)(tf:TE):TE:=fun σ H Q=>ta σ H fun xs H1=>tf σ H1 fun y H2=>
 ∃(r f:Addr) (n:Nat) (fv:List (Str×V)) (kk:Nat→List Int),xs=[.ref r]∧y= .ref f∧H2 r=some (.rng 0 n)∧n<64∧xV H2 f nm qual params body scope fv∧
 (∀i,i<n→∀H3,xb H2 H3→sp fv [.int (i:Nat)] H3 (fun v H4=>xb H3 H4∧∃d,v= .ref d∧H4 d=some (.lst ((kk i).map V.int))) E0)∧STO (fun i j=>HT.lexLt (kk i) (kk j)) n∧
 ∀(l:Addr) (p:List Nat) (H':Hp),xb H2 H'→H2 l=none→H' l=some (.lst (p.map fun(i:Nat)=>V.int i))→p.Perm (a9 n)→(p.Pairwise fun i j=>HT.lexLt (kk i) (kk j)=true)→Q (.ref l) H'
theorem xkc{e fe:Expr}{ta:TA}{tf:TE}{p pos kp:Pos}(F:yR X.prog X.w X.K X.mg X.base CX0 k nm qual params body scope ps sp)(hr:xI (k+2) X.A)(hc:X.calm=true)(hg:Gl X "sorted")(hm:X.mg "sorted"=none)(ha:PA X [e] ta)(hf:PE X fe tf)
  (he:bN pos (aI [e] X.env)=(false,eval e X.env)::bN pos (aI [] X.env):=by rfl):
  PE X (.Call (.Name "sorted" p) [e] [⟨some "key",fe,kp⟩] pos) (xpC nm qual params body scope sp ta tf):=by
 intro pins s σ H Q I h;refine bH (yO I hg hm xgw ?_ (by decide) (by decide));refine iK (thn (ha pos pins s σ H _ I h) fun us s1 ⟨xs,H1,I1,r1,q1⟩=>?_) he (by rw[he];rfl) rfl rfl;refine j8 (thn (hf pins s1 σ H1 _ I1 q1) fun fu s2 ⟨y,H2,I2,r2,q2⟩=>kws_nil ?_);obtain⟨r,f,n,fv,kk,rfl,rfl,hrng,h64,hcl,hsp,S,q⟩:=q2;obtain⟨u,rfl,ru⟩:=Vals.one r1;cases ru;cases r2;obtain⟨t1,t2,t3,hR⟩:=I2.hok r _ hrng;show wpAny _ _ (call (.builtin "sorted") [.ref r] [(cg "key",.ref f)]) _ _ s2;refine call_function_entry_kw kind_sorted plain_sorted entry_sorted (ksk_s1 _ _) ?_;unfold eR.«sorted»;refine aa (m:=checkCount "sorted" 1 1 _) (ao ?_);have hsize:bb 0 (n:Int) 1=(n:Nat):=by rw[rangeSize_one];split<;> lia
 refine aa (xiH (A:=X.A.in1) (I.ok.hd hc) hR hsize (by lia) fun g tk xs m keep hlt hget items=>?_);obtain⟨hxs,hit⟩:=items;have hxl:xs.toList.length=n:=by rw[br];exact hxs
 refine aa (fh ?_ (by rw[hxl,ax];lia));have hoL:(g.push (aW "list" xs.toList.toArray 0)).get? g.objs.size=some (aW "list" xs.toList.toArray 0):=aA _ rfl;refine aa (bA (wpAny_call_entry_kw slot_list_sort ⟨_,hoL,rfl⟩ entry_list_sort ?body (ksk_l1 _ _)))
 case body=>
  show wpAny (model X.prog X.w) X.A.in1.in1 (eR.«list.sort» ⟨[.ref g.objs.size],[(cg "key",.ref f)]⟩) _ _ _;rw[ksk_t1];have h64':xs.toList.length<64:=by rw[hxl];exact h64
  have hsg:s2.heap.objs.size≤g.objs.size:=bS hlt;refine xlH (s:={s2 with heap:=g.push (aW "list" xs.toList.toArray 0),toks:=tk}) hoL h64' fun kS e1 h' keep2 atD atk hkS=>?_;have hkS':g.objs.size<kS:=au (by show g.objs.size<(g.push _).objs.size;rw[cH];exact cS _) hkS;have old:∀b o,s2.heap.get? b=some o→h'.get? b=some o:=fun b o e=>keep2 b o (aq (au (ai e) hsg)) (ag _ (keep b o e));refine xhJ (kk:=kk) F hr I2 hcl (fun i hi=>hsp i (by rw[hxl]at hi;exact hi)) (fun i v e=>?_) hsg (bg hsg (bS hkS')) (aq hkS') h64' (by rw[hxl];exact S) (fun p hp hu sF G' IF sm hDv=>?_) xs.toList [] _ H2 rfl (aN _)
   ⟨rfl,I2.bare,Un.kept old,I2.hok.kept old,xb.refl _,fun i hi=>absurd hi (cP _),atD,I2.hok.fresh hsg,I2.hok.fresh (bg hsg (bS hkS'))⟩ ⟨0,atk⟩
  ·obtain⟨t,ht⟩:=hit i v (by simpa using e);exact⟨t,by rw[ht];congr 1;lia⟩
  ·rw[hxl]at hp hu;exact⟨_,rfl,ao ⟨_,rfl,.ref g.objs.size,G',IF,rfl,q _ p.toList G' sm (I2.hok.fresh hsg) hDv hp.perm (xdT hp hu)⟩⟩
end
end L2
namespace L2
open PySem
def xkd:Expr→Expr
 | .Call _ _ (k::_) _=>k.value
 |e=>e
end L2
namespace L2
open PySem PySem.Spec PyProof.Rows PySem.W
def xpD:Option (Int×Tok)→Array Value
 |none=>#[]
 |some (m,t)=>#[.int m t,.int m t]
def xqq(f:Nat→Int)(j:Nat):Option (Int×Tok)→Prop
 |none=>j=0
 |some (m,_)=>(∃i,i<j∧f i=m)∧∀i,i<j→f i≤m
def xlI(f:Nat→Int)(n:Nat)(d v:Value):Prop:=(n=0→v=d)∧(0<n→∃m t,v= .int m t∧(∃i,i<n∧f i=m)∧∀i,i<n→f i≤m)
theorem xmT(a v:Value):argsOk "max" ⟨[a],[(cg "default",v)]⟩:=by unfold argsOk;kernel_rfl
section
variable {prog:aG} {w:World} {A:aL} {R:fJ→ae→Prop} {I:Addr} {fp wr:List Addr} {n:Nat} {P:Nat→Value→Prop} {St:Nat→Heap→Prop}
theorem xbP(W:Walks prog w A.in1 I fp wr n P St)(f:Nat→Int)(hP:∀i v,P i v→∃t,v= .int (f i) t)(S:Addr)(hSf:S∉fp)(d:Value):∀(k j:Nat) (s:ae) (b:Option (Int×Tok)) (c:Nat),n - j=k→j≤n→St j s.heap→
  s.heap.get? S=some {cls:=.type "list",dict:=none,data:=.seq (xpD b) c,slots:=#[]}→xqq f j b→
  (∀v h' tk,xlI f n d v→(∀b o,b∉wr→b≠S→s.heap.get? b=some o→h'.get? b=some o)→R (.ok (.ret v)) {s with heap:=h',toks:=tk})→
  cD (model prog w) A (.builtin "max.loop" ⟨[.ref I,.none,.ref S],[(cg "default",d)]⟩) R s
 |0,j,s,b,c,hk,hj,hst,hS,hb,hR=>by
  have hin:j=n:=by lia
  subst hin;have hSw:S∉wr:=fun h=>hSf (W.sub _ h);refine cO F.entry_max_loop ?_;rw[c3 d5 _];show wpAny _ A.in1 (seqItems? (.ref S) >>= _) _ _ s;refine aa (eU hS rfl ?_);show wpAny _ A.in1 (tryCatch (ik (.ref I)) _ >>= _) _ _ s;refine aa (dA (W.done s _ _ hst fun h' tk hk'=>?_));have hS':=hk' S _ hSw hS;cases b with
  |none=>
   cases hb;exact aa (m:=rule _) (gY (ao (hR d _ tk ⟨fun _=>rfl,fun q=>absurd q (bJ _)⟩ fun b o hbw _ e=>hk' b o hbw e)))
  |some p=>
   obtain⟨m,t⟩:=p;show wpAny _ A.in1 (fO S (fun _=>#[]) >>= _) _ _ _;refine aa (cM hS' rfl (aa (dg (ao ?_))) (by show(2:Nat)≤_;decide));refine hR _ _ tk ⟨fun q=>?_,fun _=>⟨m,t,rfl,hb⟩⟩ fun b o hbw hbS e=>(aZ _ _ (aR hbS)).trans (hk' b o hbw e);obtain⟨⟨i,hi,_⟩,_⟩:=hb;lia
 |k+1,j,s,b,c,hk,hj,hst,hS,hb,hR=>by
  have hlt:j<n:=by lia
  have hSw:S∉wr:=fun h=>hSf (W.sub _ h);have hname:(toString "max"++toString ".loop":String)="max.loop":=by decide
  refine cO F.entry_max_loop ?_;rw[c3 d5 _];show wpAny _ A.in1 (seqItems? (.ref S) >>= _) _ _ s;refine aa (eU hS rfl ?_);show wpAny _ A.in1 (tryCatch (ik (.ref I)) _ >>= _) _ _ s;refine aa (dA (W.item j s _ _ hlt hst fun v h' tk hv hst' hk'=>?_));have hS':=hk' S _ hSw hS;obtain⟨t,rfl⟩:=hP _ _ hv;have turned:∀(g:Array Value→Array Value),(∀b∈fp,∀o,h'.get? b=some o→(h'.update S (aV g)).get? b=some o):=fun g b hbf o e=>(aZ _ _ (fun h:S=b=>hSf (by rw[h];exact hbf))).trans e;cases b with
  |none=>
   cases hb;show wpAny _ A.in1 (fO S (fun _=>#[.int (f 0) t,.int (f 0) t]) >>= _) _ _ _;refine aa (cM hS' rfl ?_);rw[hname];refine ao ⟨bV d5 _,xbP W f hP S hSf d k 1 _ (some (f 0,t)) (c+1) (by lia) (by lia) (W.frame _ _ _ hst' (turned _)) ?_ ⟨⟨0,by lia,rfl⟩,fun i hi=>?_⟩ fun v' h'' tk'' ho hk''=>?_⟩
   ·exact(bP _ hS' rfl).trans rfl
   ·rw[show i=0 by lia];exact Int.le_refl _
   exact hR v' h'' tk'' ho fun b o hbw hbS e=>hk'' b o hbw hbS ((aZ _ _ (aR hbS)).trans (hk' b o hbw e))
  |some p=>
   obtain⟨m,u⟩:=p;obtain⟨⟨i0,hi0,e0⟩,hle⟩:=hb;show wpAny _ A.in1 (tryCatch (dU [.int (f j) t,.int (f j) t] (richCompare .Gt (.int (f j) t) (.int m u) >>= _)) _ >>= _) _ _ _;have hcmp:=CmpOf.ints_gt (prog:=prog) (w:=w) (A:=A.in1) (P:=fun i v=>∃t,v= .int (if i=0 then f j else m) t) (fun i=>if i=0 then f j else m) (fun i v e=>e);refine aa (dA (bA (aa (hcmp 0 1 _ _ _ _ _ ⟨t,rfl⟩ ⟨u,rfl⟩ ?_))));refine aa (bA (cy ?_));refine aa (dg (ao ?_))
   by_cases hb:f j > m
   ·show wpAny _ _ (if decide (f j > m)=true then _ else _) _ _ _;rw[if_pos (decide_eq_true hb)];refine aa (cM hS' rfl (aa (dg ?_)) (by show(2:Nat)≤_;decide));rw[hname];obtain⟨c',e'⟩:∃c',(h'.update S (aV fun _=>#[.int (f j) t,.int (f j) t])).get? S=some {cls:=.type "list",dict:=none,data:=.seq #[.int (f j) t,.int (f j) t] c',slots:=#[]}:=⟨_,bP _ hS' rfl⟩;refine ao ⟨bV d5 _,xbP W f hP S hSf d k (j+1) _ (some (f j,t)) c' (by lia) hlt (W.frame _ _ _ hst' (turned _)) e' ⟨⟨j,by lia,rfl⟩,fun i hi=>?_⟩ fun v' h'' tk'' ho hk''=>?_⟩
    ·by_cases q:i=j
     ·subst q;exact Int.le_refl _
     ·have:=hle i (by lia);lia
    ·exact hR v' h'' tk'' ho fun b o hbw hbS e=>hk'' b o hbw hbS ((aZ _ _ (aR hbS)).trans (hk' b o hbw e))
   ·show wpAny _ _ (if decide (f j > m)=true then _ else _) _ _ _;rw[if_neg (by rw[decide_eq_false hb];exact aC)];refine aa (dg ?_);rw[hname];refine ao ⟨bV d5 _,xbP W f hP S hSf d k (j+1) _ (some (m,u)) c (by lia) hlt hst' hS' ⟨⟨i0,by lia,e0⟩,fun i hi=>?_⟩ fun v' h'' tk'' ho hk''=>hR v' h'' tk'' ho fun b o hbw hbS e=>hk'' b o hbw hbS (hk' b o hbw e)⟩
    by_cases q:i=j
    ·subst q;lia
    ·exact hle i (by lia)
theorem xmU{E:Value→ae→Prop}{s:ae}{l:Addr}{xs:Array (Int×Tok)}{d:Value}{Q:Value→ae→Prop}(hh:A.handled=none)(hl:s.heap.IsList l (ix xs))
  (h:∀v h' tk,xlI (numAt xs) xs.size d v→(∀b o,s.heap.get? b=some o→h'.get? b=some o)→Q v {s with heap:=h',toks:=tk}):
  wpAny (model prog w) A (call (.builtin "max") [.ref l] [(cg "default",d)]) Q E s:=by
 have hname:(toString "max"++toString ".loop":String)="max.loop":=by decide
 refine kmk_tree F.kind_max F.plain_max F.entry_max (xmT _ _) ?_;show wpAny _ A.in1 (dE "max" ["key","default"] 0 ⟨[],[(cg "default",d)]⟩ >>= _) _ _ s;refine aa (iL (show dE "max" ["key","default"] 0 ⟨[],[(cg "default",d)]⟩=pure [none,some d]from rfl) ?_);refine aa (ao (aa (iter_intList hl fun s₂ e st hfp hlI=>?_)));subst e;refine aa (fX ?_);rw[hname];have W:=g7 (prog:=prog) (w:=w) (A:=A.in1) hh s.heap.objs.size l hlI (ix xs);have hsz:(ix xs).size=xs.size:=by simp[ix]
 refine ao ⟨bV d5 _,xbP W (numAt xs) (fun i v e=>intItems_at e) _ (fun hm=>bJ _ (hfp _ hm)) d _ 0 _ none 0 rfl (aN _) (W.frame _ _ _ st fun b _ o e=>ag _ e) (aA _ rfl) rfl fun v h' tk ho hk=>?_⟩;rw[hsz]at ho;exact h v h' tk ho (old_kept fun b o hbw e=>hk b o hbw (aq (ai e)) (ag _ e))
end
section
variable {X:Cx}
def xqr(K:ah)(ta:TA)(tf:TE):TE:=fun σ H Q=>ta σ H fun xs H1=>tf σ H1 fun y H2=>
 ∃(l:Addr) (ns:List Int) (z:Int),xs=[.ref l]∧y= .int z∧SqL K H2 l (ns.map V.int)∧∀m,(ns=[]→m=z)→(ns≠[]→m∈ns∧∀a∈ns,a≤m)→Q (.int m) H2
theorem xjo{e fe:Expr}{ta:TA}{tf:TE}{p pos kp:Pos}(hc:X.calm=true)(hg:Gl X "max")(hm:X.mg "max"=none)(ha:PA X [e] ta)(hf:PE X fe tf)
  (he:bN pos (aI [e] X.env)=(false,eval e X.env)::bN pos (aI [] X.env):=by rfl):
  PE X (.Call (.Name "max" p) [e] [⟨some "default",fe,kp⟩] pos) (xqr X.K ta tf):=by
 intro pins s σ H Q I h;refine bH (yO I hg hm xaa ?_ (by decide) (by decide));refine iK (thn (ha pos pins s σ H _ I h) fun us s1 ⟨xs,H1,I1,r1,q1⟩=>?_) he (by rw[he];rfl) rfl rfl;refine j8 (thn (hf pins s1 σ H1 _ I1 q1) fun fu s2 ⟨y,H2,I2,r2,q2⟩=>kws_nil ?_);obtain⟨l,ns,z,rfl,rfl,hl,q⟩:=q2;obtain⟨u,rfl,ru⟩:=Vals.one r1;cases ru;obtain⟨tz,rfl⟩:=r2;obtain⟨its,r',pl,hz⟩:=I2.list hl;have hi:=intsAre_of r';have hL:=pl.isList;have hn:=hi.numsOf;obtain⟨ys,e⟩:=hi.allInts.items;rw[e]at hL;have e2:numsOf its=numsOf (ix ys).toList:=by rw[←e]
 rw[e2,nums_intItems]at hn;have hlen:=congrArg cC hn;rw[af,br]at hlen;show wpAny _ _ (call (.builtin "max") [.ref l] [(cg "default",.int z tz)]) _ _ s2;refine xmU (I.ok.hd hc) hL fun v h' tk ho hk=>?_
 by_cases hne:ns=[]
 ·have h0:ys.size=0:=by rw[hlen,hne];rfl
  have:=ho.1 h0;subst this;exact⟨.int z,H2,I2.kept (t':=tk) hk,⟨tz,rfl⟩,q z (fun _=>rfl) fun x=>absurd hne x⟩
 ·have hpos:0<ns.length:=cu.mpr hne;obtain⟨m,t,rfl,⟨i,hi',ei⟩,hle⟩:=ho.2 (by omega);refine⟨.int m,H2,I2.kept (t':=tk) hk,⟨t,rfl⟩,q m (fun x=>absurd x hne) fun _=>⟨?_,fun a ha'=>?_⟩⟩
  ·rw[←hn,←ei,numAt_eq];exact getD_mem (by rw[af,br];omega)
  ·rw[←hn]at ha';obtain⟨j,hj,rfl⟩:=mem_getD ha';rw[af,br]at hj;rw[←numAt_eq];exact hle j hj
end
end L2
namespace L2
open PySem PySem.Spec PyProof.Rows PySem.W
structure xel(K:ah)(x qual:Str)(st:Stmt)(f:Addr)(fd:aw)(ds:List Value):Prop where
 ex:∃(oc:Value) (od:Option Addr) (dT:Addr) (o:Obj) (n:Nat) (kV doc pm:Value) (an:Option Addr) (cdv ct:Value) (osl:Array (Option Value)),
  fd=cU x qual (xR st) (xD st) (xh st) (.ref dT) kV doc pm an cdv ct∧K.lookup f=some ⟨oc,od,.func fd,osl⟩∧dz K cdv qual=true∧K.lookup dT=some o∧o.data= .seq ds.toArray n
 kp:cR K (.ref f)=true
section
variable {P:aG} {w:World} {K:ah} {mg:Str→Option Value} {base:Heap}
theorem xel.ok{x qual:Str}{st:Stmt}{f:Addr}{fd:aw}{ds:List Value}{N ps:List Str}{k:Nat}{sp:Sp}(F:xel K x qual st f fd ds)(S:xo N ps (xh st))(len:∀vs H Q E,sp vs H Q E→vs.length=ps.length)
  (hbody:∀(cdv:Value) (A:aL) (outer:List Env) (s:ae) (H:Hp) (vs:List V) (Q:VK) (E:XK),xI k (A.deeper (eP qual (xh st) s.heap.objs.size f cdv))→sp vs H Q E→
   ∃t,PSs (vH CX0 P w K mg base N qual (xh st) f cdv A outer s H E).nox (xD st) t∧t {nx:=fun _ H'=>Q .non H',rt:=Q} (start N vs) H):xy P w K mg base CX0 (k+1) f fd ps sp:=by
 obtain⟨oc,od,dT,o,n,kV,doc,pm,an,cdv,ct,osl,rfl,lk,hcd,_⟩:=F.ex;refine xhd lk hcd S len fun A outer s H vs Q E hr hsp=>?_;obtain⟨t,h,q⟩:=hbody cdv A outer s H vs Q E hr hsp;exact⟨t,h.nox,q⟩
theorem xel.binds{x qual:Str}{st:Stmt}{f:Addr}{fd:aw}{ps:List Str}{ds es:List Value}(F:xel K x qual st f fd ds)(n:Nat)(hn:n+es.length=ps.length)
  (h:∀(dT:Addr) (kV doc pm:Value) (an:Option Addr) (cdv ct:Value) (us:List Value),us.length=n→
   ∃k:Option (Array Value)→Sem (List (Str×Value)),e9 (cU x qual (xR st) (xD st) (xh st) (.ref dT) kV doc pm an cdv ct) ⟨us,[]⟩=seqItems? (.ref dT) >>= k∧k (some ds.toArray)=pure (ps.zip (us++es))):Binds K fd ps es:=by
 obtain⟨oc,od,dT,o,n,kV,doc,pm,an,cdv,ct,osl,rfl,lk,hcd,ho,hs⟩:=F.ex;intro s us X hl;obtain⟨k,h1,h2⟩:=h dT kV doc pm an cdv ct us (by rw[av]at hl;lia);exact binds_K X rfl ho hs h1 h2
theorem xjp{x qual:Str}{st:Stmt}{f dT:Addr}{oc:Value}{od an dod:Option Addr}{osl dsl:Array (Option Value)}{kV doc pm cdv ct dc:Value}{ds:List Value}{n:Nat}(l:K.lookup f=some ⟨oc,od,.func (cU x qual (xR st) (xD st) (xh st) (.ref dT) kV doc pm an cdv ct),osl⟩)
  (c:dz K cdv qual=true) (k:cR K (.ref f)=true) (d:K.lookup dT=some ⟨dc,dod,.seq ds.toArray n,dsl⟩):xel K x qual st f (cU x qual (xR st) (xD st) (xh st) (.ref dT) kV doc pm an cdv ct) ds:=
 ⟨⟨oc,od,dT,_,n,kV,doc,pm,an,cdv,ct,osl,rfl,l,c,d,rfl⟩,k⟩
end
end L2
namespace L2
open PySem PySem.Spec PyProof.Rows
def Nu(X:Cx)(H:Hp)(b:Addr):Prop:=H b=none∧X.s₀.heap.get? b=none∧∀p∈X.pn,p.1≠b
def xq3(X:Cx)(H:Hp)(h:Heap)(a:Addr)(cls:Value)(dx:Option Addr):Prop:=
 ∃oe vs a0,h.get? a=some oe∧oe.cls=cls∧oe.dict=dx∧oe.data= .fields vs∧vs[0]? =some a0∧vs[1]? =some .none∧Nu X H a
def xem(X:Cx)(fl:Value)(H:Hp)(h:Heap)(a:Addr)(cls:Value)(dx:Option Addr):Prop:=
 ∃oe vs a0 T oT ts,h.get? a=some oe∧oe.cls=cls∧oe.dict=dx∧oe.data= .fields vs∧vs[0]? =some a0∧vs[1]? =some (.ref T)∧T≠a∧h.get? T=some oT∧oT.data= .fields ts∧ts[3]? =some fl∧Nu X H a∧Nu X H T
def Fly(X:Cx)(H:Hp)(h:Heap)(a:Addr)(cls:Value)(dx:Option Addr):Prop:=
 xq3 X H h a cls dx∨xem X .none H h a cls dx∨xem X (bX X.env.locals) H h a cls dx
structure Own(X:Cx):Prop where
 ex:X.ex=[]
 st:X.stack=X.env::X.outer
 fr:X.env.frame=some X.env.locals
abbrev EEs:=St→XK
def XE(X:Cx)(EE:EEs):Value→ae→Prop:=fun e s'=>
 ∃a cls dx σ H,e= .ref a∧Inv X [] σ H s'∧Fly X H s'.heap a cls dx∧EE σ cls dx H
section
variable {X:Cx} {pins:List (Addr×Obj)} {σ:St} {H:Hp} {s:ae}
theorem Inv.nopins(I:Inv X pins σ H s):Inv X [] σ H s:=I.pins_of fun p hp=>nomatch hp
theorem Own.mem(o:Own X){b:Addr}:b∈frs X.stack↔b=X.env.locals∨b∈X.fs:=by
 rw[o.st];unfold frs;rw[fw,o.fr];exact ar
theorem Inv.flown{h':Heap}(o:Own X)(I:Inv X [] σ H s)(ch:Addr→Prop)
  (keep:∀b u,¬ch b→b∉frs X.stack→s.heap.get? b=some u→h'.get? b=some u)
  (slot:∀b u,¬ch b→b∈frs X.stack→s.heap.get? b=some u→∃sl,h'.get? b=some {u with slots:=sl})
  (new:∀b,ch b→Nu X H b∧∀u,s.heap.get? b=some u→∃vs,u.data= .fields vs):Inv X [] σ H {s with heap:=h'}:=by
 have any:∀b u,¬ch b→s.heap.get? b=some u→∃sl,h'.get? b=some {u with slots:=sl}:=fun b u n e=>by
  by_cases hb:b∈frs X.stack
  ·exact slot b u n hb e
  ·exact⟨u.slots,keep b u n hb e⟩
 have old:∀b u,X.s₀.heap.get? b=some u→¬ch b:=fun b u e z=>by
  have:=(new b z).1.2.1;rw[e]at this;cases this
 have neL:∀b u,X.s₀.heap.get? b=some u→b≠X.env.locals:=fun b u e=>aq (au (ai e) I.ok.above);have cel:∀c v,s.heap.IsCell c v→h'.IsCell c v:=fun c v ⟨u,e,d⟩=>by
  obtain⟨sl,q⟩:=any c u (fun z=>by
   obtain⟨vs,w⟩:=(new c z).2 u e;rw[d]at w;cases w) e
  exact⟨_,q,d⟩
 refine⟨I.ok,I.os,I.bare,⟨fun b u e n hb hx=>?_,fun b u e n hb hx=>?_,I.base.free,fun b u e hx=>?_,I.base.fix⟩,?_,fun x c e=>?_,I.free,I.freeC,fun p hp=>?_,fun b u e=>?_,I.len⟩
 ·exact keep b u (old b u e) (fun z=>(o.mem.mp z).elim (neL b u e) hb) (I.base.keep b u e n hb hx)
 ·obtain⟨sl,e1⟩:=I.base.slot b u e n hb hx;obtain⟨sl',e2⟩:=slot b _ (old b u e) (o.mem.mpr (.inr hb)) e1;exact⟨sl',e2⟩
 ·by_cases hb:b∈X.fs
  ·obtain⟨o',e1⟩:=I.base.there b u e hx;obtain⟨sl,e2⟩:=any b _ (old b u e) e1;exact⟨_,e2⟩
  ·obtain⟨o',e1⟩:=I.base.there b u e hx;obtain⟨sl,e2⟩:=any b _ (old b u e) e1;exact⟨_,e2⟩
 ·obtain⟨m,⟨u,es,ep,e,d⟩,l⟩:=I.loc;obtain⟨sl,q⟩:=any _ u (fun z=>by
   obtain⟨vs,w⟩:=(new _ z).2 u e;rw[d.1]at w;cases w) e
  refine⟨m,⟨_,es,ep,q,d⟩,fun i x v e1 e2 e3=>?_⟩;obtain⟨y,r,z⟩:=l i x v e1 e2 e3;exact⟨y,r,z.imp id fun⟨k,c,e,z⟩=>⟨k,c,e,cel c _ z⟩⟩
 ·obtain⟨v,z⟩:=I.cell x c e;exact⟨v,cel c v z⟩
 ·obtain⟨e,n,ne,nf,d⟩:=I.pin p hp;have hp':p∈X.pn:=by simpa using hp
  exact⟨keep p.1 p.2 (fun z=>(new _ z).1.2.2 p hp' rfl) (fun z=>(o.mem.mp z).elim ne nf) e,n,ne,nf,d⟩
 ·refine(I.hok b u e).stay (fun c v hc q=>?_) (fun _ q=>q) fun _ _ q _=>q;have tr:∃u,H c=some u:=by
   rcases hc with rfl|hc
   ·exact⟨u,e⟩
   ·exact⟨_,hc⟩
  obtain⟨u',tr⟩:=tr;refine keep c v (fun z=>?_) (fun z=>?_) q
  ·rw[(new c z).1.1]at tr;cases tr
  ·rw[I.stkFree c z]at tr;cases tr
theorem xeS{M:Model}{A':aL}{E:Value→ae→Prop}{Q:Unit→ae→Prop}{a:Addr}{oe:Obj}{vs:Array Value}{a0 head:Value}{had:Bool}(o:Own X)(hfr:A'.frames=some X.stack)(I:Inv X [] σ H s)
  (he:s.heap.get? a=some oe) (hd:oe.data= .fields vs) (h0:vs[0]? =some a0) (h1:1<vs.size) (hn:Nu X H a)
  (h:∀s',Inv X [] σ H s'→xem X (bX X.env.locals) H s'.heap a oe.cls oe.dict→Q () s'):
  wpAny M A' (do let f ←frameOf X.env;let pl ←entryPlaceOf X.env.locals had;let b ←ki head f .none (bX X.env.locals) .none pl;setField (.ref a) 1 b) Q E s:=by
 have hfs:s.heap.FunFrames X.base (X.env::X.outer):=by have:=I.stack;rwa [o.st]at this
 have hmem:∀b,b∈(X.env::X.outer).filterMap (·.frame)↔b∈frs X.stack:=fun b=>by rw[o.st];rfl
 have hna:a∉frs X.stack:=fun z=>by
  obtain⟨_,u,hu,hnf⟩:=hfs.mem ((hmem a).mpr z);rw[he]at hu;injection hu with hu;subst hu;exact hnf vs hd
 refine aa (wpAny_frameOf_fun (by rw[hfr,o.st]) hfs o.fr fun g1 so=>?_);refine aa (wpAny_entryPlaceOf fun pl hpl=>?_);unfold ki newFields;refine aa (fX ?_ (hpl.sizeOk5 _ _ _ _ _));have g1a:g1.get? a=some oe:=(so.2.1 a fun z=>hna ((hmem a).mp z)).trans he;generalize hT:({cls:=.type "traceback",dict:=none,data:=.fields ([head,.ref X.env.locals,.none,bX X.env.locals,.none]++(if pl.isEmpty then bw 6 a8 else pl)).toArray}:Obj)=ot;have g2a:=ag (h:=g1) ot g1a;refine iW g2a hd h1 ?_;have neT:g1.objs.size≠a:=dC (ai g1a);have d3:=Obj.data_mapFields hd (·.setIfInBounds 1 (aT g1.objs.size));have a3:=bP (eh (·.setIfInBounds 1 (aT g1.objs.size))) g2a (iX d3);have t3:((g1.push ot).update a (eh (·.setIfInBounds 1 (aT g1.objs.size)))).get? g1.objs.size=some ot:=(aZ _ _ (aR neT)).trans (aA g1 (by rw[←hT];rfl));have kp:∀b u,b≠a→g1.get? b=some u→((g1.push ot).update a (eh (·.setIfInBounds 1 (aT g1.objs.size)))).get? b=some u:=fun b u nb e=>
  (aZ _ _ (aR nb)).trans (ag _ e)
 have old:∀b u,s.heap.get? b=some u→b≠g1.objs.size:=fun b u e=>aq (by rw[so.1];exact ai e);have nT:Nu X H g1.objs.size:=by
  refine⟨I.hok.fresh (by rw[so.1];exact ak _),?_,fun p hp z=>old p.1 p.2 (I.pin p (by simpa using hp)).1 z⟩;exact eZ (by rw[so.1];exact I.sz)
 have J:Inv X [] σ H {s with heap:=(g1.push ot).update a (eh (·.setIfInBounds 1 (aT g1.objs.size)))}:=by
  refine I.flown o (fun b=>b=a) (fun b u n nf e=>kp b u n ((so.2.1 b fun z=>nf ((hmem b).mp z)).trans e)) (fun b u n _ e=>?_) (fun b z=>?_)
  ·obtain⟨sl,e1⟩:=so.2.2 b u e;exact⟨sl,kp b _ n e1⟩
  ·subst z;exact⟨hn,fun u e=>⟨vs,by rw[he]at e;cases e;exact hd⟩⟩
 refine h _ J ?_
 ·refine⟨_,_,a0,g1.objs.size,ot,_,a3,Obj.cls_mapFields _ _,?_,d3,by rw[Array.getElem?_setIfInBounds_ne (by decide)];exact h0,by simp[h1],neT,t3,by rw[←hT],by simp,hn,nT⟩;obtain⟨c,d,dt,sl⟩:=oe;cases dt<;> rfl
theorem xfN{M:Model}{A':aL}{E:Value→ae→Prop}{Q:Unit→ae→Prop}{a:Addr}{cls:Value}{dx:Option Addr}(o:Own X)(hfr:A'.frames=some X.stack)(I:Inv X [] σ H s)(F:Fly X H s.heap a cls dx)
  (h:∀s',Inv X [] σ H s'→xem X (bX X.env.locals) H s'.heap a cls dx→Q () s'):wpAny M A' (noteFrame (.ref a) X.env) Q E s:=by
 unfold noteFrame;simp only[o.fr];rcases F with⟨oe,vs,a0,he,rfl,rfl,hd,h0,h1,hn⟩|⟨oe,vs,a0,T,oT,ts,he,rfl,rfl,hd,h0,h1,nT,hT,hdT,h3,hn,hnT⟩|F
 ·refine aa (fq he hd h1 ?_);rw[if_neg (by decide)];exact xeS o hfr I he hd h0 (dJ.mp h1).1 hn h
 ·refine aa (fq he hd h1 ?_);rw[if_pos (by simp:(aT T != a8)=true)];refine aa (fq hT hdT h3 ?_);rw[if_neg (by simp[bX]:¬((a8==bX X.env.locals)=true))];refine aa (iW hT hdT (dJ.mp h3).1 ?_);have ot:∀b,b≠T→(s.heap.update T (eh (·.setIfInBounds 3 a8))).get? b=s.heap.get? b:=fun b nb=>aZ _ _ (aR nb);have I':Inv X [] σ H {s with heap:=s.heap.update T (eh (·.setIfInBounds 3 a8))}:=by
   refine I.flown o (fun b=>b=T) (fun b u n _ e=>(ot b n).trans e) (fun b u n _ e=>⟨u.slots,(ot b n).trans e⟩) (fun b z=>?_);subst z;exact⟨hnT,fun u e=>⟨ts,by rw[hT]at e;cases e;exact hdT⟩⟩
  exact xeS o hfr I' ((ot a (aR nT)).trans he) hd h0 (dJ.mp h1).1 hn h
 ·obtain⟨oe,vs,a0,T,oT,ts,he,hc,hx,hd,h0,h1,nT,hT,hdT,h3,hn,hnT⟩:=id F;refine aa (fq he hd h1 ?_);rw[if_pos (by simp:(aT T != a8)=true)];refine aa (fq hT hdT h3 ?_);rw[if_pos (by simp:(bX X.env.locals==bX X.env.locals)=true)];exact ao (h s I F)
theorem xaR{M:Model}{A':aL}{E:Value→ae→Prop}{Q:Unit→ae→Prop}{a:Addr}{cls fl:Value}{dx:Option Addr}{to:Option Addr}(o:Own X)(I:Inv X [] σ H s)(F:xem X fl H s.heap a cls dx)
  (h:∀s',Inv X [] σ H s'→xem X (to.elim .none fun f=>bX f) H s'.heap a cls dx→Q () s'):wpAny M A' (setFlight (.ref a) to) Q E s:=by
 obtain⟨oe,vs,a0,T,oT,ts,he,rfl,rfl,hd,h0,h1,nT,hT,hdT,h3,hn,hnT⟩:=F;unfold setFlight;refine aa (fq he hd h1 ?_);rw[if_pos (by simp:(aT T != a8)=true)];have z3:=(dJ.mp h3).1;have ot:∀b,b≠T→(s.heap.update T (eh (·.setIfInBounds 3 (to.elim a8 fun f=>bX f)))).get? b=s.heap.get? b:=fun b nb=>aZ _ _ (aR nb);have d3:=Obj.data_mapFields hdT (·.setIfInBounds 3 (to.elim a8 fun f=>bX f));refine iW hT hdT z3 (h _ (I.flown o (fun b=>b=T) (fun b u n _ e=>(ot b n).trans e) (fun b u n _ e=>⟨u.slots,(ot b n).trans e⟩) fun b z=>?_) ?_)
 ·subst z;exact⟨hnT,fun u e=>⟨ts,by rw[hT]at e;cases e;exact hdT⟩⟩
 ·exact⟨oe,vs,a0,T,_,_,(ot a (aR nT)).trans he,rfl,rfl,hd,h0,h1,nT,bP _ hT (iX d3),d3,by simp[z3],hn,hnT⟩
theorem xbQ{M:Model}{A':aL}{E:Value→ae→Prop}{Q:Unit→ae→Prop}{a:Addr}{cls:Value}{dx:Option Addr}(o:Own X)(hfr:A'.frames=some X.stack)(I:Inv X [] σ H s)(F:Fly X H s.heap a cls dx)
  (h:∀s',Inv X [] σ H s'→xem X .none H s'.heap a cls dx→Q () s'):wpAny M A' (leaving X.env (.ref a)) Q E s:=by
 unfold leaving;exact aa (xfN o hfr I F fun s1 I1 F1=>xaR (to:=none) o I1 F1 h)
theorem PassesOwn.xe{EE:EEs}(o:Own X):PassesOwn (model X.prog X.w) X.A X.env (XE X EE):=by
 rintro e s' ⟨a,cls,dx,σ,H,rfl,I,F,q⟩;refine xfN o I.ok.frames I F fun s1 I1 F1=>?_;unfold cameBackBy;obtain⟨oe,vs,a0,T,oT,ts,he,hc,hx,hd,h0,h1,_⟩:=id F1;refine aa (fq he hd h1 ?_);rw[if_neg (by simp)];refine xaR (to:=X.env.frame) o I1 F1 fun s2 I2 F2=>⟨a,cls,dx,σ,H,rfl,I2,.inr (.inr ?_),q⟩;rw[o.fr]at F2;exact F2
end
def CXE(P:aG)(w:World):CXT:=fun outer H s E e s'=>∃a cls dx H' oe vs a0 T oT ts,e= .ref a∧s'.os=s.os∧ef s'.gens∧Un (frs outer) [] H H' s.heap s'.heap∧HOk P w H' s'.heap∧
 s'.heap.get? a=some oe∧oe.cls=cls∧oe.dict=dx∧oe.data= .fields vs∧vs[0]? =some a0∧vs[1]? =some (.ref T)∧T≠a∧s'.heap.get? T=some oT∧oT.data= .fields ts∧ts[3]? =some .none∧
 H' a=none∧s.heap.get? a=none∧H' T=none∧s.heap.get? T=none∧E cls dx H'
theorem xhK{CX:CXT}{P:aG}{w:World}{K:ah}{mg:Str→Option Value}{base:Heap}{N:List Str}{qual:Str}{sc:Scope}{f:Addr}{cd:Value}{A:aL}{outer:List Env}{s:ae}{H:Hp}{E:XK}:
  Own (vH CX P w K mg base N qual sc f cd A outer s H E):=⟨rfl,rfl,rfl⟩
theorem PSs.wished{X:Cx}{E:Value→ae→Prop}{st:List Stmt}{t:TS}(h:PSs (X.wish E) st t)(hE:∀e s,E e s→X.xe e s):PSs X st t:=fun pins s σ H D I hw=>
 aK (h pins s σ H D (I.wish _) hw) (fun _ _ q=>q.unwish) hE
abbrev cxX(P:aG)(w:World)(K:ah)(mg:Str→Option Value)(base:Heap)(N:List Str)(qual:Str)(sc:Scope)(f:Addr)(cd:Value)(A:aL)(outer:List Env)(s:ae)(H:Hp)(E:XK):Cx:=
 (vH (CXE P w) P w K mg base N qual sc f cd A outer s H E).wish (XE (vH (CXE P w) P w K mg base N qual sc f cd A outer s H E) fun _=>E)
section
variable {P:aG} {w:World} {K:ah} {mg:Str→Option Value} {base:Heap}
theorem Fun.okX{x qual:Str}{st:Stmt}{f:Addr}{fd:aw}{N ps:List Str}{k:Nat}{sp:Sp}(F:Fun K x qual st f fd)(S:xo N ps (xh st))(len:∀vs H Q E,sp vs H Q E→vs.length=ps.length)
  (hbody:∀(cdv:Value) (A:aL) (outer:List Env) (s:ae) (H:Hp) (vs:List V) (Q:VK) (E:XK),xI k (A.deeper (eP qual (xh st) s.heap.objs.size f cdv))→sp vs H Q E→
   ∃t,PSs (cxX P w K mg base N qual (xh st) f cdv A outer s H E) (xD st) t∧t {nx:=fun _ H'=>Q .non H',rt:=Q} (start N vs) H):xy P w K mg base (CXE P w) (k+1) f fd ps sp:=by
 obtain⟨oc,od,kV,doc,pm,an,cdv,ct,osl,rfl,lk,hcd⟩:=F.ex;refine xhd lk hcd S len fun A outer s H vs Q E hr hsp=>?_;obtain⟨t,h,q⟩:=hbody cdv A outer s H vs Q E hr hsp;refine⟨t,h.wished fun e s' ⟨a,cls,dx,σ,H',he,I,Fl,z⟩=>?_,q⟩;subst he;refine xbQ xhK I.ok.frames I Fl fun s2 I2 F2=>?_;obtain⟨oe,vs,a0,T,oT,ts,he,hc,hx,hd,h0,h1,nT,hT,hdT,h3,hn,hnT⟩:=F2;exact⟨a,cls,dx,H',oe,vs,a0,T,oT,ts,rfl,I2.os,I2.bare,I2.base,I2.hok,he,hc,hx,hd,h0,h1,nT,hT,hdT,h3,hn.1,hn.2.1,hnT.1,hnT.2.1,z⟩
end
section
variable {X:Cx} {EE:EEs}
theorem xke{pins:List (Addr×Obj)}{σ:St}{H:Hp}{s s':ae}{e:Value}(o:Own X)(I:Inv (X.wish (XE X EE)) pins σ H s)(h:CXE X.prog X.w X.stack H s (EE σ) e s'):XE X EE e s':=by
 obtain⟨a,cls,dx,H',oe,vs,a0,T,oT,ts,rfl,os,bare,un,hok,he,hc,hx,hd,h0,h1,nT,hT,hdT,h3,n1,n2,n3,n4,q⟩:=h;have I0:Inv X pins σ H s:=I.unwish;have I1:Inv X pins σ H' s':=I0.call' os un hok bare fun b z=>absurd z (by simp);have nu:∀b,H' b=none→s.heap.get? b=none→Nu X H' b:=fun b m1 m2=>by
  refine⟨m1,?_,fun p hp z=>?_⟩
  ·cases q:X.s₀.heap.get? b with
   |none=>rfl
   |some u=>
    obtain⟨u',e⟩:=I0.base.there b u q (by rw[o.ex];simp);rw[m2]at e;cases e
  ·have:=(I0.pin p (bf _ hp)).1;rw[z,m2]at this;cases this
 exact⟨a,cls,dx,σ,H',rfl,I1.nopins,.inr (.inl ⟨oe,vs,a0,T,oT,ts,he,hc,hx,hd,h0,h1,nT,hT,hdT,h3,nu a n1 n2,nu T n3 n4⟩),q⟩
variable {k:Nat} {f C:Addr} {fd:aw} {ps:List Str} {sp:Sp} {dvs:List V} {ds:List Value} {x m:Str} {p pos apos:Pos} {e ob:Expr} {es:List Expr} {ta:TE} {t:TA}
theorem xfO{pins:List (Addr×Obj)}{σ:St}{H:Hp}{s:ae}{Q:VK}{us:List Value}{vs:List V}(o:Own X)(F:xy X.prog X.w X.K X.mg X.base (CXE X.prog X.w) k f fd ps sp)(hr:xI k X.A)(hb:Binds X.K fd ps ds)(hd:Vals dvs ds)
  (I:Inv (X.wish (XE X EE)) pins σ H s) (r:Vals vs us) (h:sp (vs++dvs) H Q (EE σ)):wpAny (model X.prog X.w) X.A (call (.ref f) us) (EP (X.wish (XE X EE)) pins σ Q) (XE X EE) s:=by
 have r2:Vals (vs++dvs) (us++ds):=r.append hd;have hl:(us++ds).length=ps.length:=r2.length.symm.trans (F.len _ _ _ _ h);refine dO (cT (F.run X.A X.stack s H ⟨us,[]⟩ (us++ds) (vs++dvs) Q (EE σ) hr I.unwish.env0 (hb s us I.unwish.kIn hl) r2 h) fun z s' hq=>?_)
 match z,hq with
 | .error e,hq=>exact xke o I hq
 | .ok (.ret u),hq=>exact I.after hq
 | .ok .next,hq=>exact hq.elim
 | .ok .brk,hq=>exact hq.elim
 | .ok .cont,hq=>exact hq.elim
def xpE(sp:Sp)(dvs:List V)(EE:EEs)(t:TA):TE:=fun σ H Q=>t σ H fun vs H1=>sp (vs++dvs) H1 Q (EE σ)
theorem xhL(o:Own X)(F:xy X.prog X.w X.K X.mg X.base (CXE X.prog X.w) k f fd ps sp)(hr:xI k X.A)(hg:Gl X x)(hm:X.mg x=some (.ref f))(hk:cR X.K (.ref f)=true)(hb:Binds X.K fd ps ds)(hd:Vals dvs ds)
  (ha:PA (X.wish (XE X EE)) (e::es) t) (hdb:(x==("__debug__":Str))=false:=by decide) (he:aI (e::es) X.env=(false,eval e X.env)::aI es X.env:=by rfl) (hpl:(bN pos (aI es X.env)).any (·.1)=false:=by rfl):
  PE (X.wish (XE X EE)) (.Call (.Name x p) (e::es) [] pos) (xpE sp dvs EE t):=by
 intro pins s σ H Q I h;refine bH (vD I hg hm ?_ hdb);refine fL (h₀:=X.base) I.ok.mod.kin hk (thn (ha pos pins s σ H _ I h) fun us s1 ⟨vs,H1,I1,r,q⟩=>⟨I1.kIn,xfO o F hr hb hd I1 r q⟩) he hpl
end
end L2
namespace L2
open PySem PySem.Spec PyProof.Rows
def xkf:List Value:=[.type "ValueError",.type "Exception",.type "BaseException",.type "object"]
theorem xE.here{P:aG}{w:World}{H:Hp}{h:Heap}{a:Addr}{o:HO}(x:xE P w H h a o):∃u,h.get? a=some u:=by
 cases o with
 |lst xs=>obtain⟨_,_,_,_,e⟩:=x;exact⟨_,e⟩
 |tup xs=>obtain⟨_,_,_,u,e,_⟩:=x;exact⟨_,e⟩
 |dK kvs=>obtain⟨_,_,_,_,o,_,_,e,_⟩:=x;exact⟨_,e⟩
 |dT kvs=>obtain⟨_,_,_,_,o,_,_,e,_⟩:=x;exact⟨_,e⟩
 |set S n=>obtain⟨o,_,_,_,e,_⟩:=x;exact⟨_,e⟩
 |ins C dx fs=>obtain⟨_,_,_,e,_⟩:=x;exact⟨_,e⟩
 |own y=>exact x
 |xd fs=>obtain⟨_,⟨_,_,_,e,_⟩,_⟩:=x;exact⟨_,e⟩
 |rng lo hi=>obtain⟨_,_,_,e⟩:=x;exact⟨_,e⟩
 |frz ob u=>obtain⟨e,_⟩:=x;exact⟨_,e⟩
 |tbl qs=>obtain⟨_,e,_⟩:=x;exact⟨_,e⟩
 |cel v=>obtain⟨_,⟨_,e,_⟩,_⟩:=x;exact⟨_,e⟩
 |met f y=>exact⟨_,x⟩
 |ext φ=>exact x.2.1
section
variable {X:Cx} {EE:EEs}
theorem xqs{pins:List (Addr×Obj)}{σ:St}{H:Hp}{s:ae}(o:Own X)(I:Inv X pins σ H s){b:Addr}(m:s.heap.get? b=none):Nu X H b:=by
 refine⟨?_,?_,fun p hp z=>?_⟩
 ·cases q:H b with
  |none=>rfl
  |some u=>
   obtain⟨v,e⟩:=(I.hok b u q).here;rw[m]at e;cases e
 ·cases q:X.s₀.heap.get? b with
  |none=>rfl
  |some u=>
   obtain⟨u',e⟩:=I.base.there b u q (by rw[o.ex];simp);rw[m]at e;cases e
 ·have:=(I.pin p (bf _ hp)).1;rw[z,m]at this;cases this
abbrev Cx.pnd(X:Cx)(ps:List (Addr×Obj)):Cx:={X with pn:=X.pn++ps}
abbrev Cx.held(X:Cx)(a:Addr)(ps:List (Addr×Obj)):Cx:={X with A:=X.A.mark (some (.ref a)),calm:=false,xe:=fun _ _=>False,pn:=X.pn++ps}
theorem Cx.Ok.pnd{ps:List (Addr×Obj)}(ok:X.Ok):(X.pnd ps).Ok:=
 ⟨ok.mod,ok.kind,ok.glob,ok.blt,ok.above,ok.inj,ok.has,ok.cab,ok.hd,ok.frames,ok.stk,ok.exf,ok.bs,ok.bsz,ok.noex,ok.exfs,ok.funs,ok.frf,ok.cab2,ok.hz⟩
theorem Cx.Ok.held{a:Addr}{ps:List (Addr×Obj)}(ok:X.Ok):(X.held a ps).Ok:=
 ⟨ok.mod,ok.kind,ok.glob,ok.blt,ok.above,ok.inj,ok.has,ok.cab,(fun z=>by cases z),ok.frames,ok.stk,ok.exf,ok.bs,ok.bsz,ok.noex,ok.exfs,ok.funs,ok.frf,ok.cab2,ok.hz⟩
theorem Own.pnd{ps:List (Addr×Obj)}(o:Own X):Own (X.pnd ps):=⟨o.ex,o.st,o.fr⟩
section
variable {pins ps:List (Addr×Obj)} {σ:St} {H:Hp} {s:ae}
theorem Inv.pnd(I:Inv X pins σ H s):Inv (X.pnd pins) [] σ H s:=
 ⟨I.ok.pnd,I.os,I.bare,I.base,I.loc,I.cell,I.free,I.freeC,fun p hp=>I.pin p (by simpa using hp),I.hok,I.len⟩
theorem Inv.unpnd{qs:List (Addr×Obj)}(ok:X.Ok)(I:Inv (X.pnd pins) qs σ H s):Inv X pins σ H s:=
 ⟨ok,I.os,I.bare,I.base,I.loc,I.cell,I.free,I.freeC,fun p hp=>I.pin p (bf _ hp),I.hok,I.len⟩
theorem SP.unpnd{qs:List (Addr×Obj)}(ok:X.Ok){D:Ends}{f:Flow}{s':ae}(h:SP (X.pnd pins) qs D f s'):SP X pins D f s':=by
 cases f with
 |next=>obtain⟨σ',H',I,q⟩:=h;exact⟨σ',H',I.unpnd ok,q⟩
 |brk=>obtain⟨σ',H',I,q⟩:=h;exact⟨σ',H',I.unpnd ok,q⟩
 |cont=>obtain⟨σ',H',I,q⟩:=h;exact⟨σ',H',I.unpnd ok,q⟩
 |ret u=>obtain⟨v,σ',H',I,r,q⟩:=h;exact⟨v,σ',H',I.unpnd ok,r,q⟩
theorem Inv.held{a:Addr}{oe:Obj}(I:Inv (X.pnd pins) [] σ H s)(ok:X.Ok)(he:s.heap.get? a=some oe)(hn:H a=none){vs:Array Value}(hd:oe.data= .fields vs):Inv (X.held a (pins++[(a,oe)])) [] σ H s:=by
 refine⟨ok.held,I.os,I.bare,I.base,I.loc,I.cell,I.free,I.freeC,fun p hp=>?_,I.hok,I.len⟩;have hp':p∈X.pn++pins∨p=(a,oe):=by
  have:p∈(X.pn++(pins++[(a,oe)]))++[]:=hp;rw[dI,←cJ]at this;rcases aY.mp this with z|z
  ·exact .inl z
  ·exact .inr (aE.mp z)
 rcases hp' with hp'|rfl
 ·exact I.pin p (bf _ hp')
 ·refine⟨he,hn,fun z=>?_,fun z=>?_,fun v z=>?_⟩
  ·obtain⟨m,⟨u,es,ep,e,d⟩,_⟩:=I.loc;have z':a=X.env.locals:=z;rw[z']at he;rw[show s.heap.get? X.env.locals=some u from e]at he;cases he;rw[d.1]at hd;cases hd
  ·obtain⟨_,u,hu,hnf⟩:=I.funs.mem z;have hu':s.heap.get? a=some u:=hu;rw[he]at hu';cases hu';exact hnf vs hd
  ·have z':oe.data= .cell v:=z;rw[hd]at z';cases z'
theorem Inv.unheld{a:Addr}{oe:Obj}{qs:List (Addr×Obj)}(ok:X.Ok)(I:Inv (X.held a (pins++[(a,oe)])) qs σ H s):Inv X pins σ H s:=
 ⟨ok,I.os,I.bare,I.base,I.loc,I.cell,I.free,I.freeC,fun p hp=>I.pin p (by
  show p∈(X.pn++(pins++[(a,oe)]))++qs;rcases aY.mp hp with z|z
  ·exact bf _ (bf _ z)
  ·exact bf _ (aO _ (bf _ z))),I.hok,I.len⟩
theorem SP.unheld{a:Addr}{oe:Obj}{qs:List (Addr×Obj)}(ok:X.Ok){D:Ends}{f:Flow}{s':ae}(h:SP (X.held a (pins++[(a,oe)])) qs D f s'):SP X pins D f s':=by
 cases f with
 |next=>obtain⟨σ',H',I,q⟩:=h;exact⟨σ',H',I.unheld ok,q⟩
 |brk=>obtain⟨σ',H',I,q⟩:=h;exact⟨σ',H',I.unheld ok,q⟩
 |cont=>obtain⟨σ',H',I,q⟩:=h;exact⟨σ',H',I.unheld ok,q⟩
 |ret u=>obtain⟨v,σ',H',I,r,q⟩:=h;exact⟨v,σ',H',I.unheld ok,r,q⟩
end
structure xmV(K:ah)(C':Addr):Prop where
 base:iO K C' (.type "BaseException")=some true
theorem xkg{M:Model}{A':aL}{E:Value→ae→Prop}{K:ah}{s:ae}{a C C':Addr}{oe:Obj}{b:Bool}{Q:Bool→ae→Prop}(KX:K.In s.heap)(he:s.heap.get? a=some oe)(hcls:oe.cls= .ref C)
  (hk:W.kitCls K (.ref C) (.ref C')=some b) (hb:xmV K C') (hq:Q b s):wpAny M A' (excMatches (.ref a) (.ref C')) Q E s:=by
 obtain⟨l1,l2,l3⟩:=W.kit_cls (M:=M) KX hk;have l4:=W.looks_mroIn (M:=M) KX hb.base;have kk:∀b o,s.heap.get? b=some o→s.heap.get? b=some o:=fun _ _ e=>e;unfold excMatches isInstance;refine aa (aa (l1 _ _ _ s kk ?_));refine iL tc_notTuple ?_;simp only[cf,if_false];refine aa (ao ?_);simp only[gz,iV];unfold isExcClass;refine aa (aa (aa (aa (l2 _ _ _ s kk ?_))));simp only[if_true];refine l4 _ _ _ s kk ?_;simp only[Bool.not_true,cf,if_false];refine ao (ao ?_);have lt:wpAny M A' (typeOf (.ref a)) (fun v s'=>v=oe.cls∧s'=s) E s:=by
  unfold typeOf;exact aa (iN he (ao ⟨rfl,rfl⟩))
 refine aa (aK lt (fun v s' z=>?_) fun _ _ x=>x);obtain⟨rfl,rfl⟩:=z;rw[hcls];refine aa (aa (aa (l3 _ _ _ s' kk ?_)));cases b with
 |true=>exact ao (ao (ao hq))
 |false=>exact ao (ao (ao hq))
def xnK(K:ah)(C':Addr)(ts:Addr→Value→TS)(D:Ends):EEs:=fun σ cls _ H=>∃C,cls= .ref C∧W.kitCls K (.ref C) (.ref C')=some true∧∀a,H a=none→ts a cls D σ H
def xq4(K:ah)(C':Addr)(tb:EEs→TS)(ts:Addr→Value→TS):TS:=fun D σ H=>tb (xnK K C' ts D) D σ H
theorem xlJ{C':Addr}{y:Str}{np hp pos:Pos}{body suite:List Stmt}{b₀:Stmt}{tb:EEs→TS}{ts:Addr→Value→TS}(o:Own X)(hb:xmV X.K C')(hg:Gl X y)(hm:X.mg y=some (.ref C'))
  (hbody:∀(EE:EEs) (ps:List (Addr×Obj)),PSs ((X.pnd ps).wish (XE (X.pnd ps) EE)) body (tb EE)) (hsuite:∀(ps:List (Addr×Obj)) (a:Addr) (cls:Value),PSs (X.held a ps) (b₀::suite) (ts a cls))
  (hdb:(y==("__debug__":Str))=false:=by decide):PS X (.Try body [.ExceptHandler (some (.Name y np)) none (b₀::suite) hp] [] [] pos) (xq4 X.K C' tb ts):=by
 intro pins s σ H D I h;have ok:=I.ok;refine wpAny_Try_except (aK (hbody (xnK X.K C' ts D) pins [] s σ H D (I.pnd.wish _) h) (fun f s1 hq=>?_) fun e s1 hx=>?_)
 ·have hq':SP X pins D f s1:=(SP.unwish hq).unpnd ok;cases f with
  |next=>exact fA hq'
  |brk=>exact hq'
  |cont=>exact hq'
  |ret u=>exact hq'
 ·obtain⟨a,cls,dx,σ1,H1,rfl,I1,F1,C,rfl,hk,q⟩:=hx;refine xfN (X:=X.pnd pins) o.pnd ok.frames I1 F1 fun s2 I2 F2=>?_;refine xaR (X:=X.pnd pins) (to:=none) o.pnd I2 F2 fun s3 I3 F3=>?_;refine wpAny_handleBy_cons (codeAny_handlers_test ?_) (by intro z;cases z);obtain⟨oe,vs,a0,T,oT,ts',he,hc,hx,hd,h0,h1,nT,hT,hdT,h3,hn,hnT⟩:=id F3;have J3:=Inv.held I3 ok he hn.1 hd;refine vD J3 hg hm ?_ hdb;refine xkg (K:=X.K) I3.kIn he hc hk hb ?_;refine codeAny_handlers_suite ?_;refine xaR (X:=X.pnd pins) (to:=none) o.pnd I3 F3 fun s4 I4 F4=>?_;obtain⟨oe',vs',a0',T',oT',ts'',he',hc',hx',hd',h0',h1',nT',hT',hdT',h3',hn',hnT'⟩:=id F4;have J4:=Inv.held I4 ok he' hn'.1 hd';refine aK (hsuite (pins++[(a,oe')]) a (.ref C) [] s4 σ1 H1 D J4 (q a hn'.1)) (fun f s5 hq=>?_) fun _ _ z=>z.elim;exact hq.unheld ok
end
end L2
namespace L2
open PySem PySem.Spec PyProof.Rows PySem.W
structure xpF(K:Frag)(D:Addr):Prop where
 ga:findIn K (.ref D) "__getattribute__"=some (some (.builtin "BaseException.__getattribute__"))
 gh:findIn K (.ref D) "__getattr__"=some none
 cl:findIn K (.ref D) "__class__"=some (some (.builtin "object.__class__"))
 gt:specialIn K (.builtin "object.__class__") "__get__"=some (some (.builtin "getset_descriptor.__get__"))
 tk:takesIn K (.builtin "object.__class__")=some true
 ob:mroIn K D (.type "object")=some true
 bs:mroIn K D (.type "BaseException")=some true
 is:(clsIn K D).isSome=true
section
variable {prog:aG} {w:World} {A:aL} {E:Value→ae→Prop} {s:ae} {K:Frag} {x D:Addr} {ox:Obj} {od:Option Obj}
end
section
variable {X:Cx}
end
end L2
namespace L2
open PySem PySem.Spec PyProof.Rows
def xnL(K:ah)(C f:Addr):Bool:=match K.lookup C with
 |some ⟨.type "type",_,.cls cd,sl⟩=>(match cd.mro,sl.toList with
  | .ref C'::bm,[_,_,_,_,some (.builtin n),_]=>C'==C&&n=="ValueError.__new__"&& !cd.hasDel&&W.tailIn K xkf bm&&W.nsOkIn K cd.ns&&iY K cd.ns "__init__"==some (some (.ref f))
  |_,_=>false)
 |_=>false
def xcQ:List Value→List Value
 | .ref _::r=>xcQ r
 |l=>l
structure xbR(K:ah)(C f:Addr):Prop where
 xi:xnL K C f=true
 fn:W.isFn K (.ref f)=true
 hd:gO K C=true
 mr:(W.clsIn K C).any (fun cd=>xcQ cd.mro==xkf)=true
 ob:iO K C (.type "object")=some true
 sa:bq K (.ref C) "__setattr__"=some (some (.builtin "object.__setattr__"))
theorem xcR(self:Value)(what:Str):∀l:List Value,refuseLoop self what l=refuseLoop self what (xcQ l)
 |[]=>rfl
 |v::r=>by
  cases v with
  |ref C=>rw[refuseLoop_ref];exact xcR self what r
  |_=>rfl
section
variable {prog:aG} {w:World} {A:aL} {E:Value→ae→Prop} {s:ae} {K:ah} {x C f:Addr} {ox:Obj} {name:Str} {v:Value}
theorem xok{od:Option Obj}{tk:Tok}{R:fJ→ae→Prop}(X:K.In s.heap)(I:W.InstAt s.heap x ox C od)(F:xbR K C f)(n:xC K C name)
  (h:∀b,wpAny (model prog w) A.in1 (Builtin.ObjectAttr.storeInOwnDict (.ref x) (.ref C) (.str name tk) name v b) (fun fin s'=>match fin with| .done f=>R (.ok f) s'| .again c'=>c'.quiet=true∧cD (model prog w) A c' R s') (fun e s'=>R (.error e) s') s):
  cD (model prog w) A (.call (.builtin "object.__setattr__") ⟨[.ref x,.str name tk,v],[]⟩) R s:=by
 have SF:=PySem.F.store_object;obtain⟨cd,hc,hm0⟩:=W.any_some F.mr;have sub:W.Looks (model prog w) s.heap (isInstance (.ref x) (.type "object")) true:=I.type.andThen (W.looks_mroIn X F.ob);refine gE SF.slot.plain SF.entry (@W.check_slot (model prog w) _ _ s "object.__setattr__" "object" "__setattr__" (.ref x) [.str name tk,v] [] _ SF.kind SF.split sub (SF.args (.ref x) (.str name tk) v) ?_);have hm:W.Looks (model prog w) s.heap (mroOf (.ref C)) cd.mro:=(kc X hc).andThen .now;have L3:W.Looks (model prog w) s.heap (Builtin.ObjectAttr.storeTaker? none) none:=.now;rw[W.osa_eq,refuse_eq];refine aa (aa (I.type.here (aa (hm.here ?_))));rw[xcR,beq_iff_eq.mp hm0,show refuseLoop (aT x) "__setattr__" xkf=pure ()from PySem.F.store_ValueError.passes _];refine ao (aa (I.type.here (aa ((W.looks_findIn X n).here (aa (L3.here ?_))))));exact h _
theorem xol{Q:Unit→ae→Prop}(X:K.In s.heap)(I:W.InstAt s.heap x ox C none)(hdx:ox.dict=none){vs:Array Value}(hdat:ox.data= .fields vs)(F:xbR K C f)(n:xC K C name)
  (h:∀h' t',h'.Ns1 s.heap.objs.size (fun y=>if y=name then some v else none)→h'.get? x=some {ox with dict:=some s.heap.objs.size}→(∀b o,b≠x→s.heap.get? b=some o→h'.get? b=some o)→Q () {s with heap:=h',toks:=t'}):
  wpAny (model prog w) A (setAttr (.ref x) name v) Q E s:=by
 refine W.set_plain X I F.sa (xok (s:={s with toks:=s.toks+1}) X I F n fun b=>?_);obtain⟨cd,hc,hd'⟩:=W.any_some F.hd;have hx:=I.at_;obtain⟨c0,d0,dt0,sl0⟩:=ox;cases hdx;cases hdat;cases I.cls;refine aa (ao (aa (aa (iN hx (aa (W.Looks.here (s:={s with toks:=s.toks+1}) (kc X hc) ?_))))));rw[hd'];have hx₁:(s.heap.push {cls:=.type "dict",data:=.dict #[]}).get? x=some ⟨.ref C,none,.fields vs,sl0⟩:=ag _ hx;have hxs:x≠s.heap.objs.size:=aq (ai hx);refine aa (wpAny_alloc' ?_);refine aa (wpAny_update' hx₁ ?_);refine ao ?_;have hgd:((s.heap.push {cls:=.type "dict",data:=.dict #[]}).update x fun o=>{cls:=o.cls,dict:=some s.heap.objs.size,data:=o.data,slots:=o.slots}).get? s.heap.objs.size
   =some {cls:=.type "dict",data:=.dict #[]}:=
  (kj _ _ _ _ hxs.symm).trans (Heap.get?_push_at rfl rfl)
 have hnd:((s.heap.push {cls:=.type "dict",data:=.dict #[]}).update x fun o=>{cls:=o.cls,dict:=some s.heap.objs.size,data:=o.data,slots:=o.slots}).Ns s.heap.objs.size (fun _=>none):=
  ⟨_,#[],_,hgd,rfl,fun e he=>absurd he (by simp),fun _=>rfl⟩
 show wpAny _ _ (gF s.heap.objs.size (.str name _) name v) _ _ _;unfold gF Builtin.ObjectAttr.newKeyGuard;refine aa (ao (aa (wpAny_nsSet1 (kK hnd) fun h' hn' hs=>?_)));obtain⟨oD,esD,epD,hoD,hdD,hcD⟩:=hn'.count (Within.cons name v Within.nil);refine aa (wpAny_lookBehind hoD (by rw[hdD];exact pastItsLine_dict (bg hcD (by rw[bt,gx,ax];lia))) ?_);refine ao (h h' _ hn' ((hs.2 x hxs).trans (bP _ hx₁ rfl)) fun b ob hbx hb=>?_);exact(hs.2 b (aq (ai hb))).trans ((kj _ _ _ _ hbx).trans (ag _ hb))
end
def HO.exc(a C:Addr)(dx:Option Addr):HO:=.ext fun h=>∃o t,h.get? a=some o∧o.cls= .ref C∧o.dict=dx∧o.data= .fields #[.ref t,.none,.none,.none,.bool false,.none]
def rem(H:Hp)(a:Addr):Hp:=fun b=>if b=a then none else H b
section
variable {X:Cx} {pins:List (Addr×Obj)} {σ:St} {H:Hp} {s:ae} {a C f:Addr} {fl:Str} {y:V} {u:Value} {A:aL} {E:Value→ae→Prop}
theorem xgB{dx:Option Addr}{h1 h2:Heap}(q:∃o t,h1.get? a=some o∧o.cls= .ref C∧o.dict=dx∧o.data= .fields #[.ref t,.none,.none,.none,.bool false,.none])(k:∀o,h1.get? a=some o→h2.get? a=some o):
  ∃o t,h2.get? a=some o∧o.cls= .ref C∧o.dict=dx∧o.data= .fields #[.ref t,.none,.none,.none,.bool false,.none]:=by
 obtain⟨o,t,e,r⟩:=q;exact⟨o,t,k o e,r⟩
theorem xlK{Q:Unit→ae→Prop}(I:Inv X pins σ H s)(e:H a=some (HO.exc a C none))(F:xbR X.K C f)(n:xC X.K C fl)(ry:RelV y u)
  (h:∀d s',H d=none→d≠a→Inv X pins σ (upd (upd H d (.xd [(fl,y)])) a (HO.exc a C (some d))) s'→Q () s'):wpAny (model X.prog X.w) A (setAttr (.ref a) fl u) Q E s:=by
 obtain⟨⟨o,t,ea,hc,hd,hdat⟩,_⟩:=I.hok a _ e;have J:W.InstAt s.heap a o C none:=⟨ea,hc,by obtain⟨c1,d1,dt,sl⟩:=o;cases hdat;rfl,by rw[hd];trivial⟩;refine xol I.kIn J hd hdat F n fun h' t' hn hx kp=>?_;have hd0:H s.heap.objs.size=none:=I.hok.fresh (ak _);have nda:s.heap.objs.size≠a:=fun z=>by rw[z,e]at hd0;cases hd0
 have nA:∀b,H b=none→b≠a:=fun b n z=>by rw[z,e]at n;cases n
 have oth:∀b,b≠a→b≠s.heap.objs.size→upd (upd H s.heap.objs.size (.xd [(fl,y)])) a (HO.exc a C (some s.heap.objs.size)) b=H b:=fun b h1 h2=>by rw[xj h1,xj h2]
 have own:∀b u,H b=some u→u≠HO.exc a C none→upd (upd H s.heap.objs.size (.xd [(fl,y)])) a (HO.exc a C (some s.heap.objs.size)) b=some u:=fun b u q nu=>by
  rw[oth b (fun z=>by rw[z,e]at q;exact nu (bp q).symm) (xv q hd0)];exact q
 refine h s.heap.objs.size _ hd0 nda (I.un ⟨fun b o q n _ _=>kp b o (nA b n) q,fun b o q n _ _=>⟨o.slots,kp b o (nA b n) q⟩,fun b o q n _=>?_,fun b o q _=>?_,fun b u q f=>own b u q (by rintro rfl;exact f)⟩ fun b u q=>?_)
 ·rw[oth b (nA b n) (aq (ai q))];exact n
 ·by_cases hb:b=a
  ·subst hb;exact⟨_,hx⟩
  ·exact⟨o,kp b o hb q⟩
 ·by_cases hb:b=a
  ·subst hb;rw[xk]at q;cases q;exact⟨⟨_,t,hx,hc,rfl,hdat⟩,⟨_,hx⟩,fun h1 h2=>xgB⟩
  ·rw[xj hb]at q
   by_cases hb2:b=s.heap.objs.size
   ·subst hb2;rw[xk]at q;cases q;refine⟨_,hn,fun g=>?_⟩;show uo (eJ g [(fl,y)]) (if g=fl then some u else none);rw[bY]
    by_cases q:g=fl
    ·subst q;simp;exact ry
    ·rw[beq_false_of_ne q,if_neg q];exact b0
   ·rw[xj hb2]at q;refine(I.hok b u q).stay (fun c v hc q'=>kp c v ?_ q') (fun c q'=>own _ _ q' (fun z=>by cases z)) fun c u' q' hf=>own _ _ q' (by rintro rfl;exact hf);rcases hc with rfl|hc
    ·exact hb
    ·intro z;rw[z,e]at hc;cases hc
theorem Inv.forget(I:Inv X pins σ H s){φ:Heap→Prop}(e:H a=some (.ext φ)):Inv X pins σ (rem H a) s:=by
 have non:∀b,H b=none→rem H a b=none:=fun b n=>by unfold rem;split<;> first|rfl|exact n
 have kp:∀b u,H b=some u→(∀φ,u≠.ext φ)→rem H a b=some u:=fun b u q n=>by
  unfold rem;rw[if_neg]
  ·exact q
  ·intro z;rw[z,e]at q;exact n φ (bp q).symm
 refine⟨I.ok,I.os,I.bare,⟨I.base.keep,I.base.slot,fun b o q n x=>non b (I.base.free b o q n x),I.base.there,fun b u q f=>kp b u (I.base.fix b u q f) (by rintro φ rfl;exact f)⟩,I.loc,I.cell,non _ I.free,fun x c q=>?_,fun p hp=>?_,fun b u q=>?_,I.len⟩
 ·rcases I.freeC x c q with z|⟨z1,o,z2,z3⟩
  ·exact .inl (non c z)
  ·exact .inr ⟨z1,o,kp c _ z2 (fun φ z=>by cases z),z3⟩
 ·obtain⟨e1,n,r⟩:=I.pin p hp;exact⟨e1,non _ n,r⟩
 ·have q':H b=some u:=by
   unfold rem at q
   split at q
   ·cases q
   ·exact q
  exact(I.hok b u q').stay (fun _ _ _ z=>z) (fun c z=>kp c _ z (fun φ z=>by cases z)) fun c u' z hf=>kp c _ z (by rintro φ rfl;exact hf)
end
def xqt(K:ah)(ta tv:TE)(f:Str):TS:=fun D σ H=>tv σ H fun y H1=>ta σ H1 fun x H2=>∃a C g,x= .ref a∧H2 a=some (HO.exc a C none)∧xbR K C g∧xC K C f∧
 ∀d,H2 d=none→d≠a→D.nx σ (upd (upd H2 d (.xd [(f,y)])) a (HO.exc a C (some d)))
theorem xom{X:Cx}{o value:Expr}{f:Str}{pos pos':Pos}{ta tv:TE}(ha:PE X o ta)(hv:PE X value tv)(hs:gP value (some (.Attribute o f pos')) pos.line X.env=pure false):PS X (.Assign [.Attribute o f pos'] value pos) (xqt X.K ta tv f):=by
 intro pins s σ H D I h;refine gs (thn (hv pins s σ H _ I h) fun u s1 ⟨y,H1,I1,ry,q⟩=>thn (ha pins s1 σ H1 _ I1 q) fun ov s2 ⟨x,H2,I2,rx,a,C,g,ex,ea,F,n,q2⟩=>?_) hs;subst ex;obtain rfl:ov=aT a:=rx;exact xlK I2 ea F n ry fun d s3 n1 n2 I3=>⟨σ,_,I3,q2 d n1 n2⟩
def xhM(C:Addr)(f:Str):Sp:=fun vs H Q _=>∃a v,vs=[.ref a,v]∧H a=some (HO.exc a C none)∧∀d,H d=none→d≠a→Q .non (upd (upd H d (.xd [(f,v)])) a (HO.exc a C (some d)))
section
variable {prog:aG} {w:World} {A:aL} {E:Value→ae→Prop} {h:Heap} {g:Array GenState} {d:Drawn} {t:Nat} {os:OsState}
variable {nm q:Str} {C N:Addr} {bs bm bmB:List Value} {hdct:Bool} {sn:List Str} {sub:List Value} {ab:Bool} {col:Option Bool} {dd:Option Addr} {k0 k1 k2 k3 k5:Option Value} {B newId initId:String}
theorem xgS(F:ExcBaseFacts B newId initId bmB)(T:OwnTail h bmB bm){mN:Str→Option Value}{rest:List Value}{fI:Addr}{oI:Obj}{Q:Fin→ae→Prop}
  (hC:h.get? C=some (f6 nm q C N bs bm hdct sn sub ab col dd k0 k1 k2 k3 k5 newId)) (hn:h.Ns N mN) (hi:mN "__init__"=some (.ref fI))
  (hfI:h.get? fI=some oI) (hfc:oI.cls= .type "function")
  (hq:∀h' e,Heap.MadeExcOf h h' e (.ref C) rest→h.objs.size≤e→
   wpAny (model prog w) A (call (.ref fI) (.ref e::rest)) (fun r s'=>r= .none∧Q (.done (.ret (.ref e))) s') E ⟨h',g,d,t,os⟩) (hrest:rest.length≤aQ:=by size_fits):
  wpAny (model prog w) A (eR.«type.__call__» ⟨.ref C::rest,[]⟩) Q E ⟨h,g,d,t,os⟩:=by
 repeat (first|with_reducible refine eN hC ?_|with_reducible refine wpAny_madeBy_exc hC ?_|wp_step)
 refine codeAny_call_builtin_code (fP _ F.quiet) (wpAny_check_new_subT F T hC ?_);refine codeAny_exc_new_subT F T hC ?_ hrest;show wpAny _ _ _ _ _ _;have hC₁:=ag {cls:=.ref C,data:=.fields #[.ref h.objs.size,.none,.none,.none,.bool false,.none]}
  (ag {cls:=.type "tuple",data:=.seq rest.toArray} hC)
 have hfI₁:=ag {cls:=.ref C,data:=.fields #[.ref h.objs.size,.none,.none,.none,.bool false,.none]}
  (ag {cls:=.type "tuple",data:=.seq rest.toArray} hfI)
 have hn₁:((h.push {cls:=.type "tuple",data:=.seq rest.toArray}).push {cls:=.ref C,data:=.fields #[.ref h.objs.size,.none,.none,.none,.bool false,.none]}).Ns N mN:=
  let⟨o,es,ep,e,r⟩:=hn;⟨o,es,ep,ag _ (ag _ e),r⟩
 have hget:((h.push {cls:=.type "tuple",data:=.seq rest.toArray}).push
   {cls:=.ref C,data:=.fields #[.ref h.objs.size,.none,.none,.none,.bool false,.none]}).get? (h.objs.size+1)=some
   {cls:=.ref C,data:=.fields #[.ref h.objs.size,.none,.none,.none,.bool false,.none]}:=by heap_get
 have hcC:(aT C::bm).contains (.ref C)=true:=by simp
 have T₁:=T.keeps (h':=(h.push {cls:=.type "tuple",data:=.seq rest.toArray}).push {cls:=.ref C,data:=.fields #[.ref h.objs.size,.none,.none,.none,.bool false,.none]})
  fun b o e=>ag _ (ag _ e)
 unfold isInstance
 repeat (first|with_reducible refine eN hget ?_|(with_reducible refine wpAny_isSubtype_exc hC₁ ?_;rw[hcC])|wp_step)
 show wpAny _ _ (gy (.ref C) _) _ _ _;refine wpAny_typeLookup_tail hC₁ hn₁ T₁ F.mroIs F.init.lookup ?_;rw[hi];refine bA (aa ?_);unfold bindSpecial;refine aa (gC (T:="function") ⟨_,hfI₁,hfc⟩ ?_);rw[if_pos (by decide)];refine ao (aa (aK (hq _ (h.objs.size+1) ⟨fun b o hb=>ag _ (ag _ hb),eZ (cW _),h.objs.size,hget,eZ (ak _),?_⟩ (cW _)) (fun r s' hr=>?_) fun _ _ x=>x))
 ·exact ag _ (Heap.get?_push_at rfl rfl)
 ·obtain⟨rfl,hQ⟩:=hr
  wp_walk
  exact hQ
theorem xmW(F:ExcBaseFacts B newId initId bmB)(T:OwnTail h bmB bm){mN:Str→Option Value}{rest:List Value}{fI:Addr}{oI:Obj}{Q:Value→ae→Prop}
  (hC:h.get? C=some (f6 nm q C N bs bm hdct sn sub ab col dd k0 k1 k2 k3 k5 newId)) (hn:h.Ns N mN) (hi:mN "__init__"=some (.ref fI))
  (hfI:h.get? fI=some oI) (hfc:oI.cls= .type "function")
  (hq:∀h' e,Heap.MadeExcOf h h' e (.ref C) rest→h.objs.size≤e→
   wpAny (model prog w) (A.under (.builtin "type.__call__" ⟨.ref C::rest,[]⟩)) (call (.ref fI) (.ref e::rest)) (fun r s'=>r= .none∧Q (.ref e) s') E ⟨h',g,d,t,os⟩) (hrest:rest.length≤aQ:=by size_fits):
  wpAny (model prog w) A (call (.ref C) rest) Q E ⟨h,g,d,t,os⟩:=by
 have f1:=tc_lookup;have f2:=tc_bind (.ref C);have hT:(⟨h,g,d,t,os⟩:ae).TypeIs (.ref C) "type":=⟨_,hC,rfl⟩;refine dO (codeAny_of_tree ?_);show wpAny _ _ (callAny (.ref C) _) _ _ _
 repeat (any_goals (first|assumption|with_reducible refine eN hC ?_|wp_step))
 refine⟨rfl,?_⟩;refine codeAny_call_builtin_at (fP _ (by decide+kernel)) entry_typeCall (wpAny_check_type_call_sub hC (xgS (hrest:=hrest) F T hC hn hi hfI hfc fun h' e hm hl=>?_));exact hq h' e hm hl
end
section
variable {M:Model} {A:aL} {E:Value→ae→Prop} {env:Env}
variable {nm q:Str} {C N:Addr} {bs bm:List Value} {hdct:Bool} {sn:List Str} {sub:List Value} {ab:Bool} {col:Option Bool} {dd:Option Addr} {k0 k1 k2 k3 k5:Option Value} {newId:String}
theorem xeT{s:ae}{x:Sem Value}{Q:Flow→ae→Prop}(hbase:bm.contains (.type "BaseException")=true)(hh:A.handled=none)
  (h:wpAny M A x (fun v s₁=>∃e t od sl,v= .ref e∧s₁.heap.get? C=some (f6 nm q C N bs bm hdct sn sub ab col dd k0 k1 k2 k3 k5 newId)∧
   s₁.heap.get? e=some {cls:=.ref C,dict:=od,data:=.fields #[.ref t,.none,.none,.none,.bool false,.none],slots:=sl}∧E (.ref e) s₁) E s):
  wpAny M A (raiseStmt env (some x) none) Q E s:=by
 have hcB:(aT C::bm).contains (.type "BaseException")=true:=by rw[List.contains_cons,hbase,Bool.or_true]
 unfold raiseStmt;refine aa (aK h (fun v s₁ h₁=>?_) fun _ _ x=>x);obtain⟨e,t,od,sl,rfl,hC,he,hE⟩:=h₁;obtain⟨hp,g,d,tk,os⟩:=s₁
 repeat (first|with_reducible refine eN he ?_|with_reducible refine eN hC ?_|(with_reducible refine wpAny_isSubtype_exc hC ?_;rw[hcB])|wp_step)
 exact wpAny_raiseNew_none hh hE
end
section
variable {prog:aG} {w:World} {A:aL} {E:Value→ae→Prop} {s:ae} {env:Env}
variable {nm q:Str} {C N:Addr} {bs bm:List Value} {hdct:Bool} {sn:List Str} {sub:List Value} {ab:Bool} {col:Option Bool} {dd:Option Addr} {k0 k1 k2 k3 k5:Option Value} {newId:String}
theorem xkh{x:Str}{np cpos pos:Pos}{args:List Expr}{Q:Flow→ae→Prop}
  (hbase:bm.contains (.type "BaseException")=true) (hh:A.handled=none) (hplain:(bN cpos (aI args env)).any (·.1)=false)
  (h:wpAny (model prog w) A (eval (.Name x np) env) (fun f s₁=>f= .ref C∧wpAny (model prog w) A (evalArgs (.ref C) true (bN cpos (aI args env)) [])
   (fun a s₂=>a.kw=[]∧s₂.heap.get? C=some (f6 nm q C N bs bm hdct sn sub ab col dd k0 k1 k2 k3 k5 newId)∧
    wpAny (model prog w) A (call (.ref C) a.pos) (fun v s₃=>∃e t od sl,v= .ref e∧s₃.heap.get? C=some (f6 nm q C N bs bm hdct sn sub ab col dd k0 k1 k2 k3 k5 newId)∧
     s₃.heap.get? e=some {cls:=.ref C,dict:=od,data:=.fields #[.ref t,.none,.none,.none,.bool false,.none],slots:=sl}∧E (.ref e) s₃) E s₂) E s₁) E s):
  wpAny (model prog w) A (exec (.Raise (some (.Call (.Name x np) args [] cpos)) none pos) env) Q E s:=by
 rw[arm_exec_Raise]
 first
  |refine aa (dw (xeT (C:=C) (nm:=nm) (q:=q) (N:=N) (bs:=bs) (bm:=bm) (hdct:=hdct) (sn:=sn) (sub:=sub) (ab:=ab) (col:=col) (dd:=dd) (k0:=k0) (k1:=k1) (k2:=k2) (k3:=k3) (k5:=k5) (newId:=newId) hbase hh (aa (aK (wpAny_Call_ofName (aK h (fun f s₁ h₁=>?_) fun _ _ x=>x)) (fun v s₃ h₃=>aa (dw (ao h₃))) fun _ _ x=>x))))
  |(simp only[evalOpt,kY];refine aa (dw (xeT (C:=C) (nm:=nm) (q:=q) (N:=N) (bs:=bs) (bm:=bm) (hdct:=hdct) (sn:=sn) (sub:=sub) (ab:=ab) (col:=col) (dd:=dd) (k0:=k0) (k1:=k1) (k2:=k2) (k3:=k3) (k5:=k5) (newId:=newId) hbase hh (aa (aK (wpAny_Call_ofName (aK h (fun f s₁ h₁=>?_) fun _ _ x=>x)) (fun v s₃ h₃=>aa (dw (ao h₃))) fun _ _ x=>x)))))
 obtain⟨rfl,h₁⟩:=h₁;unfold gc;refine aa (bA (aK h₁ (fun a s₂ h₂=>aa (dw ?_)) fun _ _ x=>x));obtain⟨apos,akw⟩:=a;obtain⟨hkw,hC,h₂⟩:=h₂;obtain rfl:akw=[]:=hkw;obtain⟨hp,g,d,tk,os⟩:=s₂;simp only[hplain];refine aa (wpAny_keeperOf_exc hC ?_);refine aa (aK h₂ (fun v s₃ h₃=>aa (bA (wpAny_point (ao h₃)))) fun _ _ x=>x)
end
theorem xki{K:ah}{h:Heap}{N:Addr}{mg:Str→Option Value}{n:Str}{v:Value}(X:K.In h)(G:h.Ns N mg)(e:iY K N n=some (some v)):mg n=some v:=by
 obtain⟨o,es,ep,ho,hd,_,hf⟩:=G;unfold iY at e
 split at e
 ·rename_i c d es' n' sl q;have:=X _ _ q;rw[ho]at this;cases this;cases hd
  split at e
  ·rename_i en he;cases e;rw[←hf];unfold nsFind findBy;rw[←ku,he];rfl
  ·split at e<;> cases e
 ·cases e
theorem xbR.obj{K:ah}{C f:Addr}{h:Heap}(F:xbR K C f)(X:K.In h):∃bm N nm qn bs hdct sn sub ab col dd k0 k1 k2 k3 k5,
  h.get? C=some (f6 nm qn C N bs bm hdct sn sub ab col dd k0 k1 k2 k3 k5 "ValueError.__new__")∧h.Ns N (h.nsMap N)∧h.nsMap N "__init__"=some (.ref f)∧OwnTail h xkf bm:=by
 have q:=F.xi;unfold xnL at q
 split at q
 ·rename_i dd cd sl ho
  split at q
  ·rename_i C' bm k0 k1 k2 k3 n k5 hm hs;simp only[dW,beq_iff_eq,Bool.not_eq_true']at q;obtain⟨⟨⟨⟨⟨rfl,rfl⟩,hdel⟩,ht⟩,hok⟩,hni⟩:=q;obtain⟨nm,bs,mro,ns,qn,hd,sn,sub,ab,col,del⟩:=cd;obtain⟨l⟩:=sl;dsimp only at hm hdel hok hni hs;subst hm hdel hs;have N1:h.Ns ns (h.nsMap ns):=.of_isNs (W.isNs_of_in X hok);exact⟨bm,ns,nm,qn,bs,hd,sn,sub,ab,col,dd,k0,k1,k2,k3,k5,X _ _ ho,N1,xki X N1 hni,W.tail_of_in X ht⟩
  ·cases q
 ·cases q
section
variable {X:Cx} {EE:EEs}
def xon(C:Addr)(f:Str)(EE:EEs)(t:TA):TS:=fun _ σ H=>t σ H fun vs H1=>∃v,vs=[v]∧∀d,H1 d=none→EE σ (.ref C) (some d) (upd H1 d (.xd [(f,v)]))
theorem xlL{C g:Addr}{fd:aw}{ps:List Str}{fl x:Str}{k:Nat}{np cpos pos:Pos}{e:Expr}{t:TA}(o:Own X)(hc:X.calm=true)(q:xbR X.K C g)(F:xy X.prog X.w X.K X.mg X.base CX0 k g fd ps (xhM C fl))(hr:xI (k+1) X.A)(hb:Binds X.K fd ps [])
  (hg:Gl X x) (hm:X.mg x=some (.ref C)) (ha:PA (X.wish (XE X EE)) [e] t)
  (hdb:(x==("__debug__":Str))=false:=by decide) (he:aI [e] X.env=(false,eval e X.env)::aI [] X.env:=by rfl) (hpl:(bN cpos (aI [e] X.env)).any (·.1)=false:=by rfl):
  PS (X.wish (XE X EE)) (.Raise (some (.Call (.Name x np) [e] [] cpos)) none pos) (xon C fl EE t):=by
 intro pins s σ H D I h;obtain⟨bm,N,nm,qn,bs,hdct,sn,sub,ab,col,dd,k0,k1,k2,k3,k5,hC,hN,hni,TL⟩:=q.obj I.ok.mod.kin;refine xkh (C:=C) (N:=N) (bm:=bm) (nm:=nm) (q:=qn) (bs:=bs) (hdct:=hdct) (sn:=sn) (sub:=sub) (ab:=ab) (col:=col) (dd:=dd) (k0:=k0) (k1:=k1) (k2:=k2) (k3:=k3) (k5:=k5) (newId:="ValueError.__new__") (TL.hasType PySem.F.excBase_ValueError.hasBase) (I.ok.hd hc) hpl (vD I hg hm ⟨rfl,?_⟩ hdb);have ha':=ha cpos pins s σ H _ I h;rw[he]at ha';show wpAny (model X.prog X.w) X.A (evalArgs (.ref C) true (bN cpos (aI [e] X.env)) []) _ _ s;rw[he];refine PySem.evalArgs_kw (keywords:=[]) rfl ?_;refine thn ha' fun us s1 ⟨vs,H1,I1,r,v,hv,y⟩=>?_;subst hv;have hl:us.length=1:=r.length.symm;refine ao ⟨rfl,I1.bk _ _ hC,?_⟩;obtain⟨hh,gg,dr,tt,oss⟩:=s1;have hfn:W.typeIn X.K (.ref g)=some (.type "function"):=beq_iff_eq.mp q.fn;obtain⟨og,hog,hgc⟩:=bD.mp (show(X.K.lookup g).map (·.cls)=_ from hfn);refine xmW PySem.F.excBase_ValueError (TL.keeps I1.bk) (I1.bk _ _ hC) (hN.keeps I1.bk) hni (I1.kIn _ _ hog) hgc (fun h' a mk hsz=>?_) (by show us.length≤aQ;rw[hl];decide);obtain⟨t0,ea,_,_⟩:=mk.there;have nu:=xqs o I1.unwish mk.new;have I2:=I1.laid (a:=a) (o:=HO.exc a C none) (t':=tt) mk.keeps hsz ⟨⟨_,t0,ea,rfl,rfl,rfl⟩,⟨_,ea⟩,fun h1 h2=>xgB⟩;have hl2:(aT a::us++[]).length=ps.length:=by
  have:=F.len [.ref a,v] (upd H1 a (HO.exc a C none)) (fun _ _=>True) E0 ⟨a,v,rfl,xk,fun _ _ _=>trivial⟩;rw[←this];simp[hl]
 refine dO (cT (F.run _ X.stack _ _ ⟨aT a::us,[]⟩ (aT a::us) [.ref a,v] (fun vv H3=>vv= .non∧∃d,H1 d=none∧d≠a∧H3=upd (upd (upd H1 a (HO.exc a C none)) d (.xd [(fl,v)])) a (HO.exc a C (some d))) E0 (hr.make C us [])
  (I2.env0.make C us []) (by have:=hb _ (aT a::us) I2.kIn hl2;rwa [dI]at this) (.cons rfl r) ⟨a,v,rfl,xk,fun d n1 n2=>⟨rfl,d,by rwa [xj n2]at n1,n2,rfl⟩⟩) fun rr s' hq'=>?_)
 cases rr with
 |error e=>exact bo hq'
 |ok fl'=>
  cases fl' with
  |ret u=>
   obtain⟨vv,H',I3,rv,rfl,d,n1,n2,rfl⟩:=I2.after hq';obtain rfl:u=a8:=rv;obtain⟨⟨oe,t1,ea1,oc,od,odat⟩,_⟩:=I3.hok a _ xk;have hrem:rem (upd (upd (upd H1 a (HO.exc a C none)) d (.xd [(fl,v)])) a (HO.exc a C (some d))) a=upd H1 d (.xd [(fl,v)]):=by
    funext b
    unfold rem
    by_cases hb:b=a
    ·rw[if_pos hb,hb,xj (aR n2)];exact nu.1.symm
    ·rw[if_neg hb,xj hb]
     by_cases hd:b=d
     ·rw[hd,xk,xk]
     ·rw[xj hd,xj hd,xj hb]
   have I4:=I3.unwish.forget (a:=a) xk;rw[hrem]at I4;refine⟨rfl,a,t1,some d,oe.slots,rfl,I3.bk _ _ hC,?_,a,.ref C,some d,σ,_,rfl,I4.nopins,.inl ⟨oe,_,.ref t1,ea1,oc,od,odat,rfl,rfl,?_⟩,y d n1⟩
   ·obtain⟨c1,d1,dt1,sl1⟩:=oe;cases oc;cases od;cases odat;exact ea1
   ·exact⟨by rw[xj (aR n2)];exact nu.1,nu.2⟩
  |next=>exact bo hq'
  |brk=>exact bo hq'
  |cont=>exact bo hq'
end
end L2
namespace L2
open PySem PySem.Spec PyProof.Rows PySem.W
section
variable {prog:aG} {w:World} {A:aL} {E:Value→ae→Prop} {s:ae} {K:Frag} {x D:Addr} {ox:Obj} {od:Obj}
end
section
variable {X:Cx}
end
section
variable {X:Cx}
end
section
variable {P:aG} {w:World} {K:ah} {mg:Str→Option Value} {base:Heap}
theorem Fun.okXC{x qual:Str}{st:Stmt}{f c:Addr}{fd:aw}{N ps:List Str}{k:Nat}{sp:Sp}(F:Fun K x qual st f fd)(hc:fd.code= .ref c)(S:xo N ps (xh st))(len:∀vs H Q E,sp vs H Q E→vs.length=ps.length)
  (hbody:∀(A:aL) (outer:List Env) (s:ae) (H:Hp) (vs:List V) (Q:VK) (E:XK),xI k (A.deeper (eP qual (xh st) s.heap.objs.size f (.ref c)))→sp vs H Q E→
   ∃t,PSs (cxX P w K mg base N qual (xh st) f (.ref c) A outer s H E) (xD st) t∧t {nx:=fun _ H'=>Q .non H',rt:=Q} (start N vs) H):xy P w K mg base (CXE P w) (k+1) f fd ps sp:=by
 obtain⟨oc,od,kV,doc,pm,an,cdv,ct,osl,rfl,lk,hcd⟩:=F.ex;obtain rfl:cdv= .ref c:=hc;refine xhd lk hcd S len fun A outer s H vs Q E hr hsp=>?_;obtain⟨t,h,q⟩:=hbody A outer s H vs Q E hr hsp;refine⟨t,h.wished fun e s' ⟨a,cls,dx,σ,H',he,I,Fl,z⟩=>?_,q⟩;subst he;refine xbQ xhK I.ok.frames I Fl fun s2 I2 F2=>?_;obtain⟨oe,vs,a0,T,oT,ts,he,hc,hx,hd,h0,h1,nT,hT,hdT,h3,hn,hnT⟩:=F2;exact⟨a,cls,dx,H',oe,vs,a0,T,oT,ts,rfl,I2.os,I2.bare,I2.base,I2.hok,he,hc,hx,hd,h0,h1,nT,hT,hdT,h3,hn.1,hn.2.1,hnT.1,hnT.2.1,z⟩
end
section
variable {X:Cx} {EE:EEs} {k:Nat} {f C:Addr} {fd:aw} {ps:List Str} {sp:Sp} {dvs:List V} {ds:List Value} {x m:Str} {p pos apos:Pos} {e o:Expr} {es:List Expr} {ta:TE} {t:TA}
def xlM(C:Addr)(m:Str)(sp:Sp)(dvs:List V)(EE:EEs)(ta:TE)(t:TA):TE:=fun σ H Q=>ta σ H fun x H1=>∃a dx fs,x= .ref a∧H1 a=some (.ins C dx fs)∧fs.lookup m=none∧
 t σ H1 fun vs H2=>sp (x::(vs++dvs)) H2 Q (EE σ)
theorem uK{pl:Sem Bool}(ow:Own X)(he:PE (X.wish (XE X EE)) o ta)(c:Cls X.K C)(hm:Meth X.K C m f)(F:xy X.prog X.w X.K X.mg X.base (CXE X.prog X.w) k f fd ps sp)(hr:xI k X.A)(hb:Binds X.K fd ps ds)(hd:Vals dvs ds)(ha:PA (X.wish (XE X EE)) (e::es) t)
  (hst:aI (e::es) X.env=(false,eval e X.env)::aI es X.env:=by rfl) (hpl:(bN pos (aI es X.env)).any (·.1)=false:=by rfl)
  (ht:eval (.Call (.Attribute o m apos) (e::es) [] pos) X.env=(do
   let ov ←eval o X.env
   ia apos.atName
   let(f,first) ←dU [ov] (gq ov m pl)
   gc pos f first (bN pos (aI (e::es) X.env)) (gL pos (fj [] X.env))):=by rfl):
  PE (X.wish (XE X EE)) (.Call (.Attribute o m apos) (e::es) [] pos) (xlM C m sp dvs EE ta t):=by
 intro pins s σ H Q I h;refine fB (pl:=pl) (thn (he pins s σ H _ I h) fun u s1 ⟨x,H1,I1,rx,a,dx,fs,ex,ea,l,q⟩=>?_) ht;subst ex;obtain rfl:u=aT a:=rx;refine jI I1 ea c hm l ?_;refine fL (first:=[.ref a]) (h₀:=X.base) I.ok.mod.kin hm.kp (thn (ha pos pins s1 σ H1 _ I1 q) fun us s2 ⟨vs,H2,I2,r,q2⟩=>⟨I2.kIn,?_⟩) hst hpl;exact xfO (us:=.ref a::us) (vs:=.ref a::vs) ow F hr hb hd I2 (.cons rfl r) q2
theorem xlN{pl:Sem Bool}(ow:Own X)(he:PE (X.wish (XE X EE)) o ta)(c:Cls X.K C)(hm:Meth X.K C m f)(F:xy X.prog X.w X.K X.mg X.base (CXE X.prog X.w) k f fd ps sp)(hr:xI k X.A)(hb:Binds X.K fd ps ds)(hd:Vals dvs ds)
  (ht:eval (.Call (.Attribute o m apos) [] [] pos) X.env=(do
   let ov ←eval o X.env
   ia apos.atName
   let(f,first) ←dU [ov] (gq ov m pl)
   gc pos f first (bN pos (aI [] X.env)) (gL pos (fj [] X.env))):=by rfl):
  PE (X.wish (XE X EE)) (.Call (.Attribute o m apos) [] [] pos) (xlM C m sp dvs EE ta jU):=by
 intro pins s σ H Q I h;refine fB (pl:=pl) (thn (he pins s σ H _ I h) fun u s1 ⟨x,H1,I1,rx,a,dx,fs,ex,ea,l,q⟩=>?_) ht;subst ex;obtain rfl:u=aT a:=rx;refine jI I1 ea c hm l ?_;exact W.callWith_K0 (first:=[.ref a]) I1.kIn hm.kp (xfO (us:=[.ref a]) (vs:=[.ref a]) ow F hr hb hd I1 (.cons rfl .nil) q)
end
def FnV(P:aG)(w:World)(K:ah)(mg:Str→Option Value)(base:Heap)(k:Nat)(H:Hp)(f:Addr)(vs:List V)(Q:VK):Prop:=
 ∃nm qual params body scope ps sp fv,yR P w K mg base CX0 k nm qual params body scope ps sp∧xV H f nm qual params body scope fv∧sp fv vs H Q E0
section
variable {X:Cx} {k:Nat} {x:Str} {p pos:Pos} {e:Expr} {es:List Expr} {t:TA}
def xpG(X:Cx)(k:Nat)(i:Nat)(t:TA):TE:=fun σ H Q=>∃f,σ[i]? =some (some (.ref f))∧(∃nm qual params body scope fv,xV H f nm qual params body scope fv)∧t σ H fun vs H1=>FnV X.prog X.w X.K X.mg X.base k H1 f vs Q
theorem xmX(i:Nat)(hr:xI k X.A)(ha:PA X (e::es) t)(hN:X.N[i]? =some x:=by rfl)(hv:Vis X.env.scope x:=by first|exact aM rfl|exact dk (aM rfl)|exact dk (dk rfl))(hd:(x==("__debug__":Str))=false:=by decide)
  (hcd:(x==("__classdict__":Str))=false:=by decide) (he:aI (e::es) X.env=(false,eval e X.env)::aI es X.env:=by rfl) (hpl:(bN pos (aI es X.env)).any (·.1)=false:=by rfl):
  PE X (.Call (.Name x p) (e::es) [] pos) (xpG X k i t):=by
 intro pins s σ H Q I h;obtain⟨f,e1,⟨_,_,_,_,_,_,hc0⟩,h⟩:=h;refine bH (thn (xhm (pos:=p) hN hv hd hcd pins s σ H (fun v H1=>v= .ref f∧H1=H) I ⟨_,e1,rfl,rfl⟩) fun u s1 ⟨v,H1,I1,r,q1,q2⟩=>?_);subst q1;subst q2;cases (show u=aT f from r);refine W.callWith_F (hc0.fn I1) (thn (ha pos pins s1 σ H1 _ I1 h) fun us s2 ⟨vs,H2,I2,r2,q⟩=>?_) he hpl;obtain⟨nm,qual,params,body,scope,ps,sp,fv,F,hc,q⟩:=q;exact⟨hc.fn I2,xjk F hr xp I2 hc r2 q⟩
end
end L2
namespace L2
open PySem PySem.Spec PyProof.Rows
def xqu:Stmt→List Stmt
 | .If _ b _ _=>b
 |_=>[]
def xpH:Stmt→List Stmt
 | .While _ b _ _=>b
 |_=>[]
end L2
namespace PySem
open Sem (wp)
open AutoSeq1 (wpAny_loadPart')
abbrev kwS(k:Int)(t:Tok):List (Str×Value):=[(cg "start",.int k t)]
theorem xoo(a:Value)(k:Int)(t:Tok):checkTypeCall "enumerate" ⟨[a],kwS k t⟩=pure ():=by kernel_rfl
theorem xpI(a:Value)(k:Int)(t:Tok):checkBuiltinCall "enumerate.__new__" ⟨[.type "enumerate",a],kwS k t⟩=pure ():=by kernel_rfl
theorem xop(x a:Value)(k:Int)(t:Tok):argsOk "object.__init__" ⟨[x,a],kwS k t⟩:=by
 unfold argsOk;rw[signature?_of (id:="object.__init__") (n:="__tini__".toList) (o:="tcejbo".toList) (by kernel_rfl) F.owner_object]
 kernel_rfl
theorem xoq(l:Addr)(items:Array Value)(n:Nat)(dct:Option Addr)(sl:Array (Option Value))(k:Int)(t:Tok)(hf:eV k=true):
  Meets (eR.«enumerate.__new__» ⟨[.type "enumerate",.ref l],kwS k t⟩) (fun _ R s=>s.heap.get? l=some ⟨.type "list",dct,.seq items n,sl⟩∧
   R (.ok (.ret (.ref (s.heap.objs.size+1))))
    {s with heap:=(s.heap.push {cls:=.type "list_iterator",data:=.fields #[.ref l,.int 0 0]}).push {cls:=.type "enumerate",data:=.fields #[.none,.bool false,.ref s.heap.objs.size,bX k,.none,.none]}}):=by
 refine .of_wp fun prog w A R s h=>?_;obtain⟨hl,h⟩:=h;obtain⟨hp,g,d,tk,os⟩:=s;have hz:(hp.push {cls:=.type "list_iterator",data:=.fields #[.ref l,.int 0 0]}).objs.size=hp.objs.size+1:=cH ..;have hsub:=sub_enumerate;have hL:Heap.IsList (Shared.heap ⟨hp,g,d,tk,os⟩) l items:=⟨_,hl,rfl,n,rfl⟩
 wp_walk using bF hl
 refine wpAny_stack_any fun st=>ao ?_
 split
 ·rename_i c _ _ _ _ _;cases (c==cF "enumerate")<;>
   (wp_walk using bF hl,dq hL;exact⟨_,rfl,by rw[hz];exact h⟩)
 ·wp_walk using bF hl,dq hL
  exact⟨_,rfl,by rw[hz];exact h⟩
theorem xlO{T newId:String}{x y:Value}{kw:List (Str×Value)}(hl:gy (.type T) "__init__"=pure (some (.builtin "object.__init__")))(hm:Bind.madeBy (.type T)=pure (some newId))(hne:(some newId != some "object.__new__")=true):
  Meets (eR.«object.__init__» ⟨[x,y],kw⟩) (fun _ R s=>s.TypeIs x T∧R (.ok (.ret .none)) s):=
 .of_wp fun prog w A R s h=>by
  obtain⟨hT,h⟩:=h
  repeat (any_goals (first|assumption|wp_step))
  exact⟨_,rfl,h⟩
section
variable {prog:aG} {w:World} {A:aL} {E:Value→ae→Prop} {s:ae}
theorem xkj{l:Addr}{items:Array Value}{k:Int}{t:Tok}{Q:Value→ae→Prop}(hL:s.heap.IsList l items)(hf:eV k=true)
  (h:∀h',IsEnum h' (s.heap.objs.size+1) s.heap.objs.size k .none→h'.IsListIter s.heap.objs.size l 0→(∀b o,s.heap.get? b=some o→h'.get? b=some o)→Q (.ref (s.heap.objs.size+1)) {s with heap:=h'}):
  wpAny (model prog w) A (call (.type "enumerate") [.ref l] (kwS k t)) Q E s:=by
 obtain⟨⟨c0,dct,dt,sl⟩,hl,hc,n,hd⟩:=hL;obtain rfl:c0= .type "list":=hc;obtain rfl:dt= .seq items n:=hd;have ft:=F.called_enumerate;obtain⟨c,tl,hmro⟩:=ft.mro;have hct:=xoo (.ref l) k t;have hmade:=ft.made;have hsub:=ft.sub;have h1:=ft.notType;have h2:=ft.canCreate;have hz:(s.heap.push {cls:=.type "list_iterator",data:=.fields #[.ref l,.int 0 0]}).objs.size=s.heap.objs.size+1:=cH ..;have he:IsEnum ((s.heap.push {cls:=.type "list_iterator",data:=.fields #[.ref l,.int 0 0]}).push {cls:=.type "enumerate",data:=.fields #[.none,.bool false,.ref s.heap.objs.size,bX k,.none,.none]}) (s.heap.objs.size+1) s.heap.objs.size k .none:=by
  rw[←hz];exact aA _ rfl
 have fin:=h _ he ⟨_,ag _ (aA _ rfl),rfl,rfl⟩ fun b o x=>ag _ (ag _ x);refine dO (codeAny_of_tree (ao ⟨fP _ (by decide+kernel),cO F.entry_type_call ?_⟩));rw[Around.under_plain (weight_type_call_type "enumerate" [.ref l] (kwS k t)) (units_type_call_type "enumerate" [.ref l] (kwS k t))]
 repeat (any_goals (first|assumption|wp_step))
 refine cT (gE ft.plain F.entry_enumerate_new (iL (xpI (.ref l) k t) (xoq l items n dct sl k t hf prog w A.in1 (wants (fun obj s₁=>s₁.TypeIs obj "enumerate"∧Q obj s₁) E) s ⟨hl,⟨_,he,rfl⟩,fin⟩))) fun r s₁ hr=>?_;rcases r with e|fl
 ·exact hr
 cases fl with
 |ret obj=>
  obtain⟨hT,hq⟩:=(show s₁.TypeIs obj "enumerate"∧Q obj s₁ from hr);have hli:=ft.init.lookup;have hbi:=ft.init.bind obj
  repeat (any_goals (first|assumption|wp_step))
  refine cT (gE ft.init.plain F.entry_object_init (ft.init.check _ _ _ _ _ _ _ _ hT (xop obj (.ref l) k t) (xlO (T:="enumerate") (kw:=kwS k t) ft.init.lookup ft.made (by decide) prog w A.in1 (wants (fun r s₂=>r= .none∧Q obj s₂) E) s₁ ⟨hT,rfl,hq⟩))) fun r₂ s₂ h3=>?_;rcases r₂ with e|f2
  ·exact h3
  cases f2 with
  |ret r=>
   obtain⟨rfl,h4⟩:=(show r= .none∧Q obj s₂ from h3)
   repeat (any_goals (first|assumption|wp_step))
  |_=>exact h3.elim
 |_=>exact hr.elim
end
end PySem
namespace L2
open PySem PySem.Spec PyProof.Rows
theorem xiN{prog:aG}{w:World}{A:aL}{it:Addr}{fp:List Addr}{n:Nat}{Pv:Nat→Value→Prop}{St:Nat→Heap→Prop}(D:Draws prog w A it fp n Pv St)(m:Nat):
  Draws prog w A it fp (m+n) (fun i v=>m≤i∧Pv (i - m) v) (fun i h=>m≤i∧St (i - m) h) where
 live:=fun _ _ st=>D.live _ _ st.2
 frame:=fun _ _ _ st hk=>⟨st.1,D.frame _ _ _ st.2 hk⟩
 item:=fun i s Q E hi st hQ=>D.item (i - m) s Q E (by lia) st.2 fun x h' tk hp hs hb=>hQ x h' tk ⟨st.1,hp⟩ ⟨by lia,by rw[show i+1 - m=i - m+1 by lia];exact hs⟩ hb
 done:=fun s Q E st hE=>D.done s Q E (by have:=st.2;rwa [show m+n - m=n by lia]at this) hE
section
variable {M:Model} {A:aL} {E:Value→ae→Prop} {s:ae}
theorem xiO{pos:Pos}{T:String}{args:List (Bool×Sem Value)}{kws:List (Option Str×Sem Value)}{Q:Value→ae→Prop}(hp:args.any (·.1)=false)(hk:kws.any (·.1.isNone)=false)
  (h:wpAny M A (evalArgs (.type T) true args kws) (fun a s₁=>wpAny M A (call (.type T) a.pos a.kw) Q E s₁) E s):wpAny M A (gc pos (.type T) [] args kws) Q E s:=by
 unfold gc;refine aa (bA ?_);refine aK h (fun a s₁ h₁=>?_) fun _ _ x=>x;refine aa (dw ?_);simp only[hp,hk,Bool.or_false];refine aa (ao (aa ?_));refine aK h₁ (fun r s₂ hr=>?_) fun _ _ x=>x;exact aa (bA (wpAny_point (ao hr)))
end
def xmY(K:ah)(a:Addr)(m:Nat):It:=
 ⟨fun i H=>∃xs x,SqL K H a xs∧xs[i]? =some x,fun i H v H'=>∃T x,v= .ref T∧H T=none∧H'=upd H T (.tup [.int ((m+i:Nat):Int),x])∧∀xs,SqL K H a xs→xs[i]? =some x,fun i H=>∃xs,SqL K H a xs∧xs.length≤i⟩
theorem xkk{P:aG}{w:World}{K:ah}{es:List Expr}{k:Nat}{pos:Pos}(a e it:Addr)(m:Nat)(hne:e≠it):Turn P w K (.Tuple es k pos) (xmY K a m) [e,it] e (fun i h=>(∃old,IsEnum h e it ((m+i:Nat):Int) old)∧h.IsListIter it a i) where
 mem:=by simp
 obj:=fun i h st b hb=>by
  obtain⟨⟨old,he⟩,⟨o,e1,c,d⟩⟩:=st;rcases ar.mp hb with z|z
  ·subst z;exact⟨_,he,fun v z=>by cases z⟩
  ·rw[aE.mp z];exact⟨o,e1,fun v z=>by rw[d]at z;cases z⟩
 keep:=fun i h h' st kk=>by
  obtain⟨⟨old,he⟩,hit⟩:=st;exact⟨⟨old,kk e (by simp) _ he⟩,hit.at fun o x=>kk it (by simp) o x⟩
 item:=by
  intro X hP hw hK hc i pins s σ H E I hf st hg;subst hP hw hK;obtain⟨xs,x,hq,hx⟩:=hg;obtain⟨its,rv,p,hz⟩:=I.list hq;obtain⟨u,hu,ru⟩:=rv.get hx;obtain⟨⟨old,he⟩,hit⟩:=st;have he':=ai he;have hi':it<s.heap.objs.size:=by obtain⟨o,q,_⟩:=hit;exact ai q
  have hil:i<its.length:=by
   have:=(aH.mp hu).1;exact this
  have pl:=p.isList;have hai:a≠it:=fun z=>by
   obtain⟨o1,q1,c1,_⟩:=pl;obtain⟨o2,q2,c2,_⟩:=hit;rw[z,q2]at q1;cases q1;rw[c2]at c1;simp at c1
  have hae:e≠a:=fun z=>by
   obtain⟨o1,q1,c1,_⟩:=pl;rw[←z,he]at q1;cases q1;simp at c1
  have D:=xiN (Draws.list (prog:=X.prog) (w:=X.w) (A:=X.A.in1) (I.ok.hd hc) it a hai its.toArray) m;refine wpAny_pyNext_enum_itemD D he ⟨by lia,by rw[show m+i - m=i by lia];exact⟨hit,pl⟩⟩ (by simp;lia) hne (by simp[hne,hae]) fun y h' tk hy heo hst hT hsz hk=>?_;have ey:y=u:=by
   have h1:=hy.2;rw[show m+i - m=i by lia]at h1;have h2:its.toArray[i]? =some u:=by simpa using hu
   rw[h2]at h1;exact(bp h1).symm
  subst ey;have hit':=hst.2.1;rw[show m+i+1 - m=i+1 by lia]at hit';refine⟨_,rfl,gW (s:={s with heap:=h',toks:=tk+1}) heo fun h2 he2 hs2=>?_⟩;have hT2:h2.get? s.heap.objs.size=some {cls:=.type "tuple",data:=.seq #[.int ((m+i:Nat):Int) tk,y]}:=(hs2.2 _ (dC he')).trans hT;have I2:Inv X pins σ (upd H s.heap.objs.size (.tup [.int ((m+i:Nat):Int),x])) {s with heap:=h2,toks:=tk+1}:=by
   refine I.turnLaid (ch:=[e,it]) (fun b o hb q=>?_) (ak _) ⟨by simp[ax],[.int ((m+i:Nat):Int) tk,y],.cons ⟨_,rfl⟩ (.cons ru .nil),⟨_,hT2,rfl,_,rfl⟩⟩ (fun b hb=>(hf b hb).1) (fun b hb=>?_) fun b hb=>?_
   ·have b1:b≠e:=fun z=>hb (by simp[z]);have b2:b≠it:=fun z=>hb (by simp[z]);exact(hs2.2 b b1).trans (hk b o b1 b2 q)
   ·rcases ar.mp hb with z|z
    ·rw[z];exact he'
    ·rw[aE.mp z];exact hi'
   ·obtain⟨f0,f1,f2,f3,f4,f5⟩:=hf b hb;exact⟨f3,f1,f4,f5⟩
  refine⟨.ref s.heap.objs.size,_,I2,rfl,⟨_,x,rfl,I.hok.fresh (ak _),rfl,fun ys hy=>by rw[I.list_inj hy hq];exact hx⟩,⟨⟨y,by rw[show((m+(i+1):Nat):Int)=((m+i:Nat):Int)+1 by lia];exact he2⟩,hit'.extBut hs2.extBut (aR hne)⟩,fun b hb=>?_⟩;have hb':b≠s.heap.objs.size:=by
   rcases ar.mp hb with z|z
   ·rw[z];exact aq he'
   ·rw[aE.mp z];exact aq hi'
  rw[xj hb'];exact(hf b hb).1
 done:=by
  intro X hP hw hK hc i pins s σ H E I hf st hg;subst hP hw hK;obtain⟨xs,hq,hx⟩:=hg;obtain⟨its,rv,p,hz⟩:=I.list hq;obtain⟨⟨old,he⟩,hit⟩:=st;obtain⟨f0,f1,f2,f3,f4,f5⟩:=hf it (by simp);have hl:=rv.length;have pl:=p.isList;have D:Draws X.prog X.w X.A.in1 it [it,a] 0 (fun _ _=>False) (fun _ h=>h.IsListIter it a i∧h.IsList a its.toArray):={
   live:=fun _ _ st=>let⟨o,ho,_⟩:=st.1;⟨o,ho⟩
   frame:=fun _ _ _ st hk=>⟨st.1.at fun o e=>hk it (by simp) o e,st.2.at fun o e=>hk a (by simp) o e⟩
   item:=fun j s Q E hj=>absurd hj (cP _)
   done:=fun s Q E st hE=>wpAny_nextOf_list_end (I.ok.hd hc) st.1 st.2 (by simp;lia) hE}
  exact wpAny_pyNext_enum_endD D he ⟨hit,pl⟩ fun h' eb=>⟨rfl,I.turned (t':=s.toks) (fun b o hb e=>eb b o hb e) f0 f1 f3 f4 f5⟩
 self:=fun _ _ _ _ _ st h=>by
  obtain⟨⟨old,he⟩,_⟩:=st;exact fY he h
section
variable {X:Cx} {es:List Expr} {k:Nat} {tp:Pos}
def xpJ(K:ah)(ta:TA)(tf:TE):TI:=fun σ H R=>ta σ H fun vs H1=>tf σ H1 fun y H2=>∃(a:Addr) (m:Nat),vs=[.ref a]∧y= .int m∧(m:Int)<2^62∧(∃xs,SqL K H2 a xs)∧R (xmY K a m) H2
theorem xmZ{l fe:Expr}{ta:TA}{tf:TE}{p pos kp:Pos}(hg:Gl X "enumerate")(hm:X.mg "enumerate"=none)(ha:PA X [l] ta)(hf:PE X fe tf)
  (he:bN pos (aI [l] X.env)=(false,eval l X.env)::bN pos (aI [] X.env):=by rfl):PI X (.Tuple es k tp) (.Call (.Name "enumerate" p) [l] [⟨some "start",fe,kp⟩] pos) (xpJ X.K ta tf):=by
 intro pins s σ H R I h;refine bH (yO I hg hm xcJ ?_);refine xiO (by rw[he];rfl) rfl ?_;rw[he];refine evalArgs_kwB rfl ?_;rw[←he];refine thn (ha pos pins s σ H _ I h) fun us s1 h1=>?_;obtain⟨vs,H1,I1,r1,q1⟩:=h1;refine j8 (thn (hf pins s1 σ H1 _ I1 q1) fun fu s2 h2=>kws_nil ?_);obtain⟨y,H2,I2,r2,a,m,rfl,rfl,hm2,⟨xs,hq⟩,q⟩:=h2;obtain⟨u,rfl,ru⟩:=Vals.one r1;cases ru;obtain⟨tz,rfl⟩:=r2;obtain⟨its,rv,pl,hz⟩:=I2.list hq;show wpAny _ _ (call (.type "enumerate") [.ref a] (kwS m tz)) _ _ s2;refine xkj pl.isList (by simp[eV];lia) fun h' he hi hk=>fY (s:={s2 with heap:=h'}) he ?_;refine⟨s2.heap.objs.size+1,[s2.heap.objs.size+1,s2.heap.objs.size],_,_,H2,rfl,I2.kept (t':=s2.toks) hk,xkk a _ _ m (Nat.succ_ne_self _),⟨⟨.none,by simpa using he⟩,hi⟩,fun b hb=>?_,q⟩;rcases ar.mp hb with z|z
 ·rw[z];exact I2.fpOk (cW _) (I2.hok.fresh (cW _))
 ·rw[aE.mp z];exact I2.fpOk (ak _) (I2.hok.fresh (ak _))
end
theorem xiP{K:ah}{l:Addr}{n:Nat}{xs:List V}{g:TG}{tb:TS}{D:Ends}{σ:St}{H:Hp}(Pv:Nat→St→Hp→Prop)(h0:Pv 0 σ H)(hl:∀i σ H,i≤xs.length→Pv i σ H→SqL K H l xs)
  (hs:∀i x σ H T,xs[i]? =some x→Pv i σ H→H T=none→g (.ref T) σ (upd H T (.tup [.int ((n+i:Nat):Int),x])) fun σ2 H2=>tb {D with nx:=Pv (i+1),ct:=Pv (i+1),bk:=D.nx} σ2 H2) (hd:∀σ H,Pv xs.length σ H→D.nx σ H):uc (xmY K l n) g tb D σ H:=by
 unfold uc;refine⟨fun i m σ H=>m=xs.length - i∧i≤xs.length∧Pv i σ H,⟨xs.length,by simp,aN _,h0⟩,?_⟩;rintro i m σ H ⟨rfl,hi,p⟩;have hq:=hl i σ H hi p
 by_cases hlt:i<xs.length
 ·have hx:xs[i]? =some xs[i]:=aj hlt;refine .inr ⟨⟨xs,xs[i],hq,hx⟩,Pv (i+1),fun σ' H' p'=>⟨xs.length - (i+1),by lia,rfl,hlt,p'⟩,fun v H' y=>?_⟩;obtain⟨T,x,rfl,hT,rfl,hx'⟩:=y;exact hs i x σ H T (hx' xs hq) p hT
 ·obtain rfl:i=xs.length:=by lia
  exact .inl ⟨⟨xs,hq,ak _⟩,hd σ H p⟩
end L2
namespace L2
open PySem PySem.Spec PyProof.Rows
abbrev xq5(cap:List Str)(P:aG)(w:World)(K:ah)(mg:Str→Option Value)(base:Heap)(N:List Str)(qual:Str)(sc:Scope)(f:Addr)(cd:Value)(A:aL)(outer:List Env)(s:ae)(H:Hp)(E:XK):Cx:=
 (xaO cap (CXE P w) P w K mg base N qual sc f cd A outer s H E).wish (XE (xaO cap (CXE P w) P w K mg base N qual sc f cd A outer s H E) fun _=>E)
theorem Fun.okXK{P:aG}{w:World}{K:ah}{mg:Str→Option Value}{base:Heap}{x qual:Str}{st:Stmt}{f c:Addr}{fd:aw}{N ps:List Str}{k:Nat}{sp:Sp}(cap:List Str)(F:Fun K x qual st f fd)(hc:fd.code= .ref c)(S:xo N ps (xh st))(len:∀vs H Q E,sp vs H Q E→vs.length=ps.length)
  (hbody:∀(A:aL) (outer:List Env) (s:ae) (H:Hp) (vs:List V) (Q:VK) (E:XK),xI k (A.deeper (eP qual (xh st) s.heap.objs.size f (.ref c)))→sp vs H Q E→
   ∃t,PSs (xq5 cap P w K mg base N qual (xh st) f (.ref c) A outer s H E) (xD st) t∧t {nx:=fun _ H'=>Q .non H',rt:=Q} (start N vs) H):xy P w K mg base (CXE P w) (k+1) f fd ps sp:=by
 obtain⟨oc,od,kV,doc,pm,an,cdv,ct,osl,rfl,lk,hcd⟩:=F.ex;obtain rfl:cdv= .ref c:=hc;refine⟨len,fun A outer s H args us vs Q E hr e0 hb r hsp=>?_⟩;have hl:=len _ _ _ _ hsp;have KX:K.In s.heap:=e0.mod.kin.keeps fun b o e=>(e0.bs b o e).1;have lim:s.heap.NoLimit:=e0.mod.nolimit.keeps fun b o e=>(e0.bs b o e).1;have hkind:∀y∈ps.zip us,(xh st).names.lookup y.1=some .local∨((xh st).names.lookup y.1=some .cell∧((iH (s.heap.objs.size+1) (xh st).names []).lookup y.1).isSome=true):=fun⟨n,v⟩ hy=>by
  rcases S.par n (eC hy).1 with q|q
  ·exact .inl q
  ·exact .inr ⟨q,gd _ _ _ (.inl q)⟩
 refine eQ hr.depth (KX _ _ lk) rfl S.co S.gen rfl (kA KX hcd) (hb _ _ _ _ ?_);refine fg S.kind hkind fun env he s1 x=>?_;subst he;refine⟨lim.keeps x.toInCall.keep,codeAny_func ?_⟩;obtain⟨t,ht0,hq⟩:=hbody A outer s H vs Q E (hr.deeper _) hsp;have ht:PSs (xaO cap (CXE P w) P w K mg base N qual (xh st) f (.ref c) A outer s H E) (xD st) t:=ht0.wished fun e s' ⟨a,cls,dx,σ,H',he,I,Fl,z⟩=>by
  subst he;refine xbQ ⟨rfl,rfl,rfl⟩ I.ok.frames I Fl fun s2 I2 F2=>?_;obtain⟨oe,vs,a0,T,oT,ts,he,hc,hx,hd,h0,h1,nT,hT,hdT,h3,hn,hnT⟩:=F2;exact⟨a,cls,dx,H',oe,vs,a0,T,oT,ts,rfl,I2.os,I2.bare,I2.base,I2.hok,he,hc,hx,hd,h0,h1,nT,hT,hdT,h3,hn.1,hn.2.1,hnT.1,hnT.2.1,z⟩
 have I:Inv (vH (CXE P w) P w K mg base N qual (xh st) f (.ref c) A outer s H E) [] (start N vs) H s1:=xcC S hr.hd e0 hl r x;have I':Inv (xaO cap (CXE P w) P w K mg base N qual (xh st) f (.ref c) A outer s H E) [] (start N vs) H s1:=I.capd (fun _=>rfl) (xj9 cap);refine aK (ht [] s1 (start N vs) H _ I' hq) (fun fl s' hs=>?_) fun e s' hs=>hs;have fin:∀{σ':St} {H':Hp} {v:V} {u:Value},Inv (xaO cap (CXE P w) P w K mg base N qual (xh st) f (.ref c) A outer s H E) [] σ' H' s'→RelV v u→Q v H'→CE outer P w H s Q u s':=
  fun{σ' H' v u} J rv q=>⟨v,H',J.os,J.bare,J.base,J.hok,rv,q⟩
 cases fl with
 |ret u=>
  obtain⟨v,σ',H',J,rv,q⟩:=hs;exact fin J rv q
 |next=>
  obtain⟨σ',H',J,q⟩:=hs;exact fin (v:=V.non) (u:=a8) J rfl q
 |brk=>
  obtain⟨_,_,_,q⟩:=hs;exact bo q
 |cont=>
  obtain⟨_,_,_,q⟩:=hs;exact bo q
end L2
namespace L2
open PySem PySem.Spec PyProof.Rows
section
variable {P:aG} {w:World} {H:Hp} {h:Heap} {b d:Addr} {o:Obj} {u ob:HO}
theorem xE.thaw(hd:H d=some (.frz o u))(hdat:∀vs,o.data≠.fields vs)(x:xE P w H h b ob):xE P w (upd H d u) h b ob:=by
 have off:∀{c:Addr} {y:HO},H c=some y→(∀o' u',y≠.frz o' u')→upd H d u c=some y:=fun{c y} e n=>by
  rw[xj (fun z=>by rw[z,hd]at e;cases e;exact n _ _ rfl)];exact e
 induction ob with
 |dT kvs=>
  obtain⟨z,y,xs,r,c⟩:=x;exact⟨z,y,xs,Paired.mapP r fun p q z=>⟨z.1,off z.2.1 (by intro _ _ z;cases z),z.2.2⟩,c⟩
 |ins C dx fs=>obtain⟨e,c⟩:=x;exact⟨off e (by intro _ _ z;cases z),c⟩
 |frz ob u' ih=>obtain⟨e,q⟩:=x;exact⟨e,ih q⟩
 |tbl qs=>
  obtain⟨ps,e,tr,r⟩:=x;refine⟨ps,e,tr,fun pos q m=>?_⟩;rcases r pos q m with z|⟨c,ob,u',vs,t,z1,z2,z3⟩
  ·exact .inl z
  ·refine .inr ⟨c,ob,u',vs,t,z1,?_,z3⟩;rw[xj (fun z=>by rw[z,hd]at z2;cases z2;exact hdat _ z3.1)];exact z2
 |lst xs=>exact x
 |tup xs=>exact x
 |dK kvs=>exact x
 |set S n=>exact x
 |own y=>exact x
 |xd fs=>exact x
 |rng lo hi=>exact x
 |cel v=>exact x
 |met f y=>exact x
 |ext φ=>exact x
theorem HOk.thaw(ok:HOk P w H h)(hd:H d=some (.frz o u))(hdat:∀vs,o.data≠.fields vs):HOk P w (upd H d u) h:=fun b ob e=>by
 by_cases hb:b=d
 ·subst hb;rw[xk]at e;cases e;exact xE.thaw hd hdat (ok _ _ hd).2
 ·rw[xj hb]at e;exact xE.thaw hd hdat (ok b ob e)
end
section
variable {X:Cx} {pins:List (Addr×Obj)} {σ:St} {H:Hp} {s:ae} {d:Addr} {o:Obj} {u:HO} {kvs:List (Key×V)}
theorem Inv.thaw(I:Inv X pins σ H s)(hd:H d=some (.frz o u))(hdat:∀vs,o.data≠.fields vs)(h0:∀u',X.H₀ d=some u'→¬Fix u'):Inv X pins σ (upd H d u) s:=by
 have ne:∀{b:Addr},H b=none→b≠d:=fun{b} e z=>by rw[z,hd]at e;cases e
 refine⟨I.ok,I.os,I.bare,⟨I.base.keep,I.base.slot,fun b o' q n hx=>?_,I.base.there,fun b u' q hf=>?_⟩,I.loc,I.cell,?_,fun x c e=>?_,fun p hp=>?_,I.hok.thaw hd hdat,I.len⟩
 ·have:=I.base.free b o' q n hx;rw[xj (ne this)];exact this
 ·rw[xj (fun z=>by rw[z]at q;exact h0 _ q hf)];exact I.base.fix b u' q hf
 ·rw[xj (ne I.free)];exact I.free
 ·rcases I.freeC x c e with z|⟨z1,o',z2,z3⟩
  ·exact .inl (by rw[xj (ne z)];exact z)
  ·refine .inr ⟨z1,o',?_,z3⟩;rw[xj (fun z=>by rw[z,hd]at z2;cases z2)];exact z2
 ·obtain⟨p1,p2,p3⟩:=I.pin p hp;exact⟨p1,by rw[xj (ne p2)];exact p2,p3⟩
theorem Inv.freeze(I:Inv X pins σ H s)(hd:H d=some (.dK kvs))(ho:s.heap.get? d=some o):Inv X pins σ (upd H d (.frz o (.dK kvs))) s:=by
 have:=I.write (x:=d) (e:=d) (o:=.frz o (.dK kvs)) (h':=s.heap) (t':=s.toks) (by rw[hd];exact b0) (.inl rfl) (fun _ _ _ q=>q) ⟨_,ho⟩ ⟨ho,(show xE X.prog X.w H s.heap d (.dK kvs)from I.hok d _ hd)⟩;exact this
theorem Inv.nofix(I:Inv X pins σ H s)(hd:H d=some (.dK kvs)):∀u',X.H₀ d=some u'→¬Fix u':=fun u' e hf=>by
 have:=I.base.fix d u' e hf;rw[hd]at this;cases this;exact hf
end
def Itd(a:Addr)(o:Obj)(kvs:List (Key×V)):It:=
 ⟨fun i H=>H a=some (.frz o (.dK kvs))∧i<kvs.length,fun i H x H'=>H'=H∧∃k,(kvs.map (·.1))[i]? =some k∧x=kV k,fun i H=>H a=some (.frz o (.dK kvs))∧i=kvs.length⟩
theorem xq6{k:Key}{v:Value}(h:zZ k v=true):RelV (kV k) v:=by
 rcases yf h with⟨i,t,rfl,rfl⟩|⟨x,t,rfl,rfl⟩
 ·exact⟨t,rfl⟩
 ·exact⟨t,rfl⟩
theorem xeU{κ:Type}:∀{kvs:List (κ×V)} {vs:List (κ×Value)},KV kvs vs→kvs.map (·.1)=vs.map (·.1)
 |_,_,.nil=>rfl
 |_,_,.cons h t=>by rw[bQ,bQ,h.1,xeU t]
theorem xlP{P:aG}{w:World}{K:ah}{tg:Expr}(a it:Addr)(o:Obj)(kvs:List (Key×V))(es:Array DictEntry)(ep:Nat)(hdat:o.data= .dict es ep):Turn P w K tg (Itd a o kvs) [it] it (fun i h=>h.IsKeyIter it a i kvs.length ep) where
 mem:=by simp
 obj:=fun i h st b hb=>by
  have e:b=it:=by simpa using hb
  subst e;obtain⟨o,e,c,d⟩:=st;exact⟨o,e,fun v z=>by rw[d]at z;cases z⟩
 keep:=fun i h h' st k=>by
  obtain⟨o,e,c,d⟩:=st;exact⟨o,k it (by simp) o e,c,d⟩
 item:=by
  intro X hP hw hK hc i pins s σ H E I hf st hg;subst hP hw hK;obtain⟨hq,hx⟩:=hg;obtain⟨f0,f1,f2,f3,f4,f5⟩:=hf it (by simp);obtain⟨ho,z,hsys,vs,rel,dd⟩:=(show xE X.prog X.w H s.heap a (.frz o (.dK kvs))from I.hok a _ hq);have hl:kvs.length=vs.length:=rel.length;have hda:iM (xS X.prog X.w) s.heap a vs ep:=by
   obtain⟨o',es',ep',h1,h2,h3,h4⟩:=dd;rw[ho]at h1;cases h1;rw[hdat]at h3;cases h3;exact⟨o,es,ho,h2,hdat,h4⟩
  have ne:a≠it:=fun z=>by rw[z,f0]at hq;cases hq
  have W:=iZ (knd:=xS X.prog X.w) (I.ok.hd hc) it a ne vs ep;refine W.item i s _ _ (by lia) ⟨by rw[←hl];exact st,hda⟩ fun v h' tk hv st' kk=>?_;obtain⟨k,x,hk,hv⟩:=hv;have I1:Inv X pins σ H {s with heap:=h',toks:=tk}:=I.turned (fun b o hb e=>kk b o (by simpa using hb) e) f0 f1 f3 f4 f5;obtain⟨ob,e,c,d⟩:=id st'.1;refine⟨_,rfl,xeI (s:={s with heap:=h',toks:=tk}) e c d (by decide) ⟨kV k,H,I1,xq6 hv,⟨rfl,k,?_,rfl⟩,?_,fun b hb=>(hf b hb).1⟩⟩
  ·rw[xeU rel,aF,hk];rfl
  ·rw[hl];exact st'.1
 done:=by
  intro X hP hw hK hc i pins s σ H E I hf st hg;subst hP hw hK;obtain⟨hq,hx⟩:=hg;obtain⟨f0,f1,f2,f3,f4,f5⟩:=hf it (by simp);obtain⟨ho,z,hsys,vs,rel,dd⟩:=(show xE X.prog X.w H s.heap a (.frz o (.dK kvs))from I.hok a _ hq);have hl:kvs.length=vs.length:=rel.length;have hda:iM (xS X.prog X.w) s.heap a vs ep:=by
   obtain⟨o',es',ep',h1,h2,h3,h4⟩:=dd;rw[ho]at h1;cases h1;rw[hdat]at h3;cases h3;exact⟨o,es,ho,h2,hdat,h4⟩
  have ne:a≠it:=fun z=>by rw[z,f0]at hq;cases hq
  have W:=iZ (knd:=xS X.prog X.w) (I.ok.hd hc) it a ne vs ep;subst hx;refine W.done s _ _ ⟨by rw[←hl];exact st,hda⟩ fun h' tk kk=>⟨rfl,I.turned (fun b o hb e=>kk b o (by simpa using hb) e) f0 f1 f3 f4 f5⟩
 self:=fun A i s Q E st h=>wpAny_pyIter_keyiter st h
section
variable {X:Cx} {tg:Expr}
def xkl(tl:TE):TI:=fun σ H R=>tl σ H fun x H1=>∃a kvs,x= .ref a∧H1 a=some (.dK kvs)∧∀o:Obj,(∀vs,o.data≠.fields vs)→R (Itd a o kvs) (upd H1 a (.frz o (.dK kvs)))
theorem xos{l:Expr}{tl:TE}(hl:PE X l tl):PI X tg l (xkl tl):=by
 intro pins s σ H R I h;refine thn (hl pins s σ H _ I h) fun v s1 ⟨x,H1,I1,r1,q1⟩=>?_;obtain⟨a,kvs,e,hq,q⟩:=q1;subst e;cases r1;obtain⟨z,hsys,vs,rel,o,es,ep,ho,h2,hdat,h4⟩:=(show xE X.prog X.w H1 s1.heap a (.dK kvs)from I1.hok a _ hq);have hl:kvs.length=vs.length:=rel.length;refine wpAny_pyIter_dict hsys (⟨o,es,ho,h2,hdat,h4⟩:iM (xS X.prog X.w) s1.heap a vs ep) ?_;have I2:=I1.freeze hq ho;refine⟨s1.heap.objs.size,[s1.heap.objs.size],_,_,_,rfl,I2.kept (t':=s1.toks) fun b o e=>ag _ e,xlP a _ o kvs es ep hdat,⟨_,aA _ rfl,rfl,?_⟩,fun b hb=>?_,q o (fun vs z=>by rw[hdat]at z;cases z)⟩
 ·rw[hl];rfl
 ·have e:b=s1.heap.objs.size:=by simpa using hb
  subst e;exact I2.fpOk (ak _) (I2.hok.fresh (ak _))
def xkm(a:Addr)(kvs:List (Key×V))(D:Ends):Ends:={D with
 nx:=fun σ H=>(∃o:Obj,H a=some (.frz o (.dK kvs))∧∀vs,o.data≠.fields vs)∧D.nx σ (upd H a (.dK kvs))
 rt:=fun v H=>(∃o:Obj,H a=some (.frz o (.dK kvs))∧∀vs,o.data≠.fields vs)∧D.rt v (upd H a (.dK kvs))
 bk:=fun _ _=>False
 ct:=fun _ _=>False}
def xqv(i:Nat)(g:TG)(tb:TS):TS:=fun D σ H=>∃a kvs,σ[i]? =some (some (.ref a))∧H a=some (.dK kvs)∧∀o:Obj,(∀vs,o.data≠.fields vs)→uc (Itd a o kvs) g tb (xkm a kvs D) σ (upd H a (.frz o (.dK kvs)))
theorem xot{iter:Expr}{body:List Stmt}{i:Nat}{g:TG}{tb:TS}{pos:Pos}(hp:PassesOwn (model X.prog X.w) X.A X.env X.xe)(hc:X.calm=true)(hi:PE X iter (uY i))(hg:PG X tg g)(hb:PSs X body tb)
  (hs:∀x,dN iter X.env x=pure x:=by intro _;rfl):PS X (.For tg iter body [] pos) (xqv i g tb):=by
 intro pins s σ H D I h;obtain⟨a,kvs,hσ,hq,h⟩:=h;have nf:=I.nofix hq;have h1:xjN (xkl (uY i)) g tb (xkm a kvs D) σ H:=by
  rw[←xjg];unfold xj1 xkl uY;rw[hσ];exact⟨a,kvs,rfl,hq,h⟩
 refine thn (xk8 hp hc (xos hi) hg hb hs pins s σ H (xkm a kvs D) I h1) fun f s' z=>?_;cases f with
 |next=>obtain⟨σ',H',I',⟨o,ho,hd⟩,m⟩:=z;exact⟨σ',_,I'.thaw ho hd nf,m⟩
 |brk=>obtain⟨σ',H',I',m⟩:=z;exact m.elim
 |cont=>obtain⟨σ',H',I',m⟩:=z;exact m.elim
 |ret v=>obtain⟨x7,σ7,H7,I7,r7,⟨o,ho,hd⟩,q7⟩:=z;exact⟨x7,σ7,_,I7.thaw ho hd nf,r7,q7⟩
end
theorem xkn{a:Addr}{o:Obj}{kvs:List (Key×V)}{g:TG}{tb:TS}{D:Ends}{σ:St}{H:Hp}(Pv:Nat→St→Hp→Prop)(h0:Pv 0 σ H)(hl:∀i σ H,i≤kvs.length→Pv i σ H→H a=some (.frz o (.dK kvs)))
  (hs:∀i k σ H,(kvs.map (·.1))[i]? =some k→Pv i σ H→g (kV k) σ H fun σ2 H2=>tb {D with nx:=Pv (i+1),ct:=Pv (i+1),bk:=D.nx} σ2 H2) (hd:∀σ H,Pv kvs.length σ H→D.nx σ H):uc (Itd a o kvs) g tb D σ H:=by
 unfold uc;refine⟨fun i m σ H=>m=kvs.length - i∧i≤kvs.length∧Pv i σ H,⟨kvs.length,by simp,aN _,h0⟩,?_⟩;rintro i m σ H ⟨rfl,hi,p⟩;have q:=hl i σ H hi p
 by_cases hlt:i<kvs.length
 ·refine .inr ⟨⟨q,hlt⟩,Pv (i+1),fun σ' H' p'=>⟨kvs.length - (i+1),by lia,rfl,hlt,p'⟩,fun x H' y=>?_⟩;obtain⟨e,k,hk,rfl⟩:=y;subst e;exact hs i k σ _ hk p
 ·have e:i=kvs.length:=by lia
  subst e;exact .inl ⟨⟨q,rfl⟩,hd σ H p⟩
end L2
namespace L2
open PySem PySem.Spec PyProof.Rows
section
variable {X:Cx}
def xqw:List V→Hp→VK→Prop:=fun xs H Q=>∃(p:Addr) (kvs:List (Key×V)) (ks:List Int),xs=[.ref p]∧H p=some (.dK kvs)∧kvs.map (·.1)=ks.map cX∧ks≠[]∧∀m∈ks,(∀x∈ks,m≤x)→Q (.int m) H
theorem xlQ(hc:X.calm=true):yn X (.builtin "min") xqw:=by
 intro pins s σ H xs us Q I r h;obtain⟨p,kvs,ks,rfl,hq,hk,hne,q⟩:=h;obtain⟨u,rfl,rx⟩:=vals1 r;cases rx;obtain⟨z,hsys,vs,rel,o,es,ep,ho,h2,hdat,h4⟩:=(show xE X.prog X.w H s.heap p (.dK kvs)from I.hok p _ hq);have hkeys:vs.map (·.1)=ks.map cX:=(xeU rel).symm.trans hk;have hl:vs.length=ks.length:=by have:=congrArg cC hkeys;simpa using this
 have hpos:0<ks.length:=cu.mpr hne;refine call_min_walk (wpAny_pyIter_dict hsys (⟨o,es,ho,h2,hdat,h4⟩:iM (xS X.prog X.w) s.heap p vs ep) ?_);have hlt:p<s.heap.objs.size:=ai ho;have W:=iZ (knd:=xS X.prog X.w) (A:=X.A.in1) (I.ok.hd hc) s.heap.objs.size p (aq hlt) vs ep;have hP:∀(i:Nat) (v:Value),(∃k x,vs[i]? =some (k,x)∧(xS X.prog X.w).is k v=true)→∃t,v= .int (ks.getD i 0) t:=fun i v hv=>by
  obtain⟨k,x,h1,h2⟩:=hv;have e:(vs.map (·.1))[i]? =some k:=by rw[aF,h1];rfl
  rw[hkeys,aF]at e;obtain⟨j,hj,rfl⟩:=bD.mp e;have h2:zZ (cX j) v=true:=h2;rcases yf h2 with⟨i',t,e1,rfl⟩|⟨x,t,e1,_⟩
  ·cases e1;exact⟨t,by rw[cc,hj];rfl⟩
  ·cases e1
 refine⟨s.heap.objs.size,_,_,_,_,_,_,rfl,W,⟨⟨_,aA _ rfl,rfl,rfl⟩,⟨o,es,ag _ ho,h2,hdat,h4⟩⟩,fun b hb=>?_,by omega,CmpOf.ints_lt (fun i=>ks.getD i 0) hP,fun v h' tk hv hkp=>?_⟩
 ·simp only[ar,bu,or_false]at hb;have hs:=ai (aA s.heap (o:={cls:=cF "dict_keyiterator",data:=kQ #[aT p,eA 0 0,eA (↑vs.length) 0,eA (↑ep) 0]}) rfl);rcases hb with z|z
  ·rw[z];exact hs
  ·rw[z];exact Nat.lt_trans hlt hs
 ·obtain⟨t,rfl⟩:=hP _ _ hv;obtain⟨g1,g2⟩:=argBest_lt (fun i=>ks.getD i 0) (vs.length - 1);refine⟨.int _,H,I.kept (t':=tk) fun b ob e=>hkp b ob ?_ (ag _ e),⟨t,rfl⟩,q _ ?_ fun x hx=>?_⟩
  ·have hb:=ai e;simp only[ar,bu,or_false];exact aq hb
  ·generalize hj:argBest (fun i j=>decide (ks.getD i 0<ks.getD j 0)) (vs.length - 1)=j at g1;have hjl:j<ks.length:=by omega
   rw[cc,aj hjl];exact cG hjl
  ·obtain⟨j,hj⟩:=bI.mp hx;have hjl:=(aH.mp hj).1;have:=g2 j (by omega);rw[cc (i:=j),hj]at this;exact this
end
end L2
namespace L2
open PySem PySem.Spec PyProof.Rows
section
variable {X:Cx}
theorem xpK(hc:X.calm=true):yn X (.builtin "max") (fun xs H Q=>∃i j k,xs=[.int i,.int j,.int k]∧Q (.int (max i (max j k))) H):=by
 intro pins s σ H xs us Q I r h;obtain⟨i,j,k,rfl,q⟩:=h;cases r with|cons r1 r=>cases r with|cons r2 r=>cases r with|cons r3 r=>
 cases r;obtain⟨t1,rfl⟩:=r1;obtain⟨t2,rfl⟩:=r2;obtain⟨t3,rfl⟩:=r3;refine max_three_ints (I.ok.hd hc) fun h' tk kk=>⟨.int (max i (max j k)),H,I.kept kk,?_,q⟩
 by_cases h1:j > i
 ·rw[if_pos h1]
  by_cases h2:k > j
  ·rw[if_pos h2,show max i (max j k)=k by lia];exact⟨_,rfl⟩
  ·rw[if_neg h2,show max i (max j k)=j by lia];exact⟨_,rfl⟩
 ·rw[if_neg h1]
  by_cases h2:k > i
  ·rw[if_pos h2,show max i (max j k)=k by lia];exact⟨_,rfl⟩
  ·rw[if_neg h2,show max i (max j k)=i by lia];exact⟨_,rfl⟩
end
end L2
namespace L2
open PySem PySem.Spec PyProof.Rows PySem.W
theorem xgC:entryFor table "dict.update.loop"=some eR.«dict.update.loop»:=entryFor_of_tree (by kernel_rfl)
theorem xaS:plainId "dict.update.loop"=true:=by decide+kernel
theorem xgT{prog:aG}{w:World}{A:aL}{E:Value→ae→Prop}{s:ae}{a:Addr}{o:Obj}{xs:Array Value}{k:Nat}{Q:Option Value→ae→Prop}
  (hx:s.heap.get? a=some o) (hc:o.cls= .type "list") (hdat:o.data= .seq xs k) (hd:o.dict=none) (hA:A.handled=none)
  (h:∀h' tk,(∀b ob,s.heap.get? b=some ob→h'.get? b=some ob)→Q none {s with heap:=h',toks:=tk}):
  wpAny (model prog w) A (getAttr? (.ref a) "keys") Q E s:=by
 obtain⟨c,dct,dat,sl⟩:=o;simp only at hc hdat hd;subst hc hdat hd;obtain⟨hp,g,d,tk,os⟩:=s;have hmiss:gy (.type "list") "keys"=pure none:=am_miss_of_fast (by decide+kernel);have hname:(["__module__","__name__","__qualname__","__doc__","__annotations__"]:List Str).contains "keys"=false:=by decide+kernel
 have hT:∀tk',(⟨hp,g,d,tk',os⟩:ae).TypeIs (.ref a) "list":=fun _=>⟨_,hx,rfl⟩;have f1:=sub_AttributeError;have f3:=fT.lookup;have f4:=fT.bind (.ref a);have f5:=am_list_getattr_none;unfold getAttr? getAttrBy? getAttrBy
 repeat (any_goals (first|assumption|exact hT _|((with_reducible show wpAny _ _ (call (Value.builtin "list.__getattribute__") _ _) _ _ _);refine fU fT (hT _) am_entry_list_getattribute (F.args_list_getattribute_2 _ _) (meets_getattribute_miss_list a xs k sl "keys" _ hmiss hname (by size_fits)) ⟨hx,hA,fun h' tk' e hx'=>?_⟩)|wp_step))
 obtain⟨t',u',he⟩:=hx'.there;show wpAny _ _ (getattributeRaised _ _ _ _ _ _ _) _ _ _;unfold getattributeRaised
 repeat (any_goals (first|assumption|wp_step))
 exact h _ _ hx'.keeps
section
variable {prog:aG} {w:World} {K:Type} [DecidableEq K] {knd:KeyKind prog w K} {A:aL} {R:fJ→ae→Prop} {I D:Addr} {fp wr:List Addr} {P:Nat→Value→Prop} {St:Nat→Heap→Prop} {kvs:List (K×Value)} {ts:Nat→Addr} {z:Value}
theorem xhN{ks:List (K×Value)}{k:K}{v:Value}(h:k∉ks.map (·.1)):stored ks k v=ks++[(k,v)]:=by
 unfold stored;rw[if_neg];rw[d4];rintro⟨x,hx,e⟩;exact h (a7.mpr ⟨x,hx,of_decide_eq_true e⟩)
theorem xhO(W:Walks prog w A.in1 I fp wr kvs.length P St)(hP:∀i v,i<kvs.length→P i v→v= .ref (ts i))(hnd:(kvs.map (·.1)).Nodup)(hsz:kvs.length≤aQ)(hD:D∉fp)(hts:∀i,i<kvs.length→ts i∉wr∧ts i≠D):∀(k j:Nat) (s:ae) (i:Int) (t:Tok),kvs.length - j=k→j≤kvs.length→St j s.heap→
  s.heap.DictOf knd D (kvs.take j)→(∀i p,kvs[i]? =some p→∃key,knd.is p.1 key=true∧IsTup s.heap (ts i) #[key,p.2])→
  (∀h' tk,h'.DictOf knd D kvs→(∀b o,b∉wr→b≠D→s.heap.get? b=some o→h'.get? b=some o)→R (.ok (.ret z)) {s with heap:=h',toks:=tk})→
  cD (model prog w) A (.builtin "dict.update.loop" ⟨[.ref D,.ref I,.int i t,z],[]⟩) R s
 |0,j,s,i,t,hk,hj,hst,hd,hp,hR=>by
  have hin:j=kvs.length:=by lia
  subst hin;have hDw:D∉wr:=fun h=>hD (W.sub _ h);refine cO xgC ?_;rw[c3 xaS _];show wpAny _ A.in1 (ik (.ref I) >>= _) _ _ s;refine aa (W.done s _ _ hst fun h' tk hk'=>?_);rw[cq]at hd;refine aa (ao (ao (hR h' tk ?_ fun b o hb _ e=>hk' b o hb e)));obtain⟨o,es,ep,ho,r⟩:=hd;exact⟨o,es,ep,hk' D _ hDw ho,r⟩
 |k+1,j,s,i,t,hk,hj,hst,hd,hp,hR=>by
  have hlt:j<kvs.length:=by lia
  have hDw:D∉wr:=fun h=>hD (W.sub _ h);refine cO xgC ?_;rw[c3 xaS _];show wpAny _ A.in1 (ik (.ref I) >>= _) _ _ s;refine aa (W.item j s _ _ hlt hst fun v h' tk hv hst' hk'=>?_);have ev:=hP _ _ hlt hv;subst ev;obtain⟨key,hkey,o,ho,hc,n,hdat⟩:=hp j _ (aj hlt);obtain⟨t1,t2⟩:=hts j hlt;have ho':=hk' _ _ t1 ho;refine aa (m:=dU _ _) (bA ?_);refine aa (dA ?_);unfold Builtin.Dict.pairItems;refine aa (gC (T:="tuple") ⟨o,ho',hc⟩ ?_);rw[if_pos (by decide)];refine aa (eU ho' hdat (ao ?_));have hd':h'.DictOf knd D (kvs.take j):=by
   obtain⟨o,es,ep,ho,r⟩:=hd;exact⟨o,es,ep,hk' D _ hDw ho,r⟩
  show wpAny _ A.in1 (dU [key,kvs[j].2] (dictSet D key kvs[j].2)) _ _ _;refine bA (wpAny_dictSet_pairs (hsz:=by rw[bM];lia) hkey hd' fun h2 hd2 hs2=>?_);refine ao ⟨bV xaS _,?_⟩;have hfresh:kvs[j].1∉(kvs.take j).map (·.1):=fun hm=>by
   obtain⟨x,hx,e⟩:=a7.mp hm;obtain⟨m,hm1,hm2⟩:=kl hx;rw[bM]at hm1;have hm3:m<j:=by lia
   have:=bT.mp hnd m j (by simp;lia) (by simp;lia) hm3;simp only[List.getElem_map]at this;rw[List.getElem_take]at hm2;exact this (by rw[hm2];exact e)
  rw[xhN hfresh,List.take_append_getElem hlt]at hd2;refine xhO W hP hnd hsz hD hts k (j+1) _ _ _ (by lia) hlt (W.frame _ _ _ hst' fun b hb o e=>(hs2.2 b (fun q=>hD (q▸hb))).trans e) hd2 (fun i p hip=>?_) fun h3 tk3 hd3 hk3=>?_
  ·obtain⟨key,hkey,o,ho,r⟩:=hp i p hip;have hil:i<kvs.length:=(aH.mp hip).1;obtain⟨u1,u2⟩:=hts i hil;exact⟨key,hkey,o,(hs2.2 _ u2).trans (hk' _ _ u1 ho),r⟩
  ·exact hR h3 tk3 hd3 fun b o hb hbD e=>hk3 b o hb hbD ((hs2.2 b hbD).trans (hk' b o hb e))
theorem xko{E:Value→ae→Prop}{Q:Value→ae→Prop}{s:ae}{p:Addr}{its:List Value}(hA:A.handled=none)(hL:PlainL s.heap p its.toArray)(hlen:its.length=kvs.length)(hits:∀(i:Nat) (v:Value),its[i]? =some v→v= .ref (ts i))(htup:∀i pr,kvs[i]? =some pr→∃key,knd.is pr.1 key=true∧IsTup s.heap (ts i) #[key,pr.2])
  (hnd:(kvs.map (·.1)).Nodup) (hsz:kvs.length≤aQ) (hQ:∀h' tk,h'.DictOf knd s.heap.objs.size kvs→(∀b o,s.heap.get? b=some o→h'.get? b=some o)→Q (.ref s.heap.objs.size) {s with heap:=h',toks:=tk}):
  wpAny (model prog w) A (call (.type "dict") [.ref p]) Q E s:=by
 refine iS (Q₁:=fun obj s₁=>obj= .ref s.heap.objs.size∧s₁={s with heap:=s.heap.push {cls:=.type "dict",data:=.dict #[]}}) F.kt_called_dict (F.kt_typeCall_dict_1 _) F.entry_dict_init (kt_code_dict_new _ ⟨rfl,rfl⟩) ?_;rintro obj s₁ ⟨rfl,rfl⟩;have hnew:(s.heap.push {cls:=.type "dict",data:=.dict #[]}).DictOf knd s.heap.objs.size []:=Heap.DictOf.new s.heap;refine⟨hnew.typeIs,F.args_dict_init_2 _ _,?_⟩;generalize hG:s.heap.push {cls:=.type "dict",data:=.dict #[]}=G at hnew⊢;have old:∀b o,s.heap.get? b=some o→G.get? b=some o:=fun b o e=>by rw[←hG];exact ag _ e
 obtain⟨lo,ln,l1,l2,l3,l4⟩:=hL;have l1':=old _ _ l1;unfold eR.«dict.__init__»;refine aa ?_;unfold Builtin.Dict.selfAndRest;refine aa (wpAny_notOrdered_dict hnew.typeIs ?_);show wpAny _ _ (pure (s.heap.objs.size,[aT p])) _ _ _;refine ao ?_;show wpAny _ _ (iE "dict.__init__" s.heap.objs.size (.ref p) [] .none) _ _ _;unfold iE;refine aa (gC (T:="list") ⟨lo,l1',l2⟩ ?_);rw[if_pos (by decide)];refine aa (xgT l1' l2 l4 l3 hA fun h2 tk2 k2=>?_);rw[if_pos (by rfl)];refine aa (gY ?_);have hL2:h2.IsList p its.toArray:=PlainL.isList ⟨lo,ln,k2 _ _ l1',l2,l3,l4⟩;refine aa (dq hL2 ?_);have hpG:p<G.objs.size:=ai l1';have h2l:∀b o,G.get? b=some o→b<h2.objs.size:=fun b o e=>ai (k2 b o e);have hnD:s.heap.objs.size≠p:=fun e=>absurd (ai l1) (by rw[←e];exact bJ _);have hDl:s.heap.objs.size<h2.objs.size:=by obtain⟨o,_,_,ho,_⟩:=hnew;exact h2l _ _ ho
 have hpl:p<h2.objs.size:=h2l _ _ l1';refine ao ⟨bV xaS _,?_⟩;have W:=g7 (prog:=prog) (w:=w) (A:=A.in1.in1) hA h2.objs.size p (aq hpl) its.toArray;have ez:its.toArray.size=kvs.length:=by simpa using hlen
 rw[ez]at W;refine xhO (knd:=knd) (ts:=ts) W (fun i v hi hv=>hits i v (by simpa using hv)) hnd hsz ?_ (fun i hi=>?_) kvs.length 0 _ _ _ (by simp) (aN _) ⟨⟨_,aA _ rfl,rfl,rfl⟩,hL2.push _⟩ ?_ (fun i pr hp=>?_) fun h3 tk3 hd3 hk3=>⟨rfl,hQ h3 tk3 hd3 fun b o e=>?_⟩
 ·intro hm;rcases ar.mp hm with e|e
  ·exact absurd e (aq hDl)
  ·exact hnD (aE.mp e)
 ·obtain⟨key,_,o,ho,_⟩:=htup i _ (aj hi);have g1:=ai ho;have g2:=h2l _ _ (old _ _ ho);exact⟨fun e=>absurd (aE.mp e) (aq g2),aq g1⟩
 ·obtain⟨o,es,ep,ho,r⟩:=hnew;exact⟨o,es,ep,ag _ (k2 _ _ ho),r⟩
 ·obtain⟨key,hk,o,ho,r⟩:=htup i pr hp;exact⟨key,hk,o,ag _ (k2 _ _ (old _ _ ho)),r⟩
 ·have g1:=ai e;have g2:=h2l _ _ (old _ _ e);exact hk3 b o (fun z=>absurd (aE.mp z) (aq g2)) (aq g1) (ag _ (k2 _ _ (old _ _ e)))
end
theorem xm0{k:Key}{v:Value}(h:RelV (kV k) v):zZ k v=true:=by
 cases k with
 |inl i=>obtain⟨t,rfl⟩:=h;simp[zZ,kO]
 |inr x=>obtain⟨t,rfl⟩:=h;simp[zZ,j9]
section
variable {X:Cx}
def xpL(K:ah):List V→Hp→VK→Prop:=fun xs H Q=>∃(p:Addr) (ts:List Addr) (kvs:List (Key×V)),xs=[.ref p]∧SqL K H p (ts.map V.ref)∧Paired (fun t (kv:Key×V)=>H t=some (.tup [kV kv.1,kv.2])) ts kvs∧(kvs.map (·.1)).Nodup∧∀d,H d=none→Q (.ref d) (upd H d (.dK kvs))
theorem xhP{pins:List (Addr×Obj)}{σ:L2.St}{H:Hp}{s:ae}(I:Inv X pins σ H s):∀{ts:List Addr} {kvs:List (Key×V)},Paired (fun t (kv:Key×V)=>H t=some (.tup [kV kv.1,kv.2])) ts kvs→
  ∃vs:List (Key×Value),KV kvs vs∧∀(i:Nat) (t:Addr) (p:Key×Value),ts[i]? =some t→vs[i]? =some p→∃key,zZ p.1 key=true∧IsTup s.heap t #[key,p.2]
 |_,_,.nil=>⟨[],.nil,fun i t p e _=>by simp at e⟩
 |t::_,kv::_,.cons h r=>by
  obtain⟨vs,h1,h2⟩:=xhP I r;obtain⟨z,its,rl,tp⟩:=(show xE X.prog X.w H s.heap t (.tup [kV kv.1,kv.2])from I.hok t _ h);cases rl with
  |cons r1 rl=>
   cases rl with
   |cons r2 rl=>
    cases rl;rename_i u1 u2;refine⟨(kv.1,u2)::vs,.cons ⟨rfl,r2⟩ h1,fun i t' p e1 e2=>?_⟩;cases i with
    |zero=>cases e1;cases e2;exact⟨u1,xm0 r1,tp⟩
    |succ i=>exact h2 i t' p (by simpa using e1) (by simpa using e2)
theorem xkp(hc:X.calm=true):yn X (.type "dict") (xpL X.K):=by
 intro pins s σ H xs us Q I r h;obtain⟨p,ts,kvs,rfl,hq,hp,hnd,q⟩:=h;obtain⟨u,rfl,rx⟩:=vals1 r;cases rx;obtain⟨its,r',pl,hz⟩:=I.list hq;obtain⟨vs,hkv,hvs⟩:=xhP I hp;have e1:kvs.length=vs.length:=hkv.length;have e2:ts.length=kvs.length:=hp.length;have e3:its.length=ts.length:=by have:=r'.length;rw[af]at this;lia
 have hzz:ts.length≤aQ:=by rw[af]at hz;exact hz
 refine xko (knd:=xS X.prog X.w) (kvs:=vs) (ts:=fun i=>ts.getD i 0) (I.ok.hd hc) pl (by lia) (fun i v hv=>?_) (fun i pr hpr=>?_) (by rw[←xeU hkv];exact hnd) (by lia) fun h' tk hd hk=>?_
 ·have hi:i<ts.length:=by have:=(aH.mp hv).1;lia
  obtain⟨u,hu1,hu2⟩:=r'.get (i:=i) (x:=.ref ts[i]) (by simp[hi]);rw[hv]at hu1;cases hu1;rw[show v= .ref ts[i]from hu2];simp[bc,hi]
 ·have hi:i<ts.length:=by have:=(aH.mp hpr).1;lia
  have:=hvs i ts[i] pr (aj hi) hpr;have e:ts.getD i 0=ts[i]:=by simp[bc,hi]
  show∃key,zZ pr.1 key=true∧IsTup s.heap (ts.getD i 0) #[key,pr.2];rw[e];exact this
 ·exact⟨.ref s.heap.objs.size,_,I.laid (t':=tk) hk (ak _) (xlj (by lia) (beq_eq_false_iff_ne.mpr (aR (aq I.big))) hkv hd),rfl,q _ I.fresh⟩
end
end L2
namespace L2
open PySem PySem.Spec PyProof.Rows PySem.W
def bst(kk:Nat→List Int):Nat→Nat
 |0=>0
 |j+1=>if HT.lexLt (kk (j+1)) (kk (bst kk j))=true then j+1 else bst kk j
theorem xlR(kk:Nat→List Int):∀j,bst kk j≤j
 |0=>ak _
 |j+1=>by
  unfold bst
  split
  ·exact ak _
  ·exact Nat.le_succ_of_le (xlR kk j)
structure MJ(X:Cx)(H2:Hp)(s2:ae)(G:Hp)(s':ae):Prop where
 os:s'.os=s2.os
 bare:ef s'.gens
 un:Un (frs X.stack) [] H2 G s2.heap s'.heap
 hok:HOk X.prog X.w G s'.heap
 same:xb H2 G
theorem MJ.turn{X:Cx}{H2 G:Hp}{s2 s':ae}{h':Heap}{t:Nat}{b:Addr}(J:MJ X H2 s2 G s')(fb:G b=none)(hb:s2.heap.objs.size≤b)(k:∀c o,c≠b→s'.heap.get? c=some o→h'.get? c=some o):MJ X H2 s2 G {s' with heap:=h',toks:=t}:=by
 have lt2:∀c o,s2.heap.get? c=some o→c≠b:=fun c o q=>aq (au (ai q) hb);refine⟨J.os,J.bare,⟨fun c o q n1 n2 n3=>k c o (lt2 c o q) (J.un.keep c o q n1 n2 n3),fun c o q n1 n2 n3=>?_,J.un.free,fun c o q n3=>?_,J.un.fix⟩,xek J.hok fb k,J.same⟩
 ·obtain⟨sl,e⟩:=J.un.slot c o q n1 n2 n3;exact⟨sl,k c _ (lt2 c o q) e⟩
 ·obtain⟨o',e⟩:=J.un.there c o q n3;exact⟨o',k c _ (lt2 c o q) e⟩
theorem MJ.inv{X:Cx}{H2 G:Hp}{s2 s':ae}{pins:List (Addr×Obj)}{σ:L2.St}(J:MJ X H2 s2 G s')(I:Inv X pins σ H2 s2):Inv X pins σ G s':=I.call' (s':=s') (ch:=[]) J.os J.un J.hok J.bare fun b z=>absurd z (by simp)
def xpM(kk:Nat→List Int)(xs:List Int)(G:Hp)(j:Nat)(old:Array Value):Prop:=
 (j=0∧old=#[])∨∃j',j=j'+1∧∃vb d,old=#[vb,.ref d]∧RelV (.int (xs.getD (bst kk j') 0)) vb∧G d=some (.tup ((kk (bst kk j')).map V.int))
section
variable {X:Cx} {k:Nat} {nm qual:Str} {params:b7} {body:cV} {scope:Scope} {ps:List Str} {sp:List (Str×V)→Sp} {pins:List (Addr×Obj)} {σ:L2.St} {H2:Hp} {s2:ae} {f l S It:Addr} {fv:List (Str×V)} {kk:Nat→List Int} {xs:List Int} {R:fJ→ae→Prop}
theorem xm1(F:yR X.prog X.w X.K X.mg X.base CX0 k nm qual params body scope ps sp)(hr:xI (k+2) X.A)(hcm:X.calm=true)(I:Inv X pins σ H2 s2)(hc:xV H2 f nm qual params body scope fv)(hl:SqL X.K H2 l (xs.map V.int))(hpos:0<xs.length)
  (hsp:∀i x,xs[i]? =some x→∀H3,xb H2 H3→sp fv [.int x] H3 (fun v H4=>xb H3 H4∧∃d,v= .ref d∧H4 d=some (.tup ((kk i).map V.int))) E0)
  (hS:s2.heap.objs.size≤S) (hI:s2.heap.objs.size≤It) (hSI:S≠It)
  (fin:∀v sF G',Inv X pins σ G' sF→xb H2 G'→RelV (.int (xs.getD (bst kk (xs.length - 1)) 0)) v→R (.ok (.ret v)) sF):
  ∀(r j:Nat) (s':ae) (G:Hp) (old:Array Value) (c:Nat),xs.length - j=r→j≤xs.length→MJ X H2 s2 G s'→G S=none→G It=none→s'.heap.get? S=some (aW "list" old c)→xpM kk xs G j old→s'.heap.IsListIter It l j→
   cD (model X.prog X.w) X.A (.builtin "min.loop" ⟨[.ref It,.ref f,.ref S],[]⟩) R s':=by
  intro r
  induction r using Nat.strongRecOn with|ind r ih=>
  intro j s' G old c hk hj J fS fI atS hb hit;have hname:(toString "min"++toString ".loop":String)="min.loop":=by decide
  have Iu:=J.inv I;obtain⟨its,rel,pl,_⟩:=Iu.list (J.same.seq hl);have hn:its.length=xs.length:=by have:=rel.length;rw[af]at this;exact this.symm
  have hlI:l≠It:=fun z=>by
   obtain⟨its2,_,⟨o,n,e,_⟩,_⟩:=I.list hl;exact absurd (ai e) (by rw[z];exact Nat.not_lt.mpr hI)
  have W:=g7 (prog:=X.prog) (w:=X.w) (A:=X.A.in1) (I.ok.hd hcm) It l hlI its.toArray;have hsz:its.toArray.size=xs.length:=by simpa using hn
  refine cO PySem.F.entry_min_loop ?_;rw[c3 PySem.F.plain_min_loop _];show wpAny _ X.A.in1 (seqItems? (.ref S) >>= _) _ _ _;refine aa (eU atS rfl ?_);show wpAny _ X.A.in1 (tryCatch (ik (.ref It)) _ >>= _) _ _ _;cases r with
  |zero=>
   have ej:j=xs.length:=by lia
   refine aa (dA (W.done _ _ _ ⟨by rw[hsz,←ej];exact hit,pl.isList⟩ fun h' tk' hk'=>?_));have J1:MJ X H2 s2 G {s' with heap:=h',toks:=tk'}:=J.turn fI hI fun c o hc q=>hk' c o (by simpa using hc) q;have atS1:=hk' S _ (by simpa using hSI) atS;rcases hb with⟨z,_⟩|⟨j',ej',vb,d,rfl,rv,hd⟩
   ·lia
   show wpAny _ X.A.in1 (fO S (fun _=>#[]) >>= _) _ _ _;refine aa (cM atS1 rfl (aa (dg (ao ?_))) (by show(2:Nat)≤_;decide));have s1:=cw h' S (aV fun _=>(#[]:Array Value));have J2:=J1.turn (h':=h'.update S (aV fun _=>(#[]:Array Value))) (t:=tk') fS hS fun c o hc q=>(s1.2 c hc).trans q;refine fin vb _ G (J2.inv I) J.same ?_;have:xs.length - 1=j':=by lia
   rw[this];exact rv
  |succ r=>
   have hlt:j<xs.length:=by lia
   refine aa (dA (W.item j _ _ _ (by rw[hsz];exact hlt) ⟨hit,pl.isList⟩ fun v h' tk' hP hst' hk'=>?_));have J1:MJ X H2 s2 G {s' with heap:=h',toks:=tk'}:=J.turn fI hI fun c o hc q=>hk' c o (by simpa using hc) q;have atS1:=hk' S _ (by simpa using hSI) atS;obtain⟨oI,hoI,hoc,hod⟩:=hst'.1;have hv:its[j]? =some v:=by simpa using hP
   obtain⟨u,hu1,hu2⟩:=rel.get (i:=j) (x:=.int xs[j]) (by simp[hlt]);rw[hv]at hu1;cases hu1;have Iu1:=J1.inv I;have E0':jm X.prog X.w X.K X.mg X.base X.A.in1 X.stack {s' with heap:=h',toks:=tk'} G:=by
    have e:=Iu1.env0;exact⟨e.frames,e.mod,e.bs,e.bsz,e.funs,e.frf,e.hok,e.bare⟩
   show wpAny _ X.A.in1 (tryCatch (dU [v] (call (.ref f) [v])) _ >>= _) _ _ _;refine aa (dA (bA (dO (cT (F.run X.A.in1 X.stack _ G f fv _ [.int xs[j]] _ E0 (hr.in1.mono (cW k)) E0' (hc.same J.same) (.cons hu2 .nil) (hsp j xs[j] (aj hlt) G J.same)) fun rr s'' hq=>?_))));cases rr with
   |error e=>exact hq.elim
   |ok fl=>
    cases fl with
    |next=>exact hq.elim
    |brk=>exact hq.elim
    |cont=>exact hq.elim
    |ret u=>
     obtain⟨v',H',hos,hbare,hun,hhok,hrv,hSm,d,rfl,hd⟩:=hq;cases hrv;have atS2:=hun.keep S _ atS1 fS (I.young hS) (by simp);have atI2:=hun.keep It _ hoI fI (I.young hI) (by simp);have fS2:H' S=none:=hun.free S _ atS1 fS (by simp);have fI2:H' It=none:=hun.free It _ hoI fI (by simp);have J2:MJ X H2 s2 H' s'':=⟨hos.trans J.os,hbare,J1.un.trans hun,hhok,J.same.trans hSm⟩;have upS:∀(its2:Array Value),∃c2,(s''.heap.update S (aV fun _=>its2)).get? S=some (aW "list" its2 c2):=fun its2=>⟨_,eH atS2 fun _=>its2⟩;have stS:∀(its2:Array Value) (t:Nat),MJ X H2 s2 H' {s'' with heap:=s''.heap.update S (aV fun _=>its2),toks:=t}:=fun its2 t=>
      J2.turn fS2 hS fun c o hc q=>((cw s''.heap S (aV fun _=>its2)).2 c hc).trans q
     have itS:∀(its2:Array Value),(s''.heap.update S (aV fun _=>its2)).IsListIter It l (j+1):=fun its2=>⟨oI,((cw s''.heap S (aV fun _=>its2)).2 It hSI.symm).trans atI2,hoc,hod⟩;rcases hb with⟨z,rfl⟩|⟨j',ej',vb,db,rfl,rv,hdb⟩
     ·subst z;show wpAny _ X.A.in1 (fO S (fun _=>#[v,.ref d]) >>= _) _ _ _;refine aa (cM atS2 rfl ?_);rw[hname];obtain⟨c2,hc2⟩:=upS #[v,.ref d];refine ao ⟨bV PySem.F.plain_min_loop _,ih r (cS r) 1 _ H' _ c2 (by lia) hlt (stS _ _) fS2 fI2 hc2 (.inr ⟨0,rfl,v,d,rfl,?_,hd⟩) (itS _)⟩;have:xs.getD (bst kk 0) 0=xs[0]:=by simp[bst,bc,hlt]
      rw[this];exact hu2
     ·have hdb2:=hSm.at hdb;obtain⟨_,its1,r1,p1⟩:=(show xE X.prog X.w H' s''.heap d _ from hhok d _ hd);obtain⟨_,its2,r2,p2⟩:=(show xE X.prog X.w H' s''.heap db _ from hhok db _ hdb2);show wpAny _ X.A.in1 (tryCatch (dU [v,.ref d] (bK .Lt (.ref d) (.ref db) >>= _)) _ >>= _) _ _ _;refine aa (dA (bA (aa (HT.xjU p1 p2 (intsAre_of r1) (intsAre_of r2) hr.in1.units0 ?_))));refine aa (bA (cy ?_));refine aa (dg (ao ?_));have ex:xs.getD j 0=xs[j]:=by simp[bc,hlt]
      subst ej'
      by_cases hb':HT.lexLt (kk (j'+1)) (kk (bst kk j'))=true
      ·have eb:bst kk (j'+1)=j'+1:=by show(if _ then _ else _)=_;rw[if_pos hb']
       simp only[hb',if_true];refine aa (cM atS2 rfl (aa (dg ?_)) (by show(2:Nat)≤_;decide));rw[hname];obtain⟨c2,hc2⟩:=upS #[v,.ref d];refine ao ⟨bV PySem.F.plain_min_loop _,ih r (cS r) (j'+1+1) _ H' _ c2 (by lia) hlt (stS _ _) fS2 fI2 hc2 (.inr ⟨j'+1,rfl,v,d,rfl,?_,?_⟩) (itS _)⟩
       ·rw[eb,ex];exact hu2
       ·rw[eb];exact hd
      ·have eb:bst kk (j'+1)=bst kk j':=by show(if _ then _ else _)=_;rw[if_neg hb']
       simp only[hb',cf,if_false];refine aa (dg ?_);rw[hname];refine ao ⟨bV PySem.F.plain_min_loop _,ih r (cS r) (j'+1+1) _ H' _ c (by lia) hlt J2 fS2 fI2 atS2 (.inr ⟨j'+1,rfl,vb,db,rfl,?_,?_⟩) ⟨oI,atI2,hoc,hod⟩⟩
       ·rw[eb];exact rv
       ·rw[eb];exact hdb2
def xqx(K:ah)(nm qual:Str)(params:b7)(body:cV)(scope:Scope)(sp:List (Str×V)→Sp)(ta:TA)(tf:TE):TE:=fun σ H Q=>ta σ H fun ys H1=>tf σ H1 fun y H2=>
 ∃(l f:Addr) (xs:List Int) (fv:List (Str×V)) (kk:Nat→List Int),ys=[.ref l]∧y= .ref f∧SqL K H2 l (xs.map V.int)∧0<xs.length∧xV H2 f nm qual params body scope fv∧
 (∀i x,xs[i]? =some x→∀H3,xb H2 H3→sp fv [.int x] H3 (fun v H4=>xb H3 H4∧∃d,v= .ref d∧H4 d=some (.tup ((kk i).map V.int))) E0)∧
 ∀(H':Hp),xb H2 H'→Q (.int (xs.getD (bst kk (xs.length - 1)) 0)) H'
theorem xou{e fe:Expr}{ta:TA}{tf:TE}{p pos kp:Pos}(F:yR X.prog X.w X.K X.mg X.base CX0 k nm qual params body scope ps sp)(hr:xI (k+2) X.A)(hc:X.calm=true)(hg:Gl X "min")(hm:X.mg "min"=none)(ha:PA X [e] ta)(hf:PE X fe tf)
  (he:bN pos (aI [e] X.env)=(false,eval e X.env)::bN pos (aI [] X.env):=by rfl):
  PE X (.Call (.Name "min" p) [e] [⟨some "key",fe,kp⟩] pos) (xqx X.K nm qual params body scope sp ta tf):=by
 intro pins s σ H Q I h;refine bH (yO I hg hm xbq ?_ (by decide) (by decide));refine iK (thn (ha pos pins s σ H _ I h) fun us s1 ⟨xs,H1,I1,r1,q1⟩=>?_) he (by rw[he];rfl) rfl rfl;refine j8 (thn (hf pins s1 σ H1 _ I1 q1) fun fu s2 ⟨y,H2,I2,r2,q2⟩=>kws_nil ?_);obtain⟨l,f,xs,fv,kk,rfl,rfl,hl,hpos,hcl,hsp,q⟩:=q2;obtain⟨u,rfl,ru⟩:=Vals.one r1;cases ru;cases r2;have hname:(toString "min"++toString ".loop":String)="min.loop":=by decide
 obtain⟨its,rel,pl,_⟩:=I2.list hl;show wpAny _ _ (call (.builtin "min") [.ref l] [(cg "key",.ref f)]) _ _ s2;refine kmb_tree PySem.F.kind_min PySem.F.plain_min PySem.F.entry_min (kmb_min_key _ _) ?_;show wpAny _ X.A.in1 (dE "min" ["key","default"] 0 ⟨[],[(cg "key",.ref f)]⟩ >>= _) _ _ s2;refine aa (iL (show dE "min" ["key","default"] 0 ⟨[],[(cg "key",.ref f)]⟩=pure [some (.ref f),none]from rfl) ?_);refine aa (ao ?_);refine aa (dq pl.isList ?_);refine aa (fh ?_ (aN _));rw[hname];refine ao ⟨bV PySem.F.plain_min_loop _,?_⟩;have hSz:(s2.heap.push {cls:=.type "list_iterator",data:=.fields #[.ref l,.int 0 0]}).objs.size=s2.heap.objs.size+1:=cH ..;have hS1:s2.heap.objs.size≤(s2.heap.push {cls:=.type "list_iterator",data:=.fields #[.ref l,.int 0 0]}).objs.size:=by rw[hSz];exact cW _
 have old:∀b o,s2.heap.get? b=some o→((s2.heap.push {cls:=.type "list_iterator",data:=.fields #[.ref l,.int 0 0]}).push (aW "list" #[] 0)).get? b=some o:=fun b o e=>ag _ (ag _ e);refine xm1 (kk:=kk) F hr hc I2 hcl hl hpos hsp hS1 (ak _) (by rw[hSz];exact dC (cS _)) (fun v sF G' IF sm rv=>?_) xs.length 0 _ H2 #[] 0 (by simp) (aN _) ⟨rfl,I2.bare,Un.kept old,I2.hok.kept old,xb.refl _⟩
  (I2.hok.fresh hS1) (I2.hok.fresh (ak _)) (aA _ rfl) (.inl ⟨rfl,rfl⟩) ⟨_,ag _ (aA _ rfl),rfl,rfl⟩
 exact⟨_,G',IF,rv,q G' sm⟩
end
end L2
namespace PySem.W
open PySem PySem.Calls PyProof.Rows
def xov(h:Heap)(ks:List Value):Prop:=∀v∈ks,∃i t,v= .int i t
section
variable {prog:aG} {w:World} {A:aL} {E:Value→ae→Prop} {s:ae} {a kS:Addr} {vs:List Value} {e1:Nat} {f:Value} {P:PySem.Fin→ae→Prop}
def xfP(prog:aG)(w:World)(A:aL)(kS a:Addr)(vs:List Value)(P:PySem.Fin→ae→Prop)(ks:List Value)(s:ae):Prop:=
 ∃lt:Nat→Nat→Bool,L2.STO lt vs.length∧xov s.heap ks∧(∀i j (C:Bool→ae→Prop),i<vs.length→j<vs.length→C (lt i j) s→wpAny (model prog w) A (keyLt' gN (ks.getD i a8) (ks.getD j a8)) C (fun _ _=>False) s)∧
 ∀p:Array Nat,L2.Pm vs.length p→L2.Up lt p vs.length→∀h' c,(∀b o,b≠kS→b≠a→s.heap.get? b=some o→h'.get? b=some o)→h'.get? a=some (aW "list" (az (p.toList.map fun i=>vs.getD i a8)) c)→P (.done (.ret .none)) {s with heap:=h'}
def zT(prog:aG)(w:World)(A:aL)(kS a:Addr)(e1:Nat)(f:Value)(vs:List Value)(P:PySem.Fin→ae→Prop):List Value→List Value→ae→Prop
 |[],ks,s=>s.heap.get? a=some (aW "list" #[] e1)∧xfP prog w A kS a vs P ks s
 |v::r,ks,s=>wpAny (model prog w) A (call f [v]) (fun k s'=>(∃e,s'.heap.get? kS=some (aW "list" (az ks) e))∧∀h' c,(∀b o,b≠kS→s'.heap.get? b=some o→h'.get? b=some o)→h'.get? kS=some (aW "list" (az (ks++[k])) c)→zT prog w A kS a e1 f vs P r (ks++[k]) {s' with heap:=h'}) (fun _ _=>False) s
theorem xm2{ks:List Value}{e:Nat}(hak:a≠kS)(hl:ks.length=vs.length)(h64:vs.length<64)(ha:s.heap.get? a=some (aW "list" #[] e1))(hk:s.heap.get? kS=some (aW "list" (az ks) e))
  (h:xfP prog w A kS a vs P ks s):wpAny (model prog w) A (ksk_end a false vs.toArray e1 (.ref kS) (az ks)) P E s:=by
 obtain⟨lt,S,hL,hcmp,fin⟩:=h;unfold ksk_end
 try dsimp only
 by_cases h2:2≤vs.length
 ·have hn2:¬vs.toArray.size<2:=by rw[ay];lia
  have hk1:wpAny (model prog w) A (keyKind' (az ks)) (fun κ s'=>κ=gN∧s=s') (fun _ _=>False) s:=kas_kind (T:=cF "int") (by lia) (fun v hv=>by obtain⟨i,t,rfl⟩:=hL v hv;exact .now) (by decide) (by decide) ⟨rfl,rfl⟩;simp only[cf,if_false];rw[if_neg hn2,if_neg hn2];refine aa (aK hk1 (fun κ s0 hk=>?_) fun _ _ x=>x.elim);obtain⟨rfl,rfl⟩:=hk;have hw:(kas_sort vs.length).kasWp (kas_ask prog w A gN ks) (fun p s''=>s=s''∧L2.Pm vs.length p∧L2.Up lt p vs.length) s:=by
   refine L2.Wp.kas (lt:=lt) (n:=vs.length) (fun i j C hi hj hc=>hcmp i j C hi hj hc) ?_;exact L2.wp_mono (L2.xjm S h2) fun q hq=>⟨rfl,hq⟩
  refine aa (aK (kat_run (Q:=fun st' s'=>∃p:Array Nat,arrOf st'=p.map (kas_item ((az ks).zip (az vs)))∧failedOf st'=none∧s=s'∧L2.Pm vs.length p∧L2.Up lt p vs.length)
   hl h2 h64 (fun p' st' s' a1 a2 a3 a4=>⟨p',a2,a3,a4⟩) hw) ?_ fun _ _ x=>x)
  rintro⟨⟨⟩,st'⟩ s' ⟨p,har,hf,rfl,hp,hu⟩
  try dsimp only
  refine xbO hak (kat_snds hl har) (by rw[af,br,hp.size];exact h64) (by lia) hf ha hk fun h' c k1 k2=>fin p hp hu h' c k1 k2
 ·have hn2:vs.toArray.size<2:=by rw[ay];lia
  simp only[cf,if_false];rw[if_pos hn2,if_pos hn2];refine aa (ao ?_);refine aa (ao ?_)
  try dsimp only
  have hsn:(arrOf (SortSt.mk' general' ((az ks).zip (az vs)) #[] 7 none)).map (·.2)=az vs:=by
   show((az ks).zip (az vs)).map (·.2)=az vs;apply Array.toList_inj.mp;simp[List.map_snd_zip,hl]
  refine xbO hak hsn h64 (by lia) rfl ha hk fun h' c k1 k2=>fin (az (a9 vs.length)) ⟨by simp,by simp⟩ (fun i j hij hj=>by lia) h' c k1 ?_;have e:((az (a9 vs.length)).toList.map fun i=>vs.getD i a8)=vs:=by
   apply dv;intro i
   by_cases hi:i<vs.length
   ·simp[hi]
   ·simp[hi]
  rw[e];exact k2
theorem xgD{n:Nat}{body:Value→PUnit→Sem (ForInStep PUnit)}(hn:n<64)
  (hb:∀x ks (s:ae) (C:Value→Nat→ae→Prop),cC ks<64→wpAny (model prog w) A (call f [x]) (fun k s'=>(∃e,s'.heap.get? kS=some (aW "list" (az ks) e))∧∀h' c,(∀b o,b≠kS→s'.heap.get? b=some o→h'.get? b=some o)→h'.get? kS=some (aW "list" (az (ks++[k])) c)→C k c {s' with heap:=h'}) (fun _ _=>False) s→
   wpAny (model prog w) A (body x ⟨⟩) (fun r s'=>r= .yield ⟨⟩∧∃k c,s'.heap.get? kS=some (aW "list" (az (ks++[k])) c)∧C k c s') E s):∀(r ks:List Value) (e:Nat) (s:ae),ks.length+r.length=n→
   s.heap.get? kS=some (aW "list" (az ks) e)→zT prog w A kS a e1 f vs P r ks s→
   wpAny (model prog w) A (forIn r j7 body) (fun _ s'=>∃ks e,s'.heap.get? kS=some (aW "list" (az ks) e)∧ks.length=n∧s'.heap.get? a=some (aW "list" #[] e1)∧xfP prog w A kS a vs P ks s') E s
 |[],ks,e,s,hl,hk,h=>by
  rw[iV];exact ao ⟨ks,e,hk,by simpa using hl,h⟩
 |x::r,ks,e,s,hl,hk,h=>by
  rw[bt]at hl;rw[gz];have h':=h;unfold zT at h';refine aa (aK (hb x ks s (fun k c s'=>zT prog w A kS a e1 f vs P r (ks++[k]) s') (by lia) (aK h' (fun k s' hq=>hq) fun _ _ x=>x)) (fun q s' hq=>?_) fun _ _ x=>x);obtain⟨rfl,k,c,hk',h2⟩:=hq;show wpAny (model prog w) A (forIn r j7 body) _ E s';exact xgD hn hb r (ks++[k]) c s' (by rw[av,bB];lia) hk' h2
theorem xkq{n:Nat}(ho:s.heap.get? a=some (aW "list" vs.toArray n))(h64:vs.length<64)
  (h:∀kS e1 h',(∀b o,b≠a→s.heap.get? b=some o→h'.get? b=some o)→h'.get? a=some (aW "list" #[] e1)→h'.get? kS=some (aW "list" #[] 0)→s.heap.objs.size≤kS→zT prog w A kS a e1 f vs P vs [] {s with heap:=h'}):
  wpAny (model prog w) A (ksk_tree a f false) P E s:=by
 have ha:a<s.heap.objs.size:=ai ho;have s1:=cw s.heap a (aV fun _=>(#[]:Array Value));obtain⟨e1,ho1⟩:∃e1,(s.heap.update a (aV fun _=>(#[]:Array Value))).get? a=some (aW "list" #[] e1):=⟨_,eH ho fun _=>#[]⟩;have hkS:((s.heap.update a (aV fun _=>(#[]:Array Value))).push (aW "tuple" vs.toArray 0)).objs.size=s.heap.objs.size+1:=by rw[size_push',iy]
 unfold ksk_tree;refine aa (iz ho rfl ?_);refine aa (fi ho rfl ?_ (by rw[ay,ax];lia) (aN _));refine aa (seqEpoch_at ho1 rfl ?_);refine aa (wpAny_newTuple ?_ (by show vs.length≤_;rw[ax];lia));refine aa (fh ?_ (aN _));refine bA ?_;generalize hK:((s.heap.update a (aV fun _=>(#[]:Array Value))).push (aW "tuple" vs.toArray 0)).objs.size=kS at hkS;generalize hh:((s.heap.update a (aV fun _=>(#[]:Array Value))).push (aW "tuple" vs.toArray 0)).push (aW "list" #[] 0)=h1;have hk0:h1.get? kS=some (aW "list" #[] 0):=by rw[←hh,←hK];exact aA _ rfl
 have hk:=h kS e1 h1 (fun b o hb q=>by rw[←hh];exact ag _ (ag _ ((s1.2 b hb).trans q))) (by rw[←hh];exact ag _ (ag _ ho1)) hk0 (by rw[hkS];exact cW _);have hak:a≠kS:=aq (by rw[hkS];exact Nat.lt_succ_of_lt ha);unfold ksk_rest;refine aa (gY ?_)
 first
  |rw[kF]
  |(rw[←fR];simp only[kh])
  |rw[←fR]
 refine aa (aK (xgD h64 (fun x ks s' C hz hx=>?_) vs [] 0 {s with heap:=h1} (by simp) hk0 hk) (fun _ s' hd=>?_) fun _ _ x=>x)
 ·refine aa (wpAny_attempt (aK hx (fun k s'' hk=>?_) fun _ _ hF=>hF.elim));obtain⟨⟨e,nk⟩,c⟩:=hk;have s1:=cw s''.heap kS (aV (·.push k));have ea:(az ks).push k=az (ks++[k]):=by simp
  obtain⟨c2,hc2⟩:∃c2,(s''.heap.update kS (aV (·.push k))).get? kS=some (aW "list" (az (ks++[k])) c2):=⟨_,by rw[←ea];exact eH nk (·.push k)⟩
  try dsimp only
  refine aa (fi nk rfl ?_ (by rw[ay,ax];lia) (bg (gw (Array.size_push ..)) (by rw[ay,ax];lia)));exact ao ⟨rfl,k,c2,hc2,c _ c2 (fun b o hb q=>(s1.2 b hb).trans q) hc2⟩
 ·obtain⟨ks,e,hk',hl,ha',fin⟩:=hd
  try dsimp only
  refine aa (iz hk' rfl ?_);exact xm2 hak hl h64 ha' hk' fin
end
end PySem.W
namespace L2
open PySem PySem.Spec PyProof.Rows PySem.W
structure xqy(X:Cx)(H2:Hp)(s2:ae)(kk:Nat→Int)(D kS:Addr)(e1:Nat)(ks:List Value)(G:Hp)(s':ae):Prop where
 os:s'.os=s2.os
 bare:ef s'.gens
 un:Un (frs X.stack) [] H2 G s2.heap s'.heap
 hok:HOk X.prog X.w G s'.heap
 same:xb H2 G
 keys:∀i,i<ks.length→∃t,ks[i]? =some (.int (kk i) t)
 atD:s'.heap.get? D=some (aW "list" #[] e1)
 fD:G D=none
 fk:G kS=none
section
variable {X:Cx} {k:Nat} {nm qual:Str} {params:b7} {body:cV} {scope:Scope} {ps:List Str} {sp:List (Str×V)→Sp} {pins:List (Addr×Obj)} {σ:St} {H2:Hp} {s2:ae} {f D kS:Addr} {fv:List (Str×V)} {kk:Nat→Int} {vs:List Value} {xs:List V} {P:PySem.Fin→ae→Prop} {e1:Nat}
theorem xgE(F:yR X.prog X.w X.K X.mg X.base CX0 k nm qual params body scope ps sp)(hr:xI (k+2) X.A)(I:Inv X pins σ H2 s2)(hc:xV H2 f nm qual params body scope fv)
  (hsp:∀i x,xs[i]? =some x→∀H3,xb H2 H3→sp fv [x] H3 (fun v H4=>xb H3 H4∧v= .int (kk i)) E0)
  (hv:Vals xs vs) (hD:s2.heap.objs.size≤D) (hk:s2.heap.objs.size≤kS) (hDk:D≠kS) (h64:vs.length<64)
  (S:STO (fun i j=>decide (kk i<kk j)) vs.length)
  (fin:∀p:Array Nat,Pm vs.length p→Up (fun i j=>decide (kk i<kk j)) p vs.length→∀sF G',Inv X pins σ G' sF→xb H2 G'→G' D=some (.lst (p.toList.map fun(i:Nat)=>xs.getD i .non))→P (.done (.ret .none)) sF):
  ∀(r ks:List Value) (s':ae) (G:Hp),r=vs.drop ks.length→ks.length≤vs.length→xqy X H2 s2 kk D kS e1 ks G s'→(∃e,s'.heap.get? kS=some (aW "list" (az ks) e))→
   zT X.prog X.w X.A.in1.in1 kS D e1 (.ref f) vs P r ks s'
 |[],ks,s',G,hr0,hle,J,hkS=>by
  have hlen:ks.length=vs.length:=by
   have:=congrArg cC hr0;simp at this;lia
  unfold zT;refine⟨J.atD,fun i j=>decide (kk i<kk j),S,fun v hvm=>?_,fun i j C hi hj hC=>?_,fun p hp hu h' c keep hDc=>?_⟩
  ·obtain⟨i,hi,rfl⟩:=cZ.mp hvm;obtain⟨t,h1⟩:=J.keys i hi;rw[aj hi]at h1;exact⟨_,t,bp h1⟩
  ·obtain⟨t1,a1⟩:=J.keys i (by lia);obtain⟨t2,b1⟩:=J.keys j (by lia);have g1:ks.getD i a8= .int (kk i) t1:=by simp[bc,a1]
   have g2:ks.getD j a8= .int (kk j) t2:=by simp[bc,b1]
   rw[g1,g2,keyLt'_oneType];exact oneLt_int hC
  ·have lenp:p.toList.length=vs.length:=by rw[br];exact hp.size
   have hvals:Vals (p.toList.map fun(i:Nat)=>xs.getD i .non) (p.toList.map fun i=>vs.getD i a8):=by
    refine vU (by simp) fun j x u e1 e2=>?_;rw[aF]at e1 e2;cases q:p.toList[j]? with
    |none=>rw[q]at e1;cases e1
    |some m=>
     rw[q]at e1 e2;cases e1;have hm:m<vs.length:=bx.mp (hp.perm.mem_iff.mp (aB q));have hmx:m<xs.length:=by rw[hv.length];exact hm
     obtain⟨w',hw1,hw2⟩:=hv.get (i:=m) (x:=xs[m]) (aj hmx);cases e2;have g1:vs.getD m a8=w':=by simp[bc,hw1]
     have g2:xs.getD m .non=xs[m]:=by simp[bc,hmx]
     show RelV (xs.getD m .non) (vs.getD m a8);rw[g1,g2];exact hw2
   have newD:xE X.prog X.w (upd G D (.lst (p.toList.map fun(i:Nat)=>xs.getD i .non))) h' D (.lst (p.toList.map fun(i:Nat)=>xs.getD i .non)):=⟨by rw[af,lenp,ax];lia,_,c,hvals,hDc⟩;have hokF:HOk X.prog X.w (upd G D (.lst (p.toList.map fun(i:Nat)=>xs.getD i .non))) h':=fun b u e=>by
    by_cases hb:b=D
    ·subst hb;rw[xk]at e;cases e;exact newD
    ·rw[xj hb]at e;refine(J.hok b u e).stay (fun c' v hc' q=>keep c' v ?_ ?_ q) (fun c' q=>by rw[xj (xv q J.fD)];exact q) fun c' xs q _=>by rw[xj (xv q J.fD)];exact q
     ·rintro rfl;rcases hc' with z|z
      ·rw[←z,J.fk]at e;cases e
      ·rw[J.fk]at z;cases z
     ·rintro rfl;rcases hc' with z|z
      ·exact hb z.symm
      ·rw[J.fD]at z;cases z
   have lt2:∀b o,s2.heap.get? b=some o→b≠D∧b≠kS:=fun b o q=>⟨aq (au (ai q) hD),aq (au (ai q) hk)⟩;have un2:Un (frs X.stack) [] H2 (upd G D (.lst (p.toList.map fun(i:Nat)=>xs.getD i .non))) s2.heap h':=by
    refine⟨fun b o q n1 n2 n3=>keep b o (lt2 b o q).2 (lt2 b o q).1 (J.un.keep b o q n1 n2 n3),fun b o q n1 n2 n3=>?_,fun b o q n1 n3=>by rw[xj (lt2 b o q).1];exact J.un.free b o q n1 n3,fun b o q n3=>?_,fun b u q fx=>?_⟩
    ·obtain⟨sl,e⟩:=J.un.slot b o q n1 n2 n3;exact⟨sl,keep b _ (lt2 b o q).2 (lt2 b o q).1 e⟩
    ·obtain⟨o',e⟩:=J.un.there b o q n3;exact⟨o',keep b _ (lt2 b o q).2 (lt2 b o q).1 e⟩
    ·have:=J.un.fix b u q fx;rw[xj (xv this J.fD)];exact this
   have IF:Inv X pins σ (upd G D (.lst (p.toList.map fun(i:Nat)=>xs.getD i .non))) {s' with heap:=h'}:=I.call' (s':={s' with heap:=h'}) (ch:=[]) J.os un2 hokF J.bare fun b z=>absurd z (by simp);refine fin p hp hu _ _ IF (fun b u q=>?_) xk;have:=J.same b u q;rw[xj (xv this J.fD)];exact this
 |x::r,ks,s',G,hr0,hle,J,hkS=>by
  have hlt:ks.length<vs.length:=by
   have:=congrArg cC hr0;simp at this;lia
  have hx:vs[ks.length]? =some x:=by
   have:=congrArg (fun l=>l[0]?) hr0;simp at this;exact this.symm
  have hr1:r=vs.drop (ks.length+1):=by
   have:=congrArg List.tail hr0;simpa using this
  have hxx:ks.length<xs.length:=by rw[hv.length];exact hlt
  obtain⟨w',hw1,hw2⟩:=hv.get (i:=ks.length) (x:=xs[ks.length]) (aj hxx);rw[hx]at hw1;cases hw1;have Iu:Inv X pins σ G s':=I.call' (s':=s') (ch:=[]) J.os J.un J.hok J.bare fun b z=>absurd z (by simp);have E0':jm X.prog X.w X.K X.mg X.base X.A.in1.in1 X.stack s' G:=by
   have e:=Iu.env0;exact⟨e.frames,e.mod,e.bs,e.bsz,e.funs,e.frf,e.hok,e.bare⟩
  unfold zT;refine dO (cT (F.run X.A.in1.in1 X.stack s' G f fv _ [xs[ks.length]] _ E0 hr.in1.in1 E0' (hc.same J.same) (.cons hw2 .nil) (hsp ks.length _ (aj hxx) G J.same)) fun rr s'' hq=>?_);cases rr with
  |error e=>exact hq.elim
  |ok fl=>
   cases fl with
   |next=>exact hq.elim
   |brk=>exact hq.elim
   |cont=>exact hq.elim
   |ret u=>
    obtain⟨v,H',hos,hbare,hun,hhok,hrv,hS,rfl⟩:=hq;obtain⟨tv,rfl⟩:=hrv;obtain⟨e,hkSe⟩:=hkS;have hDs:D∉frs X.stack:=I.young hD;have hks:kS∉frs X.stack:=I.young hk;have kD:=hun.keep D _ J.atD J.fD hDs (by simp);have kk2:=hun.keep kS _ hkSe J.fk hks (by simp);refine⟨⟨e,kk2⟩,fun h' c keep hnew=>?_⟩;refine xgE F hr I hc hsp hv hD hk hDk h64 S fin r (ks++[.int (kk ks.length) tv]) {s'' with heap:=h'} H' (by rw[hr1,av];rfl) (by rw[av];exact hlt) ⟨hos.trans J.os,hbare,?_,?_,J.same.trans hS,fun i hi=>?_,keep D _ hDk kD,hun.free D _ J.atD J.fD (by simp),hun.free kS _ hkSe J.fk (by simp)⟩ ⟨c,hnew⟩
    ·have u2:=J.un.trans hun;have lt2:∀b o,s2.heap.get? b=some o→b≠kS:=fun b o q=>aq (au (ai q) hk);refine⟨fun b o q n1 n2 n3=>keep b o (lt2 b o q) (u2.keep b o q n1 n2 n3),fun b o q n1 n2 n3=>?_,u2.free,fun b o q n3=>?_,u2.fix⟩
     ·obtain⟨sl,e⟩:=u2.slot b o q n1 n2 n3;exact⟨sl,keep b _ (lt2 b o q) e⟩
     ·obtain⟨o',e⟩:=u2.there b o q n3;exact⟨o',keep b _ (lt2 b o q) e⟩
    ·exact xek hhok (hun.free kS _ hkSe J.fk (by simp)) fun c' o hcb q=>keep c' o hcb q
    ·rw[av,bB]at hi
     by_cases hij:i=ks.length
     ·subst hij;exact⟨tv,by rw[bE (ak _)];simp⟩
     ·obtain⟨t',g1⟩:=J.keys i (by lia);exact⟨t',by rw[bj (by lia)];exact g1⟩
def xow(K:ah)(nm qual:Str)(params:b7)(body:cV)(scope:Scope)(sp:List (Str×V)→Sp)(ta:TA)(tf:TE):TE:=fun σ H Q=>ta σ H fun ys H1=>tf σ H1 fun y H2=>
 ∃(r f:Addr) (xs:List V) (fv:List (Str×V)) (kk:Nat→Int),ys=[.ref r]∧y= .ref f∧SqL K H2 r xs∧xs.length<64∧xV H2 f nm qual params body scope fv∧
 (∀i x,xs[i]? =some x→∀H3,xb H2 H3→sp fv [x] H3 (fun v H4=>xb H3 H4∧v= .int (kk i)) E0)∧STO (fun i j=>decide (kk i<kk j)) xs.length∧
 ∀(l:Addr) (p:List Nat) (H':Hp),xb H2 H'→H2 l=none→H' l=some (.lst (p.map fun(i:Nat)=>xs.getD i .non))→p.Perm (a9 xs.length)→(p.Pairwise fun i j=>decide (kk i<kk j)=true)→Q (.ref l) H'
theorem xiQ{e fe:Expr}{ta:TA}{tf:TE}{p pos kp:Pos}(F:yR X.prog X.w X.K X.mg X.base CX0 k nm qual params body scope ps sp)(hr:xI (k+2) X.A)(hg:Gl X "sorted")(hm:X.mg "sorted"=none)(ha:PA X [e] ta)(hf:PE X fe tf)
  (he:bN pos (aI [e] X.env)=(false,eval e X.env)::bN pos (aI [] X.env):=by rfl):
  PE X (.Call (.Name "sorted" p) [e] [⟨some "key",fe,kp⟩] pos) (xow X.K nm qual params body scope sp ta tf):=by
 intro pins s σ H Q I h;refine bH (yO I hg hm xgw ?_ (by decide) (by decide));refine iK (thn (ha pos pins s σ H _ I h) fun us s1 ⟨xs,H1,I1,r1,q1⟩=>?_) he (by rw[he];rfl) rfl rfl;refine j8 (thn (hf pins s1 σ H1 _ I1 q1) fun fu s2 ⟨y,H2,I2,r2,q2⟩=>kws_nil ?_);obtain⟨r,f,xs,fv,kk,rfl,rfl,hl,h64,hcl,hsp,S,q⟩:=q2;obtain⟨u,rfl,ru⟩:=Vals.one r1;cases ru;cases r2;obtain⟨its,rel,pl,_⟩:=I2.list hl;have hn:xs.length=its.length:=rel.length;show wpAny _ _ (call (.builtin "sorted") [.ref r] [(cg "key",.ref f)]) _ _ s2;refine call_function_entry_kw kind_sorted plain_sorted entry_sorted (ksk_s1 _ _) ?_;unfold eR.«sorted»;refine aa (m:=checkCount "sorted" 1 1 _) (ao ?_);refine aa (collect_list pl.isList ?_ (by rw[ax];lia));generalize hg':(s2.heap.push (aW "list" #[] 0)).update s2.heap.objs.size (aV (· ++its.toArray))=g;have keep:∀b o,s2.heap.get? b=some o→g.get? b=some o:=fun b o e=>by
  rw[←hg'];exact(aZ _ _ (dC (ai e))).trans (ag _ e)
 have hlt:s2.heap.objs.size<g.objs.size:=by rw[←hg',iy,cH];exact cS _
 refine aa (fh ?_ (by rw[ax];lia));have hoL:(g.push (aW "list" its.toArray 0)).get? g.objs.size=some (aW "list" its.toArray 0):=aA _ rfl;refine aa (bA (wpAny_call_entry_kw slot_list_sort ⟨_,hoL,rfl⟩ entry_list_sort ?body (ksk_l1 _ _)))
 case body=>
  show wpAny (model X.prog X.w) X.A.in1.in1 (eR.«list.sort» ⟨[.ref g.objs.size],[(cg "key",.ref f)]⟩) _ _ _;rw[ksk_t1];have h64':its.length<64:=by rw[←hn];exact h64
  have hsg:s2.heap.objs.size≤g.objs.size:=bS hlt;refine xkq (s:={s2 with heap:=g.push (aW "list" its.toArray 0)}) hoL h64' fun kS e1 h' keep2 atD atk hkS=>?_;have hkS':g.objs.size<kS:=au (by show g.objs.size<(g.push _).objs.size;rw[cH];exact cS _) hkS;have old:∀b o,s2.heap.get? b=some o→h'.get? b=some o:=fun b o e=>keep2 b o (aq (au (ai e) hsg)) (ag _ (keep b o e));refine xgE (kk:=kk) (xs:=xs) F hr I2 hcl hsp rel hsg (bg hsg (bS hkS')) (aq hkS') h64' (by rw[←hn];exact S) (fun p hp hu sF G' IF sm hDv=>?_) its [] _ H2 rfl (aN _)
   ⟨rfl,I2.bare,Un.kept old,I2.hok.kept old,xb.refl _,fun i hi=>absurd hi (cP _),atD,I2.hok.fresh hsg,I2.hok.fresh (bg hsg (bS hkS'))⟩ ⟨0,atk⟩
  rw[←hn]at hp hu;exact⟨_,rfl,ao ⟨_,rfl,.ref g.objs.size,G',IF,rfl,q _ p.toList G' sm (I2.hok.fresh hsg) hDv hp.perm (xdT hp hu)⟩⟩
end
end L2
namespace L2
open PySem PySem.Spec PyProof.Rows
section
variable {X:Cx} {tg:Expr} {K:ah}
theorem xm3{l:Expr}{tl:TE}(e:X.K=K)(hl:PE X l tl):PI X tg l (xnA K tl):=e▸xW hl
end
end L2
namespace L2
open PySem PySem.Spec PyProof.Rows
theorem xdU{K:ah}{l:Addr}{xs:List V}{te:TE}{caps:L2.St}{Q:VK}{H2:Hp}(Pv:Nat→List V→Hp→Prop)(hl:SqL K H2 l xs)(hn:xs.length≤aQ)(h0:Pv 0 [] H2)
  (hs:∀(i:Nat) x acc H3 H3',xs[i]? =some x→xb H2 H3→xb H3 H3'→Pv i acc H3→∃T v1 v2,x= .ref T∧SqT K H3' T [v1,v2]∧∀R:VK,(∀u H6',xb H3' H6'→(∀H6,xb H3 H6→(∀p o,(H3' p=none∨∀ys,o≠HO.lst ys)→H6' p=some o→H6 p=some o)→Pv (i+1) (acc++[u]) H6)→R u H6')→te (some v1::some v2::caps) H3' R)
  (hd:∀D acc H H',H2 D=none→H D=none→xb H2 H→xb H H'→Pv xs.length acc H→acc.length=xs.length→H' D=some (.lst acc)→Q (.ref D) H'):vM K (Itl K l) caps xef te Q H2:=by
 unfold vM;intro D hD;refine⟨fun i m acc H3=>m=xs.length - i∧i≤xs.length∧acc.length=i∧H3 D=some (.lst acc)∧xb H2 (del H3 D)∧Pv i acc (del H3 D),⟨xs.length,by simp,aN _,rfl,xk,?_,?_⟩,?_⟩
 ·rw[yr,zR hD];exact xb.refl _
 ·rw[yr,zR hD];exact h0
 rintro i m acc H3 ⟨rfl,hi,hacc,hD3,s3,p3⟩;refine⟨hD3,?_⟩;have q:=(s3.trans yQ).seq hl
 by_cases hlt:i<xs.length
 ·have hx:xs[i]? =some xs[i]:=aj hlt;refine .inr ⟨⟨xs,xs[i],q,hx⟩,by lia,fun v H4 y=>?_⟩;obtain⟨e,y⟩:=y;have ev:=y xs q;rw[hx]at ev;cases ev;subst e;obtain⟨T,v1,v2,h1,h2,h3⟩:=hs i _ acc _ _ hx s3 yQ p3;refine⟨T,v1,v2,h1,h2,fun _=>?_,fun z=>by cases z⟩;refine h3 _ fun u H6' s6 k=>⟨s6.at hD3,xs.length - (i+1),by lia,rfl,hlt,by simp[hacc],xk,?_,?_⟩
  ·rw[yr];exact s3.trans (zS s6)
  ·rw[yr];refine k _ (zS s6) fun p o q1 q2=>?_;rw[vd (fun z=>by
    rcases q1 with q1|q1
    ·rw[z,hD3]at q1;cases q1
    ·rw[z,s6.at hD3]at q2;cases q2;exact q1 _ rfl)]
   exact q2
 ·have e:i=xs.length:=by lia
  subst e;exact .inl ⟨⟨xs,q,ak _⟩,hd D acc _ H3 hD zA s3 yQ p3 hacc hD3⟩
end L2
namespace K93
open PySem PySem.Spec PyProof.Rows L2
def top(i:Nat):Stmt:=PySem.Challenge.pw_oneroom_k93_whole_made_and_done.main.body.getD i (.Pass ⟨0,0,0,0⟩)
abbrev jq:Stmt:=inClass (top 4) 0
abbrev xbS:Stmt:=inClass (top 7) 0
abbrev xad:Stmt:=inClass (top 7) 1
abbrev jr:Stmt:=inClass (top 7) 2
abbrev xa7:Stmt:=inClass (top 8) 0
abbrev xae:Stmt:=inClass (top 8) 1
abbrev jt:Stmt:=inClass (top 8) 4
abbrev uq:Stmt:=inClass (top 8) 5
abbrev vg:Stmt:=inClass (top 8) 6
abbrev xa8:Stmt:=inClass (top 8) 8
abbrev xbT:Stmt:=inClass (top 9) 0
abbrev xaf:Stmt:=inClass (top 9) 3
abbrev vN:Stmt:=inClass (top 9) 4
abbrev xbU:Stmt:=inClass (top 9) 6
abbrev xen:Stmt:=top 10
abbrev xag:Stmt:=top 11
abbrev xa9:Stmt:=top 12
abbrev xba:Stmt:=top 13
abbrev xcS:Stmt:=top 14
abbrev vh:Stmt:=top 15
abbrev xbV:Stmt:=top 16
abbrev xbb:Stmt:=top 18
abbrev xfQ:Stmt:=top 19
abbrev uL:Stmt:=top 20
abbrev vi:Stmt:=top 21
abbrev vj:Stmt:=top 22
abbrev zB:Stmt:=top 23
abbrev zU:Stmt:=top 25
abbrev xcT:Stmt:=top 26
abbrev vk:Stmt:=top 27
abbrev xbW:Stmt:=top 28
abbrev xeo:Stmt:=top 31
abbrev xbc:Stmt:=top 32
abbrev xah:Stmt:=top 33
abbrev vO:Stmt:=top 34
abbrev ur:Stmt:=top 35
abbrev xhQ:Stmt:=top 36
abbrev xbt:Stmt:=top 38
abbrev xai:Stmt:=top 39
abbrev vm:Stmt:=top 40
abbrev yC:Stmt:=top 41
abbrev uM:Stmt:=top 42
abbrev xcU:Stmt:=top 43
abbrev uN:Stmt:=top 44
abbrev xbX:Stmt:=inClass (top 46) 0
abbrev uO:Stmt:=inClass (top 46) 1
abbrev zC:Stmt:=inClass (top 46) 2
abbrev zp:Stmt:=inClass (top 47) 0
abbrev xaj:Stmt:=inClass (top 47) 1
abbrev yI:Stmt:=inClass (top 47) 2
abbrev xak:Stmt:=inClass (top 47) 3
abbrev ju:Stmt:=inClass (top 47) 4
abbrev jv:Stmt:=inClass (top 47) 5
abbrev xal:Stmt:=inClass (top 47) 6
abbrev zg:Stmt:=inClass (top 47) 8
abbrev yc:Stmt:=inClass (top 47) 9
abbrev xcV:Stmt:=top 49
abbrev xfR:Stmt:=top 50
abbrev xfS:Stmt:=top 51
abbrev xfT:Stmt:=top 52
abbrev xcW:Stmt:=top 53
abbrev xfU:Stmt:=top 54
abbrev xcX:Stmt:=top 55
abbrev xbY:Stmt:=top 56
abbrev q0L:Addr:=339
abbrev yZ:Addr:=335
def uA:List (Pos×Str):=[(⟨148,45,148,70⟩,"do_piece.<locals>.<lambda>")]
abbrev q1j:Addr:=346
abbrev za:Addr:=342
def ue:List (Pos×Str):=[(⟨151,40,151,60⟩,"endings.<locals>.<lambda>")]
abbrev q0o:Addr:=427
abbrev yk:Addr:=425
def zb:List (Pos×Str):=[(⟨240,35,240,80⟩,"put_in_order.<locals>.<lambda>")]
abbrev q1F:Addr:=446
abbrev zV:Addr:=442
def jc:List (Pos×Str):=[(⟨255,32,255,50⟩,"joined.<locals>.<lambda>")]
abbrev q0u:Addr:=510
abbrev yJ:Addr:=506
def uf:List (Pos×Str):=[(⟨298,50,298,69⟩,"Store.write.<locals>.<lambda>")]
abbrev q0i:Addr:=557
abbrev yd:Addr:=553
def zc:List (Pos×Str):=[(⟨321,52,321,70⟩,"Store.note_down.<locals>.<lambda>")]
abbrev q2W:Addr:=616
abbrev xdC:Addr:=612
def xhR:List (Pos×Str):=[(⟨382,35,382,103⟩,"law.<locals>.<lambda>")]
set_option genInjectivity false in
set_option genSizeOf false in
set_option genSizeOfSpec false in
structure Adr where
 q0X:Addr
 jw:aw
 q1z:Addr
 xbZ:aw
 q0C:Addr
 xam:aw
 q0Y:Addr
 jx:aw
 q1k:Addr
 xbd:aw
 q07:Addr
 xan:aw
 q0Z:Addr
 jy:aw
 q0q:Addr
 uu:aw
 q0A:Addr
 vn:aw
 q1l:Addr
 xbe:aw
 q1i:Addr
 jM:aw
 q08:Addr
 xao:aw
 q0J:Addr
 vP:aw
 q1A:Addr
 xb0:aw
 q2v:Addr
 xep:aw
 q1o:Addr
 xap:aw
 q1G:Addr
 xbf:aw
 q1H:Addr
 xbg:aw
 q2c:Addr
 xcY:aw
 q0M:Addr
 vo:aw
 q13:Addr
 xb1:aw
 q1I:Addr
 xbh:aw
 q2I:Addr
 xfV:aw
 q0F:Addr
 uP:aw
 q0N:Addr
 vp:aw
 q0O:Addr
 vq:aw
 q1B:Addr
 jN:aw
 q11:Addr
 xaT:aw
 q2d:Addr
 xcZ:aw
 q0P:Addr
 vt:aw
 q14:Addr
 xb2:aw
 q2w:Addr
 xeq:aw
 q1J:Addr
 xbi:aw
 q1p:Addr
 xaq:aw
 q03:Addr
 vQ:aw
 q0y:Addr
 uv:aw
 q27:Addr
 xhS:aw
 q2C:Addr
 xc0:aw
 q2x:Tok
 q1q:Addr
 xar:aw
 q0Q:Addr
 vw:aw
 q0K:Addr
 ug:aw
 q0G:Addr
 uQ:aw
 q2e:Addr
 xc1:aw
 q2f:Addr
 xb3:aw
 q1C:Addr
 xb4:aw
 q0t:Addr
 uR:aw
 q0j:Addr
 zD:aw
 q0R:Addr
 vx:aw
 q09:Addr
 xas:aw
 q0E:Addr
 uF:aw
 q1a:Addr
 xat:aw
 q00:Addr
 jz:aw
 q01:Addr
 jA:aw
 q1b:Addr
 xau:aw
 q0g:Addr
 zh:aw
 q0l:Addr
 zi:aw
 q2g:Addr
 xc2:aw
 q2J:Addr
 xfW:aw
 q2K:Addr
 xfX:aw
 q2L:Addr
 xfY:aw
 q2h:Addr
 xc3:aw
 q2M:Addr
 xfZ:aw
 q2i:Addr
 xc4:aw
 q29:Addr
 xhj:aw
 q15:Addr
 q0a:Addr
 q0c:Addr
 q0r:Addr
 q0b:Addr
 q0f:Addr
 q1c:Addr
structure Txt(K:ah)(mg:Str→Option Value)(a:Adr):Prop where
 q1u:Fun K "__init__" "Fallen.__init__" jq a.q0X a.jw
 xgU:Binds K a.jw ["self","count"] []
 q2p:Fun K "__init__" "Row.__init__" xbS a.q1z a.xbZ
 xb5:Binds K a.xbZ ["self","to"] []
 q1Q:Fun K "covers" "Row.covers" xad a.q0C a.xam
 xc5:Binds K a.xam ["self"] []
 q1v:Fun K "covered" "Row.covered" jr a.q0Y a.jx
 xgV:Binds K a.jx ["self"] []
 q2a:Fun K "__init__" "Take.__init__" xa7 a.q1k a.xbd
 xdV:Binds K a.xbd ["self","to","start","count"] []
 q1R:Fun K "stays" "Take.stays" xae a.q07 a.xan
 xav:Binds K a.xan ["self"] []
 q1w:Fun K "pieces" "Take.pieces" jt a.q0Z a.jy
 xgW:Binds K a.jy ["self"] []
 q0V:Fun K "source_for" "Take.source_for" uq a.q0q a.uu
 jD:Binds K a.uu ["self","cell"] []
 q1h:Fun K "sign_for" "Take.sign_for" vg a.q0A a.vn
 xeV:Binds K a.vn ["self","cell","read"] []
 q2b:Fun K "told" "Take.told" xa8 a.q1l a.xbe
 xbj:Binds K a.xbe ["self"] []
 q16:Fun K "__init__" "Put.__init__" xbT a.q1i a.jM
 jO:Binds K a.jM ["self","to","signs"] []
 q1S:Fun K "pieces" "Put.pieces" xaf a.q08 a.xao
 xhT:Binds K a.xao ["self"] []
 q1m:Fun K "sign_for" "Put.sign_for" vN a.q0J a.vP
 xf0:Binds K a.vP ["self","cell","read"] []
 q2q:Fun K "told" "Put.told" xbU a.q1A a.xb0
 xkr:Binds K a.xb0 ["self"] []
 q1K:Fun K "row_of" "row_of" xen a.q2v a.xep
 xb6:Binds K a.xep ["told"] []
 xb7:mg "row_of"=some (.ref a.q2v)
 q1r:Fun K "tells_take" "tells_take" xag a.q1o a.xap
 xhU:Binds K a.xap ["told"] []
 xhV:mg "tells_take"=some (.ref a.q1o)
 q1L:Fun K "tells_put" "tells_put" xa9 a.q1G a.xbf
 xiR:Binds K a.xbf ["told"] []
 xiS:mg "tells_put"=some (.ref a.q1G)
 q1M:Fun K "are_signs" "are_signs" xba a.q1H a.xbg
 xiT:Binds K a.xbg ["signs"] []
 xiU:mg "are_signs"=some (.ref a.q1H)
 q2j:Fun K "is_sign" "is_sign" xcS a.q2c a.xcY
 xlS:Binds K a.xcY ["value"] []
 xlT:mg "is_sign"=some (.ref a.q2c)
 q0m:Fun K "is_whole_from" "is_whole_from" vh a.q0M a.vo
 zN:Binds K a.vo ["least","value"] []
 zO:mg "is_whole_from"=some (.ref a.q0M)
 q1D:Fun K "is_whole" "is_whole" xbV a.q13 a.xb1
 xeW:Binds K a.xb1 ["value"] []
 xeX:mg "is_whole"=some (.ref a.q13)
 q1N:Fun K "pieces_of" "pieces_of" xbb a.q1I a.xbh
 xiV:Binds K a.xbh ["paper"] []
 xiW:mg "pieces_of"=some (.ref a.q1I)
 q2N:Fun K "go_on" "go_on" xfQ a.q2I a.xfV
 xox:Binds K a.xfV ["store","paper"] []
 xoy:mg "go_on"=some (.ref a.q2I)
 q0H:Fun K "refuse_lengths" "refuse_lengths" uL a.q0F a.uP
 xer:Binds K a.uP ["size","paper"] []
 xes:mg "refuse_lengths"=some (.ref a.q0F)
 q0S:Fun K "refuse_beyond" "refuse_beyond" vi a.q0N a.vp
 xeY:Binds K a.vp ["size","pieces"] []
 xeZ:mg "refuse_beyond"=some (.ref a.q0N)
 q0T:Fun K "places_needed" "places_needed" vj a.q0O a.vq
 xe0:Binds K a.vq ["row","cells"] []
 xe1:mg "places_needed"=some (.ref a.q0O)
 vy:Fun K "do_piece" "do_piece" zB a.q1B a.jN
 xks:Binds K a.jN ["store","row","cells"] []
 xkt:mg "do_piece"=some (.ref a.q1B)
 q2X:zJ K q0L yZ
 xiX:a.jN.code= .ref q0L
 jd:Fun K "endings" "endings" zU a.q11 a.xaT
 xlU:Binds K a.xaT ["text"] []
 xlV:mg "endings"=some (.ref a.q11)
 q3f:zJ K q1j za
 xku:a.xaT.code= .ref q1j
 q2k:Fun K "longest" "longest" xcT a.q2d a.xcZ
 xlW:Binds K a.xcZ ["text","table","part"] []
 xlX:mg "longest"=some (.ref a.q2d)
 q0U:Fun K "how_many_less" "how_many_less" vk a.q0P a.vt
 xe2:Binds K a.vt ["text","table","part"] []
 xe3:mg "how_many_less"=some (.ref a.q0P)
 q17:Fun K "agreeing" "agreeing" xbW a.q14 a.xb2
 xkv:Binds K a.xb2 ["text","at","part"] []
 xkw:mg "agreeing"=some (.ref a.q14)
 q2y:Fun K "spoils" "spoils" xeo a.q2w a.xeq
 xm4:Binds K a.xeq ["rows"] []
 xm5:mg "spoils"=some (.ref a.q2w)
 q1O:Fun K "spoilt_by" "spoilt_by" xbc a.q1J a.xbi
 xiY:Binds K a.xbi ["number","stretch","read"] []
 xiZ:mg "spoilt_by"=some (.ref a.q1J)
 q1s:Fun K "ring_among" "ring_among" xah a.q1p a.xaq
 xhW:Binds K a.xaq ["spoilt","left"] []
 xhX:mg "ring_among"=some (.ref a.q1p)
 q04:Fun K "stretch_read" "stretch_read" vO a.q03 a.vQ
 xf1:Binds K a.vQ ["row"] []
 xf2:mg "stretch_read"=some (.ref a.q03)
 q0z:Fun K "stretch_written" "stretch_written" ur a.q0y a.uv
 xdL:Binds K a.uv ["row"] []
 xdM:mg "stretch_written"=some (.ref a.q0y)
 q28:Fun K "meet" "meet" xhQ a.q27 a.xhS
 xpN:Binds K a.xhS ["one","other"] []
 xpO:mg "meet"=some (.ref a.q27)
 xaw:xel K "made" "made" xbt a.q2C a.xc0 [.int 6 a.q2x]
 xdD:Binds K a.xc0 ["elder","newer","least"] [.int 6 a.q2x]
 xlY:Binds K a.xc0 ["elder","newer","least"] []
 xlZ:mg "made"=some (.ref a.q2C)
 q1t:Fun K "rows_found" "rows_found" xai a.q1q a.xar
 xhY:Binds K a.xar ["elder","newer","least"] []
 xhZ:mg "rows_found"=some (.ref a.q1q)
 q0B:Fun K "put_ending_at" "put_ending_at" vm a.q0Q a.vw
 xaU:Binds K a.vw ["end","signs"] []
 xaV:mg "put_ending_at"=some (.ref a.q0Q)
 zq:Fun K "put_in_order" "put_in_order" yC a.q0K a.ug
 xf3:Binds K a.ug ["takes"] []
 xf4:mg "put_in_order"=some (.ref a.q0K)
 q2D:zJ K q0o yk
 xe4:a.ug.code= .ref q0o
 q0I:Fun K "harmless_among" "harmless_among" uM a.q0G a.uQ
 xet:Binds K a.uQ ["spoilt","left"] []
 xeu:mg "harmless_among"=some (.ref a.q0G)
 q2l:Fun K "put_for" "put_for" xcU a.q2e a.xc1
 xl0:Binds K a.xc1 ["take","elder"] []
 xl1:mg "put_for"=some (.ref a.q2e)
 xax:Fun K "joined" "joined" uN a.q2f a.xb3
 xm6:Binds K a.xb3 ["puts"] []
 xm7:mg "joined"=some (.ref a.q2f)
 q3k:zJ K q1F zV
 xl2:a.xb3.code= .ref q1F
 q2r:Fun K "__init__" "Pen.__init__" xbX a.q1C a.xb4
 xkx:Binds K a.xb4 ["self","fall"] []
 q05:Fun K "write_into" "Pen.write_into" uO a.q0t a.uR
 xay:Binds K a.uR ["self","kept","at","value","torn"] []
 q0w:Fun K "answer_of_fall" "Pen.answer_of_fall" zC a.q0j a.zD
 xb8:Binds K a.zD ["self","count"] []
 zW:xel K "__init__" "Store.__init__" zp a.q0R a.vx [.none]
 xck:Binds K a.vx ["self","cells","fall"] [.none]
 xaz:Binds K a.vx ["self","cells","fall"] []
 q1T:Fun K "read" "Store.read" xaj a.q09 a.xas
 xh0:Binds K a.xas ["self","at"] []
 uG:Fun K "write" "Store.write" yI a.q0E a.uF
 xgX:Binds K a.uF ["self","at","sign"] []
 q2O:zJ K q0u yJ
 xf5:a.uF.code= .ref q0u
 q1U:Fun K "mark" "Store.mark" xak a.q1a a.xat
 xh1:Binds K a.xat ["self","number"] []
 q1x:Fun K "noted" "Store.noted" ju a.q00 a.jz
 xcl:Binds K a.jz ["self"] []
 q1y:Fun K "begin" "Store.begin" jv a.q01 a.jA
 xgY:Binds K a.jA ["self"] []
 q1V:Fun K "told" "Store.told" xal a.q1b a.xau
 xc6:Binds K a.xau ["self"] []
 q0p:Fun K "refuse_lacking" "Store.refuse_lacking" zg a.q0g a.zh
 uB:Binds K a.zh ["self","at"] []
 zj:Fun K "note_down" "Store.note_down" yc a.q0l a.zi
 uw:Binds K a.zi ["self","at","number"] []
 q2m:zJ K q0i yd
 xc7:a.zi.code= .ref q0i
 q1d:Fun K "_law_cell_at" "_law_cell_at" xcV a.q2g a.xc2
 je:Binds K a.xc2 ["_law_script","_law_k"] []
 jf:mg "_law_cell_at"=some (.ref a.q2g)
 q1W:Fun K "_law_mixed" "_law_mixed" xfR a.q2J a.xfW
 xbu:Binds K a.xfW ["_law_cell","_law_k"] []
 xbv:mg "_law_mixed"=some (.ref a.q2J)
 q2P:Fun K "_law_elder" "_law_elder" xfS a.q2K a.xfX
 xoz:Binds K a.xfX ["_law_cell"] []
 xoA:mg "_law_elder"=some (.ref a.q2K)
 q2A:Fun K "_law_newer" "_law_newer" xfT a.q2L a.xfY
 xjq:Binds K a.xfY ["_law_elder_here","_law_cell"] []
 xjr:mg "_law_newer"=some (.ref a.q2L)
 q2n:Fun K "_law_fall_at" "_law_fall_at" xcW a.q2h a.xc3
 xl3:Binds K a.xc3 ["_law_script","_law_falls","_law_count"] []
 xl4:mg "_law_fall_at"=some (.ref a.q2h)
 q2Q:Fun K "_law_begun" "_law_begun" xfU a.q2M a.xfZ
 xoB:Binds K a.xfZ ["_law_store"] []
 xoC:mg "_law_begun"=some (.ref a.q2M)
 q12:Fun K "_law_brought" "_law_brought" xcX a.q2i a.xc4
 xgF:Binds K a.xc4 ["_law_store","_law_paper","_law_newer_here","_law_rest"] []
 xgG:mg "_law_brought"=some (.ref a.q2i)
 xhk:Fun K "law" "law" xbY a.q29 a.xhj
 xrb:Binds K a.xhj ["_law_script"] []
 q3S:zJ K q2W xdC
 xpP:a.xhj.code= .ref q2W
 xky:mg "Row"=some (.ref a.q15)
 q4E:Cls K a.q15
 q3l:xC K a.q15 "count"
 q3J:xC K a.q15 "to"
 xbw:mg "Take"=some (.ref a.q0a)
 q0d:Cls K a.q0a
 q0v:xC K a.q0a "count"
 q0h:xC K a.q0a "source"
 q0s:xC K a.q0a "to"
 q3m:Mk K a.q0a a.q1k
 xe5:mg "Put"=some (.ref a.q0c)
 q0x:Cls K a.q0c
 q1e:xC K a.q0c "count"
 q0D:xC K a.q0c "signs"
 q1f:xC K a.q0c "to"
 q3e:Mk K a.q0c a.q1i
 xqz:mg "Pen"=some (.ref a.q0r)
 q2E:Cls K a.q0r
 q1X:xC K a.q0r "asked"
 q2Y:xC K a.q0r "fall"
 q3T:Mk K a.q0r a.q1C
 xoD:mg "Store"=some (.ref a.q0b)
 q0e:Cls K a.q0b
 q06:xC K a.q0b "cells"
 q1n:xC K a.q0b "notes"
 q1Y:xC K a.q0b "pen"
 q3q:Mk K a.q0b a.q0R
 xev:mg "Fallen"=some (.ref a.q0f)
 q22:xbR K a.q0f a.q0X
 xqC:gO K a.q0f=true
 q2F:xC K a.q0f "count"
 q18:W.kitCls K (.ref a.q0f) (.ref a.q0f)=some true
 q3K:xpF K a.q0f
 q3a:xmV K a.q0f
 xh2:∀{H:Hp} {o dx:Addr} {fs:List (Str×V)},H o=some (.ins a.q0c dx fs)→ze K H (.ref o) (.ref a.q0c)
 xbx:∀{H:Hp} {o dx:Addr} {fs:List (Str×V)},H o=some (.ins a.q0a dx fs)→ze K H (.ref o) (.ref a.q0a)
 q3g:e7 K (.ref a.q0c) (.ref a.q0c)=some true
 q2Z:e7 K (.ref a.q0c) (.ref a.q0a)=some false
 q3c:e7 K (.ref a.q0a) (.ref a.q0c)=some false
 q1Z:e7 K (.ref a.q0a) (.ref a.q0a)=some true
 xc8:mg "NO_STRETCH"=some (.ref a.q1c)
 xc9:∀H,SqT K H a.q1c [.int 0,.int 0]
 q10:Meth K a.q0r "answer_of_fall" a.q0j
 q1P:Meth K a.q0r "write_into" a.q0t
 q2R:Meth K a.q0c "covered" a.q0Y
 q23:Meth K a.q0c "covers" a.q0C
 q24:Meth K a.q0c "pieces" a.q08
 q2G:Meth K a.q0c "sign_for" a.q0J
 q3d:Meth K a.q0c "told" a.q1A
 q2S:Meth K a.q0b "begin" a.q01
 q25:Meth K a.q0b "mark" a.q1a
 q1g:Meth K a.q0b "note_down" a.q0l
 q2s:Meth K a.q0b "noted" a.q00
 q26:Meth K a.q0b "read" a.q09
 q02:Meth K a.q0b "refuse_lacking" a.q0g
 q2u:Meth K a.q0b "told" a.q1b
 q2T:Meth K a.q0b "write" a.q0E
 q2U:Meth K a.q0a "covers" a.q0C
 q2V:Meth K a.q0a "pieces" a.q0Z
 q2z:Meth K a.q0a "sign_for" a.q0A
 q1E:Meth K a.q0a "source_for" a.q0q
 q19:Meth K a.q0a "stays" a.q07
 q2o:Meth K a.q0a "told" a.q1l
 q2t:xmM K a.q15 "__init__" a.q1z
 q38:mg "abs"=none
 q39:mg "all"=none
 q4a:mg "any"=none
 q3U:mg "bool"=none
 q3V:mg "dict"=none
 q20:mg "enumerate"=none
 q4b:mg "int"=none
 q0n:mg "isinstance"=none
 q0k:mg "len"=none
 q2H:mg "list"=none
 q21:mg "max"=none
 q3b:mg "min"=none
 q0W:mg "range"=none
 q3h:mg "reversed"=none
 q3i:mg "sorted"=none
 q2B:mg "tuple"=none
theorem xby:xo ["self","count"] ["self","count"] (xh jq):=⟨rfl,rfl,rfl,by decide+kernel,rfl,by decide+kernel,by decide+kernel⟩
theorem xdW:xo ["self","to"] ["self","to"] (xh xbS):=⟨rfl,rfl,rfl,by decide+kernel,rfl,by decide+kernel,by decide+kernel⟩
theorem xcm:xo ["self"] ["self"] (xh xad):=⟨rfl,rfl,rfl,by decide+kernel,rfl,by decide+kernel,by decide+kernel⟩
theorem xbz:xo ["self"] ["self"] (xh jr):=⟨rfl,rfl,rfl,by decide+kernel,rfl,by decide+kernel,by decide+kernel⟩
theorem xda:xo ["self","to","start","count"] ["self","to","start","count"] (xh xa7):=⟨rfl,rfl,rfl,by decide+kernel,rfl,by decide+kernel,by decide+kernel⟩
theorem xcn:xo ["self"] ["self"] (xh xae):=⟨rfl,rfl,rfl,by decide+kernel,rfl,by decide+kernel,by decide+kernel⟩
theorem xbA:xo ["self","first","end","step"] ["self"] (xh jt):=⟨rfl,rfl,rfl,by decide+kernel,rfl,by decide+kernel,by decide+kernel⟩
theorem jg:xo ["self","cell"] ["self","cell"] (xh uq):=⟨rfl,rfl,rfl,by decide+kernel,rfl,by decide+kernel,by decide+kernel⟩
theorem xaA:xo ["self","cell","read"] ["self","cell","read"] (xh vg):=⟨rfl,rfl,rfl,by decide+kernel,rfl,by decide+kernel,by decide+kernel⟩
theorem xdb:xo ["self"] ["self"] (xh xa8):=⟨rfl,rfl,rfl,by decide+kernel,rfl,by decide+kernel,by decide+kernel⟩
theorem vW:xo ["self","to","signs"] ["self","to","signs"] (xh xbT):=⟨rfl,rfl,rfl,by decide+kernel,rfl,by decide+kernel,by decide+kernel⟩
theorem xco:xo ["self"] ["self"] (xh xaf):=⟨rfl,rfl,rfl,by decide+kernel,rfl,by decide+kernel,by decide+kernel⟩
theorem xaW:xo ["self","cell","read"] ["self","cell","read"] (xh vN):=⟨rfl,rfl,rfl,by decide+kernel,rfl,by decide+kernel,by decide+kernel⟩
theorem xdX:xo ["self"] ["self"] (xh xbU):=⟨rfl,rfl,rfl,by decide+kernel,rfl,by decide+kernel,by decide+kernel⟩
theorem xgH:xo ["told"] ["told"] (xh xen):=⟨rfl,rfl,rfl,by decide+kernel,rfl,by decide+kernel,by decide+kernel⟩
theorem xcp:xo ["told"] ["told"] (xh xag):=⟨rfl,rfl,rfl,by decide+kernel,rfl,by decide+kernel,by decide+kernel⟩
theorem xdc:xo ["told"] ["told"] (xh xa9):=⟨rfl,rfl,rfl,by decide+kernel,rfl,by decide+kernel,by decide+kernel⟩
theorem xdd:xo ["signs"] ["signs"] (xh xba):=⟨rfl,rfl,rfl,by decide+kernel,rfl,by decide+kernel,by decide+kernel⟩
theorem xe6:xo ["value"] ["value"] (xh xcS):=⟨rfl,rfl,rfl,by decide+kernel,rfl,by decide+kernel,by decide+kernel⟩
theorem xaB:xo ["least","value"] ["least","value"] (xh vh):=⟨rfl,rfl,rfl,by decide+kernel,rfl,by decide+kernel,by decide+kernel⟩
theorem xdY:xo ["value"] ["value"] (xh xbV):=⟨rfl,rfl,rfl,by decide+kernel,rfl,by decide+kernel,by decide+kernel⟩
theorem xde:xo ["paper","pieces","told"] ["paper"] (xh xbb):=⟨rfl,rfl,rfl,by decide+kernel,rfl,by decide+kernel,by decide+kernel⟩
theorem xh3:xo ["store","paper","size","pieces","first","left","number","piece"] ["store","paper"] (xh xfQ):=⟨rfl,rfl,rfl,by decide+kernel,rfl,by decide+kernel,by decide+kernel⟩
theorem jE:xo ["size","paper","greater"] ["size","paper"] (xh uL):=⟨rfl,rfl,rfl,by decide+kernel,rfl,by decide+kernel,by decide+kernel⟩
theorem xaC:xo ["size","pieces","told","cells","at"] ["size","pieces"] (xh vi):=⟨rfl,rfl,rfl,by decide+kernel,rfl,by decide+kernel,by decide+kernel⟩
theorem xaD:xo ["row","cells","places","cell"] ["row","cells"] (xh vj):=⟨rfl,rfl,rfl,by decide+kernel,rfl,by decide+kernel,by decide+kernel⟩
theorem xdZ:xo ["store","row","cells","cell"] ["store","row","cells"] (xh zB):=⟨rfl,rfl,rfl,by decide+kernel,rfl,by decide+kernel,by decide+kernel⟩
theorem xe7:xo ["text"] ["text"] (xh zU):=⟨rfl,rfl,rfl,by decide+kernel,rfl,by decide+kernel,by decide+kernel⟩
theorem xe8:xo ["text","table","part","less","count","beginning"] ["text","table","part"] (xh xcT):=⟨rfl,rfl,rfl,by decide+kernel,rfl,by decide+kernel,by decide+kernel⟩
theorem xaE:xo ["text","table","part","low","high","middle"] ["text","table","part"] (xh vk):=⟨rfl,rfl,rfl,by decide+kernel,rfl,by decide+kernel,by decide+kernel⟩
theorem xd0:xo ["text","at","part","count"] ["text","at","part"] (xh xbW):=⟨rfl,rfl,rfl,by decide+kernel,rfl,by decide+kernel,by decide+kernel⟩
theorem xgI:xo ["rows","read","written"] ["rows"] (xh xeo):=⟨rfl,rfl,rfl,by decide+kernel,rfl,by decide+kernel,by decide+kernel⟩
theorem xdf:xo ["number","stretch","read"] ["number","stretch","read"] (xh xbc):=⟨rfl,rfl,rfl,by decide+kernel,rfl,by decide+kernel,by decide+kernel⟩
theorem xcq:xo ["spoilt","left","path","number"] ["spoilt","left"] (xh xah):=⟨rfl,rfl,rfl,by decide+kernel,rfl,by decide+kernel,by decide+kernel⟩
theorem xaX:xo ["row"] ["row"] (xh vO):=⟨rfl,rfl,rfl,by decide+kernel,rfl,by decide+kernel,by decide+kernel⟩
theorem jh:xo ["row"] ["row"] (xh ur):=⟨rfl,rfl,rfl,by decide+kernel,rfl,by decide+kernel,by decide+kernel⟩
theorem xjs:xo ["one","other"] ["one","other"] (xh xhQ):=⟨rfl,rfl,rfl,by decide+kernel,rfl,by decide+kernel,by decide+kernel⟩
theorem xjt:xo ["elder","newer","least","rows","order","ordered","turned","puts","done","paper"] ["elder","newer","least"] (xh xbt):=⟨rfl,rfl,rfl,by decide+kernel,rfl,by decide+kernel,by decide+kernel⟩
theorem xcr:xo ["elder","newer","least","table","rows","signs","place","best","count"] ["elder","newer","least"] (xh xai):=⟨rfl,rfl,rfl,by decide+kernel,rfl,by decide+kernel,by decide+kernel⟩
theorem xaF:xo ["end","signs"] ["end","signs"] (xh vm):=⟨rfl,rfl,rfl,by decide+kernel,rfl,by decide+kernel,by decide+kernel⟩
theorem xaY:xo ["takes","spoilt","left","ordered","turned","number","ring"] ["takes"] (xh yC):=⟨rfl,rfl,rfl,by decide+kernel,rfl,by decide+kernel,by decide+kernel⟩
theorem jF:xo ["spoilt","left","number"] ["spoilt","left"] (xh uM):=⟨rfl,rfl,rfl,by decide+kernel,rfl,by decide+kernel,by decide+kernel⟩
theorem xe9:xo ["take","elder"] ["take","elder"] (xh xcU):=⟨rfl,rfl,rfl,by decide+kernel,rfl,by decide+kernel,by decide+kernel⟩
theorem xgJ:xo ["puts","rows","put","ahead"] ["puts"] (xh uN):=⟨rfl,rfl,rfl,by decide+kernel,rfl,by decide+kernel,by decide+kernel⟩
theorem xd1:xo ["self","fall"] ["self","fall"] (xh xbX):=⟨rfl,rfl,rfl,by decide+kernel,rfl,by decide+kernel,by decide+kernel⟩
theorem jG:xo ["self","kept","at","value","torn","count","answer"] ["self","kept","at","value","torn"] (xh uO):=⟨rfl,rfl,rfl,by decide+kernel,rfl,by decide+kernel,by decide+kernel⟩
theorem uW:xo ["self","count","fall"] ["self","count"] (xh zC):=⟨rfl,rfl,rfl,by decide+kernel,rfl,by decide+kernel,by decide+kernel⟩
theorem xcs:xo ["self","cells","fall"] ["self","cells","fall"] (xh zp):=⟨rfl,rfl,rfl,by decide+kernel,rfl,by decide+kernel,by decide+kernel⟩
theorem xct:xo ["self","at"] ["self","at"] (xh xaj):=⟨rfl,rfl,rfl,by decide+kernel,rfl,by decide+kernel,by decide+kernel⟩
theorem xbB:xo ["self","at","sign"] ["self","at","sign"] (xh yI):=⟨rfl,rfl,rfl,by decide+kernel,rfl,by decide+kernel,by decide+kernel⟩
theorem xcu:xo ["self","number"] ["self","number"] (xh xak):=⟨rfl,rfl,rfl,by decide+kernel,rfl,by decide+kernel,by decide+kernel⟩
theorem xbC:xo ["self"] ["self"] (xh ju):=⟨rfl,rfl,rfl,by decide+kernel,rfl,by decide+kernel,by decide+kernel⟩
theorem xbD:xo ["self"] ["self"] (xh jv):=⟨rfl,rfl,rfl,by decide+kernel,rfl,by decide+kernel,by decide+kernel⟩
theorem xcv:xo ["self"] ["self"] (xh xal):=⟨rfl,rfl,rfl,by decide+kernel,rfl,by decide+kernel,by decide+kernel⟩
theorem uk:xo ["self","at"] ["self","at"] (xh zg):=⟨rfl,rfl,rfl,by decide+kernel,rfl,by decide+kernel,by decide+kernel⟩
theorem ji:xo ["self","at","number"] ["self","at","number"] (xh yc):=⟨rfl,rfl,rfl,by decide+kernel,rfl,by decide+kernel,by decide+kernel⟩
theorem xfa:xo ["_law_script","_law_k"] ["_law_script","_law_k"] (xh xcV):=⟨rfl,rfl,rfl,by decide+kernel,rfl,by decide+kernel,by decide+kernel⟩
theorem xh4:xo ["_law_cell","_law_k","_law_number"] ["_law_cell","_law_k"] (xh xfR):=⟨rfl,rfl,rfl,by decide+kernel,rfl,by decide+kernel,by decide+kernel⟩
theorem xh5:xo ["_law_cell","_law_size"] ["_law_cell"] (xh xfS):=⟨rfl,rfl,rfl,by decide+kernel,rfl,by decide+kernel,by decide+kernel⟩
theorem xh6:xo ["_law_elder_here","_law_cell","_law_signs","_law_k","_law_draw","_law_start"] ["_law_elder_here","_law_cell"] (xh xfT):=⟨rfl,rfl,rfl,by decide+kernel,rfl,by decide+kernel,by decide+kernel⟩
theorem xfb:xo ["_law_script","_law_falls","_law_count","_law_draw"] ["_law_script","_law_falls","_law_count"] (xh xcW):=⟨rfl,rfl,rfl,by decide+kernel,rfl,by decide+kernel,by decide+kernel⟩
theorem xh7:xo ["_law_store","_law_again","_law_good"] ["_law_store"] (xh xfU):=⟨rfl,rfl,rfl,by decide+kernel,rfl,by decide+kernel,by decide+kernel⟩
theorem xfc:xo ["_law_store","_law_paper","_law_newer_here","_law_rest","_law_again","_law_good","_law_cells"] ["_law_store","_law_paper","_law_newer_here","_law_rest"] (xh xcX):=⟨rfl,rfl,rfl,by decide+kernel,rfl,by decide+kernel,by decide+kernel⟩
theorem xl5:xo ["_law_script","_law_elder_here","_law_newer_here","_law_last","_law_size","_law_rest","_law_falls","_law_cells","_law_store"] ["_law_script"] (xh xbY):=⟨rfl,rfl,rfl,by decide+kernel,rfl,by decide+kernel,by decide+kernel⟩
def xb9(to st c:Int):List (Str×V):=[("to",.int to),("count",.int c),("source",.int st)]
def xca(to:Int)(t:Addr)(n:Int):List (Str×V):=[("to",.int to),("count",.int n),("signs",.ref t)]
def yD(lo:Int)(n:Nat):List Int:=(a9 n).map fun(i:Nat)=>lo+(i:Int)
theorem xf6(lo:Int)(n:Nat):xcI lo n=(yD lo n).map V.int:=by simp[xcI,yD,kN]
theorem xd2(lo:Int)(n:Nat):(yD lo n).length=n:=by simp[yD]
theorem yp{x lo:Int}{n:Nat}:x∈yD lo n↔lo≤x∧x<lo+n:=by
 unfold yD;rw[a7];constructor
 ·rintro⟨i,hi,rfl⟩;have:=bx.mp hi;lia
 ·rintro⟨h1,h2⟩;exact⟨(x - lo).toNat,bx.mpr (by lia),by lia⟩
inductive xf where
 |take (to st c:Int)
 |put (to:Int) (sg:List Int)
def xf.isTake:xf→Bool
 | .take .. =>true
 | .put .. =>false
def TupAt(K:ah)(H:Hp)(t:Addr):xf→Prop
 | .take to st c=>H t=some (.tup [.str "take",.int to,.int st,.int c])
 | .put to sg=>∃u,H t=some (.tup [.str "put",.int to,.ref u])∧H u=some (.tup (sg.map V.int))
theorem TupAt.same{K:ah}{H H':Hp}{t:Addr}{r:xf}(h:TupAt K H t r)(s:xb H H'):TupAt K H' t r:=by
 cases r with
 |take to st c=>exact s.at h
 |put to sg=>obtain⟨u,h1,h2⟩:=h;exact⟨u,s.at h1,s.at h2⟩
def xB(K:ah)(a:Adr)(H:Hp)(o:Addr):xf→Prop
 | .take to st c=>∃dx,H o=some (.ins a.q0a dx (xb9 to st c))
 | .put to sg=>∃dx u,H o=some (.ins a.q0c dx (xca to u sg.length))∧H u=some (.tup (sg.map V.int))
theorem xB.same{K:ah}{a:Adr}{H H':Hp}{o:Addr}{r:xf}(h:xB K a H o r)(s:xb H H'):xB K a H' o r:=by
 cases r with
 |take to st c=>obtain⟨dx,h⟩:=h;exact⟨dx,s.at h⟩
 |put to sg=>obtain⟨dx,u,h1,h2⟩:=h;exact⟨dx,u,s.at h1,s.at h2⟩
theorem xB.mv{K:ah}{a:Adr}{H H' H6:Hp}{o:Addr}{r:xf}(h:xB K a H' o r)(k:∀p o,(H p=none∨∀ys,o≠HO.lst ys)→H' p=some o→H6 p=some o):xB K a H6 o r:=by
 cases r with
 |take to st c=>obtain⟨dx,h⟩:=h;exact⟨dx,k _ _ (.inr fun ys z=>by cases z) h⟩
 |put to sg=>obtain⟨dx,u,h1,h2⟩:=h;exact⟨dx,u,k _ _ (.inr fun ys z=>by cases z) h1,k _ _ (.inr fun ys z=>by cases z) h2⟩
theorem TupAt.mv{K:ah}{H H' H6:Hp}{t:Addr}{r:xf}(h:TupAt K H' t r)(k:∀p o,(H p=none∨∀ys,o≠HO.lst ys)→H' p=some o→H6 p=some o):TupAt K H6 t r:=by
 cases r with
 |take to st c=>exact k _ _ (.inr fun ys z=>by cases z) h
 |put to sg=>obtain⟨u,h1,h2⟩:=h;exact⟨u,k _ _ (.inr fun ys z=>by cases z) h1,k _ _ (.inr fun ys z=>by cases z) h2⟩
def xf.ok:xf→Prop
 | .take to st c=>0≤to∧0≤st∧1≤c
 | .put to sg=>0≤to∧sg≠[]∧sg.length≤100000∧∀x∈sg,(x.natAbs:Int)<10^60
def xpQ(K:ah)(a:Adr)(H:Hp)(l:Addr)(rs:List xf):Prop:=∃ts:List Addr,SqL K H l (ts.map V.ref)∧Paired (xB K a H) ts rs
theorem xl6{K:ah}{H:Hp}{t p C dx:Addr}{xs:List V}{fs:List (Str×V)}{o:HO}(h:SqT K H t xs)(hp:H p=some (.ins C dx fs)):SqT K (upd H p o) t xs:=by
 rcases h with(h|⟨ob,h⟩)|h
 ·exact .inl (.inl (by rw[xj (uD h hp (by intro z;cases z))];exact h))
 ·exact .inl (.inr ⟨ob,by rw[xj (uD h hp (by intro z;cases z))];exact h⟩)
 ·exact .inr h
def xi0(K:ah):Sp:=fun vs H Q _=>∃(p C dx:Addr) (to:Int),vs=[.ref p,.int to]∧H p=some (.ins C dx [])∧Cls K C∧xC K C "to"∧xC K C "count"∧Q .non (upd H p (.ins C dx [("to",.int to),("count",.int 0)]))
def xh8(a:Adr):Sp:=fun vs H Q _=>∃(p dx:Addr) (to st c:Int),vs=[.ref p,.int to,.int st,.int c]∧H p=some (.ins a.q0a dx [])∧Q .non (upd H p (.ins a.q0a dx (xb9 to st c)))
def xi1(K:ah)(a:Adr):Sp:=fun vs H Q _=>∃(p dx t:Addr) (to:Int) (xs:List V),vs=[.ref p,.int to,.ref t]∧H p=some (.ins a.q0c dx [])∧SqT K H t xs∧Q .non (upd H p (.ins a.q0c dx (xca to t xs.length)))
def xkz(H:Hp)(Q:VK)(ns:List Int):Prop:=∀(l:Addr) (H':Hp),xb H H'→H l=none→H' l=some (.lst (ns.map V.int))→Q (.ref l) H'
def xm8(a:Adr):Sp:=fun vs H Q _=>∃(p dx:Addr) (to st c:Int),vs=[.ref p]∧H p=some (.ins a.q0a dx (xb9 to st c))∧Q (.bl (decide (st=to))) H
def xi2:Sp:=fun vs H Q _=>∃i:Int,vs=[.int i]∧Q (.bl true) H
def xew:Sp:=fun vs H Q _=>∃l i:Int,vs=[.int l,.int i]∧Q (.bl (decide (l≤i))) H
def xkA:Sp:=fun vs H Q _=>∃i:Int,vs=[.int i]∧(i.natAbs:Int)<10^60∧Q (.bl true) H
def xh9(K:ah):Sp:=fun vs H Q _=>∃(u:Addr) (sg:List Int),vs=[.ref u]∧H u=some (.tup (sg.map V.int))∧sg≠[]∧sg.length≤100000∧(∀x∈sg,(x.natAbs:Int)<10^60)∧∀H',xb H H'→Q (.bl true) H'
def xgZ(K:ah):Sp:=fun vs H Q _=>∃(t:Addr) (r:xf),vs=[.ref t]∧TupAt K H t r∧r.ok∧Q (.bl r.isTake) H
def xia(K:ah):Sp:=fun vs H Q _=>∃(t:Addr) (to:Int) (sg:List Int),vs=[.ref t]∧TupAt K H t (.put to sg)∧xf.ok (.put to sg)∧∀H',xb H H'→Q (.bl true) H'
def jj(K:ah)(a:Adr):Sp:=fun vs H Q _=>∃(t:Addr) (r:xf),vs=[.ref t]∧TupAt K H t r∧r.ok∧∀(o:Addr) (H':Hp),xb H H'→H o=none→xB K a H' o r→Q (.ref o) H'
def xib(a:Adr):Sp:=fun vs H Q _=>∃(o dx:Addr) (to st c:Int),vs=[.ref o]∧H o=some (.ins a.q0a dx (xb9 to st c))∧∀t,H t=none→Q (.ref t) (upd H t (.tup [.str "take",.int to,.int st,.int c]))
def xic(a:Adr):Sp:=fun vs H Q _=>∃(o dx u:Addr) (to n:Int),vs=[.ref o]∧H o=some (.ins a.q0c dx (xca to u n))∧∀t,H t=none→Q (.ref t) (upd H t (.tup [.str "put",.int to,.ref u]))
def mixed(c k:Int):Int:=if c%2=1 then c / 2^(1+20*(k%120)).toNat%2^(20:Int).toNat else
 let n:=(c / 2%2147483647+7919*k+1)*48271%2147483647
 n*(n / 1009+69621)%2147483647
def cellAt(ns:List Int)(k:Int):Int:=if k<ns.length then ns.getD k.toNat 0 else 0
def xkB(K:ah):Sp:=fun vs H Q _=>∃(p C dx:Addr) (fs:List (Str×V)) (to c:Int),vs=[.ref p]∧H p=some (.ins C dx fs)∧Cls K C∧xC K C "to"∧xC K C "count"∧fs.lookup ("to":Str)=some (.int to)∧fs.lookup ("count":Str)=some (.int c)∧c.toNat≤2^24∧xkz H Q (yD to c.toNat)
def xkC(K:ah):Sp:=fun vs H Q _=>∃(l:Addr) (ns:List Int) (k:Int),vs=[.ref l,.int k]∧SqL K H l (ns.map V.int)∧0≤k∧Q (.int (cellAt ns k)) H
def xm9:Sp:=fun vs H Q _=>∃c k:Int,vs=[.int c,.int k]∧Q (.int (mixed c k)) H
def cN(d k:Nat):Nat:=(k+d - 1) / d
def chs(u:Nat→Nat→List Int)(d k:Nat):List (List Int):=(a9 (cN d k)).map (u k)
theorem xju{d:Nat}(hd:0<d):cN d 0=0:=by unfold cN;exact Nat.div_eq_of_lt (by omega)
theorem xdE{d:Nat}(hd:0<d)(k:Nat):cN d (k+1)=k / d+1:=by
 unfold cN;rw[show k+1+d - 1=k+d by lia,Nat.add_div_right _ hd]
def uch(to:Int)(d k j:Nat):List Int:=yD (to+((j*d:Nat):Int)) (min d (k - j*d))
def dch(e:Int)(d k j:Nat):List Int:=yD (e - ((min ((j+1)*d) k:Nat):Int)) (min d (k - j*d))
def ya(to st c:Int):List (List Int):=
 if st=to then[]else if to<st then chs (uch to (st - to).toNat) (st - to).toNat c.toNat else chs (dch (to+c) (to - st).toNat) (to - st).toNat c.toNat
theorem xdF(u:Nat→Nat→List Int)(d k:Nat)(hd:0<d):(chs u d k).length≤k:=by
 unfold chs;rw[af,c7];cases k with
 |zero=>rw[xju hd];exact ak _
 |succ k=>rw[xdE hd];have:=Nat.div_le_self k d;lia
theorem xl7{x:Int}(h0:x≠0)(h:x.natAbs<2^200):xlr x:=by
 refine⟨h0,?_⟩;have:x.natAbs.log2<200:=(Nat.log2_lt (by lia)).mpr h;lia
theorem xoE(to c:Int)(d:Nat)(hc:1≤c)(hd:0<d):yv to (to+c) (d:Int)=cN d c.toNat:=by
 unfold yv bb;rw[if_pos (by lia),if_pos (by lia)];obtain⟨n,rfl⟩:∃n:Nat,c=(n:Int)+1:=⟨(c - 1).toNat,by lia⟩;rw[show((n:Int)+1).toNat=n+1 by lia,xdE hd,show to+((n:Int)+1) - to - 1=(n:Int)by lia,←Int.natCast_ediv];generalize n / d=q;lia
theorem xl8(to c:Int)(d:Nat)(hc:1≤c)(hd:0<d):yv (to+c) to (-(d:Int))=cN d c.toNat:=by
 unfold yv bb;rw[if_neg (by lia),if_pos (by lia)];obtain⟨n,rfl⟩:∃n:Nat,c=(n:Int)+1:=⟨(c - 1).toNat,by lia⟩;rw[show((n:Int)+1).toNat=n+1 by lia,xdE hd,show to+((n:Int)+1) - to - 1=(n:Int)by lia,Int.neg_neg,←Int.natCast_ediv];generalize n / d=q;lia
theorem xna{d i k:Nat}(hd:0<d)(h:i<cN d k):i*d≤k:=by
 cases k with
 |zero=>rw[xju hd]at h;lia
 |succ k=>
  rw[xdE hd]at h;have h1:i≤k / d:=by lia
  have:=bg (gG d h1) (Nat.div_mul_le_self k d);lia
def xf7:Stmt→Expr
 | .Expr v _=>v
 |_=>.Constant .none 0 ⟨0,0,0,0⟩
def Kp(S:List Addr)(H H':Hp):Prop:=∀b u,H b=some u→b∉S→H' b=some u
theorem Kp.of{S:List Addr}{H H':Hp}(s:xb H H'):Kp S H H':=fun b u e _=>s b u e
theorem Kp.trans{S:List Addr}{H H1 H2:Hp}(h:Kp S H H1)(g:Kp S H1 H2):Kp S H H2:=fun b u e n=>g b u (h b u e n) n
theorem Kp.mono{S S':List Addr}{H H1:Hp}(h:Kp S H H1)(m:∀x∈S,x∈S'):Kp S' H H1:=fun b u e n=>h b u e fun z=>n (m b z)
theorem Kp.wr{S:List Addr}{H H1:Hp}{p:Addr}{o:HO}(h:Kp S H H1)(m:p∈S):Kp S H (upd H1 p o):=fun b u e n=>by
 rw[xj (fun z=>n (by rw[z];exact m))];exact h b u e n
theorem Kp.mk{S:List Addr}{H H1:Hp}{p:Addr}{o:HO}(h:Kp S H H1)(m:H p=none):Kp S H (upd H1 p o):=fun b u e n=>by
 rw[xj (xv e m)];exact h b u e n
theorem Kp.same{S:List Addr}{H H1 H2:Hp}(h:Kp S H H1)(s:xb H1 H2):Kp S H H2:=h.trans (.of s)
def jB:HO→Prop
 | .ins _ _ _=>True
 | .lst _=>True
 |_=>False
theorem xV.kp{H H':Hp}{S:List Addr}{f:Addr}{nm qual:Str}{params:b7}{body:cV}{scope:Scope}{fv:List (Str×V)}(h:xV H f nm qual params body scope fv)(mu:∀x∈S,∃u,H x=some u∧jB u)(k:Kp S H H'):xV H' f nm qual params body scope fv:=by
 have e:∀b u,H b=some u→¬jB u→H' b=some u:=fun b u q n=>k b u q fun z=>by
  obtain⟨u',q',m⟩:=mu b z;rw[q]at q';cases q';exact n m
 obtain⟨clos,c,o,u,u',vs,t,doc,pm,ctv,h1,h2,h3,h4,h5,h6,h7,h8⟩:=h;exact⟨clos,c,o,u,u',vs,t,doc,pm,ctv,e _ _ h1 (fun z=>z),e _ _ h2 (fun z=>z),h3,h4,h5,h6,fun x v m=>let⟨a,q1,q2⟩:=h7 x v m;⟨a,q1,e _ _ q2 (fun z=>z)⟩,fun x a q=>let⟨v,q2⟩:=h8 x a q;⟨v,e _ _ q2 (fun z=>z)⟩⟩
abbrev xcb(n:Int)(fl:V):List (Str×V):=[("asked",.int n),("fall",fl)]
def xi3(a:Adr):Sp:=fun vs H Q _=>∃(p dp:Addr) (fl:V),vs=[.ref p,fl]∧H p=some (.ins a.q0r dp [])∧Q .non (upd H p (.ins a.q0r dp (xcb 0 fl)))
structure SA where
 st:Addr
 dx:Addr
 ca:Addr
 na:Addr
 p:Addr
 dp:Addr
def nV:Option Int→V
 |none=>.non
 |some i=>.int i
abbrev SS(S:SA):List Addr:=[S.ca,S.na,S.p]
abbrev stF(S:SA):List (Str×V):=[("cells",.ref S.ca),("notes",.ref S.na),("pen",.ref S.p)]
structure yS(a:Adr)(H:Hp)(S:SA)(cells:List Int)(notes:List (Option Int))(n:Int)(fl:V):Prop where
 st:H S.st=some (.ins a.q0b S.dx (stF S))
 ca:H S.ca=some (.lst (cells.map V.int))
 na:H S.na=some (.lst (notes.map nV))
 p:H S.p=some (.ins a.q0r S.dp (xcb n fl))
 ne:S.ca≠S.na
 np:S.p≠S.st
theorem yS.mu{a:Adr}{H:Hp}{S:SA}{cells:List Int}{notes:List (Option Int)}{n:Int}{fl:V}(h:yS a H S cells notes n fl):∀x∈SS S,∃u,H x=some u∧jB u:=by
 intro x hx;simp only[ar,bu,or_false]at hx;rcases hx with rfl|rfl|rfl
 ·exact⟨_,h.ca,trivial⟩
 ·exact⟨_,h.na,trivial⟩
 ·exact⟨_,h.p,trivial⟩
theorem yS.kp0{a:Adr}{H H':Hp}{S:SA}{L:List Addr}{cells:List Int}{notes:List (Option Int)}{n:Int}{fl:V}(h:yS a H S cells notes n fl)(k:Kp L H H')(d:∀x∈L,x≠S.st∧x≠S.ca∧x≠S.na∧x≠S.p):yS a H' S cells notes n fl:=
 ⟨k _ _ h.st (fun z=>(d _ z).1 rfl),k _ _ h.ca (fun z=>(d _ z).2.1 rfl),k _ _ h.na (fun z=>(d _ z).2.2.1 rfl),k _ _ h.p (fun z=>(d _ z).2.2.2 rfl),h.ne,h.np⟩
theorem yS.same{a:Adr}{H H':Hp}{S:SA}{cells:List Int}{notes:List (Option Int)}{n:Int}{fl:V}(h:yS a H S cells notes n fl)(s:xb H H'):yS a H' S cells notes n fl:=
 h.kp0 (L:=[]) (Kp.of s) (fun _ z=>nomatch z)
theorem yS.nst{a:Adr}{H:Hp}{S:SA}{cells:List Int}{notes:List (Option Int)}{n:Int}{fl:V}(h:yS a H S cells notes n fl):S.st∉SS S:=by
 simp only[ar,bu,or_false];rintro(z|z|z)
 ·have:=h.st;rw[z,h.ca]at this;cases this
 ·have:=h.st;rw[z,h.na]at this;cases this
 ·exact h.np z.symm
theorem yS.npc{a:Adr}{H:Hp}{S:SA}{cells:List Int}{notes:List (Option Int)}{n:Int}{fl:V}(h:yS a H S cells notes n fl):S.p≠S.ca:=uD h.p h.ca (by intro z;cases z)
theorem yS.npn{a:Adr}{H:Hp}{S:SA}{cells:List Int}{notes:List (Option Int)}{n:Int}{fl:V}(h:yS a H S cells notes n fl):S.p≠S.na:=uD h.p h.na (by intro z;cases z)
abbrev inR(cells:List Int)(i:Int):Prop:=0≤i∧i<cells.length
def xg0(K:ah)(a:Adr):Sp:=fun vs H Q _=>∃(st dx l:Addr) (cells:List Int) (fl:V),vs=[.ref st,.ref l,fl]∧H st=some (.ins a.q0b dx [])∧H l=some (.lst (cells.map V.int))∧
 ∀(S:SA) (H':Hp),S.st=st→Kp [st] H H'→yS a H' S cells [some 0,some 0] 0 fl→H S.ca=none→H S.na=none→H S.p=none→Q .non H'
def xfd(a:Adr):Sp:=fun vs H Q _=>∃(S:SA) (cells:List Int) (notes:List (Option Int)) (n i:Int) (fl:V),vs=[.ref S.st,.int i]∧yS a H S cells notes n fl∧inR cells i∧Q .non H
def xg1(a:Adr):Sp:=fun vs H Q _=>∃(S:SA) (cells:List Int) (notes:List (Option Int)) (n i v:Int) (fl:V),vs=[.ref S.st,.int i]∧yS a H S cells notes n fl∧inR cells i∧cells[i.toNat]? =some v∧Q (.int v) H
def xoF(a:Adr):Sp:=fun vs H Q _=>∃(S:SA) (cells:List Int) (notes:List (Option Int)) (n:Int) (fl:V),vs=[.ref S.st]∧yS a H S cells notes n fl∧∀t c m H',xb H H'→H c=none→H m=none→c≠m→H' t=some (.tup [.ref c,.ref m,.int n])→H' c=some (.lst (cells.map V.int))→H' m=some (.lst (notes.map nV))→Q (.ref t) H'
def xaZ(notes:List (Option Int))(m:Int):Prop:=(notes.filterMap id=[]→m=0)∧(notes.filterMap id≠[]→m∈notes.filterMap id∧∀x∈notes.filterMap id,x≤m)
theorem xaZ.uniq{notes:List (Option Int)}{m m':Int}(h:xaZ notes m)(h':xaZ notes m'):m=m':=by
 by_cases e:notes.filterMap id=[]
 ·rw[h.1 e,h'.1 e]
 ·have a:=h.2 e;have b:=h'.2 e;have:=a.2 _ b.1;have:=b.2 _ a.1;lia
def xl9(a:Adr):Sp:=fun vs H Q _=>∃(S:SA) (cells:List Int) (notes:List (Option Int)) (n:Int) (fl:V),vs=[.ref S.st]∧yS a H S cells notes n fl∧notes.length=2∧∀m H',xb H H'→xaZ notes m→Q (.int m) H'
abbrev xaG:Expr:=xbs 1 (xlE ((xD xbY).getD 7 (.Pass ⟨0,0,0,0⟩)))
abbrev xaH:Expr:=xbs 3 (xf7 ((xD yI).getD 1 (.Pass ⟨0,0,0,0⟩)))
abbrev xaI:Expr:=xbs 3 (xf7 ((xD yc).getD 0 (.Pass ⟨0,0,0,0⟩)))
theorem xjv:zf ["_law_count","_law_falls","_law_script"] ["_law_count"] ["_law_falls","_law_script"] (xU xaG):=⟨rfl,rfl,rfl,by decide+kernel,rfl,by decide+kernel,by decide+kernel,by decide+kernel⟩
theorem xjw:zf ["other"] ["other"] [] (xU xaH):=⟨rfl,rfl,rfl,by decide+kernel,rfl,by decide+kernel,by decide+kernel,by decide+kernel⟩
theorem xjx:zf ["other"] ["other"] [] (xU xaI):=⟨rfl,rfl,rfl,by decide+kernel,rfl,by decide+kernel,by decide+kernel,by decide+kernel⟩
abbrev xnb(H:Hp)(f:Addr)(fv:List (Str×V)):Prop:=xV H f "<lambda>" "law.<locals>.<lambda>" (zm xaG) (.expr (zo xaG)) (xU xaG) fv
abbrev xq7(H:Hp)(f:Addr)(fv:List (Str×V)):Prop:=xV H f "<lambda>" "Store.write.<locals>.<lambda>" (zm xaH) (.expr (zo xaH)) (xU xaH) fv
abbrev xq8(H:Hp)(f:Addr)(fv:List (Str×V)):Prop:=xV H f "<lambda>" "Store.note_down.<locals>.<lambda>" (zm xaI) (.expr (zo xaI)) (xU xaI) fv
def xoG:List (Str×V)→Sp:=fun fv vs H Q _=>∃v:V,fv=([]:List (Str×V))∧vs=[v]∧Q v H
def xoH:List (Str×V)→Sp:=fun fv vs H Q _=>∃v:V,fv=([]:List (Str×V))∧vs=[v]∧Q .non H
def xcc(H:Hp)(g:Addr)(tf:Int→V):Prop:=(xq7 H g []∧tf=fun s=>.int s)∨(xq8 H g []∧tf=fun _=>.non)
structure FA where
 S:SA
 f:Addr
 fa:Addr
 l:Addr
 ns:List Int
 H0:Hp
abbrev SF(F:FA):List Addr:=F.fa::SS F.S
abbrev fvF(F:FA):List (Str×V):=[("_law_falls",.ref F.fa),("_law_script",.ref F.l)]
structure Bs(K:ah)(F:FA):Prop where
 lam:xnb F.H0 F.f (fvF F)
 ln:∀H,Kp (F.fa::SS F.S) F.H0 H→SqL K H F.l (F.ns.map V.int)
 nsl:F.ns.length≤63
 mu:∀x∈SF F,∃u,F.H0 x=some u∧jB u
 nfa:F.fa∉SS F.S
 nst:F.fa≠F.S.st
 Pd:F.H0 yZ=some (.tbl uA)
 Pw:F.H0 yJ=some (.tbl uf)
 Pn:F.H0 yd=some (.tbl zc)
def ym(H:Hp)(fa:Addr)(k:Nat):Prop:=∃ys:List V,H fa=some (.lst ys)∧ys.length=k
theorem ym.same{H H':Hp}{fa:Addr}{k:Nat}(h:ym H fa k)(s:xb H H'):ym H' fa k:=let⟨ys,h1,h2⟩:=h;⟨ys,s.at h1,h2⟩
theorem ym.kp{H H':Hp}{S:List Addr}{fa:Addr}{k:Nat}(h:ym H fa k)(s:Kp S H H')(n:fa∉S):ym H' fa k:=let⟨ys,h1,h2⟩:=h;⟨ys,s _ _ h1 n,h2⟩
structure StF(a:Adr)(H:Hp)(F:FA)(cells:List Int)(notes:List (Option Int))(k:Nat):Prop where
 st:∃n:Int,0≤n∧yS a H F.S cells notes n (.ref F.f)
 kp:Kp (SF F) F.H0 H
 fl:ym H F.fa k
theorem StF.same{a:Adr}{H H':Hp}{F:FA}{cells:List Int}{notes:List (Option Int)}{k:Nat}(h:StF a H F cells notes k)(s:xb H H'):StF a H' F cells notes k:=
 ⟨let⟨n,h0,h1⟩:=h.st;⟨n,h0,h1.same s⟩,h.kp.same s,h.fl.same s⟩
theorem Bs.keep{K:ah}{F:FA}(B:Bs K F){H:Hp}(k:Kp (SF F) F.H0 H){b:Addr}{u:HO}(e:F.H0 b=some u)(m:¬jB u):H b=some u:=
 k b u e fun z=>by
  obtain⟨u',q',m'⟩:=B.mu b z;rw[e]at q';cases q';exact m m'
theorem Bs.lamAt{K:ah}{F:FA}(B:Bs K F){H:Hp}(k:Kp (SF F) F.H0 H):xnb H F.f (fvF F):=xV.kp B.lam B.mu k
def xnc(H:Hp)(v:V)(h:Option Int):Prop:=∃t,v= .ref t∧H t=some (.tup (match h with|none=>[]|some s=>[.int s]))
def xnd(H:Hp)(fa:Addr)(k:Nat)(Q:VK):Prop:=(∀H',xb H H'→Q .non H')∧(k<30→∀v h H',Kp [fa] H H'→ym H' fa (k+1)→xnc H' v h→Q v H')
def xkD(K:ah)(H:Hp)(F:FA)(k:Nat):Prop:=(∀H',Kp [F.fa] H H'→SqL K H' F.l (F.ns.map V.int))∧F.ns.length≤63∧ym H F.fa k∧k≤30
theorem Bs.env{K:ah}{F:FA}(B:Bs K F){H:Hp}{k:Nat}(kp:Kp (SF F) F.H0 H)(h:ym H F.fa k)(hk:k≤30):xkD K H F k:=
 ⟨fun H' q=>B.ln H' (kp.trans (q.mono (by simp))),B.nsl,h,hk⟩
def xkE(K:ah):Sp:=fun vs H Q _=>∃(F:FA) (k:Nat) (n:Int),vs=[.ref F.l,.ref F.fa,.int n]∧0≤n∧xkD K H F k∧xnd H F.fa k Q
def xoI(K:ah):List (Str×V)→Sp:=fun fv vs H Q _=>∃(F:FA) (k:Nat) (n:Int),fv=fvF F∧vs=[.int n]∧0≤n∧xkD K H F k∧xnd H F.fa k Q
def xf8(K:ah)(a:Adr):Sp:=fun vs H Q _=>∃(F:FA) (n m:Int) (k:Nat),vs=[.ref F.S.p,.int n]∧0≤n∧H F.S.p=some (.ins a.q0r F.S.dp (xcb m (.ref F.f)))∧xnb H F.f (fvF F)∧xkD K H F k∧xnd H F.fa k Q
def xg2(K:ah)(a:Adr):Sp:=fun vs H Q E=>∃(F:FA) (l g:Addr) (i n:Int) (val:V) (xs:List V) (k:Nat) (tf:Int→V),vs=[.ref F.S.p,.ref l,.int i,val,.ref g]∧Bs K F∧Kp (SF F) F.H0 H∧H F.S.p=some (.ins a.q0r F.S.dp (xcb n (.ref F.f)))∧0≤n∧ym H F.fa k∧k≤30∧l∈[F.S.ca,F.S.na]∧H l=some (.lst xs)∧0≤i∧i<xs.length∧xcc H g tf∧
 (∀H',Kp [F.S.p,l] H H'→H' F.S.p=some (.ins a.q0r F.S.dp (xcb (n+1) (.ref F.f)))→H' l=some (.lst (xs.set i.toNat val))→Q .non H')∧
 (k<30→∀d H',Kp [F.S.p,l,F.fa] H H'→H' F.S.p=some (.ins a.q0r F.S.dp (xcb (n+1) (.ref F.f)))→(H' l=some (.lst xs)∨∃s,H' l=some (.lst (xs.set i.toNat (tf s))))→ym H' F.fa (k+1)→H d=none→H' d=some (.xd [("count",.int n)])→E (.ref a.q0f) (some d) H')
def xf9(a:Adr)(H:Hp)(F:FA)(k:Nat)(E:XK)(p:List Int→List (Option Int)→Prop):Prop:=k<30→∀n d H' cells' notes',Kp (SF F) H H'→StF a H' F cells' notes' (k+1)→p cells' notes'→H' d=some (.xd [("count",.int n)])→E (.ref a.q0f) (some d) H'
def xa0(K:ah)(a:Adr):Sp:=fun vs H Q E=>∃(F:FA) (cells:List Int) (notes:List (Option Int)) (i s:Int) (k:Nat),vs=[.ref F.S.st,.int i,.int s]∧Bs K F∧StF a H F cells notes k∧k≤30∧inR cells i∧
 (∀H',Kp (SF F) H H'→StF a H' F (cells.set i.toNat s) notes k→Q .non H')∧xf9 a H F k E fun cells' notes'=>notes'=notes∧(cells'=cells∨∃t,cells'=cells.set i.toNat t)
def xga(K:ah)(a:Adr):Sp:=fun vs H Q E=>∃(F:FA) (cells:List Int) (notes:List (Option Int)) (i m:Int) (k:Nat),vs=[.ref F.S.st,.int i,.int m]∧Bs K F∧StF a H F cells notes k∧k≤30∧0≤i∧i<notes.length∧
 (∀H',Kp (SF F) H H'→StF a H' F cells (notes.set i.toNat (some m)) k→Q .non H')∧xf9 a H F k E fun cells' notes'=>cells'=cells∧(notes'=notes∨notes'=notes.set i.toNat none)
def xgb(K:ah)(a:Adr):Sp:=fun vs H Q E=>∃(F:FA) (cells:List Int) (notes:List (Option Int)) (m:Int) (k:Nat),vs=[.ref F.S.st,.int m]∧Bs K F∧StF a H F cells notes k∧k≤30∧notes.length=2∧
 (∀H',Kp (SF F) H H'→StF a H' F cells (notes.set (m%2).toNat (some m)) k→Q .non H')∧xf9 a H F k E fun cells' notes'=>cells'=cells∧(notes'=notes∨notes'=notes.set (m%2).toNat none)
def xfe(K:ah)(a:Adr):Sp:=fun vs H Q E=>∃(F:FA) (cells:List Int) (notes:List (Option Int)) (k:Nat),vs=[.ref F.S.st]∧Bs K F∧StF a H F cells notes k∧k≤30∧notes.length=2∧
 (∀H',Kp (SF F) H H'→StF a H' F cells [some 0,some 0] k→Q .non H')∧xf9 a H F k E fun cells' notes'=>cells'=cells∧notes'.length=2
def xkF(H:Hp)(Q:VK)(xss:List (List Int)):Prop:=∀(l:Addr) (as:List Addr) (H':Hp),xb H H'→yH H H' l as xss→Q (.ref l) H'
def xcd(a:Adr):Sp:=fun vs H Q _=>∃(p dx:Addr) (to st c:Int),vs=[.ref p]∧H p=some (.ins a.q0a dx (xb9 to st c))∧1≤c∧c≤1000∧(st - to).natAbs<2^200∧xkF H Q (ya to st c)
def xce(a:Adr):Sp:=fun vs H Q _=>∃(p dx t:Addr) (to n:Int),vs=[.ref p]∧H p=some (.ins a.q0c dx (xca to t n))∧n≤1000∧xkF H Q [yD to n.toNat]
def xf.cv:xf→List Int
 | .take to _ c=>yD to c.toNat
 | .put to sg=>yD to sg.length
def xf.rds:xf→List Int
 | .take to st c=>if st=to then[]else yD st c.toNat
 | .put _ _=>[]
def xf.wrs:xf→List Int
 | .take to st c=>if st=to then[]else yD to c.toNat
 | .put to sg=>yD to sg.length
def xdG:Nat→List xf→List Int→Option (Nat×Int)
 |_,[],_=>none
 |k,r::rest,wr=>match r.rds.find? fun c=>decide (c∈wr)with
  |some c=>some (k,c)
  |none=>xdG (k+1) rest (wr++r.wrs)
def xff(rs:List xf):Option (Nat×Int):=xdG 0 rs []
def xf.to:xf→Int
 | .take t _ _=>t
 | .put t _=>t
def xf.cnt:xf→Nat
 | .take _ _ c=>c.toNat
 | .put _ sg=>sg.length
def xf.sg(es:List Int):xf→List Int
 | .take _ st c=>(es.drop st.toNat).take c.toNat
 | .put _ sg=>sg
def xf.fits(es:List Int):xf→Prop
 | .take _ st c=>st+c≤es.length
 | .put _ _=>True
theorem xf.sg_len{es:List Int}{r:xf}(ok:r.ok)(f:r.fits es):(r.sg es).length=r.cnt:=by
 cases r with
 |take to st c=>
  obtain⟨k1,k2,k3⟩:=ok;have f':st+c≤es.length:=f;simp only[xf.sg,xf.cnt,bM,aX];lia
 |put to sg=>rfl
theorem xf.ok.to{r:xf}(ok:r.ok):0≤r.to:=by
 cases r with
 |take to st c=>exact ok.1
 |put to sg=>exact ok.1
def Tells(es nw:List Int)(r:xf):Prop:=r.ok∧r.fits es∧r.to+r.cnt≤nw.length∧∀i:Nat,i<r.cnt→nw[(r.to+i).toNat]? =(r.sg es)[i]?
def yq(r:xf)(j:Nat):Prop:=r.to≤j∧(j:Int)<r.to+r.cnt
def xf.neg:xf→Prop
 | .put _ sg=>True
 | .take .. =>True
def xf.inO(old:Int):xf→Prop
 | .take _ st c=>st+c≤old
 | .put .. =>True
def Good(old:Int)(r:xf):Prop:=r.ok∧r.neg∧r.inO old
def pcs:xf→List (List Int)
 | .take to st c=>ya to st c
 | .put to sg=>[yD to sg.length]
def xkG(C:List Int):xf→Int→Option Int
 | .take to st _,j=>C[(st+j - to).toNat]?
 | .put to sg,j=>sg[(j - to).toNat]?
def Part(C:List Int)(r:xf)(D cur:List Int):Prop:=cur.length=C.length∧∀j:Nat,j<C.length→cur[j]? =if (j:Int)∈D then xkG C r j else C[j]?
def xnM(rs:List xf)(C0:List Int)(Cs:Nat→List Int)(k:Nat):Prop:=Cs 0=C0∧(∀j,(Cs j).length=C0.length)∧∀j r,j<k→rs[j]? =some r→Part (Cs j) r (pcs r).flatten (Cs (j+1))
local macro_rules| `(tactic|walk_at"w")=>`(tactic|(conv=>whnf))
local macro_rules| `(tactic|walk_at"few")=>`(tactic|first|exact Nat.lt_of_lt_of_le (xn7 (n:=998) (by simp)) (by decide)|(simp;done))
local macro_rules| `(tactic|walk_at"pos")=>`(tactic|first|(show(0:Int)<_;decide)|(show(0:Int)<_;lia)|assumption)
local macro_rules| `(tactic|walk_at"same")=>`(tactic|first|exact xb.refl _|assumption|(refine' xb.trans ?sa ?sb;(case sb=>assumption);(case sa=>walk_at"same")))
local macro_rules| `(tactic|walk_at"get")=>`(tactic|first|assumption|exact xk|(refine' xb.at ?ga ?gb;(case gb=>assumption);(case ga=>walk_at"same")))
local macro_rules| `(tactic|walk_at"sq")=>`(tactic|first|assumption|(refine' SqL.of ?g;(case g=>walk_at"get"))|(refine' SqT.of ?g;(case g=>walk_at"get"))|(refine' xb.seq ?sa ?sb;(case sb=>assumption);(case sa=>walk_at"same"))|(refine' xb.seqT ?sa ?sb;(case sb=>assumption);(case sa=>walk_at"same"))|(refine' Or.inl ?g;(case g=>walk_at"sq"))|(refine' Or.inr ?g;(case g=>walk_at"sq")))
local macro_rules| `(tactic|walk_at"no")=>`(tactic|(intro z;first|cases z|(simp at z;done)))
local macro_rules| `(tactic|walk_at"mul")=>`(tactic|first|exact Or.inl ⟨by decide,by decide⟩|exact Or.inr ⟨by decide,by decide⟩|exact Or.inl ⟨by lia,by lia⟩|exact Or.inr ⟨by lia,by lia⟩)
local macro_rules| `(tactic|walk_at"side")=>`(tactic|first|exact⟨by decide,by decide⟩|exact⟨by decide,by decide,by decide⟩|walk_at"pos" |walk_at"mul" |(show(_:Nat)≤sizeLine;first|decide|(simp only[List.length_cons,List.length_nil];decide)))
local macro_rules| `(tactic|walk_at"s")=>`(tactic|(refine And.intro (by walk_at"side") ?_;walk_at"w"))
local macro_rules| `(tactic|walk_at"ss")=>`(tactic|(repeat (walk_at"s")))
section
variable {P:aG} {w:World} {K:ah} {mg:Str→Option Value} {base:Heap} {a:Adr}
theorem xgc(T:Txt K mg a):xy P w K mg base CX0 1 a.q0X a.jw ["self","count"] (xhM a.q0f "count"):=by
 refine T.q1u.ok xby (fun vs H Q E h=>?_) (fun cdv A outer s H vs Q E hr h=>?_)
 ·obtain⟨p,v,rfl,_⟩:=h;rfl
 ·obtain⟨p,v,rfl,hp,k⟩:=h;have nd:=xby.nd;refine⟨_,(xl (xom (cv 0) (cv 1) rfl)),?_⟩;walk_at"w";refine⟨p,_,_,rfl,hp,T.q22,T.q2F,fun d h1 h2=>?_⟩;exact k d h1 h2
theorem xdg(T:Txt K mg a):yR P w K mg base CX0 1 "<lambda>" "Store.write.<locals>.<lambda>" (zm xaH) (.expr (zo xaH)) (xU xaH) ["other"] xoG:=by
 refine uJ xjw (fun fv vs H Q E h=>?_) (fun _ _ _ _ _ us hl=>match us,hl with|[_],_=>rfl) (fun A outer s H f clos cdv fv vs Q E hr h=>?_)
 ·obtain⟨v,rfl,rfl,_⟩:=h;exact⟨rfl,rfl⟩
 ·obtain⟨v,rfl,rfl,k⟩:=h;have nd:=xjw.nd;refine⟨_,(cv 0),?_⟩;walk_at"w";exact k
theorem xbk(T:Txt K mg a):yR P w K mg base CX0 1 "<lambda>" "Store.note_down.<locals>.<lambda>" (zm xaI) (.expr (zo xaI)) (xU xaI) ["other"] xoH:=by
 refine uJ xjx (fun fv vs H Q E h=>?_) (fun _ _ _ _ _ us hl=>match us,hl with|[_],_=>rfl) (fun A outer s H f clos cdv fv vs Q E hr h=>?_)
 ·obtain⟨v,rfl,rfl,_⟩:=h;exact⟨rfl,rfl⟩
 ·obtain⟨v,rfl,rfl,k⟩:=h;have nd:=xjx.nd;refine⟨_,xeG,?_⟩;exact k
theorem xi4(T:Txt K mg a):xy P w K mg base CX0 1 a.q1C a.xb4 ["self","fall"] (xi3 a):=by
 refine T.q2r.ok xd1 (fun vs H Q E h=>?_) (fun cdv A outer s H vs Q E hr h=>?_)
 ·obtain⟨p,dp,fl,rfl,_⟩:=h;rfl
 ·obtain⟨p,dp,fl,rfl,hp,k⟩:=h;have nd:=xd1.nd;refine⟨_,(xg (yW (cv 0) xm rfl)
  (xl (yW (cv 0) (cv 1) rfl))),?_⟩
  walk_at"w";refine⟨p,_,dp,_,rfl,hp,T.q2E,T.q1X,by walk_at"few",?_⟩;walk_at"w";refine⟨p,_,dp,_,rfl,xk,T.q2E,T.q2Y,by walk_at"few",?_⟩;walk_at"w";rw[yU];exact k
theorem xne(T:Txt K mg a){H:Hp}{g:Addr}{tf:Int→V}{s:Int}{Q:VK}(h:xcc H g tf)(q:Q (tf s) H):FnV P w K mg base 1 H g [.int s] Q:=by
 rcases h with⟨h,rfl⟩|⟨h,rfl⟩
 ·exact⟨_,_,_,_,_,_,_,_,xdg T,h,_,rfl,rfl,q⟩
 ·exact⟨_,_,_,_,_,_,_,_,xbk T,h,_,rfl,rfl,q⟩
theorem xcc.clo{H:Hp}{g:Addr}{tf:Int→V}(h:xcc H g tf):∃nm qual params body scope fv,xV H g nm qual params body scope fv:=by
 rcases h with⟨h,_⟩|⟨h,_⟩
 ·exact⟨_,_,_,_,_,_,h⟩
 ·exact⟨_,_,_,_,_,_,h⟩
theorem xcc.kp{H H':Hp}{S:List Addr}{g:Addr}{tf:Int→V}(h:xcc H g tf)(mu:∀x∈S,∃u,H x=some u∧jB u)(k:Kp S H H'):xcc H' g tf:=by
 rcases h with⟨h,e⟩|⟨h,e⟩
 ·exact .inl ⟨xV.kp h mu k,e⟩
 ·exact .inr ⟨xV.kp h mu k,e⟩
theorem xg3(T:Txt K mg a):xy P w K mg base CX0 3 a.q0R a.vx ["self","cells","fall"] (xg0 K a):=by
 refine T.zW.ok xcs (fun vs H Q E h=>?_) (fun cdv A outer s H vs Q E hr h=>?_)
 ·obtain⟨st,dx,l,cells,fl,rfl,_⟩:=h;rfl
 ·obtain⟨st,dx,l,cells,fl,rfl,hst,hl,k⟩:=h;have nd:=xcs.nd;refine⟨_,(xg (yW (cv 0) (yK jV (by rfl) T.q2H vK (xa (cv 1) xc)) rfl)
  (xg (yW (cv 0) (yi (xa xm (xa xm xc))) rfl)
  (xl (yW (cv 0) (uU T.q3T (xi4 T) (hr.mono (by decide)) (by rfl) T.xqz T.xkx .nil xp (xa (cv 2) xc)) rfl)))),?_⟩
  walk_at"w";refine⟨l,_,rfl,.inl (SqL.of hl),?_⟩;intro ca hca;walk_at"w";refine⟨st,_,dx,_,rfl,by rw[xj (xv hst hca)];exact hst,T.q0e,T.q06,by walk_at"few",?_⟩;generalize hU1:upd (upd H ca _) st _=H1;have k1:Kp [st] H H1:=by rw[←hU1];exact((Kp.of (xb.refl _)).mk hca).wr (by simp)
  have f1:H1 st=some (.ins a.q0b dx [("cells",.ref ca)]):=by rw[←hU1,xk];rfl
  have g1:H1 ca=some (.lst (cells.map V.int)):=by rw[←hU1,xj (aR (xv hst hca)),xk]
  have b1:∀b,H1 b=none→H b=none∧b≠st∧b≠ca:=fun b hb=>by
   have n1:b≠st:=fun z=>by rw[z,f1]at hb;cases hb
   have n2:b≠ca:=fun z=>by rw[z,g1]at hb;cases hb
   rw[←hU1,xj n1,xj n2]at hb;exact⟨hb,n1,n2⟩
  clear hU1;walk_at"w";walk_at"ss";intro na hna;obtain⟨na0,na1,na2⟩:=b1 na hna;walk_at"w";refine⟨st,_,dx,_,rfl,by rw[xj (xv f1 hna)];exact f1,T.q0e,T.q1n,by walk_at"few",?_⟩;generalize hU2:upd (upd H1 na _) st _=H2;have k2:Kp [st] H H2:=by rw[←hU2];exact(k1.mk na0).wr (by simp)
  have f2:H2 st=some (.ins a.q0b dx [("cells",.ref ca),("notes",.ref na)]):=by rw[←hU2,xk];rfl
  have g2:H2 ca=some (.lst (cells.map V.int)):=by rw[←hU2,xj (uD g1 f1 (by intro z;cases z)),xj (aR na2)];exact g1
  have m2:H2 na=some (.lst ([some 0,some 0].map nV)):=by rw[←hU2,xj na1,xk];rfl
  have b2:∀b,H2 b=none→H b=none∧b≠st∧b≠ca∧b≠na:=fun b hb=>by
   have n1:b≠st:=fun z=>by rw[z,f2]at hb;cases hb
   have n3:b≠na:=fun z=>by rw[z,m2]at hb;cases hb
   rw[←hU2,xj n1,xj n3]at hb;exact⟨(b1 b hb).1,n1,(b1 b hb).2.2,n3⟩
  clear hU2 b1;walk_at"w";intro p dp hp hdp nep;obtain⟨p0,p1,p2,p3⟩:=b2 p hp;obtain⟨q0,q1,q2,q3⟩:=b2 dp hdp;refine⟨p,dp,fl,rfl,xk,?_⟩;refine⟨rfl,?_⟩;walk_at"w";rw[yU];have e3:∀b,b≠p→b≠dp→∀o o',upd (upd H2 dp o) p o' b=H2 b:=fun b n1 n2 o o'=>by rw[xj n1,xj n2]
  refine⟨st,_,dx,_,rfl,by rw[e3 _ (aR p1) (aR q1)];exact f2,T.q0e,T.q1Y,by walk_at"few",?_⟩;refine k ⟨st,dx,ca,na,p,dp⟩ _ rfl (((k2.mk q0).mk p0).wr (by simp)) ⟨?_,?_,?_,?_,aR na2,p1⟩ hca na0 p0
  ·rw[xk];rfl
  ·rw[xj (uD g2 f2 (by intro z;cases z)),e3 _ (aR p2) (aR q2)];exact g2
  ·rw[xj na1,e3 _ (aR p3) (aR q3)];exact m2
  ·rw[xj p1,xk]
theorem um(T:Txt K mg a):xy P w K mg base CX0 1 a.q0g a.zh ["self","at"] (xfd a):=by
 refine T.q0p.ok uk (fun vs H Q E h=>?_) (fun cdv A outer s H vs Q E hr h=>?_)
 ·obtain⟨S,cells,notes,n,i,fl,rfl,_⟩:=h;rfl
 ·obtain⟨S,cells,notes,n,i,fl,rfl,hS,hi,k⟩:=h;have nd:=uk.nd;refine⟨_,(xl (xT (PW.pt (xbJ (xK xa6 (cv 1) xm) (xcA (xK xjY (cv 1) (xq xx (by rfl) T.q0k xM (xa (xA (cv 0) rfl) xc)))))) (xl xdB) xN)),?_⟩;walk_at"w";refine⟨fun e=>absurd (of_decide_eq_true e) (by have:=hi.1;omega),fun e=>?_⟩;walk_at"w";refine⟨S.st,_,S.dx,_,.ref S.ca,rfl,hS.st,T.q0e,T.q06,rfl,?_⟩;walk_at"w";refine⟨S.ca,_,rfl,.inl (SqL.of hS.ca),?_⟩;walk_at"w";rw[af];refine⟨fun e1=>absurd (of_decide_eq_true e1) (by have:=hi.2;omega),fun e1=>?_⟩;exact k
theorem xg4(T:Txt K mg a):xy P w K mg base CX0 2 a.q09 a.xas ["self","at"] (xg1 a):=by
 refine T.q1T.ok xct (fun vs H Q E h=>?_) (fun cdv A outer s H vs Q E hr h=>?_)
 ·obtain⟨S,cells,notes,n,i,v,fl,rfl,_⟩:=h;rfl
 ·obtain⟨S,cells,notes,n,i,v,fl,rfl,hS,hi,hv,k⟩:=h;have nd:=xct.nd;refine⟨_,(xg (xH (uT (cv 0) T.q0e T.q02 (um T) (hr.mono (by decide)) T.uB .nil xp (xa (cv 1) xc)))
  (xl (xu (xF yB (xA (cv 0) rfl) (cv 1) (fun _ _=>rfl))))),?_⟩
  walk_at"w";refine⟨S.st,S.dx,_,rfl,hS.st,rfl,?_⟩;walk_at"w";refine⟨S,cells,notes,n,i,fl,rfl,hS,hi,?_⟩;walk_at"w";refine⟨S.st,_,S.dx,_,.ref S.ca,rfl,hS.st,T.q0e,T.q06,rfl,?_⟩;walk_at"w";refine⟨S.ca,_,i,.int v,rfl,rfl,SqL.of hS.ca,xhG hi.1 hv,?_⟩;exact k
theorem xcw(T:Txt K mg a):xy P w K mg base CX0 1 a.q1b a.xau ["self"] (xoF a):=by
 refine T.q1V.ok xcv (fun vs H Q E h=>?_) (fun cdv A outer s H vs Q E hr h=>?_)
 ·obtain⟨S,cells,notes,n,fl,rfl,_⟩:=h;rfl
 ·obtain⟨S,cells,notes,n,fl,rfl,hS,k⟩:=h;have nd:=xcv.nd;refine⟨_,(xl (xu (yx (xa (yK jV (by rfl) T.q2H vK (xa (xA (cv 0) rfl) xc)) (xa (yK jV (by rfl) T.q2H vK (xa (xA (cv 0) rfl) xc)) (xa (xA (xA (cv 0) rfl) rfl) xc)))))),?_⟩;walk_at"w";refine⟨S.st,_,S.dx,_,.ref S.ca,rfl,hS.st,T.q0e,T.q06,rfl,?_⟩;walk_at"w";refine⟨S.ca,_,rfl,.inl (SqL.of hS.ca),?_⟩;intro c hc;generalize hUc:upd H c _=H1;have sH1:=xb.of_eq hc hUc;have ec:=xn hUc;clear hUc;walk_at"w";have hS1:=hS.same sH1;refine⟨S.st,_,S.dx,_,.ref S.na,rfl,hS1.st,T.q0e,T.q1n,rfl,?_⟩;walk_at"w";refine⟨S.na,_,rfl,.inl (SqL.of hS1.na),?_⟩;intro m hm;generalize hUm:upd H1 m _=H2;have sH2:=xb.of_eq hm hUm;have em:=xn hUm;clear hUm;walk_at"w";have hS2:=hS1.same sH2;refine⟨S.st,_,S.dx,_,.ref S.p,rfl,hS2.st,T.q0e,T.q1Y,rfl,?_⟩;walk_at"w";refine⟨S.p,_,S.dp,_,.int n,rfl,hS2.p,T.q2E,T.q1X,rfl,?_⟩;walk_at"w";walk_at"ss";intro t ht;generalize hUt:upd H2 t _=H3;have sH3:=xb.of_eq ht hUt;have et:=xn hUt;clear hUt;walk_at"w";exact k t c m H3 (sH1.trans (sH2.trans sH3)) hc (sH1.back hm) (xv ec hm) et (sH3.at (sH2.at ec)) (sH3.at em)
theorem xcf:∀notes:List (Option Int),((notes.map nV).filter fun v=> !(isN v)).map (fun v=>v)=(notes.filterMap id).map V.int
 |[]=>rfl
 |none::r=>by
  have:=xcf r;simpa [nV,isN]using this
 |some i::r=>by
  have:=xcf r;simpa [nV,isN]using this
theorem xbE(T:Txt K mg a):xy P w K mg base CX0 1 a.q00 a.jz ["self"] (xl9 a):=by
 refine T.q1x.ok xbC (fun vs H Q E h=>?_) (fun cdv A outer s H vs Q E hr h=>?_)
 ·obtain⟨S,cells,notes,n,fl,rfl,_⟩:=h;rfl
 ·obtain⟨S,cells,notes,n,fl,rfl,hS,h2,k⟩:=h;have nd:=xbC.nd;refine⟨_,(xl (xu (xjo rfl (by rfl) T.q21 (xa (xX (yg (cap:=[]) (ys:=[]) rfl rfl rfl rfl rfl trivial (by decide+kernel)) rfl (xW (xA (cv 0) rfl)) (fun _ _ _ _=>(cv 0)) (fun _ _ _ _=>(jR (xn8 (cv 0))))) xc) xm))),?_⟩;walk_at"w";refine⟨S.st,_,S.dx,_,.ref S.na,rfl,hS.st,T.q0e,T.q1n,rfl,?_⟩;walk_at"w";refine⟨S.na,rfl,⟨_,SqL.of hS.na⟩,?_⟩;refine vf (fun v=> !(isN v)) (fun v=>v) (SqL.of hS.na) (by rw[af,h2];decide) (fun x H3 hx s3 R hR=>?_) (fun x H3 hx hp s3 R hR=>?_) (fun D H' hD s' e'=>?_)
  ·exact hR H3 (xb.refl _)
  ·exact hR H3 (xb.refl _)
  ·rw[xcf]at e';exact⟨D,_,0,rfl,rfl,SqL.of e',fun m h1 h2=>k m H' s' ⟨h1,h2⟩⟩
theorem xbl(T:Txt K mg a):xy P w K mg base CX0 1 a.q1z a.xbZ ["self","to"] (xi0 K):=by
 refine T.q2p.ok xdW (fun vs H Q E h=>?_) (fun cdv A outer s H vs Q E hr h=>?_)
 ·obtain⟨p,C,dx,to,rfl,_⟩:=h;rfl
 ·obtain⟨p,C,dx,to,rfl,hp,c,n1,n2,k⟩:=h;have nd:=xdW.nd;refine⟨_,(xg (yW (cv 0) (cv 1) rfl)
  (xl (yW (cv 0) xm rfl))),?_⟩
  walk_at"w";refine⟨p,C,dx,_,rfl,hp,c,n1,by walk_at"few",?_⟩;walk_at"w";refine⟨p,C,dx,_,rfl,xk,c,n2,by walk_at"few",?_⟩;walk_at"w";rw[yU];exact k
theorem xdh(T:Txt K mg a):xy P w K mg base CX0 2 a.q1k a.xbd ["self","to","start","count"] (xh8 a):=by
 refine T.q2a.ok xda (fun vs H Q E h=>?_) (fun cdv A outer s H vs Q E hr h=>?_)
 ·obtain⟨p,dx,to,st,c,rfl,_⟩:=h;rfl
 ·obtain⟨p,dx,to,st,c,rfl,hp,k⟩:=h;have nd:=xda.nd;refine⟨_,(xg (xH (xfJ (by rfl) T.xky T.q2t (xbl T) (hr.mono (by decide)) T.xb5 .nil xp (xa (cv 0) (xa (cv 1) xc))))
  (xg (yW (cv 0) (cv 2) rfl)
  (xl (yW (cv 0) (cv 3) rfl)))),?_⟩
  walk_at"w";refine⟨p,_,dx,to,rfl,hp,T.q0d,T.q0s,T.q0v,?_⟩;walk_at"w";refine⟨p,_,dx,_,rfl,xk,T.q0d,T.q0h,by walk_at"few",?_⟩;walk_at"w";refine⟨p,_,dx,_,rfl,xk,T.q0d,T.q0v,by walk_at"few",?_⟩;walk_at"w";rw[yU,yU];exact k
theorem uC(T:Txt K mg a):xy P w K mg base CX0 2 a.q1i a.jM ["self","to","signs"] (xi1 K a):=by
 refine T.q16.ok vW (fun vs H Q E h=>?_) (fun cdv A outer s H vs Q E hr h=>?_)
 ·obtain⟨p,dx,t,to,xs,rfl,_⟩:=h;rfl
 ·obtain⟨p,dx,t,to,xs,rfl,hp,ht,k⟩:=h;have nd:=vW.nd;have ht1:∀o,SqT K (upd H p o) t xs:=fun o=>xl6 ht hp;refine⟨_,(xg (xH (xfJ (by rfl) T.xky T.q2t (xbl T) (hr.mono (by decide)) T.xb5 .nil xp (xa (cv 0) (xa (cv 1) xc))))
  (xg (yW (cv 0) (yK jn (by rfl) T.q2B vL (xa (cv 2) xc)) rfl)
  (xl (yW (cv 0) (xq xx (by rfl) T.q0k xM (xa (xA (cv 0) rfl) xc)) rfl)))),?_⟩
  walk_at"w";refine⟨p,_,dx,to,rfl,hp,T.q0x,T.q1f,T.q1e,?_⟩;walk_at"w";refine⟨t,xs,rfl,.inr ⟨ht1 _,?_⟩⟩;walk_at"w";refine⟨p,_,dx,_,rfl,xk,T.q0x,T.q0D,by walk_at"few",?_⟩;walk_at"w";refine⟨p,_,dx,_,.ref t,rfl,xk,T.q0x,T.q0D,rfl,?_⟩;walk_at"w";refine⟨t,xs,rfl,.inr (xl6 (ht1 _) xk),?_⟩;walk_at"w";refine⟨p,_,dx,_,rfl,xk,T.q0x,T.q1e,by walk_at"few",?_⟩;walk_at"w";rw[yU,yU];exact k
theorem xgd(T:Txt K mg a):xy P w K mg base CX0 1 a.q0Y a.jx ["self"] (xkB K):=by
 refine T.q1v.ok xbz (fun vs H Q E h=>?_) (fun cdv A outer s H vs Q E hr h=>?_)
 ·obtain⟨p,C,dx,fs,to,c,rfl,_⟩:=h;rfl
 ·obtain⟨p,C,dx,fs,to,c,rfl,hp,cl,n1,n2,l1,l2,hc,k⟩:=h;have nd:=xbz.nd;refine⟨_,(xl (xu (yK (jo rfl) (by rfl) T.q2H vK (xa (xcH (by rfl) T.q0W (xa (xA (cv 0) rfl) (xa (xr xY (xA (cv 0) rfl) (xA (cv 0) rfl)) xc))) xc)))),?_⟩;walk_at"w";refine⟨p,C,dx,fs,_,rfl,hp,cl,n1,l1,?_⟩;walk_at"w";refine⟨p,C,dx,fs,_,rfl,hp,cl,n1,l1,?_⟩;walk_at"w";refine⟨p,C,dx,fs,_,rfl,hp,cl,n2,l2,?_⟩;walk_at"w";intro r hr1;walk_at"w";have e:yv to (to+c) 1=c.toNat:=by rw[zQ];congr 1;lia
  refine⟨r,to,to+c,rfl,xk,by rw[e];exact hc,fun l hl=>?_⟩;rw[e,xf6];have hl0:H l=none:=xb.free (xb.new hr1) hl;exact k l _ ((xb.new hr1).put hl0) hl0 xk
theorem jC(T:Txt K mg a):xy P w K mg base CX0 1 a.q07 a.xan ["self"] (xm8 a):=by
 refine T.q1R.ok xcn (fun vs H Q E h=>?_) (fun cdv A outer s H vs Q E hr h=>?_)
 ·obtain⟨p,dx,to,st,c,rfl,_⟩:=h;rfl
 ·obtain⟨p,dx,to,st,c,rfl,hp,k⟩:=h;have nd:=xcn.nd;refine⟨_,(xl (xu (vZ vT (xA (cv 0) rfl) (xA (cv 0) rfl)))),?_⟩;walk_at"w";refine⟨p,_,dx,_,.int st,rfl,hp,T.q0d,T.q0h,rfl,?_⟩;walk_at"w";refine⟨p,_,dx,_,.int to,rfl,hp,T.q0d,T.q0s,rfl,?_⟩;exact k
theorem vz(T:Txt K mg a):xy P w K mg base CX0 1 a.q2g a.xc2 ["_law_script","_law_k"] (xkC K):=by
 refine T.q1d.ok xfa (fun vs H Q E h=>?_) (fun cdv A outer s H vs Q E hr h=>?_)
 ·obtain⟨l,ns,k,rfl,_⟩:=h;rfl
 ·obtain⟨l,ns,k,rfl,hl,hk,q⟩:=h;have nd:=xfa.nd;refine⟨_,(xg (xT (xK xa6 (cv 1) (xq xx (by rfl) T.q0k xM (xa (cv 0) xc))) (xl (xu (xF yB (cv 0) (cv 1) (fun _ _=>rfl)))) xN)
  (xl (xu xm))),?_⟩
  walk_at"w";refine⟨l,_,rfl,.inl hl,?_⟩;walk_at"w";refine⟨fun e=>?_,fun e=>?_⟩
  ·have e':=of_decide_eq_true e;rw[af]at e';walk_at"w";refine⟨l,_,k,.int (ns.getD k.toNat 0),rfl,rfl,hl,?_,?_⟩
   ·have hk':k.toNat<ns.length:=by lia
    have:=yV (xs:=ns.map V.int) (j:=k.toNat) (v:=.int (ns.getD k.toNat 0)) (by simp[hk'])
    rwa [bL hk]at this
   ·walk_at"w";rw[cellAt,if_pos e']at q;exact q
  ·have e':=of_decide_eq_false e;rw[af]at e';rw[cellAt,if_neg e']at q;exact q
theorem xfg(x:Int):0≤x%2147483647∧x%2147483647<2147483647:=⟨bW _ (by decide),bU _ (by decide)⟩
theorem xaJ(T:Txt K mg a):xy P w K mg base CX0 1 a.q2J a.xfW ["_law_cell","_law_k"] xm9:=by
 refine T.q1W.ok xh4 (fun vs H Q E h=>?_) (fun cdv A outer s H vs Q E hr h=>?_)
 ·obtain⟨c,k,rfl,_⟩:=h;rfl
 ·obtain⟨c,k,rfl,q⟩:=h;have nd:=xh4.nd;refine⟨_,(xg (xT (xK vT (xr yE (cv 0) xm) xm) (xl (xu (xr yE (xr xqp (cv 0) (xr xY xm (xr xdy xm (xr yE (cv 1) xm)))) (xr xhf xm xm)))) xN)
  (xg (xt (i:=2) nd rfl (aM rfl) (xr yE (xr xdy (xr xY (xr xY (xr yE (xr uZ (cv 0) xm) xm) (xr xdy xm (cv 1))) xm) xm) xm))
  (xl (xu (xr yE (xr xdy (cv 2) (xr xY (xr uZ (cv 2) xm) xm)) xm))))),?_⟩
  walk_at"w";walk_at"ss";refine⟨fun e=>?_,fun e=>?_⟩
  ·have e:c%2=1:=of_decide_eq_true e;rw[mixed,if_pos e]at q;have:=bW k (show(120:Int)≠0 by decide);walk_at"w";walk_at"ss";refine dF (show(0:Int)≤_ by lia) ?_;walk_at"w";walk_at"ss";exact q
  ·have e:¬c%2=1:=of_decide_eq_false e;rw[mixed,if_neg e]at q;have b:=xfg ((c / 2%2147483647+7919*k+1)*48271);walk_at"w";walk_at"ss";exact q
theorem xd3(T:Txt K mg a):xy P w K mg base CX0 1 a.q13 a.xb1 ["value"] xi2:=by
 refine T.q1D.ok xdY (fun vs H Q E h=>?_) (fun cdv A outer s H vs Q E hr h=>?_)
 ·obtain⟨i,rfl,_⟩:=h;rfl
 ·obtain⟨i,rfl,q⟩:=h;have nd:=xdY.nd;refine⟨_,(xl (xu (va (xq zy (by rfl) T.q0n xZ (xa (cv 0) (xa (xbn (v:=.ty "int") (by rfl) T.q4b xpt rfl) xc))) (jT (xpm (xq zy (by rfl) T.q0n xZ (xa (cv 0) (xa (xbn (v:=.ty "bool") (by rfl) T.q3U xn5 rfl) xc)))))))),?_⟩;walk_at"w";refine⟨_,_,_,_,true,rfl,rfl,ze.int _,rfl,?_⟩;walk_at"w";refine⟨fun _=>?_,by walk_at"no"⟩;walk_at"w";refine⟨_,_,_,_,false,rfl,rfl,ze.int _,rfl,?_⟩;exact q
theorem zE(T:Txt K mg a):xy P w K mg base CX0 2 a.q0M a.vo ["least","value"] xew:=by
 refine T.q0m.ok xaB (fun vs H Q E h=>?_) (fun cdv A outer s H vs Q E hr h=>?_)
 ·obtain⟨l,i,rfl,_⟩:=h;rfl
 ·obtain⟨l,i,rfl,q⟩:=h;have nd:=xaB.nd;refine⟨_,(xl (xu (va (xw (xd3 T) (hr.mono (by decide)) (by rfl) T.xeX T.q1D.kp T.xeW .nil xp (xa (cv 1) xc)) (jT (vZ xjY (cv 1) (cv 0)))))),?_⟩;walk_at"w";refine⟨i,rfl,?_⟩;walk_at"w";exact⟨fun _=>q,by walk_at"no"⟩
theorem xkH(T:Txt K mg a):xy P w K mg base CX0 2 a.q2c a.xcY ["value"] xkA:=by
 refine T.q2j.ok xe6 (fun vs H Q E h=>?_) (fun cdv A outer s H vs Q E hr h=>?_)
 ·obtain⟨i,rfl,_⟩:=h;rfl
 ·obtain⟨i,rfl,hi,q⟩:=h;have nd:=xe6.nd;refine⟨_,(xl (xu (va (xw (xd3 T) (hr.mono (by decide)) (by rfl) T.xeX T.q1D.kp T.xeW .nil xp (xa (cv 0) xc)) (jT (vZ xa6 (xq xqi (by rfl) T.q38 xpq (xa (cv 0) xc)) (xr xhf xm xm)))))),?_⟩;walk_at"w";refine⟨i,rfl,?_⟩;walk_at"w";refine⟨fun _=>?_,by walk_at"no"⟩;walk_at"w";refine⟨⟨by decide,by decide,by decide⟩,?_⟩;walk_at"w";show Q (.bl (decide ((i.natAbs:Int)<10^(60:Int).toNat))) H;have e:decide ((i.natAbs:Int)<10^(60:Int).toNat)=true:=decide_eq_true hi;rw[e];exact q
theorem xid(T:Txt K mg a):xy P w K mg base CX0 3 a.q1H a.xbg ["signs"] (xh9 K):=by
 refine T.q1M.ok xdd (fun vs H Q E h=>?_) (fun cdv A outer s H vs Q E hr h=>?_)
 ·obtain⟨u,sg,rfl,_⟩:=h;rfl
 ·obtain⟨u,sg,rfl,hu,hne,hlen,hs,q⟩:=h;have nd:=xdd.nd;refine⟨_,(xl (xu (va (xq zy (by rfl) T.q0n xZ (xa (cv 0) (xa (xbn (v:=.ty "tuple") (by rfl) T.q2B vL rfl) xc))) (va (vZ xfG (xq xx (by rfl) T.q0k xM (xa (cv 0) xc)) xm) (jT (xq (xlz rfl) (by rfl) T.q39 xps (xa (xX (yg (cap:=[]) (ys:=[]) rfl rfl rfl rfl rfl trivial (by decide+kernel)) rfl (xk6 (cv 0)) (fun _ _ _ _=>(xw (xkH T) (hr.mono (by decide)) (by rfl) T.xlT T.q2j.kp T.xlS .nil xp (xa (cv 0) xc))) (fun _ _ _ _=>ye)) xc))))))),?_⟩;walk_at"w";refine⟨_,_,_,_,true,rfl,rfl,ze.tup hu,rfl,?_⟩;walk_at"w";refine⟨fun _=>?_,by walk_at"no"⟩;walk_at"w";refine⟨u,_,rfl,.inr (SqT.of hu),?_⟩;walk_at"w";have hpos:0<sg.length:=cu.mpr hne;refine⟨fun _=>?_,fun z=>by have:=of_decide_eq_false z;rw[af]at this;lia⟩;walk_at"w";refine⟨u,rfl,⟨_,SqT.of hu⟩,?_⟩;refine xlC (fun i acc _=>acc=bw i (V.bl true)) (SqT.of hu) (by rw[af,ax];lia) rfl (fun i x acc H3 H3' hx s3 s3' hp R hR=>?_) (fun D acc H3 H3' hD hD3 s3 s3' hp hl hv=>?_)
  ·rw[aF]at hx;cases hy:sg[i]? with
   |none=>rw[hy]at hx;cases hx
   |some y=>
    rw[hy]at hx;cases hx;walk_at"w";refine⟨y,rfl,hs y (aB hy),hR _ _ (xb.refl _) fun H6 _ _=>?_⟩;rw[hp,List.replicate_succ']
  ·walk_at"w";refine⟨D,bw sg.length true,rfl,SqL.of ?_,?_⟩
   ·rw[hv,hp,af,kH]
   ·walk_at"w";show Q (.bl ((bw sg.length true).all id)) H3';have e:(bw sg.length true).all id=true:=by simp
    rw[e];exact q _ (s3.trans s3')
theorem xg5(T:Txt K mg a):xy P w K mg base CX0 3 a.q1o a.xap ["told"] (xgZ K):=by
 refine T.q1r.ok xcp (fun vs H Q E h=>?_) (fun cdv A outer s H vs Q E hr h=>?_)
 ·obtain⟨t,r,rfl,_⟩:=h;rfl
 ·obtain⟨t,r,rfl,ht,hk,q⟩:=h;have nd:=xcp.nd;refine⟨_,(xg (xT (PW.pt (xbJ (xbo (yy (xq zy (by rfl) T.q0n xZ (xa (cv 0) (xa (xbn (v:=.ty "tuple") (by rfl) T.q2B vL rfl) xc))))) (xbJ (xK xj0 (xq xx (by rfl) T.q0k xM (xa (cv 0) xc)) xm) (xcA (xK xnG (xF xJ (cv 0) xm (fun _ _=>rfl)) xeH))))) (xl (xu vR)) xN)
  (xl (xu (va (xw (zE T) (hr.mono (by decide)) (by rfl) T.zO T.q0m.kp T.zN .nil xp (xa xm (xa (xF xJ (cv 0) xm (fun _ _=>rfl)) xc))) (va (xw (zE T) (hr.mono (by decide)) (by rfl) T.zO T.q0m.kp T.zN .nil xp (xa xm (xa (xF xJ (cv 0) xm (fun _ _=>rfl)) xc))) (jT (xw (zE T) (hr.mono (by decide)) (by rfl) T.zO T.q0m.kp T.zN .nil xp (xa xm (xa (xF xJ (cv 0) xm (fun _ _=>rfl)) xc))))))))),?_⟩
  cases r with
  |put to sg=>
   obtain⟨u,h1,h2⟩:=ht;walk_at"w";refine⟨_,_,_,_,true,rfl,rfl,ze.tup h1,rfl,?_⟩;walk_at"w";refine⟨by walk_at"no",fun _=>?_⟩;walk_at"w";refine⟨t,_,rfl,.inr (SqT.of h1),?_⟩;walk_at"w";refine⟨fun _=>?_,by walk_at"no"⟩;walk_at"w";exact⟨fun _=>q,by walk_at"no"⟩
  |take to st c=>
   walk_at"w";refine⟨_,_,_,_,true,rfl,rfl,ze.tup ht,rfl,?_⟩;walk_at"w";refine⟨by walk_at"no",fun _=>?_⟩;walk_at"w";refine⟨t,_,rfl,.inr (SqT.of ht),?_⟩;walk_at"w";refine⟨by walk_at"no",fun _=>?_⟩;walk_at"w";refine⟨t,_,_,.str "take",rfl,rfl,SqT.of ht,rfl,?_⟩;walk_at"w";refine⟨by walk_at"no",fun _=>?_⟩;walk_at"w";obtain⟨k1,k2,k3⟩:=hk;refine⟨t,_,_,.int to,rfl,rfl,SqT.of ht,rfl,?_⟩;walk_at"w";refine⟨_,_,rfl,?_⟩;walk_at"w";refine⟨fun _=>?_,fun z=>absurd k1 (of_decide_eq_false z)⟩;walk_at"w";refine⟨t,_,_,.int st,rfl,rfl,SqT.of ht,rfl,?_⟩;walk_at"w";refine⟨_,_,rfl,?_⟩;walk_at"w";refine⟨fun _=>?_,fun z=>absurd k2 (of_decide_eq_false z)⟩;walk_at"w";refine⟨t,_,_,.int c,rfl,rfl,SqT.of ht,rfl,?_⟩;walk_at"w";refine⟨_,_,rfl,?_⟩;walk_at"w";rw[decide_eq_true k3];exact q
theorem xie(T:Txt K mg a):xy P w K mg base CX0 4 a.q1G a.xbf ["told"] (xia K):=by
 refine T.q1L.ok xdc (fun vs H Q E h=>?_) (fun cdv A outer s H vs Q E hr h=>?_)
 ·obtain⟨t,to,sg,rfl,_⟩:=h;rfl
 ·obtain⟨t,to,sg,rfl,⟨u,h1,h2⟩,⟨k1,k2,k3,k4⟩,q⟩:=h;have nd:=xdc.nd;refine⟨_,(xg (xT (PW.pt (xbJ (xbo (yy (xq zy (by rfl) T.q0n xZ (xa (cv 0) (xa (xbn (v:=.ty "tuple") (by rfl) T.q2B vL rfl) xc))))) (xbJ (xK xj0 (xq xx (by rfl) T.q0k xM (xa (cv 0) xc)) xm) (xcA (xK xnG (xF xJ (cv 0) xm (fun _ _=>rfl)) xeH))))) (xl (xu vR)) xN)
  (xl (xu (va (xw (zE T) (hr.mono (by decide)) (by rfl) T.zO T.q0m.kp T.zN .nil xp (xa xm (xa (xF xJ (cv 0) xm (fun _ _=>rfl)) xc))) (jT (xw (xid T) (hr.mono (by decide)) (by rfl) T.xiU T.q1M.kp T.xiT .nil xp (xa (xF xJ (cv 0) xm (fun _ _=>rfl)) xc))))))),?_⟩
  walk_at"w";refine⟨_,_,_,_,true,rfl,rfl,ze.tup h1,rfl,?_⟩;walk_at"w";refine⟨by walk_at"no",fun _=>?_⟩;walk_at"w";refine⟨t,_,rfl,.inr (SqT.of h1),?_⟩;walk_at"w";refine⟨by walk_at"no",fun _=>?_⟩;walk_at"w";refine⟨t,_,_,.str "put",rfl,rfl,SqT.of h1,rfl,?_⟩;walk_at"w";refine⟨by walk_at"no",fun _=>?_⟩;walk_at"w";refine⟨t,_,_,.int to,rfl,rfl,SqT.of h1,rfl,?_⟩;walk_at"w";refine⟨_,_,rfl,?_⟩;walk_at"w";refine⟨fun _=>?_,fun z=>absurd k1 (of_decide_eq_false z)⟩;walk_at"w";refine⟨t,_,_,.ref u,rfl,rfl,SqT.of h1,rfl,?_⟩;walk_at"w";exact⟨u,sg,rfl,h2,k2,k3,k4,q⟩
theorem xa1(T:Txt K mg a):xy P w K mg base CX0 5 a.q2v a.xep ["told"] (jj K a):=by
 refine T.q1K.ok xgH (fun vs H Q E h=>?_) (fun cdv A outer s H vs Q E hr h=>?_)
 ·obtain⟨t,r,rfl,_⟩:=h;rfl
 ·obtain⟨t,r,rfl,ht,hk,q⟩:=h;have nd:=xgH.nd;refine⟨_,(xg (xT (yy (xw (xg5 T) (hr.mono (by decide)) (by rfl) T.xhV T.q1r.kp T.xhU .nil xp (xa (cv 0) xc))) (xl (xu (uU T.q3m (xdh T) (hr.mono (by decide)) (by rfl) T.xbw T.xdV .nil xp (xa (xF xJ (cv 0) xm (fun _ _=>rfl)) (xa (xF xJ (cv 0) xm (fun _ _=>rfl)) (xa (xF xJ (cv 0) xm (fun _ _=>rfl)) xc)))))) xN)
  (xg (xT (yy (xw (xie T) (hr.mono (by decide)) (by rfl) T.xiS T.q1L.kp T.xiR .nil xp (xa (cv 0) xc))) (xl (xu (uU T.q3e (uC T) (hr.mono (by decide)) (by rfl) T.xe5 T.jO .nil xp (xa (xF xJ (cv 0) xm (fun _ _=>rfl)) (xa (xF xJ (cv 0) xm (fun _ _=>rfl)) xc))))) xN)
  (xl xdB))),?_⟩
  walk_at"w";refine⟨t,r,rfl,ht,hk,?_⟩;cases r with
  |take to st c=>
   walk_at"w";refine⟨fun _=>?_,by walk_at"no"⟩;walk_at"w";refine⟨t,_,_,.int to,rfl,rfl,SqT.of ht,rfl,?_⟩;walk_at"w";refine⟨t,_,_,.int st,rfl,rfl,SqT.of ht,rfl,?_⟩;walk_at"w";refine⟨t,_,_,.int c,rfl,rfl,SqT.of ht,rfl,?_⟩;walk_at"w";intro x dx hx hdx hne;generalize hU:upd H dx (.own x)=H3;have sH3:=xb.of_eq hdx hU;have hx3:H3 x=none:=by rw[←hU,xj (aR hne)];exact hx
   refine⟨x,dx,_,_,_,rfl,xk,?_⟩;rw[yU];walk_at"w";exact⟨rfl,q x _ (sH3.trans (xb.new hx3)) hx ⟨dx,xk⟩⟩
  |put to sg=>
   walk_at"w";refine⟨by walk_at"no",fun _=>?_⟩;walk_at"w";refine⟨t,to,sg,rfl,ht,hk,fun H2 s2=>?_⟩;walk_at"w";obtain⟨u,h1,h2⟩:=ht;refine⟨fun _=>?_,by walk_at"no"⟩;walk_at"w";refine⟨t,_,_,.int to,rfl,rfl,SqT.of (s2.at h1),rfl,?_⟩;walk_at"w";refine⟨t,_,_,.ref u,rfl,rfl,SqT.of (s2.at h1),rfl,?_⟩;walk_at"w";intro x dx hx hdx hne;generalize hU:upd H2 dx (.own x)=H3;have sH3:=xb.of_eq hdx hU;have hx3:H3 x=none:=by rw[←hU,xj (aR hne)];exact hx
   refine⟨x,dx,u,_,_,rfl,xk,(sH3.trans (xb.new hx3)).seqT (SqT.of (s2.at h2)),?_⟩;rw[yU];walk_at"w";refine⟨rfl,q x _ (s2.trans (sH3.trans (xb.new hx3))) (s2.back hx) ⟨dx,u,?_,(s2.trans (sH3.trans (xb.new hx3))).at h2⟩⟩;rw[xk,af]
theorem xg6(T:Txt K mg a):xy P w K mg base CX0 2 a.q08 a.xao ["self"] (xce a):=by
 refine T.q1S.ok xco (fun vs H Q E h=>?_) (fun cdv A outer s H vs Q E hr h=>?_)
 ·obtain⟨p,dx,t,to,n,rfl,_⟩:=h;rfl
 ·obtain⟨p,dx,t,to,n,rfl,hp,hn,k⟩:=h;have nd:=xco.nd;refine⟨_,(xl (xu (yi (xa (yb (cv 0) T.q0x T.q2R (xgd T) (hr.mono (by decide)) T.xgV .nil xp) xc)))),?_⟩;walk_at"w";refine⟨p,dx,_,rfl,hp,rfl,?_⟩;walk_at"w";refine⟨p,_,dx,_,to,n,rfl,hp,T.q0x,T.q1f,T.q1e,rfl,rfl,by lia,fun l H1 s1 hl e1=>?_⟩;walk_at"w";walk_at"ss";intro D hD;have hD0:=s1.back hD;refine k D [l] _ (s1.put hD0) ⟨xk,?_,rfl,fun i b xs h1 h2=>?_,hD0,fun b hb=>?_⟩
  ·have:D≠l:=fun z=>by rw[z,e1]at hD;cases hD
   simpa using this
  ·cases i with
   |zero=>
    simp at h1 h2;subst h1 h2;rw[xj (xv e1 hD)];exact e1
   |succ i=>simp at h1
  ·rw[aE.mp hb];exact hl
theorem xge(T:Txt K mg a):xy P w K mg base CX0 2 a.q0Z a.jy ["self"] (xcd a):=by
 refine T.q1w.ok xbA (fun vs H Q E h=>?_) (fun cdv A outer s H vs Q E hr h=>?_)
 ·obtain⟨p,dx,to,st,c,rfl,_⟩:=h;rfl
 ·obtain⟨p,dx,to,st,c,rfl,hp,hc1,hc2,hd,k⟩:=h;have nd:=xbA.nd;refine⟨_,(xg (xT (yy (yb (cv 0) T.q0d T.q19 (jC T) (hr.mono (by decide)) T.xav .nil xp)) (xl (xu (yi xc))) xN)
  (xg (xt (i:=1) nd rfl (dk rfl) (xA (cv 0) rfl))
  (xg (xt (i:=2) nd rfl (dk rfl) (xr xY (xA (cv 0) rfl) (xA (cv 0) rfl)))
  (xg (xT (xK xa6 (xA (cv 0) rfl) (xA (cv 0) rfl)) (xg (xt (i:=3) nd rfl (dk rfl) (xr uE (xA (cv 0) rfl) (xA (cv 0) rfl)))
  (xl (xu (xX (yg (cap:=[2,3]) (ys:=["end","step"]) rfl rfl rfl rfl rfl ⟨⟨rfl,rfl,.inl rfl⟩,⟨⟨rfl,rfl,.inl rfl⟩,trivial⟩⟩ (by decide+kernel)) rfl (xgv (by rfl) T.q0W (xa (cv 1) (xa (cv 2) (xa (cv 3) xc)))) (fun _ _ _ _=>(yK (jo rfl) (by rfl) T.q2H vK (xa (xcH (by rfl) T.q0W (xa (cv 0) (xa (xq (xlt rfl) (by rfl) T.q3b xbq (xa (xr xY (cv 0) (cv 2)) (xa (cv 1) xc))) xc))) xc))) (fun _ _ _ _=>ye))))) xN)
  (xg (xt (i:=3) nd rfl (dk rfl) (xr uE (xA (cv 0) rfl) (xA (cv 0) rfl)))
  (xl (xu (xX (yg (cap:=[1,3]) (ys:=["first","step"]) rfl rfl rfl rfl rfl ⟨⟨rfl,rfl,.inl rfl⟩,⟨⟨rfl,rfl,.inl rfl⟩,trivial⟩⟩ (by decide+kernel)) rfl (xgv (by rfl) T.q0W (xa (cv 2) (xa (cv 1) (xa (xhc xhg (cv 3)) xc)))) (fun _ _ _ _=>(yK (jo rfl) (by rfl) T.q2H vK (xa (xcH (by rfl) T.q0W (xa (xq (xcK rfl) (by rfl) T.q21 xaa (xa (xr uE (cv 0) (cv 2)) (xa (cv 1) xc))) (xa (cv 0) xc))) xc))) (fun _ _ _ _=>ye))))))))),?_⟩
  walk_at"w";refine⟨p,dx,_,rfl,hp,rfl,?_⟩;walk_at"w";refine⟨p,dx,to,st,c,rfl,hp,?_⟩;walk_at"w";refine⟨fun e=>?_,fun e=>?_⟩
  ·have e':st=to:=of_decide_eq_true e;walk_at"w";walk_at"ss";intro l hl;refine k l [] _ (xb.new hl) ?_;rw[ya,if_pos e'];exact yH.nil (H':=H) hl xk
  ·have e':¬st=to:=of_decide_eq_false e;walk_at"w";refine⟨p,_,dx,_,.int to,rfl,hp,T.q0d,T.q0s,rfl,?_⟩;walk_at"w";refine⟨p,_,dx,_,.int to,rfl,hp,T.q0d,T.q0s,rfl,?_⟩;walk_at"w";refine⟨p,_,dx,_,.int c,rfl,hp,T.q0d,T.q0v,rfl,?_⟩;walk_at"w";refine⟨p,_,dx,_,.int to,rfl,hp,T.q0d,T.q0s,rfl,?_⟩;walk_at"w";refine⟨p,_,dx,_,.int st,rfl,hp,T.q0d,T.q0h,rfl,?_⟩;walk_at"w";refine⟨fun e2=>?_,fun e2=>?_⟩
   ·have e3:to<st:=of_decide_eq_true e2;walk_at"w";refine⟨p,_,dx,_,.int st,rfl,hp,T.q0d,T.q0h,rfl,?_⟩;walk_at"w";refine⟨p,_,dx,_,.int to,rfl,hp,T.q0d,T.q0s,rfl,?_⟩;walk_at"w";refine dF (xl7 (by lia) hd) ?_;walk_at"w";obtain⟨d,hdd⟩:∃d:Nat,st - to=(d:Int):=⟨(st - to).toNat,by lia⟩;have hd0:0<d:=by lia
    rw[hdd,xoE to c d hc1 hd0];refine xbM (uch to d c.toNat) (bg ?_ (show 1000≤aQ by decide)) (fun i H3 hi s3 R hR=>?_) (fun D H2 as s2 L=>?_)
    ·have:=xdF (uch to d) d c.toNat hd0;unfold chs at this;rw[af,c7]at this;lia
    ·walk_at"w";intro r hr;generalize hUr:upd H3 r _=H4;have sH4:=xb.of_eq hr hUr;have er:=xn hUr;clear hUr;walk_at"w";have ep:(i:Int)*(d:Int)=((i*d:Nat):Int):=by rw[Int.natCast_mul]
     have el:yv (to+((i*d:Nat):Int)) (min (to+((i*d:Nat):Int)+(st - to)) (to+c)) 1=min d (c.toNat - i*d):=by
      rw[zQ];generalize i*d=q;lia
     rw[ep]at er;refine⟨r,_,_,rfl,er,by rw[el];lia,fun l hl=>?_⟩;rw[el,xf6];exact hR l _ (sH4.put (sH4.back hl)) (sH4.back hl) xk
    ·refine k D as H2 s2 ?_;rw[ya,if_neg e',if_pos e3,hdd];exact L
   ·have e3:¬to<st:=of_decide_eq_false e2;walk_at"w";refine⟨p,_,dx,_,.int to,rfl,hp,T.q0d,T.q0s,rfl,?_⟩;walk_at"w";refine⟨p,_,dx,_,.int st,rfl,hp,T.q0d,T.q0h,rfl,?_⟩;walk_at"w";refine dF (xl7 (by lia) (by lia)) ?_;walk_at"w";obtain⟨d,hdd⟩:∃d:Nat,to - st=(d:Int):=⟨(to - st).toNat,by lia⟩;have hd0:0<d:=by lia
    rw[hdd,xl8 to c d hc1 hd0];refine xbM (dch (to+c) d c.toNat) (bg ?_ (show 1000≤aQ by decide)) (fun i H3 hi s3 R hR=>?_) (fun D H2 as s2 L=>?_)
    ·have:=xdF (dch (to+c) d) d c.toNat hd0;unfold chs at this;rw[af,c7]at this;lia
    ·walk_at"w";intro r hr;generalize hUr:upd H3 r _=H4;have sH4:=xb.of_eq hr hUr;have er:=xn hUr;clear hUr;walk_at"w";have ep:(i:Int)* -(d:Int)= -((i*d:Nat):Int):=by rw[Int.mul_neg,Int.natCast_mul]
     have hid:i*d≤c.toNat:=xna hd0 hi;have el:yv (max (to+c+ -((i*d:Nat):Int) - (to - st)) to) (to+c+ -((i*d:Nat):Int)) 1=min d (c.toNat - i*d):=by
      rw[zQ];generalize i*d=q at hid;lia
     rw[ep]at er;refine⟨r,_,_,rfl,er,by rw[el];lia,fun l hl=>?_⟩;rw[el,xf6];refine hR l _ (sH4.put (sH4.back hl)) (sH4.back hl) ?_;rw[xk];unfold dch;have e5:max (to+c+ -((i*d:Nat):Int) - (to - st)) to=to+c - ((min ((i+1)*d) c.toNat:Nat):Int):=by
      rw[eS];generalize i*d=q at hid;lia
     rw[e5]
    ·refine k D as H2 s2 ?_;rw[ya,if_neg e',if_neg e3,hdd];exact L
theorem xdi(c k:Int):0≤mixed c k∧mixed c k<2147483647:=by
 unfold mixed
 split
 ·have h1:=bW (c / 2^(1+20*(k%120)).toNat) (show(2^(20:Int).toNat:Int)≠0 by decide);have h2:=bU (c / 2^(1+20*(k%120)).toNat) (show(0:Int)<2^(20:Int).toNat by decide);have h3:(2^(20:Int).toNat:Int)=1048576:=by decide
  omega
 ·exact xfg _
theorem xkI(T:Txt K mg a):xy P w K mg base CX0 2 a.q2h a.xc3 ["_law_script","_law_falls","_law_count"] (xkE K):=by
 refine T.q2n.ok xfb (fun vs H Q E h=>?_) (fun cdv A outer s H vs Q E hr h=>?_)
 ·obtain⟨F,k,n,rfl,_⟩:=h;rfl
 ·obtain⟨F,k,n,rfl,hn,⟨hl0,hls,⟨ys,hfa,hyl⟩,hk⟩,k1,k2⟩:=h;have hl:=hl0 H (Kp.of (xb.refl _));have nd:=xfb.nd;refine⟨_,(xg (xt (i:=3) nd rfl (aM rfl) (xw (xaJ T) (hr.mono (by decide)) (by rfl) T.xbv T.q1W.kp T.xbu .nil xp (xa (xw (vz T) (hr.mono (by decide)) (by rfl) T.jf T.q1d.kp T.je .nil xp (xa (cv 0) (xa (xr xY xm (xr yE (cv 2) (xq (xcK rfl) (by rfl) T.q21 xaa (xa xm (xa (xr uE (xq xx (by rfl) T.q0k xM (xa (cv 0) xc)) xm) xc))))) xc))) (xa (cv 2) xc))))
  (xg (xT (PW.pt (xbJ (xK xfG (xq xx (by rfl) T.q0k xM (xa (cv 1) xc)) xm) (xcA (xK xfG (xr yE (cv 3) xm) xm)))) (xl (xu xeG)) xN)
  (xg (xH (zK PySem.F.plainAttrs_list PySem.F.slot_list_append PySem.F.type_list_append yt (cv 1) (xa (cv 2) xc)))
  (xl (xu (xF yB (yi (xa (yx xc) (xa (yx (xa (xr uE (xr yE (xr uZ (cv 3) xm) xm) xm) xc)) (xa (yx (xa (xr xdy (cv 3) (xr xhf xm xm)) xc)) xc)))) (xr yE (xr uZ (cv 3) xm) xm) (fun _ _=>rfl))))))),?_⟩
  walk_at"w";refine⟨F.l,_,rfl,.inl hl,?_⟩;walk_at"w";rw[af];have hmx:(0:Int)<max 1 ((F.ns.length:Int) - 5):=by lia
  refine dF hmx ?_;walk_at"w";have b1:=bW n (show max 1 ((F.ns.length:Int) - 5)≠0 by lia);refine⟨F.l,F.ns,_,rfl,hl,by lia,?_⟩;walk_at"w";refine⟨_,n,rfl,?_⟩;have mb:=xdi (cellAt F.ns (5+n%max 1 ((F.ns.length:Int) - 5))) n;generalize mixed _ n=dr at mb;walk_at"w";refine⟨F.fa,_,rfl,.inl (SqL.of hfa),?_⟩;walk_at"w";rw[hyl];refine⟨fun e1=>⟨fun _=>k1 _ (xb.refl _),by walk_at"no"⟩,fun e1=>?_⟩;have e1:¬(29:Int)<k:=of_decide_eq_false e1;walk_at"w";walk_at"ss";refine⟨fun e2=>k1 _ (xb.refl _),fun e2=>?_⟩;walk_at"w";refine⟨.inl ⟨rfl,_,SqL.of hfa⟩,?_⟩;walk_at"w";refine⟨F.fa,_,_,rfl,rfl,hfa,by rw[ax];lia,?_⟩;generalize hU:upd H F.fa _=H1;have q1:Kp [F.fa] H H1:=by rw[←hU];exact(Kp.of (xb.refl _)).wr (by simp)
  have hf1:ym H1 F.fa (k+1):=⟨ys++[.int n],by rw[←hU,xk],by simp[hyl]⟩;clear hU;have k2:∀v h H',Kp [F.fa] H H'→ym H' F.fa (k+1)→xnc H' v h→Q v H':=k2 (by lia);clear hfa hl hl0;walk_at"w";walk_at"ss";intro t1 ht1;generalize hUt1:upd H1 t1 _=H2;have sH2:=xb.of_eq ht1 hUt1;have et1:=xn hUt1;clear hUt1;walk_at"w";walk_at"ss";intro t2 ht2;generalize hUt2:upd H2 t2 _=H3;have sH3:=xb.of_eq ht2 hUt2;have et2:=xn hUt2;clear hUt2;walk_at"w";walk_at"ss";intro t3 ht3;generalize hUt3:upd H3 t3 _=H4;have sH4:=xb.of_eq ht3 hUt3;have et3:=xn hUt3;clear hUt3;walk_at"w";walk_at"ss";intro so hso;generalize hUso:upd H4 so _=H5;have sH5:=xb.of_eq hso hUso;have eso:=xn hUso;clear hUso;walk_at"w";walk_at"ss";have s15:xb H1 H5:=sH2.trans (sH3.trans (sH4.trans sH5));have l0:=bW (dr / 64) (show(3:Int)≠0 by decide);have l1:=bU (dr / 64) (show(0:Int)<3 by decide);obtain⟨t,h,ht,hh⟩:∃(t:Addr) (h:Option Int),atI [V.ref t1,.ref t2,.ref t3] (dr / 64%3)=some (.ref t)∧xnc H5 (.ref t) h:=by
   rcases(show dr / 64%3=0∨dr / 64%3=1∨dr / 64%3=2 by lia)with e|e|e<;> rw[e]
   ·exact⟨t1,none,rfl,_,rfl,sH5.at (sH4.at (sH3.at et1))⟩
   ·exact⟨t2,some _,rfl,_,rfl,sH5.at (sH4.at et2)⟩
   ·exact⟨t3,some _,rfl,_,rfl,sH5.at et3⟩
  refine⟨so,_,_,.ref t,rfl,rfl,SqL.of eso,ht,k2 (.ref t) h H5 (q1.same s15) (hf1.same s15) hh⟩
theorem xkJ(T:Txt K mg a):yR P w K mg base CX0 3 "<lambda>" "law.<locals>.<lambda>" (zm xaG) (.expr (zo xaG)) (xU xaG) ["_law_count"] (xoI K):=by
 refine uJ xjv (fun fv vs H Q E h=>?_) (fun _ _ _ _ _ us hl=>match us,hl with|[_],_=>rfl) (fun A outer s H f clos cdv fv vs Q E hr h=>?_)
 ·obtain⟨F,k,n,rfl,rfl,_⟩:=h;exact⟨rfl,rfl⟩
 ·obtain⟨F,k,n,rfl,rfl,hn,he,k1⟩:=h;have nd:=xjv.nd;refine⟨_,(xw (xkI T) (hr.mono (by decide)) (by rfl) T.xl4 T.q2n.kp T.xl3 .nil xp (xa (cv 2) (xa (cv 1) (xa (cv 0) xc)))),?_⟩;walk_at"w";exact⟨F,k,n,rfl,hn,he,k1⟩
theorem xbF(T:Txt K mg a):xy P w K mg base CX0 4 a.q0j a.zD ["self","count"] (xf8 K a):=by
 refine T.q0w.ok uW (fun vs H Q E h=>?_) (fun cdv A outer s H vs Q E hr h=>?_)
 ·obtain⟨F,n,m,k,rfl,_⟩:=h;rfl
 ·obtain⟨F,n,m,k,rfl,hn,hp,hc,he,k1⟩:=h;have nd:=uW.nd;refine⟨_,(xg (xt (i:=2) nd rfl (aM rfl) (xA (cv 0) rfl))
  (xg (xT (xhB (cv 2)) (xl (xu xeG)) xN)
  (xl (xu (xhD 2 (xkJ T) (hr.mono (by decide)) xp (xa (cv 1) xc)))))),?_⟩
  walk_at"w";refine⟨F.S.p,_,F.S.dp,_,.ref F.f,rfl,hp,T.q2E,T.q2Y,rfl,?_⟩;walk_at"w";refine⟨by walk_at"no",fun _=>?_⟩;walk_at"w";refine⟨F.f,_,rfl,hc,?_⟩;walk_at"w";exact⟨hc,F,k,n,rfl,rfl,hn,he,k1⟩
theorem jH(T:Txt K mg a):xy P w K mg base (CXE P w) 5 a.q0t a.uR ["self","kept","at","value","torn"] (xg2 K a):=by
 refine T.q05.okX jG (fun vs H Q E h=>?_) (fun cdv A outer s H vs Q E hr h=>?_)
 ·obtain⟨F,l,g,i,n,val,xs,k,tf,rfl,_⟩:=h;rfl
 ·obtain⟨F,l,g,i,n,val,xs,k,tf,rfl,B,kp0,hp,hn,hfl,hk,hlm,hl,h0,hi,ht,k1,k2⟩:=h;have nd:=jG.nd;refine⟨_,(xg (xt (i:=5) nd rfl (aM rfl) (xA (cv 0) rfl))
  (xg (yW (cv 0) (xr xY (cv 5) xm) rfl)
  (xg (xt (i:=6) nd rfl (aM rfl) (uT (cv 0) T.q2E T.q10 (xbF T) (hr.mono (by decide)) T.xb8 .nil xp (xa (cv 5) xc)))
  (xg (xT (xhB (cv 6)) (xg (xk4 (cv 3) (xk3 (cv 1) (cv 2) set_list))
  (xl xnR)) xN)
  (xg (xeN (xT (xK vT (xq xx (by rfl) T.q0k xM (xa (cv 6) xc)) xm) (xl (xk4 (xmX (k:=1) 4 (hr.mono (by decide)) (xa (xF xJ (cv 6) xm (fun _ _=>rfl)) xc)) (xk3 (cv 1) (cv 2) set_list))) xN))
  (xl (xlL (k:=1) ⟨rfl,rfl,rfl⟩ rfl T.q22 (xgc T) (hr.mono (by decide)) T.xgU (by rfl) T.xev (xa (cv 5) xc)))))))),?_⟩
  obtain⟨p,hpe⟩:∃p,p=F.S.p:=⟨_,rfl⟩;have nlp:l≠p:=by rw[hpe];exact uD hl hp (by intro z;cases z)
  have hlS:l∈SF F:=by
   simp only[ar,bu,or_false]at hlm⊢;rcases hlm with z|z<;> simp[z]
  have hpS:p∈SF F:=by rw[hpe];simp
  have nfp:F.fa≠p:=fun z=>B.nfa (by rw[z,hpe];simp);have nfl:F.fa≠l:=fun z=>B.nfa (by
   simp only[ar,bu,or_false]at hlm⊢;rw[z];rcases hlm with z|z<;> simp[z])
  rw[←hpe]at hp k1 k2⊢;have mu:∀x∈[p,l,F.fa],∃u,H x=some u∧jB u:=by
   intro x hx;simp only[ar,bu,or_false]at hx;rcases hx with rfl|rfl|rfl
   ·exact⟨_,hp,trivial⟩
   ·exact⟨_,hl,trivial⟩
   ·obtain⟨ys,e,_⟩:=hfl;exact⟨_,e,trivial⟩
  walk_at"w";refine⟨p,_,F.S.dp,_,.int n,rfl,hp,T.q2E,T.q1X,rfl,?_⟩;walk_at"w";refine⟨p,_,F.S.dp,_,rfl,hp,T.q2E,T.q1X,by walk_at"few",?_⟩;generalize hU:upd H p _=H1;have c1:Kp [p,l] H H1:=by rw[←hU];exact(Kp.of (xb.refl _)).wr (by simp)
  have hp1:H1 p=some (.ins a.q0r F.S.dp (xcb (n+1) (.ref F.f))):=by rw[←hU,xk];rfl
  have hl1:H1 l=some (.lst xs):=by rw[←hU,xj nlp];exact hl
  have kp1:Kp (SF F) F.H0 H1:=by rw[←hU];exact kp0.wr hpS
  have hf1:ym H1 F.fa k:=hfl.kp c1 (by simp[nfp,nfl]);clear hU;walk_at"w";refine⟨p,F.S.dp,_,rfl,hp1,rfl,?_⟩;walk_at"w";refine⟨F,n,_,k,by rw[hpe];rfl,hn,by rw[←hpe];exact hp1,B.lamAt kp1,B.env kp1 hf1 hk,fun H2 s2=>?_,fun hk2 v h H2 q2 hf2 hv=>?_⟩
  ·walk_at"w";refine⟨fun _=>?_,by walk_at"no"⟩;walk_at"w";refine⟨l,xs,i,_,rfl,rfl,s2.at hl1,xlF h0 hi,?_⟩;exact k1 _ ((c1.same s2).wr (by simp)) (by rw[xj (aR nlp)];exact s2.at hp1) xk
  have k2:=k2 hk2;have c2:Kp [p,l,F.fa] H H2:=(c1.mono (by simp)).trans (q2.mono (by simp));have hd2:H2 l=some (.lst xs):=q2 _ _ hl1 (by simp[aR nfl]);have hp2:=q2 _ _ hp1 (by simp[aR nfp]);have ht2:=ht.kp mu c2;clear hl1 hp1 c1 q2;have fin:∀(H3:Hp),Kp [p,l,F.fa] H H3→H3 p=some (.ins a.q0r F.S.dp (xcb (n+1) (.ref F.f)))→(H3 l=some (.lst xs)∨∃s,H3 l=some (.lst (xs.set i.toNat (tf s))))→ym H3 F.fa (k+1)→∀d,H3 d=none→E (.ref a.q0f) (some d) (upd H3 d (.xd [("count",.int n)])):=fun H3 q1 q2 q3 q4 d hd=>by
   have hln:∃zs,H3 l=some (.lst zs):=by
    rcases q3 with z|⟨s,z⟩
    ·exact⟨_,z⟩
    ·exact⟨_,z⟩
   have hd0:H d=none:=by
    cases z:H d with
    |none=>rfl
    |some u=>
     by_cases hm:d∈[p,l,F.fa]
     ·simp only[ar,bu,or_false]at hm;rcases hm with e|e|e
      ·rw[e,q2]at hd;cases hd
      ·obtain⟨zs,hz⟩:=hln;rw[e,hz]at hd;cases hd
      ·obtain⟨zs,hz,_⟩:=q4;rw[e,hz]at hd;cases hd
     ·rw[q1 d u z hm]at hd;cases hd
   refine k2 d _ (q1.mk hd0) (by rw[xj (xv q2 hd)];exact q2) ?_ ?_ hd0 xk
   ·rcases q3 with z|⟨s,z⟩
    ·exact .inl (by rw[xj (xv z hd)];exact z)
    ·exact .inr ⟨s,by rw[xj (xv z hd)];exact z⟩
   ·obtain⟨zs,hz,hzl⟩:=q4;exact⟨zs,by rw[xj (xv hz hd)];exact hz,hzl⟩
  obtain⟨ta,rfl,hta⟩:=hv;cases h with
  |none=>
   walk_at"w";refine⟨by walk_at"no",fun _=>?_⟩;walk_at"w";refine⟨fun σ' H'=>σ'=[some (.ref p),some (.ref l),some (.int i),some val,some (.ref g),some (.int n),some (.ref ta)]∧H'=H2,?_,?_⟩
   ·walk_at"w";refine⟨ta,_,rfl,.inr (SqT.of hta),?_⟩;walk_at"w";refine⟨by walk_at"no",fun _=>⟨rfl,rfl⟩⟩
   ·rintro σ' H' ⟨rfl,rfl⟩;walk_at"w";exact⟨.int n,rfl,fin _ c2 hp2 (.inl hd2) hf2⟩
  |some s1=>
   walk_at"w";refine⟨by walk_at"no",fun _=>?_⟩;walk_at"w";refine⟨fun σ' H'=>σ'=[some (.ref p),some (.ref l),some (.int i),some val,some (.ref g),some (.int n),some (.ref ta)]∧Kp [p,l,F.fa] H H'∧H' p=some (.ins a.q0r F.S.dp (xcb (n+1) (.ref F.f)))∧H' l=some (.lst (xs.set i.toNat (tf s1)))∧ym H' F.fa (k+1),?_,?_⟩
   ·walk_at"w";refine⟨ta,_,rfl,.inr (SqT.of hta),?_⟩;walk_at"w";refine⟨fun _=>?_,by walk_at"no"⟩;walk_at"w";refine⟨g,rfl,ht2.clo,?_⟩;walk_at"w";refine⟨ta,_,0,.int s1,rfl,rfl,SqT.of hta,rfl,?_⟩;walk_at"w";refine xne T ht2 ?_;walk_at"w";refine⟨l,xs,i,_,rfl,rfl,hd2,xlF h0 hi,?_⟩;refine⟨rfl,c2.wr (by simp),by rw[xj (aR nlp)];exact hp2,xk,?_⟩;obtain⟨zs,hz,hzl⟩:=hf2;exact⟨zs,by rw[xj nfl];exact hz,hzl⟩
   ·rintro σ' H' ⟨rfl,q1,q2,q3,q4⟩;walk_at"w";exact⟨.int n,rfl,fin _ q1 q2 (.inr ⟨s1,q3⟩) q4⟩
theorem StF.nin{H:Hp}{F:FA}{cells:List Int}{notes:List (Option Int)}{k:Nat}(h:StF a H F cells notes k){b:Addr}(e:H b=none):b∉SF F:=fun z=>by
 rcases ar.mp z with z|z
 ·obtain⟨ys,h1,_⟩:=h.fl;rw[z,h1]at e;cases e
 ·obtain⟨n,_,hS⟩:=h.st;obtain⟨u,q,_⟩:=hS.mu _ z;rw[e]at q;cases q
theorem SF.st{F:FA}(B:Bs K F){H:Hp}{cells:List Int}{notes:List (Option Int)}{n:Int}{fl:V}(h:yS a H F.S cells notes n fl):F.S.st∉SF F:=fun z=>by
 rcases ar.mp z with z|z
 ·exact B.nst z.symm
 ·exact h.nst z
theorem xgf(T:Txt K mg a):xy P w K mg base (CXE P w) 6 a.q0E a.uF ["self","at","sign"] (xa0 K a):=by
 refine T.uG.okXC T.xf5 xbB (fun vs H Q E h=>?_) (fun A outer s H vs Q E hr h=>?_)
 ·obtain⟨F,cells,notes,i,s,k,rfl,_⟩:=h;rfl
 ·obtain⟨F,cells,notes,i,sg,k,rfl,B,hF,hk,hi,k1,k2⟩:=h;have nd:=xbB.nd;refine⟨_,(xg (xH (uT (cv 0) T.q0e T.q02 (um T) (hr.mono (by decide)) T.uB .nil xp (xa (cv 1) xc)))
  (xl (xH (uK ⟨rfl,rfl,rfl⟩ (xA (cv 0) rfl) T.q2E T.q1P (jH T) (hr.mono (by decide)) T.xay .nil (xa (xA (cv 0) rfl) (xa (cv 1) (xa (cv 2) (xa (zv (c:=q0u) (P:=yJ) (qs:=uf) (fns:=[]) rfl T.q2O (q:="Store.write.<locals>.<lambda>") (by kernel_rfl) (.head _) (by kernel_rfl) (by kernel_rfl)) xc)))))))),?_⟩
  obtain⟨n,hn,hS⟩:=hF.st;obtain⟨S,hSe⟩:∃S,S=F.S:=⟨_,rfl⟩;walk_at"w";refine⟨F.S.st,F.S.dx,_,rfl,hS.st,rfl,?_⟩;walk_at"w";refine⟨F.S,cells,notes,n,i,.ref F.f,rfl,hS,hi,?_⟩;walk_at"w";refine⟨F.S.st,_,F.S.dx,_,.ref F.S.p,rfl,hS.st,T.q0e,T.q1Y,rfl,?_⟩;walk_at"w";refine⟨F.S.p,F.S.dp,_,rfl,hS.p,rfl,?_⟩;walk_at"w";refine⟨F.S.st,_,F.S.dx,_,.ref F.S.ca,rfl,hS.st,T.q0e,T.q06,rfl,?_⟩;walk_at"w";refine⟨B.keep hF.kp B.Pw (fun z=>z),[],rfl,(fun x v m=>nomatch m),fun g H1 hg s1 hc=>?_⟩;walk_at"w";have hF1:=hF.same s1;have hS1:=hS.same s1;refine⟨F,F.S.ca,g,i,n,.int sg,_,k,_,rfl,B,hF1.kp,hS1.p,hn,hF1.fl,hk,by simp,hS1.ca,hi.1,by rw[af];exact hi.2,.inl ⟨hc,rfl⟩,fun H2 q1 q2 q3=>?_,fun hk2 d H2 q1 q2 q3 q6 q4 q5=>?_⟩
  ·have q:Kp (SF F) H1 H2:=q1.mono (by simp);have q0:Kp (SF F) H H2:=(Kp.of s1).trans q;refine k1 H2 q0 ⟨⟨n+1,by lia,q _ _ hS1.st (SF.st B hS1),by rw[q3,iA],q1 _ _ hS1.na (by simp[aR hS.npn,aR hS.ne]),q2,hS.ne,hS.np⟩,hF.kp.trans q0,hF1.fl.kp q1 ?_⟩;intro z;refine B.nfa ?_;simp only[ar,bu,or_false]at z⊢;rcases z with z|z<;> simp[z]
  ·have q:Kp (SF F) H1 H2:=q1.mono (by simp);have q0:Kp (SF F) H H2:=(Kp.of s1).trans q;have hna:H2 F.S.na=some (.lst (notes.map nV)):=q1 _ _ hS1.na (by
    simp only[ar,bu,or_false];rintro(z|z|z)
    ·exact hS.npn z.symm
    ·exact hS.ne z.symm
    ·exact B.nfa (by rw[←z];simp))
   have hst:=q _ _ hS1.st (SF.st B hS1);rcases q3 with z|⟨t,z⟩
   ·exact k2 hk2 n d H2 cells notes q0 ⟨⟨n+1,by lia,hst,z,hna,q2,hS.ne,hS.np⟩,hF.kp.trans q0,q6⟩ ⟨rfl,.inl rfl⟩ q5
   ·exact k2 hk2 n d H2 (cells.set i.toNat t) notes q0 ⟨⟨n+1,by lia,hst,by rw[z,iA],hna,q2,hS.ne,hS.np⟩,hF.kp.trans q0,q6⟩ ⟨rfl,.inr ⟨t,rfl⟩⟩ q5
theorem zX(T:Txt K mg a):xy P w K mg base (CXE P w) 6 a.q0l a.zi ["self","at","number"] (xga K a):=by
 refine T.zj.okXC T.xc7 ji (fun vs H Q E h=>?_) (fun A outer s H vs Q E hr h=>?_)
 ·obtain⟨F,cells,notes,i,m,k,rfl,_⟩:=h;rfl
 ·obtain⟨F,cells,notes,i,m,k,rfl,B,hF,hk,h0,hi,k1,k2⟩:=h;have nd:=ji.nd;refine⟨_,(xl (xH (uK ⟨rfl,rfl,rfl⟩ (xA (cv 0) rfl) T.q2E T.q1P (jH T) (hr.mono (by decide)) T.xay .nil (xa (xA (cv 0) rfl) (xa (cv 1) (xa (cv 2) (xa (zv (c:=q0i) (P:=yd) (qs:=zc) (fns:=[]) rfl T.q2m (q:="Store.note_down.<locals>.<lambda>") (by kernel_rfl) (.head _) (by kernel_rfl) (by kernel_rfl)) xc))))))),?_⟩;obtain⟨n,hn,hS⟩:=hF.st;walk_at"w";refine⟨F.S.st,_,F.S.dx,_,.ref F.S.p,rfl,hS.st,T.q0e,T.q1Y,rfl,?_⟩;walk_at"w";refine⟨F.S.p,F.S.dp,_,rfl,hS.p,rfl,?_⟩;walk_at"w";refine⟨F.S.st,_,F.S.dx,_,.ref F.S.na,rfl,hS.st,T.q0e,T.q1n,rfl,?_⟩;walk_at"w";refine⟨B.keep hF.kp B.Pn (fun z=>z),[],rfl,(fun x v m=>nomatch m),fun g H1 hg s1 hc=>?_⟩;walk_at"w";have hF1:=hF.same s1;have hS1:=hS.same s1;refine⟨F,F.S.na,g,i,n,.int m,_,k,_,rfl,B,hF1.kp,hS1.p,hn,hF1.fl,hk,by simp,hS1.na,h0,by rw[af];exact hi,.inr ⟨hc,rfl⟩,fun H2 q1 q2 q3=>?_,fun hk2 d H2 q1 q2 q3 q6 q4 q5=>?_⟩
  ·have q:Kp (SF F) H1 H2:=q1.mono (by simp);have q0:Kp (SF F) H H2:=(Kp.of s1).trans q;refine k1 H2 q0 ⟨⟨n+1,by lia,q _ _ hS1.st (SF.st B hS1),q1 _ _ hS1.ca (by simp[aR hS.npc,hS.ne]),by rw[q3,iA];rfl,q2,hS.ne,hS.np⟩,hF.kp.trans q0,hF1.fl.kp q1 ?_⟩;intro z;refine B.nfa ?_;simp only[ar,bu,or_false]at z⊢;rcases z with z|z<;> simp[z]
  ·have q:Kp (SF F) H1 H2:=q1.mono (by simp);have q0:Kp (SF F) H H2:=(Kp.of s1).trans q;have hca:H2 F.S.ca=some (.lst (cells.map V.int)):=q1 _ _ hS1.ca (by
    simp only[ar,bu,or_false];rintro(z|z|z)
    ·exact hS.npc z.symm
    ·exact hS.ne z
    ·exact B.nfa (by rw[←z];simp))
   have hst:=q _ _ hS1.st (SF.st B hS1);rcases q3 with z|⟨t,z⟩
   ·exact k2 hk2 n d H2 cells notes q0 ⟨⟨n+1,by lia,hst,hca,z,q2,hS.ne,hS.np⟩,hF.kp.trans q0,q6⟩ ⟨rfl,.inl rfl⟩ q5
   ·exact k2 hk2 n d H2 cells (notes.set i.toNat none) q0 ⟨⟨n+1,by lia,hst,hca,by rw[z,iA];rfl,q2,hS.ne,hS.np⟩,hF.kp.trans q0,q6⟩ ⟨rfl,.inr rfl⟩ q5
theorem xg7(T:Txt K mg a):xy P w K mg base (CXE P w) 7 a.q1a a.xat ["self","number"] (xgb K a):=by
 refine T.q1U.okX xcu (fun vs H Q E h=>?_) (fun cdv A outer s H vs Q E hr h=>?_)
 ·obtain⟨F,cells,notes,m,k,rfl,_⟩:=h;rfl
 ·obtain⟨F,cells,notes,m,k,rfl,B,hF,hk,h2,k1,k2⟩:=h;have nd:=xcu.nd;refine⟨_,(xl (xH (uK ⟨rfl,rfl,rfl⟩ (cv 0) T.q0e T.q1g (zX T) (hr.mono (by decide)) T.uw .nil (xa (xr yE (cv 1) xm) (xa (cv 1) xc))))),?_⟩;obtain⟨n,hn,hS⟩:=hF.st;walk_at"w";refine⟨F.S.st,F.S.dx,_,rfl,hS.st,rfl,?_⟩;walk_at"w";walk_at"ss";exact⟨F,cells,notes,m%2,m,k,rfl,B,hF,hk,by lia,by rw[h2];lia,k1,k2⟩
theorem xgg(T:Txt K mg a):xy P w K mg base (CXE P w) 7 a.q01 a.jA ["self"] (xfe K a):=by
 refine T.q1y.okX xbD (fun vs H Q E h=>?_) (fun cdv A outer s H vs Q E hr h=>?_)
 ·obtain⟨F,cells,notes,k,rfl,_⟩:=h;rfl
 ·obtain⟨F,cells,notes,k,rfl,B,hF,hk,h2,k1,k2⟩:=h;have nd:=xbD.nd;refine⟨_,(xg (xH (uK ⟨rfl,rfl,rfl⟩ (cv 0) T.q0e T.q1g (zX T) (hr.mono (by decide)) T.uw .nil (xa xm (xa xm xc))))
  (xl (xH (uK ⟨rfl,rfl,rfl⟩ (cv 0) T.q0e T.q1g (zX T) (hr.mono (by decide)) T.uw .nil (xa xm (xa xm xc)))))),?_⟩
  obtain⟨n,hn,hS⟩:=hF.st;walk_at"w";refine⟨F.S.st,F.S.dx,_,rfl,hS.st,rfl,?_⟩;walk_at"w";refine⟨F,cells,notes,0,0,k,rfl,B,hF,hk,by lia,by rw[h2];lia,fun H1 q1 hF1=>?_,fun hk2 m d H1 cells' notes' q1 hF1 hh hd=>?_⟩
  rotate_left
  ·obtain⟨rfl,hh⟩:=hh;refine k2 hk2 m d H1 _ notes' q1 hF1 ⟨rfl,?_⟩ hd;rcases hh with rfl|rfl
   ·exact h2
   ·rw[cL];exact h2
  obtain⟨n1,_,hS1⟩:=hF1.st;walk_at"w";refine⟨F.S.st,F.S.dx,_,rfl,hS1.st,rfl,?_⟩;walk_at"w";refine⟨F,cells,_,1,0,k,rfl,B,hF1,hk,by lia,by rw[cL,h2];lia,fun H2 q2 hF2=>?_,fun hk2 m d H2 cells' notes' q2 hF2 hh hd=>?_⟩
  ·have e:(notes.set (0:Int).toNat (some 0)).set (1:Int).toNat (some 0)=[some 0,some 0]:=by
    match notes,h2 with
    |[x,y],_=>rfl
   rw[e]at hF2;exact k1 H2 (q1.trans q2) hF2
  ·obtain⟨rfl,hh⟩:=hh;refine k2 hk2 m d H2 _ notes' (q1.trans q2) hF2 ⟨rfl,?_⟩ hd;rcases hh with rfl|rfl
   ·rw[cL];exact h2
   ·rw[cL,cL];exact h2
def xnf(K:ah)(a:Adr):Sp:=fun vs H Q _=>∃(F:FA) (cells:List Int) (notes:List (Option Int)) (k0:Nat),vs=[.ref F.S.st]∧Bs K F∧StF a H F cells notes k0∧k0≤30∧notes.length=2∧
 ∀H' k,Kp (SF F) H H'→StF a H' F cells [some 0,some 0] k→k≤30→Q (.bl true) H'
theorem xng(T:Txt K mg a):xy P w K mg base CX0 8 a.q2M a.xfZ ["_law_store"] (xnf K a):=by
 refine T.q2Q.ok xh7 (fun vs H Q E h=>?_) (fun cdv A outer s H vs Q E hr h=>?_)
 ·obtain⟨F,cells,notes,k0,rfl,_⟩:=h;rfl
 ·obtain⟨F,cells,notes,k0,rfl,B,hF,hk0,h2,q⟩:=h;have nd:=xh7.nd;refine⟨_,(xg (uy PassesOwn.never rfl (zu (by rfl) T.q0W (xa xm xc)) (yz (i:=1) nd rfl (aM rfl)) (xg (xt (i:=2) nd rfl (aM rfl) vR)
  (xg (xlJ ⟨rfl,rfl,rfl⟩ T.q3a (by rfl) T.xev (fun _ _=>(xl (xH (xlN ⟨rfl,rfl,rfl⟩ (cv 0) T.q0e T.q2S (xgg T) (hr.mono (by decide)) T.xgY .nil)))) (fun _ _ _=>(xl (xt (i:=2) nd rfl (aM rfl) vR))))
  (xl (xT (yy (cv 2)) (xl (xu (vZ vT (yb (cv 0) T.q0e T.q2s (xbE T) (hr.mono (by decide)) T.xcl .nil xp) xm))) xN)))))
  (xl (xu vR))),?_⟩
  walk_at"w";have er:yv 0 31 1=31:=by decide
  rw[er];refine xcL (fun i σ G=>Kp (SF F) H G∧k0+i≤30∧(∃notes,StF a G F cells notes (k0+i)∧notes.length=2)∧∃(x2 x3:Option V),σ=[some (.ref F.S.st),x2,x3])
   ⟨Kp.of (xb.refl _),by lia,⟨notes,hF,h2⟩,_,_,rfl⟩ (fun i σ G hi hP=>?_) (fun σ G hP=>?_)
  ·obtain⟨kp,hi30,⟨notes1,hFG,hn2⟩,x2,x3,rfl⟩:=hP;obtain⟨n,hn,hS⟩:=hFG.st;walk_at"w";refine⟨F.S.st,F.S.dx,_,rfl,hS.st,rfl,?_⟩;walk_at"w";refine⟨F,cells,notes1,k0+i,rfl,B,hFG,hi30,hn2,fun G2 k2 hF2=>?_,fun hk nn d G2 cells2 notes2 k2 hF2 hh hd=>?_⟩
   ·obtain⟨n2,hn2',hS2⟩:=hF2.st;walk_at"w";refine⟨fun _=>?_,by walk_at"no"⟩;walk_at"w";refine⟨F.S.st,F.S.dx,_,rfl,hS2.st,rfl,?_⟩;walk_at"w";refine⟨F.S,_,_,n2,_,rfl,hS2,rfl,fun mx G3 s3 hmx=>?_⟩;have hz:xaZ [some 0,some 0] 0:=by simp[xaZ]
    obtain rfl:=hmx.uniq hz;walk_at"w";exact q G3 (k0+i) ((kp.trans k2).same s3) (hF2.same s3) hi30
   ·obtain⟨rfl,hh⟩:=hh;walk_at"w";refine⟨a.q0f,rfl,T.q18,fun ea hea=>?_⟩;walk_at"w";refine⟨by walk_at"no",fun _=>?_⟩;exact⟨kp.trans k2,by lia,⟨notes2,hF2,hh⟩,_,_,rfl⟩
  ·obtain⟨kp,hi30,_⟩:=hP;lia
def Sm:xf→Prop
 | .take to st c=>to≤100∧st≤100∧c≤60
 | .put to sg=>to≤100∧sg.length≤60
theorem TupAt.off{K:ah}{H:Hp}{t p:Addr}{r:xf}{xs:List V}{o:HO}(h:TupAt K H t r)(hp:H p=some (.lst xs)):TupAt K (upd H p o) t r:=by
 have ne:∀{q:Addr} {ys:List V},H q=some (.tup ys)→upd H p o q=some (.tup ys):=fun{q ys} e=>by
  rw[xj (fun z=>by rw[z,hp]at e;cases e)];exact e
 cases r with
 |take to st c=>exact ne h
 |put to sg=>obtain⟨u,h1,h2⟩:=h;exact⟨u,ne h1,ne h2⟩
theorem yo{α β:Type}{F:α→β→Prop}{x:α}{y:β}:∀{l₁:List α} {l₂:List β},Paired F l₁ l₂→F x y→Paired F (l₁++[x]) (l₂++[y])
 |_,_,.nil,h=>.cons h .nil
 |_,_,.cons r t,h=>.cons r (yo t h)
def xex(old new:Int):xf→Prop
 | .take to st c=>st+c≤old∧to+c≤new
 | .put to sg=>to+sg.length≤new
theorem Paired.nth{α β:Type}{F:α→β→Prop}:∀{l₁:List α} {l₂:List β} {i:Nat} {x:α},Paired F l₁ l₂→l₁[i]? =some x→∃y,l₂[i]? =some y∧F x y
 |_,_,_,_,.nil,e=>by simp at e
 |_,_,0,_,.cons r _,e=>by simp at e;subst e;exact⟨_,rfl,r⟩
 |_,_,i+1,_,.cons _ t,e=>by
  obtain⟨y,h1,h2⟩:=Paired.nth (i:=i) t (by simpa using e);exact⟨y,by simpa using h1,h2⟩
theorem Paired.mem{α β:Type}{F:α→β→Prop}{l₁:List α}{l₂:List β}{x:α}(h:Paired F l₁ l₂)(hx:x∈l₁):∃y∈l₂,F x y:=by
 obtain⟨i,hi⟩:=bI.mp hx;obtain⟨y,h1,h2⟩:=Paired.nth h hi;exact⟨y,aB h1,h2⟩
theorem Paired.mem2{α β:Type}{F:α→β→Prop}:∀{l₁:List α} {l₂:List β} {y:β},Paired F l₁ l₂→y∈l₂→∃x∈l₁,F x y
 |_,_,_,.cons h t,m=>by
  rcases ar.mp m with rfl|m
  ·exact⟨_,aS,h⟩
  ·obtain⟨x,h1,h2⟩:=Paired.mem2 t m;exact⟨x,aD _ h1,h2⟩
def GT(K:ah)(H:Hp)(u:Addr)(r:xf):Prop:=TupAt K H u r∧r.ok∧Sm r
def zH:xf→List (List Int)
 | .take to st c=>ya to st c
 | .put to sg=>[yD to sg.length]
theorem xd4{r:xf}(hk:r.ok)(hs:Sm r):(zH r).length≤60:=by
 cases r with
 |take to st c=>
  obtain⟨k1,k2,k3⟩:=hk;obtain⟨s1,s2,s3⟩:=hs;show(ya to st c).length≤60;unfold ya
  split
  ·simp
  ·split
   ·have:=xdF (uch to (st - to).toNat) (st - to).toNat c.toNat (by lia);lia
   ·have:=xdF (dch (to+c) (to - st).toNat) (to - st).toNat c.toNat (by lia);lia
 |put to sg=>show 1≤60;lia
def yM(K:ah)(H0:Hp)(tl:Addr)(G:Hp)(u:Addr)(x:xf×List Int):Prop:=∃t c:Addr,(c≠tl∧H0 c=none)∧G u=some (.tup [.ref t,.ref c])∧TupAt K G t x.1∧G c=some (.lst (x.2.map V.int))
theorem yM.same{H0:Hp}{tl:Addr}{G G':Hp}{u:Addr}{x:xf×List Int}(h:yM K H0 tl G u x)(s:xb G G'):yM K H0 tl G' u x:=by
 obtain⟨t,c,h1,h2,h3,h4⟩:=h;exact⟨t,c,h1,s.at h2,h3.same s,s.at h4⟩
theorem yM.off{H0:Hp}{tl:Addr}{G:Hp}{u:Addr}{x:xf×List Int}{xs:List V}{o:HO}(h:yM K H0 tl G u x)(hp:G tl=some (.lst xs)):yM K H0 tl (upd G tl o) u x:=by
 obtain⟨t,c,h1,h2,h3,h4⟩:=h;exact⟨t,c,h1,by rw[xj (fun z=>by rw[z,hp]at h2;cases h2)];exact h2,h3.off hp,by rw[xj h1.1];exact h4⟩
def xO(rs:List xf):List (xf×List Int):=rs.flatMap fun r=>(zH r).map fun c=>(r,c)
theorem xcx{α β:Type}{F:α→β→Prop}:∀{l₁ l₃:List α} {l₂ l₄:List β},Paired F l₁ l₂→Paired F l₃ l₄→Paired F (l₁++l₃) (l₂++l₄)
 |_,_,_,_,.nil,h=>h
 |_,_,_,_,.cons r t,h=>.cons r (xcx t h)
def xif(K:ah):Sp:=fun vs H Q _=>∃(p tt:Addr) (o n:V) (us:List Addr) (rs:List xf),vs=[.ref p]∧H p=some (.tup [o,n,.ref tt])∧H tt=some (.tup (us.map V.ref))∧Paired (GT K H) us rs∧us.length≤58∧
 ∀(l:Addr) (ws:List Addr) (H':Hp),xb H H'→H l=none→H' l=some (.lst (ws.map V.ref))→Paired (yM K H l H') ws (xO rs)→Q (.ref l) H'
theorem GT.same{H H':Hp}{u:Addr}{r:xf}(h:GT K H u r)(s:xb H H'):GT K H' u r:=⟨h.1.same s,h.2⟩
theorem xig{H0:Hp}{tl:Addr}{L0 L G:Hp}{l t:Addr}{as:List Addr}{xss:List (List Int)}{r:xf}(s0:xb H0 L0)(hL:yH L0 L l as xss)(sL:xb L G)(hT:TupAt K G t r)(htl:L0 tl≠none):∀{ws:List Addr} {i:Nat},Paired (fun w a=>G w=some (.tup [.ref t,.ref a])) ws (as.drop i)→Paired (yM K H0 tl G) ws ((xss.drop i).map fun c=>(r,c))
 |ws,i,h=>by
  have hlen:=hL.len
  by_cases hi:i<as.length
  ·have e1:as.drop i=as[i]::as.drop (i+1):=df hi;have hi2:i<xss.length:=by lia
   have e2:xss.drop i=xss[i]::xss.drop (i+1):=df hi2;rw[e1]at h;rw[e2,bQ];cases h with
   |cons h1 h2=>
    have hfr:=hL.frs _ (cG hi);refine .cons ⟨t,as[i],⟨fun z=>htl (by rw[←z];exact hfr),s0.back hfr⟩,h1,hT,sL.at (hL.each i _ _ (aj hi) (aj hi2))⟩ (xig s0 hL sL hT htl h2)
  ·rw[eL (by lia)]at h;rw[eL (by lia)];cases h;exact .nil
 termination_by _ i=>as.length - i
theorem xkK(T:Txt K mg a){H:Hp}{t:Addr}{r:xf}{Q:VK}{σ:L2.St}{i:Nat}(hT:GT K H t r)
  (k:∀l as H1 H2,xb H H1→xb H1 H2→yH H1 H2 l as (zH r)→Q (.ref l) H2) (hσ:σ[i]? =some (some (.ref t)):=by rfl):
  vS a.q0c "pieces" (xce a) [] E0 (xdw (jj K a) [] E0 (xeK (uY i) jU)) jU σ H Q∨vS a.q0a "pieces" (xcd a) [] E0 (xdw (jj K a) [] E0 (xeK (uY i) jU)) jU σ H Q:=by
 obtain⟨hT,hk,hs⟩:=hT;have go:∀{R:VK},jj K a [.ref t] H R E0→xdw (jj K a) [] E0 (xeK (uY i) jU) σ H R:=fun h=>by
  unfold xdw xeK jU uY;rw[hσ];exact h
 cases r with
 |put to sg=>
  left
  unfold vS;refine go ⟨t,_,rfl,hT,hk,fun o H1 s1 ho hob=>?_⟩;obtain⟨dx,u,h1,h2⟩:=hob;have h9:sg.length≤60:=hs.2;refine⟨o,dx,_,rfl,h1,rfl,?_⟩;show xce a [.ref o] H1 Q E0;refine⟨o,dx,u,to,sg.length,rfl,h1,by lia,fun l as H2 s2 L=>k l as H1 H2 s1 s2 ?_⟩;rw[show((sg.length:Int)).toNat=sg.length by lia]at L;exact L
 |take to st c=>
  right
  unfold vS;refine go ⟨t,_,rfl,hT,hk,fun o H1 s1 ho hob=>?_⟩;obtain⟨dx,h1⟩:=hob;obtain⟨k1,k2,k3⟩:=hk;obtain⟨s1',s2',s3'⟩:=hs;refine⟨o,dx,_,rfl,h1,rfl,?_⟩;show xcd a [.ref o] H1 Q E0;have hb:(st - to).natAbs<2^200:=dD (show(st - to).natAbs≤1000 by lia) (by decide);exact⟨o,dx,to,st,c,rfl,h1,k3,by lia,hb,fun l as H2 s2 L=>k l as H1 H2 s1 s2 L⟩
theorem xih(T:Txt K mg a):xy P w K mg base CX0 6 a.q1I a.xbh ["paper"] (xif K):=by
 refine T.q1N.ok xde (fun vs H Q E h=>?_) (fun cdv A outer s H vs Q E hr h=>?_)
 ·obtain⟨p,tt,o,n,us,rs,rfl,_⟩:=h;rfl
 ·obtain⟨p,tt,o,n,us,rs,rfl,hp,ht,hus,hul,q⟩:=h;have nd:=xde.nd;refine⟨_,(xg (xt (i:=1) nd rfl (aM rfl) (yi xc))
  (xg (uy PassesOwn.never rfl (xk6 (xF xJ (cv 0) xm (fun _ _=>rfl))) (yz (i:=2) nd rfl (dk rfl)) (xl (xH (zK PySem.F.plainAttrs_list PySem.F.slot_list_extend PySem.F.type_list_extend xcD (cv 1) (xa (xX (yg (cap:=[2]) (ys:=["told"]) rfl rfl rfl rfl rfl ⟨⟨rfl,rfl,.inl rfl⟩,trivial⟩ (by decide+kernel)) rfl (xW (xhx (yb (xw (xa1 T) (hr.mono (by decide)) (by rfl) T.xb7 T.q1K.kp T.xb6 .nil xp (xa (cv 2) xc)) T.q0x T.q24 (xg6 T) (hr.mono (by decide)) T.xhT .nil xp) (yb (xw (xa1 T) (hr.mono (by decide)) (by rfl) T.xb7 T.q1K.kp T.xb6 .nil xp (xa (cv 2) xc)) T.q0d T.q2V (xge T) (hr.mono (by decide)) T.xgW .nil xp))) (fun _ _ _ _=>(yx (xa (cv 1) (xa (cv 0) xc)))) (fun _ _ _ _=>ye)) xc)))))
  (xl (xu (cv 1))))),?_⟩
  walk_at"w";walk_at"ss";intro pl hpl;generalize hUpl:upd H pl _=H1;have sH1:=xb.of_eq hpl hUpl;have epl:=xn hUpl;clear hUpl;walk_at"w";refine⟨p,_,_,.ref tt,rfl,rfl,SqT.of (sH1.at hp),rfl,?_⟩;walk_at"w";refine⟨tt,rfl,⟨_,SqT.of (sH1.at ht)⟩,?_⟩;walk_at"w";refine xlu (xs:=us.map V.ref) (fun i σ G=>xb H G∧∃(ws:List Addr) (x2:Option V),σ=[some (.ref p),some (.ref pl),x2]∧G pl=some (.lst (ws.map V.ref))∧Paired (yM K H pl G) ws (xO (rs.take i))∧ws.length≤60*i)
   ⟨sH1,[],_,rfl,epl,.nil,by simp⟩ (fun i σ G hi hP=>SqT.of (hP.1.at ht)) (fun i x σ G hx hP=>?_) (fun σ G hP=>?_)
  ·obtain⟨sG,ws,x2,rfl,epl',hws,hwl⟩:=hP;rw[aF]at hx;obtain⟨t,ht',rfl⟩:=bD.mp hx;have hi:i<us.length:=(aH.mp ht').1;obtain⟨r,hr',hT⟩:=Paired.nth hus ht';have hTG:=hT.same sG;walk_at"w";refine⟨.inl ⟨rfl,_,SqL.of epl'⟩,?_⟩;walk_at"w";have hplen:=xd4 hT.2.1 hT.2.2;refine xkK (K:=K) T hTG fun L as G1 G2 s1 s2 hL=>?_;walk_at"w";refine⟨L,rfl,⟨_,SqL.of hL.top⟩,?_⟩;have hal:as.length=(zH r).length:=hL.len;refine ve (fun i acc G=>∃ws2:List Addr,acc=ws2.map V.ref∧Paired (fun w a=>G w=some (.tup [.ref t,.ref a])) ws2 (as.take i)) (SqL.of hL.top) (by rw[af,ax];lia) ⟨[],rfl,by rw[List.take_zero];exact .nil⟩ (fun j x acc H3 H3' hx s3 s3' hP R hR=>?_) (fun D acc H9 H9' hD hD3 s9 s9' hP hl9 hv=>?_)
   ·obtain⟨ws2,rfl,hws2⟩:=hP;rw[aF]at hx;obtain⟨c,hc,rfl⟩:=bD.mp hx;walk_at"w";walk_at"ss";intro w hw;refine hR _ _ (xb.new hw) fun H6 sx kx=>⟨ws2++[w],by simp,?_⟩;rw[cb,hc];exact yo (L2.Paired.imp' (fun _ _ (z:H3 _=some _)=>sx.at z) hws2) (kx w _ (.inl hw) xk)
   ·obtain⟨ws2,rfl,hws2⟩:=hP;rw[af,cq]at hws2;rw[af,af]at hl9;have sB:xb G H9':=s1.trans (s2.trans (s9.trans s9'));have hpl9:=sB.at epl';have hTr:TupAt K H9' t r:=hTG.1.same sB;have hpi:=xig (K:=K) (H0:=H) (tl:=pl) (G:=H9') (sG.trans s1) hL (s9.trans s9') hTr (by rw[s1.at epl'];exact fun z=>by cases z) (ws:=ws2) (i:=0) (by rw[i3];exact L2.Paired.imp' (fun _ _ (z:H9 _=some _)=>s9'.at z) hws2);rw[i3]at hpi;walk_at"w";refine⟨pl,D,_,_,rfl,rfl,hpl9,hv,by rw[af,af,ax];lia,?_⟩;generalize hU:upd H9' pl _=G6;refine⟨xb.wr (sG.trans sB) hpl hU,ws++ws2,_,rfl,?_,?_,?_⟩
    ·rw[←hU,xk,aJ]
    ·have e:xO (rs.take (i+1))=xO (rs.take i)++(zH r).map fun c=>(r,c):=by
      unfold xO;rw[cb,hr',gJ];simp
     rw[e,←hU];exact xcx (L2.Paired.imp' (fun _ _ (z:yM K H pl G _ _)=>(z.same sB).off hpl9) hws) (L2.Paired.imp' (fun _ _ (z:yM K H pl H9' _ _)=>z.off hpl9) hpi)
    ·rw[av];lia
  ·obtain⟨sG,ws,x2,rfl,epl',hws,hwl⟩:=hP;walk_at"w";have e:rs.take (us.map V.ref).length=rs:=by rw[af,hus.length,cq]
   rw[e]at hws;exact q pl ws G sG hpl epl' hws
def xkL(a:Adr):Sp:=fun vs H Q _=>∃(p dx:Addr) (to st c cell:Int),vs=[.ref p,.int cell]∧H p=some (.ins a.q0a dx (xb9 to st c))∧Q (.int (st+cell - to)) H
theorem jk(T:Txt K mg a):xy P w K mg base CX0 1 a.q0q a.uu ["self","cell"] (xkL a):=by
 refine T.q0V.ok jg (fun vs H Q E h=>?_) (fun cdv A outer s H vs Q E hr h=>?_)
 ·obtain⟨p,dx,to,st,c,cell,rfl,_⟩:=h;rfl
 ·obtain⟨p,dx,to,st,c,cell,rfl,hp,k⟩:=h;have nd:=jg.nd;refine⟨_,(xl (xu (xr uE (xr xY (xA (cv 0) rfl) (cv 1)) (xA (cv 0) rfl)))),?_⟩;walk_at"w";refine⟨p,_,dx,_,.int st,rfl,hp,T.q0d,T.q0h,rfl,?_⟩;walk_at"w";refine⟨p,_,dx,_,.int to,rfl,hp,T.q0d,T.q0s,rfl,?_⟩;exact k
def plc(r:xf)(c:Int):List Int:=match r with
 | .take to st _=>[st+c - to,c]
 | .put _ _=>[c]
def yG(r:xf)(cs:List Int):List Int:=cs.flatMap (plc r)
theorem xdj{r:xf}{cs:List Int}{i:Nat}{d:Int}(h:cs[i]? =some d):yG r (cs.take (i+1))=yG r (cs.take i)++plc r d:=by
 unfold yG;rw[cb,h,gJ];simp
theorem xbm(r:xf):∀cs:List Int,(yG r cs).length≤2*cs.length
 |[]=>by simp[yG]
 |c::cs=>by
  have:=xbm r cs;have h2:(plc r c).length≤2:=by cases r<;> simp[plc]
  simp only[yG,List.flatMap_cons,av,bt]at this⊢;lia
def xma(K:ah)(a:Adr):Sp:=fun vs H Q _=>∃(o cl:Addr) (r:xf) (cs:List Int),vs=[.ref o,.ref cl]∧xB K a H o r∧H cl=some (.lst (cs.map V.int))∧cs.length≤300∧xkz H Q (yG r cs)
theorem xey(T:Txt K mg a):xy P w K mg base CX0 2 a.q0O a.vq ["row","cells"] (xma K a):=by
 refine T.q0T.ok xaD (fun vs H Q E h=>?_) (fun cdv A outer s H vs Q E hr h=>?_)
 ·obtain⟨o,cl,r,cs,rfl,_⟩:=h;rfl
 ·obtain⟨o,cl,r,cs,rfl,ho,hcl,hn,q⟩:=h;have nd:=xaD.nd;refine⟨_,(xg (xt (i:=2) nd rfl (aM rfl) (yi xc))
  (xg (uy PassesOwn.never rfl (xW (cv 1)) (yz (i:=3) nd rfl (aM rfl)) (xg (xeN (xT (yy (xq zy (by rfl) T.q0n xZ (xa (cv 0) (xa (vE (v:=.ref a.q0a) (by rfl) T.xbw rfl) xc)))) (xl (xH (zK PySem.F.plainAttrs_list PySem.F.slot_list_append PySem.F.type_list_append yt (cv 2) (xa (uT (cv 0) T.q0d T.q1E (jk T) (hr.mono (by decide)) T.jD .nil xp (xa (cv 3) xc)) xc)))) xN))
  (xl (xH (zK PySem.F.plainAttrs_list PySem.F.slot_list_append PySem.F.type_list_append yt (cv 2) (xa (cv 3) xc))))))
  (xl (xu (cv 2))))),?_⟩
  walk_at"w";walk_at"ss";intro pl hpl;generalize hUpl:upd H pl _=H1;have sH1:=xb.of_eq hpl hUpl;have epl:=xn hUpl;clear hUpl;walk_at"w";refine⟨cl,rfl,⟨_,SqL.of (sH1.at hcl)⟩,?_⟩;refine vc (xs:=cs.map V.int) (fun i σ G=>xb H G∧∃(x3:Option V),σ=[some (.ref o),some (.ref cl),some (.ref pl),x3]∧G pl=some (.lst ((yG r (cs.take i)).map V.int)))
   ⟨sH1,_,rfl,epl⟩ (fun i σ G hi hP=>SqL.of (hP.1.at hcl)) (fun i x σ G hx hP=>?_) (fun σ G hP=>?_)
  ·obtain⟨sG,x3,rfl,epl'⟩:=hP;rw[aF]at hx;obtain⟨d,hd,rfl⟩:=bD.mp hx;have hlen:=xbm r (cs.take i);have hi:i<cs.length:=(aH.mp hd).1;have htk:(cs.take i).length≤cs.length:=by rw[bM];lia
   walk_at"w";refine⟨fun σ' G'=>xb H G'∧σ'=[some (.ref o),some (.ref cl),some (.ref pl),some (.int d)]∧∃ys:List Int,G' pl=some (.lst (ys.map V.int))∧ys++[d]=yG r (cs.take (i+1)),?_,?_⟩
   ·have ho':=ho.same sG;cases r with
    |take to st c=>
     obtain⟨dx,h1⟩:=ho';walk_at"w";refine⟨_,_,_,_,true,rfl,rfl,T.xbx h1,T.q1Z,?_⟩;walk_at"w";refine⟨fun _=>?_,by walk_at"no"⟩;walk_at"w";refine⟨.inl ⟨rfl,_,SqL.of epl'⟩,?_⟩;walk_at"w";refine⟨o,dx,_,rfl,h1,rfl,?_⟩;walk_at"w";refine⟨o,dx,to,st,c,d,rfl,h1,?_⟩;walk_at"w";refine⟨pl,_,_,rfl,rfl,epl',by rw[af,ax];lia,?_⟩;refine⟨sG.put hpl,rfl,yG (.take to st c) (cs.take i)++[st+d - to],by rw[xk,aJ];rfl,?_⟩;rw[xdj hd];simp[plc]
    |put to sg=>
     obtain⟨dx,u,h1,h2⟩:=ho';walk_at"w";refine⟨_,_,_,_,false,rfl,rfl,T.xh2 h1,T.q2Z,?_⟩;walk_at"w";refine⟨by walk_at"no",fun _=>?_⟩;refine⟨sG,rfl,_,epl',?_⟩;rw[xdj hd];simp[plc]
   ·rintro σ' G' ⟨sG',rfl,ys,eys,hys⟩;walk_at"w";refine⟨.inl ⟨rfl,_,SqL.of eys⟩,?_⟩;walk_at"w";have hyl:=congrArg cC hys;have:=xbm r (cs.take (i+1));have htk2:(cs.take (i+1)).length≤cs.length:=by rw[bM];lia
    rw[av,bB]at hyl;refine⟨pl,_,_,rfl,rfl,eys,by rw[af,ax];lia,?_⟩;refine⟨sG'.put hpl,_,rfl,?_⟩;rw[xk,←hys,aJ];rfl
  ·obtain⟨sG,x3,rfl,epl'⟩:=hP;rw[af,cq]at epl';walk_at"w";exact q pl G sG hpl epl'
def xmb(K:ah):Sp:=fun vs H Q _=>∃(size:Int) (H0:Hp) (pl tl:Addr) (ws:List Addr) (xs:List (xf×List Int)),vs=[.int size,.ref pl]∧H pl=some (.lst (ws.map V.ref))∧Paired (yM K H0 tl H) ws xs∧(∀x∈xs,x.1.ok∧x.2.length≤300∧∀p∈yG x.1 x.2,p<size)∧∀H',xb H H'→Q .non H'
theorem xez(T:Txt K mg a):xy P w K mg base CX0 6 a.q0N a.vp ["size","pieces"] (xmb K):=by
 refine T.q0S.ok xaC (fun vs H Q E h=>?_) (fun cdv A outer s H vs Q E hr h=>?_)
 ·obtain⟨size,H0,pl,tl,ws,xs,rfl,_⟩:=h;rfl
 ·obtain⟨size,H0,pl,tl,ws,xs,rfl,hpl,hws,hx,q⟩:=h;have nd:=xaC.nd;refine⟨_,(xl (uy PassesOwn.never rfl (xW (cv 1)) (xho rfl (vF (yz (i:=2) nd rfl (aM rfl)) (vF (yz (i:=3) nd rfl (aM rfl)) xfC))) (xl (uy PassesOwn.never rfl (xW (xw (xey T) (hr.mono (by decide)) (by rfl) T.xe1 T.q0T.kp T.xe0 .nil xp (xa (xw (xa1 T) (hr.mono (by decide)) (by rfl) T.xb7 T.q1K.kp T.xb6 .nil xp (xa (cv 2) xc)) (xa (cv 3) xc)))) (yz (i:=4) nd rfl (aM rfl)) (xl (xT (xK xjY (cv 4) (cv 0)) (xl xdB) xN)))))),?_⟩;walk_at"w";refine⟨pl,rfl,⟨_,SqL.of hpl⟩,?_⟩;refine vc (xs:=ws.map V.ref) (fun i σ G=>xb H G∧∃(x2 x3 x4:Option V),σ=[some (.int size),some (.ref pl),x2,x3,x4])
   ⟨xb.refl _,_,_,_,rfl⟩ (fun i σ G hi hP=>SqL.of (hP.1.at hpl)) (fun i x σ G hx' hP=>?_) (fun σ G hP=>?_)
  ·obtain⟨sG,x2,x3,x4,rfl⟩:=hP;rw[aF]at hx';obtain⟨u,hu,rfl⟩:=bD.mp hx';obtain⟨⟨r,cs⟩,hr',t,c,nc,h1,h2,h3⟩:=Paired.nth hws hu;obtain⟨hk,hcl,hpp⟩:=hx _ (aB hr');walk_at"w";refine⟨u,_,rfl,SqT.of (sG.at h1),rfl,?_⟩;walk_at"w";refine⟨_,_,rfl,?_⟩;walk_at"w";refine⟨_,_,rfl,?_⟩;walk_at"w";refine dF rfl ?_;walk_at"w";refine⟨t,r,rfl,h2.same sG,hk,fun o H1 s1 ho hob=>?_⟩;walk_at"w";refine⟨o,c,r,cs,rfl,hob,s1.at (sG.at h3),hcl,fun l H2 s2 hl el=>?_⟩;have sA:xb H H2:=sG.trans (s1.trans s2);walk_at"w";refine⟨l,rfl,⟨_,SqL.of el⟩,?_⟩;refine vc (xs:=(yG r cs).map V.int) (fun i σ G=>H2=G∧∃(x4:Option V),σ=[some (.int size),some (.ref pl),some (.ref t),some (.ref c),x4])
    ⟨rfl,_,rfl⟩ (fun i σ G hi hP=>by rw[←hP.1];exact SqL.of el) (fun i x σ G hx' hP=>?_) (fun σ G hP=>?_)
   ·obtain⟨rfl,x4,rfl⟩:=hP;rw[aF]at hx';obtain⟨p,hp,rfl⟩:=bD.mp hx';have hlt:=hpp p (aB hp);walk_at"w";refine⟨fun e=>absurd (of_decide_eq_true e) (by show¬size≤p;lia),fun _=>?_⟩;exact⟨rfl,_,rfl⟩
   ·obtain⟨rfl,x4,rfl⟩:=hP;exact⟨sA,_,_,_,rfl⟩
  ·obtain⟨sG,x2,x3,x4,rfl⟩:=hP;exact q _ sG
def xkM:Sp:=fun vs H Q _=>∃(size o n:Int) (p:Addr) (x:V),vs=[.int size,.ref p]∧H p=some (.tup [.int o,.int n,x])∧max o n≤size∧Q .non H
theorem xdN(T:Txt K mg a):xy P w K mg base CX0 1 a.q0F a.uP ["size","paper"] xkM:=by
 refine T.q0H.ok jE (fun vs H Q E h=>?_) (fun cdv A outer s H vs Q E hr h=>?_)
 ·obtain⟨size,o,n,p,x,rfl,_⟩:=h;rfl
 ·obtain⟨size,o,n,p,x,rfl,hp,hle,k1⟩:=h;have nd:=jE.nd;refine⟨_,(xg (xt (i:=2) nd rfl (aM rfl) (xq (xcK rfl) (by rfl) T.q21 xaa (xa (xF xJ (cv 1) xm (fun _ _=>rfl)) (xa (xF xJ (cv 1) xm (fun _ _=>rfl)) xc))))
  (xl (xT (xK xa6 (cv 0) (cv 2)) (xl xdB) xN))),?_⟩
  walk_at"w";refine⟨p,_,_,.int o,rfl,rfl,SqT.of hp,rfl,?_⟩;walk_at"w";refine⟨p,_,_,.int n,rfl,rfl,SqT.of hp,rfl,?_⟩;walk_at"w";refine⟨fun e=>absurd (of_decide_eq_true e) (by show¬size<max o n;lia),fun e=>?_⟩;exact k1
def zF(r:xf)(C:List Int)(d:Int):List Int:=match r with
 | .take to st _=>C.set d.toNat (C.getD (st+d - to).toNat 0)
 | .put to sg=>C.set d.toNat (sg.getD (d - to).toNat 0)
def doP(r:xf)(C cs:List Int):List Int:=cs.foldl (zF r) C
theorem xmc(r:xf)(C:List Int)(d:Int):(zF r C d).length=C.length:=by cases r<;> simp[zF]
theorem xgh(r:xf):∀(cs C:List Int),(doP r C cs).length=C.length
 |[],_=>rfl
 |d::cs,C=>by
  show(doP r (zF r C d) cs).length=_;rw[xgh r cs,xmc]
theorem xnh{r:xf}{C cs:List Int}{i:Nat}{d:Int}(h:cs[i]? =some d):doP r C (cs.take (i+1))=zF r (doP r C (cs.take i)) d:=by
 unfold doP;rw[cb,h];simp[eO]
abbrev xaK:Expr:=xbs 1 (xbs 1 (xf7 ((xog ((xD zB).getD 0 (.Pass ⟨0,0,0,0⟩))).getD 0 (.Pass ⟨0,0,0,0⟩))))
theorem xjy:zf ["at","store"] ["at"] ["store"] (xU xaK):=⟨rfl,rfl,rfl,by decide+kernel,rfl,by decide+kernel,by decide+kernel,by decide+kernel⟩
abbrev xq9(H:Hp)(f:Addr)(fv:List (Str×V)):Prop:=xV H f "<lambda>" "do_piece.<locals>.<lambda>" (zm xaK) (.expr (zo xaK)) (xU xaK) fv
def xjz(a:Adr):List (Str×V)→Sp:=fun fv vs H Q _=>∃(S:SA) (cells:List Int) (notes:List (Option Int)) (n i v:Int) (fl:V),fv=([("store",.ref S.st)]:List (Str×V))∧vs=[.int i]∧yS a H S cells notes n fl∧inR cells i∧cells[i.toNat]? =some v∧Q (.int v) H
theorem xfh(T:Txt K mg a):yR P w K mg base CX0 3 "<lambda>" "do_piece.<locals>.<lambda>" (zm xaK) (.expr (zo xaK)) (xU xaK) ["at"] (xjz a):=by
 refine uJ xjy (fun fv vs H Q E h=>?_) (fun _ _ _ _ _ us hl=>match us,hl with|[_],_=>rfl) (fun A outer s H f clos cdv fv vs Q E hr h=>?_)
 ·obtain⟨S,cells,notes,n,i,v,fl,rfl,rfl,_⟩:=h;exact⟨rfl,rfl⟩
 ·obtain⟨S,cells,notes,n,i,v,fl,rfl,rfl,hS,hi,hv,k⟩:=h;have nd:=xjy.nd;refine⟨_,(uT (cv 1) T.q0e T.q26 (xg4 T) (hr.mono (by decide)) T.xh0 .nil xp (xa (cv 0) xc)),?_⟩;walk_at"w";refine⟨S.st,S.dx,_,rfl,hS.st,rfl,?_⟩;exact⟨S,cells,notes,n,i,v,fl,rfl,hS,hi,hv,k⟩
def xni(a:Adr):Sp:=fun vs H Q E=>∃(p dx u:Addr) (to n cell v:Int) (f:V) (sg:List Int),vs=[.ref p,.int cell,f]∧H p=some (.ins a.q0c dx (xca to u n))∧H u=some (.tup (sg.map V.int))∧0≤cell - to∧sg[(cell - to).toNat]? =some v∧Q (.int v) H
def xnj(a:Adr):Sp:=fun vs H Q _=>∃(p dx:Addr) (to st c cell:Int) (f:Addr) (fv:List (Str×V)),vs=[.ref p,.int cell,.ref f]∧H p=some (.ins a.q0a dx (xb9 to st c))∧xq9 H f fv∧xjz a fv [.int (st+cell - to)] H Q E0
theorem xeA(T:Txt K mg a):xy P w K mg base CX0 4 a.q0A a.vn ["self","cell","read"] (xnj a):=by
 refine T.q1h.ok xaA (fun vs H Q E h=>?_) (fun cdv A outer s H vs Q E hr h=>?_)
 ·obtain⟨p,dx,to,st,c,cell,f,fv,rfl,_⟩:=h;rfl
 ·obtain⟨p,dx,to,st,c,cell,f,fv,rfl,hp,hf,k⟩:=h;have nd:=xaA.nd;refine⟨_,(xl (xu (xhD 2 (xfh T) (hr.mono (by decide)) xp (xa (uT (cv 0) T.q0d T.q1E (jk T) (hr.mono (by decide)) T.jD .nil xp (xa (cv 1) xc)) xc)))),?_⟩;walk_at"w";refine⟨f,fv,rfl,hf,?_⟩;walk_at"w";refine⟨p,dx,_,rfl,hp,rfl,?_⟩;walk_at"w";refine⟨p,dx,to,st,c,cell,rfl,hp,?_⟩;walk_at"w";exact⟨hf,k⟩
theorem xfi(T:Txt K mg a):xy P w K mg base CX0 1 a.q0J a.vP ["self","cell","read"] (xni a):=by
 refine T.q1m.ok xaW (fun vs H Q E h=>?_) (fun cdv A outer s H vs Q E hr h=>?_)
 ·obtain⟨p,dx,u,to,n,cell,v,f,sg,rfl,_⟩:=h;rfl
 ·obtain⟨p,dx,u,to,n,cell,v,f,sg,rfl,hp,hu,hi,hv,k⟩:=h;have nd:=xaW.nd;refine⟨_,(xl (xu (xF xJ (xA (cv 0) rfl) (xr uE (cv 1) (xA (cv 0) rfl)) (fun _ _=>rfl)))),?_⟩;walk_at"w";refine⟨p,_,dx,_,.ref u,rfl,hp,T.q0x,T.q0D,rfl,?_⟩;walk_at"w";refine⟨p,_,dx,_,.int to,rfl,hp,T.q0x,T.q1f,rfl,?_⟩;walk_at"w";exact⟨u,_,_,.int v,rfl,rfl,SqT.of hu,xhG hi hv,k⟩
def xbG(r:xf)(L:Nat)(d:Int):Prop:=0≤d∧d<L∧match r with
 | .take to st _=>0≤st+d - to∧st+d - to<L
 | .put to sg=>0≤d - to∧d - to<sg.length
theorem StF.mu{H:Hp}{F:FA}{cells:List Int}{notes:List (Option Int)}{k:Nat}(h:StF a H F cells notes k):∀x∈SF F,∃u,H x=some u∧jB u:=by
 intro x hx;rcases ar.mp hx with rfl|hx
 ·obtain⟨ys,e,_⟩:=h.fl;exact⟨_,e,trivial⟩
 ·obtain⟨n,_,hS⟩:=h.st;exact hS.mu x hx
theorem StF.noMu{H:Hp}{F:FA}{cells:List Int}{notes:List (Option Int)}{k:Nat}(h:StF a H F cells notes k){b:Addr}{u:HO}(e:H b=some u)(m:¬jB u):b∉SF F:=fun z=>by
 obtain⟨u',q',m'⟩:=h.mu b z;rw[e]at q';cases q';exact m m'
theorem xB.kpF{H H':Hp}{F:FA}{cells:List Int}{notes:List (Option Int)}{k:Nat}{o:Addr}{r:xf}(h:xB K a H o r)(hF:StF a H F cells notes k)(hn:o∉SF F)(kp:Kp (SF F) H H'):xB K a H' o r:=by
 cases r with
 |take to st c=>obtain⟨dx,h⟩:=h;exact⟨dx,kp _ _ h hn⟩
 |put to sg=>obtain⟨dx,u,h1,h2⟩:=h;exact⟨dx,u,kp _ _ h1 hn,kp _ _ h2 (hF.noMu h2 (fun z=>z))⟩
def yT(cs D cells:List Int):Prop:=cells.length=D.length∧∀j:Nat,j<D.length→(j:Int)∉cs→cells[j]? =D[j]?
theorem yT.refl(cs D:List Int):yT cs D D:=⟨rfl,fun _ _ _=>rfl⟩
theorem yT.set{cs D cells:List Int}{d v:Int}(h:yT cs D cells)(hd:d∈cs)(h0:0≤d):yT cs D (cells.set d.toNat v):=by
 refine⟨by rw[cL];exact h.1,fun j hj hn=>?_⟩;rw[List.getElem?_set,if_neg (fun z=>hn (by rw[←z,bL h0];exact hd))];exact h.2 j hj hn
theorem yT.step{cs D cells:List Int}{r:xf}{d:Int}(h:yT cs D cells)(hd:d∈cs)(h0:0≤d):yT cs D (zF r cells d):=by
 cases r with
 |take to st c=>exact h.set hd h0
 |put to sg=>exact h.set hd h0
theorem yT.doP{cs D:List Int}{r:xf}:∀{ds cells:List Int},yT cs D cells→(∀d∈ds,d∈cs∧0≤d)→yT cs D (doP r cells ds)
 |[],_,h,_=>h
 |d::ds,cells,h,k=>by
  show yT cs D (ds.foldl (zF r) (zF r cells d));exact yT.doP (h.step (k d aS).1 (k d aS).2) fun x hx=>k x (aD _ hx)
def xi5(K:ah)(a:Adr):Sp:=fun vs H Q E=>∃(F:FA) (o c:Addr) (r:xf) (cs cells:List Int) (notes:List (Option Int)) (k:Nat),vs=[.ref F.S.st,.ref o,.ref c]∧Bs K F∧StF a H F cells notes k∧k≤30∧xB K a H o r∧o∉SF F∧H c=some (.lst (cs.map V.int))∧c∉SF F∧(∀d∈cs,xbG r cells.length d)∧
 (∀H',Kp (SF F) H H'→StF a H' F (doP r cells cs) notes k→Q .non H')∧xf9 a H F k E fun cells' notes'=>notes'=notes∧yT cs cells cells'
theorem xi6(T:Txt K mg a):xy P w K mg base (CXE P w) 7 a.q1B a.jN ["store","row","cells"] (xi5 K a):=by
 refine T.vy.okXK ["store"] T.xiX xdZ (fun vs H Q E h=>?_) (fun A outer s H vs Q E hr h=>?_)
 ·obtain⟨F,o,c,r,cs,cells,notes,k,rfl,_⟩:=h;rfl
 ·obtain⟨F,o,c,r,cs,cells,notes,k,rfl,B,hF,hk,ho,hop,hc,hcS,hin,k1,k2⟩:=h;have nd:=xdZ.nd;refine⟨_,(jb (x:="store") (i:=0) nd rfl rfl rfl (by kernel_rfl) (xl (uy (PassesOwn.xe ⟨rfl,rfl,rfl⟩) rfl (xW (cv 2)) (yz (i:=3) nd rfl (aM rfl)) (xl (xH (uK ⟨rfl,rfl,rfl⟩ (cv 0) T.q0e T.q2T (xgf T) (hr.mono (by decide)) T.xgX .nil (xa (cv 3) (xa (xhx (uT (cv 1) T.q0x T.q2G (xfi T) (hr.mono (by decide)) T.xf0 .nil xp (xa (cv 3) (xa (zv (c:=q0L) (P:=yZ) (qs:=uA) (fns:=["store"]) rfl T.q2X (q:="do_piece.<locals>.<lambda>") (by kernel_rfl) (.head _) (by kernel_rfl) (by kernel_rfl)) xc))) (uT (cv 1) T.q0d T.q2z (xeA T) (hr.mono (by decide)) T.xeV .nil xp (xa (cv 3) (xa (zv (c:=q0L) (P:=yZ) (qs:=uA) (fns:=["store"]) rfl T.q2X (q:="do_piece.<locals>.<lambda>") (by kernel_rfl) (.head _) (by kernel_rfl) (by kernel_rfl)) xc)))) xc)))))))),?_⟩;walk_at"w";intro a1 e1 z1 d1;refine dF z1 ?_;generalize hU1:upd H a1 _=H1;have s1:=xb.of_eq z1 hU1;have c1:=xn hU1;clear hU1;have hF1:=hF.same s1;have c1:H1 a1=some (.cel (some (.ref F.S.st))):=c1;walk_at"w";refine⟨c,rfl,⟨_,SqL.of (s1.at hc)⟩,?_⟩;refine vc (xs:=cs.map V.int) (fun i σ G=>Kp (SF F) H1 G∧StF a G F (doP r cells (cs.take i)) notes k∧∃(x3:Option V),σ=[some (.ref F.S.st),some (.ref o),some (.ref c),x3])
   ⟨Kp.of (xb.refl _),hF1,_,rfl⟩ (fun i σ G hi hP=>SqL.of (hP.1 _ _ (s1.at hc) hcS)) (fun i x σ G hx hP=>?_) (fun σ G hP=>?_)
  ·obtain⟨kp,hFG,x3,rfl⟩:=hP;rw[aF]at hx;obtain⟨d,hd,rfl⟩:=bD.mp hx;have hdm:=aB hd;obtain⟨hd0,hd1,hd2⟩:=hin d hdm;have hdl:=xgh r (cs.take i) cells;have hOG:xB K a G o r:=(ho.same s1).kpF hF1 hop kp;have c1G:G a1=some (.cel (some (.ref F.S.st))):=kp _ _ c1 (hF1.noMu c1 (fun z=>z));obtain⟨n,hn,hSG⟩:=hFG.st;have hNear:yT cs cells (doP r cells (cs.take i)):=yT.doP (yT.refl _ _) fun x hx=>⟨c5 hx,(hin x (c5 hx)).1⟩;have fin:∀(G5:Hp) (v:Int),xb G G5→zF r (doP r cells (cs.take i)) d=(doP r cells (cs.take i)).set d.toNat v→xa0 K a [.ref F.S.st,.int d,.int v] G5 (fun v' H'=>Kp (SF F) H1 H'∧StF a H' F (doP r cells (cs.take (i+1))) notes k∧∃(x3:Option V),[some (V.ref F.S.st),some (.ref o),some (.ref c),some (.int d)]=[some (.ref F.S.st),some (.ref o),some (.ref c),x3]) E:=fun G5 v s5 e=>by
    refine⟨F,_,notes,d,v,k,rfl,B,hFG.same s5,hk,⟨hd0,by rw[hdl];exact hd1⟩,fun G6 k6 h6=>⟨(kp.same s5).trans k6,?_,_,rfl⟩,fun hk2 m dd G6 cells' notes' k6 h6 hp hd6=>?_⟩
    ·rw[xnh hd,e];exact h6
    ·obtain⟨rfl,hp⟩:=hp;refine k2 hk2 m dd G6 cells' notes' (fun b u eb nb=>k6 b u (s5 b u (kp b u (s1 b u eb) nb)) nb) h6 ⟨rfl,?_⟩ hd6;rcases hp with rfl|⟨t,rfl⟩
     ·exact hNear
     ·exact hNear.set hdm hd0
   walk_at"w";refine⟨F.S.st,F.S.dx,_,rfl,hSG.st,rfl,?_⟩;walk_at"w";cases r with
   |put to sg=>
    obtain⟨dx,u,q1,q2⟩:=hOG;have hd2:0≤d - to∧d - to<sg.length:=hd2;obtain⟨v,hv⟩:∃v,sg[(d - to).toNat]? =some v:=⟨_,aj (by omega)⟩
    left
    refine⟨o,dx,_,rfl,q1,rfl,?_⟩;walk_at"w";refine⟨B.keep hFG.kp B.Pd (fun z=>z),[("store",.ref F.S.st)],rfl,fun x v m=>?_,fun f G5 hf s5 hc=>?_⟩
    ·simp only[ar,f9,bu,or_false]at m;obtain⟨rfl,rfl⟩:=m;exact⟨a1,e1,c1G⟩
    walk_at"w";refine⟨o,dx,u,to,_,d,v,_,sg,rfl,s5.at q1,s5.at q2,hd2.1,hv,?_⟩;walk_at"w";exact fin G5 v s5 (by simp[zF,cc,hv])
   |take to st cn=>
    obtain⟨dx,q1⟩:=hOG;have hd2:0≤st+d - to∧st+d - to<cells.length:=hd2;obtain⟨v,hv⟩:∃v,(doP (.take to st cn) cells (cs.take i))[(st+d - to).toNat]? =some v:=⟨_,aj (by rw[hdl];omega)⟩
    right
    refine⟨o,dx,_,rfl,q1,rfl,?_⟩;walk_at"w";refine⟨B.keep hFG.kp B.Pd (fun z=>z),[("store",.ref F.S.st)],rfl,fun x v m=>?_,fun f G5 hf s5 hc=>?_⟩
    ·simp only[ar,f9,bu,or_false]at m;obtain⟨rfl,rfl⟩:=m;exact⟨a1,e1,c1G⟩
    walk_at"w";refine⟨o,dx,to,st,cn,d,f,_,rfl,s5.at q1,hc,F.S,_,notes,n,_,v,.ref F.f,rfl,rfl,hSG.same s5,⟨hd2.1,by rw[hdl];exact hd2.2⟩,hv,?_⟩;walk_at"w";exact fin G5 v s5 (by simp[zF,cc,hv])
  ·obtain⟨kp,hFG,x3,rfl⟩:=hP;rw[af,cq]at hFG;walk_at"w";exact k1 G (fun b u e n=>kp b u (s1 b u e) n) hFG
def doL(C:List Int)(xs:List (xf×List Int)):List Int:=xs.foldl (fun C x=>doP x.1 C x.2) C
theorem yN:∀(xs:List (xf×List Int)) (C:List Int),(doL C xs).length=C.length
 |[],_=>rfl
 |x::xs,C=>by
  show(doL (doP x.1 C x.2) xs).length=_;rw[yN xs,xgh]
theorem xii{C:List Int}{xs:List (xf×List Int)}{i:Nat}{x:xf×List Int}(h:xs[i]? =some x):doL C (xs.take (i+1))=doP x.1 (doL C (xs.take i)) x.2:=by
 unfold doL;rw[cb,h];simp[eO]
def zr(L:Nat)(x:xf×List Int):Prop:=x.1.ok∧x.2.length≤300∧∀d∈x.2,xbG x.1 L d
theorem xmd(xs:List V)(i:Nat):zx xs (some (i:Int)) none=xs.drop i:=by
 unfold zx;rw[yY (by lia),HT.uI,cz]
 by_cases h:i≤xs.length
 ·rw[cj h];exact bh (by rw[aX];lia)
 ·rw[d6 (by lia),eL (ak _),eL (by lia)];simp
theorem xd5{α β:Type}{F:α→β→Prop}:∀{l₁:List α} {l₂:List β} (n:Nat),Paired F l₁ l₂→Paired F (l₁.drop n) (l₂.drop n)
 |_,_,0,h=>h
 |_,_,n+1,.nil=>.nil
 |_,_,n+1,.cons _ t=>xd5 n t
theorem xme{r:xf}{L:Nat}{cs:List Int}(h:∀d∈cs,xbG r L d):∀p∈yG r cs,p<(L:Int):=by
 intro p hp;unfold yG at hp;obtain⟨d,hd,hp⟩:=gm.mp hp;have h1:=h d hd;cases r with
 |take to st c=>
  have h2:0≤st+d - to∧st+d - to<L:=h1.2.2;simp only[plc,ar,bu,or_false]at hp;rcases hp with rfl|rfl
  ·exact h2.2
  ·exact h1.2.1
 |put to sg=>
  simp only[plc,aE]at hp;rw[hp];exact h1.2.1
theorem TupAt.kpS{K:ah}{H H':Hp}{t:Addr}{r:xf}(h:TupAt K H t r)(k:∀b u,H b=some u→¬jB u→H' b=some u):TupAt K H' t r:=by
 cases r with
 |take to st c=>exact k _ _ h (fun z=>z)
 |put to sg=>obtain⟨u,h1,h2⟩:=h;exact⟨u,k _ _ h1 (fun z=>z),k _ _ h2 (fun z=>z)⟩
theorem uh{u:Nat→Nat→List Int}{d k j:Nat}{p:List Int}(h:(chs u d k)[j]? =some p):j<cN d k∧p=u k j:=by
 unfold chs at h;rw[aF]at h;obtain⟨i,hi,rfl⟩:=bD.mp h;have hj:j<cN d k:=by
  have:=(aH.mp hi).1;simpa using this
 rw[km hj]at hi;cases hi;exact⟨hj,rfl⟩
theorem xeB{lo:Int}{n i:Nat}{d:Int}(h:(yD lo n)[i]? =some d):i<n∧d=lo+i:=by
 unfold yD at h;rw[aF]at h;obtain⟨j,hj,rfl⟩:=bD.mp h;have hi:i<n:=by
  have:=(aH.mp hj).1;simpa using this
 rw[km hi]at hj;cases hj;exact⟨hi,rfl⟩
theorem xgK{lo x:Int}{n i:Nat}(h:x∈(yD lo n).take i):lo≤x∧x<lo+i:=by
 obtain⟨j,hj⟩:=bI.mp h;rw[dG]at hj
 split at hj
 ·have:=xeB hj;lia
 ·cases hj
theorem xcg{to:Int}{d k j:Nat}{x:Int}(h:x∈uch to d k j):to+(j*d:Nat)≤x∧x<to+(j*d:Nat)+d∧x<to+k:=by
 unfold uch at h;have:=yp.mp h;omega
theorem jP{e:Int}{d k j:Nat}{x:Int}(h:x∈dch e d k j):e - ((j+1)*d:Nat)≤x∧x<e - (j*d:Nat)∧e - k≤x:=by
 unfold dch at h;have:=yp.mp h;have e1:(j+1)*d=j*d+d:=eS j d;omega
theorem xgL{xss:List (List Int)}{k:Nat}{x:Int}(h:x∈(xss.take k).flatten):∃j p,j<k∧xss[j]? =some p∧x∈p:=by
 obtain⟨p,hp,hx⟩:=fc.mp h;obtain⟨j,hj⟩:=bI.mp hp;rw[dG]at hj
 split at hj
 ·rename_i hlt;exact⟨j,p,hlt,hj,hx⟩
 ·cases hj
theorem xkN{to st c:Int}(hc:1≤c){k i:Nat}{p:List Int}{d x:Int}(hp:(ya to st c)[k]? =some p)(hd:p[i]? =some d)(hx:x∈((ya to st c).take k).flatten++p.take i):x≠st+d - to:=by
 unfold ya at hp hx
 split at hp
 ·simp at hp
 rename_i hne;rw[if_neg hne]at hx
 split at hp
 ·rename_i hlt;rw[if_pos hlt]at hx;obtain⟨hk,rfl⟩:=uh hp;unfold uch at hd;have h1:=xeB hd;rcases aY.mp hx with hx|hx
  ·obtain⟨j,q,hj,hq,hxq⟩:=xgL hx;obtain⟨_,rfl⟩:=uh hq;have h2:=xcg hxq;have h3:(j+1)*(st - to).toNat≤k*(st - to).toNat:=gG _ hj;have e1:(j+1)*(st - to).toNat=j*(st - to).toNat+(st - to).toNat:=eS _ _;omega
  ·have h2:=xgK hx;omega
 ·rename_i hlt;rw[if_neg hlt]at hx;obtain⟨hk,rfl⟩:=uh hp;unfold dch at hd;have h1:=xeB hd;have ek:(k+1)*(to - st).toNat=k*(to - st).toNat+(to - st).toNat:=eS _ _;rcases aY.mp hx with hx|hx
  ·obtain⟨j,q,hj,hq,hxq⟩:=xgL hx;obtain⟨_,rfl⟩:=uh hq;have h2:=jP hxq;have h3:(j+1)*(to - st).toNat≤k*(to - st).toNat:=gG _ hj;omega
  ·unfold dch at hx;have h2:=xgK hx;omega
theorem xjA{u:Nat→Nat→List Int}{d k j:Nat}(h:j<cN d k):u k j∈chs u d k:=a7.mpr ⟨j,bx.mpr h,rfl⟩
theorem xnN{d k m:Nat}(hd:0<d)(h:m<k):m / d<cN d k:=by
 unfold cN;rw[Nat.div_lt_iff_lt_mul hd];have h1:=iI (k+d - 1) d;have h2:=Nat.mod_lt (k+d - 1) hd;have e1:(k+d - 1) / d*d=d*((k+d - 1) / d):=il _ _;omega
theorem xfj{to st c:Int}(hc:1≤c){x:Int}:x∈(ya to st c).flatten↔st≠to∧to≤x∧x<to+c:=by
 unfold ya
 by_cases hne:st=to
 ·rw[if_pos hne];simp[hne]
 rw[if_neg hne]
 by_cases hlt:to<st
 ·rw[if_pos hlt,fc];constructor
  ·rintro⟨p,hp,hx⟩;obtain⟨j,hj⟩:=bI.mp hp;obtain⟨_,rfl⟩:=uh hj;have:=xcg hx;exact⟨hne,by omega,by omega⟩
  ·rintro⟨_,h1,h2⟩;have hd:0<(st - to).toNat:=by omega
   generalize (st - to).toNat=d at hd;have hm:=iI (x - to).toNat d;have hr:=Nat.mod_lt (x - to).toNat hd;have ec:(x - to).toNat / d*d=d*((x - to).toNat / d):=il _ _;refine⟨_,xjA (xnN hd (show(x - to).toNat<c.toNat by omega)),?_⟩;unfold uch;rw[yp];omega
 ·rw[if_neg hlt,fc];constructor
  ·rintro⟨p,hp,hx⟩;obtain⟨j,hj⟩:=bI.mp hp;obtain⟨_,rfl⟩:=uh hj;have:=jP hx;exact⟨hne,by omega,by omega⟩
  ·rintro⟨_,h1,h2⟩;have hd:0<(to - st).toNat:=by omega
   generalize (to - st).toNat=d at hd;have hm:=iI (to+c - 1 - x).toNat d;have hr:=Nat.mod_lt (to+c - 1 - x).toNat hd;have ec:(to+c - 1 - x).toNat / d*d=d*((to+c - 1 - x).toNat / d):=il _ _;have ed:((to+c - 1 - x).toNat / d+1)*d=(to+c - 1 - x).toNat / d*d+d:=eS _ _;refine⟨_,xjA (xnN hd (show(to+c - 1 - x).toNat<c.toNat by omega)),?_⟩;unfold dch;rw[yp];omega
theorem xij{to st c:Int}{p:List Int}(hp:p∈ya to st c):p.length≤(st - to).natAbs:=by
 unfold ya at hp
 split at hp
 ·simp at hp
 split at hp
 all_goals
  obtain⟨j,hj⟩:=bI.mp hp;obtain⟨_,rfl⟩:=uh hj
  first|unfold uch|unfold dch
  rw[xd2];lia
theorem xnk{old new:Int}{L:Nat}{r:xf}{c:List Int}(hk:r.ok)(hs:Sm r)(hf:xex old new r)(h1:old≤L)(h2:new≤L)(hc:c∈zH r):zr L (r,c):=by
 cases r with
 |take to st n=>
  obtain⟨k1,k2,k3⟩:=hk;obtain⟨s1,s2,s3⟩:=hs;obtain⟨f1,f2⟩:=hf;have hc:c∈ya to st n:=hc;have hl:=xij hc;refine⟨⟨k1,k2,k3⟩,by show c.length≤300;lia,fun d hd=>?_⟩;have hm:=(xfj k3).mp (fc.mpr ⟨c,hc,hd⟩);exact⟨by lia,by lia,by lia,by lia⟩
 |put to sg=>
  have hk':=hk;obtain⟨k1,k2,k3,k4⟩:=hk;have s2:sg.length≤60:=hs.2;have f1:to+sg.length≤new:=hf;have hc:c∈[yD to sg.length]:=hc;rw[aE.mp hc];refine⟨hk',by show(yD to sg.length).length≤300;rw[xd2];lia,fun d hd=>?_⟩;have hm:=yp.mp hd;exact⟨by lia,by lia,by lia,by lia⟩
theorem xpR{H:Hp}{us:List Addr}{rs:List xf}{old new:Int}{L:Nat}(hp:Paired (GT K H) us rs)(hf:∀r∈rs,xex old new r)(h1:old≤L)(h2:new≤L):∀x∈xO rs,zr L x:=by
 intro x hx;unfold xO at hx;obtain⟨r,hr,hx⟩:=gm.mp hx;obtain⟨c,hc,rfl⟩:=a7.mp hx;obtain⟨u,_,hg⟩:=Paired.mem2 hp hr;exact xnk hg.2.1 hg.2.2 (hf r hr) h1 h2 hc
theorem xmf{C cur:List Int}{r:xf}{D:List Int}{d:Int}(h:Part C r D cur)(hc:xbG r C.length d)(hs:∀to st c,r= .take to st c→st+d - to∉D):Part C r (D++[d]) (zF r cur d):=by
 obtain⟨hl,hv⟩:=h;obtain⟨h0,h1,h2⟩:=hc;have key:∀v:Int,xkG C r d=some v→zF r cur d=cur.set d.toNat v→Part C r (D++[d]) (zF r cur d):=fun v e1 e2=>by
  rw[e2];refine⟨by rw[cL];exact hl,fun j hj=>?_⟩;rw[List.getElem?_set]
  by_cases e:d.toNat=j
  ·have ej:(j:Int)=d:=by lia
   rw[if_pos e,if_pos (by lia),if_pos (aO _ (by simp[ej])),ej,e1]
  ·rw[if_neg e,hv j hj]
   by_cases hm:(j:Int)∈D
   ·rw[if_pos hm,if_pos (bf _ hm)]
   ·rw[if_neg hm,if_neg];intro z;rcases aY.mp z with z|z
    ·exact hm z
    ·have:=aE.mp z;lia
 cases r with
 |take to st c=>
  obtain⟨h3,h4⟩:=h2;have hlt:(st+d - to).toNat<C.length:=by lia
  have e:=hv (st+d - to).toNat hlt;rw[bL h3,if_neg (hs to st c rfl),aj hlt]at e;refine key C[(st+d - to).toNat] (aj hlt) ?_;show cur.set d.toNat (cur.getD (st+d - to).toNat 0)=_;rw[cc,e];rfl
 |put to sg=>
  obtain⟨h3,h4⟩:=h2;have hlt:(d - to).toNat<sg.length:=by lia
  refine key sg[(d - to).toNat] (aj hlt) ?_;show cur.set d.toNat (sg.getD (d - to).toNat 0)=_;rw[cc,aj hlt];rfl
theorem xdk{C:List Int}{r:xf}:∀(ds:List Int) {D cur:List Int},Part C r D cur→(∀d∈ds,xbG r C.length d)→(∀(i:Nat) (d:Int),ds[i]? =some d→∀to st c,r= .take to st c→st+d - to∉D++ds.take i)→Part C r (D++ds) (doP r cur ds)
 |[],D,cur,h,_,_=>by rw[dI];exact h
 |d::ds,D,cur,h,hc,ho=>by
  have h1:=xmf h (hc d aS) fun to st c e=>by
   have:=ho 0 d rfl to st c e;simpa using this
  have h2:=xdk ds h1 (fun x hx=>hc x (aD _ hx)) fun i x hx to st c e=>by
   have:=ho (i+1) x hx to st c e;simpa using this
  rw[cJ]at h2;exact h2
theorem xjB:∀{xss:List (List Int)} {i:Nat} {d:Int},xss.flatten[i]? =some d→∃(k m:Nat) (p:List Int),xss[k]? =some p∧p[m]? =some d∧xss.flatten.take i=(xss.take k).flatten++p.take m
 |[],i,d,h=>by simp at h
 |p::xss,i,d,h=>by
  rw[du]at h⊢
  by_cases hi:i<p.length
  ·rw[bj hi]at h;exact⟨0,i,p,rfl,h,by rw[List.take_append_of_le_length (bS hi)];rfl⟩
  ·rw[bE (by lia)]at h;obtain⟨k,m,q,h1,h2,h3⟩:=xjB h;refine⟨k+1,m,q,h1,h2,?_⟩;rw[List.take_append,h3,bh (by lia),gK,du,cJ]
theorem xjC(r:xf):∀(cs:List (List Int)) (C:List Int),doL C (cs.map fun c=>(r,c))=doP r C cs.flatten
 |[],_=>rfl
 |c::cs,C=>by
  rw[du];show doL (doP r C c) (cs.map fun c=>(r,c))=(c++cs.flatten).foldl (zF r) C;rw[eO,xjC r cs];rfl
theorem xkO(C:List Int)(xs ys:List (xf×List Int)):doL C (xs++ys)=doL (doL C xs) ys:=by
 unfold doL;rw[eO]
theorem xmg(r:xf):zH r=pcs r:=by cases r<;> rfl
theorem xnl{C:List Int}{r:xf}(hk:r.ok)(hc:∀c∈zH r,zr C.length (r,c)):Part C r (pcs r).flatten (doL C ((zH r).map fun c=>(r,c))):=by
 rw[xjC,xmg];have:=xdk (C:=C) (r:=r) (pcs r).flatten (D:=[]) (cur:=C) ⟨rfl,fun j hj=>by simp⟩ (fun d hd=>by
  obtain⟨p,hp,hd⟩:=fc.mp hd;exact(hc p (by rw[xmg];exact hp)).2.2 d hd) fun i d hd to st c e=>by
   subst e;obtain⟨k,m,p,h1,h2,h3⟩:=xjB hd;rw[fC,h3];intro z;exact xkN hk.2.2 h1 h2 z rfl
 rw[fC]at this;exact this
theorem xnm{rs:List xf}{j:Nat}{r:xf}(h:rs[j]? =some r):xO (rs.take (j+1))=xO (rs.take j)++(zH r).map fun c=>(r,c):=by
 unfold xO;rw[cb,h,gJ];simp
theorem xpS{rs:List xf}{C0:List Int}(hk:∀r∈rs,r.ok)(hc:∀x∈xO rs,zr C0.length x):xnM rs C0 (fun k=>doL C0 (xO (rs.take k))) rs.length:=by
 refine⟨rfl,fun j=>yN _ _,fun j r _ hr=>?_⟩;show Part (doL C0 (xO (rs.take j))) r _ (doL C0 (xO (rs.take (j+1))));rw[xnm hr,xkO];have hm:=aB hr;refine xnl (hk r hm) fun c h=>?_;rw[yN];exact hc (r,c) (gm.mpr ⟨r,hm,a7.mpr ⟨c,h,rfl⟩⟩)
def zt(notes:List (Option Int))(m:Nat):Prop:=notes.length=2∧notes[m%2]? =some (some (m:Int))∧∀x:Int,some x∈notes→x≤m
theorem zt.max{notes:List (Option Int)}{m:Nat}(h:zt notes m):xaZ notes m:=by
 have hm:(m:Int)∈notes.filterMap id:=fH.mpr ⟨some (m:Int),aB h.2.1,rfl⟩;refine⟨(fun z=>by rw[z]at hm;cases hm),fun _=>⟨hm,fun x hx=>?_⟩⟩;obtain⟨y,hy,hyx⟩:=fH.mp hx;have hyx:y=some x:=hyx;subst hyx;exact h.2.2 x hy
theorem xmh(m:Nat):(((m:Int)+1)%2).toNat=(m+1)%2:=by lia
theorem zt.mark{notes:List (Option Int)}{m:Nat}(h:zt notes m):zt (notes.set (((m:Int)+1)%2).toNat (some ((m:Int)+1))) (m+1):=by
 obtain⟨h1,h2,h3⟩:=h;rw[xmh];refine⟨by rw[cL];exact h1,by rw[eI (by lia)];rfl,fun x hx=>?_⟩;rcases g8 hx with z|z
 ·have:=h3 x z;lia
 ·have:=bp z;lia
theorem zt.torn{notes:List (Option Int)}{m:Nat}(h:zt notes m):zt (notes.set (((m:Int)+1)%2).toNat none) m:=by
 obtain⟨h1,h2,h3⟩:=h;rw[xmh];refine⟨by rw[cL];exact h1,by rw[cY (by lia)];exact h2,fun x hx=>?_⟩;rcases g8 hx with z|z
 ·exact h3 x z
 ·cases z
def Apart(x:xf×List Int):Prop:=∀d∈x.2,∀to st c,x.1= .take to st c→st+d - to∉x.2
theorem xmi{rs:List xf}:∀x∈xO rs,Apart x:=by
 intro x hx d hd to st c e hs;unfold xO at hx;obtain⟨r,hr,hx⟩:=gm.mp hx;obtain⟨p,hp,rfl⟩:=a7.mp hx;have e:r= .take to st c:=e;subst e;have hd:d∈p:=hd;have hs:st+d - to∈p:=hs;have hp:p∈ya to st c:=hp;unfold ya at hp
 split at hp
 ·cases hp
 rename_i hne;obtain⟨j,hj⟩:=bI.mp hp
 split at hj
 ·obtain⟨_,rfl⟩:=uh hj;have h1:=xcg hd;have h2:=xcg hs;omega
 ·obtain⟨_,rfl⟩:=uh hj;have h1:=jP hd;have h2:=jP hs;have e1:(j+1)*(to - st).toNat=j*(to - st).toNat+(to - st).toNat:=eS _ _;omega
theorem xfk{A:List Int}{x:xf×List Int}(hp:zr A.length x)(ha:Apart x):Part A x.1 x.2 (doP x.1 A x.2):=by
 have:=xdk (C:=A) (r:=x.1) x.2 (D:=[]) (cur:=A) ⟨rfl,fun j hj=>by simp⟩ hp.2.2 fun i d hd to st c e z=>by
  rw[fC]at z;exact ha d (aB hd) to st c e (c5 z)
 rw[fC]at this;exact this
theorem xi7{D cells:List Int}{x:xf×List Int}(h:yT x.2 D cells)(hp:zr D.length x)(ha:Apart x):doP x.1 cells x.2=doP x.1 D x.2:=by
 have h1:=xfk hp ha;have h2:=xfk (A:=cells) (x:=x) (by rw[h.1];exact hp) ha;apply dv;intro j
 by_cases hj:j<D.length
 ·rw[h1.2 j hj,h2.2 j (by rw[h.1];exact hj)]
  by_cases hm:(j:Int)∈x.2
  ·rw[if_pos hm,if_pos hm];obtain⟨r,cs⟩:=x;cases r with
   |put to sg=>rfl
   |take to st c=>
    obtain⟨_,_,c1,c2⟩:=hp.2.2 j hm;show cells[(st+(j:Int) - to).toNat]? =D[(st+(j:Int) - to).toNat]?;refine h.2 _ (by lia) ?_;rw[bL c1];exact ha j hm to st c rfl
  ·rw[if_neg hm,if_neg hm];exact h.2 j hj hm
 ·rw[b9 (by rw[h2.1,h.1];lia),b9 (by rw[h1.1];lia)]
def yF(X:List (xf×List Int))(m:Nat)(C0 cells:List Int):Prop:=cells.length=C0.length∧∀j:Nat,j<C0.length→(∀x,X[m]? =some x→(j:Int)∉x.2)→cells[j]? =(doL C0 (X.take m))[j]?
theorem yF.near{X:List (xf×List Int)}{m:Nat}{C0 cells:List Int}{x:xf×List Int}(h:yF X m C0 cells)(hx:X[m]? =some x):yT x.2 (doL C0 (X.take m)) cells:=
 ⟨by rw[h.1,yN],fun j hj hn=>h.2 j (by rw[yN]at hj;exact hj) fun y hy=>by rw[hx]at hy;cases hy;exact hn⟩
theorem yF.of{X:List (xf×List Int)}{m:Nat}{C0 cells:List Int}{x:xf×List Int}(h:yT x.2 (doL C0 (X.take m)) cells)(hx:X[m]? =some x):yF X m C0 cells:=
 ⟨by rw[h.1,yN],fun j hj hn=>h.2 j (by rw[yN];exact hj) (hn x hx)⟩
theorem yF.refl(X:List (xf×List Int))(m:Nat)(C0:List Int):yF X m C0 (doL C0 (X.take m)):=⟨yN _ _,fun _ _ _=>rfl⟩
theorem yF.all{X:List (xf×List Int)}{C0 cells:List Int}(h:yF X X.length C0 cells):cells=doL C0 X:=by
 have e:X.take X.length=X:=cq;apply dv;intro j
 by_cases hj:j<C0.length
 ·rw[h.2 j hj fun x hx=>by simp at hx,e]
 ·rw[b9 (by rw[h.1];lia),b9 (by rw[yN];lia)]
theorem yF.next{X:List (xf×List Int)}{m:Nat}{C0 cells:List Int}{x:xf×List Int}(h:yF X m C0 cells)(hx:X[m]? =some x)(hp:zr C0.length x)(ha:Apart x):doP x.1 cells x.2=doL C0 (X.take (m+1)):=by
 rw[xii hx];exact xi7 (h.near hx) (by rw[yN];exact hp) ha
theorem yF.back{X:List (xf×List Int)}{m:Nat}{C0:List Int}{x:xf×List Int}(hx:X[m]? =some x)(hp:zr C0.length x):yF X m C0 (doL C0 (X.take (m+1))):=by
 rw[xii hx];exact yF.of (yT.doP (yT.refl _ _) fun d hd=>⟨hd,(hp.2.2 d hd).1⟩) hx
def xnn(K:ah)(a:Adr):Sp:=fun vs H Q E=>∃(F:FA) (p tt:Addr) (o n:Int) (us:List Addr) (rs:List xf) (cells C0:List Int) (notes:List (Option Int)) (k m:Nat),vs=[.ref F.S.st,.ref p]∧Bs K F∧StF a H F cells notes k∧k≤30∧H p=some (.tup [.int o,.int n,.ref tt])∧H tt=some (.tup (us.map V.ref))∧Paired (GT K H) us rs∧us.length≤58∧max o n≤C0.length∧(∀x∈xO rs,zr C0.length x)∧zt notes m∧m≤(xO rs).length∧m≤10000∧yF (xO rs) m C0 cells∧
 (∀v H' notes',Kp (SF F) H H'→StF a H' F (doL C0 (xO rs)) notes' k→zt notes' (xO rs).length→Q v H')∧xf9 a H F k E fun cells' notes'=>∃m',zt notes' m'∧m'≤(xO rs).length∧yF (xO rs) m' C0 cells'
theorem xno(T:Txt K mg a):xy P w K mg base (CXE P w) 8 a.q2I a.xfV ["store","paper"] (xnn K a):=by
 refine T.q2N.okX xh3 (fun vs H Q E h=>?_) (fun cdv A outer s H vs Q E hr h=>?_)
 ·obtain⟨F,p,tt,o,n,us,rs,cells,C0,notes,k,m,rfl,_⟩:=h;rfl
 ·obtain⟨F,p,tt,o,n,us,rs,cells,C0,notes,k,m,rfl,B,hF,hk,hp,ht,hus,hul,hle,hok,hno,hm,hm4,hnr,k1,k2⟩:=h;have nd:=xh3.nd;refine⟨_,(xg (xt (i:=2) nd rfl (aM rfl) (xq xx (by rfl) T.q0k xM (xa (xF xJ (yb (cv 0) T.q0e T.q2u (xcw T) (hr.mono (by decide)) T.xc6 .nil xp) xm (fun _ _=>rfl)) xc)))
  (xg (xH (xw (xdN T) (hr.mono (by decide)) (by rfl) T.xes T.q0H.kp T.xer .nil xp (xa (cv 2) (xa (cv 1) xc))))
  (xg (xt (i:=3) nd rfl (aM rfl) (xw (xih T) (hr.mono (by decide)) (by rfl) T.xiW T.q1N.kp T.xiV .nil xp (xa (cv 1) xc)))
  (xg (xt (i:=4) nd rfl (aM rfl) (yb (cv 0) T.q0e T.q2s (xbE T) (hr.mono (by decide)) T.xcl .nil xp))
  (xg (xt (i:=5) nd rfl (aM rfl) (yA yL (cv 3) (yj (cv 4)) ub))
  (xg (xH (xw (xez T) (hr.mono (by decide)) (by rfl) T.xeZ T.q0S.kp T.xeY .nil xp (xa (cv 2) (xa (cv 5) xc))))
  (xg (uy (PassesOwn.xe ⟨rfl,rfl,rfl⟩) rfl (xmZ (by rfl) T.q20 (xa (cv 5) xc) (cv 4)) (xho rfl (vF (yz (i:=6) nd rfl (aM rfl)) (vF (yz (i:=7) nd rfl (aM rfl)) xfC))) (xg (xH (xhL ⟨rfl,rfl,rfl⟩ (xi6 T) (hr.mono (by decide)) (by rfl) T.xkt T.vy.kp T.xks .nil (xa (cv 0) (xa (xw (xa1 T) (hr.mono (by decide)) (by rfl) T.xb7 T.q1K.kp T.xb6 .nil xp (xa (xF xJ (cv 7) xm (fun _ _=>rfl)) xc)) (xa (xF xJ (cv 7) xm (fun _ _=>rfl)) xc)))))
  (xl (xH (uK ⟨rfl,rfl,rfl⟩ (cv 0) T.q0e T.q25 (xg7 T) (hr.mono (by decide)) T.xh1 .nil (xa (xr xY (cv 6) xm) xc))))))
  (xl (xu (xq xx (by rfl) T.q0k xM (xa (cv 5) xc))))))))))),?_⟩
  obtain⟨cnt,_,hS⟩:=hF.st;have hcl:cells.length=C0.length:=hnr.1;walk_at"w";refine⟨F.S.st,F.S.dx,_,rfl,hS.st,rfl,?_⟩;walk_at"w";refine⟨F.S,cells,notes,cnt,.ref F.f,rfl,hS,fun t c m' H1 s1 hc hm' ncm et ec em=>?_⟩;walk_at"w";refine⟨t,_,_,.ref c,rfl,rfl,SqT.of et,rfl,?_⟩;walk_at"w";refine⟨c,_,rfl,.inl (SqL.of ec),?_⟩;walk_at"w";refine⟨_,o,n,p,_,rfl,s1.at hp,by rw[af,hcl];exact hle,?_⟩;have hF1:=hF.same s1;have hS1:=hS.same s1;walk_at"w";refine⟨p,tt,.int o,.int n,us,rs,rfl,s1.at hp,s1.at ht,L2.Paired.imp' (fun _ _ z=>z.same s1) hus,hul,fun l ws H2 s2 hl el hws=>?_⟩;have hS2:=hS1.same s2;walk_at"w";refine⟨F.S.st,F.S.dx,_,rfl,hS2.st,rfl,?_⟩;walk_at"w";refine⟨F.S,cells,notes,cnt,.ref F.f,rfl,hS2,hno.1,fun m2 H3 s3 hmx'=>?_⟩;obtain rfl:=xaZ.uniq hmx' hno.max;have hS3:=hS2.same s3;walk_at"w";refine⟨(m:Int),rfl,?_⟩;walk_at"w";refine⟨l,_,rfl,SqL.of (s3.at el),?_⟩;intro lf hlf;generalize hUlf:upd H3 lf _=H4;have sH4:=xb.of_eq hlf hUlf;have elf:=xn hUlf;clear hUlf;walk_at"w";rw[xmd,←ke]at elf;have hws4:Paired (yM K H1 l H4) (ws.drop m) ((xO rs).drop m):=xd5 m (L2.Paired.imp' (fun _ _ z=>(z.same s3).same sH4) hws);obtain⟨X,hX⟩:∃X,X=xO rs:=⟨_,rfl⟩;rw[←hX]at hws4 k1 k2 hm hnr hok;have hap:∀x∈X,Apart x:=by rw[hX];exact xmi
  have hwl:(ws.drop m).length=X.length - m:=by rw[hws4.length,aX]
  refine⟨_,H1,lf,l,ws.drop m,X.drop m,rfl,elf,hws4,fun x hx=>⟨(hok x (c6 hx)).1,(hok x (c6 hx)).2.1,by rw[af,hcl];exact xme (hok x (c6 hx)).2.2⟩,fun H5 s5=>?_⟩;have s15:xb H1 H5:=s2.trans (s3.trans (sH4.trans s5));have hF5:=hF1.same s15;have s05:xb H H5:=s1.trans s15;have nlf:lf∉SF F:=(hF1.same (s2.trans s3)).nin hlf;walk_at"w";refine⟨lf,m,rfl,rfl,by lia,⟨_,SqL.of (s5.at elf)⟩,?_⟩;refine xiP (xs:=(ws.drop m).map V.ref) (fun i σ G=>Kp (SF F) H5 G∧(∃cells' notes',StF a G F cells' notes' k∧zt notes' (m+i)∧yF X (m+i) C0 cells')∧∃(x6 x7:Option V),σ=[some (.ref F.S.st),some (.ref p),some (.int ((cells.map V.int).length:Nat)),some (.ref l),some (.int m),some (.ref lf),x6,x7])
   ⟨Kp.of (xb.refl _),⟨cells,notes,hF5,hno,hnr⟩,_,_,rfl⟩ (fun i σ G hi hP=>SqL.of (hP.1 _ _ (s5.at elf) nlf)) (fun i x σ G Tt hx hP hTt=>?_) (fun σ G hP=>?_)
  ·obtain⟨kp,⟨cells',notes',hFG,hnoG,hnrG⟩,x6,x7,rfl⟩:=hP;rw[aF]at hx;obtain⟨u,hu,rfl⟩:=bD.mp hx;obtain⟨⟨r,cs⟩,hr',t',c',⟨nc1,nc2⟩,h1,h2,h3⟩:=Paired.nth hws4 hu;rw[ck]at hr';have hpo:=hok _ (aB hr');obtain⟨hk',hcl',hcells⟩:=hpo;have hapx:=hap _ (aB hr');have kG:∀b u,H5 b=some u→¬jB u→G b=some u:=fun b u e mm=>kp b u e (hF5.noMu e mm);have ncS:c'∉SF F:=hF1.nin nc2;have hcG:G c'=some (.lst (cs.map V.int)):=kp _ _ (s5.at h3) ncS;have huG:=kG _ _ (s5.at h1) (fun z=>z);have htG:TupAt K G t' r:=TupAt.kpS (h2.same s5) kG;have back:∀{G':Hp},Kp (SF F) G G'→Kp (SF F) H G':=fun{G'} z b u e nb=>z b u (kp b u (s05 b u e) nb) nb;generalize hU:upd G Tt _=G1;have sT:=xb.of_eq hTt hU;have eT:=xn hU;clear hU;walk_at"w";refine⟨Tt,_,rfl,SqT.of eT,rfl,?_⟩;walk_at"w";refine⟨_,_,rfl,?_⟩;walk_at"w";refine⟨_,_,rfl,?_⟩;walk_at"w";refine dF rfl ?_;walk_at"w";refine⟨u,_,_,.ref t',rfl,rfl,SqT.of (sT.at huG),rfl,?_⟩;walk_at"w";refine⟨t',r,rfl,htG.same sT,hk',fun ob G2 s2' hob hO=>?_⟩;walk_at"w";refine⟨u,_,_,.ref c',rfl,rfl,SqT.of (s2'.at (sT.at huG)),rfl,?_⟩;walk_at"w";have sT2:=sT.trans s2';have kT2:Kp (SF F) H G2:=back (Kp.of sT2);refine⟨F,ob,c',r,cs,cells',notes',k,rfl,B,hFG.same sT2,hk,hO,(hFG.same sT).nin hob,sT2.at hcG,ncS,(fun d hd=>by rw[hnrG.1];exact hcells d hd),fun G3 kp3 hF3=>?_,fun hk2 nn dd G3 cells2 notes2 kp3 hF3 hh hd3=>?_⟩
   ·rw[hnrG.next hr' ⟨hk',hcl',hcells⟩ hapx]at hF3;obtain⟨n3,_,hS3'⟩:=hF3.st;walk_at"w";refine⟨F.S.st,F.S.dx,_,rfl,hS3'.st,rfl,?_⟩;walk_at"w";have em:(m:Int)+(i:Int)=((m+i:Nat):Int):=by lia
    refine⟨F,_,notes',_,k,rfl,B,hF3,hk,hnoG.1,fun G4 kp4 hF4=>?_,fun hk2 nn dd G4 cells2 notes2 kp4 hF4 hh hd4=>?_⟩
    ·walk_at"w";refine⟨((kp.same sT2).trans kp3).trans kp4,⟨_,_,hF4,?_,yF.refl X (m+i+1) C0⟩,_,_,rfl⟩;exact hnoG.mark
    ·obtain⟨rfl,hh⟩:=hh;refine k2 hk2 nn dd G4 _ notes2 ((kT2.trans kp3).trans kp4) hF4 ⟨m+i,?_,?_,yF.back hr' ⟨hk',hcl',hcells⟩⟩ hd4
     ·rcases hh with rfl|rfl
      ·exact hnoG
      ·exact hnoG.torn
     ·have:=(aH.mp hr').1;lia
   ·obtain⟨rfl,hh⟩:=hh;refine k2 hk2 nn dd G3 cells2 _ (kT2.trans kp3) hF3 ⟨m+i,hnoG,?_,?_⟩ hd3
    ·have:=(aH.mp hr').1;lia
    ·have hn0:=hnrG.near hr';refine yF.of (x:=(r,cs)) ⟨by rw[hh.1];exact hn0.1,fun j hj hn=>?_⟩ hr';rw[hh.2 j (by rw[hn0.1];exact hj) hn];exact hn0.2 j hj hn
  ·obtain⟨kp,⟨cells',notes',hFG,hnoG,hnrG⟩,x6,x7,rfl⟩:=hP;rw[af,hwl,show m+(X.length - m)=X.length by lia]at hnoG hnrG;walk_at"w";refine⟨lf,_,rfl,.inl (SqL.of (kp _ _ (s5.at elf) nlf)),?_⟩;walk_at"w";rw[hnrG.all]at hFG;exact k1 _ G notes' (fun b u e n=>kp b u (s05 b u e) n) hFG hnoG
theorem xmj{r:xf}{c:Int}:c∈r.cv↔r.to≤c∧c<r.to+r.cnt:=by
 cases r with
 |take to st n=>exact yp
 |put to sg=>exact yp
theorem xfl{r:xf}{c:Int}(h:c∈r.wrs):c∈r.cv:=by
 cases r with
 |take to st n=>
  simp only[xf.wrs]at h
  split at h
  ·cases h
  ·exact h
 |put to sg=>exact h
def Dis(rs:List xf):Prop:=∀(i j:Nat) (r s:xf),rs[i]? =some r→rs[j]? =some s→∀c,c∈r.cv→c∈s.cv→i=j
def Wr(wr:List Int)(rs:List xf)(k:Nat)(x:Int):Prop:=x∈wr∨∃j r,j<k∧rs[j]? =some r∧x∈r.wrs
theorem Wr.step{wr:List Int}{r:xf}{rs:List xf}{k:Nat}{x:Int}:Wr wr (r::rs) (k+1) x↔Wr (wr++r.wrs) rs k x:=by
 unfold Wr;constructor
 ·rintro(h|⟨j,s,h1,h2,h3⟩)
  ·exact .inl (bf _ h)
  ·cases j with
   |zero=>cases h2;exact .inl (aO _ h3)
   |succ j=>exact .inr ⟨j,s,by lia,h2,h3⟩
 ·rintro(h|⟨j,s,h1,h2,h3⟩)
  ·rcases aY.mp h with h|h
   ·exact .inl h
   ·exact .inr ⟨0,r,by lia,rfl,h⟩
  ·exact .inr ⟨j+1,s,by lia,h2,h3⟩
theorem Wr.zero{wr:List Int}{rs:List xf}{x:Int}:Wr wr rs 0 x↔x∈wr:=⟨fun h=>h.elim id fun⟨_,_,z,_⟩=>absurd z (cP _),.inl⟩
theorem xfm:∀{rs:List xf} {n:Nat} {wr:List Int},xdG n rs wr=none→∀k r,rs[k]? =some r→∀x∈r.rds,¬Wr wr rs k x
 |[],_,_,_,_,_,h,_,_=>by simp at h
 |r0::rs,n,wr,h,k,r,hr,x,hx=>by
  simp only[xdG]at h
  split at h
  ·cases h
  ·rename_i hf;cases k with
   |zero=>
    cases hr;rw[Wr.zero];simpa using gR.mp hf x hx
   |succ k=>
    rw[Wr.step];exact xfm h k r hr x hx
theorem xgi{r:xf}(ok:r.ok){x:Int}:x∈(pcs r).flatten↔x∈r.wrs:=by
 cases r with
 |take to st c=>
  obtain⟨k1,k2,k3⟩:=ok;show x∈(ya to st c).flatten↔_;rw[xfj k3];simp only[xf.wrs]
  split
  ·rename_i h;simp[h]
  ·rename_i h;rw[yp,bL (by lia)];exact⟨fun z=>z.2,fun z=>⟨h,z⟩⟩
 |put to sg=>simp[pcs,xf.wrs]
structure vA(es C0:List Int)(rs:List xf)(Cs:Nat→List Int):Prop where
 z:∃z,C0=es++z
 run:xnM rs C0 Cs rs.length
 good:∀r∈rs,Good es.length r∧r.to+r.cnt≤C0.length
 dis:Dis rs
theorem vA.keep{es C0:List Int}{rs:List xf}{Cs:Nat→List Int}(h:vA es C0 rs Cs){x:Nat}(hx:x<C0.length):∀{k:Nat},k≤rs.length→¬Wr [] rs k x→(Cs k)[x]? =C0[x]?
 |0,_,_=>by rw[h.run.1]
 |k+1,hk,hw=>by
  obtain⟨r,hr⟩:∃r,rs[k]? =some r:=⟨_,aj (by lia)⟩;have ok:=(h.good r (aB hr)).1.1;have h1:=(h.run.2.2 k r (by lia) hr).2 x (by rw[h.run.2.1];exact hx);rw[h1,if_neg (fun z=>hw (.inr ⟨k,r,by lia,hr,(xgi ok).mp z⟩))];refine h.keep hx (by lia) fun z=>hw ?_;rcases z with z|⟨j,s,z1,z2,z3⟩
  ·cases z
  ·exact .inr ⟨j,s,by lia,z2,z3⟩
theorem vA.wrote{es C0:List Int}{rs:List xf}{Cs:Nat→List Int}(h:vA es C0 rs Cs){x:Nat}(hx:x<C0.length){j:Nat}{r:xf}(hr:rs[j]? =some r)(hw:(x:Int)∈r.wrs):∀{k:Nat},j<k→k≤rs.length→(Cs k)[x]? =xkG (Cs j) r x
 |0,z,_=>absurd z (cP _)
 |k+1,hj,hk=>by
  obtain⟨s,hs⟩:∃r,rs[k]? =some r:=⟨_,aj (by lia)⟩;have ok:=(h.good s (aB hs)).1.1;have h1:=(h.run.2.2 k s (by lia) hs).2 x (by rw[h.run.2.1];exact hx)
  by_cases e:j=k
  ·subst e;rw[hr]at hs;cases hs;rw[h1,if_pos ((xgi ok).mpr hw)]
  ·rw[h1,if_neg (fun z=>e (h.dis j k r s hr hs x (xfl hw) (xfl ((xgi ok).mp z))))];exact h.wrote hx hr hw (by lia) (by lia)
theorem vA.told{es C0:List Int}{rs:List xf}{Cs:Nat→List Int}(h:vA es C0 rs Cs){x:Nat}{j:Nat}{r:xf}(hr:rs[j]? =some r)(hw:(x:Int)∈r.wrs)(hno:∀y∈r.rds,¬Wr [] rs j y):xkG (Cs j) r x=(r.sg es)[((x:Int) - r.to).toNat]? :=by
 obtain⟨⟨ok,_,hin⟩,hto⟩:=h.good r (aB hr);obtain⟨z,hz⟩:=h.z;have hj:j<rs.length:=(aH.mp hr).1;cases r with
 |put to sg=>rfl
 |take to st c=>
  obtain⟨k1,k2,k3⟩:=ok;have hin:st+c≤es.length:=hin;simp only[xf.wrs]at hw
  split at hw
  ·cases hw
  rename_i hne;have hx:=yp.mp hw;have hy:st+x - to∈xf.rds (.take to st c):=by
   simp only[xf.rds];rw[if_neg hne];exact yp.mpr (by lia)
  have e1:((st+x - to).toNat:Int)=st+x - to:=by lia
  have h1:=h.keep (x:=(st+x - to).toNat) (by rw[hz,av];lia) (bS hj) (by rw[e1];exact hno _ hy);show(Cs j)[(st+x - to).toNat]? =((es.drop st.toNat).take c.toNat)[((x:Int) - to).toNat]?;rw[h1,hz,bj (by lia),dG,if_pos (by lia),ck]
  congr 1;lia
theorem vA.fine{es C0 nw:List Int}{rs:List xf}{Cs:Nat→List Int}(h:vA es C0 rs Cs)(hl:xff rs=none)(hC:nw.length≤C0.length)(ht:∀r∈rs,Tells es nw r)(hc:∀j,j<nw.length→∃r∈rs,yq r j):(Cs rs.length).take nw.length=nw:=by
 have hno:=xfm (n:=0) (wr:=[]) hl;obtain⟨z,hz⟩:=h.z;have hzl:C0.length=es.length+z.length:=by rw[hz];simp
 apply dv;intro j;rw[dG]
 by_cases hj:j<nw.length
 ·rw[if_pos hj];obtain⟨r,hr,hcv⟩:=hc j hj;obtain⟨i,hi⟩:=bI.mp hr;have hil:i<rs.length:=(aH.mp hi).1;obtain⟨t1,t2,t3,t4⟩:=ht r hr;have hto:=t1.to;have e2:=t4 ((j:Int) - r.to).toNat (by have:=hcv.1;have:=hcv.2;lia);rw[show(r.to+(((j:Int) - r.to).toNat:Nat)).toNat=j by have:=hcv.1;lia]at e2;rw[e2]
  by_cases hw:(j:Int)∈r.wrs
  ·rw[h.wrote (by lia) hi hw hil (ak _),h.told hi hw (hno i r hi)]
  ·have hn:¬Wr [] rs rs.length (j:Int):=by
    rintro(z|⟨i',s,_,h2,h3⟩)
    ·cases z
    have:=h.dis i i' r s hi h2 j (xmj.mpr hcv) (xfl h3);subst this;rw[hi]at h2;cases h2;exact hw h3
   rw[h.keep (by lia) (ak _) hn];cases r with
   |put to sg=>exact absurd (yp.mpr hcv) hw
   |take to st c=>
    simp only[xf.wrs]at hw
    split at hw
    ·rename_i est;subst est;obtain⟨c1,c2⟩:=hcv;have c1:st≤(j:Int):=c1;have c2:(j:Int)<st+(c.toNat:Nat):=c2;have t2:st+c≤es.length:=t2;have hto:0≤st:=hto;show _=((es.drop st.toNat).take c.toNat)[((j:Int) - st).toNat]?;rw[hz,bj (by lia),dG,if_pos (by lia),ck]
     congr 1;lia
    ·exact absurd (yp.mpr hcv) hw
 ·rw[if_neg hj,b9 (by lia)]
theorem vA.rest{es C0 nw:List Int}{rs:List xf}{Cs:Nat→List Int}(h:vA es C0 rs Cs)(ht:∀r∈rs,Tells es nw r):(Cs rs.length).drop nw.length=C0.drop nw.length:=by
 apply dv;intro j;rw[ck,ck]
 by_cases hj:nw.length+j<C0.length
 ·have hn:¬Wr [] rs rs.length ((nw.length+j:Nat):Int):=by
   rintro(z|⟨i',s,_,h2,h3⟩)
   ·cases z
   have h4:=xmj.mp (xfl h3);have h5:=(ht s (aB h2)).2.2.1;lia
  rw[h.keep hj (ak _) hn]
 ·rw[b9 (by rw[h.run.2.1];lia),b9 (by lia)]
def Bnd(xs:List Int):Prop:=∀x∈xs,(x.natAbs:Int)<10^60
theorem Bnd.app{xs ys:List Int}(h:Bnd xs)(g:Bnd ys):Bnd (xs++ys):=fun x hx=>by
 rcases aY.mp hx with z|z
 ·exact h x z
 ·exact g x z
theorem Bnd.one{x:Int}(h:(x.natAbs:Int)<10^60):Bnd [x]:=fun y hy=>by rw[aE.mp hy];exact h
def xnp:Sp:=fun vs H Q _=>∃c:Int,vs=[.int c]∧∀(l:Addr) (es:List Int) (H':Hp),xb H H'→H l=none→H' l=some (.lst (es.map V.int))→es.length≤30→Bnd es→Q (.ref l) H'
theorem xnq(T:Txt K mg a):xy P w K mg base CX0 2 a.q2K a.xfX ["_law_cell"] xnp:=by
 refine T.q2P.ok xh5 (fun vs H Q E h=>?_) (fun cdv A outer s H vs Q E hr h=>?_)
 ·obtain⟨c,rfl,_⟩:=h;rfl
 ·obtain⟨c,rfl,q⟩:=h;have nd:=xh5.nd;refine⟨_,(xg (xt (i:=1) nd rfl (aM rfl) (xr yE (cv 0) xm))
  (xg (xT (xK vT (xr yE (xr uZ (cv 0) xm) xm) xm) (xl (xu (xX (yg (cap:=[0]) (ys:=["_law_cell"]) rfl rfl rfl rfl rfl ⟨⟨rfl,rfl,.inl rfl⟩,trivial⟩ (by decide+kernel)) rfl (zu (by rfl) T.q0W (xa (cv 1) xc)) (fun _ _ _ _=>(xr yE (xw (xaJ T) (hr.mono (by decide)) (by rfl) T.xbv T.q1W.kp T.xbu .nil xp (xa (cv 1) (xa (cv 0) xc))) xm)) (fun _ _ _ _=>ye)))) xN)
  (xl (xu (xX (yg (cap:=[0]) (ys:=["_law_cell"]) rfl rfl rfl rfl rfl ⟨⟨rfl,rfl,.inl rfl⟩,trivial⟩ (by decide+kernel)) rfl (zu (by rfl) T.q0W (xa (cv 1) xc)) (fun _ _ _ _=>(xr xdy (xw (xaJ T) (hr.mono (by decide)) (by rfl) T.xbv T.q1W.kp T.xbu .nil xp (xa (cv 1) (xa (cv 0) xc))) (xr xhf xm xm))) (fun _ _ _ _=>ye)))))),?_⟩
  have n0:=bW c (show(31:Int)≠0 by decide);have n1:=bU c (show(0:Int)<31 by decide);have er:yv 0 (c%31) 1=(c%31).toNat:=by rw[zQ];lia
  walk_at"w";walk_at"ss";refine⟨fun e1=>?_,fun e1=>?_⟩
  ·walk_at"w";rw[er];refine xaP (fun i acc _=>∃sg:List Int,acc=sg.map V.int∧sg.length=i∧Bnd sg) (by rw[ax];lia) ⟨[],rfl,rfl,fun _ z=>by cases z⟩ (fun i acc H3 H3' hi s3 s3' hP R hR=>?_) (fun D acc H3 H3' hD hD3 s3 s3' hP hl hv=>?_)
   ·obtain⟨sg,rfl,hsl,hb⟩:=hP;walk_at"w";refine⟨_,_,rfl,?_⟩;generalize mixed _ _=mx;have z0:=bW mx (show(3:Int)≠0 by decide);have z1:=bU mx (show(0:Int)<3 by decide);walk_at"w";walk_at"ss";exact hR _ _ (xb.refl _) fun H6 _ _=>⟨sg++[mx%3],by simp,by simp[hsl],hb.app (Bnd.one (Int.lt_trans (show((mx%3).natAbs:Int)<3 by lia) (by decide)))⟩
   ·obtain⟨sg,rfl,hsl,hb⟩:=hP;exact q D sg H3' (s3.trans s3') hD hv (by lia) hb
  ·walk_at"w";rw[er];refine xaP (fun i acc _=>∃sg:List Int,acc=sg.map V.int∧sg.length=i∧Bnd sg) (by rw[ax];lia) ⟨[],rfl,rfl,fun _ z=>by cases z⟩ (fun i acc H3 H3' hi s3 s3' hP R hR=>?_) (fun D acc H3 H3' hD hD3 s3 s3' hP hl hv=>?_)
   ·obtain⟨sg,rfl,hsl,hb⟩:=hP;walk_at"w";refine⟨_,_,rfl,?_⟩;have mb:=xdi c (0+(i:Int)*1);generalize mixed _ _=mx at mb;walk_at"w";walk_at"ss";refine hR _ _ (xb.refl _) fun H6 _ _=>⟨sg++[mx*10^Int.toNat 40],by simp,by simp[hsl],hb.app (Bnd.one ?_)⟩;have e40:(10:Int)^Int.toNat 40=10^40:=rfl;have h1:((mx*10^Int.toNat 40).natAbs:Int)=mx*10^40:=by
     rw[e40,Int.natAbs_of_nonneg (Int.mul_nonneg mb.1 (by decide))]
    rw[h1];have h2:mx*10^40≤2147483647*10^40:=Int.mul_le_mul_of_nonneg_right (by lia) (by decide);exact Int.lt_of_le_of_lt h2 (by decide)
   ·obtain⟨sg,rfl,hsl,hb⟩:=hP;exact q D sg H3' (s3.trans s3') hD hv (by lia) hb
theorem xfn(sg:List Int){n:Int}(h:0≤n):zx (sg.map V.int) none (some n)=(sg.take n.toNat).map V.int:=by
 rw[zw,yY h,HT.uI];simp[←List.take_eq_take_min]
theorem xgj(sg:List Int){m n:Int}(hm:0≤m)(h:m≤n):∃ys:List Int,zx (sg.map V.int) (some m) (some n)=ys.map V.int∧(ys.length:Int)≤n - m∧∀x∈ys,x∈sg:=by
 rw[zw,yY hm,yY (by omega)];refine⟨_,rfl,?_,fun x hx=>c6 (c5 hx)⟩;rw[bM,aX];omega
def xnr:Sp:=fun vs H Q _=>∃(e:Addr) (es:List Int) (c:Int),vs=[.ref e,.int c]∧H e=some (.lst (es.map V.int))∧Bnd es∧es.length≤1000∧∀(l:Addr) (nw:List Int) (H':Hp),xb H H'→H l=none→H' l=some (.lst (nw.map V.int))→nw.length≤40→Bnd nw→Q (.ref l) H'
theorem xik(T:Txt K mg a):xy P w K mg base CX0 2 a.q2L a.xfY ["_law_elder_here","_law_cell"] xnr:=by
 refine T.q2A.ok xh6 (fun vs H Q E h=>?_) (fun cdv A outer s H vs Q E hr h=>?_)
 ·obtain⟨e,es,c,rfl,_⟩:=h;rfl
 ·obtain⟨e,es,c,rfl,he,hb,hes,q⟩:=h;have nd:=xh6.nd;refine⟨_,(xg (xt (i:=2) nd rfl (aM rfl) (yi xc))
  (xg (uy PassesOwn.never rfl (zu (by rfl) T.q0W (xa (xr yE (xw (xaJ T) (hr.mono (by decide)) (by rfl) T.xbv T.q1W.kp T.xbu .nil xp (xa (cv 1) (xa xm xc))) xm) xc)) (yz (i:=3) nd rfl (aM rfl)) (xg (xt (i:=4) nd rfl (dk rfl) (xw (xaJ T) (hr.mono (by decide)) (by rfl) T.xbv T.q1W.kp T.xbu .nil xp (xa (cv 1) (xa (xr xY xm (cv 3)) xc))))
  (xg (xeN (xT (xK (xnI hr.units) (cv 0) (yi xc)) (xg (xt (i:=5) nd rfl (aM rfl) (xr yE (xr uZ (cv 4) xm) (xq xx (by rfl) T.q0k xM (xa (cv 0) xc))))
  (xl (xt (i:=2) nd rfl (aM rfl) (xr xbp (cv 2) (yA yL (cv 0) (yj (cv 5)) (yj (xr xY (xr xY (cv 5) xm) (xr yE (xr uZ (cv 4) xm) xm)))))))) xN))
  (xl (xT (xK vT (xr yE (cv 4) xm) xm) (xl (xt (i:=2) nd rfl (aM rfl) (xr xbp (cv 2) (xX (yg (cap:=[4]) (ys:=["_law_draw"]) rfl rfl rfl rfl rfl ⟨⟨rfl,rfl,.inl rfl⟩,trivial⟩ (by decide+kernel)) rfl (zu (by rfl) T.q0W (xa (xr yE (xr uZ (cv 4) xm) xm) xc)) (fun _ _ _ _=>(xr uE (xhc xhg xm) (xr yE (cv 1) xm))) (fun _ _ _ _=>ye))))) xN)))))
  (xl (xu (yA yL (cv 2) ub (yj xm)))))),?_⟩
  walk_at"w";walk_at"ss";intro sl0 hsl0;generalize hUsl0:upd H sl0 _=H1;have sH1:=xb.of_eq hsl0 hUsl0;have esl0:=xn hUsl0;clear hUsl0;walk_at"w";refine⟨_,_,rfl,?_⟩;generalize mixed c 3=mx;have z0:=bW mx (show(6:Int)≠0 by decide);have z1:=bU mx (show(0:Int)<6 by decide);walk_at"w";walk_at"ss";obtain⟨N,hN⟩:∃N:Nat,N=yv 0 (mx%6) 1:=⟨_,rfl⟩;rw[←hN];rw[zQ]at hN;refine xcL (fun i σ G=>xb H G∧∃(sl:Addr) (sg:List Int) (x3 x4 x5:Option V),σ=[some (.ref e),some (.int c),some (.ref sl),x3,x4,x5]∧G sl=some (.lst (sg.map V.int))∧sg.length≤20*i∧Bnd sg)
   ⟨sH1,sl0,[],_,_,_,rfl,esl0,by simp,fun _ z=>by cases z⟩ (fun i σ G hi hP=>?_) (fun σ G hP=>?_)
  ·obtain⟨sG,sl,sg,x3,x4,x5,rfl,esl,hsl,hbs⟩:=hP;walk_at"w";refine⟨_,_,rfl,?_⟩;generalize mixed c _=dr;walk_at"w";refine⟨fun σ' G'=>xb G G'∧∃(sl:Addr) (sg:List Int) (x5:Option V),σ'=[some (.ref e),some (.int c),some (.ref sl),some (.int (0+(i:Int)*1)),some (.int dr),x5]∧G' sl=some (.lst (sg.map V.int))∧sg.length≤20*i+14∧Bnd sg,?_,?_⟩
   ·walk_at"w";walk_at"ss";intro zz hzz;generalize hUzz:upd G zz _=G1;have sG1:=xb.of_eq hzz hUzz;have ezz:=xn hUzz;clear hUzz;walk_at"w";refine xdA (f:=fun b=> !b) ⟨e,zz,es,[],rfl,rfl,SqL.of ((sG.trans sG1).at he),SqL.of ezz,?_⟩;walk_at"w";refine⟨fun e3=>?_,fun e3=>⟨sG1,sl,sg,_,rfl,sG1.at esl,by lia,hbs⟩⟩;have e3:es≠[]:=by simpa using e3
    have hd1:0<es.length:=cu.mpr e3;walk_at"w";walk_at"ss";refine⟨e,_,rfl,.inl (SqL.of ((sG.trans sG1).at he)),?_⟩;walk_at"w";rw[af];refine dF (show(0:Int)<_ by lia) ?_;have j0:=bW (dr / 8) (show((es.length:Nat):Int)≠0 by lia);have j1:=bU (dr / 8) (show(0:Int)<((es.length:Nat):Int)by lia);have y0:=bW (dr / 512) (show(14:Int)≠0 by decide);have y1:=bU (dr / 512) (show(0:Int)<14 by decide);walk_at"w";walk_at"ss";refine⟨_,rfl,?_⟩;walk_at"w";walk_at"ss";refine⟨_,rfl,?_⟩;walk_at"w";refine⟨e,_,rfl,SqL.of ((sG.trans sG1).at he),?_⟩;obtain⟨ys,hys,hyl,hym⟩:=xgj es j0 (show dr / 8%((es.length:Nat):Int)≤dr / 8%((es.length:Nat):Int)+1+dr / 512%14 by lia);rw[hys];intro yl hyl;generalize hUyl:upd G1 yl _=G2;have sG2:=xb.of_eq hyl hUyl;have eyl:=xn hUyl;clear hUyl;walk_at"w";refine⟨sl,yl,_,_,rfl,rfl,(sG1.trans sG2).at esl,eyl,by rw[ax];simp;lia,?_⟩;intro sn hsn;generalize hUsn:upd G2 sn _=G3;have sG3:=xb.of_eq hsn hUsn;have esn:=xn hUsn;clear hUsn;walk_at"w";rw[←aJ]at esn;exact⟨sG1.trans (sG2.trans sG3),sn,sg++ys,_,rfl,esn,by rw[av];lia,hbs.app (fun x hx=>hb x (hym x hx))⟩
   rintro σ' G2 ⟨sG2,sl2,sg2,x5',rfl,esl2,hsl2,hbs2⟩;clear esl hsl hbs sl sg;walk_at"w";walk_at"ss";have y0:=bW (dr / 4) (show(3:Int)≠0 by decide);have y1:=bU (dr / 4) (show(0:Int)<3 by decide);refine⟨fun e3=>?_,fun e3=>⟨sG.trans sG2,sl2,sg2,_,_,_,rfl,esl2,by lia,hbs2⟩⟩;walk_at"w";walk_at"ss";obtain⟨M,hM⟩:∃M:Nat,M=yv 0 (dr / 4%3) 1:=⟨_,rfl⟩;rw[←hM];rw[zQ]at hM;have w0:=bW dr (show(4:Int)≠0 by decide);have w1:=bU dr (show(0:Int)<4 by decide);refine xaP (fun i acc _=>∃ys:List Int,acc=ys.map V.int∧ys.length=i∧Bnd ys) (by rw[ax];lia) ⟨[],rfl,rfl,fun _ z=>by cases z⟩ (fun i acc H3 H3' hi s3 s3' hP R hR=>?_) (fun D acc G3 G3' hD hD3 s3 s3' hP hl hv=>?_)
   ·obtain⟨ys,rfl,hyl,hby⟩:=hP;walk_at"w";walk_at"ss";exact hR _ _ (xb.refl _) fun H6 _ _=>⟨ys++[-1 - dr%4],by simp,by simp[hyl],hby.app (Bnd.one (Int.lt_trans (show((-1 - dr%4).natAbs:Int)<10 by lia) (by decide)))⟩
   obtain⟨ys,rfl,hyl,hby⟩:=hP;have s23:xb G2 G3':=s3.trans s3';walk_at"w";refine⟨sl2,D,_,_,rfl,rfl,s23.at esl2,hv,by rw[ax];simp;lia,?_⟩;intro sn hsn;generalize hUsn:upd G3' sn _=G4;have sG4:=xb.of_eq hsn hUsn;have esn:=xn hUsn;clear hUsn;walk_at"w";rw[←aJ]at esn;exact⟨(sG.trans sG2).trans (s23.trans sG4),sn,sg2++ys,_,_,_,rfl,esn,by rw[av];lia,hbs2.app hby⟩
  ·obtain⟨sG,sl,sg,x3,x4,x5,rfl,esl,hsl,hbs⟩:=hP;walk_at"w";refine⟨40,rfl,?_⟩;walk_at"w";refine⟨sl,_,rfl,SqL.of esl,?_⟩;rw[xfn _ (by decide)];intro fl hfl;generalize hUfl:upd G fl _=G2;have sG2:=xb.of_eq hfl hUfl;have efl:=xn hUfl;clear hUfl;walk_at"w";exact q fl (sg.take 40) G2 (sG.trans sG2) (sG.back hfl) efl (by rw[bM];lia) (fun x hx=>hbs x (c5 hx))
def xkP(K:ah)(a:Adr):Sp:=fun vs H Q _=>∃(F:FA) (p tt nl rl:Addr) (o n:Int) (us:List Addr) (rs:List xf) (C0 nw:List Int) (k0:Nat),vs=[.ref F.S.st,.ref p,.ref nl,.ref rl]∧Bs K F∧StF a H F C0 [some 0,some 0] k0∧k0≤30∧H p=some (.tup [.int o,.int n,.ref tt])∧H tt=some (.tup (us.map V.ref))∧Paired (GT K H) us rs∧us.length≤58∧max o n≤C0.length∧(∀x∈xO rs,zr C0.length x)∧(xO rs).length≤10000∧
 H nl=some (.lst (nw.map V.int))∧H rl=some (.lst [.int 99])∧nl∉SF F∧rl∉SF F∧nw.length≤C0.length∧(doL C0 (xO rs)).take nw.length=nw∧0<C0.length∧(doL C0 (xO rs))[C0.length - 1]? =some 99∧
 ∀H' notes' k,Kp (SF F) H H'→StF a H' F (doL C0 (xO rs)) notes' k→notes'.length=2→k≤30→Q (.bl true) H'
theorem GT.kpF{H H':Hp}{F:FA}{cells:List Int}{notes:List (Option Int)}{k:Nat}{u:Addr}{r:xf}(h:GT K H u r)(hF:StF a H F cells notes k)(kp:Kp (SF F) H H'):GT K H' u r:=
 ⟨TupAt.kpS h.1 fun b u e m=>kp b u e (hF.noMu e m),h.2⟩
theorem xns{xs:List Int}{v:Int}(h0:0<xs.length)(h:xs[xs.length - 1]? =some v):zx (xs.map V.int) (some (-1)) none=[V.int v]:=by
 obtain⟨ys,y,rfl⟩:∃ys y,xs=ys++[y]:=⟨xs.dropLast,xs.getLast (g9 h0),(List.dropLast_concat_getLast _).symm⟩;rw[av]at h;have hy:y=v:=by simpa using h
 subst hy;unfold zx;have e1:HT.sIx ((ys++[y]).map V.int).length 0 (some (-1))=(ys.map V.int).length:=by
  simp only[HT.sIx,af,av,bB];rw[if_pos (by decide)];lia
 rw[e1,HT.uI,aJ,List.drop_left];exact bh (by simp)
theorem xfo(T:Txt K mg a):xy P w K mg base CX0 9 a.q2i a.xc4 ["_law_store","_law_paper","_law_newer_here","_law_rest"] (xkP K a):=by
 refine T.q12.ok xfc (fun vs H Q E h=>?_) (fun cdv A outer s H vs Q E hr h=>?_)
 ·obtain⟨F,p,tt,nl,rl,o,n,us,rs,C0,nw,k0,rfl,_⟩:=h;rfl
 ·obtain⟨F,p,tt,nl,rl,o,n,us,rs,C0,nw,k0,rfl,B,hF,hk0,hp,ht,hus,hul,hle,hok,hX4,hnl,hrl,nnl,nrl,hnC,htk,hC0,hlast,q⟩:=h;have nd:=xfc.nd;refine⟨_,(xg (uy PassesOwn.never rfl (zu (by rfl) T.q0W (xa xm xc)) (yz (i:=4) nd rfl (aM rfl)) (xg (xt (i:=5) nd rfl (aM rfl) vR)
  (xg (xlJ ⟨rfl,rfl,rfl⟩ T.q3a (by rfl) T.xev (fun _ _=>(xl (xH (xhL ⟨rfl,rfl,rfl⟩ (xno T) (hr.mono (by decide)) (by rfl) T.xoy T.q2N.kp T.xox .nil (xa (cv 0) (xa (cv 1) xc)))))) (fun _ _ _=>(xl (xt (i:=5) nd rfl (aM rfl) vR))))
  (xl (xT (yy (cv 5)) (xg (xt (i:=6) nd rfl (aM rfl) (xF xJ (yb (cv 0) T.q0e T.q2u (xcw T) (hr.mono (by decide)) T.xc6 .nil xp) xm (fun _ _=>rfl)))
  (xl (xu (va (vZ (xj7 hr.units) (yA yL (cv 6) ub (yj (xq xx (by rfl) T.q0k xM (xa (cv 2) xc)))) (cv 2)) (jT (vZ (xj7 hr.units) (yA yL (cv 6) (yj (xhc xhg (xq xx (by rfl) T.q0k xM (xa (cv 3) xc)))) ub) (cv 3))))))) xN)))))
  (xl (xu vR))),?_⟩
  walk_at"w";have er:yv 0 31 1=31:=by decide
  rw[er];refine xcL (fun i σ G=>Kp (SF F) H G∧k0+i≤30∧(∃(cells:List Int) (notes:List (Option Int)) (m:Nat),StF a G F cells notes (k0+i)∧zt notes m∧m≤(xO rs).length∧yF (xO rs) m C0 cells)∧∃(x4 x5 x6:Option V),σ=[some (.ref F.S.st),some (.ref p),some (.ref nl),some (.ref rl),x4,x5,x6])
   ⟨Kp.of (xb.refl _),by lia,⟨C0,[some 0,some 0],0,hF,⟨rfl,rfl,fun x hx=>by simp at hx;lia⟩,by lia,yF.refl _ 0 C0⟩,_,_,_,rfl⟩ (fun i σ G hi hP=>?_) (fun σ G hP=>?_)
  ·obtain⟨kp,hi30,⟨cells,notes,m,hFG,hno,hm,hnr⟩,x4,x5,x6,rfl⟩:=hP;have kG:∀b u,H b=some u→¬jB u→G b=some u:=fun b u e mm=>kp b u e (hF.noMu e mm);walk_at"w";refine⟨F,p,tt,o,n,us,rs,cells,C0,notes,k0+i,m,rfl,B,hFG,hi30,kG _ _ hp (fun z=>z),kG _ _ ht (fun z=>z),L2.Paired.imp' (fun _ _ z=>z.kpF hF kp) hus,hul,hle,hok,hno,hm,by lia,hnr,fun v G2 notes2 k2 hF2 hno2=>?_,fun hk nn d G2 cells2 notes2 k2 hF2 hh hd=>?_⟩
   ·have k02:=kp.trans k2;obtain⟨n2,_,hS2⟩:=hF2.st;walk_at"w";refine⟨fun _=>?_,by walk_at"no"⟩;walk_at"w";refine⟨F.S.st,F.S.dx,_,rfl,hS2.st,rfl,?_⟩;walk_at"w";refine⟨F.S,_,_,n2,_,rfl,hS2,fun t c m G3 s3 hc hm ncm et ec em=>?_⟩;walk_at"w";refine⟨t,_,_,.ref c,rfl,rfl,SqT.of et,rfl,?_⟩;walk_at"w";have enl3:=s3.at (k02 _ _ hnl nnl)
    have erl3:=s3.at (k02 _ _ hrl nrl)
    refine⟨nl,_,rfl,.inl (SqL.of enl3),?_⟩;walk_at"w";rw[af];refine⟨_,rfl,?_⟩;walk_at"w";refine⟨c,_,rfl,SqL.of ec,?_⟩;intro k1 hk1;generalize hUk1:upd G3 k1 _=G4;have sG4:=xb.of_eq hk1 hUk1;have ek1:=xn hUk1;clear hUk1;walk_at"w";rw[xfn _ (by lia),cz,htk]at ek1;refine xdA (f:=fun b=>b) ⟨k1,nl,nw,nw,rfl,rfl,SqL.of ek1,SqL.of (sG4.at enl3),?_⟩;walk_at"w";rw[decide_eq_true rfl];refine⟨fun _=>?_,by walk_at"no"⟩;walk_at"w";refine⟨rl,_,rfl,.inl (SqL.of (sG4.at erl3)),?_⟩;walk_at"w";refine⟨_,rfl,?_⟩;walk_at"w";refine⟨c,_,rfl,SqL.of (sG4.at ec),?_⟩;have ecut:zx ((doL C0 (xO rs)).map V.int) (some (-1)) none=[99].map V.int:=xns (by rw[yN];exact hC0) (by rw[yN];exact hlast);intro k5 hk5;generalize hU:upd G4 k5 _=G5;have sG5:=xb.of_eq hk5 hU;have ek5:G5 k5=some (.lst ([99].map V.int)):=by rw[←ecut];exact xn hU
    clear hU;walk_at"w";refine xdA (f:=fun b=>b) ⟨k5,rl,[99],[99],rfl,rfl,SqL.of ek5,SqL.of (sG5.at (sG4.at erl3)),?_⟩;walk_at"w";rw[decide_eq_true rfl];exact q G5 notes2 (k0+i) (k02.same (s3.trans (sG4.trans sG5))) (hF2.same (s3.trans (sG4.trans sG5))) hno2.1 hi30
   ·obtain⟨m',hno',hm',hnr'⟩:=hh;walk_at"w";refine⟨a.q0f,rfl,T.q18,fun ea hea=>?_⟩;walk_at"w";refine⟨by walk_at"no",fun _=>?_⟩;exact⟨kp.trans k2,by lia,⟨cells2,notes2,m',hF2,hno',hm',hnr'⟩,_,_,_,rfl⟩
  ·obtain⟨kp,hi30,_⟩:=hP;lia
end
noncomputable def minOf(ns:List Int):Int:=open Classical in if h:∃m,m∈ns∧∀x∈ns,m≤x then Classical.choose h else 0
theorem xil{ns:List Int}{m:Int}(h1:m∈ns)(h2:∀x∈ns,m≤x):m=minOf ns:=by
 unfold minOf;have h:∃m,m∈ns∧∀x∈ns,m≤x:=⟨m,h1,h2⟩;rw[dif_pos h];obtain⟨q1,q2⟩:=Classical.choose_spec h;have:=h2 _ q1;have:=q2 _ h1;omega
def itN(f:Int→Int)(a:Int):Nat→Int
 |0=>a
 |i+1=>f (itN f a i)
def orb(f:Int→Int)(a:Int)(j:Nat):List Int:=(a9 j).map (itN f a)
theorem xim(f:Int→Int)(a:Int)(j:Nat):orb f a (j+1)=orb f a j++[itN f a j]:=by unfold orb;rw[fE,aJ];rfl
theorem uX(f:Int→Int)(a:Int)(j:Nat):(orb f a j).length=j:=by simp[orb]
theorem xjD{f:Int→Int}{a:Int}{i j:Nat}(h:i<j):(orb f a j)[i]? =some (itN f a i):=by simp[orb,h]
theorem jS{f:Int→Int}{a x:Int}{j:Nat}:x∈orb f a j↔∃i,i<j∧x=itN f a i:=by
 unfold orb;rw[a7];constructor
 ·rintro⟨i,h1,rfl⟩;exact⟨i,bx.mp h1,rfl⟩
 ·rintro⟨i,h1,rfl⟩;exact⟨i,bx.mpr h1,rfl⟩
theorem xa2{f:Int→Int}{a:Int}:∀{j:Nat},(∀i,i<j→¬itN f a i∈orb f a i)→(orb f a j).Nodup
 |0,_=>by simp[orb]
 |j+1,h=>by
  rw[xim,List.nodup_append];refine⟨xa2 fun i hi=>h i (by lia),by simp,fun x hx y hy e=>?_⟩;rw[aE.mp hy]at e;exact h j (by lia) (by rw[←e];exact hx)
theorem xmk:∀{ns:List Int},ns≠[]→∃m,m∈ns∧∀x∈ns,m≤x
 |[],h=>absurd rfl h
 |[x],_=>⟨x,by simp,by simp⟩
 |x::y::r,_=>by
  obtain⟨m,h1,h2⟩:=xmk (ns:=y::r) (by simp)
  by_cases e:x≤m
  ·refine⟨x,by simp,fun z hz=>?_⟩;rcases ar.mp hz with w|w
   ·lia
   ·have:=h2 z w;lia
  ·refine⟨m,aD _ h1,fun z hz=>?_⟩;rcases ar.mp hz with w|w
   ·lia
   ·exact h2 z w
noncomputable def nxt(xss:List (List Int))(left:List Int)(k:Int):Int:=minOf ((xss.getD k.toNat []).filter fun o=>decide (o∈left))
def xin(xss:List (List Int))(left ring:List Int):Prop:=∃(a:Int) (j:Nat),(a∈left∧∀x∈left,a≤x)∧itN (nxt xss left) a j∈orb (nxt xss left) a j∧(∀i,i<j→¬itN (nxt xss left) a i∈orb (nxt xss left) a i)∧
 ring=((orb (nxt xss left) a j).drop ((orb (nxt xss left) a j).idxOf (itN (nxt xss left) a j))).reverse
def xdl(xss:List (List Int))(left:List Int):Prop:=∀k∈left,0≤k∧k<xss.length∧∃o∈left,o∈xss.getD k.toNat []
theorem xio{xss:List (List Int)}{left:List Int}{k:Int}(h:xdl xss left)(hk:k∈left):nxt xss left k∈left∧nxt xss left k∈xss.getD k.toNat []:=by
 obtain⟨_,_,o,ho1,ho2⟩:=h k hk;have hm:o∈(xss.getD k.toNat []).filter fun o=>decide (o∈left):=aU.mpr ⟨ho2,decide_eq_true ho1⟩;have hex:∃m,m∈(xss.getD k.toNat []).filter (fun o=>decide (o∈left))∧∀x∈(xss.getD k.toNat []).filter (fun o=>decide (o∈left)),m≤x:=xmk (kJ hm);obtain⟨m,h1,h2⟩:=hex;have e:m=nxt xss left k:=xil h1 h2;rw[←e];obtain⟨q1,q2⟩:=aU.mp h1;exact⟨of_decide_eq_true q2,q1⟩
theorem xgk{xss:List (List Int)}{left:List Int}{a:Int}(h:xdl xss left)(ha:a∈left):∀i,itN (nxt xss left) a i∈left
 |0=>ha
 |i+1=>(xio h (xgk h ha i)).1
theorem xgM{xss:List (List Int)}{left ring:List Int}(hL:xdl xss left)(hs:∀k∈left,k∉xss.getD k.toNat [])(h:xin xss left ring):
  2≤ring.length∧ring.Nodup∧(∀x∈ring,x∈left)∧∀k,k<ring.length→∃x y,ring[if k=0 then ring.length - 1 else k - 1]? =some x∧ring[k]? =some y∧x∈xss.getD y.toNat []:=by
 obtain⟨a,j,⟨a1,a2⟩,p1,p2,rfl⟩:=h;have hnd:=xa2 p2;obtain⟨i0,hi0,e0⟩:=jS.mp p1;have hidx:(orb (nxt xss left) a j).idxOf (itN (nxt xss left) a j)=i0:=by
  rw[e0];have hlt:i0<(orb (nxt xss left) a j).length:=by rw[uX];exact hi0
  have hg:(orb (nxt xss left) a j)[i0]=itN (nxt xss left) a i0:=by
   have:=xjD (f:=nxt xss left) (a:=a) hi0;rw[aj hlt]at this;exact bp this
  have hmem:itN (nxt xss left) a i0∈orb (nxt xss left) a j:=jS.mpr ⟨i0,hi0,rfl⟩;have hlt2:=iB.mpr hmem;have hg2:=List.getElem_idxOf hlt2;rcases Nat.lt_trichotomy ((orb (nxt xss left) a j).idxOf (itN (nxt xss left) a i0)) i0 with z|z|z
  ·exact absurd (hg2.trans hg.symm) (bT.mp hnd _ _ hlt2 hlt z)
  ·exact z
  ·exact absurd (hg.trans hg2.symm) (bT.mp hnd _ _ hlt hlt2 z)
 rw[hidx];have hlen:((orb (nxt xss left) a j).drop i0).reverse.length=j - i0:=by rw[kg,aX,uX]
 have hget:∀k,k<j - i0→((orb (nxt xss left) a j).drop i0).reverse[k]? =some (itN (nxt xss left) a (j - 1 - k)):=by
  intro k hk;rw[iU (by rw[aX,uX];exact hk),aX,uX,ck,xjD (by lia)]
  congr 2
  lia
 have hit:=xgk hL a1;have h2:2≤j - i0:=by
  by_cases hj:j - i0=1
  ·exfalso;have ej:j=i0+1:=by lia
   rw[ej]at e0;have:nxt xss left (itN (nxt xss left) a i0)=itN (nxt xss left) a i0:=e0;have hm:=(xio hL (hit i0)).2;rw[this]at hm;exact hs _ (hit i0) hm
  ·lia
 refine⟨by rw[hlen];exact h2,?_,?_,?_⟩
 ·exact iT.mpr ((hnd.sublist (List.drop_sublist _ _)).imp aR)
 ·intro x hx;have hx2:=c6 (List.mem_reverse.mp hx);obtain⟨i,_,rfl⟩:=jS.mp hx2;exact hit i
 ·intro k hk;rw[hlen]at hk⊢;refine⟨nxt xss left (itN (nxt xss left) a (j - 1 - k)),itN (nxt xss left) a (j - 1 - k),?_,hget k hk,(xio hL (hit _)).2⟩
  by_cases hk0:k=0
  ·subst hk0;rw[if_pos rfl,hget _ (by lia)];have e1:j - 1 - (j - i0 - 1)=i0:=by lia
   rw[e1,←e0];have e2:j=(j - 1 - 0)+1:=by lia
   exact congrArg (fun z=>some (itN (nxt xss left) a z)) e2
  ·rw[if_neg hk0,hget _ (by lia)];have e2:j - 1 - (k - 1)=(j - 1 - k)+1:=by lia
   exact congrArg (fun z=>some (itN (nxt xss left) a z)) e2
theorem xa3{kvs:List (Key×V)}{left:List Int}(h:kvs.map (·.1)=left.map cX)(o:Int):(zI kvs (.inl o)).isSome=decide (o∈left):=by
 unfold zI;rw[kL,List.isSome_find?];have e:(kvs.any fun kv=>decide (kv.1=cX o))=((kvs.map (·.1)).any fun k=>decide (k=cX o)):=by rw[iu];rfl
 rw[e,h,iu,di,d4,decide_eq_true_iff];constructor
 ·rintro⟨x,hx,hq⟩;have:=of_decide_eq_true hq;cases this;exact hx
 ·exact fun hx=>⟨o,hx,decide_eq_true rfl⟩
theorem xb.thaw{H G:Hp}{l:Addr}{x u:HO}(h:H l=some u)(s:xb (upd H l x) G):xb H (upd G l u):=fun b o e=>by
 by_cases hb:b=l
 ·subst hb;rw[xk,←h];exact e
 ·rw[xj hb];refine s b o ?_;rw[xj hb];exact e
theorem xjE{H:Hp}{l b:Addr}{x y:HO}{kvs:List (Key×V)}(h:H l=some (.dK kvs))(e:H b=some y)(n:∀q,y≠.dK q):upd H l x b=some y:=by
 rw[xj (fun z=>by rw[z,h]at e;cases e;exact n _ rfl)];exact e
def xch(xss:List (List Int))(left:List Int)(k:Int):Prop:=∃o∈left,o∈xss.getD k.toNat []
def xdO(K:ah):Sp:=fun vs H Q _=>∃(D l:Addr) (as:List Addr) (H0:Hp) (xss:List (List Int)) (kvs:List (Key×V)) (left:List Int),vs=[.ref D,.ref l]∧yH H0 H D as xss∧H l=some (.dK kvs)∧kvs.map (·.1)=left.map cX∧(∀k∈left,0≤k∧k<xss.length)∧xss.length≤1000∧(∀xs∈xss,xs.length≤1000)∧
 (∀k∈left,¬xch xss left k→∀G,xb H G→Q (.int k) G)∧((∀k∈left,xch xss left k)→∀G,xb H G→Q .non G)
def xgl(K:ah):Sp:=fun vs H Q _=>∃(D l:Addr) (as:List Addr) (H0:Hp) (xss:List (List Int)) (kvs:List (Key×V)) (left:List Int),vs=[.ref D,.ref l]∧yH H0 H D as xss∧H l=some (.dK kvs)∧kvs.map (·.1)=left.map cX∧left≠[]∧left.length≤1000∧xdl xss left∧xss.length≤1000∧(∀xs∈xss,xs.length≤1000)∧∀ring,xin xss left ring→xkz H Q ring
section
variable {P:aG} {w:World} {K:ah} {mg:Str→Option Value} {base:Heap} {a:Adr}
theorem xdP(T:Txt K mg a):xy P w K mg base CX0 1 a.q0G a.uQ ["spoilt","left"] (xdO K):=by
 refine T.q0I.ok jF (fun vs H Q E h=>?_) (fun cdv A outer s H vs Q E hr h=>?_)
 ·obtain⟨D,l,as,H0,xss,kvs,left,rfl,_⟩:=h;rfl
 ·obtain⟨D,l,as,H0,xss,kvs,left,rfl,L,hl,hks,hok,hxl,hxs,q1,q2⟩:=h;have nd:=jF.nd;refine⟨_,(xg (xot (i:=1) PassesOwn.never rfl (cv 1) (yz (i:=2) nd rfl (aM rfl)) (xl (xT (xbo (yy (xq (xlA rfl) (by rfl) T.q4a xpr (xa (xX (yg (cap:=[1]) (ys:=["left"]) rfl rfl rfl rfl rfl ⟨⟨rfl,rfl,.inl rfl⟩,trivial⟩ (by decide+kernel)) rfl (xW (xF yB (cv 0) (cv 2) (fun _ _=>rfl))) (fun _ _ _ _=>(xoY (xlk (xnE hr) (cv 0) (cv 1)) (by rfl))) (fun _ _ _ _=>ye)) xc)))) (xl (xu (cv 2))) xN)))
  (xl (xu xeG))),?_⟩
  walk_at"w";refine⟨l,kvs,rfl,hl,fun o hdat=>?_⟩;generalize hF:upd H l _=F;have eF:F l=some (.frz o (.dK kvs)):=by rw[←hF,xk]
  have LF:yH H0 F D as xss:=⟨by rw[←hF];exact xjE hl L.top (by intro _ z;cases z),L.nd,L.len,fun i a xs h1 h2=>by rw[←hF];exact xjE hl (L.each i a xs h1 h2) (by intro _ z;cases z),L.fr,L.frs⟩;have hkl:kvs.length=left.length:=by have:=congrArg cC hks;simpa using this
  have back:∀G,xb F G→xb H (upd G l (.dK kvs)):=fun G sG=>by subst hF;exact xb.thaw hl sG
  clear hF;refine xkn (fun i σ G=>xb F G∧(∃z,σ=[some (.ref D),some (.ref l),z])∧∀j k,j<i→left[j]? =some k→xch xss left k) ⟨xb.refl _,⟨_,rfl⟩,fun j k hj=>absurd hj (cP _)⟩ (fun i σ G _ hp=>hp.1.at eF) (fun i k σ G hk hp=>?_) (fun σ G hp=>?_)
  ·obtain⟨sG,⟨z,rfl⟩,hh⟩:=hp;have hk2:∃n,left[i]? =some n∧k=cX n:=by
    rw[hks,aF]at hk;cases e:left[i]? with
    |none=>rw[e]at hk;cases hk
    |some n=>rw[e]at hk;cases hk;exact⟨n,rfl,rfl⟩
   obtain⟨n,hn,rfl⟩:=hk2;have hm:n∈left:=aB hn;obtain⟨k0,k1⟩:=hok n hm;walk_at"w";have hlt:n.toNat<xss.length:=by lia
   have LG:=LF.same sG;have hlta:n.toNat<as.length:=by rw[L.len];exact hlt
   have eg:xss.getD n.toNat []=xss[n.toNat]:=by simp[bc,hlt]
   have ea:=LG.each _ _ _ (aj hlta) (aj hlt);have hxl2:=hxs _ (cG hlt);refine⟨D,_,_,.ref as[n.toNat],rfl,rfl,SqL.of LG.top,?_,?_⟩
   ·have:=yV (xs:=as.map V.ref) (j:=n.toNat) (v:=.ref as[n.toNat]) (by simp[hlta])
    rwa [bL k0]at this
   walk_at"w";refine⟨_,rfl,⟨_,SqL.of ea⟩,?_⟩;refine xcN (fun v=>V.bl (inV v (left.map V.int))) (SqL.of ea) (by rw[af,ax];lia) (fun v G5 hv s5 R hR=>?_) (fun D5 G5 hD5 s5 e5=>?_)
   ·obtain⟨c,_,rfl⟩:=a7.mp hv;walk_at"w";refine⟨l,zI kvs (.inl c),rfl,.inl ⟨kvs,.inl c,.inr ⟨o,(sG.trans s5).at eF⟩,rfl,rfl⟩,?_⟩;rw[xa3 hks,←xac];exact hR _ (xb.refl _)
   walk_at"w";refine⟨D5,xss[n.toNat].map fun c=>decide (c∈left),rfl,SqL.of (by rw[e5,cm,cm];simp[kN,xac]),?_⟩;walk_at"w";have ha:((xss[n.toNat].map fun c=>decide (c∈left)).any id)=true↔xch xss left n:=by
    unfold xch;rw[eg,iu,d4];exact⟨fun⟨x,hx,hq⟩=>⟨x,of_decide_eq_true hq,hx⟩,fun⟨x,hx,hq⟩=>⟨x,hq,decide_eq_true hx⟩⟩
   refine⟨fun e=>?_,fun e=>?_⟩
   ·have hn2:¬xch xss left n:=fun z=>by rw[←ha]at z;simp only[z]at e;cases e
    walk_at"w";exact⟨⟨o,(sG.trans s5).at eF,hdat⟩,q1 n hm hn2 _ (back _ (sG.trans s5))⟩
   ·have hn2:xch xss left n:=by rw[←ha];simpa using e
    refine⟨sG.trans s5,⟨_,rfl⟩,fun j k hj hkj=>?_⟩
    by_cases hji:j=i
    ·subst hji;rw[hn]at hkj;cases hkj;exact hn2
    ·exact hh j k (by lia) hkj
  ·obtain⟨sG,⟨z,rfl⟩,hh⟩:=hp;refine⟨⟨o,sG.at eF,hdat⟩,q2 (fun k hk=>?_) _ (back G sG)⟩;obtain⟨j,hj,e⟩:=kl hk;exact hh j k (by lia) (by rw[aj hj,e])
theorem xg8(T:Txt K mg a):xy P w K mg base CX0 1 a.q1p a.xaq ["spoilt","left"] (xgl K):=by
 refine T.q1s.ok xcq (fun vs H Q E h=>?_) (fun cdv A outer s H vs Q E hr h=>?_)
 ·obtain⟨D,l,as,H0,xss,kvs,left,rfl,_⟩:=h;rfl
 ·obtain⟨D,l,as,H0,xss,kvs,left,rfl,L,hl,hks,hne,hll,hok,hxl,hxs,q⟩:=h;have nd:=xcq.nd;refine⟨_,(xg (xt (i:=2) nd rfl (aM rfl) (yi xc))
  (xg (xt (i:=3) nd rfl (aM rfl) (xq (xlQ rfl) (by rfl) T.q3b xbq (xa (cv 1) xc)))
  (xg (xab PassesOwn.never (xK xht (cv 3) (cv 2) (by rfl)) (xg (xH (zK PySem.F.plainAttrs_list PySem.F.slot_list_append PySem.F.type_list_append yt (cv 2) (xa (cv 3) xc)))
  (xl (xt (i:=3) nd rfl (aM rfl) (xq (xgz rfl) (by rfl) T.q3b xbq (xa (xX (yg (cap:=[1]) (ys:=["left"]) rfl rfl rfl rfl rfl ⟨⟨rfl,rfl,.inl rfl⟩,trivial⟩ (by decide+kernel)) rfl (xW (xF yB (cv 0) (cv 3) (fun _ _=>rfl))) (fun _ _ _ _=>(cv 0)) (fun _ _ _ _=>(jR (xql (xlk (xnE hr) (cv 0) (cv 1)) (by rfl))))) xc))))))
  (xl (xu (xkb rfl (by rfl) T.q2H (by rfl) T.q3h (yA yL (cv 2) (yj (zK PySem.F.plainAttrs_list PySem.F.slot_list_index PySem.F.type_list_index xmS (cv 2) (xa (cv 3) xc))) ub))))))),?_⟩
  walk_at"w";walk_at"ss";intro p hp;generalize hUp:upd H p _=H1;have sH1:=xb.of_eq hp hUp;have ep:=xn hUp;clear hUp;walk_at"w";refine⟨l,kvs,left,rfl,sH1.at hl,hks,hne,fun st hst1 hst2=>?_⟩;walk_at"w";have hit:=xgk hok hst1;have nxs:∀k∈left,(xss.getD k.toNat []).length≤1000:=fun k hk=>by
   obtain⟨h0,h1,_⟩:=hok k hk;have hlt:k.toNat<xss.length:=by lia
   have e:xss.getD k.toNat []=xss[k.toNat]:=by simp[bc,hlt]
   rw[e];exact hxs _ (cG hlt)
  refine uz (m:=left.length) (fun m σ G=>xb H G∧∃j,m=left.length - j∧σ=[some (.ref D),some (.ref l),some (.ref p),some (.int (itN (nxt xss left) st j))]∧G p=some (.lst ((orb (nxt xss left) st j).map V.int))∧∀i,i<j→¬itN (nxt xss left) st i∈orb (nxt xss left) st i) ⟨sH1,0,by simp,rfl,ep,fun i hi=>absurd hi (cP _)⟩ (fun m σ G hP=>?_);obtain⟨sG,j,rfl,rfl,epj,hdis⟩:=hP;have hnd:=xa2 hdis;have hjl:j≤left.length:=by
   have:=xaQ hnd (l₂:=left) fun x hx=>by obtain⟨i,_,rfl⟩:=jS.mp hx;exact hit i
   rwa [uX]at this
  walk_at"w";refine⟨p,_,rfl,.inl (SqL.of epj),rfl,xlD _,?_⟩;walk_at"w";rw[xac];refine⟨fun e=>?_,fun e=>?_⟩
  ·have e':¬itN (nxt xss left) st j∈orb (nxt xss left) st j:=by simpa using e
   have hdis':∀i,i<j+1→¬itN (nxt xss left) st i∈orb (nxt xss left) st i:=fun i hi=>by
    by_cases hij:i=j
    ·rw[hij];exact e'
    ·exact hdis i (by lia)
   have hjl':j+1≤left.length:=by
    have:=xaQ (xa2 hdis') (l₂:=left) fun x hx=>by obtain⟨i,_,rfl⟩:=jS.mp hx;exact hit i
    rwa [uX]at this
   refine⟨fun σ' G'=>∃m',m'<left.length - j∧xb H G'∧∃j',m'=left.length - j'∧σ'=[some (.ref D),some (.ref l),some (.ref p),some (.int (itN (nxt xss left) st j'))]∧G' p=some (.lst ((orb (nxt xss left) st j').map V.int))∧∀i,i<j'→¬itN (nxt xss left) st i∈orb (nxt xss left) st i,fun _ _ z=>z,?_⟩;walk_at"w";refine⟨.inl ⟨rfl,_,SqL.of epj⟩,?_⟩;walk_at"w";refine⟨p,_,_,rfl,rfl,epj,by rw[af,uX,ax];lia,?_⟩;generalize hU:upd G p _=G2;have s2:xb H G2:=xb.wr sG hp hU;have ep2:G2 p=some (.lst ((orb (nxt xss left) st (j+1)).map V.int)):=by rw[←hU,xk,xim,aJ];rfl
   clear hU;walk_at"w";obtain⟨k0,k1,_⟩:=hok _ (hit j);have hlt:(itN (nxt xss left) st j).toNat<xss.length:=by lia
   have hlta:(itN (nxt xss left) st j).toNat<as.length:=by rw[L.len];exact hlt
   have eg:xss.getD (itN (nxt xss left) st j).toNat []=xss[(itN (nxt xss left) st j).toNat]:=by simp[bc,hlt]
   have ea:=L.each _ _ _ (aj hlta) (aj hlt);refine⟨D,_,_,.ref as[(itN (nxt xss left) st j).toNat],rfl,rfl,SqL.of (s2.at L.top),?_,?_⟩
   ·have:=yV (xs:=as.map V.ref) (j:=(itN (nxt xss left) st j).toNat) (v:=.ref as[(itN (nxt xss left) st j).toNat]) (by simp[hlta])
    rwa [bL k0]at this
   walk_at"w";refine⟨_,rfl,⟨_,SqL.of (s2.at ea)⟩,?_⟩;have hxl2:=nxs _ (hit j);rw[eg]at hxl2;refine vf (fun v=>inV v (left.map V.int)) id (SqL.of (s2.at ea)) (by rw[af,ax];lia) (fun v G5 hv s5 R hR=>?_) (fun v G5 hv _ s5 R hR=>?_) (fun D5 G5 hD5 s5 e5=>?_)
   ·obtain⟨c,_,rfl⟩:=a7.mp hv;walk_at"w";refine⟨l,zI kvs (.inl c),rfl,.inl ⟨kvs,.inl c,.inl ((s2.trans s5).at hl),rfl,rfl⟩,?_⟩;rw[xa3 hks,←xac];exact hR _ (xb.refl _)
   ·exact hR _ (xb.refl _)
   rw[kR,xiL]at e5;simp only[xac]at e5;walk_at"w";have hnn:(xss[(itN (nxt xss left) st j).toNat].filter fun x=>decide (x∈left))≠[]:=by
    obtain⟨_,_,o,ho1,ho2⟩:=hok _ (hit j);rw[eg]at ho2;exact kJ (aU.mpr ⟨ho2,decide_eq_true ho1⟩)
   refine⟨D5,_,rfl,SqL.of e5,hnn,fun mm h1 h2=>?_⟩;have em:mm=itN (nxt xss left) st (j+1):=by
    have:=xil h1 h2;show mm=minOf ((xss.getD (itN (nxt xss left) st j).toNat []).filter fun o=>decide (o∈left));rw[eg];exact this
   rw[em];exact⟨left.length - (j+1),by lia,s2.trans s5,j+1,rfl,rfl,s5.at ep2,hdis'⟩
  ·have e':itN (nxt xss left) st j∈orb (nxt xss left) st j:=by simpa using e
   walk_at"w";refine⟨.inl ⟨rfl,_,SqL.of epj⟩,?_⟩;walk_at"w";have hsm:∀x∈orb (nxt xss left) st j,x.natAbs<2^64:=fun x hx=>by
    obtain⟨i,_,rfl⟩:=jS.mp hx;obtain⟨k0,k1,_⟩:=hok _ (hit i);lia
   refine⟨p,_,_,rfl,rfl,epj,e',by rw[uX];lia,hsm,?_⟩;walk_at"w";refine⟨_,rfl,?_⟩;walk_at"w";refine⟨p,_,rfl,SqL.of epj,?_⟩;intro c hc;generalize hUc:upd G c _=G3;have sG3:=xb.of_eq hc hUc;have ec:=xn hUc;clear hUc;walk_at"w";rw[zw,yY (by lia),HT.uI]at ec;refine⟨c,_,rfl,SqL.of ec,fun d hd=>?_⟩;have hidx:(orb (nxt xss left) st j).idxOf (itN (nxt xss left) st j)≤(orb (nxt xss left) st j).length:=bS (iB.mpr e');refine q _ ⟨st,j,⟨hst1,hst2⟩,e',hdis,rfl⟩ d _ ((sG.trans sG3).trans (xb.new hd)) ((sG.trans sG3).back hd) ?_;rw[xk,←List.map_reverse]
   congr 4
   rw[cz,cj hidx,bh (by rw[aX];exact ak _)]
end
def xf.rd:xf→Int×Int
 | .take to st c=>if st=to then(0,0)else(st,st+c)
 | .put _ _=>(0,0)
def xf.wr:xf→Int×Int
 | .take to st c=>if st=to then(0,0)else(to,to+c)
 | .put to sg=>(to,to+sg.length)
def xdH(x y:Int×Int):Bool:=decide (max x.1 y.1<min x.2 y.2)
def xa4(k:Nat)(w:Int×Int)(rds:List (Int×Int)):List Int:=((a9 rds.length).filter fun(i:Nat)=> !decide ((i:Int)=(k:Int))&&xdH w (rds.getD i (0,0))).map fun(i:Nat)=>(i:Int)
def yw(rs:List xf):List (List Int):=(a9 rs.length).map fun k=>xa4 k ((rs.map xf.wr).getD k (0,0)) (rs.map xf.rd)
def xkQ(K:ah)(H H':Hp)(t:Addr)(x:Int×Int):Prop:=(∀G,SqT K G t [.int x.1,.int x.2])∨(H t=none∧H' t=some (.tup [.int x.1,.int x.2]))
def xeC(K:ah)(H:Hp)(t:Addr)(x:Int×Int):Prop:=SqT K H t [.int x.1,.int x.2]
theorem xkQ.at{K:ah}{H H' H6:Hp}{t:Addr}{x:Int×Int}(h:xkQ K H H' t x)(k:∀p o,(H p=none∨∀ys,o≠HO.lst ys)→H' p=some o→H6 p=some o):xeC K H6 t x:=by
 rcases h with h|⟨h1,h2⟩
 ·exact h _
 ·exact SqT.of (k _ _ (.inl h1) h2)
def xml(K:ah):Sp:=fun vs H Q _=>∃(p C dx:Addr) (fs:List (Str×V)) (to c:Int),vs=[.ref p]∧H p=some (.ins C dx fs)∧Cls K C∧xC K C "to"∧xC K C "count"∧fs.lookup ("to":Str)=some (.int to)∧fs.lookup ("count":Str)=some (.int c)∧∀t,H t=none→Q (.ref t) (upd H t (.tup [.int to,.int (to+c)]))
def xfp(K:ah)(a:Adr):Sp:=fun vs H Q _=>∃(o:Addr) (r:xf),vs=[.ref o]∧xB K a H o r∧r.isTake=true∧∀t H',xb H H'→xkQ K H H' t r.rd→Q (.ref t) H'
def xdm(K:ah)(a:Adr):Sp:=fun vs H Q _=>∃(o:Addr) (r:xf),vs=[.ref o]∧xB K a H o r∧r.isTake=true∧∀t H',xb H H'→xkQ K H H' t r.wr→Q (.ref t) H'
def xoJ(K:ah):Sp:=fun vs H Q _=>∃(s t:Addr) (x y:Int×Int),vs=[.ref s,.ref t]∧xeC K H s x∧xeC K H t y∧Q (.bl (xdH x y)) H
def xip(K:ah):Sp:=fun vs H Q _=>∃(k:Nat) (s l:Addr) (x:Int×Int) (ts:List Addr) (rds:List (Int×Int)),vs=[.int k,.ref s,.ref l]∧xeC K H s x∧SqL K H l (ts.map V.ref)∧Paired (xeC K H) ts rds∧rds.length≤1000∧xkz H Q (xa4 k x rds)
def xmm(K:ah)(a:Adr):Sp:=fun vs H Q _=>∃(l:Addr) (rs:List xf),vs=[.ref l]∧xpQ K a H l rs∧rs.length≤1000∧(∀r∈rs,r.isTake=true)∧xkF H Q (yw rs)
section
variable {P:aG} {w:World} {K:ah} {mg:Str→Option Value} {base:Heap} {a:Adr}
theorem xcy(T:Txt K mg a):xy P w K mg base CX0 1 a.q0C a.xam ["self"] (xml K):=by
 refine T.q1Q.ok xcm (fun vs H Q E h=>?_) (fun cdv A outer s H vs Q E hr h=>?_)
 ·obtain⟨p,C,dx,fs,to,c,rfl,_⟩:=h;rfl
 ·obtain⟨p,C,dx,fs,to,c,rfl,hp,cl,n1,n2,l1,l2,k⟩:=h;have nd:=xcm.nd;refine⟨_,(xl (xu (yx (xa (xA (cv 0) rfl) (xa (xr xY (xA (cv 0) rfl) (xA (cv 0) rfl)) xc))))),?_⟩;walk_at"w";refine⟨p,C,dx,fs,_,rfl,hp,cl,n1,l1,?_⟩;walk_at"w";refine⟨p,C,dx,fs,_,rfl,hp,cl,n1,l1,?_⟩;walk_at"w";refine⟨p,C,dx,fs,_,rfl,hp,cl,n2,l2,?_⟩;walk_at"w";exact⟨by walk_at"side",k⟩
theorem xfq(T:Txt K mg a):xy P w K mg base CX0 2 a.q03 a.vQ ["row"] (xfp K a):=by
 refine T.q04.ok xaX (fun vs H Q E h=>?_) (fun cdv A outer s H vs Q E hr h=>?_)
 ·obtain⟨o,r,rfl,_⟩:=h;rfl
 ·obtain⟨o,r,rfl,ho,htk,k⟩:=h;have nd:=xaX.nd;refine⟨_,(xg (xT (PW.pt (jX (yy (xq zy (by rfl) T.q0n xZ (xa (cv 0) (xa (vE (v:=.ref a.q0a) (by rfl) T.xbw rfl) xc)))) (jQ (xbo (yy (yb (cv 0) T.q0d T.q19 (jC T) (hr.mono (by decide)) T.xav .nil xp)))))) (xl (xu (yx (xa (xA (cv 0) rfl) (xa (xr xY (xA (cv 0) rfl) (xA (cv 0) rfl)) xc))))) xN)
  (xl (xu (vE (v:=.ref a.q1c) (by rfl) T.xc8 rfl)))),?_⟩
  cases r with
  |put _ _=>cases htk
  |take to st c=>
   obtain⟨dx,h1⟩:=ho;walk_at"w";refine⟨_,_,_,_,true,rfl,rfl,T.xbx h1,T.q1Z,?_⟩;walk_at"w";refine⟨fun _=>?_,by walk_at"no"⟩;walk_at"w";refine⟨o,dx,_,rfl,h1,rfl,?_⟩;walk_at"w";refine⟨o,dx,to,st,c,rfl,h1,?_⟩;walk_at"w"
   by_cases e:st=to
   ·rw[decide_eq_true e];refine⟨by walk_at"no",fun _=>?_⟩;walk_at"w";refine k _ _ (xb.refl _) (.inl fun G=>?_);have:=T.xc9 G;simpa [xf.rd,e]using this
   ·rw[decide_eq_false e];refine⟨fun _=>?_,by walk_at"no"⟩;walk_at"w";refine⟨o,_,dx,_,.int st,rfl,h1,T.q0d,T.q0h,rfl,?_⟩;walk_at"w";refine⟨o,_,dx,_,.int st,rfl,h1,T.q0d,T.q0h,rfl,?_⟩;walk_at"w";refine⟨o,_,dx,_,.int c,rfl,h1,T.q0d,T.q0v,rfl,?_⟩;walk_at"w";refine⟨by walk_at"side",fun t ht=>k t _ (xb.new ht) (.inr ⟨ht,?_⟩)⟩;rw[xk];simp[xf.rd,e]
theorem xdn(T:Txt K mg a):xy P w K mg base CX0 2 a.q0y a.uv ["row"] (xdm K a):=by
 refine T.q0z.ok jh (fun vs H Q E h=>?_) (fun cdv A outer s H vs Q E hr h=>?_)
 ·obtain⟨o,r,rfl,_⟩:=h;rfl
 ·obtain⟨o,r,rfl,ho,htk,k⟩:=h;have nd:=jh.nd;refine⟨_,(xg (xT (PW.pt (jX (yy (xq zy (by rfl) T.q0n xZ (xa (cv 0) (xa (vE (v:=.ref a.q0a) (by rfl) T.xbw rfl) xc)))) (jQ (yy (yb (cv 0) T.q0d T.q19 (jC T) (hr.mono (by decide)) T.xav .nil xp))))) (xl (xu (vE (v:=.ref a.q1c) (by rfl) T.xc8 rfl))) xN)
  (xl (xu (yb (cv 0) T.q0d T.q2U (xcy T) (hr.mono (by decide)) T.xc5 .nil xp)))),?_⟩
  cases r with
  |put _ _=>cases htk
  |take to st c=>
   obtain⟨dx,h1⟩:=ho;walk_at"w";refine⟨_,_,_,_,true,rfl,rfl,T.xbx h1,T.q1Z,?_⟩;walk_at"w";refine⟨fun _=>?_,by walk_at"no"⟩;walk_at"w";refine⟨o,dx,_,rfl,h1,rfl,?_⟩;walk_at"w";refine⟨o,dx,to,st,c,rfl,h1,?_⟩;walk_at"w"
   by_cases e:st=to
   ·rw[decide_eq_true e];refine⟨fun _=>?_,by walk_at"no"⟩;walk_at"w";refine k _ _ (xb.refl _) (.inl fun G=>?_);have:=T.xc9 G;simpa [xf.wr,e]using this
   ·rw[decide_eq_false e];refine⟨by walk_at"no",fun _=>?_⟩;walk_at"w";refine⟨o,dx,_,rfl,h1,rfl,?_⟩;walk_at"w";refine⟨o,_,dx,_,to,c,rfl,h1,T.q0d,T.q0s,T.q0v,rfl,rfl,fun t ht=>k t _ (xb.new ht) (.inr ⟨ht,?_⟩)⟩;rw[xk];simp[xf.wr,e]
theorem xoK(T:Txt K mg a):xy P w K mg base CX0 1 a.q27 a.xhS ["one","other"] (xoJ K):=by
 refine T.q28.ok xjs (fun vs H Q E h=>?_) (fun cdv A outer s H vs Q E hr h=>?_)
 ·obtain⟨s,t,x,y,rfl,_⟩:=h;rfl
 ·obtain⟨s1,t1,x,y,rfl,hs,ht,q⟩:=h;have nd:=xjs.nd;refine⟨_,(xl (xu (vZ xa6 (xq (xcK rfl) (by rfl) T.q21 xaa (xa (xF xJ (cv 0) xm (fun _ _=>rfl)) (xa (xF xJ (cv 1) xm (fun _ _=>rfl)) xc))) (xq (xlt rfl) (by rfl) T.q3b xbq (xa (xF xJ (cv 0) xm (fun _ _=>rfl)) (xa (xF xJ (cv 1) xm (fun _ _=>rfl)) xc)))))),?_⟩;walk_at"w";refine⟨s1,_,_,.int x.1,rfl,rfl,hs,rfl,?_⟩;walk_at"w";refine⟨t1,_,_,.int y.1,rfl,rfl,ht,rfl,?_⟩;walk_at"w";refine⟨s1,_,_,.int x.2,rfl,rfl,hs,rfl,?_⟩;walk_at"w";refine⟨t1,_,_,.int y.2,rfl,rfl,ht,rfl,?_⟩;exact q
theorem xiq(T:Txt K mg a):xy P w K mg base CX0 2 a.q1J a.xbi ["number","stretch","read"] (xip K):=by
 refine T.q1O.ok xdf (fun vs H Q E h=>?_) (fun cdv A outer s H vs Q E hr h=>?_)
 ·obtain⟨k,s,l,x,ts,rds,rfl,_⟩:=h;rfl
 ·obtain⟨k,s1,l,x,ts,rds,rfl,hs,hl,hp,hle,q⟩:=h;have nd:=xdf.nd;refine⟨_,(xl (xu (xei (xfM (cap:=[0,1]) (ys:=["number","stretch"]) rfl rfl rfl rfl rfl rfl ⟨⟨rfl,rfl,.inl rfl⟩,⟨⟨rfl,rfl,.inl rfl⟩,trivial⟩⟩ (by decide+kernel)) rfl (xof (by rfl) T.q20 (xa (cv 2) xc)) (fun _ _ _ _=>(cv 0)) (fun _ _ _ _=>(jR (PW.pt (jX (xK xj0 (cv 0) (cv 2)) (jQ (yy (xw (xoK T) (hr.mono (by decide)) (by rfl) T.xpO T.q28.kp T.xpN .nil xp (xa (cv 3) (xa (cv 1) xc)))))))))))),?_⟩;have elen:ts.length=rds.length:=hp.length;walk_at"w";refine⟨l,rfl,⟨_,hl⟩,?_⟩;refine xiK (fun i v=> !decide ((i:Int)=(k:Int))&&xdH x (rds.getD i (0,0))) hl (by rw[af,ax];lia) (fun i v H3 hv s3 R hR=>?_) (fun i v H3 hv s3 R hR=>?_) (fun D H' hD s' hv=>?_)
  ·rw[aF]at hv;cases ht:ts[i]? with
   |none=>rw[ht]at hv;cases hv
   |some t=>
    rw[ht]at hv;cases hv;obtain⟨y,hy,py⟩:=yh hp ht;have eg:rds.getD i (0,0)=y:=by simp[bc,hy]
    walk_at"w";refine⟨fun e=>?_,fun e=>?_⟩
    ·walk_at"w";refine⟨s1,t,x,y,rfl,s3.seqT hs,s3.seqT py,?_⟩;have:=hR _ (xb.refl _);rw[eg,e,Bool.true_and]at this;exact this
    ·have:=hR _ (xb.refl _);rw[e,Bool.false_and]at this;exact this
  ·exact hR _ (xb.refl _)
  ·refine q D H' s' hD ?_;rw[hv,af,elen,xa4,cm];rfl
theorem xmn(T:Txt K mg a):xy P w K mg base CX0 3 a.q2w a.xeq ["rows"] (xmm K a):=by
 refine T.q2y.ok xgI (fun vs H Q E h=>?_) (fun cdv A outer s H vs Q E hr h=>?_)
 ·obtain⟨l,rs,rfl,_⟩:=h;rfl
 ·obtain⟨l,rs,rfl,⟨os,hl,hp⟩,hle,htk,q⟩:=h;have nd:=xgI.nd;refine⟨_,(xg (xt (i:=1) nd rfl (dk rfl) (xX (yg (cap:=[]) (ys:=[]) rfl rfl rfl rfl rfl trivial (by decide+kernel)) rfl (xW (cv 0)) (fun _ _ _ _=>(xw (xfq T) (hr.mono (by decide)) (by rfl) T.xf2 T.q04.kp T.xf1 .nil xp (xa (cv 0) xc))) (fun _ _ _ _=>ye)))
  (xg (xt (i:=2) nd rfl (dk rfl) (xX (yg (cap:=[]) (ys:=[]) rfl rfl rfl rfl rfl trivial (by decide+kernel)) rfl (xW (cv 0)) (fun _ _ _ _=>(xw (xdn T) (hr.mono (by decide)) (by rfl) T.xdM T.q0z.kp T.xdL .nil xp (xa (cv 0) xc))) (fun _ _ _ _=>ye)))
  (xl (xu (xX (yg (cap:=[1,2]) (ys:=["read","written"]) rfl rfl rfl rfl rfl ⟨⟨rfl,rfl,.inl rfl⟩,⟨⟨rfl,rfl,.inl rfl⟩,trivial⟩⟩ (by decide+kernel)) rfl (zu (by rfl) T.q0W (xa (xq xx (by rfl) T.q0k xM (xa (cv 0) xc)) xc)) (fun _ _ _ _=>(xw (xiq T) (hr.mono (by decide)) (by rfl) T.xiZ T.q1O.kp T.xiY .nil xp (xa (cv 0) (xa (xF (xhF (K:=K) rfl) (cv 2) (cv 0) (fun _ _=>rfl)) (xa (cv 1) xc))))) (fun _ _ _ _=>ye)))))),?_⟩
  have elen:os.length=rs.length:=hp.length;have hz:(os.map V.ref).length≤aQ:=by rw[af,ax];lia
  walk_at"w";refine⟨l,rfl,⟨_,hl⟩,?_⟩;refine ve (fun i acc G=>∃ts:List Addr,acc=ts.map V.ref∧Paired (xeC K G) ts ((rs.map xf.rd).take i)) hl hz ⟨[],rfl,.nil⟩ (fun i v acc H3 H3' hv s3 s3' hP R hR=>?_) (fun D1 acc H1 H1' hD1 hD1' s1 s1' hP hacc hv1=>?_)
  ·rw[aF]at hv;cases ht:os[i]? with
   |none=>rw[ht]at hv;cases hv
   |some o=>
    rw[ht]at hv;cases hv;obtain⟨r,hy,py⟩:=yh hp ht;obtain⟨ts,rfl,hts⟩:=hP;walk_at"w";refine⟨o,r,rfl,py.same (s3.trans s3'),htk r (aB hy),fun t H6 s6 hn=>hR _ _ s6 fun G sG kG=>⟨ts++[t],by simp,?_⟩⟩;rw[cb,aF,hy];exact yo (L2.Paired.imp' (fun _ _ z=>sG.seqT z) hts) (hn.at kG)
  ·obtain⟨t1,rfl,ht1⟩:=hP;rw[bh (by simp;lia)]at ht1;walk_at"w";have hl1:=(s1.trans s1').seq hl;refine⟨l,rfl,⟨_,hl1⟩,?_⟩;refine ve (fun i acc G=>∃ts:List Addr,acc=ts.map V.ref∧Paired (xeC K G) ts ((rs.map xf.wr).take i)) hl1 hz ⟨[],rfl,.nil⟩ (fun i v acc H3 H3' hv s3 s3' hP R hR=>?_) (fun D2 acc H2 H2' hD2 hD2' s2 s2' hP hacc2 hv2=>?_)
   ·rw[aF]at hv;cases ht:os[i]? with
    |none=>rw[ht]at hv;cases hv
    |some o=>
     rw[ht]at hv;cases hv;obtain⟨r,hy,py⟩:=yh hp ht;obtain⟨ts,rfl,hts⟩:=hP;walk_at"w";refine⟨o,r,rfl,py.same ((s1.trans s1').trans (s3.trans s3')),htk r (aB hy),fun t H6 s6 hn=>hR _ _ s6 fun G sG kG=>⟨ts++[t],by simp,?_⟩⟩;rw[cb,aF,hy];exact yo (L2.Paired.imp' (fun _ _ z=>sG.seqT z) hts) (hn.at kG)
   ·obtain⟨t2,rfl,ht2⟩:=hP;rw[bh (by simp;lia)]at ht2;walk_at"w";refine⟨l,_,rfl,.inl ((s2.trans s2').seq hl1),?_⟩;walk_at"w";have en:yv 0 ((os.map V.ref).length:Nat) 1=rs.length:=by rw[zQ,af,elen];lia
    rw[en];have hd1:=(s2.trans s2').at hv1;have p1:=L2.Paired.imp' (fun _ _ z=>(s1'.trans (s2.trans s2')).seqT z) ht1;have p2:=L2.Paired.imp' (fun _ _ z=>s2'.seqT z) ht2;have s12:xb H H2':=(s1.trans s1').trans (s2.trans s2');refine xbM (fun k=>xa4 k ((rs.map xf.wr).getD k (0,0)) (rs.map xf.rd)) (by rw[ax];lia) (fun k H3 hk s3 R hR=>?_) (fun D H' as s' L=>?_)
    ·have hk2:k<t2.length:=by rw[p2.length];simpa using hk
     obtain⟨y,hy,py⟩:=yh p2 (aj hk2);have eg:(rs.map xf.wr).getD k (0,0)=y:=by simp only[bc];rw[hy];rfl
     rw[eg]at hR;have ek:(0:Int)+(k:Int)*1=(k:Int):=by lia
     rw[ek];walk_at"w";refine⟨D2,_,_,.ref t2[k],rfl,rfl,SqL.of (s3.at hv2),?_,?_⟩
     ·exact yV (by simp[hk2])
     walk_at"w";exact⟨k,t2[k],D1,y,t1,rs.map xf.rd,rfl,s3.seqT py,SqL.of (s3.at hd1),L2.Paired.imp' (fun _ _ z=>s3.seqT z) p1,by simpa using hle,fun l1 H4 s4 hl4 hv4=>hR _ _ s4 hl4 hv4⟩
    ·exact q D as H' (s12.trans s') (L.base s12)
end
def vX:xf→List Int
 | .take to _ c=>[c,to]
 | .put .. =>[]
def dR:xf:=.put 0 []
abbrev xfr:Expr:=xkd (xlE ((xqu ((xpH ((xD yC).getD 4 (.Pass ⟨0,0,0,0⟩))).getD 1 (.Pass ⟨0,0,0,0⟩))).getD 1 (.Pass ⟨0,0,0,0⟩)))
theorem xjF:zf ["one","takes"] ["one"] ["takes"] (xU xfr):=⟨rfl,rfl,rfl,by decide+kernel,rfl,by decide+kernel,by decide+kernel,by decide+kernel⟩
def xoL(K:ah)(a:Adr):List (Str×V)→Sp:=fun fv vs H Q _=>∃(l:Addr) (os:List Addr) (rs:List xf) (x:Int),fv=([("takes",.ref l)]:List (Str×V))∧vs=[.int x]∧SqL K H l (os.map V.ref)∧Paired (xB K a H) os rs∧(∀r∈rs,r.isTake=true)∧0≤x∧x<rs.length∧
 ∀d,H d=none→Q (.ref d) (upd H d (.tup ((vX (rs.getD x.toNat dR)).map V.int)))
inductive Goes(xss:List (List Int))(key:Int→List Int):List Int→List Int→List (Int×List Int)→Prop
 |nil:Goes xss key [] [] []
 |keep {left ord:List Int} {tur:List (Int×List Int)} (k:Int):k∈left→¬xch xss left k→Goes xss key (left.filter fun x=>decide (x≠k)) ord tur→Goes xss key left (k::ord) tur
 |turn {left ord ring:List Int} {tur:List (Int×List Int)} (k:Int):(∀x∈left,xch xss left x)→xin xss left ring→k=ring.getD (bst (fun i=>key (ring.getD i 0)) (ring.length - 1)) 0→k∈left→Goes xss key (left.filter fun x=>decide (x≠k)) ord tur→Goes xss key left ord ((k,ring)::tur)
def xir(os:List Addr)(G:Hp)(o t:Addr)(p:Addr)(kr:Int×List Int):Prop:=∃rl,rl≠o∧rl≠t∧G p=some (.tup [.ref (os.getD kr.1.toNat 0),.ref rl])∧G rl=some (.lst (kr.2.map fun x=>V.ref (os.getD x.toNat 0)))
def xfs(K:ah)(a:Adr):Sp:=fun vs H Q _=>∃(l:Addr) (os:List Addr) (rs:List xf),vs=[.ref l]∧SqL K H l (os.map V.ref)∧Paired (xB K a H) os rs∧(∀r∈rs,r.isTake=true)∧rs.length≤1000∧H yk=some (.tbl zb)∧
 ∀(p o t:Addr) (ord:List Int) (tur:List (Int×List Int)) (trs:List Addr) (G:Hp),xb H G→H p=none→H o=none→H t=none→o≠t→G p=some (.tup [.ref o,.ref t])→G o=some (.lst (ord.map fun x=>V.ref (os.getD x.toNat 0)))→G t=some (.lst (trs.map V.ref))→Paired (xir os G o t) trs tur→
  Goes (yw rs) (fun x=>vX (rs.getD x.toNat dR)) ((a9 rs.length).map fun(i:Nat)=>(i:Int)) ord tur→Q (.ref p) G
theorem xci{k:Int}:∀{kvs:List (Key×V)} {left:List Int},kvs.map (·.1)=left.map cX→(jK kvs (.inl k)).map (·.1)=(left.filter fun x=>decide (x≠k)).map cX
 |[],[],_=>rfl
 |kv::kvs,x::left,h=>by
  rw[bQ,bQ]at h;injection h with h1 h2;have ih:=xci (k:=k) h2;unfold jK at ih⊢
  by_cases e:x=k
  ·rw[d9 (by rw[h1,e];simp),d9 (by simp[e])];exact ih
  ·rw[ee (by rw[h1];simpa using e),ee (by simpa using e),bQ,bQ,ih,h1]
theorem xd6{k:Int}{left:List Int}(h:k∈left):(left.filter fun x=>decide (x≠k)).length<left.length:=by
 refine Nat.lt_of_le_of_ne (b8 _ _) fun z=>?_;have e:=List.filter_sublist.eq_of_length z;have:=aU.mp (e▸h);simp at this
theorem xft{rs:List xf}{k:Int}(h0:0≤k)(h1:k<rs.length):k∉(yw rs).getD k.toNat []:=fun hm=>by
 have hk:k.toNat<rs.length:=by lia
 have e:(yw rs).getD k.toNat []=xa4 k.toNat ((rs.map xf.wr).getD k.toNat (0,0)) (rs.map xf.rd):=by simp[yw,bc,hk]
 rw[e]at hm;unfold xa4 at hm;obtain⟨i,hi,e2⟩:=a7.mp hm;have:=(aU.mp hi).2;rw[dW]at this;have:=this.1;simp at this;lia
def refOf(os:List Addr):V→V
 | .int x=>.ref (os.getD x.toNat 0)
 |_=>.non
theorem getD_mem{xs:List Int}{i:Nat}(h:i<xs.length):xs.getD i 0∈xs:=by
 have:xs.getD i 0=xs[i]:=by simp[bc,h]
 rw[this];exact cG h
section
variable {P:aG} {w:World} {K:ah} {mg:Str→Option Value} {base:Heap} {a:Adr}
theorem xcz(T:Txt K mg a):yR P w K mg base CX0 1 "<lambda>" "put_in_order.<locals>.<lambda>" (zm xfr) (.expr (zo xfr)) (xU xfr) ["one"] (xoL K a):=by
 refine uJ xjF (fun fv vs H Q E h=>?_) (fun _ _ _ _ _ us hl=>match us,hl with|[_],_=>rfl) (fun A outer s H f clos cdv fv vs Q E hr h=>?_)
 ·obtain⟨l,os,rs,x,rfl,rfl,_⟩:=h;exact⟨rfl,rfl⟩
 ·obtain⟨l,os,rs,x,rfl,rfl,hl,hp,htk,x0,x1,k⟩:=h;have nd:=xjF.nd;refine⟨_,(yx (xa (xA (xF yB (cv 1) (cv 0) (fun _ _=>rfl)) rfl) (xa (xA (xF yB (cv 1) (cv 0) (fun _ _=>rfl)) rfl) xc))),?_⟩;have elen:os.length=rs.length:=hp.length;have hx:x.toNat<os.length:=by lia
  have hx2:x.toNat<rs.length:=by lia
  obtain⟨r,hr1,hr2⟩:=yh hp (aj hx);have ht:=htk r (aB hr1);have eg:rs.getD x.toNat dR=r:=by simp only[bc];rw[hr1];rfl
  rw[eg]at k;have hat:atI (os.map V.ref) x=some (.ref os[x.toNat]):=by
   have:=yV (xs:=os.map V.ref) (j:=x.toNat) (v:=.ref os[x.toNat]) (by simp[hx])
   rwa [bL x0]at this
  cases r with
  |put _ _=>cases ht
  |take to st c=>
   obtain⟨dx,h1⟩:=hr2;walk_at"w";refine⟨l,_,_,_,rfl,rfl,hl,hat,?_⟩;walk_at"w";refine⟨_,_,dx,_,.int c,rfl,h1,T.q0d,T.q0v,rfl,?_⟩;walk_at"w";refine⟨l,_,_,_,rfl,rfl,hl,hat,?_⟩;walk_at"w";refine⟨_,_,dx,_,.int to,rfl,h1,T.q0d,T.q0s,rfl,?_⟩;walk_at"w";exact⟨by walk_at"side",k⟩
theorem xfu(T:Txt K mg a):xy P w K mg base CX0 4 a.q0K a.ug ["takes"] (xfs K a):=by
 refine T.zq.okC ["takes"] T.xe4 xaY (fun vs H Q E h=>?_) (fun A outer s H vs Q E hr h=>?_)
 ·obtain⟨l,os,rs,rfl,_⟩:=h;rfl
 ·obtain⟨l,os,rs,rfl,hl,hp,htk,hle,hP,q⟩:=h;have nd:=xaY.nd;refine⟨_,(jb (x:="takes") (i:=0) nd rfl rfl rfl (by kernel_rfl) (xg (xt (i:=1) nd rfl (aM rfl) (xw (xmn T) (hr.mono (by decide)) (by rfl) T.xm5 T.q2y.kp T.xm4 .nil xp (xa (cv 0) xc)))
  (xg (xt (i:=2) nd rfl (aM rfl) (yK (xkp rfl) (by rfl) T.q3V xn6 (xa (xX (yg (cap:=[]) (ys:=[]) rfl rfl rfl rfl rfl trivial (by decide+kernel)) rfl (zu (by rfl) T.q0W (xa (xq xx (by rfl) T.q0k xM (xa (cv 0) xc)) xc)) (fun _ _ _ _=>(yx (xa (cv 0) (xa vR xc)))) (fun _ _ _ _=>ye)) xc)))
  (xg (xt (i:=3) nd rfl (aM rfl) (yi xc))
  (xg (xt (i:=4) nd rfl (aM rfl) (yi xc))
  (xg (xab PassesOwn.never (xK xfG (xq xln (by rfl) T.q0k xM (xa (cv 2) xc)) xm) (xg (xt (i:=5) nd rfl (aM rfl) (xw (xdP T) (hr.mono (by decide)) (by rfl) T.xeu T.q0I.kp T.xet .nil xp (xa (cv 1) (xa (cv 2) xc))))
  (xg (xeN (xT (xhB (cv 5)) (xg (xt (i:=6) nd rfl (aM rfl) (xw (xg8 T) (hr.mono (by decide)) (by rfl) T.xhX T.q1s.kp T.xhW .nil xp (xa (cv 1) (xa (cv 2) xc))))
  (xg (xt (i:=5) nd rfl (aM rfl) (xou (xcz T) (hr.mono (by decide)) rfl (by rfl) T.q3b (xa (cv 6) xc) (zv (c:=q0o) (P:=yk) (qs:=zb) (fns:=["takes"]) rfl T.q2D (q:="put_in_order.<locals>.<lambda>") (by kernel_rfl) (.head _) (by kernel_rfl) (by kernel_rfl))))
  (xl (xH (zK PySem.F.plainAttrs_list PySem.F.slot_list_append PySem.F.type_list_append yt (cv 4) (xa (yx (xa (xF yB (cv 0) (cv 5) (fun _ _=>rfl)) (xa (xX (yg (cap:=[0]) (ys:=["takes"]) rfl rfl rfl rfl rfl ⟨⟨rfl,rfl,.inl rfl⟩,trivial⟩ (by decide+kernel)) rfl (xW (cv 6)) (fun _ _ _ _=>(xF (xhF (K:=K) rfl) (cv 1) (cv 0) (fun _ _=>rfl))) (fun _ _ _ _=>ye)) xc))) xc)))))) (xl (xH (zK PySem.F.plainAttrs_list PySem.F.slot_list_append PySem.F.type_list_append yt (cv 3) (xa (xF yB (cv 0) (cv 5) (fun _ _=>rfl)) xc))))))
  (xl (xH (xmI (cv 2) (cv 5) ⟨by rfl,by rfl,by decide,by rfl⟩))))))
  (xl (xu (yx (xa (cv 3) (xa (cv 4) xc))))))))))),?_⟩
  have elen:os.length=rs.length:=hp.length;walk_at"w";intro a1 e1 z1 d1;refine dF z1 ?_;generalize hU1:upd H a1 _=H1;have s1:=xb.of_eq z1 hU1;have c1:=xn hU1;clear hU1;walk_at"w";refine⟨l,rs,rfl,⟨os,s1.seq hl,L2.Paired.imp' (fun _ _ z=>z.same s1) hp⟩,hle,htk,fun D as H2 s2 L=>?_⟩;walk_at"w";refine⟨l,_,rfl,.inl ((s1.trans s2).seq hl),?_⟩;walk_at"w";have en:yv 0 ((os.map V.ref).length:Nat) 1=rs.length:=by rw[zQ,af,elen];lia
  rw[en];refine xaP (fun i acc G=>∃ts:List Addr,acc=ts.map V.ref∧Paired (fun t (kv:Key×V)=>G t=some (.tup [kV kv.1,kv.2])) ts ((a9 i).map fun(j:Nat)=>((cX (j:Int),V.bl true):Key×V))) (by rw[ax];lia) ⟨[],rfl,.nil⟩ (fun i acc H3 H3' hi s3 s3' hPv R hR=>?_) (fun D2 acc H3 H3' hD2 hD2' s3 s3' hPv hacc hv2=>?_)
  ·obtain⟨ts,rfl,hts⟩:=hPv;have ek:(0:Int)+(i:Int)*1=(i:Int):=by lia
   rw[ek];walk_at"w";refine⟨by walk_at"side",fun t ht=>hR _ _ (xb.new ht) fun G sG kG=>⟨ts++[t],by simp,?_⟩⟩;rw[fE,aJ];exact yo (L2.Paired.imp' (fun _ _ z=>sG.at z) hts) (kG t _ (.inl ht) xk)
  obtain⟨ts,rfl,hts⟩:=hPv;have s03:xb H1 H3':=s2.trans (s3.trans s3');walk_at"w";refine⟨D2,ts,_,rfl,SqL.of hv2,L2.Paired.imp' (fun _ _ z=>s3'.at z) hts,?_,fun d hd=>?_⟩
  ·rw[cm];exact cK.mpr (dZ.imp fun h e=>h (by have:=Sum.inl.inj e;lia))
  generalize hU4:upd H3' d _=H4;have s4:=xb.of_eq hd hU4;have c4:=xn hU4;clear hU4;walk_at"w";walk_at"ss";intro o ho;generalize hUo:upd H4 o _=H5;have sH5:=xb.of_eq ho hUo;have eo:=xn hUo;clear hUo;walk_at"w";walk_at"w";walk_at"ss";intro t ht;generalize hUt:upd H5 t _=H6;have sH6:=xb.of_eq ht hUt;have et:=xn hUt;clear hUt;walk_at"w";walk_at"w";have s26:xb H2 H6:=(s3.trans s3').trans (s4.trans (sH5.trans sH6));have fd:H2 d=none:=(s3.trans s3').back hd;have fo:H2 o=none:=((s3.trans s3').trans s4).back ho;have ft:H2 t=none:=(((s3.trans s3').trans s4).trans sH5).back ht;have hot:o≠t:=fun z=>by rw[z]at eo;rw[ht]at eo;cases eo
  have hspl:(yw rs).length=rs.length:=by simp[yw]
  have hspo:∀xs∈yw rs,xs.length≤1000:=fun xs hx=>by
   obtain⟨k,_,rfl⟩:=a7.mp hx;unfold xa4;rw[af];refine bg (b8 _ _) ?_;simp;lia
  refine uz (m:=rs.length) (fun m σ G=>xb H2 G∧∃(left:List Int) (kvs:List (Key×V)) (ord:List Int) (tur:List (Int×List Int)) (trs:List Addr) (z5 z6:Option V),m=left.length∧σ=[some (.ref l),some (.ref D),some (.ref d),some (.ref o),some (.ref t),z5,z6]∧G d=some (.dK kvs)∧kvs.map (·.1)=left.map cX∧(∀x∈left,0≤x∧x<rs.length)∧
   G o=some (.lst (ord.map fun x=>V.ref (os.getD x.toNat 0)))∧G t=some (.lst (trs.map V.ref))∧Paired (xir os G o t) trs tur∧ord.length+tur.length+left.length≤rs.length∧
   ∀ord' tur',Goes (yw rs) (fun x=>vX (rs.getD x.toNat dR)) left ord' tur'→Goes (yw rs) (fun x=>vX (rs.getD x.toNat dR)) ((a9 rs.length).map fun(i:Nat)=>(i:Int)) (ord++ord') (tur++tur'))
   ⟨s26,(a9 rs.length).map fun(i:Nat)=>(i:Int),_,[],[],[],_,_,by simp,rfl,(sH5.trans sH6).at c4,by rw[cm,cm];rfl,fun x hx=>?_,sH6.at eo,et,.nil,by simp,fun _ _ g=>g⟩ (fun m σ G hPv=>?_)
  ·obtain⟨i,hi,rfl⟩:=a7.mp hx;have:=bx.mp hi;exact⟨by lia,by lia⟩
  obtain⟨sG,left,kvs,ord,tur,trs,z5,z6,rfl,rfl,hdG,hks,hlo,hoG,htG,hpt,hsz,hgo⟩:=hPv;have hkl:kvs.length=left.length:=by have:=congrArg cC hks;simpa using this
  have LG:=L.same sG;walk_at"w";refine⟨d,kvs,rfl,hdG,?_⟩;walk_at"w";refine⟨fun e=>?_,fun e=>?_⟩
  ·refine⟨_,fun _ _ z=>z,?_⟩;have hlp:0<left.length:=by have:=of_decide_eq_true e;lia
   obtain⟨M,eM⟩:∃M:L2.St→Hp→Prop,M=fun σ' G'=>∃(kn:Int) (y6:Option V),σ'=[some (.ref l),some (.ref D),some (.ref d),some (.ref o),some (.ref t),some (.int kn),y6]∧kn∈left∧xb H2 G'∧G' d=some (.dK kvs)∧∃(ord1:List Int) (tur1:List (Int×List Int)) (trs1:List Addr),G' o=some (.lst (ord1.map fun x=>V.ref (os.getD x.toNat 0)))∧G' t=some (.lst (trs1.map V.ref))∧Paired (xir os G' o t) trs1 tur1∧ord1.length+tur1.length+left.length≤rs.length+1∧
    ∀ord' tur',Goes (yw rs) (fun x=>vX (rs.getD x.toNat dR)) (left.filter fun x=>decide (x≠kn)) ord' tur'→Goes (yw rs) (fun x=>vX (rs.getD x.toNat dR)) ((a9 rs.length).map fun(i:Nat)=>(i:Int)) (ord1++ord') (tur1++tur'):=⟨_,rfl⟩
   walk_at"w";refine⟨D,d,as,H1,yw rs,kvs,left,rfl,LG,hdG,hks,fun x hx=>by rw[hspl];exact hlo x hx,by lia,hspo,fun kn hkn hh G1 g1=>?_,fun hall G1 g1=>?_⟩
   ·walk_at"w";refine⟨M,?_,fun σ' H' hM=>?_⟩
    ·walk_at"w";refine⟨by walk_at"no",fun _=>?_⟩;walk_at"w";refine⟨.inl ⟨rfl,_,SqL.of (g1.at hoG)⟩,?_⟩;walk_at"w";have hok:=hlo kn hkn;have hat:atI (os.map V.ref) kn=some (.ref (os.getD kn.toNat 0)):=by
      have hx:kn.toNat<os.length:=by lia
      have:=yV (xs:=os.map V.ref) (j:=kn.toNat) (v:=.ref os[kn.toNat]) (by simp[hx]);rw[bL hok.1]at this;rw[this];simp[bc,hx]
     refine⟨l,_,_,_,rfl,rfl,(s1.trans (s2.trans (sG.trans g1))).seq hl,hat,?_⟩;walk_at"w";refine⟨o,_,_,rfl,rfl,g1.at hoG,by rw[af,ax];lia,?_⟩;generalize hU:upd G1 o _=G2;have eo2:G2 o=some (.lst ((ord++[kn]).map fun x=>V.ref (os.getD x.toNat 0))):=by rw[←hU,xk,aJ];rfl
     have off:∀b u,b≠o→G b=some u→G2 b=some u:=fun b u hb e=>by rw[←hU,xj hb];exact g1.at e
     have s2G:xb H2 G2:=xb.wr (sG.trans g1) fo hU;clear hU;subst eM;refine⟨kn,z6,rfl,hkn,s2G,off d _ (fun z=>by rw[z]at hdG;rw[hdG]at hoG;cases hoG) hdG,ord++[kn],tur,trs,eo2,off t _ (aR hot) htG,L2.Paired.imp' (fun p kr z=>?_) hpt,by rw[av,bB];lia,fun ord' tur' g=>?_⟩
     ·obtain⟨rl,n1,n2,x1,x2⟩:=z;exact⟨rl,n1,n2,off _ _ (fun z=>by rw[z]at x1;rw[x1]at hoG;cases hoG) x1,off _ _ n1 x2⟩
     ·have:=hgo (kn::ord') tur' (.keep kn hkn hh g);rw[cJ];exact this
    subst eM
    ·obtain⟨kn,y6,rfl,hkm,sM,dM,⟨ord1,tur1,trs1,oM,tM,pM,zM,gM⟩⟩:=hM;have hsome:(zI kvs (.inl kn)).isSome=true:=by rw[xa3 hks];exact decide_eq_true hkm
     obtain⟨vv,hvv⟩:=fM.mp hsome;walk_at"w";refine⟨d,rfl,.inl ⟨_,.inl dM⟩,?_⟩;walk_at"w";refine⟨kvs,.inl kn,vv,dM,rfl,hvv,?_⟩;generalize hU:upd H' d _=G2;have ed2:G2 d=some (.dK (jK kvs (.inl kn))):=by rw[←hU,xk]
     have off:∀b u,b≠d→H' b=some u→G2 b=some u:=fun b u hb e=>by rw[←hU,xj hb];exact e
     have s2G:xb H2 G2:=xb.wr sM fd hU;clear hU;have hfl:=xd6 hkm;refine⟨_,hfl,s2G,left.filter fun x=>decide (x≠kn),_,ord1,tur1,trs1,_,_,rfl,rfl,ed2,xci hks,fun x hx=>hlo x (aU.mp hx).1,off o _ (fun z=>by rw[z]at oM;rw[oM]at dM;cases dM) oM,off t _ (fun z=>by rw[z]at tM;rw[tM]at dM;cases dM) tM,L2.Paired.imp' (fun p kr z=>?_) pM,by lia,gM⟩;obtain⟨rl,n1,n2,x1,x2⟩:=z;exact⟨rl,n1,n2,off _ _ (fun z=>by rw[z]at x1;rw[x1]at dM;cases dM) x1,off _ _ (fun z=>by rw[z]at x2;rw[x2]at dM;cases dM) x2⟩
   ·walk_at"w";refine⟨M,?_,fun σ' H' hM=>?_⟩
    ·walk_at"w";refine⟨fun _=>?_,by walk_at"no"⟩;walk_at"w";have hLok:xdl (yw rs) left:=fun x hx=>⟨(hlo x hx).1,by rw[hspl];exact(hlo x hx).2,hall x hx⟩;refine⟨D,d,as,H1,yw rs,kvs,left,rfl,LG.same g1,g1.at hdG,hks,g9 hlp,by lia,hLok,by lia,hspo,fun ring hring r G2 g2 hr2 er2=>?_⟩;walk_at"w";have hat:∀x∈left,atI (os.map V.ref) x=some (.ref (os.getD x.toNat 0)):=fun x hx=>by
      have hok:=hlo x hx;have hx:x.toNat<os.length:=by lia
      have:=yV (xs:=os.map V.ref) (j:=x.toNat) (v:=.ref os[x.toNat]) (by simp[hx]);rw[bL hok.1]at this;rw[this];simp[bc,hx]
     obtain⟨rg1,rg2,rg3,_⟩:=xgM hLok (fun x hx=>xft (hlo x hx).1 (hlo x hx).2) hring;have rgl:ring.length≤1000:=by
      have:=xaQ rg2 rg3;lia
     have sH2:xb H G2:=s1.trans (s2.trans (sG.trans (g1.trans g2)));refine⟨sH2.at hP,[("takes",.ref l)],rfl,fun x v m=>?_,fun f G3 hf g3 hcl=>?_⟩
     ·simp only[ar,f9,bu,or_false]at m;obtain⟨rfl,rfl⟩:=m;exact⟨a1,e1,(s2.trans (sG.trans (g1.trans g2))).at c1⟩
     walk_at"w";refine⟨r,f,ring,_,fun i=>vX (rs.getD (ring.getD i 0).toNat dR),rfl,rfl,SqL.of (g3.at er2),by lia,hcl,fun i x hx G4 g4=>?_,fun G4 g4=>?_⟩
     ·have hxm:x∈left:=rg3 x (aB hx);refine⟨l,os,rs,x,rfl,rfl,(sH2.trans (g3.trans g4)).seq hl,L2.Paired.imp' (fun _ _ z=>z.same (sH2.trans (g3.trans g4))) hp,htk,(hlo x hxm).1,(hlo x hxm).2,fun dd hdd=>⟨xb.new hdd,dd,rfl,?_⟩⟩;have:ring.getD i 0=x:=by simp[bc,hx]
      rw[xk];show _=some (HO.tup ((vX (rs.getD (ring.getD i 0).toNat dR)).map V.int));rw[this]
     have hbl:=xlR (fun i=>vX (rs.getD (ring.getD i 0).toNat dR)) (ring.length - 1);generalize hkn:ring.getD (bst (fun i=>vX (rs.getD (ring.getD i 0).toNat dR)) (ring.length - 1)) 0=kn;have hkr:kn∈ring:=by
      rw[←hkn];exact getD_mem (by lia)
     have hkm:=rg3 kn hkr;have g14:xb G G4:=g1.trans (g2.trans (g3.trans g4));have sH4:xb H G4:=sH2.trans (g3.trans g4);walk_at"w";refine⟨.inl ⟨rfl,_,SqL.of (g14.at htG)⟩,?_⟩;walk_at"w";refine⟨l,_,_,_,rfl,rfl,sH4.seq hl,hat kn hkm,?_⟩;walk_at"w";refine⟨_,rfl,⟨_,SqL.of ((g3.trans g4).at er2)⟩,?_⟩;refine xcN (refOf os) (SqL.of ((g3.trans g4).at er2)) (by rw[af,ax];lia) (fun v G5 hv g5 R hR=>?_) (fun rl G5 hrl g5 erl=>?_)
     ·obtain⟨x,hx,rfl⟩:=a7.mp hv;walk_at"w";refine⟨l,_,_,_,rfl,rfl,(sH4.trans g5).seq hl,hat x (rg3 x hx),?_⟩;exact hR _ (xb.refl _)
     walk_at"w";refine⟨by walk_at"side",fun p hpn=>?_⟩;generalize hV:upd G5 p _=G6;have g6:=xb.of_eq hpn hV;have ep6:=xn hV;clear hV;have g06:xb G G6:=g14.trans (g5.trans g6);walk_at"w";refine⟨t,_,_,rfl,rfl,g06.at htG,by rw[af,hpt.length,ax];lia,?_⟩;generalize hU:upd G6 t _=G7;have et7:G7 t=some (.lst ((trs++[p]).map V.ref)):=by rw[←hU,xk,aJ];rfl
     have off:∀b u,b≠t→G6 b=some u→G7 b=some u:=fun b u hb e=>by rw[←hU,xj hb];exact e
     have s2G:xb H2 G7:=xb.wr (sG.trans g06) ft hU;clear hU;have fp:G p=none:=(g14.trans g5).back hpn;have frl:G rl=none:=g14.back hrl;have hrlo:rl≠o:=fun z=>by rw[z]at frl;rw[frl]at hoG;cases hoG
     have hrlt:rl≠t:=fun z=>by rw[z]at frl;rw[frl]at htG;cases htG
     subst eM;refine⟨kn,_,rfl,hkm,s2G,off d _ (fun z=>by rw[z]at hdG;rw[hdG]at htG;cases htG) (g06.at hdG),ord,tur++[(kn,ring)],trs++[p],off o _ hot (g06.at hoG),et7,yo (L2.Paired.imp' (fun p' kr z=>?_) hpt) ⟨rl,hrlo,hrlt,off _ _ (fun z=>by rw[z]at fp;rw[fp]at htG;cases htG) ep6,off _ _ hrlt (g6.at (by rw[erl,cm];rfl))⟩,by rw[av,bB];lia,fun ord' tur' g=>?_⟩
     ·obtain⟨rl',n1,n2,x1,x2⟩:=z;exact⟨rl',n1,n2,off _ _ (fun z=>by rw[z]at x1;rw[x1]at htG;cases htG) (g06.at x1),off _ _ n2 (g06.at x2)⟩
     ·have:=hgo ord' ((kn,ring)::tur') (.turn kn hall hring hkn.symm hkm g);rw[cJ];exact this
    subst eM
    ·obtain⟨kn,y6,rfl,hkm,sM,dM,⟨ord1,tur1,trs1,oM,tM,pM,zM,gM⟩⟩:=hM;have hsome:(zI kvs (.inl kn)).isSome=true:=by rw[xa3 hks];exact decide_eq_true hkm
     obtain⟨vv,hvv⟩:=fM.mp hsome;walk_at"w";refine⟨d,rfl,.inl ⟨_,.inl dM⟩,?_⟩;walk_at"w";refine⟨kvs,.inl kn,vv,dM,rfl,hvv,?_⟩;generalize hU:upd H' d _=G2;have ed2:G2 d=some (.dK (jK kvs (.inl kn))):=by rw[←hU,xk]
     have off:∀b u,b≠d→H' b=some u→G2 b=some u:=fun b u hb e=>by rw[←hU,xj hb];exact e
     have s2G:xb H2 G2:=xb.wr sM fd hU;clear hU;have hfl:=xd6 hkm;refine⟨_,hfl,s2G,left.filter fun x=>decide (x≠kn),_,ord1,tur1,trs1,_,_,rfl,rfl,ed2,xci hks,fun x hx=>hlo x (aU.mp hx).1,off o _ (fun z=>by rw[z]at oM;rw[oM]at dM;cases dM) oM,off t _ (fun z=>by rw[z]at tM;rw[tM]at dM;cases dM) tM,L2.Paired.imp' (fun p kr z=>?_) pM,by lia,gM⟩;obtain⟨rl,n1,n2,x1,x2⟩:=z;exact⟨rl,n1,n2,off _ _ (fun z=>by rw[z]at x1;rw[x1]at dM;cases dM) x1,off _ _ (fun z=>by rw[z]at x2;rw[x2]at dM;cases dM) x2⟩
  ·have hl0:left=[]:=fV.mp (by have:=of_decide_eq_false e;lia);subst hl0;walk_at"w";refine⟨by walk_at"side",fun p hpn=>?_⟩;have sGp:=xb.new (o:=HO.tup [.ref o,.ref t]) hpn;have g:=hgo [] [] .nil;rw[dI,dI]at g;have sHG:xb H G:=s1.trans (s2.trans sG);exact q p o t ord tur trs _ (sHG.trans sGp) (sHG.back hpn) ((s1.trans s2).back fo) ((s1.trans s2).back ft) hot xk (sGp.at hoG) (sGp.at htG) (L2.Paired.imp' (fun p kr z=>by obtain⟨rl,n1,n2,x1,x2⟩:=z;exact⟨rl,n1,n2,sGp.at x1,sGp.at x2⟩) hpt) g
end
namespace ML
theorem xjG:∀xs:List Int,HT.lexLt xs xs=false
 |[]=>rfl
 |x::xs=>by rw[HT.yX,if_pos rfl];exact xjG xs
theorem xfv:∀{xs ys zs:List Int},HT.lexLt xs ys=true→HT.lexLt ys zs=true→HT.lexLt xs zs=true
 |[],[],_,h,_=>by cases h
 |_::_,[],_,h,_=>by cases h
 |[],_::_,[],_,h=>by cases h
 |[],_::_,_::_,_,_=>rfl
 |_::_,_::_,[],_,h=>by cases h
 |x::xs,y::ys,z::zs,h1,h2=>by
  rw[HT.yX]at h1 h2⊢
  split at h1
  ·rename_i e1;subst e1
   split at h2
   ·rename_i e2;rw[if_pos e2];exact xfv h1 h2
   ·rename_i e2;rw[if_neg e2];exact h2
  ·rename_i e1;have g1:=of_decide_eq_true h1
   split at h2
   ·rename_i e2;subst e2;rw[if_neg e1];exact h1
   ·have g2:=of_decide_eq_true h2;rw[if_neg (by omega)];exact decide_eq_true (by omega)
theorem xjH:∀{xs ys:List Int},xs.length≠ys.length→HT.lexLt xs ys=true∨HT.lexLt ys xs=true
 |[],[],h=>absurd rfl h
 |[],_::_,_=>.inl rfl
 |_::_,[],_=>.inr rfl
 |x::xs,y::ys,h=>by
  rw[HT.yX,HT.yX]
  by_cases e:x=y
  ·rw[if_pos e,if_pos e.symm];exact xjH (by simpa using h)
  ·rw[if_neg e,if_neg (fun z=>e z.symm)];rcases Int.lt_or_lt_of_ne e with z|z
   ·exact .inl (decide_eq_true z)
   ·exact .inr (decide_eq_true z)
theorem xoM(es:List Int):STO (fun i j=>HT.lexLt (es.drop i) (es.drop j)) es.length where
 irr:=fun i _=>xjG _
 tr:=fun i j k _ _ _ h1 h2=>xfv h1 h2
 tot:=fun i j hi hj hne=>xjH (by rw[aX,aX];lia)
def xcj(es:List Int)(p:List Nat):Prop:=p.Perm (a9 es.length)∧p.Pairwise fun i j=>HT.lexLt (es.drop i) (es.drop j)=true
abbrev xhl:Expr:=xkd (xpB ((xD zU).getD 0 (.Pass ⟨0,0,0,0⟩)))
theorem xmo:zf ["at","text"] ["at"] ["text"] (xU xhl):=⟨rfl,rfl,rfl,by decide+kernel,rfl,by decide+kernel,by decide+kernel,by decide+kernel⟩
def xpT:List (Str×V)→Sp:=fun fv vs H Q _=>∃(e:Addr) (es:List Int) (i:Int),fv=([("text",.ref e)]:List (Str×V))∧vs=[.int i]∧H e=some (.lst (es.map V.int))∧0≤i∧∀d,H d=none→Q (.ref d) (upd H d (.lst ((es.drop i.toNat).map V.int)))
def xkR:Sp:=fun vs H Q _=>∃(e:Addr) (es:List Int),vs=[.ref e]∧H za=some (.tbl ue)∧H e=some (.lst (es.map V.int))∧es.length<64∧∀(l:Addr) (p:List Nat) (H':Hp),xb H H'→H l=none→H' l=some (.lst (p.map fun(i:Nat)=>V.int i))→xcj es p→Q (.ref l) H'
def lcp:List Int→List Int→Nat
 |x::xs,y::ys=>if x=y then lcp xs ys+1 else 0
 |_,_=>0
theorem uS(x y:Int)(xs ys:List Int):lcp (x::xs) (y::ys)=if x=y then lcp xs ys+1 else 0:=rfl
theorem xdo:∀xs ys:List Int,lcp xs ys≤ys.length
 |[],_=>aN _
 |_::_,[]=>ak _
 |x::xs,y::ys=>by
  rw[uS];have:=xdo xs ys
  split<;> simp<;> omega
theorem xmp:∀{a b c:List Int},HT.lexLt a b=true→HT.lexLt b c=true→lcp a c≤lcp b c
 |[],_,_,_,_=>aN _
 |_::_,[],_,h,_=>by cases h
 |_::_,_::_,[],_,h=>by cases h
 |x::a,y::b,z::c,h1,h2=>by
  rw[HT.yX]at h1 h2;rw[uS,uS]
  by_cases e:x=z
  ·subst e;rw[if_pos rfl]
   by_cases e1:x=y
   ·subst e1;rw[if_pos rfl]at h1 h2⊢;have:=xmp h1 h2;lia
   ·rw[if_neg e1]at h1;rw[if_neg (fun q=>e1 q.symm)]at h2;have:=of_decide_eq_true h1;have:=of_decide_eq_true h2;lia
  ·rw[if_neg e];exact aN _
theorem xis:∀{a b c:List Int},HT.lexLt b a=true→HT.lexLt b c=false→lcp a c≤lcp b c
 |[],_,_,_,_=>aN _
 |_::_,_,[],_,_=>aN _
 |_::_,[],_::_,_,h=>by cases h
 |x::a,y::b,z::c,h1,h2=>by
  rw[HT.yX]at h1 h2;rw[uS,uS]
  by_cases e:x=z
  ·subst e;rw[if_pos rfl]
   by_cases e1:y=x
   ·subst e1;rw[if_pos rfl]at h1 h2⊢;have:=xis h1 h2;lia
   ·rw[if_neg e1]at h1 h2;rw[h1]at h2;cases h2
  ·rw[if_neg e];exact aN _
theorem xaL:∀{m:Nat} {xs ys:List Int},m≤ys.length→(xs.take m=ys.take m↔m≤lcp xs ys)
 |0,xs,ys,_=>by simp
 |m+1,xs,[],h=>by simp at h
 |m+1,[],y::ys,_=>by simp[lcp]
 |m+1,x::xs,y::ys,h=>by
  have:=xaL (m:=m) (xs:=xs) (ys:=ys) (by simpa using h);rw[gK,gK,uS]
  by_cases e:x=y
  ·subst e;rw[if_pos rfl];simp[this]
  ·rw[if_neg e];simp[e]
theorem xnt{xs ys:List Int}{k:Nat}(hk:xs.take k=ys.take k)(h1:k<xs.length)(h2:k<ys.length):(xs[k]=ys[k]↔xs.take (k+1)=ys.take (k+1)):=by
 rw[d7 h1,d7 h2,hk];refine⟨fun e=>by rw[e],fun e=>?_⟩;have:=List.append_cancel_left e;simpa using this
theorem xnu{xs ys:List Int}{k:Nat}(hk:xs.take k=ys.take k)(hy:k≤ys.length)(hn:k<xs.length→k<ys.length→xs.take (k+1)≠ys.take (k+1))(hx:k≤xs.length):lcp xs ys=k:=by
 have h1:=(xaL hy).mp hk
 by_cases h:lcp xs ys≤k
 ·lia
 ·have hl:=xdo xs ys;have h2:=(xaL (m:=k+1) (xs:=xs) (ys:=ys) (by lia)).mpr (by lia);have hlen:=congrArg cC h2;rw[bM,bM]at hlen;exact absurd h2 (hn (by lia) (by lia))
def xit(es:List Int)(p:List Nat)(ps:List Int)(L:Nat):Prop:=L≤p.length∧(∀i,i<L→HT.lexLt (es.drop (p.getD i 0)) ps=true)∧∀i,L≤i→i<p.length→HT.lexLt (es.drop (p.getD i 0)) ps=false
theorem xfw{es:List Int}{p:List Nat}(hp:xcj es p){i j:Nat}(h:i<j)(hj:j<p.length):HT.lexLt (es.drop (p.getD i 0)) (es.drop (p.getD j 0))=true:=by
 have:=bT.mp hp.2 i j (by lia) hj h;simp only[bc,aj hj,aj (show i<p.length by lia),Option.getD_some];exact this
def around(p:List Nat)(L:Nat):List Nat:=(p.drop (L - 1)).take (L+1 - (L - 1))
theorem xfx{p:List Nat}{L j:Nat}(h1:L - 1≤j)(h2:j≤L)(h3:j<p.length):p.getD j 0∈around p L:=by
 unfold around;refine aB (i:=j - (L - 1)) ?_;rw[dG,if_pos (by lia),ck,show L - 1+(j - (L - 1))=j by lia,aj h3];simp[bc,h3]
theorem xd7{es:List Int}{p:List Nat}{ps:List Int}{L:Nat}(hp:xcj es p)(hL:xit es p ps L){i:Nat}(hi:i<es.length):∃b∈around p L,lcp (es.drop i) ps≤lcp (es.drop b) ps:=by
 obtain⟨j,hj,e⟩:=cZ.mp (hp.1.mem_iff.mpr (bx.mpr hi));have ej:p.getD j 0=i:=by simp[bc,hj,e]
 obtain⟨h0,h1,h2⟩:=hL
 by_cases h:j<L
 ·refine⟨p.getD (L - 1) 0,xfx (ak _) (by omega) (by omega),?_⟩
  by_cases q:j=L - 1
  ·rw[←q,ej];exact ak _
  ·have a1:=xfw hp (show j<L - 1 by omega) (by omega);rw[ej]at a1;exact xmp a1 (h1 _ (by omega))
 ·refine⟨p.getD L 0,xfx (by omega) (ak _) (by omega),?_⟩
  by_cases q:j=L
  ·rw[←q,ej];exact ak _
  ·have a1:=xfw hp (show L<j by omega) hj;rw[ej]at a1;exact xis a1 (h2 _ (ak _) (by omega))
theorem xgN{es:List Int}{p:List Nat}{L b:Nat}(hp:xcj es p)(h:b∈around p L):b<es.length:=
 bx.mp (hp.1.mem_iff.mp (c6 (c5 h)))
def zY(es ps:List Int)(n a c:Nat):Prop:=(∀i,i<n→lcp (es.drop i) ps≤c)∧((c=0∧a=0)∨(0<c∧a<n∧lcp (es.drop a) ps=c∧∀i,i<a→lcp (es.drop i) ps<c))
theorem zY.uniq{es ps:List Int}{n a c a' c':Nat}(h:zY es ps n a c)(h':zY es ps n a' c'):a=a'∧c=c':=by
 obtain⟨h1,h2⟩:=h;obtain⟨g1,g2⟩:=h';rcases h2 with⟨rfl,rfl⟩|⟨h2,h3,h4,h5⟩
 ·rcases g2 with⟨rfl,rfl⟩|⟨g2,g3,g4,g5⟩
  ·exact⟨rfl,rfl⟩
  ·have:=h1 a' g3;lia
 ·rcases g2 with⟨rfl,rfl⟩|⟨g2,g3,g4,g5⟩
  ·have:=g1 a h3;lia
  ·have b1:=h1 a' g3;have b2:=g1 a h3;have ec:c=c':=by lia
   refine⟨?_,ec⟩
   by_cases q:a=a'
   ·exact q
   ·exfalso;rcases Nat.lt_or_gt_of_ne q with z|z
    ·have:=g5 a z;lia
    ·have:=h5 a' z;lia
theorem xnv{es:List Int}{p:List Nat}{ps:List Int}{L:Nat}(hp:xcj es p)(hL:xit es p ps L){m:Int}
  (h0:(around p L).map (fun b=>((lcp (es.drop b) ps:Nat):Int))=[]→m=0)
  (h1:(around p L).map (fun b=>((lcp (es.drop b) ps:Nat):Int))≠[]→m∈(around p L).map (fun b=>((lcp (es.drop b) ps:Nat):Int))∧∀a∈(around p L).map (fun b=>((lcp (es.drop b) ps:Nat):Int)),a≤m):
  ∃c:Nat,m=c∧(∀i,i<es.length→lcp (es.drop i) ps≤c)∧(c=0∨∃a,a<es.length∧lcp (es.drop a) ps=c):=by
 by_cases e:around p L=[]
 ·refine⟨0,h0 (by rw[e];rfl),fun i hi=>?_,.inl rfl⟩;obtain⟨b,hb,_⟩:=xd7 hp hL hi;rw[e]at hb;cases hb
 ·obtain⟨hm,hle⟩:=h1 (by simpa using e);obtain⟨b,hb,rfl⟩:=a7.mp hm;refine⟨_,rfl,fun i hi=>?_,.inr ⟨b,xgN hp hb,rfl⟩⟩;obtain⟨b2,hb2,h2⟩:=xd7 hp hL hi;have:=hle _ (fz hb2);lia
theorem xoN{es ps:List Int}{c a:Nat}(h1:∀i,i<es.length→lcp (es.drop i) ps≤c)(hc:0<c)(ha:a<es.length)(h2:c≤lcp (es.drop a) ps)(h3:∀i,i<es.length→c≤lcp (es.drop i) ps→a≤i):zY es ps es.length a c:=by
 refine⟨h1,.inr ⟨hc,ha,by have:=h1 a ha;lia,fun i hi=>?_⟩⟩
 by_cases q:c≤lcp (es.drop i) ps
 ·have:=h3 i (by lia) q;lia
 ·lia
def xnw:Sp:=fun vs H Q _=>∃(e q:Addr) (es ps:List Int) (i:Nat),vs=[.ref e,.int i,.ref q]∧H e=some (.lst (es.map V.int))∧H q=some (.lst (ps.map V.int))∧i≤es.length∧Q (.int (lcp (es.drop i) ps:Nat)) H
def xeD:Sp:=fun vs H Q _=>∃(e t q:Addr) (es ps:List Int) (p:List Nat),vs=[.ref e,.ref t,.ref q]∧H e=some (.lst (es.map V.int))∧H t=some (.lst (p.map fun(i:Nat)=>V.int i))∧H q=some (.lst (ps.map V.int))∧xcj es p∧∀(L:Nat) (H':Hp),xb H H'→xit es p ps L→Q (.int L) H'
def xkS:Sp:=fun vs H Q _=>∃(e t q:Addr) (es ps:List Int) (p:List Nat),vs=[.ref e,.ref t,.ref q]∧H e=some (.lst (es.map V.int))∧H t=some (.lst (p.map fun(i:Nat)=>V.int i))∧H q=some (.lst (ps.map V.int))∧xcj es p∧es.length<64∧ps.length<100∧
 ∀(r:Addr) (a c:Nat) (H':Hp),xb H H'→H r=none→H' r=some (.tup [.int a,.int c])→zY es ps es.length a c→Q (.ref r) H'
def jl(es ps:List Int)(least:Int):Prop:=∀a c,zY es ps es.length a c→(c:Int)<least
def xQ(es ns:List Int)(least:Int):Nat→Bool→List xf→Nat→Bool→Prop
 |i,b,[],j,b'=>i=j∧b=b'
 |i,b,.put to sg::rs,j,b'=>b=false∧to=i∧sg≠[]∧i+sg.length≤ns.length∧sg=(ns.drop i).take sg.length∧(∀k,k<sg.length→jl es (ns.drop (i+k)) least)∧xQ es ns least (i+sg.length) true rs j b'
 |i,_,.take to st c::rs,j,b'=>∃st' c':Nat,to=i∧st=st'∧c=c'∧i+c'≤ns.length∧0<c'∧least≤c'∧zY es (ns.drop i) es.length st' c'∧xQ es ns least (i+c') false rs j b'
theorem xQ.app{es ns:List Int}{least:Int}:∀{rs rs':List xf} {i j k:Nat} {b b' b'':Bool},xQ es ns least i b rs j b'→xQ es ns least j b' rs' k b''→xQ es ns least i b (rs++rs') k b''
 |[],_,_,_,_,_,_,_,⟨h1,h2⟩,h'=>by subst h1;subst h2;exact h'
 | .put to sg::rs,_,_,_,_,_,_,_,h,h'=>by
  obtain⟨h1,h2,h3,h4,h5,h6,h7⟩:=h;exact⟨h1,h2,h3,h4,h5,h6,h7.app h'⟩
 | .take to st c::rs,_,_,_,_,_,_,_,h,h'=>by
  obtain⟨st',c',h1,h2,h3,h4,h5,h6,h7,h8⟩:=h;exact⟨st',c',h1,h2,h3,h4,h5,h6,h7,h8.app h'⟩
def vB(i:Int)(sg:List Int):List xf:=if sg=[]then[]else[.put (i - sg.length) sg]
def xiu(a:Adr):Sp:=fun vs H Q _=>∃(p dx q:Addr) (to:Int) (xs:List Int),vs=[.ref p,.int to,.ref q]∧H p=some (.ins a.q0c dx [])∧H q=some (.lst (xs.map V.int))∧
 ∀(u:Addr) (H':Hp),H u=none→(∀b o,b≠p→H b=some o→H' b=some o)→H' p=some (.ins a.q0c dx (xca to u xs.length))→H' u=some (.tup (xs.map V.int))→Q .non H'
def xeE(K:ah)(a:Adr):Sp:=fun vs H Q _=>∃(q:Addr) (i:Int) (xs:List Int),vs=[.int i,.ref q]∧H q=some (.lst (xs.map V.int))∧
 ∀(l:Addr) (os:List Addr) (H':Hp),xb H H'→H l=none→H' l=some (.lst (os.map V.ref))→Paired (xB K a H') os (vB i xs)→Q (.ref l) H'
def xg9(K:ah)(a:Adr):Sp:=fun vs H Q _=>∃(e n:Addr) (es ns:List Int) (least:Int),vs=[.ref e,.ref n,.int least]∧H za=some (.tbl ue)∧H e=some (.lst (es.map V.int))∧H n=some (.lst (ns.map V.int))∧es.length<64∧ns.length<100∧1≤least∧
 ∀(l:Addr) (os:List Addr) (rs:List xf) (b:Bool) (H':Hp),xb H H'→H l=none→H' l=some (.lst (os.map V.ref))→Paired (xB K a H') os rs→xQ es ns least 0 false rs ns.length b→Q (.ref l) H'
theorem xB.off{K:ah}{a:Adr}{H:Hp}{t p:Addr}{r:xf}{xs:List V}{o:HO}(h:xB K a H t r)(hp:H p=some (.lst xs)):xB K a (upd H p o) t r:=by
 cases r with
 |take to st c=>obtain⟨dx,h⟩:=h;exact⟨dx,by rw[xj (uD h hp (by intro z;cases z))];exact h⟩
 |put to sg=>
  obtain⟨dx,u,h1,h2⟩:=h;exact⟨dx,u,by rw[xj (uD h1 hp (by intro z;cases z))];exact h1,by rw[xj (uD h2 hp (by intro z;cases z))];exact h2⟩
theorem xQ.put{es ns:List Int}{least:Int}{i:Nat}{sg:List Int}(h1:i+sg.length≤ns.length)(h2:sg=(ns.drop i).take sg.length)(h3:∀k,k<sg.length→jl es (ns.drop (i+k)) least):xQ es ns least i false (vB ((i+sg.length:Nat):Int) sg) (i+sg.length) (decide (sg≠[])):=by
 unfold vB
 by_cases h:sg=[]
 ·rw[if_pos h,h];exact⟨rfl,rfl⟩
 ·rw[if_neg h,decide_eq_true h];exact⟨rfl,by lia,h,h1,h2,h3,rfl,rfl⟩
theorem xQ.take{es ns:List Int}{least:Int}{i st c:Nat}{b:Bool}(hi:i≤ns.length)(h0:0<c)(h1:least≤c)(hb:zY es (ns.drop i) es.length st c):xQ es ns least i b [.take i st c] (i+c) false∧i+c≤ns.length:=by
 have hc:c≤ns.length - i:=by
  rcases hb.2 with⟨z,_⟩|⟨_,_,z,_⟩
  ·lia
  ·have:=xdo (es.drop st) (ns.drop i);rw[aX]at this;lia
 exact⟨⟨st,c,rfl,rfl,rfl,by lia,h0,h1,hb,rfl,rfl⟩,by lia⟩
theorem jl.of{es ps:List Int}{least:Int}{a c:Nat}(hb:zY es ps es.length a c)(h:(c:Int)<least):jl es ps least:=fun a' c' h'=>by
 obtain⟨_,rfl⟩:=hb.uniq h';exact h
theorem xmq{ns sg:List Int}{i:Nat}(h:sg=(ns.drop i).take sg.length)(hi:i+sg.length<ns.length):sg++[ns[i+sg.length]]=(ns.drop i).take (sg++[ns[i+sg.length]]).length:=by
 rw[av,bB,d7 (by rw[aX];lia),List.getElem_drop,←h]
theorem ui{α β:Type}{F:α→β→Prop}:∀{as cs:List α} {bs ds:List β},Paired F as bs→Paired F cs ds→Paired F (as++cs) (bs++ds)
 |_,_,_,_,.nil,h=>h
 |_,_,_,_,.cons x xs,h=>.cons x (ui xs h)
theorem xfy(i:Int)(sg:List Int):(vB i sg).length≤1:=by
 unfold vB
 split<;> simp
theorem xQ.few{es ns:List Int}{least:Int}:∀{rs:List xf} {i j:Nat} {b b':Bool},xQ es ns least i b rs j b'→i+rs.length≤j
 |[],_,_,_,_,h=>by rw[h.1];exact ak _
 | .put to sg::rs,i,j,_,_,h=>by
  obtain⟨h1,h2,h3,h4,h5,h6,h7⟩:=h;have:=h7.few;have:=cu.mpr h3;rw[bt];lia
 | .take to st c::rs,i,j,_,_,h=>by
  obtain⟨st',c',h1,h2,h3,h4,h5,h6,h7,h8⟩:=h;have:=h8.few;rw[bt];lia
section
variable {P:aG} {w:World} {K:ah} {mg:Str→Option Value} {base:Heap} {a:Adr}
theorem uC(T:Txt K mg a):xy P w K mg base CX0 2 a.q1i a.jM ["self","to","signs"] (xiu a):=by
 refine T.q16.ok vW (fun vs H Q E h=>?_) (fun cdv A outer s H vs Q E hr h=>?_)
 ·obtain⟨p,dx,t,to,xs,rfl,_⟩:=h;rfl
 ·obtain⟨p,dx,t,to,xs,rfl,hp,ht,k⟩:=h;have nd:=vW.nd;have ne:t≠p:=uD ht hp (by intro z;cases z);refine⟨_,(xg (xH (xfJ (by rfl) T.xky T.q2t (xbl T) (hr.mono (by decide)) T.xb5 .nil xp (xa (cv 0) (xa (cv 1) xc))))
  (xg (yW (cv 0) (yK jn (by rfl) T.q2B vL (xa (cv 2) xc)) rfl)
  (xl (yW (cv 0) (xq xx (by rfl) T.q0k xM (xa (xA (cv 0) rfl) xc)) rfl)))),?_⟩
  walk_at"w";refine⟨p,_,dx,to,rfl,hp,T.q0x,T.q1f,T.q1e,?_⟩;walk_at"w";refine⟨t,_,rfl,.inl ⟨SqL.of (by rw[xj ne];exact ht),fun u hu=>?_⟩⟩;have nup:u≠p:=fun z=>by rw[z,xk]at hu;cases hu
  have hu0:H u=none:=by rw[xj nup]at hu;exact hu
  generalize hU:upd H p _=H1 at hu⊢;have e1:=xn hU;have o1:∀b o,b≠p→H b=some o→H1 b=some o:=fun b o q z=>by rw[←hU,xj q];exact z
  clear hU;generalize hU:upd H1 u _=H2;have e2:=(show H2 p=H1 p by rw[←hU,xj (aR nup)]).trans e1;have eu:=xn hU;have o2:∀b o,b≠p→H b=some o→H2 b=some o:=fun b o q z=>by rw[←hU,xj (fun y=>by rw[y,hu0]at z;cases z)];exact o1 b o q z
  clear hU;walk_at"w";refine⟨p,_,dx,_,rfl,e2,T.q0x,T.q0D,by walk_at"few",?_⟩;walk_at"w";refine⟨p,_,dx,_,.ref u,rfl,xk,T.q0x,T.q0D,rfl,?_⟩;walk_at"w";refine⟨u,_,rfl,.inr (SqT.of (by rw[xj nup];exact eu)),?_⟩;walk_at"w";refine⟨p,_,dx,_,rfl,xk,T.q0x,T.q1e,by walk_at"few",?_⟩;walk_at"w";rw[yU];generalize hU:upd H2 p _=H3;refine k u H3 hu0 (fun b o q z=>by rw[←hU,xj q];exact o2 b o q z) ?_ (by rw[←hU,xj nup];exact eu);rw[xn hU,af];rfl
theorem xgm(T:Txt K mg a):yR P w K mg base CX0 1 "<lambda>" "endings.<locals>.<lambda>" (zm xhl) (.expr (zo xhl)) (xU xhl) ["at"] xpT:=by
 refine uJ xmo (fun fv vs H Q E h=>?_) (fun _ _ _ _ _ us hl=>match us,hl with|[_],_=>rfl) (fun A outer s H f clos cdv fv vs Q E hr h=>?_)
 ·obtain⟨e,es,i,rfl,rfl,_⟩:=h;exact⟨rfl,rfl⟩
 ·obtain⟨e,es,i,rfl,rfl,he,hi,k⟩:=h;have nd:=xmo.nd;refine⟨_,(yA yL (cv 1) (yj (cv 0)) ub),?_⟩;walk_at"w";refine⟨_,rfl,?_⟩;walk_at"w";refine⟨e,_,rfl,SqL.of he,fun d hd=>?_⟩;have e1:zx (es.map V.int) (some i) none=(es.drop i.toNat).map V.int:=by
   rw[zw,yY hi,HT.uI]
   congr 1
   rw[bh (by rw[aX];lia)]
   by_cases h:i.toNat≤es.length
   ·rw[cj h]
   ·rw[d6 (by lia),cI (ak _),cI (by lia)]
  rw[e1];exact k d hd
theorem xkT(T:Txt K mg a):xy P w K mg base CX0 4 a.q11 a.xaT ["text"] xkR:=by
 refine T.jd.okC ["text"] T.xku xe7 (fun vs H Q E h=>?_) (fun A outer s H vs Q E hr h=>?_)
 ·obtain⟨e,es,rfl,_⟩:=h;rfl
 ·obtain⟨e,es,rfl,hP,he,h64,q⟩:=h;have nd:=xe7.nd;refine⟨_,(jb (x:="text") (i:=0) nd rfl rfl rfl (by kernel_rfl) (xl (xu (xkc (xgm T) (hr.mono (by decide)) rfl (by rfl) T.q3i (xa (xls (by rfl) T.q0W (xa (xq xx (by rfl) T.q0k xM (xa (cv 0) xc)) xc)) xc) (zv (c:=q1j) (P:=za) (qs:=ue) (fns:=["text"]) rfl T.q3f (q:="endings.<locals>.<lambda>") (by kernel_rfl) (.head _) (by kernel_rfl) (by kernel_rfl)))))),?_⟩;walk_at"w";intro a1 e1 z1 d1;refine dF z1 ?_;generalize hU1:upd H a1 _=H1;have s1:=xb.of_eq z1 hU1;have c1:=xn hU1;clear hU1;walk_at"w";refine⟨e,_,rfl,.inl (SqL.of (s1.at he)),?_⟩;intro r hr;generalize hUr:upd H1 r _=H2;have sH2:=xb.of_eq hr hUr;have er:=xn hUr;clear hUr;walk_at"w";have s2:xb H H2:=s1.trans sH2;refine⟨s2.at hP,[("text",.ref e)],rfl,fun x v m=>?_,fun f H3 hf s3 hc=>?_⟩
  ·simp only[ar,f9,bu,or_false]at m;obtain⟨rfl,rfl⟩:=m;exact⟨a1,e1,sH2.at c1⟩
  walk_at"w";have er3:=s3.at er;rw[af]at er3;refine⟨r,f,es.length,_,fun i=>es.drop i,rfl,rfl,er3,h64,hc,fun i hi H4 s4=>?_,xoM es,fun l p H4 s4 hl el hp hpw=>?_⟩
  ·refine⟨e,es,_,rfl,rfl,(s2.trans (s3.trans s4)).at he,by lia,fun d hd=>⟨xb.new hd,d,rfl,?_⟩⟩;rw[xk,cz]
  ·exact q l p H4 (s2.trans (s3.trans s4)) ((s2.trans s3).back hl) el ⟨hp,hpw⟩
theorem xi8(T:Txt K mg a):xy P w K mg base CX0 1 a.q14 a.xb2 ["text","at","part"] xnw:=by
 refine T.q17.ok xd0 (fun vs H Q E h=>?_) (fun cdv A outer s H vs Q E hr h=>?_)
 ·obtain⟨e,q,es,ps,i,rfl,_⟩:=h;rfl
 ·obtain⟨e,q,es,ps,i,rfl,he,hq,hi,k⟩:=h;have nd:=xd0.nd;refine⟨_,(xg (xt (i:=3) nd rfl (aM rfl) xm)
  (xg (xab PassesOwn.never (PW.pt (jX (xK xa6 (cv 3) (xq xx (by rfl) T.q0k xM (xa (cv 2) xc))) (jX (xK xa6 (xr xY (cv 1) (cv 3)) (xq xx (by rfl) T.q0k xM (xa (cv 0) xc))) (jQ (xK vT (xF yB (cv 0) (xr xY (cv 1) (cv 3)) (fun _ _=>rfl)) (xF yB (cv 2) (cv 3) (fun _ _=>rfl))))))) (xl (xt (i:=3) nd rfl (aM rfl) (xr xY (cv 3) xm))))
  (xl (xu (cv 3))))),?_⟩
  walk_at"w";refine uz (m:=ps.length) (fun m σ G=>G=H∧∃x:Nat,m=ps.length - x∧σ=[some (.ref e),some (.int i),some (.ref q),some (.int x)]∧x≤ps.length∧i+x≤es.length∧(es.drop i).take x=ps.take x) ⟨rfl,0,rfl,rfl,aN _,by lia,by simp⟩ (fun m σ G hP=>?_);obtain⟨rfl,x,rfl,rfl,hx,hy,heq⟩:=hP;have done:((es.drop i).length > x→ps.length > x→(es.drop i).take (x+1)≠ps.take (x+1))→Q (.int x) G:=fun hn=>by
   rw[xnu heq hx (fun h1 h2=>hn h1 h2) (by rw[aX];lia)]at k;exact k
  walk_at"w";refine⟨q,_,rfl,.inl (SqL.of hq),?_⟩;walk_at"w";rw[af];refine⟨fun e1=>?_,fun e1=>?_⟩
  ·have h1:x<ps.length:=by have:=of_decide_eq_true e1;lia
   walk_at"w";refine⟨e,_,rfl,.inl (SqL.of he),?_⟩;walk_at"w";rw[af];refine⟨fun e2=>?_,fun e2=>?_⟩
   ·have h2:i+x<es.length:=by have:=of_decide_eq_true e2;lia
    have h3:x<(es.drop i).length:=by rw[aX];lia
    walk_at"w";refine⟨e,_,_,.int es[i+x],rfl,rfl,SqL.of he,xhG (by lia) (by rw[show((i:Int)+(x:Int)).toNat=i+x by lia];simp[h2]),?_⟩;walk_at"w";refine⟨q,_,_,.int ps[x],rfl,rfl,SqL.of hq,yV (by simp[h1]),?_⟩;walk_at"w";have st:=xnt heq h3 h1;rw[List.getElem_drop]at st;refine⟨fun e3=>?_,fun e3=>?_⟩
    ·have e4:=st.mp (by simpa using e3);refine⟨fun σ' G'=>∃m',m'<ps.length - x∧G'=G∧∃x:Nat,m'=ps.length - x∧σ'=[some (.ref e),some (.int i),some (.ref q),some (.int x)]∧x≤ps.length∧i+x≤es.length∧(es.drop i).take x=ps.take x,fun _ _ z=>z,?_⟩;walk_at"w";exact⟨ps.length - (x+1),by lia,rfl,x+1,rfl,rfl,by lia,by lia,e4⟩
    ·walk_at"w";refine done fun _ _ z=>?_;have:=st.mpr z;simp[this]at e3
   ·refine⟨by walk_at"no",fun _=>?_⟩;walk_at"w";have:=of_decide_eq_false e2;exact done fun h1 _=>by rw[aX]at h1;lia
  ·refine⟨by walk_at"no",fun _=>?_⟩;walk_at"w";have:=of_decide_eq_false e1;exact done fun _ h2=>by lia
theorem xiv(es:List Int)(i:Nat):zx (es.map V.int) (some (i:Int)) none=(es.drop i).map V.int:=by
 rw[zw,yY (by lia),HT.uI]
 congr 1
 rw[bh (by rw[aX];lia),cz]
 by_cases h:i≤es.length
 ·rw[cj h]
 ·rw[d6 (by lia),cI (ak _),cI (by lia)]
theorem xeF(T:Txt K mg a):xy P w K mg base CX0 1 a.q0P a.vt ["text","table","part"] xeD:=by
 refine T.q0U.ok xaE (fun vs H Q E h=>?_) (fun cdv A outer s H vs Q E hr h=>?_)
 ·obtain⟨e,t,q,es,ps,p,rfl,_⟩:=h;rfl
 ·obtain⟨e,t,q,es,ps,p,rfl,he,ht,hq,hp,k⟩:=h;have nd:=xaE.nd;refine⟨_,(xg (xt (i:=3) nd rfl (aM rfl) xm)
  (xg (xt (i:=4) nd rfl (aM rfl) (xq xx (by rfl) T.q0k xM (xa (cv 1) xc)))
  (xg (xab PassesOwn.never (xK xa6 (cv 3) (cv 4)) (xg (xt (i:=5) nd rfl (aM rfl) (xr uZ (xr xY (cv 3) (cv 4)) xm))
  (xl (xT (xK (xpy hr.units0) (yA yL (cv 0) (yj (xF yB (cv 1) (cv 5) (fun _ _=>rfl))) ub) (cv 2)) (xl (xt (i:=3) nd rfl (aM rfl) (xr xY (cv 5) xm))) (xl (xt (i:=4) nd rfl (aM rfl) (cv 5)))))))
  (xl (xu (cv 3)))))),?_⟩
  walk_at"w";refine⟨t,_,rfl,.inl (SqL.of ht),?_⟩;walk_at"w";rw[af];refine uz (m:=p.length) (fun m σ G=>xb H G∧∃(lo hi:Nat) (x5:Option V),m=hi - lo∧σ=[some (.ref e),some (.ref t),some (.ref q),some (.int lo),some (.int hi),x5]∧lo≤hi∧hi≤p.length∧(∀i,i<lo→HT.lexLt (es.drop (p.getD i 0)) ps=true)∧∀i,hi≤i→i<p.length→HT.lexLt (es.drop (p.getD i 0)) ps=false)
   ⟨xb.refl _,0,p.length,_,rfl,rfl,aN _,ak _,fun i hi=>absurd hi (cP _),fun i h1 h2=>absurd h2 (by lia)⟩ (fun m σ G hP=>?_)
  obtain⟨sG,lo,hi,x5,rfl,rfl,h1,h2,h3,h4⟩:=hP;walk_at"w";refine⟨fun e1=>?_,fun e1=>?_⟩
  ·have e1':lo<hi:=by have:=of_decide_eq_true e1;lia
   refine⟨fun σ' G'=>∃m',m'<hi - lo∧xb H G'∧∃(lo hi:Nat) (x5:Option V),m'=hi - lo∧σ'=[some (.ref e),some (.ref t),some (.ref q),some (.int lo),some (.int hi),x5]∧lo≤hi∧hi≤p.length∧(∀i,i<lo→HT.lexLt (es.drop (p.getD i 0)) ps=true)∧∀i,hi≤i→i<p.length→HT.lexLt (es.drop (p.getD i 0)) ps=false,fun _ _ z=>z,?_⟩;walk_at"w";walk_at"ss";have em:((lo:Int)+(hi:Int)) / 2=(((lo+hi) / 2:Nat):Int):=by lia
   generalize hz:(fun(i j:Int)=>V.int (i / j)) ((lo:Int)+(hi:Int)) 2=z;generalize hmid:(lo+hi) / 2=mid at em;have ez:z= .int (mid:Nat):=by rw[←hz];show V.int (((lo:Int)+(hi:Int)) / 2)=_;rw[em]
   clear hz;subst ez;have b1:lo≤mid∧mid<hi:=by lia
   have b2:mid<p.length:=by lia
   have g:p.getD mid 0=p[mid]:=by simp[bc,b2]
   refine⟨t,_,_,.int (p.getD mid 0:Nat),rfl,rfl,SqL.of (sG.at ht),yV (by rw[g];simp[b2]),?_⟩;walk_at"w";refine⟨_,rfl,?_⟩;walk_at"w";refine⟨e,_,rfl,SqL.of (sG.at he),?_⟩;intro d hd;generalize hUd:upd G d _=G1;have sG1:=xb.of_eq hd hUd;have ed:=xn hUd;clear hUd;walk_at"w";rw[xiv]at ed;refine⟨d,q,_,_,rfl,rfl,SqL.of ed,SqL.of ((sG.trans sG1).at hq),?_⟩;walk_at"w";refine⟨fun e2=>?_,fun e2=>?_⟩
   ·walk_at"w";refine⟨hi - (mid+1),by lia,sG.trans sG1,mid+1,hi,_,rfl,rfl,by lia,h2,fun i hi'=>?_,h4⟩
    by_cases c:i=mid
    ·rw[c];exact e2
    ·exact xfv (xfw hp (show i<mid by lia) b2) e2
   ·walk_at"w";refine⟨mid - lo,by lia,sG.trans sG1,lo,mid,_,rfl,rfl,by lia,by lia,h3,fun i h5 h6=>?_⟩
    by_cases c:i=mid
    ·rw[c];exact e2
    ·cases hc:HT.lexLt (es.drop (p.getD i 0)) ps with
     |false=>rfl
     |true=>
      have:=xfv (xfw hp (show mid<i by lia) h6) hc;rw[e2]at this;cases this
  ·have e1':lo=hi:=by have:=of_decide_eq_false e1;lia
   walk_at"w";subst e1';exact k lo G sG ⟨h2,h3,h4⟩
theorem xfn(ps:List Int)(c:Nat):zx (ps.map V.int) none (some (c:Int))=(ps.take c).map V.int:=by
 rw[zw,yY (by lia),HT.uI,i3,cz,Nat.sub_zero]
 congr 1
 by_cases q:c≤ps.length
 ·rw[cj q]
 ·rw[d6 (by lia),bh (ak _),bh (by lia)]
theorem xgj(es:List Int)(b c:Nat)(h:b≤es.length):zx (es.map V.int) (some (b:Int)) (some ((b:Int)+(c:Int)))=((es.drop b).take c).map V.int:=by
 rw[zw,yY (by lia),yY (by lia),cz,show((b:Int)+(c:Int)).toNat=b+c by lia,cj h]
 congr 1
 by_cases q:b+c≤es.length
 ·rw[cj q,show b+c - b=c by lia]
 ·rw[d6 (by lia),bh (by rw[aX];lia),bh (by rw[aX];lia)]
theorem xkU(p:List Nat)(L:Nat)(h:L≤p.length):zx (p.map fun(i:Nat)=>V.int i) (some (max ((L:Int) - 1) 0)) (some ((L:Int)+1))=(around p L).map fun(i:Nat)=>V.int i:=by
 unfold zx around;rw[af,yY (by lia),yY (by lia),←ke,←List.map_take,show(max ((L:Int) - 1) 0).toNat=L - 1 by lia,show((L:Int)+1).toNat=L+1 by lia,cj (show L - 1≤p.length by lia)]
 congr 1
 by_cases q:L+1≤p.length
 ·rw[cj q]
 ·rw[d6 (by lia),bh (by rw[aX];lia),bh (by rw[aX];lia)]
theorem xkV(T:Txt K mg a):xy P w K mg base CX0 2 a.q2d a.xcZ ["text","table","part"] xkS:=by
 refine T.q2k.ok xe8 (fun vs H Q E h=>?_) (fun cdv A outer s H vs Q E hr h=>?_)
 ·obtain⟨e,t,q,es,ps,p,rfl,_⟩:=h;rfl
 ·obtain⟨e,t,q,es,ps,p,rfl,he,ht,hq,hp,h64,h100,k⟩:=h;have nd:=xe8.nd;refine⟨_,(xg (xt (i:=3) nd rfl (aM rfl) (xw (xeF T) (hr.mono (by decide)) (by rfl) T.xe3 T.q0U.kp T.xe2 .nil xp (xa (cv 0) (xa (cv 1) (xa (cv 2) xc)))))
  (xg (xt (i:=4) nd rfl (dk rfl) (xjo rfl (by rfl) T.q21 (xa (xX (yg (cap:=[0,2]) (ys:=["text","part"]) rfl rfl rfl rfl rfl ⟨⟨rfl,rfl,.inl rfl⟩,⟨⟨rfl,rfl,.inl rfl⟩,trivial⟩⟩ (by decide+kernel)) rfl (xW (yA yL (cv 1) (yj (xq (xcK rfl) (by rfl) T.q21 xaa (xa (xr uE (cv 3) xm) (xa xm xc)))) (yj (xr xY (cv 3) xm)))) (fun _ _ _ _=>(xw (xi8 T) (hr.mono (by decide)) (by rfl) T.xkw T.q17.kp T.xkv .nil xp (xa (cv 1) (xa (cv 0) (xa (cv 2) xc))))) (fun _ _ _ _=>ye)) xc) xm))
  (xg (xT (xK vT (cv 4) xm) (xl (xu (yx (xa xm (xa xm xc))))) xN)
  (xg (xt (i:=5) nd rfl (dk rfl) (yA yL (cv 2) ub (yj (cv 4))))
  (xl (xu (yx (xa (xq (xgz rfl) (by rfl) T.q3b xbq (xa (xX (yg (cap:=[0,4,5]) (ys:=["text","count","beginning"]) rfl rfl rfl rfl rfl ⟨⟨rfl,rfl,.inl rfl⟩,⟨⟨rfl,rfl,.inl rfl⟩,⟨⟨rfl,rfl,.inl rfl⟩,trivial⟩⟩⟩ (by decide+kernel)) rfl (xW (cv 1)) (fun _ _ _ _=>(cv 0)) (fun _ _ _ _=>(jR (xK (xq1 (K:=K) rfl hr.units) (yA (xmQ (K:=K) rfl) (cv 1) (yj (cv 0)) (yj (xr xY (cv 0) (cv 2)))) (cv 3))))) xc)) (xa (cv 4) xc))))))))),?_⟩
  walk_at"w";refine⟨e,t,q,es,ps,p,rfl,he,ht,hq,hp,fun L H1 s1 hL=>?_⟩;walk_at"w";refine⟨_,rfl,?_⟩;walk_at"w";refine⟨_,rfl,?_⟩;walk_at"w";refine⟨t,_,rfl,SqL.of (s1.at ht),?_⟩;intro d hd;generalize hUd:upd H1 d _=H2;have sH2:=xb.of_eq hd hUd;have ed:=xn hUd;clear hUd;walk_at"w";rw[xkU p L hL.1]at ed;have s2:=s1.trans sH2;have ba:(around p L).length≤64:=by
   have e1:(around p L).length≤p.length:=by unfold around;rw[bM,aX];omega
   have e2:=hp.1.length_eq;rw[c7]at e2;omega
  refine⟨d,rfl,⟨_,SqL.of ed⟩,?_⟩;refine xcN (fun v=>match v with| .int x=>.int (lcp (es.drop x.toNat) ps:Nat)|v=>v) (SqL.of ed) (by rw[af,ax];omega) (fun x H3 hx s3 R hR=>?_) (fun D G hD sG eD=>?_)
  ·obtain⟨b,hb,rfl⟩:=a7.mp hx;walk_at"w";exact⟨e,q,es,ps,b,rfl,(s2.trans s3).at he,(s2.trans s3).at hq,bS (xgN hp hb),hR H3 (xb.refl _)⟩
  have eD':G D=some (.lst (((around p L).map fun b=>((lcp (es.drop b) ps:Nat):Int)).map V.int)):=by
   rw[eD,cm,cm];rfl
  have s4:=s2.trans sG;walk_at"w";refine⟨D,_,_,rfl,rfl,SqL.of eD',fun m m1 m2=>?_⟩;obtain⟨c,rfl,hle,hc⟩:=xnv hp hL m1 m2;walk_at"w";refine⟨fun e1=>?_,fun e1=>?_⟩
  ·have c0:c=0:=by have:=of_decide_eq_true e1;omega
   subst c0;walk_at"w";walk_at"ss";intro z hz;generalize hUz:upd G z _=G2;have sG2:=xb.of_eq hz hUz;have ez:=xn hUz;clear hUz;walk_at"w";exact k z 0 0 G2 (s4.trans sG2) (s4.back hz) ez ⟨hle,.inl ⟨rfl,rfl⟩⟩
  ·have c0:0<c:=by have:=of_decide_eq_false e1;omega
   obtain⟨a0,ha0,ea0⟩:=hc.resolve_left (by omega);have cl:c≤ps.length:=by rw[←ea0];exact xdo _ _
   walk_at"w";refine⟨_,rfl,?_⟩;walk_at"w";refine⟨q,_,rfl,SqL.of (s4.at hq),?_⟩;intro b hb;generalize hUb:upd G b _=G2;have sG2:=xb.of_eq hb hUb;have eb:=xn hUb;clear hUb;walk_at"w";rw[xfn]at eb;have s5:=s4.trans sG2;refine⟨t,rfl,⟨_,SqL.of (s5.at ht)⟩,?_⟩;refine vf (fun v=>match v with| .int x=>decide ((es.drop x.toNat).take c=ps.take c)|_=>false) (fun v=>v) (SqL.of (s5.at ht)) (by rw[af,ax,hp.1.length_eq,c7];omega) (fun x H3 hx s3 R hR=>?_) (fun x H3 hx _ s3 R hR=>?_) (fun D2 G3 hD2 sG3 eD2=>?_)
   ·obtain⟨i,hi,rfl⟩:=a7.mp hx;have hi':i<es.length:=bx.mp (hp.1.mem_iff.mp hi);walk_at"w";refine⟨_,rfl,?_⟩;walk_at"w";refine⟨_,rfl,?_⟩;walk_at"w";refine⟨e,_,rfl,SqL.of ((s5.trans s3).at he),?_⟩;intro g hg;generalize hUg:upd H3 g _=H4;have sH4:=xb.of_eq hg hUg;have eg:=xn hUg;clear hUg;walk_at"w";rw[xgj es i c (by omega)]at eg;refine xdA (f:=fun b=>b) ⟨g,b,_,_,rfl,rfl,SqL.of eg,SqL.of ((s3.trans sH4).at eb),?_⟩;exact hR H4 sH4
   ·walk_at"w";exact hR H3 (xb.refl _)
   have eD3:G3 D2=some (.lst (((p.filter fun i=>decide ((es.drop i).take c=ps.take c)).map fun(i:Nat)=>(i:Int)).map V.int)):=by
    rw[eD2,List.map_id',gD,cm];rfl
   have s6:=s5.trans sG3;have mf:∀i,i∈(p.filter fun i=>decide ((es.drop i).take c=ps.take c))↔i<es.length∧c≤lcp (es.drop i) ps:=fun i=>by
    rw[aU,hp.1.mem_iff,bx,decide_eq_true_iff,xaL cl]
   walk_at"w";refine⟨D2,_,rfl,SqL.of eD3,?_,fun m m1 m2=>?_⟩
   ·intro z;have:=(mf a0).mpr ⟨ha0,by omega⟩;rw[List.map_eq_nil_iff.mp z]at this;cases this
   obtain⟨i,hi,rfl⟩:=a7.mp m1;obtain⟨hi1,hi2⟩:=(mf i).mp hi;walk_at"w";walk_at"ss";intro z hz;generalize hUz:upd G3 z _=G4;have sG4:=xb.of_eq hz hUz;have ez:=xn hUz;clear hUz;walk_at"w";exact k z i c G4 (s6.trans sG4) (s6.back hz) ez (xoN hle c0 hi1 hi2 fun j hj1 hj2=>by
    have:=m2 _ (fz (f:=fun(i:Nat)=>(i:Int)) ((mf j).mpr ⟨hj1,hj2⟩));omega)
theorem xaM(T:Txt K mg a):xy P w K mg base CX0 4 a.q0Q a.vw ["end","signs"] (xeE K a):=by
 refine T.q0B.ok xaF (fun vs H Q E h=>?_) (fun cdv A outer s H vs Q E hr h=>?_)
 ·obtain⟨q,i,xs,rfl,_⟩:=h;rfl
 ·obtain⟨q,i,xs,rfl,hq,k⟩:=h;have nd:=xaF.nd;refine⟨_,(xg (xT (xK vT (xq xx (by rfl) T.q0k xM (xa (cv 1) xc)) xm) (xl (xu (yi xc))) xN)
  (xl (xu (yi (xa (uU T.q3e (uC T) (hr.mono (by decide)) (by rfl) T.xe5 T.jO .nil xp (xa (xr uE (cv 0) (xq xx (by rfl) T.q0k xM (xa (cv 1) xc))) (xa (cv 1) xc))) xc))))),?_⟩
  walk_at"w";refine⟨q,_,rfl,.inl (SqL.of hq),?_⟩;walk_at"w";rw[af];refine⟨fun e1=>?_,fun e1=>?_⟩
  ·have h0:xs=[]:=fV.mp (by have:=of_decide_eq_true e1;lia);walk_at"w";walk_at"ss";intro l hl;generalize hUl:upd H l _=H1;have sH1:=xb.of_eq hl hUl;have el:=xn hUl;clear hUl;walk_at"w";exact k l [] H1 sH1 hl el (by unfold vB;rw[if_pos h0];exact .nil)
  ·have h0:xs≠[]:=fun z=>by rw[z]at e1;simp at e1
   walk_at"w";refine⟨q,_,rfl,.inl (SqL.of hq),?_⟩;walk_at"w";rw[af];intro x xdx hx hxdx nex;generalize hUx:upd H xdx (.own x)=H1;have sH1:=xb.of_eq hxdx hUx;have hx3:H1 x=none:=by rw[←hUx,xj (aR nex)];exact hx
   refine⟨x,xdx,q,_,xs,rfl,xk,(xb.new hx3).at (sH1.at hq),fun u H4 hu o4 e4 eu=>⟨rfl,?_⟩⟩;have s4:xb H H4:=fun b o z=>o4 b o (fun y=>by rw[y,hx]at z;cases z) ((sH1.trans (xb.new hx3)).at z);have nux:u≠x:=fun z=>by rw[z,xk]at hu;cases hu
   walk_at"w";walk_at"ss";intro l hl;generalize hUl:upd H4 l _=H5;have sH5:=xb.of_eq hl hUl;have el:=xn hUl;clear hUl;walk_at"w";refine k l [x] H5 (s4.trans sH5) (s4.back hl) el ?_;unfold vB;rw[if_neg h0];exact .cons ⟨xdx,u,sH5.at e4,sH5.at eu⟩ .nil
theorem xha(T:Txt K mg a):xy P w K mg base CX0 5 a.q1q a.xar ["elder","newer","least"] (xg9 K a):=by
 refine T.q1t.ok xcr (fun vs H Q E h=>?_) (fun cdv A outer s H vs Q E hr h=>?_)
 ·obtain⟨e,n,es,ns,least,rfl,_⟩:=h;rfl
 ·obtain⟨e,n,es,ns,least,rfl,hP,he,hn,h64,h100,hls,k⟩:=h;have nd:=xcr.nd;refine⟨_,(xg (xt (i:=3) nd rfl (aM rfl) (xw (xkT T) (hr.mono (by decide)) (by rfl) T.xlV T.jd.kp T.xlU .nil xp (xa (cv 0) xc)))
  (xg (xt (i:=4) nd rfl (aM rfl) (yi xc))
  (xg (xt (i:=5) nd rfl (aM rfl) (yi xc))
  (xg (xt (i:=6) nd rfl (aM rfl) xm)
  (xg (xab PassesOwn.never (xK xa6 (cv 6) (xq xx (by rfl) T.q0k xM (xa (cv 1) xc))) (xg (xt (i:=7) nd rfl (aM rfl) (xw (xkV T) (hr.mono (by decide)) (by rfl) T.xlX T.q2k.kp T.xlW .nil xp (xa (cv 0) (xa (cv 3) (xa (yA yL (cv 1) (yj (cv 6)) ub) xc)))))
  (xg (xt (i:=8) nd rfl (aM rfl) (xF xJ (cv 7) xm (fun _ _=>rfl)))
  (xl (xT (PW.pt (jX (xK xfG (cv 8) xm) (jQ (xK xjY (cv 8) (cv 2))))) (xg (xH (zK PySem.F.plainAttrs_list PySem.F.slot_list_extend PySem.F.type_list_extend xcD (cv 4) (xa (xw (xaM T) (hr.mono (by decide)) (by rfl) T.xaV T.q0B.kp T.xaU .nil xp (xa (cv 6) (xa (cv 5) xc))) xc)))
  (xg (xH (zK PySem.F.plainAttrs_list PySem.F.slot_list_append PySem.F.type_list_append yt (cv 4) (xa (uU T.q3m (xdh T) (hr.mono (by decide)) (by rfl) T.xbw T.xdV .nil xp (xa (cv 6) (xa (xF xJ (cv 7) xm (fun _ _=>rfl)) (xa (cv 8) xc)))) xc)))
  (xg (xt (i:=5) nd rfl (aM rfl) (yi xc))
  (xl (xt (i:=6) nd rfl (aM rfl) (xr xY (cv 6) (cv 8))))))) (xg (xH (zK PySem.F.plainAttrs_list PySem.F.slot_list_append PySem.F.type_list_append yt (cv 5) (xa (xF yB (cv 1) (cv 6) (fun _ _=>rfl)) xc)))
  (xl (xt (i:=6) nd rfl (aM rfl) (xr xY (cv 6) xm)))))))))
  (xl (xu (xr xbp (cv 4) (xw (xaM T) (hr.mono (by decide)) (by rfl) T.xaV T.q0B.kp T.xaU .nil xp (xa (cv 6) (xa (cv 5) xc))))))))))),?_⟩
  walk_at"w";refine⟨e,es,rfl,hP,he,h64,fun t p H1 s1 ht et hp=>?_⟩;have he1:=s1.at he;have hn1:=s1.at hn;walk_at"w";walk_at"ss";intro rl hrl;generalize hUrl:upd H1 rl _=H2;have sH2:=xb.of_eq hrl hUrl;have erl:=xn hUrl;clear hUrl;walk_at"w";walk_at"ss";intro sl hsl;generalize hUsl:upd H2 sl _=H3;have sH3:=xb.of_eq hsl hUsl;have esl:=xn hUsl;clear hUsl;walk_at"w";have nrs:rl≠sl:=fun z=>by rw[←z,erl]at hsl;cases hsl
  refine uz (m:=ns.length) (fun m σ G=>xb H1 G∧∃(rl sl:Addr) (os:List Addr) (rs:List xf) (sg:List Int) (i:Nat) (x7 x8:Option V),m=ns.length - (i+sg.length)∧σ=[some (.ref e),some (.ref n),some (.int least),some (.ref t),some (.ref rl),some (.ref sl),some (.int (i+sg.length:Nat)),x7,x8]∧
    H1 rl=none∧H1 sl=none∧rl≠sl∧G rl=some (.lst (os.map V.ref))∧Paired (xB K a G) os rs∧os.length≤2*i∧G sl=some (.lst (sg.map V.int))∧i+sg.length≤ns.length∧sg=(ns.drop i).take sg.length∧(∀k,k<sg.length→jl es (ns.drop (i+k)) least)∧xQ es ns least 0 false rs i false)
   ⟨sH2.trans sH3,rl,sl,[],[],[],0,_,_,rfl,rfl,hrl,sH2.back hsl,nrs,sH3.at erl,.nil,ak _,esl,aN _,rfl,fun k hk=>absurd hk (cP _),rfl,rfl⟩ (fun m σ G hP=>?_)
  clear sH2 sH3 erl esl hrl hsl nrs H2 H3 rl sl;obtain⟨sG,rl,sl,os,rs,sg,i,x7,x8,rfl,rfl,hrl,hsl,nrs,erl,hpo,hos,esl,hle,hsg,hnb,hri⟩:=hP;have hol:=hpo.length;walk_at"w";refine⟨n,_,rfl,.inl (SqL.of (sG.at hn1)),?_⟩;walk_at"w";rw[af];refine⟨fun e1=>?_,fun e1=>?_⟩
  ·have h1:i+sg.length<ns.length:=by have:=of_decide_eq_true e1;lia
   refine⟨fun σ' G'=>∃m',m'<ns.length - (i+sg.length)∧xb H1 G'∧∃(rl sl:Addr) (os:List Addr) (rs:List xf) (sg:List Int) (i:Nat) (x7 x8:Option V),m'=ns.length - (i+sg.length)∧σ'=[some (.ref e),some (.ref n),some (.int least),some (.ref t),some (.ref rl),some (.ref sl),some (.int (i+sg.length:Nat)),x7,x8]∧
    H1 rl=none∧H1 sl=none∧rl≠sl∧G' rl=some (.lst (os.map V.ref))∧Paired (xB K a G') os rs∧os.length≤2*i∧G' sl=some (.lst (sg.map V.int))∧i+sg.length≤ns.length∧sg=(ns.drop i).take sg.length∧(∀k,k<sg.length→jl es (ns.drop (i+k)) least)∧xQ es ns least 0 false rs i false,fun _ _ z=>z,?_⟩
   walk_at"w";refine⟨_,rfl,?_⟩;walk_at"w";refine⟨n,_,rfl,SqL.of (sG.at hn1),?_⟩;intro d hd;generalize hUd:upd G d _=G1;have sG1:=xb.of_eq hd hUd;have ed:=xn hUd;clear hUd;walk_at"w";rw[xiv]at ed;have s01:=sG.trans sG1;refine⟨e,t,d,es,ns.drop (i+sg.length),p,rfl,s01.at he1,s01.at et,ed,hp,h64,by rw[aX];lia,fun r a1 c G2 s2 hr2 er hb=>?_⟩;have s02:=s01.trans s2;have sg2:=sG1.trans s2;walk_at"w";refine⟨r,_,_,.int c,rfl,rfl,SqT.of er,rfl,?_⟩;have esl2:=sg2.at esl;have erl2:=sg2.at erl;have hpo2:=L2.Paired.imp' (fun _ _ z=>xB.same z sg2) hpo;have more:(c:Int)<least→∀G3 x7 x8,upd G2 sl (.lst (sg.map V.int++[.int ns[i+sg.length]]))=G3→∃m',m'<ns.length - (i+sg.length)∧xb H1 G3∧∃(rl' sl':Addr) (os:List Addr) (rs:List xf) (sg':List Int) (i':Nat) (x7' x8':Option V),m'=ns.length - (i'+sg'.length)∧[some (.ref e),some (.ref n),some (.int least),some (.ref t),some (.ref rl),some (.ref sl),some (.int (((i+sg.length:Nat):Int)+1)),x7,x8]=[some (.ref e),some (.ref n),some (.int least),some (.ref t),some (.ref rl'),some (.ref sl'),some (V.int (i'+sg'.length:Nat)),x7',x8']∧
    H1 rl'=none∧H1 sl'=none∧rl'≠sl'∧G3 rl'=some (.lst (os.map V.ref))∧Paired (xB K a G3) os rs∧os.length≤2*i'∧G3 sl'=some (.lst (sg'.map V.int))∧i'+sg'.length≤ns.length∧sg'=(ns.drop i').take sg'.length∧(∀k,k<sg'.length→jl es (ns.drop (i'+k)) least)∧xQ es ns least 0 false rs i' false:=fun hc G3 x7 x8 hU=>by
    have hl1:(sg++[ns[i+sg.length]]).length=sg.length+1:=by rw[av];rfl
    refine⟨ns.length - (i+(sg++[ns[i+sg.length]]).length),by lia,xb.wr s02 hsl hU,rl,sl,os,rs,sg++[ns[i+sg.length]],i,x7,x8,rfl,?_,hrl,hsl,nrs,by rw[←hU,xj nrs];exact erl2,?_,hos,by rw[xn hU,aJ];rfl,by lia,xmq hsg h1,fun k hk=>?_,hri⟩
    ·rw[hl1,show((i+(sg.length+1):Nat):Int)=((i+sg.length:Nat):Int)+1 by lia]
    ·rw[←hU];exact L2.Paired.imp' (fun _ _ z=>xB.off z esl2) hpo2
    ·rw[hl1]at hk
     by_cases z:k=sg.length
     ·rw[z];exact jl.of hb hc
     ·exact hnb k (by lia)
   walk_at"w";refine⟨fun e2=>?_,fun e2=>?_⟩
   ·have c0:0<c:=by have:=of_decide_eq_true e2;lia
    walk_at"w";refine⟨fun e3=>?_,fun e3=>?_⟩
    ·have c1:least≤(c:Int):=by have:=of_decide_eq_true e3;lia
     walk_at"w";refine⟨.inl ⟨rfl,_,SqL.of erl2⟩,?_⟩;walk_at"w";refine⟨sl,_,sg,rfl,esl2,fun l os2 G3 s3 hl el hp2=>?_⟩;have erl3:=s3.at erl2;have hpo3:=L2.Paired.imp' (fun _ _ z=>xB.same z s3) hpo2;have l2:os2.length≤1:=by
      have:=hp2.length;have:=xfy ((i+sg.length:Nat):Int) sg;lia
     walk_at"w";refine⟨rl,l,_,_,rfl,rfl,erl3,el,by rw[af,af,ax];lia,?_⟩;generalize hU:upd G3 rl _=G4;have s04:=xb.wr (s02.trans s3) hrl hU;have erl4:=xn hU;have hpo4:Paired (xB K a G4) (os++os2) (rs++vB ((i+sg.length:Nat):Int) sg):=by
      rw[←hU];exact ui (L2.Paired.imp' (fun _ _ z=>xB.off z erl3) hpo3) (L2.Paired.imp' (fun _ _ z=>xB.off z erl3) hp2)
     have er4:G4 r=some (.tup [.int a1,.int c]):=by rw[←hU,xj (uD (s3.at er) erl3 (by intro z;cases z))];exact s3.at er
     clear hU;rw[←aJ]at erl4;walk_at"w";refine⟨.inl ⟨rfl,_,SqL.of erl4⟩,?_⟩;walk_at"w";refine⟨r,_,_,.int a1,rfl,rfl,SqT.of er4,rfl,?_⟩;walk_at"w";intro x xdx hx hxdx nex;generalize hUx:upd G4 xdx (.own x)=G5;have sG5:=xb.of_eq hxdx hUx;have hx3:G5 x=none:=by rw[←hUx,xj (aR nex)];exact hx
     refine⟨x,xdx,_,_,_,rfl,xk,rfl,?_⟩;rw[yU];generalize hVx:upd G5 x _=G6;have sG6:=xb.of_eq hx3 hVx;have ex:=xn hVx;walk_at"w";have s46:=sG5.trans sG6;refine⟨rl,_,_,rfl,rfl,s46.at erl4,by rw[af,av,ax];lia,?_⟩;generalize hU:upd G6 rl _=G8;have s08:=xb.wr (s04.trans s46) hrl hU;have erl8:=xn hU;have hpo8:Paired (xB K a G8) (os++os2++[x]) (rs++vB ((i+sg.length:Nat):Int) sg++[.take (i+sg.length:Nat) a1 c]):=by
      rw[←hU];refine ui (L2.Paired.imp' (fun _ _ z=>xB.off (xB.same z s46) (s46.at erl4)) hpo4) (.cons ?_ .nil);exact xB.off (r:=.take (i+sg.length:Nat) a1 c) ⟨xdx,ex⟩ (s46.at erl4)
     clear hU;walk_at"w";walk_at"ss";intro sz hsz;generalize hUsz:upd G8 sz _=G9;have sG9:=xb.of_eq hsz hUsz;have esz:=xn hUsz;clear hUsz;walk_at"w";obtain⟨rt,hlt⟩:=xQ.take (b:=decide (sg≠[])) (bS h1) c0 c1 hb;refine⟨ns.length - (i+sg.length+c),by lia,s08.trans sG9,rl,sz,os++os2++[x],_,[],i+sg.length+c,some (.ref r),some (.int c),rfl,?_,hrl,s08.back hsz,(fun z=>by rw[←z,erl8]at hsz;cases hsz),?_,L2.Paired.imp' (fun _ _ z=>xB.same z sG9) hpo8,?_,esz,by simpa using hlt,by simp,fun k hk=>absurd hk (cP _),(hri.app (xQ.put hle hsg hnb)).app rt⟩
     ·have ec:((i+sg.length+c+([]:List Int).length:Nat):Int)=((i+sg.length:Nat):Int)+(c:Int):=by show((i+sg.length+c:Nat):Int)=_;lia
      rw[ec];rfl
     ·rw[sG9.at erl8];simp
     ·simp;lia
    ·have c1:(c:Int)<least:=by have:=of_decide_eq_false e3;lia
     walk_at"w";refine⟨.inl ⟨rfl,_,SqL.of esl2⟩,?_⟩;walk_at"w";refine⟨n,_,_,.int ns[i+sg.length],rfl,rfl,SqL.of (s02.at hn1),yV (by simp[h1]),?_⟩;walk_at"w";refine⟨sl,_,_,rfl,rfl,esl2,by rw[af,ax];lia,?_⟩;exact more c1 _ _ _ rfl
   ·have c1:(c:Int)<least:=by have:=of_decide_eq_false e2;lia
    refine⟨by walk_at"no",fun _=>?_⟩;walk_at"w";refine⟨.inl ⟨rfl,_,SqL.of esl2⟩,?_⟩;walk_at"w";refine⟨n,_,_,.int ns[i+sg.length],rfl,rfl,SqL.of (s02.at hn1),yV (by simp[h1]),?_⟩;walk_at"w";refine⟨sl,_,_,rfl,rfl,esl2,by rw[af,ax];lia,?_⟩;exact more c1 _ _ _ rfl
  ·have h1:i+sg.length=ns.length:=by have:=of_decide_eq_false e1;lia
   walk_at"w";refine⟨sl,_,sg,rfl,esl,fun l os2 G3 s3 hl el hp2=>?_⟩;walk_at"w";have l2:os2.length≤1:=by
    have:=hp2.length;have:=xfy ((i+sg.length:Nat):Int) sg;lia
   refine⟨rl,l,_,_,rfl,rfl,s3.at erl,el,by rw[af,af,ax];lia,?_⟩;intro z hz;generalize hUz:upd G3 z _=G4;have sG4:=xb.of_eq hz hUz;have ez:=xn hUz;clear hUz;walk_at"w";have s4:=s1.trans (sG.trans s3);refine k z (os++os2) _ (decide (sg≠[])) G4 (s4.trans sG4) (s4.back hz) (by rw[ez,aJ]) (ui (L2.Paired.imp' (fun _ _ z=>xB.same z (s3.trans sG4)) hpo) (L2.Paired.imp' (fun _ _ z=>xB.same z sG4) hp2)) ?_;have:=hri.app (xQ.put hle hsg hnb);rw[h1]at this;rw[h1];exact this
end
def xkW(K:ah)(a:Adr):Sp:=fun vs H Q _=>∃(o e:Addr) (to st c:Int) (es:List Int),vs=[.ref o,.ref e]∧xB K a H o (.take to st c)∧H e=some (.lst (es.map V.int))∧0≤st∧0≤c∧st+c≤es.length∧
 ∀(p:Addr) (H':Hp),xb H H'→H p=none→xB K a H' p (.put to ((es.drop st.toNat).take c.toNat))→Q (.ref p) H'
section
variable {P:aG} {w:World} {K:ah} {mg:Str→Option Value} {base:Heap} {a:Adr}
theorem xkX(T:Txt K mg a):xy P w K mg base CX0 4 a.q2e a.xc1 ["take","elder"] (xkW K a):=by
 refine T.q2l.ok xe9 (fun vs H Q E h=>?_) (fun cdv A outer s H vs Q E hr h=>?_)
 ·obtain⟨o,e,to,st,c,es,rfl,_⟩:=h;rfl
 ·obtain⟨o,e,to,st,c,es,rfl,⟨dx,h1⟩,he,st0,c0,hle,k⟩:=h;have nd:=xe9.nd;refine⟨_,(xl (xu (uU T.q3e (uC T) (hr.mono (by decide)) (by rfl) T.xe5 T.jO .nil xp (xa (xA (cv 0) rfl) (xa (yA yL (cv 1) (yj (xA (cv 0) rfl)) (yj (xr xY (xA (cv 0) rfl) (xA (cv 0) rfl)))) xc))))),?_⟩;walk_at"w";refine⟨_,_,dx,_,.int to,rfl,h1,T.q0d,T.q0s,rfl,?_⟩;walk_at"w";refine⟨_,_,dx,_,.int st,rfl,h1,T.q0d,T.q0h,rfl,?_⟩;walk_at"w";refine⟨_,rfl,?_⟩;walk_at"w";refine⟨_,_,dx,_,.int st,rfl,h1,T.q0d,T.q0h,rfl,?_⟩;walk_at"w";refine⟨_,_,dx,_,.int c,rfl,h1,T.q0d,T.q0v,rfl,?_⟩;walk_at"w";refine⟨_,rfl,?_⟩;walk_at"w";refine⟨e,_,rfl,SqL.of he,?_⟩;intro q hq;generalize hUq:upd H q _=H1;have sH1:=xb.of_eq hq hUq;have eq:=xn hUq;clear hUq;walk_at"w";have eq2:H1 q=some (.lst (((es.drop st.toNat).take c.toNat).map V.int)):=by
   rw[eq,zw,yY st0,yY (by lia)]
   congr 4
   ·rw[cj (by lia),cj (by lia)];lia
   ·rw[cj (by lia)]
  walk_at"w";intro x xdx hx hxdx nex;generalize hUx:upd H1 xdx (.own x)=H2;have sH2:=xb.of_eq hxdx hUx;have hx3:H2 x=none:=by rw[←hUx,xj (aR nex)];exact hx
  refine⟨x,xdx,q,_,(es.drop st.toNat).take c.toNat,rfl,xk,(xb.new hx3).at (sH2.at eq2),fun u H5 hu o5 e5 eu=>⟨rfl,?_⟩⟩;have s5:xb H1 H5:=fun b o z=>o5 b o (fun y=>by rw[y,hx]at z;cases z) ((sH2.trans (xb.new hx3)).at z);exact k x H5 (sH1.trans s5) (sH1.back hx) ⟨xdx,u,e5,eu⟩
end
end ML
def xqA:Stmt→Expr
 | .For _ it _ _ _=>it
 |_=>.Constant .none 0 ⟨0,0,0,0⟩
abbrev xfz:Expr:=xkd (xqA ((xD uN).getD 1 (.Pass ⟨0,0,0,0⟩)))
theorem xjI:zf ["one"] ["one"] [] (xU xfz):=⟨rfl,rfl,rfl,by decide+kernel,rfl,by decide+kernel,by decide+kernel,by decide+kernel⟩
def xoO(a:Adr):List (Str×V)→Sp:=fun fv vs H Q _=>∃(p dx t:Addr) (to n:Int),fv=[]∧vs=[.ref p]∧H p=some (.ins a.q0c dx (xca to t n))∧Q (.int to) H
def rTo:xf→Int
 | .take to _ _=>to
 | .put to _=>to
def xG(acc:List xf)(r:xf):List xf:=match acc.getLast?,r with
 |some (.put t sg),.put to sg'=>if t+sg.length=to then acc.dropLast++[.put t (sg++sg')]else acc++[r]
 |_,_=>acc++[r]
def zd(r:xf):Prop:=∃to sg,r= .put to sg∧sg≠[]∧0≤to∧to+sg.length≤1000
theorem xd8{acc:List xf}{r:xf}(h:∀x∈acc,zd x)(hr:zd r):∀x∈xG acc r,zd x:=by
 obtain⟨to,sg',rfl,s1,s2,s3⟩:=id hr;intro x hx;unfold xG at hx
 split at hx
 ·rename_i t sg to2 sg2 hl e;cases e;obtain⟨to3,sg3,e3,u1,u2,u3⟩:=h _ (List.mem_of_getLast? hl);cases e3
  split at hx
  ·rcases aY.mp hx with z|z
   ·exact h x (List.dropLast_subset _ z)
   ·rw[aE.mp z];exact⟨t,sg++sg',rfl,by simp[u1],u2,by rw[av];lia⟩
  ·rcases aY.mp hx with z|z
   ·exact h x z
   ·rw[aE.mp z];exact hr
 ·rcases aY.mp hx with z|z
  ·exact h x z
  ·rw[aE.mp z];exact hr
theorem xd9{α β:Type}{R:α→β→Prop}:∀{xs:List α} {ys:List β} {y:β},Paired R xs (ys++[y])→∃xs' x,xs=xs'++[x]∧Paired R xs' ys∧R x y
 |_,[],_,.cons h .nil=>⟨[],_,rfl,.nil,h⟩
 |_,_::ys,_,.cons h r=>by
  obtain⟨xs',x,rfl,h1,h2⟩:=xd9 r;exact⟨_::xs',x,rfl,.cons h h1,h2⟩
def xmr(K:ah)(a:Adr):Sp:=fun vs H Q _=>∃(l:Addr) (os:List Addr) (ps:List xf),vs=[.ref l]∧SqL K H l (os.map V.ref)∧Paired (xB K a H) os ps∧(∀r∈ps,zd r)∧ps.length<64∧(ps.map rTo).Nodup∧H zV=some (.tbl jc)∧
 ∀(l':Addr) (os':List Addr) (p:List Nat) (G:Hp),xb H G→H l'=none→G l'=some (.lst (os'.map V.ref))→p.Perm (a9 ps.length)→((p.map fun i=>rTo (ps.getD i dR)).Pairwise fun x y=>x<y)→Paired (xB K a G) os' ((p.map fun i=>ps.getD i dR).foldl xG [])→Q (.ref l') G
theorem vC(r:xf):xG [] r=[r]:=by unfold xG;simp
theorem zG(acc:List xf)(t:Int)(sg:List Int)(to:Int)(sg':List Int):xG (acc++[.put t sg]) (.put to sg')=if t+sg.length=to then acc++[.put t (sg++sg')]else acc++[.put t sg]++[.put to sg']:=by
 unfold xG;simp only[List.getLast?_append,List.getLast?_singleton,Option.some_or,List.dropLast_concat]
theorem xB.offw{K:ah}{a:Adr}{H:Hp}{t p:Addr}{r:xf}{xs:List V}{o:HO}(h:xB K a H t r)(hp:H p=some (.lst xs)):xB K a (upd H p o) t r:=by
 have off:∀{b:Addr} {u:HO},H b=some u→(∀ys,u≠.lst ys)→upd H p o b=some u:=fun{b u} e n=>by
  rw[xj (fun z=>by rw[z,hp]at e;cases e;exact n _ rfl)];exact e
 cases r with
 |take to st c=>obtain⟨dx,h⟩:=h;exact⟨dx,off h (by intro _ z;cases z)⟩
 |put to sg=>obtain⟨dx,u,h1,h2⟩:=h;exact⟨dx,u,off h1 (by intro _ z;cases z),off h2 (by intro _ z;cases z)⟩
section
variable {P:aG} {w:World} {K:ah} {mg:Str→Option Value} {base:Heap} {a:Adr}
theorem xhb(T:Txt K mg a):yR P w K mg base CX0 1 "<lambda>" "joined.<locals>.<lambda>" (zm xfz) (.expr (zo xfz)) (xU xfz) ["one"] (xoO a):=by
 refine uJ xjI (fun fv vs H Q E h=>?_) (fun _ _ _ _ _ us hl=>match us,hl with|[_],_=>rfl) (fun A outer s H f clos cdv fv vs Q E hr h=>?_)
 ·obtain⟨p,dx,t,to,n,rfl,rfl,_⟩:=h;exact⟨rfl,rfl⟩
 ·obtain⟨p,dx,t,to,n,rfl,rfl,hp,k⟩:=h;have nd:=xjI.nd;refine⟨_,(xA (cv 0) rfl),?_⟩;walk_at"w";exact⟨_,_,dx,_,.int to,rfl,hp,T.q0x,T.q1f,rfl,k⟩
theorem xms(T:Txt K mg a):xy P w K mg base CX0 4 a.q2f a.xb3 ["puts"] (xmr K a):=by
 refine T.xax.okC [] T.xl2 xgJ (fun vs H Q E h=>?_) (fun A outer s H vs Q E hr h=>?_)
 ·obtain⟨l,os,ps,rfl,_⟩:=h;rfl
 ·obtain⟨l,os,ps,rfl,hl,hp,hok,h64,hnd,hP,k⟩:=h;have nd:=xgJ.nd;refine⟨_,(xg (xt (i:=1) nd rfl (aM rfl) (yi xc))
  (xg (uy PassesOwn.never rfl (xW (xiQ (xhb T) (hr.mono (by decide)) (by rfl) T.q3i (xa (cv 0) xc) (zv (c:=q1F) (P:=zV) (qs:=jc) (fns:=[]) rfl T.q3k (q:="joined.<locals>.<lambda>") (by kernel_rfl) (.head _) (by kernel_rfl) (by kernel_rfl)))) (yz (i:=2) nd rfl (aM rfl)) (xl (xT (PW.pt (jX (xK xfG (xq xx (by rfl) T.q0k xM (xa (cv 1) xc)) xm) (jQ (xK vT (xF xJ (yb (xF yB (cv 1) (xhc xhg xm) (fun _ _=>rfl)) T.q0x T.q23 (xcy T) (hr.mono (by decide)) T.xc5 .nil xp) xm (fun _ _=>rfl)) (xA (cv 2) rfl))))) (xg (xt (i:=3) nd rfl (aM rfl) (xpg PySem.F.plainAttrs_list PySem.F.slot_list_pop PySem.F.type_list_pop xph (cv 1)))
  (xl (xH (zK PySem.F.plainAttrs_list PySem.F.slot_list_append PySem.F.type_list_append yt (cv 1) (xa (uU T.q3e (uC T) (hr.mono (by decide)) (by rfl) T.xe5 T.jO .nil xp (xa (xA (cv 3) rfl) (xa (xr xnY (xA (cv 3) rfl) (xA (cv 2) rfl)) xc))) xc))))) (xl (xH (zK PySem.F.plainAttrs_list PySem.F.slot_list_append PySem.F.type_list_append yt (cv 1) (xa (cv 2) xc)))))))
  (xl (xu (cv 1))))),?_⟩
  have elen:os.length=ps.length:=hp.length;walk_at"w";walk_at"ss";intro wl hwl;generalize hUwl:upd H wl _=H1;have sH1:=xb.of_eq hwl hUwl;have ewl:=xn hUwl;clear hUwl;walk_at"w";refine⟨sH1.at hP,[],rfl,fun x v m=>by simp at m,fun f H2 hf s2 hcl=>?_⟩;have s02:xb H H2:=sH1.trans s2;walk_at"w";refine⟨l,f,os.map V.ref,[],fun i=>rTo (ps.getD i dR),rfl,rfl,s02.seq hl,by rw[af];lia,hcl,fun i x hx H3 s3=>?_,⟨fun i hi=>by simp,fun i j k _ _ _ h1 h2=>decide_eq_true (by have:=of_decide_eq_true h1;have:=of_decide_eq_true h2;lia),fun i j hi hj hij=>?_⟩,fun sl p H3 s3 hsl esl hpm hpw=>?_⟩
  ·rw[aF]at hx;cases ho:os[i]? with
   |none=>rw[ho]at hx;cases hx
   |some o=>
    rw[ho]at hx;cases hx;obtain⟨pr,hy,py⟩:=yh hp ho;obtain⟨to,sg,rfl,_⟩:=hok pr (aB hy);obtain⟨dx,t,p1,p2⟩:=py;refine⟨o,dx,t,to,sg.length,rfl,rfl,(s02.trans s3).at p1,xb.refl _,?_⟩;have:ps.getD i dR= .put to sg:=by simp only[bc];rw[hy];rfl
    show V.int to=V.int (rTo (ps.getD i dR));rw[this];rfl
  ·rw[af]at hi hj;have hi2:i<ps.length:=by lia
   have hj2:j<ps.length:=by lia
   have gi:rTo (ps.getD i dR)=rTo ps[i]:=by simp[bc,hi2]
   have gj:rTo (ps.getD j dR)=rTo ps[j]:=by simp[bc,hj2]
   show decide (rTo (ps.getD i dR)<rTo (ps.getD j dR))=true∨decide (rTo (ps.getD j dR)<rTo (ps.getD i dR))=true;rw[gi,gj];have ne:rTo ps[i]≠rTo ps[j]:=by
    rcases Nat.lt_or_gt_of_ne hij with z|z
    ·have:=bT.mp hnd i j (by simp;lia) (by simp;lia) z;simpa using this
    ·have:=bT.mp hnd j i (by simp;lia) (by simp;lia) z;intro e;exact this (by simp[e])
   rcases Int.lt_or_gt_of_ne ne with z|z
   ·exact .inl (decide_eq_true z)
   ·exact .inr (decide_eq_true z)
  ·walk_at"w";rw[af,elen]at hpm;have s03:xb H H3:=s02.trans s3;have hwl:H wl=none:=hwl;refine⟨sl,rfl,⟨_,SqL.of esl⟩,?_⟩;have hmem:∀i∈p,i<ps.length:=fun i hi=>bx.mp (hpm.mem_iff.mp hi);refine vc (fun i σ G=>xb H G∧G sl=some (.lst (p.map fun(i:Nat)=>(os.map V.ref).getD i .non))∧∃(z2 z3:Option V) (ros:List Addr),σ=[some (.ref l),some (.ref wl),z2,z3]∧G wl=some (.lst (ros.map V.ref))∧Paired (xB K a G) ros (((p.take i).map fun i=>ps.getD i dR).foldl xG [])∧(∀x∈((p.take i).map fun i=>ps.getD i dR).foldl xG [],zd x)∧ros.length≤i)
    ⟨s03,esl,_,_,[],rfl,(s2.trans s3).at ewl,.nil,fun x hx=>by simp at hx,ak _⟩ (fun i σ G _ hPv=>SqL.of hPv.2.1) (fun i x σ G hx hPv=>?_) (fun σ G hPv=>?_)
   ·obtain⟨sG,hsG,z2,z3,ros,rfl,hwG,hpr,hpk,hrl⟩:=hPv;rw[aF]at hx;cases hpi:p[i]? with
    |none=>rw[hpi]at hx;cases hx
    |some j=>
    rw[hpi]at hx;have hj:j<ps.length:=hmem j (aB hpi);have hjo:j<os.length:=by lia
    have ex:x= .ref os[j]:=by cases hx;simp[bc,hjo]
    clear hx;subst ex;have hil:i<p.length:=(aH.mp hpi).1;have hpl:p.length=ps.length:=by have:=hpm.length_eq;simpa using this
    obtain⟨pr,hy,py⟩:=yh hp (aj hjo);have hpk2:=hok pr (aB hy);obtain⟨to,sg',rfl,g1,g2,g3⟩:=id hpk2;have egj:ps.getD j dR= .put to sg':=by simp only[bc];rw[hy];rfl
    have enext:((p.take (i+1)).map fun i=>ps.getD i dR).foldl xG []=xG (((p.take i).map fun i=>ps.getD i dR).foldl xG []) (.put to sg'):=by
     rw[cb,hpi];simp[eO,egj];rw[←egj];rfl
    have hnext:=xd8 hpk hpk2;rw[enext];have hwsl:wl≠sl:=fun z=>by rw[z]at ewl;have:=s2.at ewl;rw[hsl]at this;cases this
    generalize ((p.take i).map fun i=>ps.getD i dR).foldl xG []=acc at hpr hpk hnext⊢;obtain⟨dx,u,o1,o2⟩:=py.same sG;clear enext;walk_at"w";refine⟨wl,_,rfl,.inl (SqL.of hwG),?_⟩;walk_at"w";have app:xG acc (.put to sg')=acc++[.put to sg']→∀(G':Hp),xb G G'→xb H (upd G' wl (.lst (ros.map V.ref++[.ref os[j]])))∧upd G' wl (.lst (ros.map V.ref++[.ref os[j]])) sl=some (.lst (p.map fun(i:Nat)=>(os.map V.ref).getD i .non))∧∃(z2' z3':Option V) (ros':List Addr),([some (.ref l),some (.ref wl),some (.ref os[j]),z3]:L2.St)=[some (.ref l),some (.ref wl),z2',z3']∧upd G' wl (.lst (ros.map V.ref++[.ref os[j]])) wl=some (.lst (ros'.map V.ref))∧Paired (xB K a (upd G' wl (.lst (ros.map V.ref++[.ref os[j]])))) ros' (xG acc (.put to sg'))∧(∀x∈xG acc (.put to sg'),zd x)∧ros'.length≤i+1:=fun ej G' g=>by
     refine⟨(sG.trans g).put hwl,by rw[xj (aR hwsl)];exact g.at hsG,_,_,ros++[os[j]],rfl,by rw[xk,aJ];rfl,?_,hnext,by rw[av,bB];lia⟩;rw[ej];exact yo (L2.Paired.imp' (fun _ _ z=>(z.same g).offw (g.at hwG)) hpr) (xB.offw (r:=.put to sg') ⟨dx,u,g.at o1,g.at o2⟩ (g.at hwG))
    refine⟨fun e1=>?_,fun e1=>?_⟩
    ·rcases eW acc with z|⟨acc',last,z⟩
     ·subst z;cases hpr;simp at e1
     rw[eX]at z;subst z;obtain⟨ros',lo,rfl,hpr',hlast⟩:=xd9 hpr;obtain⟨t,sg,rfl,u1,u2,u3⟩:=hpk last (by simp);obtain⟨ldx,lu,l1,l2⟩:=hlast;walk_at"w";have hat:atI ((ros'++[lo]).map V.ref) (-1)=some (.ref lo):=by
      rw[aJ];have e:ixN (ros'.length+1) (-1)=some ros'.length:=by
       unfold ixN
       first
        |(rw[if_neg (by lia),if_pos (by lia)];congr 1;lia)
        |(simp;lia)
        |simp
      simp[atI,e]
     refine⟨wl,_,_,_,rfl,rfl,SqL.of hwG,hat,?_⟩;walk_at"w";refine⟨lo,ldx,_,rfl,l1,rfl,?_⟩;walk_at"w";refine⟨lo,_,ldx,_,t,sg.length,rfl,l1,T.q0x,T.q1f,T.q1e,rfl,rfl,fun ct hct=>?_⟩;generalize hV:upd G ct _=G1;have gG1:=xb.of_eq hct hV;have ect:=xn hV;clear hV;walk_at"w";refine⟨ct,_,_,.int (t+sg.length),rfl,rfl,SqT.of ect,rfl,?_⟩;walk_at"w";refine⟨_,_,dx,_,.int to,rfl,gG1.at o1,T.q0x,T.q1f,rfl,?_⟩;walk_at"w";refine⟨fun e2=>?_,fun e2=>?_⟩
     ·have ht2:t+sg.length=to:=of_decide_eq_true e2;walk_at"w";refine⟨.inl ⟨rfl,_,SqL.of (gG1.at hwG)⟩,wl,_,.ref lo,rfl,rfl,gG1.at hwG,by simp,?_⟩;have edl:((ros'++[lo]).map V.ref).dropLast=ros'.map V.ref:=by rw[aJ];simp
      rw[edl];generalize hU:upd G1 wl _=G2;have hw2:=xn hU;have off2:∀b w0,b≠wl→G1 b=some w0→G2 b=some w0:=fun b w0 hb e=>by rw[←hU,xj hb];exact e
      have hs2:xb H G2:=by rw[←hU];exact(sG.trans gG1).put hwl
      have nl:∀{b:Addr} {w0:HO},G1 b=some w0→(∀ys,w0≠.lst ys)→b≠wl:=fun{b w0} e n z=>by rw[z,gG1.at hwG]at e;cases e;exact n _ rfl
      have hpr2:Paired (xB K a G2) ros' acc':=by rw[←hU];exact L2.Paired.imp' (fun _ _ z=>(z.same gG1).offw (gG1.at hwG)) hpr'
      clear hU;have l1':=off2 lo _ (nl (gG1.at l1) (by intro _ z;cases z)) (gG1.at l1);have l2':=off2 lu _ (nl (gG1.at l2) (by intro _ z;cases z)) (gG1.at l2);have o1':=off2 os[j] _ (nl (gG1.at o1) (by intro _ z;cases z)) (gG1.at o1);have o2':=off2 u _ (nl (gG1.at o2) (by intro _ z;cases z)) (gG1.at o2);have hsl2:=off2 sl _ (aR hwsl) (gG1.at hsG);walk_at"w";refine⟨.inl ⟨rfl,_,SqL.of hw2⟩,?_⟩;walk_at"w";refine⟨_,_,ldx,_,.int t,rfl,l1',T.q0x,T.q1f,rfl,?_⟩;walk_at"w";refine⟨_,_,ldx,_,.ref lu,rfl,l1',T.q0x,T.q0D,rfl,?_⟩;walk_at"w";refine⟨_,_,dx,_,.ref u,rfl,o1',T.q0x,T.q0D,rfl,?_⟩;walk_at"w";refine⟨lu,u,_,_,rfl,rfl,SqT.of l2',SqT.of o2',by simpa using u1,by rw[af,af,ax];lia,fun z=>absurd z (by simpa using g1),fun _ cp hcp=>?_⟩;generalize hW:upd G2 cp _=G3;have g3':=xb.of_eq hcp hW;have ecp:=xn hW;clear hW;walk_at"w";intro x xdx hx hxdx nex;generalize hUx:upd G3 xdx (.own x)=G4;have sG4:=xb.of_eq hxdx hUx;have hx3:G4 x=none:=by rw[←hUx,xj (aR nex)];exact hx
      refine⟨x,xdx,cp,t,_,rfl,xk,SqT.of ((xb.new hx3).at (sG4.at ecp)),rfl,?_⟩;rw[yU];generalize hX:upd G4 x _=G5;have g5:=xb.of_eq hx3 hX;have ex5:=xn hX;clear hX;have g35:xb G3 G5:=sG4.trans g5;have g25:xb G2 G5:=g3'.trans g35;walk_at"w";refine⟨wl,_,_,rfl,rfl,g25.at hw2,by rw[af,ax];rw[av,bB]at hrl;lia,?_⟩;refine⟨(hs2.trans g25).put hwl,by rw[xj (aR hwsl)];exact g25.at hsl2,_,_,ros'++[x],rfl,by rw[xk,aJ];rfl,?_,hnext,by rw[av,bB]at hrl⊢;lia⟩;rw[zG,if_pos ht2];refine yo (L2.Paired.imp' (fun _ _ z=>(z.same g25).offw (g25.at hw2)) hpr2) (xB.offw (r:=.put t (sg++sg')) ⟨xdx,cp,?_,?_⟩ (g25.at hw2))
      ·rw[ex5];simp
      ·rw[g35.at ecp,aJ]
     ·have ht2:¬t+sg.length=to:=of_decide_eq_false e2;walk_at"w";refine⟨.inl ⟨rfl,_,SqL.of (gG1.at hwG)⟩,?_⟩;walk_at"w";refine⟨wl,_,_,rfl,rfl,gG1.at hwG,by rw[af,ax];lia,?_⟩;exact app (by rw[zG,if_neg ht2]) _ gG1
    ·have hr0:ros=[]:=by
      have:=of_decide_eq_false e1;rw[af]at this;exact fV.mp (by lia)
     subst hr0;have ha0:acc=[]:=by cases hpr;rfl
     subst ha0;refine⟨by walk_at"no",fun _=>?_⟩;walk_at"w";refine⟨.inl ⟨rfl,_,SqL.of ((xb.refl G).at hwG)⟩,?_⟩;walk_at"w";refine⟨wl,_,_,rfl,rfl,(xb.refl G).at hwG,by rw[af,ax];lia,?_⟩;exact app (vC _) _ (xb.refl G)
   ·obtain⟨sG,hsG,z2,z3,ros,rfl,hwG,hpr,hpk,hrl⟩:=hPv;rw[af,bh (ak _)]at hpr;walk_at"w";exact k wl ros p G sG hwl hwG hpm (cK.mpr (hpw.imp fun h=>of_decide_eq_true h)) hpr
end
theorem Goes.sub{xss:List (List Int)}{key:Int→List Int}{left ord:List Int}{tur:List (Int×List Int)}(h:Goes xss key left ord tur):(∀x∈ord,x∈left)∧∀x∈tur,x.1∈left:=by
 induction h with
 |nil=>exact⟨fun _ h=>h,fun _ h=>by simp at h⟩
 |keep k hk _ _ ih=>
  refine⟨fun x hx=>?_,fun x hx=>(aU.mp (ih.2 x hx)).1⟩;rcases ar.mp hx with z|z
  ·rw[z];exact hk
  ·exact(aU.mp (ih.1 x z)).1
 |turn k _ _ _ hk _ ih=>
  refine⟨fun x hx=>(aU.mp (ih.1 x hx)).1,fun x hx=>?_⟩;rcases ar.mp hx with z|z
  ·rw[z];exact hk
  ·exact(aU.mp (ih.2 x z)).1
theorem xdp{left:List Int}{k:Int}(hn:left.Nodup)(hk:k∈left):(k::left.filter fun x=>decide (x≠k)).Perm left:=by
 refine(List.perm_ext_iff_of_nodup ?_ hn).mpr fun x=>?_
 ·exact cA.mpr ⟨fun h=>by simpa using(aU.mp h).2,hn.filter _⟩
 ·rw[ar,aU];constructor
  ·rintro(z|z)
   ·rw[z];exact hk
   ·exact z.1
  ·intro h
   by_cases e:x=k
   ·exact .inl e
   ·exact .inr ⟨h,by simpa using e⟩
theorem Goes.perm{xss:List (List Int)}{key:Int→List Int}{left ord:List Int}{tur:List (Int×List Int)}(h:Goes xss key left ord tur):left.Nodup→(ord++tur.map (·.1)).Perm left:=by
 induction h with
 |nil=>exact fun _=>.refl _
 |keep k hk _ _ ih=>exact fun hn=>((ih (hn.filter _)).cons k).trans (xdp hn hk)
 |turn k _ _ _ hk _ ih=>exact fun hn=>(List.perm_middle.trans ((ih (hn.filter _)).cons k)).trans (xdp hn hk)
theorem Goes.pair{xss:List (List Int)}{key:Int→List Int}{left ord:List Int}{tur:List (Int×List Int)}(h:Goes xss key left ord tur):ord.Pairwise fun k x=>x∉xss.getD k.toNat []:=by
 induction h with
 |nil=>exact .nil
 |keep k hk hh hg ih=>exact c9.mpr ⟨fun x hx hm=>hh ⟨x,(aU.mp (hg.sub.1 x hx)).1,hm⟩,ih⟩
 |turn k _ _ _ hk _ ih=>exact ih
theorem xiw:∀{rs:List xf} {n:Nat} {wr:List Int},(∀r∈rs,∀x∈r.rds,x∉wr)→(rs.Pairwise fun r s=>∀x∈s.rds,x∉r.wrs)→xdG n rs wr=none
 |[],_,_,_,_=>rfl
 |r::rs,n,wr,h,hp=>by
  obtain⟨h1,h2⟩:=c9.mp hp;have e:(r.rds.find? fun c=>decide (c∈wr))=none:=gR.mpr fun x hx=>by simpa using h r aS x hx
  unfold xdG;rw[e];exact xiw (fun s hs x hx hm=>by
   rcases aY.mp hm with z|z
   ·exact h s (aD _ hs) x hx z
   ·exact h1 s hs x hx z) h2
theorem xix{lo x:Int}{n:Nat}(h:x∈yD lo n):lo≤x∧x<lo+n:=by
 unfold yD at h;obtain⟨i,hi,rfl⟩:=a7.mp h;have:=bx.mp hi;lia
theorem xpU{s:xf}{x:Int}(h:x∈s.rds):s.rd.1≤x∧x<s.rd.2:=by
 cases s with
 |put _ _=>simp[xf.rds]at h
 |take to st c=>
  by_cases e:st=to
  ·simp[xf.rds,e]at h
  ·have h2:x∈yD st c.toNat:=by simpa [xf.rds,e]using h
   have:=xix h2;have e2:xf.rd (.take to st c)=(st,st+c):=by simp[xf.rd,e]
   rw[e2];exact⟨this.1,by show x<st+c;lia⟩
theorem xpV{s:xf}{x:Int}(h:x∈s.wrs):s.wr.1≤x∧x<s.wr.2:=by
 cases s with
 |put to sg=>exact xix (show x∈yD to sg.length from h)
 |take to st c=>
  by_cases e:st=to
  ·simp[xf.wrs,e]at h
  ·have h2:x∈yD to c.toNat:=by simpa [xf.wrs,e]using h
   have:=xix h2;have e2:xf.wr (.take to st c)=(to,to+c):=by simp[xf.wr,e]
   rw[e2];exact⟨this.1,by show x<to+c;lia⟩
theorem xoP{r s:xf}(h:xdH r.wr s.rd=false):∀x∈s.rds,x∉r.wrs:=fun x hx hw=>by
 have h:=of_decide_eq_false h;have a1:=xpU hx;have a2:=xpV hw;omega
theorem xqB{rs:List xf}{k x:Int}(k0:0≤k)(k1:k<rs.length)(x0:0≤x)(x1:x<rs.length)(ne:x≠k)(h:x∉(yw rs).getD k.toNat []):xdH (rs.getD k.toNat dR).wr (rs.getD x.toNat dR).rd=false:=by
 have hk:k.toNat<rs.length:=by lia
 have hx:x.toNat<rs.length:=by lia
 have e:(yw rs).getD k.toNat []=xa4 k.toNat ((rs.map xf.wr).getD k.toNat (0,0)) (rs.map xf.rd):=by simp[yw,bc,hk]
 rw[e]at h;have e1:(rs.map xf.wr).getD k.toNat (0,0)=(rs.getD k.toNat dR).wr:=by simp[bc,hk]
 have e2:(rs.map xf.rd).getD x.toNat (0,0)=(rs.getD x.toNat dR).rd:=by simp[bc,hx]
 rw[e1]at h;cases hm:xdH (rs.getD k.toNat dR).wr (rs.getD x.toNat dR).rd with
 |false=>rfl
 |true=>
  refine absurd (a7.mpr ⟨x.toNat,aU.mpr ⟨bx.mpr (by rw[af];exact hx),?_⟩,by lia⟩) h;rw[e2,hm,Bool.and_true];simp;lia
theorem xmt{rs puts:List xf}{key:Int→List Int}{ord:List Int}{tur:List (Int×List Int)}(h:Goes (yw rs) key ((a9 rs.length).map fun(i:Nat)=>(i:Int)) ord tur)(hp:∀r∈puts,r.isTake=false):xff ((ord.map fun x=>rs.getD x.toNat dR)++puts)=none:=by
 have hin:∀x∈ord,0≤x∧x<rs.length:=fun x hx=>by
  obtain⟨i,hi,rfl⟩:=a7.mp (h.sub.1 x hx);have:=bx.mp hi;lia
 have hnd:ord.Nodup:=by
  have h1:=(h.perm (cK.mpr (dZ.imp fun h e=>h (by lia)))).nodup_iff.mpr (cK.mpr (dZ.imp fun h e=>h (by lia)));exact(List.nodup_append.mp h1).1
 have hput:∀{s:xf},s∈puts→s.rds=[]:=fun{s} hs=>by
  cases s with
  |take _ _ _=>have:=hp _ hs;cases this
  |put _ _=>rfl
 refine xiw (fun r _ x _=>by simp) (ff.mpr ⟨cK.mpr ?_,?_,fun r _ s hs x hx=>by rw[hput hs]at hx;simp at hx⟩)
 ·refine(hnd.and h.pair).imp_of_mem fun{k x} hk hx hq=>?_;exact xoP (xqB (hin k hk).1 (hin k hk).2 (hin x hx).1 (hin x hx).2 (aR hq.1) hq.2)
 ·exact List.pairwise_of_forall_mem_list fun r _ s hs x hx=>by rw[hput hs]at hx;simp at hx
theorem xdq{acc:List xf}{to:Int}{sg':List Int}(h:∀x∈acc,zd x)(j:Nat):(∃r∈xG acc (.put to sg'),yq r j)↔(∃r∈acc,yq r j)∨yq (.put to sg') j:=by
 rcases eW acc with z|⟨acc',last,z⟩
 ·subst z;rw[vC];simp
 ·rw[eX]at z;subst z;obtain⟨t,sg,rfl,u1,u2,u3⟩:=h last (by simp);rw[zG]
  split
  ·rename_i e;have key:yq (.put t (sg++sg')) j↔yq (.put t sg) j∨yq (.put to sg') j:=by
    unfold yq;simp only[xf.to,xf.cnt,av];omega
   simp only[aY,aE,or_and_right,exists_or,exists_eq_left,key];exact or_assoc.symm
  ·simp only[aY,aE,or_and_right,exists_or,exists_eq_left]
theorem xgn{es nw:List Int}{acc:List xf}{to:Int}{sg':List Int}(h:∀x∈acc,zd x)(hr:zd (.put to sg'))(ha:∀x∈acc,Tells es nw x)(ht:Tells es nw (.put to sg')):∀x∈xG acc (.put to sg'),Tells es nw x:=by
 rcases eW acc with z|⟨acc',last,z⟩
 ·subst z;rw[vC];intro x hx;rw[aE.mp hx];exact ht
 ·rw[eX]at z;subst z;obtain⟨t,sg,rfl,u1,u2,u3⟩:=h last (by simp);obtain⟨to2,sg2,e2,v1,v2,v3⟩:=hr;cases e2;have hl:=ha _ (aO _ (List.mem_singleton_self _));rw[zG]
  split
  ·rename_i e;intro x hx;rcases aY.mp hx with q|q
   ·exact ha x (bf _ q)
   ·rw[aE.mp q];obtain⟨⟨a1,a2,a3,a4⟩,_,a5,a6⟩:=hl;obtain⟨⟨b1,b2,b3,b4⟩,_,b5,b6⟩:=ht;simp only[xf.to,xf.cnt,xf.sg]at a5 a6 b5 b6;refine⟨⟨a1,by simp[a2],by rw[av];lia,fun y hy=>?_⟩,b0,?_,fun i hi=>?_⟩
    ·rcases aY.mp hy with w|w
     ·exact a4 y w
     ·exact b4 y w
    ·simp only[xf.to,xf.cnt,av];lia
    ·simp only[xf.to,xf.cnt,xf.sg,av]at hi⊢
     by_cases c:i<sg.length
     ·rw[bj c];exact a6 i c
     ·rw[bE (by lia)];have:=b6 (i - sg.length) (by lia);rw[←this]
      congr 2
      lia
  ·intro x hx;rcases aY.mp hx with q|q
   ·exact ha x q
   ·rw[aE.mp q];exact ht
namespace ML
theorem xQ.side{es ns:List Int}{least:Int}:∀{rs:List xf} {i j:Nat} {b b':Bool},xQ es ns least i b rs j b'→i≤j∧(∀r∈rs,(i:Int)≤r.to∧r.to+r.cnt≤j∧0<r.cnt)∧(rs.Pairwise fun r s=>r.to+(r.cnt:Int)≤s.to)∧∀c,i≤c→c<j→∃r∈rs,yq r c
 |[],i,j,b,b',h=>by
  have:=h.1;exact⟨by lia,fun r hr=>by simp at hr,.nil,fun c h1 h2=>by lia⟩
 | .put to sg::rs,i,j,b,b',h=>by
  obtain⟨h1,h2,h3,h4,h5,h6,h7⟩:=h;obtain⟨g1,g2,g3,g4⟩:=h7.side;have hp:=cu.mpr h3;subst h2;refine⟨by lia,fun r hr=>?_,c9.mpr ⟨fun s hs=>?_,g3⟩,fun c c1 c2=>?_⟩
  ·rcases ar.mp hr with z|z
   ·rw[z];simp only[xf.to,xf.cnt];lia
   ·have:=g2 r z;lia
  ·have:=(g2 s hs).1;show(i:Int)+(sg.length:Int)≤s.to;lia
  ·by_cases q:c<i+sg.length
   ·exact⟨_,aS,by unfold yq;simp only[xf.to,xf.cnt];lia⟩
   ·obtain⟨r,hr,hc⟩:=g4 c (by lia) c2;exact⟨r,aD _ hr,hc⟩
 | .take to st c::rs,i,j,b,b',h=>by
  obtain⟨st',c',h1,h2,h3,h4,h5,h6,h7,h8⟩:=h;obtain⟨g1,g2,g3,g4⟩:=h8.side;subst h1;subst h2;subst h3;refine⟨by lia,fun r hr=>?_,c9.mpr ⟨fun s hs=>?_,g3⟩,fun d c1 c2=>?_⟩
  ·rcases ar.mp hr with z|z
   ·rw[z];simp only[xf.to,xf.cnt];lia
   ·have:=g2 r z;lia
  ·have:=(g2 s hs).1;show(i:Int)+(((c':Int).toNat:Nat):Int)≤s.to;lia
  ·by_cases q:d<i+c'
   ·exact⟨_,aS,by unfold yq;simp only[xf.to,xf.cnt];lia⟩
   ·obtain⟨r,hr,hc⟩:=g4 d (by lia) c2;exact⟨r,aD _ hr,hc⟩
theorem xiy:∀xs ys:List Int,lcp xs ys≤xs.length
 |[],_=>by simp[lcp]
 |x::xs,[]=>by simp[lcp]
 |x::xs,y::ys=>by
  rw[uS]
  split
  ·have:=xiy xs ys;simp only[bt];lia
  ·lia
theorem zY.tells{es ps:List Int}{a c:Nat}(h:zY es ps es.length a c)(h0:0<c):a+c≤es.length∧(es.drop a).take c=ps.take c:=by
 rcases h.2 with z|⟨_,g1,g2,_⟩
 ·lia
 ·have h1:=xiy (es.drop a) ps;have h2:=xdo (es.drop a) ps;rw[aX]at h1;exact⟨by lia,(xaL (by lia)).mpr (by lia)⟩
theorem xQ.tells{es ns:List Int}{least:Int}(hb:Bnd ns)(hn:ns.length≤100):∀{rs:List xf} {i j:Nat} {b b':Bool},xQ es ns least i b rs j b'→∀r∈rs,Tells es ns r∧xex es.length ns.length r
 |[],i,j,b,b',h=>fun r hr=>by simp at hr
 | .put to sg::rs,i,j,b,b',h=>fun r hr=>by
  obtain⟨h1,h2,h3,h4,h5,h6,h7⟩:=h;rcases ar.mp hr with z|z
  ·subst z;subst h2;refine⟨⟨⟨by lia,h3,by lia,fun x hx=>?_⟩,b0,by simp only[xf.to,xf.cnt];lia,fun k hk=>?_⟩,by show(i:Int)+sg.length≤ns.length;lia⟩
   ·rw[h5]at hx;exact hb x (c6 (c5 hx))
   ·have hk:k<sg.length:=hk;show ns[((i:Int)+(k:Int)).toNat]? =sg[k]?;have e:sg[k]? =((ns.drop i).take sg.length)[k]? :=by rw[←h5]
    rw[e,dj hk,ck]
    congr 1
  ·exact h7.tells hb hn r z
 | .take to st c::rs,i,j,b,b',h=>fun r hr=>by
  obtain⟨st',c',h1,h2,h3,h4,h5,h6,h7,h8⟩:=h;rcases ar.mp hr with z|z
  ·subst z;subst h1;subst h2;subst h3;obtain⟨g1,g2⟩:=h7.tells h5;refine⟨⟨⟨by lia,by lia,by lia⟩,by show(st':Int)+(c':Int)≤es.length;lia,by simp only[xf.to,xf.cnt];lia,fun k hk=>?_⟩,by show(st':Int)+c'≤es.length∧(i:Int)+c'≤ns.length;lia⟩;have hk:k<c':=by simpa [xf.cnt]using hk
   show ns[((i:Int)+(k:Int)).toNat]? =((es.drop (st':Int).toNat).take (c':Int).toNat)[k]?;rw[cz,cz,g2,dj hk,ck]
   congr 1
  ·exact h8.tells hb hn r z
theorem uH{α β:Type}{R:α→β→Prop}{p:α→Bool}{q:β→Bool}:∀{xs:List α} {ys:List β},Paired R xs ys→(∀x y,R x y→p x=q y)→Paired R (xs.filter p) (ys.filter q)
 |_,_,.nil,_=>.nil
 |x::xs,y::ys,.cons h r,e=>by
  have:=e x y h;cases hq:q y with
  |true=>rw[ee (by rw[this];exact hq),ee hq];exact .cons h (uH r e)
  |false=>rw[d9 (by rw[this,hq];decide),d9 (by rw[hq];decide)];exact uH r e
noncomputable def isT(K:ah)(a:Adr)(H:Hp)(o:Addr):Bool:=open Classical in decide (∃r,xB K a H o r∧r.isTake=true)
theorem xiz{K:ah}{a:Adr}{H:Hp}{o:Addr}{r:xf}(h:xB K a H o r):isT K a H o=r.isTake:=by
 cases r with
 |take to st c=>unfold isT;exact@decide_eq_true _ (iF _) ⟨_,h,rfl⟩
 |put to sg=>
  unfold isT;refine@decide_eq_false _ (iF _) ?_;rintro⟨r2,h2,e2⟩;cases r2 with
  |put _ _=>cases e2
  |take to2 st2 c2=>
   obtain⟨dx,u,h1,_⟩:=h;obtain⟨dx2,h3⟩:=h2;rw[h1]at h3;injection h3 with h3;injection h3 with _ _ h4;have h5:((["to","count","signs"]:List Str))=(["to","count","source"]:List Str):=congrArg (fun l=>l.map (·.1)) h4
   revert h5
   decide+kernel
def Off(r s:xf):Prop:=∀c∈r.cv,c∉s.cv
theorem xdI{r:xf}{c:Int}:c∈r.cv↔r.to≤c∧c<r.to+r.cnt:=by
 cases r with
 |take to st n=>exact yp
 |put to sg=>exact yp
theorem Off.sym{r s:xf}(h:Off r s):Off s r:=fun c h1 h2=>h c h2 h1
theorem xnx{A L:List xf}{x y z:xf}(e:∀c,c∈z.cv→c∈x.cv∨c∈y.cv)(h:(A++x::y::L).Pairwise Off):(A++z::L).Pairwise Off:=by
 obtain⟨h1,h2,h3⟩:=ff.mp h;obtain⟨h4,h5⟩:=c9.mp h2;obtain⟨h6,h7⟩:=c9.mp h5;refine ff.mpr ⟨h1,c9.mpr ⟨fun s hs c hc=>?_,h7⟩,fun r hr s hs=>?_⟩
 ·rcases e c hc with q|q
  ·exact h4 s (aD _ hs) c q
  ·exact h6 s hs c q
 ·rcases ar.mp hs with q|q
  ·subst q;intro c c1 c2;rcases e c c2 with q|q
   ·exact h3 r hr x aS c c1 q
   ·exact h3 r hr y (aD _ aS) c c1 q
  ·exact h3 r hr s (aD _ (aD _ q))
theorem xiA{X acc L:List xf}{r:xf}(h:∀x∈acc,zd x)(hr:zd r)(hp:(X++acc++r::L).Pairwise Off):(X++xG acc r++L).Pairwise Off∧(xG acc r).length≤acc.length+1:=by
 obtain⟨to,sg',rfl,v1,v2,v3⟩:=hr;rcases eW acc with z|⟨acc',last,z⟩
 ·subst z;rw[vC];exact⟨by simpa using hp,by simp⟩
 ·rw[eX]at z;subst z;obtain⟨t,sg,rfl,u1,u2,u3⟩:=h last (by simp);rw[zG]
  split
  ·rename_i e;refine⟨?_,by simp⟩;have hp':((X++acc')++xf.put t sg::xf.put to sg'::L).Pairwise Off:=by simpa using hp
   have:=xnx (z:=.put t (sg++sg')) (fun c hc=>by
    rw[xdI]at hc⊢;rw[xdI];simp only[xf.to,xf.cnt,av]at hc⊢;omega) hp'
   simpa using this
  ·exact⟨by simpa using hp,by simp⟩
theorem xnO{es nw:List Int}{X:List xf}:∀{L acc:List xf},(∀x∈acc,zd x)→(∀x∈L,zd x)→(∀x∈acc,Tells es nw x)→(∀x∈L,Tells es nw x)→(X++acc++L).Pairwise Off→
  (∀x∈L.foldl xG acc,zd x)∧(∀x∈L.foldl xG acc,Tells es nw x)∧(X++L.foldl xG acc).Pairwise Off∧(L.foldl xG acc).length≤acc.length+L.length∧∀j,((∃r∈acc,yq r j)∨∃r∈L,yq r j)→∃r∈L.foldl xG acc,yq r j
 |[],acc,h1,h2,h3,h4,h5=>⟨h1,h3,by simpa using h5,by simp,fun j h=>by
   rcases h with h|⟨r,hr,_⟩
   ·exact h
   ·simp at hr⟩
 |r::L,acc,h1,h2,h3,h4,h5=>by
  have hr:=h2 r aS;obtain⟨to,sg',rfl,v1,v2,v3⟩:=id hr;have ht:=h4 _ aS;obtain⟨o1,o2⟩:=xiA h1 hr h5;obtain⟨g1,g2,g3,g4,g5⟩:=xnO (L:=L) (xd8 h1 hr) (fun x hx=>h2 x (aD _ hx)) (xgn h1 hr h3 ht) (fun x hx=>h4 x (aD _ hx)) o1;refine⟨g1,g2,g3,?_,fun j hj=>g5 j ?_⟩
  ·rw[bt];rw[List.foldl_cons];lia
  ·rcases hj with q|⟨s,hs,hc⟩
   ·exact .inl ((xdq h1 j).mpr (.inl q))
   ·rcases ar.mp hs with z|z
    ·subst z;exact .inl ((xdq h1 j).mpr (.inr hc))
    ·exact .inr ⟨s,z,hc⟩
def uj(es:List Int)(r:xf):xf:=.put r.to (r.sg es)
theorem xdr{es nw:List Int}{r:xf}(h:Tells es nw r):(uj es r).cnt=r.cnt:=xf.sg_len h.1 h.2.1
theorem xny{es nw:List Int}{r:xf}(h:Tells es nw r):(uj es r).cv=r.cv:=by
 have:=xdr h;cases r with
 |take to st n=>unfold uj xf.cv;simp only[xf.to];congr 1
 |put to sg=>rfl
theorem xds{es nw:List Int}{r:xf}(h:Tells es nw r):0<r.cnt:=by
 cases r with
 |take to st n=>have:=h.1.2.2;show 0<n.toNat;lia
 |put to sg=>exact cu.mpr h.1.2.1
theorem xea{es nw:List Int}{r:xf}(hb:Bnd nw)(hn:nw.length≤58)(h:Tells es nw r):Tells es nw (uj es r)∧zd (uj es r):=by
 have hc:=xdr h;have hl:(r.sg es).length=r.cnt:=hc;have hp:=xds h;have h0:=h.1.to;obtain⟨h1,h2,h3,h4⟩:=h;have hne:r.sg es≠[]:=cu.mp (by lia);refine⟨⟨⟨h0,hne,by lia,fun x hx=>?_⟩,b0,?_,fun i hi=>?_⟩,r.to,r.sg es,rfl,hne,h0,by lia⟩
 ·obtain⟨i,hi,rfl⟩:=cZ.mp hx;have:=h4 i (by lia);rw[aj hi]at this;exact hb _ (aB this)
 ·show r.to+((uj es r).cnt:Int)≤nw.length;rw[hc];exact h3
 ·exact h4 i (by lia)
theorem xgO{es nw:List Int}{r:xf}(he:es.length≤60)(hn:nw.length≤58)(h:Tells es nw r):xex es.length nw.length r∧Sm r:=by
 obtain⟨h1,h2,h3,h4⟩:=h;cases r with
 |take to st n=>
  obtain⟨k1,k2,k3⟩:=h1;have h2:st+n≤es.length:=h2;have h3:to+(n.toNat:Int)≤nw.length:=h3;exact⟨⟨h2,by lia⟩,by lia,by lia,by lia⟩
 |put to sg=>
  have h3:to+(sg.length:Int)≤nw.length:=h3;have:=h1.1;exact⟨h3,by lia,by lia⟩
theorem xmu(r:xf):rTo r=r.to:=by cases r<;> rfl
theorem range_getD{α:Type}(xs:List α)(d:α):(a9 xs.length).map (fun i=>xs.getD i d)=xs:=by
 apply List.ext_getElem
 ·simp
 ·intro i h1 h2;simp[bc,h2]
structure Made(es nw:List Int)(ks all:List xf)(ord:List Int)(tur:List (Int×List Int)):Prop where
 ok:∀r∈all,zd r
 few:all.length<64
 nd:(all.map rTo).Nodup
 all:∀p:List Nat,p.Perm (a9 all.length)→∀D,D=(ord.map fun x=>ks.getD x.toNat dR)++(p.map fun i=>all.getD i dR).foldl xG []→D.length≤58∧(∀r∈D,xex es.length nw.length r∧Sm r∧Tells es nw r)∧Dis D∧xff D=none∧∀j,j<nw.length→∃r∈D,yq r j
theorem xoQ{es nw:List Int}{rs:List xf}{b:Bool}{key:Int→List Int}{ord:List Int}{tur:List (Int×List Int)}(he:es.length≤60)(hn:nw.length≤58)(hb:Bnd nw)(hri:xQ es nw 6 0 false rs nw.length b)
  (hg:Goes (yw (rs.filter xf.isTake)) key ((a9 (rs.filter xf.isTake).length).map fun(i:Nat)=>(i:Int)) ord tur):
  Made es nw (rs.filter xf.isTake) ((rs.filter fun r=> !r.isTake)++tur.map fun kr=>uj es ((rs.filter xf.isTake).getD kr.1.toNat dR)) ord tur:=by
 obtain⟨_,_,s3,s4⟩:=hri.side;have hfew:=hri.few;have htl:∀r∈rs,Tells es nw r:=fun r hr=>(hri.tells hb (by lia) r hr).1;generalize hks:rs.filter xf.isTake=ks at*;generalize hps:(rs.filter fun r=> !r.isTake)=ps at*;have hperm:(ks++ps).Perm rs:=by rw[←hks,←hps];exact List.filter_append_perm _ _
 have hg2:=(hg.perm (cK.mpr (dZ.imp fun h e=>h (by lia)))).map fun x=>ks.getD x.toNat dR;rw[cm,show((fun x:Int=>ks.getD x.toNat dR)∘fun(i:Nat)=>(i:Int))=fun i=>ks.getD i dR from funext fun i=>by simp,range_getD,aJ,cm]at hg2
 -- all rows,the turned ones as takes
 have hL:((ord.map fun x=>ks.getD x.toNat dR)++(ps++tur.map fun kr=>ks.getD kr.1.toNat dR)).Perm rs:=by
  refine((List.Perm.append_left _ List.perm_append_comm).trans ?_).trans hperm;rw[←cJ];exact hg2.append_right _
 have hmem:∀r,r∈rs↔r∈(ord.map fun x=>ks.getD x.toNat dR)++(ps++tur.map fun kr=>ks.getD kr.1.toNat dR):=fun r=>hL.mem_iff.symm;have htur:∀kr∈tur,Tells es nw (ks.getD kr.1.toNat dR):=fun kr hk=>htl _ ((hmem _).mpr (aO _ (aO _ (a7.mpr ⟨kr,hk,rfl⟩))));have hoff:((ord.map fun x=>ks.getD x.toNat dR)++(ps++tur.map fun kr=>ks.getD kr.1.toNat dR)).Pairwise Off:=by
  refine(hL.pairwise_iff (fun h=>Off.sym h)).mpr (s3.imp fun{r s} h c c1 c2=>?_);have:=xdI.mp c1;have:=xdI.mp c2;lia
 have hcv:∀xs:List (Int×List Int),(∀kr∈xs,Tells es nw (ks.getD kr.1.toNat dR))→(xs.map fun kr=>uj es (ks.getD kr.1.toNat dR)).map xf.cv=(xs.map fun kr=>ks.getD kr.1.toNat dR).map xf.cv:=fun xs h=>by
  rw[cm,cm];exact List.map_congr_left fun kr hk=>xny (h kr hk)
 have hoff2:((ord.map fun x=>ks.getD x.toNat dR)++(ps++tur.map fun kr=>uj es (ks.getD kr.1.toNat dR))).Pairwise Off:=by
  have key:∀xs:List xf,xs.Pairwise Off↔(xs.map xf.cv).Pairwise fun x y=>∀c∈x,c∉y:=fun xs=>by rw[cK];rfl
  rw[key]at hoff⊢;rw[aJ,aJ,hcv tur htur,←aJ,←aJ];exact hoff
 have hput:∀r∈ps++tur.map fun kr=>uj es (ks.getD kr.1.toNat dR),Tells es nw r∧zd r:=fun r hr=>by
  rcases aY.mp hr with q|q
  ·have ht:=htl r ((hmem r).mpr (aO _ (bf _ q)));have:r.isTake=false:=by
    rw[←hps]at q;simpa using(aU.mp q).2
   cases r with
   |take _ _ _=>cases this
   |put to sg=>exact⟨ht,(xea hb hn ht).2⟩
  ·obtain⟨kr,hk,rfl⟩:=a7.mp q;exact xea hb hn (htur kr hk)
 have hlen:=hL.length_eq;simp only[av,af]at hlen;generalize hall:(ps++tur.map fun kr=>uj es (ks.getD kr.1.toNat dR))=all at*;have hal:all.length=ps.length+tur.length:=by rw[←hall];simp
 refine⟨fun r hr=>(hput r hr).2,by lia,?_,fun p hp D hD=>?_⟩
 ·refine cK.mpr ((ff.mp hoff2).2.1.imp_of_mem fun{r s} hr hs h e=>?_);rw[xmu,xmu]at e;have p1:=xds (hput r hr).1;have p2:=xds (hput s hs).1;exact h r.to (xdI.mpr ⟨by lia,by lia⟩) (xdI.mpr ⟨by lia,by lia⟩)
 ·have hpa:(p.map fun i=>all.getD i dR).Perm all:=by
   have:=hp.map fun i=>all.getD i dR
   rwa [range_getD]at this
  have ho3:((ord.map fun(x:Int)=>ks.getD x.toNat dR)++[]++p.map fun i=>all.getD i dR).Pairwise Off:=by
   rw[dI];exact((hpa.append_left _).pairwise_iff (fun h=>Off.sym h)).mpr hoff2
  obtain⟨g1,g2,g3,g4,g5⟩:=xnO (es:=es) (nw:=nw) (fun x hx=>by simp at hx) (fun x hx=>(hput x (hpa.mem_iff.mp hx)).2) (fun x hx=>by simp at hx) (fun x hx=>(hput x (hpa.mem_iff.mp hx)).1) ho3;have gl:((p.map fun i=>all.getD i dR).foldl xG []).length≤all.length:=by
   refine bg g4 ?_;rw[hpa.length_eq];simp
  have hDt:∀r∈D,Tells es nw r:=fun r hr=>by
   rw[hD]at hr;rcases aY.mp hr with q|q
   ·exact htl r ((hmem r).mpr (bf _ q))
   ·exact g2 r q
  refine⟨?_,fun r hr=>⟨(xgO he hn (hDt r hr)).1,(xgO he hn (hDt r hr)).2,hDt r hr⟩,?_,?_,fun j hj=>?_⟩
  ·rw[hD,av,af];lia
  ·rw[←hD]at g3;intro i j r s hi hj c c1 c2;obtain⟨hi',rfl⟩:=aH.mp hi;obtain⟨hj',rfl⟩:=aH.mp hj;have pw:=bT.mp g3;rcases Nat.lt_trichotomy i j with z|z|z
   ·exact absurd c2 (pw i j hi' hj' z c c1)
   ·exact z
   ·exact absurd c1 (pw j i hj' hi' z c c2)
  ·rw[hD];refine xmt hg fun r hr=>?_;obtain⟨to,sg,rfl,_⟩:=g1 r hr;rfl
  ·obtain⟨r,hr,hc⟩:=s4 j (by lia) hj;rcases aY.mp ((hmem r).mp hr)with q|q
   ·exact⟨r,by rw[hD];exact bf _ q,hc⟩
   ·have hin:∃s∈all,yq s j:=by
     rw[←hall];rcases aY.mp q with q|q
     ·exact⟨r,bf _ q,hc⟩
     ·obtain⟨kr,hk,rfl⟩:=a7.mp q;refine⟨_,aO _ (a7.mpr ⟨kr,hk,rfl⟩),?_⟩;have e:=xdr (htur kr hk);unfold yq at hc⊢;rw[e];exact hc
    obtain⟨s,hs,hsc⟩:=hin;obtain⟨u,hu,huc⟩:=g5 j (.inr ⟨s,hpa.mem_iff.mpr hs,hsc⟩);exact⟨u,by rw[hD];exact aO _ hu,huc⟩
section
variable {P:aG} {w:World} {K:ah} {mg:Str→Option Value} {base:Heap} {a:Adr}
def xdJ(K:ah):Sp:=fun vs H Q _=>∃(e n:Addr) (es nw:List Int),vs=[.ref e,.ref n,.int 6]∧H za=some (.tbl ue)∧H yk=some (.tbl zb)∧H zV=some (.tbl jc)∧H e=some (.lst (es.map V.int))∧H n=some (.lst (nw.map V.int))∧es.length≤60∧nw.length≤58∧Bnd nw∧
 ∀(t p tt tr:Addr) (us:List Addr) (rs:List xf) (H':Hp),xb H H'→H' t=some (.tup [.ref p,.ref tr])→H' p=some (.tup [.int es.length,.int nw.length,.ref tt])→H' tt=some (.tup (us.map V.ref))→Paired (GT K H') us rs→us.length≤58→(∀r∈rs,xex es.length nw.length r)→Dis rs→xff rs=none→(∀r∈rs,Tells es nw r)→(∀j,j<nw.length→∃r∈rs,yq r j)→Q (.ref t) H'
theorem xaN(T:Txt K mg a):xy P w K mg base CX0 1 a.q1l a.xbe ["self"] (xib a):=by
 refine T.q2b.ok xdb (fun vs H Q E h=>?_) (fun cdv A outer s H vs Q E hr h=>?_)
 ·obtain⟨o,dx,to,st,c,rfl,_⟩:=h;rfl
 ·obtain⟨o,dx,to,st,c,rfl,h1,k⟩:=h;have nd:=xdb.nd;refine⟨_,(xl (xu (yx (xa xeH (xa (xA (cv 0) rfl) (xa (xA (cv 0) rfl) (xa (xA (cv 0) rfl) xc))))))),?_⟩;walk_at"w";refine⟨o,_,dx,_,.int to,rfl,h1,T.q0d,T.q0s,rfl,?_⟩;walk_at"w";refine⟨o,_,dx,_,.int st,rfl,h1,T.q0d,T.q0h,rfl,?_⟩;walk_at"w";refine⟨o,_,dx,_,.int c,rfl,h1,T.q0d,T.q0v,rfl,?_⟩;walk_at"w";exact⟨by walk_at"side",k⟩
theorem xi9(T:Txt K mg a):xy P w K mg base CX0 1 a.q1A a.xb0 ["self"] (xic a):=by
 refine T.q2q.ok xdX (fun vs H Q E h=>?_) (fun cdv A outer s H vs Q E hr h=>?_)
 ·obtain⟨o,dx,u,to,n,rfl,_⟩:=h;rfl
 ·obtain⟨o,dx,u,to,n,rfl,h1,k⟩:=h;have nd:=xdX.nd;refine⟨_,(xl (xu (yx (xa xeH (xa (xA (cv 0) rfl) (xa (xA (cv 0) rfl) xc)))))),?_⟩;walk_at"w";refine⟨o,_,dx,_,.int to,rfl,h1,T.q0x,T.q1f,rfl,?_⟩;walk_at"w";refine⟨o,_,dx,_,.ref u,rfl,h1,T.q0x,T.q0D,rfl,?_⟩;walk_at"w";exact⟨by walk_at"side",k⟩
theorem xnz{H:Hp}{o:Addr}{r:xf}{Q:VK}{σ:L2.St}{i:Nat}(ho:xB K a H o r)
  (k:∀t H',xb H H'→TupAt K H' t r→Q (.ref t) H') (hσ:σ[i]? =some (some (.ref o)):=by rfl):
  vS a.q0c "told" (xic a) [] E0 (uY i) jU σ H Q∨vS a.q0a "told" (xib a) [] E0 (uY i) jU σ H Q:=by
 cases r with
 |put to sg=>
  obtain⟨dx,u,h1,h2⟩:=ho
  left
  unfold vS uY;rw[hσ];exact⟨o,dx,_,rfl,h1,rfl,o,dx,u,to,_,rfl,h1,fun t ht=>k t _ (xb.new ht) ⟨u,xk,(xb.new ht).at h2⟩⟩
 |take to st c=>
  obtain⟨dx,h1⟩:=ho
  right
  unfold vS uY;rw[hσ];exact⟨o,dx,_,rfl,h1,rfl,o,dx,to,st,c,rfl,h1,fun t ht=>k t _ (xb.new ht) xk⟩
theorem xfA{α β:Type}{R S:α→β→Prop}:∀{xs:List α} {ys:List β},(∀x,∀y∈ys,R x y→S x y)→Paired R xs ys→Paired S xs ys
 |_,_,_,.nil=>.nil
 |_,_,h,.cons x r=>.cons (h _ _ aS x) (xfA (fun x y hy=>h x y (aD _ hy)) r)
theorem xfB{α β γ:Type}{R:α→β→Prop}{f:γ→α}{g:γ→β}:∀{xs:List γ},(∀x∈xs,R (f x) (g x))→Paired R (xs.map f) (xs.map g)
 |[],_=>.nil
 |x::xs,h=>.cons (h x aS) (xfB fun y hy=>h y (aD _ hy))
theorem xkY{xss:List (List Int)}{key:Int→List Int}{left ord:List Int}{tur:List (Int×List Int)}(h:Goes xss key left ord tur):(∀x∈left,0≤x∧x<xss.length∧x∉xss.getD x.toNat [])→∀kr∈tur,(∀x∈kr.2,x∈left)∧kr.2.length≤left.length:=by
 induction h with
 |nil=>exact fun _ kr hk=>by simp at hk
 |keep k hk _ _ ih=>
  refine fun hl kr hkr=>?_;obtain⟨h1,h2⟩:=ih (fun x hx=>hl x (aU.mp hx).1) kr hkr;exact⟨fun x hx=>(aU.mp (h1 x hx)).1,bg h2 (b8 _ _)⟩
 |turn k hh hr _ hk _ ih=>
  refine fun hl kr hkr=>?_;rcases ar.mp hkr with z|z
  ·subst z;obtain⟨_,g2,g3,_⟩:=xgM (fun x hx=>⟨(hl x hx).1,(hl x hx).2.1,hh x hx⟩) (fun x hx=>(hl x hx).2.2) hr;exact⟨g3,xaQ g2 g3⟩
  ·obtain⟨h1,h2⟩:=ih (fun x hx=>hl x (aU.mp hx).1) kr z;exact⟨fun x hx=>(aU.mp (h1 x hx)).1,bg h2 (b8 _ _)⟩
theorem xeb{α β:Type}{R:α→β→Prop}{d:α}{d':β}:∀{xs:List α} {ys:List β} {i:Nat},Paired R xs ys→i<ys.length→R (xs.getD i d) (ys.getD i d')
 |_,_,0,.cons h _,_=>h
 |_,_,i+1,.cons _ r,hi=>xeb (i:=i) r (Nat.lt_of_succ_lt_succ hi)
theorem xdK(T:Txt K mg a):xy P w K mg base CX0 6 a.q2C a.xc0 ["elder","newer","least"] (xdJ K):=by
 refine T.xaw.ok xjt (fun vs H Q E h=>?_) (fun cdv A outer s H vs Q E hr h=>?_)
 ·obtain⟨e,n,es,nw,rfl,_⟩:=h;rfl
 ·obtain⟨e,n,es,nw,rfl,hP1,hP2,hP3,he,hn,hel,hnl,hbn,k⟩:=h;have nd:=xjt.nd;refine⟨_,(xg (xt (i:=3) nd rfl (aM rfl) (xw (xha T) (hr.mono (by decide)) (by rfl) T.xhZ T.q1t.kp T.xhY .nil xp (xa (cv 0) (xa (cv 1) (xa (cv 2) xc)))))
  (xg (xt (i:=4) nd rfl (aM rfl) (xw (xfu T) (hr.mono (by decide)) (by rfl) T.xf4 T.zq.kp T.xf3 .nil xp (xa (xX (yg (cap:=[]) (ys:=[]) rfl rfl rfl rfl rfl trivial (by decide+kernel)) rfl (xW (cv 3)) (fun _ _ _ _=>(cv 0)) (fun _ _ _ _=>(jR (yy (xq (xpA (K:=K) rfl) (by rfl) T.q0n xZ (xa (cv 0) (xa (vE (v:=.ref a.q0a) (by rfl) T.xbw rfl) xc))))))) xc)))
  (xg (xt (i:=5) nd rfl (aM rfl) (xF xJ (cv 4) xm (fun _ _=>rfl)))
  (xg (xt (i:=6) nd rfl (aM rfl) (xF xJ (cv 4) xm (fun _ _=>rfl)))
  (xg (xj2 (i:=7) (yg (cap:=[]) (ys:=[]) rfl rfl rfl rfl rfl trivial (by decide+kernel)) rfl nd rfl rfl (xW (cv 3)) (fun _ _ _ _=>(cv 0)) (fun _ _ _ _=>(jR (yy (xq (xpA (K:=K) rfl) (by rfl) T.q0n xZ (xa (cv 0) (xa (vE (v:=.ref a.q0c) (by rfl) T.xe5 rfl) xc)))))))
  (xg (xH (zK PySem.F.plainAttrs_list PySem.F.slot_list_extend PySem.F.type_list_extend xcD (cv 7) (xa (xei (xfM (cap:=[0]) (ys:=["elder"]) rfl rfl rfl rfl rfl rfl ⟨⟨rfl,rfl,.inl rfl⟩,trivial⟩ (by decide+kernel)) rfl (xW (cv 6)) (fun _ _ _ _=>(xw (xkX T) (hr.mono (by decide)) (by rfl) T.xl1 T.q2l.kp T.xl0 .nil xp (xa (cv 0) (xa (cv 2) xc)))) (fun _ _ _ _=>ye)) xc)))
  (xg (xt (i:=8) nd rfl (aM rfl) (xr xbp (cv 5) (xw (xms T) (hr.mono (by decide)) (by rfl) T.xm7 T.xax.kp T.xm6 .nil xp (xa (cv 7) xc))))
  (xg (xt (i:=9) nd rfl (aM rfl) (yx (xa (xq xx (by rfl) T.q0k xM (xa (cv 0) xc)) (xa (xq xx (by rfl) T.q0k xM (xa (cv 1) xc)) (xa (yK jn (by rfl) T.q2B vL (xa (xX (yg (cap:=[]) (ys:=[]) rfl rfl rfl rfl rfl trivial (by decide+kernel)) rfl (xW (cv 8)) (fun _ _ _ _=>(xhx (yb (cv 0) T.q0x T.q3d (xi9 T) (hr.mono (by decide)) T.xkr .nil xp) (yb (cv 0) T.q0d T.q2o (xaN T) (hr.mono (by decide)) T.xbj .nil xp))) (fun _ _ _ _=>ye)) xc)) xc)))))
  (xl (xu (yx (xa (cv 9) (xa (xei (xfM (cap:=[]) (ys:=[]) rfl rfl rfl rfl rfl rfl trivial (by decide+kernel)) rfl (xW (cv 6)) (fun _ _ _ _=>(yx (xa (yb (cv 0) T.q0d T.q2o (xaN T) (hr.mono (by decide)) T.xbj .nil xp) (xa (xX (yg (cap:=[]) (ys:=[]) rfl rfl rfl rfl rfl trivial (by decide+kernel)) rfl (xm3 (K:=K) rfl (cv 1)) (fun _ _ _ _=>(yb (cv 0) T.q0d T.q2o (xaN T) (hr.mono (by decide)) T.xbj .nil xp)) (fun _ _ _ _=>ye)) xc)))) (fun _ _ _ _=>ye)) xc))))))))))))),?_⟩
  walk_at"w";refine⟨e,n,es,nw,6,rfl,hP1,he,hn,by lia,by lia,by lia,fun l os rs b H1 s1 hl el hpo hri=>?_⟩;have hpo:Paired (xB K a H1) os rs:=hpo;have elen:os.length=rs.length:=hpo.length;have hfw:=hri.few;have hsz:(os.map V.ref).length<aQ:=by rw[af,ax];lia
  have row:∀{v:V} {G:Hp},v∈os.map V.ref→xb H1 G→∃o r,v= .ref o∧xB K a G o r∧isT K a H1 o=r.isTake:=fun{v G} hv sG=>by
   obtain⟨o,ho,rfl⟩:=a7.mp hv;obtain⟨r,_,hT⟩:=Paired.mem hpo ho;exact⟨o,r,rfl,hT.same sG,xiz hT⟩
  walk_at"w";refine⟨l,rfl,⟨_,SqL.of el⟩,?_⟩;refine vf (fun v=>match v with| .ref o=>isT K a H1 o|_=>false) id (SqL.of el) hsz (fun v G2 hv s2 R hR=>?_) (fun v G2 hv _ s2 R hR=>?_) (fun D1 H2 hD1 s2 eD1=>?_)
  ·obtain⟨o,r,rfl,ho,ht⟩:=row hv s2;have:=hR G2 (xb.refl _);dsimp only at this;rw[ht]at this;cases r with
   |take to st c=>
    obtain⟨dx,ho⟩:=ho;walk_at"w";exact⟨_,_,_,_,true,rfl,rfl,T.xbx ho,T.q1Z,this⟩
   |put to sg=>
    obtain⟨dx,u,ho,_⟩:=ho;walk_at"w";exact⟨_,_,_,_,false,rfl,rfl,T.xh2 ho,T.q2Z,this⟩
  ·exact hR _ (xb.refl _)
  have eD1:H2 D1=some (.lst ((os.filter fun o=>isT K a H1 o).map V.ref)):=by rw[eD1,kR,gD];rfl
  have hpt:=uH (p:=fun o=>isT K a H1 o) (q:=xf.isTake) hpo fun x y z=>xiz z;have hpp:=uH (p:=fun o=> !isT K a H1 o) (q:=fun r=> !r.isTake) hpo fun x y z=>by rw[xiz z]
  generalize htk:(os.filter fun o=>isT K a H1 o)=tk at eD1 hpt;have hkl:(rs.filter xf.isTake).length≤rs.length:=b8 _ _;have hpl:(rs.filter fun r=> !r.isTake).length≤rs.length:=b8 _ _;walk_at"w";refine⟨D1,tk,rs.filter xf.isTake,rfl,SqL.of eD1,L2.Paired.imp' (fun _ _ z=>z.same s2) hpt,fun r hr=>(aU.mp hr).2,by lia,(s1.trans s2).at hP2,fun p o t ord tur trs H3 s3 hp ho ht hot ep eo et hpt2 hg=>?_⟩;have M:=xoQ hel hnl hbn hri hg;have hks:∀r∈rs.filter xf.isTake,r.isTake=true∧Tells es nw r:=fun r hr=>⟨(aU.mp hr).2,(hri.tells hbn (by lia) r (aU.mp hr).1).1⟩;generalize rs.filter xf.isTake=ks at*;generalize hall:((rs.filter fun r=> !r.isTake)++tur.map fun kr=>uj es (ks.getD kr.1.toNat dR))=all at*;have tkAt:∀x∈(a9 ks.length).map fun(i:Nat)=>(i:Int),∃to st c,ks.getD x.toNat dR= .take to st c∧xB K a H1 (tk.getD x.toNat 0) (.take to st c)∧Tells es nw (.take to st c):=fun x hx=>by
   obtain⟨i,hi,rfl⟩:=a7.mp hx;have hi:=bx.mp hi;have h1:=xeb (d:=0) (d':=dR) hpt hi;have h2:=hks (ks.getD i dR) (by simp[bc,hi]);rw[cz];cases hr:ks.getD i dR with
   |put _ _=>rw[hr]at h2;cases h2.1
   |take to st c=>rw[hr]at h1 h2;exact⟨to,st,c,rfl,h1,h2.2⟩
  walk_at"w";refine⟨p,_,_,.ref o,rfl,rfl,SqT.of ep,rfl,?_⟩;walk_at"w";refine⟨p,_,_,.ref t,rfl,rfl,SqT.of ep,rfl,?_⟩;walk_at"w";refine⟨l,rfl,⟨_,SqL.of ((s2.trans s3).at el)⟩,?_⟩;refine vf (fun v=>match v with| .ref o=> !isT K a H1 o|_=>false) id (SqL.of ((s2.trans s3).at el)) hsz (fun v G2 hv s4 R hR=>?_) (fun v G2 hv _ s4 R hR=>?_) (fun D2 H4 hD2 s4 eD2=>?_)
  ·obtain⟨o,r,rfl,ho,ht⟩:=row hv ((s2.trans s3).trans s4);have:=hR G2 (xb.refl _);dsimp only at this;rw[ht]at this;cases r with
   |take to st c=>
    obtain⟨dx,ho⟩:=ho;walk_at"w";exact⟨_,_,_,_,false,rfl,rfl,T.xbx ho,T.q3c,this⟩
   |put to sg=>
    obtain⟨dx,u,ho,_⟩:=ho;walk_at"w";exact⟨_,_,_,_,true,rfl,rfl,T.xh2 ho,T.q3g,this⟩
  ·exact hR _ (xb.refl _)
  have eD2:H4 D2=some (.lst ((os.filter fun o=> !isT K a H1 o).map V.ref)):=by
   rw[eD2,kR,gD];rfl
  generalize hpu:(os.filter fun o=> !isT K a H1 o)=pu at eD2 hpp;have s14:xb H1 H4:=s2.trans (s3.trans s4);have hturl:=hpt2.length;have hlen:tur.length≤58:=by
   have:=M.few;have h1:=hg.perm (cK.mpr (dZ.imp fun h e=>h (by lia)));have h2:=h1.length_eq;simp only[av,af,c7]at h2;lia
  walk_at"w";refine⟨.inl ⟨rfl,_,SqL.of eD2⟩,?_⟩;walk_at"w";refine⟨t,rfl,⟨_,SqL.of (s4.at et)⟩,?_⟩;refine xdU (fun i acc G=>∃us:List Addr,acc=us.map V.ref∧Paired (xB K a G) us ((tur.take i).map fun kr=>uj es (ks.getD kr.1.toNat dR))) (SqL.of (s4.at et)) (by rw[af,ax];lia) ⟨[],rfl,.nil⟩ (fun i x acc G3 G3' hx g3 g3' hPv=>?_) (fun B acc H5 H5' hB hB5 s5 s5' hPv hacc eB=>?_)
  ·obtain⟨us,rfl,hus⟩:=hPv;rw[aF]at hx;cases hc0:trs[i]? with
   |none=>rw[hc0]at hx;cases hx
   |some y=>
   rw[hc0]at hx;cases hx;obtain⟨kr,hkr,rl,n1,n2,x1,x2⟩:=yh hpt2 hc0;obtain⟨to,st,c,ek,hob,htl⟩:=tkAt kr.1 (hg.sub.2 kr (aB hkr));refine⟨y,_,_,rfl,SqT.of ((s4.trans (g3.trans g3')).at x1),fun R hR=>?_⟩;walk_at"w";have hs4:st+c≤es.length:=htl.2.1;have hs5:=htl.1;refine⟨_,e,to,st,c,es,rfl,hob.same (s14.trans (g3.trans g3')),(s1.trans (s14.trans (g3.trans g3'))).at he,hs5.2.1,by have:=hs5.2.2;lia,hs4,fun q G5 g5 hq hoq=>hR _ _ g5 fun G7 s7 k7=>⟨us++[q],by simp,?_⟩⟩;rw[cb,hkr,Option.toList_some,aJ,List.map_singleton,ek];exact yo (L2.Paired.imp' (fun _ _ z=>z.same s7) hus) (hoq.mv k7)
  obtain⟨us,rfl,hus⟩:=hPv;rw[af,hturl,cq]at hus;have gB:xb H4 H5':=s5.trans s5';have hul:=hus.length;rw[af]at hul;walk_at"w";refine⟨D2,B,_,_,rfl,rfl,gB.at eD2,eB,by rw[af,af,ax,hpp.length];lia,?_⟩;generalize hU:upd H5' D2 _=H6;have eD6:H6 D2=some (.lst ((pu++us).map V.ref)):=by rw[←hU,xk,aJ]
  have hus6:=L2.Paired.imp' (fun _ _ z=>show xB K a H6 _ _ by rw[←hU];exact(z.same s5').offw (gB.at eD2)) hus;have s36:xb H3 H6:=xb.wr (s4.trans gB) hD2 hU;clear hU;have s16:xb H1 H6:=s2.trans (s3.trans s36);have hpa:=ui (L2.Paired.imp' (fun _ _ z=>z.same s16) hpp) hus6;rw[hall]at hpa;walk_at"w";refine⟨D2,pu++us,all,rfl,SqL.of eD6,hpa,M.ok,M.few,M.nd,(s1.trans s16).at hP3,fun l' os' pm H7 s7 hl' el' hpm hso hpj=>?_⟩;obtain⟨m1,m2,m3,m4,m5⟩:=M.all pm hpm _ rfl;have s37:=s36.trans s7;have s17:=s16.trans s7;have hdo:Paired (xB K a H7) ((ord.map fun x=>tk.getD x.toNat 0)++os') ((ord.map fun x=>ks.getD x.toNat dR)++(pm.map fun i=>all.getD i dR).foldl xG []):=ui (xfB fun x hx=>by
   obtain⟨to,st,c,ek,hob,_⟩:=tkAt x (hg.sub.1 x hx);rw[ek];exact hob.same s17) hpj
  have eo7:H7 o=some (.lst ((ord.map fun x=>tk.getD x.toNat 0).map V.ref)):=by rw[cm];exact s37.at eo
  generalize ord.map (fun x=>tk.getD x.toNat 0)=oo at*;generalize (ord.map fun x=>ks.getD x.toNat dR)++(pm.map fun i=>all.getD i dR).foldl xG []=D at*;have hdl:=hdo.length;walk_at"w";refine⟨o,l',_,_,rfl,rfl,eo7,el',by rw[←av,←aJ,af,ax];lia,fun dn hdn=>?_⟩;rw[←aJ];generalize oo++os'=dos at*;generalize hV:upd H7 dn _=H8;have s8:=xb.of_eq hdn hV;have ed:=xn hV;clear hV;have s08:xb H H8:=s1.trans (s17.trans s8);walk_at"w";refine⟨e,_,rfl,.inl (SqL.of (s08.at he)),?_⟩;walk_at"w";refine⟨n,_,rfl,.inl (SqL.of (s08.at hn)),?_⟩;rw[af,af];walk_at"w";refine⟨dn,rfl,⟨_,SqL.of ed⟩,?_⟩;refine ve (fun i acc G=>∃ts:List Addr,acc=ts.map V.ref∧Paired (TupAt K G) ts (D.take i)) (SqL.of ed) (by rw[af,ax];lia) ⟨[],rfl,.nil⟩ (fun i x acc G3 G3' hx g3 g3' hPv R hR=>?_) (fun D3 acc H9 H9' hD3 hD9 s9 s9' hPv hacc e3=>?_)
  ·obtain⟨ts,rfl,hts⟩:=hPv;rw[aF]at hx;cases hc0:dos[i]? with
   |none=>rw[hc0]at hx;cases hx
   |some y=>
   rw[hc0]at hx;cases hx;obtain⟨r,hr',ho⟩:=yh hdo hc0;walk_at"w";refine xnz (xB.same ho (s8.trans (g3.trans g3'))) fun t H4 s4 ht4=>hR _ _ s4 fun G7 s7 k7=>⟨ts++[t],by simp,?_⟩;rw[cb,hr'];exact yo (L2.Paired.imp' (fun _ _ z=>TupAt.same z s7) hts) (ht4.mv k7)
  obtain⟨ts,rfl,hts⟩:=hPv;rw[af,hdl,cq]at hts;have s89:xb H8 H9':=s9.trans s9';have hts:=L2.Paired.imp' (fun _ _ z=>TupAt.same z s9') hts;walk_at"w";refine⟨D3,_,rfl,.inl ⟨SqL.of e3,fun tt htt=>?_⟩⟩;generalize hV:upd H9' tt _=H10;have s10:=xb.of_eq htt hV;have ett:=xn hV;clear hV;walk_at"w";refine⟨by walk_at"side",fun pp hpq=>?_⟩;generalize hV:upd H10 pp _=H11;have s11:=xb.of_eq hpq hV;have epp:=xn hV;clear hV;have s3z:xb H3 H11:=s37.trans (s8.trans (s89.trans (s10.trans s11)));have s1z:xb H1 H11:=s17.trans (s8.trans (s89.trans (s10.trans s11)));walk_at"w";refine⟨t,rfl,⟨_,SqL.of (s3z.at et)⟩,?_⟩;refine xdU (fun i acc G=>True) (SqL.of (s3z.at et)) (by rw[af,ax];lia) b0 (fun i x acc G3 G3' hx g3 g3' _=>?_) (fun D5 acc H12 H12' hD5 hD12 s12 s12' _ hacc e5=>?_)
  ·rw[aF]at hx;cases hc0:trs[i]? with
   |none=>rw[hc0]at hx;cases hx
   |some y=>
   rw[hc0]at hx;cases hx;obtain⟨kr,hkr,rl,n1,n2,x1,x2⟩:=yh hpt2 hc0;have hkm:=aB hkr;obtain⟨to,st,c,ek,hob,htl⟩:=tkAt kr.1 (hg.sub.2 kr hkm);obtain⟨r1,r2⟩:=xkY hg (fun x hx=>by
    obtain⟨i,hi,rfl⟩:=a7.mp hx;have hi:=bx.mp hi;exact⟨by lia,by rw[show(yw ks).length=ks.length by simp[yw]];lia,xft (by lia) (by lia)⟩) kr hkm
   rw[af,c7]at r2;have g3z:=s3z.trans (g3.trans g3');have g1z:=s1z.trans (g3.trans g3');refine⟨y,_,_,rfl,SqT.of (g3z.at x1),fun R hR=>?_⟩;obtain⟨dx,hob⟩:=hob;walk_at"w";refine⟨_,dx,_,rfl,g1z.at hob,rfl,?_⟩;walk_at"w";refine⟨_,dx,to,st,c,rfl,g1z.at hob,fun t1 ht1=>?_⟩;have f1:=xb.new (o:=HO.tup [.str "take",.int to,.int st,.int c]) ht1;generalize upd G3' t1 _=G4 at f1⊢;walk_at"w";refine⟨rl,rfl,⟨_,SqL.of ((g3z.trans f1).at x2)⟩,?_⟩;refine ve (fun _ _ _=>True) (SqL.of ((g3z.trans f1).at x2)) (by rw[af,ax];lia) b0 (fun i x acc G5 G5' hx g5 g5' _ R hR2=>?_) (fun D6 acc G6 G6' hD6 hD6' g6 g6' _ hacc e6=>?_)
   ·rw[aF]at hx;cases hc1:kr.2[i]? with
    |none=>rw[hc1]at hx;cases hx
    |some z=>
    rw[hc1]at hx;cases hx;obtain⟨to2,st2,c2,_,⟨dx2,hob2⟩,_⟩:=tkAt z (r1 z (aB hc1));have hz:=((g1z.trans f1).trans (g5.trans g5')).at hob2;walk_at"w";refine⟨_,dx2,_,rfl,hz,rfl,?_⟩;walk_at"w";exact⟨_,dx2,to2,st2,c2,rfl,hz,fun t2 ht2=>hR2 _ _ (xb.new ht2) fun _ _ _=>b0⟩
   walk_at"w";exact⟨by walk_at"side",fun q hq=>hR _ _ (f1.trans ((g6.trans g6').trans (xb.new hq))) fun _ _ _=>b0⟩
  walk_at"w";refine⟨by walk_at"side",fun q hq=>?_⟩;have s12z:=s12.trans s12';have sq:=s12z.trans (xb.new (o:=HO.tup [.ref pp,.ref D5]) hq);exact k q pp tt D5 ts D _ (s08.trans (s89.trans (s10.trans (s11.trans sq)))) xk (sq.at epp) ((s11.trans sq).at ett) (xfA (fun x y hy z=>⟨z.same (s10.trans (s11.trans sq)),(m2 y hy).2.2.1,(m2 y hy).2.1⟩) hts) (by rw[hts.length];exact m1) (fun r hr=>(m2 r hr).1) m3 m4 (fun r hr=>(m2 r hr).2.2) m5
end
end ML
section
variable {P:aG} {w:World} {K:ah} {mg:Str→Option Value} {base:Heap} {a:Adr}
abbrev xdJ:=ML.xdJ
theorem xdK(T:Txt K mg a):xy P w K mg base CX0 6 a.q2C a.xc0 ["elder","newer","least"] (xdJ K):=ML.xdK T
theorem xmv{G H':Hp}{x dx:Addr}{C:Addr}(hx:G x=none)(hd:G dx=none)(k:Kp [x] (upd (upd G dx (.own x)) x (.ins C dx [])) H'):xb G H':=fun b u e=>
 k b u (by rw[xj (xv e hx),xj (xv e hd)];exact e) (by simp;exact xv e hx)
theorem xdt{G:Hp}{x dx b:Addr}{C:Addr}(hx:G x=none)(hd:G dx=none)(e:upd (upd G dx (.own x)) x (.ins C dx []) b=none):G b=none:=by
 by_cases h:b=x
 ·rw[h];exact hx
 ·rw[xj h]at e
  by_cases h2:b=dx
  ·rw[h2];exact hd
  ·rw[xj h2]at e;exact e
theorem xjJ{H:Hp}{us:List Addr}{rs:List xf}(h:Paired (GT K H) us rs):(xO rs).length≤60*us.length:=by
 induction h with
 |nil=>simp[xO]
 |cons hg t ih=>
  have:=xd4 hg.2.1 hg.2.2;unfold xO at ih⊢;rw[List.flatMap_cons,av,af,bt];lia
theorem xmw{H:Hp}{us:List Addr}{rs:List xf}{es nw C0 z:List Int}(hz:C0=es++z)(hus:Paired (GT K H) us rs)(hfit:∀r∈rs,xex es.length nw.length r)(hdis:Dis rs)(hl:xff rs=none)(ht:∀r∈rs,Tells es nw r)(hc:∀j,j<nw.length→∃r∈rs,yq r j)(hn:nw.length≤C0.length):
  (∀x∈xO rs,zr C0.length x)∧(doL C0 (xO rs)).take nw.length=nw∧(doL C0 (xO rs)).drop nw.length=C0.drop nw.length:=by
 have hel:es.length≤C0.length:=by rw[hz,av];lia
 have hdue:=xpR hus hfit (L:=C0.length) (by lia) (by lia);have hk:∀r∈rs,r.ok:=fun r hr=>(ht r hr).1;have run:=xpS (C0:=C0) hk hdue;have sc:vA es C0 rs _:=⟨⟨z,hz⟩,run,fun r hr=>⟨⟨hk r hr,by cases r<;> trivial,by
  have:=hfit r hr;cases r with
  |take to st c=>exact this.1
  |put to sg=>trivial⟩,by have:=(ht r hr).2.2.1;lia⟩,hdis⟩
 have hrt:rs.take rs.length=rs:=cq;have f1:=sc.fine hl hn ht hc;have f2:=sc.rest ht;simp only[hrt]at f1 f2;exact⟨hdue,f1,f2⟩
def NC(u:HO):Prop:=∀c,u≠.cel c
def Sk(H H':Hp):Prop:=∀b u,H b=some u→NC u→H' b=some u
theorem Sk.of{H H':Hp}(s:xb H H'):Sk H H':=fun b u e _=>s b u e
theorem Sk.trans{H H1 H2:Hp}(h:Sk H H1)(g:Sk H1 H2):Sk H H2:=fun b u e n=>g b u (h b u e n) n
theorem Sk.wr{H H':Hp}{f:Addr}{c:Option V}{o:HO}(hf:H f=some (.cel c))(hU:upd H f o=H'):Sk H H':=fun b u e n=>by
 rw[←hU,xj (fun z=>by rw[z,hf]at e;cases e;exact n _ rfl)];exact e
theorem Sk.lst{H H':Hp}(s:Sk H H'){b:Addr}{xs:List V}(e:H b=some (.lst xs)):H' b=some (.lst xs):=s b _ e (fun c z=>by cases z)
theorem Sk.tbl{H H':Hp}(s:Sk H H'){b:Addr}{q:List (Pos×Str)}(e:H b=some (.tbl q)):H' b=some (.tbl q):=s b _ e (fun c z=>by cases z)
theorem xjK{D C0:List Int}{n:Nat}(h:D.drop n=C0.drop n)(hn:n<C0.length):D[C0.length - 1]? =C0[C0.length - 1]? :=by
 have e:=congrArg (fun l:List Int=>l[C0.length - 1 - n]?) h;simp only[ck]at e;rw[show n+(C0.length - 1 - n)=C0.length - 1 by lia]at e;exact e
def xiB(K:ah):Sp:=fun vs H Q _=>∃(l:Addr) (ns:List Int),vs=[.ref l]∧SqL K H l (ns.map V.int)∧ns.length≤63∧H yZ=some (.tbl uA)∧H za=some (.tbl ue)∧H yk=some (.tbl zb)∧H zV=some (.tbl jc)∧H yJ=some (.tbl uf)∧H yd=some (.tbl zc)∧H xdC=some (.tbl xhR)∧∀H',Q (.bl true) H'
theorem xpW(T:Txt K mg a):xy P w K mg base CX0 10 a.q29 a.xhj ["_law_script"] (xiB K):=by
 refine T.xhk.okC ["_law_script","_law_falls"] T.xpP xl5 (fun vs H Q E h=>?_) (fun A outer s H vs Q E hr h=>?_)
 ·obtain⟨l,ns,rfl,_⟩:=h;rfl
 ·obtain⟨l,ns,rfl,hl,hns,hPd,hPe,hPo,hPj,hPw,hPn,hPl,q⟩:=h;have nd:=xl5.nd;refine⟨_,(jb (x:="_law_falls") (i:=6) nd rfl rfl rfl (by kernel_rfl) (jb (x:="_law_script") (i:=0) nd rfl rfl rfl (by kernel_rfl) (xg (xt (i:=1) nd rfl (aM rfl) (xw (xnq T) (hr.mono (by decide)) (by rfl) T.xoA T.q2P.kp T.xoz .nil xp (xa (xw (vz T) (hr.mono (by decide)) (by rfl) T.jf T.q1d.kp T.je .nil xp (xa (cv 0) (xa xm xc))) xc)))
  (xg (xt (i:=2) nd rfl (aM rfl) (xw (xik T) (hr.mono (by decide)) (by rfl) T.xjr T.q2A.kp T.xjq .nil xp (xa (cv 1) (xa (xw (vz T) (hr.mono (by decide)) (by rfl) T.jf T.q1d.kp T.je .nil xp (xa (cv 0) (xa xm xc))) xc))))
  (xg (xt (i:=3) nd rfl (aM rfl) (xw (xik T) (hr.mono (by decide)) (by rfl) T.xjr T.q2A.kp T.xjq .nil xp (xa (cv 2) (xa (xw (vz T) (hr.mono (by decide)) (by rfl) T.jf T.q1d.kp T.je .nil xp (xa (cv 0) (xa xm xc))) xc))))
  (xg (xt (i:=4) nd rfl (aM rfl) (xr xY (xr xY (xq (xpK rfl) (by rfl) T.q21 xaa (xa (xq xx (by rfl) T.q0k xM (xa (cv 1) xc)) (xa (xq xx (by rfl) T.q0k xM (xa (cv 2) xc)) (xa (xq xx (by rfl) T.q0k xM (xa (cv 3) xc)) xc)))) xm) (xr yE (xw (vz T) (hr.mono (by decide)) (by rfl) T.jf T.q1d.kp T.je .nil xp (xa (cv 0) (xa xm xc))) xm)))
  (xg (xt (i:=5) nd rfl (aM rfl) (yi (xa xm xc)))
  (xg (xoc (i:=6) nd rfl rfl rfl (by kernel_rfl) (yi xc))
  (xg (xt (i:=7) nd rfl (aM rfl) (xr xbp (xr xbp (cv 1) (xr xpi (yi (xa xm xc)) (xr uE (xr uE (cv 4) (xq xx (by rfl) T.q0k xM (xa (cv 1) xc))) xm))) (cv 5)))
  (xg (xt (i:=8) nd rfl (aM rfl) (uU T.q3q (xg3 T) (hr.mono (by decide)) (by rfl) T.xoD T.xaz .nil xp (xa (cv 7) (xa (zv (c:=q2W) (P:=xdC) (qs:=xhR) (fns:=["_law_falls","_law_script"]) rfl T.q3S (q:="law.<locals>.<lambda>") (by kernel_rfl) (.head _) (by kernel_rfl) (by kernel_rfl)) xc))))
  (xg (xT (PW.pt (xbJ (xbo (yy (xw (xfo T) (hr.mono (by decide)) (by rfl) T.xgG T.q12.kp T.xgF .nil xp (xa (cv 8) (xa (xF xJ (xw (dvs:=[.int 6]) (xdK T) (hr.mono (by decide)) (by rfl) T.xlZ T.xaw.kp T.xdD (.cons ⟨_,rfl⟩ .nil) xp (xa (cv 1) (xa (cv 2) xc))) xm (fun _ _=>rfl)) (xa (cv 2) (xa (cv 5) xc))))))) (xcA (xbo (yy (xw (xng T) (hr.mono (by decide)) (by rfl) T.xoC T.q2Q.kp T.xoB .nil xp (xa (cv 8) xc))))))) (xl (xu vR)) xN)
  (xl (xu (xw (xfo T) (hr.mono (by decide)) (by rfl) T.xgG T.q12.kp T.xgF .nil xp (xa (cv 8) (xa (xF xJ (xw (dvs:=[.int 6]) (xdK T) (hr.mono (by decide)) (by rfl) T.xlZ T.xaw.kp T.xdD (.cons ⟨_,rfl⟩ .nil) xp (xa (cv 2) (xa (cv 3) xc))) xm (fun _ _=>rfl)) (xa (cv 3) (xa (cv 5) xc)))))))))))))))))),?_⟩
  walk_at"w";intro f1 e1 z1 d1;refine dF z1 ?_;generalize hU1:upd H f1 _=H1;have s1:=xb.of_eq z1 hU1;have c1:H1 f1=some (.cel none):=xn hU1;have b1:∀b,b≠f1→H1 b=H b:=fun b hb=>by rw[←hU1,xj hb]
  clear hU1;walk_at"w";intro f2 e2 z2 d2;have n12:f1≠f2:=d2 _ _ e1 (by decide);have z2':H1 f2=none:=by rw[b1 _ (aR n12)];exact z2
  refine dF z2' ?_;generalize hU2:upd H1 f2 _=H2;have s2:=xb.of_eq z2' hU2;have c2:H2 f2=some (.cel (some (.ref l))):=xn hU2;clear hU2;have s02:xb H H2:=s1.trans s2;have c1:H2 f1=some (.cel none):=s2.at c1;clear b1 z2' s1 s2 d1 d2;walk_at"w";refine⟨l,ns,0,rfl,s02.seq hl,by decide,?_⟩;walk_at"w";refine⟨_,rfl,fun el es H3 s3 hel eel hesl hbe=>?_⟩;walk_at"w";refine⟨l,ns,1,rfl,(s02.trans s3).seq hl,by decide,?_⟩;walk_at"w";refine⟨el,es,_,rfl,eel,hbe,by lia,fun nl nw H4 s4 hnl enl hnwl hbn=>?_⟩;walk_at"w";refine⟨l,ns,2,rfl,(s02.trans (s3.trans s4)).seq hl,by decide,?_⟩;walk_at"w";refine⟨nl,nw,_,rfl,enl,hbn,by lia,fun ml mw H5 s5 hml eml hmwl hbm=>?_⟩;have s05:xb H H5:=s02.trans (s3.trans (s4.trans s5));have eel5:=(s4.trans s5).at eel;have enl5:=s5.at enl;walk_at"w";refine⟨el,_,rfl,.inl (SqL.of eel5),?_⟩;walk_at"w";refine⟨nl,_,rfl,.inl (SqL.of enl5),?_⟩;walk_at"w";refine⟨ml,_,rfl,.inl (SqL.of eml),?_⟩;walk_at"w";rw[af,af,af];refine⟨_,_,_,rfl,?_⟩;walk_at"w";refine⟨l,ns,3,rfl,s05.seq hl,by decide,?_⟩;walk_at"w";walk_at"ss";have m0:=bW (cellAt ns 3) (show(9:Int)≠0 by decide);have m1:=bU (cellAt ns 3) (show(0:Int)<9 by decide);obtain⟨sz,hsz⟩:∃sz:Int,sz=max (es.length:Int) (max (nw.length:Int) (mw.length:Int))+1+cellAt ns 3%9:=⟨_,rfl⟩;intro rl hrl;generalize hUrl:upd H5 rl _=H6;have sH6:=xb.of_eq hrl hUrl;have erl:=xn hUrl;clear hUrl;walk_at"w";walk_at"ss";intro fa hfa;generalize hUfa:upd H6 fa _=H7;have sH7:=xb.of_eq hfa hUfa;have efa:=xn hUfa;clear hUfa;walk_at"w";have s57:xb H5 H7:=sH6.trans sH7;have c1:=s57.at (s5.at (s4.at (s3.at c1)))
  refine⟨f1,e1,c1,?_⟩;generalize hU:upd H7 f1 _=H8;have k78:Sk H7 H8:=Sk.wr c1 hU;have c1:H8 f1=some (.cel (some (.ref fa))):=by rw[←hU,xk]
  have c2:H8 f2=some (.cel (some (.ref l))):=by rw[←hU,xj (aR n12)];exact s57.at (s5.at (s4.at (s3.at c2)))
  clear hU;have k58:Sk H5 H8:=(Sk.of s57).trans k78;have k08:Sk H H8:=(Sk.of s05).trans k58;walk_at"w";walk_at"ss";intro e8 he8;generalize hUe8:upd H8 e8 _=H9;have sH9:=xb.of_eq he8 hUe8;have ee8:=xn hUe8;clear hUe8;walk_at"w";have eel8:=k58.lst eel5;have enl8:=k58.lst enl5;have eml8:=k58.lst eml;have erl8:H8 rl=some (.lst [.int 99]):=k78.lst (sH7.at erl);have efa8:=k78.lst efa;refine⟨el,_,rfl,.inl (SqL.of (sH9.at eel8)),?_⟩;walk_at"w";rw[af];refine⟨e8,_,_,rfl,rfl,ee8,by lia,by lia,by rw[ax];simp;lia,?_⟩;intro z8 hz8;generalize hUz8:upd H9 z8 _=H10;have sH10:=xb.of_eq hz8 hUz8;have ez8:=xn hUz8;clear hUz8;walk_at"w";have s810:=sH9.trans sH10;obtain⟨R,hR⟩:∃R:Nat,R=(max (es.length:Int) (max (nw.length:Int) (mw.length:Int))+1+cellAt ns 3%9 - (es.length:Int) - 1).toNat:=⟨_,rfl⟩;have ez8':H10 z8=some (.lst ((bw R (8:Int)).map V.int)):=by
   rw[ez8,List.flatten_replicate_singleton,kH,hR]
  refine⟨el,z8,_,_,rfl,rfl,s810.at eel8,ez8',by rw[ax];simp;lia,?_⟩;intro cx hcx;generalize hUcx:upd H10 cx _=H11;have sH11:=xb.of_eq hcx hUcx;have ecx:=xn hUcx;clear hUcx;walk_at"w";refine⟨cx,rl,_,_,rfl,rfl,ecx,(s810.trans sH11).at erl8,by rw[ax];simp;lia,?_⟩;intro cl hcl;generalize hUcl:upd H11 cl _=H12;have sH12:=xb.of_eq hcl hUcl;have ecl:=xn hUcl;clear hUcl;walk_at"w";obtain⟨C0,hC0⟩:∃C0:List Int,C0=es++(bw R 8++[99]):=⟨_,rfl⟩;have ecl':H12 cl=some (.lst (C0.map V.int)):=by
   rw[ecl,hC0,aJ,aJ,cJ];rfl
  have s812:xb H8 H12:=s810.trans (sH11.trans sH12);have k012:Sk H H12:=k08.trans (Sk.of s812);refine⟨k012.tbl hPl,[("_law_falls",.ref fa),("_law_script",.ref l)],rfl,fun x v m=>?_,fun f H13 hf s13 hc=>?_⟩
  ·simp only[ar,f9,bu,or_false]at m;rcases m with⟨rfl,rfl⟩|⟨rfl,rfl⟩
   ·exact⟨f1,e1,s812.at c1⟩
   ·exact⟨f2,e2,s812.at c2⟩
  walk_at"w";intro x dx hx hdx nx;have ecl13:=s13.at ecl';refine⟨x,dx,cl,C0,.ref f,rfl,xk,by rw[xj (xv ecl13 hx),xj (xv ecl13 hdx)];exact ecl13,fun S H14 hst kp hS b1 b2 b3=>⟨rfl,?_⟩⟩;have s1314:xb H13 H14:=xmv hx hdx kp;have g1:=xdt hx hdx b1;have g2:=xdt hx hdx b2;have g3:=xdt hx hdx b3;have g4:H13 S.st=none:=by rw[hst];exact hx
  clear kp b1 b2 b3 hx hdx nx;subst hst;have s813:xb H8 H13:=s812.trans s13;have s814:xb H8 H14:=s813.trans s1314;have k013:Sk H H13:=k08.trans (Sk.of s813);have k014:Sk H H14:=k08.trans (Sk.of s814);have k06:Sk H H6:=Sk.of (s05.trans sH6);have fS:∀b∈SS S,H13 b=none:=by
   intro b hb;simp only[ar,bu,or_false]at hb;rcases hb with rfl|rfl|rfl
   ·exact g1
   ·exact g2
   ·exact g3
  have nin:∀{b:Addr} {u:HO},H13 b=some u→b≠fa→b∉fa::SS S:=fun{b u} e n z=>by
   rcases ar.mp z with z|z
   ·exact n z
   ·rw[fS b z]at e;cases e
  have B:Bs K ⟨S,f,fa,l,ns,H14⟩:=by
   refine⟨hc.same s1314,fun G kG=>?_,hns,fun x hx=>?_,fun z=>?_,fun z=>?_,k014.tbl hPd,k014.tbl hPw,k014.tbl hPn⟩
   ·rcases hl with(h|⟨ob,h⟩)|h
    ·exact .inl (.inl (kG _ _ (k014.lst h) (nin (k013.lst h) (fun z=>by rw[←z,k06.lst h]at hfa;cases hfa))))
    ·have h14:=k014 _ _ h (fun c z=>by cases z);have h13:=k013 _ _ h (fun c z=>by cases z);have h6:=k06 _ _ h (fun c z=>by cases z);exact .inl (.inr ⟨ob,kG _ _ h14 (nin h13 (fun z=>by rw[←z,h6]at hfa;cases hfa))⟩)
    ·exact .inr h
   ·rcases ar.mp hx with rfl|hx
    ·exact⟨_,s814.at efa8,trivial⟩
    ·exact hS.mu x hx
   ·have:=s813.at efa8;rw[fS _ z]at this;cases this
   ·have h1:=s813.at efa8;have z:fa=S.st:=z;rw[z,g4]at h1;cases h1
  have hF14:StF a H14 ⟨S,f,fa,l,ns,H14⟩ C0 [some 0,some 0] 0:=⟨⟨0,by lia,hS⟩,Kp.of (xb.refl _),⟨[],s814.at efa8,rfl⟩⟩;have nfel:∀{b:Addr} {xs:List V},H6 b=some (.lst xs)→b≠fa:=fun{b xs} e z=>by rw[z,hfa]at e;cases e
  have nel0:=nin (s813.at eel8) (nfel (sH6.at eel5));have nnl0:=nin (s813.at enl8) (nfel (sH6.at enl5));have nml0:=nin (s813.at eml8) (nfel (sH6.at eml));have nrl0:=nin (s813.at erl8) (nfel erl);obtain⟨F,hFd⟩:∃F:FA,F=⟨S,f,fa,l,ns,H14⟩:=⟨_,rfl⟩;have hst:S.st=F.S.st:=by rw[hFd]
  have hSF:fa::SS S=SF F:=by rw[hFd]
  rw[←hFd]at B hF14;rw[hSF]at nel0 nnl0 nml0 nrl0;have hC0l:(C0.length:Int)=max (es.length:Int) (max (nw.length:Int) (mw.length:Int))+1+cellAt ns 3%9:=by
   rw[hC0];simp;lia
  rw[hst];walk_at"w";refine⟨el,nl,es,nw,rfl,k014.tbl hPe,k014.tbl hPo,k014.tbl hPj,s814.at eel8,s814.at enl8,by lia,by lia,hbn,fun t p tt tr us rs H15 s15 et ep ett hus hul hfit hdis hlt htell hcov=>?_⟩;walk_at"w";refine⟨t,_,_,.ref p,rfl,rfl,SqT.of et,rfl,?_⟩;obtain⟨hdue,htk,hdr⟩:=xmw hC0 hus hfit hdis hlt htell hcov (by lia);have hlC:C0[C0.length - 1]? =some 99:=by
   rw[hC0,←cJ,av];simp
  have hl1:(doL C0 (xO rs))[C0.length - 1]? =some 99:=by rw[xjK hdr (by lia)];exact hlC
  have hF15:=hF14.same s15;have s815:=s814.trans s15;walk_at"w";refine⟨F,p,tt,nl,rl,_,_,us,rs,C0,nw,0,rfl,B,hF15,by lia,ep,ett,hus,hul,by lia,hdue,by have:=xjJ hus;lia,s815.at enl8,s815.at erl8,nnl0,nrl0,by lia,htk,by lia,hl1,fun H16 notes1 k1 k16 hF16 hn1 hk1=>?_⟩;walk_at"w";refine⟨by walk_at"no",fun _=>?_⟩;walk_at"w";refine⟨F,_,_,k1,rfl,B,hF16,hk1,hn1,fun H17 k2 k17 hF17 hk2=>?_⟩;walk_at"w";refine⟨by walk_at"no",fun _=>?_⟩;have k1517:Kp (SF F) H15 H17:=k16.trans k17;have tb:∀{b:Addr} {qs:List (Pos×Str)},H b=some (.tbl qs)→H17 b=some (.tbl qs):=fun{b qs} e=>by
   have e15:=s15.at (k014.tbl e)
   exact k1517 _ _ e15 (hF15.noMu e15 (fun z=>z))
  have enl17:=k1517 _ _ (s815.at enl8) nnl0;have eml17:=k1517 _ _ (s815.at eml8) nml0;have erl17:=k1517 _ _ (s815.at erl8) nrl0;have hDl:(doL C0 (xO rs)).length=C0.length:=yN _ _;walk_at"w";refine⟨nl,ml,nw,mw,rfl,tb hPe,tb hPo,tb hPj,enl17,eml17,by lia,by lia,hbm,fun t' p' tt' tr' us' rs' H18 s18 et' ep' ett' hus' hul' hfit' hdis' hlt' htell' hcov'=>?_⟩;walk_at"w";refine⟨t',_,_,.ref p',rfl,rfl,SqT.of et',rfl,?_⟩;have hz':doL C0 (xO rs)=nw++(doL C0 (xO rs)).drop nw.length:=by
   conv=>lhs;rw[←List.take_append_drop nw.length (doL C0 (xO rs)),htk]
  obtain⟨hdue',htk',hdr'⟩:=xmw hz' hus' hfit' hdis' hlt' htell' hcov' (by lia);have hl2:(doL (doL C0 (xO rs)) (xO rs'))[(doL C0 (xO rs)).length - 1]? =some 99:=by
   rw[xjK hdr' (by lia),hDl];exact hl1
  walk_at"w";refine⟨F,p',tt',ml,rl,_,_,us',rs',_,mw,k2,rfl,B,hF17.same s18,hk2,ep',ett',hus',hul',by lia,hdue',by have:=xjJ hus';lia,s18.at eml17,s18.at erl17,nml0,nrl0,by lia,htk',by lia,hl2,fun H19 notes3 k3 k19 hF19 hn3 hk3=>?_⟩;exact q _
end
abbrev NI(K:ah)(x:Str)(f:Addr):Prop:=iY K bz x=some (some (.ref f))
abbrev NN(K:ah)(x:Str):Prop:=iY K bz x=some none
def FL(K:ah)(x q:Str)(st:Stmt)(f:Addr):Prop:=∃fd,Fun K x q st f fd
theorem bn1{K:ah}{x q:Str}{st:Stmt}{f:Addr}{fd:aw}{p1:Str}(F:Fun K x q st f fd)(h:∀(kV doc pm:Value) (an:Option Addr) (cdv ct u1:Value),e9 (cU x q (xR st) (xD st) (xh st) .none kV doc pm an cdv ct) ⟨[u1],[]⟩=pure [(p1,u1)]:=by intros;exact rfl):Binds K fd [p1] []:=F.binds fun kV doc pm an cdv ct us hl=>match us,hl with|[u1],_=>h kV doc pm an cdv ct u1
theorem bn2{K:ah}{x q:Str}{st:Stmt}{f:Addr}{fd:aw}{p1 p2:Str}(F:Fun K x q st f fd)(h:∀(kV doc pm:Value) (an:Option Addr) (cdv ct u1 u2:Value),e9 (cU x q (xR st) (xD st) (xh st) .none kV doc pm an cdv ct) ⟨[u1,u2],[]⟩=pure [(p1,u1),(p2,u2)]:=by intros;exact rfl):Binds K fd [p1,p2] []:=F.binds fun kV doc pm an cdv ct us hl=>match us,hl with|[u1,u2],_=>h kV doc pm an cdv ct u1 u2
theorem bn3{K:ah}{x q:Str}{st:Stmt}{f:Addr}{fd:aw}{p1 p2 p3:Str}(F:Fun K x q st f fd)(h:∀(kV doc pm:Value) (an:Option Addr) (cdv ct u1 u2 u3:Value),e9 (cU x q (xR st) (xD st) (xh st) .none kV doc pm an cdv ct) ⟨[u1,u2,u3],[]⟩=pure [(p1,u1),(p2,u2),(p3,u3)]:=by intros;exact rfl):Binds K fd [p1,p2,p3] []:=F.binds fun kV doc pm an cdv ct us hl=>match us,hl with|[u1,u2,u3],_=>h kV doc pm an cdv ct u1 u2 u3
theorem bn4{K:ah}{x q:Str}{st:Stmt}{f:Addr}{fd:aw}{p1 p2 p3 p4:Str}(F:Fun K x q st f fd)(h:∀(kV doc pm:Value) (an:Option Addr) (cdv ct u1 u2 u3 u4:Value),e9 (cU x q (xR st) (xD st) (xh st) .none kV doc pm an cdv ct) ⟨[u1,u2,u3,u4],[]⟩=pure [(p1,u1),(p2,u2),(p3,u3),(p4,u4)]:=by intros;exact rfl):Binds K fd [p1,p2,p3,p4] []:=F.binds fun kV doc pm an cdv ct us hl=>match us,hl with|[u1,u2,u3,u4],_=>h kV doc pm an cdv ct u1 u2 u3 u4
theorem bn5{K:ah}{x q:Str}{st:Stmt}{f:Addr}{fd:aw}{p1 p2 p3 p4 p5:Str}(F:Fun K x q st f fd)(h:∀(kV doc pm:Value) (an:Option Addr) (cdv ct u1 u2 u3 u4 u5:Value),e9 (cU x q (xR st) (xD st) (xh st) .none kV doc pm an cdv ct) ⟨[u1,u2,u3,u4,u5],[]⟩=pure [(p1,u1),(p2,u2),(p3,u3),(p4,u4),(p5,u5)]:=by intros;exact rfl):Binds K fd [p1,p2,p3,p4,p5] []:=F.binds fun kV doc pm an cdv ct us hl=>match us,hl with|[u1,u2,u3,u4,u5],_=>h kV doc pm an cdv ct u1 u2 u3 u4 u5
theorem xpX{l:W.OpenLaw}{w:World}{K:ah}{h:Heap}{mg:Str→Option Value}{fa:Addr}{q0X q1z q0C q0Y q1k q07 q0Z q0q q0A q1l q1i q08 q0J q1A q2v q1o q1G q1H q2c q0M q13 q1I q2I q0F q0N q0O q1B q11 q2d q0P q14 q2w q1J q1p q03 q0y q27 q2C q1q q0Q q0K q0G q2e q2f q1C q0t q0j q0R q09 q0E q1a q00 q01 q1b q0g q0l q2g q2J q2K q2L q2h q2M q2i q29 q15 q0a q0c q0r q0b q0f:Addr}{q1c:Addr}{q3A:Option Addr}{q3L:Nat}{q3B:Array (Option Value)}{q3t q3u:Tok}{q37:Addr}{q4u:Option Addr}{q4G:Nat}{q4v:Array (Option Value)}{q4w:Value}{q2x:Tok}{q3j:Addr}{q3C:Option Addr}{q3M:Nat}{q3D:Array (Option Value)}{q3E:Value}{q5t q5u q5v q5w q5x q5y q5z q5A q5B q5C q5D q5E q5F q5G q5H q5I q5J q5K:Option Addr}{q5L q5M q5N q5O q5P q5Q q5R q5S q5T:Array (Option Value)}{q5U q5V q5W q5X q5Y q5Z q50 q51 q52 q53 q54 q55 q56 q57 q4Z q58 q59 q6a q6b q6c q6d q6e q6f q6g q6h q6i q6j q6k q6l q6m q40 q6n q6o q6p q6q q6r q6s q6t q6u q6v q6w q6x q6y q6z q6A q6B q6C:Value}(X:K.In h)(G:h.Ns bz mg)(hfa:mg "law"=some (.ref fa))
  (q41:NI K "Row" q15)
  (q4H:NI K "Take" q0a)
  (q42:NI K "Put" q0c)
  (q43:NI K "Pen" q0r)
  (q4x:NI K "Store" q0b)
  (q4i:NI K "Fallen" q0f)
  (q22:xbR K q0f q0X)
  (q2F:xC K q0f "count")
  (q18:W.kitCls K (.ref q0f) (.ref q0f)=some true)
  (q3K:xpF K q0f)
  (q3a:iO K q0f (.type "BaseException")=some true)
  (q4T:bq K (.ref q0f) "__init__"=some (some (.ref q0X)))
  (q1u:FL K "__init__" "Fallen.__init__" jq q0X)
  (q5m:bq K (.ref q15) "__init__"=some (some (.ref q1z)))
  (q2p:FL K "__init__" "Row.__init__" xbS q1z)
  (q44:bq K (.ref q15) "covers"=some (some (.ref q0C)))
  (q1Q:FL K "covers" "Row.covers" xad q0C)
  (q4U:bq K (.ref q15) "covered"=some (some (.ref q0Y)))
  (q1v:FL K "covered" "Row.covered" jr q0Y)
  (q5k:bq K (.ref q0a) "__init__"=some (some (.ref q1k)))
  (q2a:FL K "__init__" "Take.__init__" xa7 q1k)
  (q45:bq K (.ref q0a) "stays"=some (some (.ref q07)))
  (q1R:FL K "stays" "Take.stays" xae q07)
  (q4V:bq K (.ref q0a) "pieces"=some (some (.ref q0Z)))
  (q1w:FL K "pieces" "Take.pieces" jt q0Z)
  (q4s:bq K (.ref q0a) "source_for"=some (some (.ref q0q)))
  (q0V:FL K "source_for" "Take.source_for" uq q0q)
  (q4F:bq K (.ref q0a) "sign_for"=some (some (.ref q0A)))
  (q1h:FL K "sign_for" "Take.sign_for" vg q0A)
  (q5l:bq K (.ref q0a) "told"=some (some (.ref q1l)))
  (q2b:FL K "told" "Take.told" xa8 q1l)
  (q5n:bq K (.ref q0c) "__init__"=some (some (.ref q1i)))
  (q16:FL K "__init__" "Put.__init__" xbT q1i)
  (q46:bq K (.ref q0c) "pieces"=some (some (.ref q08)))
  (q1S:FL K "pieces" "Put.pieces" xaf q08)
  (q4I:bq K (.ref q0c) "sign_for"=some (some (.ref q0J)))
  (q1m:FL K "sign_for" "Put.sign_for" vN q0J)
  (q5o:bq K (.ref q0c) "told"=some (some (.ref q1A)))
  (q2q:FL K "told" "Put.told" xbU q1A)
  (q4y:NI K "row_of" q2v)
  (q1K:FL K "row_of" "row_of" xen q2v)
  (q3W:NI K "tells_take" q1o)
  (q1r:FL K "tells_take" "tells_take" xag q1o)
  (q32:NI K "tells_put" q1G)
  (q1L:FL K "tells_put" "tells_put" xa9 q1G)
  (q33:NI K "are_signs" q1H)
  (q1M:FL K "are_signs" "are_signs" xba q1H)
  (q4j:NI K "is_sign" q2c)
  (q2j:FL K "is_sign" "is_sign" xcS q2c)
  (q3v:NI K "is_whole_from" q0M)
  (q0m:FL K "is_whole_from" "is_whole_from" vh q0M)
  (q4c:NI K "is_whole" q13)
  (q1D:FL K "is_whole" "is_whole" xbV q13)
  (q34:NI K "pieces_of" q1I)
  (q1N:FL K "pieces_of" "pieces_of" xbb q1I)
  (q4J:NI K "go_on" q2I)
  (q2N:FL K "go_on" "go_on" xfQ q2I)
  (q3r:NI K "refuse_lengths" q0F)
  (q0H:FL K "refuse_lengths" "refuse_lengths" uL q0F)
  (q3w:NI K "refuse_beyond" q0N)
  (q0S:FL K "refuse_beyond" "refuse_beyond" vi q0N)
  (q3x:NI K "places_needed" q0O)
  (q0T:FL K "places_needed" "places_needed" vj q0O)
  (q4d:NI K "do_piece" q1B)
  (q2X:zJ K q0L yZ)
  (q4e:K.lookup q1B=some ⟨q5U,q5t,.func (cU "do_piece" "do_piece" (xR zB) (xD zB) (xh zB) .none q5V q5W q5X q5u (.ref q0L) q5Y),q5L⟩)
  (q0L:dz K (.ref q0L) "do_piece"=true)
  (q4f:cR K (.ref q1B)=true)
  (q4k:NI K "endings" q11)
  (q3f:zJ K q1j za)
  (q4l:K.lookup q11=some ⟨q5Z,q5v,.func (cU "endings" "endings" (xR zU) (xD zU) (xh zU) .none q50 q51 q52 q5w (.ref q1j) q53),q5M⟩)
  (q1j:dz K (.ref q1j) "endings"=true)
  (q4m:cR K (.ref q11)=true)
  (q4n:NI K "longest" q2d)
  (q2k:FL K "longest" "longest" xcT q2d)
  (q3y:NI K "how_many_less" q0P)
  (q0U:FL K "how_many_less" "how_many_less" vk q0P)
  (q4g:NI K "agreeing" q14)
  (q17:FL K "agreeing" "agreeing" xbW q14)
  (q4z:NI K "spoils" q2w)
  (q2y:FL K "spoils" "spoils" xeo q2w)
  (q35:NI K "spoilt_by" q1J)
  (q1O:FL K "spoilt_by" "spoilt_by" xbc q1J)
  (q3X:NI K "ring_among" q1p)
  (q1s:FL K "ring_among" "ring_among" xah q1p)
  (q3F:NI K "stretch_read" q03)
  (q04:FL K "stretch_read" "stretch_read" vO q03)
  (q3n:NI K "stretch_written" q0y)
  (q0z:FL K "stretch_written" "stretch_written" ur q0y)
  (q47:NI K "meet" q27)
  (q28:FL K "meet" "meet" xhQ q27)
  (q48:NI K "made" q2C)
  (q49:K.lookup q2C=some ⟨q54,q5x,.func (cU "made" "made" (xR xbt) (xD xbt) (xh xbt) (.ref q37) q55 q56 q57 q5y q4Z q58),q5N⟩)
  (q4K:K.lookup q37=some ⟨q4w,q4u,.seq #[.int 6 q2x] q4G,q4v⟩)
  (q5a:dz K q4Z "made"=true)
  (q5b:cR K (.ref q2C)=true)
  (q3Y:NI K "rows_found" q1q)
  (q1t:FL K "rows_found" "rows_found" xai q1q)
  (q3z:NI K "put_ending_at" q0Q)
  (q0B:FL K "put_ending_at" "put_ending_at" vm q0Q)
  (q3G:NI K "put_in_order" q0K)
  (q2D:zJ K q0o yk)
  (q3H:K.lookup q0K=some ⟨q59,q5z,.func (cU "put_in_order" "put_in_order" (xR yC) (xD yC) (xh yC) .none q6a q6b q6c q5A (.ref q0o) q6d),q5O⟩)
  (q0o:dz K (.ref q0o) "put_in_order"=true)
  (q3I:cR K (.ref q0K)=true)
  (q3s:NI K "harmless_among" q0G)
  (q0I:FL K "harmless_among" "harmless_among" uM q0G)
  (q4o:NI K "put_for" q2e)
  (q2l:FL K "put_for" "put_for" xcU q2e)
  (q4A:NI K "joined" q2f)
  (q3k:zJ K q1F zV)
  (q4B:K.lookup q2f=some ⟨q6e,q5B,.func (cU "joined" "joined" (xR uN) (xD uN) (xh uN) .none q6f q6g q6h q5C (.ref q1F) q6i),q5P⟩)
  (q1F:dz K (.ref q1F) "joined"=true)
  (q4C:cR K (.ref q2f)=true)
  (q5p:bq K (.ref q0r) "__init__"=some (some (.ref q1C)))
  (q2r:FL K "__init__" "Pen.__init__" xbX q1C)
  (q4D:bq K (.ref q0r) "write_into"=some (some (.ref q0t)))
  (q05:FL K "write_into" "Pen.write_into" uO q0t)
  (q4h:bq K (.ref q0r) "answer_of_fall"=some (some (.ref q0j)))
  (q0w:FL K "answer_of_fall" "Pen.answer_of_fall" zC q0j)
  (q5c:bq K (.ref q0b) "__init__"=some (some (.ref q0R)))
  (q3Z:K.lookup q0R=some ⟨q6j,q5D,.func (cU "__init__" "Store.__init__" (xR zp) (xD zp) (xh zp) (.ref q3j) q6k q6l q6m q5E q40 q6n),q5Q⟩)
  (q3N:K.lookup q3j=some ⟨q3E,q3C,.seq #[.none] q3M,q3D⟩)
  (q30:dz K q40 "Store.__init__"=true)
  (q31:cR K (.ref q0R)=true)
  (q5d:bq K (.ref q0b) "read"=some (some (.ref q09)))
  (q1T:FL K "read" "Store.read" xaj q09)
  (q4W:bq K (.ref q0b) "write"=some (some (.ref q0E)))
  (q2O:zJ K q0u yJ)
  (q3O:K.lookup q0E=some ⟨q6o,q5F,.func (cU "write" "Store.write" (xR yI) (xD yI) (xh yI) .none q6p q6q q6r q5G (.ref q0u) q6s),q5R⟩)
  (q0u:dz K (.ref q0u) "Store.write"=true)
  (q3P:cR K (.ref q0E)=true)
  (q5e:bq K (.ref q0b) "mark"=some (some (.ref q1a)))
  (q1U:FL K "mark" "Store.mark" xak q1a)
  (q4X:bq K (.ref q0b) "noted"=some (some (.ref q00)))
  (q1x:FL K "noted" "Store.noted" ju q00)
  (q4Y:bq K (.ref q0b) "begin"=some (some (.ref q01)))
  (q1y:FL K "begin" "Store.begin" jv q01)
  (q5f:bq K (.ref q0b) "told"=some (some (.ref q1b)))
  (q1V:FL K "told" "Store.told" xal q1b)
  (q36:bq K (.ref q0b) "refuse_lacking"=some (some (.ref q0g)))
  (q0p:FL K "refuse_lacking" "Store.refuse_lacking" zg q0g)
  (q4t:bq K (.ref q0b) "note_down"=some (some (.ref q0l)))
  (q2m:zJ K q0i yd)
  (q3o:K.lookup q0l=some ⟨q6t,q5H,.func (cU "note_down" "Store.note_down" (xR yc) (xD yc) (xh yc) .none q6u q6v q6w q5I (.ref q0i) q6x),q5S⟩)
  (q0i:dz K (.ref q0i) "Store.note_down"=true)
  (q3p:cR K (.ref q0l)=true)
  (q4p:NI K "_law_cell_at" q2g)
  (q1d:FL K "_law_cell_at" "_law_cell_at" xcV q2g)
  (q4L:NI K "_law_mixed" q2J)
  (q1W:FL K "_law_mixed" "_law_mixed" xfR q2J)
  (q4M:NI K "_law_elder" q2K)
  (q2P:FL K "_law_elder" "_law_elder" xfS q2K)
  (q4N:NI K "_law_newer" q2L)
  (q2A:FL K "_law_newer" "_law_newer" xfT q2L)
  (q4q:NI K "_law_fall_at" q2h)
  (q2n:FL K "_law_fall_at" "_law_fall_at" xcW q2h)
  (q4O:NI K "_law_begun" q2M)
  (q2Q:FL K "_law_begun" "_law_begun" xfU q2M)
  (q4r:NI K "_law_brought" q2i)
  (q12:FL K "_law_brought" "_law_brought" xcX q2i)
  (q5q:NI K "law" q29)
  (q3S:zJ K q2W xdC)
  (q5r:K.lookup q29=some ⟨q6y,q5J,.func (cU "law" "law" (xR xbY) (xD xbY) (xh xbY) .none q6z q6A q6B q5K (.ref q2W) q6C),q5T⟩)
  (q2W:dz K (.ref q2W) "law"=true)
  (q5s:cR K (.ref q29)=true)
  (q4E:Cls K q15)
  (q3l:xC K q15 "count")
  (q3J:xC K q15 "to")
  (q0d:Cls K q0a)
  (q0v:xC K q0a "count")
  (q0h:xC K q0a "source")
  (q0s:xC K q0a "to")
  (q3m:Mk K q0a q1k)
  (q0x:Cls K q0c)
  (q1e:xC K q0c "count")
  (q0D:xC K q0c "signs")
  (q1f:xC K q0c "to")
  (q3e:Mk K q0c q1i)
  (q2E:Cls K q0r)
  (q1X:xC K q0r "asked")
  (q2Y:xC K q0r "fall")
  (q3T:Mk K q0r q1C)
  (q0e:Cls K q0b)
  (q06:xC K q0b "cells")
  (q1n:xC K q0b "notes")
  (q1Y:xC K q0b "pen")
  (q3q:Mk K q0b q0R)
  (q10:Meth K q0r "answer_of_fall" q0j)
  (q1P:Meth K q0r "write_into" q0t)
  (q2R:Meth K q0c "covered" q0Y)
  (q23:Meth K q0c "covers" q0C)
  (q24:Meth K q0c "pieces" q08)
  (q2G:Meth K q0c "sign_for" q0J)
  (q3d:Meth K q0c "told" q1A)
  (q2S:Meth K q0b "begin" q01)
  (q25:Meth K q0b "mark" q1a)
  (q1g:Meth K q0b "note_down" q0l)
  (q2s:Meth K q0b "noted" q00)
  (q26:Meth K q0b "read" q09)
  (q02:Meth K q0b "refuse_lacking" q0g)
  (q2u:Meth K q0b "told" q1b)
  (q2T:Meth K q0b "write" q0E)
  (q2U:Meth K q0a "covers" q0C)
  (q2V:Meth K q0a "pieces" q0Z)
  (q2z:Meth K q0a "sign_for" q0A)
  (q1E:Meth K q0a "source_for" q0q)
  (q19:Meth K q0a "stays" q07)
  (q2o:Meth K q0a "told" q1l)
  (q2t:xmM K q15 "__init__" q1z)
  (q5g:bq K (.ref q0c) "__class__"=some (some (.builtin "object.__class__")))
  (q5h:iJ K (.builtin "object.__class__") "__get__"=some (some (.builtin "getset_descriptor.__get__")))
  (q5i:W.takesIn K (.builtin "object.__class__")=some true)
  (q5j:iO K q0c (.type "object")=some true)
  (q4P:bq K (.ref q0a) "__class__"=some (some (.builtin "object.__class__")))
  (q4Q:iJ K (.builtin "object.__class__") "__get__"=some (some (.builtin "getset_descriptor.__get__")))
  (q4R:W.takesIn K (.builtin "object.__class__")=some true)
  (q4S:iO K q0a (.type "object")=some true)
  (q3g:e7 K (.ref q0c) (.ref q0c)=some true)
  (q2Z:e7 K (.ref q0c) (.ref q0a)=some false)
  (q3c:e7 K (.ref q0a) (.ref q0c)=some false)
  (q1Z:e7 K (.ref q0a) (.ref q0a)=some true)
  (q3Q:NI K "NO_STRETCH" q1c)
  (q3R:K.lookup q1c=some ⟨.type "tuple",q3A,.seq #[.int 0 q3t,.int 0 q3u] q3L,q3B⟩)
  (q38:NN K "abs")
  (q39:NN K "all")
  (q4a:NN K "any")
  (q3U:NN K "bool")
  (q3V:NN K "dict")
  (q20:NN K "enumerate")
  (q4b:NN K "int")
  (q0n:NN K "isinstance")
  (q0k:NN K "len")
  (q2H:NN K "list")
  (q21:NN K "max")
  (q3b:NN K "min")
  (q0W:NN K "range")
  (q3h:NN K "reversed")
  (q3i:NN K "sorted")
  (q2B:NN K "tuple")
  :∃fd:aw,(∀(s:ae) (v:Value),BindsTo s fd ⟨[v],[]⟩ [("_law_script",v)])∧∀base:Heap,K.In base→base.Ns bz mg→xy l.prog w K mg base CX0 10 fa fd ["_law_script"] (xiB K):=by
 have e:=hfa.symm.trans (W.mg_of X G q5q);have e2:q29=fa:=by injection e with e;injection e with e;exact e.symm
 subst e2;obtain⟨_,q1u⟩:=q1u;obtain⟨_,q2p⟩:=q2p;obtain⟨_,q1Q⟩:=q1Q;obtain⟨_,q1v⟩:=q1v;obtain⟨_,q2a⟩:=q2a;obtain⟨_,q1R⟩:=q1R;obtain⟨_,q1w⟩:=q1w;obtain⟨_,q0V⟩:=q0V;obtain⟨_,q1h⟩:=q1h;obtain⟨_,q2b⟩:=q2b;obtain⟨_,q16⟩:=q16;obtain⟨_,q1S⟩:=q1S;obtain⟨_,q1m⟩:=q1m;obtain⟨_,q2q⟩:=q2q;obtain⟨_,q1K⟩:=q1K;obtain⟨_,q1r⟩:=q1r;obtain⟨_,q1L⟩:=q1L;obtain⟨_,q1M⟩:=q1M;obtain⟨_,q2j⟩:=q2j;obtain⟨_,q0m⟩:=q0m;obtain⟨_,q1D⟩:=q1D;obtain⟨_,q1N⟩:=q1N;obtain⟨_,q2N⟩:=q2N;obtain⟨_,q0H⟩:=q0H;obtain⟨_,q0S⟩:=q0S;obtain⟨_,q0T⟩:=q0T;have vy:=vY (st:=zB) q4e q0L q4f;have jd:=vY (st:=zU) q4l q1j q4m;obtain⟨_,q2k⟩:=q2k;obtain⟨_,q0U⟩:=q0U;obtain⟨_,q17⟩:=q17;obtain⟨_,q2y⟩:=q2y;obtain⟨_,q1O⟩:=q1O;obtain⟨_,q1s⟩:=q1s;obtain⟨_,q04⟩:=q04;obtain⟨_,q0z⟩:=q0z;obtain⟨_,q28⟩:=q28;have xaw:=xjp (st:=xbt) (ds:=[.int 6 q2x]) q49 q5a q5b q4K;have xlY:=xaw.binds (ps:=["elder","newer","least"]) (es:=[]) 3 rfl fun _ _ _ _ _ _ _ us hl=>match us,hl with|[_,_,_],_=>⟨_,rfl,rfl⟩
 have xdD:=xaw.binds (ps:=["elder","newer","least"]) (es:=[.int 6 q2x]) 2 rfl fun _ _ _ _ _ _ _ us hl=>match us,hl with|[_,_],_=>⟨_,rfl,rfl⟩
 obtain⟨_,q1t⟩:=q1t;obtain⟨_,q0B⟩:=q0B;have zq:=vY (st:=yC) q3H q0o q3I;obtain⟨_,q0I⟩:=q0I;obtain⟨_,q2l⟩:=q2l;have xax:=vY (st:=uN) q4B q1F q4C;obtain⟨_,q2r⟩:=q2r;obtain⟨_,q05⟩:=q05;obtain⟨_,q0w⟩:=q0w;have zW:=xjp (st:=zp) (ds:=[.none]) q3Z q30 q31 q3N;have xaz:=zW.binds (ps:=["self","cells","fall"]) (es:=[]) 3 rfl fun _ _ _ _ _ _ _ us hl=>match us,hl with|[_,_,_],_=>⟨_,rfl,rfl⟩
 have xck:=zW.binds (ps:=["self","cells","fall"]) (es:=[.none]) 2 rfl fun _ _ _ _ _ _ _ us hl=>match us,hl with|[_,_],_=>⟨_,rfl,rfl⟩
 obtain⟨_,q1T⟩:=q1T;have uG:=vY (st:=yI) q3O q0u q3P;obtain⟨_,q1U⟩:=q1U;obtain⟨_,q1x⟩:=q1x;obtain⟨_,q1y⟩:=q1y;obtain⟨_,q1V⟩:=q1V;obtain⟨_,q0p⟩:=q0p;have zj:=vY (st:=yc) q3o q0i q3p;obtain⟨_,q1d⟩:=q1d;obtain⟨_,q1W⟩:=q1W;obtain⟨_,q2P⟩:=q2P;obtain⟨_,q2A⟩:=q2A;obtain⟨_,q2n⟩:=q2n;obtain⟨_,q2Q⟩:=q2Q;obtain⟨_,q12⟩:=q12;have xhk:=vY (st:=xbY) q5r q2W q5s;have g {x v} (q:iY K bz x=some (some v)):=W.mg_of X G q;have g0 {x} (q:iY K bz x=some none):=W.mg_none_of X G q;have T:Txt K mg ⟨q0X,_,q1z,_,q0C,_,q0Y,_,q1k,_,q07,_,q0Z,_,q0q,_,q0A,_,q1l,_,q1i,_,q08,_,q0J,_,q1A,_,q2v,_,q1o,_,q1G,_,q1H,_,q2c,_,q0M,_,q13,_,q1I,_,q2I,_,q0F,_,q0N,_,q0O,_,q1B,_,q11,_,q2d,_,q0P,_,q14,_,q2w,_,q1J,_,q1p,_,q03,_,q0y,_,q27,_,q2C,_,q2x,q1q,_,q0Q,_,q0K,_,q0G,_,q2e,_,q2f,_,q1C,_,q0t,_,q0j,_,q0R,_,q09,_,q0E,_,q1a,_,q00,_,q01,_,q1b,_,q0g,_,q0l,_,q2g,_,q2J,_,q2K,_,q2L,_,q2h,_,q2M,_,q2i,_,q29,_,q15,q0a,q0c,q0r,q0b,q0f,q1c⟩:=⟨q1u,bn2 q1u,q2p,bn2 q2p,q1Q,bn1 q1Q,q1v,bn1 q1v,q2a,bn4 q2a,q1R,bn1 q1R,q1w,bn1 q1w,q0V,bn2 q0V,q1h,bn3 q1h,q2b,bn1 q2b,q16,bn3 q16,q1S,bn1 q1S,q1m,bn3 q1m,q2q,bn1 q2q,q1K,bn1 q1K,g q4y,q1r,bn1 q1r,g q3W,q1L,bn1 q1L,g q32,q1M,bn1 q1M,g q33,q2j,bn1 q2j,g q4j,q0m,bn2 q0m,g q3v,q1D,bn1 q1D,g q4c,q1N,bn1 q1N,g q34,q2N,bn2 q2N,g q4J,q0H,bn2 q0H,g q3r,q0S,bn2 q0S,g q3w,q0T,bn2 q0T,g q3x,vy,bn3 vy,g q4d,q2X,rfl,jd,bn1 jd,g q4k,q3f,rfl,q2k,bn3 q2k,g q4n,q0U,bn3 q0U,g q3y,q17,bn3 q17,g q4g,q2y,bn1 q2y,g q4z,q1O,bn3 q1O,g q35,q1s,bn2 q1s,g q3X,q04,bn1 q04,g q3F,q0z,bn1 q0z,g q3n,q28,bn2 q28,g q47,xaw,xdD,xlY,g q48,q1t,bn3 q1t,g q3Y,q0B,bn2 q0B,g q3z,zq,bn1 zq,g q3G,q2D,rfl,q0I,bn2 q0I,g q3s,q2l,bn2 q2l,g q4o,xax,bn1 xax,g q4A,q3k,rfl,q2r,bn2 q2r,q05,bn5 q05,q0w,bn2 q0w,zW,xck,xaz,q1T,bn2 q1T,uG,bn3 uG,q2O,rfl,q1U,bn2 q1U,q1x,bn1 q1x,q1y,bn1 q1y,q1V,bn1 q1V,q0p,bn2 q0p,zj,bn3 zj,q2m,rfl,q1d,bn2 q1d,g q4p,q1W,bn2 q1W,g q4L,q2P,bn1 q2P,g q4M,q2A,bn2 q2A,g q4N,q2n,bn3 q2n,g q4q,q2Q,bn1 q2Q,g q4O,q12,bn4 q12,g q4r,xhk,bn1 xhk,q3S,rfl,g q41,q4E,q3l,q3J,g q4H,q0d,q0v,q0h,q0s,q3m,g q42,q0x,q1e,q0D,q1f,q3e,g q43,q2E,q1X,q2Y,q3T,g q4x,q0e,q06,q1n,q1Y,q3q,g q4i,q22,q22.hd,q2F,q18,q3K,⟨q3a⟩,fun e=>.ins e q0x q5g q5h q5i q5j,fun e=>.ins e q0d q4P q4Q q4R q4S,q3g,q2Z,q3c,q1Z,g q3Q,fun _=>.inr ⟨_,_,_,q3R,rfl,rfl,by simp[ax],(.cons ⟨_,rfl⟩ (.cons ⟨_,rfl⟩ .nil))⟩,q10,q1P,q2R,q23,q24,q2G,q3d,q2S,q25,q1g,q2s,q26,q02,q2u,q2T,q2U,q2V,q2z,q1E,q19,q2o,q2t,g0 q38,g0 q39,g0 q4a,g0 q3U,g0 q3V,g0 q20,g0 q4b,g0 q0n,g0 q0k,g0 q2H,g0 q21,g0 q3b,g0 q0W,g0 q3h,g0 q3i,g0 q2B⟩;exact⟨_,fun s v=>.of_eq rfl,fun base _ _=>xpW T⟩
end K93
open PySem PySem.W PyProof.Rows
namespace PySem.W.Fast
theorem tw15149917872324491489:True:=trivial
theorem tw6766848410897641697:True:=trivial
theorem tw14232772690529048545:True:=trivial
theorem tw17765537850986638498:True:=trivial
theorem tw13790418679181412578:True:=trivial
theorem tw592428829781323490:True:=trivial
theorem tw3111643977335699716:True:=trivial
theorem tw17661559257664115877:True:=trivial
theorem tw10354877281003240582:True:=trivial
theorem tw8820901706282036870:True:=trivial
theorem tw11944808289730429894:True:=trivial
theorem tw7334065996715594823:True:=trivial
theorem tw6091686172396937351:True:=trivial
theorem tw17204015981599090887:True:=trivial
theorem tw13358695957936459209:True:=trivial
theorem tw12707062219080617674:True:=trivial
theorem tw5937520402222682315:True:=trivial
theorem tw7132013387453856107:True:=trivial
theorem tw13211655048989124427:True:=trivial
theorem tw13742540700159745198:True:=trivial
theorem tw4636619817147281966:True:=trivial
theorem tw14822681030874818095:True:=trivial
theorem tw15338461910762916051:True:=trivial
theorem tw2054013804307447635:True:=trivial
theorem tw18065142095581090707:True:=trivial
theorem tw5844417215436440596:True:=trivial
theorem tw9561408954257505813:True:=trivial
theorem tw359827226380780411:True:=trivial
theorem tw13534666271990001020:True:=trivial
theorem tw15879789517766014781:True:=trivial
theorem tw18367958081071599615:True:=trivial
theorem tw2165801412613755640:True:=trivial
theorem tw8511244195979622842:True:=trivial
theorem tw10847254565898502745:True:=trivial
theorem tw8373474887481405786:True:=trivial
theorem tw4305329891178605204:True:=trivial
theorem tw2446624092965735849:True:=trivial
theorem tw7186651111490381937:True:=trivial
theorem tw1967971879421849845:True:=trivial
theorem tw10537044197735245201:True:=trivial
theorem tw10150750722554041857:True:=trivial
theorem tw16198878173627421074:True:=trivial
theorem tw14177421687618094108:True:=trivial
theorem tw4256578721359694371:True:=trivial
theorem tw17810631413411239915:True:=trivial
theorem tw16853191499116339906:True:=trivial
theorem tw7369479693091131555:True:=trivial
theorem tw14495620890232077938:True:=trivial
theorem tw4871678462591953361:True:=trivial
theorem tw7492579304482268303:True:=trivial
theorem tw600867891395727161:True:=trivial
theorem tw10055342866428775111:True:=trivial
theorem tw13659984518881886802:True:=trivial
theorem tw17392544583795422439:True:=trivial
theorem tw16994040822046500302:True:=trivial
theorem tw1923429756428631218:True:=trivial
theorem tw17073173366407493921:True:=trivial
theorem tw4256028387906999973:True:=trivial
theorem tw10864817415880544046:True:=trivial
theorem tw3966600924841548832:True:=trivial
theorem tw14418636461753866590:True:=trivial
theorem tw1084509796878651094:True:=trivial
theorem tw9795086568630386505:True:=trivial
theorem tw14001828942166610730:True:=trivial
theorem tw3713707664183814734:True:=trivial
theorem tw16109753295336614514:True:=trivial
theorem tw1617764415823261109:True:=trivial
theorem tw7518418315605680096:True:=trivial
theorem tw10021574902712076914:True:=trivial
theorem tw33533879375557765:True:=trivial
theorem tw12299844332161983836:True:=trivial
theorem tw4551530303894827720:True:=trivial
theorem tw303384467443578228:True:=trivial
theorem tw9270317267062694572:True:=trivial
theorem tw4279963653295722481:True:=trivial
theorem tw13934520101465394505:True:=trivial
theorem tw12629128439989117291:True:=trivial
theorem tw17589652016126823947:True:=trivial
theorem tw2801367177381456082:True:=trivial
theorem tw14173486994206318997:True:=trivial
theorem tw7522576598100180742:True:=trivial
theorem tw14178436722239772053:True:=trivial
theorem tw11586651871435176183:True:=trivial
theorem tw15051030087647913792:True:=trivial
theorem tw1205945888457564441:True:=trivial
theorem tw7165340694069050926:True:=trivial
theorem tw5342773310758452202:True:=trivial
theorem tw7827915394155377486:True:=trivial
theorem tw4995911244793518493:True:=trivial
theorem tw17928803162495869536:True:=trivial
theorem tw11384524201488040874:True:=trivial
theorem tw7849566688019300470:True:=trivial
theorem tw12387898037511299691:True:=trivial
theorem tw11530570348309293074:True:=trivial
theorem tw6278455207612327130:True:=trivial
theorem tw6067985530787974979:True:=trivial
theorem tw12240165599144917307:True:=trivial
theorem tw12782809329473440454:True:=trivial
theorem tw8228630504021457004:True:=trivial
theorem tw4662707812022854656:True:=trivial
theorem tw13995072593131311115:True:=trivial
theorem tw18351020573332521526:True:=trivial
theorem tw10512399640900551666:True:=trivial
theorem tw10333541676348139081:True:=trivial
theorem tw18324363629657062962:True:=trivial
theorem tw5745879064707968224:True:=trivial
theorem tw16226817477079002962:True:=trivial
theorem tw2599498370688528087:True:=trivial
theorem tw4141490465222935501:True:=trivial
theorem tw15138336379865750571:True:=trivial
theorem tw1713919665910174073:True:=trivial
theorem tw2003424619279677414:True:=trivial
theorem tw12179694784250031269:True:=trivial
theorem tw490205472374714714:True:=trivial
theorem tw3627324919518297562:True:=trivial
theorem tw16311258797100838123:True:=trivial
theorem tw8734588599909141571:True:=trivial
theorem tw7687765124491008825:True:=trivial
theorem tw2496335556993186425:True:=trivial
theorem tw7420064833477369926:True:=trivial
theorem tw7489319982739764868:True:=trivial
theorem tw11416625117079504562:True:=trivial
theorem tw2789000616907458715:True:=trivial
theorem tw4934911498640732282:True:=trivial
theorem tw17716702007597538043:True:=trivial
theorem tw7752154535175152255:True:=trivial
theorem tw1098462473784204553:True:=trivial
theorem tw16515245061956184301:True:=trivial
theorem tw18257648292219422258:True:=trivial
theorem tw3151634882323794969:True:=trivial
theorem tw14718355609783337373:True:=trivial
theorem tw10995219656259552390:True:=trivial
theorem tw14474150167423003862:True:=trivial
theorem tw9275102027362751882:True:=trivial
theorem tw7395913367628801331:True:=trivial
theorem tw14512058389482803035:True:=trivial
theorem tw13291583107987057598:True:=trivial
theorem tw7742836668765354453:True:=trivial
theorem tw14922650312803510888:True:=trivial
theorem tw3907758357758946581:True:=trivial
theorem tw6438092452795505901:True:=trivial
theorem tw4458863092230794206:True:=trivial
theorem tw11528093594983201757:True:=trivial
theorem tw9764343936394232731:True:=trivial
theorem tw1035694212845713784:True:=trivial
theorem tw7221923474685139066:True:=trivial
theorem tw11213392107390011827:True:=trivial
theorem tw2018620585774370252:True:=trivial
theorem tw7246541213412437923:True:=trivial
theorem tw16442677920683579384:True:=trivial
theorem tw3816242852427228030:True:=trivial
theorem tw12726897264720096943:True:=trivial
theorem tw11030378592309377865:True:=trivial
theorem tw5755351663264101744:True:=trivial
theorem tw10784201592779315917:True:=trivial
theorem tw399017413673144867:True:=trivial
theorem tw10016750770638684797:True:=trivial
theorem tw16193537542180575982:True:=trivial
theorem tw8964696879817197815:True:=trivial
theorem tw8876468117984021212:True:=trivial
theorem tw14281229846278613954:True:=trivial
theorem tw5069442509652135856:True:=trivial
theorem tw13725142707290469384:True:=trivial
theorem tw3160544801852516343:True:=trivial
theorem tw1200768303498604195:True:=trivial
theorem tw9446374799617196088:True:=trivial
theorem tw10862205900920588412:True:=trivial
theorem tw4957065718701143371:True:=trivial
theorem tw13809965727856931585:True:=trivial
theorem tw9188060162488361738:True:=trivial
theorem tw2445162528753173037:True:=trivial
theorem tw7240570455743045142:True:=trivial
theorem tw1468523092319101171:True:=trivial
theorem tw6280394243094333903:True:=trivial
theorem tw17083375747886946235:True:=trivial
theorem tw5249526560759323578:True:=trivial
theorem tw17058449712644866480:True:=trivial
theorem tw7802518424658596938:True:=trivial
theorem tw8254927112496698706:True:=trivial
theorem tw14732553354992190928:True:=trivial
theorem tw1500057590197742779:True:=trivial
theorem tw15422786257717692874:True:=trivial
theorem tw9814134471922440952:True:=trivial
theorem tw17042763928206474578:True:=trivial
theorem tw12256980863993597739:True:=trivial
theorem tw8797997769182163527:True:=trivial
theorem tw17477345725104014803:True:=trivial
theorem tw9762967907481508053:True:=trivial
theorem tw6404742414706020329:True:=trivial
theorem tw18048935637697910955:True:=trivial
theorem tw17272196481933626633:True:=trivial
theorem tw3462876253184049171:True:=trivial
theorem tw11568293870859085664:True:=trivial
theorem tw1405676775431620079:True:=trivial
theorem tw2799474960710326721:True:=trivial
theorem tw6541866821910400247:True:=trivial
theorem tw13094273709629380083:True:=trivial
theorem tw3743125534074004212:True:=trivial
theorem tw4586058488827867195:True:=trivial
theorem tw131927839026321366:True:=trivial
theorem tw10451706979079197607:True:=trivial
theorem tw14862537984258087075:True:=trivial
theorem tw10550391096540901585:True:=trivial
theorem tw3363294213318722860:True:=trivial
theorem tw8491922254274750594:True:=trivial
theorem tw2343232110733657272:True:=trivial
theorem tw6137645959263100712:True:=trivial
theorem tw12056844984600543852:True:=trivial
theorem tw15023451047455855830:True:=trivial
theorem tw13369201718557148851:True:=trivial
theorem tw18308651582184314396:True:=trivial
theorem tw598395308956435588:True:=trivial
theorem tw15316844472568022042:True:=trivial
theorem tw1088668407070286759:True:=trivial
theorem tw17604591584328378285:True:=trivial
theorem tw10895044148207429968:True:=trivial
theorem tw3961391240772207216:True:=trivial
theorem tw4394322014534644006:True:=trivial
theorem tw7441170280950485816:True:=trivial
theorem tw6378936325135268780:True:=trivial
theorem tw7032868054150793147:True:=trivial
theorem tw8845769820334196405:True:=trivial
theorem tw3668142947280286390:True:=trivial
theorem tw9045107413641256289:True:=trivial
theorem tw13505390332295437910:True:=trivial
theorem tw15671647853256905107:True:=trivial
theorem tw4355125330574344787:True:=trivial
theorem tw10576279252327971302:True:=trivial
theorem tw1089582915386291341:True:=trivial
theorem tw5083509178471823759:True:=trivial
theorem tw8922834023708294697:True:=trivial
theorem tw14364550899292690940:True:=trivial
theorem tw15763171056342525840:True:=trivial
theorem tw17036295241091380099:True:=trivial
theorem tw17349493648383452743:True:=trivial
theorem tw9880280713195078309:True:=trivial
theorem tw7841500435756059959:True:=trivial
theorem tw10355047378930469906:True:=trivial
theorem tw10735946303104458225:True:=trivial
theorem tw12167485706875856480:True:=trivial
theorem tw13737863623684110451:True:=trivial
theorem tw13745340369568000236:True:=trivial
theorem tw13914099017754721436:True:=trivial
theorem tw14910589186112812379:True:=trivial
theorem tw15025412196174644:True:=trivial
theorem tw15222926672898816084:True:=trivial
theorem tw15661731879264107304:True:=trivial
theorem tw16002213346569020253:True:=trivial
theorem tw16145938096017810876:True:=trivial
theorem tw16407202743531954113:True:=trivial
theorem tw16552406025286323931:True:=trivial
theorem tw17962216525411542462:True:=trivial
theorem tw1803380870125249834:True:=trivial
theorem tw1995558590036656434:True:=trivial
theorem tw2071027173512940429:True:=trivial
theorem tw2526760496856772924:True:=trivial
theorem tw2650679873615840453:True:=trivial
theorem tw3006828501842744382:True:=trivial
theorem tw381326272707142709:True:=trivial
theorem tw4242833944368263888:True:=trivial
theorem tw453391147241434369:True:=trivial
theorem tw4884968552456221446:True:=trivial
end PySem.W.Fast
set_option maxRecDepth 100000 in
set_option maxHeartbeats 0 in
theorem PySem.Challenge.cw_oneroom_k93_whole_made_and_done_holds : PySem.Challenge.rw_oneroom_k93_whole_made_and_done.Holds := by
 w_on;o_law;k_head;(case hw=>w_witness2)
 k_fill
 refine L2.xmN (l:=PySem.Challenge.rw_oneroom_k93_whole_made_and_done) (n:=63) (k:=10) (x:="_law_script") (CX:=L2.CX0) (sp:=K93.xiB) (tabs:=[(K93.q0L,K93.yZ,K93.uA),(K93.q1j,K93.za,K93.ue),(K93.q0o,K93.yk,K93.zb),(K93.q1F,K93.zV,K93.jc),(K93.q0u,K93.yJ,K93.uf),(K93.q0i,K93.yd,K93.zc),(K93.q2W,K93.xdC,K93.xhR)]) rfl (by decide) rfl ⟨rfl,by decide,by decide⟩ (fun w h Y=>PySem.W.km_in_of Y) (fun w h Y KX=>(List.forall_mem_cons.mpr ⟨⟨PySem.W.codeHd_of_K (c:=K93.q0L) (P:=K93.yZ) KX (by kernel_rfl),PySem.W.km_tabs_of Y _ (by decide)⟩,(List.forall_mem_cons.mpr ⟨⟨PySem.W.codeHd_of_K (c:=K93.q1j) (P:=K93.za) KX (by kernel_rfl),PySem.W.km_tabs_of Y _ (by decide)⟩,(List.forall_mem_cons.mpr ⟨⟨PySem.W.codeHd_of_K (c:=K93.q0o) (P:=K93.yk) KX (by kernel_rfl),PySem.W.km_tabs_of Y _ (by decide)⟩,(List.forall_mem_cons.mpr ⟨⟨PySem.W.codeHd_of_K (c:=K93.q1F) (P:=K93.zV) KX (by kernel_rfl),PySem.W.km_tabs_of Y _ (by decide)⟩,(List.forall_mem_cons.mpr ⟨⟨PySem.W.codeHd_of_K (c:=K93.q0u) (P:=K93.yJ) KX (by kernel_rfl),PySem.W.km_tabs_of Y _ (by decide)⟩,(List.forall_mem_cons.mpr ⟨⟨PySem.W.codeHd_of_K (c:=K93.q0i) (P:=K93.yd) KX (by kernel_rfl),PySem.W.km_tabs_of Y _ (by decide)⟩,(List.forall_mem_cons.mpr ⟨⟨PySem.W.codeHd_of_K (c:=K93.q2W) (P:=K93.xdC) KX (by kernel_rfl),PySem.W.km_tabs_of Y _ (by decide)⟩,(fun _ z=>nomatch z)⟩)⟩)⟩)⟩)⟩)⟩)⟩)) (fun w=>by kernel_rfl) (by decide) ?F ?S ?C
 case F=>
  intro w mg fa h KX G hmg
  refine' K93.xpX KX G hmg ?_ ?_ ?_ ?_ ?_ ?_ ?_ ?_ ?_ ?_ ?_ ?_ ?_ ?_ ?_ ?_ ?_ ?_ ?_ ?_ ?_ ?_ ?_ ?_ ?_ ?_ ?_ ?_ ?_ ?_ ?_ ?_ ?_ ?_ ?_ ?_ ?_ ?_ ?_ ?_ ?_ ?_ ?_ ?_ ?_ ?_ ?_ ?_ ?_ ?_ ?_ ?_ ?_ ?_ ?_ ?_ ?_ ?_ ?_ ?_ ?_ ?_ ?_ ?_ ?_ ?_ ?_ ?_ ?_ ?_ ?_ ?_ ?_ ?_ ?_ ?_ ?_ ?_ ?_ ?_ ?_ ?_ ?_ ?_ ?_ ?_ ?_ ?_ ?_ ?_ ?_ ?_ ?_ ?_ ?_ ?_ ?_ ?_ ?_ ?_ ?_ ?_ ?_ ?_ ?_ ?_ ?_ ?_ ?_ ?_ ?_ ?_ ?_ ?_ ?_ ?_ ?_ ?_ ?_ ?_ ?_ ?_ ?_ ?_ ?_ ?_ ?_ ?_ ?_ ?_ ?_ ?_ ?_ ?_ ?_ ?_ ?_ ?_ ?_ ?_ ?_ ?_ ?_ ?_ ?_ ?_ ?_ ?_ ?_ ?_ ?_ ?_ ?_ ?_ ?_ ?_ ?_ ?_ ?_ ?_ ?_ ?_ ?_ ?_ ?_ ?_ ?_ ?_ ?_ ?_ ?_ ?_ ?_ ?_ ?_ ?_ ?_ ?_ ?_ ?_ ?_ ?_ ?_ ?_ ?_ ?_ ?_ ?_ ?_ ?_ ?_ ?_ ?_ ?_ ?_ ?_ ?_ ?_ ?_ ?_ ?_ ?_ ?_ ?_ ?_ ?_ ?_ ?_ ?_ ?_ ?_ ?_ ?_ ?_ ?_ ?_ ?_ ?_ ?_ ?_ ?_ ?_ ?_ ?_ ?_ ?_ ?_ ?_ ?_ ?_ ?_ ?_ ?_ ?_ ?_ ?_ ?_ ?_ ?_ ?_
  iterate 2 all_goals first|(show(_:Prop);first|exact⟨_,L2.vY (by k_is) (by k_is) (by k_is)⟩|exact L2.xod (by kernel_rfl)|exact⟨by k_is,by k_is,by k_is⟩|exact⟨by k_is,by k_is,by k_is,by k_is⟩|exact⟨by kernel_rfl,by kernel_rfl,by kernel_rfl,by kernel_rfl,by kernel_rfl,by kernel_rfl⟩|exact⟨by kernel_rfl,by kernel_rfl,by kernel_rfl,by kernel_rfl,by kernel_rfl,by kernel_rfl,by kernel_rfl,by kernel_rfl⟩|k_is|(show _=_;k_is)|kernel_rfl)|skip
 case S=>exact fun K H a ns hl hS hT=>⟨a,ns,rfl,hS,hl,hT _ (.head _),hT _ (.tail _ (.head _)),hT _ (.tail _ (.tail _ (.head _))),hT _ (.tail _ (.tail _ (.tail _ (.head _)))),hT _ (.tail _ (.tail _ (.tail _ (.tail _ (.head _))))),hT _ (.tail _ (.tail _ (.tail _ (.tail _ (.tail _ (.head _)))))),hT _ (.tail _ (.tail _ (.tail _ (.tail _ (.tail _ (.tail _ (.head _))))))),fun _=>rfl⟩
 case C=>exact fun _ _ _ _ z=>z
#print axioms PySem.Challenge.cw_oneroom_k93_whole_made_and_done_holds
