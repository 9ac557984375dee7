import PyProof.Rows.All
import Wide.All
import OpenK.AllK
import Wide.FinOn
import Lean
import PyProof.EqAt
import PyProof.EqKinds
import PyProof.TupleCall
import PySem.Challenge.RW_oneroom_k38_whole_made_for_every_two_tex
set_option Elab.async false
set_option linter.all false
set_option maxRecDepth 100000
open And renaming intro→cS
open Array renaming length_toList→br,getElem?_eq_getElem→dh,forIn_toList→fR,getElem?_toList→gu,perm_iff_toList_perm→ib,mem_toList_iff→kd
open Bool renaming false_ne_true→aH,false_eq_true→cx,eq_iff_iff→dm,and_eq_true→fj
open Classical renaming propDecidable→iV
open False renaming elim→bH
open ForInStep renaming yield→eV
open Function renaming comp_def→ij
open Int renaming emod_nonneg→bt,emod_lt_of_pos→bx,toNat_natCast→bP,toNat_of_nonneg→bT,lt_trans→gH,le_refl→gS
open List renaming length_map→aa,getElem?_eq_getElem→ag,getElem?_map→ak,mem_cons→ao,length_append→aq,getElem?_eq_some_iff→au,mem_singleton→ax,mem_of_getElem?→az,mem_cons_of_mem→aC,size_toArray→aE,toArray→aF,map_append→aG,mem_cons_self→aK,mem_append→aM,mem_append_right→aN,length_drop→aO,mem_filter→aS,mem_map→aT,take_of_length_le→aZ,range→a9,getD→bf,map_cons→bg,length_cons→bj,getElem?_append_left→bo,mem_range→bp,replicate→bu,take_succ→bw,length_take→bB,not_mem_nil→bC,getElem?_append_right→bI,length_singleton→bK,pairwise_iff_getElem→bL,mem_append_left→bN,take_length→bO,mem_iff_getElem?→bS,drop_eq_getElem_cons→bU,pairwise_map→b8,getElem?_drop→cb,all_eq_true→cg,map_map→ck,length_filter_le→cm,getD_eq_getElem?_getD→cu,nodup_cons→cw,mem_iff_getElem→cy,length→cC,lookup_cons→cD,length_pos_iff→cF,pairwise_cons→cK,getElem_mem→cM,pairwise_append→cO,drop_of_length_le→cP,drop_eq_nil_of_le→cQ,length_range→cR,getElem?_eq_none→cX,getElem?_take_of_lt→c5,append_assoc→c8,find?_cons→c9,mem_of_mem_drop→dw,flatten_cons→dz,length_eq_zero_iff→dA,mem_flatten→dE,getElem?_take→dJ,append_nil→dO,eq_nil_or_concat→dP,concat_eq_append→dQ,ext_getElem?→dY,getElem?_set_ne→d4,mem_of_mem_take→d7,nodup_range→eI,any_eq_true→eJ,take_succ_eq_append_getElem→eO,replicate_succ→eP,filter_cons_of_neg→eQ,filter_cons_of_pos→eR,mem_singleton_self→eS,find?_eq_none→eW,foldl_append→e7,lookup→fA,mem_map_of_mem→fC,getElem?_range→fE,of_mem_zip→fG,length_nil→fH,range_succ→fJ,filter_append→fQ,drop_zero→fX,pairwise_singleton→fZ,getElem?_set_self→f9,any_cons→gh,filter_cons→gk,flatten_replicate_singleton→gn,length_replicate→gr,length_set→gA,filter_map→gF,filterMap_cons→gI,flatMap_append→gL,take_succ_cons→gN,map_replicate→g8,map_drop→ic,sum_cons→ie,mem_of_find?_eq_some→ip,getElem_inj→iy,cons_append→iC,any_map→iJ,mem_flatMap→iO,drop_length→iP,idxOf_lt_length_iff→iQ,getElem?_replicate→iR,nil_append→i3,forIn_cons→i4,pairwise_reverse→j6,getElem?_reverse→j7,take_zero→kb,countP_eq_length→kc,length_reverse→kL,toList_toArray→kM,getElem_of_mem→kN,countP_eq_zero→kO,mem_filterMap→kR,zip_cons_cons→kY,map_nil→kZ,getElem_range→k9,forIn_toArray→lb,map_set→lg,ne_nil_of_mem→lj,countP_append→ll,map_id→lB
open Nat renaming le_refl→ai,ne_of_lt→ar,lt_of_lt_of_le→aw,zero_le→aJ,le_trans→a7,lt_irrefl→bQ,le_of_lt→b7,not_lt_zero→cz,min_eq_left→cA,lt_succ_self→c3,le_succ→c6,ne_of_gt→dG,lt_of_le_of_lt→dH,min_eq_right→eN,succ_mul→fN,le_of_eq→gz,mul_le_mul_right→gG,lt_trichotomy→ik,mul_comm→iB,succ_ne_self→iI,div_add_mod→i5,lt_trans→k8,add_zero→lh,log2_lt→lA
open Ne renaming symm→a8
open Option renaming map_eq_some_iff→aQ,isSome_iff_exists→eA,isSome_map→f7,map_some→gC,getD_none→lC
open Option.some renaming inj→bD,injEq→lp
open Or renaming inl→aD,inr→dW
open PUnit renaming unit→ky
open Prod renaming snd→kA
open Prod.mk renaming injEq→fz
open PyProof renaming noPylong_of_log2→iD
open PyProof.Rows renaming seqObj→aX,callWith_type1→bM,IntsAre→cL,get?_update_seq→eX,AllBare→e9,listUpdate_at→fw,envOfC→gd,oneType'→gP,listItems_at→iM,callWith_kw→i7,boot_range→ko,kws_cons→kz,Constant_none→kC
open PySem renaming Shared→ab,wpAny_bind→ae,sizeLine_eq→av,FuncData→ay,wpAny_pure→aA,Program→aI,sizeLine→aL,starEach→aR,Around→aU,wpAny_mono→aY,mainGlobals→bz,compareOp→bE,bootBuiltins→bG,wpAny_loadPart'→bJ,wpAny_holding→bR,wpAny_Call_Name_kw→bW,plainId_quiet→cf,wpAny_truthy_bool→cq,Arguments→cE,backTo→cH,wpAny_updateSeq→cU,codeAny_builtin→cV,codeAny→cW,rawInt→cY,behindInMarks→de,binaryOp→df,FuncBody→dg,wpAny_letGo→di,builtinsNs→dk,codeAny_mono→dq,lookup_relabel_local→dv,wpAny_pyIter_list→dy,NameKind→dB,wpAny_seqItems→dC,wpAny_tryCatch→dD,wpAny_passesOwn→dN,foldedSetIterable→dU,wpAny_pyIter_enum→dX,sysModules→dZ,wpAny_newObj_type→eZ,holding→fc,Builtin→ff,bindArgs→fi,wpAny_newList→fm,wpAny_letOwnedTupleGo_enum→fq,sliceBounds→fB,wpAny_execs_nil→fF,codeAmong→fL,wpAny_comprehension_free→fO,updateSeq→fP,wpAny_call→fV,call_meets→fW,wpAny_callSpecial?_slot→fY,Result→gc,attributeBase→gg,wpAny_isTrue_Compare1→gq,codeAny_call_function→gs,assignEach→gw,pyNext→gx,letOwnedTupleGo→gy,wpAny_newFunctionEnv→gD,wpAny_rule→gE,intItems→gO,keywordEach→gR,wpAny_field→gT,swapsWith→gU,assign→gW,wpAny_pyIter_tuple→gX,tupleKind_room_in1→gY,seqItems?→gZ,wpAny_standAt→hZ,wpAny_newFunctionEnv_cells→ia,wpAny_assign_Name→ig,typeLookup→il,valueAt→iu,callerA→iw,ItemsOf→ix,wpAny_typeOf→iE,PyData→iF,IsEnum→iH,wpAny_call_entry→iN,wpAny_pyNext_enum_itemD→iT,tupleKind→iW,TriplesOk→iX,getMethod→iY,wpAny_of_eq→i8,relabel→j3,newFunctionEnv→j4,callType_codes→j5,callWith→kf,backToKw→kg,closureFor→kl,IsLongIter→km,nums_intItems→kH,wpAny_attempt→kK
open PySem.Around renaming under_plainId→c7,frames_deeper→kh,under→kT
open PySem.AutoSeq1 renaming wpAny_loadPart'→fT
open PySem.Builtin.Builtins renaming bindParams→dI
open PySem.Builtin.Dict renaming updateFrom→iU
open PySem.Builtin.List renaming listExtendWith→bF,listTooLong→eC,listSameRef→eE,listItems→eY,listUpdate→iS
open PySem.Builtin.Range renaming rangeSize→bc,small→gJ
open PySem.Builtin.SmallTypes renaming nextOf→d6,fitsIndex→fg
open PySem.Calls renaming spliced_cons→fM,spliced_nil→f6,callWith_builtin→gf,Name_function_global→g9,evalArgs_plain→kj
open PySem.Code renaming isFrame→kW,quiet_builtin→la
open PySem.Data renaming fields→ly
open PySem.F renaming slot_tuple_iterator_next→dS,plain_max_loop→eK,slot_list_getattribute→fU,plain_extend_loop→gK,args_tuple_iterator_next_1→gQ,entry_tuple_iterator_next→g7,entry_enumerate_new→j8,slot_enumerate_next→j9
open PySem.Heap renaming get?_push_of_some→af,lt_size→aj,get?_push_size→aB,get?_update_other→bA,size_push→cI,get?_update_self→cJ,SameBut→gv,size_update→iL,DictAt→i9,ExtBut→lz
open PySem.Heap.DictOf renaming new→lE
open PySem.Heap.SameBut renaming update→bY
open PySem.NameKind renaming free→bZ,cell→kF
open PySem.Obj renaming mapSeq→aW
open PySem.PassesOwn renaming never→aV
open PySem.PyData renaming int→d5,weightAll→iK,weight→kJ,eqv→lF
open PySem.PyData.weight renaming eq_def→ku
open PySem.SeqAt renaming EqAt→lD
open PySem.SeqAt.EqAt renaming int_str→kP,str_int→kQ,int_int→kX
open PySem.Str renaming ofString→bX
open PySem.Value renaming ref→bb,none→bq,type→cG,bool→dF,int→eU,str→gp,notImplemented→ki,isStrOf→kB,isInt→lq,float→lr
open PySem.W renaming Frag→ah,findIn→bh,fnOf→cT,keepIn→cZ,codeIn→du,emptyDict→d8,kia_one→d9,kitOne→fh,instObj→fK,tabObj→gm,callWith_K→iz,cellsFrom_some→iA,envX→iG,methodCall_KW→iZ,specialIn→i6,plainGet→ke,CodeHd→kq,plainGet_of→kE
open PySem.Walks renaming list→iq,dictKeys→ka
open Sum renaming inl→b9,inr→ir
open True renaming intro→bV
namespace L2
open PySem PySem.Spec PyProof.Rows
abbrev Key:=Sum Int Str
def uE:Key→Value→Bool
 | .inl k,v=>lq k v
 | .inr x,v=>kB x v
def xsj(w:World):Key→Int
 | .inl k=>hashInt k
 | .inr x=>hashStr w x
theorem yq:∀{k:Key} {v:Value},uE k v=true→(∃i t,k=b9 i∧v=eU i t)∨(∃x t,k=ir x∧v=gp x t)
 | .inl i,v,h=>by
  obtain⟨t,e⟩:=Value.isInt_shape (k:=i) (v:=v) h;exact .inl ⟨i,t,rfl,e⟩
 | .inr x,v,h=>by
  obtain⟨t,e⟩:=Value.isStrOf_shape (x:=x) (v:=v) h;exact .inr ⟨x,t,rfl,e⟩
theorem xmx(i:Int)(t:Tok):uE (.inl i) (.int i t)=true:=by simp[uE,lq]
theorem xmy(x:Str)(t:Tok):uE (.inr x) (.str x t)=true:=by simp[uE,kB]
theorem xqz(a b:Int):decide ((b9 a:Key)=b9 b)=(a==b):=by
 by_cases e:a=b
 ·subst e;simp
 ·have h:¬(b9 a:Key)=b9 b:=fun q=>e (Sum.inl.inj q);rw[decide_eq_false h];exact(beq_eq_false_iff_ne.mpr e).symm
theorem xqA(a b:Str):decide ((ir a:Key)=ir b)=decide (a=b):=by
 by_cases e:a=b
 ·subst e;simp
 ·have h:¬(ir a:Key)=ir b:=fun q=>e (Sum.inr.inj q);rw[decide_eq_false h,decide_eq_false e]
theorem xqB(a:Int)(b:Str):decide ((b9 a:Key)=ir b)=false:=decide_eq_false (fun q=>nomatch q)
theorem xqC(a:Str)(b:Int):decide ((ir a:Key)=b9 b)=false:=decide_eq_false (fun q=>nomatch q)
def ya(prog:aI)(w:World):PySem.KeyKind prog w Key where
 is:=uE
 hash:=xsj w
 inj:=fun v a b ha hb=>by
  rcases yq ha with⟨i,t,rfl,rfl⟩|⟨x,t,rfl,rfl⟩
  ·rcases yq hb with⟨j,u,rfl,e⟩|⟨y,u,rfl,e⟩
   ·injection e with e1 _;rw[e1]
   ·exact nomatch e
  ·rcases yq hb with⟨j,u,rfl,e⟩|⟨y,u,rfl,e⟩
   ·exact nomatch e
   ·injection e with e1 _;rw[e1]
 byValue:=fun k v h=>by
  rcases yq h with⟨i,t,rfl,rfl⟩|⟨x,t,rfl,rfl⟩<;> rfl
 pyHash:=fun hv h=>by
  rcases yq hv with⟨i,t,rfl,rfl⟩|⟨x,t,rfl,rfl⟩
  ·exact wpAny_pyHash_int h
  ·exact wpAny_pyHash_str h
 eqBool:=fun hu hv h=>by
  rcases yq hu with⟨i,t,rfl,rfl⟩|⟨x,t,rfl,rfl⟩
  ·rcases yq hv with⟨j,u,rfl,rfl⟩|⟨y,u,rfl,rfl⟩
   ·rw[xqz]at h;exact wpAny_eqBool_int h
   ·rw[xqB]at h;exact kP i t y u _ _ _ _ h
  ·rcases yq hv with⟨j,u,rfl,rfl⟩|⟨y,u,rfl,rfl⟩
   ·rw[xqC]at h;exact kQ x t j u _ _ _ _ h
   ·rw[xqA]at h;exact wpAny_eqBool_str h
 «strs»:=fun k x t v h=>by
  rcases yq h with⟨i,u,rfl,e⟩|⟨y,u,rfl,e⟩
  ·exact nomatch e
  ·injection e with e1 _;subst e1;cases v<;> rfl
theorem xj5(prog:aI)(w:World)(i:Int)(t:Tok):(ya prog w).is (.inl i) (.int i t)=true:=xmx i t
theorem xj6(prog:aI)(w:World)(x:Str)(t:Tok):(ya prog w).is (.inr x) (.str x t)=true:=xmy x t
end L2
namespace L2
open PySem PySem.Spec PyProof.Rows
inductive V where
 |non|bl (b:Bool)|int (i:Int)|str (x:Str)|byt (b:Array UInt8)|flt (b:UInt64)|ref (a:Addr)|ty (n:String)
 deriving DecidableEq
def RelV:V→Value→Prop
 | .non,u=>u=bq
 | .bl b,u=>u=dF b
 | .int i,u=>∃t,u=eU i t
 | .str x,u=>∃t,u=gp x t
 | .byt b,u=>∃t,u=Value.bytes b t
 | .flt b,u=>∃t,u=lr b t
 | .ref a,u=>u=bb a
 | .ty n,u=>u=cG n
theorem RelV.fn{x y:V}{u:Value}(a:RelV x u)(b:RelV y u):x=y:=by
 cases x<;> simp only[RelV]at a<;> (first|subst a|(obtain⟨_,rfl⟩:=a))<;> cases y<;> simp only[RelV]at b<;> first|rfl|(cases b;done)|(cases b;rfl)|(obtain⟨_,b⟩:=b;cases b;done)|(obtain⟨_,b⟩:=b;cases b;rfl)
abbrev Vals:List V→List Value→Prop:=Paired RelV
theorem Vals.length{xs:List V}{us:List Value}(r:Vals xs us):xs.length=us.length:=Paired.length r
theorem Vals.get:∀{xs:List V} {us:List Value} {i:Nat} {x:V},Vals xs us→xs[i]? =some x→∃u,us[i]? =some u∧RelV x u
 |_,_,_,_,.nil,e=>by simp at e
 |_,_,0,_,.cons r _,e=>by simp at e;subst e;exact⟨_,rfl,r⟩
 |_,_,i+1,x,.cons _ t,e=>by
  obtain⟨u,h1,h2⟩:=Vals.get (i:=i) (x:=x) t (by simpa using e);exact⟨u,by simpa using h1,h2⟩
theorem Vals.set{x:V}{u:Value}(r:RelV x u):∀{xs:List V} {us:List Value} (i:Nat),Vals xs us→Vals (xs.set i x) (us.set i u)
 |_,_,_,.nil=>.nil
 |_,_,0,.cons _ t=>.cons r t
 |_,_,i+1,.cons q t=>.cons q (Vals.set r i t)
theorem Vals.append:∀{xs ys:List V} {us ws:List Value},Vals xs us→Vals ys ws→Vals (xs++ys) (us++ws)
 |_,_,_,_,.nil,s=>s
 |_,_,_,_,.cons r t,s=>.cons r (Vals.append t s)
theorem Vals.take:∀{xs:List V} {us:List Value} (n:Nat),Vals xs us→Vals (xs.take n) (us.take n)
 |_,_,0,_=>.nil
 |_,_,_+1,.nil=>.nil
 |_,_,n+1,.cons r t=>.cons r (Vals.take n t)
theorem Vals.drop:∀{xs:List V} {us:List Value} (n:Nat),Vals xs us→Vals (xs.drop n) (us.drop n)
 |_,_,0,r=>r
 |_,_,_+1,.nil=>.nil
 |_,_,n+1,.cons _ t=>Vals.drop n t
def vh:Option V→Option Value→Prop
 |some v,some u=>RelV v u
 |none,none=>True
 |_,_=>False
def KV{κ:Type}:List (κ×V)→List (κ×Value)→Prop:=Paired fun(p:κ×V) (q:κ×Value)=>p.1=q.1∧RelV p.2 q.2
def kV:Key→V
 | .inl i=>.int i
 | .inr x=>.str x
inductive HO where
 |lst (xs:List V)
 |tup (xs:List V)
 |dK (kvs:List (Key×V))|dT (kvs:List (List Key×V))
 |set (S:Int→Bool) (n:Nat)
 |ins (C dx:Addr) (fs:List (Str×V))
 |own (x:Addr)
 |xd (fs:List (Str×V))
 |met (f x:Addr)
 |rng (lo hi:Int)
 |frz (o:Obj) (u:HO)
 |tbl (qs:List (Pos×Str))
 |cel (v:Option V)
 |ext (φ:Heap→Prop)
abbrev Hp:=Addr→Option HO
def upd(H:Hp)(a:Addr)(o:HO):Hp:=fun b=>if b=a then some o else H b
theorem xk{H:Hp}{a:Addr}{o:HO}:upd H a o a=some o:=by unfold upd;rw[if_pos rfl]
theorem xl{H:Hp}{a b:Addr}{o:HO}(h:b≠a):upd H a o b=H b:=by unfold upd;rw[if_neg h]
theorem zm{H:Hp}{a:Addr}{o u:HO}:upd (upd H a o) a u=upd H a u:=by
 funext b;unfold upd;split<;> rfl
theorem yZ{H:Hp}{a b:Addr}{o u:HO}(h:H a=some o)(h':H b=some u)(d:o≠u):a≠b:=by
 intro e;subst e;rw[h]at h';exact d (bD h')
theorem xA{H:Hp}{a b:Addr}{o:HO}(h:H a=some o)(h':H b=none):a≠b:=by
 intro e;subst e;rw[h]at h';cases h'
section
variable (P:aI) (w:World)
def xH(H:Hp)(h:Heap)(a:Addr):HO→Prop
 | .lst xs=>xs.length≤aL∧∃(its:List Value) (n:Nat),Vals xs its∧h.get? a=some {cls:=.type "list",data:=.seq its.toArray n}
 | .tup xs=>xs.length≤aL∧∃its:List Value,Vals xs its∧IsTup h a its.toArray
 | .dK kvs=>kvs.length≤aL∧(a==dZ)=false∧∃vs,KV kvs vs∧h.DictOf (ya P w) a vs
 | .dT kvs=>kvs.length≤aL∧(a==dZ)=false∧∃xs:List (List Key×Addr×Value),
   Paired (fun(p:List Key×V) (q:List Key×Addr×Value)=>p.1=q.1∧H q.2.1=some (.tup (p.1.map kV))∧RelV p.2 q.2.2) kvs xs∧
   ∃o es ep,h.get? a=some o∧o.ExactDict∧o.data= .dict es ep∧es.toList=xs.map (entryOfKey (iW (ya P w)))∧(xs.map (·.1)).Nodup
 | .set S n=>h.SetOf (intKind P w) a S n
 | .ins C dx fs=>H dx=some (.own a)∧fs.length≤1000∧dx≠a∧h.get? a=some (fK C dx)∧
   ∃mA,h.Ns1 dx mA∧(∀f,vh (fs.lookup f) (mA f))∧PySem.Within mA (fs.map (·.1))
 | .own _=>∃o,h.get? a=some o
 | .xd fs=>∃mA,h.Ns1 a mA∧∀f,vh (fs.lookup f) (mA f)
 | .rng lo hi=>∃t u v,h.get? a=some {cls:=.type "range",data:=.fields #[.int lo t,.int hi u,.int 1 v]}
 | .frz o u=>h.get? a=some o∧xH H h a u
 | .tbl qs=>∃ps:Array Value,h.get? a=some {cls:=.none,data:=.fields ps}∧iX ps.toList∧∀pos q,(pos,q)∈qs→
   fL pos ps.toList=none∨∃c o u vs t,fL pos ps.toList=some (.ref c)∧H c=some (.frz o u)∧o.data= .fields vs∧vs[1]? =some (.str q t)
 | .cel v=>∃u,h.IsCell a u∧∀x,v=some x→∃y,u=some y∧RelV x y
 | .met f x=>h.get? a=some (W.methodObj (.ref f) (.ref x))
 | .ext φ=>φ h∧(∃o,h.get? a=some o)∧∀h1 h2:Heap,φ h1→(∀o,h1.get? a=some o→h2.get? a=some o)→φ h2
def HOk(H:Hp)(h:Heap):Prop:=∀a o,H a=some o→xH P w H h a o
end
section
variable {P:aI} {w:World} {H H':Hp} {h h':Heap} {a:Addr} {o:HO}
def xqD:HO→Prop
 | .tup _=>True
 | .frz _ _=>True
 |_=>False
def Fix:HO→Prop
 | .tup _=>True
 | .frz _ _=>True
 | .tbl _=>True
 | .cel _=>True
 |_=>False
theorem xH.lt(x:xH P w H h a o):a<h.objs.size:=by
 cases o with
 |lst xs=>obtain⟨_,_,_,_,e⟩:=x;exact aj e
 |tup xs=>obtain⟨_,_,_,p⟩:=x;exact p.lt
 |dK kvs=>obtain⟨_,_,_,_,o,_,_,e,_⟩:=x;exact aj e
 |dT kvs=>obtain⟨_,_,_,_,o,_,_,e,_⟩:=x;exact aj e
 |set S n=>obtain⟨o,_,_,_,e,_⟩:=x;exact aj e
 |ins C dx fs=>obtain⟨_,_,_,e,_⟩:=x;exact aj e
 |own y=>obtain⟨_,e⟩:=x;exact aj e
 |xd fs=>obtain⟨_,⟨_,_,_,e,_⟩,_⟩:=x;exact aj e
 |rng lo hi=>obtain⟨_,_,_,e⟩:=x;exact aj e
 |frz ob u=>obtain⟨e,_⟩:=x;exact aj e
 |tbl qs=>obtain⟨_,e,_⟩:=x;exact aj e
 |cel v=>obtain⟨_,⟨_,e,_⟩,_⟩:=x;exact aj e
 |met f y=>exact aj (show h.get? a=some _ from x)
 |ext φ=>obtain⟨_,⟨_,e⟩,_⟩:=x;exact aj e
theorem Paired.mapP{α β:Type}{F G:α→β→Prop}:∀{l₁:List α} {l₂:List β},Paired F l₁ l₂→(∀a b,F a b→G a b)→Paired G l₁ l₂
 |_,_,.nil,_=>.nil
 |_,_,.cons r t,f=>.cons (f _ _ r) (Paired.mapP t f)
theorem Paired.imp'{α β:Type}{F G:α→β→Prop}(f:∀a b,F a b→G a b){l₁:List α}{l₂:List β}(r:Paired F l₁ l₂):Paired G l₁ l₂:=Paired.mapP r f
theorem xH.stay(x:xH P w H h a o)(k:∀b u,(b=a∨H b=some (.own a))→h.get? b=some u→h'.get? b=some u)
  (ho:∀b,H b=some (.own a)→H' b=some (.own a)) (ht:∀b u,H b=some u→xqD u→H' b=some u):xH P w H' h' a o:=by
 induction o with
 |lst xs=>obtain⟨z,its,n,r,e⟩:=x;exact⟨z,its,n,r,k _ _ (.inl rfl) e⟩
 |tup xs=>obtain⟨z,its,r,ob,e,c⟩:=x;exact⟨z,its,r,ob,k _ _ (.inl rfl) e,c⟩
 |dK kvs=>obtain⟨z,y,vs,r,ob,es,ep,e,c⟩:=x;exact⟨z,y,vs,r,ob,es,ep,k _ _ (.inl rfl) e,c⟩
 |dT kvs=>
  obtain⟨z,y,xs,r,ob,es,ep,e,c⟩:=x;exact⟨z,y,xs,Paired.mapP r fun p q z=>⟨z.1,ht _ _ z.2.1 trivial,z.2.2⟩,ob,es,ep,k _ _ (.inl rfl) e,c⟩
 |set S n=>obtain⟨ob,es,ep,t,e,c⟩:=x;exact⟨ob,es,ep,t,k _ _ (.inl rfl) e,c⟩
 |ins C dx fs=>
  obtain⟨d,z,ne,e,mA,⟨od,es,ep,e2,c⟩,r⟩:=x;exact⟨ho _ d,z,ne,k _ _ (.inl rfl) e,mA,⟨od,es,ep,k _ _ (.inr d) e2,c⟩,r⟩
 |own y=>obtain⟨ob,e⟩:=x;exact⟨ob,k _ _ (.inl rfl) e⟩
 |xd fs=>obtain⟨mA,⟨od,es,ep,e,c⟩,r⟩:=x;exact⟨mA,⟨od,es,ep,k _ _ (.inl rfl) e,c⟩,r⟩
 |rng lo hi=>obtain⟨t,u,v,e⟩:=x;exact⟨t,u,v,k _ _ (.inl rfl) e⟩
 |frz ob u ih=>obtain⟨e,q⟩:=x;exact⟨k _ _ (.inl rfl) e,ih q⟩
 |tbl qs=>
  obtain⟨ps,e,tr,r⟩:=x;refine⟨ps,k _ _ (.inl rfl) e,tr,fun pos q m=>?_⟩;rcases r pos q m with z|⟨c,ob,u,vs,t,z1,z2,z3⟩
  ·exact .inl z
  ·exact .inr ⟨c,ob,u,vs,t,z1,ht _ _ z2 trivial,z3⟩
 |cel v=>obtain⟨u,⟨ob,e,d⟩,r⟩:=x;exact⟨u,⟨ob,k _ _ (.inl rfl) e,d⟩,r⟩
 |met f y=>
  have e:h.get? a=some (W.methodObj (.ref f) (.ref y)):=x;show h'.get? a=some (W.methodObj (.ref f) (.ref y));exact k a _ (.inl rfl) e
 |ext φ=>obtain⟨p,⟨o,e⟩,st⟩:=x;exact⟨st _ _ p fun o q=>k _ _ (.inl rfl) q,⟨o,k _ _ (.inl rfl) e⟩,st⟩
theorem HOk.lt(x:HOk P w H h)(e:H a=some o):a<h.objs.size:=(x a o e).lt
theorem HOk.fresh(x:HOk P w H h)(e:h.objs.size≤a):H a=none:=by
 cases q:H a with
 |none=>rfl
 |some u=>exact absurd (aw (x.lt q) e) (bQ _)
theorem HOk.kept(x:HOk P w H h)(k:∀b u,h.get? b=some u→h'.get? b=some u):HOk P w H h':=fun a o e=>
 (x a o e).stay (fun b u _ q=>k b u q) (fun _ q=>q) fun _ _ q _=>q
theorem HOk.laid(x:HOk P w H h)(k:∀b u,h.get? b=some u→h'.get? b=some u)(hp:h.objs.size≤a)(new:xH P w (upd H a o) h' a o):HOk P w (upd H a o) h':=fun b u e=>by
 have hn:=x.fresh hp
 by_cases hb:b=a
 ·subst hb;rw[xk]at e;cases e;exact new
 ·rw[xl hb]at e;exact(x b u e).stay (fun c v _ q=>k c v q) (fun c q=>by rw[xl (xA q hn)];exact q) fun c xs q _=>by rw[xl (xA q hn)];exact q
end
def Rd(H:Hp)(a:Addr)(u:HO):Prop:=H a=some u∨∃o,H a=some (.frz o u)
theorem Rd.ok{P:aI}{w:World}{H:Hp}{h:Heap}{a:Addr}{u:HO}(r:Rd H a u)(x:HOk P w H h):xH P w H h a u:=by
 rcases r with r|⟨o,r⟩
 ·exact x a u r
 ·obtain⟨_,q⟩:=x a _ r;exact q
def Mut:Option HO→Prop
 |some (.lst _)=>True
 |some (.dK _)=>True
 |some (.dT _)=>True
 |some (.set _ _)=>True
 |some (.ins _ _ _)=>True
 |some (.ext _)=>True
 |_=>False
section
variable {P:aI} {w:World} {H:Hp} {h h':Heap} {x e:Addr} {o':HO}
theorem HOk.write(ok:HOk P w H h)(mu:Mut (H x))(he:e=x∨H e=some (.own x))(k:∀b u,b≠e→h.get? b=some u→h'.get? b=some u)(heo:∃u,h'.get? e=some u)
  (new:xH P w (upd H x o') h' x o'):HOk P w (upd H x o') h':=fun b u q=>by
 have nown:∀c y,H c=some (.own y)→c≠x:=fun c y r z=>by subst z;rw[r]at mu;exact mu
 have ntup:∀c u,H c=some u→xqD u→c≠x:=fun c u r hf z=>by
  subst z;rw[r]at mu;cases u<;> first|exact mu|exact hf
 by_cases hb:b=x
 ·subst hb;rw[xk]at q;cases q;exact new
 ·rw[xl hb]at q
  by_cases hbe:b=e
  ·have q':H b=some (.own x):=by
    rcases he with z|z
    ·exact absurd (hbe.trans z) hb
    ·rw[hbe];exact z
   rw[q]at q';cases q';obtain⟨v,hv⟩:=heo;exact⟨v,by rw[hbe];exact hv⟩
  ·refine(ok b u q).stay (fun c v hc r=>k c v ?_ r) (fun c r=>by rw[xl (nown c b r)];exact r) fun c xs r hf=>by rw[xl (ntup c xs r hf)];exact r
   rcases hc with rfl|hc
   ·exact hbe
   ·rintro rfl;rcases he with z|z
    ·exact nown c b hc z
    ·rw[hc]at z;cases z;exact hb rfl
end
structure Un(fs ex:List Addr)(H H':Hp)(h h':Heap):Prop where
 keep:∀b o,h.get? b=some o→H b=none→b∉fs→b∉ex→h'.get? b=some o
 slot:∀b o,h.get? b=some o→H b=none→b∈fs→b∉ex→∃sl,h'.get? b=some {o with slots:=sl}
 free:∀b o,h.get? b=some o→H b=none→b∉ex→H' b=none
 there:∀b o,h.get? b=some o→b∉ex→∃o',h'.get? b=some o'
 fix:∀b u,H b=some u→Fix u→H' b=some u
section
variable {fs fs' ex ex':List Addr} {H H1 H2:Hp} {h h1 h2 h':Heap} {a x e:Addr} {o:HO}
theorem Un.any(u:Un fs ex H H1 h h1){b:Addr}{ob:Obj}(q:h.get? b=some ob)(n:H b=none)(hx:b∉ex):∃sl,h1.get? b=some {ob with slots:=sl}:=by
 by_cases hb:b∈fs
 ·exact u.slot b ob q n hb hx
 ·exact⟨ob.slots,u.keep b ob q n hb hx⟩
theorem Un.trans(a:Un fs ex H H1 h h1)(b:Un fs ex H1 H2 h1 h2):Un fs ex H H2 h h2 where
 keep:=fun c ob q n hc hx=>b.keep c ob (a.keep c ob q n hc hx) (a.free c ob q n hx) hc hx
 slot:=fun c ob q n hc hx=>by
  obtain⟨sl,e1⟩:=a.slot c ob q n hc hx;obtain⟨sl',e2⟩:=b.slot c _ e1 (a.free c ob q n hx) hc hx;exact⟨sl',e2⟩
 free:=fun c ob q n hx=>by
  obtain⟨o',e1⟩:=a.there c ob q hx;exact b.free c o' e1 (a.free c ob q n hx) hx
 there:=fun c ob q hx=>by
  obtain⟨o',e1⟩:=a.there c ob q hx;exact b.there c o' e1 hx
 fix:=fun c u q f=>b.fix c u (a.fix c u q f) f
theorem Un.kept(k:∀b u,h.get? b=some u→h'.get? b=some u):Un fs ex H H h h':=
 ⟨fun b ob q _ _ _=>k b ob q,fun b ob q _ _ _=>⟨ob.slots,k b ob q⟩,fun _ _ _ n _=>n,fun b ob q _=>⟨ob,k b ob q⟩,fun _ _ q _=>q⟩
theorem Un.refl:Un fs ex H H h h:=Un.kept fun _ _ q=>q
theorem Un.laid(k:∀b u,h.get? b=some u→h'.get? b=some u)(hp:h.objs.size≤a)(hn:H a=none):Un fs ex H (upd H a o) h h' where
 keep:=fun b u q _ _ _=>k b u q
 slot:=fun b u q _ _ _=>⟨u.slots,k b u q⟩
 free:=fun b u q n _=>by rw[xl (ar (aw (aj q) hp))];exact n
 there:=fun b u q _=>⟨u,k b u q⟩
 fix:=fun b u q _=>by rw[xl (xA q hn)];exact q
theorem Un.write(mu:Mut (H x))(he:e=x∨H e=some (.own x))(k:∀b u,b≠e→h.get? b=some u→h'.get? b=some u)(heo:∃u,h'.get? e=some u):Un fs ex H (upd H x o) h h':=by
 have hx:∀b,H b=none→b≠x:=fun b n z=>by subst z;rw[n]at mu;exact mu
 have hb:∀b,H b=none→b≠e:=fun b n z=>by
  subst z;rcases he with r|r
  ·exact hx b n r
  ·rw[n]at r;cases r
 have hm:∀b u,H b=some u→¬Mut (some u)→b≠x:=fun b u q nm z=>by subst z;rw[q]at mu;exact nm mu
 refine⟨fun b u q n _ _=>k b u (hb b n) q,fun b u q n _ _=>⟨u.slots,k b u (hb b n) q⟩,fun b u q n _=>by rw[xl (hx b n)];exact n,fun b u q _=>?_,
  fun b u q hf=>by rw[xl (hm b _ q fun z=>by cases u<;> first|exact z|exact hf)];exact q⟩
 by_cases hbe:b=e
 ·subst hbe;exact heo
 ·exact⟨u,k b u hbe q⟩
end
def trk(h:Heap)(H:Hp):List Addr:=(a9 h.objs.size).filter fun a=>(H a).isSome
def xcm(h:Heap)(H:Hp):Heap:=W.hideAll h (trk h H)
theorem xmz(h:Heap)(H:Hp):(xcm h H).objs.size=h.objs.size:=W.hideAll_size _ _
theorem xnV{h:Heap}{H:Hp}{b:Addr}{o:Obj}(e:h.get? b=some o)(n:H b=none):(xcm h H).get? b=some o:=
 W.hideAll_get _ e fun hm=>by
  have q:(H b).isSome=true:=(aS.mp hm).2;rw[n]at q;simp at q
theorem xpn{h:Heap}{H:Hp}{b:Addr}{o:Obj}(e:(xcm h H).get? b=some o):h.get? b=some o∧H b=none:=by
 have e':h.get? b=some o:=W.of_hideAll (trk h H) e;refine⟨e',?_⟩;cases q:H b with
 |none=>rfl
 |some x=>
  have hm:b∈trk h H:=aS.mpr ⟨bp.mpr (aj e'),by simp[q]⟩;have z:(xcm h H).get? b=none:=W.hideAll_none (trk h H) hm;rw[z]at e;cases e
end L2
namespace L2
open PySem PySem.Spec PyProof.Rows
structure Mod(K:ah)(mg:Str→Option Value)(base:Heap):Prop where
 kin:K.In base
 glob:base.Ns bz mg
 blt:∃mb,base.Ns dk mb∧∀x:Str,x≠"__name__"→mb x=bG x
 nolimit:base.NoLimit
 bm:∃b o,mg "__builtins__"=some (.ref b)∧b≠dk∧base.get? b=some o∧o.cls= .type "module"∧o.dict=some dk∧o.data= .plain
structure Cx where
 prog:aI
 w:World
 K:ah
 mg:Str→Option Value
 base:Heap
 A:aU
 N:List Str
 s₀:ab
 H₀:Hp
 env:Env
 outer:List Env
 stack:List Env
 ex:List Addr
 fn:Str→Bool
 calm:Bool
 pn:List (Addr×Obj)
 xe:Value→ab→Prop
 cp:Str→Bool
def frs(l:List Env):List Addr:=l.filterMap (·.frame)
abbrev Cx.fs(X:Cx):List Addr:=frs X.outer
def Vis(sc:Scope)(x:Str):Prop:=sc.names.lookup x=some .local∨sc.names.lookup x=some .cell∨sc.names.lookup x=some .free
def Loc(sc:Scope)(x:Str):Prop:=sc.names.lookup x=some .local∨sc.names.lookup x=some .cell
def Look(env:Env)(h:Heap)(m:Str→Option Value)(x:Str)(u:Value):Prop:=
 (env.kindOf x=some .local∧m x=some u)∨((env.kindOf x=some .cell∨env.kindOf x=some .free)∧∃c,env.cells.lookup x=some c∧h.IsCell c (some u))
structure Cx.Ok(X:Cx):Prop where
 mod:Mod X.K X.mg X.base
 kind:X.env.scope.kind= .function
 glob:X.env.globals=bz
 blt:X.env.builtins=dk
 above:X.s₀.heap.objs.size≤X.env.locals
 inj:∀x y c,X.env.cells.lookup x=some c→X.env.cells.lookup y=some c→x=y
 has:∀x,(X.env.kindOf x=some .cell∨X.env.kindOf x=some .free)→∃c,X.env.cells.lookup x=some c
 cab:∀x c,X.fn x=true→X.env.cells.lookup x=some c→X.s₀.heap.objs.size≤c
 hd:X.calm=true→X.A.handled=none
 frames:X.A.frames=some X.stack
 stk:X.stack=X.outer∨(X.stack=X.env::X.outer∧X.env.frame=some X.env.locals)
 exf:∀b∈X.ex,b≠X.env.locals∧∀x c,X.env.cells.lookup x=some c→c≠b
 bs:∀b o,X.base.get? b=some o→X.s₀.heap.get? b=some o∧X.H₀ b=none
 bsz:X.base.objs.size≤X.s₀.heap.objs.size
 noex:∀b o,X.base.get? b=some o→b∉X.ex
 exfs:∀b∈X.ex,b∉X.fs
 funs:X.s₀.heap.FunFrames X.base X.outer
 frf:∀b∈X.fs,X.H₀ b=none
 cab2:∀x c,X.cp x=true→X.env.cells.lookup x=some c→X.s₀.heap.objs.size≤c
 hz:∀b,X.s₀.heap.objs.size≤b→X.H₀ b=none
structure Inv(X:Cx)(pins:List (Addr×Obj))(σ:List (Option V))(H:Hp)(s:ab):Prop where
 ok:X.Ok
 os:s.os=X.s₀.os
 bare:e9 s.gens
 base:Un X.fs X.ex X.H₀ H X.s₀.heap s.heap
 loc:∃m,s.heap.Ns X.env.locals m∧∀(i:Nat) (x:Str) (v:V),X.N[i]? =some x→σ[i]? =some (some v)→Vis X.env.scope x→∃u,RelV v u∧Look X.env s.heap m x u
 cell:∀x c,X.env.cells.lookup x=some c→∃v,s.heap.IsCell c v
 free:H X.env.locals=none
 freeC:∀x c,X.env.cells.lookup x=some c→H c=none∨(X.fn x=false∧∃o,H c=some (.cel o)∧(o=none→∀(i:Nat) v,X.N[i]? =some x→(X.env.kindOf x=some .cell∨X.env.kindOf x=some .free)→σ[i]?≠some (some v)))
 pin:∀p∈X.pn++pins,s.heap.get? p.1=some p.2∧H p.1=none∧p.1≠X.env.locals∧p.1∉X.fs∧∀v,p.2.data≠.cell v
 hok:HOk X.prog X.w H s.heap
 len:σ.length=X.N.length
section
variable {X:Cx} {pins:List (Addr×Obj)} {σ:List (Option V)} {H H':Hp} {s:ab} {h':Heap}
theorem Cx.Ok.nofr(ok:X.Ok){b:Addr}{o:Obj}(e:X.base.get? b=some o):b∉X.fs:=fun hb=>by
 have:=(ok.funs.mem hb).1;rw[e]at this;cases this
theorem Inv.bs(I:Inv X pins σ H s):∀b o,X.base.get? b=some o→s.heap.get? b=some o∧H b=none:=fun b o e=>
 ⟨I.base.keep b o (I.ok.bs b o e).1 (I.ok.bs b o e).2 (I.ok.nofr e) (I.ok.noex b o e),I.base.free b o (I.ok.bs b o e).1 (I.ok.bs b o e).2 (I.ok.noex b o e)⟩
theorem Inv.bk(I:Inv X pins σ H s):∀b o,X.base.get? b=some o→s.heap.get? b=some o:=fun b o e=>(I.bs b o e).1
theorem Inv.mod(I:Inv X pins σ H s):Mod X.K X.mg X.base:=I.ok.mod
theorem Inv.kIn(I:Inv X pins σ H s):X.K.In s.heap:=I.ok.mod.kin.keeps I.bk
theorem Inv.lt(I:Inv X pins σ H s):X.env.locals<s.heap.objs.size:=let⟨_,hn,_⟩:=I.loc;hn.lt
theorem Inv.sz(I:Inv X pins σ H s):X.s₀.heap.objs.size≤s.heap.objs.size:=a7 I.ok.above (b7 I.lt)
theorem Inv.nofs(I:Inv X pins σ H s){a:Addr}(h:s.heap.objs.size≤a):a∉X.fs:=fun hb=>by
 obtain⟨_,o,ho,_⟩:=I.ok.funs.mem hb;exact absurd (aw (aj ho) (a7 I.sz h)) (bQ _)
theorem Inv.cne(I:Inv X pins σ H s):∀x c,X.env.cells.lookup x=some c→c≠X.env.locals:=fun x c e z=>by
 obtain⟨v,o,ho,hd⟩:=I.cell x c e;obtain⟨m,⟨o',es,ep,ho',hd',_⟩,_⟩:=I.loc;rw[z,ho']at ho;cases ho;rw[hd']at hd;cases hd
theorem Inv.funs(I:Inv X pins σ H s):s.heap.FunFrames X.base X.outer:=by
 have all:∀(l:List Env),(∀b∈frs l,b∈X.fs)→X.s₀.heap.FunFrames X.base l→s.heap.FunFrames X.base l:=by
  intro l
  induction l with
  |nil=>intro _ _;trivial
  |cons env r ih=>
   intro hs hl;obtain⟨hk,⟨L,o,hf,hn,ho,hd⟩,hr⟩:=hl;have hL:L∈X.fs:=hs L (by unfold frs;rw[gI,hf];exact aK);obtain⟨sl,e⟩:=I.base.slot L o ho (I.ok.frf L hL) hL fun z=>I.ok.exfs L z hL;exact⟨hk,⟨L,_,hf,hn,e,hd⟩,ih (fun b hb=>hs b (by unfold frs;rw[gI,hf];exact aC _ hb)) hr⟩
 exact all X.outer (fun _ hb=>hb) I.ok.funs
theorem Inv.stack(I:Inv X pins σ H s):s.heap.FunFrames X.base X.stack:=by
 rcases I.ok.stk with e|⟨e,hf⟩
 ·rw[e];exact I.funs
 ·rw[e];obtain⟨m,hn,_⟩:=I.loc;refine .cons (by rw[I.ok.kind];decide) hf hn ?_ I.funs;exact Heap.get?_none_of_le (a7 I.ok.bsz I.ok.above)
theorem Inv.stkSub(I:Inv X pins σ H s):∀b∈frs X.stack,b∈X.env.locals::X.fs:=fun b hb=>by
 rcases I.ok.stk with e|⟨e,hf⟩
 ·rw[e]at hb;exact aC _ hb
 ·rw[e]at hb;unfold frs at hb;rw[gI,hf]at hb;exact hb
theorem Inv.stkFree(I:Inv X pins σ H s):∀b∈frs X.stack,H b=none:=fun b hb=>by
 rcases ao.mp (I.stkSub b hb)with e|hb
 ·rw[e];exact I.free
 ·obtain⟨_,o,ho,_⟩:=I.ok.funs.mem hb;exact I.base.free b o ho (I.ok.frf b hb) fun z=>I.ok.exfs b z hb
theorem Inv.step{g':Array GenState}{t':Nat}{d':Drawn}{ch:List Addr}(I:Inv X pins σ H s)
  (hch:∀b∈ch,(b∈X.ex∨X.s₀.heap.objs.size≤b)∧b≠X.env.locals∧(∀x c,X.env.cells.lookup x=some c→c≠b)∧∀p∈X.pn++pins,p.1≠b)
  (keep:∀b o,b≠X.env.locals→b∉X.fs→b∉ch→s.heap.get? b=some o→H b=none→h'.get? b=some o)
  (slot:∀b o,b≠X.env.locals→b∈X.fs→b∉ch→s.heap.get? b=some o→H b=none→∃sl,h'.get? b=some {o with slots:=sl}) (free:∀b o,b∉ch→s.heap.get? b=some o→H b=none→H' b=none)
  (there:∀b o,b∉ch→s.heap.get? b=some o→∃o',h'.get? b=some o')
  (fix:∀b u,H b=some u→Fix u→H' b=some u)
  (ns:∀m,s.heap.Ns X.env.locals m→h'.Ns X.env.locals m) (hok:HOk X.prog X.w H' h') (hg:e9 g'):
  Inv X pins σ H' {s with heap:=h',gens:=g',drawn:=d',toks:=t'}:=by
 have neL:∀b o,X.s₀.heap.get? b=some o→b≠X.env.locals:=fun b o e=>ar (aw (aj e) I.ok.above);have neC:∀b o,X.s₀.heap.get? b=some o→b∉X.ex→b∉ch:=fun b o e hx hb=>by
  rcases(hch b hb).1 with z|z
  ·exact hx z
  ·exact absurd (aw (aj e) z) (bQ _)
 have cellK:∀x c,X.env.cells.lookup x=some c→H c=none→∀v,s.heap.IsCell c v→h'.IsCell c v:=fun x c e hn v ⟨o,ho,hd⟩=>by
  have nch:c∉ch:=fun z=>(hch c z).2.2.1 x c e rfl
  by_cases hc:c∈X.fs
  ·obtain⟨sl,q⟩:=slot c o (I.cne x c e) hc nch ho hn;exact⟨_,q,hd⟩
  ·exact⟨o,keep c o (I.cne x c e) hc nch ho hn,hd⟩
 refine⟨I.ok,I.os,hg,⟨fun b o e n hb hx=>?_,fun b o e n hb hx=>?_,fun b o e n hx=>?_,fun b o e hx=>?_,fun b u e f=>fix b u (I.base.fix b u e f) f⟩,?_,fun x c e=>?_,?_,fun x c e=>?_,fun p hp=>?_,hok,I.len⟩
 ·exact keep b o (neL b o e) hb (neC b o e hx) (I.base.keep b o e n hb hx) (I.base.free b o e n hx)
 ·obtain⟨sl,e1⟩:=I.base.slot b o e n hb hx;obtain⟨sl',e2⟩:=slot b _ (neL b o e) hb (neC b o e hx) e1 (I.base.free b o e n hx);exact⟨sl',e2⟩
 ·obtain⟨o',e1⟩:=I.base.there b o e hx;exact free b o' (neC b o e hx) e1 (I.base.free b o e n hx)
 ·obtain⟨o',e1⟩:=I.base.there b o e hx;exact there b o' (neC b o e hx) e1
 ·obtain⟨m,hn,hl⟩:=I.loc;refine⟨m,ns m hn,fun i x v e1 e2 e3=>?_⟩;obtain⟨u,r,l⟩:=hl i x v e1 e2 e3;rcases l with l|⟨k,c,e,z⟩
  ·exact⟨u,r,.inl l⟩
  ·rcases I.freeC x c e with hn'|⟨_,o,ho,hno⟩
   ·exact⟨u,r,.inr ⟨k,c,e,cellK x c e hn' _ z⟩⟩
   ·cases o with
    |none=>exact absurd e2 (hno rfl i v e1 k)
    |some v'=>
     obtain⟨y,hy,hr⟩:=I.hok c _ ho;obtain⟨y',hy',hr'⟩:=hok c _ (fix c _ ho trivial);obtain⟨y2,rfl,r2⟩:=hr v' rfl;obtain⟨y3,rfl,r3⟩:=hr' v' rfl;have:v=v':=RelV.fn r (by
      obtain⟨o1,q1,q2⟩:=z;obtain⟨o2,q3,q4⟩:=hy;rw[q1]at q3;cases q3;rw[q2]at q4;cases q4;exact r2)
     subst this;exact⟨y3,r3,.inr ⟨k,c,e,hy'⟩⟩
 ·rcases I.freeC x c e with hn'|⟨_,o,ho,_⟩
  ·obtain⟨v,z⟩:=I.cell x c e;exact⟨v,cellK x c e hn' v z⟩
  ·obtain⟨y',hy',_⟩:=hok c _ (fix c _ ho trivial);exact⟨y',hy'⟩
 ·obtain⟨m,⟨o,_,_,ho,_⟩,_⟩:=I.loc;exact free _ o (fun z=>(hch _ z).2.1 rfl) ho I.free
 ·rcases I.freeC x c e with hn'|⟨hf,o,ho,hno⟩
  ·obtain⟨v,o,ho,hd⟩:=I.cell x c e;exact .inl (free c o (fun z=>(hch c z).2.2.1 x c e rfl) ho hn')
  ·exact .inr ⟨hf,o,fix c _ ho trivial,hno⟩
 ·obtain⟨e,n,ne,nf,d⟩:=I.pin p hp;have nch:p.1∉ch:=fun z=>(hch p.1 z).2.2.2 p hp rfl;exact⟨keep p.1 p.2 ne nf nch e n,free p.1 p.2 nch e n,ne,nf,d⟩
theorem Inv.un{t':Nat}(I:Inv X pins σ H s)(u:Un X.fs [] H H' s.heap h')(hok:HOk X.prog X.w H' h'):Inv X pins σ H' {s with heap:=h',toks:=t'}:=by
 obtain⟨m,⟨o,es,ep,ho,r⟩,_⟩:=id I.loc;obtain⟨sl,hL⟩:=u.any ho I.free (by simp);exact I.step (g':=s.gens) (d':=s.drawn) (ch:=[]) (fun _ z=>nomatch z) (fun b o _ hb _ e n=>u.keep b o e n hb (by simp)) (fun b o _ hb _ e n=>u.slot b o e n hb (by simp)) (fun b o _ e n=>u.free b o e n (by simp)) (fun b o _ e=>u.there b o e (by simp)) u.fix (fun m' hm=>by
  obtain⟨o',es',ep',ho',r'⟩:=hm;rw[ho]at ho';cases ho';exact⟨_,es',ep',hL,r'⟩) hok I.bare
theorem Inv.call{g':Array GenState}{t':Nat}{d':Drawn}{ch:List Addr}(I:Inv X pins σ H s)(u:Un (frs X.stack) ch H H' s.heap h')(hok:HOk X.prog X.w H' h')(hg:e9 g')
  (hch:∀b∈ch,(b∈X.ex∨X.s₀.heap.objs.size≤b)∧b≠X.env.locals∧(∀x c,X.env.cells.lookup x=some c→c≠b)∧∀p∈X.pn++pins,p.1≠b):
  Inv X pins σ H' {s with heap:=h',gens:=g',drawn:=d',toks:=t'}:=by
 obtain⟨m,⟨o,es,ep,ho,r⟩,_⟩:=id I.loc;obtain⟨sl,hL⟩:=u.any ho I.free fun z=>(hch _ z).2.1 rfl;exact I.step (ch:=ch) hch (fun b o hL hb hc e n=>u.keep b o e n (fun z=>(ao.mp (I.stkSub b z)).elim hL hb) hc) (fun b o _ _ hc e n=>u.any e n hc) (fun b o hc e n=>u.free b o e n hc) (fun b o hc e=>u.there b o e hc) u.fix (fun m' hm=>by
  obtain⟨o',es',ep',ho',r'⟩:=hm;rw[ho]at ho';cases ho';exact⟨_,es',ep',hL,r'⟩) hok hg
theorem Inv.turned{t':Nat}{it:Addr}(I:Inv X pins σ H s)(k:∀b o,b≠it→s.heap.get? b=some o→h'.get? b=some o)(hn:H it=none)(hL:it≠X.env.locals)
  (h1:it∈X.ex∨X.s₀.heap.objs.size≤it) (h2:∀x c,X.env.cells.lookup x=some c→c≠it) (h3:∀p∈X.pn++pins,p.1≠it):Inv X pins σ H {s with heap:=h',toks:=t'}:=by
 have nit:∀b u,H b=some u→b≠it:=fun b u e z=>by rw[z,hn]at e;cases e
 refine I.step (g':=s.gens) (d':=s.drawn) (ch:=[it]) (fun b hb=>?_) (fun b o _ _ hc e _=>k b o (fun z=>hc (by simp[z])) e) (fun b o _ _ hc e _=>⟨o.slots,k b o (fun z=>hc (by simp[z])) e⟩) (fun _ _ _ _ n=>n)
  (fun b o hc e=>⟨o,k b o (fun z=>hc (by simp[z])) e⟩) (fun _ _ e _=>e) (fun m hm=>?_) (fun b u e=>?_) I.bare
 ·have e:b=it:=by simpa using hb
  subst e;exact⟨h1,hL,h2,h3⟩
 ·obtain⟨o,es,ep,ho,r⟩:=hm;exact⟨o,es,ep,k _ o (a8 hL) ho,r⟩
 ·refine(I.hok b u e).stay (fun c v hc q=>k c v ?_ q) (fun _ q=>q) fun _ _ q _=>q;rcases hc with z|z
  ·rw[z];exact nit b u e
  ·exact nit c _ z
theorem Inv.tok(I:Inv X pins σ H s)(t:Nat):Inv X pins σ H {s with toks:=t}:=I.un (h':=s.heap) (t':=t) Un.refl I.hok
theorem Inv.kept{t':Nat}(I:Inv X pins σ H s)(k:∀b u,s.heap.get? b=some u→h'.get? b=some u):Inv X pins σ H {s with heap:=h',toks:=t'}:=I.un (Un.kept k) (I.hok.kept k)
theorem Inv.laid{a:Addr}{o:HO}{t':Nat}(I:Inv X pins σ H s)(k:∀b u,s.heap.get? b=some u→h'.get? b=some u)(hp:s.heap.objs.size≤a)(new:xH X.prog X.w (upd H a o) h' a o):
  Inv X pins σ (upd H a o) {s with heap:=h',toks:=t'}:=I.un (Un.laid k hp (I.hok.fresh hp)) (I.hok.laid k hp new)
theorem Inv.write{x e:Addr}{o:HO}{t':Nat}(I:Inv X pins σ H s)(mu:Mut (H x))(he:e=x∨H e=some (.own x))(k:∀b u,b≠e→s.heap.get? b=some u→h'.get? b=some u)(heo:∃u,h'.get? e=some u)
  (new:xH X.prog X.w (upd H x o) h' x o):Inv X pins σ (upd H x o) {s with heap:=h',toks:=t'}:=I.un (Un.write mu he k heo) (I.hok.write mu he k heo new)
theorem Inv.weak{σ':List (Option V)}(I:Inv X pins σ H s)(hl:σ'.length=σ.length)(w:∀(i:Nat) v,σ'[i]? =some (some v)→σ[i]? =some (some v)):Inv X pins σ' H s:=
 ⟨I.ok,I.os,I.bare,I.base,let⟨m,hn,hl'⟩:=I.loc;⟨m,hn,fun i x v e1 e2 e3=>hl' i x v e1 (w i v e2) e3⟩,I.cell,I.free,fun x c e=>(I.freeC x c e).imp id fun⟨hf,o,ho,hno⟩=>⟨hf,o,ho,fun z i v e1 k e2=>hno z i v e1 k (w i v e2)⟩,I.pin,I.hok,hl.trans I.len⟩
theorem Inv.pins_of{pins':List (Addr×Obj)}(I:Inv X pins σ H s)(h:∀p∈pins',s.heap.get? p.1=some p.2∧H p.1=none∧p.1≠X.env.locals∧p.1∉X.fs∧∀v,p.2.data≠.cell v):Inv X pins' σ H s:=
 ⟨I.ok,I.os,I.bare,I.base,I.loc,I.cell,I.free,I.freeC,fun p hp=>(aM.mp hp).elim (fun z=>I.pin p (bN _ z)) (h p),I.hok,I.len⟩
theorem xe0{N:List Str}(hN:N.Nodup){i j:Nat}{x:Str}(a:N[i]? =some x)(b:N[j]? =some x):i=j:=by
 obtain⟨h1,e1⟩:=au.mp a;obtain⟨h2,e2⟩:=au.mp b;exact(iy hN).mp (e1.trans e2.symm)
theorem xhv{M:Model}{A:aU}{E:Value→ab→Prop}{i:Nat}{x:Str}{v:V}{u:Value}{Q:Unit→ab→Prop}(I:Inv X pins σ H s)(hN:X.N.Nodup)(hi:X.N[i]? =some x)(hx:Loc X.env.scope x)(r:RelV v u)
  (h:∀s',Inv X pins (σ.set i (some v)) H s'→(∃a,gv a s.heap s'.heap∧(a=X.env.locals∨X.env.cells.lookup x=some a))→Q () s') (hf:X.fn x=true∨X.env.scope.names.lookup x=some .local:=by first|exact .inl rfl|exact .inr rfl|assumption):wpAny M A (storeName X.env x u) Q E s:=by
 obtain⟨m,hn,hl⟩:=id I.loc;have hcls:(X.env.scope.kind== .class||(X.env.scope.kind== .module&&X.env.locals != X.env.globals))=false:=by rw[I.ok.kind];rfl
 have hiσ:i<σ.length:=by rw[I.len];exact(au.mp hi).1
 have cne:=I.cne;have tracked:∀{a:Addr} {h':Heap},(∃o,s.heap.get? a=some o∧H a=none)→gv a s.heap h'→HOk X.prog X.w H h':=fun{a h'} ha hs b ob e=>by
  obtain⟨_,_,hfree⟩:=ha;refine(I.hok b ob e).stay (fun c w' hc q=>(hs.2 c ?_).trans q) (fun _ q=>q) fun _ _ q _=>q;rintro rfl;rcases hc with rfl|hc
  ·rw[hfree]at e;cases e
  ·rw[hfree]at hc;cases hc
 rcases hx with hk|hk
 ·refine wpAny_storeName_local hk hn (fun h' hn' hs=>?_) hcls;obtain⟨oL,_,_,hoL,_⟩:=id hn;refine h _ ⟨I.ok,I.os,I.bare,⟨fun b o e n hb hx=>?_,fun b o e n hb hx=>?_,I.base.free,fun b o e hx=>?_,I.base.fix⟩,⟨_,hn',fun j y v' e1 e2 e3=>?_⟩,fun y c e=>?_,I.free,fun y c e=>?_,fun p hp=>?_,tracked ⟨oL,hoL,I.free⟩ hs,by simpa using I.len⟩ ⟨_,hs,.inl rfl⟩
  ·exact(hs.2 b (ar (aw (aj e) I.ok.above))).trans (I.base.keep b o e n hb hx)
  ·obtain⟨sl,e1⟩:=I.base.slot b o e n hb hx;exact⟨sl,(hs.2 b (ar (aw (aj e) I.ok.above))).trans e1⟩
  ·obtain⟨o',e1⟩:=I.base.there b o e hx;exact⟨o',(hs.2 b (ar (aw (aj e) I.ok.above))).trans e1⟩
  ·by_cases hj:j=i
   ·subst hj;rw[hi]at e1;cases e1;rw[f9 hiσ]at e2;cases e2;exact⟨u,r,.inl ⟨hk,by simp⟩⟩
   ·rw[d4 (a8 hj)]at e2;obtain⟨u',r',q⟩:=hl j y v' e1 e2 e3;refine⟨u',r',?_⟩;rcases q with⟨k,e⟩|⟨k,c,e,z⟩
    ·refine .inl ⟨k,?_⟩;have:y≠x:=fun e=>hj (xe0 hN e1 (e▸hi));simp[this,e]
    ·exact .inr ⟨k,c,e,z.sameBut hs (cne y c e)⟩
  ·obtain⟨w',z⟩:=I.cell y c e;exact⟨w',z.sameBut hs (cne y c e)⟩
  ·refine(I.freeC y c e).imp id fun hh1=>?_;obtain⟨hf',o',ho',hno⟩:=hh1;refine⟨hf',o',ho',fun z j v' e1 k e2=>?_⟩
   by_cases hj:j=i
   ·subst hj;rw[hi]at e1;cases e1;have hk':X.env.kindOf x=some .local:=hk;rw[hk']at k;rcases k with k|k<;> cases k
   ·rw[d4 (a8 hj)]at e2;exact hno z j v' e1 k e2
  ·obtain⟨e,n,ne,nf,d⟩:=I.pin p hp;exact⟨(hs.2 p.1 ne).trans e,n,ne,nf,d⟩
 ·have hfn:X.fn x=true:=by
   rcases hf with z|z
   ·exact z
   ·rw[z]at hk;cases hk
  obtain⟨c,hc⟩:=I.ok.has x (.inl hk);have hHc:H c=none:=by
   rcases I.freeC x c hc with z|⟨z,_⟩
   ·exact z
   ·rw[hfn]at z;cases z
  obtain⟨w',z⟩:=I.cell x c hc;refine wpAny_storeName_cell I.ok.kind hk hc z (fun h' hc' hs=>?_);obtain⟨oc,hoc,hocd⟩:=id z;refine h {s with heap:=h'} ⟨I.ok,I.os,I.bare,⟨fun b o e n hb hx=>?_,fun b o e n hb hx=>?_,I.base.free,fun b o e hx=>?_,I.base.fix⟩,⟨m,hn.sameBut hs (a8 (cne x c hc)),fun j y v' e1 e2 e3=>?_⟩,fun y c' e=>?_,I.free,fun y c' e=>?_,fun p hp=>?_,tracked ⟨oc,hoc,hHc⟩ hs,by simpa using I.len⟩ ⟨c,hs,.inr hc⟩
  ·exact(hs.2 b (ar (aw (aj e) (I.ok.cab x c hfn hc)))).trans (I.base.keep b o e n hb hx)
  ·obtain⟨sl,e1⟩:=I.base.slot b o e n hb hx;exact⟨sl,(hs.2 b (ar (aw (aj e) (I.ok.cab x c hfn hc)))).trans e1⟩
  ·obtain⟨o',e1⟩:=I.base.there b o e hx;exact⟨o',(hs.2 b (ar (aw (aj e) (I.ok.cab x c hfn hc)))).trans e1⟩
  ·by_cases hj:j=i
   ·subst hj;rw[hi]at e1;cases e1;rw[f9 hiσ]at e2;cases e2;exact⟨u,r,.inr ⟨.inl hk,c,hc,hc'⟩⟩
   ·rw[d4 (a8 hj)]at e2;obtain⟨u',r',q⟩:=hl j y v' e1 e2 e3;refine⟨u',r',?_⟩;rcases q with q|⟨k,c',e,z'⟩
    ·exact .inl q
    ·refine .inr ⟨k,c',e,z'.sameBut hs ?_⟩;rintro rfl;exact hj (xe0 hN e1 (I.ok.inj _ _ _ e hc▸hi))
  ·by_cases hcc:c'=c
   ·subst hcc;exact⟨_,hc'⟩
   ·obtain⟨w2,z2⟩:=I.cell y c' e;exact⟨w2,z2.sameBut hs hcc⟩
  ·refine(I.freeC y c' e).imp id fun hh2=>?_;obtain⟨hf',o',ho',hno⟩:=hh2;refine⟨hf',o',ho',fun z j v' e1 k e2=>?_⟩
   by_cases hj:j=i
   ·subst hj;rw[hi]at e1;cases e1;rw[hfn]at hf';cases hf'
   ·rw[d4 (a8 hj)]at e2;exact hno z j v' e1 k e2
  ·obtain⟨e,n,ne,nf,d⟩:=I.pin p hp;refine⟨(hs.2 p.1 ?_).trans e,n,ne,nf,d⟩;intro q;rw[q,hoc]at e;have q':oc=p.2:=bD e;exact d w' (by rw[←q'];exact hocd)
theorem xe1{M:Model}{A:aU}{E:Value→ab→Prop}{i:Nat}{x:Str}{v:V}{u:Value}{Q:Unit→ab→Prop}(I:Inv X pins σ H s)(hN:X.N.Nodup)(hi:X.N[i]? =some x)(hx:Loc X.env.scope x)(r:RelV v u)
  (h:∀s',Inv X pins (σ.set i (some v)) H s'→Q () s') (hf:X.fn x=true∨X.env.scope.names.lookup x=some .local:=by first|exact .inl rfl|exact .inr rfl|assumption):wpAny M A (storeName X.env x u) Q E s:=
 xhv I hN hi hx r (fun s' I' _=>h s' I') hf
theorem Inv.call'{s':ab}{ch:List Addr}(I:Inv X pins σ H s)(ho:s'.os=s.os)(u:Un (frs X.stack) ch H H' s.heap s'.heap)(hok:HOk X.prog X.w H' s'.heap)(hg:e9 s'.gens)
  (hch:∀b∈ch,(b∈X.ex∨X.s₀.heap.objs.size≤b)∧b≠X.env.locals∧(∀x c,X.env.cells.lookup x=some c→c≠b)∧∀p∈X.pn++pins,p.1≠b):Inv X pins σ H' s':=by
 obtain⟨h',g',d',t',o'⟩:=s';have e:o'=s.os:=ho;subst e;exact I.call (g':=g') (t':=t') (d':=d') u hok hg hch
end
abbrev XK:=Value→Option Addr→Hp→Prop
abbrev St:=List (Option V)
abbrev VK:=V→Hp→Prop
abbrev TE:=St→Hp→VK→Prop
abbrev TT:=St→Hp→(Bool→Hp→Prop)→Prop
abbrev TA:=St→Hp→(List V→Hp→Prop)→Prop
structure Ends where
 nx:St→Hp→Prop
 rt:VK
 bk:St→Hp→Prop:=fun _ _=>False
 ct:St→Hp→Prop:=fun _ _=>False
abbrev TS:=Ends→St→Hp→Prop
def EP(X:Cx)(pins:List (Addr×Obj))(σ:St)(Q:VK)(u:Value)(s':ab):Prop:=∃v H',Inv X pins σ H' s'∧RelV v u∧Q v H'
def TP(X:Cx)(pins:List (Addr×Obj))(σ:St)(Q:Bool→Hp→Prop)(b:Bool)(s':ab):Prop:=∃H',Inv X pins σ H' s'∧Q b H'
def AP(X:Cx)(pins:List (Addr×Obj))(σ:St)(Q:List V→Hp→Prop)(us:List Value)(s':ab):Prop:=∃vs H',Inv X pins σ H' s'∧Vals vs us∧Q vs H'
def SP(X:Cx)(pins:List (Addr×Obj))(D:Ends)(f:Flow)(s':ab):Prop:=
 match f with
 | .next=>∃σ' H',Inv X pins σ' H' s'∧D.nx σ' H'
 | .brk=>∃σ' H',Inv X pins σ' H' s'∧D.bk σ' H'
 | .cont=>∃σ' H',Inv X pins σ' H' s'∧D.ct σ' H'
 | .ret u=>∃v σ' H',Inv X pins σ' H' s'∧RelV v u∧D.rt v H'
def PE(X:Cx)(e:Expr)(t:TE):Prop:=
 ∀(pins:List (Addr×Obj)) (s:ab) (σ:St) (H:Hp) (Q:VK),Inv X pins σ H s→t σ H Q→wpAny (model X.prog X.w) X.A (eval e X.env) (EP X pins σ Q) X.xe s
def PT(X:Cx)(e:Expr)(t:TT):Prop:=
 ∀(pins:List (Addr×Obj)) (s:ab) (σ:St) (H:Hp) (Q:Bool→Hp→Prop),Inv X pins σ H s→t σ H Q→wpAny (model X.prog X.w) X.A (isTrue e X.env (eval e X.env)) (TP X pins σ Q) X.xe s
def PW(X:Cx)(e:Expr)(t:TT):Prop:=
 ∀(whole:Sem Value) (pins:List (Addr×Obj)) (s:ab) (σ:St) (H:Hp) (Q:Bool→Hp→Prop),Inv X pins σ H s→t σ H Q→wpAny (model X.prog X.w) X.A (isTrue e X.env whole) (TP X pins σ Q) X.xe s
theorem PW.pt{X:Cx}{e:Expr}{t:TT}(h:PW X e t):PT X e t:=h _
def PA(X:Cx)(es:List Expr)(t:TA):Prop:=
 ∀(pos:Pos) (pins:List (Addr×Obj)) (s:ab) (σ:St) (H:Hp) (Q:List V→Hp→Prop),Inv X pins σ H s→t σ H Q→wpAny (model X.prog X.w) X.A (spliced (cH pos (aR es X.env))) (AP X pins σ Q) X.xe s
def PS(X:Cx)(st:Stmt)(t:TS):Prop:=
 ∀(pins:List (Addr×Obj)) (s:ab) (σ:St) (H:Hp) (D:Ends),Inv X pins σ H s→t D σ H→wpAny (model X.prog X.w) X.A (exec st X.env) (SP X pins D) X.xe s
def PSs(X:Cx)(st:List Stmt)(t:TS):Prop:=
 ∀(pins:List (Addr×Obj)) (s:ab) (σ:St) (H:Hp) (D:Ends),Inv X pins σ H s→t D σ H→wpAny (model X.prog X.w) X.A (execs st X.env) (SP X pins D) X.xe s
theorem thn{α:Type}{t:Sem α}{Q Q':α→ab→Prop}{M:Model}{A:aU}{E:Value→ab→Prop}{s:ab}(h:wpAny M A t Q E s)(hQ:∀a s,Q a s→Q' a s):wpAny M A t Q' E s:=aY h hQ fun _ _ x=>x
end L2
namespace L2
open PySem PySem.Spec PyProof.Rows
section
variable {X:Cx}
def xqE(i:Nat):TE:=fun σ H Q=>∃v,σ[i]? =some (some v)∧Q v H
def tC(v:V):TE:=fun _ H Q=>Q v H
theorem xmA{i:Nat}{x:Str}{pos:Pos}(hN:X.N[i]? =some x)(hv:Vis X.env.scope x)(hd:(x==("__debug__":Str))=false:=by decide)(hcd:(x==("__classdict__":Str))=false:=by decide):PE X (.Name x pos) (xqE i):=by
 intro pins s σ H Q I h;obtain⟨v,e,h⟩:=h;obtain⟨m,hn,hl⟩:=I.loc;obtain⟨u,r,l⟩:=hl i x v hN e hv;have fin:EP X pins σ Q u s:=⟨v,H,I,r,h⟩;rcases l with⟨hk,hm⟩|⟨hk,c,hc,hcell⟩
 ·exact wpAny_Name (wpAny_loadName_local I.ok.kind hk hn hm fin) hd
 ·rcases hk with hk|hk
  ·exact wpAny_Name (wpAny_loadName_cell I.ok.kind hk hc hcell fin) hd
  ·exact wpAny_Name (wpAny_loadName_free I.ok.kind hk hc hcell fin hcd) hd
theorem xh{i j pos}:PE X (.Constant (.int i) j pos) (tC (.int i)):=fun _ _ _ H _ I h=>wpAny_Constant_int ⟨.int i,H,I.tok _,⟨_,rfl⟩,h⟩
theorem jz{b j pos}:PE X (.Constant (.bool b) j pos) (tC (.bl b)):=fun _ _ _ H _ I h=>Constant_bool ⟨.bl b,H,I,rfl,h⟩
theorem xb3{j pos}:PE X (.Constant .none j pos) (tC .non):=fun _ _ _ H _ I h=>kC ⟨.non,H,I,rfl,h⟩
theorem xdb{x j pos}:PE X (.Constant (.str x) j pos) (tC (.str x)):=fun _ _ _ H _ I h=>Calls.Constant_str ⟨.str x,H,I.tok _,⟨_,rfl⟩,h⟩
def Gl(X:Cx)(x:Str):Prop:=X.env.kindOf x=some .globalImplicit
theorem xd9{E:Value→ab→Prop}{pins:List (Addr×Obj)}{s:ab}{σ:St}{H:Hp}{x:Str}{u:Value}{pos:Pos}{Q:Value→ab→Prop}(I:Inv X pins σ H s)(hg:Gl X x)(hm:X.mg x=some u)(h:Q u s)
  (hd:(x==("__debug__":Str))=false:=by decide):wpAny (model X.prog X.w) X.A (eval (.Name x pos) X.env) Q E s:=
 g9 I.ok.kind hg (Calls.loadGlobal_global (by rw[I.ok.glob];exact I.mod.glob.keeps I.bk) hm h) hd
theorem yW{E:Value→ab→Prop}{pins:List (Addr×Obj)}{s:ab}{σ:St}{H:Hp}{x:Str}{u:Value}{pos:Pos}{Q:Value→ab→Prop}(I:Inv X pins σ H s)(hg:Gl X x)(hm:X.mg x=none)(hv:bG x=some u)(h:Q u s)
  (hn:x≠"__name__":=by decide) (hd:(x==("__debug__":Str))=false:=by decide):wpAny (model X.prog X.w) X.A (eval (.Name x pos) X.env) Q E s:=by
 obtain⟨mb,h1,h2⟩:=I.mod.blt;exact g9 I.ok.kind hg (Calls.loadGlobal_builtin (by rw[I.ok.glob];exact I.mod.glob.keeps I.bk) hm (by rw[I.ok.blt];exact h1.keeps I.bk) ((h2 x hn).trans hv) h) hd
theorem ud{x:Str}{v:V}{u:Value}{pos:Pos}(hg:Gl X x)(hm:X.mg x=some u)(r:RelV v u)(hd:(x==("__debug__":Str))=false:=by decide):PE X (.Name x pos) (tC v):=
 fun _ _ _ H _ I h=>xd9 I hg hm ⟨v,H,I,r,h⟩ hd
theorem xb4{x:Str}{v:V}{u:Value}{pos:Pos}(hg:Gl X x)(hm:X.mg x=none)(hv:bG x=some u)(r:RelV v u)(hn:x≠"__name__":=by decide)(hd:(x==("__debug__":Str))=false:=by decide):PE X (.Name x pos) (tC v):=
 fun _ _ _ H _ I h=>yW I hg hm hv ⟨v,H,I,r,h⟩ hn hd
variable {a b:Expr} {ta tb:TE} {pos:Pos}
def PC(X:Cx)(op:CmpOp)(a b:Expr)(t:TE):Prop:=
 ∀(pins:List (Addr×Obj)) (s:ab) (σ:St) (H:Hp) (Q:VK),Inv X pins σ H s→t σ H Q→
  wpAny (model X.prog X.w) X.A (eval a X.env) (fun v s₁=>wpAny (model X.prog X.w) X.A (eval b X.env) (fun u s₂=>wpAny (model X.prog X.w) X.A (bE op v u) (EP X pins σ Q) X.xe s₂) X.xe s₁) X.xe s
theorem xiD(b:Expr){op:CmpOp}(h:op≠.In)(h2:op≠.NotIn):de op b=false:=by
 have e1:(op==CmpOp.In)=false:=by cases op<;> first|rfl|exact absurd rfl h
 have e2:(op==CmpOp.NotIn)=false:=by cases op<;> first|rfl|exact absurd rfl h2
 cases b<;> simp[de,e1,e2]
def xsk(ta:TE):TE:=fun σ H Q=>ta σ H fun x H1=>Q (.bl (decide (x= .non))) H1
def xrF(ta:TE):TE:=fun σ H Q=>ta σ H fun x H1=>Q (.bl (!decide (x= .non))) H1
theorem RelV.none_iff{x:V}{v:Value}(r:RelV x v):(v==bq)=decide (x= .non):=by
 cases x with
 |non=>cases r;rfl
 |bl _=>cases r;rfl
 |int _=>obtain⟨t,rfl⟩:=r;rfl
 |str _=>obtain⟨t,rfl⟩:=r;rfl
 |byt _=>obtain⟨t,rfl⟩:=r;rfl
 |flt _=>obtain⟨t,rfl⟩:=r;rfl
 |ref _=>cases r;rfl
 |ty _=>cases r;rfl
theorem xqF{j pos'}(ha:PE X a ta):PC X .Is a (.Constant .none j pos') (xsk ta):=by
 intro pins s σ H Q I h;refine thn (ha pins s σ H _ I h) fun v s1 hh3=>?_;obtain⟨x,H1,I1,r1,q1⟩:=hh3;exact kC (is_none_gen ⟨.bl _,H1,I1,by rw[r1.none_iff];rfl,q1⟩)
theorem xpo{j pos'}(ha:PE X a ta):PC X .IsNot a (.Constant .none j pos') (xrF ta):=by
 intro pins s σ H Q I h;refine thn (ha pins s σ H _ I h) fun v s1 hh4=>?_;obtain⟨x,H1,I1,r1,q1⟩:=hh4;exact kC (isnot_none_gen ⟨.bl _,H1,I1,by rw[r1.none_iff];rfl,q1⟩)
def tB(t:TE):TT:=fun σ H Q=>t σ H fun x H1=>∃c,x= .bl c∧Q c H1
theorem xqG{op:CmpOp}{t:TE}(h:PC X op a b t)(h1:de op b=false:=by first|exact xiD _ (by decide) (by decide)|rfl):PE X (.Compare a [op] [b] pos) t:=fun pins s σ H Q I hw=>wpAny_Compare1 (h pins s σ H Q I hw) h1
theorem xmB{op:CmpOp}{t:TE}(h:PC X op a b t)(h1:de op b=false:=by first|exact xiD _ (by decide) (by decide)|rfl):PT X (.Compare a [op] [b] pos) (tB t):=by
 intro pins s σ H Q I hw;refine gq (thn (h pins s σ H _ I hw) fun v s1 h1=>thn h1 fun u s2 h2=>thn h2 fun c s3 hh5=>?_) h1;obtain⟨x,H1,I1,r1,q1⟩:=hh5;obtain⟨d,rfl,q⟩:=q1;cases r1;exact cq ⟨H1,I1,q⟩
variable {tA tB':TT} {rest:List Expr}
def xsl(t:TT):TT:=fun σ H Q=>t σ H fun c H1=>Q (!c) H1
theorem vx(ha:PT X a tA):PW X (.BoolOp .And [a] pos) tA:=by
 intro wh pins s σ H Q I h;refine isTrue_and (thn (ha pins s σ H Q I h) fun c s1 e=>?_);cases c with
 |true=>exact isTrue_and_nil e
 |false=>exact e
theorem xfC(ha:PT X a tA):PW X (.BoolOp .Or [a] pos) tA:=by
 intro wh pins s σ H Q I h;refine isTrue_or (thn (ha pins s σ H Q I h) fun c s1 e=>?_);cases c with
 |false=>exact isTrue_or_nil e
 |true=>exact e
theorem xaz(ha:PT X a tA):PT X (.UnaryOp .Not a pos) (xsl tA):=by
 intro pins s σ H Q I h;exact isTrue_not (ha pins s σ H (fun c H1=>Q (!c) H1) I h)
theorem um{op}{t:TE}(h:PE X a t):PE X (.BoolOp op [a] pos) t:=fun pins s σ H Q I hw=>BoolOp_one (h pins s σ H Q I hw)
end
end L2
namespace L2
open PySem PySem.Spec PyProof.Rows
def SqL(K:ah)(H:Hp)(a:Addr)(xs:List V):Prop:=
 Rd H a (.lst xs)∨
  ∃(o:Obj) (its:Array Value) (n:Nat),K.lookup a=some o∧o.cls= .type "list"∧o.dict=none∧o.data= .seq its n∧its.size≤aL∧Vals xs its.toList
def SqT(K:ah)(H:Hp)(a:Addr)(xs:List V):Prop:=
 Rd H a (.tup xs)∨
  ∃(o:Obj) (its:Array Value) (n:Nat),K.lookup a=some o∧o.cls= .type "tuple"∧o.data= .seq its n∧its.size≤aL∧Vals xs its.toList
def xsm:Value→Option V
 | .none=>some .non
 | .bool b=>some (.bl b)
 | .int i _=>some (.int i)
 | .str x _=>some (.str x)
 | .bytes b _=>some (.byt b)
 | .float b _=>some (.flt b)
 | .ref a=>some (.ref a)
 | .type n=>some (.ty n)
 |_=>none
theorem RelV.abs{x:V}{u:Value}(r:RelV x u):xsm u=some x:=by
 cases x with
 |non=>cases r;rfl
 |bl _=>cases r;rfl
 |int _=>obtain⟨t,rfl⟩:=r;rfl
 |str _=>obtain⟨t,rfl⟩:=r;rfl
 |byt _=>obtain⟨t,rfl⟩:=r;rfl
 |flt _=>obtain⟨t,rfl⟩:=r;rfl
 |ref _=>cases r;rfl
 |ty _=>cases r;rfl
theorem RelV.inj{x y:V}{u:Value}(r:RelV x u)(q:RelV y u):x=y:=bD (r.abs.symm.trans q.abs)
theorem Vals.inj:∀{xs ys:List V} {us:List Value},Vals xs us→Vals ys us→xs=ys
 |_,_,_,.nil,.nil=>rfl
 |_,_,_,.cons r t,.cons r' t'=>by rw[r.inj r',Vals.inj t t']
section
variable {X:Cx} {pins:List (Addr×Obj)} {σ:St} {H:Hp} {s:ab} {a:Addr} {xs ys:List V}
theorem SqL.of{K:ah}(h:H a=some (.lst xs)):SqL K H a xs:=.inl (.inl h)
theorem SqT.of{K:ah}(h:H a=some (.tup xs)):SqT K H a xs:=.inl (.inl h)
theorem Inv.list(I:Inv X pins σ H s)(h:SqL X.K H a xs):∃its:List Value,Vals xs its∧PlainL s.heap a its.toArray∧xs.length≤aL:=by
 rcases h with h|⟨o,its,n,hk,hc,hd,hs,hz,r⟩
 ·obtain⟨z,its,n,r,e⟩:=h.ok I.hok;exact⟨its,r,⟨_,n,e,rfl,rfl,rfl⟩,z⟩
 ·refine⟨its.toList,r,⟨o,n,I.kIn a o hk,hc,hd,by simpa using hs⟩,?_⟩;have e:=r.length;simp only[br]at e;lia
theorem Inv.tuple(I:Inv X pins σ H s)(h:SqT X.K H a xs):∃its:List Value,Vals xs its∧IsTup s.heap a its.toArray∧xs.length≤aL:=by
 rcases h with h|⟨o,its,n,hk,hc,hs,hz,r⟩
 ·obtain⟨z,its,r,p⟩:=h.ok I.hok;exact⟨its,r,p,z⟩
 ·refine⟨its.toList,r,⟨o,I.kIn a o hk,hc,n,by simpa using hs⟩,?_⟩;have e:=r.length;simp only[br]at e;lia
theorem Inv.list_inj(I:Inv X pins σ H s)(h:SqL X.K H a xs)(h':SqL X.K H a ys):xs=ys:=by
 obtain⟨its,r,⟨o,n,e,_,_,d⟩,_⟩:=I.list h;obtain⟨its',r',⟨o',n',e',_,_,d'⟩,_⟩:=I.list h';rw[e]at e';cases e';rw[d]at d';injection d' with d1 _;have:its=its':=by simpa using congrArg Array.toList d1
 subst this;exact r.inj r'
theorem Inv.tuple_inj(I:Inv X pins σ H s)(h:SqT X.K H a xs)(h':SqT X.K H a ys):xs=ys:=by
 obtain⟨its,r,⟨o,e,_,n,d⟩,_⟩:=I.tuple h;obtain⟨its',r',⟨o',e',_,n',d'⟩,_⟩:=I.tuple h';rw[e]at e';cases e';rw[d]at d';injection d' with d1 _;have:its=its':=by simpa using congrArg Array.toList d1
 subst this;exact r.inj r'
end
abbrev Cx.wish(X:Cx)(E:Value→ab→Prop):Cx:={X with xe:=E}
abbrev Cx.nox(X:Cx):Cx:=X.wish fun _ _=>False
theorem Cx.Ok.wish{X:Cx}(ok:X.Ok)(E:Value→ab→Prop):(X.wish E).Ok:=
 ⟨ok.mod,ok.kind,ok.glob,ok.blt,ok.above,ok.inj,ok.has,ok.cab,ok.hd,ok.frames,ok.stk,ok.exf,ok.bs,ok.bsz,ok.noex,ok.exfs,ok.funs,ok.frf,ok.cab2,ok.hz⟩
theorem Cx.Ok.unwish{X:Cx}{E:Value→ab→Prop}(ok:(X.wish E).Ok):X.Ok:=
 ⟨ok.mod,ok.kind,ok.glob,ok.blt,ok.above,ok.inj,ok.has,ok.cab,ok.hd,ok.frames,ok.stk,ok.exf,ok.bs,ok.bsz,ok.noex,ok.exfs,ok.funs,ok.frf,ok.cab2,ok.hz⟩
section
variable {X:Cx} {pins:List (Addr×Obj)} {σ:St} {H:Hp} {s:ab} {E:Value→ab→Prop}
theorem Inv.wish(I:Inv X pins σ H s)(E:Value→ab→Prop):Inv (X.wish E) pins σ H s:=⟨I.ok.wish E,I.os,I.bare,I.base,I.loc,I.cell,I.free,I.freeC,I.pin,I.hok,I.len⟩
theorem Inv.unwish(I:Inv (X.wish E) pins σ H s):Inv X pins σ H s:=⟨I.ok.unwish,I.os,I.bare,I.base,I.loc,I.cell,I.free,I.freeC,I.pin,I.hok,I.len⟩
theorem SP.unwish{D:Ends}{f:Flow}{s':ab}(h:SP (X.wish E) pins D f s'):SP X pins D f s':=by
 cases f with
 |next=>obtain⟨σ',H',I,q⟩:=h;exact⟨σ',H',I.unwish,q⟩
 |brk=>obtain⟨σ',H',I,q⟩:=h;exact⟨σ',H',I.unwish,q⟩
 |cont=>obtain⟨σ',H',I,q⟩:=h;exact⟨σ',H',I.unwish,q⟩
 |ret u=>obtain⟨v,σ',H',I,r,q⟩:=h;exact⟨v,σ',H',I.unwish,r,q⟩
theorem PSs.nox{st:List Stmt}{t:TS}(h:PSs X.nox st t):PSs X st t:=fun pins s σ H D I hw=>
 aY (h pins s σ H D (I.wish _) hw) (fun _ _ q=>q.unwish) fun _ _ z=>bH z
end
section
variable {X:Cx} {st:Stmt} {rest:List Stmt} {t u:TS} {e:Expr} {te:TE} {pos:Pos}
def xrG:TS:=fun D σ H=>D.nx σ H
def xsn(t u:TS):TS:=fun D σ H=>t {D with nx:=u D} σ H
theorem xF:PSs X [] xrG:=fun _ _ σ H _ I h=>fF ⟨σ,H,I,h⟩
theorem xg(h1:PS X st t)(h2:PSs X rest u):PSs X (st::rest) (xsn t u):=by
 intro pins s σ H D I h;refine wpAny_execs_cons (thn (h1 pins s σ H {D with nx:=u D} I h) fun f s1 q=>?_);cases f with
 |next=>
  obtain⟨σ',H',I',q⟩:=q;exact h2 pins s1 σ' H' D I' q
 |ret v=>exact q
 |brk=>exact q
 |cont=>exact q
theorem xi(h1:PS X st t):PSs X [st] t:=by
 intro pins s σ H D I h;refine wpAny_execs_cons (thn (h1 pins s σ H D I h) fun f s1 q=>?_);cases f with
 |next=>exact fF q
 |ret v=>exact q
 |brk=>exact q
 |cont=>exact q
theorem Inv.quiet{pins:List (Addr×Obj)}{σ:St}{H:Hp}{s:ab}(I:Inv X pins σ H s):interactive X.env=false:=by simp[interactive,I.ok.kind]
def xrH(te:TE):TS:=fun D σ H=>te σ H fun _ H1=>D.nx σ H1
theorem xN(he:PE X e te)(hs:gU e none pos.line X.env=pure false:=by rfl):PS X (.Expr e pos) (xrH te):=by
 intro pins s σ H D I h;refine wpAny_Expr_any (thn (he pins s σ H _ I h) fun v s1 hh6=>?_) I.quiet hs;obtain⟨x,H1,I1,r1,q1⟩:=hh6;exact⟨σ,H1,I1,q1⟩
def xso(te:TE):TS:=fun D σ H=>te σ H D.rt
theorem xq(he:PE X e te):PS X (.Return (some e) pos) (xso te):=by
 intro pins s σ H D I h;refine wpAny_Return_some (thn (he pins s σ H _ I h) fun v s1 hh7=>?_);obtain⟨x,H1,I1,r1,q1⟩:=hh7;exact⟨x,σ,H1,I1,r1,q1⟩
def xrI:TS:=fun D _ H=>D.rt .non H
theorem xpp:PS X (.Return none pos) xrI:=fun _ _ σ H _ I h=>wpAny_Return_none ⟨.non,σ,H,I,rfl,h⟩
end
abbrev TG:=V→St→Hp→(St→Hp→Prop)→Prop
abbrev TGs:=List V→St→Hp→(St→Hp→Prop)→Prop
def PG(X:Cx)(target:Expr)(t:TG):Prop:=
 ∀(pins:List (Addr×Obj)) (s:ab) (σ:St) (H:Hp) (v:V) (u:Value) (Q:St→Hp→Prop),Inv X pins σ H s→RelV v u→t v σ H Q→
  wpAny (model X.prog X.w) X.A (gW target X.env u) (fun _ s'=>∃σ' H',Inv X pins σ' H' s'∧Q σ' H') X.xe s
def PGs(X:Cx)(ts:List Expr)(t:TGs):Prop:=
 ∀(pins:List (Addr×Obj)) (s:ab) (σ:St) (H:Hp) (vs:List V) (us:List Value) (Q:St→Hp→Prop),Inv X pins σ H s→Vals vs us→t vs σ H Q→
  wpAny (model X.prog X.w) X.A (assignInOrder ((gw ts X.env).map (·.2)) us) (fun _ s'=>∃σ' H',Inv X pins σ' H' s'∧Q σ' H') X.xe s
abbrev xnW:=V→V→V→Hp→(Hp→Prop)→Prop
def xqH(X:Cx)(t:xnW):Prop:=
 ∀(pins:List (Addr×Obj)) (s:ab) (σ:St) (H:Hp) (o i v:V) (ov iv u:Value) (Q:Hp→Prop),Inv X pins σ H s→RelV o ov→RelV i iv→RelV v u→t o i v H Q→
  wpAny (model X.prog X.w) X.A (setItem ov iv u) (fun _ s'=>∃H',Inv X pins σ H' s'∧Q H') X.xe s
section
variable {X:Cx} {pos:Pos}
def xcn(i:Nat):TG:=fun v σ H Q=>Q (σ.set i (some v)) H
theorem xG{i:Nat}{x:Str}(hN:X.N.Nodup)(hi:X.N[i]? =some x)(hx:Loc X.env.scope x)(hf:X.fn x=true∨X.env.scope.names.lookup x=some .local:=by first|exact .inl rfl|exact .inr rfl|assumption):PG X (.Name x pos) (xcn i):=by
 intro pins s σ H v u Q I r h;exact ig (xe1 I hN hi hx r (fun s' I'=>⟨_,H,I',h⟩) hf)
def xqI:TGs:=fun vs σ H Q=>vs=[]∧Q σ H
def xlm(t:TG)(u:TGs):TGs:=fun vs σ H Q=>∃v r,vs=v::r∧t v σ H fun σ' H'=>u r σ' H' Q
theorem uF:PGs X [] xqI:=by
 intro pins s σ H vs us Q I r h;obtain⟨e,h⟩:=h;subst e;cases r;exact assignInOrder_nil ⟨σ,H,I,h⟩
theorem yd{e:Expr}{es:List Expr}{t:TG}{u:TGs}(h1:PG X e t)(h2:PGs X es u)
  (hs:(gw (e::es) X.env).map (·.2)=gW e X.env::(gw es X.env).map (·.2):=by rfl):PGs X (e::es) (xlm t u):=by
 intro pins s σ H vs us Q I r h;obtain⟨v,vr,e1,h⟩:=h;subst e1;cases r with
 |cons r rr=>
  rw[hs];refine assignInOrder_cons (thn (h1 pins s σ H _ _ _ I r h) fun _ s1 hh8=>?_);obtain⟨σ1,H1,I1,q1⟩:=hh8;exact h2 pins s1 σ1 H1 _ _ Q I1 rr q1
def xqJ(K:ah)(n:Nat)(t:TGs):TG:=fun v σ H Q=>∃a xs,v= .ref a∧SqT K H a xs∧xs.length=n∧t xs σ H Q
theorem vE{es:List Expr}{k:Nat}{t:TGs}{n:Nat}(hc:X.calm=true)(h:PGs X es t)
  (hn:(gw es X.env).length=n:=by rfl) (hst:(gw es X.env).findIdx? (·.1)=none:=by rfl):PG X (.Tuple es k pos) (xqJ X.K n t):=by
 intro pins s σ H v u Q I r hw;obtain⟨a,xs,e1,hq,hl,hw⟩:=hw;subst e1;cases r;obtain⟨its,rv,ht,hz⟩:=I.tuple hq;refine assign_Tuple_tuple (I.ok.hd hc) ht (by simp[hn,←hl,rv.length]) hst fun h' hx=>?_;have I1:Inv X pins σ H {s with heap:=h'}:=I.kept (t':=s.toks) fun b o e=>hx b o (ar (aj e)) e;exact h pins _ σ H xs _ Q I1 (by simpa using rv) hw
def xsp(to ti:TE)(t:xnW):TG:=fun v σ H Q=>to σ H fun o H1=>ti σ H1 fun i H2=>t o i v H2 fun H3=>Q σ H3
theorem xmC{o i:Expr}{to ti:TE}{t:xnW}(ho:PE X o to)(hi:PE X i ti)(hs:xqH X t)
  (ha:∀v,gW (.Subscript o i pos) X.env v=(do
   let ov ←fc [v] (eval o X.env)
   let iv ←fc [v,ov] (eval i X.env)
   standAt pos
   fc [v,ov,iv] (setItem ov iv v)
   release [v,ov,iv] []):=by intro _;rfl):PG X (.Subscript o i pos) (xsp to ti t):=by
 intro pins s σ H v u Q I r h;rw[ha];refine ae (bR (thn (ho pins s σ H _ I h) fun ov s1 hh9=>?_));obtain⟨x,H1,I1,r1,q1⟩:=hh9;refine ae (bR (thn (hi pins s1 σ H1 _ I1 q1) fun iv s2 hh10=>?_));obtain⟨y,H2,I2,r2,q2⟩:=hh10;refine ae (hZ (ae (bR (thn (hs pins s2 σ H2 x y v ov iv u _ I2 r1 r2 r q2) fun _ s3 hh11=>?_))));obtain⟨H3,I3,q3⟩:=hh11;exact wpAny_release ⟨σ,H3,I3,q3⟩
def xe2(te:TE)(g:TG):TS:=fun D σ H=>te σ H fun x H1=>g x σ H1 D.nx
theorem xdc{tg e:Expr}{te:TE}{g:TG}(he:PE X e te)(hg:PG X tg g)(hs:swapsWithSole [tg] e pos.line X.env=pure false:=by rfl)(hw:swappedStores [tg] e X.env=pure none:=by rfl)
  (h1:(gw [tg] X.env).map (·.2)=[gW tg X.env]:=by rfl):PS X (.Assign [tg] e pos) (xe2 te g):=by
 intro pins s σ H D I h;refine wpAny_Assign_stores (thn (he pins s σ H _ I h) fun v s1 hh12=>?_) hs hw;obtain⟨x,H1,I1,r1,q1⟩:=hh12;rw[h1];exact thn (hg pins s1 σ H1 x v _ I1 r1 q1) fun _ s2 q=>q
theorem xt{i:Nat}{x:Str}{e:Expr}{te:TE}{pos':Pos}(hN:X.N.Nodup)(hi:X.N[i]? =some x)(hx:Loc X.env.scope x)(he:PE X e te)(hs:gU e (some (.Name x pos')) pos.line X.env=pure false:=by rfl)(hf:X.fn x=true∨X.env.scope.names.lookup x=some .local:=by first|exact .inl rfl|exact .inr rfl|assumption):
  PS X (.Assign [.Name x pos'] e pos) (xe2 te (xcn i)):=by
 intro pins s σ H D I h;refine wpAny_Assign_Name (thn (he pins s σ H _ I h) fun v s1 hh13=>?_) hs;obtain⟨y,H1,I1,r1,q1⟩:=hh13;exact xe1 I1 hN hi hx r1 (fun s2 I2=>⟨_,H1,I2,q1⟩) hf
end
section
variable {X:Cx} {pos:Pos}
end
structure It where
 go:Nat→Hp→Prop
 yld:Nat→Hp→V→Hp→Prop
 stop:Nat→Hp→Prop
def ji(X:Cx)(pins:List (Addr×Obj))(H:Hp)(b:Addr):Prop:=
 H b=none∧b≠X.env.locals∧b∉X.fs∧(b∈X.ex∨X.s₀.heap.objs.size≤b)∧(∀x c,X.env.cells.lookup x=some c→c≠b)∧∀p∈X.pn++pins,p.1≠b
theorem Inv.fpOk{X:Cx}{pins:List (Addr×Obj)}{σ:St}{H H':Hp}{s:ab}{b:Addr}(I:Inv X pins σ H s)(hb:s.heap.objs.size≤b)(hn:H' b=none):ji X pins H' b:=by
 refine⟨hn,dG (aw I.lt hb),I.nofs hb,.inr (a7 I.sz hb),fun x c e z=>?_,fun p hp z=>?_⟩
 ·obtain⟨v,q⟩:=I.cell x c e;exact absurd (aw q.lt (by rw[z];exact hb)) (bQ _)
 ·exact absurd (aw (aj (I.pin p hp).1) (by rw[z];exact hb)) (bQ _)
structure Turn(P:aI)(w:World)(K:ah)(tg:Expr)(J:It)(fp:List Addr)(it:Addr)(tn:Nat→Heap→Prop):Prop where
 mem:it∈fp
 obj:∀i h,tn i h→∀b∈fp,∃o,h.get? b=some o∧∀v,o.data≠.cell v
 keep:∀i h h',tn i h→(∀b∈fp,∀o,h.get? b=some o→h'.get? b=some o)→tn i h'
 item:∀(X:Cx),X.prog=P→X.w=w→X.K=K→X.calm=true→∀(i:Nat) (pins:List (Addr×Obj)) (s:ab) (σ:St) (H:Hp) (E:Value→ab→Prop),Inv X pins σ H s→(∀b∈fp,ji X pins H b)→tn i s.heap→J.go i H→
  wpAny (model P w) X.A (gx (.ref it)) (fun r s1=>∃u,r=some u∧
   wpAny (model P w) X.A (gy tg (.ref it) u) (fun _ s2=>∃x H',Inv X pins σ H' s2∧RelV x u∧J.yld i H x H'∧tn (i+1) s2.heap∧∀b∈fp,H' b=none) E s1) E s
 done:∀(X:Cx),X.prog=P→X.w=w→X.K=K→X.calm=true→∀(i:Nat) (pins:List (Addr×Obj)) (s:ab) (σ:St) (H:Hp) (E:Value→ab→Prop),Inv X pins σ H s→(∀b∈fp,ji X pins H b)→tn i s.heap→J.stop i H→
  wpAny (model P w) X.A (gx (.ref it)) (fun r s1=>r=none∧Inv X pins σ H s1) E s
 self:∀(A:aU) (i:Nat) (s:ab) (Q:Value→ab→Prop) (E:Value→ab→Prop),tn i s.heap→Q (.ref it) s→wpAny (model P w) A (pyIter (.ref it)) Q E s
abbrev TI:=St→Hp→(It→Hp→Prop)→Prop
def PIE(X:Cx)(pins:List (Addr×Obj))(σ:St)(tg:Expr)(R:It→Hp→Prop)(itv:Value)(s2:ab):Prop:=
 ∃(it:Addr) (fp:List Addr) (tn:Nat→Heap→Prop) (J:It) (H':Hp),itv= .ref it∧Inv X pins σ H' s2∧Turn X.prog X.w X.K tg J fp it tn∧tn 0 s2.heap∧(∀b∈fp,ji X pins H' b)∧R J H'
def PI(X:Cx)(tg iter:Expr)(wi:TI):Prop:=
 ∀(pins:List (Addr×Obj)) (s:ab) (σ:St) (H:Hp) (R:It→Hp→Prop),Inv X pins σ H s→wi σ H R→
  wpAny (model X.prog X.w) X.A (eval iter X.env) (fun v s1=>wpAny (model X.prog X.w) X.A (pyIter v) (PIE X pins σ tg R) X.xe s1) X.xe s
theorem xfD{M:Model}{A:aU}{E:Value→ab→Prop}{s:ab}{tg:Expr}{it:Addr}{u:Value}{o:Obj}{n:String}{vs:Array Value}{Q:Unit→ab→Prop}(ho:s.heap.get? it=some o)(hc:o.cls= .type n)(hd:o.data= .fields vs)
  (hn:["enumerate","zip","dict_itemiterator","dict_reverseitemiterator","odict_iterator","itertools.zip_longest","itertools.pairwise"].contains n=false) (hQ:Q () s):wpAny M A (gy tg (.ref it) u) Q E s:=by
 unfold gy;cases tg<;> first
  |exact aA hQ
  |(cases u<;> first
    |exact aA hQ
    |(refine ae (wpAny_load ho ?_)
      rw[hc,hd];show wpAny M A (if (["enumerate","zip","dict_itemiterator","dict_reverseitemiterator","odict_iterator","itertools.zip_longest","itertools.pairwise"].contains n&&vs[0]? ==some (cY _))=true then _ else _) Q E s;rw[if_neg (by intro h;rw[hn,Bool.false_and]at h;cases h)];exact aA hQ))
def Itl(K:ah)(a:Addr):It:=
 ⟨fun i H=>∃xs x,SqL K H a xs∧xs[i]? =some x,fun i H x H'=>H'=H∧∀xs,SqL K H a xs→xs[i]? =some x,fun i H=>∃xs,SqL K H a xs∧xs.length≤i⟩
def Itt(K:ah)(a:Addr):It:=
 ⟨fun i H=>∃xs x,SqT K H a xs∧xs[i]? =some x,fun i H x H'=>H'=H∧∀xs,SqT K H a xs→xs[i]? =some x,fun i H=>∃xs,SqT K H a xs∧xs.length≤i⟩
theorem xmD{P:aI}{w:World}{K:ah}{tg:Expr}(a it:Addr):Turn P w K tg (Itl K a) [it] it (fun i h=>h.IsListIter it a i) where
 mem:=by simp
 obj:=fun i h st b hb=>by
  have e:b=it:=by simpa using hb
  subst e;obtain⟨o,e,c,d⟩:=st;exact⟨o,e,fun v z=>by rw[d]at z;cases z⟩
 keep:=fun i h h' st k=>st.at fun o e=>k it (by simp) o e
 item:=by
  intro X hP hw hK hc i pins s σ H E I hf st hg;subst hP hw hK;obtain⟨xs,x,hq,hx⟩:=hg;obtain⟨its,rv,p,hz⟩:=I.list hq;obtain⟨u,hu,ru⟩:=rv.get hx;obtain⟨f0,f1,f2,f3,f4,f5⟩:=hf it (by simp);refine wpAny_pyNext_list_item st p.isList (x:=u) (by simpa using hu) fun h' st' sb=>?_;have I1:Inv X pins σ H {s with heap:=h'}:=I.turned (t':=s.toks) (fun b o hb e=>(sb.2 b hb).trans e) f0 f1 f3 f4 f5;obtain⟨o,e,c,d⟩:=id st';exact⟨u,rfl,xfD (s:={s with heap:=h'}) e c d (by decide) ⟨x,H,I1,ru,⟨rfl,fun ys hy=>by rw[I.list_inj hy hq];exact hx⟩,st',fun b hb=>(hf b hb).1⟩⟩
 done:=by
  intro X hP hw hK hc i pins s σ H E I hf st hg;subst hP hw hK;obtain⟨xs,hq,hx⟩:=hg;obtain⟨its,rv,p,hz⟩:=I.list hq;obtain⟨f0,f1,f2,f3,f4,f5⟩:=hf it (by simp);have hl:=rv.length;exact wpAny_pyNext_list_end (I.ok.hd hc) st p.isList (by simp;lia) fun h' eb=>⟨rfl,I.turned (t':=s.toks) (fun b o hb e=>eb b o hb e) f0 f1 f3 f4 f5⟩
 self:=fun _ _ _ _ _ st h=>wpAny_pyIter_listiter st h
theorem xln{P:aI}{w:World}{K:ah}{tg:Expr}(a it:Addr):Turn P w K tg (Itt K a) [it] it (fun i h=>h.IsTupleIter it a i) where
 mem:=by simp
 obj:=fun i h st b hb=>by
  have e:b=it:=by simpa using hb
  subst e;obtain⟨o,e,c,d⟩:=st;exact⟨o,e,fun v z=>by rw[d]at z;cases z⟩
 keep:=fun i h h' st k=>st.at fun o e=>k it (by simp) o e
 item:=by
  intro X hP hw hK hc i pins s σ H E I hf st hg;subst hP hw hK;obtain⟨xs,x,hq,hx⟩:=hg;obtain⟨its,rv,p,hz⟩:=I.tuple hq;obtain⟨u,hu,ru⟩:=rv.get hx;obtain⟨f0,f1,f2,f3,f4,f5⟩:=hf it (by simp);refine wpAny_pyNext_tuple_item st (show s.heap.IsTuple a its.toArray from p) (x:=u) (by simpa using hu) fun h' st' sb=>?_;have I1:Inv X pins σ H {s with heap:=h'}:=I.turned (t':=s.toks) (fun b o hb e=>(sb.2 b hb).trans e) f0 f1 f3 f4 f5;obtain⟨o,e,c,d⟩:=id st';exact⟨u,rfl,xfD (s:={s with heap:=h'}) e c d (by decide) ⟨x,H,I1,ru,⟨rfl,fun ys hy=>by rw[I.tuple_inj hy hq];exact hx⟩,st',fun b hb=>(hf b hb).1⟩⟩
 done:=by
  intro X hP hw hK hc i pins s σ H E I hf st hg;subst hP hw hK;obtain⟨xs,hq,hx⟩:=hg;obtain⟨its,rv,p,hz⟩:=I.tuple hq;obtain⟨f0,f1,f2,f3,f4,f5⟩:=hf it (by simp);have hl:=rv.length;exact wpAny_pyNext_tuple_end (I.ok.hd hc) st (show s.heap.IsTuple a its.toArray from p) (by simp;lia) fun h' eb=>⟨rfl,I.turned (t':=s.toks) (fun b o hb e=>eb b o hb e) f0 f1 f3 f4 f5⟩
 self:=fun _ _ _ _ _ st h=>wpAny_pyIter_tupleiter st h
end L2
namespace L2
open PySem PySem.Spec PyProof.Rows
section
variable {X:Cx} {tg:Expr}
def xo4(K:ah)(tl:TE):TI:=fun σ H R=>tl σ H fun x H1=>∃a,x= .ref a∧(∃xs,SqL K H1 a xs)∧R (Itl K a) H1
def xsq(K:ah)(tl:TE):TI:=fun σ H R=>tl σ H fun x H1=>∃a,x= .ref a∧(∃xs,SqT K H1 a xs)∧R (Itt K a) H1
theorem xR{l:Expr}{tl:TE}(hl:PE X l tl):PI X tg l (xo4 X.K tl):=by
 intro pins s σ H R I h;refine thn (hl pins s σ H _ I h) fun v s1 hh14=>?_;obtain⟨x,H1,I1,r1,q1⟩:=hh14;obtain⟨a,e,⟨xs,hq⟩,q⟩:=q1;subst e;cases r1;obtain⟨its,rv,p,hz⟩:=I1.list hq;refine dy p.isList ?_;refine⟨s1.heap.objs.size,[s1.heap.objs.size],_,_,H1,rfl,I1.kept (t':=s1.toks) fun b o e=>af _ e,xmD a _,⟨_,aB _ rfl,rfl,rfl⟩,fun b hb=>?_,q⟩;have e:b=s1.heap.objs.size:=by simpa using hb
 subst e;exact I1.fpOk (ai _) (I1.hok.fresh (ai _))
theorem xb5{l:Expr}{tl:TE}(hl:PE X l tl):PI X tg l (xsq X.K tl):=by
 intro pins s σ H R I h;refine thn (hl pins s σ H _ I h) fun v s1 hh15=>?_;obtain⟨x,H1,I1,r1,q1⟩:=hh15;obtain⟨a,e,⟨xs,hq⟩,q⟩:=q1;subst e;cases r1;obtain⟨its,rv,p,hz⟩:=I1.tuple hq;refine gX (show s1.heap.IsTuple a its.toArray from p) ?_;refine⟨s1.heap.objs.size,[s1.heap.objs.size],_,_,H1,rfl,I1.kept (t':=s1.toks) fun b o e=>af _ e,xln a _,⟨_,aB _ rfl,rfl,rfl⟩,fun b hb=>?_,q⟩;have e:b=s1.heap.objs.size:=by simpa using hb
 subst e;exact I1.fpOk (ai _) (I1.hok.fresh (ai _))
def xlo(wi:TI)(g:TG)(tb:TS):TS:=fun D σ H=>wi σ H fun J H1=>∃W:Nat→Nat→St→Hp→Prop,(∃m,W 0 m σ H1)∧∀i m σ H,W i m σ H→
 (J.stop i H∧D.nx σ H)∨(J.go i H∧∃N:St→Hp→Prop,(∀σ' H',N σ' H'→∃m',m'<m∧W (i+1) m' σ' H')∧∀x H',J.yld i H x H'→g x σ H' fun σ2 H2=>tb {D with nx:=N,ct:=N,bk:=D.nx} σ2 H2)
def uU(fp:List Addr)(h:Heap):List (Addr×Obj):=fp.filterMap fun b=>(h.get? b).map fun o=>(b,o)
theorem uG{fp:List Addr}{h:Heap}{b:Addr}{o:Obj}(hb:b∈fp)(e:h.get? b=some o):(b,o)∈uU fp h:=kR.mpr ⟨b,hb,by rw[e];rfl⟩
theorem xmE{fp:List Addr}{h:Heap}{p:Addr×Obj}(hp:p∈uU fp h):p.1∈fp∧h.get? p.1=some p.2:=by
 obtain⟨b,hb,e⟩:=kR.mp hp;cases q:h.get? b with
 |none=>rw[q]at e;cases e
 |some o=>
  rw[q]at e;have e':(b,o)=p:=bD e;subst e';exact⟨hb,q⟩
theorem Inv.pinned{pins:List (Addr×Obj)}{σ:St}{H:Hp}{s:ab}{fp:List Addr}(I:Inv X pins σ H s)(hf:∀b∈fp,ji X pins H b)(ho:∀b∈fp,∃o,s.heap.get? b=some o∧∀v,o.data≠.cell v):Inv X (pins++uU fp s.heap) σ H s:=
 I.pins_of fun p hp=>(aM.mp hp).elim (fun z=>I.pin p (aN _ z)) fun z=>by
  obtain⟨hb,e⟩:=xmE z;obtain⟨f0,f1,f2,_⟩:=hf p.1 hb;obtain⟨o,e',d⟩:=ho p.1 hb;rw[e]at e';cases e';exact⟨e,f0,f1,f2,d⟩
theorem Inv.unpinned{pins pl:List (Addr×Obj)}{σ:St}{H:Hp}{s:ab}(I:Inv X (pins++pl) σ H s):Inv X pins σ H s:=I.pins_of fun p hp=>I.pin p (aN _ (bN _ hp))
theorem xmF{iter:Expr}{body:List Stmt}{wi:TI}{g:TG}{tb:TS}{pos:Pos}(hp:PassesOwn (model X.prog X.w) X.A X.env X.xe)(hc:X.calm=true)(hi:PI X tg iter wi)(hg:PG X tg g)(hb:PSs X body tb)
  (hs:∀x,dU iter X.env x=pure x:=by intro _;rfl):PS X (.For tg iter body [] pos) (xlo wi g tb):=by
 intro pins s σ H D I h;refine wpAny_For (thn (hi pins s σ H _ I h) fun v s1 h1=>thn h1 fun itv s2 h2=>?_) hs;obtain⟨it,fp,tn,J,H2,e,I2,T,st2,f2,W,⟨m0,w0⟩,turn⟩:=h2;subst e
 -- what stays true of the iterator's objects through the loop
 have stat:∀{H':Hp},(∀b∈fp,H' b=none)→∀b∈fp,ji X pins H' b:=fun hn b hb=>⟨hn b hb,(f2 b hb).2⟩;refine codeAny_forLoop_any (fun n s'=>∃i σ' H',Inv X pins σ' H' s'∧tn i s'.heap∧(∀b∈fp,H' b=none)∧W i n σ' H') ?_ m0 ⟨0,σ,H2,I2,st2,fun b hb=>(f2 b hb).1,w0⟩;rintro n s3 ⟨i,σ3,H3,I3,st3,fr3,w3⟩;rcases turn i n σ3 H3 w3 with⟨stop,qn⟩|⟨go,N,hN,step⟩
 ·refine dN hp (thn (T.done X rfl rfl rfl hc i pins s3 σ3 H3 X.xe I3 (stat fr3) st3 stop) fun r s4 hh16=>?_);obtain⟨hr,I4⟩:=hh16;subst hr;exact fF ⟨σ3,H3,I4,qn⟩
 ·refine dN hp (thn (T.item X rfl rfl rfl hc i pins s3 σ3 H3 X.xe I3 (stat fr3) st3 go) fun r s4 hh17=>?_);obtain⟨u,hr,h4⟩:=hh17;subst hr;refine dN hp (thn h4 fun _ s5 hh18=>?_);obtain⟨x,H5,I5,r5,y5,st5,fr5⟩:=hh18;have I5':=I5.pinned (stat fr5) (T.obj _ _ st5);refine dN hp (thn (hg _ s5 σ3 H5 x u _ I5' r5 (step x H5 y5)) fun _ s6 hh19=>?_);obtain⟨σ6,H6,I6,q6⟩:=hh19;refine dN hp (thn (hb _ s6 σ6 H6 _ I6 q6) fun f s7 q7=>?_);have again:∀{σ7:St} {H7:Hp},Inv X (pins++uU fp s5.heap) σ7 H7 s7→N σ7 H7→∃m,m<n∧∃i σ' H',Inv X pins σ' H' s7∧tn i s7.heap∧(∀b∈fp,H' b=none)∧W i m σ' H':=fun{σ7 H7} I7 n7=>by
   obtain⟨m',hm,w7⟩:=hN σ7 H7 n7;refine⟨m',hm,i+1,σ7,H7,I7.unpinned,T.keep _ _ _ st5 fun b hb o e=>(I7.pin (b,o) (aN _ (aN _ (uG hb e)))).1,fun b hb=>?_,w7⟩;obtain⟨o,e,d⟩:=T.obj _ _ st5 b hb;exact(I7.pin (b,o) (aN _ (aN _ (uG hb e)))).2.1
  cases f with
  |next=>obtain⟨σ7,H7,I7,n7⟩:=q7;exact again I7 n7
  |cont=>obtain⟨σ7,H7,I7,n7⟩:=q7;exact again I7 n7
  |brk=>obtain⟨σ7,H7,I7,q7⟩:=q7;exact⟨σ7,H7,I7.unpinned,q7⟩
  |ret v=>obtain⟨x7,σ7,H7,I7,r7,q7⟩:=q7;exact⟨x7,σ7,H7,I7.unpinned,r7,q7⟩
end
theorem xnX{K:ah}{a:Addr}{xs:List V}{g:TG}{tb:TS}{D:Ends}{σ:St}{H:Hp}(Pv:Nat→St→Hp→Prop)(h0:Pv 0 σ H)(hl:∀i σ H,i≤xs.length→Pv i σ H→SqL K H a xs)
  (hs:∀i x σ H,xs[i]? =some x→Pv i σ H→g x σ H fun σ2 H2=>tb {D with nx:=Pv (i+1),ct:=Pv (i+1),bk:=D.nx} σ2 H2) (hd:∀σ H,Pv xs.length σ H→D.nx σ H):
  ∃W:Nat→Nat→St→Hp→Prop,(∃m,W 0 m σ H)∧∀i m σ H,W i m σ H→
   ((Itl K a).stop i H∧D.nx σ H)∨((Itl K a).go i H∧∃N:St→Hp→Prop,(∀σ' H',N σ' H'→∃m',m'<m∧W (i+1) m' σ' H')∧∀x H',(Itl K a).yld i H x H'→g x σ H' fun σ2 H2=>tb {D with nx:=N,ct:=N,bk:=D.nx} σ2 H2):=by
 refine⟨fun i m σ H=>m=xs.length - i∧i≤xs.length∧Pv i σ H,⟨xs.length,by simp,aJ _,h0⟩,?_⟩;rintro i m σ H ⟨rfl,hi,p⟩;have q:=hl i σ H hi p
 by_cases hlt:i<xs.length
 ·refine .inr ⟨⟨xs,xs[i],q,by simp[hlt]⟩,Pv (i+1),fun σ' H' p'=>⟨xs.length - (i+1),by lia,rfl,hlt,p'⟩,fun x H' y=>?_⟩;obtain⟨e,y⟩:=y;subst e;exact hs i x σ _ (y xs q) p
 ·have e:i=xs.length:=by lia
  subst e;exact .inl ⟨⟨xs,q,ai _⟩,hd σ H p⟩
theorem xpq{K:ah}{a:Addr}{xs:List V}{g:TG}{tb:TS}{D:Ends}{σ:St}{H:Hp}(Pv:Nat→St→Hp→Prop)(h0:Pv 0 σ H)(hl:∀i σ H,i≤xs.length→Pv i σ H→SqT K H a xs)
  (hs:∀i x σ H,xs[i]? =some x→Pv i σ H→g x σ H fun σ2 H2=>tb {D with nx:=Pv (i+1),ct:=Pv (i+1),bk:=D.nx} σ2 H2) (hd:∀σ H,Pv xs.length σ H→D.nx σ H):
  ∃W:Nat→Nat→St→Hp→Prop,(∃m,W 0 m σ H)∧∀i m σ H,W i m σ H→
   ((Itt K a).stop i H∧D.nx σ H)∨((Itt K a).go i H∧∃N:St→Hp→Prop,(∀σ' H',N σ' H'→∃m',m'<m∧W (i+1) m' σ' H')∧∀x H',(Itt K a).yld i H x H'→g x σ H' fun σ2 H2=>tb {D with nx:=N,ct:=N,bk:=D.nx} σ2 H2):=by
 refine⟨fun i m σ H=>m=xs.length - i∧i≤xs.length∧Pv i σ H,⟨xs.length,by simp,aJ _,h0⟩,?_⟩;rintro i m σ H ⟨rfl,hi,p⟩;have q:=hl i σ H hi p
 by_cases hlt:i<xs.length
 ·refine .inr ⟨⟨xs,xs[i],q,by simp[hlt]⟩,Pv (i+1),fun σ' H' p'=>⟨xs.length - (i+1),by lia,rfl,hlt,p'⟩,fun x H' y=>?_⟩;obtain⟨e,y⟩:=y;subst e;exact hs i x σ _ (y xs q) p
 ·have e:i=xs.length:=by lia
  subst e;exact .inl ⟨⟨xs,q,ai _⟩,hd σ H p⟩
end L2
namespace L2
open PySem PySem.Spec PyProof.Rows
abbrev R2:=V→V→Hp→VK→Prop
def OpR(X:Cx)(f:Value→Value→Sem Value)(r:R2):Prop:=
 ∀(pins:List (Addr×Obj)) (s:ab) (σ:St) (H:Hp) (x y:V) (v u:Value) (Q:VK),Inv X pins σ H s→RelV x v→RelV y u→r x y H Q→
  wpAny (model X.prog X.w) X.A (f v u) (EP X pins σ Q) X.xe s
def UnR(X:Cx)(f:Value→Sem Value)(r:V→Hp→VK→Prop):Prop:=
 ∀(pins:List (Addr×Obj)) (s:ab) (σ:St) (H:Hp) (x:V) (v:Value) (Q:VK),Inv X pins σ H s→RelV x v→r x H Q→
  wpAny (model X.prog X.w) X.A (f v) (EP X pins σ Q) X.xe s
def yw(X:Cx)(f:Value)(r:List V→Hp→VK→Prop):Prop:=
 ∀(pins:List (Addr×Obj)) (s:ab) (σ:St) (H:Hp) (xs:List V) (us:List Value) (Q:VK),Inv X pins σ H s→Vals xs us→r xs H Q→
  wpAny (model X.prog X.w) X.A (call f us) (EP X pins σ Q) X.xe s
def tOp(r:R2)(ta tb:TE):TE:=fun σ H Q=>ta σ H fun x H1=>tb σ H1 fun y H2=>r x y H2 Q
def tUn(r:V→Hp→VK→Prop)(ta:TE):TE:=fun σ H Q=>ta σ H fun x H1=>r x H1 Q
def rI(C:Int→Int→Prop)(g:Int→Int→V):R2:=fun x y H Q=>∃i j,x= .int i∧y= .int j∧C i j∧Q (g i j) H
def rI0(g:Int→Int→V):R2:=fun x y H Q=>∃i j,x= .int i∧y= .int j∧Q (g i j) H
def rU(g:Int→V):V→Hp→VK→Prop:=fun x H Q=>∃i,x= .int i∧Q (g i) H
section
variable {X:Cx} {a b c:Expr} {ta tb tc:TE} {pos:Pos}
theorem xnY(ha:PE X a ta)(hb:PE X b tb){pins:List (Addr×Obj)}{s:ab}{σ:St}{H:Hp}{R:V→V→Hp→Prop}(I:Inv X pins σ H s)
  (h:ta σ H fun x H1=>tb σ H1 fun y H2=>R x y H2) {Q:Value→ab→Prop} {f:Value→Value→Sem Value}
  (hf:∀v u s2 x y H2,Inv X pins σ H2 s2→RelV x v→RelV y u→R x y H2→wpAny (model X.prog X.w) X.A (f v u) Q X.xe s2):
  wpAny (model X.prog X.w) X.A (eval a X.env) (fun v s₁=>wpAny (model X.prog X.w) X.A (eval b X.env) (fun u s₂=>wpAny (model X.prog X.w) X.A (f v u) Q X.xe s₂) X.xe s₁) X.xe s:=by
 refine thn (ha pins s σ H _ I h) fun v s1 hh20=>?_;obtain⟨x,H1,I1,r1,q1⟩:=hh20;refine thn (hb pins s1 σ H1 _ I1 q1) fun u s2 hh21=>?_;obtain⟨y,H2,I2,r2,q2⟩:=hh21;exact hf v u s2 x y H2 I2 r1 r2 q2
theorem xn{op:Operator}{r:R2}(ho:OpR X (df op) r)(ha:PE X a ta)(hb:PE X b tb):PE X (.BinOp a op b pos) (tOp r ta tb):=by
 intro pins s σ H Q I h;exact wpAny_BinOp (xnY ha hb I h fun v u s2 x y H2 I2 rx ry q=>ho pins s2 σ H2 x y v u Q I2 rx ry q)
theorem xo5{op:UnaryOp}{r:V→Hp→VK→Prop}(ho:UnR X (unaryOp op) r)(ha:PE X a ta):PE X (.UnaryOp op a pos) (tUn r ta):=by
 intro pins s σ H Q I h;refine UnaryOp_ (thn (ha pins s σ H _ I h) fun v s1 hh22=>?_);obtain⟨x,H1,I1,r1,q1⟩:=hh22;exact ho pins s1 σ H1 x v Q I1 r1 q1
theorem opI{f:Value→Value→Sem Value}{C:Int→Int→Prop}{g:Int→Int→Int}
  (rule:∀(i j:Int) (t u:Tok) (s:ab) (Q:Value→ab→Prop) (E:Value→ab→Prop),C i j→Q (.int (g i j) s.toks) {s with toks:=s.toks+1}→wpAny (model X.prog X.w) X.A (f (.int i t) (.int j u)) Q E s):
  OpR X f (rI C fun i j=>.int (g i j)):=by
 intro pins s σ H x y v u Q I rx ry h;obtain⟨i,j,rfl,rfl,hc,q⟩:=h;obtain⟨t,rfl⟩:=rx;obtain⟨t',rfl⟩:=ry;exact rule i j t t' s _ _ hc ⟨.int (g i j),H,I.tok _,⟨_,rfl⟩,q⟩
theorem xqK{f:Value→Value→Sem Value}{g:Int→Int→Int}
  (rule:∀(i j:Int) (t u:Tok) (s:ab) (Q:Value→ab→Prop) (E:Value→ab→Prop),Q (.int (g i j) s.toks) {s with toks:=s.toks+1}→wpAny (model X.prog X.w) X.A (f (.int i t) (.int j u)) Q E s):
  OpR X f (rI0 fun i j=>.int (g i j)):=by
 intro pins s σ H x y v u Q I rx ry h;obtain⟨i,j,rfl,rfl,q⟩:=h;obtain⟨t,rfl⟩:=rx;obtain⟨t',rfl⟩:=ry;exact rule i j t t' s _ _ ⟨.int (g i j),H,I.tok _,⟨_,rfl⟩,q⟩
theorem xlp{f:Value→Value→Sem Value}{g:Int→Int→Bool}
  (rule:∀(i j:Int) (t u:Tok) (s:ab) (Q:Value→ab→Prop) (E:Value→ab→Prop),Q (.bool (g i j)) s→wpAny (model X.prog X.w) X.A (f (.int i t) (.int j u)) Q E s):
  OpR X f (rI0 fun i j=>.bl (g i j)):=by
 intro pins s σ H x y v u Q I rx ry h;obtain⟨i,j,rfl,rfl,q⟩:=h;obtain⟨t,rfl⟩:=rx;obtain⟨t',rfl⟩:=ry;exact rule i j t t' s _ _ ⟨.bl (g i j),H,I,rfl,q⟩
def xqL(i j:Int):Prop:=0≤j∧j≤1000000∧i.natAbs<2^64
def xlq(i j:Int):Prop:=(-(2^64)<i∧i<2^64)∨(-(2^64)<j∧j<2^64)
theorem xlq.ok{i j:Int}(h:xlq i j):IntMulOk i j:=by
 rcases h with⟨h1,h2⟩|⟨h1,h2⟩
 ·exact .of_left (intBits_le_64 h1 h2)
 ·exact .of_right (intBits_le_64 h1 h2)
theorem xqM:OpR X (df .Add) (rI0 fun i j=>.int (i+j)):=xqK fun _ _ _ _ _ _ _ q=>add_int q
theorem xqN:OpR X (df .Sub) (rI0 fun i j=>.int (i - j)):=xqK fun _ _ _ _ _ _ _ q=>sub_int q
theorem xqO:OpR X (df .Mult) (rI xlq fun i j=>.int (i*j)):=opI fun _ _ _ _ _ _ _ hc q=>mul_int q hc.ok
theorem xqP:OpR X (df .Mod) (rI (fun _ j=>0<j) fun i j=>.int (i%j)):=opI fun i j _ _ _ _ _ hc q=>by
 have h1:(0:Int)<j:=hc;exact mod_int' (by lia) (by rw[Int.fmod_eq_emod_of_nonneg i (by lia)];exact q)
theorem xqQ:OpR X (df .Pow) (rI xqL fun i j=>.int (i^j.toNat)):=opI fun _ _ _ _ _ _ _ hc q=>pow_int_small hc.1 hc.2.1 hc.2.2 q
theorem unI{f:Value→Sem Value}{g:Int→Int}
  (rule:∀(i:Int) (t:Tok) (s:ab) (Q:Value→ab→Prop) (E:Value→ab→Prop),Q (.int (g i) s.toks) {s with toks:=s.toks+1}→wpAny (model X.prog X.w) X.A (f (.int i t)) Q E s):
  UnR X f (rU fun i=>.int (g i)):=by
 intro pins s σ H x v Q I rx h;obtain⟨i,rfl,q⟩:=h;obtain⟨t,rfl⟩:=rx;exact rule i t s _ _ ⟨.int (g i),H,I.tok _,⟨_,rfl⟩,q⟩
theorem xqR:UnR X (unaryOp .USub) (rU fun i=>.int (-i)):=unI fun _ _ _ _ _ q=>neg_int q
end
def xqS:V→V→Bool
 | .non,.non=>true| .non,.int _=>true| .int _,.non=>true| .non,.bl _=>true| .bl _,.non=>true| .non,.str _=>true| .str _,.non=>true
 | .int _,.int _=>true| .bl _,.bl _=>true| .str _,.str _=>true| .byt _,.byt _=>true
 | .int _,.str _=>true| .str _,.int _=>true| .bl _,.str _=>true| .str _,.bl _=>true
 |_,_=>false
def rEq:R2:=fun x y H Q=>xqS x y=true∧Q (.bl (decide (x=y))) H
def rNe:R2:=fun x y H Q=>xqS x y=true∧Q (.bl (!decide (x=y))) H
theorem xkK{i j:Int}:decide (V.int i=V.int j)=(i==j):=by
 rw[dm];simp
theorem xmG{i j:Bool}:decide (V.bl i=V.bl j)=(i==j):=by
 rw[dm];simp
theorem xkL{i j:Str}:decide (V.str i=V.str j)=(i==j):=by
 rw[dm];simp
theorem xkM{i j:Array UInt8}:decide (V.byt i=V.byt j)=(i.toList==j.toList):=by
 rw[dm];cases i;cases j;simp
section
variable {X:Cx} {a b c:Expr} {ta tb tc:TE} {pos:Pos}
theorem xU{pins:List (Addr×Obj)}{σ:St}{H:Hp}{s:ab}{Q:VK}{k k':Bool}(I:Inv X pins σ H s)(q:Q (.bl k) H)(e:k=k'):EP X pins σ Q (.bool k') s:=by
 subst e;exact⟨.bl k,H,I,rfl,q⟩
theorem xo6:OpR X (bE .Eq) rEq:=by
 intro pins s σ H x y v u Q I rx ry h;obtain⟨hs,q⟩:=h;cases x with
 |non=>
  cases rx;cases y with
  |non=>cases ry;exact PySem.EqNone.eq_none_none (xU I q (by simp))
  |bl j=>cases ry;exact PySem.EqNone.eq_none_bool (xU I q (by simp))
  |int j=>obtain⟨t',rfl⟩:=ry;exact PySem.EqNone.eq_none_int (xU I q (by simp))
  |str j=>obtain⟨t',rfl⟩:=ry;exact PySem.EqNone.eq_none_str (xU I q (by simp))
  |_=>exact absurd (show false=true from hs) aH
 |bl i=>
  cases rx;cases y with
  |non=>cases ry;exact PySem.EqNone.eq_bool_none (xU I q (by simp))
  |bl j=>cases ry;exact eq_bool (xU I q xmG)
  |str j=>obtain⟨t',rfl⟩:=ry;exact PySem.EqMixed.eq_bool_str (xU I q (by simp))
  |_=>exact absurd (show false=true from hs) aH
 |int i=>
  obtain⟨t,rfl⟩:=rx;cases y with
  |non=>cases ry;exact PySem.EqNone.eq_int_none (xU I q (by simp))
  |int j=>obtain⟨t',rfl⟩:=ry;exact eq_int (xU I q xkK)
  |str j=>obtain⟨t',rfl⟩:=ry;exact PySem.EqMixed.eq_int_str (xU I q (by simp))
  |_=>exact absurd (show false=true from hs) aH
 |str i=>
  obtain⟨t,rfl⟩:=rx;cases y with
  |non=>cases ry;exact PySem.EqNone.eq_str_none (xU I q (by simp))
  |bl j=>cases ry;exact PySem.EqMixed.eq_str_bool (xU I q (by simp))
  |int j=>obtain⟨t',rfl⟩:=ry;exact PySem.EqMixed.eq_str_int (xU I q (by simp))
  |str j=>obtain⟨t',rfl⟩:=ry;exact eq_str (xU I q xkL)
  |_=>exact absurd (show false=true from hs) aH
 |byt i=>
  obtain⟨t,rfl⟩:=rx;cases y with
  |byt j=>obtain⟨t',rfl⟩:=ry;exact W.eq_bytes (xU I q xkM)
  |_=>exact absurd (show false=true from hs) aH
 |_=>cases y<;> exact absurd (show false=true from hs) aH
theorem xo7:OpR X (bE .NotEq) rNe:=by
 intro pins s σ H x y v u Q I rx ry h;obtain⟨hs,q⟩:=h;cases x with
 |non=>
  cases rx;cases y with
  |non=>cases ry;exact PySem.EqNone.ne_none_none (xU I q (by simp))
  |bl j=>cases ry;exact PySem.EqNone.ne_none_bool (xU I q (by simp))
  |int j=>obtain⟨t',rfl⟩:=ry;exact PySem.EqNone.ne_none_int (xU I q (by simp))
  |str j=>obtain⟨t',rfl⟩:=ry;exact PySem.EqNone.ne_none_str (xU I q (by simp))
  |_=>exact absurd (show false=true from hs) aH
 |bl i=>
  cases rx;cases y with
  |non=>cases ry;exact PySem.EqNone.ne_bool_none (xU I q (by simp))
  |bl j=>cases ry;exact ne_bool (xU I q (congrArg not xmG))
  |str j=>obtain⟨t',rfl⟩:=ry;exact PySem.EqMixed.ne_bool_str (xU I q (by simp))
  |_=>exact absurd (show false=true from hs) aH
 |int i=>
  obtain⟨t,rfl⟩:=rx;cases y with
  |non=>cases ry;exact PySem.EqNone.ne_int_none (xU I q (by simp))
  |int j=>obtain⟨t',rfl⟩:=ry;exact ne_int (xU I q (congrArg not xkK))
  |str j=>obtain⟨t',rfl⟩:=ry;exact PySem.EqMixed.ne_int_str (xU I q (by simp))
  |_=>exact absurd (show false=true from hs) aH
 |str i=>
  obtain⟨t,rfl⟩:=rx;cases y with
  |non=>cases ry;exact PySem.EqNone.ne_str_none (xU I q (by simp))
  |bl j=>cases ry;exact PySem.EqMixed.ne_str_bool (xU I q (by simp))
  |int j=>obtain⟨t',rfl⟩:=ry;exact PySem.EqMixed.ne_str_int (xU I q (by simp))
  |str j=>obtain⟨t',rfl⟩:=ry;exact ne_str (xU I q (congrArg not xkL))
  |_=>exact absurd (show false=true from hs) aH
 |byt i=>
  obtain⟨t,rfl⟩:=rx;cases y with
  |byt j=>obtain⟨t',rfl⟩:=ry;exact W.ne_bytes (xU I q (congrArg not xkM))
  |_=>exact absurd (show false=true from hs) aH
 |_=>cases y<;> exact absurd (show false=true from hs) aH
theorem xrJ:OpR X (bE .Lt) (rI0 fun i j=>.bl (decide (i<j))):=xlp fun _ _ _ _ _ _ _ q=>lt_int q
theorem xrK:OpR X (bE .LtE) (rI0 fun i j=>.bl (decide (i≤j))):=xlp fun _ _ _ _ _ _ _ q=>le_int q
theorem xrL:OpR X (bE .Gt) (rI0 fun i j=>.bl (decide (j<i))):=xlp fun _ _ _ _ _ _ _ q=>gt_int q
theorem xrM:OpR X (bE .GtE) (rI0 fun i j=>.bl (decide (j≤i))):=xlp fun _ _ _ _ _ _ _ q=>ge_int q
theorem xmH(b:Expr){op:CmpOp}(h:op≠.In:=by decide)(h2:op≠.NotIn:=by decide):de op b=false:=by
 have e1:(op==CmpOp.In)=false:=by cases op<;> first|rfl|exact absurd rfl h
 have e2:(op==CmpOp.NotIn)=false:=by cases op<;> first|rfl|exact absurd rfl h2
 cases b<;> simp[de,e1,e2]
theorem xpr{op:CmpOp}{r:R2}(ho:OpR X (bE op) r)(ha:PE X a ta)(hb:PE X b tb)(hm:de op b=false):PE X (.Compare a [op] [b] pos) (tOp r ta tb):=by
 intro pins s σ H Q I h;exact wpAny_Compare1 (xnY ha hb I h fun v u s2 x y H2 I2 rx ry q=>ho pins s2 σ H2 x y v u Q I2 rx ry q) hm
theorem xdd:(aL:Nat)<2^63:=by rw[av];decide
theorem vals1{x:V}{us:List Value}(r:Vals [x] us):∃u,us=[u]∧RelV x u:=by
 cases r with
 |cons r1 r2=>cases r2;exact⟨_,rfl,r1⟩
theorem vals2{x y:V}{us:List Value}(r:Vals [x,y] us):∃u w',us=[u,w']∧RelV x u∧RelV y w':=by
 cases r with
 |cons r1 r2=>
  cases r2 with
  |cons r3 r4=>cases r4;exact⟨_,_,rfl,r1,r3⟩
theorem xnZ:yw X (.builtin "abs") (fun xs H Q=>∃i,xs=[.int i]∧Q (.int (if i<0 then -i else i)) H):=by
 intro pins s σ H xs us Q I r h;obtain⟨i,rfl,q⟩:=h;obtain⟨u,rfl,t,rfl⟩:=vals1 r;exact call_abs_int fun u tk=>⟨.int (if i<0 then -i else i),H,I.tok _,⟨_,rfl⟩,q⟩
theorem xmI(hc:X.calm=true):yw X (.builtin "max") (fun xs H Q=>∃i j,xs=[.int i,.int j]∧Q (.int (if j > i then j else i)) H):=by
 intro pins s σ H xs us Q I r h;obtain⟨i,j,rfl,q⟩:=h;obtain⟨u,w',rfl,⟨t,rfl⟩,⟨t',rfl⟩⟩:=vals2 r;refine max_two_ints (I.ok.hd hc) fun h' tk k=>⟨_,H,I.kept k,?_,q⟩
 by_cases hj:j > i
 ·rw[if_pos hj,if_pos hj];exact⟨_,rfl⟩
 ·rw[if_neg hj,if_neg hj];exact⟨_,rfl⟩
theorem xmJ(hc:X.calm=true):yw X (.builtin "min") (fun xs H Q=>∃i j,xs=[.int i,.int j]∧Q (.int (if j<i then j else i)) H):=by
 intro pins s σ H xs us Q I r h;obtain⟨i,j,rfl,q⟩:=h;obtain⟨u,w',rfl,⟨t,rfl⟩,⟨t',rfl⟩⟩:=vals2 r;refine min_two_ints (I.ok.hd hc) fun h' tk k=>⟨_,H,I.kept k,?_,q⟩
 by_cases hj:j<i
 ·rw[if_pos hj,if_pos hj];exact⟨_,rfl⟩
 ·rw[if_neg hj,if_neg hj];exact⟨_,rfl⟩
end
end L2
namespace L2
open PySem PySem.Spec PyProof.Rows
structure xe3(h:Heap)(x dx C:Addr)(mA:Str→Option Value):Prop where
 obj:h.get? x=some (fK C dx)
 ns:h.Ns1 dx mA
 ne:dx≠x
theorem xmK{h:Heap}{dx:Addr}{mA:Str→Option Value}(n:h.Ns1 dx mA):∃od,h.get? dx=some od∧∀name,W.lookIn name od=some (mA name):=by
 obtain⟨o,es,ep,ho,hd,hk,_,hm⟩:=n;refine⟨o,ho,fun name=>?_⟩;have e:=hm name;unfold nsFind findBy at e;rw[←Array.find?_toList]at e;unfold W.lookIn;rw[hd];dsimp only
 split
 ·rename_i y q;rw[q]at e;exact congrArg some e
 ·rename_i q;rw[q]at e;have a:es.toList.any (·.refKey)=false:=by
   rw[List.any_eq_false];intro y hy;obtain⟨z,t,hkey⟩:=hk y (kd.mp hy);simp[DictEntry.refKey,hkey]
  have a':¬es.toList.any (·.refKey)=true:=by rw[a];exact aH
  rw[if_neg a'];exact congrArg some e
theorem xe3.look{h:Heap}{x dx C:Addr}{mA:Str→Option Value}(I:xe3 h x dx C mA):∃od,W.InstAt h x (fK C dx) C (some od)∧∀name,W.lookIn name od=some (mA name):=
 let⟨od,ho,hl⟩:=xmK I.ns
 ⟨od,⟨I.obj,rfl,rfl,ho⟩,hl⟩
section
variable {prog:aI} {w:World} {A:aU} {E:Value→ab→Prop} {s:ab} {K:ah} {x dx C f:Addr} {mA:Str→Option Value} {name:Str} {v:Value}
theorem get_map{expr:Bool}{Q:Value→ab→Prop}(X:K.In s.heap)(I:xe3 s.heap x dx C mA)(hg:ke K C name=true)(hh:W.hasDictIn K C=true)
  (ha:bh K (.ref C) name=some none) (hv:mA name=some v) (hv':W.handedIn v=true) (h:Q v {s with toks:=s.toks+1}):
  wpAny (model prog w) A (getAttr (.ref x) name expr) Q E s:=by
 obtain⟨od,J,hl⟩:=I.look;exact W.get_value X J (kE hg).1 (W.findObj_own hh ha rfl (by rw[hl,hv])) hv' h
theorem xn0{pl:Sem Bool}{Q:Value×List Value→ab→Prop}(X:K.In s.heap)(I:xe3 s.heap x dx C mA)(hg:ke K C name=true)
  (hf:bh K (.ref C) name=some (some (.ref f))) (ht:W.isFn K (.ref f)=true) (hv:mA name=none) (h:Q (.ref f,[.ref x]) s):
  wpAny (model prog w) A (iY (.ref x) name pl) Q E s:=by
 obtain⟨od,J,hl⟩:=I.look;exact W.method_fn X J (kE hg).1 (kE hg).2 hf (beq_iff_eq.mp ht) (by show(W.lookIn name od).map (·.isSome)=some false;rw[hl,hv];rfl) h
theorem xps{ns:List Str}{Q:Unit→ab→Prop}(X:K.In s.heap)(I:xe3 s.heap x dx C mA)
  (hs:bh K (.ref C) "__setattr__"=some (some (.builtin "object.__setattr__"))) (hp:W.plainOver K C=true) (ht:W.takerIn K C name=some none) (hh:W.hasDictIn K C=true)
  (hw:PySem.Within mA ns) (hsz:ns.length≤aL)
  (h:∀h',xe3 h' x dx C (fun y=>if y=name then some v else mA y)→gv dx s.heap h'→Q () {s with heap:=h',toks:=s.toks+2}):
  wpAny (model prog w) A (setAttr (.ref x) name v) Q E s:=by
 obtain⟨od,J,hl⟩:=I.look;refine W.set_plain X J hs (W.osa_open (s:={s with toks:=s.toks+1}) (r:=none) X J hp ht fun b=>?_);obtain⟨cd,hc,hd'⟩:=W.any_some hh;have hx:s.heap.get? x=some ⟨.ref C,some dx,.plain,#[]⟩:=I.obj;refine ae (aA (ae (ae (wpAny_loadPart hx (ae (W.Looks.here (s:={s with toks:=s.toks+1}) (W.looks_clsIn X hc) ?_))))));rw[hd'];refine aA (a:=some dx) (ae (aA (ae ?_)));refine wpAny_nsSet1 (s:={s with toks:=s.toks+1}) I.ns fun h' hn2 hs2=>?_;obtain⟨oD,esD,epD,hoD,hdD,hcD⟩:=hn2.count (PySem.Within.cons name v hw);refine ae (wpAny_lookBehind hoD (by rw[hdD];exact pastItsLine_dict (a7 hcD (by rw[bj];lia))) ?_);exact aA (h _ ⟨(hs2.2 _ (a8 I.ne)).trans I.obj,hn2,I.ne⟩ hs2)
theorem xn1{R:gc→ab→Prop}{vs:List Value}{kw:List (Str×Value)}(X:K.In s.heap)(hm:W.makesIn K C=true)
  (hi:bh K (.ref C) "__init__"=some (some (.ref f))) (hf:W.typeIn K (.ref f)=some (.type "function"))
  (h:cW (model prog w) (A.under (.builtin "type.__call__" ⟨.ref C::vs,kw⟩)) (.call (.ref f) ⟨.ref (s.heap.objs.size+1)::vs,kw⟩) (W.InitBack (s.heap.objs.size+1) R)
   {s with heap:=(s.heap.push d8).push (fK C s.heap.objs.size)}):
  cW (model prog w) A (.call (.ref C) ⟨vs,kw⟩) R s:=by
 obtain⟨hh,g,d,t,os⟩:=s;exact W.make_core (W.makes_of X hm) (W.looks_findIn X hi) (fun self=>W.bind_fn X self hf) (.inl rfl) h
end
def uo(f:Str)(v:V):List (Str×V)→List (Str×V)
 |[]=>[(f,v)]
 |(g,x)::r=>if g=f then(g,v)::r else(g,x)::uo f v r
theorem xeA(f g:Str)(v:V):∀fs:List (Str×V),(uo f v fs).lookup g=if g=f then some v else fs.lookup g
 |[]=>by
  show fA g [(f,v)]=_
  by_cases h:g=f
  ·have hb:(g==f)=true:=beq_iff_eq.mpr h;simp only[fA,hb,if_pos h]
  ·have hb:(g==f)=false:=beq_eq_false_iff_ne.mpr h;simp only[fA,hb,if_neg h]
 |(k,x)::r=>by
  have ih:=xeA f g v r;rw[show uo f v ((k,x)::r)=(if k=f then(k,v)::r else(k,x)::uo f v r)from rfl]
  by_cases hk:k=f
  ·rw[if_pos hk]
   by_cases h:g=k
   ·have hb:(g==k)=true:=beq_iff_eq.mpr h;simp only[fA,hb,if_pos (h.trans hk)]
   ·have hb:(g==k)=false:=beq_eq_false_iff_ne.mpr h;simp only[fA,hb,if_neg (fun e:g=f=>h (e.trans hk.symm))]
  ·rw[if_neg hk]
   by_cases h:g=k
   ·have hb:(g==k)=true:=beq_iff_eq.mpr h;simp only[fA,hb,if_neg (fun e:g=f=>hk (h.symm.trans e))]
   ·have hb:(g==k)=false:=beq_eq_false_iff_ne.mpr h;simp only[fA,hb];exact ih
theorem xde(f:Str)(v:V):∀fs:List (Str×V),f∈(uo f v fs).map (·.1)∧∀g,g∈fs.map (·.1)→g∈(uo f v fs).map (·.1)
 |[]=>⟨by simp[uo],fun g h=>by simp at h⟩
 |(k,x)::r=>by
  obtain⟨i1,i2⟩:=xde f v r;rw[show uo f v ((k,x)::r)=(if k=f then(k,v)::r else(k,x)::uo f v r)from rfl]
  by_cases hk:k=f
  ·rw[if_pos hk];subst hk;exact⟨by simp,fun g h=>by simpa using h⟩
  ·rw[if_neg hk];refine⟨?_,fun g h=>?_⟩
   ·rw[bg];exact aC _ i1
   ·rw[bg]at h⊢;rcases ao.mp h with e|e
    ·exact ao.mpr (.inl e)
    ·exact aC _ (i2 g e)
theorem xbD(f:Str)(v:V):∀fs:List (Str×V),(uo f v fs).length≤fs.length+1
 |[]=>by simp[uo]
 |(k,x)::r=>by
  have ih:=xbD f v r;rw[show uo f v ((k,x)::r)=(if k=f then(k,v)::r else(k,x)::uo f v r)from rfl]
  by_cases hk:k=f
  ·rw[if_pos hk,bj,bj];lia
  ·rw[if_neg hk,bj,bj];lia
theorem vh.some_of{v:V}{o:Option Value}(r:vh (some v) o):∃u,o=some u∧RelV v u:=by
 cases o with
 |none=>exact(show False from r).elim
 |some u=>exact⟨u,rfl,r⟩
theorem vh.none_of{o:Option Value}(r:vh none o):o=none:=by
 cases o with
 |none=>rfl
 |some u=>exact(show False from r).elim
theorem xmL{v:V}{u:Value}(r:RelV v u):W.handedIn u=true:=by
 cases v with
 |non=>cases (show u=bq from r);rfl
 |bl b=>cases (show u=dF b from r);rfl
 |int i=>obtain⟨t,e⟩:=(show∃t,u=eU i t from r);cases e;rfl
 |str x=>obtain⟨t,e⟩:=(show∃t,u=gp x t from r);cases e;rfl
 |byt b=>obtain⟨t,e⟩:=(show∃t,u=Value.bytes b t from r);cases e;rfl
 |flt b=>obtain⟨t,e⟩:=(show∃t,u=lr b t from r);cases e;rfl
 |ref a=>cases (show u=bb a from r);rfl
 |ty n=>cases (show u=cG n from r);rfl
section
variable {P:aI} {w:World} {H H':Hp} {h h':Heap} {a C dx:Addr} {fs fs':List (Str×V)}
theorem xea(hok:HOk P w H h)(e:H a=some (.ins C dx fs)):∃mA,xe3 h a dx C mA∧(∀f,vh (fs.lookup f) (mA f))∧PySem.Within mA (fs.map (·.1))∧fs.length≤1000∧H dx=some (.own a):=by
 obtain⟨d,z,ne,ob,mA,n,r,q⟩:=(show xH P w H h a (.ins C dx fs)from hok a _ e);exact⟨mA,⟨ob,n,ne⟩,r,q,z,d⟩
end
structure Cls(K:ah)(C:Addr):Prop where
 pg:ke K C Str.empty=true
 hd:W.hasDictIn K C=true
 po:W.plainOver K C=true
 sa:bh K (.ref C) "__setattr__"=some (some (.builtin "object.__setattr__"))
theorem Cls.get{K:ah}{C:Addr}(c:Cls K C)(f:Str):ke K C f=true:=c.pg
def xI(K:ah)(C:Addr)(f:Str):Prop:=bh K (.ref C) f=some none
theorem xI.taker{K:ah}{C:Addr}{f:Str}(n:xI K C f):W.takerIn K C f=some none:=by
 unfold W.takerIn;rw[show bh K (.ref C) f=some none from n];rfl
structure Meth(K:ah)(C:Addr)(m:Str)(f:Addr):Prop where
 at_:bh K (.ref C) m=some (some (.ref f))
 fn:W.isFn K (.ref f)=true
 kp:cZ K (.ref f)=true
section
variable {X:Cx} {pins:List (Addr×Obj)} {σ:St} {H:Hp} {s:ab} {a C dx:Addr} {fs:List (Str×V)} {f:Str} {v:V} {A:aU} {E:Value→ab→Prop}
theorem xlr{b:Bool}{Q:Value→ab→Prop}(I:Inv X pins σ H s)(e:H a=some (.ins C dx fs))(c:Cls X.K C)(n:xI X.K C f)(l:fs.lookup f=some v)
  (h:∀u s',Inv X pins σ H s'→RelV v u→Q u s'):wpAny (model X.prog X.w) A (getAttr (.ref a) f b) Q E s:=by
 obtain⟨mA,O,r,_,_,_⟩:=xea I.hok e;obtain⟨u,hu,ru⟩:=vh.some_of (v:=v) (o:=mA f) (by rw[←l];exact r f);exact get_map I.kIn O (c.get f) c.hd n hu (xmL ru) (h u _ (I.tok _) ru)
theorem xfE{m:Str}{g:Addr}{pl:Sem Bool}{Q:Value×List Value→ab→Prop}(I:Inv X pins σ H s)(e:H a=some (.ins C dx fs))(c:Cls X.K C)(k:Meth X.K C m g)(l:fs.lookup m=none)
  (h:Q (.ref g,[.ref a]) s):wpAny (model X.prog X.w) A (iY (.ref a) m pl) Q E s:=by
 obtain⟨mA,O,r,_,_,_⟩:=xea I.hok e;have hn:mA m=none:=vh.none_of (by rw[←l];exact r m);exact xn0 I.kIn O (c.get m) k.at_ k.fn hn h
theorem xls{y:V}{u:Value}{Q:Unit→ab→Prop}(I:Inv X pins σ H s)(e:H a=some (.ins C dx fs))(c:Cls X.K C)(n:xI X.K C f)(hl:fs.length<1000)(ry:RelV y u)
  (h:∀s',Inv X pins σ (upd H a (.ins C dx (uo f y fs))) s'→Q () s'):wpAny (model X.prog X.w) A (setAttr (.ref a) f u) Q E s:=by
 obtain⟨mA,O,r,wi,_,ho⟩:=xea I.hok e;have hz:(fs.map (·.1)).length≤aL:=by rw[aa,av];lia
 refine xps I.kIn O c.sa c.po n.taker c.hd wi hz fun h' O' sb=>h _ ?_;have hd:∃o,h'.get? dx=some o:=let⟨o,_,_,e',_⟩:=O'.ns;⟨o,e'⟩
 refine I.write (x:=a) (e:=dx) (by rw[e];exact bV) (.inr ho) (fun b q hb z=>(sb.2 b hb).trans z) hd ?_;refine⟨by rw[xl O.ne];exact ho,?_,O.ne,O'.obj,_,O'.ns,fun g=>?_,fun g hg=>?_⟩
 ·have:=xbD f y fs;lia
 ·show vh ((uo f y fs).lookup g) (if g=f then some u else mA g);rw[xeA]
  by_cases q:g=f
  ·rw[if_pos q,if_pos q];exact ry
  ·rw[if_neg q,if_neg q];exact r g
 ·by_cases q:g=f
  ·rw[q];exact(xde f y fs).1
  ·refine(xde f y fs).2 g (wi g fun z=>hg ?_);show(if g=f then some u else mA g)=none;rw[if_neg q];exact z
theorem Inv.made(I:Inv X pins σ H s):Inv X pins σ (upd (upd H s.heap.objs.size (.own (s.heap.objs.size+1))) (s.heap.objs.size+1) (.ins C s.heap.objs.size []))
  {s with heap:=(s.heap.push d8).push (fK C s.heap.objs.size)}:=by
 have e1:(s.heap.push d8).get? s.heap.objs.size=some d8:=aB s.heap rfl;have e2:((s.heap.push d8).push (fK C s.heap.objs.size)).get? (s.heap.objs.size+1)=some (fK C s.heap.objs.size):=by
  have:=aB (s.heap.push d8) (o:=fK C s.heap.objs.size) rfl
  rwa [cI]at this
 have e3:(s.heap.push d8).Ns s.heap.objs.size (fun _=>none):=⟨d8,#[],_,e1,rfl,(fun e he=>absurd he (by simp)),fun _=>rfl⟩;have I1:=I.laid (a:=s.heap.objs.size) (o:=.own (s.heap.objs.size+1)) (h':=s.heap.push d8) (t':=s.toks) (fun b u q=>af _ q) (ai _) ⟨_,e1⟩;refine I1.laid (a:=s.heap.objs.size+1) (o:=.ins C s.heap.objs.size []) (t':=s.toks) (fun b u q=>af _ q) (gz (cI _ _)) ?_;have ne:s.heap.objs.size≠s.heap.objs.size+1:=ar (c3 _);refine⟨by rw[xl ne,xk],aJ _,ne,e2,fun _=>none,(Heap.Ns1.of_empty e3).at fun o q=>af _ q,fun _=>bV,fun y hy=>absurd rfl hy⟩
theorem xpt{prog:aI}{w:World}{env:Env}{e:Expr}{f:Str}{pos:Pos}{s:ab}{Q:Value→ab→Prop}(hb:gg e f env (eval e env)=eval e env)
  (h:wpAny (model prog w) A (eval e env) (fun o s₁=>wpAny (model prog w) A (getAttr o f true) Q E s₁) E s):wpAny (model prog w) A (eval (.Attribute e f pos) env) Q E s:=
 Attribute_any_ h (by rw[arm_eval_Attribute,hb])
end
def xsr(K:ah)(ta:TE)(f:Str):TE:=fun σ H Q=>ta σ H fun x H1=>∃a C dx fs v,x= .ref a∧H1 a=some (.ins C dx fs)∧Cls K C∧xI K C f∧fs.lookup f=some v∧Q v H1
def xst(K:ah)(ta tv:TE)(f:Str):TS:=fun D σ H=>tv σ H fun y H1=>ta σ H1 fun x H2=>∃a C dx fs,x= .ref a∧H2 a=some (.ins C dx fs)∧Cls K C∧xI K C f∧fs.length<1000∧
 D.nx σ (upd H2 a (.ins C dx (uo f y fs)))
section
variable {X:Cx} {o e value:Expr} {f:Str} {pos pos' tpos:Pos} {ta tv:TE}
theorem xx(he:PE X e ta)(hb:gg e f X.env (eval e X.env)=eval e X.env):PE X (.Attribute e f pos) (xsr X.K ta f):=by
 intro pins s σ H Q I h;refine xpt hb (thn (he pins s σ H _ I h) fun u s1 hh23=>?_);obtain⟨x,H1,I1,rx,a,C,dx,fs,v,ex,ea,c,n,l,q⟩:=hh23;subst ex;obtain rfl:u=bb a:=rx;exact xlr I1 ea c n l fun u' s2 I2 ru=>⟨v,H1,I2,ru,q⟩
theorem zq(ha:PE X o ta)(hv:PE X value tv)(hs:gU value (some (.Attribute o f pos')) pos.line X.env=pure false):PS X (.Assign [.Attribute o f pos'] value pos) (xst X.K ta tv f):=by
 intro pins s σ H D I h;refine plainObj_wpAny_Assign_Attribute (thn (hv pins s σ H _ I h) fun u s1 hh24=>?_) hs;obtain⟨y,H1,I1,ry,q⟩:=hh24;refine thn (ha pins s1 σ H1 _ I1 q) fun ov s2 hh25=>?_;obtain⟨x,H2,I2,rx,a,C,dx,fs,ex,ea,c,n,l,q2⟩:=hh25;subst ex;obtain rfl:ov=bb a:=rx;exact xls I2 ea c n l ry fun s3 I3=>⟨σ,_,I3,q2⟩
end
section
variable {X:Cx} {pins:List (Addr×Obj)} {σ:St} {H:Hp} {s:ab} {A:aU} {E:Value→ab→Prop} {Q:Value→ab→Prop} {c:Value} {b:Bool}
inductive zF(K:ah)(H:Hp):V→Value→Prop where
 |non:zF K H .non (.type "NoneType")
 |bl (x:Bool):zF K H (.bl x) (.type "bool")
 |int (i:Int):zF K H (.int i) (.type "int")
 |str (x:Str):zF K H (.str x) (.type "str")
 |flt (x:UInt64):zF K H (.flt x) (.type "float")
 |lst {a:Addr} {xs:List V} (e:H a=some (.lst xs)):zF K H (.ref a) (.type "list")
 |frz {a:Addr} {o:Obj} {xs:List V} (e:H a=some (.frz o (.lst xs))):zF K H (.ref a) (.type "list")
 |tup {a:Addr} {xs:List V} (e:H a=some (.tup xs)):zF K H (.ref a) (.type "tuple")
 |dK {a:Addr} {kvs:List (Key×V)} (e:H a=some (.dK kvs)):zF K H (.ref a) (.type "dict")
 |dT {a:Addr} {kvs:List (List Key×V)} (e:H a=some (.dT kvs)):zF K H (.ref a) (.type "dict")
 |ins {a C dx:Addr} {fs:List (Str×V)} (e:H a=some (.ins C dx fs)) (cl:Cls K C) (ha:bh K (.ref C) "__class__"=some (some (.builtin "object.__class__")))
   (hn:i6 K (.builtin "object.__class__") "__get__"=some (some (.builtin "getset_descriptor.__get__"))) (htk:W.takesIn K (.builtin "object.__class__")=some true)
   (hm:W.mroIn K C (.type "object")=some true):zF K H (.ref a) (.ref C)
theorem xmM{x:V}{u t:Value}(I:Inv X pins σ H s)(rx:RelV x u)(ty:zF X.K H x t)(e:fh X.K t c=some b)(h:∀tk,Q (.bool b) {s with toks:=tk}):
  wpAny (model X.prog X.w) A (call (.builtin "isinstance") [u,c]) Q E s:=by
 cases ty with
 |non=>cases (show u=bq from rx);exact d9 W.kitx_none I.kIn bV e (fun z=>nomatch z) h
 |bl y=>cases (show u=dF y from rx);exact d9 W.kitx_bool I.kIn bV e (fun z=>nomatch z) h
 |int i=>obtain⟨t,q⟩:=(show∃t,u=eU i t from rx);cases q;exact d9 W.kitx_int I.kIn bV e (fun z=>nomatch z) h
 |str y=>obtain⟨t,q⟩:=(show∃t,u=gp y t from rx);cases q;exact d9 W.kitx_str I.kIn bV e (fun z=>nomatch z) h
 |flt y=>obtain⟨t,q⟩:=(show∃t,u=lr y t from rx);cases q;exact d9 W.kitx_float I.kIn bV e (fun z=>nomatch z) h
 | @lst a xs ea=>
  cases (show u=bb a from rx);obtain⟨_,_,n,_,h1⟩:=(show xH X.prog X.w H s.heap a (.lst xs)from I.hok a _ ea);exact d9 W.kitx_list I.kIn ⟨_,h1,rfl⟩ e (fun z=>nomatch z) h
 | @frz a ob xs ea=>
  cases (show u=bb a from rx);obtain⟨_,_,_,n,_,h1⟩:=(show xH X.prog X.w H s.heap a (.frz ob (.lst xs))from I.hok a _ ea);exact d9 W.kitx_list I.kIn ⟨_,h1,rfl⟩ e (fun z=>nomatch z) h
 | @tup a xs ea=>
  cases (show u=bb a from rx);obtain⟨_,_,_,p⟩:=(show xH X.prog X.w H s.heap a (.tup xs)from I.hok a _ ea);obtain⟨o,h1,h2,_⟩:=p;exact d9 W.kitx_tuple I.kIn ⟨o,h1,h2⟩ e (fun z=>nomatch z) h
 | @dK a kvs ea=>
  cases (show u=bb a from rx);obtain⟨_,_,vs,_,p⟩:=(show xH X.prog X.w H s.heap a (.dK kvs)from I.hok a _ ea);obtain⟨o,es,ep,h1,h2,_⟩:=p;exact d9 W.kitx_dict I.kIn ⟨o,h1,h2.1⟩ e (fun z=>nomatch z) h
 | @dT a kvs ea=>
  cases (show u=bb a from rx);obtain⟨_,_,xs,_,o,es,ep,h1,h2,_⟩:=(show xH X.prog X.w H s.heap a (.dT kvs)from I.hok a _ ea);exact d9 W.kitx_dict I.kIn ⟨o,h1,h2.1⟩ e (fun z=>nomatch z) h
 | @ins a C dx fs ea cl ha hn htk hm=>
  cases (show u=bb a from rx);obtain⟨mA,O,_⟩:=xea I.hok ea;obtain⟨od,J,_⟩:=O.look;exact d9 (W.kitx_own (cl.get _) cl.hd ha hn htk hm) I.kIn J e (fun z=>nomatch z) h
end
end L2
namespace L2
open PySem PySem.Spec PyProof.Rows
structure xW(k:Nat)(A:aU):Prop where
 hd:A.handled=none
 dp:A.depth+3*k+5<recursionLimit
 un:A.units+16*k+200<cLine
theorem xW.mono{j k:Nat}{A:aU}(r:xW k A)(h:j≤k):xW j A:=⟨r.hd,by have:=r.dp;lia,by have:=r.un;lia⟩
theorem xW.deeper{k:Nat}{A:aU}(r:xW (k+1) A)(env:Env):xW k (A.deeper env):=
 ⟨r.hd,by have:=r.dp;show A.depth+1+3*k+5<_;lia,by have:=r.un;show A.units+3+16*k+200<_;lia⟩
theorem xW.in1{k:Nat}{A:aU}(r:xW (k+1) A):xW k A.in1:=
 ⟨r.hd,by have:=r.dp;show A.depth+3*k+5<_;lia,by have:=r.un;show A.units+1+16*k+200<_;lia⟩
theorem xlt{A:aU}{C:Addr}{us:List Value}{kw:List (Str×Value)}:(A.under (.builtin "type.__call__" ⟨.ref C::us,kw⟩)).depth=A.depth+1:=by
 first|rfl|simp[kT,Code.weight,Code.isCreation,Code.isGuard,Code.isCaller,Code.frames,kW,guardIds]
theorem xlu{A:aU}{C:Addr}{us:List Value}{kw:List (Str×Value)}:(A.under (.builtin "type.__call__" ⟨.ref C::us,kw⟩)).units=A.units+1:=by
 first|rfl|simp[kT,Code.cUnits,Code.frames,kW]
theorem xW.make{k:Nat}{A:aU}(r:xW (k+1) A)(C:Addr)(us:List Value)(kw:List (Str×Value)):xW k (A.under (.builtin "type.__call__" ⟨.ref C::us,kw⟩)):=
 ⟨r.hd,by have:=r.dp;rw[xlt];lia,by have:=r.un;rw[xlu];lia⟩
theorem xW.depth{k:Nat}{A:aU}(r:xW k A):A.depth<recursionLimit:=by have:=r.dp;lia
theorem xW.units{k:Nat}{A:aU}(r:xW k A):A.units+64<cLine:=by have:=r.un;lia
theorem xW.units0{k:Nat}{A:aU}(r:xW k A):A.units<cLine:=by have:=r.un;lia
def ug:TA:=fun _ H Q=>Q [] H
def xfF(ta:TE)(tr:TA):TA:=fun σ H Q=>ta σ H fun x H1=>tr σ H1 fun xs H2=>Q (x::xs) H2
section
variable {X:Cx} {e:Expr} {es:List Expr} {te:TE} {t:TA} {pos:Pos}
theorem xc:PA X [] ug:=fun _ _ _ _ H Q I h=>f6 ⟨[],H,I,.nil,h⟩
theorem xa(ha:PE X e te)(hr:PA X es t)(hs:aR (e::es) X.env=(false,eval e X.env)::aR es X.env:=by rfl):PA X (e::es) (xfF te t):=by
 intro pos pins s σ H Q I h;rw[hs];show wpAny _ _ (spliced ((false,eval e X.env)::cH pos (aR es X.env))) _ _ s;refine fM (thn (ha pins s σ H _ I h) fun u s1 hh26=>?_);obtain⟨x,H1,I1,r1,q1⟩:=hh26;refine thn (hr pos pins s1 σ H1 _ I1 q1) fun us s2 hh27=>?_;obtain⟨xs,H2,I2,r2,q2⟩:=hh27;exact⟨x::xs,H2,I2,.cons r1 r2,q2⟩
def xsu(t:TA):TE:=fun σ H Q=>t σ H fun xs H1=>xs.length≤aL∧∀p,H1 p=none→Q (.ref p) (upd H1 p (.tup xs))
def xsv(t:TA):TE:=fun σ H Q=>t σ H fun xs H1=>xs.length≤aL∧∀p,H1 p=none→Q (.ref p) (upd H1 p (.lst xs))
theorem yX{x1}(h:PA X es t):PE X (.Tuple es x1 pos) (xsu t):=by
 intro pins s σ H Q I hq;refine wpAny_Tuple_spliced (thn (h pos pins s σ H _ I hq) fun us s1 ⟨xs,H1,I1,r,z,q⟩=>⟨by rw[←r.length];exact z,?_⟩);have hf:H1 s1.heap.objs.size=none:=I1.hok.fresh (ai _);refine⟨.ref s1.heap.objs.size,upd H1 s1.heap.objs.size (.tup xs),I1.laid (t':=s1.toks) (fun b u e=>af _ e) (ai _) ?_,rfl,q _ hf⟩;exact⟨z,us,r,⟨_,aB _ rfl,rfl,_,rfl⟩⟩
theorem yh(h:PA X es t):PE X (.List es pos) (xsv t):=by
 intro pins s σ H Q I hq;refine wpAny_List_spliced (thn (h pos pins s σ H _ I hq) fun us s1 ⟨xs,H1,I1,r,z,q⟩=>⟨by rw[←r.length];exact z,?_⟩);have hf:H1 s1.heap.objs.size=none:=I1.hok.fresh (ai _);refine⟨.ref s1.heap.objs.size,upd H1 s1.heap.objs.size (.lst xs),I1.laid (t':=s1.toks) (fun b u e=>af _ e) (ai _) ?_,rfl,q _ hf⟩;exact⟨z,us,0,r,aB _ rfl⟩
end
abbrev Sp:=List V→Hp→VK→XK→Prop
abbrev CXT:=List Env→Hp→ab→XK→Value→ab→Prop
structure jR(P:aI)(w:World)(K:ah)(mg:Str→Option Value)(base:Heap)(A:aU)(outer:List Env)(s:ab)(H:Hp):Prop where
 frames:A.frames=some outer
 mod:Mod K mg base
 bs:∀b o,base.get? b=some o→s.heap.get? b=some o∧H b=none
 bsz:base.objs.size≤s.heap.objs.size
 funs:s.heap.FunFrames base outer
 frf:∀b∈frs outer,H b=none
 hok:HOk P w H s.heap
 bare:e9 s.gens
def CE(outer:List Env)(P:aI)(w:World)(H:Hp)(s:ab)(Q:VK)(u:Value)(s':ab):Prop:=
 ∃v H',s'.os=s.os∧e9 s'.gens∧Un (frs outer) [] H H' s.heap s'.heap∧HOk P w H' s'.heap∧RelV v u∧Q v H'
def CR(CX:CXT)(outer:List Env)(P:aI)(w:World)(H:Hp)(s:ab)(Q:VK)(E:XK)(r:gc)(s':ab):Prop:=
 match r with
 | .ok (.ret u)=>CE outer P w H s Q u s'
 | .ok _=>False
 | .error e=>CX outer H s E e s'
structure xv(P:aI)(w:World)(K:ah)(mg:Str→Option Value)(base:Heap)(CX:CXT)(k:Nat)(f:Addr)(fd:ay)(ps:List Str)(sp:Sp):Prop where
 len:∀vs H Q E,sp vs H Q E→vs.length=ps.length
 run:∀(A:aU) (outer:List Env) (s:ab) (H:Hp) (args:Args) (us:List Value) (vs:List V) (Q:VK) (E:XK),xW k A→jR P w K mg base A outer s H→BindsTo s fd args (ps.zip us)→Vals vs us→sp vs H Q E→
  cW (model P w) A (.call (.ref f) args) (CR CX outer P w H s Q E) s
theorem jR.make{P:aI}{w:World}{K:ah}{mg:Str→Option Value}{base:Heap}{A:aU}{outer:List Env}{s:ab}{H:Hp}(e:jR P w K mg base A outer s H)(C:Addr)(us:List Value)(kw:List (Str×Value)):
  jR P w K mg base (A.under (.builtin "type.__call__" ⟨.ref C::us,kw⟩)) outer s H:=⟨by first|exact e.frames|(simpa [kT,Code.envs,kW,pushEnvs]using e.frames),e.mod,e.bs,e.bsz,e.funs,e.frf,e.hok,e.bare⟩
section
variable {X:Cx} {pins:List (Addr×Obj)} {σ:St} {H:Hp} {s s':ab}
theorem Inv.env0(I:Inv X pins σ H s):jR X.prog X.w X.K X.mg X.base X.A X.stack s H:=
 ⟨I.ok.frames,I.ok.mod,I.bs,a7 I.ok.bsz I.sz,I.stack,I.stkFree,I.hok,I.bare⟩
theorem Inv.after{Q:VK}{u:Value}(I:Inv X pins σ H s)(h:CE X.stack X.prog X.w H s Q u s'):EP X pins σ Q u s':=by
 obtain⟨v,H',os,bare,un,hok,r,q⟩:=h;obtain⟨hh,g,d,t,os'⟩:=s';obtain rfl:os'=s.os:=os;exact⟨v,H',I.call (h':=hh) (g':=g) (d':=d) (t':=t) (ch:=[]) un hok bare (fun b z=>absurd z (by simp)),r,q⟩
end
def xeb(sp:Sp)(dvs:List V)(E:XK)(t:TA):TE:=fun σ H Q=>t σ H fun vs H1=>sp (vs++dvs) H1 Q E
def yo(C:Addr)(m:Str)(sp:Sp)(dvs:List V)(E:XK)(ta:TE)(t:TA):TE:=fun σ H Q=>ta σ H fun x H1=>∃a dx fs,x= .ref a∧H1 a=some (.ins C dx fs)∧fs.lookup m=none∧
 t σ H1 fun vs H2=>sp (x::(vs++dvs)) H2 Q E
def xrN(C:Addr)(sp:Sp)(dvs:List V)(E:XK)(t:TA):TE:=fun σ H Q=>t σ H fun vs H1=>∀x dx,H1 x=none→H1 dx=none→dx≠x→
 sp (.ref x::(vs++dvs)) (upd (upd H1 dx (.own x)) x (.ins C dx [])) (fun v H2=>v= .non∧Q (.ref x) H2) E
def Binds(K:ah)(fd:ay)(ps:List Str)(ds:List Value):Prop:=
 ∀(s:ab) (us:List Value),K.In s.heap→(us++ds).length=ps.length→BindsTo s fd ⟨us,[]⟩ (ps.zip (us++ds))
theorem Binds.all{K:ah}{fd:ay}{ps:List Str}(h:∀us:List Value,us.length=ps.length→fi fd ⟨us,[]⟩=pure (ps.zip us)):Binds K fd ps []:=fun s us _ hl=>by
 rw[dO]at hl⊢;exact .of_eq (h us hl)
def Passes(CX:CXT)(X:Cx)(E:XK):Prop:=∀(pins:List (Addr×Obj)) (σ:St) (H:Hp) (s:ab) (e:Value) (s':ab),Inv X pins σ H s→CX X.stack H s E e s'→X.xe e s'
section
variable {X:Cx} {CX:CXT} {k:Nat} {f C:Addr} {fd:ay} {ps:List Str} {sp:Sp} {dvs:List V} {ds:List Value} {E:XK} {x m:Str} {p pos apos:Pos} {e o:Expr} {es:List Expr} {ta:TE} {t:TA}
theorem xfG{pins:List (Addr×Obj)}{σ:St}{H:Hp}{s:ab}{Q:VK}{us:List Value}{vs:List V}(F:xv X.prog X.w X.K X.mg X.base CX k f fd ps sp)(hr:xW k X.A)(hb:Binds X.K fd ps ds)(hd:Vals dvs ds)(hx:Passes CX X E)
  (I:Inv X pins σ H s) (r:Vals vs us) (h:sp (vs++dvs) H Q E):wpAny (model X.prog X.w) X.A (call (.ref f) us) (EP X pins σ Q) X.xe s:=by
 have r2:Vals (vs++dvs) (us++ds):=r.append hd;have hl:(us++ds).length=ps.length:=by rw[←r2.length];exact F.len _ _ _ _ h
 refine fV (dq (F.run X.A X.stack s H ⟨us,[]⟩ (us++ds) (vs++dvs) Q E hr I.env0 (hb s us I.kIn hl) r2 h) fun r s' hq=>?_);cases r with
 |error e=>exact hx pins σ H s e s' I hq
 |ok fl=>
  cases fl with
  |ret u=>exact I.after hq
  |next=>exact bH hq
  |brk=>exact bH hq
  |cont=>exact bH hq
theorem xr(F:xv X.prog X.w X.K X.mg X.base CX k f fd ps sp)(hr:xW k X.A)(hg:Gl X x)(hm:X.mg x=some (.ref f))(hk:cZ X.K (.ref f)=true)(hb:Binds X.K fd ps ds)(hd:Vals dvs ds)(hx:Passes CX X E)
  (ha:PA X (e::es) t) (hdb:(x==("__debug__":Str))=false:=by decide) (he:aR (e::es) X.env=(false,eval e X.env)::aR es X.env:=by rfl) (hpl:(cH pos (aR es X.env)).any (·.1)=false:=by rfl):
  PE X (.Call (.Name x p) (e::es) [] pos) (xeb sp dvs E t):=by
 intro pins s σ H Q I h;refine bW (xd9 I hg hm ?_ hdb);refine iz (h₀:=X.base) I.ok.mod.kin hk (thn (ha pos pins s σ H _ I h) fun us s1 hh28=>?_) he hpl;obtain⟨vs,H1,I1,r,q⟩:=hh28;refine⟨I1.kIn,?_⟩;exact xfG F hr hb hd hx I1 r q
theorem yQ{pl:Sem Bool}(he:PE X o ta)(c:Cls X.K C)(hm:Meth X.K C m f)(F:xv X.prog X.w X.K X.mg X.base CX k f fd ps sp)(hr:xW k X.A)(hb:Binds X.K fd ps ds)(hd:Vals dvs ds)(hx:Passes CX X E)(ha:PA X (e::es) t)
  (hst:aR (e::es) X.env=(false,eval e X.env)::aR es X.env:=by rfl) (hpl:(cH pos (aR es X.env)).any (·.1)=false:=by rfl)
  (ht:eval (.Call (.Attribute o m apos) (e::es) [] pos) X.env=(do
   let ov ←eval o X.env
   standAt apos.atName
   let(f,first) ←fc [ov] (iY ov m pl)
   kf pos f first (cH pos (aR (e::es) X.env)) (kg pos (gR [] X.env))):=by rfl):
  PE X (.Call (.Attribute o m apos) (e::es) [] pos) (yo C m sp dvs E ta t):=by
 intro pins s σ H Q I h;refine iZ (pl:=pl) (thn (he pins s σ H _ I h) fun u s1 hh29=>?_) ht;obtain⟨x,H1,I1,rx,a,dx,fs,ex,ea,l,q⟩:=hh29;subst ex;obtain rfl:u=bb a:=rx;refine xfE I1 ea c hm l ?_;refine iz (first:=[.ref a]) (h₀:=X.base) I.ok.mod.kin hm.kp (thn (ha pos pins s1 σ H1 _ I1 q) fun us s2 hh30=>?_) hst hpl;obtain⟨vs,H2,I2,r,q2⟩:=hh30;refine⟨I2.kIn,?_⟩;exact xfG (us:=.ref a::us) (vs:=.ref a::vs) F hr hb hd hx I2 (.cons rfl r) q2
theorem xD{pl:Sem Bool}(he:PE X o ta)(c:Cls X.K C)(hm:Meth X.K C m f)(F:xv X.prog X.w X.K X.mg X.base CX k f fd ps sp)(hr:xW k X.A)(hb:Binds X.K fd ps ds)(hd:Vals dvs ds)(hx:Passes CX X E)
  (ht:eval (.Call (.Attribute o m apos) [] [] pos) X.env=(do
   let ov ←eval o X.env
   standAt apos.atName
   let(f,first) ←fc [ov] (iY ov m pl)
   kf pos f first (cH pos (aR [] X.env)) (kg pos (gR [] X.env))):=by rfl):
  PE X (.Call (.Attribute o m apos) [] [] pos) (yo C m sp dvs E ta ug):=by
 intro pins s σ H Q I h;refine iZ (pl:=pl) (thn (he pins s σ H _ I h) fun u s1 hh31=>?_) ht;obtain⟨x,H1,I1,rx,a,dx,fs,ex,ea,l,q⟩:=hh31;subst ex;obtain rfl:u=bb a:=rx;refine xfE I1 ea c hm l ?_;exact W.callWith_K0 (first:=[.ref a]) I1.kIn hm.kp (xfG (us:=[.ref a]) (vs:=[.ref a]) F hr hb hd hx I1 (.cons rfl .nil) q)
structure Mk(K:ah)(C f:Addr):Prop where
 makes:W.makesIn K C=true
 init:bh K (.ref C) "__init__"=some (some (.ref f))
 fn:W.isFn K (.ref f)=true
 kp:cZ K (.ref C)=true
theorem xn2{pins:List (Addr×Obj)}{σ:St}{H:Hp}{s:ab}{Q:VK}{us:List Value}{vs:List V}(M:Mk X.K C f)(F:xv X.prog X.w X.K X.mg X.base CX k f fd ps sp)(hr:xW (k+1) X.A)(hb:Binds X.K fd ps ds)(hd:Vals dvs ds)
  (hx:Passes CX X E) (I:Inv X pins σ H s) (r:Vals vs us)
  (h:∀x dx,H x=none→H dx=none→dx≠x→sp (.ref x::(vs++dvs)) (upd (upd H dx (.own x)) x (.ins C dx [])) (fun v H2=>v= .non∧Q (.ref x) H2) E):
  wpAny (model X.prog X.w) X.A (call (.ref C) us) (EP X pins σ Q) X.xe s:=by
 have hq:=h (s.heap.objs.size+1) s.heap.objs.size (I.hok.fresh (c6 _)) (I.hok.fresh (ai _)) (ar (c3 _));have I2:=Inv.made (C:=C) I;have r2:Vals (V.ref (s.heap.objs.size+1)::(vs++dvs)) (bb (s.heap.objs.size+1)::(us++ds)):=.cons rfl (r.append hd);have hl:(bb (s.heap.objs.size+1)::us++ds).length=ps.length:=by
  have e:=r2.length;rw[F.len _ _ _ _ hq]at e;exact e.symm
 refine fV (xn1 (f:=f) I.kIn M.makes M.init (beq_iff_eq.mp M.fn) (dq (F.run _ X.stack _ _ ⟨bb (s.heap.objs.size+1)::us,[]⟩ (bb (s.heap.objs.size+1)::(us++ds)) _ _ E (hr.make C us [])
  (I2.env0.make C us []) (hb _ (bb (s.heap.objs.size+1)::us) I2.kIn hl) r2 hq) fun r s' hq'=>?_))
 cases r with
 |error e=>exact hx pins σ _ _ e s' I2 hq'
 |ok fl=>
  cases fl with
  |ret u=>
   obtain⟨v,H',I3,rv,ev,q3⟩:=I2.after hq';subst ev;exact⟨rv,⟨V.ref (s.heap.objs.size+1),H',I3,rfl,q3⟩⟩
  |next=>exact bH hq'
  |brk=>exact bH hq'
  |cont=>exact bH hq'
theorem vy(M:Mk X.K C f)(F:xv X.prog X.w X.K X.mg X.base CX k f fd ps sp)(hr:xW (k+1) X.A)(hg:Gl X x)(hm:X.mg x=some (.ref C))(hb:Binds X.K fd ps ds)(hd:Vals dvs ds)(hx:Passes CX X E)
  (ha:PA X (e::es) t) (hdb:(x==("__debug__":Str))=false:=by decide) (he:aR (e::es) X.env=(false,eval e X.env)::aR es X.env:=by rfl) (hpl:(cH pos (aR es X.env)).any (·.1)=false:=by rfl):
  PE X (.Call (.Name x p) (e::es) [] pos) (xrN C sp dvs E t):=by
 intro pins s σ H Q I h;refine bW (xd9 I hg hm ?_ hdb);refine iz (h₀:=X.base) I.ok.mod.kin M.kp (thn (ha pos pins s σ H _ I h) fun us s1 hh32=>?_) he hpl;obtain⟨vs,H1,I1,r,q⟩:=hh32;refine⟨I1.kIn,?_⟩;exact xn2 M F hr hb hd hx I1 r q
end
section
variable {X:Cx} {CX:CXT} {k:Nat} {f C:Addr} {fd:ay} {ps ks:List Str} {sp:Sp} {E:XK} {x m:Str} {p pos apos kpos:Pos} {e o:Expr} {es:List Expr} {kws:List Keyword} {te ta:TE} {t tk:TA} {nm:Option Str}
variable {g:List Value→List Value→List Value} {gV:List V→List V→List V}
end
structure xp(N P:List Str)(sc:Scope):Prop where
 kind:sc.kind= .function
 co:sc.isCoroutine=false
 gen:sc.isGenerator=false
 nd:N.Nodup
 pre:N.take P.length=P
 par:∀x∈P,sc.names.lookup x=some .local∨sc.names.lookup x=some .cell
 nofree:∀y∈sc.names,y.2≠.free
theorem xhw{kindOf:Str→Option dB}{x:Str}:∀{binds:List (Str×Value)} {m:Str→Option Value},(∀v,(x,v)∉binds)→bindL kindOf binds m x=m x
 |[],_,_=>rfl
 |(n,v)::r,m,h=>by
  unfold bindL;rw[xhw fun w hw=>h w (aC _ hw)]
  split
  ·have:x≠n:=by rintro rfl;exact h v aK
   simp[this]
  ·rfl
theorem xhx{kindOf:Str→Option dB}{x:Str}:∀{binds:List (Str×Value)} {m:Str→Option Value},(∀v,(x,v)∉binds)→bindC kindOf binds m x=m x
 |[],_,_=>rfl
 |(n,v)::r,m,h=>by
  unfold bindC;rw[xhx fun w hw=>h w (aC _ hw)]
  split
  ·rfl
  ·have:x≠n:=by rintro rfl;exact h v aK
   simp[this]
theorem xhy{kindOf:Str→Option dB}{x:Str}{v:Value}:∀{P:List Str} {vs:List Value} {i:Nat} {m:Str→Option Value},P.Nodup→P[i]? =some x→vs[i]? =some v→kindOf x=some .local→
  bindL kindOf (P.zip vs) m x=some v
 |[],_,_,_,_,h,_,_=>by simp at h
 |_::_,[],_,_,_,_,h,_=>by simp at h
 |p::P,w::vs,0,m,nd,h1,h2,hk=>by
  simp at h1 h2;subst h1;subst h2;show bindL kindOf ((p,w)::P.zip vs) m p=_;unfold bindL;rw[xhw fun v hv=>(cw.mp nd).1 (fG hv).1,if_pos hk];simp
 |p::P,w::vs,i+1,m,nd,h1,h2,hk=>by
  show bindL kindOf ((p,w)::P.zip vs) m x=_;unfold bindL;exact xhy (i:=i) (cw.mp nd).2 (by simpa using h1) (by simpa using h2) hk
theorem xhz{kindOf:Str→Option dB}{x:Str}{v:Value}:∀{P:List Str} {vs:List Value} {i:Nat} {m:Str→Option Value},P.Nodup→P[i]? =some x→vs[i]? =some v→kindOf x≠some .local→
  bindC kindOf (P.zip vs) m x=some v
 |[],_,_,_,_,h,_,_=>by simp at h
 |_::_,[],_,_,_,_,h,_=>by simp at h
 |p::P,w::vs,0,m,nd,h1,h2,hk=>by
  simp at h1 h2;subst h1;subst h2;show bindC kindOf ((p,w)::P.zip vs) m p=_;unfold bindC;rw[xhx fun v hv=>(cw.mp nd).1 (fG hv).1,if_neg hk];simp
 |p::P,w::vs,i+1,m,nd,h1,h2,hk=>by
  show bindC kindOf ((p,w)::P.zip vs) m x=_;unfold bindC;exact xhz (i:=i) (cw.mp nd).2 (by simpa using h1) (by simpa using h2) hk
def start(N:List Str)(vs:List V):St:=vs.map some++bu (N.length - vs.length) none
def xco(CX:CXT)(P:aI)(w:World)(K:ah)(mg:Str→Option Value)(base:Heap)(N:List Str)(qual:Str)(scope:Scope)(f:Addr)(cd:Value)(A:aU)(outer:List Env)(s:ab)(H:Hp)(E:XK):Cx where
 prog:=P
 w:=w
 K:=K
 mg:=mg
 base:=base
 A:=A.deeper (gd qual scope s.heap.objs.size f cd)
 N:=N
 s₀:=s
 H₀:=H
 env:=gd qual scope s.heap.objs.size f cd
 outer:=outer
 stack:=gd qual scope s.heap.objs.size f cd::outer
 ex:=[]
 calm:=true
 cp:=fun _=>true
 fn:=fun _=>true
 pn:=[]
 xe:=fun e s'=>wpAny (model P w) (A.deeper (gd qual scope s.heap.objs.size f cd)) (leaving (gd qual scope s.heap.objs.size f cd) e) (fun _ s''=>CX outer H s E e s'') (fun e' s''=>CX outer H s E e' s'') s'
theorem xiE{sc:Scope}{n:Nat}{x:Str}(h:sc.names.lookup x=some .cell):∃c,(cellsFrom n sc.names []).lookup x=some c:=by
 have q:=iA sc.names n [] (.inl h);exact eA.mp q
theorem xhA{CX:CXT}{P:aI}{w:World}{K:ah}{mg:Str→Option Value}{base:Heap}{N ps:List Str}{qual:Str}{scope:Scope}{f:Addr}{cd:Value}{A:aU}{outer:List Env}{s s1:ab}{H:Hp}{E:XK}{us:List Value}{vs:List V}
  (S:xp N ps scope) (hd:A.handled=none) (e0:jR P w K mg base A outer s H) (hl:vs.length=ps.length) (r:Vals vs us)
  (x:InCallC s s.heap.objs.size (bindL (gd qual scope s.heap.objs.size f cd).kindOf (ps.zip us) fun _=>none) (cellsFrom (s.heap.objs.size+1) scope.names []) (bindC (gd qual scope s.heap.objs.size f cd).kindOf (ps.zip us) fun _=>none) s1):
  Inv (xco CX P w K mg base N qual scope f cd A outer s H E) [] (start N vs) H s1:=by
 have hpl:ps.length≤N.length:=by have:=congrArg cC S.pre;rw[bB]at this;lia
 obtain⟨h1,tk,rfl,hk⟩:=x.done;have noA:∀b:Addr,b∉(xco CX P w K mg base N qual scope f cd A outer s H E).ex:=fun b z=>absurd (show b∈([]:List Addr)from z) (by simp);refine⟨⟨e0.mod,S.kind,rfl,rfl,ai _,fun y z c h1 h2=>?_,fun y hy=>?_,fun y c _ h=>?_,fun _=>hd,kh e0.frames,.inr ⟨rfl,rfl⟩,fun b z=>absurd z (noA b),e0.bs,e0.bsz,fun b _ _=>noA b,fun b z=>absurd z (noA b),e0.funs,e0.frf,fun y c _ h=>b7 (x.above y c (PySem.mem_of_lookup h)),fun b hb=>e0.hok.fresh hb⟩,
  rfl,e0.bare,Un.kept hk,⟨_,x.toInCall.ns,fun i y v h1 h2 h3=>?_⟩,fun y c h=>⟨_,x.cell y c h⟩,e0.hok.fresh (ai _),fun y c h=>.inl ?_,fun p hp=>absurd (show p∈([]:List (Addr×Obj))from hp) (by simp),e0.hok.kept hk,?_⟩
 ·exact name_of_addr x.apart (PySem.mem_of_lookup h1) (PySem.mem_of_lookup h2)
 ·have hy:scope.names.lookup y=some .cell∨scope.names.lookup y=some .free:=hy;rcases hy with hy|hy
  ·exact xiE hy
  ·exact absurd rfl (S.nofree _ (PySem.mem_of_lookup hy))
 ·exact b7 (x.above y c (PySem.mem_of_lookup h))
 ·have hi:i<vs.length:=by
   unfold start at h2
   by_cases hi:i<vs.length
   ·exact hi
   ·rw[bI (by simpa using hi)]at h2;rw[iR]at h2
    split at h2<;> cases h2
  have ha:vs[i]? =some v:=by
   unfold start at h2;rw[bo (by simpa using hi),ak]at h2;cases e:vs[i]? with
   |none=>rw[e]at h2;cases h2
   |some a=>rw[e]at h2;cases h2;rfl
  obtain⟨u,hu,rv⟩:=r.get ha;have hp:ps[i]? =some y:=by
   rw[←S.pre,c5 (by lia)];exact h1
  have ndP:ps.Nodup:=by rw[←S.pre];exact S.nd.sublist (List.take_sublist _ _)
  refine⟨u,rv,?_⟩;rcases S.par y (az hp)with k|k
  ·exact .inl ⟨k,xhy ndP hp hu k⟩
  ·obtain⟨c,e⟩:=xiE (n:=s.heap.objs.size+1) k;refine .inr ⟨.inl k,c,e,?_⟩;have q:=x.cell y c e;rw[xhz ndP hp hu (by show scope.names.lookup y≠_;rw[k];decide)]at q;exact q
 ·exact e0.hok.fresh (b7 (x.above y c (PySem.mem_of_lookup h)))
 ·unfold start;show _=N.length;rw[aq,aa,gr];lia
theorem xo8{CX:CXT}{P:aI}{w:World}{K:ah}{mg:Str→Option Value}{base:Heap}{k:Nat}{f:Addr}{name qual:Str}{params:cE}{body:List Stmt}{scope:Scope}{dV kV doc pm cdv ct oc:Value}{an od:Option Addr}
  {osl:Array (Option Value)} {N ps:List Str} {sp:Sp} (lk:K.lookup f=some ⟨oc,od,.func (cT name qual params body scope dV kV doc pm an cdv ct),osl⟩) (hcd:du K cdv qual=true) (S:xp N ps scope)
  (len:∀vs H Q E,sp vs H Q E→vs.length=ps.length)
  (hbody:∀(A:aU) (outer:List Env) (s:ab) (H:Hp) (vs:List V) (Q:VK) (E:XK),xW k (A.deeper (gd qual scope s.heap.objs.size f cdv))→sp vs H Q E→
   ∃t,PSs (xco CX P w K mg base N qual scope f cdv A outer s H E) body t∧t {nx:=fun _ H'=>Q .non H',rt:=Q} (start N vs) H):
  xv P w K mg base CX (k+1) f (cT name qual params body scope dV kV doc pm an cdv ct) ps sp:=by
 refine⟨len,fun A outer s H args us vs Q E hr e0 hb r hsp=>?_⟩;have hl:=len _ _ _ _ hsp;have KX:K.In s.heap:=e0.mod.kin.keeps fun b o e=>(e0.bs b o e).1;have lim:s.heap.NoLimit:=e0.mod.nolimit.keeps fun b o e=>(e0.bs b o e).1;have hkind:∀y∈ps.zip us,scope.names.lookup y.1=some .local∨(scope.names.lookup y.1=some .cell∧((cellsFrom (s.heap.objs.size+1) scope.names []).lookup y.1).isSome=true):=fun⟨n,v⟩ hy=>by
  rcases S.par n (fG hy).1 with q|q
  ·exact .inl q
  ·exact .inr ⟨q,iA _ _ _ (.inl q)⟩
 refine gs hr.depth (KX _ _ lk) rfl S.co S.gen rfl (W.codeRec_of KX hcd) (hb _ _ _ _ ?_);refine ia S.kind hkind fun env he s1 x=>?_;subst he;refine⟨lim.keeps x.toInCall.keep,codeAny_func ?_⟩;obtain⟨t,ht,hq⟩:=hbody A outer s H vs Q E (hr.deeper _) hsp;have I:Inv (xco CX P w K mg base N qual scope f cdv A outer s H E) [] (start N vs) H s1:=xhA S hr.hd e0 hl r x;refine aY (ht [] s1 (start N vs) H _ I hq) (fun fl s' hs=>?_) fun e s' hs=>hs;have fin:∀{σ':St} {H':Hp} {v:V} {u:Value},Inv (xco CX P w K mg base N qual scope f cdv A outer s H E) [] σ' H' s'→RelV v u→Q v H'→CE outer P w H s Q u s':=
  fun{σ' H' v u} J rv q=>⟨v,H',J.os,J.bare,J.base,J.hok,rv,q⟩
 cases fl with
 |ret u=>
  obtain⟨v,σ',H',J,rv,q⟩:=hs;exact fin J rv q
 |next=>
  obtain⟨σ',H',J,q⟩:=hs;exact fin (v:=V.non) (u:=bq) J rfl q
 |brk=>
  obtain⟨_,_,_,q⟩:=hs;exact bH q
 |cont=>
  obtain⟨_,_,_,q⟩:=hs;exact bH q
end L2
namespace L2
open PySem PySem.Spec PyProof.Rows
section
variable {X:Cx} {x:Str} {p pos:Pos} {e:Expr} {es:List Expr} {t:TA} {id T:String} {r:List V→Hp→VK→Prop}
def tCB(r:List V→Hp→VK→Prop)(t:TA):TE:=fun σ H Q=>t σ H fun vs H1=>r vs H1 Q
theorem xu(hc:yw X (.builtin id) r)(hg:Gl X x)(hm:X.mg x=none)(hv:bG x=some (.builtin id))(ha:PA X (e::es) t)(hn:x≠"__name__":=by decide)(hdb:(x==("__debug__":Str))=false:=by decide)
  (he:aR (e::es) X.env=(false,eval e X.env)::aR es X.env:=by rfl) (hpl:(cH pos (aR es X.env)).any (·.1)=false:=by rfl):PE X (.Call (.Name x p) (e::es) [] pos) (tCB r t):=by
 intro pins s σ H Q I h;refine bW (yW I hg hm hv ?_ hn hdb);refine PyProof.Rows.callWith_builtin1 (thn (ha pos pins s σ H _ I h) fun us s1 hh33=>?_) he hpl;obtain⟨vs,H1,I1,r1,q1⟩:=hh33;exact hc pins s1 σ H1 vs us Q I1 r1 q1
theorem yb(hc:yw X (.type T) r)(hg:Gl X x)(hm:X.mg x=none)(hv:bG x=some (.type T))(ha:PA X (e::es) t)(hn:x≠"__name__":=by decide)(hdb:(x==("__debug__":Str))=false:=by decide)
  (he:aR (e::es) X.env=(false,eval e X.env)::aR es X.env:=by rfl) (hpl:(cH pos (aR es X.env)).any (·.1)=false:=by rfl):PE X (.Call (.Name x p) (e::es) [] pos) (tCB r t):=by
 intro pins s σ H Q I h;refine bW (yW I hg hm hv ?_ hn hdb);refine bM (thn (ha pos pins s σ H _ I h) fun us s1 hh34=>?_) he hpl;obtain⟨vs,H1,I1,r1,q1⟩:=hh34;exact hc pins s1 σ H1 vs us Q I1 r1 q1
end
end L2
namespace HT
open PySem PyProof.Rows
def lexLt:List Int→List Int→Bool
 |[],[]=>false
 |[],_::_=>true
 |_::_,[]=>false
 |x::xs,y::ys=>if x=y then lexLt xs ys else decide (x<y)
theorem zr(x y:Int)(xs ys:List Int):lexLt (x::xs) (y::ys)=if x=y then lexLt xs ys else decide (x<y):=rfl
theorem xh5:lexLt [] []=false:=rfl
theorem xgJ(y:Int)(ys:List Int):lexLt [] (y::ys)=true:=rfl
theorem xgK(x:Int)(xs:List Int):lexLt (x::xs) []=false:=rfl
theorem xiF(A:aU)(s:ab)(a:Int)(t:Tok)(c:Int)(u:Tok):∃e,lD A s (.int a t) (.int c u) e∧(e=true↔a=c):=
 ⟨(a==c),kX a t c u,by simp⟩
theorem xiG(A:aU)(s:ab)(a:Int)(t:Tok)(c:Int)(u:Tok)(prog:aI)(w:World)(E:Value→ab→Prop)(Q:Value→ab→Prop)(h:Q (.bool (decide (a<c))) s):
  wpAny (model prog w) A (richCompare .Lt (.int a t) (.int c u)) Q E s:=
 (PyProof.Rows.lt_int h:wpAny (model prog w) A (bE .Lt (.int a t) (.int c u)) Q E s)
section
open PySem.SeqAt
open PySem.AutoSeq1 (wpAny_loadPart')
open PySem.MeetsSeq PySem.MeetsSeq2 PySem.MeetsSeq3
theorem xh6(l b:Addr)(items items2:Array Value)(n n2:Nat)(dd dd2:Option Addr)(sl sl2:Array (Option Value))(ns ms:List Int)(hi:cL items.toList ns)(hj:cL items2.toList ms):
  Meets (ff.«tuple.__lt__» ⟨[.ref l,.ref b],[]⟩)
   (fun _ R s=>s.heap.get? l=some {cls:=.type "tuple",dict:=dd,data:=.seq items n,slots:=sl}∧s.heap.get? b=some {cls:=.type "tuple",dict:=dd2,data:=.seq items2 n2,slots:=sl2}∧
    R (.ok (.ret (.bool (lexLt ns ms)))) s):=
 .of_wp fun prog w A R s h=>by
  obtain⟨hp,g,d,tk,os⟩:=s;obtain⟨hl,hb,h⟩:=h;have f2:=AutoSeq1.sub_tuple_tuple;have z1:items.size=ns.length:=by rw[←hi.length];simp
  have z2:items2.size=ms.length:=by rw[←hj.length];simp
  wp_walk using bJ hl,bJ hb,wpAny_forIn_list _ (fun rest b s'=>b.1=none∧s'=⟨hp,g,d,tk,os⟩∧∃(vs ws:List Value) (ns' ms':List Int),rest=vs.zip ws∧
   cL vs ns'∧cL ws ms'∧ns'.length+items2.size=ms'.length+items.size∧R (.ok (.ret (.bool (lexLt ns' ms')))) ⟨hp,g,d,tk,os⟩) _
  case turn=>
   rintro⟨y,x⟩ rest b s' ⟨hb',rfl,vs,ws,ns',ms',hz,hvi,hwi,hlen,hR⟩;cases hvi with
   |nil=>rw[List.zip_nil_left]at hz;cases hz
   |cons a t hvi'=>
    cases hwi with
    |nil=>rw[List.zip_nil_right]at hz;cases hz
    |cons c u hwi'=>
     rw[kY]at hz;injection hz with hyx hrest;injection hyx with hy hx;subst hy hx;rw[zr]at hR;simp only[bj]at hlen;obtain⟨e,he,hiff⟩:=xiF A.in1 ⟨hp,g,d,tk,os⟩ a t c u;refine ae (he prog w _ _ ?_);cases e with
     |true=>
      rw[if_pos (hiff.mp rfl)]at hR
      wp_walk
      exact⟨rfl,rfl,_,_,_,_,hrest,hvi',hwi',by lia,hR⟩
     |false=>
      rw[if_neg (fun q=>absurd (hiff.mpr q) aH)]at hR;have hri:=xiG A.in1 ⟨hp,g,d,tk,os⟩ a t c u prog w
      wp_walk using hri
      exact⟨_,rfl,by simpa using hR⟩
  case fin=>
   rintro⟨b1,b2⟩ s' ⟨hb',rfl,vs,ws,ns',ms',hz,hvi,hwi,hlen,hR⟩;simp only at hb';subst hb';have hv:lexLt ns' ms'=decide (items.size<items2.size):=by
    cases hvi with
    |nil=>
     cases hwi with
     |nil=>
      simp only[fH]at hlen;rw[xh5];exact(decide_eq_false (by lia)).symm
     |cons c u hw=>
      simp only[fH,bj]at hlen;rw[xgJ];exact(decide_eq_true (by lia)).symm
    |cons a t hv=>
     cases hwi with
     |nil=>
      simp only[fH,bj]at hlen;rw[xgK];exact(decide_eq_false (by lia)).symm
     |cons c u hw=>
      rw[kY]at hz;cases hz
   rw[hv]at hR
   wp_walk
   exact⟨_,rfl,by simpa [Builtin.Tuple.tupleCompareSizes]using hR⟩
  case h=>
   exact⟨rfl,rfl,items.toList,items2.toList,ns,ms,rfl,hi,hj,by lia,h⟩
end
section
variable {prog:aI} {w:World} {A:aU} {E:Value→ab→Prop} {s:ab}
theorem xlv{l b:Addr}{items items2:Array Value}{ns ms:List Int}{Q:Value→ab→Prop}(hl:IsTup s.heap l items)(hb:IsTup s.heap b items2)(hi:cL items.toList ns)(hj:cL items2.toList ms)
  (hu:A.units<cLine) (h:Q (.bool (lexLt ns ms)) s):wpAny (model prog w) A (bE .Lt (.ref l) (.ref b)) Q E s:=by
 obtain⟨⟨cls,dd,data,sl⟩,ho,hc,n,hd⟩:=id hl;obtain⟨⟨cls2,dd2,data2,sl2⟩,ho2,hc2,n2,hd2⟩:=id hb;simp only at hc hd hc2 hd2;subst hc hd hc2 hd2;exact richCompare_meets_room (op:=.Lt) ⟨_,ho,rfl⟩ ⟨_,ho2,rfl⟩ PySem.F.slot_tuple_lt PySem.F.entry_tuple_lt (PySem.F.args_tuple_lt_2 _ _) (xh6 l b items items2 n n2 dd dd2 sl sl2 ns ms hi hj)
  ⟨ho,ho2,show dF (lexLt ns ms)≠ki∧Q (.bool (lexLt ns ms)) s from⟨(fun x=>nomatch x),h⟩⟩ hu
theorem xpu{t b:Addr}{vs ws:List Value}{Q:Value→ab→Prop}(ht:IsTup s.heap t vs.toArray)(hb:IsTup s.heap b ws.toArray)(hv:vs≠[])
  (h1:ws=[]→Q (.ref t) s) (h2:ws≠[]→Q (.ref s.heap.objs.size) {s with heap:=s.heap.push {cls:=.type "tuple",data:=.seq (vs++ws).toArray}})
  (hsz:vs.length+ws.length≤aL):wpAny (model prog w) A (df .Add (.ref t) (.ref b)) Q E s:=by
 obtain⟨⟨cls,dd,data,sl⟩,ho,hc,n,hd⟩:=id ht;obtain⟨⟨cls2,dd2,data2,sl2⟩,ho2,hc2,n2,hd2⟩:=id hb;simp only at hc hd hc2 hd2;subst hc hd hc2 hd2;have e:vs.toArray++ws.toArray=(vs++ws).toArray:=by simp
 by_cases hw:ws=[]
 ·exact concat_meets ⟨_,ho,rfl⟩ ⟨_,ho2,rfl⟩ noFill_tuple_add seq_tuple_add PySem.F.slot_tuple_add PySem.F.entry_tuple_add (PySem.F.args_tuple_add_2 _ _)
   (tuple_addW1 t b vs.toArray ws.toArray n n2 dd dd2 sl sl2 (by simpa using hv) (by simp[hw])) ⟨ho,ho2,h1 hw⟩
 ·refine concat_meets ⟨_,ho,rfl⟩ ⟨_,ho2,rfl⟩ noFill_tuple_add seq_tuple_add PySem.F.slot_tuple_add PySem.F.entry_tuple_add (PySem.F.args_tuple_add_2 _ _)
   (tuple_addW2 t b vs.toArray ws.toArray n n2 dd dd2 sl sl2 (by simpa using hv) (by simpa using hw) (by rw[aE,aE];exact hsz)) ⟨ho,ho2,?_⟩
  rw[e];exact h2 hw
def sIx(n d:Nat):Option Int→Nat
 |none=>d
 |some v=>if v<0 then(v+(n:Int)).toNat else min v.toNat n
theorem jj(n d:Nat):sIx n d none=d:=rfl
end
end HT
namespace L2
open PySem PySem.Spec PyProof.Rows
abbrev TO:=St→Hp→(Option Int→Hp→Prop)→Prop
def PO(X:Cx)(e:Option Expr)(t:TO):Prop:=
 ∀(pins:List (Addr×Obj)) (s:ab) (σ:St) (H:Hp) (Q:Option Int→Hp→Prop),Inv X pins σ H s→t σ H Q→
  wpAny (model X.prog X.w) X.A (evalPart e X.env) (fun u s'=>∃o H',Inv X pins σ H' s'∧IsPart u o∧Q o H') X.xe s
def xpv:TO:=fun _ H Q=>Q none H
def xrO(t:TE):TO:=fun σ H Q=>t σ H fun x H1=>∃i,x= .int i∧Q (some i) H1
theorem intsAre_of{ns:List Int}:∀{us:List Value},Vals (ns.map V.int) us→cL us ns:=by
 induction ns with
 |nil=>intro us r;rw[kZ]at r;cases r;exact .nil
 |cons n ns ih=>
  intro us r;rw[bg]at r;cases r with
  |cons r1 r2=>
   obtain⟨t,e⟩:=r1;subst e;exact .cons n t (ih r2)
section
variable {X:Cx} {e:Expr} {te:TE} {lo hi:Option Expr} {tl th:TO} {pos p2:Pos}
theorem ue:PO X none xpv:=by
 intro pins s σ H Q I h;rw[evalPart_none];exact aA ⟨none,H,I,.none,h⟩
theorem yc(h:PE X e te):PO X (some e) (xrO te):=by
 intro pins s σ H Q I hw;rw[evalPart_some];refine thn (h pins s σ H _ I hw) fun u s1 hh35=>?_;obtain⟨x,H1,I1,r1,q1⟩:=hh35;obtain⟨i,rfl,q⟩:=q1;obtain⟨t,rfl⟩:=r1;exact⟨some i,H1,I1,.int i t,q⟩
def SlR(X:Cx)(r:V→Option Int→Option Int→Hp→VK→Prop):Prop:=
 ∀(pins:List (Addr×Obj)) (s:ab) (σ:St) (H:Hp) (x:V) (v vl vu:Value) (lo hi:Option Int) (sl:Addr) (Q:VK),Inv X pins σ H s→RelV x v→s.heap.IsSliceOf sl vl vu .none→IsPart vl lo→IsPart vu hi→r x lo hi H Q→
  ∃T id,il (.type T) "__getitem__"=pure (some (.builtin id))∧s.TypeIs v T∧wpAny (model X.prog X.w) X.A (getItem v (.ref sl)) (EP X pins σ Q) X.xe s
def tSl(r:V→Option Int→Option Int→Hp→VK→Prop)(te:TE)(tl th:TO):TE:=fun σ H Q=>te σ H fun x H1=>tl σ H1 fun l H2=>th σ H2 fun u H3=>r x l u H3 Q
theorem yn{r:V→Option Int→Option Int→Hp→VK→Prop}(hr:SlR X r)(he:PE X e te)(hl:PO X lo tl)(hu:PO X hi th):PE X (.Subscript e (.Slice lo hi none p2) pos) (tSl r te tl th):=by
 intro pins s σ H Q I h;refine Subscript_ (thn (he pins s σ H _ I h) fun v s1 hh36=>?_);obtain⟨x,H1,I1,r1,q1⟩:=hh36;refine wpAny_Slice (thn (hl pins s1 σ H1 _ I1 q1) fun vl s2 hh37=>?_);obtain⟨l,H2,I2,pl,q2⟩:=hh37;refine thn (hu pins s2 σ H2 _ I2 q2) fun vu s3 hh38=>?_;obtain⟨u,H3,I3,pu,q3⟩:=hh38;rw[evalPart_none];refine aA ?_;have I4:Inv X pins σ H3 {s3 with heap:=s3.heap.push {cls:=.type "slice",data:=.fields #[vl,vu,.none]}}:=I3.kept (t':=s3.toks) fun b ob q=>af _ q;obtain⟨T,id,hT,ht,hg⟩:=hr pins {s3 with heap:=s3.heap.push {cls:=.type "slice",data:=.fields #[vl,vu,.none]}} σ H3 x v vl vu l u s3.heap.objs.size Q I4 r1 (Heap.IsSliceOf.new ..) pl pu q3;show wpAny (model X.prog X.w) X.A (subscriptTail e (.Slice lo hi none p2) v (.ref s3.heap.objs.size)) (EP X pins σ Q) X.xe {s3 with heap:=s3.heap.push {cls:=.type "slice",data:=.fields #[vl,vu,.none]}};exact tail_any (ops:=[.ref s3.heap.objs.size,v]) ht hT hg (by with_unfolding_all rfl)
def uh(xs:List V)(lo hi:Option Int):List V:=(xs.drop (HT.sIx xs.length 0 lo)).take (HT.sIx xs.length xs.length hi - HT.sIx xs.length 0 lo)
theorem xj7(xs:List V)(lo hi:Option Int):(uh xs lo hi).length≤xs.length:=by
 unfold uh;rw[bB,aO];lia
def xrP(K:ah):R2:=fun x y H Q=>∃a b xs ys,x= .ref a∧y= .ref b∧SqT K H a xs∧SqT K H b ys∧xs≠[]∧xs.length+ys.length≤aL∧
 (ys=[]→Q (.ref a) H)∧(ys≠[]→∀p,H p=none→Q (.ref p) (upd H p (.tup (xs++ys))))
theorem Vals.nil_iff{xs:List V}{us:List Value}(r:Vals xs us):us=[]↔xs=[]:=by
 cases r with
 |nil=>simp
 |cons _ _=>simp
theorem xpw:OpR X (df .Add) (xrP X.K):=by
 intro pins s σ H x y v u Q I rx ry h;obtain⟨a,b,xs,ys,rfl,rfl,ha,hb,hx,hz,q1,q2⟩:=h;cases rx;cases ry;obtain⟨its,r1,p1,_⟩:=I.tuple ha;obtain⟨its2,r2,p2,_⟩:=I.tuple hb;refine HT.xpu p1 p2 (fun z=>hx (r1.nil_iff.mp z)) (fun z=>⟨.ref a,H,I,rfl,q1 (r2.nil_iff.mp z)⟩) (fun z=>?_) (by rw[←r1.length,←r2.length];exact hz);refine⟨.ref s.heap.objs.size,_,I.laid (t':=s.toks) (o:=.tup (xs++ys)) (fun b ob q=>af _ q) (ai _) ?_,rfl,q2 (fun w=>z (r2.nil_iff.mpr w)) _ (I.hok.fresh (ai _))⟩;exact⟨by rw[aq];exact hz,_,r1.append r2,IsTup.new _ _⟩
end
end L2
namespace L2
open PySem PySem.Spec PyProof.Rows
def ixN(n:Nat)(i:Int):Option Nat:=if 0≤i then(if i<n then some i.toNat else none)else if -(n:Int)≤i then some (i+n).toNat else none
def atI{α:Type}(xs:List α)(i:Int):Option α:=(ixN xs.length i).bind fun j=>xs[j]?
theorem xkN{n:Nat}{i:Int}{j:Nat}(h:ixN n i=some j):seqIndex? i n=some j∧j<n∧-(n:Int)≤i∧i<n:=by
 unfold ixN at h
 by_cases h0:0≤i
 ·rw[if_pos h0]at h
  by_cases h1:i<n
  ·rw[if_pos h1]at h;have e:i.toNat=j:=bD h;exact⟨by rw[seqIndex_of h0 h1,e],by lia,by lia,h1⟩
  ·rw[if_neg h1]at h;cases h
 ·rw[if_neg h0]at h
  by_cases h1: -(n:Int)≤i
  ·rw[if_pos h1]at h;have e:(i+n).toNat=j:=bD h;exact⟨by rw[seqIndex_neg (by lia) h1,e],by lia,h1,by lia⟩
  ·rw[if_neg h1]at h;cases h
theorem xkO{α:Type}{xs:List α}{i:Int}{v:α}(h:atI xs i=some v):∃j,seqIndex? i xs.length=some j∧xs[j]? =some v∧j<xs.length∧-(xs.length:Int)≤i∧i<xs.length:=by
 unfold atI at h;cases e:ixN xs.length i with
 |none=>rw[e]at h;cases h
 |some j=>
  rw[e]at h;obtain⟨h1,h2,h3,h4⟩:=xkN e;exact⟨j,h1,h,h2,h3,h4⟩
theorem zc{α:Type}{xs:List α}{j:Nat}{v:α}(h:xs[j]? =some v):atI xs (j:Int)=some v:=by
 have hj:j<xs.length:=(au.mp h).1;have e:ixN xs.length (j:Int)=some j:=by
  unfold ixN;rw[if_pos (by lia),if_pos (by lia)];simp
 unfold atI;rw[e];exact h
def xpx(b:Expr):Prop:=∀o i,subscripted b false o i=operate [o,i] (getItem o i)
def IxR(X:Cx)(r:R2):Prop:=
 ∀(value slice:Expr) (pins:List (Addr×Obj)) (s:ab) (σ:St) (H:Hp) (x y:V) (v u:Value) (Q:VK),Inv X pins σ H s→RelV x v→RelV y u→r x y H Q→
  subscripted slice false v u=operate [v,u] (getItem v u)→wpAny (model X.prog X.w) X.A (subscriptTail value slice v u) (EP X pins σ Q) X.xe s
def MtR(X:Cx)(id:String)(r:V→List V→Hp→VK→Prop):Prop:=
 ∀(pins:List (Addr×Obj)) (s:ab) (σ:St) (H:Hp) (x:V) (xs:List V) (v:Value) (us:List Value) (Q:VK),Inv X pins σ H s→RelV x v→Vals xs us→r x xs H Q→
  wpAny (model X.prog X.w) X.A (call (.builtin id) (v::us)) (EP X pins σ Q) X.xe s
section
variable {X:Cx} {a b:Expr} {ta tb:TE} {pos:Pos}
theorem xB{r:R2}(hr:IxR X r)(ha:PE X a ta)(hb:PE X b tb)(hs:xpx b):PE X (.Subscript a b pos) (tOp r ta tb):=by
 intro pins s σ H Q I h;exact Subscript_ (xnY ha hb I h fun v u s2 x y H2 I2 rx ry q=>hr a b pins s2 σ H2 x y v u Q I2 rx ry q (hs _ _))
def xqT(K:ah):R2:=fun x y H Q=>∃p xs i v,x= .ref p∧y= .int i∧SqL K H p xs∧atI xs i=some v∧Q v H
def xqU(K:ah):R2:=fun x y H Q=>∃p xs i v,x= .ref p∧y= .int i∧SqT K H p xs∧atI xs i=some v∧Q v H
theorem yK:IxR X (xqT X.K):=by
 intro value slice pins s σ H x y v u Q I rx ry h hs;obtain⟨p,xs,i,z,rfl,rfl,hq,he,q⟩:=h;cases rx;obtain⟨t,rfl⟩:=ry;obtain⟨its,r,pl,hz⟩:=I.list hq;obtain⟨j,h1,h2,h3,h4,h5⟩:=xkO he;obtain⟨w,ew,rw'⟩:=r.get h2;have hl:=r.length;have hn:=xdd;have fin:EP X pins σ Q w s:=⟨z,H,I,rw',q⟩
 by_cases h0:0≤i
 ·have hj:i.toNat=j:=by
   rw[seqIndex_of h0 h5]at h1;exact bD h1
  exact item_listR pl.isList h0 (by lia) (by rw[hj];simpa using ew) fin hs
 ·have hj:(i+(its.toArray.size:Int)).toNat=j:=by
   rw[seqIndex_neg (by lia) h4]at h1;rw[aE,←hl];exact bD h1
  exact subscriptTail_builtinR (x:=w) pl.isList.typeIs slot_list_getitem.lookup
   (wpAny_getItem_list_neg (Q:=fun r s'=>r=w∧EP X pins σ Q r s') pl.isList (by lia) (by rw[aE]<;> lia) (by lia) (by rw[hj];simpa using ew) ⟨rfl,fin⟩) hs
theorem xE:IxR X (xqU X.K):=by
 intro value slice pins s σ H x y v u Q I rx ry h hs;obtain⟨p,xs,i,z,rfl,rfl,hq,he,q⟩:=h;cases rx;obtain⟨t,rfl⟩:=ry;obtain⟨its,r,pl,hz⟩:=I.tuple hq;obtain⟨j,h1,h2,h3,h4,h5⟩:=xkO he;obtain⟨w,ew,rw'⟩:=r.get h2;have hl:=r.length;have hn:=xdd;have fin:EP X pins σ Q w s:=⟨z,H,I,rw',q⟩;exact subscriptTail_builtinR (x:=w) pl.typeIs slot_tuple_getitem.lookup
  (getItem_tuple (j:=j) (Q:=fun r s'=>r=w∧EP X pins σ Q r s') pl (by lia) (by lia) (by rw[aE,←hl];exact h1) (by simpa using ew) ⟨rfl,fin⟩) hs
theorem xlw(its:List Value)(n j:Nat)(u:Value):aW (·.setIfInBounds j u) {cls:=.type "list",data:=.seq its.toArray n}={cls:=.type "list",data:=.seq (its.set j u).toArray n}:=by
 simp[aW]
theorem Inv.lst{pins:List (Addr×Obj)}{σ:St}{H:Hp}{s:ab}{p:Addr}{xs:List V}(I:Inv X pins σ H s)(h:H p=some (.lst xs)):
  ∃(its:List Value) (n:Nat),Vals xs its∧s.heap.get? p=some {cls:=.type "list",data:=.seq its.toArray n}∧xs.length≤aL:=by
 obtain⟨z,its,n,r,e⟩:=I.hok p _ h;exact⟨its,n,r,e,z⟩
theorem Inv.lstUpd{pins:List (Addr×Obj)}{σ:St}{H:Hp}{s:ab}{p:Addr}{xs ys:List V}{its its':List Value}{n n':Nat}{f:Obj→Obj}(I:Inv X pins σ H s)(h:H p=some (.lst xs))
  (ho:s.heap.get? p=some {cls:=.type "list",data:=.seq its.toArray n}) (hf:f {cls:=.type "list",data:=.seq its.toArray n}={cls:=.type "list",data:=.seq its'.toArray n'}) (r:Vals ys its') (hz:ys.length≤aL) (t:Nat):
  Inv X pins σ (upd H p (.lst ys)) {s with heap:=s.heap.update p f,toks:=t}:=by
 have e:(s.heap.update p f).get? p=some {cls:=.type "list",data:=.seq its'.toArray n'}:=by
  rw[cJ f ho (by rw[hf]<;> rfl),hf]
 refine I.write (x:=p) (e:=p) (by rw[h];trivial) (.inl rfl) (fun b u hb q=>(bA _ _ (a8 hb)).trans q) ⟨_,e⟩ ?_;exact⟨hz,its',n',r,e⟩
def xrQ:V→V→V→Hp→(Hp→Prop)→Prop:=fun o i v H Q=>∃p xs k j,o= .ref p∧i= .int k∧H p=some (.lst xs)∧ixN xs.length k=some j∧Q (upd H p (.lst (xs.set j v)))
theorem set_list:xqH X xrQ:=by
 intro pins s σ H o i v ov iv u Q I ro ri rv h;obtain⟨p,xs,k,j,rfl,rfl,hp,hj,q⟩:=h;cases ro;obtain⟨t,rfl⟩:=ri;obtain⟨its,n,r,ho,hz⟩:=I.lst hp;obtain⟨h1,h2,h3,h4⟩:=xkN hj;have hl:=r.length;have hn:=xdd;have I':Inv X pins σ (upd H p (.lst (xs.set j v))) {s with heap:=s.heap.update p (aW (·.setIfInBounds j u))}:=
  I.lstUpd hp ho (xlw its n j u) (r.set rv j) (by rw[gA];exact hz) s.toks
 by_cases h0:0≤k
 ·have hk:k.toNat=j:=by
   rw[seqIndex_of h0 h4]at h1;exact bD h1
  exact W.ki_setAt ho h0 (by lia) (by rw[aE,←hl];exact h4) (by rw[hk];exact⟨_,I',q⟩)
 ·have hk:(k+(its.toArray.size:Int)).toNat=j:=by
   rw[seqIndex_neg (by lia) h3]at h1;rw[aE,←hl];exact bD h1
  exact W.ki_setBack ho (by lia) (by rw[aE,←hl];exact h3) (by lia) (by rw[hk];exact⟨_,I',q⟩)
theorem xiH(lo hi:Option Int)(n:Nat):(fB lo hi none n).1=((HT.sIx n 0 lo:Nat):Int)∧(fB lo hi none n).2.1=((HT.sIx n n hi:Nat):Int)∧(fB lo hi none n).2.2=1:=by
 refine⟨?_,?_,rfl⟩
 ·cases lo with
  |none=>simp[fB,HT.sIx]
  |some i=>
   simp only[fB,HT.sIx,lC,show(1:Int) > 0 by decide,if_true]
   by_cases h:i<0
   ·simp only[h,if_true]<;> lia
   ·simp only[h,if_false]<;> lia
 ·cases hi with
  |none=>simp[fB,HT.sIx]
  |some i=>
   simp only[fB,HT.sIx,lC,show(1:Int) > 0 by decide,if_true]
   by_cases h:i<0
   ·simp only[h,if_true]<;> lia
   ·simp only[h,if_false]<;> lia
theorem xh7(its:List Value)(lo hi:Option Int):slicePick its.toArray lo hi none=((its.drop (HT.sIx its.length 0 lo)).take (HT.sIx its.length its.length hi - HT.sIx its.length 0 lo)).toArray:=by
 obtain⟨h1,h2,h3⟩:=xiH lo hi its.toArray.size;unfold slicePick;rw[h1,h2,h3];simp only[sliceRange_one,pick_run,aE]<;> rfl
def xqV(K:ah):V→Option Int→Option Int→Hp→VK→Prop:=fun x lo hi H Q=>∃a xs,x= .ref a∧SqL K H a xs∧∀p,H p=none→Q (.ref p) (upd H p (.lst (uh xs lo hi)))
theorem yL:SlR X (xqV X.K):=by
 intro pins s σ H x v vl vu lo hi sl Q I rx hs pl pu h;obtain⟨a,xs,rfl,hx,q⟩:=h;cases rx;obtain⟨its,r,ht,hz⟩:=I.list hx;have hlen:=r.length;refine⟨"list",_,slot_list_getitem.lookup,ht.isList.typeIs,?_⟩;refine wpAny_getItem_list_slice ht.isList hs pl pu .none (by simp) ?_ (by rw[aE]<;> lia);rw[xh7,←hlen];refine⟨.ref s.heap.objs.size,_,I.laid (t':=s.toks) (o:=.lst (uh xs lo hi)) (fun b ob q=>af _ q) (ai _) ?_,rfl,q _ (I.hok.fresh (ai _))⟩;exact⟨a7 (xj7 xs lo hi) hz,_,0,(r.drop (HT.sIx xs.length 0 lo)).take (HT.sIx xs.length xs.length hi - HT.sIx xs.length 0 lo),aB _ rfl⟩
def xai:V→Bool
 | .non=>true
 | .bl _=>true
 | .int _=>true
 | .str _=>true
 |_=>false
def eqV:V→V→Bool
 | .non,.non=>true
 | .bl a,.bl b=>a==b
 | .bl a,.int b=>(if a then 1 else 0)==b
 | .int a,.bl b=>a==(if b then 1 else 0)
 | .int a,.int b=>a==b
 | .str a,.str b=>a==b
 |_,_=>false
theorem xqW{A:aU}{s:ab}{y x:V}{u v:Value}(ry:RelV y u)(rx:RelV x v)(fy:xai y=true)(fx:xai x=true):lD A s u v (eqV y x):=by
 cases y with
 |non=>
  cases ry;cases x with
  |non=>cases rx;exact SeqAt.EqAt.same _
  |bl b=>cases rx;exact SeqAt.EqAt.none_bool b
  |int b=>obtain⟨t,rfl⟩:=rx;exact SeqAt.EqAt.none_int b t
  |str b=>obtain⟨t,rfl⟩:=rx;exact SeqAt.EqAt.none_str b t
  |_=>exact absurd (show false=true from fx) aH
 |bl a=>
  cases ry;cases x with
  |non=>cases rx;exact SeqAt.EqAt.bool_none a
  |bl b=>cases rx;exact SeqAt.EqAt.bool_bool a b
  |int b=>obtain⟨t,rfl⟩:=rx;exact SeqAt.EqAt.bool_int a b t
  |str b=>obtain⟨t,rfl⟩:=rx;exact SeqAt.EqAt.bool_str a b t
  |_=>exact absurd (show false=true from fx) aH
 |int a=>
  obtain⟨t',rfl⟩:=ry;cases x with
  |non=>cases rx;exact SeqAt.EqAt.int_none a t'
  |bl b=>cases rx;exact SeqAt.EqAt.int_bool a t' b
  |int b=>obtain⟨t,rfl⟩:=rx;exact kX a t' b t
  |str b=>obtain⟨t,rfl⟩:=rx;exact kP a t' b t
  |_=>exact absurd (show false=true from fx) aH
 |str a=>
  obtain⟨t',rfl⟩:=ry;cases x with
  |non=>cases rx;exact SeqAt.EqAt.str_none a t'
  |bl b=>cases rx;exact SeqAt.EqAt.str_bool a t' b
  |int b=>obtain⟨t,rfl⟩:=rx;exact kQ a t' b t
  |str b=>obtain⟨t,rfl⟩:=rx;exact SeqAt.EqAt.str_str a t' b t
  |_=>exact absurd (show false=true from fx) aH
 |_=>exact absurd (show false=true from fy) aH
def eqU(x:V)(u:Value):Bool:=match u with
 | .none=>eqV .non x
 | .bool b=>eqV (.bl b) x
 | .int i _=>eqV (.int i) x
 | .str z _=>eqV (.str z) x
 |_=>false
theorem xmN{x y:V}{u:Value}(r:RelV y u)(f:xai y=true):eqU x u=eqV y x:=by
 cases y with
 |non=>cases r;rfl
 |bl b=>cases r;rfl
 |int i=>obtain⟨t,rfl⟩:=r;rfl
 |str z=>obtain⟨t,rfl⟩:=r;rfl
 |_=>exact absurd (show false=true from f) aH
theorem xgL{x:V}:∀{xs:List V} {us:List Value},Vals xs us→xs.all xai=true→us.any (eqU x)=xs.any fun y=>eqV y x
 |_,_,.nil,_=>rfl
 |y::xs,u::us,.cons r t,f=>by
  rw[List.all_cons,fj]at f;rw[gh,gh,xmN r f.1,xgL t f.2]
theorem xe4{A:aU}{s:ab}{x:V}{v:Value}(rx:RelV x v)(fx:xai x=true):∀{xs:List V} {us:List Value},Vals xs us→xs.all xai=true→∀u∈us,lD A s u v (eqU x u)
 |_,_,.nil,_=>fun u hu=>by cases hu
 |y::xs,u::us,.cons r t,f=>fun u' hu=>by
  rw[List.all_cons,fj]at f;rcases ao.mp hu with rfl|hu
  ·rw[xmN r f.1];exact xqW r rx f.1 fx
  ·exact xe4 rx fx t f.2 u' hu
def inV(x:V)(xs:List V):Bool:=xs.any fun y=>eqV y x
def rIn(K:ah)(neg:Bool):R2:=fun x y H Q=>∃p xs,y= .ref p∧(SqL K H p xs∨SqT K H p xs)∧xai x=true∧xs.all xai=true∧Q (.bl (if neg then !inV x xs else inV x xs)) H
theorem xiI:OpR X (bE .NotIn) (rIn X.K true):=by
 intro pins s σ H x y v u Q I rx ry h;obtain⟨p,xs,rfl,hq,fx,fs,q⟩:=h;cases ry;rcases hq with hq|hq
 ·obtain⟨its,r,pl,hz⟩:=I.list hq;refine SeqAt.notIn_listAt (eqU x) pl.isList (fun w hw=>xe4 rx fx r fs w (by simpa using hw)) ⟨.bl _,H,I,rfl,?_⟩;rw[show its.toArray.any (eqU x)=its.any (eqU x)by simp,xgL r fs];exact q
 ·obtain⟨its,r,pl,hz⟩:=I.tuple hq;refine SeqAt.notIn_tupleAt (eqU x) pl (fun w hw=>xe4 rx fx r fs w (by simpa using hw)) ⟨.bl _,H,I,rfl,?_⟩;rw[show its.toArray.any (eqU x)=its.any (eqU x)by simp,xgL r fs];exact q
theorem xw:yw X (.builtin "len") (fun xs H Q=>∃p ys,xs=[.ref p]∧(SqL X.K H p ys∨SqT X.K H p ys)∧Q (.int ys.length) H):=by
 intro pins s σ H xs us Q I r h;obtain⟨p,ys,rfl,hq,q⟩:=h;obtain⟨u,rfl,rx⟩:=vals1 r;cases rx;have hn:=xdd;rcases hq with hq|hq
 ·obtain⟨its,r',pl,hz⟩:=I.list hq;have hlen:=r'.length;exact Calls.call_len_list pl.isList (by simp only[aE]<;> lia) ⟨.int ys.length,H,I.tok _,⟨s.toks+1,by rw[aE,hlen]⟩,q⟩
 ·obtain⟨its,r',pl,hz⟩:=I.tuple hq;have hlen:=r'.length;exact len_tuple pl (by simp only[aE]<;> lia) ⟨.int ys.length,H,I.tok _,⟨s.toks+1,by rw[aE,hlen]⟩,q⟩
theorem xiJ:yw X (.builtin "len") (fun xs H Q=>∃z,xs=[.str z]∧z.length≤aL∧Q (.int z.length) H):=by
 intro pins s σ H xs us Q I r h;obtain⟨z,rfl,hz,q⟩:=h;obtain⟨u,rfl,t,rfl⟩:=vals1 r;have hn:=xdd;exact len_str (by lia) ⟨.int z.length,H,I.tok _,⟨_,rfl⟩,q⟩
theorem yF:yw X (.type "list") (fun xs H Q=>∃p ys,xs=[.ref p]∧(SqL X.K H p ys∨SqT X.K H p ys)∧∀l,H l=none→Q (.ref l) (upd H l (.lst ys))):=by
 intro pins s σ H xs us Q I r h;obtain⟨p,ys,rfl,hq,q⟩:=h;obtain⟨u,rfl,rx⟩:=vals1 r;cases rx;have fin:∀(its:List Value),Vals ys its→ys.length≤aL→∀(h':Heap) (c':Nat),(∀b o',s.heap.get? b=some o'→h'.get? b=some o')→
   h'.get? s.heap.objs.size=some {cls:=.type "list",dict:=none,data:=.seq its.toArray c',slots:=#[]}→EP X pins σ Q (.ref s.heap.objs.size) {s with heap:=h'}:=fun its r' hz h' c' kp e=>
  ⟨.ref s.heap.objs.size,_,I.laid (t':=s.toks) kp (ai _) (show xH X.prog X.w _ h' _ (.lst ys)from⟨hz,its,c',r',e⟩),rfl,q _ (I.hok.fresh (ai _))⟩
 rcases hq with hq|hq
 ·obtain⟨its,r',pl,hz⟩:=I.list hq;have hlen:=r'.length;obtain⟨o,ho,hc,n,hd⟩:=pl.isList;exact call_list_seq p (.inl rfl) ho hc hd (fun h' c' kp e=>fin its r' hz h' c' kp e) (by simp only[aE]<;> lia)
 ·obtain⟨its,r',pl,hz⟩:=I.tuple hq;have hlen:=r'.length;obtain⟨o,ho,hc,n,hd⟩:=pl;exact call_list_seq p (.inr rfl) ho hc hd (fun h' c' kp e=>fin its r' hz h' c' kp e) (by simp only[aE]<;> lia)
theorem jS:yw X (.type "tuple") (fun xs H Q=>∃p ys,xs=[.ref p]∧((SqL X.K H p ys∧∀l,H l=none→Q (.ref l) (upd H l (.tup ys)))∨(SqT X.K H p ys∧Q (.ref p) H))):=by
 intro pins s σ H xs us Q I r h;obtain⟨p,ys,rfl,h⟩:=h;obtain⟨u,rfl,rx⟩:=vals1 r;cases rx;rcases h with⟨hq,q⟩|⟨hq,q⟩
 ·obtain⟨its,r',pl,hz⟩:=I.list hq;have hlen:=r'.length;refine call_tuple_list pl.isList (fun h' kp=>?_) (by simp only[aE]<;> lia);have I1:Inv X pins σ H {s with heap:=h'}:=I.kept (t':=s.toks) kp;have I2:Inv X pins σ (upd H h'.objs.size (.tup ys)) {s with heap:=h'.push {cls:=.type "tuple",data:=.seq its.toArray}}:=
   I1.laid (t':=s.toks) (fun b o e=>af _ e) (ai _) (show xH X.prog X.w _ _ _ (.tup ys)from⟨hz,its,r',IsTup.new _ _⟩)
  exact⟨.ref h'.objs.size,_,I2,rfl,q _ (I1.hok.fresh (ai _))⟩
 ·obtain⟨its,r',pl,hz⟩:=I.tuple hq;exact call_tuple_same pl ⟨.ref p,H,I,rfl,q⟩
def tyV(K:ah)(T:String)(x:V)(H:Hp):Prop:=match x with
 | .str _=>T="str"
 | .int _=>T="int"
 | .ref p=>(T="list"∧∃xs,SqL K H p xs)∨(T="tuple"∧∃o,K.lookup p=some o∧o.cls= .type "tuple"∧o.dict=none)∨
   (T="dict"∧((∃kvs,H p=some (.dK kvs))∨∃kvs,H p=some (.dT kvs)))∨(T="set"∧∃S n,H p=some (.set S n))
 |_=>False
theorem xmO{pins:List (Addr×Obj)}{σ:St}{H:Hp}{s:ab}{T:String}{x:V}{v:Value}(I:Inv X pins σ H s)(r:RelV x v)(ty:tyV X.K T x H):
  s.TypeIs v T∧∀a,v= .ref a→∃ob,s.heap.get? a=some ob∧ob.dict=none:=by
 cases x with
 |str z=>
  obtain⟨t,rfl⟩:=r;cases (show T="str" from ty);exact⟨typeIs_str s z t,fun _ e=>nomatch e⟩
 |int i=>
  obtain⟨t,rfl⟩:=r;cases (show T="int" from ty);exact⟨typeIs_int s i t,fun _ e=>nomatch e⟩
 |ref p=>
  cases r;rcases ty with⟨rfl,xs,hq⟩|⟨rfl,o,hk,hc,hd⟩|⟨rfl,hk⟩|⟨rfl,S,n,hk⟩
  ·obtain⟨its,_,pl,_⟩:=I.list hq;refine⟨pl.isList.typeIs,fun a e=>?_⟩;cases e;obtain⟨o,n,e,c,hd,_⟩:=pl;exact⟨o,e,hd⟩
  ·refine⟨⟨o,I.kIn p o hk,hc⟩,fun a e=>?_⟩;cases e;exact⟨o,I.kIn _ o hk,hd⟩
  ·have z:∃o,s.heap.get? p=some o∧o.ExactDict:=by
    rcases hk with⟨kvs,hk⟩|⟨kvs,hk⟩
    ·obtain⟨_,_,_,_,o,_,_,e,ex,_⟩:=I.hok p _ hk;exact⟨o,e,ex⟩
    ·obtain⟨_,_,_,_,o,_,_,e,ex,_⟩:=I.hok p _ hk;exact⟨o,e,ex⟩
   obtain⟨o,e,ex⟩:=z;refine⟨⟨o,e,ex.1⟩,fun a e2=>?_⟩;cases e2;exact⟨o,e,ex.2.1⟩
  ·obtain⟨o,_,_,_,e,ex,_⟩:=I.hok p _ hk;refine⟨⟨o,e,ex.1⟩,fun a e2=>?_⟩;cases e2;exact⟨o,e,ex.2.1⟩
 |_=>exact bH ty
def xsw(K:ah)(T:String)(r:V→List V→Hp→VK→Prop)(to:TE):TE:=fun σ H Q=>to σ H fun x H1=>tyV K T x H1∧r x [] H1 Q
def tBM(K:ah)(T:String)(r:V→List V→Hp→VK→Prop)(to:TE)(t:TA):TE:=fun σ H Q=>to σ H fun x H1=>tyV K T x H1∧t σ H1 fun xs H2=>r x xs H2 Q
variable {o e:Expr} {es:List Expr} {to:TE} {t:TA} {name:Str} {apos cpos:Pos} {T id:String} {r:V→List V→Hp→VK→Prop}
theorem xqX(pa:PlainAttrs T)(slot:Slot T name id)(hty:typeOf (.builtin id)=pure (.type "method_descriptor"))(hm:MtR X id r)(ho:PE X o to)
  (hbase:gg o name X.env (eval o X.env)=eval o X.env:=by rfl) (hline:(apos.endLine==cpos.line)=true:=by rfl):PE X (.Call (.Attribute o name apos) [] [] cpos) (xsw X.K T r to):=by
 intro pins s σ H Q I h;refine wpAny_Call_method0_late hbase hline (thn (ho pins s σ H _ I h) fun v s1 hh39=>?_);obtain⟨x,H1,I1,r1,ty,q1⟩:=hh39;obtain⟨h1,h2⟩:=xmO I1 r1 ty;exact⟨T,id,pa,slot,hty,h1,h2,gf rfl (PySem.evalArgs_none (hm pins s1 σ H1 x [] v [] Q I1 r1 .nil q1))⟩
theorem zt(pa:PlainAttrs T)(slot:Slot T name id)(hty:typeOf (.builtin id)=pure (.type "method_descriptor"))(hm:MtR X id r)(ho:PE X o to)(ha:PA X (e::es) t)
  (hbase:gg o name X.env (eval o X.env)=eval o X.env:=by rfl)
  (hfew:((cH cpos (aR (e::es) X.env)).all (fun x=> !x.1)&&(kg cpos (gR [] X.env)).all (fun x=>x.1.isSome)
   &&decide ((e::es).length+([]:List Keyword).length+(if ([]:List Keyword).isEmpty then 0 else 1)<30))=true:=by rfl)
  (hline:(apos.endLine==cpos.line)=true:=by rfl) (hs:aR (e::es) X.env=(false,eval e X.env)::aR es X.env:=by rfl) (hplain:(cH cpos (aR es X.env)).any (·.1)=false:=by rfl):
  PE X (.Call (.Attribute o name apos) (e::es) [] cpos) (tBM X.K T r to t):=by
 intro pins s σ H Q I h;refine wpAny_Call_method_late hbase hfew hline rfl (thn (ho pins s σ H _ I h) fun v s1 hh40=>?_);obtain⟨x,H1,I1,r1,ty,q1⟩:=hh40;obtain⟨h1,h2⟩:=xmO I1 r1 ty;refine⟨T,id,pa,slot,hty,h1,h2,?_⟩;have hA:=ha cpos pins s1 σ H1 _ I1 q1;rw[hs]at hA⊢;refine gf (by show(false||(cH cpos (aR es X.env)).any (·.1))=false;rw[hplain]<;> rfl) (kj ?_);refine thn hA fun us s2 hh41=>?_;obtain⟨vs,H2,I2,r2,q2⟩:=hh41;exact hm pins s2 σ H2 x vs v us Q I2 r1 r2 q2
end
end L2
namespace L2
open PySem PySem.Spec PyProof.Rows
def MtM(X:Cx)(id:String)(r:V→List V→Hp→VK→Prop):Prop:=
 ∀(pins:List (Addr×Obj)) (s:ab) (σ:St) (H:Hp) (x:V) (xs:List V) (v:Value) (us:List Value) (Q:VK),Inv X pins σ H s→RelV x v→Vals xs us→r x xs H Q→
  wpAny (model X.prog X.w) X.A (call (.builtin id) (v::us)) (EP X pins σ Q) X.xe s
theorem Vals.unc{x:V}{xs:List V}{us:List Value}(h:Vals (x::xs) us):∃u r,us=u::r∧RelV x u∧Vals xs r:=by
 cases h with
 |cons a b=>exact⟨_,_,rfl,a,b⟩
theorem Vals.unn{us:List Value}(h:Vals [] us):us=[]:=by cases h;rfl
theorem Vals.one{x:V}{us:List Value}(h:Vals [x] us):∃u,us=[u]∧RelV x u:=by
 obtain⟨u,r,rfl,a,b⟩:=h.unc;obtain rfl:=b.unn;exact⟨u,rfl,a⟩
theorem Vals.two{x y:V}{us:List Value}(h:Vals [x,y] us):∃u v,us=[u,v]∧RelV x u∧RelV y v:=by
 obtain⟨u,r,rfl,a,b⟩:=h.unc;obtain⟨v,rfl,c⟩:=b.one;exact⟨u,v,rfl,a,c⟩
theorem Vals.zero:∀{us:List Value},Vals [] us→us=[]
 |_,.nil=>rfl
theorem Vals.dropLast{xs:List V}{us:List Value}(h:Vals xs us):Vals xs.dropLast us.dropLast:=by
 induction h with
 |nil=>exact .nil
 |cons r t ih=>
  cases t with
  |nil=>exact .nil
  |cons q t'=>exact .cons r ih
theorem Vals.reverse{xs:List V}{us:List Value}(h:Vals xs us):Vals xs.reverse us.reverse:=by
 induction h with
 |nil=>exact .nil
 |cons r t ih=>rw[List.reverse_cons,List.reverse_cons];exact Vals.append ih (.cons r .nil)
theorem Vals.rep{xs:List V}{us:List Value}(h:Vals xs us):∀k:Nat,Vals (bu k xs).flatten (bu k us).flatten
 |0=>.nil
 |k+1=>by
  rw[eP,eP,dz,dz];exact Vals.append h (Vals.rep h k)
theorem xlx{α:Type}(l:List α):l.eraseIdx (l.length - 1)=l.dropLast:=by
 induction l with
 |nil=>rfl
 |cons a r ih=>
  cases r with
  |nil=>rfl
  |cons b r=>
   have e:(a::b::r).length - 1=((b::r).length - 1)+1:=by
    have h1:(a::b::r).length=r.length+2:=rfl;have h2:(b::r).length=r.length+1:=rfl;lia
   rw[e,List.eraseIdx_cons_succ,ih]
   all_goals rfl
theorem foldl_rep(its:List Value):∀(k:Nat) (acc:List Value),
  List.foldl (fun x1 x2=>x1++x2) acc.toArray (bu k its.toArray)=(acc++(bu k its).flatten).toArray
 |0,acc=>by simp
 |k+1,acc=>by
  have e:acc.toArray++its.toArray=(acc++its).toArray:=by simp
  have e2:(acc++its)++(bu k its).flatten=acc++(bu (k+1) its).flatten:=by
   rw[eP,dz,c8]
  rw[←e2,←foldl_rep its k (acc++its),←e,eP,List.foldl_cons]
section
variable {X:Cx} {pins:List (Addr×Obj)} {σ:St} {H:Hp} {s:ab} {l b:Addr} {xs ys zs:List V}
theorem Inv.lset{its its':List Value}{n:Nat}{f:Array Value→Array Value}{t':Nat}(I:Inv X pins σ H s)(hH:H l=some (.lst xs))
  (e:s.heap.get? l=some {cls:=.type "list",data:=.seq its.toArray n}) (hf:f its.toArray=its'.toArray) (hv:Vals ys its') (hz:ys.length≤aL):
  Inv X pins σ (upd H l (.lst ys)) {s with heap:=s.heap.update l (aW f),toks:=t'}:=by
 have q:=PySem.IsL.update e f;rw[hf]at q;refine I.write (x:=l) (e:=l) (by rw[hH];exact trivial) (.inl rfl) (fun b' u hb hu=>(bA s.heap (aW f) (a8 hb)).trans hu) ⟨_,q⟩ ?_;exact⟨hz,its',_,hv,q⟩
theorem Inv.lnew{its:List Value}{t':Nat}(I:Inv X pins σ H s)(hv:Vals ys its)(hz:ys.length≤aL):
  Inv X pins σ (upd H s.heap.objs.size (.lst ys)) {s with heap:=s.heap.push {cls:=.type "list",data:=.seq its.toArray},toks:=t'}:=
 I.laid (fun _ _ q=>af _ q) (ai _) ⟨hz,its,0,hv,aB _ rfl⟩
theorem Inv.fresh(I:Inv X pins σ H s):H s.heap.objs.size=none:=I.hok.fresh (ai _)
theorem Inv.lstM(I:Inv X pins σ H s)(hH:H l=some (.lst xs)):xs.length≤aL∧∃(its:List Value) (n:Nat),Vals xs its∧xs.length=its.length∧s.heap.get? l=some {cls:=.type "list",data:=.seq its.toArray n}:=by
 obtain⟨z,its,n,r,e⟩:=I.hok l _ hH;exact⟨z,its,n,r,r.length,e⟩
theorem xiK{n:Nat}(h:n≤aL):eC n=false:=by
 unfold eC;exact decide_eq_false (by lia)
end
section
variable {X:Cx}
def xpy:V→List V→Hp→VK→Prop:=fun x vs H Q=>∃l xs y,x= .ref l∧vs=[y]∧H l=some (.lst xs)∧xs.length<aL∧Q .non (upd H l (.lst (xs++[y])))
theorem yi:MtM X "list.append" xpy:=by
 intro pins s σ H x vs v us Q I rx rv h;obtain⟨l,xs,y,rfl,rfl,hH,hz,q⟩:=h;cases rx;obtain⟨u,rfl,ru⟩:=rv.one;obtain⟨z,its,n,r,hl,e⟩:=I.lstM hH;refine fW F.slot_list_append ⟨_,e,rfl⟩ F.entry_list_append (F.args_list_append_2 _ _) (PySem.list_append l its.toArray n u (by rw[aE];lia)) ⟨e,?_⟩;refine⟨.non,_,I.lset (its':=its++[u]) hH e (by simp) (r.append (.cons ru .nil)) ?_,rfl,q⟩;rw[aq,bK];lia
def xpz:V→List V→Hp→VK→Prop:=fun x vs H Q=>∃l b xs zs,x= .ref l∧vs=[.ref b]∧H l=some (.lst xs)∧H b=some (.lst zs)∧xs.length+zs.length≤aL∧Q .non (upd H l (.lst (xs++zs)))
theorem xdf:MtM X "list.extend" xpz:=by
 intro pins s σ H x vs v us Q I rx rv h;obtain⟨l,b,xs,zs,rfl,rfl,hH,hB,hz,q⟩:=h;cases rx;obtain⟨u,rfl,ru⟩:=rv.one;cases ru;obtain⟨z,its,n,r,hl,e⟩:=I.lstM hH;obtain⟨z2,its2,n2,r2,hl2,e2⟩:=I.lstM hB;have hsz:its.toArray.size+its2.toArray.size≤aL:=by rw[aE,aE];lia
 have hlong:¬(!its.toArray.isEmpty&&eC (its.toArray.size+its2.toArray.size))=true:=by
  rw[xiK hsz,Bool.and_false];exact aH
 refine fW F.slot_list_extend ⟨_,e,rfl⟩ F.entry_list_extend (F.args_list_extend_2 _ _)
  (AutoSeq1.list_extend_list_list_0 l its.toArray n b its2.toArray n2 hlong (by rw[aE];lia) (by lia)) ⟨e,e2,?_⟩
 refine⟨.non,_,I.lset (its':=its++its2) hH e (by simp) (r.append r2) ?_,rfl,q⟩;rw[aq];lia
def xsx:V→List V→Hp→VK→Prop:=fun x vs H Q=>∃l xs y,x= .ref l∧vs=[]∧H l=some (.lst xs)∧xs[xs.length - 1]? =some y∧Q y (upd H l (.lst xs.dropLast))
theorem xqY:MtM X "list.pop" xsx:=by
 intro pins s σ H x vs v us Q I rx rv h;obtain⟨l,xs,y,rfl,rfl,hH,hy,q⟩:=h;cases rx;have hus:=rv.zero;subst hus;obtain⟨z,its,n,r,hl,e⟩:=I.lstM hH;obtain⟨u,hu,ru⟩:=r.get hy;have hy':its.toArray[its.toArray.size - 1]? =some u:=by
  show its.toArray[its.length - 1]? =some u;rw[←gu,←hl];exact hu
 refine fW F.slot_list_pop ⟨_,e,rfl⟩ F.entry_list_pop (F.args_list_pop_1 _) (MeetsSeq.list_pop_last l its.toArray n u hy' (by rw[aE];lia)) ⟨e,?_⟩;refine⟨y,_,I.lset (its':=its.dropLast) hH e ?_ r.dropLast ?_,ru,q⟩
 ·show its.toArray.eraseIdxIfInBounds (its.toArray.size - 1)=its.dropLast.toArray;rw[aE,List.eraseIdxIfInBounds_toArray,xlx]
 ·rw[List.length_dropLast];lia
def xsy:R2:=fun x y H Q=>∃l b xs zs,x= .ref l∧y= .ref b∧H l=some (.lst xs)∧H b=some (.lst zs)∧xs.length+zs.length≤aL∧∀p,H p=none→Q (.ref p) (upd H p (.lst (xs++zs)))
theorem jF:OpR X (df .Add) xsy:=by
 intro pins s σ H x y v u Q I rx ry h;obtain⟨l,b,xs,zs,rfl,rfl,hH,hB,hz,q⟩:=h;cases rx;cases ry;obtain⟨z,its,n,r,hl,e⟩:=I.lstM hH;obtain⟨z2,its2,n2,r2,hl2,e2⟩:=I.lstM hB;refine PySem.P.add_list e e2 ?_ (by rw[aE,aE];lia);have ea:its.toArray++its2.toArray=(its++its2).toArray:=by simp
 rw[ea];exact⟨.ref _,_,I.lnew (t':=s.toks) (r.append r2) (by rw[aq];lia),rfl,q _ I.fresh⟩
def xsz:R2:=fun x y H Q=>∃l k xs,x= .ref l∧y= .int k∧H l=some (.lst xs)∧-(2^63)≤k∧k<2^63∧xs.length*k.toNat≤aL∧
 ∀p,H p=none→Q (.ref p) (upd H p (.lst (bu k.toNat xs).flatten))
theorem len_rep{α:Type}(xs:List α)(k:Nat):(bu k xs).flatten.length=k*xs.length:=by
 induction k with
 |zero=>simp
 |succ k ih=>rw[eP,dz,aq,ih,fN,Nat.add_comm]
theorem xmP:OpR X (df .Mult) xsz:=by
 intro pins s σ H x y v u Q I rx ry h;obtain⟨l,k,xs,rfl,rfl,hH,h1,h2,hz,q⟩:=h;cases rx;obtain⟨t,rfl⟩:=ry;obtain⟨z,its,n,r,hl,e⟩:=I.lstM hH;have hlen:its.toArray.size*k.toNat≤aL:=by rw[aE,←hl];exact hz
 have hcap:¬its.toArray.size*k.toNat > (2^63 - 1) / 8:=by
  have:(aL:Nat)≤(2^63 - 1) / 8:=by decide
  lia
 have hfit:¬(!Builtin.List.listFitsIndex k)=true:=by
  rw[fitsIndex_both h1 h2];exact aH
 have hlong:¬eC (its.toArray.size*k.toNat)=true:=by
  rw[xiK hlen];exact aH
 have hnew:List.foldl (fun x1 x2=>x1++x2) #[] (bu (if its.toArray.isEmpty=true then 0 else k.toNat) its.toArray)=(bu k.toNat its).flatten.toArray:=by
  have f0:∀m:Nat,List.foldl (fun x1 x2=>x1++x2) #[] (bu m its.toArray)=(bu m its).flatten.toArray:=fun m=>by
   have:=foldl_rep its m [];rw[i3]at this;exact this
  rw[f0];cases its with
  |nil=>simp
  |cons a r'=>rw[if_neg (by simp)]
 refine wpAny_binaryOp_repeat_ref (T:="list") (U:="int") (by decide) ⟨_,e,rfl⟩ (fun s'=>typeIs_int s' k t) noFill_list_mul F.fills_int_mul F.slot_int_rmul repeat_list F.slot_int_index.lookup
  (fW F.slot_int_rmul (typeIs_int s k t) F.entry_int_rmul (F.args_int_rmul_2 _ _) (int___rmul___int_list k t l its.toArray n)
   ⟨e,rfl,⟨_,e,rfl⟩,fW F.slot_list_mul ⟨_,e,rfl⟩ F.entry_list_mul (F.args_list_mul_2 _ _) (AutoListH.list___mul___list_int_3 l its.toArray n k t hfit hcap hlong) ⟨e,?_⟩⟩)
 rw[hnew];exact⟨.ref _,_,I.lnew (t':=s.toks) (r.rep k.toNat) (by rw[len_rep,iB];exact hz),rfl,q _ I.fresh⟩
end
section
variable {prog:aI} {w:World} {A:aU} {E:Value→ab→Prop} {s:ab}
set_option maxRecDepth 100000 in
end
section
variable {X:Cx}
end
end L2
namespace L2
open PySem PySem.Spec PyProof.Rows
section
variable {κ:Type} [DecidableEq κ]
def yD(kvs:List (κ×V))(k:κ):Option V:=(kvs.find? fun kv=>decide (kv.1=k)).map (·.2)
def putK(kvs:List (κ×V))(k:κ)(v:V):List (κ×V):=
 if (kvs.any fun kv=>decide (kv.1=k))=true then kvs.map (fun kv=>if kv.1=k then(kv.1,v)else kv)else kvs++[(k,v)]
def xaj(kvs:List (κ×V))(k:κ):List (κ×V):=kvs.filter fun kv=>decide (kv.1≠k)
theorem xn3{k:κ}:yD ([]:List (κ×V)) k=none:=rfl
theorem ze{p:κ×V}{r:List (κ×V)}{k:κ}(e:p.1=k):yD (p::r) k=some p.2:=by simp[yD,c9,e]
theorem zf{p:κ×V}{r:List (κ×V)}{k:κ}(e:¬p.1=k):yD (p::r) k=yD r k:=by simp[yD,c9,e]
theorem xcp(k:κ):∀kvs:List (κ×V),(kvs.any fun kv=>decide (kv.1=k))=(yD kvs k).isSome
 |[]=>rfl
 |p::r=>by
  rw[gh]
  by_cases e:p.1=k
  ·simp only[ze e,decide_eq_true e,Bool.true_or,Option.isSome_some]
  ·rw[zf e,decide_eq_false e,Bool.false_or];exact xcp k r
theorem xiL(k j:κ)(y:V):∀kvs:List (κ×V),yD (kvs.map fun kv=>if kv.1=k then(kv.1,y)else kv) j=(yD kvs j).map fun x=>if j=k then y else x
 |[]=>rfl
 |p::r=>by
  have ih:=xiL k j y r;rw[bg]
  by_cases h:p.1=k
  ·rw[if_pos h]
   by_cases e:p.1=j
   ·rw[ze (p:=(p.1,y)) e,ze e,gC,if_pos (e.symm.trans h)]
   ·rw[zf (p:=(p.1,y)) e,zf e,ih]
  ·rw[if_neg h]
   by_cases e:p.1=j
   ·rw[ze (p:=p) e,ze e,gC,if_neg (fun z=>h (e.trans z))]
   ·rw[zf (p:=p) e,zf e,ih]
theorem xhB(k j:κ)(y:V):∀kvs:List (κ×V),yD kvs k=none→yD (kvs++[(k,y)]) j=if j=k then some y else yD kvs j
 |[],_=>by
  by_cases e:k=j
  ·rw[if_pos e.symm];exact ze (p:=(k,y)) e
  ·rw[if_neg (fun z=>e z.symm)];exact zf (p:=(k,y)) e
 |p::r,hn=>by
  rw[iC];have hk:¬p.1=k:=fun z=>by rw[ze z]at hn;cases hn
  rw[zf hk]at hn;have ih:=xhB k j y r hn
  by_cases e:p.1=j
  ·rw[ze e,ze e,if_neg (fun z=>hk (e.trans z))]
  ·rw[zf e,zf e,ih]
theorem xn4(kvs:List (κ×V))(k j:κ)(y:V):yD (putK kvs k y) j=if j=k then some y else yD kvs j:=by
 unfold putK
 by_cases a:(kvs.any fun kv=>decide (kv.1=k))=true
 ·rw[if_pos a,xiL];rw[xcp]at a
  by_cases e:j=k
  ·obtain⟨x,hx⟩:=eA.mp a;rw[if_pos e,e,hx,gC,if_pos rfl]
  ·rw[if_neg e];cases yD kvs j with
   |none=>rfl
   |some x=>rw[gC,if_neg e]
 ·rw[if_neg a];refine xhB k j y kvs ?_;rw[xcp]at a;cases q:yD kvs k with
  |none=>rfl
  |some x=>rw[q]at a;exact(a rfl).elim
theorem xeB(kvs:List (κ×V))(k:κ)(v:V):(putK kvs k v).length≤kvs.length+1:=by
 unfold putK
 split
 ·rw[aa];lia
 ·rw[aq,bj,fH];lia
theorem vh.isSome_eq{o:Option V}{u:Option Value}(r:vh o u):o.isSome=u.isSome:=by
 cases o with
 |none=>cases u with
  |none=>rfl
  |some _=>exact(show False from r).elim
 |some _=>cases u with
  |none=>exact(show False from r).elim
  |some _=>rfl
theorem KV.val{kvs:List (κ×V)}{vs:List (κ×Value)}(r:KV kvs vs)(k:κ):vh (yD kvs k) (iu vs k):=by
 unfold KV at r
 induction r with
 |nil=>exact bV
 | @cons p q ps qs h t ih=>
  obtain⟨h1,h2⟩:=h
  by_cases e:p.1=k
  ·have e':q.1=k:=h1.symm.trans e;have b:iu (q::qs) k=some q.2:=by simp[iu,c9,e']
   rw[ze e,b];exact h2
  ·have e':¬q.1=k:=fun z=>e (h1.trans z);have b:iu (q::qs) k=iu qs k:=by simp[iu,c9,e']
   rw[zf e,b];exact ih
theorem KV.any{kvs:List (κ×V)}{vs:List (κ×Value)}(r:KV kvs vs)(k:κ):(kvs.any fun kv=>decide (kv.1=k))=vs.any fun kv=>decide (kv.1=k):=by
 unfold KV at r
 induction r with
 |nil=>rfl
 |cons h t ih=>rw[gh,gh,ih,h.1]
theorem KV.repl{kvs:List (κ×V)}{vs:List (κ×Value)}(r:KV kvs vs)(k:κ){y:V}{u:Value}(ry:RelV y u):
  KV (kvs.map fun kv=>if kv.1=k then(kv.1,y)else kv) (vs.map fun kv=>if kv.1=k then(kv.1,u)else kv):=by
 unfold KV at r⊢
 induction r with
 |nil=>exact .nil
 | @cons p q ps qs h t ih=>
  rw[bg,bg];refine .cons ?_ ih;obtain⟨h1,h2⟩:=h
  by_cases e:p.1=k
  ·rw[if_pos e,if_pos (h1.symm.trans e)];exact⟨h1,ry⟩
  ·rw[if_neg e,if_neg (fun z=>e (h1.trans z))];exact⟨h1,h2⟩
theorem KV.put{kvs:List (κ×V)}{vs:List (κ×Value)}(r:KV kvs vs)(k:κ){y:V}{u:Value}(ry:RelV y u):KV (putK kvs k y) (stored vs k u):=by
 unfold putK stored;rw[r.any k]
 by_cases e:(vs.any fun kv=>decide (kv.1=k))=true
 ·rw[if_pos e,if_pos e];exact r.repl k ry
 ·rw[if_neg e,if_neg e];exact Paired.snoc r ⟨rfl,ry⟩
theorem KV.drop{kvs:List (κ×V)}{vs:List (κ×Value)}(r:KV kvs vs)(k:κ):KV (xaj kvs k) (without vs k):=by
 unfold KV at r⊢;unfold xaj without
 induction r with
 |nil=>exact .nil
 | @cons p q ps qs h t ih=>
  obtain⟨h1,h2⟩:=h;rw[gk,gk]
  by_cases e:p.1=k
  ·have a:¬decide (p.1≠k)=true:=by simp[e]
   have b:¬decide (q.1≠k)=true:=by simp[h1.symm.trans e]
   rw[if_neg a,if_neg b];exact ih
  ·have e':¬q.1=k:=fun z=>e (h1.trans z);have a:decide (p.1≠k)=true:=by simp[e]
   have b:decide (q.1≠k)=true:=by simp[e']
   rw[if_pos a,if_pos b];exact .cons ⟨h1,h2⟩ ih
theorem KV.length{kvs:List (κ×V)}{vs:List (κ×Value)}(r:KV kvs vs):kvs.length=vs.length:=Paired.length r
theorem xn5(kvs:List (κ×V))(k:κ):(xaj kvs k).length≤kvs.length:=cm _ _
end
theorem xfH{P:aI}{w:World}{k:Key}{u:Value}(r:RelV (kV k) u):(ya P w).is k u=true:=by
 cases k with
 |inl i=>obtain⟨t,e⟩:=(show∃t,u=eU i t from r);subst e;exact xj5 P w i t
 |inr x=>obtain⟨t,e⟩:=(show∃t,u=gp x t from r);subst e;exact xj6 P w x t
theorem xhC{P:aI}{w:World}:∀{ks:List Key} {us:List Value},Vals (ks.map kV) us→ItemsAre (ya P w) ks us
 |[],_,r=>by rw[kZ]at r;cases r;exact .nil
 |k::ks,_,r=>by
  rw[bg]at r;cases r with
  |cons h t=>exact .cons (xfH h) (xhC t)
abbrev KT(H:Hp):List (List Key×V)→List (List Key×Addr×Value)→Prop:=Paired fun p q=>p.1=q.1∧H q.2.1=some (.tup (p.1.map kV))∧RelV p.2 q.2.2
theorem KT.val{H:Hp}{kvs:List (List Key×V)}{xs:List (List Key×Addr×Value)}(r:KT H kvs xs)(k:List Key):vh (yD kvs k) ((atKey xs k).map (·.2)):=by
 induction r with
 |nil=>exact bV
 | @cons p q ps qs h t ih=>
  obtain⟨h1,_,h2⟩:=h
  by_cases e:p.1=k
  ·have e':q.1=k:=h1.symm.trans e;have b:atKey (q::qs) k=some q.2:=by simp[atKey,c9,e']
   rw[ze e,b];exact h2
  ·have e':¬q.1=k:=fun z=>e (h1.trans z);have b:atKey (q::qs) k=atKey qs k:=by simp[atKey,c9,e']
   rw[zf e,b];exact ih
theorem KT.repl{H:Hp}{kvs:List (List Key×V)}{xs:List (List Key×Addr×Value)}(r:KT H kvs xs)(k:List Key){y:V}{u:Value}(ry:RelV y u):
  KT H (kvs.map fun kv=>if kv.1=k then(kv.1,y)else kv) (xs.map (putAt k u)):=by
 induction r with
 |nil=>exact .nil
 | @cons p q ps qs h t ih=>
  rw[bg,bg];refine .cons ?_ ih;obtain⟨h1,h2,h3⟩:=h;unfold putAt
  by_cases e:p.1=k
  ·rw[if_pos e,if_pos (h1.symm.trans e)];exact⟨h1,h2,ry⟩
  ·rw[if_neg e,if_neg (fun z=>e (h1.trans z))];exact⟨h1,h2,h3⟩
theorem KT.put{H:Hp}{kvs:List (List Key×V)}{xs:List (List Key×Addr×Value)}(r:KT H kvs xs)(k:List Key){b:Addr}{y:V}{u:Value}(hb:H b=some (.tup (k.map kV)))(ry:RelV y u):
  KT H (putK kvs k y) (storedH xs k b u):=by
 have e:(kvs.any fun kv=>decide (kv.1=k))=(atKey xs k).isSome:=by
  rw[xcp,(r.val k).isSome_eq,f7]
 unfold putK storedH;rw[e]
 by_cases q:(atKey xs k).isSome=true
 ·rw[if_pos q,if_pos q];exact r.repl k ry
 ·rw[if_neg q,if_neg q];exact Paired.snoc r ⟨rfl,hb,ry⟩
theorem KT.keeps{H H':Hp}{kvs:List (List Key×V)}{xs:List (List Key×Addr×Value)}(r:KT H kvs xs)(ht:∀b ys,H b=some (.tup ys)→H' b=some (.tup ys)):KT H' kvs xs:=
 Paired.mapP r fun _ _ z=>⟨z.1,ht _ _ z.2.1,z.2.2⟩
section
variable {P:aI} {w:World} {H:Hp} {h:Heap} {a:Addr}
theorem xo9{u:HO}(ok:HOk P w H h)(e:Rd H a u):xH P w H h a u:=e.ok ok
theorem xfI{kvs:List (Key×V)}(ok:HOk P w H h)(e:Rd H a (.dK kvs)):kvs.length≤aL∧(a==dZ)=false∧∃vs,KV kvs vs∧h.DictOf (ya P w) a vs:=
 show xH P w H h a (.dK kvs)from xo9 ok e
theorem xpa{kvs:List (Key×V)}(ok:HOk P w H h)(e:H a=some (.dK kvs)):kvs.length≤aL∧(a==dZ)=false∧∃vs,KV kvs vs∧h.DictOf (ya P w) a vs:=xfI ok (.inl e)
theorem xfJ{ks:List Key}(ok:HOk P w H h)(e:H a=some (.tup (ks.map kV))):(iW (ya P w)).is h ks a:=by
 obtain⟨_,its,r,o,h1,h2,n,h3⟩:=(show xH P w H h a (.tup (ks.map kV))from ok a _ e);exact⟨o,its.toArray,n,h1,h2,h3,by simpa using xhC r⟩
theorem xiw{kvs:List (List Key×V)}(ok:HOk P w H h)(e:Rd H a (.dT kvs)):kvs.length≤aL∧(a==dZ)=false∧
  ∃xs,KT H kvs xs∧h.DictOfH (iW (ya P w)) a xs:=by
 obtain⟨z,y,xs,r,o,es,ep,h1,h2,h3,h4,h5⟩:=(show xH P w H h a (.dT kvs)from xo9 ok e);refine⟨z,y,xs,r,o,es,ep,h1,h2,h3,h4,fun x hx=>?_,h5⟩;have all:∀{l:List (List Key×V)} {m:List (List Key×Addr×Value)},KT H l m→∀x∈m,(iW (ya P w)).is h x.1 x.2.1:=by
  intro l m q
  induction q with
  |nil=>intro x hx;exact nomatch hx
  | @cons p q ps qs hq t ih=>
   intro x hx;rcases ao.mp hx with e|hx
   ·subst e;exact xfJ ok (by rw[←hq.1];exact hq.2.1)
   ·exact ih x hx
 exact all r x hx
theorem xrR{kvs:List (List Key×V)}(ok:HOk P w H h)(e:H a=some (.dT kvs)):kvs.length≤aL∧(a==dZ)=false∧
  ∃xs,KT H kvs xs∧h.DictOfH (iW (ya P w)) a xs:=xiw ok (.inl e)
end
def xcq(H:Hp)(a:Addr)(y:V)(r:Option V):Prop:=
 (∃kvs k,Rd H a (.dK kvs)∧y=kV k∧r=yD kvs k)∨∃kvs k b,Rd H a (.dT kvs)∧y= .ref b∧H b=some (.tup (k.map kV))∧r=yD kvs k
def xe5(H:Hp)(a:Addr)(y v:V)(H':Hp):Prop:=
 (∃kvs k,H a=some (.dK kvs)∧y=kV k∧kvs.length<aL∧H'=upd H a (.dK (putK kvs k v)))∨
 ∃kvs k b,H a=some (.dT kvs)∧y= .ref b∧H b=some (.tup (k.map kV))∧kvs.length<aL∧H'=upd H a (.dT (putK kvs k v))
theorem xcq.k{H:Hp}{a:Addr}{kvs:List (Key×V)}{k:Key}(e:H a=some (.dK kvs)):xcq H a (kV k) (yD kvs k):=.inl ⟨kvs,k,.inl e,rfl,rfl⟩
theorem xe5.k{H:Hp}{a:Addr}{kvs:List (Key×V)}{k:Key}{v:V}(e:H a=some (.dK kvs))(hl:kvs.length<aL):xe5 H a (kV k) v (upd H a (.dK (putK kvs k v))):=.inl ⟨kvs,k,e,rfl,hl,rfl⟩
section
variable {X:Cx} {pins:List (Addr×Obj)} {σ:St} {H:Hp} {s:ab} {a:Addr} {y v:V} {u r:Value} {o:Option V} {A:aU} {E:Value→ab→Prop}
theorem Inv.big(I:Inv X pins σ H s):dZ<s.heap.objs.size:=by
 have h:bz<s.heap.objs.size:=(I.mod.glob.keeps I.bk).lt;exact k8 (by decide) h
theorem xsA{Q:Value→ab→Prop}(hu:A.units+1<cLine)(I:Inv X pins σ H s)(g:xcq H a y o)(ry:RelV y u)(h:∀s',Inv X pins σ H s'→Q (.bool o.isSome) s'):
  wpAny (model X.prog X.w) A (bE .In u (.ref a)) Q E s:=by
 rcases g with⟨kvs,k,e,ey,l⟩|⟨kvs,k,b,e,ey,eb,l⟩
 ·subst ey;obtain⟨z,hd,vs,rel,dd⟩:=xfI I.hok e;refine wpAny_in_of (xfH ry) hd dd.mapOf ?_;rw[←(rel.val k).isSome_eq,←l];exact h _ (I.tok _)
 ·subst ey;cases (show u=bb b from ry);obtain⟨z,hd,xs,rel,dd⟩:=xiw I.hok e;refine wpAny_in_heap (gY hu) (xfJ I.hok eb) hd dd ?_;have q:=(rel.val k).isSome_eq;rw[f7]at q;rw[←q,←l];exact h _ (I.tok _)
theorem xpA{Q:Value→ab→Prop}(hu:A.units+1<cLine)(I:Inv X pins σ H s)(g:xcq H a y o)(ry:RelV y u)(h:∀s',Inv X pins σ H s'→Q (.bool (!o.isSome)) s'):
  wpAny (model X.prog X.w) A (bE .NotIn u (.ref a)) Q E s:=by
 rcases g with⟨kvs,k,e,ey,l⟩|⟨kvs,k,b,e,ey,eb,l⟩
 ·subst ey;obtain⟨z,hd,vs,rel,dd⟩:=xfI I.hok e;refine wpAny_notIn_of (xfH ry) hd dd.mapOf ?_;rw[←(rel.val k).isSome_eq,←l];exact h _ (I.tok _)
 ·subst ey;cases (show u=bb b from ry);obtain⟨z,hd,xs,rel,dd⟩:=xiw I.hok e;refine wpAny_notIn_heap (gY hu) (xfJ I.hok eb) hd dd ?_;have q:=(rel.val k).isSome_eq;rw[f7]at q;rw[←q,←l];exact h _ (I.tok _)
theorem xgM{h':Heap}{t':Nat}{ob:HO}(I:Inv X pins σ H s)(mu:Mut (H a))(hs:gv a s.heap h')(he:∃q,h'.get? a=some q)(new:xH X.prog X.w (upd H a ob) h' a ob):
  Inv X pins σ (upd H a ob) {s with heap:=h',toks:=t'}:=
 I.write (x:=a) (e:=a) mu (.inl rfl) (fun b q hb z=>(hs.2 b hb).trans z) he new
theorem xiM{P:aI}{w:World}{H':Hp}{h':Heap}{kvs:List (Key×V)}{vs:List (Key×Value)}(z:kvs.length≤aL)(hd:(a==dZ)=false)(rel:KV kvs vs)(dd:h'.DictOf (ya P w) a vs):
  xH P w H' h' a (.dK kvs):=⟨z,hd,vs,rel,dd⟩
theorem xmQ{H':Hp}{Q:Unit→ab→Prop}(hu:A.units+1<cLine)(I:Inv X pins σ H s)(g:xe5 H a y v H')(ry:RelV y u)(rv:RelV v r)(h:∀s',Inv X pins σ H' s'→Q () s'):
  wpAny (model X.prog X.w) A (setItem (.ref a) u r) Q E s:=by
 rcases g with⟨kvs,k,e,ey,l,eH⟩|⟨kvs,k,b,e,ey,eb,l,eH⟩
 ·subst ey eH;obtain⟨z,hd,vs,rel,dd⟩:=xpa I.hok e;have hz:vs.length≤aL:=by rw[←rel.length];exact z
  have hl:(putK kvs k v).length≤aL:=by have:=xeB kvs k v;lia
  refine wpAny_setItem_pairs (hsz:=hz) (xfH ry) dd fun h' dd' hs=>h _ ?_;have he:∃q,h'.get? a=some q:=let⟨q,_,_,hq,_⟩:=dd';⟨q,hq⟩
  exact xgM I (by rw[e];exact bV) hs he (xiM hl hd (rel.put k rv) dd')
 ·subst ey eH;cases (show u=bb b from ry);obtain⟨z,hd,xs,rel,dd⟩:=xrR I.hok e;have hz:xs.length≤aL:=by rw[←Paired.length rel];exact z
  have hl:(putK kvs k v).length≤aL:=by have:=xeB kvs k v;lia
  refine wpAny_setItem_heap (hsz:=hz) (gY hu) (xfJ I.hok eb) dd fun h' dd' hs=>h _ ?_;obtain⟨q,es,ep,hq,h2,h3,h4,_,h5⟩:=dd';refine xgM I (by rw[e];exact bV) hs ⟨q,hq⟩ ⟨hl,hd,_,(rel.put k eb rv).keeps fun c ys ec=>?_,q,es,ep,hq,h2,h3,h4,h5⟩;rw[xl (yZ ec e (fun z=>nomatch z))];exact ec
end
section
variable {X:Cx} {pins:List (Addr×Obj)} {σ:St} {H:Hp} {s:ab} {a:Addr} {kvs:List (Key×V)} {k:Key} {u:Value} {A:aU} {E:Value→ab→Prop}
theorem xrS{v:V}{more:List Value}{Q:Value→ab→Prop}(I:Inv X pins σ H s)(e:H a=some (.dK kvs))(ry:RelV (kV k) u)(l:yD kvs k=some v)(hm:more=[]∨∃x,more=[x])
  (h:∀w' s',Inv X pins σ (upd H a (.dK (xaj kvs k))) s'→RelV v w'→Q w' s'):wpAny (model X.prog X.w) A (call (.builtin "dict.pop") (.ref a::u::more)) Q E s:=by
 obtain⟨z,hd,vs,rel,dd⟩:=xpa I.hok e;obtain⟨w',hw,rw'⟩:=vh.some_of (v:=v) (o:=iu vs k) (by rw[←l];exact rel.val k);have hp:(keyPart u).isSome=true:=by
  cases k with
  |inl i=>obtain⟨t,q⟩:=(show∃t,u=eU i t from ry);subst q;rfl
  |inr x=>obtain⟨t,q⟩:=(show∃t,u=gp x t from ry);subst q;rfl
 have ha:argsOk "dict.pop" ⟨.ref a::u::more,[]⟩:=by
  rcases hm with q|⟨x,q⟩
  ·subst q;exact PySem.F.args_dict_pop_2 _ _
  ·subst q;exact PySem.F.args_dict_pop_3 _ _ _
 refine call_meetsIn PySem.F.slot_dict_pop dd.typeIs PySem.F.entry_dict_pop ha (meets_dict_pop_there (ya X.prog X.w) a (xfH ry) more hm hp)
  ⟨vs,w',dd,by rw[←rel.length];exact z,hw,fun h' dd' hs=>h w' _ ?_ rw'⟩
 have he:∃q,h'.get? a=some q:=let⟨q,_,_,hq,_⟩:=dd';⟨q,hq⟩
 exact xgM I (by rw[e];exact bV) hs he (xiM (a7 (xn5 kvs k) z) hd (rel.drop k) dd')
theorem xrT{Q:Value→ab→Prop}(I:Inv X pins σ H s)(e:Rd H a (.dK kvs))(h:∀t s',Inv X pins σ H s'→Q (.int kvs.length t) s'):wpAny (model X.prog X.w) A (call (.builtin "len") [.ref a]) Q E s:=by
 obtain⟨z,hd,vs,rel,dd⟩:=xfI I.hok e;refine call_len_dict hd dd (by rw[←rel.length];rw[av]at z;lia) ?_;rw[←rel.length];exact h _ _ (I.tok _)
end
def xsB(ty td:TE):TE:=fun σ H Q=>ty σ H fun y H1=>td σ H1 fun x H2=>∃a o,x= .ref a∧xcq H2 a y o∧Q (.bl o.isSome) H2
def xpB(ty td:TE):TE:=fun σ H Q=>ty σ H fun y H1=>td σ H1 fun x H2=>∃a o,x= .ref a∧xcq H2 a y o∧Q (.bl (!o.isSome)) H2
def xrU(td ty tv:TE):TS:=fun D σ H=>tv σ H fun v H1=>td σ H1 fun x H2=>ty σ H2 fun y H3=>∃a H4,x= .ref a∧xe5 H3 a y v H4∧D.nx σ H4
section
variable {X:Cx} {o i e value:Expr} {pos pos' tpos:Pos} {td ty tv:TE}
theorem xfK(hu:X.A.units+1<cLine)(hi:PE X i ty)(ho:PE X o td):PC X .In i o (xsB ty td):=by
 intro pins s σ H Q I h;refine thn (hi pins s σ H _ I h) fun iv s1 hh42=>?_;obtain⟨y,H1,I1,ry,q1⟩:=hh42;refine thn (ho pins s1 σ H1 _ I1 q1) fun u s2 hh43=>?_;obtain⟨x,H2,I2,rx,a,ov,ex,g,q2⟩:=hh43;subst ex;obtain rfl:u=bb a:=rx;exact xsA hu I2 g ry fun s3 I3=>⟨.bl ov.isSome,H2,I3,rfl,q2⟩
theorem xmR(hu:X.A.units+1<cLine)(hi:PE X i ty)(ho:PE X o td):PC X .NotIn i o (xpB ty td):=by
 intro pins s σ H Q I h;refine thn (hi pins s σ H _ I h) fun iv s1 hh44=>?_;obtain⟨y,H1,I1,ry,q1⟩:=hh44;refine thn (ho pins s1 σ H1 _ I1 q1) fun u s2 hh45=>?_;obtain⟨x,H2,I2,rx,a,ov,ex,g,q2⟩:=hh45;subst ex;obtain rfl:u=bb a:=rx;exact xpA hu I2 g ry fun s3 I3=>⟨.bl (!ov.isSome),H2,I3,rfl,q2⟩
theorem xgN(hu:X.A.units+1<cLine)(ho:PE X o td)(hi:PE X i ty)(hv:PE X value tv)(hs:gU value (some (.Subscript o i pos')) pos.line X.env=pure false):
  PS X (.Assign [.Subscript o i pos'] value pos) (xrU td ty tv):=by
 intro pins s σ H D I h;refine wpAny_Assign_Subscript (thn (hv pins s σ H _ I h) fun r s1 hh46=>?_) hs;obtain⟨v,H1,I1,rv,q1⟩:=hh46;refine thn (ho pins s1 σ H1 _ I1 q1) fun u s2 hh47=>?_;obtain⟨x,H2,I2,rx,q2⟩:=hh47;refine thn (hi pins s2 σ H2 _ I2 q2) fun iv s3 hh48=>?_;obtain⟨y,H3,I3,ry,a,H4,ex,g,q3⟩:=hh48;subst ex;obtain rfl:u=bb a:=rx;exact xmQ hu I3 g ry rv fun s4 I4=>⟨σ,H4,I4,q3⟩
end
theorem xn6{P:aI}{w:World}{H:Hp}(h:Heap)(hb:dZ<h.objs.size):xH P w H (h.push {cls:=.type "dict",data:=.dict #[]}) h.objs.size (.dK []):=
 ⟨aJ _,beq_eq_false_iff_ne.mpr (a8 (ar hb)),[],.nil,lE h⟩
def xqZ:TE:=fun _ H Q=>∀p,H p=none→Q (.ref p) (upd H p (.dK []))
section
variable {X:Cx} {pos:Pos}
theorem xe6:PE X (.Dict [] [] pos) xqZ:=fun pins s σ H Q I h=>
 wpAny_Dict_empty ⟨.ref s.heap.objs.size,_,I.laid (a:=s.heap.objs.size) (o:=.dK []) (t':=s.toks) (fun _ _ q=>af _ q) (ai _) (xn6 s.heap I.big),rfl,h _ (I.hok.fresh (ai _))⟩
end
structure M1(X:Cx)(o:Expr)(m:Str)(apos:Pos)(e:Expr)(cpos:Pos):Prop where
 base:gg o m X.env (eval o X.env)=eval o X.env
 few:((cH cpos (aR [e] X.env)).all (fun x=> !x.1)&&(kg cpos (gR [] X.env)).all (fun x=>x.1.isSome)
  &&decide (([e]:List Expr).length+([]:List Keyword).length+(if ([]:List Keyword).isEmpty then 0 else 1)<30))=true
 line:(apos.endLine==cpos.line)=true
 trees:cH cpos (aR [e] X.env)=[(false,eval e X.env)]
def IsD(H:Hp)(a:Addr):Prop:=(∃kvs,Rd H a (.dK kvs))∨∃kvs,Rd H a (.dT kvs)
theorem xq0{X:Cx}{pins:List (Addr×Obj)}{σ:St}{H:Hp}{s:ab}{a:Addr}(I:Inv X pins σ H s)(d:IsD H a):
  s.TypeIs (.ref a) "dict"∧(∀b,bb a= .ref b→∃ob,s.heap.get? b=some ob∧ob.dict=none)∧(a==dZ)=false:=by
 rcases d with⟨kvs,e⟩|⟨kvs,e⟩
 ·obtain⟨_,hd,vs,_,dd⟩:=xfI I.hok e;refine⟨dd.typeIs,fun b q=>?_,hd⟩;cases q;obtain⟨ob,_,_,h1,h2,_⟩:=dd;exact⟨ob,h1,h2.2.1⟩
 ·obtain⟨_,hd,xs,_,dd⟩:=xiw I.hok e;refine⟨dd.typeIs,fun b q=>?_,hd⟩;cases q;obtain⟨ob,_,_,h1,h2,_⟩:=dd;exact⟨ob,h1,h2.2.1⟩
section
variable {X:Cx} {pins:List (Addr×Obj)} {σ:St} {H:Hp} {s:ab} {a:Addr} {y d:V} {u r:Value} {o:Option V} {A:aU} {E:Value→ab→Prop}
end
def xq1(td ty:TE):TE:=fun σ H Q=>td σ H fun x H1=>∃a,x= .ref a∧IsD H1 a∧ty σ H1 fun y H2=>∃kvs k v,H2 a=some (.dK kvs)∧y=kV k∧yD kvs k=some v∧Q v (upd H2 a (.dK (xaj kvs k)))
section
variable {X:Cx} {o e f:Expr} {apos cpos:Pos} {td ty tx:TE}
theorem xn7(ho:PE X o td)(he:PE X e ty)(m:M1 X o "pop" apos e cpos):PE X (.Call (.Attribute o "pop" apos) [e] [] cpos) (xq1 td ty):=by
 intro pins s σ H Q I h;refine wpAny_Call_method m.base m.few m.line PySem.F.plainAttrs_dict PySem.F.slot_dict_pop PySem.F.type_dict_pop (thn (ho pins s σ H _ I h) fun u s1 hh49=>?_);obtain⟨x,H1,I1,rx,a,ex,d,q1⟩:=hh49;subst ex;obtain rfl:u=bb a:=rx;obtain⟨t1,t2,_⟩:=xq0 I1 d;refine⟨t1,t2,?_⟩;rw[m.trees];refine gf rfl (kj (fM (thn (he pins s1 σ H1 _ I1 q1) fun iv s2 hh50=>?_)));obtain⟨y,H2,I2,ry,kvs,k,v,ea,ey,l,q2⟩:=hh50;refine f6 ?_;subst ey;exact xrS I2 ea ry l (.inl rfl) fun w' s3 I3 rw'=>⟨v,_,I3,rw',q2⟩
end
section
variable {X:Cx} {pins:List (Addr×Obj)} {σ:St} {H:Hp} {s:ab} {a:Addr} {kvs:List (Key×V)} {A:aU} {E:Value→ab→Prop}
end
section
variable {X:Cx} {pins:List (Addr×Obj)} {σ:St} {H:Hp} {s:ab} {a:Addr} {y:V} {u:Value} {A:aU} {E:Value→ab→Prop}
end
end L2
namespace Att
open PySem PySem.W PySem.Calls PyProof.Rows
theorem xfL{P:Params}{h:Heap}:∀(ns:List Int) (vs:List Value),WellAll P h vs (ns.map WData.int)→cL vs ns:=by
 intro ns
 induction ns with
 |nil=>
  intro vs w;rw[kZ]at w;cases w;exact .nil
 |cons n ns ih=>
  intro vs w;rw[bg]at w;cases w with
  |cons a b=>
   cases a;exact .cons _ _ (ih _ b)
theorem xmS{l:OpenLaw}{n:Nat}(hn:l.most=some n){P:Params}{h:Heap}{args:List WData}{vals:List Value}
  (hpre:l.row.toRowW.claim.pre args=true) (hwl:WellAll P h vals args):
  ∃a vs ns,vals=[bb a]∧args=[WData.list (ns.map WData.int)]∧h.get? a=some {cls:=.type "list",data:=.seq vs.toArray}∧cL vs ns∧ns.length≤n:=by
 have hsh:WShape.hasAll [] args [.list .int]=true:=(pre_splitW hpre).1;have hc:l.pre.holds [] {args:=args}=true:=(pre_splitW hpre).2;obtain⟨d,r,rfl,h1,h2⟩:=hasAllW_cons hsh;obtain rfl:=hasAllW_nil h2;obtain⟨xs,rfl,h3⟩:=hasW_list h1;obtain⟨ns,rfl⟩:=items_int h3;have hlen:ns.length≤n:=by
  unfold OpenLaw.pre at hc;have h4:(WTm.not (.lt (.lit (.int (n:Int))) (.len (.arg 0)))).holds [] {args:=[.list (ns.map .int)]}=true:=by
   have h4:=(holds_andW hc).1;rw[hn]at h4;exact h4
  have h5:=condW_of h4 (w_not (w_lt w_lit (w_len_list (w_arg rfl))));rw[aa]at h5;refine Nat.le_of_not_lt fun q=>?_;have q':(n:Int)<((ns.length:Nat):Int):=by omega
  first
   |(rw[decide_eq_true q']at h5;exact absurd h5 (by decide))
   |(simp at h5;omega)
 cases hwl with
 |cons w1 w2=>
  cases w2;cases w1 with
  |list ho hall=>exact⟨_,_,ns,rfl,rfl,ho,xfL ns _ hall,hlen⟩
theorem xmT(l:OpenLaw)(args:List WData):l.row.toRowW.claim.post args (.bool true) args=true:=
 postW_of (r:=l.row.toRowW) (X:=(true==true))
  (show WShape.has [] (.bool true) .bool=true by first|rfl|decide|simp[WShape.has,WShape.arms,WShape.armsAll])
  (show(WTm.eq .res (.lit (.bool true))).value [] {args:=args,res:=some (.bool true),after:=args}=some (.bool (true==true))from w_eq_bool (w_res rfl) w_lit) rfl
theorem xj8{l:OpenLaw}{n:Nat}{q:aI}{loose:List Str}{XP:(Str→Option Value)→Heap→Prop}{YP:World→Heap→Prop}{d:DefRec}
  (hn:l.most=some n) (hdf:d.params.defaults=[])
  (call:∀(w:World) (s₀ s₁:ab) (mg mb:Str→Option Value) (fa:Addr) (o:Obj) (pm cd doc:Value) (a:Addr) (vs:List Value) (ns:List Int),
   Ground q loose [] XP w s₀ mg mb s₁.heap→YP w s₁.heap→
   s₁.heap.get? fa=some o→o.data= .func (docDef d.name d.params d.body d.scope pm cd doc)→s₁.heap.CodeRec cd d.name→mg d.name=some (.ref fa)→
   s₁.heap.get? a=some {cls:=.type "list",data:=.seq vs.toArray}→cL vs ns→ns.length≤n→s₁.gens=#[]→
   cW (model l.prog w) iw (.call (.ref fa) ⟨[.ref a],[]⟩) (fun r s'=>r= .ok (.ret (.bool true))∧OldK s₁.heap s'.heap∧s'.os=s₁.os∧e9 s'.gens) s₁):
  WalkO q loose XP YP l.row.toRowW d [] (fun f vs=>PySem.call f vs):=by
 intro w s₀ s₁ mg mb G Y fa o pm cd doc dV kV ho hd hcd hD hmg hg args vals as hpre hlay hrd hwl hlo;obtain rfl:dV= .none:=Dflts.none hD hdf;obtain rfl:kV= .none:=Dflts.noKw hD;obtain⟨a,vs,ns,rfl,rfl,hobj,hints,hlen⟩:=xmS hn hpre hwl;refine enter_call (dq (call w s₀ s₁ mg mb fa o pm cd doc a vs ns G Y ho (fd_plain hd) hcd hmg hobj hints hlen hg) fun r s' hq=>?_);obtain⟨rfl,h2,h3,h4⟩:=hq;exact⟨.inl ⟨.bool true,.bool true,[],rfl,fun _=>rfl,.bool true,xmT l _,fun _=>⟨List.Pairwise.nil,fun _ hm=>(nomatch hm)⟩⟩,h2,h3,h4⟩
section
variable {prog:aI} {w:World} {A:aU} {E:Value→ab→Prop} {s:ab} {K:Frag}
end
end Att
namespace L2
open PySem PySem.Spec PyProof.Rows
theorem xdg:∀{vs:List Value} {ns:List Int},cL vs ns→Vals (ns.map V.int) vs
 |_,_,.nil=>.nil
 |_,_,.cons n t h=>.cons ⟨t,rfl⟩ (xdg h)
end L2
namespace L2
open PySem PySem.Spec PyProof.Rows
end L2
namespace L2
open PySem PySem.Spec PyProof.Rows
def inClass(s:Stmt)(j:Nat):Stmt:=match s with
 | .ClassDef _ _ _ body _ _ _ _ _ _ _=>body.getD j (.Pass ⟨0,0,0,0⟩)
 |_=>.Pass ⟨0,0,0,0⟩
def xY(s:Stmt):cE:=match s with
 | .FunctionDef _ a _ _ _ _ _ _ _ _=>a
 |_=>{posonlyargs:=[],args:=[],vararg:=none,kwonlyargs:=[],kw_defaults:=[],kwarg:=none,defaults:=[]}
def xO(s:Stmt):List Stmt:=match s with
 | .FunctionDef _ _ b _ _ _ _ _ _ _=>b
 |_=>[]
def xj(s:Stmt):Scope:=match s with
 | .FunctionDef _ _ _ _ _ _ sc _ _ _=>sc
 |_=>{kind:=.function,names:=[],isGenerator:=false,isCoroutine:=false}
abbrev CX0:CXT:=fun _ _ _ _ _ _=>False
abbrev E0:XK:=fun _ _ _=>False
theorem xo{X:Cx}:Passes CX0 X E0:=fun _ _ _ _ _ _ _ h=>h.elim
structure Fun(K:ah)(x qual:Str)(st:Stmt)(f:Addr)(fd:ay):Prop where
 ex:∃(oc:Value) (od:Option Addr) (kV doc pm:Value) (an:Option Addr) (cdv ct:Value) (osl:Array (Option Value)),
  fd=cT x qual (xY st) (xO st) (xj st) .none kV doc pm an cdv ct∧K.lookup f=some ⟨oc,od,.func fd,osl⟩∧du K cdv qual=true
 kp:cZ K (.ref f)=true
section
variable {P:aI} {w:World} {K:ah} {mg:Str→Option Value} {base:Heap}
theorem Fun.ok{x qual:Str}{st:Stmt}{f:Addr}{fd:ay}{N ps:List Str}{k:Nat}{sp:Sp}(F:Fun K x qual st f fd)(S:xp N ps (xj st))(len:∀vs H Q E,sp vs H Q E→vs.length=ps.length)
  (hbody:∀(cdv:Value) (A:aU) (outer:List Env) (s:ab) (H:Hp) (vs:List V) (Q:VK) (E:XK),xW k (A.deeper (gd qual (xj st) s.heap.objs.size f cdv))→sp vs H Q E→
   ∃t,PSs (xco CX0 P w K mg base N qual (xj st) f cdv A outer s H E).nox (xO st) t∧t {nx:=fun _ H'=>Q .non H',rt:=Q} (start N vs) H):xv P w K mg base CX0 (k+1) f fd ps sp:=by
 obtain⟨oc,od,kV,doc,pm,an,cdv,ct,osl,rfl,lk,hcd⟩:=F.ex;refine xo8 lk hcd S len fun A outer s H vs Q E hr hsp=>?_;obtain⟨t,h,q⟩:=hbody cdv A outer s H vs Q E hr hsp;exact⟨t,h.nox,q⟩
theorem Fun.binds{x qual:Str}{st:Stmt}{f:Addr}{fd:ay}{ps:List Str}(F:Fun K x qual st f fd)
  (h:∀(kV doc pm:Value) (an:Option Addr) (cdv ct:Value) (us:List Value),us.length=ps.length→fi (cT x qual (xY st) (xO st) (xj st) .none kV doc pm an cdv ct) ⟨us,[]⟩=pure (ps.zip us)):Binds K fd ps []:=by
 obtain⟨oc,od,kV,doc,pm,an,cdv,ct,osl,rfl,lk,hcd⟩:=F.ex;exact .all (h kV doc pm an cdv ct)
theorem vF{x qual:Str}{st:Stmt}{f:Addr}{oc:Value}{od an:Option Addr}{osl:Array (Option Value)}{kV doc pm cdv ct:Value}(l:K.lookup f=some ⟨oc,od,.func (cT x qual (xY st) (xO st) (xj st) .none kV doc pm an cdv ct),osl⟩)
  (c:du K cdv qual=true) (k:cZ K (.ref f)=true):Fun K x qual st f (cT x qual (xY st) (xO st) (xj st) .none kV doc pm an cdv ct):=⟨⟨oc,od,kV,doc,pm,an,cdv,ct,osl,rfl,l,c⟩,k⟩
end
theorem xbm{A:aU}{k:Nat}(hr:xW k A):A.units+1<cLine:=dH (Nat.add_le_add_left (by decide:1≤64) _) hr.units
section
variable {X:Cx}
end
def xb(H H':Hp):Prop:=∀b o,H b=some o→H' b=some o
theorem xb.refl(H:Hp):xb H H:=fun _ _ h=>h
theorem xb.trans{H H1 H2:Hp}(a:xb H H1)(b:xb H1 H2):xb H H2:=fun c o h=>b c o (a c o h)
theorem xb.free{H H':Hp}(e:xb H H'){l:Addr}(h:H' l=Option.none):H l=Option.none:=by
 cases q:H l with
 |none=>rfl
 |some o=>
  rw[e l o q]at h;cases h
theorem xb.seq{K:ah}{H H':Hp}{a:Addr}{xs:List V}(e:xb H H')(h:SqL K H a xs):SqL K H' a xs:=by
 rcases h with(h|⟨o,h⟩)|h
 ·exact .inl (.inl (e _ _ h))
 ·exact .inl (.inr ⟨o,e _ _ h⟩)
 ·exact .inr h
section
variable {X:Cx}
theorem xmU:yw X (.builtin "len") (fun xs H Q=>∃a kvs,xs=[V.ref a]∧H a=some (.dK kvs)∧Q (.int kvs.length) H):=by
 intro pins s σ H xs us Q I r h;obtain⟨a,kvs,rfl,ha,q⟩:=h;obtain⟨u,rfl,ru⟩:=vals1 r;cases ru;exact xrT I (.inl ha) fun t s' I'=>⟨.int kvs.length,H,I',⟨t,rfl⟩,q⟩
end
section
variable {κ:Type} [DecidableEq κ]
theorem xkP:∀{l:List κ} {k:κ},l.Nodup→¬k∈l→(l++[k]).Nodup
 |[],k,_,_=>by simp
 |a::r,k,h,hk=>by
  obtain⟨h1,h2⟩:=cw.mp h;show(a::(r++[k])).Nodup;refine cw.mpr ⟨fun m=>?_,xkP h2 fun m=>hk (ao.mpr (dW m))⟩;rcases aM.mp m with q|q
  ·exact h1 q
  ·exact hk (ao.mpr (aD (ax.mp q).symm))
end
end L2
set_option maxHeartbeats 4000000
namespace L2
open PySem PySem.Spec PyProof.Rows
section
variable {X:Cx}
theorem PE.imp{e:Expr}{t t':TE}(h:PE X e t)(i:∀σ H Q,t' σ H Q→t σ H Q):PE X e t':=
 fun pins s σ H Q I q=>h pins s σ H Q I (i σ H Q q)
theorem PT.imp{e:Expr}{t t':TT}(h:PT X e t)(i:∀σ H Q,t' σ H Q→t σ H Q):PT X e t':=
 fun pins s σ H Q I q=>h pins s σ H Q I (i σ H Q q)
theorem OpR.imp{f:Value→Value→Sem Value}{r r':R2}(h:OpR X f r)(i:∀x y H Q,r' x y H Q→r x y H Q):OpR X f r':=
 fun pins s σ H x y v u Q I rx ry q=>h pins s σ H x y v u Q I rx ry (i x y H Q q)
theorem UnR.imp{f:Value→Sem Value}{r r':V→Hp→VK→Prop}(h:UnR X f r)(i:∀x H Q,r' x H Q→r x H Q):UnR X f r':=
 fun pins s σ H x v Q I rx q=>h pins s σ H x v Q I rx (i x H Q q)
theorem yw.imp{f:Value}{r r':List V→Hp→VK→Prop}(h:yw X f r)(i:∀xs H Q,r' xs H Q→r xs H Q):yw X f r':=
 fun pins s σ H xs us Q I rv q=>h pins s σ H xs us Q I rv (i xs H Q q)
theorem uq{e:Expr}{t u:TE}(h:PE X e t)(k:PE X e u):PE X e (fun σ H Q=>t σ H Q∨u σ H Q):=
 fun pins s σ H Q I q=>q.elim (fun z=>h pins s σ H Q I z) (fun z=>k pins s σ H Q I z)
def yE(i:Nat):TE:=fun σ H Q=>match σ[i]? with
 |some (some v)=>Q v H
 |_=>False
theorem xn8{i:Nat}{σ:St}{H:Hp}{Q:VK}(q:yE i σ H Q):xqE i σ H Q:=by
 unfold yE at q
 split at q
 ·rename_i v e;exact⟨v,e,q⟩
 ·exact q.elim
theorem cv(i:Nat){x:Str}{pos:Pos}(hN:X.N[i]? =some x:=by rfl)(hv:Vis X.env.scope x:=by first|exact aD rfl|exact dW (aD rfl)|exact dW (dW rfl))(hd:(x==("__debug__":Str))=false:=by decide)
  (hcd:(x==("__classdict__":Str))=false:=by decide):PE X (.Name x pos) (yE i):=(xmA hN hv hd hcd).imp fun _ _ _ q=>xn8 q
def kI(C:Int→Int→Prop)(g:Int→Int→V):R2:=fun x y H Q=>match x with
 | .int i=>(match y with
  | .int j=>C i j∧Q (g i j) H
  |_=>False)
 |_=>False
def kI0(g:Int→Int→V):R2:=fun x y H Q=>match x with
 | .int i=>(match y with
  | .int j=>Q (g i j) H
  |_=>False)
 |_=>False
theorem xfM{C:Int→Int→Prop}{g:Int→Int→V}{x y:V}{H:Hp}{Q:VK}(q:kI C g x y H Q):rI C g x y H Q:=by
 cases x with
 |int i=>
  cases y with
  |int j=>exact⟨i,j,rfl,rfl,q.1,q.2⟩
  |_=>exact bH q
 |_=>exact bH q
theorem vz{g:Int→Int→V}{x y:V}{H:Hp}{Q:VK}(q:kI0 g x y H Q):rI0 g x y H Q:=by
 cases x with
 |int i=>
  cases y with
  |int j=>exact⟨i,j,rfl,rfl,q⟩
  |_=>exact bH q
 |_=>exact bH q
theorem xK:OpR X (df .Add) (kI0 fun i j=>.int (i+j)):=xqM.imp fun _ _ _ _=>vz
theorem uj:OpR X (df .Sub) (kI0 fun i j=>.int (i - j)):=xqN.imp fun _ _ _ _=>vz
theorem xec:OpR X (df .Mult) (kI xlq fun i j=>.int (i*j)):=xqO.imp fun _ _ _ _=>xfM
def xpb(_i j:Int):Prop:=0<j∧j.natAbs.log2<9000
theorem yr:OpR X (df .FloorDiv) (kI xpb fun i j=>.int (i / j)):=
 (opI (C:=xpb) (g:=fun i j=>i / j) fun i j _ _ _ _ _ hc q=>by
  have h0:0<j:=hc.1;rw[←Int.fdiv_eq_ediv_of_nonneg i (Int.le_of_lt h0)]at q;exact floordiv_int (Int.ne_of_gt h0) q (.inl (iD hc.2))).imp fun _ _ _ _=>xfM
theorem xZ:OpR X (df .Mod) (kI (fun _ j=>0<j) fun i j=>.int (i%j)):=xqP.imp fun _ _ _ _=>xfM
theorem xix:OpR X (df .Pow) (kI xqL fun i j=>.int (i^j.toNat)):=xqQ.imp fun _ _ _ _=>xfM
theorem xaA:OpR X (bE .Lt) (kI0 fun i j=>.bl (decide (i<j))):=xrJ.imp fun _ _ _ _=>vz
theorem xly:OpR X (bE .LtE) (kI0 fun i j=>.bl (decide (i≤j))):=xrK.imp fun _ _ _ _=>vz
theorem xgO:OpR X (bE .Gt) (kI0 fun i j=>.bl (decide (j<i))):=xrL.imp fun _ _ _ _=>vz
theorem xlz:OpR X (bE .GtE) (kI0 fun i j=>.bl (decide (j≤i))):=xrM.imp fun _ _ _ _=>vz
theorem xiy{a b:V}{p:Prop}[Decidable p](h:a=b↔p):decide (a=b)=decide p:=by
 by_cases e:p
 ·rw[decide_eq_true e,decide_eq_true (h.mpr e)]
 ·rw[decide_eq_false e,decide_eq_false (fun q=>e (h.mp q))]
theorem zT:OpR X (bE .Eq) (kI0 fun i j=>.bl (decide (i=j))):=xo6.imp fun x y H Q q=>by
 obtain⟨i,j,rfl,rfl,q⟩:=vz q;exact⟨rfl,by rw[xiy (p:=i=j) ⟨fun e=>V.int.inj e,fun e=>by rw[e]⟩];exact q⟩
theorem xiz:OpR X (bE .NotEq) (kI0 fun i j=>.bl (!decide (i=j))):=xo7.imp fun x y H Q q=>by
 obtain⟨i,j,rfl,rfl,q⟩:=vz q;exact⟨rfl,by rw[xiy (p:=i=j) ⟨fun e=>V.int.inj e,fun e=>by rw[e]⟩];exact q⟩
def kS0(g:Str→Str→V):R2:=fun x y H Q=>match x with
 | .str i=>(match y with
  | .str j=>Q (g i j) H
  |_=>False)
 |_=>False
theorem xkQ{g:Str→Str→V}{x y:V}{H:Hp}{Q:VK}(q:kS0 g x y H Q):∃i j,x= .str i∧y= .str j∧Q (g i j) H:=by
 cases x with
 |str i=>
  cases y with
  |str j=>exact⟨i,j,rfl,rfl,q⟩
  |_=>exact bH q
 |_=>exact bH q
theorem xrV:OpR X (bE .Eq) (kS0 fun i j=>.bl (decide (i=j))):=xo6.imp fun x y H Q q=>by
 obtain⟨i,j,rfl,rfl,q⟩:=xkQ q;exact⟨rfl,by rw[xiy (p:=i=j) ⟨fun e=>V.str.inj e,fun e=>by rw[e]⟩];exact q⟩
theorem xpc:OpR X (bE .NotEq) (kS0 fun i j=>.bl (!decide (i=j))):=xo7.imp fun x y H Q q=>by
 obtain⟨i,j,rfl,rfl,q⟩:=xkQ q;exact⟨rfl,by rw[xiy (p:=i=j) ⟨fun e=>V.str.inj e,fun e=>by rw[e]⟩];exact q⟩
def kU(g:Int→V):V→Hp→VK→Prop:=fun x H Q=>match x with
 | .int i=>Q (g i) H
 |_=>False
theorem xpd:UnR X (unaryOp .USub) (kU fun i=>.int (-i)):=xqR.imp fun x H Q q=>by
 cases x with
 |int i=>exact⟨i,rfl,q⟩
 |_=>exact bH q
def xfN(Q:Bool→Hp→Prop):VK:=fun x H1=>match x with
 | .bl k=>Q k H1
 |_=>False
theorem jk{Q:Bool→Hp→Prop}{x:V}{H1:Hp}(q:xfN Q x H1):∃k,x= .bl k∧Q k H1:=by
 cases x with
 |bl k=>exact⟨k,rfl,q⟩
 |_=>exact bH q
def cB(t:TE):TT:=fun σ H Q=>t σ H (xfN Q)
variable {a b c:Expr} {ta tb tc:TE} {tA tB':TT} {pos:Pos} {rest:List Expr}
theorem xJ{op:CmpOp}{r:R2}(ho:OpR X (bE op) r)(ha:PE X a ta)(hb:PE X b tb)(hm:de op b=false:=by exact xmH _):PT X (.Compare a [op] [b] pos) (cB (tOp r ta tb)):=by
 intro pins s σ H Q I h;refine gq (thn (ha pins s σ H _ I h) fun v s1 ⟨x,H1,I1,r1,q1⟩=>thn (hb pins s1 σ H1 _ I1 q1) fun u s2 ⟨y,H2,I2,r2,q2⟩=>
  thn (ho pins s2 σ H2 x y v u _ I2 r1 r2 q2) fun c s3 ⟨z,H3,I3,r3,q3⟩=>?_) hm
 obtain⟨k,rfl,q⟩:=jk q3;cases r3;exact cq ⟨H3,I3,q⟩
theorem zN{op:CmpOp}{r:R2}(ho:OpR X (bE op) r)(ha:PE X a ta)(hb:PE X b tb)(hm:de op b=false:=by exact xmH _):PE X (.Compare a [op] [b] pos) (tOp r ta tb):=xpr ho ha hb hm
theorem yz{e:Expr}{t:TE}(h:PE X e t)(he:∀whole,isTrue e X.env whole=(do let v ←whole;standAt e.pos;fc [v] (truthy v)):=by intro _;rfl):PT X e (cB t):=by
 intro pins s σ H Q I hw;refine isTrue_plain (thn (h pins s σ H _ I hw) fun v s1 hh51=>?_) (he _);obtain⟨x,H1,I1,r1,q1⟩:=hh51;obtain⟨d,rfl,q⟩:=jk q1;cases r1;exact cq ⟨H1,I1,q⟩
def xsC(t u:TT):TT:=fun σ H Q=>t σ H fun c H1=>(c=true→u σ H1 Q)∧(c=false→Q false H1)
def cOr(t u:TT):TT:=fun σ H Q=>t σ H fun c H1=>(c=true→Q true H1)∧(c=false→u σ H1 Q)
theorem vG(ha:PT X a tA)(hb:PW X (.BoolOp .And (b::rest) pos) tB'):PW X (.BoolOp .And (a::b::rest) pos) (xsC tA tB'):=by
 intro wh pins s σ H Q I h;refine isTrue_and (thn (ha pins s σ H _ I h) fun c s1 hh52=>?_);obtain⟨H1,I1,q1⟩:=hh52;cases c with
 |true=>exact hb wh pins s1 σ H1 Q I1 (q1.1 rfl)
 |false=>exact⟨H1,I1,q1.2 rfl⟩
theorem xed(ha:PT X a tA)(hb:PW X (.BoolOp .Or (b::rest) pos) tB'):PW X (.BoolOp .Or (a::b::rest) pos) (cOr tA tB'):=by
 intro wh pins s σ H Q I h;refine isTrue_or (thn (ha pins s σ H _ I h) fun c s1 hh53=>?_);obtain⟨H1,I1,q1⟩:=hh53;cases c with
 |true=>exact⟨H1,I1,q1.1 rfl⟩
 |false=>exact hb wh pins s1 σ H1 Q I1 (q1.2 rfl)
def xrW(ta tb:TE):TE:=fun σ H Q=>ta σ H (xfN fun c H1=>(c=true→tb σ H1 Q)∧(c=false→Q (.bl false) H1))
def xsD(ta tb:TE):TE:=fun σ H Q=>ta σ H (xfN fun c H1=>(c=true→Q (.bl true) H1)∧(c=false→tb σ H1 Q))
def xrX(ta:TE):TE:=fun σ H Q=>ta σ H (xfN fun c H1=>Q (.bl (!c)) H1)
theorem ua(ha:PE X a ta)(hb:PE X (.BoolOp .And (b::rest) pos) tb):PE X (.BoolOp .And (a::b::rest) pos) (xrW ta tb):=by
 intro pins s σ H Q I h;refine BoolOp_and (thn (ha pins s σ H _ I h) fun v s1 hh54=>?_);obtain⟨x,H1,I1,r1,q1⟩:=hh54;obtain⟨c,rfl,q1⟩:=jk q1;cases r1;refine cq ?_;cases c with
 |true=>exact hb pins s1 σ H1 Q I1 (q1.1 rfl)
 |false=>exact⟨.bl false,H1,I1,rfl,q1.2 rfl⟩
theorem xpe(ha:PE X a ta)(hb:PE X (.BoolOp .Or (b::rest) pos) tb):PE X (.BoolOp .Or (a::b::rest) pos) (xsD ta tb):=by
 intro pins s σ H Q I h;refine BoolOp_or (thn (ha pins s σ H _ I h) fun v s1 hh55=>?_);obtain⟨x,H1,I1,r1,q1⟩:=hh55;obtain⟨c,rfl,q1⟩:=jk q1;cases r1;refine cq ?_;cases c with
 |false=>exact hb pins s1 σ H1 Q I1 (q1.2 rfl)
 |true=>exact⟨.bl true,H1,I1,rfl,q1.1 rfl⟩
theorem xq2(ha:PE X a ta):PE X (.UnaryOp .Not a pos) (xrX ta):=by
 intro pins s σ H Q I h;refine UnaryOp_ (thn (ha pins s σ H _ I h) fun v s1 hh56=>?_);obtain⟨x,H1,I1,r1,q1⟩:=hh56;obtain⟨c,rfl,q1⟩:=jk q1;cases r1;exact not_of (cq ⟨.bl (!c),H1,I1,rfl,q1⟩)
def xsE(c:TT)(t u:TS):TS:=fun D σ H=>c σ H fun b H1=>(b=true→t D σ H1)∧(b=false→u D σ H1)
theorem xM{c:Expr}{p q:List Stmt}{tc:TT}{t u:TS}(hc:PT X c tc)(ha:PSs X p t)(hb:PSs X q u):PS X (.If c p q pos) (xsE tc t u):=by
 intro pins s σ H D I h;refine wpAny_If (thn (hc pins s σ H _ I h) fun d s1 hh57=>?_);obtain⟨H1,I1,q1⟩:=hh57;cases d with
 |true=>exact ha pins s1 σ H1 D I1 (q1.1 rfl)
 |false=>exact hb pins s1 σ H1 D I1 (q1.2 rfl)
@[irreducible] def xee(c:TT)(tb:TS)(D:Ends)(σ:St)(H:Hp):Prop:=∃W:Nat→St→Hp→Prop,(∃m,W m σ H)∧∀m σ H,W m σ H→
 c σ H fun b H1=>(b=true→∃N:St→Hp→Prop,(∀σ' H',N σ' H'→∃m',m'<m∧W m' σ' H')∧tb {D with nx:=N,ct:=N,bk:=D.nx} σ H1)∧(b=false→D.nx σ H1)
def xmV(c:TT)(tb:TS):TS:=fun D σ H=>xee c tb D σ H
@[irreducible] def zu(J:It)(g:TG)(tb:TS)(D:Ends)(σ:St)(H1:Hp):Prop:=∃W:Nat→Nat→St→Hp→Prop,(∃m,W 0 m σ H1)∧∀i m σ H,W i m σ H→
 (J.stop i H∧D.nx σ H)∨(J.go i H∧∃N:St→Hp→Prop,(∀σ' H',N σ' H'→∃m',m'<m∧W (i+1) m' σ' H')∧∀x H',J.yld i H x H'→g x σ H' fun σ2 H2=>tb {D with nx:=N,ct:=N,bk:=D.nx} σ2 H2)
def xlA(wi:TI)(g:TG)(tb:TS):TS:=fun D σ H=>wi σ H fun J H1=>zu J g tb D σ H1
theorem xkR(wi:TI)(g:TG)(tb:TS):xlA wi g tb=xlo wi g tb:=by
 funext D σ H
 unfold xlA xlo
 congr 1
 funext J H1
 unfold zu;rfl
theorem ym{tg iter:Expr}{body:List Stmt}{wi:TI}{g:TG}{tb:TS}{pos:Pos}(hp:PassesOwn (model X.prog X.w) X.A X.env X.xe)(hc:X.calm=true)(hi:PI X tg iter wi)(hg:PG X tg g)(hb:PSs X body tb)
  (hs:∀x,dU iter X.env x=pure x:=by intro _;rfl):PS X (.For tg iter body [] pos) (xlA wi g tb):=by
 rw[xkR];exact xmF hp hc hi hg hb hs
def xsF(t:TS):TS:=fun D σ H=>∃M:L2.St→Hp→Prop,t {D with nx:=M} σ H∧∀σ' H',M σ' H'→D.nx σ' H'
theorem xb6{st:Stmt}{t:TS}(h:PS X st t):PS X st (xsF t):=by
 intro pins s σ H D I q;obtain⟨M,q1,q2⟩:=q;refine thn (h pins s σ H _ I q1) fun f s' z=>?_;cases f with
 |next=>obtain⟨σ',H',I',m⟩:=z;exact⟨σ',H',I',q2 σ' H' m⟩
 |brk=>exact z
 |cont=>exact z
 |ret v=>exact z
def xq3(i:Nat):TG:=fun v σ H Q=>∀y,y=v→Q (σ.set i (some y)) H
theorem xpC(te:TE)(i:Nat):xe2 te (xq3 i)=xe2 te (xcn i):=by
 funext D σ H
 unfold xe2
 congr 1
 funext x H1
 exact propext ⟨fun q=>q x rfl,fun q y e=>by rw[e];exact q⟩
theorem vH{i:Nat}{x:Str}{e:Expr}{te:TE}{pos':Pos}(hN:X.N.Nodup)(hi:X.N[i]? =some x)(hx:Loc X.env.scope x)(he:PE X e te)(hs:gU e (some (.Name x pos')) pos.line X.env=pure false:=by rfl)
  (hf:X.fn x=true∨X.env.scope.names.lookup x=some .local:=by first|exact .inl rfl|exact .inr rfl|assumption):PS X (.Assign [.Name x pos'] e pos) (xe2 te (xq3 i)):=by
 rw[xpC];exact xt hN hi hx he hs hf
theorem xar{e:Int}{G:V→Prop}(h:∀i,i=e→G (.int i)):∀y,y=V.int e→G y:=fun y q=>by rw[q];exact h e rfl
theorem xgP{v:V}{G:V→Prop}(h:G v):∀y,y=v→G y:=fun y q=>by rw[q];exact h
end
end L2
namespace L2
open PySem PySem.Spec PyProof.Rows
def yO(cells:List (Str×Addr)):List (Str×dB)→List (Str×Addr)→List (Str×Addr)
 |[],cs=>cs
 |(n,k)::r,cs=>yO cells r (if k== .free then(n,(cells.lookup n).getD 0)::cs else cs)
theorem xak{scope:Scope}{env:Env}(h:∀y∈scope.names,y.2= .free→∃c,env.cells.lookup y.1=some c):kl scope env=pure (yO env.cells scope.names []):=by
 have all:∀(l:List (Str×dB)) (cs:List (Str×Addr)),(∀y∈l,y.2= .free→∃c,env.cells.lookup y.1=some c)→
   (forIn l cs fun x r=>match x with
    |(name,kind)=>if (kind==bZ)=true then do let a ←cellOf env name;pure (eV ((name,a)::r))else pure (eV r):Sem (List (Str×Addr)))=pure (yO env.cells l cs):=by
  intro l
  induction l with
  |nil=>intro cs _;rfl
  |cons y r ih=>
   intro cs hl;obtain⟨n,k⟩:=y;rw[i4]
   by_cases hk:k= .free
   ·subst hk;obtain⟨c,hc⟩:=hl (n,.free) aK rfl;have e:cellOf env n=pure c:=by unfold cellOf;rw[hc]
    simp only[beq_self_eq_true,if_true,e,pure_bind];rw[ih _ fun z hz=>hl z (aC _ hz)];simp[yO,hc]
   ·have hb:(k==bZ)=false:=by simpa using hk
    simp only[hb,cx,if_false,pure_bind];rw[ih _ fun z hz=>hl z (aC _ hz)];simp[yO,hb]
 unfold kl;have:=all scope.names [] h;simp only[bind_pure]at this⊢;exact this
theorem xcr{cells:List (Str×Addr)}:∀{l:List (Str×dB)} {cs:List (Str×Addr)} {x:Str} {c:Addr},(∀y∈l,y.2= .free→∃c,cells.lookup y.1=some c)→(yO cells l cs).lookup x=some c→
  cs.lookup x=some c∨cells.lookup x=some c
 |[],cs,x,c,_,h=>.inl h
 |(n,k)::r,cs,x,c,hl,h=>by
  unfold yO at h;rcases xcr (fun z hz=>hl z (aC _ hz)) h with q|q
  ·split at q
   ·rename_i hk;rw[cD]at q
    split at q
    ·rename_i hx;obtain⟨c',hc⟩:=hl (n,k) aK (by simpa using hk);have e:x=n:=by simpa using hx
     subst e;rw[hc]at q
     right
     rw[hc];simpa using q
    ·exact .inl q
   ·exact .inl q
  ·exact .inr q
theorem jl{cells:List (Str×Addr)}:∀{l:List (Str×dB)} {cs:List (Str×Addr)} {x:Str},(x,bZ)∈l∨(∃c,cs.lookup x=some c)→∃c,(yO cells l cs).lookup x=some c
 |[],cs,x,h=>by
  rcases h with h|h
  ·simp at h
  ·exact h
 |(n,k)::r,cs,x,h=>by
  unfold yO;refine jl ?_;rcases h with h|⟨c,h⟩
  ·rcases ao.mp h with h|h
   ·cases h
    right
    simp
   ·exact .inl h
  ·right
   split
   ·rw[cD]
    split
    ·exact⟨_,rfl⟩
    ·exact⟨c,h⟩
   ·exact⟨c,h⟩
def Cx.blk(X:Cx)(scope:Scope)(C:Addr)(Nc:List Str)(s₂:ab)(H₂:Hp)(fp:List Addr):Cx:=
 {X with N:=Nc,s₀:=s₂,H₀:=H₂,env:=compEnvC scope (yO X.env.cells scope.names []) C X.env,outer:=X.stack,stack:=X.stack,ex:=fp,fn:=fun _=>false,pn:=[],xe:=fun _ _=>False,cp:=fun _=>false}
def xcs(X:Cx)(scope:Scope):List Nat→List Str→Prop
 |[],[]=>True
 |j::js,y::ys=>(X.N[j]? =some y∧scope.names.lookup y=some .free∧(X.env.kindOf y=some .cell∨X.env.kindOf y=some .free))∧xcs X scope js ys
 |_,_=>False
def zO(σ:St)(cap:List Nat):St:=cap.map fun j=>(σ[j]?).getD none
structure uk(X:Cx)(scope:Scope)(x:Str)(cap:List Nat)(ys:List Str):Prop where
 kind:scope.kind= .function
 nocell:∀y∈scope.names,y.2≠.cell
 locs:∀y∈scope.names,y.2= .local→scope.names.lookup y.1=some .local
 lx:scope.names.lookup x=some .local
 fr:∀y∈scope.names,y.2= .free→X.env.kindOf y.1=some .cell∨X.env.kindOf y.1=some .free
 cap:xcs X scope cap ys
 nd:(x::ys).Nodup
theorem yt{X:Cx}{scope:Scope}{x:Str}{cap:List Nat}{ys:List Str}(kind:scope.kind= .function)(h1:(scope.names.all fun y=> !(y.2== .cell))=true)(h2:(scope.names.all fun y=> !(y.2== .local)||scope.names.lookup y.1==some .local)=true)
  (hx:scope.names.lookup x=some .local) (h3:(scope.names.all fun y=> !(y.2== .free)||(X.env.kindOf y.1==some .cell||X.env.kindOf y.1==some .free))=true) (hcap:xcs X scope cap ys) (hnd:(x::ys).Nodup):uk X scope x cap ys:=by
 refine⟨kind,fun y hy e=>?_,fun y hy e=>?_,hx,fun y hy e=>?_,hcap,hnd⟩
 ·have:=cg.mp h1 y hy;rw[e]at this;exact absurd this (by decide)
 ·have:=cg.mp h2 y hy;rw[e]at this;simpa using this
 ·have:=cg.mp h3 y hy;rw[e]at this;simpa using this
theorem jG{X:Cx}{scope:Scope}{σ:St}:∀{cap:List Nat} {ys:List Str} {i:Nat} {y:Str} {v:V},xcs X scope cap ys→ys[i]? =some y→(zO σ cap)[i]? =some (some v)→
  ∃j:Nat,X.N[j]? =some y∧σ[j]? =some (some v)∧scope.names.lookup y=some .free∧(X.env.kindOf y=some .cell∨X.env.kindOf y=some .free)
 |[],[],i,y,v,_,h,_=>by simp at h
 |j::js,z::zs,0,y,v,⟨⟨h1,h2,h3⟩,_⟩,e1,e2=>by
  simp at e1;subst e1;refine⟨j,h1,?_,h2,h3⟩;simp only[zO,bg,List.getElem?_cons_zero,lp]at e2;cases q:σ[j]? with
  |none=>rw[q]at e2;cases e2
  |some w=>rw[q]at e2;simp at e2;rw[e2]
 |j::js,z::zs,i+1,y,v,⟨_,h⟩,e1,e2=>jG (i:=i) h (by simpa using e1) (by simpa [zO]using e2)
 |[],_::_,_,_,_,h,_,_=>h.elim
 |_::_,[],_,_,_,h,_,_=>h.elim
theorem xdh{X:Cx}{scope:Scope}:∀{cap:List Nat} {ys:List Str},xcs X scope cap ys→cap.length=ys.length
 |[],[],_=>rfl
 |_::_,_::_,⟨_,h⟩=>by simp[xdh h]
 |[],_::_,h=>h.elim
 |_::_,[],h=>h.elim
theorem xaB{l:List (Str×dB)}{y:Str}{k:dB}(h:l.lookup y=some k):(y,k)∈l:=PySem.mem_of_lookup h
theorem xaC{env:Env}:∀{names:List (Str×dB)} {x:Str},names.lookup x=some .free→
  (names.map fun(n,k)=>if (k==bZ&&env.scope.kind== .function&&env.kindOf n==some .cell)then(n,kF)else(n,k)).lookup x=some .cell∨
  (names.map fun(n,k)=>if (k==bZ&&env.scope.kind== .function&&env.kindOf n==some .cell)then(n,kF)else(n,k)).lookup x=some .free
 |[],_,h=>by simp at h
 |(n,k)::r,x,h=>by
  have ih:= @xaC env r x;rw[bg];rw[cD]at h;cases hx:x==n with
  |true=>
   rw[hx]at h;simp only[lp]at h;subst h;dsimp only
   split
   ·left;rw[cD,hx]
   ·right;rw[cD,hx]
  |false=>
   rw[hx]at h;dsimp only
   split
   ·rw[cD,hx];exact ih h
   ·rw[cD,hx];exact ih h
theorem uH{env:Env}:∀{names:List (Str×dB)} {x:Str} {k:dB},
  (names.map fun(n,k)=>if (k==bZ&&env.scope.kind== .function&&env.kindOf n==some .cell)then(n,kF)else(n,k)).lookup x=some k→(k= .cell∨k= .free)→(∀y∈names,y.2≠.cell)→(x,bZ)∈names
 |[],_,_,h,_,_=>by simp at h
 |(n,k')::r,x,k,h,hk,hc=>by
  rw[bg]at h;have hc':∀y∈r,y.2≠.cell:=fun y hy=>hc y (aC _ hy);have nk:k'≠.cell:=hc (n,k') aK;dsimp only at h
  split at h
  ·rename_i q;rw[cD]at h
   split at h
   ·rename_i hx;have e:x=n:=by simpa using hx
    have e2:k'= .free:=by
     simp only[fj,beq_iff_eq]at q;exact q.1.1
    rw[e,e2];exact aK
   ·exact aC _ (uH h hk hc')
  ·rw[cD]at h
   split at h
   ·rename_i hx;have e:x=n:=by simpa using hx
    have e3:k'=k:=by simpa using h
    rcases hk with q|q
    ·exact absurd (e3.trans q) nk
    ·rw[e,e3,q];exact aK
   ·exact aC _ (uH h hk hc')
section
variable {X:Cx} {scope:Scope} {x:Str} {cap:List Nat} {ys:List Str}
theorem uk.clos(B:uk X scope x cap ys)(ok:X.Ok):∀y∈scope.names,y.2= .free→∃c,X.env.cells.lookup y.1=some c:=fun y hy e=>ok.has y.1 (B.fr y hy e)
theorem uk.sub(B:uk X scope x cap ys)(ok:X.Ok){z:Str}{c:Addr}(h:(yO X.env.cells scope.names []).lookup z=some c):X.env.cells.lookup z=some c:=by
 rcases xcr (B.clos ok) h with q|q
 ·simp at q
 ·exact q
theorem uk.start{pins:List (Addr×Obj)}{σ:St}{H₂:Hp}{s₂:ab}{fp:List Addr}{h₁:Heap}{tk:Nat}{C D:Addr}(B:uk X scope x cap ys)(I:Inv X pins σ H₂ s₂)
  (hf:∀b∈fp,ji X pins H₂ b) (hD:s₂.heap.objs.size≤D) (hC:s₂.heap.objs.size≤C) (hDC:D≠C) (hk:∀b o,s₂.heap.get? b=some o→h₁.get? b=some o)
  (hns:∃m,h₁.Ns C m) (hl:h₁.get? D=some {cls:=.type "list",data:=.seq ([]:List Value).toArray}) (hfp:∀b∈fp,b<s₂.heap.objs.size):
  Inv (X.blk scope C (x::ys) s₂ H₂ fp) [] (none::zO σ cap) (upd H₂ D (.lst [])) {s₂ with heap:=h₁,toks:=tk}:=by
 have ok:=I.ok;have freshC:H₂ C=none:=I.hok.fresh hC;have freshD:H₂ D=none:=I.hok.fresh hD;have lt:∀b o,s₂.heap.get? b=some o→b<s₂.heap.objs.size:=fun b o e=>aj e;refine⟨⟨ok.mod,B.kind,ok.glob,ok.blt,hC,fun y z c h1 h2=>ok.inj y z c (B.sub ok h1) (B.sub ok h2),fun y hy=>?_,fun y c h=>(aH h).elim,ok.hd,ok.frames,.inl rfl,fun b hb=>⟨?_,fun y c h e=>?_⟩,I.bs,a7 ok.bsz I.sz,fun b o e hb=>?_,fun b hb hs=>?_,I.stack,I.stkFree,fun y c h=>(aH h).elim,fun b hb=>I.hok.fresh hb⟩,
  rfl,I.bare,Un.laid hk hD freshD,?_,fun y c h=>?_,?_,fun y c h=>?_,fun p hp=>?_,?_,?_⟩
 ·have hy':(j3 scope X.env).names.lookup y=some .cell∨(j3 scope X.env).names.lookup y=some .free:=hy;have m:(y,bZ)∈scope.names:=by
   rcases hy' with q|q
   ·exact uH q (.inl rfl) B.nocell
   ·exact uH q (.inr rfl) B.nocell
  exact jl (.inl m)
 ·exact ar (aw (hfp b hb) hC)
 ·exact(hf b hb).2.2.2.2.1 y c (B.sub ok h) e
 ·rcases(hf b hb).2.2.2.1 with q|q
  ·exact ok.noex b o e q
  ·exact absurd (aw (aj (ok.bs b o e).1) q) (bQ _)
 ·rcases ao.mp (I.stkSub b hs)with q|q
  ·exact(hf b hb).2.1 q
  ·exact(hf b hb).2.2.1 q
 ·obtain⟨m,hm⟩:=hns;refine⟨m,hm,fun i y v e1 e2 e3=>?_⟩;cases i with
  |zero=>simp at e2
  |succ i=>
   obtain⟨j,n1,n2,n3,n4⟩:=jG (i:=i) B.cap (by simpa [Cx.blk]using e1) (by simpa using e2);obtain⟨m0,hn0,hl0⟩:=I.loc;have vis:Vis X.env.scope y:=by
    rcases n4 with q|q
    ·exact .inr (.inl q)
    ·exact .inr (.inr q)
   obtain⟨u,ru,l⟩:=hl0 j y v n1 n2 vis;refine⟨u,ru,.inr ⟨xaC n3,?_⟩⟩;rcases l with⟨k,_⟩|⟨_,c,ec,z⟩
   ·rw[k]at n4;rcases n4 with q|q<;> cases q
   ·obtain⟨c',ec'⟩:=jl (cells:=X.env.cells) (cs:=[]) (.inl (xaB n3));have:=B.sub ok ec';rw[ec]at this;cases this;obtain⟨o,ho,hd⟩:=z;exact⟨c,ec',o,hk c o ho,hd⟩
 ·obtain⟨v,o,ho,hd⟩:=I.cell y c (B.sub ok h);exact⟨v,o,hk c o ho,hd⟩
 ·show upd H₂ D _ C=none;rw[xl (a8 hDC)];exact freshC
 ·obtain⟨v,o,ho,hd⟩:=I.cell y c (B.sub ok h);rw[xl (ar (aw (lt c o ho) hD))];refine(I.freeC y c (B.sub ok h)).imp id fun hh58=>?_;obtain⟨_,o',ho',hno⟩:=hh58;refine⟨rfl,o',ho',fun z i v e1 k e2=>?_⟩;cases i with
  |zero=>simp at e2
  |succ i=>
   obtain⟨j,n1,n2,n3,n4⟩:=jG (i:=i) B.cap (by simpa [Cx.blk]using e1) (by simpa using e2);exact hno z j v n1 n4 n2
 ·exact absurd (show p∈([]:List (Addr×Obj))from hp) (by simp)
 ·exact I.hok.laid hk hD ⟨aJ _,[],0,.nil,hl⟩
 ·simp[Cx.blk,zO,xdh B.cap]
theorem uk.back{pins:List (Addr×Obj)}{σ:St}{H₂ H':Hp}{s₂ s':ab}{fp:List Addr}{C:Addr}{pl:List (Addr×Obj)}{σ':St}(B:uk X scope x cap ys)(I:Inv X pins σ H₂ s₂)
  (hf:∀b∈fp,ji X pins H₂ b) (J:Inv (X.blk scope C (x::ys) s₂ H₂ fp) pl σ' H' s'):Inv X pins σ H' s':=
 I.call' (ch:=fp) J.os J.base J.hok J.bare fun b hb=>by
  obtain⟨f0,f1,f2,f3,f4,f5⟩:=hf b hb;refine⟨?_,f1,f4,f5⟩;rcases f3 with q|q
  ·exact .inl q
  ·exact .inr q
theorem uk.far{pins:List (Addr×Obj)}{σ:St}{H₂ H':Hp}{s₂ s':ab}{fp:List Addr}{C:Addr}{pl:List (Addr×Obj)}{σ':St}(I:Inv X pins σ H₂ s₂)
  (hC:s₂.heap.objs.size≤C) (J:Inv (X.blk scope C (x::ys) s₂ H₂ fp) pl σ' H' s'):
  H' C=none∧C≠X.env.locals∧X.s₀.heap.objs.size≤C∧(∀z c,X.env.cells.lookup z=some c→c≠C)∧∀p∈X.pn++pins,p.1≠C:=by
 refine⟨J.free,dG (aw I.lt hC),a7 I.sz hC,fun z c e q=>?_,fun p hp q=>?_⟩
 ·obtain⟨v,w⟩:=I.cell z c e;exact absurd (aw w.lt (by rw[q];exact hC)) (bQ _)
 ·exact absurd (aw (aj (I.pin p hp).1) (by rw[q];exact hC)) (bQ _)
end
theorem xfO{prog:aI}{w:World}{A:aU}{R:gc→ab→Prop}{s:ab}{elt tg iter:Expr}{ifs:List Expr}{scope:Scope}{pos:Pos}{it acc:Value}{env:Env}(J:Nat→ab→Prop)
  (go:∀n s,J n s→wpAny (model prog w) A (gx it) (fun r s1=>match r with
   |none=>R (.ok .next) s1
   |some v=>wpAny (model prog w) A (gy tg it v) (fun _ s2=>wpAny (model prog w) A (gW tg env v) (fun _ s3=>
     wpAny (model prog w) A (forIn ifs true fun c r=>if r=true then do let ok ←isTrue c env (eval c env);pure (eV ok)else pure (eV r)) (fun ok s4=>
      if ok=true then wpAny (model prog w) A (eval elt env) (fun y s5=>wpAny (model prog w) A (call (.builtin "list.append") [acc,y]) (fun _ s6=>∃m,m<n∧J m s6) (fun _ _=>False) s5) (fun _ _=>False) s4
      else∃m,m<n∧J m s4) (fun _ _=>False) s3) (fun _ _=>False) s2) (fun _ _=>False) s1) (fun _ _=>False) s)
  (n:Nat) (h:J n s):cW (model prog w) A (.compLoop (.ListComp elt [⟨tg,iter,ifs,0⟩] scope pos) 0 it acc env) R s:=by
 refine codeAny_loop rfl J (fun n s hJ=>?_) n h;show wpAny _ A ((compTurn (.ListComp elt [⟨tg,iter,ifs,0⟩] scope pos) 0 it acc env).onRaise (fun x=>do noteFrame x env;theTreesLotGoes x)) _ _ s;refine wpAny_noted ?_;rw[compTurn_list];refine ae (hZ (ae (aY (go n s hJ) (fun r s1 h1=>?_) fun _ _ z=>z.elim)));cases r with
 |none=>exact aA h1
 |some v=>
  refine ae (aY h1 (fun _ s2 h2=>ae (aY h2 (fun _ s3 h3=>ae (aY h3 (fun ok s4 h4=>?_) fun _ _ z=>z.elim)) fun _ _ z=>z.elim)) fun _ _ z=>z.elim);cases ok with
  |false=>exact aA ⟨rfl,h4⟩
  |true=>
   exact ae (ae (aY h4 (fun y s5 h5=>ae (aY h5 (fun _ s6 h6=>aA (aA ⟨rfl,h6⟩)) fun _ _ z=>z.elim)) fun _ _ z=>z.elim))
def CTs(Xc:Cx)(ifs:List Expr)(t:TT):Prop:=
 ∀(pins:List (Addr×Obj)) (s:ab) (σ:St) (H:Hp) (Q:Bool→Hp→Prop),Inv Xc pins σ H s→t σ H Q→
  wpAny (model Xc.prog Xc.w) Xc.A (forIn ifs true fun c r=>if r=true then do let ok ←isTrue c Xc.env (eval c Xc.env);pure (eV ok)else pure (eV r)) (TP Xc pins σ Q) Xc.xe s
def xe7:TT:=fun _ H Q=>Q true H
theorem yp{Xc:Cx}:CTs Xc [] xe7:=fun _ _ _ H _ I q=>wpAny_tests_nil ⟨H,I,q⟩
theorem xas{Xc:Cx}{c:Expr}{t:TT}(h:PT Xc c t):CTs Xc [c] t:=fun pins s σ H Q I q=>wpAny_tests_one (h pins s σ H Q I q)
abbrev CW:=Nat→Nat→List V→Hp→Prop
@[irreducible] def zg(J:It)(caps:St)(tt:TT)(te:TE)(Q:VK)(H2:Hp):Prop:=∀D,H2 D=none→∃W:CW,(∃m,W 0 m [] (upd H2 D (.lst [])))∧
 ∀i m acc H3,W i m acc H3→H3 D=some (.lst acc)∧((J.stop i H3∧Q (.ref D) H3)∨(J.go i H3∧acc.length<aL∧∀v H4,J.yld i H3 v H4→tt (some v::caps) H4 fun b H5=>
  (b=true→te (some v::caps) H5 fun u H6=>H6 D=some (.lst acc)∧∃m',m'<m∧W (i+1) m' (acc++[u]) (upd H6 D (.lst (acc++[u]))))∧(b=false→∃m',m'<m∧W (i+1) m' acc H5)))
def xpf(cap:List Nat)(wi:TI)(tt:TT)(te:TE):TE:=fun σ H Q=>wi σ H fun J H2=>zg J (zO σ cap) tt te Q H2
section
variable {X:Cx} {scope:Scope} {x:Str} {cap:List Nat} {ys:List Str} {elt iter:Expr} {ifs:List Expr} {px pos:Pos} {wi:TI} {tt:TT} {te:TE}
theorem xfP(B:uk X scope x cap ys)(hc:X.calm=true)(he:∀C s H fp,PE (X.blk scope C (x::ys) s H fp) elt te)(ht:∀C s H fp,CTs (X.blk scope C (x::ys) s H fp) ifs tt)
  {pins:List (Addr×Obj)} {σ:St} {s₂:ab} {Q:VK} {RR:Value→Addr→gc→ab→Prop} {itv:Value} {E:Value→ab→Prop}
  (hp:PIE X pins σ (.Name x px) (fun J H2=>zg J (zO σ cap) tt te Q H2) itv s₂)
  (hR:∀(D C:Addr) (H':Hp) (s':ab),Inv X pins σ H' s'→(∃m,s'.heap.Ns C m)→H' C=none→C≠X.env.locals→X.s₀.heap.objs.size≤C→(∀z c,X.env.cells.lookup z=some c→c≠C)→(∀p∈X.pn++pins,p.1≠C)→Q (.ref D) H'→RR (.ref D) C (.ok .next) s'):
  wpAny (model X.prog X.w) X.A (newList []) (fun acc s₃=>wpAny (model X.prog X.w) X.A (j4 scope X.env.globals (yO X.env.cells scope.names []) [] X.env.qual none .none (some X.env)) (fun cenv s₄=>
   cW (model X.prog X.w) X.A (.compStart (.ListComp elt [⟨.Name x px,iter,ifs,0⟩] scope pos) 0 itv acc {cenv with scope:=j3 scope X.env}) (RR acc cenv.locals) s₄) E s₃) E s₂:=by
 obtain⟨it,fp,tn,J,H2,e,I2,T,st2,f2,hw⟩:=hp;subst e;unfold zg at hw;refine eZ (gD B.nocell (by intro y hy;simp at hy) (fun h₁ hns₁ hsb₁=>?_) B.kind);dsimp only at hns₁ hsb₁⊢;generalize hG:s₂.heap.push {cls:=.type "list",dict:=none,data:=.seq ([]:List Value).toArray}=G at hns₁ hsb₁⊢;have hsz:G.objs.size=s₂.heap.objs.size+1:=by rw[←hG,cI]
 have hCle:s₂.heap.objs.size≤G.objs.size:=by lia
 have hDC:s₂.heap.objs.size≠G.objs.size:=by lia
 have old:∀b o,s₂.heap.get? b=some o→h₁.get? b=some o:=fun b o q=>by
  have lt:=aj q;refine hsb₁.extBut b o (ar (aw lt hCle)) (af _ ?_);rw[←hG];exact af _ q
 have accAt:h₁.get? s₂.heap.objs.size=some {cls:=.type "list",data:=.seq ([]:List Value).toArray}:=by
  refine hsb₁.extBut _ _ hDC (af _ ?_);rw[←hG];exact aB _ rfl
 have hfp:∀b∈fp,b<s₂.heap.objs.size:=fun b hb=>by
  obtain⟨o,ho,_⟩:=T.obj _ _ st2 b hb;exact aj ho
 obtain⟨W,⟨m0,w0⟩,turn⟩:=hw s₂.heap.objs.size (I2.hok.fresh (ai _));generalize htk:s₂.toks+([]:List (Str×Value)).length=tk;have I0:=B.start (tk:=tk) (C:=G.objs.size) I2 f2 (ai _) hCle hDC old ⟨_,hns₁⟩ accAt hfp;have st0:tn 0 h₁:=T.keep _ _ _ st2 fun b hb o q=>old b o q
 -- what stays true of the iterator's objects
 have f3:∀{H':Hp},(∀b∈fp,H' b=none)→∀b∈fp,ji (X.blk scope G.objs.size (x::ys) s₂ H2 fp) [] H' b:=fun hn b hb=>by
  obtain⟨f0,f1,f2',f3',f4,f5⟩:=f2 b hb;refine⟨hn b hb,ar (aw (hfp b hb) hCle),fun hs=>?_,.inl hb,fun z c q=>f4 z c (B.sub I2.ok q),fun p hp=>absurd (show p∈([]:List (Addr×Obj))from hp) (by simp)⟩;rcases ao.mp (I2.stkSub b hs)with q|q
  ·exact f1 q
  ·exact f2' q
 have n0:∀b∈fp,upd H2 s₂.heap.objs.size (.lst []) b=none:=fun b hb=>by
  rw[xl (ar (hfp b hb))];exact(f2 b hb).1
 have loop:∀sx:ab,sx={s₂ with heap:=h₁,toks:=tk}→
   cW (model X.prog X.w) X.A (.compLoop (.ListComp elt [⟨.Name x px,iter,ifs,0⟩] scope pos) 0 (.ref it) (.ref s₂.heap.objs.size) (compEnvC scope (yO X.env.cells scope.names []) G.objs.size X.env)) (RR (.ref s₂.heap.objs.size) G.objs.size) sx:=by
  rintro sx rfl;refine xfO (fun n s'=>∃i acc H',Inv (X.blk scope G.objs.size (x::ys) s₂ H2 fp) [] (none::zO σ cap) H' s'∧tn i s'.heap∧(∀b∈fp,H' b=none)∧W i n acc H') ?_ m0 ⟨0,[],_,I0,st0,n0,w0⟩;rintro n s3 ⟨i,acc,H3,I3,st3,fr3,w3⟩;obtain⟨hD3,alt⟩:=turn i n acc H3 w3;rcases alt with⟨stop,q⟩|⟨go,hlen,step⟩
  ·refine aY (T.done (X.blk scope G.objs.size (x::ys) s₂ H2 fp) rfl rfl rfl hc i [] s3 _ H3 (fun _ _=>False) I3 (f3 fr3) st3 stop) (fun r s4 hh59=>?_) fun _ _ z=>z.elim;obtain⟨hr,I4⟩:=hh59;subst hr;obtain⟨g1,g2,g3,g4,g5⟩:=uk.far I2 hCle I4;obtain⟨m4,hm4,_⟩:=I4.loc;exact hR _ _ H3 s4 (B.back I2 f2 I4) ⟨m4,hm4⟩ g1 g2 g3 g4 g5 q
  ·refine aY (T.item (X.blk scope G.objs.size (x::ys) s₂ H2 fp) rfl rfl rfl hc i [] s3 _ H3 (fun _ _=>False) I3 (f3 fr3) st3 go) (fun r s4 hh60=>?_) fun _ _ z=>z.elim;obtain⟨u,hr,h4⟩:=hh60;subst hr;refine aY h4 (fun _ s4 hh61=>?_) fun _ _ z=>z.elim;obtain⟨v,H4,I4,rv,y4,st4,fr4⟩:=hh61;have I4':=I4.pinned (f3 fr4) (T.obj _ _ st4);refine ig (xe1 (X:=X.blk scope G.objs.size (x::ys) s₂ H2 fp) (i:=0) I4' B.nd rfl (.inl (dv B.lx)) rv (fun s5 I5=>?_) (.inr (dv B.lx)));have I5':Inv (X.blk scope G.objs.size (x::ys) s₂ H2 fp) ([]++uU fp s4.heap) (some v::zO σ cap) H4 s5:=I5;refine aY (ht _ _ _ _ _ s5 _ H4 _ I5' (step v H4 y4)) (fun ok s6 hh62=>?_) fun _ _ z=>z.elim;obtain⟨H6,I6,q6⟩:=hh62;have pinned:∀{σ7:St} {H7:Hp} {s7:ab},Inv (X.blk scope G.objs.size (x::ys) s₂ H2 fp) ([]++uU fp s4.heap) σ7 H7 s7→tn (i+1) s7.heap∧∀b∈fp,H7 b=none:=fun{σ7 H7 s7} I7=>by
    refine⟨T.keep _ _ _ st4 fun b hb o e=>(I7.pin (b,o) (aN _ (aN _ (uG hb e)))).1,fun b hb=>?_⟩;obtain⟨o,e,d⟩:=T.obj _ _ st4 b hb;exact(I7.pin (b,o) (aN _ (aN _ (uG hb e)))).2.1
   have weak:∀{H7:Hp} {s7:ab},Inv (X.blk scope G.objs.size (x::ys) s₂ H2 fp) ([]++uU fp s4.heap) (some v::zO σ cap) H7 s7→Inv (X.blk scope G.objs.size (x::ys) s₂ H2 fp) [] (none::zO σ cap) H7 s7:=fun I7=>
    (I7.unpinned (pins:=[])).weak rfl fun j z e=>by
     cases j with
     |zero=>simp at e
     |succ j=>simpa using e
   cases ok with
   |false=>
    rw[if_neg aH];obtain⟨m',hm',w'⟩:=q6.2 rfl;exact⟨m',hm',i+1,acc,H6,weak I6,(pinned I6).1,(pinned I6).2,w'⟩
   |true=>
    rw[if_pos rfl];refine aY (he _ _ _ _ _ s6 _ H6 _ I6 (q6.1 rfl)) (fun y s7 hh63=>?_) fun _ _ z=>z.elim;obtain⟨z,H7,I7,rz,hD7,m',hm',w'⟩:=hh63;refine aY (yi (X:=X.blk scope G.objs.size (x::ys) s₂ H2 fp) _ s7 _ H7 (.ref s₂.heap.objs.size) [z] (.ref s₂.heap.objs.size) [y] (fun _ H8=>H8=upd H7 s₂.heap.objs.size (.lst (acc++[z]))) I7 rfl (.cons rz .nil) ⟨_,acc,z,rfl,rfl,hD7,hlen,rfl⟩) (fun _ s8 hh64=>?_) fun _ _ z=>z.elim;obtain⟨_,H8,I8,_,e8⟩:=hh64;subst e8;exact⟨m',hm',i+1,_,_,weak I8,(pinned I8).1,(pinned I8).2,w'⟩
 exact codeAny_compStart_list (loop _ rfl) (T.self _ 0 _ _ _ st0 (loop _ rfl))
theorem yk(B:uk X scope x cap ys)(hc:X.calm=true)(hi:PI X (.Name x px) iter wi)(he:∀C s H fp,PE (X.blk scope C (x::ys) s H fp) elt te)(ht:∀C s H fp,CTs (X.blk scope C (x::ys) s H fp) ifs tt)
  (hs:∀x,dU iter X.env x=pure x:=by intro _;rfl):PE X (.ListComp elt [⟨.Name x px,iter,ifs,0⟩] scope pos) (xpf cap wi tt te):=by
 intro pins s σ H Q I h;rw[eval_ListComp];refine fO (use:=none) rfl hs (xak (B.clos I.ok)) B.kind B.locs ?_;refine thn (hi pins s σ H _ I h) fun v s1 h1=>thn h1 fun itv s2 h2=>?_;refine xfP (Q:=Q) (RR:=fun acc C=>compPost (model X.prog X.w) X.A X.xe none (EP X pins σ Q) acc C) B hc he ht h2 ?_;rintro D C H' s' J ⟨m,hm⟩ g1 g2 g3 g4 g5 q;exact⟨m,hm,fun h' sb=>⟨.ref D,H',J.turned (t':=s'.toks) (fun b o hb e=>(sb.2 b hb).trans e) g1 g2 (.inr g3) g4 g5,rfl,q⟩⟩
theorem xfQ{i:Nat}{y:Str}{pos' spos:Pos}(B:uk X scope x cap ys)(hc:X.calm=true)(hN:X.N.Nodup)(hi:X.N[i]? =some y)(hy:X.env.scope.names.lookup y=some .local)(hit:PI X (.Name x px) iter wi)
  (he:∀C s H fp,PE (X.blk scope C (x::ys) s H fp) elt te) (ht:∀C s H fp,CTs (X.blk scope C (x::ys) s H fp) ifs tt)
  (hsw:gU (.ListComp elt [⟨.Name x px,iter,ifs,0⟩] scope pos) (some (.Name y pos')) spos.line X.env=pure true:=by rfl)
  (hs:∀x,dU iter X.env x=pure x:=by intro _;rfl):
  PS X (.Assign [.Name y pos'] (.ListComp elt [⟨.Name x px,iter,ifs,0⟩] scope pos) spos) (xe2 (xpf cap wi tt te) (xcn i)):=by
 intro pins s σ H D I h;rw[exec_Assign_Name_used _ _ _ _ hsw];refine ae (hZ (ae ?_));show wpAny _ X.A (do let _ ←comprehension (.ListComp elt [⟨.Name x px,iter,ifs,0⟩] scope pos) scope X.env _ (newList []) false (eval iter X.env) (some (gW (.Name y pos') X.env))) _ _ s;refine ae (aY (fO (use:=some (gW (.Name y pos') X.env)) (Q:=fun _ s'=>SP X pins D .next s') rfl hs (xak (B.clos I.ok)) B.kind B.locs
  (thn (hit pins s σ H _ I h) fun v s1 h1=>thn h1 fun itv s2 h2=>?_)) (fun _ s' hq=>aA (aA hq)) fun _ _ e=>e)
 refine xfP (Q:=fun v H1=>xcn i v σ H1 D.nx) (RR:=fun acc C=>compPost (model X.prog X.w) X.A X.xe (some (gW (.Name y pos') X.env)) (fun _ s'=>SP X pins D .next s') acc C) B hc he ht h2 ?_;rintro Da C H' s' J ⟨m,hm⟩ g1 g2 g3 g4 g5 q;show wpAny _ X.A (gW (.Name y pos') X.env (.ref Da)) _ _ s';refine(ig (xhv (v:=.ref Da) J hN hi (.inl hy) rfl (fun s4 J4 hh65=>?_) (.inr hy)));obtain⟨a,sb,ha⟩:=hh65;have hCa:C≠a:=by
  rcases ha with z|z
  ·rw[z];exact g2
  ·exact fun w=>g4 y a z w.symm
 refine⟨m,hm.sameBut sb hCa,fun h' sb'=>?_⟩;exact⟨_,H',J4.turned (t':=s4.toks) (fun b o hb e=>(sb'.2 b hb).trans e) g1 g2 (.inr g3) g4 g5,q⟩
end
end L2
namespace L2
open PySem PySem.Spec PyProof.Rows
def Its(lo st:Int)(n:Nat):It:=⟨fun i _=>i<n,fun i H x H'=>H'=H∧x= .int (lo+i*st),fun i _=>n≤i⟩
theorem xlB{P:aI}{w:World}{K:ah}{tg:Expr}(it:Addr)(lo st:Int)(n:Nat):Turn P w K tg (Its lo st n) [it] it (fun i h=>IsRangeIter h it (lo+(i:Nat)*st) ((n:Int) - (i:Nat)) st) where
 mem:=by simp
 obj:=fun i h q b hb=>by
  have e:b=it:=by simpa using hb
  subst e;exact⟨_,q,fun v z=>by
   have z':ly _=Data.cell v:=z;cases z'⟩
 keep:=fun i h h' q k=>k it (by simp) _ q
 item:=by
  intro X hP hw hK hc i pins s σ H E I hf q hg;subst hP hw hK;obtain⟨f0,f1,f2,f3,f4,f5⟩:=hf it (by simp);refine(Walks.range (prog:=X.prog) (w:=X.w) (I.ok.hd hc) it lo st n).item i s _ _ hg q fun v h' tk hv q' kk=>?_;obtain⟨t,rfl⟩:=hv;have I1:Inv X pins σ H {s with heap:=h',toks:=tk}:=I.turned (fun b o hb e=>kk b o (by simpa using hb) e) f0 f1 f3 f4 f5;exact⟨_,rfl,xfD (s:={s with heap:=h',toks:=tk}) (n:="range_iterator") q' rfl rfl (by decide) ⟨.int (lo+i*st),H,I1,⟨t,rfl⟩,⟨rfl,rfl⟩,q',fun b hb=>(hf b hb).1⟩⟩
 done:=by
  intro X hP hw hK hc i pins s σ H E I hf q hg;subst hP hw hK;obtain⟨f0,f1,f2,f3,f4,f5⟩:=hf it (by simp);exact wpAny_pyNext_range_end (I.ok.hd hc) q (by have:n≤i:=hg;lia) fun h' eb=>⟨rfl,I.turned (t':=s.toks) (fun b o hb e=>eb b o hb e) f0 f1 f3 f4 f5⟩
 self:=fun _ _ _ _ _ q h=>wpAny_pyIter_rangeiter q h
theorem xmW{P:aI}{w:World}{K:ah}{tg:Expr}(it:Addr)(lo st:Int)(n:Nat):Turn P w K tg (Its lo st n) [it] it (fun i h=>km h it (lo+(i:Nat)*st) ((n:Int) - (i:Nat)) st) where
 mem:=by simp
 obj:=fun i h q b hb=>by
  have e:b=it:=by simpa using hb
  subst e;exact⟨_,q,fun v z=>by
   have z':ly _=Data.cell v:=z;cases z'⟩
 keep:=fun i h h' q k=>k it (by simp) _ q
 item:=by
  intro X hP hw hK hc i pins s σ H E I hf q hg;subst hP hw hK;obtain⟨f0,f1,f2,f3,f4,f5⟩:=hf it (by simp);refine(Walks.longrange (prog:=X.prog) (w:=X.w) (I.ok.hd hc) it lo st n).item i s _ _ hg q fun v h' tk hv q' kk=>?_;obtain⟨t,rfl⟩:=hv;have I1:Inv X pins σ H {s with heap:=h',toks:=tk}:=I.turned (fun b o hb e=>kk b o (by simpa using hb) e) f0 f1 f3 f4 f5;exact⟨_,rfl,xfD (s:={s with heap:=h',toks:=tk}) (n:="longrange_iterator") q' rfl rfl (by decide) ⟨.int (lo+i*st),H,I1,⟨t,rfl⟩,⟨rfl,rfl⟩,q',fun b hb=>(hf b hb).1⟩⟩
 done:=by
  intro X hP hw hK hc i pins s σ H E I hf q hg;subst hP hw hK;obtain⟨f0,f1,f2,f3,f4,f5⟩:=hf it (by simp);exact wpAny_pyNext_long_end (I.ok.hd hc) q (by have:n≤i:=hg;lia) fun h' eb=>⟨rfl,I.turned (t':=s.toks) (fun b o hb e=>eb b o hb e) f0 f1 f3 f4 f5⟩
 self:=fun _ _ _ _ _ q h=>wpAny_pyIter_longiter q h
def yG(a b c:Int):Nat:=(bc a b c).toNat
theorem xiN(a b c:Int):0≤bc a b c:=by
 unfold bc
 split
 ·split
  ·have:=Int.ediv_nonneg (a:=b - a - 1) (b:=c) (by lia) (by lia);lia
  ·lia
 ·split
  ·have:=Int.ediv_nonneg (a:=a - b - 1) (b:= -c) (by lia) (by lia);lia
  ·lia
theorem xhD(a b c:Int):((yG a b c:Nat):Int)=bc a b c:=bT (xiN a b c)
theorem zh(a b:Int):yG a b 1=(b - a).toNat:=by
 unfold yG bc;simp only[show(1:Int) > 0 by decide,if_true]
 split<;> simp<;> lia
section
variable {X:Cx} {tg:Expr}
theorem xmX{pins:List (Addr×Obj)}{σ:St}{H:Hp}{s:ab}{R:It→Hp→Prop}{E:Value→ab→Prop}{a b c:Int}{t u v:Tok}{r:Addr}(I:Inv X pins σ H s)(hr:IsRange s.heap r a b c t u v)
  (q:R (Its a c (yG a b c)) H):wpAny (model X.prog X.w) X.A (pyIter (.ref r)) (PIE X pins σ tg R) E s:=by
 have e2:bc a b c=((yG a b c:Nat):Int) - ((0:Nat):Int):=by rw[xhD];simp
 have e1:a=a+((0:Nat):Int)*c:=by simp
 have fp:∀b'∈[s.heap.objs.size],ji X pins H b':=fun b' hb=>by
  have e:b'=s.heap.objs.size:=by simpa using hb
  subst e;exact I.fpOk (ai _) (I.hok.fresh (ai _))
 cases hsm:gJ a b c with
 |true=>
  refine wpAny_pyIter_range hr hsm ⟨s.heap.objs.size,[s.heap.objs.size],_,_,H,rfl,I.kept (t':=s.toks) fun b o e=>af _ e,xlB _ a c (yG a b c),?_,fp,q⟩;show IsRangeIter _ _ (a+((0:Nat):Int)*c) (((yG a b c:Nat):Int) - ((0:Nat):Int)) c;rw[←e1,←e2];exact aB _ rfl
 |false=>
  refine wpAny_pyIter_longrange hr hsm ⟨s.heap.objs.size,[s.heap.objs.size],_,_,H,rfl,I.kept (t':=s.toks) fun b o e=>af _ e,xmW _ a c (yG a b c),?_,fp,q⟩;show km _ _ (a+((0:Nat):Int)*c) (((yG a b c:Nat):Int) - ((0:Nat):Int)) c;rw[←e1,←e2];exact aB _ rfl
def xiO(k:Int→Hp→Prop):List V→Hp→Prop:=fun vs H=>match vs with
 |[.int j]=>k j H
 |_=>False
def xfR(k:Int→Int→Hp→Prop):List V→Hp→Prop:=fun vs H=>match vs with
 |[.int i,.int j]=>k i j H
 |_=>False
def xlC(k:Int→Int→Int→Hp→Prop):List V→Hp→Prop:=fun vs H=>match vs with
 |[.int i,.int j,.int l]=>k i j l H
 |_=>False
theorem xgQ{k:Int→Hp→Prop}{vs:List V}{H:Hp}(h:xiO k vs H):∃j,vs=[.int j]∧k j H:=by
 unfold xiO at h
 split at h
 ·exact⟨_,rfl,h⟩
 ·exact h.elim
theorem xe8{k:Int→Int→Hp→Prop}{vs:List V}{H:Hp}(h:xfR k vs H):∃i j,vs=[.int i,.int j]∧k i j H:=by
 unfold xfR at h
 split at h
 ·exact⟨_,_,rfl,h⟩
 ·exact h.elim
theorem xn9{k:Int→Int→Int→Hp→Prop}{vs:List V}{H:Hp}(h:xlC k vs H):∃i j l,vs=[.int i,.int j,.int l]∧k i j l H:=by
 unfold xlC at h
 split at h
 ·exact⟨_,_,_,rfl,h⟩
 ·exact h.elim
theorem xkS{us:List Value}{i:Int}(r:Vals [.int i] us):∃t,us=[.int i t]:=by
 obtain⟨u,rfl,t,rfl⟩:=Vals.one r;exact⟨t,rfl⟩
theorem xkT{us:List Value}{i j:Int}(r:Vals [.int i,.int j] us):∃t t',us=[.int i t,.int j t']:=by
 obtain⟨u,v,rfl,⟨t,rfl⟩,⟨t',rfl⟩⟩:=Vals.two r;exact⟨t,t',rfl⟩
theorem xpD{us:List Value}{i j l:Int}(r:Vals [.int i,.int j,.int l] us):∃t t' t'',us=[.int i t,.int j t',.int l t'']:=by
 cases r with
 |cons r rr=>
  obtain⟨t',t'',rfl⟩:=xkT rr;obtain⟨t,rfl⟩:=r;exact⟨t,t',t'',rfl⟩
def xmY(c:Int):Prop:=c≠0∧c.natAbs.log2<9000
def xrY(ta:TA):TI:=fun σ H R=>ta σ H (xiO fun j H1=>R (Its 0 1 (yG 0 j 1)) H1)
def xrZ(ta:TA):TI:=fun σ H R=>ta σ H (xlC fun i j c H1=>xmY c∧R (Its i c (yG i j c)) H1)
theorem ur{a:Expr}{ta:TA}{p pos:Pos}(hg:Gl X "range")(hm:X.mg "range"=none)(ha:PA X [a] ta)(hs:aR [a] X.env=[(false,eval a X.env)]:=by rfl):PI X tg (.Call (.Name "range" p) [a] [] pos) (xrY ta):=by
 intro pins s σ H R I h;refine Call_ (yW I hg hm ko (bM (thn (ha pos pins s σ H _ I h) fun us s1 hh66=>?_) hs rfl));obtain⟨vs,H1,I1,r1,q1⟩:=hh66;obtain⟨j,rfl,q⟩:=xgQ q1;obtain⟨t,rfl⟩:=xkS r1;refine call_range_1 (xmX (I1.kept (t':=_) fun b o e=>af _ e) (IsRange.new ..) q)
theorem xhE{a b c:Expr}{ta:TA}{p pos:Pos}(hg:Gl X "range")(hm:X.mg "range"=none)(ha:PA X [a,b,c] ta)(hs:aR [a,b,c] X.env=(false,eval a X.env)::aR [b,c] X.env:=by rfl)(hpl:(cH pos (aR [b,c] X.env)).any (·.1)=false:=by rfl):
  PI X tg (.Call (.Name "range" p) [a,b,c] [] pos) (xrZ ta):=by
 intro pins s σ H R I h;refine Call_ (yW I hg hm ko (bM (thn (ha pos pins s σ H _ I h) fun us s1 hh67=>?_) hs hpl));obtain⟨vs,H1,I1,r1,q1⟩:=hh67;obtain⟨i,j,l,rfl,⟨h0,hl⟩,q⟩:=xn9 q1;obtain⟨t,t',t'',rfl⟩:=xpD r1;exact call_range_3 h0 (xmX (I1.kept (t':=_) fun b o e=>af _ e) (IsRange.new ..) q) (.inl (iD hl))
def xr0(ta:TA):TE:=fun σ H Q=>ta σ H (xfR fun i j H1=>∀p,H1 p=none→Q (.ref p) (upd H1 p (.rng i j)))
def xq4(ta:TA):TE:=fun σ H Q=>ta σ H (xiO fun j H1=>∀p,H1 p=none→Q (.ref p) (upd H1 p (.rng 0 j)))
theorem xbn{a b:Expr}{ta:TA}{p pos:Pos}(hg:Gl X "range")(hm:X.mg "range"=none)(ha:PA X [a,b] ta)(hs:aR [a,b] X.env=[(false,eval a X.env),(false,eval b X.env)]:=by rfl)(hs2:aR [b] X.env=[(false,eval b X.env)]:=by rfl):
  PE X (.Call (.Name "range" p) [a,b] [] pos) (xr0 ta):=by
 intro pins s σ H Q I h;refine Call_ (yW I hg hm ko (bM (thn (ha pos pins s σ H _ I h) fun us s1 hh68=>?_) (by rw[hs,hs2]) (by rw[hs2];rfl)));obtain⟨vs,H1,I1,r1,q1⟩:=hh68;obtain⟨i,j,rfl,q⟩:=xe8 q1;obtain⟨t,t',rfl⟩:=xkT r1;refine call_range_2 ⟨.ref s1.heap.objs.size,upd H1 s1.heap.objs.size (.rng i j),I1.laid (fun b o e=>af _ e) (ai _) ⟨_,_,_,aB _ rfl⟩,rfl,q _ (I1.hok.fresh (ai _))⟩
theorem xmZ{a:Expr}{ta:TA}{p pos:Pos}(hg:Gl X "range")(hm:X.mg "range"=none)(ha:PA X [a] ta)(hs:aR [a] X.env=[(false,eval a X.env)]:=by rfl):
  PE X (.Call (.Name "range" p) [a] [] pos) (xq4 ta):=by
 intro pins s σ H Q I h;refine Call_ (yW I hg hm ko (bM (thn (ha pos pins s σ H _ I h) fun us s1 hh69=>?_) hs rfl));obtain⟨vs,H1,I1,r1,q1⟩:=hh69;obtain⟨j,rfl,q⟩:=xgQ q1;obtain⟨t,rfl⟩:=xkS r1;refine call_range_1 ⟨.ref s1.heap.objs.size,upd H1 s1.heap.objs.size (.rng 0 j),I1.laid (fun b o e=>af _ e) (ai _) ⟨_,_,_,aB _ rfl⟩,rfl,q _ (I1.hok.fresh (ai _))⟩
end
end L2
namespace PySem
open Sem (wp)
section
variable {prog:aI} {w:World} {A:aU} {E:Value→ab→Prop} {s:ab}
theorem xlD{R:gc→ab→Prop}{r:Addr}{a b c:Int}{t u v:Tok}{k:Nat}(hnd:A.handled=none)(hr:IsRange s.heap r a b c t u v)(hbig:gJ a b c=false)
  (hk:bc a b c=k) (hle:k≤2^24) (D:Addr) (z:Value) (m₀:Nat) (hD:s.heap.get? D=some {cls:=.type "list",data:=.seq #[] m₀})
  (hR:∀g tk xs m,(∀b o,b≠D→s.heap.get? b=some o→g.get? b=some o)→g.get? D=some {cls:=.type "list",dict:=none,data:=.seq xs m,slots:=#[]}→
   ix (fun i v=>∃t,v= .int (a+i*c) t) xs k→R (.ok (.ret z)) {s with heap:=g,toks:=tk}):
  wpAny (model prog w) A.in1 (bF (.ref D) (.ref r) z)
   (fun fin s'=>match fin with| .done f=>R (.ok f) s'| .again d=>d.quiet=true∧cW (model prog w) A d R s') (fun e s'=>R (.error e) s') s:=by
 have nDr:D≠r:=fun e=>by rw[e,hr]at hD;simp at hD
 have nDI:D≠s.heap.objs.size:=ar (aj hD);have nDf:D∉[s.heap.objs.size]:=fun q=>nDI (ax.mp q);have Wk:=(Walks.longrange (prog:=prog) (w:=w) (A:=A.in1) hnd s.heap.objs.size a c k).toS;have fin:∀(g:Heap) (m₁ tk:Nat),km g s.heap.objs.size (a+((0:Nat):Int)*c) ((k:Int) - ((0:Nat):Int)) c→(∀b o,b≠D→s.heap.get? b=some o→g.get? b=some o)→
   g.get? D=some {cls:=.type "list",data:=.seq #[] m₁}→cW (model prog w) A (.builtin "list.extend.loop" ⟨[.ref D,.ref s.heap.objs.size,z],[]⟩) R {s with heap:=g,toks:=tk}:=by
  intro g m₁ tk q1 q2 q3;refine codeAny_extend_loopS Wk (by rw[av];omega) D nDf z k 0 _ #[] m₁ rfl (aJ _) q1 q3 (ItemsOf.nil _) fun s' xs m hm hD' hx=>?_;rw[Moved.eq_with hm];refine hR s'.heap s'.toks xs m (fun b o hb e=>hm.heap b o (fun hq=>?_) (q2 b o hb e)) hD' hx;rcases ao.mp hq with e'|hq
  ·exact hb e'
  ·exact absurd (aj e) (by rw[ax.mp hq];exact bQ _)
 unfold bF;refine ae (iE (T:="range") ⟨_,hr,rfl⟩ ?_);have x1:eE (.ref D) (.ref r)=false:=by simp[eE,nDr]
 have x2:(cG "range"==cG "list")=false:=by decide
 have x3:(cG "range"==cG "tuple")=false:=by decide
 simp only[x1,x2,x3,Bool.or_false,cx,if_false];refine ae (wpAny_pyIter_longrange hr hbig ?_);refine ae (bR (wpAny_hint_range (n:=k) (af _ hr) hk hle ?_));generalize hG:s.heap.push {cls:=.type "longrange_iterator",data:=.fields #[cY a,cY (bc a b c),cY c]}=G;have i1:km G s.heap.objs.size (a+((0:Nat):Int)*c) ((k:Int) - ((0:Nat):Int)) c:=by
  have q:G.get? s.heap.objs.size=some {cls:=.type "longrange_iterator",data:=.fields #[cY a,cY (bc a b c),cY c]}:=by rw[←hG];exact aB _ rfl
  rw[hk]at q;show G.get? _=_;rw[q];simp
 have old:∀b o,s.heap.get? b=some o→G.get? b=some o:=fun b o e=>by rw[←hG];exact af _ e
 have d1:=old D _ hD;refine wpAny_ite_split (fun _=>?_) (fun _=>aA ⟨cf gK _,fin _ m₀ _ i1 (fun b o _ e=>old b o e) d1⟩);refine ae (gE ?_);refine ae ?_;show wpAny _ _ (fP D (·.push .none) >>= fun _=>fP D (·.pop)) _ _ _;refine ae (cU d1 rfl ?_);have d2:=cJ (aW (·.push bq)) d1 rfl;refine cU (hz:=by seq_fits) d2 rfl ?_;have d3:=cJ (aW (·.pop)) d2 rfl;refine aA ⟨cf gK _,fin _ _ _ ?_ (fun b o hb e=>?_) d3⟩
 ·exact(bA _ _ nDI).trans ((bA _ _ nDI).trans i1)
 ·exact(bA _ _ (a8 hb)).trans ((bA _ _ (a8 hb)).trans (old b o e))
theorem xfS{R:gc→ab→Prop}{r:Addr}{a b c:Int}{t u v:Tok}{k:Nat}(hnd:A.handled=none)(hr:IsRange s.heap r a b c t u v)
  (hk:bc a b c=k) (hle:k≤2^24) (D:Addr) (z:Value) (m₀:Nat) (hD:s.heap.get? D=some {cls:=.type "list",data:=.seq #[] m₀})
  (hR:∀g tk xs m,(∀b o,b≠D→s.heap.get? b=some o→g.get? b=some o)→g.get? D=some {cls:=.type "list",dict:=none,data:=.seq xs m,slots:=#[]}→
   ix (fun i v=>∃t,v= .int (a+i*c) t) xs k→R (.ok (.ret z)) {s with heap:=g,toks:=tk}):
  wpAny (model prog w) A.in1 (bF (.ref D) (.ref r) z)
   (fun fin s'=>match fin with| .done f=>R (.ok f) s'| .again d=>d.quiet=true∧cW (model prog w) A d R s') (fun e s'=>R (.error e) s') s:=by
 cases hs:gJ a b c with
 |true=>exact wpAny_extend_range hnd hr hs hk hle D z m₀ hD hR
 |false=>exact xlD hnd hr hs hk hle D z m₀ hD hR
theorem xgR{Q:Value→ab→Prop}{r:Addr}{a b c:Int}{t u v:Tok}{k:Nat}(hnd:A.handled=none)(hr:IsRange s.heap r a b c t u v)
  (hk:bc a b c=k) (hle:k≤2^24)
  (hQ:∀g tk xs m,(∀b o,s.heap.get? b=some o→g.get? b=some o)→
   g.get? s.heap.objs.size=some {cls:=.type "list",dict:=none,data:=.seq xs m,slots:=#[]}→ix (fun i v=>∃t,v= .int (a+i*c) t) xs k→Q (.ref s.heap.objs.size) {s with heap:=g,toks:=tk}):
  wpAny (model prog w) A (call (.type "list") [.ref r]) Q E s:=by
 refine j5 (Q₁:=fun obj s₁=>obj= .ref s.heap.objs.size∧s₁={s with heap:=s.heap.push {cls:=.type "list",data:=.seq #[]}}) F.called_list (F.typeCall_list_1 _) F.entry_list_init
  (code_list_new _ ⟨rfl,rfl⟩) fun obj s₁ q₁=>?_
 obtain⟨rfl,rfl⟩:=q₁;generalize hG:s.heap.push {cls:=.type "list",data:=.seq #[]}=G;have old:∀b o,s.heap.get? b=some o→G.get? b=some o:=fun b o e=>by rw[←hG];exact af _ e
 have hD:G.get? s.heap.objs.size=some {cls:=.type "list",data:=.seq #[]}:=by rw[←hG];exact aB _ rfl
 have nDr:s.heap.objs.size≠r:=fun e=>absurd (aj hr) (by rw[←e];exact bQ _);refine⟨⟨_,hD,rfl⟩,F.args_list_init_2 _ _,?_⟩;show wpAny _ _ (do let old ←eY (.ref s.heap.objs.size);iS (.ref s.heap.objs.size) (fun _=>#[]);letGo old.toList.reverse;bF (.ref s.heap.objs.size) (.ref r) .none) _ _ _;refine ae ?_;unfold eY;refine ae (dC hD rfl (aA ?_));show wpAny _ _ (fP s.heap.objs.size (fun _=>#[]) >>= fun _=>letGo (#[]:Array Value).toList.reverse >>= fun _=>bF (.ref s.heap.objs.size) (.ref r) .none) _ _ _;refine ae (cU hD rfl ?_);have d2:=cJ (aW (fun _=>(#[]:Array Value))) hD rfl;have oth:∀b o,b≠s.heap.objs.size→G.get? b=some o→(G.update s.heap.objs.size (aW (fun _=>(#[]:Array Value)))).get? b=some o:=
  fun b o hb e=>(bA _ _ (a8 hb)).trans e
 refine ae (di ?_);refine xfS (A:=A.in1) hnd (oth r _ (a8 nDr) (old r _ hr)) hk hle s.heap.objs.size .none _ d2 fun g tk xs m q1 q2 q3=>⟨rfl,?_⟩;exact hQ g tk xs m (fun b o e=>q1 b o (ar (aj e)) (oth b o (ar (aj e)) (old b o e))) q2 q3
end
end PySem
namespace L2
open PySem PySem.Spec PyProof.Rows
def xdi(lo:Int)(n:Nat):List V:=(a9 n).map fun(i:Nat)=>V.int (lo+(i:Int))
theorem xeC(lo:Int)(n:Nat):(xdi lo n).length=n:=by simp[xdi]
theorem jA:∀{xs:List V} {us:List Value},xs.length=us.length→(∀(j:Nat) (x:V) (u:Value),xs[j]? =some x→us[j]? =some u→RelV x u)→Vals xs us
 |[],[],_,_=>.nil
 |[],_::_,h,_=>by simp at h
 |_::_,[],h,_=>by simp at h
 |x::xs,u::us,h,k=>.cons (k 0 x u rfl rfl) (jA (by simpa using h) fun j y v e1 e2=>k (j+1) y v (by simpa using e1) (by simpa using e2))
theorem xlE{lo:Int}{n:Nat}{xs:Array Value}(h:ix (fun i v=>∃t,v= .int (lo+(i:Int)*1) t) xs n):Vals (xdi lo n) xs.toList:=by
 obtain⟨hl,hv⟩:=h;refine jA (by rw[xeC];simp[hl]) fun j x u e1 e2=>?_;obtain⟨t,rfl⟩:=hv j u (by simpa using e2);unfold xdi at e1;rw[ak]at e1;cases q:(a9 n)[j]? with
 |none=>rw[q]at e1;cases e1
 |some i=>
  rw[q]at e1;have e3:i=j:=by
   obtain⟨h1,h2⟩:=au.mp q;rw[k9]at h2;exact h2.symm
  subst e3;cases e1;exact⟨t,by rw[Int.mul_one]⟩
section
variable {X:Cx}
theorem uY(hc:X.calm=true):yw X (.type "list") (fun xs H Q=>∃p lo hi,xs=[.ref p]∧H p=some (.rng lo hi)∧yG lo hi 1≤2^24∧∀l,H l=none→Q (.ref l) (upd H l (.lst (xdi lo (yG lo hi 1))))):=by
 intro pins s σ H xs us Q I r h;obtain⟨p,lo,hi,rfl,hp,hz,q⟩:=h;obtain⟨u,rfl,ru⟩:=Vals.one r;cases ru;obtain⟨t,u,v,hr⟩:=I.hok p _ hp;refine xgR (I.ok.hd hc) hr (xhD lo hi 1).symm hz fun g tk xs m k1 k2 k3=>?_;have fr:H s.heap.objs.size=none:=I.hok.fresh (ai _);refine⟨.ref s.heap.objs.size,upd H s.heap.objs.size (.lst (xdi lo (yG lo hi 1))),I.laid (h':=g) (t':=tk) k1 (ai _) ⟨?_,xs.toList,m,xlE k3,by simpa using k2⟩,rfl,q _ fr⟩;rw[xeC,av];omega
end
end L2
namespace L2
open PySem PySem.Spec PyProof.Rows
mutual
inductive Rp(K:ah)(H:Hp):V→iF→Prop
 |non:Rp K H .non .none
 |bl (b:Bool):Rp K H (.bl b) (.bool b)
 |int (i:Int):Rp K H (.int i) (.int i)
 |str (x:Str):Rp K H (.str x) (.str x)
 |lst {a:Addr} {xs:List V} {ds:List iF}:SqL K H a xs→Rps K H xs ds→Rp K H (.ref a) (.list ds)
 |tup {a:Addr} {xs:List V} {ds:List iF}:SqT K H a xs→Rps K H xs ds→Rp K H (.ref a) (.tuple ds)
inductive Rps(K:ah)(H:Hp):List V→List iF→Prop
 |nil:Rps K H [] []
 |cons {x:V} {d:iF} {xs:List V} {ds:List iF}:Rp K H x d→Rps K H xs ds→Rps K H (x::xs) (d::ds)
end
theorem xb.seqT{K:ah}{H H':Hp}{a:Addr}{xs:List V}(e:xb H H')(h:SqT K H a xs):SqT K H' a xs:=by
 rcases h with(h|⟨o,h⟩)|h
 ·exact .inl (.inl (e _ _ h))
 ·exact .inl (.inr ⟨o,e _ _ h⟩)
 ·exact .inr h
theorem Rps.ints{K:ah}{H:Hp}:∀ns:List Int,Rps K H (ns.map V.int) (ns.map d5)
 |[]=>.nil
 |i::r=>.cons (.int i) (Rps.ints r)
theorem Rp.ints{K:ah}{H:Hp}{a:Addr}{ns:List Int}(h:SqL K H a (ns.map V.int)):Rp K H (.ref a) (.list (ns.map d5)):=.lst h (.ints ns)
section
variable {X:Cx} {pins:List (Addr×Obj)} {σ:St} {H:Hp} {s:ab}
mutual
theorem Rp.reads(I:Inv X pins σ H s):∀{v:V} {d:iF} {u:Value},Rp X.K H v d→RelV v u→∃as,Reads s.heap u d as
 |_,_,u,.non,r=>by cases (show u=bq from r);exact⟨_,.none⟩
 |_,_,u,.bl b,r=>by cases (show u=dF b from r);exact⟨_,.bool b⟩
 |_,_,u,.int i,r=>by obtain⟨t,e⟩:=(show∃t,u=eU i t from r);subst e;exact⟨_,.int i t⟩
 |_,_,u,.str x,r=>by obtain⟨t,e⟩:=(show∃t,u=gp x t from r);subst e;exact⟨_,.str x t⟩
 |_,_,u,.lst (a:=a) q rr,r=>by
  cases (show u=bb a from r);obtain⟨its,rv,p,hz⟩:=I.list q;obtain⟨as,ra⟩:=Rps.reads I rr rv;obtain⟨o,ho,hc,n,hd⟩:=p.isList;exact⟨_,.list ho hc hd (by simpa using ra)⟩
 |_,_,u,.tup (a:=a) q rr,r=>by
  cases (show u=bb a from r);obtain⟨its,rv,p,hz⟩:=I.tuple q;obtain⟨as,ra⟩:=Rps.reads I rr rv;obtain⟨o,ho,hc,n,hd⟩:=p;exact⟨_,.tuple ho hc hd (by simpa using ra)⟩
theorem Rps.reads(I:Inv X pins σ H s):∀{v:List V} {d:List iF} {u:List Value},Rps X.K H v d→Vals v u→∃as,ReadsAll s.heap u d as
 |_,_,_,.nil,.nil=>⟨_,.nil⟩
 |_,_,_,.cons q rr,.cons r t=>by
  obtain⟨as,h1⟩:=Rp.reads I q r;obtain⟨bs,h2⟩:=Rps.reads I rr t;exact⟨_,.cons h1 h2⟩
end
end
def xiP(K:ah)(f:Bool→Bool):R2:=fun x y H Q=>∃da db,Rp K H x da∧Rp K H y db∧SeqAt.shaped da=true∧SeqAt.shaped db=true∧Q (.bl (f (lF da db))) H
section
variable {X:Cx}
theorem xpg(hu:X.A.units+64<cLine):OpR X (bE .Eq) (xiP X.K fun b=>b):=by
 intro pins s σ H x y v u Q I rx ry q;obtain⟨da,db,hx,hy,sa,sb,q⟩:=q;obtain⟨as,ra⟩:=hx.reads I rx;obtain⟨bs,rb⟩:=hy.reads I ry;exact eq_dataH ra rb sa sb hu ⟨.bl (lF da db),H,I,rfl,q⟩
theorem xlF(hu:X.A.units+64<cLine):OpR X (bE .NotEq) (xiP X.K fun b=> !b):=by
 intro pins s σ H x y v u Q I rx ry q;obtain⟨da,db,hx,hy,sa,sb,q⟩:=q;obtain⟨as,ra⟩:=hx.reads I rx;obtain⟨bs,rb⟩:=hy.reads I ry;exact ne_dataH ra rb sa sb hu ⟨.bl (!PyData.eqv da db),H,I,rfl,q⟩
def xsG(K:ah)(f:Bool→Bool):R2:=fun x y H Q=>∃(a b:Addr) (ns ms:List Int),x= .ref a∧y= .ref b∧SqL K H a (ns.map V.int)∧SqL K H b (ms.map V.int)∧Q (.bl (f (decide (ns=ms)))) H
theorem xef{K:ah}{f:Bool→Bool}{x y:V}{H:Hp}{Q:VK}(q:xsG K f x y H Q):xiP K f x y H Q:=by
 obtain⟨a,b,ns,ms,rfl,rfl,ha,hb,q⟩:=q;refine⟨_,_,.ints ha,.ints hb,W.ke_shaped_ints ns,W.ke_shaped_ints ms,?_⟩;have e:lF (.list (ns.map d5)) (.list (ms.map d5))=decide (ns=ms):=W.ked_eqvAll ns ms;rw[e];exact q
def xq5:V→Option Value
 | .ty n=>some (.type n)
 | .ref a=>some (.ref a)
 |_=>none
theorem xoa{c:V}{cv v:Value}(h:xq5 c=some cv)(r:RelV c v):v=cv:=by
 cases c with
 |ref a=>cases h;exact r
 |ty n=>cases h;exact r
 |_=>cases h
def xq6(K:ah):List V→Hp→VK→Prop:=fun xs H Q=>∃x c t cv b,xs=[x,c]∧xq5 c=some cv∧zF K H x t∧fh K t cv=some b∧Q (.bl b) H
theorem zG:yw X (.builtin "isinstance") (xq6 X.K):=by
 intro pins s σ H xs us Q I r h;obtain⟨x,c,t,cv,b,rfl,rc,ty,e,q⟩:=h;obtain⟨u,v,rfl,ru,rv⟩:=Vals.two r;have e2:=xoa rc rv;subst e2;exact xmM I ru ty e fun tk=>⟨.bl b,H,I.tok _,rfl,q⟩
structure xob(K:ah)(C:Addr)(m:Str)(f:Addr):Prop where
 sp:i6 K (.ref C) "__getattribute__"=some (some (.builtin "type.__getattribute__"))
 rd:W.readsIn K C (.type "type")=true
 fd:W.findCls K (.ref C) (.type "type") m=some (.val (.ref f))
 kp:cZ K (.ref f)=true
theorem xgS{x m:Str}{C f:Addr}{fd:ay}{ps:List Str}{sp:Sp}{dvs:List V}{ds:List Value}{E:XK}{CX:CXT}{k:Nat}{p apos pos:Pos}{e:Expr}{es:List Expr}{t:TA}{pl:Sem Bool}
  (hg:Gl X x) (hm:X.mg x=some (.ref C)) (M:xob X.K C m f) (F:xv X.prog X.w X.K X.mg X.base CX k f fd ps sp) (hr:xW k X.A) (hb:Binds X.K fd ps ds) (hd:Vals dvs ds) (hx:Passes CX X E) (ha:PA X (e::es) t)
  (hst:aR (e::es) X.env=(false,eval e X.env)::aR es X.env:=by rfl) (hpl:(cH pos (aR es X.env)).any (·.1)=false:=by rfl) (hdb:(x==("__debug__":Str))=false:=by decide)
  (ht:eval (.Call (.Attribute (.Name x p) m apos) (e::es) [] pos) X.env=(do
   let ov ←eval (.Name x p) X.env
   standAt apos.atName
   let(f,first) ←fc [ov] (iY ov m pl)
   kf pos f first (cH pos (aR (e::es) X.env)) (kg pos (gR [] X.env))):=by rfl):
  PE X (.Call (.Attribute (.Name x p) m apos) (e::es) [] pos) (xeb sp dvs E t):=by
 intro pins s σ H Q I h;refine iZ (pl:=pl) (xd9 I hg hm ?_ hdb) ht;refine W.method_cls I.kIn M.sp (W.cls_value I.kIn M.rd M.fd rfl ?_);have I1:=I.tok (s.toks+1);refine iz (first:=[]) (h₀:=X.base) I.ok.mod.kin M.kp (thn (ha pos pins _ σ H _ I1 h) fun us s2 hh70=>?_) hst hpl;obtain⟨vs,H2,I2,r,q2⟩:=hh70;refine⟨I2.kIn,?_⟩;exact xfG F hr hb hd hx I2 r q2
end
end L2
namespace L2
open PySem PySem.Spec PyProof.Rows
theorem xP:bG "len"=some (.builtin "len"):=by decide+kernel
theorem xb7:bG "max"=some (.builtin "max"):=by decide+kernel
theorem xb8:bG "min"=some (.builtin "min"):=by decide+kernel
theorem xq7:bG "abs"=some (.builtin "abs"):=by decide+kernel
theorem ye:bG "isinstance"=some (.builtin "isinstance"):=by decide+kernel
theorem xhF:bG "sorted"=some (.builtin "sorted"):=by decide+kernel
theorem xq8:bG "sum"=some (.builtin "sum"):=by decide+kernel
theorem xq9:bG "any"=some (.builtin "any"):=by decide+kernel
theorem xra:bG "all"=some (.builtin "all"):=by decide+kernel
theorem yT:bG "list"=some (.type "list"):=by decide+kernel
theorem jm:bG "tuple"=some (.type "tuple"):=by decide+kernel
theorem xrb:bG "int"=some (.type "int"):=by decide+kernel
theorem xpE:bG "bool"=some (.type "bool"):=by decide+kernel
theorem xpF:bG "dict"=some (.type "dict"):=by decide+kernel
theorem xaD:bG "enumerate"=some (.type "enumerate"):=by decide+kernel
theorem xj9:bG "reversed"=some (.type "reversed"):=by decide+kernel
theorem xpG{f:Str}{v:V}{fs:List (Str×V)}{n:Nat}(h:fs.length<n):(uo f v fs).length<n+1:=dH (xbD f v fs) (by lia)
section
variable {X:Cx} {a b c:Expr} {ta tb:TE} {pos:Pos}
theorem xdj(hc:X.calm=true):yw X (.builtin "max") (fun xs H Q=>xfR (fun i j H1=>Q (.int (max i j)) H1) xs H):=(xmI hc).imp fun xs H Q q=>by
 obtain⟨i,j,rfl,q⟩:=xe8 q;refine⟨i,j,rfl,?_⟩;have e:(if j > i then j else i)=max i j:=by split<;> lia
 rw[e];exact q
theorem xm0(hc:X.calm=true):yw X (.builtin "min") (fun xs H Q=>xfR (fun i j H1=>Q (.int (min i j)) H1) xs H):=(xmJ hc).imp fun xs H Q q=>by
 obtain⟨i,j,rfl,q⟩:=xe8 q;refine⟨i,j,rfl,?_⟩;have e:(if j<i then j else i)=min i j:=by split<;> lia
 rw[e];exact q
theorem xr1:yw X (.builtin "abs") (fun xs H Q=>xiO (fun i H1=>Q (.int (i.natAbs:Int)) H1) xs H):=xnZ.imp fun xs H Q q=>by
 obtain⟨i,rfl,q⟩:=xgQ q;refine⟨i,rfl,?_⟩;have e:(if i<0 then -i else i)=(i.natAbs:Int):=by split<;> lia
 rw[e];exact q
def isN:V→Bool
 | .non=>true
 |_=>false
theorem xkU(x:V):decide (x= .non)=isN x:=by cases x<;> simp[isN]
def xr2(ta:TE):TT:=fun σ H Q=>ta σ H fun x H1=>Q (isN x) H1
def xrc(ta:TE):TT:=fun σ H Q=>ta σ H fun x H1=>Q (!isN x) H1
theorem xdk{j pos'}(ha:PE X a ta):PT X (.Compare a [.Is] [.Constant .none j pos'] pos) (xr2 ta):=(xmB (xqF ha)).imp fun σ H Q q=>by
 show ta σ H _;have e:(fun x H1=>∃c,V.bl (decide (x=V.non))= .bl c∧Q c H1)=fun x H1=>Q (isN x) H1:=by
  funext x H1;rw[xkU];apply propext;exact⟨fun⟨c,e,q⟩=>by cases e;exact q,fun q=>⟨_,rfl,q⟩⟩
 rw[e];exact q
theorem xgT{j pos'}(ha:PE X a ta):PT X (.Compare a [.IsNot] [.Constant .none j pos'] pos) (xrc ta):=(xmB (xpo ha)).imp fun σ H Q q=>by
 show ta σ H _;have e:(fun x H1=>∃c,V.bl (!decide (x=V.non))= .bl c∧Q c H1)=fun x H1=>Q (!isN x) H1:=by
  funext x H1;rw[xkU];apply propext;exact⟨fun⟨c,e,q⟩=>by cases e;exact q,fun q=>⟨_,rfl,q⟩⟩
 rw[e];exact q
theorem xaE{body:List Stmt}{tc:TT}{tb:TS}(hp:PassesOwn (model X.prog X.w) X.A X.env X.xe)(hc:PT X c tc)(hb:PSs X body tb):PS X (.While c body [] pos) (xmV tc tb):=by
 intro pins s σ H D I h;unfold xmV xee at h;obtain⟨W,⟨m0,w0⟩,turn⟩:=h;refine wpAny_While (codeAny_whileLoop (fun n s'=>∃σ' H',Inv X pins σ' H' s'∧W n σ' H') ?_ m0 ⟨σ,H,I,w0⟩);rintro n s1 ⟨σ1,H1,I1,w1⟩;refine dN hp (thn (hc pins s1 σ1 H1 _ I1 (turn n σ1 H1 w1)) fun b s2 hh71=>?_);obtain⟨H2,I2,q2⟩:=hh71;cases b with
 |true=>
  obtain⟨N,hN,q2⟩:=q2.1 rfl;rw[if_pos rfl];refine dN hp (thn (hb pins s2 σ1 H2 _ I2 q2) fun f s3 q3=>?_);cases f with
  |next=>
   obtain⟨σ3,H3,I3,n3⟩:=q3;obtain⟨m',hm,w3⟩:=hN σ3 H3 n3;exact⟨m',hm,σ3,H3,I3,w3⟩
  |cont=>
   obtain⟨σ3,H3,I3,n3⟩:=q3;obtain⟨m',hm,w3⟩:=hN σ3 H3 n3;exact⟨m',hm,σ3,H3,I3,w3⟩
  |brk=>exact q3
  |ret v=>exact q3
 |false=>
  rw[if_neg aH];exact fF ⟨σ1,H2,I2,q2.2 rfl⟩
end
theorem xbo{lo st:Int}{n:Nat}{g:TG}{tb:TS}{D:Ends}{σ:St}{H:Hp}(Pv:Nat→St→Hp→Prop)(h0:Pv 0 σ H)
  (hs:∀(i:Nat) σ H,i<n→Pv i σ H→g (.int (lo+i*st)) σ H fun σ2 H2=>tb {D with nx:=Pv (i+1),ct:=Pv (i+1),bk:=D.nx} σ2 H2) (hd:∀σ H,Pv n σ H→D.nx σ H):zu (Its lo st n) g tb D σ H:=by
 unfold zu;refine⟨fun i m σ H=>m=n - i∧i≤n∧Pv i σ H,⟨n,by simp,aJ _,h0⟩,?_⟩;rintro i m σ H ⟨rfl,hi,p⟩
 by_cases hlt:i<n
 ·refine .inr ⟨hlt,Pv (i+1),fun σ' H' p'=>⟨n - (i+1),by lia,rfl,hlt,p'⟩,fun x H' y=>?_⟩;obtain⟨e,y⟩:=y;subst e y;exact hs i σ _ hlt p
 ·have e:i=n:=by lia
  subst e;exact .inl ⟨ai _,hd σ H p⟩
theorem yH{K:ah}{l:Addr}{xs:List V}{g:TG}{tb:TS}{D:Ends}{σ:St}{H:Hp}(Pv:Nat→St→Hp→Prop)(h0:Pv 0 σ H)(hl:∀i σ H,i≤xs.length→Pv i σ H→SqL K H l xs)
  (hs:∀i x σ H,xs[i]? =some x→Pv i σ H→g x σ H fun σ2 H2=>tb {D with nx:=Pv (i+1),ct:=Pv (i+1),bk:=D.nx} σ2 H2) (hd:∀σ H,Pv xs.length σ H→D.nx σ H):zu (Itl K l) g tb D σ H:=by
 unfold zu;exact xnX Pv h0 hl hs hd
theorem xdl{K:ah}{l:Addr}{xs:List V}{g:TG}{tb:TS}{D:Ends}{σ:St}{H:Hp}(Pv:Nat→St→Hp→Prop)(h0:Pv 0 σ H)(hl:∀i σ H,i≤xs.length→Pv i σ H→SqT K H l xs)
  (hs:∀i x σ H,xs[i]? =some x→Pv i σ H→g x σ H fun σ2 H2=>tb {D with nx:=Pv (i+1),ct:=Pv (i+1),bk:=D.nx} σ2 H2) (hd:∀σ H,Pv xs.length σ H→D.nx σ H):zu (Itt K l) g tb D σ H:=by
 unfold zu;exact xpq Pv h0 hl hs hd
theorem xb.new{H:Hp}{p:Addr}{o:HO}(h:H p=none):xb H (upd H p o):=fun b u e=>by rw[xl (xA e h)];exact e
theorem xb.put{H H':Hp}{p:Addr}{o:HO}(e:xb H H')(h:H p=none):xb H (upd H' p o):=fun b u q=>by rw[xl (xA q h)];exact e b u q
theorem xb.at{H H':Hp}{p:Addr}{o:HO}(e:xb H H')(h:H p=some o):H' p=some o:=e p o h
end L2
namespace L2
open PySem PySem.Spec PyProof.Rows
theorem xb.of_eq{H H':Hp}{p:Addr}{o:HO}(h:H p=none)(e:upd H p o=H'):xb H H':=by rw[←e];exact xb.new h
theorem xm{H H':Hp}{p:Addr}{o:HO}(e:upd H p o=H'):H' p=some o:=by rw[←e];exact xk
theorem xb.back{H H':Hp}{p:Addr}(e:xb H H')(h:H' p=none):H p=none:=xb.free e h
theorem xb.wr{H0 H H':Hp}{p:Addr}{o:HO}(s:xb H0 H)(f:H0 p=none)(e:upd H p o=H'):xb H0 H':=by rw[←e];exact s.put f
end L2
namespace L2
open PySem PySem.Spec PyProof.Rows
structure yV(H0 H:Hp)(l:Addr)(as:List Addr)(xss:List (List Int)):Prop where
 top:H l=some (.lst (as.map V.ref))
 nd:(l::as).Nodup
 len:as.length=xss.length
 each:∀(i:Nat) (a:Addr) (xs:List Int),as[i]? =some a→xss[i]? =some xs→H a=some (.lst (xs.map V.int))
 fr:H0 l=none
 frs:∀a∈as,H0 a=none
theorem yV.same{H0 H H':Hp}{l:Addr}{as:List Addr}{xss:List (List Int)}(L:yV H0 H l as xss)(s:xb H H'):yV H0 H' l as xss:=
 ⟨s.at L.top,L.nd,L.len,fun i a xs h1 h2=>s.at (L.each i a xs h1 h2),L.fr,L.frs⟩
theorem yV.base{H0 H0' H:Hp}{l:Addr}{as:List Addr}{xss:List (List Int)}(L:yV H0 H l as xss)(s:xb H0' H0):yV H0' H l as xss:=
 ⟨L.top,L.nd,L.len,L.each,s.back L.fr,fun a ha=>s.back (L.frs a ha)⟩
theorem yV.nil{H0 H H':Hp}{l:Addr}(h:H0 l=none)(e:H l=some (.lst [])):yV H0 H l [] []:=
 ⟨e,by simp,rfl,fun i a xs h1 _=>by simp at h1,h,fun a ha=>by simp at ha⟩
theorem yV.tracked{H0 H:Hp}{l:Addr}{as:List Addr}{xss:List (List Int)}(L:yV H0 H l as xss){a:Addr}(ha:a∈as):∃xs:List Int,H a=some (.lst (xs.map V.int)):=by
 obtain⟨i,hi,rfl⟩:=cy.mp ha;have h2:i<xss.length:=by rw[←L.len];exact hi
 exact⟨xss[i],L.each i _ _ (ag hi) (ag h2)⟩
theorem yV.apart{H0 H:Hp}{l:Addr}{as:List Addr}{xss:List (List Int)}(L:yV H0 H l as xss){p:Addr}(h:H p=none):p∉l::as:=by
 intro z;rcases ao.mp z with rfl|z
 ·rw[L.top]at h;cases h
 ·obtain⟨xs,e⟩:=L.tracked z;rw[e]at h;cases h
theorem yV.push{H0 H H':Hp}{l p:Addr}{as:List Addr}{xss:List (List Int)}{xs:List Int}(L:yV H0 H l as xss)(hp:H p=some (.lst (xs.map V.int)))(hne:p∉l::as)(hf:H0 p=none)
  (e:upd H l (.lst (as.map V.ref++[.ref p]))=H'):yV H0 H' l (as++[p]) (xss++[xs]):=by
 subst e;have hpl:p≠l:=fun z=>hne (by rw[z];exact aK);have hpa:p∉as:=fun z=>hne (aC _ z);obtain⟨n1,n2⟩:=cw.mp L.nd;refine⟨by rw[xk,aG];rfl,?_,by simp[L.len],fun i a ys h1 h2=>?_,L.fr,fun a ha=>?_⟩
 ·refine cw.mpr ⟨fun z=>?_,xkP n2 hpa⟩;rcases aM.mp z with z|z
  ·exact n1 z
  ·exact hpl (ax.mp z).symm
 ·have hla:a∈as++[p]:=az h1;have nal:a≠l:=fun z=>by
   subst z;rcases aM.mp hla with z|z
   ·exact n1 z
   ·exact hpl (ax.mp z).symm
  rw[xl nal]
  by_cases hi:i<as.length
  ·rw[bo hi]at h1;rw[bo (by rw[←L.len];exact hi)]at h2;exact L.each i a ys h1 h2
  ·rw[bI (by lia)]at h1;rw[bI (by rw[←L.len];lia)]at h2;have e1:i - as.length=0:=by
    cases hq:i - as.length with
    |zero=>rfl
    |succ k=>rw[hq]at h1;simp at h1
   rw[e1]at h1;rw[←L.len,e1]at h2;simp at h1 h2;rw[←h1,←h2];exact hp
 ·rcases aM.mp ha with z|z
  ·exact L.frs a z
  ·have z':a=p:=by simpa using z
   rw[z'];exact hf
theorem xct{lo st:Int}{n:Nat}{te:TE}{caps:L2.St}{Q:VK}{H2:Hp}(f:Nat→List Int)(hn:n≤aL)
  (hs:∀(i:Nat) (H3:Hp),i<n→xb H2 H3→∀R:VK,(∀l H6,xb H3 H6→H3 l=none→H6 l=some (.lst ((f i).map V.int))→R (.ref l) H6)→te (some (.int (lo+i*st))::caps) H3 R)
  (hd:∀D H' as,xb H2 H'→yV H2 H' D as ((a9 n).map f)→Q (.ref D) H'):zg (Its lo st n) caps xe7 te Q H2:=by
 unfold zg;intro D hD;refine⟨fun i m acc H3=>m=n - i∧i≤n∧xb H2 H3∧∃as,acc=as.map V.ref∧yV H2 H3 D as ((a9 i).map f),⟨n,by simp,aJ _,xb.new hD,[],rfl,yV.nil (H':=H2) hD xk⟩,?_⟩;rintro i m acc H3 ⟨rfl,hi,s3,as,rfl,L⟩;refine⟨L.top,?_⟩
 by_cases hlt:i<n
 ·have hl:as.length=i:=by rw[L.len];simp
  refine .inr ⟨hlt,by simp[hl];lia,fun v H4 y=>?_⟩;obtain⟨e,y⟩:=y;subst e y;refine⟨fun _=>?_,fun z=>by cases z⟩;refine hs i _ hlt s3 _ fun l H6 s6 hl0 hl6=>⟨s6.at L.top,n - (i+1),by lia,rfl,hlt,(s3.trans s6).put hD,as++[l],by rw[aG];rfl,?_⟩;rw[fJ,aG];exact(L.same s6).push hl6 (L.apart hl0) (s3.back hl0) rfl
 ·have e:i=n:=by lia
  subst e;exact .inl ⟨ai _,hd D H3 as s3 L⟩
section
variable {X:Cx}
end
end L2
namespace L2
open PySem PySem.Spec PyProof.Rows
abbrev HO.any:HO:=.ext fun _=>True
theorem xH.anyOf{P:aI}{w:World}{H:Hp}{h:Heap}{a:Addr}{o:Obj}(e:h.get? a=some o):xH P w H h a (.frz o HO.any):=⟨e,trivial,⟨o,e⟩,fun _ _ _ _=>trivial⟩
def zv(H:Hp)(f:Addr)(nm qual:Str)(params:cE)(body:dg)(scope:Scope)(fv:List (Str×V)):Prop:=
 ∃(clos:List (Str×Addr)) (c:Addr) (o:Obj) (u u':HO) (vs:Array Value) (t:Tok) (doc pm ctv:Value),
  H f=some (.frz {cls:=.type "function",data:=.func {name:=nm,qualname:=qual,params,body,scope,globals:=bz,closure:=clos,defaults:=.none,kwdefaults:=.none,doc,pyModule:=pm,annotations:=none,code:=.ref c,closureTuple:=ctv,builtins:=dk}} u)∧
  H c=some (.frz o u')∧o.data= .fields vs∧vs[1]? =some (.str qual t)∧
  (∀x y a,clos.lookup x=some a→clos.lookup y=some a→x=y)∧(∀x,(x,bZ)∈scope.names→∃a,clos.lookup x=some a)∧
  (∀x v,(x,v)∈fv→∃a,clos.lookup x=some a∧H a=some (.cel (some v)))∧∀x a,clos.lookup x=some a→∃v,H a=some (.cel (some v))
theorem zv.same{H H':Hp}{f:Addr}{nm qual:Str}{params:cE}{body:dg}{scope:Scope}{fv:List (Str×V)}(h:zv H f nm qual params body scope fv)(e:xb H H'):zv H' f nm qual params body scope fv:=by
 obtain⟨clos,c,o,u,u',vs,t,doc,pm,ctv,h1,h2,h3,h4,h5,h6,h7,h8⟩:=h;exact⟨clos,c,o,u,u',vs,t,doc,pm,ctv,e _ _ h1,e _ _ h2,h3,h4,h5,h6,fun x v m=>let⟨a,q1,q2⟩:=h7 x v m;⟨a,q1,e _ _ q2⟩,fun x a q=>let⟨v,q2⟩:=h8 x a q;⟨v,e _ _ q2⟩⟩
theorem xpH{pos pos':Pos}{c:Value}(l:List Value)(h:iX l):
  fL pos' (l++[cY pos.line,cY pos.col,c])=(match fL pos' l with
   |some d=>some d
   |none=>if ((pos.line:Int)==pos'.line&&(pos.col:Int)==pos'.col)=true then some c else none):=by
 fun_induction iX l with
 |case1=>simp[fL,cY]
 |case2 a t b u x rest ih=>
  simp only[iC,fL]
  split
  ·rfl
  ·exact ih h
 |case3 l h1 h2=>exact h.elim
def ui(K:ah)(c P:Addr):Prop:=∀h:Heap,K.In h→kq h c P
theorem xhG{cells:List (Str×Addr)}:∀{l:List (Str×dB)} {cs:List (Str×Addr)} {x:Str} {c:Addr},(yO cells l cs).lookup x=some c→(x,bZ)∈l∨∃a,cs.lookup x=some a
 |[],cs,x,c,h=>.inr ⟨c,h⟩
 |(n,k)::r,cs,x,c,h=>by
  unfold yO at h;rcases xhG h with q|⟨a,q⟩
  ·exact .inl (aC _ q)
  ·split at q
   ·rename_i hk;rw[cD]at q
    split at q
    ·rename_i hx;have e:x=n:=by simpa using hx
     have e2:k= .free:=by simpa using hk
     subst e;subst e2;exact .inl aK
    ·exact .inr ⟨a,q⟩
   ·exact .inr ⟨a,q⟩
abbrev xb9(name qual:Str)(params:cE)(body:dg)(scope:Scope)(clos:List (Str×Addr))(doc pm cdv ctv:Value):Obj:=
 {cls:=.type "function",data:=.func {name,qualname:=qual,params,body,scope,globals:=bz,closure:=clos,defaults:=.none,kwdefaults:=.none,doc,pyModule:=pm,annotations:=none,code:=cdv,closureTuple:=ctv,builtins:=dk}}
section
variable {M:Model} {A:aU} {E:Value→ab→Prop} {s:ab} {name qual:Str} {params:cE} {body:dg} {scope:Scope} {env:Env} {c P:Addr} {ps:Array Value} {pos:Pos} {firstLine:Nat} {mg:Str→Option Value}
 {clos:List (Str×Addr)} {Q:Value→ab→Prop}
theorem xpI(hcl:kl scope env=pure clos)(hge0:env.globals=bz)(hg:s.heap.Ns bz mg)(hcode:env.code= .ref c)(C:kq s.heap c P)(hP:s.heap.get? P=some (gm ps))(ht:iX ps.toList)
  (hnf:fL pos ps.toList=none) (hgP:bz≠P) (hb:s.heap.BuiltinsAt mg P)
  (h:∀c' ctv doc h' tk,lz P s.heap h'→s.heap.objs.size≤c'→c'<h'.objs.size→h'.CodeRec (.ref c') qual→h'.get? P=some (gm (ps++#[cY pos.line,cY pos.col,.ref c']))→
   Q (.ref h'.objs.size) {s with heap:=h'.push (xb9 name qual params body scope clos doc ((mg "__name__").getD .none) (.ref c') ctv),toks:=tk}):
  wpAny M A (makeFunction name qual params body scope env [] [] [] pos firstLine) Q E s:=by
 cases body with
 |stmts b=>exact W.makeFunction_K hcl hge0 hg hcode C hP ht hnf hgP hb h
 |expr e=>exact W.kla_makeFunction hcl hge0 hg hcode C hP ht hnf hgP hb fun c' ctv h' tk=>h c' ctv .none h' tk
theorem xrd{cv:Value}(hcl:kl scope env=pure clos)(hge0:env.globals=bz)(hg:s.heap.Ns bz mg)(hcode:env.code= .ref c)(C:kq s.heap c P)(hP:s.heap.get? P=some (gm ps))(ht:iX ps.toList)
  (hf:fL pos ps.toList=some cv) (hb:s.heap.BuiltinsAt mg P)
  (h:∀(ctv doc:Value) (h':Heap) (tk:Tok),(∀b o,s.heap.get? b=some o→h'.get? b=some o)→s.heap.objs.size≤h'.objs.size→
   Q (.ref h'.objs.size) {s with heap:=h'.push (xb9 name qual params body scope clos doc ((mg "__name__").getD .none) cv ctv),toks:=tk}):
  wpAny M A (makeFunction name qual params body scope env [] [] [] pos firstLine) Q E s:=by
 cases body with
 |stmts b=>exact W.makeFunction_hit hcl hge0 hg hcode C hP ht hf hb h
 |expr e=>exact W.kla_makeFunctionHit hcl hge0 hg hcode C hP ht hf hb fun ctv h' tk=>h ctv .none h' tk
end
section
variable {X:Cx} {pins:List (Addr×Obj)} {σ:St} {H:Hp} {s:ab} {c P:Addr} {qs:List (Pos×Str)} {name qual:Str} {params:cE} {body:dg} {scope:Scope} {pos:Pos} {fv:List (Str×V)} {Q:VK} {fns:List Str}
def tFn(X:Cx)(P:Addr)(qs:List (Pos×Str))(fns:List Str)(name qual:Str)(params:cE)(body:dg)(scope:Scope):TE:=fun σ H Q=>
 H P=some (.tbl qs)∧∃fv:List (Str×V),fv.map (·.1)=fns∧(∀x v,(x,v)∈fv→∃a,X.env.cells.lookup x=some a∧H a=some (.cel (some v)))∧
  ∀f H',H f=none→xb H H'→zv H' f name qual params body scope fv→Q (.ref f) H'
theorem xpJ(I:Inv X pins σ H s)(hcode:X.env.code= .ref c)(T:ui X.K c P)(hq:(pos,qual)∈qs)(hu:(qs.all fun p=> !((pos.line==p.1.line)&&(pos.col==p.1.col))||(p.2==qual))=true)
  (hfr:(scope.names.filter fun y=>y.2== .free).map (·.1)=fns) (h:tFn X P qs fns name qual params body scope σ H Q) {n:Nat}:
  wpAny (model X.prog X.w) X.A (makeFunction name qual params body scope X.env [] [] [] pos n) (EP X pins σ Q) X.xe s:=by
 obtain⟨hP,fv,hn,hf,h⟩:=h;have isfr:∀x,(x,bZ)∈scope.names↔x∈fns:=fun x=>by
  rw[←hfr,aT];constructor
  ·exact fun m=>⟨(x,.free),aS.mpr ⟨m,rfl⟩,rfl⟩
  ·rintro⟨⟨y,k⟩,m,rfl⟩;have m2:=aS.mp m;have e:k= .free:=by simpa using m2.2
   subst e;exact m2.1
 have names:∀x,(x,bZ)∈scope.names→∃v a,(x,v)∈fv∧X.env.cells.lookup x=some a∧H a=some (.cel (some v)):=fun x hx=>by
  have m:=(isfr x).mp hx;rw[←hn]at m;obtain⟨⟨x',v⟩,hm,rfl⟩:=aT.mp m;obtain⟨a,h1,h2⟩:=hf _ _ hm;exact⟨v,a,hm,h1,h2⟩
 have hcs:∀y∈scope.names,y.2= .free→∃c,X.env.cells.lookup y.1=some c:=fun y hy e=>by
  obtain⟨y1,y2⟩:=y;have e:y2= .free:=e;subst e;obtain⟨_,a,_,h1,_⟩:=names y1 hy;exact⟨a,h1⟩
 have hcl:=xak (scope:=scope) (env:=X.env) hcs;have sub:∀{z:Str} {a:Addr},(yO X.env.cells scope.names []).lookup z=some a→X.env.cells.lookup z=some a:=fun{z a} e=>by
  rcases xcr hcs e with q|q
  ·cases q
  ·exact q
 have subF:∀{z:Str} {a:Addr},(yO X.env.cells scope.names []).lookup z=some a→(z,bZ)∈scope.names:=fun{z a} e=>by
  rcases xhG e with q|⟨_,q⟩
  ·exact q
  ·cases q
 have cInj:∀x y a,(yO X.env.cells scope.names []).lookup x=some a→(yO X.env.cells scope.names []).lookup y=some a→x=y:=fun x y a e1 e2=>I.ok.inj x y a (sub e1) (sub e2);have cHas:∀x,(x,bZ)∈scope.names→∃a,(yO X.env.cells scope.names []).lookup x=some a:=fun x m=>jl (.inl m);have cVal:∀x v,(x,v)∈fv→∃a,(yO X.env.cells scope.names []).lookup x=some a∧H a=some (.cel (some v)):=fun x v m=>by
  obtain⟨a,e1,e2⟩:=hf x v m;obtain⟨a',e3⟩:=cHas x ((isfr x).mpr (by rw[←hn];exact fC m));have e4:=sub e3;rw[e1]at e4;cases e4;exact⟨a,e3,e2⟩
 have cAll:∀x a,(yO X.env.cells scope.names []).lookup x=some a→∃v,H a=some (.cel (some v)):=fun x a e=>by
  obtain⟨v,a',_,e1,e2⟩:=names x (subF e);rw[sub e]at e1;cases e1;exact⟨v,e2⟩
 have hg:s.heap.Ns bz X.mg:=I.mod.glob.keeps I.bk;obtain⟨ps,hPo,ht,hent⟩:=I.hok P _ hP;have C:=T s.heap I.kIn;have hgP:bz≠P:=fun q=>by
  obtain⟨o,es,ep,e,hd,_⟩:=hg;rw[q,hPo]at e;cases e;cases hd
 have hB:s.heap.BuiltinsAt X.mg P:=by
  obtain⟨bm,ob,b1,b2,b3,b4,b5,b6⟩:=I.mod.bm;have b3':=I.bk _ _ b3;refine⟨bm,ob,b1,b2,fun q=>?_,fun q=>?_,b3',b4,b5,b6⟩
  ·obtain⟨o,es,ep,e,hd,_⟩:=hg;rw[←q,b3']at e;cases e;rw[b6]at hd;cases hd
  ·rw[q,hPo]at b3';cases b3';cases b4
 rcases hent pos qual hq with hnf|⟨c',o,u,vs,t,hit,hc',hd,hv⟩
 ·refine xpI hcl I.ok.glob hg hcode C hPo ht hnf hgP hB fun c' ctv doc h' tk hx hge hlt hrec htb=>?_;obtain⟨c2,oc,vs,t,e2,hoc,hd,hv⟩:=hrec;cases e2;have hc0:H c'=none:=I.hok.fresh hge;have hsz:s.heap.objs.size≤h'.objs.size:=b7 (dH hge hlt);have hf0:H h'.objs.size=none:=I.hok.fresh hsz;have hcf:c'≠h'.objs.size:=ar hlt
  let fo:=xb9 name qual params body scope (yO X.env.cells scope.names []) doc ((X.mg "__name__").getD .none) (.ref c') ctv
  let H':=upd (upd H c' (.frz oc HO.any)) h'.objs.size (.frz fo HO.any)
  have sm:∀b u,H b=some u→H' b=some u:=fun b u e=>by
   show upd _ _ _ b=_;rw[xl (xA e hf0),xl (xA e hc0)];exact e
  have H'c:H' c'=some (.frz oc HO.any):=by
   show upd _ _ _ c'=_;rw[xl hcf,xk]
  have H'f:H' h'.objs.size=some (.frz fo HO.any):=xk;have keep:∀b o,b≠P→s.heap.get? b=some o→(h'.push fo).get? b=some o:=fun b o hb e=>af _ (hx b o hb e);have nP:∀b,H b=none→b≠P:=fun b e q=>by rw[q,hP]at e;cases e
  refine⟨.ref h'.objs.size,H',I.un ⟨fun b o e n _ _=>keep b o (nP b n) e,fun b o e n _ _=>⟨o.slots,keep b o (nP b n) e⟩,fun b o e n _=>?_,fun b o e _=>?_,fun b u e _=>sm b u e⟩ fun b u e=>?_,rfl,?_⟩
  ·have lt:=aj e;show upd _ _ _ b=_;rw[xl (ar (aw lt hsz)),xl (ar (aw lt hge))];exact n
  ·by_cases hb:b=P
   ·exact⟨_,af _ (by rw[hb];exact htb)⟩
   ·exact⟨o,keep b o hb e⟩
  ·by_cases h1:b=h'.objs.size
   ·subst h1;rw[H'f]at e;cases e;exact xH.anyOf (aB _ rfl)
   ·have e1:upd H c' (.frz oc HO.any) b=some u:=(xl h1).symm.trans e
    by_cases h2:b=c'
    ·subst h2;rw[xk]at e1;cases e1;exact xH.anyOf (af _ hoc)
    ·rw[xl h2]at e1
     by_cases hb:b=P
     ·subst hb;rw[hP]at e1;cases e1;refine⟨_,af _ htb,?_,fun pos' q m=>?_⟩
      ·simpa using TriplesOk_snoc (pos.line:Int) (pos.col:Int) (.ref c') ps.toList ht
      ·have e3:(ps++#[cY pos.line,cY pos.col,bb c']).toList=ps.toList++[cY pos.line,cY pos.col,bb c']:=by simp
       rw[e3,xpH _ ht];rcases hent pos' q m with z|⟨d,o,u,vs',t',z1,z2,z3,z4⟩
       ·rw[z]
        by_cases hl:((pos.line:Int)==pos'.line&&(pos.col:Int)==pos'.col)=true
        ·right
         have hqq:q=qual:=by
          have:=cg.mp hu (pos',q) m;simp only[fj,beq_iff_eq,Int.ofNat_inj,Int.natCast_inj]at hl;have a1:pos.line=pos'.line:=by have:=hl.1;omega
          have a2:pos.col=pos'.col:=by have:=hl.2;omega
          simpa [a1,a2]using this
         subst hqq;exact⟨c',oc,HO.any,vs,t,if_pos hl,H'c,hd,hv⟩
        ·exact .inl (if_neg hl)
       ·right
        rw[z1];exact⟨d,o,u,vs',t',rfl,sm _ _ z2,z3,z4⟩
     ·refine(I.hok b u e1).stay (fun d v hc q=>keep d v ?_ q) (fun d q=>sm _ _ q) fun d u q _=>sm _ _ q;rcases hc with rfl|hc
      ·exact hb
      ·intro z;rw[z,hP]at hc;cases hc
  ·exact h h'.objs.size H' hf0 sm ⟨_,c',oc,HO.any,HO.any,vs,t,doc,_,ctv,H'f,H'c,hd,hv,cInj,cHas,fun x v m=>let⟨a,q1,q2⟩:=cVal x v m;⟨a,q1,sm _ _ q2⟩,fun x a q=>let⟨v,q2⟩:=cAll x a q;⟨v,sm _ _ q2⟩⟩
 ·refine xrd hcl I.ok.glob hg hcode C hPo ht hit hB fun ctv doc h' tk hk hsz=>?_;have hf0:H h'.objs.size=none:=I.hok.fresh hsz;have sm:xb H (upd H h'.objs.size (.frz (xb9 name qual params body scope (yO X.env.cells scope.names []) doc ((X.mg "__name__").getD .none) (.ref c') ctv) HO.any)):=fun b u e=>by
   rw[xl (xA e hf0)];exact e
  refine⟨.ref h'.objs.size,_,I.laid (o:=.frz (xb9 name qual params body scope (yO X.env.cells scope.names []) doc ((X.mg "__name__").getD .none) (.ref c') ctv) HO.any) (fun b o e=>af _ (hk b o e)) hsz (xH.anyOf (aB _ rfl)),rfl,?_⟩;exact h _ _ hf0 sm ⟨_,c',o,HO.any,u,vs,t,doc,_,ctv,xk,sm _ _ hc',hd,hv,cInj,cHas,fun x v m=>let⟨a,q1,q2⟩:=cVal x v m;⟨a,q1,sm _ _ q2⟩,fun x a q=>let⟨v,q2⟩:=cAll x a q;⟨v,sm _ _ q2⟩⟩
theorem xm1{e:Expr}(hcode:X.env.code= .ref c)(T:ui X.K c P)(hq:(pos,X.env.qual++"<lambda>")∈qs)(hu:(qs.all fun p=> !((pos.line==p.1.line)&&(pos.col==p.1.col))||(p.2==X.env.qual++"<lambda>"))=true)
  (hfr:(scope.names.filter fun y=>y.2== .free).map (·.1)=fns) (hdef:defaultsOf params X.env=([],[]):=by rfl):
  PE X (.Lambda params e scope pos) (tFn X P qs fns "<lambda>" (X.env.qual++"<lambda>") params (.expr e) scope):=fun _ _ _ _ _ I h=>
 W.kla_eval hdef (xpJ I hcode T hq hu hfr h)
theorem Inv.track{x:Str}{a:Addr}{i:Nat}(I:Inv X pins σ H s)(hN:X.N.Nodup)(hi:X.N[i]? =some x)(hk:X.env.kindOf x=some .cell)(hcp:X.cp x=true)(hfn:X.fn x=false)(ha:X.env.cells.lookup x=some a)(hH:H a=none):
  Inv X pins σ (upd H a (.cel (σ[i]?.join))) s:=by
 have hab:∀b o,X.s₀.heap.get? b=some o→b≠a:=fun b o e=>ar (aw (aj e) (I.ok.cab2 x a hcp ha));obtain⟨v0,hv0⟩:=I.cell x a ha;refine⟨I.ok,I.os,I.bare,⟨I.base.keep,I.base.slot,fun b o e n hx=>?_,I.base.there,fun b u e f=>?_⟩,I.loc,I.cell,?_,fun y c e=>?_,fun p hp=>?_,fun b u e=>?_,I.len⟩
 ·rw[xl (hab b o e)];exact I.base.free b o e n hx
 ·have:=I.base.fix b u e f;rw[xl (xA this hH)];exact this
 ·rw[xl (a8 (I.cne x a ha))];exact I.free
 ·by_cases hc:c=a
  ·subst hc;obtain rfl:=I.ok.inj _ _ _ e ha;refine .inr ⟨hfn,_,xk,fun z j v e1 k e2=>?_⟩;have:=xe0 hN e1 hi;subst this;rw[e2]at z;cases z
  ·rw[xl hc];exact I.freeC y c e
 ·obtain⟨e,n,ne,nf,d⟩:=I.pin p hp;refine⟨e,?_,ne,nf,d⟩;rw[xl fun z=>?_]
  ·exact n
  ·obtain⟨o,q1,q2⟩:=hv0;rw[←z,e]at q1;cases q1;exact d _ q2
 ·by_cases hb:b=a
  ·subst hb;rw[xk]at e;cases e;cases hσ:σ[i]?.join with
   |none=>exact⟨v0,hv0,fun x z=>by cases z⟩
   |some v=>
    have hσ':σ[i]? =some (some v):=by
     cases q:σ[i]? with
     |none=>rw[q]at hσ;cases hσ
     |some w=>rw[q]at hσ;cases w with
      |none=>cases hσ
      |some w=>cases hσ;rfl
    obtain⟨m,hn,hl⟩:=I.loc;obtain⟨u,r,l⟩:=hl i x v hi hσ' (.inr (.inl hk));rcases l with⟨k,_⟩|⟨_,c,hc,hcell⟩
    ·rw[hk]at k;cases k
    ·rw[ha]at hc;cases hc;exact⟨_,hcell,fun y z=>by cases z;exact⟨u,rfl,r⟩⟩
  ·rw[xl hb]at e;exact(I.hok b u e).stay (fun _ _ _ q=>q) (fun d q=>by rw[xl (xA q hH)];exact q) fun d u q _=>by rw[xl (xA q hH)];exact q
def xre(X:Cx)(x:Str)(i:Nat)(t:TS):TS:=fun D σ H=>∀a,X.env.cells.lookup x=some a→X.H₀ a=none→(∀y b,X.env.cells.lookup y=some b→y≠x→b≠a)→H a=none∧t D σ (upd H a (.cel (σ[i]?.join)))
theorem xbp{x:Str}{i:Nat}{b:List Stmt}{t:TS}(hN:X.N.Nodup)(hi:X.N[i]? =some x)(hk:X.env.kindOf x=some .cell)(hcp:X.cp x=true)(hfn:X.fn x=false)
  (h:PSs X b t):PSs X b (xre X x i t):=fun pins s σ H D I q=>by
 obtain⟨a,ha⟩:=I.ok.has x (.inl hk);obtain⟨z,q⟩:=q a ha (I.ok.hz a (I.ok.cab2 x a hcp ha)) fun y b e ne z=>ne (I.ok.inj y x b e (z▸ha));exact h pins s σ _ D (I.track hN hi hk hcp hfn ha z) q
end
end L2
namespace L2
open PySem PySem.Spec PyProof.Rows
theorem xm2{P:aI}{w:World}{K:ah}{mg mb:Str→Option Value}{CX:CXT}{k:Nat}{fa a:Addr}{fd:ay}{x:Str}{sp:Sp}{s₁:ab}{vs:List Value}{ns:List Int}{tabs:List (Addr×Addr×List (Pos×Str))}
  (KX:K.In s₁.heap) (hns:s₁.heap.Ns bz mg) (hb:s₁.heap.Ns dk mb) (hbb:∀x:Str,x≠"__name__"→mb x=bG x) (hlim:s₁.heap.NoLimit) (hbm:∃b o,mg "__builtins__"=some (.ref b)∧b≠dk∧s₁.heap.get? b=some o∧o.cls= .type "module"∧o.dict=some dk∧o.data= .plain) (hg:s₁.gens=#[])
  (ha:s₁.heap.get? a=some {cls:=.type "list",data:=.seq vs.toArray}) (hi:cL vs ns) (hl:ns.length≤aL) (hr:xW k iw)
  (hT:∀q∈tabs,kq s₁.heap q.1 q.2.1∧s₁.heap.get? q.2.1=some (gm #[])) (hnt:W.noTabs K=true) (nd:(tabs.map fun q=>q.2.1).Nodup)
  (F:∀base:Heap,K.In base→base.Ns bz mg→xv P w K mg base CX k fa fd [x] sp) (hbind:∀(s:ab) (u:Value),BindsTo s fd ⟨[u],[]⟩ [(x,u)])
  (hsp:∀H:Hp,SqL K H a (ns.map V.int)→(∀q∈tabs,H q.2.1=some (.tbl q.2.2))→sp [.ref a] H (fun v _=>v= .bl true) fun _ _ _=>False)
  (hCX:∀H e s',CX [] H s₁ (fun _ _ _=>False) e s'→False):
  cW (model P w) iw (.call (.ref fa) ⟨[.ref a],[]⟩) (fun r s'=>r= .ok (.ret (.bool true))∧OldK s₁.heap s'.heap∧s'.os=s₁.os∧e9 s'.gens) s₁:=by
 have rv:=xdg hi;have lenV:=hi.length;have aP:∀q∈tabs,q.2.1≠a:=fun q hq z=>by
  have e:=(hT q hq).2;rw[z,ha]at e;cases e
 have core:∀H:Hp,SqL K H a (ns.map V.int)→(∀q∈tabs,H q.2.1=some (.tbl q.2.2))→
   (∀b u,H b=some u→(b=a∧K.lookup a=none∧∃xs,u= .frz {cls:=.type "list",data:=.seq vs.toArray} (.lst xs))∨∃q∈tabs,b=q.2.1∧u= .tbl q.2.2)→HOk P w H s₁.heap→
   cW (model P w) iw (.call (.ref fa) ⟨[.ref a],[]⟩) (fun r s'=>r= .ok (.ret (.bool true))∧OldK s₁.heap s'.heap∧s'.os=s₁.os∧e9 s'.gens) s₁:=by
  intro H hS hP hA hok;have base_of:∀{b:Addr} {o:Obj},s₁.heap.get? b=some o→H b=none→(xcm s₁.heap H).get? b=some o:=fun e n=>xnV e n;have noA:∀{b:Addr} {o:Obj},s₁.heap.get? b=some o→o.cls≠.type "list"∨(∀n,o.data≠.seq vs.toArray n)→o≠gm #[]→H b=none:=fun{b o} e d1 d2=>by
   cases q:H b with
   |none=>rfl
   |some u=>
    rcases hA b u q with⟨rfl,_,_⟩|⟨t,ht,rfl,_⟩
    ·rw[ha]at e;cases e;rcases d1 with d1|d1
     ·exact absurd rfl d1
     ·exact absurd rfl (d1 _)
    ·have e2:=(hT t ht).2;rw[e]at e2;cases e2;exact absurd rfl d2
  have nsK:∀{b:Addr} {m:Str→Option Value},s₁.heap.Ns b m→(xcm s₁.heap H).Ns b m:=fun{b m} ⟨o,es,ep,e,d,r⟩=>
   ⟨o,es,ep,base_of e (noA e (.inr fun n z=>by rw[d]at z;cases z) fun z=>by rw[z]at d;cases d),d,r⟩
  have hKb:K.In (xcm s₁.heap H):=fun b o e=>base_of (KX b o e) (by
   cases q:H b with
   |none=>rfl
   |some u=>
    rcases hA b u q with⟨rfl,z,_⟩|⟨t,ht,rfl,_⟩
    ·rw[z]at e;cases e
    ·have e2:=KX _ _ e;rw[(hT t ht).2]at e2;cases e2;have h2:=cg.mp hnt _ (W.mem_of_lookupK e);exact absurd (show false=true from h2) aH)
  have hM:Mod K mg (xcm s₁.heap H):=⟨hKb,nsK hns,⟨mb,nsK hb,hbb⟩,let⟨mc,h1,h2⟩:=hlim;⟨mc,nsK h1,h2⟩,let⟨b,o,a1,a2,a3,a4⟩:=hbm;⟨b,o,a1,a2,base_of a3 (noA a3 (.inl fun z=>by rw[a4.1]at z;simp at z) fun z=>by rw[z]at a4;cases a4.1),a4⟩⟩;have e0:jR P w K mg (xcm s₁.heap H) iw [] s₁ H:=⟨rfl,hM,fun b o e=>xpn e,gz (xmz _ _),trivial,fun b hb=>absurd (show b∈([]:List Addr)from hb) (by simp),hok,.of_eq hg⟩;refine dq ((F _ hKb (nsK hns)).run iw [] s₁ H ⟨[.ref a],[]⟩ [.ref a] [.ref a] _ _ hr e0 (hbind s₁ (.ref a)) (.cons rfl .nil) (hsp H hS hP)) fun r s' h=>?_;cases r with
  |error e=>exact(hCX H e s' h).elim
  |ok fl=>
   cases fl with
   |next=>exact bH h
   |brk=>exact bH h
   |cont=>exact bH h
   |ret u=>
    obtain⟨v,H',os,bare,un,hok',r',q⟩:=h;have q':v= .bl true:=q;subst q';obtain rfl:u=dF true:=r';have old:∀b o,s₁.heap.get? b=some o→s'.heap.get? b=some o∨∃t∈tabs,b=t.2.1∧o=gm #[]∧∃ps,s'.heap.get? b=some (gm ps):=fun b o e=>by
     cases q:H b with
     |none=>exact .inl (un.keep b o e q (by intro z;exact absurd (show b∈([]:List Addr)from z) (by simp)) (by simp))
     |some u=>
      rcases hA b u q with⟨rfl,_,xs,rfl⟩|⟨t,ht,rfl,rfl⟩
      ·obtain⟨e1,_⟩:=hok _ _ q;obtain⟨e2,_⟩:=hok' _ _ (un.fix _ _ q trivial);rw[e]at e1;cases e1;exact .inl e2
      ·obtain⟨ps,e2,_⟩:=hok' _ _ (un.fix _ _ q trivial);have e3:=(hT t ht).2;rw[e]at e3;cases e3;exact .inr ⟨t,ht,rfl,rfl,ps,e2⟩
    refine⟨rfl,⟨fun b o e=>?_,fun b o e=>?_⟩,os,bare⟩
    ·rcases old b o e with z|⟨t,ht,rfl,rfl,ps,z⟩
     ·exact .inl z
     ·exact .inr (.inl ⟨((hT t ht).1.tab (hT t ht).2).isCodeTable,rfl,#[],ps,rfl,by rw[Array.empty_append];exact z⟩)
    ·rcases old b o e with z|⟨t,ht,rfl,rfl,ps,z⟩
     ·exact⟨o,z⟩
     ·exact⟨_,z⟩
 let Ht:Hp:=fun b=>(tabs.find? fun q=>q.2.1==b).map fun q=>HO.tbl q.2.2
 have HtP:∀q∈tabs,Ht q.2.1=some (.tbl q.2.2):=fun q hq=>by
  show Option.map _ (tabs.find? _)=_;cases e:tabs.find? fun r=>r.2.1==q.2.1 with
  |none=>
   have:=eW.mp e q hq;simp at this
  |some r=>
   have h1:=List.find?_some e;have h2:=ip e;have h3:r.2.1=q.2.1:=by simpa using h1
   have:r=q:=by
    obtain⟨i,hi⟩:=bS.mp h2;obtain⟨j,hj⟩:=bS.mp hq;have ei:(tabs.map fun q=>q.2.1)[i]? =some r.2.1:=by rw[ak,hi];rfl
    have ej:(tabs.map fun q=>q.2.1)[j]? =some r.2.1:=by rw[ak,hj,h3];rfl
    obtain⟨i1,i2⟩:=au.mp ei;obtain⟨j1,j2⟩:=au.mp ej;have:=(iy nd).mp (i2.trans j2.symm);subst this;rw[hi]at hj;exact bD hj
   subst this;rfl
 have HtA:∀b u,Ht b=some u→∃q∈tabs,b=q.2.1∧u= .tbl q.2.2:=fun b u e=>by
  have e:Option.map (fun q=>HO.tbl q.2.2) (tabs.find? fun q=>q.2.1==b)=some u:=e;obtain⟨q,hq,rfl⟩:=aQ.mp e;have h1:=List.find?_some hq;exact⟨q,ip hq,(show q.2.1=b by simpa using h1).symm,rfl⟩
 have tok:∀{H:Hp} {q},q∈tabs→xH P w H s₁.heap q.2.1 (.tbl q.2.2):=fun{H q} hq=>⟨#[],(hT q hq).2,trivial,fun _ _ _=>.inl rfl⟩;cases hk:K.lookup a with
 |some o=>
  have e:=KX a o hk;rw[ha]at e;cases e;refine core Ht (.inr ⟨_,vs.toArray,_,hk,rfl,rfl,rfl,by rw[aE,lenV];exact hl,by simpa using rv⟩) HtP (fun b u z=>.inr (HtA b u z)) fun b u z=>?_;obtain⟨q,hq,rfl,rfl⟩:=HtA b u z;exact tok hq
 |none=>
  refine core (fun b=>if b=a then some (.frz {cls:=.type "list",data:=.seq vs.toArray} (.lst (ns.map V.int)))else Ht b) (.inl (.inr ⟨{cls:=.type "list",data:=.seq vs.toArray},if_pos rfl⟩)) (fun q hq=>(if_neg (aP q hq)).trans (HtP q hq)) (fun b u z=>?_) fun b u z=>?_
  ·by_cases hb:b=a
   ·have z':=(if_pos hb).symm.trans z;cases z';exact .inl ⟨hb,hk,_,rfl⟩
   ·exact .inr (HtA b u ((if_neg hb).symm.trans z))
  ·by_cases hb:b=a
   ·have z':=(if_pos hb).symm.trans z;cases z';subst hb;exact⟨ha,by rw[aa];exact hl,vs,_,rv,ha⟩
   ·obtain⟨q,hq,rfl,rfl⟩:=HtA b u ((if_neg hb).symm.trans z);exact tok hq
theorem xoc{l:W.OpenLaw}{n k:Nat}{q:aI}{loose:List Str}{XP:(Str→Option Value)→Heap→Prop}{YP:World→Heap→Prop}{d:DefRec}{K:Params→ah}{CX:CXT}{sp:ah→Sp}{x:Str}{tabs:List (Addr×Addr×List (Pos×Str))}
  (hn:l.most=some n) (hn2:n≤aL) (hdf:d.params.defaults=[]) (hr:xW k iw)
  (hY:∀(w:World) (h:Heap),YP w h→(K w.params).In h)
  (hT:∀(w:World) (h:Heap),YP w h→(K w.params).In h→∀t∈tabs,kq h t.1 t.2.1∧h.get? t.2.1=some (gm #[])) (hnt:∀w:World,W.noTabs (K w.params)=true) (nd:(tabs.map fun q=>q.2.1).Nodup)
  (F:∀(w:World) (mg:Str→Option Value) (fa:Addr) (h:Heap),(K w.params).In h→h.Ns bz mg→mg d.name=some (.ref fa)→
   ∃fd:ay,(∀(s:ab) (u:Value),BindsTo s fd ⟨[u],[]⟩ [(x,u)])∧
    ∀base:Heap,(K w.params).In base→base.Ns bz mg→xv l.prog w (K w.params) mg base CX k fa fd [x] (sp (K w.params)))
  (hsp:∀(K:ah) (H:Hp) (a:Addr) (ns:List Int),ns.length≤n→SqL K H a (ns.map V.int)→(∀q∈tabs,H q.2.1=some (.tbl q.2.2))→sp K [.ref a] H (fun v _=>v= .bl true) fun _ _ _=>False)
  (hCX:∀(H:Hp) (s:ab) (e:Value) (s':ab),CX [] H s (fun _ _ _=>False) e s'→False):
  W.WalkO q loose XP YP l.row.toRowW d [] (fun f vs=>PySem.call f vs):=by
 refine Att.xj8 hn hdf fun w s₀ s₁ mg mb fa o pm cd doc a vs ns G Y ho hd hcd hmg hobj hints hlen hg=>?_;have KX:=hY w _ Y;obtain⟨fd,hb,hF⟩:=F w mg fa _ KX G.T.g hmg;exact xm2 KX G.T.g G.T.b G.T.builtins G.T.nolimit G.T.bmain hg hobj hints (a7 hlen hn2) hr (hT w _ Y KX) (hnt w) nd hF hb (fun H hS hP=>hsp (K w.params) H a ns hlen hS hP) fun H e s'=>hCX H s₁ e s'
end L2
namespace L2
open PySem PySem.Spec PyProof.Rows
structure uu(N ps fns:List Str)(sc:Scope):Prop where
 kind:sc.kind= .function
 co:sc.isCoroutine=false
 gen:sc.isGenerator=false
 nd:N.Nodup
 pre:N.take (ps.length+fns.length)=ps++fns
 par:∀x∈ps,sc.names.lookup x=some .local
 fre:∀x∈fns,sc.names.lookup x=some .free
 nocell:∀y∈sc.names,y.2≠.cell
def xdm(N:List Str)(vs:List V)(fv:List (Str×V)):St:=vs.map some++fv.map (fun p=>some p.2)++bu (N.length - vs.length - fv.length) none
def xiA(CX:CXT)(P:aI)(w:World)(K:ah)(mg:Str→Option Value)(base:Heap)(N:List Str)(qual:Str)(scope:Scope)(f:Addr)(cd:Value)(clos:List (Str×Addr))(A:aU)(outer:List Env)(s:ab)(H:Hp)(E:XK):Cx where
 prog:=P
 w:=w
 K:=K
 mg:=mg
 base:=base
 A:=A.deeper (iG qual scope s.heap.objs.size f cd clos)
 N:=N
 s₀:=s
 H₀:=H
 env:=iG qual scope s.heap.objs.size f cd clos
 outer:=outer
 stack:=iG qual scope s.heap.objs.size f cd clos::outer
 ex:=[]
 calm:=true
 cp:=fun _=>false
 fn:=fun _=>false
 pn:=[]
 xe:=fun e s'=>wpAny (model P w) (A.deeper (iG qual scope s.heap.objs.size f cd clos)) (leaving (iG qual scope s.heap.objs.size f cd clos) e) (fun _ s''=>CX outer H s E e s'') (fun e' s''=>CX outer H s E e' s'') s'
theorem xhH{α:Type}:∀{l:List (Str×α)} {x:Str} {v:α},(l.map (·.1)).Nodup→(x,v)∈l→l.lookup x=some v
 |[],_,_,_,m=>by simp at m
 |(y,u)::r,x,v,nd,m=>by
  obtain⟨n1,n2⟩:=cw.mp nd;rw[cD];rcases ao.mp m with e|m
  ·cases e;simp
  ·have:x≠y:=fun e=>n1 (by rw[←e];exact fC (f:=(·.1)) m);rw[beq_false_of_ne this];exact xhH n2 m
theorem xiQ:∀{ps:List Str} {us:List Value},us.length=ps.length→(ps.zip us).map (·.1)=ps
 |[],[],_=>rfl
 |p::ps,u::us,h=>by simp[xiQ (ps:=ps) (us:=us) (by simpa using h)]
 |[],_::_,h=>by simp at h
 |_::_,[],h=>by simp at h
theorem xgU{ps:List Str}{us:List Value}{i:Nat}{x:Str}{u:Value}(hl:us.length=ps.length)(nd:ps.Nodup)(h1:ps[i]? =some x)(h2:us[i]? =some u):(ps.zip us).reverse.lookup x=some u:=by
 refine xhH ?_ (List.mem_reverse.mpr ?_)
 ·rw[List.map_reverse,xiQ hl];exact j6.mpr (nd.imp fun h=>a8 h)
 ·refine bS.mpr ⟨i,?_⟩;rw[List.getElem?_zip_eq_some];exact⟨h1,h2⟩
def codeOf(body:dg)(env:Env):Code:=match body with
 | .stmts b=>.func b env
 | .expr e=>.expr e env
section
variable {CX:CXT} {P:aI} {w:World} {K:ah} {mg:Str→Option Value} {base:Heap} {N ps fns:List Str} {nm qual:Str} {params:cE} {scope:Scope} {f:Addr} {cd:Value} {clos:List (Str×Addr)} {A:aU} {outer:List Env} {s:ab} {H:Hp} {E:XK} {us:List Value} {vs:List V} {fv:List (Str×V)} {k:Nat}
theorem xlG{h':Heap}{tk:Tok}(S:uu N ps fns scope)(hd:A.handled=none)(e0:jR P w K mg base A outer s H)(hl:vs.length=ps.length)(r:Vals vs us)(hfv:fv.map (·.1)=fns)
  (hin:∀x y a,clos.lookup x=some a→clos.lookup y=some a→x=y) (hhas:∀x,(x,bZ)∈scope.names→∃a,clos.lookup x=some a)
  (hval:∀x v,(x,v)∈fv→∃a,clos.lookup x=some a∧H a=some (.cel (some v))) (hall:∀x a,clos.lookup x=some a→∃v,H a=some (.cel (some v)))
  (hns:h'.Ns s.heap.objs.size fun x=>(ps.zip us).reverse.lookup x) (hk:∀b o,s.heap.get? b=some o→h'.get? b=some o):
  Inv (xiA CX P w K mg base N qual scope f cd clos A outer s H E) [] (xdm N vs fv) H {s with heap:=h',toks:=tk}:=by
 have lenF:fv.length=fns.length:=by rw[←hfv,aa]
 have hpl:ps.length+fns.length≤N.length:=by have:=congrArg cC S.pre;rw[bB,aq]at this;lia
 have noA:∀b:Addr,b∉(xiA CX P w K mg base N qual scope f cd clos A outer s H E).ex:=fun b z=>absurd (show b∈([]:List Addr)from z) (by simp);have lu:us.length=ps.length:=by rw[←r.length];exact hl
 have ndP:(ps++fns).Nodup:=by rw[←S.pre];exact S.nd.sublist (List.take_sublist _ _)
 refine⟨⟨e0.mod,S.kind,rfl,rfl,ai _,fun y z c h1 h2=>hin y z c h1 h2,fun y hy=>?_,fun y c h _=>(aH h).elim,fun _=>hd,kh e0.frames,.inr ⟨rfl,rfl⟩,fun b z=>absurd z (noA b),e0.bs,e0.bsz,fun b _ _=>noA b,fun b z=>absurd z (noA b),e0.funs,e0.frf,fun y c h _=>(aH h).elim,fun b hb=>e0.hok.fresh hb⟩,
  rfl,e0.bare,Un.kept hk,⟨_,hns,fun i y v h1 h2 h3=>?_⟩,fun y c h=>?_,e0.hok.fresh (ai _),fun y c h=>?_,fun p hp=>absurd (show p∈([]:List (Addr×Obj))from hp) (by simp),e0.hok.kept hk,?_⟩
 ·have hy:scope.names.lookup y=some .cell∨scope.names.lookup y=some .free:=hy;rcases hy with hy|hy
  ·exact absurd rfl (S.nocell _ (PySem.mem_of_lookup hy))
  ·exact hhas y (PySem.mem_of_lookup hy)
 ·have h1:N[i]? =some y:=h1;unfold xdm at h2
  by_cases hi:i<vs.length
  ·rw[bo (by simp;lia),bo (by simpa using hi),ak]at h2;cases e:vs[i]? with
   |none=>rw[e]at h2;cases h2
   |some a=>
    rw[e]at h2;cases h2;obtain⟨u,hu,rv⟩:=r.get e;have hp:ps[i]? =some y:=by
     have:(N.take (ps.length+fns.length))[i]? =some y:=by rw[c5 (by lia)];exact h1
     rw[S.pre,bo (by lia)]at this;exact this
    exact⟨u,rv,.inl ⟨S.par y (az hp),xgU lu (ndP.sublist (List.sublist_append_left _ _)) hp hu⟩⟩
  ·by_cases hj:i<vs.length+fv.length
   ·rw[bo (by simp;lia),bI (by simpa using hi),aa,ak]at h2;cases e:fv[i - vs.length]? with
    |none=>rw[e]at h2;cases h2
    |some p=>
     obtain⟨z,v'⟩:=p;rw[e]at h2;cases h2;have hp:fns[i - vs.length]? =some y:=by
      have:(N.take (ps.length+fns.length))[i]? =some y:=by rw[c5 (by lia)];exact h1
      rw[S.pre,bI (by lia),←hl]at this;exact this
     have hz:z=y:=by
      rw[←hfv,ak,e]at hp;exact bD hp
     subst hz;obtain⟨a,q1,q2⟩:=hval _ _ (az e);obtain⟨u,q3,q4⟩:=e0.hok a _ q2;obtain⟨y',rfl,r'⟩:=q4 v' rfl;exact⟨y',r',.inr ⟨.inr (S.fre z (az hp)),a,q1,q3.keeps hk⟩⟩
   ·rw[bI (by simp;lia),iR]at h2
    split at h2<;> cases h2
 ·obtain⟨v,q2⟩:=hall y c h;obtain⟨u,q3,_⟩:=e0.hok c _ q2;exact⟨u,q3.keeps hk⟩
 ·obtain⟨v,q2⟩:=hall y c h;exact .inr ⟨rfl,some v,q2,fun z=>by cases z⟩
 ·unfold xdm;show _=N.length;simp only[aq,aa,gr];lia
structure zJ(P:aI)(w:World)(K:ah)(mg:Str→Option Value)(base:Heap)(CX:CXT)(k:Nat)(nm qual:Str)(params:cE)(body:dg)(scope:Scope)(ps:List Str)(sp:List (Str×V)→Sp):Prop where
 len:∀fv vs H Q E,sp fv vs H Q E→vs.length=ps.length
 run:∀(A:aU) (outer:List Env) (s:ab) (H:Hp) (f:Addr) (fv:List (Str×V)) (us:List Value) (vs:List V) (Q:VK) (E:XK),xW k A→jR P w K mg base A outer s H→zv H f nm qual params body scope fv→Vals vs us→sp fv vs H Q E→
  cW (model P w) A (.call (.ref f) ⟨us,[]⟩) (CR CX outer P w H s Q E) s
theorem xm3{body:dg}{sp:List (Str×V)→Sp}(S:uu N ps fns scope)(len:∀fv vs H Q E,sp fv vs H Q E→vs.length=ps.length∧fv.map (·.1)=fns)
  (hb:∀(clos:List (Str×Addr)) (doc pm cdv ctv:Value) (us:List Value),us.length=ps.length→
   fi {name:=nm,qualname:=qual,params,body,scope,globals:=bz,closure:=clos,defaults:=.none,kwdefaults:=.none,doc,pyModule:=pm,annotations:=none,code:=cdv,closureTuple:=ctv,builtins:=dk} ⟨us,[]⟩=pure (ps.zip us))
  (hgo:∀(A:aU) (outer:List Env) (s:ab) (H:Hp) (f:Addr) (clos:List (Str×Addr)) (cdv:Value) (fv:List (Str×V)) (vs:List V) (Q:VK) (E:XK) (s1:ab),xW k (A.deeper (iG qual scope s.heap.objs.size f cdv clos))→sp fv vs H Q E→
   Inv (xiA CX P w K mg base N qual scope f cdv clos A outer s H E) [] (xdm N vs fv) H s1→
   cW (model P w) A (codeOf body (iG qual scope s.heap.objs.size f cdv clos)) (CR CX outer P w H s Q E) s1):
  zJ P w K mg base CX (k+1) nm qual params body scope ps sp:=by
 refine⟨fun fv vs H Q E h=>(len fv vs H Q E h).1,fun A outer s H f fv us vs Q E hr e0 hc r hsp=>?_⟩;obtain⟨clos,c,o,u,u',xs,t,doc,pm,ctv,h1,h2,h3,h4,h5,h6,h7,h8⟩:=hc;obtain⟨hl,hfv⟩:=len fv vs H Q E hsp;have lu:us.length=ps.length:=by rw[←r.length];exact hl
 obtain⟨hf,_⟩:=e0.hok f _ h1;obtain⟨hcO,_⟩:=e0.hok c _ h2;have lim:s.heap.NoLimit:=e0.mod.nolimit.keeps fun b o e=>(e0.bs b o e).1;have hloc:∀y∈ps.zip us,scope.names.lookup y.1=some .local:=fun⟨n,v⟩ hy=>S.par n (fG hy).1;have cr:s.heap.CodeRec (.ref c) qual:=⟨c,o,xs,t,rfl,hcO,h3,h4⟩;have fin:wpAny (model P w) A.in1 (j4 scope bz clos (ps.zip us) (qual++".<locals>.") (some f) (.ref c) none dk)
   (fun env s₂=>s₂.heap.NoLimit∧cW (model P w) A (codeOf body env) (CR CX outer P w H s Q E) s₂) (fun e s'=>CR CX outer P w H s Q E (.error e) s') s:=by
  refine gD S.nocell hloc (fun h' hns hsb=>?_) S.kind;have hk:∀b o,s.heap.get? b=some o→h'.get? b=some o:=fun b o e=>hsb.extBut b o (ar (aj e)) (af _ e);exact⟨lim.keeps hk,hgo A outer s H f clos (.ref c) fv vs Q E _ (hr.deeper _) hsp (xlG S hr.hd e0 hl r hfv h5 h6 h7 h8 hns hk)⟩
 cases body with
 |stmts b=>
  refine gs hr.depth hf rfl S.co S.gen rfl cr ?_;rw[hb clos doc pm (.ref c) ctv us lu];exact aA fin
 |expr e=>
  refine W.kla_callFunE hr.depth hf rfl S.co S.gen rfl cr ?_;rw[hb clos doc pm (.ref c) ctv us lu];exact aA fin
theorem xaF{e:Expr}{sp:List (Str×V)→Sp}(S:uu N ps fns scope)(len:∀fv vs H Q E,sp fv vs H Q E→vs.length=ps.length∧fv.map (·.1)=fns)
  (hb:∀(clos:List (Str×Addr)) (doc pm cdv ctv:Value) (us:List Value),us.length=ps.length→
   fi {name:=nm,qualname:=qual,params,body:=.expr e,scope,globals:=bz,closure:=clos,defaults:=.none,kwdefaults:=.none,doc,pyModule:=pm,annotations:=none,code:=cdv,closureTuple:=ctv,builtins:=dk} ⟨us,[]⟩=pure (ps.zip us))
  (hbody:∀(A:aU) (outer:List Env) (s:ab) (H:Hp) (f:Addr) (clos:List (Str×Addr)) (cdv:Value) (fv:List (Str×V)) (vs:List V) (Q:VK) (E:XK),xW k (A.deeper (iG qual scope s.heap.objs.size f cdv clos))→sp fv vs H Q E→
   ∃te,PE (xiA CX0 P w K mg base N qual scope f cdv clos A outer s H E).nox e te∧te (xdm N vs fv) H Q):zJ P w K mg base CX0 (k+1) nm qual params (.expr e) scope ps sp:=
 xm3 S len hb fun A outer s H f clos cdv fv vs Q E s1 hr hsp I=>by
  obtain⟨te,ht,hq⟩:=hbody A outer s H f clos cdv fv vs Q E hr hsp;refine W.kla_codeExpr (aY (ht [] s1 _ H Q (I.wish _) hq) (fun v s' hh72=>?_) fun _ _ z=>z.elim);obtain⟨x,H',J,rv,q⟩:=hh72;exact⟨x,H',J.os,J.bare,J.base,J.hok,rv,q⟩
end
section
variable {X:Cx} {CX:CXT} {k:Nat} {nm qual x:Str} {params:cE} {body:dg} {scope:Scope} {ps:List Str} {sp:List (Str×V)→Sp} {p pos:Pos} {e:Expr} {es:List Expr} {t:TA} {E:XK} {i:Nat}
theorem xpK{pins:List (Addr×Obj)}{σ:St}{H:Hp}{s:ab}{Q:VK}{us:List Value}{vs:List V}{f:Addr}{fv:List (Str×V)}(F:zJ X.prog X.w X.K X.mg X.base CX k nm qual params body scope ps sp)(hr:xW k X.A)(hx:Passes CX X E)
  (I:Inv X pins σ H s) (hc:zv H f nm qual params body scope fv) (r:Vals vs us) (h:sp fv vs H Q E):wpAny (model X.prog X.w) X.A (call (.ref f) us) (EP X pins σ Q) X.xe s:=by
 refine fV (dq (F.run X.A X.stack s H f fv us vs Q E hr I.env0 hc r h) fun r s' hq=>?_);cases r with
 |error e=>exact hx pins σ H s e s' I hq
 |ok fl=>
  cases fl with
  |ret u=>exact I.after hq
  |next=>exact bH hq
  |brk=>exact bH hq
  |cont=>exact bH hq
theorem zv.fn{pins:List (Addr×Obj)}{σ:St}{H:Hp}{s:ab}{f:Addr}{fv:List (Str×V)}(hc:zv H f nm qual params body scope fv)(I:Inv X pins σ H s):W.FnAt f s.heap:=by
 obtain⟨clos,c,o,u,u',xs,t,doc,pm,ctv,h1,_⟩:=hc;obtain⟨e,_⟩:=I.hok f _ h1;exact⟨_,_,_,_,e⟩
end
theorem Inv.capd{X:Cx}{pins:List (Addr×Obj)}{σ:St}{H:Hp}{s:ab}(hfn:∀x,X.fn x=true)(I:Inv X pins σ H s)(g:Str→Bool):Inv {X with fn:=g} pins σ H s:=by
 have ok:=I.ok;refine⟨⟨ok.mod,ok.kind,ok.glob,ok.blt,ok.above,ok.inj,ok.has,fun x c _ h=>ok.cab x c (hfn x) h,ok.hd,ok.frames,ok.stk,ok.exf,ok.bs,ok.bsz,ok.noex,ok.exfs,ok.funs,ok.frf,ok.cab2,ok.hz⟩,I.os,I.bare,I.base,I.loc,I.cell,I.free,fun x c e=>?_,I.pin,I.hok,I.len⟩;rcases I.freeC x c e with z|⟨z,_⟩
 ·exact .inl z
 ·rw[hfn x]at z;cases z
abbrev xph(cap:List Str):Str→Bool:=fun x=> !(cap.contains x)
abbrev xlH(cap:List Str)(CX:CXT)(P:aI)(w:World)(K:ah)(mg:Str→Option Value)(base:Heap)(N:List Str)(qual:Str)(scope:Scope)(f:Addr)(cd:Value)(A:aU)(outer:List Env)(s:ab)(H:Hp)(E:XK):Cx:=
 {xco CX P w K mg base N qual scope f cd A outer s H E with fn:=xph cap}
theorem Fun.okC{P:aI}{w:World}{K:ah}{mg:Str→Option Value}{base:Heap}{x qual:Str}{st:Stmt}{f c:Addr}{fd:ay}{N ps:List Str}{k:Nat}{sp:Sp}(cap:List Str)(F:Fun K x qual st f fd)(hc:fd.code= .ref c)(S:xp N ps (xj st))(len:∀vs H Q E,sp vs H Q E→vs.length=ps.length)
  (hbody:∀(A:aU) (outer:List Env) (s:ab) (H:Hp) (vs:List V) (Q:VK) (E:XK),xW k (A.deeper (gd qual (xj st) s.heap.objs.size f (.ref c)))→sp vs H Q E→
   ∃t,PSs (xlH cap CX0 P w K mg base N qual (xj st) f (.ref c) A outer s H E).nox (xO st) t∧t {nx:=fun _ H'=>Q .non H',rt:=Q} (start N vs) H):xv P w K mg base CX0 (k+1) f fd ps sp:=by
 obtain⟨oc,od,kV,doc,pm,an,cdv,ct,osl,rfl,lk,hcd⟩:=F.ex;obtain rfl:cdv= .ref c:=hc;refine⟨len,fun A outer s H args us vs Q E hr e0 hb r hsp=>?_⟩;have hl:=len _ _ _ _ hsp;have KX:K.In s.heap:=e0.mod.kin.keeps fun b o e=>(e0.bs b o e).1;have lim:s.heap.NoLimit:=e0.mod.nolimit.keeps fun b o e=>(e0.bs b o e).1;have hkind:∀y∈ps.zip us,(xj st).names.lookup y.1=some .local∨((xj st).names.lookup y.1=some .cell∧((cellsFrom (s.heap.objs.size+1) (xj st).names []).lookup y.1).isSome=true):=fun⟨n,v⟩ hy=>by
  rcases S.par n (fG hy).1 with q|q
  ·exact .inl q
  ·exact .inr ⟨q,iA _ _ _ (.inl q)⟩
 refine gs hr.depth (KX _ _ lk) rfl S.co S.gen rfl (W.codeRec_of KX hcd) (hb _ _ _ _ ?_);refine ia S.kind hkind fun env he s1 x=>?_;subst he;refine⟨lim.keeps x.toInCall.keep,codeAny_func ?_⟩;obtain⟨t,ht,hq⟩:=hbody A outer s H vs Q E (hr.deeper _) hsp;have I:Inv (xco CX0 P w K mg base N qual (xj st) f (.ref c) A outer s H E) [] (start N vs) H s1:=xhA S hr.hd e0 hl r x;have I':Inv (xlH cap CX0 P w K mg base N qual (xj st) f (.ref c) A outer s H E).nox [] (start N vs) H s1:=(I.capd (fun _=>rfl) (xph cap)).wish _;refine aY (ht [] s1 (start N vs) H _ I' hq) (fun fl s' hs=>?_) fun e s' hs=>hs.elim;have fin:∀{σ':St} {H':Hp} {v:V} {u:Value},Inv (xlH cap CX0 P w K mg base N qual (xj st) f (.ref c) A outer s H E).nox [] σ' H' s'→RelV v u→Q v H'→CE outer P w H s Q u s':=
  fun{σ' H' v u} J rv q=>⟨v,H',J.os,J.bare,J.base,J.hok,rv,q⟩
 cases fl with
 |ret u=>
  obtain⟨v,σ',H',J,rv,q⟩:=hs;exact fin J rv q
 |next=>
  obtain⟨σ',H',J,q⟩:=hs;exact fin (v:=V.non) (u:=bq) J rfl q
 |brk=>
  obtain⟨_,_,_,q⟩:=hs;exact bH q
 |cont=>
  obtain⟨_,_,_,q⟩:=hs;exact bH q
section
variable {X:Cx} {c P:Addr} {qs:List (Pos×Str)} {name q:Str} {params:cE} {scope:Scope} {pos:Pos} {fns:List Str}
theorem zw{e:Expr}(hcode:X.env.code= .ref c)(T:ui X.K c P)(hql:X.env.qual++"<lambda>"=q)(hq:(pos,q)∈qs)(hu:(qs.all fun p=> !((pos.line==p.1.line)&&(pos.col==p.1.col))||(p.2==q))=true)
  (hfr:(scope.names.filter fun y=>y.2== .free).map (·.1)=fns) (hdef:defaultsOf params X.env=([],[]):=by rfl):
  PE X (.Lambda params e scope pos) (tFn X P qs fns "<lambda>" q params (.expr e) scope):=by
 subst hql;exact xm1 hcode T hq hu hfr hdef
end
theorem xpL{K:ah}{c P:Addr}(e:W.codeHdIn K c P=true):ui K c P:=fun _ X=>W.codeHd_of_K X e
end L2
namespace L2
open PySem PySem.Spec PyProof.Rows
theorem xiB{X:Cx}{a b:Expr}{pos:Pos}{op:CmpOp}{t:TE}(h:PC X op a b t)(h1:de op b=false):PT X (.Compare a [op] [b] pos) (cB t):=by
 intro pins s σ H Q I hw;refine gq (thn (h pins s σ H _ I hw) fun v s1 h1=>thn h1 fun u s2 h2=>thn h2 fun c s3 hh73=>?_) h1;obtain⟨x,H1,I1,r1,q1⟩:=hh73;obtain⟨d,rfl,q⟩:=jk q1;cases r1;exact cq ⟨H1,I1,q⟩
end L2
namespace L2
open PySem PySem.Spec PyProof.Rows
theorem xdn{K:ah}{l:Addr}{xs:List V}{te:TE}{caps:L2.St}{Q:VK}{H2:Hp}(f:V→V)(hl:SqL K H2 l xs)(hn:xs.length≤aL)
  (hs:∀(x:V) (H3:Hp),x∈xs→xb H2 H3→∀R:VK,(∀H6,xb H3 H6→R (f x) H6)→te (some x::caps) H3 R)
  (hd:∀D H',H2 D=none→xb H2 H'→H' D=some (.lst (xs.map f))→Q (.ref D) H'):zg (Itl K l) caps xe7 te Q H2:=by
 unfold zg;intro D hD;refine⟨fun i m acc H3=>m=xs.length - i∧i≤xs.length∧acc=(xs.take i).map f∧H3 D=some (.lst acc)∧xb H2 H3,⟨xs.length,by simp,aJ _,rfl,xk,xb.new hD⟩,?_⟩;rintro i m acc H3 ⟨rfl,hi,rfl,hD3,s3⟩;refine⟨hD3,?_⟩;have q:=s3.seq hl
 by_cases hlt:i<xs.length
 ·have hx:xs[i]? =some xs[i]:=ag hlt;refine .inr ⟨⟨xs,xs[i],q,hx⟩,by simp;lia,fun v H4 y=>?_⟩;obtain⟨e,y⟩:=y;have ev:=y xs q;rw[hx]at ev;cases ev;subst e;refine⟨fun _=>?_,fun z=>by cases z⟩;refine hs _ _ (cM hlt) s3 _ fun H6 s6=>⟨s6.at hD3,xs.length - (i+1),by lia,rfl,hlt,?_,xk,(s3.trans s6).put hD⟩;rw[bw,hx,aG];rfl
 ·have e:i=xs.length:=by lia
  subst e;rw[bO]at hD3;exact .inl ⟨⟨xs,q,ai _⟩,hd D H3 hD s3 hD3⟩
end L2
namespace L2
open PySem PySem.W PyProof.Rows
structure STO(lt:Nat→Nat→Bool)(n:Nat):Prop where
 irr:∀i,i<n→lt i i=false
 tr:∀i j k,i<n→j<n→k<n→lt i j=true→lt j k=true→lt i k=true
 tot:∀i j,i<n→j<n→i≠j→lt i j=true∨lt j i=true
def Wp{α:Type}(lt:Nat→Nat→Bool)(n:Nat):KasT α→(α→Prop)→Prop
 | .ret a,Q=>Q a
 | .ask i j k,Q=>i<n∧j<n∧Wp lt n (k (lt i j)) Q
section
variable {lt:Nat→Nat→Bool} {n:Nat} {α β:Type}
theorem Wp.bind{f:α→KasT β}{Q:β→Prop}:∀{t:KasT α},Wp lt n t (fun a=>Wp lt n (f a) Q)→Wp lt n (t.bind f) Q
 | .ret _,h=>h
 | .ask _ _ _,⟨h1,h2,h⟩=>⟨h1,h2,Wp.bind h⟩
theorem Wp.kas{cmp:Nat→Nat→(Bool→ab→Prop)→ab→Prop}{Q:α→ab→Prop}{s:ab}(hc:∀i j (C:Bool→ab→Prop),i<n→j<n→C (lt i j) s→cmp i j C s):∀{t:KasT α},Wp lt n t (fun a=>Q a s)→t.kasWp cmp Q s
 | .ret _,h=>h
 | .ask i j k,⟨h1,h2,h⟩=>hc i j _ h1 h2 (Wp.kas hc h)
theorem wp_mono{Q Q':α→Prop}:∀{t:KasT α},Wp lt n t Q→(∀a,Q a→Q' a)→Wp lt n t Q'
 | .ret _,h,k=>k _ h
 | .ask _ _ _,⟨h1,h2,h⟩,k=>⟨h1,h2,wp_mono h k⟩
structure Pm(n:Nat)(p:Array Nat):Prop where
 size:p.size=n
 perm:p.toList.Perm (a9 n)
abbrev g0(p:Array Nat)(i:Nat):Nat:=p.getD i 0
theorem jB(p:Array Nat)(i:Nat):g0 p i=(p[i]?).getD 0:=by unfold g0;rw[Array.getD_eq_getD_getElem?]
theorem Pm.bd{p:Array Nat}(P:Pm n p){i:Nat}(h:i<n):g0 p i<n:=by
 have hi:i<p.size:=by rw[P.size];exact h
 have e:g0 p i=p[i]:=by rw[jB,dh hi];rfl
 rw[e];exact bp.mp (P.perm.mem_iff.mp (kd.mpr (Array.getElem_mem hi)))
theorem Pm.inj{p:Array Nat}(P:Pm n p){i j:Nat}(h:i<n)(h':j<n)(ne:i≠j):g0 p i≠g0 p j:=by
 have nd:p.toList.Nodup:=P.perm.nodup_iff.mpr eI;have hi:i<p.toList.length:=by rw[br,P.size];exact h
 have hj:j<p.toList.length:=by rw[br,P.size];exact h'
 have e:∀k (hk:k<p.toList.length),g0 p k=p.toList[k]:=fun k hk=>by
  rw[jB,←gu,ag hk];rfl
 rw[e i hi,e j hj];exact fun z=>ne ((iy nd).mp z)
def Up(lt:Nat→Nat→Bool)(p:Array Nat)(m:Nat):Prop:=∀i j,i<j→j<m→lt (g0 p i) (g0 p j)=true
def Dn(lt:Nat→Nat→Bool)(p:Array Nat)(m:Nat):Prop:=∀i j,i<j→j<m→lt (g0 p j) (g0 p i)=true
theorem Up.snoc(S:STO lt n){p:Array Nat}(P:Pm n p){m:Nat}(hm:m<n)(h1:1≤m)(U:Up lt p m)(h:lt (g0 p (m - 1)) (g0 p m)=true):Up lt p (m+1):=fun i j hij hj=>by
 by_cases e:j=m
 ·subst e
  by_cases e2:i=j - 1
  ·subst e2;exact h
  ·exact S.tr _ _ _ (P.bd (by lia)) (P.bd (by lia)) (P.bd hm) (U i (j - 1) (by lia) (by lia)) h
 ·exact U i j hij (by lia)
theorem Dn.snoc(S:STO lt n){p:Array Nat}(P:Pm n p){m:Nat}(hm:m<n)(h1:1≤m)(U:Dn lt p m)(h:lt (g0 p m) (g0 p (m - 1))=true):Dn lt p (m+1):=fun i j hij hj=>by
 by_cases e:j=m
 ·subst e
  by_cases e2:i=j - 1
  ·subst e2;exact h
  ·exact S.tr _ _ _ (P.bd hm) (P.bd (by lia)) (P.bd (by lia)) h (U i (j - 1) (by lia) (by lia))
 ·exact U i j hij (by lia)
theorem xiR(S:STO lt n){p:Array Nat}(P:Pm n p){Q:Nat→Prop}:∀(f m:Nat),1≤m→m+f≤n→Up lt p m→(∀m',m≤m'→m'≤m+f→Up lt p m'→(m'<m+f→lt (g0 p m') (g0 p (m' - 1))=true)→Q m')→Wp lt n (kas_asc p f m) Q
 |0,m,_,_,U,h=>h m (ai _) (ai _) U (fun z=>absurd z (by lia))
 |f+1,m,h1,hf,U,h=>by
  refine⟨P.bd (by lia),P.bd (by lia),?_⟩;cases e:lt (p.getD m 0) (p.getD (m - 1) 0)with
  |true=>exact h m (ai _) (by lia) U fun _=>e
  |false=>
   have e2:lt (g0 p (m - 1)) (g0 p m)=true:=(S.tot _ _ (P.bd (by lia)) (P.bd (by lia)) (P.inj (by lia) (by lia) (by lia))).resolve_right (by rw[show lt (g0 p m) (g0 p (m - 1))=false from e];simp);exact xiR S P f (m+1) (by lia) (by lia) (U.snoc S P (by lia) h1 e2) fun m' a1 a2 a3 a4=>h m' (by lia) (by lia) a3 fun z=>a4 (by lia)
theorem xkV(S:STO lt n){p:Array Nat}(P:Pm n p){Q:Array Nat×Nat×Nat→Prop}:∀(f m:Nat),2≤m→m+f≤n→Dn lt p m→(∀m',2≤m'→m'≤n→Dn lt p m'→Q (p,m',0))→Wp lt n (kas_desc f p m 0) Q
 |0,m,_,hf,U,h=>h m (by lia) (by lia) U
 |f+1,m,h1,hf,U,h=>by
  refine⟨P.bd (by lia),P.bd (by lia),?_⟩;cases e:lt (p.getD m 0) (p.getD (m - 1) 0)with
  |true=>exact xkV S P f (m+1) (by lia) (by lia) (U.snoc S P (by lia) (by lia) e) h
  |false=>
   have e2:lt (g0 p (m - 1)) (g0 p m)=true:=(S.tot _ _ (P.bd (by lia)) (P.bd (by lia)) (P.inj (by lia) (by lia) (by lia))).resolve_right (by rw[show lt (g0 p m) (g0 p (m - 1))=false from e];simp);refine⟨P.bd (by lia),P.bd (by lia),?_⟩;rw[show lt (p.getD (m - 1) 0) (p.getD m 0)=true from e2];exact h m (by lia) (by lia) U
theorem Pm.rev{p:Array Nat}(P:Pm n p)(i j:Nat):Pm n (kas_rev p i j):=⟨by unfold kas_rev;rw[mirror_size];exact P.size,(ib.mp (mirror_perm p i j ((j - i) / 2))).trans P.perm⟩
theorem Dn.rev{p:Array Nat}(P:Pm n p){m:Nat}(hm:m≤n)(U:Dn lt p m):Up lt (kas_rev p 0 m) m:=fun i j hij hj=>by
 have e:∀k,k<m→g0 (kas_rev p 0 m) k=g0 p (m - 1 - k):=fun k hk=>by
  rw[jB,jB];unfold kas_rev;rw[getElem?_mirror_all (by rw[P.size];exact hm),if_pos ⟨aJ _,hk⟩]
  congr 2
  lia
 rw[e i (by lia),e j hj];exact U (m - 1 - j) (m - 1 - i) (by lia) (by lia)
theorem xod(S:STO lt n){p:Array Nat}(P:Pm n p){m:Nat}(h1:1≤m)(hm:m≤n)(U:Dn lt p m):Wp lt n (kas_tail3 m n p) (fun r=>Pm n r.2∧1≤r.1∧r.1≤n∧Up lt r.2 r.1):=
 Wp.bind (xiR S (P.rev 0 m) (n - m) m h1 (by lia) (U.rev P hm) fun m' a1 a2 a3 _=>⟨P.rev 0 m,by show 1≤m';lia,by show m'≤n;lia,a3⟩)
theorem xoe(S:STO lt n){p:Array Nat}(P:Pm n p)(h2:2≤n):Wp lt n (kas_count n p) (fun r=>Pm n r.2∧1≤r.1∧r.1≤n∧Up lt r.2 r.1):=by
 refine Wp.bind (xiR S P (n - 1) 1 (ai _) (by lia) (fun i j h1 h2=>absurd h2 (by lia)) fun m a1 a2 a3 a4=>?_)
 by_cases e:(m==n)=true
 ·rw[if_pos e];exact⟨P,a1,by show m≤n;lia,a3⟩
 ·rw[if_neg e];have hmn:m<n:=by
   have:m≠n:=by simpa using e
   lia
  by_cases e2:m > 1
  ·rw[if_pos e2];refine⟨P.bd (by lia),P.bd (by lia),?_⟩;rw[show lt (p.getD 0 0) (p.getD (m - 1) 0)=true from a3 0 (m - 1) (by lia) (by lia)];exact⟨P,a1,by show m≤n;lia,a3⟩
  ·rw[if_neg e2];have e3:m=1:=by lia
   subst e3;refine Wp.bind (xkV S P (n - 2) 2 (ai _) (by lia) (fun i j h1 h2=>?_) fun m' b1 b2 b3=>?_)
   ·obtain rfl:j=1:=by lia
    obtain rfl:i=0:=by lia
    exact a4 (by lia)
   ·exact xod S P (by show 1≤m';lia) b2 b3
theorem xe9(S:STO lt n){p:Array Nat}(P:Pm n p){k:Nat}(hk:k<n){Q:Nat→Prop}(h:∀l,l≤k→(∀i,i<l→lt (g0 p i) (g0 p k)=true)→(∀i,l≤i→i<k→lt (g0 p k) (g0 p i)=true)→Q l)(U:Up lt p k):
  ∀(f l r:Nat),l≤r→r≤k→r - l≤f→(∀i,i<l→lt (g0 p i) (g0 p k)=true)→(∀i,r≤i→i<k→lt (g0 p k) (g0 p i)=true)→Wp lt n (kas_place p k f l r) Q
 |0,l,r,a1,a2,a3,b1,b2=>h l (by lia) b1 fun i h1 h2=>b2 i (by lia) h2
 |f+1,l,r,a1,a2,a3,b1,b2=>by
  unfold kas_place
  by_cases e:l≥r
  ·rw[if_pos e];exact h l (by lia) b1 fun i h1 h2=>b2 i (by lia) h2
  ·rw[if_neg e];have hm1:(l+r) / 2<r:=by lia
   have hm2:l≤(l+r) / 2:=by lia
   refine⟨P.bd hk,P.bd (by lia),?_⟩;cases e2:lt (p.getD k 0) (p.getD ((l+r) / 2) 0)with
   |true=>
    refine xe9 S P hk h U f l ((l+r) / 2) hm2 (by lia) (by lia) b1 fun i h1 h2=>?_
    by_cases e3:i=(l+r) / 2
    ·subst e3;exact e2
    ·exact S.tr _ _ _ (P.bd hk) (P.bd (by lia)) (P.bd (by lia)) e2 (U ((l+r) / 2) i (by lia) h2)
   |false=>
    have e4:lt (g0 p ((l+r) / 2)) (g0 p k)=true:=(S.tot _ _ (P.bd (by lia)) (P.bd hk) (P.inj (by lia) hk (by lia))).resolve_right (by rw[show lt (g0 p k) (g0 p ((l+r) / 2))=false from e2];simp);refine xe9 S P hk h U f ((l+r) / 2+1) r (by lia) a2 (by lia) (fun i h1=>?_) b2
    by_cases e3:i=(l+r) / 2
    ·subst e3;exact e4
    ·exact S.tr _ _ _ (P.bd (by lia)) (P.bd (by lia)) (P.bd hk) (U i ((l+r) / 2) (by lia) (by lia)) e4
theorem Up.ins{p:Array Nat}(P:Pm n p){k l:Nat}(hk:k<n)(hl:l≤k)(U:Up lt p k)(b1:∀i,i<l→lt (g0 p i) (g0 p k)=true)(b2:∀i,l≤i→i<k→lt (g0 p k) (g0 p i)=true):Up lt (bubble p k (k - l)) (k+1):=fun i j hij hj=>by
 have e:∀x,g0 (bubble p k (k - l)) x=if x=l then g0 p k else if l<x∧x≤k then g0 p (x - 1)else g0 p x:=fun x=>by
  rw[jB,getElem?_bubble (by rw[P.size];exact hk) (k - l) (by lia),show k - (k - l)=l by lia]
  by_cases h1:x=l
  ·rw[if_pos h1,if_pos h1,jB]
  ·rw[if_neg h1,if_neg h1]
   by_cases h2:l<x∧x≤k
   ·rw[if_pos h2,if_pos h2,jB]
   ·rw[if_neg h2,if_neg h2,jB]
 rw[e i,e j]
 by_cases hi:i=l
 ·rw[if_pos hi,if_neg (by lia),if_pos ⟨by lia,by lia⟩];exact b2 (j - 1) (by lia) (by lia)
 ·rw[if_neg hi]
  by_cases hj':j=l
  ·rw[if_pos hj',if_neg (by lia)];exact b1 i (by lia)
  ·rw[if_neg hj']
   by_cases h1:l<i∧i≤k
   ·rw[if_pos h1,if_pos ⟨by lia,by lia⟩];exact U (i - 1) (j - 1) (by lia) (by lia)
   ·rw[if_neg h1]
    by_cases h2:l<j∧j≤k
    ·rw[if_pos h2];exact U i (j - 1) (by lia) (by lia)
    ·rw[if_neg h2];exact U i j hij (by lia)
theorem Pm.bub{p:Array Nat}(P:Pm n p)(k d:Nat):Pm n (bubble p k d):=⟨by rw[bubble_size];exact P.size,(ib.mp (bubble_perm p k d)).trans P.perm⟩
theorem xm4(S:STO lt n):∀(f:Nat) (p:Array Nat) (k:Nat),k+f=n→Pm n p→Up lt p k→Wp lt n (kas_bin f p k) (fun q=>Pm n q∧Up lt q n)
 |0,p,k,e,P,U=>⟨P,by rw[show n=k by lia];exact U⟩
 |f+1,p,k,e,P,U=>by
  refine Wp.bind (xe9 S P (by lia) (fun l hl b1 b2=>?_) U k 0 k (aJ _) (ai _) (by lia) (fun i h=>absurd h (by lia)) fun i h1 h2=>absurd h2 (by lia));exact xm4 S f _ (k+1) (by lia) (P.bub k (k - l)) (U.ins P (by lia) hl b1 b2)
theorem xkW(S:STO lt n)(h2:2≤n):Wp lt n (kas_sort n) (fun q=>Pm n q∧Up lt q n):=by
 have P0:Pm n (aF (a9 n)):=⟨by simp,by simp⟩;refine Wp.bind ?_;refine wp_mono (xoe S P0 h2) fun r hr=>?_;obtain⟨P,a1,a2,U⟩:=hr
 by_cases e:r.1<n
 ·rw[if_pos e,show max r.1 1=r.1 by lia];exact xm4 S (n - r.1) r.2 r.1 (by lia) P U
 ·rw[if_neg e];exact⟨P,by rw[show n=r.1 by lia];exact U⟩
end
end L2
namespace PySem
open PyProof.Rows
section
variable {prog:aI} {w:World} {A:aU} {E:Value→ab→Prop} {s:ab}
theorem xka{r:Addr}{a b c:Int}{t u v:Tok}{k:Nat}{Q:List Value→ab→Prop}(hnd:A.handled=none)(hr:IsRange s.heap r a b c t u v)
  (hk:bc a b c=k) (hle:k≤2^24)
  (hQ:∀g tk xs m,(∀b o,s.heap.get? b=some o→g.get? b=some o)→s.heap.objs.size<g.objs.size→
   g.get? s.heap.objs.size=some {cls:=.type "list",dict:=none,data:=.seq xs m,slots:=#[]}→ix (fun i v=>∃t,v= .int (a+i*c) t) xs k→Q xs.toList {s with heap:=g,toks:=tk}):
  wpAny (model prog w) A (collect (.ref r)) Q E s:=by
 unfold collect;refine ae (wpAny_runValue (cV entry_proto_collect' ?_));show wpAny _ _ (do again (.builtin "list.__iadd__" ⟨[←newList [],.ref r],[]⟩)) _ _ s;refine ae (fm (aA ⟨la _ (by decide+kernel),cV entry_list_iadd' ?_⟩));show wpAny _ _ (bF (.ref s.heap.objs.size) (.ref r) (.ref s.heap.objs.size)) _ _ {s with heap:=s.heap.push (aX "list" #[] 0)};have hD:(s.heap.push (aX "list" #[] 0)).get? s.heap.objs.size=some {cls:=.type "list",data:=.seq #[] 0}:=aB _ rfl;have old:∀b o,s.heap.get? b=some o→(s.heap.push (aX "list" #[] 0)).get? b=some o:=fun b o e=>af _ e;refine xfS (prog:=prog) (w:=w) (A:=A) (R:=fun r s'=>match r with| .ok (.ret v)=>wpAny (model prog w) A (match v with| .ref a=>do {let o ←load a;match o.data with| .seq xs _=>pure xs.toList|_=>unsupported "internal:collect"} |_=>unsupported "internal:collect") Q E s'| .ok _=>False| .error e=>E e s') (s:={s with heap:=s.heap.push (aX "list" #[] 0)}) hnd (old r _ hr) hk hle s.heap.objs.size (.ref s.heap.objs.size) 0 hD fun g tk xs m q1 q2 q3=>?_;show wpAny (model prog w) A (do
   let o ←load s.heap.objs.size
   match o.data with
   | .seq xs _=>pure xs.toList
   |_=>unsupported "internal:collect") Q E {s with heap:=g,toks:=tk}
 refine ae (wpAny_load q2 ?_);exact aA (hQ g tk xs m (fun b o e=>q1 b o (ar (aj e)) (old b o e)) (aj q2) q2 q3)
end
end PySem
namespace HT
open PySem PyProof.Rows
open PySem.SeqAt
open PySem.AutoSeq1 (wpAny_loadPart')
open PySem.MeetsSeq PySem.MeetsSeq2 PySem.MeetsSeq3
theorem xkX{vs:List Value}{ns:List Int}(h:cL vs ns){i:Nat}(hi:i<ns.length):∃t,vs[i]? =some (.int ns[i] t):=by
 have hx:(ns.map L2.V.int)[i]? =some (.int ns[i]):=by rw[ak,ag hi];rfl
 obtain⟨u,h1,t,rfl⟩:=L2.Vals.get (L2.xdg h) hx;exact⟨t,h1⟩
theorem xpM(l b:Addr)(items items2:Array Value)(n n2:Nat)(dd dd2:Option Addr)(sl sl2:Array (Option Value))(ns ms:List Int)(hi:cL items.toList ns)(hj:cL items2.toList ms)(k:Nat):
  ∀i:Nat,ns.length - i=k→i≤ns.length→i≤ms.length→Meets (ff.«list.__eq__.loop» ⟨[.ref l,.ref b,cY i,cY 0],[]⟩)
   (fun A R s=>s.heap.get? l=some {cls:=.type "list",dict:=dd,data:=.seq items n,slots:=sl}∧s.heap.get? b=some {cls:=.type "list",dict:=dd2,data:=.seq items2 n2,slots:=sl2}∧
    R (.ok (.ret (.bool (lexLt (ns.drop i) (ms.drop i))))) s):=by
 have z1:items.size=ns.length:=by rw[←hi.length];simp
 have z2:items2.size=ms.length:=by rw[←hj.length];simp
 induction k with
 |zero=>
  intro i hk h1 h2 prog w A R s h;obtain⟨hp,g,d,tk,os⟩:=s;obtain⟨hl,hb,h⟩:=h
  wp_walk using bJ hl,bJ hb
  have hi1:items[((i:Nat):Int).toNat]? =none:=by simp;lia
  rw[hi1]
  wp_walk using bJ hl,bJ hb
  show R (.ok (.ret (.bool (decide (items.size<items2.size))))) _;rw[cP (by lia)]at h;cases e:ms.drop i with
  |nil=>
   rw[e]at h;have:ms.length≤i:=List.drop_eq_nil_iff.mp e;rw[decide_eq_false (by lia)];exact h
  |cons y r=>
   rw[e]at h;have:¬ms.length≤i:=fun z=>by rw[cP z]at e;cases e
   rw[decide_eq_true (by lia)];exact h
 |succ k ih=>
  intro i hk h1 h2 prog w A R s h;obtain⟨hp,g,d,tk,os⟩:=s;obtain⟨hl,hb,h⟩:=h;have hlt:i<ns.length:=by lia
  obtain⟨t,ht⟩:=xkX hi hlt;have hi1:items[((i:Nat):Int).toNat]? =some (.int ns[i] t):=by simpa using ht
  wp_walk using bJ hl,bJ hb
  by_cases hlt2:i<ms.length
  ·obtain⟨u,hu⟩:=xkX hj hlt2;have hi2:items2[((i:Nat):Int).toNat]? =some (.int ms[i] u):=by simpa using hu
   rw[hi1,hi2];have e1:ns.drop i=ns[i]::ns.drop (i+1):=bU hlt;have e2:ms.drop i=ms[i]::ms.drop (i+1):=bU hlt2;rw[e1,e2,zr]at h;have hc:((i:Int)+1)=((i+1:Nat):Int):=by push_cast;rfl
   obtain⟨e,he,hiff⟩:=xiF A.in1 ⟨hp,g,d,tk,os⟩ ns[i] t ms[i] u;refine ae (he prog w _ _ ?_);cases e with
   |true=>
    rw[if_pos (hiff.mp rfl)]at h
    wp_walk
    rw[hc];exact⟨cf plain_eq_loop _,cV entry_eq_loop (by
     rw[c7 plain_eq_loop _];exact ih (i+1) (by lia) (by lia) (by lia) prog w A R _ ⟨hl,hb,h⟩)⟩
   |false=>
    rw[if_neg (fun q=>absurd (hiff.mpr q) aH)]at h
    wp_walk using bJ hl,bJ hb
    rw[hi1,hi2];have hri:=xiG A.in1 ⟨hp,g,d,tk,os⟩ ns[i] t ms[i] u prog w
    wp_walk using hri
    simpa using h
  ·have hi2:items2[((i:Nat):Int).toNat]? =none:=by simp;lia
   rw[hi1,hi2]
   wp_walk using bJ hl,bJ hb
   show R (.ok (.ret (.bool (decide (items.size<items2.size))))) _;rw[decide_eq_false (by lia)];have e1:ns.drop i=ns[i]::ns.drop (i+1):=bU hlt;have e2:ms.drop i=[]:=cP (by lia);rw[e1,e2]at h;exact h
theorem xdo(l b:Addr)(items items2:Array Value)(n n2:Nat)(dd dd2:Option Addr)(sl sl2:Array (Option Value))(ns ms:List Int)(hi:cL items.toList ns)(hj:cL items2.toList ms):
  Meets (ff.«list.__lt__» ⟨[.ref l,.ref b],[]⟩)
   (fun _ R s=>s.heap.get? l=some {cls:=.type "list",dict:=dd,data:=.seq items n,slots:=sl}∧s.heap.get? b=some {cls:=.type "list",dict:=dd2,data:=.seq items2 n2,slots:=sl2}∧
    R (.ok (.ret (.bool (lexLt ns ms)))) s):=by
 intro prog w A R s h;obtain⟨hp,g,d,tk,os⟩:=s;obtain⟨hl,hb,h⟩:=h;have f3:=AutoSeq1.sub_list_list
 wp_walk using bJ hl,bJ hb
 exact⟨cf plain_eq_loop _,cV entry_eq_loop (by
  rw[c7 plain_eq_loop _];exact xpM l b items items2 n n2 dd dd2 sl sl2 ns ms hi hj _ 0 rfl (aJ _) (aJ _) prog w A R _ ⟨hl,hb,by simpa using h⟩)⟩
end HT
namespace HT
open PySem PyProof.Rows
section
variable {prog:aI} {w:World} {A:aU} {E:Value→ab→Prop} {s:ab}
theorem xkb{l b:Addr}{items items2:Array Value}{ns ms:List Int}{Q:Value→ab→Prop}(hl:s.heap.IsList l items)(hb:s.heap.IsList b items2)(hi:cL items.toList ns)(hj:cL items2.toList ms)
  (hu:A.units<cLine) (h:Q (.bool (lexLt ns ms)) s):wpAny (model prog w) A (bE .Lt (.ref l) (.ref b)) Q E s:=by
 obtain⟨⟨cls,dd,data,sl⟩,ho,hc,n,hd⟩:=id hl;obtain⟨⟨cls2,dd2,data2,sl2⟩,ho2,hc2,n2,hd2⟩:=id hb;simp only at hc hd hc2 hd2;subst hc hd hc2 hd2;exact richCompare_meets_room (op:=.Lt) ⟨_,ho,rfl⟩ ⟨_,ho2,rfl⟩ PySem.F.slot_list_lt PySem.F.entry_list_lt (PySem.F.args_list_lt_2 _ _) (xdo l b items items2 n n2 dd dd2 sl sl2 ns ms hi hj)
  ⟨ho,ho2,show dF (lexLt ns ms)≠ki∧Q (.bool (lexLt ns ms)) s from⟨(fun x=>nomatch x),h⟩⟩ hu
end
end HT
namespace L2
open PySem PySem.Spec PyProof.Rows
section
variable {X:Cx}
def xsH(K:ah):R2:=fun x y H Q=>∃a b ns ms,x= .ref a∧y= .ref b∧SqL K H a (ns.map V.int)∧SqL K H b (ms.map V.int)∧Q (.bl (HT.lexLt ns ms)) H
theorem xrf(hu:X.A.units<cLine):OpR X (bE .Lt) (xsH X.K):=by
 intro pins s σ H x y v u Q I rx ry h;obtain⟨a,b,ns,ms,rfl,rfl,ha,hb,q⟩:=h;cases rx;cases ry;obtain⟨its,r1,p1,_⟩:=I.list ha;obtain⟨its2,r2,p2,_⟩:=I.list hb;have i1:cL its.toArray.toList ns:=intsAre_of r1;have i2:cL its2.toArray.toList ms:=intsAre_of r2;exact HT.xkb p1.isList p2.isList i1 i2 hu ⟨.bl (HT.lexLt ns ms),H,I,rfl,q⟩
end
end L2
namespace HT
open PySem PyProof.Rows
section
variable {prog:aI} {w:World} {A:aU} {E:Value→ab→Prop} {s:ab}
theorem xgV{l b:Addr}{items items2:Array Value}{ns ms:List Int}{Q:Bool→ab→Prop}(hl:s.heap.IsList l items)(hb:s.heap.IsList b items2)(hi:cL items.toList ns)(hj:cL items2.toList ms)
  (hu:A.units<cLine) (h:Q (lexLt ns ms) s):wpAny (model prog w) A (oneLt' true (.ref l) (.ref b)) Q E s:=by
 obtain⟨⟨cls,dd,data,sl⟩,ho,hc,n,hd⟩:=id hl;obtain⟨⟨cls2,dd2,data2,sl2⟩,ho2,hc2,n2,hd2⟩:=id hb;simp only at hc hd hc2 hd2;subst hc hd hc2 hd2;rw[oneLt'_eq];simp only[if_true];refine ae (wpAny_cRoomFor hu ?_);refine ae (wpAny_callSpecialIfBound?_slot (T:="list") ⟨_,ho,rfl⟩ PySem.F.slot_list_lt (fW PySem.F.slot_list_lt ⟨_,ho,rfl⟩ PySem.F.entry_list_lt (PySem.F.args_list_lt_2 _ _) (xdo l b items items2 n n2 dd dd2 sl sl2 ns ms hi hj) ⟨ho,ho2,?_⟩));exact cq h
end
end HT
namespace L2
open PySem PySem.Spec PyProof.Rows
section
variable {X:Cx}
theorem xat{st:Stmt}:PS X st (fun _ _ _=>False):=fun _ _ _ _ _ _ q=>q.elim
theorem xcu:∀{bs:List Bool} {us:List Value},Vals (bs.map V.bl) us→us=bs.map dF
 |[],[],_=>rfl
 |[],_::_,h=>by cases h
 |_::_,[],h=>by cases h
 |b::bs,u::us,h=>by
  cases h with
  |cons h1 h2=>
   rw[xcu h2];cases h1;rfl
theorem range_all(bs:List Bool)(d:Bool):(a9 bs.length).all (fun i=>bs.getD i d)=bs.all id:=by
 rw[dm,cg,cg];constructor
 ·intro h x hx;obtain⟨i,hi,rfl⟩:=cy.mp hx;have:=h i (by simpa using hi);simpa [hi]using this
 ·intro h i hi;have hi':i<bs.length:=by simpa using hi
  have:=h bs[i] (cM hi');simpa [hi']using this
theorem range_any(bs:List Bool)(d:Bool):(a9 bs.length).any (fun i=>bs.getD i d)=bs.any id:=by
 rw[dm,eJ,eJ];constructor
 ·rintro⟨i,hi,h⟩;have hi':i<bs.length:=by simpa using hi
  exact⟨bs[i],cM hi',by simpa [hi']using h⟩
 ·rintro⟨x,hx,h⟩;obtain⟨i,hi,rfl⟩:=cy.mp hx;exact⟨i,by simpa using hi,by simpa [hi]using h⟩
def xpi(K:ah)(f:List Bool→Bool):List V→Hp→VK→Prop:=fun xs H Q=>∃p bs,xs=[.ref p]∧SqL K H p (bs.map V.bl)∧Q (.bl (f bs)) H
theorem xeD{prog:aI}{w:World}{A:aU}(bs:List Bool):TruthOf prog w A (fun i v=>(bs.map dF).toArray[i]? =some v) (fun i=>bs.getD i true):=by
 intro i v s Q E hP hQ;have e:v= .bool (bs.getD i true):=by
  simp only[List.getElem?_toArray,ak]at hP;cases q:bs[i]? with
  |none=>rw[q]at hP;cases hP
  |some b=>rw[q]at hP;simp at hP;rw[←hP];simp[bf,q]
 rw[e];exact cq hQ
theorem xm5(hc:X.calm=true):yw X (.builtin "all") (xpi X.K fun bs=>bs.all id):=by
 intro pins s σ H xs us Q I r h;obtain⟨p,bs,rfl,hq,q⟩:=h;obtain⟨u,rfl,rx⟩:=vals1 r;cases rx;obtain⟨its,r',pl,hz⟩:=I.list hq;have e:=xcu r';subst e;have hL:=pl.isList;have hlt:p<s.heap.objs.size:=by obtain⟨_,e,_⟩:=hL;exact aj e
 refine call_all_walk (dy hL ⟨_,_,_,_,_,_,fun i=>bs.getD i true,rfl,iq (A:=X.A.in1) (I.ok.hd hc) _ p (ar hlt) (bs.map dF).toArray,⟨⟨_,aB _ rfl,rfl,rfl⟩,hL.push _⟩,xeD bs,fun h' tk hk=>?_⟩);refine⟨.bl (bs.all id),H,I.kept (t':=tk) (fun b o e=>hk b o (fun hb=>?_) (af _ e)),?_,q⟩
 ·exact absurd (aj e) (by rw[ax.mp hb];exact bQ _)
 ·have e:=range_all bs true;simp only[aE,aa];rw[e];rfl
theorem xm6(hc:X.calm=true):yw X (.builtin "any") (xpi X.K fun bs=>bs.any id):=by
 intro pins s σ H xs us Q I r h;obtain⟨p,bs,rfl,hq,q⟩:=h;obtain⟨u,rfl,rx⟩:=vals1 r;cases rx;obtain⟨its,r',pl,hz⟩:=I.list hq;have e:=xcu r';subst e;have hL:=pl.isList;have hlt:p<s.heap.objs.size:=by obtain⟨_,e,_⟩:=hL;exact aj e
 refine call_any_walk (dy hL ⟨_,_,_,_,_,_,fun i=>bs.getD i true,rfl,iq (A:=X.A.in1) (I.ok.hd hc) _ p (ar hlt) (bs.map dF).toArray,⟨⟨_,aB _ rfl,rfl,rfl⟩,hL.push _⟩,xeD bs,fun h' tk hk=>?_⟩);refine⟨.bl (bs.any id),H,I.kept (t':=tk) (fun b o e=>hk b o (fun hb=>?_) (af _ e)),?_,q⟩
 ·exact absurd (aj e) (by rw[ax.mp hb];exact bQ _)
 ·have e:=range_any bs true;simp only[aE,aa];rw[e];rfl
def xr3(K:ah):List V→Hp→VK→Prop:=fun xs H Q=>∃(p:Addr) (ns:List Int),xs=[.ref p]∧SqL K H p (ns.map V.int)∧Q (.int ns.sum) H
theorem xm7(hc:X.calm=true):yw X (.builtin "sum") (xr3 X.K):=by
 intro pins s σ H xs us Q I r h;obtain⟨p,ns,rfl,hq,q⟩:=h;obtain⟨u,rfl,rx⟩:=vals1 r;cases rx;obtain⟨its,r',pl,hz⟩:=I.list hq;have hi:=intsAre_of r';have hL:=pl.isList;have hn:=hi.numsOf;obtain⟨ys,e⟩:=hi.allInts.items;rw[e]at hL;have e2:numsOf its=numsOf (gO ys).toList:=by rw[←e]
 rw[e2,kH]at hn;refine sum_intListG (I.ok.hd hc) hL fun h' tk t' hk=>⟨.int ns.sum,H,I.kept (t':=tk) hk,⟨t',?_⟩,q⟩;rw[preSum_eq,aZ (by simp),hn]
end
end L2
namespace L2
open PySem PySem.Spec PyProof.Rows
section
variable {X:Cx} {pins:List (Addr×Obj)} {σ:St} {H:Hp} {s:ab} {h':Heap}
theorem Inv.turnLaid{t':Nat}{ch:List Addr}{a:Addr}{o:HO}(I:Inv X pins σ H s)(k:∀b u,b∉ch→s.heap.get? b=some u→h'.get? b=some u)(hp:s.heap.objs.size≤a)(new:xH X.prog X.w (upd H a o) h' a o)
  (hn:∀b∈ch,H b=none) (hl:∀b∈ch,b<s.heap.objs.size) (hch:∀b∈ch,(b∈X.ex∨X.s₀.heap.objs.size≤b)∧b≠X.env.locals∧(∀x c,X.env.cells.lookup x=some c→c≠b)∧∀p∈X.pn++pins,p.1≠b):
  Inv X pins σ (upd H a o) {s with heap:=h',toks:=t'}:=by
 have nit:∀b u,H b=some u→b∉ch:=fun b u e z=>by rw[hn b z]at e;cases e
 have fr:=I.hok.fresh hp;refine I.call' (s':={s with heap:=h',toks:=t'}) (ch:=ch) rfl ⟨fun b o q _ _ hx=>k b o hx q,fun b o q _ _ hx=>⟨o.slots,k b o hx q⟩,fun b o q n _=>?_,fun b o q hx=>⟨o,k b o hx q⟩,fun b u q _=>?_⟩ (fun b u e=>?_) I.bare hch
 ·rw[xl (ar (aw (aj q) hp))];exact n
 ·rw[xl (xA q fr)];exact q
 ·by_cases hb:b=a
  ·subst hb;rw[xk]at e;cases e;exact new
  ·rw[xl hb]at e;refine(I.hok b u e).stay (fun c v hc q=>k c v ?_ q) (fun c q=>by rw[xl (xA q fr)];exact q) fun c xs q _=>by rw[xl (xA q fr)];exact q
   rcases hc with z|z
   ·rw[z];exact nit b u e
   ·exact nit c _ z
end
def Ite(K:ah)(a:Addr):It:=
 ⟨fun i H=>∃xs x,SqL K H a xs∧xs[i]? =some x,fun i H v H'=>∃T x,v= .ref T∧H T=none∧H'=upd H T (.tup [.int i,x])∧∀xs,SqL K H a xs→xs[i]? =some x,fun i H=>∃xs,SqL K H a xs∧xs.length≤i⟩
theorem xm8{P:aI}{w:World}{K:ah}{es:List Expr}{k:Nat}{pos:Pos}(a e it:Addr)(hne:e≠it):Turn P w K (.Tuple es k pos) (Ite K a) [e,it] e (fun i h=>(∃old,iH h e it (i:Nat) old)∧h.IsListIter it a i) where
 mem:=by simp
 obj:=fun i h st b hb=>by
  obtain⟨⟨old,he⟩,⟨o,e1,c,d⟩⟩:=st;rcases ao.mp hb with z|z
  ·subst z;exact⟨_,he,fun v z=>by cases z⟩
  ·rw[ax.mp z];exact⟨o,e1,fun v z=>by rw[d]at z;cases z⟩
 keep:=fun i h h' st kk=>by
  obtain⟨⟨old,he⟩,hit⟩:=st;exact⟨⟨old,kk e (by simp) _ he⟩,hit.at fun o x=>kk it (by simp) o x⟩
 item:=by
  intro X hP hw hK hc i pins s σ H E I hf st hg;subst hP hw hK;obtain⟨xs,x,hq,hx⟩:=hg;obtain⟨its,rv,p,hz⟩:=I.list hq;obtain⟨u,hu,ru⟩:=rv.get hx;obtain⟨⟨old,he⟩,hit⟩:=st;have he':=aj he;have hi':it<s.heap.objs.size:=by obtain⟨o,q,_⟩:=hit;exact aj q
  refine wpAny_pyNext_enum_item he hit p.isList (x:=u) (by simpa using hu) hne fun h' heo hit' hT hsz hk=>?_;refine⟨_,rfl,fq (s:={s with heap:=h',toks:=s.toks+1}) heo fun h2 he2 hs2=>?_⟩;have hT2:h2.get? s.heap.objs.size=some {cls:=.type "tuple",data:=.seq #[.int i s.toks,u]}:=(hs2.2 _ (dG he')).trans hT;have I2:Inv X pins σ (upd H s.heap.objs.size (.tup [.int i,x])) {s with heap:=h2,toks:=s.toks+1}:=by
   refine I.turnLaid (ch:=[e,it]) (fun b o hb q=>?_) (ai _) ⟨by simp[av],[.int i s.toks,u],.cons ⟨_,rfl⟩ (.cons ru .nil),⟨_,hT2,rfl,_,rfl⟩⟩ (fun b hb=>(hf b hb).1) (fun b hb=>?_) fun b hb=>?_
   ·have b1:b≠e:=fun z=>hb (by simp[z]);have b2:b≠it:=fun z=>hb (by simp[z]);exact(hs2.2 b b1).trans (hk b o b1 b2 q)
   ·rcases ao.mp hb with z|z
    ·rw[z];exact he'
    ·rw[ax.mp z];exact hi'
   ·obtain⟨f0,f1,f2,f3,f4,f5⟩:=hf b hb;exact⟨f3,f1,f4,f5⟩
  refine⟨.ref s.heap.objs.size,_,I2,rfl,⟨_,x,rfl,I.hok.fresh (ai _),rfl,fun ys hy=>by rw[I.list_inj hy hq];exact hx⟩,⟨⟨u,by simpa using he2⟩,hit'.extBut hs2.extBut (a8 hne)⟩,fun b hb=>?_⟩;have hb':b≠s.heap.objs.size:=by
   rcases ao.mp hb with z|z
   ·rw[z];exact ar he'
   ·rw[ax.mp z];exact ar hi'
  rw[xl hb'];exact(hf b hb).1
 done:=by
  intro X hP hw hK hc i pins s σ H E I hf st hg;subst hP hw hK;obtain⟨xs,hq,hx⟩:=hg;obtain⟨its,rv,p,hz⟩:=I.list hq;obtain⟨⟨old,he⟩,hit⟩:=st;obtain⟨f0,f1,f2,f3,f4,f5⟩:=hf it (by simp);have hl:=rv.length;exact wpAny_pyNext_enum_end (I.ok.hd hc) he hit p.isList (by simp;lia) fun h' eb=>⟨rfl,I.turned (t':=s.toks) (fun b o hb e=>eb b o hb e) f0 f1 f3 f4 f5⟩
 self:=fun _ _ _ _ _ st h=>by
  obtain⟨⟨old,he⟩,_⟩:=st;exact dX he h
section
variable {X:Cx} {es:List Expr} {k:Nat} {tp:Pos}
def xr4(K:ah)(ta:TA):TI:=fun σ H R=>ta σ H fun vs H1=>∃a,vs=[.ref a]∧(∃xs,SqL K H1 a xs)∧R (Ite K a) H1
theorem xgW{l:Expr}{ta:TA}{p pos:Pos}(hg:Gl X "enumerate")(hm:X.mg "enumerate"=none)(ha:PA X [l] ta)(hs:aR [l] X.env=[(false,eval l X.env)]:=by rfl):PI X (.Tuple es k tp) (.Call (.Name "enumerate" p) [l] [] pos) (xr4 X.K ta):=by
 intro pins s σ H R I h;refine Call_ (yW I hg hm xaD (bM (thn (ha pos pins s σ H _ I h) fun us s1 hh74=>?_) hs rfl));obtain⟨vs,H1,I1,r1,q1⟩:=hh74;obtain⟨a,e,⟨xs,hq⟩,q⟩:=q1;subst e;obtain⟨u,rfl,ru⟩:=Vals.one r1;cases ru;obtain⟨its,rv,pl,hz⟩:=I1.list hq;refine call_enumerate_list pl.isList fun h' he hi hsz hk=>dX (s:={s1 with heap:=h'}) he ?_;refine⟨s1.heap.objs.size+1,[s1.heap.objs.size+1,s1.heap.objs.size],_,_,H1,rfl,I1.kept (t':=s1.toks) hk,xm8 a _ _ (iI _),⟨⟨.none,by simpa using he⟩,hi⟩,fun b hb=>?_,q⟩;rcases ao.mp hb with z|z
 ·rw[z];exact I1.fpOk (c6 _) (I1.hok.fresh (c6 _))
 ·rw[ax.mp z];exact I1.fpOk (ai _) (I1.hok.fresh (ai _))
end
structure zP(X:Cx)(scope:Scope)(x1 x2:Str)(cap:List Nat)(ys:List Str):Prop where
 kind:scope.kind= .function
 nocell:∀y∈scope.names,y.2≠.cell
 locs:∀y∈scope.names,y.2= .local→scope.names.lookup y.1=some .local
 lx1:scope.names.lookup x1=some .local
 lx2:scope.names.lookup x2=some .local
 fr:∀y∈scope.names,y.2= .free→X.env.kindOf y.1=some .cell∨X.env.kindOf y.1=some .free
 cap:xcs X scope cap ys
 nd:(x1::x2::ys).Nodup
theorem xgX{X:Cx}{scope:Scope}{x1 x2:Str}{cap:List Nat}{ys:List Str}(kind:scope.kind= .function)(h1:(scope.names.all fun y=> !(y.2== .cell))=true)(h2:(scope.names.all fun y=> !(y.2== .local)||scope.names.lookup y.1==some .local)=true)
  (hx1:scope.names.lookup x1=some .local) (hx2:scope.names.lookup x2=some .local) (h3:(scope.names.all fun y=> !(y.2== .free)||(X.env.kindOf y.1==some .cell||X.env.kindOf y.1==some .free))=true) (hcap:xcs X scope cap ys) (hnd:(x1::x2::ys).Nodup):zP X scope x1 x2 cap ys:=by
 refine⟨kind,fun y hy e=>?_,fun y hy e=>?_,hx1,hx2,fun y hy e=>?_,hcap,hnd⟩
 ·have:=cg.mp h1 y hy;rw[e]at this;exact absurd this (by decide)
 ·have:=cg.mp h2 y hy;rw[e]at this;simpa using this
 ·have:=cg.mp h3 y hy;rw[e]at this;simpa using this
section
variable {X:Cx} {scope:Scope} {x1 x2:Str} {cap:List Nat} {ys:List Str}
theorem zP.clos(B:zP X scope x1 x2 cap ys)(ok:X.Ok):∀y∈scope.names,y.2= .free→∃c,X.env.cells.lookup y.1=some c:=fun y hy e=>ok.has y.1 (B.fr y hy e)
theorem zP.sub(B:zP X scope x1 x2 cap ys)(ok:X.Ok){z:Str}{c:Addr}(h:(yO X.env.cells scope.names []).lookup z=some c):X.env.cells.lookup z=some c:=by
 rcases xcr (B.clos ok) h with q|q
 ·simp at q
 ·exact q
theorem zP.start{pins:List (Addr×Obj)}{σ:St}{H₂:Hp}{s₂:ab}{fp:List Addr}{h₁:Heap}{tk:Nat}{C D:Addr}(B:zP X scope x1 x2 cap ys)(I:Inv X pins σ H₂ s₂)
  (hf:∀b∈fp,ji X pins H₂ b) (hD:s₂.heap.objs.size≤D) (hC:s₂.heap.objs.size≤C) (hDC:D≠C) (hk:∀b o,s₂.heap.get? b=some o→h₁.get? b=some o)
  (hns:∃m,h₁.Ns C m) (hl:h₁.get? D=some {cls:=.type "list",data:=.seq ([]:List Value).toArray}) (hfp:∀b∈fp,b<s₂.heap.objs.size):
  Inv (X.blk scope C (x1::x2::ys) s₂ H₂ fp) [] (none::none::zO σ cap) (upd H₂ D (.lst [])) {s₂ with heap:=h₁,toks:=tk}:=by
 have ok:=I.ok;have freshC:H₂ C=none:=I.hok.fresh hC;have freshD:H₂ D=none:=I.hok.fresh hD;have lt:∀b o,s₂.heap.get? b=some o→b<s₂.heap.objs.size:=fun b o e=>aj e;refine⟨⟨ok.mod,B.kind,ok.glob,ok.blt,hC,fun y z c h1 h2=>ok.inj y z c (B.sub ok h1) (B.sub ok h2),fun y hy=>?_,fun y c h=>(aH h).elim,ok.hd,ok.frames,.inl rfl,fun b hb=>⟨?_,fun y c h e=>?_⟩,I.bs,a7 ok.bsz I.sz,fun b o e hb=>?_,fun b hb hs=>?_,I.stack,I.stkFree,fun y c h=>(aH h).elim,fun b hb=>I.hok.fresh hb⟩,
  rfl,I.bare,Un.laid hk hD freshD,?_,fun y c h=>?_,?_,fun y c h=>?_,fun p hp=>?_,?_,?_⟩
 ·have hy':(j3 scope X.env).names.lookup y=some .cell∨(j3 scope X.env).names.lookup y=some .free:=hy;have m:(y,bZ)∈scope.names:=by
   rcases hy' with q|q
   ·exact uH q (.inl rfl) B.nocell
   ·exact uH q (.inr rfl) B.nocell
  exact jl (.inl m)
 ·exact ar (aw (hfp b hb) hC)
 ·exact(hf b hb).2.2.2.2.1 y c (B.sub ok h) e
 ·rcases(hf b hb).2.2.2.1 with q|q
  ·exact ok.noex b o e q
  ·exact absurd (aw (aj (ok.bs b o e).1) q) (bQ _)
 ·rcases ao.mp (I.stkSub b hs)with q|q
  ·exact(hf b hb).2.1 q
  ·exact(hf b hb).2.2.1 q
 ·obtain⟨m,hm⟩:=hns;refine⟨m,hm,fun i y v e1 e2 e3=>?_⟩;cases i with
  |zero=>simp at e2
  |succ i=>
   cases i with
   |zero=>simp at e2
   |succ i=>
    obtain⟨j,n1,n2,n3,n4⟩:=jG (i:=i) B.cap (by simpa [Cx.blk]using e1) (by simpa using e2);obtain⟨m0,hn0,hl0⟩:=I.loc;have vis:Vis X.env.scope y:=by
     rcases n4 with q|q
     ·exact .inr (.inl q)
     ·exact .inr (.inr q)
    obtain⟨u,ru,l⟩:=hl0 j y v n1 n2 vis;refine⟨u,ru,.inr ⟨xaC n3,?_⟩⟩;rcases l with⟨k,_⟩|⟨_,c,ec,z⟩
    ·rw[k]at n4;rcases n4 with q|q<;> cases q
    ·obtain⟨c',ec'⟩:=jl (cells:=X.env.cells) (cs:=[]) (.inl (xaB n3));have:=B.sub ok ec';rw[ec]at this;cases this;obtain⟨o,ho,hd⟩:=z;exact⟨c,ec',o,hk c o ho,hd⟩
 ·obtain⟨v,o,ho,hd⟩:=I.cell y c (B.sub ok h);exact⟨v,o,hk c o ho,hd⟩
 ·show upd H₂ D _ C=none;rw[xl (a8 hDC)];exact freshC
 ·obtain⟨v,o,ho,hd⟩:=I.cell y c (B.sub ok h);rw[xl (ar (aw (lt c o ho) hD))];refine(I.freeC y c (B.sub ok h)).imp id fun hh75=>?_;obtain⟨_,o',ho',hno⟩:=hh75;refine⟨rfl,o',ho',fun z i v e1 k e2=>?_⟩;cases i with
  |zero=>simp at e2
  |succ i=>
   cases i with
   |zero=>simp at e2
   |succ i=>
    obtain⟨j,n1,n2,n3,n4⟩:=jG (i:=i) B.cap (by simpa [Cx.blk]using e1) (by simpa using e2);exact hno z j v n1 n4 n2
 ·exact absurd (show p∈([]:List (Addr×Obj))from hp) (by simp)
 ·exact I.hok.laid hk hD ⟨aJ _,[],0,.nil,hl⟩
 ·simp[Cx.blk,zO,xdh B.cap]
theorem zP.back{pins:List (Addr×Obj)}{σ:St}{H₂ H':Hp}{s₂ s':ab}{fp:List Addr}{C:Addr}{pl:List (Addr×Obj)}{σ':St}(B:zP X scope x1 x2 cap ys)(I:Inv X pins σ H₂ s₂)
  (hf:∀b∈fp,ji X pins H₂ b) (J:Inv (X.blk scope C (x1::x2::ys) s₂ H₂ fp) pl σ' H' s'):Inv X pins σ H' s':=
 I.call' (ch:=fp) J.os J.base J.hok J.bare fun b hb=>by
  obtain⟨f0,f1,f2,f3,f4,f5⟩:=hf b hb;refine⟨?_,f1,f4,f5⟩;rcases f3 with q|q
  ·exact .inl q
  ·exact .inr q
theorem zP.far{pins:List (Addr×Obj)}{σ:St}{H₂ H':Hp}{s₂ s':ab}{fp:List Addr}{C:Addr}{pl:List (Addr×Obj)}{σ':St}(I:Inv X pins σ H₂ s₂)
  (hC:s₂.heap.objs.size≤C) (J:Inv (X.blk scope C (x1::x2::ys) s₂ H₂ fp) pl σ' H' s'):
  H' C=none∧C≠X.env.locals∧X.s₀.heap.objs.size≤C∧(∀z c,X.env.cells.lookup z=some c→c≠C)∧∀p∈X.pn++pins,p.1≠C:=by
 refine⟨J.free,dG (aw I.lt hC),a7 I.sz hC,fun z c e q=>?_,fun p hp q=>?_⟩
 ·obtain⟨v,w⟩:=I.cell z c e;exact absurd (aw w.lt (by rw[q];exact hC)) (bQ _)
 ·exact absurd (aw (aj (I.pin p hp).1) (by rw[q];exact hC)) (bQ _)
end
@[irreducible] def jn(K:ah)(J:It)(caps:St)(tt:TT)(te:TE)(Q:VK)(H2:Hp):Prop:=∀D,H2 D=none→∃W:CW,(∃m,W 0 m [] (upd H2 D (.lst [])))∧
 ∀i m acc H3,W i m acc H3→H3 D=some (.lst acc)∧((J.stop i H3∧Q (.ref D) H3)∨(J.go i H3∧acc.length<aL∧∀v H4,J.yld i H3 v H4→∃T v1 v2,v= .ref T∧SqT K H4 T [v1,v2]∧tt (some v1::some v2::caps) H4 fun b H5=>
  (b=true→te (some v1::some v2::caps) H5 fun u H6=>H6 D=some (.lst acc)∧∃m',m'<m∧W (i+1) m' (acc++[u]) (upd H6 D (.lst (acc++[u]))))∧(b=false→∃m',m'<m∧W (i+1) m' acc H5)))
def xrg(K:ah)(cap:List Nat)(wi:TI)(tt:TT)(te:TE):TE:=fun σ H Q=>wi σ H fun J H2=>jn K J (zO σ cap) tt te Q H2
section
variable {X:Cx} {scope:Scope} {x1 x2:Str} {cap:List Nat} {ys:List Str} {elt iter:Expr} {ifs:List Expr} {px1 px2 px pos:Pos} {kx:Nat} {wi:TI} {tt:TT} {te:TE}
theorem xkc(B:zP X scope x1 x2 cap ys)(hc:X.calm=true)(he:∀C s H fp,PE (X.blk scope C (x1::x2::ys) s H fp) elt te)(ht:∀C s H fp,CTs (X.blk scope C (x1::x2::ys) s H fp) ifs tt)
  {pins:List (Addr×Obj)} {σ:St} {s₂:ab} {Q:VK} {RR:Value→Addr→gc→ab→Prop} {itv:Value} {E:Value→ab→Prop}
  (hp:PIE X pins σ (.Tuple [.Name x1 px1,.Name x2 px2] kx px) (fun J H2=>jn X.K J (zO σ cap) tt te Q H2) itv s₂)
  (hR:∀(D C:Addr) (H':Hp) (s':ab),Inv X pins σ H' s'→(∃m,s'.heap.Ns C m)→H' C=none→C≠X.env.locals→X.s₀.heap.objs.size≤C→(∀z c,X.env.cells.lookup z=some c→c≠C)→(∀p∈X.pn++pins,p.1≠C)→Q (.ref D) H'→RR (.ref D) C (.ok .next) s'):
  wpAny (model X.prog X.w) X.A (newList []) (fun acc s₃=>wpAny (model X.prog X.w) X.A (j4 scope X.env.globals (yO X.env.cells scope.names []) [] X.env.qual none .none (some X.env)) (fun cenv s₄=>
   cW (model X.prog X.w) X.A (.compStart (.ListComp elt [⟨.Tuple [.Name x1 px1,.Name x2 px2] kx px,iter,ifs,0⟩] scope pos) 0 itv acc {cenv with scope:=j3 scope X.env}) (RR acc cenv.locals) s₄) E s₃) E s₂:=by
 obtain⟨it,fp,tn,J,H2,e,I2,T,st2,f2,hw⟩:=hp;subst e;unfold jn at hw;refine eZ (gD B.nocell (by intro y hy;simp at hy) (fun h₁ hns₁ hsb₁=>?_) B.kind);dsimp only at hns₁ hsb₁⊢;generalize hG:s₂.heap.push {cls:=.type "list",dict:=none,data:=.seq ([]:List Value).toArray}=G at hns₁ hsb₁⊢;have hsz:G.objs.size=s₂.heap.objs.size+1:=by rw[←hG,cI]
 have hCle:s₂.heap.objs.size≤G.objs.size:=by lia
 have hDC:s₂.heap.objs.size≠G.objs.size:=by lia
 have old:∀b o,s₂.heap.get? b=some o→h₁.get? b=some o:=fun b o q=>by
  have lt:=aj q;refine hsb₁.extBut b o (ar (aw lt hCle)) (af _ ?_);rw[←hG];exact af _ q
 have accAt:h₁.get? s₂.heap.objs.size=some {cls:=.type "list",data:=.seq ([]:List Value).toArray}:=by
  refine hsb₁.extBut _ _ hDC (af _ ?_);rw[←hG];exact aB _ rfl
 have hfp:∀b∈fp,b<s₂.heap.objs.size:=fun b hb=>by
  obtain⟨o,ho,_⟩:=T.obj _ _ st2 b hb;exact aj ho
 obtain⟨W,⟨m0,w0⟩,turn⟩:=hw s₂.heap.objs.size (I2.hok.fresh (ai _));generalize htk:s₂.toks+([]:List (Str×Value)).length=tk;have I0:=B.start (tk:=tk) (C:=G.objs.size) I2 f2 (ai _) hCle hDC old ⟨_,hns₁⟩ accAt hfp;have st0:tn 0 h₁:=T.keep _ _ _ st2 fun b hb o q=>old b o q
 -- what stays true of the iterator's objects
 have f3:∀{H':Hp},(∀b∈fp,H' b=none)→∀b∈fp,ji (X.blk scope G.objs.size (x1::x2::ys) s₂ H2 fp) [] H' b:=fun hn b hb=>by
  obtain⟨f0,f1,f2',f3',f4,f5⟩:=f2 b hb;refine⟨hn b hb,ar (aw (hfp b hb) hCle),fun hs=>?_,.inl hb,fun z c q=>f4 z c (B.sub I2.ok q),fun p hp=>absurd (show p∈([]:List (Addr×Obj))from hp) (by simp)⟩;rcases ao.mp (I2.stkSub b hs)with q|q
  ·exact f1 q
  ·exact f2' q
 have n0:∀b∈fp,upd H2 s₂.heap.objs.size (.lst []) b=none:=fun b hb=>by
  rw[xl (ar (hfp b hb))];exact(f2 b hb).1
 have loop:∀sx:ab,sx={s₂ with heap:=h₁,toks:=tk}→
   cW (model X.prog X.w) X.A (.compLoop (.ListComp elt [⟨.Tuple [.Name x1 px1,.Name x2 px2] kx px,iter,ifs,0⟩] scope pos) 0 (.ref it) (.ref s₂.heap.objs.size) (compEnvC scope (yO X.env.cells scope.names []) G.objs.size X.env)) (RR (.ref s₂.heap.objs.size) G.objs.size) sx:=by
  rintro sx rfl;refine xfO (fun n s'=>∃i acc H',Inv (X.blk scope G.objs.size (x1::x2::ys) s₂ H2 fp) [] (none::none::zO σ cap) H' s'∧tn i s'.heap∧(∀b∈fp,H' b=none)∧W i n acc H') ?_ m0 ⟨0,[],_,I0,st0,n0,w0⟩;rintro n s3 ⟨i,acc,H3,I3,st3,fr3,w3⟩;obtain⟨hD3,alt⟩:=turn i n acc H3 w3;rcases alt with⟨stop,q⟩|⟨go,hlen,step⟩
  ·refine aY (T.done (X.blk scope G.objs.size (x1::x2::ys) s₂ H2 fp) rfl rfl rfl hc i [] s3 _ H3 (fun _ _=>False) I3 (f3 fr3) st3 stop) (fun r s4 hh76=>?_) fun _ _ z=>z.elim;obtain⟨hr,I4⟩:=hh76;subst hr;obtain⟨g1,g2,g3,g4,g5⟩:=zP.far I2 hCle I4;obtain⟨m4,hm4,_⟩:=I4.loc;exact hR _ _ H3 s4 (B.back I2 f2 I4) ⟨m4,hm4⟩ g1 g2 g3 g4 g5 q
  ·refine aY (T.item (X.blk scope G.objs.size (x1::x2::ys) s₂ H2 fp) rfl rfl rfl hc i [] s3 _ H3 (fun _ _=>False) I3 (f3 fr3) st3 go) (fun r s4 hh77=>?_) fun _ _ z=>z.elim;obtain⟨u,hr,h4⟩:=hh77;subst hr;refine aY h4 (fun _ s4 hh78=>?_) fun _ _ z=>z.elim;obtain⟨v,H4,I4,rv,y4,st4,fr4⟩:=hh78;have I4':=I4.pinned (f3 fr4) (T.obj _ _ st4);obtain⟨Tt,v1,v2,ev,hT4,step⟩:=step v H4 y4;have G0:PG (X.blk scope G.objs.size (x1::x2::ys) s₂ H2 fp) (.Tuple [.Name x1 px1,.Name x2 px2] kx px) (xqJ X.K 2 (xlm (xcn 0) (xlm (xcn 1) xqI))):=
    vE hc (yd (xG (i:=0) B.nd rfl (.inl (dv B.lx1)) (.inr (dv B.lx1))) (yd (xG (i:=1) B.nd rfl (.inl (dv B.lx2)) (.inr (dv B.lx2))) uF))
   refine aY (G0 _ s4 _ H4 v u (fun σ5 H5=>σ5=some v1::some v2::zO σ cap∧H4=H5) I4' rv ⟨Tt,[v1,v2],ev,hT4,rfl,⟨v1,_,rfl,v2,_,rfl,⟨rfl,rfl,rfl⟩⟩⟩) (fun _ s5 z5=>?_) fun _ _ z=>z.elim;obtain⟨σ5,H5,I5,e5,e6⟩:=z5;subst e5 e6;have I5':Inv (X.blk scope G.objs.size (x1::x2::ys) s₂ H2 fp) ([]++uU fp s4.heap) (some v1::some v2::zO σ cap) H4 s5:=I5;refine aY (ht _ _ _ _ _ s5 _ H4 _ I5' step) (fun ok s6 hh79=>?_) fun _ _ z=>z.elim;obtain⟨H6,I6,q6⟩:=hh79;have pinned:∀{σ7:St} {H7:Hp} {s7:ab},Inv (X.blk scope G.objs.size (x1::x2::ys) s₂ H2 fp) ([]++uU fp s4.heap) σ7 H7 s7→tn (i+1) s7.heap∧∀b∈fp,H7 b=none:=fun{σ7 H7 s7} I7=>by
    refine⟨T.keep _ _ _ st4 fun b hb o e=>(I7.pin (b,o) (aN _ (aN _ (uG hb e)))).1,fun b hb=>?_⟩;obtain⟨o,e,d⟩:=T.obj _ _ st4 b hb;exact(I7.pin (b,o) (aN _ (aN _ (uG hb e)))).2.1
   have weak:∀{H7:Hp} {s7:ab},Inv (X.blk scope G.objs.size (x1::x2::ys) s₂ H2 fp) ([]++uU fp s4.heap) (some v1::some v2::zO σ cap) H7 s7→Inv (X.blk scope G.objs.size (x1::x2::ys) s₂ H2 fp) [] (none::none::zO σ cap) H7 s7:=fun I7=>
    (I7.unpinned (pins:=[])).weak rfl fun j z e=>by
     cases j with
     |zero=>simp at e
     |succ j=>
      cases j with
      |zero=>simp at e
      |succ j=>simpa using e
   cases ok with
   |false=>
    rw[if_neg aH];obtain⟨m',hm',w'⟩:=q6.2 rfl;exact⟨m',hm',i+1,acc,H6,weak I6,(pinned I6).1,(pinned I6).2,w'⟩
   |true=>
    rw[if_pos rfl];refine aY (he _ _ _ _ _ s6 _ H6 _ I6 (q6.1 rfl)) (fun y s7 hh80=>?_) fun _ _ z=>z.elim;obtain⟨z,H7,I7,rz,hD7,m',hm',w'⟩:=hh80;refine aY (yi (X:=X.blk scope G.objs.size (x1::x2::ys) s₂ H2 fp) _ s7 _ H7 (.ref s₂.heap.objs.size) [z] (.ref s₂.heap.objs.size) [y] (fun _ H8=>H8=upd H7 s₂.heap.objs.size (.lst (acc++[z]))) I7 rfl (.cons rz .nil) ⟨_,acc,z,rfl,rfl,hD7,hlen,rfl⟩) (fun _ s8 hh81=>?_) fun _ _ z=>z.elim;obtain⟨_,H8,I8,_,e8⟩:=hh81;subst e8;exact⟨m',hm',i+1,_,_,weak I8,(pinned I8).1,(pinned I8).2,w'⟩
 exact codeAny_compStart_list (loop _ rfl) (T.self _ 0 _ _ _ st0 (loop _ rfl))
theorem xfa(B:zP X scope x1 x2 cap ys)(hc:X.calm=true)(hi:PI X (.Tuple [.Name x1 px1,.Name x2 px2] kx px) iter wi)(he:∀C s H fp,PE (X.blk scope C (x1::x2::ys) s H fp) elt te)(ht:∀C s H fp,CTs (X.blk scope C (x1::x2::ys) s H fp) ifs tt)
  (hs:∀x,dU iter X.env x=pure x:=by intro _;rfl):PE X (.ListComp elt [⟨.Tuple [.Name x1 px1,.Name x2 px2] kx px,iter,ifs,0⟩] scope pos) (xrg X.K cap wi tt te):=by
 intro pins s σ H Q I h;rw[eval_ListComp];refine fO (use:=none) rfl hs (xak (B.clos I.ok)) B.kind B.locs ?_;refine thn (hi pins s σ H _ I h) fun v s1 h1=>thn h1 fun itv s2 h2=>?_;refine xkc (Q:=Q) (RR:=fun acc C=>compPost (model X.prog X.w) X.A X.xe none (EP X pins σ Q) acc C) B hc he ht h2 ?_;rintro D C H' s' J ⟨m,hm⟩ g1 g2 g3 g4 g5 q;exact⟨m,hm,fun h' sb=>⟨.ref D,H',J.turned (t':=s'.toks) (fun b o hb e=>(sb.2 b hb).trans e) g1 g2 (.inr g3) g4 g5,rfl,q⟩⟩
end
end L2
namespace L2
open PySem PySem.Spec PyProof.Rows
theorem xS{α β:Type}{F:α→β→Prop}:∀{as:List α} {bs:List β} {i:Nat} {a:α},Paired F as bs→as[i]? =some a→∃b,bs[i]? =some b∧F a b
 |_,_,i,b,.nil,h=>by simp at h
 |_,_,0,b,.cons x xs,h=>by simp at h;subst h;exact⟨_,rfl,x⟩
 |_,_,i+1,b,.cons x xs,h=>by obtain⟨a,h1,h2⟩:=xS (i:=i) xs (by simpa using h);exact⟨a,by simpa using h1,h2⟩
def del(H:Hp)(D:Addr):Hp:=fun b=>if b=D then none else H b
theorem zU{H:Hp}{D:Addr}:del H D D=none:=by unfold del;rw[if_pos rfl]
theorem vI{H:Hp}{D b:Addr}(h:b≠D):del H D b=H b:=by unfold del;rw[if_neg h]
theorem zi{H:Hp}{D:Addr}:xb (del H D) H:=fun b u e=>by
 by_cases h:b=D
 ·rw[h,zU]at e;cases e
 ·rw[vI h]at e;exact e
theorem yM{H:Hp}{D:Addr}{o:HO}:del (upd H D o) D=del H D:=by
 funext b
 by_cases h:b=D
 ·rw[h,zU,zU]
 ·rw[vI h,vI h,xl h]
theorem uv{H:Hp}{D:Addr}(h:H D=none):del H D=H:=by
 funext b
 by_cases e:b=D
 ·rw[e,zU,h]
 ·rw[vI e]
theorem uw{H H':Hp}{D:Addr}(s:xb H H'):xb (del H D) (del H' D):=fun b u e=>by
 by_cases h:b=D
 ·rw[h,zU]at e;cases e
 ·rw[vI h]at e⊢;exact s b u e
theorem xhI{lo st:Int}{n:Nat}{te:TE}{caps:L2.St}{Q:VK}{H2:Hp}(Pv:Nat→List V→Hp→Prop)(hn:n≤aL)(h0:Pv 0 [] H2)
  (hs:∀(i:Nat) acc H3 H3',i<n→xb H2 H3→xb H3 H3'→Pv i acc H3→∀R:VK,(∀u H6',xb H3' H6'→(∀H6,xb H3 H6→(∀p o,(H3' p=none∨∀ys,o≠HO.lst ys)→H6' p=some o→H6 p=some o)→Pv (i+1) (acc++[u]) H6)→R u H6')→te (some (.int (lo+i*st))::caps) H3' R)
  (hd:∀D acc H H',H2 D=none→H D=none→xb H2 H→xb H H'→Pv n acc H→acc.length=n→H' D=some (.lst acc)→Q (.ref D) H'):zg (Its lo st n) caps xe7 te Q H2:=by
 unfold zg;intro D hD;refine⟨fun i m acc H3=>m=n - i∧i≤n∧acc.length=i∧H3 D=some (.lst acc)∧xb H2 (del H3 D)∧Pv i acc (del H3 D),⟨n,by simp,aJ _,rfl,xk,?_,?_⟩,?_⟩
 ·rw[yM,uv hD];exact xb.refl _
 ·rw[yM,uv hD];exact h0
 rintro i m acc H3 ⟨rfl,hi,hacc,hD3,s3,p3⟩;refine⟨hD3,?_⟩
 by_cases hlt:i<n
 ·refine .inr ⟨hlt,by lia,fun v H4 y=>?_⟩;obtain⟨e,y⟩:=y;subst e y;refine⟨fun _=>?_,fun z=>by cases z⟩;refine hs i acc _ _ hlt s3 zi p3 _ fun u H6' s6 k=>⟨s6.at hD3,n - (i+1),by lia,rfl,hlt,by simp[hacc],xk,?_,?_⟩
  ·rw[yM];exact s3.trans (uw s6)
  ·rw[yM];refine k _ (uw s6) fun p o q1 q2=>?_;rw[vI (fun z=>by
    rcases q1 with q1|q1
    ·rw[z,hD3]at q1;cases q1
    ·rw[z,s6.at hD3]at q2;cases q2;exact q1 _ rfl)]
   exact q2
 ·have e:i=n:=by lia
  subst e;exact .inl ⟨ai _,hd D acc _ H3 hD zU s3 zi p3 hacc hD3⟩
theorem vJ{K:ah}{l:Addr}{xs:List V}{te:TE}{caps:L2.St}{Q:VK}{H2:Hp}(Pv:Nat→List V→Hp→Prop)(hl:SqL K H2 l xs)(hn:xs.length≤aL)(h0:Pv 0 [] H2)
  (hs:∀(i:Nat) x acc H3 H3',xs[i]? =some x→xb H2 H3→xb H3 H3'→Pv i acc H3→∀R:VK,(∀u H6',xb H3' H6'→(∀H6,xb H3 H6→(∀p o,(H3' p=none∨∀ys,o≠HO.lst ys)→H6' p=some o→H6 p=some o)→Pv (i+1) (acc++[u]) H6)→R u H6')→te (some x::caps) H3' R)
  (hd:∀D acc H H',H2 D=none→H D=none→xb H2 H→xb H H'→Pv xs.length acc H→acc.length=xs.length→H' D=some (.lst acc)→Q (.ref D) H'):zg (Itl K l) caps xe7 te Q H2:=by
 unfold zg;intro D hD;refine⟨fun i m acc H3=>m=xs.length - i∧i≤xs.length∧acc.length=i∧H3 D=some (.lst acc)∧xb H2 (del H3 D)∧Pv i acc (del H3 D),⟨xs.length,by simp,aJ _,rfl,xk,?_,?_⟩,?_⟩
 ·rw[yM,uv hD];exact xb.refl _
 ·rw[yM,uv hD];exact h0
 rintro i m acc H3 ⟨rfl,hi,hacc,hD3,s3,p3⟩;refine⟨hD3,?_⟩;have q:=(s3.trans zi).seq hl
 by_cases hlt:i<xs.length
 ·have hx:xs[i]? =some xs[i]:=ag hlt;refine .inr ⟨⟨xs,xs[i],q,hx⟩,by lia,fun v H4 y=>?_⟩;obtain⟨e,y⟩:=y;have ev:=y xs q;rw[hx]at ev;cases ev;subst e;refine⟨fun _=>?_,fun z=>by cases z⟩;refine hs i _ acc _ _ hx s3 zi p3 _ fun u H6' s6 k=>⟨s6.at hD3,xs.length - (i+1),by lia,rfl,hlt,by simp[hacc],xk,?_,?_⟩
  ·rw[yM];exact s3.trans (uw s6)
  ·rw[yM];refine k _ (uw s6) fun p o q1 q2=>?_;rw[vI (fun z=>by
    rcases q1 with q1|q1
    ·rw[z,hD3]at q1;cases q1
    ·rw[z,s6.at hD3]at q2;cases q2;exact q1 _ rfl)]
   exact q2
 ·have e:i=xs.length:=by lia
  subst e;exact .inl ⟨⟨xs,q,ai _⟩,hd D acc _ H3 hD zU s3 zi p3 hacc hD3⟩
theorem xdp{K:ah}{l:Addr}{xs:List V}{te:TE}{caps:L2.St}{Q:VK}{H2:Hp}(Pv:Nat→List V→Hp→Prop)(hl:SqT K H2 l xs)(hn:xs.length≤aL)(h0:Pv 0 [] H2)
  (hs:∀(i:Nat) x acc H3 H3',xs[i]? =some x→xb H2 H3→xb H3 H3'→Pv i acc H3→∀R:VK,(∀u H6',xb H3' H6'→(∀H6,xb H3 H6→(∀p o,(H3' p=none∨∀ys,o≠HO.lst ys)→H6' p=some o→H6 p=some o)→Pv (i+1) (acc++[u]) H6)→R u H6')→te (some x::caps) H3' R)
  (hd:∀D acc H H',H2 D=none→H D=none→xb H2 H→xb H H'→Pv xs.length acc H→acc.length=xs.length→H' D=some (.lst acc)→Q (.ref D) H'):zg (Itt K l) caps xe7 te Q H2:=by
 unfold zg;intro D hD;refine⟨fun i m acc H3=>m=xs.length - i∧i≤xs.length∧acc.length=i∧H3 D=some (.lst acc)∧xb H2 (del H3 D)∧Pv i acc (del H3 D),⟨xs.length,by simp,aJ _,rfl,xk,?_,?_⟩,?_⟩
 ·rw[yM,uv hD];exact xb.refl _
 ·rw[yM,uv hD];exact h0
 rintro i m acc H3 ⟨rfl,hi,hacc,hD3,s3,p3⟩;refine⟨hD3,?_⟩;have q:=(s3.trans zi).seqT hl
 by_cases hlt:i<xs.length
 ·have hx:xs[i]? =some xs[i]:=ag hlt;refine .inr ⟨⟨xs,xs[i],q,hx⟩,by lia,fun v H4 y=>?_⟩;obtain⟨e,y⟩:=y;have ev:=y xs q;rw[hx]at ev;cases ev;subst e;refine⟨fun _=>?_,fun z=>by cases z⟩;refine hs i _ acc _ _ hx s3 zi p3 _ fun u H6' s6 k=>⟨s6.at hD3,xs.length - (i+1),by lia,rfl,hlt,by simp[hacc],xk,?_,?_⟩
  ·rw[yM];exact s3.trans (uw s6)
  ·rw[yM];refine k _ (uw s6) fun p o q1 q2=>?_;rw[vI (fun z=>by
    rcases q1 with q1|q1
    ·rw[z,hD3]at q1;cases q1
    ·rw[z,s6.at hD3]at q2;cases q2;exact q1 _ rfl)]
   exact q2
 ·have e:i=xs.length:=by lia
  subst e;exact .inl ⟨⟨xs,q,ai _⟩,hd D acc _ H3 hD zU s3 zi p3 hacc hD3⟩
theorem vK{K:ah}{l:Addr}{xs:List V}{tt:TT}{te:TE}{caps:L2.St}{Q:VK}{H2:Hp}(p:V→Bool)(f:V→V)(hl:SqL K H2 l xs)(hn:xs.length<aL)
  (ht:∀(x:V) (H3:Hp),x∈xs→xb H2 H3→∀R:Bool→Hp→Prop,(∀H6,xb H3 H6→R (p x) H6)→tt (some x::caps) H3 R)
  (hs:∀(x:V) (H3:Hp),x∈xs→p x=true→xb H2 H3→∀R:VK,(∀H6,xb H3 H6→R (f x) H6)→te (some x::caps) H3 R)
  (hd:∀D H',H2 D=none→xb H2 H'→H' D=some (.lst ((xs.filter p).map f))→Q (.ref D) H'):zg (Itl K l) caps tt te Q H2:=by
 unfold zg;intro D hD;refine⟨fun i m acc H3=>m=xs.length - i∧i≤xs.length∧acc=((xs.take i).filter p).map f∧H3 D=some (.lst acc)∧xb H2 H3,⟨xs.length,by simp,aJ _,rfl,xk,xb.new hD⟩,?_⟩;rintro i m acc H3 ⟨rfl,hi,rfl,hD3,s3⟩;refine⟨hD3,?_⟩;have q:=s3.seq hl
 by_cases hlt:i<xs.length
 ·have hx:xs[i]? =some xs[i]:=ag hlt;have hle:(((xs.take i).filter p).map f).length<aL:=by
   rw[aa];refine dH (cm _ _) ?_;rw[bB];lia
  have et:xs.take (i+1)=xs.take i++[xs[i]]:=by rw[bw,hx];rfl
  refine .inr ⟨⟨xs,xs[i],q,hx⟩,hle,fun v H4 y=>?_⟩;obtain⟨e,y⟩:=y;have ev:=y xs q;rw[hx]at ev;cases ev;subst e;refine ht _ _ (cM hlt) s3 _ fun H5 s5=>⟨fun hp=>?_,fun hp=>?_⟩
  ·refine hs _ _ (cM hlt) hp (s3.trans s5) _ fun H6 s6=>⟨s6.at (s5.at hD3),xs.length - (i+1),by lia,rfl,hlt,?_,xk,(s3.trans (s5.trans s6)).put hD⟩;rw[et,fQ,aG];simp[hp]
  ·refine⟨xs.length - (i+1),by lia,rfl,hlt,?_,s5.at hD3,s3.trans s5⟩;rw[et,fQ,aG];simp[hp]
 ·have e:i=xs.length:=by lia
  subst e;rw[bO]at hD3⊢;exact .inl ⟨⟨xs,q,ai _⟩,hd D H3 hD s3 hD3⟩
theorem xkd{K:ah}{l:Addr}{xs:List V}{tt:TT}{te:TE}{caps:L2.St}{Q:VK}{H2:Hp}(p:Nat→V→Bool)(hl:SqL K H2 l xs)(hn:xs.length<aL)
  (ht:∀(i:Nat) (x:V) (H3:Hp),xs[i]? =some x→xb H2 H3→∀R:Bool→Hp→Prop,(∀H6,xb H3 H6→R (p i x) H6)→tt (some (.int i)::some x::caps) H3 R)
  (hs:∀(i:Nat) (x:V) (H3:Hp),xs[i]? =some x→xb H2 H3→∀R:VK,(∀H6,xb H3 H6→R (.int i) H6)→te (some (.int i)::some x::caps) H3 R)
  (hd:∀D H',H2 D=none→xb H2 H'→H' D=some (.lst (((a9 xs.length).filter fun i=>p i (xs.getD i .non)).map fun(i:Nat)=>V.int i))→Q (.ref D) H'):jn K (Ite K l) caps tt te Q H2:=by
 unfold jn;intro D hD;refine⟨fun i m acc H3=>m=xs.length - i∧i≤xs.length∧acc=((a9 i).filter fun i=>p i (xs.getD i .non)).map (fun(i:Nat)=>V.int i)∧H3 D=some (.lst acc)∧xb H2 H3,⟨xs.length,by simp,aJ _,rfl,xk,xb.new hD⟩,?_⟩;rintro i m acc H3 ⟨rfl,hi,rfl,hD3,s3⟩;refine⟨hD3,?_⟩;have q:=s3.seq hl
 by_cases hlt:i<xs.length
 ·have hx:xs[i]? =some xs[i]:=ag hlt;have hle:(((a9 i).filter fun i=>p i (xs.getD i .non)).map fun(i:Nat)=>V.int i).length<aL:=by
   rw[aa];refine dH (cm _ _) ?_;rw[cR];lia
  have eg:xs.getD i .non=xs[i]:=by simp[bf,hx]
  refine .inr ⟨⟨xs,xs[i],q,hx⟩,hle,fun v H4 y=>?_⟩;obtain⟨T,x,rfl,hT,rfl,y⟩:=y;have ev:=y xs q;rw[hx]at ev;cases ev;have s4:=xb.new (o:=.tup [.int i,xs[i]]) hT;refine⟨T,.int i,xs[i],rfl,SqT.of xk,?_⟩;refine ht i _ _ hx (s3.trans s4) _ fun H5 s5=>⟨fun hp=>?_,fun hp=>?_⟩
  ·refine hs i _ _ hx (s3.trans (s4.trans s5)) _ fun H6 s6=>⟨s6.at (s5.at (s4.at hD3)),xs.length - (i+1),by lia,rfl,hlt,?_,xk,(s3.trans (s4.trans (s5.trans s6))).put hD⟩;rw[fJ,fQ,aG,gk,eg,if_pos hp];rfl
  ·refine⟨xs.length - (i+1),by lia,rfl,hlt,?_,s5.at (s4.at hD3),s3.trans (s4.trans s5)⟩;rw[fJ,fQ,aG,gk,eg,if_neg (by rw[hp];exact aH)];simp
 ·have e:i=xs.length:=by lia
  subst e;exact .inl ⟨⟨xs,q,ai _⟩,hd D H3 hD s3 hD3⟩
end L2
namespace L2
open PySem PySem.Spec PyProof.Rows
section
variable {X:Cx} {K:ah}
theorem xiS(e:X.K=K):IxR X (xqT K):=e▸yK
theorem xsM(e:X.K=K):IxR X (xqU K):=e▸xE
theorem xof(e:X.K=K):SlR X (xqV K):=e▸yL
theorem xrh(e:X.K=K):yw X (.builtin "isinstance") (xq6 K):=e▸zG
theorem xsI(e:X.K=K)(hu:X.A.units+64<cLine):OpR X (bE .Eq) (xiP K fun b=>b):=e▸xpg hu
theorem xsO(e:X.K=K)(hu:X.A.units+64<cLine):OpR X (bE .NotEq) (xiP K fun b=> !b):=e▸xlF hu
end
end L2
namespace L2
open PySem PySem.Spec PyProof.Rows
theorem xaG(i:Int)(own:List Int):inV (.int i) (own.map V.int)=decide (i∈own):=by
 unfold inV;rw[iJ,dm,eJ,decide_eq_true_iff];constructor
 ·rintro⟨y,hy,h⟩;have:y=i:=by simpa [eqV,Function.comp]using h
  rw[←this];exact hy
 ·intro h;exact⟨i,h,by simp[eqV,Function.comp]⟩
theorem xm9(xs:List Int):(xs.map V.int).all xai=true:=by
 rw[cg];intro x hx;obtain⟨y,_,rfl⟩:=aT.mp hx;rfl
theorem zx(es:List Int)(lo hi:Option Int):uh (es.map V.int) lo hi=((es.drop (HT.sIx es.length 0 lo)).take (HT.sIx es.length es.length hi - HT.sIx es.length 0 lo)).map V.int:=by
 unfold uh;rw[aa,←ic,←List.map_take]
theorem xke(p:V→Bool)(xs:List Int):(xs.map V.int).filter p=(xs.filter fun x=>p (.int x)).map V.int:=by
 rw[gF];rfl
end L2
namespace L2
open PySem PySem.Spec PyProof.Rows
theorem yY{n d:Nat}{i:Int}(h0:0≤i):HT.sIx n d (some i)=min i.toNat n:=by
 show(if i<0 then(i+(n:Int)).toNat else min i.toNat n)=_;rw[if_neg (by lia)]
end L2
namespace L2
open PySem PySem.Spec PyProof.Rows
section
variable {X:Cx}
end
def xgY:Stmt→List Stmt
 | .For _ _ b _ _=>b
 |_=>[]
def xna:Stmt→Expr
 | .Assign _ v _=>v
 |_=>.Constant .none 0 ⟨0,0,0,0⟩
def xri:Stmt→Expr
 | .Return (some v) _=>v
 |_=>.Constant .none 0 ⟨0,0,0,0⟩
def xgZ(i:Nat):Expr→Expr
 | .Call _ as _ _=>as.getD i (.Constant .none 0 ⟨0,0,0,0⟩)
 |_=>.Constant .none 0 ⟨0,0,0,0⟩
def xau:Expr→cE
 | .Lambda a _ _ _=>a
 |_=>xY (.Pass ⟨0,0,0,0⟩)
def xav:Expr→Expr
 | .Lambda _ b _ _=>b
 |e=>e
def zj:Expr→Scope
 | .Lambda _ _ s _=>s
 |_=>xj (.Pass ⟨0,0,0,0⟩)
theorem xfT{xs:List Int}{x v:Int}(h0:0≤x)(h:xs[x.toNat]? =some v):atI (xs.map V.int) x=some (.int v):=by
 have:=zc (xs:=xs.map V.int) (j:=x.toNat) (v:=.int v) (by rw[ak,h];rfl)
 rwa [bT h0]at this
theorem xnb{n:Nat}{x:Int}(h0:0≤x)(h:x<n):ixN n x=some x.toNat:=by
 unfold ixN;rw[if_pos h0,if_pos h]
end L2
namespace PySem
open Sem (wp)
open PyProof.Rows
namespace F
theorem xnc:il (.type "list_reverseiterator") "__len__"=pure none:=by rw[typeLookup_type,builtinLookup_eq_fast];kernel_rfl
theorem xog:il (.type "list_reverseiterator") "__length_hint__"=pure (some (.builtin "list_reverseiterator.__length_hint__")):=by rw[typeLookup_type,builtinLookup_eq_fast];kernel_rfl
end F
section
variable {prog:aI} {w:World} {A:aU} {E:Value→ab→Prop} {s:ab}
theorem xlI{R:gc→ab→Prop}{r l:Addr}{items:Array Value}(hnd:A.handled=none)(hr:s.heap.IsRevIter r l ((items.size:Int) - 1))(hl:s.heap.IsList l items)(hne:l≠r)(hsz:items.size≤aL)
  (D:Addr) (z:Value) (m₀:Nat) (hD:s.heap.get? D=some {cls:=.type "list",data:=.seq #[] m₀}) (hDl:D≠l)
  (hR:∀g tk xs m,(∀b o,b≠D→b≠r→s.heap.get? b=some o→g.get? b=some o)→g.get? D=some {cls:=.type "list",dict:=none,data:=.seq xs m,slots:=#[]}→
   ix (fun i v=>items[items.size - 1 - i]? =some v) xs items.size→R (.ok (.ret z)) {s with heap:=g,toks:=tk}):
  wpAny (model prog w) A.in1 (bF (.ref D) (.ref r) z)
   (fun fin s'=>match fin with| .done f=>R (.ok f) s'| .again d=>d.quiet=true∧cW (model prog w) A d R s') (fun e s'=>R (.error e) s') s:=by
 have nDr:D≠r:=fun e=>by
  obtain⟨o,ho,hc,_⟩:=hr;rw[e,ho]at hD;have e2:=congrArg Obj.cls (bD hD);rw[hc]at e2;have e3:cG "list_reverseiterator"=cG "list":=e2;exact absurd e3 (by decide)
 have nDf:D∉[r,l]:=fun q=>by
  rcases ao.mp q with q|q
  ·exact nDr q
  ·exact hDl (ax.mp q)
 have Wk:=(Walks.listRev (prog:=prog) (w:=w) (A:=A.in1) hnd r l hne items).toS;have e0:(items.size:Int) - 1=(items.size:Int) - 1 - ((0:Nat):Int):=by lia
 rw[e0]at hr;have T:s.TypeIs (.ref r) "list_reverseiterator":=hr.typeIs;unfold bF;refine ae (iE T ?_);have x1:eE (.ref D) (.ref r)=false:=by simp[eE,nDr]
 rw[if_neg (by rw[x1];decide)];refine ae (wpAny_pyIter_revIter hr ?_);refine ae (bR ?_);unfold Builtin.List.listLengthHint;refine ae (wpAny_specialOf T F.xnc ?_);show wpAny _ A.in1 (specialOf (bb r) (bX "__length_hint__") >>= _) _ _ _;refine ae (wpAny_specialOf T F.xog ?_)
 (generalize hid:("list_reverseiterator.__length_hint__":String)=id0;(fail_if_success (clear hid id0));wp_delta;rw[show splitId id0=some ("list_reverseiterator","__length_hint__")from by subst hid;decide+kernel];subst hid)
 refine ae (wpAny_isInstance (b:=true) T (by rw[isSubtype_type];kernel_rfl) ?_);refine aA ?_;rw[if_neg (by decide)];refine aA ⟨cf gK _,codeAny_extend_loopS Wk hsz D nDf z items.size 0 _ #[] m₀ rfl (aJ _) ⟨aJ _,hr,hl⟩ hD (ItemsOf.nil _) fun s' xs m hm hD' hx=>?_⟩;rw[Moved.eq_with hm];refine hR s'.heap s'.toks xs m (fun b o hb hb2 e=>hm.heap b o (fun hq=>?_) e) hD' hx;rcases ao.mp hq with e'|hq
 ·exact hb e'
 ·exact hb2 (ax.mp hq)
theorem xkf{Q:Value→ab→Prop}{r l:Addr}{items:Array Value}(hnd:A.handled=none)(hr:s.heap.IsRevIter r l ((items.size:Int) - 1))(hl:s.heap.IsList l items)(hne:l≠r)(hsz:items.size≤aL)
  (hQ:∀g tk xs m,(∀b o,b≠r→s.heap.get? b=some o→g.get? b=some o)→
   g.get? s.heap.objs.size=some {cls:=.type "list",dict:=none,data:=.seq xs m,slots:=#[]}→ix (fun i v=>items[items.size - 1 - i]? =some v) xs items.size→Q (.ref s.heap.objs.size) {s with heap:=g,toks:=tk}):
  wpAny (model prog w) A (call (.type "list") [.ref r]) Q E s:=by
 refine j5 (Q₁:=fun obj s₁=>obj= .ref s.heap.objs.size∧s₁={s with heap:=s.heap.push {cls:=.type "list",data:=.seq #[]}}) F.called_list (F.typeCall_list_1 _) F.entry_list_init
  (code_list_new _ ⟨rfl,rfl⟩) fun obj s₁ q₁=>?_
 obtain⟨rfl,rfl⟩:=q₁;generalize hG:s.heap.push {cls:=.type "list",data:=.seq #[]}=G;have old:∀b o,s.heap.get? b=some o→G.get? b=some o:=fun b o e=>by rw[←hG];exact af _ e
 have hD:G.get? s.heap.objs.size=some {cls:=.type "list",data:=.seq #[]}:=by rw[←hG];exact aB _ rfl
 have hrl:r<s.heap.objs.size:=by obtain⟨o,ho,_⟩:=hr;exact aj ho
 have hll:l<s.heap.objs.size:=by obtain⟨o,ho,_⟩:=hl;exact aj ho
 refine⟨⟨_,hD,rfl⟩,F.args_list_init_2 _ _,?_⟩;show wpAny _ _ (do let old ←eY (.ref s.heap.objs.size);iS (.ref s.heap.objs.size) (fun _=>#[]);letGo old.toList.reverse;bF (.ref s.heap.objs.size) (.ref r) .none) _ _ _;refine ae ?_;unfold eY;refine ae (dC hD rfl (aA ?_));show wpAny _ _ (fP s.heap.objs.size (fun _=>#[]) >>= fun _=>letGo (#[]:Array Value).toList.reverse >>= fun _=>bF (.ref s.heap.objs.size) (.ref r) .none) _ _ _;refine ae (cU hD rfl ?_);have d2:=cJ (aW (fun _=>(#[]:Array Value))) hD rfl;have oth:∀b o,b≠s.heap.objs.size→G.get? b=some o→(G.update s.heap.objs.size (aW (fun _=>(#[]:Array Value)))).get? b=some o:=
  fun b o hb e=>(bA _ _ (a8 hb)).trans e
 refine ae (di ?_);refine xlI (A:=A.in1) hnd (hr.at fun o e=>oth r o (ar hrl) (old r o e)) (hl.at fun o e=>oth l o (ar hll) (old l o e)) hne hsz s.heap.objs.size .none _ d2 (dG hll) fun g tk xs m q1 q2 q3=>⟨rfl,?_⟩;exact hQ g tk xs m (fun b o hb e=>q1 b o (ar (aj e)) hb (oth b o (ar (aj e)) (old b o e))) q2 q3
end
end PySem
namespace L2
open PySem PySem.Spec PyProof.Rows
theorem log2_small{n:Nat}(h:n<2^64):n.log2≤64:=by
 by_cases h0:n=0
 ·subst h0;decide
 ·exact b7 ((lA h0).mpr h)
theorem xdq:∀ns:List Int,(∀x∈ns,x.natAbs<2^64)→iK (ns.map d5)≤66*ns.length
 |[],_=>by simp[iK]
 |x::xs,h=>by
  have ih:=xdq xs fun y hy=>h y (aC _ hy);have hx:=log2_small (h x aK);rw[bg,PyData.weightAll.eq_2,bj];have:kJ (.int x)≤65:=by
   rw[ku];show(if (x==0)=true then 0 else x.natAbs.log2+1)≤65
   split
   ·lia
   ·lia
  lia
section
variable {X:Cx}
def xr5(K:ah)(te:TE):TE:=fun σ H Q=>te σ H fun x H1=>∃l ys,x= .ref l∧SqL K H1 l ys∧∀d,H1 d=none→Q (.ref d) (upd H1 d (.lst ys.reverse))
theorem xlJ{e:Expr}{te:TE}{p1 p2 pos1 pos2:Pos}(hc:X.calm=true)(hg1:Gl X "list")(hm1:X.mg "list"=none)(hg2:Gl X "reversed")(hm2:X.mg "reversed"=none)(he:PE X e te)
  (hs2:aR [e] X.env=[(false,eval e X.env)]:=by rfl)
  (hs1:aR [.Call (.Name "reversed" p2) [e] [] pos2] X.env=[(false,eval (.Call (.Name "reversed" p2) [e] [] pos2) X.env)]:=by rfl):
  PE X (.Call (.Name "list" p1) [.Call (.Name "reversed" p2) [e] [] pos2] [] pos1) (xr5 X.K te):=by
 intro pins s σ H Q I h;refine bW (yW I hg1 hm1 yT ?_ (by decide) (by decide));refine bM ?_ hs1 rfl;rw[hs1];refine fM ?_;refine bW (yW I hg2 hm2 xj9 ?_ (by decide) (by decide));refine bM ?_ hs2 rfl;rw[hs2];refine fM (thn (he pins s σ H _ I h) fun v s1 hh82=>?_);obtain⟨x,H1,I1,r1,q1⟩:=hh82;obtain⟨l,ys,rfl,hq,q⟩:=q1;cases r1;obtain⟨its,rv,pl,hz⟩:=I1.list hq;have hlen:=rv.length;have hL:=pl.isList;have hll:l<s1.heap.objs.size:=by obtain⟨o,ho,_⟩:=hL;exact aj ho
 refine f6 (call_reversed_list hL (f6 ?_));refine xkf (s:={s1 with heap:=s1.heap.push (revObj l ((its.toArray.size:Int) - 1))}) (I.ok.hd hc) ⟨_,aB _ rfl,rfl,rfl⟩ (hL.push _) (ar hll) (by rw[aE];lia) fun g tk xs m q1 q2 q3=>?_;have hsz:(s1.heap.push (revObj l ((its.toArray.size:Int) - 1))).objs.size=s1.heap.objs.size+1:=cI ..;have q2':g.get? (s1.heap.objs.size+1)=some {cls:=.type "list",dict:=none,data:=.seq xs m,slots:=#[]}:=by rw[←hsz];exact q2
 have exs:xs.toList=its.reverse:=by
  obtain⟨h1,h2⟩:=q3;have h1':xs.size=its.length:=by rw[h1];simp
  apply dY;intro i
  by_cases hi:i<its.length
  ·have hix:i<xs.size:=by lia
   have:=h2 i xs[i] (dh hix);rw[j7 hi,gu,dh hix,←this];simp
  ·rw[cX (by simp;lia),cX (by simp;lia)]
 refine⟨.ref (s1.heap.objs.size+1),upd H1 (s1.heap.objs.size+1) (.lst ys.reverse),I1.laid (h':=g) (t':=tk) (fun b o e=>q1 b o (ar (aj e)) (af _ e)) (c6 _) ⟨by rw[kL];exact hz,xs.toList,m,by rw[exs];exact rv.reverse,by simpa using q2'⟩,by show bb _=bb _;rw[hsz],q _ (I1.hok.fresh (c6 _))⟩
def xr6(K:ah):List V→Hp→VK→Prop:=fun xs H Q=>∃(p:Addr) (ns:List Int),xs=[.ref p]∧SqL K H p (ns.map V.int)∧ns≠[]∧∀m,m∈ns→(∀x∈ns,m≤x)→Q (.int m) H
theorem xhJ(hc:X.calm=true):yw X (.builtin "min") (xr6 X.K):=by
 intro pins s σ H xs us Q I r h;obtain⟨p,ns,rfl,hq,hne,q⟩:=h;obtain⟨u,rfl,rx⟩:=vals1 r;cases rx;obtain⟨its,r',pl,hz⟩:=I.list hq;have hi:=intsAre_of r';have hL:=pl.isList;have hn:=hi.numsOf;obtain⟨ys,e⟩:=hi.allInts.items;rw[e]at hL;have e2:numsOf its=numsOf (gO ys).toList:=by rw[←e]
 rw[e2,kH]at hn;have hlen:=congrArg cC hn;rw[aa,br]at hlen;have hpos:0<ns.length:=cF.mpr hne;refine min_intList (I.ok.hd hc) hL (by lia) fun v h' tk hv hk=>?_;obtain⟨t,rfl⟩:=intItems_at hv;obtain⟨h1,h2⟩:=argBest_lt (numAt ys) (ys.size - 1);refine⟨.int _,H,I.kept (t':=tk) hk,⟨t,rfl⟩,q _ ?_ fun a ha=>?_⟩
 ·rw[←hn,numAt_eq];exact getD_mem (by rw[aa,br];lia)
 ·rw[←hn]at ha;obtain⟨j,hj,rfl⟩:=mem_getD ha;rw[aa,br]at hj;rw[←numAt_eq];exact h2 j (by lia)
def xpN:V→List V→Hp→VK→Prop:=fun x vs H Q=>∃(l:Addr) (ns:List Int) (i:Int),x= .ref l∧vs=[.int i]∧H l=some (.lst (ns.map V.int))∧i∈ns∧ns.length≤1000∧(∀x∈ns,x.natAbs<2^64)∧Q (.int (ns.idxOf i:Nat)) H
theorem xoh:MtM X "list.index" xpN:=by
 intro pins s σ H x vs v us Q I rx rv h;obtain⟨l,ns,i,rfl,rfl,hH,hi,hlen,hsm,q⟩:=h;cases rx;obtain⟨u,rfl,ru⟩:=rv.one;obtain⟨t,rfl⟩:=ru;obtain⟨its,r',pl,hz⟩:=I.list (SqL.of hH);refine index_list_ints pl.isList (intsAre_of r') ?_ hi ⟨.int _,H,I.tok _,⟨_,rfl⟩,q⟩;have w:=xdq ns hsm;have h1:PyData.canLay0 (.list (ns.map d5))=true:=by unfold PyData.canLay0;exact W.ke_canLayAll0 ns
 have h2:PyData.depth (.list (ns.map d5))≤64:=by unfold PyData.depth;rw[W.ke_depthAll];decide
 have h3:kJ (.list (ns.map d5))≤2^20:=by
  have e:kJ (.list (ns.map d5))=iK (ns.map d5):=by rw[ku]
  rw[e];lia
 unfold PyData.layable0;rw[h1,decide_eq_true h2,decide_eq_true h3];rfl
end
end L2
namespace L2
open PySem PySem.Spec PyProof.Rows
section
variable {X:Cx} {K:ah}
end
end L2
namespace L2
open PySem PySem.Spec PyProof.Rows
theorem jo{X:Cx}{sts:List Stmt}:PSs X sts (fun _ _ _=>False):=fun _ _ _ _ _ _ q=>q.elim
theorem uV{c:TT}{tb:TS}{D:Ends}{σ:St}{H:Hp}(Pv:Nat→St→Hp→Prop){m:Nat}(h0:Pv m σ H)
  (hs:∀m σ H,Pv m σ H→c σ H fun b H1=>(b=true→∃N:St→Hp→Prop,(∀σ' H',N σ' H'→∃m',m'<m∧Pv m' σ' H')∧tb {D with nx:=N,ct:=N,bk:=D.nx} σ H1)∧(b=false→D.nx σ H1)):xee c tb D σ H:=by
 unfold xee;exact⟨Pv,⟨m,h0⟩,hs⟩
theorem jH{l₁:List Int}(h:l₁.Nodup):∀{l₂:List Int},(∀x∈l₁,x∈l₂)→l₁.length≤l₂.length:=by
 induction l₁ with
 |nil=>intro l₂ _;exact aJ _
 |cons x xs ih=>
  intro l₂ hs;obtain⟨h1,h2⟩:=cw.mp h;have hx:=hs x aK;have:=ih h2 (l₂:=l₂.erase x) fun y hy=>(List.mem_erase_of_ne (fun z=>h1 (by rw[←z];exact hy))).mpr (hs y (aC _ hy));rw[List.length_erase_of_mem hx]at this;have hpos:0<l₂.length:=List.length_pos_of_mem hx;rw[bj];lia
end L2
namespace PySem.W
open PySem PySem.Calls PyProof.Rows
def xfb(h:Heap)(ks:List Value):Prop:=∀v∈ks,∃a o,v= .ref a∧h.get? a=some o∧o.cls= .type "list"
section
variable {M:Model} {A:aU} {E:Value→ab→Prop} {s:ab}
theorem xhK:∀(vs:List Value) {Q:List (Option Value)→ab→Prop},xfb s.heap vs→Q (vs.map fun _=>none) s→wpAny M A (vs.mapM firstOfTuple') Q E s
 |[],_,_,h=>by rw[List.mapM_nil];exact aA h
 |v::vs,Q,t,h=>by
  obtain⟨a,o,rfl,ho,hc⟩:=t v aK;rw[List.mapM_cons];refine ae ?_;rw[kas_first_eq];refine ae (Looks.here (show Looks M s.heap (typeOf (.ref a)) o.cls from(Looks.ld ho).andThen .now) ?_);rw[hc,if_pos (by first|decide|simp)];refine aA ?_;exact ae (xhK vs (Q:=fun bs s'=>wpAny M A (pure (none::bs)) Q E s') (fun v hv=>t v (aC _ hv)) (aA h))
theorem xpO{vs:List Value}{Q:SortKind→ab→Prop}(hne:0<vs.length)(t:xfb s.heap vs)(h:Q gP s):wpAny M A (keyKind' vs.toArray) Q E s:=by
 obtain⟨f₁,fr,rfl⟩:∃f₁ fr,vs=f₁::fr:=by
  match vs,hne with
  |f₁::fr,_=>exact⟨f₁,fr,rfl⟩
 rw[kat_kind_eq,List.mapM_toArray,map_eq_pure_bind];refine ae (ae (xhK _ t (aA ?_)));have h1:((((f₁::fr).map fun _=>(none:Option Value)).toArray).all fun x=>x.isSome)=false:=by simp
 rw[if_neg (by rw[h1];decide)];have h2:((((f₁::fr).map fun _=>(none:Option Value)).toArray)[0]?.bind id).isSome=false:=by simp
 rw[if_neg (by rw[h2];decide)];rw[oneTypeOnly'_eq,List.mapM_toArray,map_eq_pure_bind];refine ae (ae (ae (kas_mapM (r:=cG "list") _ (fun v hv Q' hq=>?_) (aA ?_))))
 ·obtain⟨a,o,rfl,ho,hc⟩:=t v hv;refine Looks.here (show Looks M s.heap (typeOf (.ref a)) o.cls from(Looks.ld ho).andThen .now) ?_;rw[hc];exact hq
 ·have hall2:((List.map (fun _=>cG "list") (f₁::fr)).toArray.all fun x=>x==cG "list")=true:=by
   simp only[List.all_toArray,List.all_map,cg];intro _ _;rfl
  have h0:(List.map (fun _=>cG "list") (f₁::fr)).toArray[0]? =some (cG "list"):=by simp
  rw[h0];dsimp only;rw[if_pos hall2];exact aA (aA h)
end
section
variable {prog:aI} {w:World} {A:aU} {E:Value→ab→Prop} {s:ab} {a kS:Addr} {vs:List Value} {e1:Nat} {f:Value} {P:PySem.Fin→ab→Prop}
def xiT(prog:aI)(w:World)(A:aU)(kS a:Addr)(vs:List Value)(P:PySem.Fin→ab→Prop)(ks:List Value)(s:ab):Prop:=
 ∃lt:Nat→Nat→Bool,L2.STO lt vs.length∧xfb s.heap ks∧(∀i j (C:Bool→ab→Prop),i<vs.length→j<vs.length→C (lt i j) s→wpAny (model prog w) A (keyLt' gP (ks.getD i bq) (ks.getD j bq)) C (fun _ _=>False) s)∧
 ∀p:Array Nat,L2.Pm vs.length p→L2.Up lt p vs.length→∀h' c,(∀b o,b≠kS→b≠a→s.heap.get? b=some o→h'.get? b=some o)→h'.get? a=some (aX "list" (aF (p.toList.map fun i=>vs.getD i bq)) c)→P (.done (.ret .none)) {s with heap:=h'}
def vA(prog:aI)(w:World)(A:aU)(kS a:Addr)(e1:Nat)(f:Value)(vs:List Value)(P:PySem.Fin→ab→Prop):List Value→List Value→ab→Prop
 |[],ks,s=>s.heap.get? a=some (aX "list" #[] e1)∧xiT prog w A kS a vs P ks s
 |v::r,ks,s=>wpAny (model prog w) A (call f [v]) (fun k s'=>(∃e,s'.heap.get? kS=some (aX "list" (aF ks) e))∧∀h' c,(∀b o,b≠kS→s'.heap.get? b=some o→h'.get? b=some o)→h'.get? kS=some (aX "list" (aF (ks++[k])) c)→vA prog w A kS a e1 f vs P r (ks++[k]) {s' with heap:=h'}) (fun _ _=>False) s
theorem xcv{st:SortSt}{out ks:List Value}{e:Nat}(hak:a≠kS)(hout:(arrOf st).map (·.2)=aF out)(hz:out.length<64)(hkz:ks.length<64)(hf:failedOf st=none)
  (ha:s.heap.get? a=some (aX "list" #[] e1)) (hk:s.heap.get? kS=some (aX "list" (aF ks) e))
  (h:∀h' c,(∀b o,b≠kS→b≠a→s.heap.get? b=some o→h'.get? b=some o)→h'.get? a=some (aX "list" (aF out) c)→P (.done (.ret .none)) {s with heap:=h'}):wpAny (model prog w) A (ksk_tail a false e1 (.ref kS) st) P E s:=by
 have s1:=bY s.heap kS (aW fun _=>(#[]:Array Value));have ha1:(s.heap.update kS (aW fun _=>(#[]:Array Value))).get? a=some (aX "list" #[] e1):=(s1.2 a hak).trans ha;have s2:=bY (s.heap.update kS (aW fun _=>(#[]:Array Value))) a (aW fun _=>aF out);obtain⟨c2,hc2⟩:∃c2,((s.heap.update kS (aW fun _=>(#[]:Array Value))).update a (aW fun _=>aF out)).get? a=some (aX "list" (aF out) c2):=⟨_,eX ha1 fun _=>aF out⟩;have hsz:(aF out).size=out.length:=aE;unfold ksk_tail
 try dsimp only
 rw[hout];refine ae (fw hk rfl ?_ (by rw[aE,av];lia) (aJ _));refine ae (di ?_);refine ae (seqEpoch_at ha1 rfl ?_);refine ae (fw ha1 rfl ?_ (aJ _) (a7 (gz hsz) (by rw[av];lia)));rw[hf];simp only[bne_self_eq_false,cx,if_false];exact aA (h _ c2 (fun b o h1 h2 q=>(s2.2 b h2).trans ((s1.2 b h1).trans q)) hc2)
theorem xpP{ks:List Value}{e:Nat}(hak:a≠kS)(hl:ks.length=vs.length)(h64:vs.length<64)(ha:s.heap.get? a=some (aX "list" #[] e1))(hk:s.heap.get? kS=some (aX "list" (aF ks) e))
  (h:xiT prog w A kS a vs P ks s):wpAny (model prog w) A (ksk_end a false vs.toArray e1 (.ref kS) (aF ks)) P E s:=by
 obtain⟨lt,S,hL,hcmp,fin⟩:=h;unfold ksk_end
 try dsimp only
 by_cases h2:2≤vs.length
 ·have hn2:¬vs.toArray.size<2:=by rw[aE];lia
  have hk1:wpAny (model prog w) A (keyKind' (aF ks)) (fun κ s'=>κ=gP∧s=s') (fun _ _=>False) s:=xpO (by lia) hL ⟨rfl,rfl⟩;simp only[cx,if_false];rw[if_neg hn2,if_neg hn2];refine ae (aY hk1 (fun κ s0 hk=>?_) fun _ _ x=>x.elim);obtain⟨rfl,rfl⟩:=hk;have hw:(kas_sort vs.length).kasWp (kas_ask prog w A gP ks) (fun p s''=>s=s''∧L2.Pm vs.length p∧L2.Up lt p vs.length) s:=by
   refine L2.Wp.kas (lt:=lt) (n:=vs.length) (fun i j C hi hj hc=>hcmp i j C hi hj hc) ?_;exact L2.wp_mono (L2.xkW S h2) fun q hq=>⟨rfl,hq⟩
  refine ae (aY (kat_run (Q:=fun st' s'=>∃p:Array Nat,arrOf st'=p.map (kas_item ((aF ks).zip (aF vs)))∧failedOf st'=none∧s=s'∧L2.Pm vs.length p∧L2.Up lt p vs.length)
   hl h2 h64 (fun p' st' s' a1 a2 a3 a4=>⟨p',a2,a3,a4⟩) hw) ?_ fun _ _ x=>x)
  rintro⟨⟨⟩,st'⟩ s' ⟨p,har,hf,rfl,hp,hu⟩
  try dsimp only
  refine xcv hak (kat_snds hl har) (by rw[aa,br,hp.size];exact h64) (by lia) hf ha hk fun h' c k1 k2=>fin p hp hu h' c k1 k2
 ·have hn2:vs.toArray.size<2:=by rw[aE];lia
  simp only[cx,if_false];rw[if_pos hn2,if_pos hn2];refine ae (aA ?_);refine ae (aA ?_)
  try dsimp only
  have hsn:(arrOf (SortSt.mk' general' ((aF ks).zip (aF vs)) #[] 7 none)).map (·.2)=aF vs:=by
   show((aF ks).zip (aF vs)).map (·.2)=aF vs;apply Array.toList_inj.mp;simp[List.map_snd_zip,hl]
  refine xcv hak hsn h64 (by lia) rfl ha hk fun h' c k1 k2=>fin (aF (a9 vs.length)) ⟨by simp,by simp⟩ (fun i j hij hj=>by lia) h' c k1 ?_;have e:((aF (a9 vs.length)).toList.map fun i=>vs.getD i bq)=vs:=by
   apply dY;intro i
   by_cases hi:i<vs.length
   ·simp[hi]
   ·simp[hi]
  rw[e];exact k2
theorem xiU{n:Nat}{body:Value→PUnit→Sem (ForInStep PUnit)}(hn:n<64)
  (hb:∀x ks (s:ab) (C:Value→Nat→ab→Prop),cC ks<64→wpAny (model prog w) A (call f [x]) (fun k s'=>(∃e,s'.heap.get? kS=some (aX "list" (aF ks) e))∧∀h' c,(∀b o,b≠kS→s'.heap.get? b=some o→h'.get? b=some o)→h'.get? kS=some (aX "list" (aF (ks++[k])) c)→C k c {s' with heap:=h'}) (fun _ _=>False) s→
   wpAny (model prog w) A (body x ⟨⟩) (fun r s'=>r= .yield ⟨⟩∧∃k c,s'.heap.get? kS=some (aX "list" (aF (ks++[k])) c)∧C k c s') E s):∀(r ks:List Value) (e:Nat) (s:ab),ks.length+r.length=n→
   s.heap.get? kS=some (aX "list" (aF ks) e)→vA prog w A kS a e1 f vs P r ks s→
   wpAny (model prog w) A (forIn r ky body) (fun _ s'=>∃ks e,s'.heap.get? kS=some (aX "list" (aF ks) e)∧ks.length=n∧s'.heap.get? a=some (aX "list" #[] e1)∧xiT prog w A kS a vs P ks s') E s
 |[],ks,e,s,hl,hk,h=>by
  rw[List.forIn_nil];exact aA ⟨ks,e,hk,by simpa using hl,h⟩
 |x::r,ks,e,s,hl,hk,h=>by
  rw[bj]at hl;rw[i4];have h':=h;unfold vA at h';refine ae (aY (hb x ks s (fun k c s'=>vA prog w A kS a e1 f vs P r (ks++[k]) s') (by lia) (aY h' (fun k s' hq=>hq) fun _ _ x=>x)) (fun q s' hq=>?_) fun _ _ x=>x);obtain⟨rfl,k,c,hk',h2⟩:=hq;show wpAny (model prog w) A (forIn r ky body) _ E s';exact xiU hn hb r (ks++[k]) c s' (by rw[aq,bK];lia) hk' h2
theorem xnd{n:Nat}(ho:s.heap.get? a=some (aX "list" vs.toArray n))(h64:vs.length<64)
  (h:∀kS e1 h',(∀b o,b≠a→s.heap.get? b=some o→h'.get? b=some o)→h'.get? a=some (aX "list" #[] e1)→h'.get? kS=some (aX "list" #[] 0)→s.heap.objs.size≤kS→vA prog w A kS a e1 f vs P vs [] {s with heap:=h'}):
  wpAny (model prog w) A (ksk_tree a f false) P E s:=by
 have ha:a<s.heap.objs.size:=aj ho;have s1:=bY s.heap a (aW fun _=>(#[]:Array Value));obtain⟨e1,ho1⟩:∃e1,(s.heap.update a (aW fun _=>(#[]:Array Value))).get? a=some (aX "list" #[] e1):=⟨_,eX ho fun _=>#[]⟩;have hkS:((s.heap.update a (aW fun _=>(#[]:Array Value))).push (aX "tuple" vs.toArray 0)).objs.size=s.heap.objs.size+1:=by rw[size_push',iL]
 unfold ksk_tree;refine ae (iM ho rfl ?_);refine ae (fw ho rfl ?_ (by rw[aE,av];lia) (aJ _));refine ae (seqEpoch_at ho1 rfl ?_);refine ae (wpAny_newTuple ?_ (by show vs.length≤_;rw[av];lia));refine ae (fm ?_ (aJ _));refine bR ?_;generalize hK:((s.heap.update a (aW fun _=>(#[]:Array Value))).push (aX "tuple" vs.toArray 0)).objs.size=kS at hkS;generalize hh:((s.heap.update a (aW fun _=>(#[]:Array Value))).push (aX "tuple" vs.toArray 0)).push (aX "list" #[] 0)=h1;have hk0:h1.get? kS=some (aX "list" #[] 0):=by rw[←hh,←hK];exact aB _ rfl
 have hk:=h kS e1 h1 (fun b o hb q=>by rw[←hh];exact af _ (af _ ((s1.2 b hb).trans q))) (by rw[←hh];exact af _ (af _ ho1)) hk0 (by rw[hkS];exact c6 _);have hak:a≠kS:=ar (by rw[hkS];exact Nat.lt_succ_of_lt ha);unfold ksk_rest;refine ae (gE ?_)
 first
  |rw[lb]
  |(rw[←fR];simp only[kM])
  |rw[←fR]
 refine ae (aY (xiU h64 (fun x ks s' C hz hx=>?_) vs [] 0 {s with heap:=h1} (by simp) hk0 hk) (fun _ s' hd=>?_) fun _ _ x=>x)
 ·refine ae (kK (aY hx (fun k s'' hk=>?_) fun _ _ hF=>hF.elim));obtain⟨⟨e,nk⟩,c⟩:=hk;have s1:=bY s''.heap kS (aW (·.push k));have ea:(aF ks).push k=aF (ks++[k]):=by simp
  obtain⟨c2,hc2⟩:∃c2,(s''.heap.update kS (aW (·.push k))).get? kS=some (aX "list" (aF (ks++[k])) c2):=⟨_,by rw[←ea];exact eX nk (·.push k)⟩
  try dsimp only
  refine ae (fw nk rfl ?_ (by rw[aE,av];lia) (a7 (gz (Array.size_push ..)) (by rw[aE,av];lia)));exact aA ⟨rfl,k,c2,hc2,c _ c2 (fun b o hb q=>(s1.2 b hb).trans q) hc2⟩
 ·obtain⟨ks,e,hk',hl,ha',fin⟩:=hd
  try dsimp only
  refine ae (iM hk' rfl ?_);exact xpP hak hl h64 ha' hk' fin
end
end PySem.W
namespace L2
open PySem PySem.Spec PyProof.Rows PySem.W
structure xsJ(X:Cx)(H2:Hp)(s2:ab)(kk:Nat→List Int)(D kS:Addr)(e1:Nat)(ks:List Value)(G:Hp)(s':ab):Prop where
 os:s'.os=s2.os
 bare:e9 s'.gens
 un:Un (frs X.stack) [] H2 G s2.heap s'.heap
 hok:HOk X.prog X.w G s'.heap
 same:xb H2 G
 keys:∀i,i<ks.length→∃d,ks[i]? =some (.ref d)∧G d=some (.lst ((kk i).map V.int))
 atD:s'.heap.get? D=some (aX "list" #[] e1)
 fD:G D=none
 fk:G kS=none
section
variable {X:Cx} {k:Nat} {nm qual:Str} {params:cE} {body:dg} {scope:Scope} {ps:List Str} {sp:List (Str×V)→Sp} {pins:List (Addr×Obj)} {σ:St} {H2:Hp} {s2:ab} {f D kS:Addr} {fv:List (Str×V)} {kk:Nat→List Int} {vs:List Value} {P:PySem.Fin→ab→Prop} {e1:Nat}
theorem Inv.young(I:Inv X pins σ H2 s2){b:Addr}(h:s2.heap.objs.size≤b):b∉frs X.stack:=fun z=>by
 rcases ao.mp (I.stkSub b z)with q|q
 ·exact absurd I.lt (by rw[←q];exact Nat.not_lt.mpr h)
 ·exact I.nofs h q
theorem xfc{P:aI}{w:World}{G:Hp}{h h':Heap}{b:Addr}(x:HOk P w G h)(fb:G b=none)(k:∀c o,c≠b→h.get? c=some o→h'.get? c=some o):HOk P w G h':=fun a o e=>
 (x a o e).stay (fun c u hc q=>k c u (by
  rintro rfl;rcases hc with z|z
  ·rw[←z,fb]at e;cases e
  ·rw[fb]at z;cases z) q) (fun _ q=>q) fun _ _ q _=>q
theorem xiV(F:zJ X.prog X.w X.K X.mg X.base CX0 k nm qual params body scope ps sp)(hr:xW (k+2) X.A)(I:Inv X pins σ H2 s2)(hc:zv H2 f nm qual params body scope fv)
  (hsp:∀i,i<vs.length→∀H3,xb H2 H3→sp fv [.int (i:Nat)] H3 (fun v H4=>xb H3 H4∧∃d,v= .ref d∧H4 d=some (.lst ((kk i).map V.int))) E0)
  (hv:∀(i:Nat) v,vs[i]? =some v→∃t,v= .int (i:Nat) t) (hD:s2.heap.objs.size≤D) (hk:s2.heap.objs.size≤kS) (hDk:D≠kS) (h64:vs.length<64)
  (S:STO (fun i j=>HT.lexLt (kk i) (kk j)) vs.length)
  (fin:∀p:Array Nat,Pm vs.length p→Up (fun i j=>HT.lexLt (kk i) (kk j)) p vs.length→∀sF G',Inv X pins σ G' sF→xb H2 G'→G' D=some (.lst (p.toList.map fun(i:Nat)=>V.int i))→P (.done (.ret .none)) sF):
  ∀(r ks:List Value) (s':ab) (G:Hp),r=vs.drop ks.length→ks.length≤vs.length→xsJ X H2 s2 kk D kS e1 ks G s'→(∃e,s'.heap.get? kS=some (aX "list" (aF ks) e))→
   vA X.prog X.w X.A.in1.in1 kS D e1 (.ref f) vs P r ks s'
 |[],ks,s',G,hr0,hle,J,hkS=>by
  have hlen:ks.length=vs.length:=by
   have:=congrArg cC hr0;simp at this;lia
  unfold vA;refine⟨J.atD,fun i j=>HT.lexLt (kk i) (kk j),S,fun v hvm=>?_,fun i j C hi hj hC=>?_,fun p hp hu h' c keep hDc=>?_⟩
  ·obtain⟨i,hi,rfl⟩:=cy.mp hvm;obtain⟨d,h1,h2⟩:=J.keys i hi;rw[ag hi]at h1;obtain⟨_,its,n,_,e⟩:=J.hok d _ h2;exact⟨d,_,bD h1,e,rfl⟩
  ·obtain⟨d1,a1,a2⟩:=J.keys i (by lia);obtain⟨d2,b1,b2⟩:=J.keys j (by lia);have g1:ks.getD i bq= .ref d1:=by simp[bf,a1]
   have g2:ks.getD j bq= .ref d2:=by simp[bf,b1]
   rw[g1,g2,keyLt'_oneType];obtain⟨_,its1,n1,r1,e1'⟩:=J.hok d1 _ a2;obtain⟨_,its2,n2,r2,e2'⟩:=J.hok d2 _ b2;exact HT.xgV ⟨_,e1',rfl,_,rfl⟩ ⟨_,e2',rfl,_,rfl⟩ (intsAre_of r1) (intsAre_of r2) hr.in1.in1.units0 hC
  ·have lenp:p.toList.length=vs.length:=by rw[br];exact hp.size
   have hvals:Vals (p.toList.map fun(i:Nat)=>V.int i) (p.toList.map fun i=>vs.getD i bq):=by
    refine jA (by simp) fun j x u e1 e2=>?_;rw[ak]at e1 e2;cases q:p.toList[j]? with
    |none=>rw[q]at e1;cases e1
    |some m=>
     rw[q]at e1 e2;cases e1;have hm:m<vs.length:=bp.mp (hp.perm.mem_iff.mp (az q));obtain⟨t,ht⟩:=hv m vs[m] (ag hm);have:vs.getD m bq= .int (m:Nat) t:=by simp[bf,hm,ht]
     cases e2;show RelV (.int (m:Nat)) (vs.getD m bq);rw[this];exact⟨t,rfl⟩
   have newD:xH X.prog X.w (upd G D (.lst (p.toList.map fun(i:Nat)=>V.int i))) h' D (.lst (p.toList.map fun(i:Nat)=>V.int i)):=⟨by rw[aa,lenp,av];lia,_,c,hvals,hDc⟩;have hokF:HOk X.prog X.w (upd G D (.lst (p.toList.map fun(i:Nat)=>V.int i))) h':=fun b u e=>by
    by_cases hb:b=D
    ·subst hb;rw[xk]at e;cases e;exact newD
    ·rw[xl hb]at e;refine(J.hok b u e).stay (fun c' v hc' q=>keep c' v ?_ ?_ q) (fun c' q=>by rw[xl (xA q J.fD)];exact q) fun c' xs q _=>by rw[xl (xA q J.fD)];exact q
     ·rintro rfl;rcases hc' with z|z
      ·rw[←z,J.fk]at e;cases e
      ·rw[J.fk]at z;cases z
     ·rintro rfl;rcases hc' with z|z
      ·exact hb z.symm
      ·rw[J.fD]at z;cases z
   have lt2:∀b o,s2.heap.get? b=some o→b≠D∧b≠kS:=fun b o q=>⟨ar (aw (aj q) hD),ar (aw (aj q) hk)⟩;have un2:Un (frs X.stack) [] H2 (upd G D (.lst (p.toList.map fun(i:Nat)=>V.int i))) s2.heap h':=by
    refine⟨fun b o q n1 n2 n3=>keep b o (lt2 b o q).2 (lt2 b o q).1 (J.un.keep b o q n1 n2 n3),fun b o q n1 n2 n3=>?_,fun b o q n1 n3=>by rw[xl (lt2 b o q).1];exact J.un.free b o q n1 n3,fun b o q n3=>?_,fun b u q fx=>?_⟩
    ·obtain⟨sl,e⟩:=J.un.slot b o q n1 n2 n3;exact⟨sl,keep b _ (lt2 b o q).2 (lt2 b o q).1 e⟩
    ·obtain⟨o',e⟩:=J.un.there b o q n3;exact⟨o',keep b _ (lt2 b o q).2 (lt2 b o q).1 e⟩
    ·have:=J.un.fix b u q fx;rw[xl (xA this J.fD)];exact this
   have IF:Inv X pins σ (upd G D (.lst (p.toList.map fun(i:Nat)=>V.int i))) {s' with heap:=h'}:=I.call' (s':={s' with heap:=h'}) (ch:=[]) J.os un2 hokF J.bare fun b z=>absurd z (by simp);refine fin p hp hu _ _ IF (fun b u q=>?_) xk;have:=J.same b u q;rw[xl (xA this J.fD)];exact this
 |x::r,ks,s',G,hr0,hle,J,hkS=>by
  have hlt:ks.length<vs.length:=by
   have:=congrArg cC hr0;simp at this;lia
  have hx:vs[ks.length]? =some x:=by
   have:=congrArg (fun l=>l[0]?) hr0;simp at this;exact this.symm
  have hr1:r=vs.drop (ks.length+1):=by
   have:=congrArg List.tail hr0;simpa using this
  obtain⟨t,rfl⟩:=hv _ x hx;have Iu:Inv X pins σ G s':=I.call' (s':=s') (ch:=[]) J.os J.un J.hok J.bare fun b z=>absurd z (by simp);have E0':jR X.prog X.w X.K X.mg X.base X.A.in1.in1 X.stack s' G:=by
   have e:=Iu.env0;exact⟨e.frames,e.mod,e.bs,e.bsz,e.funs,e.frf,e.hok,e.bare⟩
  unfold vA;refine fV (dq (F.run X.A.in1.in1 X.stack s' G f fv _ [.int (ks.length:Nat)] _ E0 hr.in1.in1 E0' (hc.same J.same) (.cons ⟨t,rfl⟩ .nil) (hsp ks.length hlt G J.same)) fun rr s'' hq=>?_);cases rr with
  |error e=>exact hq.elim
  |ok fl=>
   cases fl with
   |next=>exact hq.elim
   |brk=>exact hq.elim
   |cont=>exact hq.elim
   |ret u=>
    obtain⟨v,H',hos,hbare,hun,hhok,hrv,hS,d,rfl,hd⟩:=hq;cases hrv;obtain⟨e,hkSe⟩:=hkS;have hDs:D∉frs X.stack:=I.young hD;have hks:kS∉frs X.stack:=I.young hk;have kD:=hun.keep D _ J.atD J.fD hDs (by simp);have kk2:=hun.keep kS _ hkSe J.fk hks (by simp);refine⟨⟨e,kk2⟩,fun h' c keep hnew=>?_⟩;refine xiV F hr I hc hsp hv hD hk hDk h64 S fin r (ks++[.ref d]) {s'' with heap:=h'} H' (by rw[hr1,aq];rfl) (by rw[aq];exact hlt) ⟨hos.trans J.os,hbare,?_,?_,J.same.trans hS,fun i hi=>?_,keep D _ hDk kD,hun.free D _ J.atD J.fD (by simp),hun.free kS _ hkSe J.fk (by simp)⟩ ⟨c,hnew⟩
    ·have u2:=J.un.trans hun;have lt2:∀b o,s2.heap.get? b=some o→b≠kS:=fun b o q=>ar (aw (aj q) hk);refine⟨fun b o q n1 n2 n3=>keep b o (lt2 b o q) (u2.keep b o q n1 n2 n3),fun b o q n1 n2 n3=>?_,u2.free,fun b o q n3=>?_,u2.fix⟩
     ·obtain⟨sl,e⟩:=u2.slot b o q n1 n2 n3;exact⟨sl,keep b _ (lt2 b o q) e⟩
     ·obtain⟨o',e⟩:=u2.there b o q n3;exact⟨o',keep b _ (lt2 b o q) e⟩
    ·exact xfc hhok (hun.free kS _ hkSe J.fk (by simp)) fun c' o hcb q=>keep c' o hcb q
    ·rw[aq,bK]at hi
     by_cases hij:i=ks.length
     ·subst hij;exact⟨d,by rw[bI (ai _)];simp,hd⟩
     ·obtain⟨d',g1,g2⟩:=J.keys i (by lia);exact⟨d',by rw[bo (by lia)];exact g1,hS.at g2⟩
theorem xeE{lt:Nat→Nat→Bool}{n:Nat}{p:Array Nat}(hp:Pm n p)(hu:Up lt p n):p.toList.Pairwise fun i j=>lt i j=true:=by
 refine bL.mpr fun i j hi hj hij=>?_;rw[br]at hi hj;have:=hu i j hij (by rw[←hp.size];exact hj);rw[jB,jB,dh hi,dh hj]at this;simpa using this
def xrj(nm qual:Str)(params:cE)(body:dg)(scope:Scope)(sp:List (Str×V)→Sp)(ta:TA)(tf:TE):TE:=fun σ H Q=>ta σ H fun xs H1=>tf σ H1 fun y H2=>
 ∃(r f:Addr) (n:Nat) (fv:List (Str×V)) (kk:Nat→List Int),xs=[.ref r]∧y= .ref f∧H2 r=some (.rng 0 n)∧n<64∧zv H2 f nm qual params body scope fv∧
 (∀i,i<n→∀H3,xb H2 H3→sp fv [.int (i:Nat)] H3 (fun v H4=>xb H3 H4∧∃d,v= .ref d∧H4 d=some (.lst ((kk i).map V.int))) E0)∧STO (fun i j=>HT.lexLt (kk i) (kk j)) n∧
 ∀(l:Addr) (p:List Nat) (H':Hp),xb H2 H'→H2 l=none→H' l=some (.lst (p.map fun(i:Nat)=>V.int i))→p.Perm (a9 n)→(p.Pairwise fun i j=>HT.lexLt (kk i) (kk j)=true)→Q (.ref l) H'
theorem xlK{e fe:Expr}{ta:TA}{tf:TE}{p pos kp:Pos}(F:zJ X.prog X.w X.K X.mg X.base CX0 k nm qual params body scope ps sp)(hr:xW (k+2) X.A)(hc:X.calm=true)(hg:Gl X "sorted")(hm:X.mg "sorted"=none)(ha:PA X [e] ta)(hf:PE X fe tf)
  (he:cH pos (aR [e] X.env)=(false,eval e X.env)::cH pos (aR [] X.env):=by rfl):
  PE X (.Call (.Name "sorted" p) [e] [⟨some "key",fe,kp⟩] pos) (xrj nm qual params body scope sp ta tf):=by
 intro pins s σ H Q I h;refine bW (yW I hg hm xhF ?_ (by decide) (by decide));refine i7 (thn (ha pos pins s σ H _ I h) fun us s1 hh83=>?_) he (by rw[he];rfl) rfl rfl;obtain⟨xs,H1,I1,r1,q1⟩:=hh83;refine kz (thn (hf pins s1 σ H1 _ I1 q1) fun fu s2 hh84=>?_);obtain⟨y,H2,I2,r2,q2⟩:=hh84;refine kws_nil ?_;obtain⟨r,f,n,fv,kk,rfl,rfl,hrng,h64,hcl,hsp,S,q⟩:=q2;obtain⟨u,rfl,ru⟩:=Vals.one r1;cases ru;cases r2;obtain⟨t1,t2,t3,hR⟩:=I2.hok r _ hrng;show wpAny _ _ (call (.builtin "sorted") [.ref r] [(bX "key",.ref f)]) _ _ s2;refine call_function_entry_kw kind_sorted plain_sorted entry_sorted (ksk_s1 _ _) ?_;unfold ff.«sorted»;refine ae (m:=checkCount "sorted" 1 1 _) (aA ?_);have hsize:bc 0 (n:Int) 1=(n:Nat):=by rw[rangeSize_one];split<;> lia
 refine ae (xka (A:=X.A.in1) (I.ok.hd hc) hR hsize (by lia) fun g tk xs m keep hlt hget items=>?_);obtain⟨hxs,hit⟩:=items;have hxl:xs.toList.length=n:=by rw[br];exact hxs
 refine ae (fm ?_ (by rw[hxl,av];lia));have hoL:(g.push (aX "list" xs.toList.toArray 0)).get? g.objs.size=some (aX "list" xs.toList.toArray 0):=aB _ rfl;refine ae (bR (wpAny_call_entry_kw slot_list_sort ⟨_,hoL,rfl⟩ entry_list_sort ?body (ksk_l1 _ _)))
 case body=>
  show wpAny (model X.prog X.w) X.A.in1.in1 (ff.«list.sort» ⟨[.ref g.objs.size],[(bX "key",.ref f)]⟩) _ _ _;rw[ksk_t1];have h64':xs.toList.length<64:=by rw[hxl];exact h64
  have hsg:s2.heap.objs.size≤g.objs.size:=b7 hlt;refine xnd (s:={s2 with heap:=g.push (aX "list" xs.toList.toArray 0),toks:=tk}) hoL h64' fun kS e1 h' keep2 atD atk hkS=>?_;have hkS':g.objs.size<kS:=aw (by show g.objs.size<(g.push _).objs.size;rw[cI];exact c3 _) hkS;have old:∀b o,s2.heap.get? b=some o→h'.get? b=some o:=fun b o e=>keep2 b o (ar (aw (aj e) hsg)) (af _ (keep b o e));refine xiV (kk:=kk) F hr I2 hcl (fun i hi=>hsp i (by rw[hxl]at hi;exact hi)) (fun i v e=>?_) hsg (a7 hsg (b7 hkS')) (ar hkS') h64' (by rw[hxl];exact S) (fun p hp hu sF G' IF sm hDv=>?_) xs.toList [] _ H2 rfl (aJ _)
   ⟨rfl,I2.bare,Un.kept old,I2.hok.kept old,xb.refl _,fun i hi=>absurd hi (cz _),atD,I2.hok.fresh hsg,I2.hok.fresh (a7 hsg (b7 hkS'))⟩ ⟨0,atk⟩
  ·obtain⟨t,ht⟩:=hit i v (by simpa using e);exact⟨t,by rw[ht];congr 1;lia⟩
  ·rw[hxl]at hp hu;exact⟨_,rfl,aA ⟨_,rfl,.ref g.objs.size,G',IF,rfl,q _ p.toList G' sm (I2.hok.fresh hsg) hDv hp.perm (xeE hp hu)⟩⟩
end
end L2
namespace L2
open PySem
def xlL:Expr→Expr
 | .Call _ _ (k::_) _=>k.value
 |e=>e
end L2
namespace L2
open PySem PySem.Spec PyProof.Rows PySem.W
def xrk:Option (Int×Tok)→Array Value
 |none=>#[]
 |some (m,t)=>#[.int m t,.int m t]
def xr7(f:Nat→Int)(j:Nat):Option (Int×Tok)→Prop
 |none=>j=0
 |some (m,_)=>(∃i,i<j∧f i=m)∧∀i,i<j→f i≤m
def xne(f:Nat→Int)(n:Nat)(d v:Value):Prop:=(n=0→v=d)∧(0<n→∃m t,v= .int m t∧(∃i,i<n∧f i=m)∧∀i,i<n→f i≤m)
theorem xoi(a v:Value):argsOk "max" ⟨[a],[(bX "default",v)]⟩:=by unfold argsOk;kernel_rfl
section
variable {prog:aI} {w:World} {A:aU} {R:gc→ab→Prop} {I:Addr} {fp wr:List Addr} {n:Nat} {P:Nat→Value→Prop} {St:Nat→Heap→Prop}
theorem xcw(W:Walks prog w A.in1 I fp wr n P St)(f:Nat→Int)(hP:∀i v,P i v→∃t,v= .int (f i) t)(S:Addr)(hSf:S∉fp)(d:Value):∀(k j:Nat) (s:ab) (b:Option (Int×Tok)) (c:Nat),n - j=k→j≤n→St j s.heap→
  s.heap.get? S=some {cls:=.type "list",dict:=none,data:=.seq (xrk b) c,slots:=#[]}→xr7 f j b→
  (∀v h' tk,xne f n d v→(∀b o,b∉wr→b≠S→s.heap.get? b=some o→h'.get? b=some o)→R (.ok (.ret v)) {s with heap:=h',toks:=tk})→
  cW (model prog w) A (.builtin "max.loop" ⟨[.ref I,.none,.ref S],[(bX "default",d)]⟩) R s
 |0,j,s,b,c,hk,hj,hst,hS,hb,hR=>by
  have hin:j=n:=by lia
  subst hin;have hSw:S∉wr:=fun h=>hSf (W.sub _ h);refine cV F.entry_max_loop ?_;rw[c7 eK _];show wpAny _ A.in1 (gZ (.ref S) >>= _) _ _ s;refine ae (dC hS rfl ?_);show wpAny _ A.in1 (tryCatch (gx (.ref I)) _ >>= _) _ _ s;refine ae (dD (W.done s _ _ hst fun h' tk hk'=>?_));have hS':=hk' S _ hSw hS;cases b with
  |none=>
   cases hb;exact ae (m:=rule _) (gE (aA (hR d _ tk ⟨fun _=>rfl,fun q=>absurd q (bQ _)⟩ fun b o hbw _ e=>hk' b o hbw e)))
  |some p=>
   obtain⟨m,t⟩:=p;show wpAny _ A.in1 (fP S (fun _=>#[]) >>= _) _ _ _;refine ae (cU hS' rfl (ae (di (aA ?_))) (by show(2:Nat)≤_;decide));refine hR _ _ tk ⟨fun q=>?_,fun _=>⟨m,t,rfl,hb⟩⟩ fun b o hbw hbS e=>(bA _ _ (a8 hbS)).trans (hk' b o hbw e);obtain⟨⟨i,hi,_⟩,_⟩:=hb;lia
 |k+1,j,s,b,c,hk,hj,hst,hS,hb,hR=>by
  have hlt:j<n:=by lia
  have hSw:S∉wr:=fun h=>hSf (W.sub _ h);have hname:(toString "max"++toString ".loop":String)="max.loop":=by decide
  refine cV F.entry_max_loop ?_;rw[c7 eK _];show wpAny _ A.in1 (gZ (.ref S) >>= _) _ _ s;refine ae (dC hS rfl ?_);show wpAny _ A.in1 (tryCatch (gx (.ref I)) _ >>= _) _ _ s;refine ae (dD (W.item j s _ _ hlt hst fun v h' tk hv hst' hk'=>?_));have hS':=hk' S _ hSw hS;obtain⟨t,rfl⟩:=hP _ _ hv;have turned:∀(g:Array Value→Array Value),(∀b∈fp,∀o,h'.get? b=some o→(h'.update S (aW g)).get? b=some o):=fun g b hbf o e=>(bA _ _ (fun h:S=b=>hSf (by rw[h];exact hbf))).trans e;cases b with
  |none=>
   cases hb;show wpAny _ A.in1 (fP S (fun _=>#[.int (f 0) t,.int (f 0) t]) >>= _) _ _ _;refine ae (cU hS' rfl ?_);rw[hname];refine aA ⟨cf eK _,xcw W f hP S hSf d k 1 _ (some (f 0,t)) (c+1) (by lia) (by lia) (W.frame _ _ _ hst' (turned _)) ?_ ⟨⟨0,by lia,rfl⟩,fun i hi=>?_⟩ fun v' h'' tk'' ho hk''=>?_⟩
   ·exact(cJ _ hS' rfl).trans rfl
   ·rw[show i=0 by lia];exact gS _
   exact hR v' h'' tk'' ho fun b o hbw hbS e=>hk'' b o hbw hbS ((bA _ _ (a8 hbS)).trans (hk' b o hbw e))
  |some p=>
   obtain⟨m,u⟩:=p;obtain⟨⟨i0,hi0,e0⟩,hle⟩:=hb;show wpAny _ A.in1 (tryCatch (fc [.int (f j) t,.int (f j) t] (richCompare .Gt (.int (f j) t) (.int m u) >>= _)) _ >>= _) _ _ _;have hcmp:=CmpOf.ints_gt (prog:=prog) (w:=w) (A:=A.in1) (P:=fun i v=>∃t,v= .int (if i=0 then f j else m) t) (fun i=>if i=0 then f j else m) (fun i v e=>e);refine ae (dD (bR (ae (hcmp 0 1 _ _ _ _ _ ⟨t,rfl⟩ ⟨u,rfl⟩ ?_))));refine ae (bR (cq ?_));refine ae (di (aA ?_))
   by_cases hb:f j > m
   ·show wpAny _ _ (if decide (f j > m)=true then _ else _) _ _ _;rw[if_pos (decide_eq_true hb)];refine ae (cU hS' rfl (ae (di ?_)) (by show(2:Nat)≤_;decide));rw[hname];obtain⟨c',e'⟩:∃c',(h'.update S (aW fun _=>#[.int (f j) t,.int (f j) t])).get? S=some {cls:=.type "list",dict:=none,data:=.seq #[.int (f j) t,.int (f j) t] c',slots:=#[]}:=⟨_,cJ _ hS' rfl⟩;refine aA ⟨cf eK _,xcw W f hP S hSf d k (j+1) _ (some (f j,t)) c' (by lia) hlt (W.frame _ _ _ hst' (turned _)) e' ⟨⟨j,by lia,rfl⟩,fun i hi=>?_⟩ fun v' h'' tk'' ho hk''=>?_⟩
    ·by_cases q:i=j
     ·subst q;exact gS _
     ·have:=hle i (by lia);lia
    ·exact hR v' h'' tk'' ho fun b o hbw hbS e=>hk'' b o hbw hbS ((bA _ _ (a8 hbS)).trans (hk' b o hbw e))
   ·show wpAny _ _ (if decide (f j > m)=true then _ else _) _ _ _;rw[if_neg (by rw[decide_eq_false hb];exact aH)];refine ae (di ?_);rw[hname];refine aA ⟨cf eK _,xcw W f hP S hSf d k (j+1) _ (some (m,u)) c (by lia) hlt hst' hS' ⟨⟨i0,by lia,e0⟩,fun i hi=>?_⟩ fun v' h'' tk'' ho hk''=>hR v' h'' tk'' ho fun b o hbw hbS e=>hk'' b o hbw hbS (hk' b o hbw e)⟩
    by_cases q:i=j
    ·subst q;lia
    ·exact hle i (by lia)
theorem xoj{E:Value→ab→Prop}{s:ab}{l:Addr}{xs:Array (Int×Tok)}{d:Value}{Q:Value→ab→Prop}(hh:A.handled=none)(hl:s.heap.IsList l (gO xs))
  (h:∀v h' tk,xne (numAt xs) xs.size d v→(∀b o,s.heap.get? b=some o→h'.get? b=some o)→Q v {s with heap:=h',toks:=tk}):
  wpAny (model prog w) A (call (.builtin "max") [.ref l] [(bX "default",d)]) Q E s:=by
 have hname:(toString "max"++toString ".loop":String)="max.loop":=by decide
 refine kmk_tree F.kind_max F.plain_max F.entry_max (xoi _ _) ?_;show wpAny _ A.in1 (dI "max" ["key","default"] 0 ⟨[],[(bX "default",d)]⟩ >>= _) _ _ s;refine ae (i8 (show dI "max" ["key","default"] 0 ⟨[],[(bX "default",d)]⟩=pure [none,some d]from rfl) ?_);refine ae (aA (ae (iter_intList hl fun s₂ e st hfp hlI=>?_)));subst e;refine ae (eZ ?_);rw[hname];have W:=iq (prog:=prog) (w:=w) (A:=A.in1) hh s.heap.objs.size l hlI (gO xs);have hsz:(gO xs).size=xs.size:=by simp[gO]
 refine aA ⟨cf eK _,xcw W (numAt xs) (fun i v e=>intItems_at e) _ (fun hm=>bQ _ (hfp _ hm)) d _ 0 _ none 0 rfl (aJ _) (W.frame _ _ _ st fun b _ o e=>af _ e) (aB _ rfl) rfl fun v h' tk ho hk=>?_⟩;rw[hsz]at ho;exact h v h' tk ho (old_kept fun b o hbw e=>hk b o hbw (ar (aj e)) (af _ e))
end
section
variable {X:Cx}
def xr8(K:ah)(ta:TA)(tf:TE):TE:=fun σ H Q=>ta σ H fun xs H1=>tf σ H1 fun y H2=>
 ∃(l:Addr) (ns:List Int) (z:Int),xs=[.ref l]∧y= .int z∧SqL K H2 l (ns.map V.int)∧∀m,(ns=[]→m=z)→(ns≠[]→m∈ns∧∀a∈ns,a≤m)→Q (.int m) H2
theorem xkY{e fe:Expr}{ta:TA}{tf:TE}{p pos kp:Pos}(hc:X.calm=true)(hg:Gl X "max")(hm:X.mg "max"=none)(ha:PA X [e] ta)(hf:PE X fe tf)
  (he:cH pos (aR [e] X.env)=(false,eval e X.env)::cH pos (aR [] X.env):=by rfl):
  PE X (.Call (.Name "max" p) [e] [⟨some "default",fe,kp⟩] pos) (xr8 X.K ta tf):=by
 intro pins s σ H Q I h;refine bW (yW I hg hm xb7 ?_ (by decide) (by decide));refine i7 (thn (ha pos pins s σ H _ I h) fun us s1 hh85=>?_) he (by rw[he];rfl) rfl rfl;obtain⟨xs,H1,I1,r1,q1⟩:=hh85;refine kz (thn (hf pins s1 σ H1 _ I1 q1) fun fu s2 hh86=>?_);obtain⟨y,H2,I2,r2,q2⟩:=hh86;refine kws_nil ?_;obtain⟨l,ns,z,rfl,rfl,hl,q⟩:=q2;obtain⟨u,rfl,ru⟩:=Vals.one r1;cases ru;obtain⟨tz,rfl⟩:=r2;obtain⟨its,r',pl,hz⟩:=I2.list hl;have hi:=intsAre_of r';have hL:=pl.isList;have hn:=hi.numsOf;obtain⟨ys,e⟩:=hi.allInts.items;rw[e]at hL;have e2:numsOf its=numsOf (gO ys).toList:=by rw[←e]
 rw[e2,kH]at hn;have hlen:=congrArg cC hn;rw[aa,br]at hlen;show wpAny _ _ (call (.builtin "max") [.ref l] [(bX "default",.int z tz)]) _ _ s2;refine xoj (I.ok.hd hc) hL fun v h' tk ho hk=>?_
 by_cases hne:ns=[]
 ·have h0:ys.size=0:=by rw[hlen,hne];rfl
  have:=ho.1 h0;subst this;exact⟨.int z,H2,I2.kept (t':=tk) hk,⟨tz,rfl⟩,q z (fun _=>rfl) fun x=>absurd hne x⟩
 ·have hpos:0<ns.length:=cF.mpr hne;obtain⟨m,t,rfl,⟨i,hi',ei⟩,hle⟩:=ho.2 (by omega);refine⟨.int m,H2,I2.kept (t':=tk) hk,⟨t,rfl⟩,q m (fun x=>absurd x hne) fun _=>⟨?_,fun a ha'=>?_⟩⟩
  ·rw[←hn,←ei,numAt_eq];exact getD_mem (by rw[aa,br];omega)
  ·rw[←hn]at ha';obtain⟨j,hj,rfl⟩:=mem_getD ha';rw[aa,br]at hj;rw[←numAt_eq];exact hle j hj
end
end L2
namespace L2
open PySem PySem.Spec PyProof.Rows PySem.W
structure xfd(K:ah)(x qual:Str)(st:Stmt)(f:Addr)(fd:ay)(ds:List Value):Prop where
 ex:∃(oc:Value) (od:Option Addr) (dT:Addr) (o:Obj) (n:Nat) (kV doc pm:Value) (an:Option Addr) (cdv ct:Value) (osl:Array (Option Value)),
  fd=cT x qual (xY st) (xO st) (xj st) (.ref dT) kV doc pm an cdv ct∧K.lookup f=some ⟨oc,od,.func fd,osl⟩∧du K cdv qual=true∧K.lookup dT=some o∧o.data= .seq ds.toArray n
 kp:cZ K (.ref f)=true
section
variable {P:aI} {w:World} {K:ah} {mg:Str→Option Value} {base:Heap}
theorem xfd.ok{x qual:Str}{st:Stmt}{f:Addr}{fd:ay}{ds:List Value}{N ps:List Str}{k:Nat}{sp:Sp}(F:xfd K x qual st f fd ds)(S:xp N ps (xj st))(len:∀vs H Q E,sp vs H Q E→vs.length=ps.length)
  (hbody:∀(cdv:Value) (A:aU) (outer:List Env) (s:ab) (H:Hp) (vs:List V) (Q:VK) (E:XK),xW k (A.deeper (gd qual (xj st) s.heap.objs.size f cdv))→sp vs H Q E→
   ∃t,PSs (xco CX0 P w K mg base N qual (xj st) f cdv A outer s H E).nox (xO st) t∧t {nx:=fun _ H'=>Q .non H',rt:=Q} (start N vs) H):xv P w K mg base CX0 (k+1) f fd ps sp:=by
 obtain⟨oc,od,dT,o,n,kV,doc,pm,an,cdv,ct,osl,rfl,lk,hcd,_⟩:=F.ex;refine xo8 lk hcd S len fun A outer s H vs Q E hr hsp=>?_;obtain⟨t,h,q⟩:=hbody cdv A outer s H vs Q E hr hsp;exact⟨t,h.nox,q⟩
theorem xfd.binds{x qual:Str}{st:Stmt}{f:Addr}{fd:ay}{ps:List Str}{ds es:List Value}(F:xfd K x qual st f fd ds)(n:Nat)(hn:n+es.length=ps.length)
  (h:∀(dT:Addr) (kV doc pm:Value) (an:Option Addr) (cdv ct:Value) (us:List Value),us.length=n→
   ∃k:Option (Array Value)→Sem (List (Str×Value)),fi (cT x qual (xY st) (xO st) (xj st) (.ref dT) kV doc pm an cdv ct) ⟨us,[]⟩=gZ (.ref dT) >>= k∧k (some ds.toArray)=pure (ps.zip (us++es))):Binds K fd ps es:=by
 obtain⟨oc,od,dT,o,n,kV,doc,pm,an,cdv,ct,osl,rfl,lk,hcd,ho,hs⟩:=F.ex;intro s us X hl;obtain⟨k,h1,h2⟩:=h dT kV doc pm an cdv ct us (by rw[aq]at hl;lia);exact binds_K X rfl ho hs h1 h2
theorem xkZ{x qual:Str}{st:Stmt}{f dT:Addr}{oc:Value}{od an dod:Option Addr}{osl dsl:Array (Option Value)}{kV doc pm cdv ct dc:Value}{ds:List Value}{n:Nat}(l:K.lookup f=some ⟨oc,od,.func (cT x qual (xY st) (xO st) (xj st) (.ref dT) kV doc pm an cdv ct),osl⟩)
  (c:du K cdv qual=true) (k:cZ K (.ref f)=true) (d:K.lookup dT=some ⟨dc,dod,.seq ds.toArray n,dsl⟩):xfd K x qual st f (cT x qual (xY st) (xO st) (xj st) (.ref dT) kV doc pm an cdv ct) ds:=
 ⟨⟨oc,od,dT,_,n,kV,doc,pm,an,cdv,ct,osl,rfl,l,c,d,rfl⟩,k⟩
end
end L2
namespace L2
open PySem PySem.Spec PyProof.Rows
section
variable {X:Cx} {EE:EEs}
section
variable {pins ps:List (Addr×Obj)} {σ:St} {H:Hp} {s:ab}
end
theorem xpQ{h₀:ExceptHandler}{hs:List ExceptHandler}{pos:Pos}{body:List Stmt}{tb:TS}(hx:X.xe=fun _ _=>False)(hbody:PSs X body tb):PS X (.Try body (h₀::hs) [] [] pos) tb:=by
 intro pins s σ H D I h;refine wpAny_Try_except (aY (hbody pins s σ H D I h) (fun f s1 hq=>?_) fun e s1 z=>?_)
 ·cases f with
  |next=>exact fF hq
  |brk=>exact hq
  |cont=>exact hq
  |ret u=>exact hq
 ·rw[hx]at z;exact z.elim
end
end L2
namespace L2
open PySem PySem.Spec PyProof.Rows
section
variable {prog:aI} {w:World} {A:aU} {E:Value→ab→Prop} {s:ab}
theorem xrl{j t:Addr}{i:Nat}{its:Array Value}{x:Value}{Q:Value→ab→Prop}(hj:s.heap.IsTupleIter j t i)(ht:s.heap.IsTuple t its)(hx:its[i]? =some x)
  (q:∀h',h'.IsTupleIter j t (i+1)→gv j s.heap h'→Q x {s with heap:=h'}):wpAny (model prog w) A (d6 (.ref j)) Q E s:=by
 obtain⟨oj,ej,cj,dj⟩:=id hj;obtain⟨ot,et,_,nt,dt⟩:=ht;unfold d6;refine ae (fY (name:=bX "__next__") hj.typeIs dS (iN dS hj.typeIs g7 ?_ (gQ _)));show wpAny _ _ (field (.ref j) 0 >>= _) _ _ s;refine ae (gT ej dj (x:=.ref t) rfl ?_);show wpAny _ _ (if (bb t==bq)=true then _ else _) _ _ s;rw[if_neg (show¬((bb t==bq)=true)from aH)];show wpAny _ _ (field (.ref j) 1 >>= _) _ _ s;refine ae (gT ej dj (x:=.int i 0) rfl ?_);show wpAny _ _ (gZ (.ref t) >>= _) _ _ s;refine ae (dC et dt ?_);simp only[bP,hx];refine ae (wpAny_setField ej dj (by simp) (aA ⟨x,rfl,aA (q _ ?_ (bY ..))⟩));exact⟨_,cJ _ ej (Obj.isFreed_of_fields (Obj.data_mapFields dj _)),(Obj.cls_mapFields ..).trans cj,by rw[Obj.data_mapFields dj];simp[cY]⟩
theorem xhL{j t:Addr}{i:Nat}{its:Array Value}{Q:Value→ab→Prop}(hh:A.handled=none)(hj:s.heap.IsTupleIter j t i)(ht:s.heap.IsTuple t its)(hx:its[i]? =none)
  (q:∀h' e,lz j s.heap h'→(∃o,h'.get? e=some o∧o.cls= .type "StopIteration")→E (.ref e) {s with heap:=h'}):wpAny (model prog w) A (d6 (.ref j)) Q E s:=by
 obtain⟨oj,ej,cj,dj⟩:=id hj;obtain⟨ot,et,_,nt,dt⟩:=ht;unfold d6;refine ae (fY (name:=bX "__next__") hj.typeIs dS (iN dS hj.typeIs g7 ?_ (gQ _)));show wpAny _ _ (field (.ref j) 0 >>= _) _ _ s;refine ae (gT ej dj (x:=.ref t) rfl ?_);show wpAny _ _ (if (bb t==bq)=true then _ else _) _ _ s;rw[if_neg (show¬((bb t==bq)=true)from aH)];show wpAny _ _ (field (.ref j) 1 >>= _) _ _ s;refine ae (gT ej dj (x:=.int i 0) rfl ?_);show wpAny _ _ (gZ (.ref t) >>= _) _ _ s;refine ae (dC et dt ?_);simp only[bP,hx];refine ae (gE (ae (wpAny_setField ej dj (by simp) ?_)));show wpAny _ _ (newExc (.type "StopIteration") [] >>= _) _ _ _;refine ae ?_;simp only[newExc,newTuple];refine ae (eZ ?_ (by size_fits));refine ae (m:=firstArgMember _ _) (i8 (a:=bq) (by first|rfl|(simp only[firstArgMember];rfl)) ?_);refine eZ ?_ (by size_fits);simp only[raiseNew];refine ae (wpAny_handled ?_);first|rw[show A.in1.handled=none from hh]|rw[hh]
 refine ae (aA (wpAny_throw ?_));exact q _ _ (((bY ..).extBut.push _).push _) ⟨_,aB _ rfl,rfl⟩
theorem xnf(hh:A.handled=none)(j t:Addr)(hne:t≠j)(its:Array Value):Draws prog w A j [j,t] its.size (fun i v=>its[i]? =some v) (fun i h=>h.IsTupleIter j t i∧h.IsTuple t its) where
 live:=fun _ _ st=>let⟨o,ho,_⟩:=st.1;⟨o,ho⟩
 frame:=fun _ _ _ ⟨⟨o,e,r⟩,o2,e2,r2⟩ hk=>⟨⟨o,hk j (by simp) o e,r⟩,o2,hk t (by simp) o2 e2,r2⟩
 item:=fun i s Q E hi st q=>by
  refine xrl st.1 st.2 (x:=its[i]) (by simp[hi]) fun h' hj' hs'=>q _ h' s.toks (by simp[hi]) ⟨hj',?_⟩ hs';obtain⟨o2,e2,r2⟩:=st.2;exact⟨o2,(hs'.2 t hne).trans e2,r2⟩
 done:=fun s Q E st q=>xhL hh st.1 st.2 (by simp) q
end
set_option maxHeartbeats 8000000 in
theorem xng(l:Addr)(its:Array Value)(n:Nat)(dct:Option Addr)(sl:Array (Option Value)):
  Meets (ff.«enumerate.__new__» ⟨[.type "enumerate",.ref l],[]⟩) (fun _ R s=>s.heap.get? l=some {cls:=.type "tuple",dict:=dct,data:=.seq its n,slots:=sl}∧
   R (.ok (.ret (.ref (s.heap.push {cls:=.type "tuple_iterator",data:=.fields #[.ref l,.int 0 0]}).objs.size)))
    {s with heap:=(s.heap.push {cls:=.type "tuple_iterator",data:=.fields #[.ref l,.int 0 0]}).push {cls:=.type "enumerate",data:=.fields #[.none,.bool false,.ref s.heap.objs.size,cY 0,.none,.none]}}):=
 .of_wp fun prog w A R s h=>by
  obtain⟨hp,g,d,tk,os⟩:=s;obtain⟨el,h⟩:=h;have hsub:=sub_enumerate;have hL:Heap.IsTuple (Shared.heap ⟨hp,g,d,tk,os⟩) l its:=⟨_,el,rfl,n,rfl⟩
  wp_walk using fT el
  refine wpAny_stack_any fun st=>aA ?_
  split
  ·rename_i c _ _ _ _ _;cases (c==cG "enumerate")<;> (wp_walk using fT el,gX hL;exact⟨_,rfl,h⟩)
  ·wp_walk using fT el,gX hL;exact⟨_,rfl,h⟩
section
variable {prog:aI} {w:World} {A:aU} {E:Value→ab→Prop} {s:ab}
theorem xlM{l:Addr}{its:Array Value}{Q:Value→ab→Prop}(hL:s.heap.IsTuple l its)
  (q:∀h',iH h' (s.heap.objs.size+1) s.heap.objs.size 0 .none→h'.IsTupleIter s.heap.objs.size l 0→(∀b o,s.heap.get? b=some o→h'.get? b=some o)→Q (.ref (s.heap.objs.size+1)) {s with heap:=h'}):
  wpAny (model prog w) A (call (.type "enumerate") [.ref l]) Q E s:=by
 obtain⟨⟨c,dct,dt,sl⟩,el,hc,n,hd⟩:=hL;cases (show c= .type "tuple" from hc);cases (show dt= .seq its n from hd);refine callType_new F.called_enumerate (by decide) (F.typeCall_enumerate_1 _) (F.newCall_enumerate_1 _) (fun obj=>F.args_object_init_2 obj _) j8 (xng l its n dct sl) ⟨el,?_⟩;generalize hO:({cls:=.type "tuple_iterator",data:=.fields #[.ref l,.int 0 0]}:Obj)=oi;have hz:(s.heap.push oi).objs.size=s.heap.objs.size+1:=cI ..;have f0:oi.isFreed=false:=by rw[←hO];rfl
 show _∧_;rw[hz];have he:iH ((s.heap.push oi).push {cls:=.type "enumerate",data:=.fields #[.none,.bool false,.ref s.heap.objs.size,cY 0,.none,.none]}) (s.heap.objs.size+1) s.heap.objs.size 0 .none:=by
  have e:=aB (s.heap.push oi) (o:={cls:=.type "enumerate",data:=.fields #[.none,.bool false,.ref s.heap.objs.size,cY 0,.none,.none]}) rfl;rw[hz]at e;exact e
 refine⟨⟨_,he,rfl⟩,q _ he ⟨oi,af _ (aB _ f0),by rw[←hO],by rw[←hO];rfl⟩ fun b o x=>af _ (af _ x)⟩
theorem xpR{e j t:Addr}{i:Nat}{k:Int}{its:Array Value}{old:Value}{Q:Option Value→ab→Prop}(hh:A.handled=none)(he:iH s.heap e j k old)(hj:s.heap.IsTupleIter j t i)(ht:s.heap.IsTuple t its)(hx:its[i]? =none)
  (q:∀h',lz j s.heap h'→Q none {s with heap:=h'}):wpAny (model prog w) A (gx (.ref e)) Q E s:=by
 have hT:s.TypeIs (.ref e) "enumerate":=⟨_,he,rfl⟩;unfold gx;refine ae (kK (fY (name:=bX "__next__") hT j9 (iN j9 hT F.entry_enumerate_next ?_ (F.args_enumerate_next_1 _))));show wpAny _ _ (field (.ref e) 2 >>= _) _ _ _;refine ae (gT he rfl (x:=.ref j) rfl ?_);refine ae (xhL hh hj ht hx fun h' x eb hh87=>?_);obtain⟨o,ho,hc⟩:=hh87;refine ae (wpAny_isInstance (T:="StopIteration") (b:=true) ⟨o,ho,hc⟩ isSubtype_stop ?_);exact aA (q _ eb)
end
def xok(K:ah)(a:Addr):It:=
 ⟨fun i H=>∃xs x,SqT K H a xs∧xs[i]? =some x,fun i H v H'=>∃T x,v= .ref T∧H T=none∧H'=upd H T (.tup [.int i,x])∧∀xs,SqT K H a xs→xs[i]? =some x,fun i H=>∃xs,SqT K H a xs∧xs.length≤i⟩
theorem xlN{P:aI}{w:World}{K:ah}{es:List Expr}{k:Nat}{pos:Pos}(a e it:Addr)(hne:e≠it):Turn P w K (.Tuple es k pos) (xok K a) [e,it] e (fun i h=>(∃old,iH h e it (i:Nat) old)∧h.IsTupleIter it a i) where
 mem:=by simp
 obj:=fun i h st b hb=>by
  obtain⟨⟨old,he⟩,⟨o,e1,c,d⟩⟩:=st;rcases ao.mp hb with z|z
  ·subst z;exact⟨_,he,fun v z=>by cases z⟩
  ·rw[ax.mp z];exact⟨o,e1,fun v z=>by rw[d]at z;cases z⟩
 keep:=fun i h h' st kk=>by
  obtain⟨⟨old,he⟩,⟨o,e1,r⟩⟩:=st;exact⟨⟨old,kk e (by simp) _ he⟩,⟨o,kk it (by simp) o e1,r⟩⟩
 item:=by
  intro X hP hw hK hc i pins s σ H E I hf st hg;subst hP hw hK;obtain⟨xs,x,hq,hx⟩:=hg;obtain⟨its,rv,p,hz⟩:=I.tuple hq;obtain⟨u,hu,ru⟩:=rv.get hx;obtain⟨⟨old,he⟩,hit⟩:=st;have he':=aj he;have hi':it<s.heap.objs.size:=by obtain⟨o,q,_⟩:=hit;exact aj q
  have p':s.heap.IsTuple a its.toArray:=p;have hai:a≠it:=fun z=>by
   obtain⟨o,e1,c,d⟩:=hit;obtain⟨o2,e2,c2,_⟩:=p';rw[z,e1]at e2;cases e2;rw[c]at c2;injection c2 with c2;exact absurd c2 (by decide)
  have hae:e≠a:=fun z=>by
   obtain⟨o2,e2,c2,_⟩:=p';have he2:s.heap.get? e=_:=he;rw[z,e2]at he2;cases he2;injection c2 with c2;exact absurd c2 (by decide)
  have hlt:i<its.toArray.size:=by simpa using(au.mp hu).1
  refine iT (xnf (A:=X.A.in1) (I.ok.hd hc) it a hai its.toArray) he ⟨hit,p'⟩ hlt hne (by simp[hne,hae]) fun x2 h' tk px heo st' hT hsz hk=>?_;have ex:x2=u:=by
   have:its.toArray[i]? =some u:=by simpa using hu
   rw[this]at px;cases px;rfl
  subst ex;refine⟨_,rfl,fq (s:={s with heap:=h',toks:=tk+1}) heo fun h2 he2 hs2=>?_⟩;have hT2:h2.get? s.heap.objs.size=some {cls:=.type "tuple",data:=.seq #[.int i tk,x2]}:=(hs2.2 _ (dG he')).trans hT;have I2:Inv X pins σ (upd H s.heap.objs.size (.tup [.int i,x])) {s with heap:=h2,toks:=tk+1}:=by
   refine I.turnLaid (ch:=[e,it]) (fun b o hb q=>?_) (ai _) ⟨by simp[av],[.int i tk,x2],.cons ⟨_,rfl⟩ (.cons ru .nil),⟨_,hT2,rfl,_,rfl⟩⟩ (fun b hb=>(hf b hb).1) (fun b hb=>?_) fun b hb=>?_
   ·have b1:b≠e:=fun z=>hb (by simp[z]);have b2:b≠it:=fun z=>hb (by simp[z]);exact(hs2.2 b b1).trans (hk b o b1 b2 q)
   ·rcases ao.mp hb with z|z
    ·rw[z];exact he'
    ·rw[ax.mp z];exact hi'
   ·obtain⟨f0,f1,f2,f3,f4,f5⟩:=hf b hb;exact⟨f3,f1,f4,f5⟩
  refine⟨.ref s.heap.objs.size,_,I2,rfl,⟨_,x,rfl,I.hok.fresh (ai _),rfl,fun ys hy=>by rw[I.tuple_inj hy hq];exact hx⟩,⟨⟨x2,by simpa using he2⟩,?_⟩,fun b hb=>?_⟩
  ·obtain⟨⟨o,e1,r⟩,_⟩:=st';exact⟨o,(hs2.2 it (a8 hne)).trans e1,r⟩
  have hb':b≠s.heap.objs.size:=by
   rcases ao.mp hb with z|z
   ·rw[z];exact ar he'
   ·rw[ax.mp z];exact ar hi'
  rw[xl hb'];exact(hf b hb).1
 done:=by
  intro X hP hw hK hc i pins s σ H E I hf st hg;subst hP hw hK;obtain⟨xs,hq,hx⟩:=hg;obtain⟨its,rv,p,hz⟩:=I.tuple hq;obtain⟨⟨old,he⟩,hit⟩:=st;obtain⟨f0,f1,f2,f3,f4,f5⟩:=hf it (by simp);have hl:=rv.length;exact xpR (I.ok.hd hc) he hit p (by simp;lia) fun h' eb=>⟨rfl,I.turned (t':=s.toks) (fun b o hb e=>eb b o hb e) f0 f1 f3 f4 f5⟩
 self:=fun _ _ _ _ _ st h=>by
  obtain⟨⟨old,he⟩,_⟩:=st;exact dX he h
section
variable {X:Cx} {es:List Expr} {k:Nat} {tp:Pos}
def xrm(K:ah)(ta:TA):TI:=fun σ H R=>ta σ H fun vs H1=>∃a,vs=[.ref a]∧(∃xs,SqT K H1 a xs)∧R (xok K a) H1
theorem xol{l:Expr}{ta:TA}{p pos:Pos}(hg:Gl X "enumerate")(hm:X.mg "enumerate"=none)(ha:PA X [l] ta)(hs:aR [l] X.env=[(false,eval l X.env)]:=by rfl):PI X (.Tuple es k tp) (.Call (.Name "enumerate" p) [l] [] pos) (xrm X.K ta):=by
 intro pins s σ H R I h;refine Call_ (yW I hg hm xaD (bM (thn (ha pos pins s σ H _ I h) fun us s1 hh88=>?_) hs rfl));obtain⟨vs,H1,I1,r1,q1⟩:=hh88;obtain⟨a,e,⟨xs,hq⟩,q⟩:=q1;subst e;obtain⟨u,rfl,ru⟩:=Vals.one r1;cases ru;obtain⟨its,rv,pl,hz⟩:=I1.tuple hq;refine xlM (show s1.heap.IsTuple a its.toArray from pl) fun h' he hi hk=>dX (s:={s1 with heap:=h'}) he ?_;refine⟨s1.heap.objs.size+1,[s1.heap.objs.size+1,s1.heap.objs.size],_,_,H1,rfl,I1.kept (t':=s1.toks) hk,xlN a _ _ (iI _),⟨⟨.none,by simpa using he⟩,hi⟩,fun b hb=>?_,q⟩;rcases ao.mp hb with z|z
 ·rw[z];exact I1.fpOk (c6 _) (I1.hok.fresh (c6 _))
 ·rw[ax.mp z];exact I1.fpOk (ai _) (I1.hok.fresh (ai _))
theorem xkg{K:ah}{l:Addr}{xs:List V}{g:TG}{tb:TS}{D:Ends}{σ:St}{H:Hp}(Pv:Nat→St→Hp→Prop)(h0:Pv 0 σ H)(hl:∀i σ H,i≤xs.length→Pv i σ H→SqT K H l xs)
  (hs:∀i x σ H T,xs[i]? =some x→Pv i σ H→H T=none→g (.ref T) σ (upd H T (.tup [.int i,x])) fun σ2 H2=>tb {D with nx:=Pv (i+1),ct:=Pv (i+1),bk:=D.nx} σ2 H2) (hd:∀σ H,Pv xs.length σ H→D.nx σ H):zu (xok K l) g tb D σ H:=by
 unfold zu;refine⟨fun i m σ H=>m=xs.length - i∧i≤xs.length∧Pv i σ H,⟨xs.length,by simp,aJ _,h0⟩,?_⟩;rintro i m σ H ⟨rfl,hi,p⟩;have hq:=hl i σ H hi p
 by_cases hlt:i<xs.length
 ·have hx:xs[i]? =some xs[i]:=ag hlt;refine .inr ⟨⟨xs,xs[i],hq,hx⟩,Pv (i+1),fun σ' H' p'=>⟨xs.length - (i+1),by lia,rfl,hlt,p'⟩,fun v H' y=>?_⟩;obtain⟨T,x,rfl,hT,rfl,hx'⟩:=y;have:=hx' xs hq;exact hs i x σ H T this p hT
 ·have e:i=xs.length:=by lia
  subst e;exact .inl ⟨⟨xs,hq,ai _⟩,hd σ H p⟩
theorem xeF{K:ah}{l:Addr}{xs:List V}{g:TG}{tb:TS}{D:Ends}{σ:St}{H:Hp}(Pv:Nat→St→Hp→Prop)(h0:Pv 0 σ H)(hl:∀i σ H,i≤xs.length→Pv i σ H→SqL K H l xs)
  (hs:∀i x σ H T,xs[i]? =some x→Pv i σ H→H T=none→g (.ref T) σ (upd H T (.tup [.int i,x])) fun σ2 H2=>tb {D with nx:=Pv (i+1),ct:=Pv (i+1),bk:=D.nx} σ2 H2) (hd:∀σ H,Pv xs.length σ H→D.nx σ H):zu (Ite K l) g tb D σ H:=by
 unfold zu;refine⟨fun i m σ H=>m=xs.length - i∧i≤xs.length∧Pv i σ H,⟨xs.length,by simp,aJ _,h0⟩,?_⟩;rintro i m σ H ⟨rfl,hi,p⟩;have hq:=hl i σ H hi p
 by_cases hlt:i<xs.length
 ·have hx:xs[i]? =some xs[i]:=ag hlt;refine .inr ⟨⟨xs,xs[i],hq,hx⟩,Pv (i+1),fun σ' H' p'=>⟨xs.length - (i+1),by lia,rfl,hlt,p'⟩,fun v H' y=>?_⟩;obtain⟨T,x,rfl,hT,rfl,hx'⟩:=y;have:=hx' xs hq;exact hs i x σ H T this p hT
 ·have e:i=xs.length:=by lia
  subst e;exact .inl ⟨⟨xs,hq,ai _⟩,hd σ H p⟩
end
end L2
namespace L2
open PySem PySem.Spec PyProof.Rows PySem.W
section
variable {prog:aI} {w:World} {A:aU} {E:Value→ab→Prop} {s:ab} {K:Frag} {x D:Addr} {ox:Obj} {od:Obj}
end
section
variable {X:Cx}
end
section
variable {X:Cx}
end
section
variable {P:aI} {w:World} {K:ah} {mg:Str→Option Value} {base:Heap}
end
section
variable {X:Cx} {EE:EEs} {k:Nat} {f C:Addr} {fd:ay} {ps:List Str} {sp:Sp} {dvs:List V} {ds:List Value} {x m:Str} {p pos apos:Pos} {e o:Expr} {es:List Expr} {ta:TE} {t:TA}
end
def FnV(P:aI)(w:World)(K:ah)(mg:Str→Option Value)(base:Heap)(k:Nat)(H:Hp)(f:Addr)(vs:List V)(Q:VK):Prop:=
 ∃nm qual params body scope ps sp fv,zJ P w K mg base CX0 k nm qual params body scope ps sp∧zv H f nm qual params body scope fv∧sp fv vs H Q E0
section
variable {X:Cx} {k:Nat} {x:Str} {p pos:Pos} {e:Expr} {es:List Expr} {t:TA}
def xrn(X:Cx)(k:Nat)(i:Nat)(t:TA):TE:=fun σ H Q=>∃f,σ[i]? =some (some (.ref f))∧(∃nm qual params body scope fv,zv H f nm qual params body scope fv)∧t σ H fun vs H1=>FnV X.prog X.w X.K X.mg X.base k H1 f vs Q
theorem xom(i:Nat)(hr:xW k X.A)(ha:PA X (e::es) t)(hN:X.N[i]? =some x:=by rfl)(hv:Vis X.env.scope x:=by first|exact aD rfl|exact dW (aD rfl)|exact dW (dW rfl))(hd:(x==("__debug__":Str))=false:=by decide)
  (hcd:(x==("__classdict__":Str))=false:=by decide) (he:aR (e::es) X.env=(false,eval e X.env)::aR es X.env:=by rfl) (hpl:(cH pos (aR es X.env)).any (·.1)=false:=by rfl):
  PE X (.Call (.Name x p) (e::es) [] pos) (xrn X k i t):=by
 intro pins s σ H Q I h;obtain⟨f,e1,⟨_,_,_,_,_,_,hc0⟩,h⟩:=h;refine bW (thn (xmA (pos:=p) hN hv hd hcd pins s σ H (fun v H1=>v= .ref f∧H1=H) I ⟨_,e1,rfl,rfl⟩) fun u s1 hh89=>?_);obtain⟨v,H1,I1,r,q1,q2⟩:=hh89;subst q1;subst q2;cases (show u=bb f from r);refine W.callWith_F (hc0.fn I1) (thn (ha pos pins s1 σ H1 _ I1 h) fun us s2 hh90=>?_) he hpl;obtain⟨vs,H2,I2,r2,q⟩:=hh90;obtain⟨nm,qual,params,body,scope,ps,sp,fv,F,hc,q⟩:=q;exact⟨hc.fn I2,xpK F hr xo I2 hc r2 q⟩
end
end L2
namespace L2
open PySem PySem.Spec PyProof.Rows
def xr9:Stmt→List Stmt
 | .If _ b _ _=>b
 |_=>[]
def xro:Stmt→List Stmt
 | .While _ b _ _=>b
 |_=>[]
end L2
namespace PySem
open Sem (wp)
open AutoSeq1 (wpAny_loadPart')
abbrev kwS(k:Int)(t:Tok):List (Str×Value):=[(bX "start",.int k t)]
theorem xpS(a:Value)(k:Int)(t:Tok):checkTypeCall "enumerate" ⟨[a],kwS k t⟩=pure ():=by kernel_rfl
theorem xrp(a:Value)(k:Int)(t:Tok):checkBuiltinCall "enumerate.__new__" ⟨[.type "enumerate",a],kwS k t⟩=pure ():=by kernel_rfl
theorem xpT(x a:Value)(k:Int)(t:Tok):argsOk "object.__init__" ⟨[x,a],kwS k t⟩:=by
 unfold argsOk;rw[signature?_of (id:="object.__init__") (n:="__tini__".toList) (o:="tcejbo".toList) (by kernel_rfl) F.owner_object]
 kernel_rfl
theorem xpU(l:Addr)(items:Array Value)(n:Nat)(dct:Option Addr)(sl:Array (Option Value))(k:Int)(t:Tok)(hf:fg k=true):
  Meets (ff.«enumerate.__new__» ⟨[.type "enumerate",.ref l],kwS k t⟩) (fun _ R s=>s.heap.get? l=some ⟨.type "list",dct,.seq items n,sl⟩∧
   R (.ok (.ret (.ref (s.heap.objs.size+1))))
    {s with heap:=(s.heap.push {cls:=.type "list_iterator",data:=.fields #[.ref l,.int 0 0]}).push {cls:=.type "enumerate",data:=.fields #[.none,.bool false,.ref s.heap.objs.size,cY k,.none,.none]}}):=by
 refine .of_wp fun prog w A R s h=>?_;obtain⟨hl,h⟩:=h;obtain⟨hp,g,d,tk,os⟩:=s;have hz:(hp.push {cls:=.type "list_iterator",data:=.fields #[.ref l,.int 0 0]}).objs.size=hp.objs.size+1:=cI ..;have hsub:=sub_enumerate;have hL:Heap.IsList (Shared.heap ⟨hp,g,d,tk,os⟩) l items:=⟨_,hl,rfl,n,rfl⟩
 wp_walk using bJ hl
 refine wpAny_stack_any fun st=>aA ?_
 split
 ·rename_i c _ _ _ _ _;cases (c==cG "enumerate")<;>
   (wp_walk using bJ hl,dy hL;exact⟨_,rfl,by rw[hz];exact h⟩)
 ·wp_walk using bJ hl,dy hL
  exact⟨_,rfl,by rw[hz];exact h⟩
theorem xnh{T newId:String}{x y:Value}{kw:List (Str×Value)}(hl:il (.type T) "__init__"=pure (some (.builtin "object.__init__")))(hm:Bind.madeBy (.type T)=pure (some newId))(hne:(some newId != some "object.__new__")=true):
  Meets (ff.«object.__init__» ⟨[x,y],kw⟩) (fun _ R s=>s.TypeIs x T∧R (.ok (.ret .none)) s):=
 .of_wp fun prog w A R s h=>by
  obtain⟨hT,h⟩:=h
  repeat (any_goals (first|assumption|wp_step))
  exact⟨_,rfl,h⟩
section
variable {prog:aI} {w:World} {A:aU} {E:Value→ab→Prop} {s:ab}
theorem xlO{l:Addr}{items:Array Value}{k:Int}{t:Tok}{Q:Value→ab→Prop}(hL:s.heap.IsList l items)(hf:fg k=true)
  (h:∀h',iH h' (s.heap.objs.size+1) s.heap.objs.size k .none→h'.IsListIter s.heap.objs.size l 0→(∀b o,s.heap.get? b=some o→h'.get? b=some o)→Q (.ref (s.heap.objs.size+1)) {s with heap:=h'}):
  wpAny (model prog w) A (call (.type "enumerate") [.ref l] (kwS k t)) Q E s:=by
 obtain⟨⟨c0,dct,dt,sl⟩,hl,hc,n,hd⟩:=hL;obtain rfl:c0= .type "list":=hc;obtain rfl:dt= .seq items n:=hd;have ft:=F.called_enumerate;obtain⟨c,tl,hmro⟩:=ft.mro;have hct:=xpS (.ref l) k t;have hmade:=ft.made;have hsub:=ft.sub;have h1:=ft.notType;have h2:=ft.canCreate;have hz:(s.heap.push {cls:=.type "list_iterator",data:=.fields #[.ref l,.int 0 0]}).objs.size=s.heap.objs.size+1:=cI ..;have he:iH ((s.heap.push {cls:=.type "list_iterator",data:=.fields #[.ref l,.int 0 0]}).push {cls:=.type "enumerate",data:=.fields #[.none,.bool false,.ref s.heap.objs.size,cY k,.none,.none]}) (s.heap.objs.size+1) s.heap.objs.size k .none:=by
  rw[←hz];exact aB _ rfl
 have fin:=h _ he ⟨_,af _ (aB _ rfl),rfl,rfl⟩ fun b o x=>af _ (af _ x);refine fV (codeAny_of_tree (aA ⟨la _ (by decide+kernel),cV F.entry_type_call ?_⟩));rw[Around.under_plain (weight_type_call_type "enumerate" [.ref l] (kwS k t)) (units_type_call_type "enumerate" [.ref l] (kwS k t))]
 repeat (any_goals (first|assumption|wp_step))
 refine dq (codeAny_call_builtin ft.plain j8 (i8 (xrp (.ref l) k t) (xpU l items n dct sl k t hf prog w A.in1 (wants (fun obj s₁=>s₁.TypeIs obj "enumerate"∧Q obj s₁) E) s ⟨hl,⟨_,he,rfl⟩,fin⟩))) fun r s₁ hr=>?_;rcases r with e|fl
 ·exact hr
 cases fl with
 |ret obj=>
  obtain⟨hT,hq⟩:=(show s₁.TypeIs obj "enumerate"∧Q obj s₁ from hr);have hli:=ft.init.lookup;have hbi:=ft.init.bind obj
  repeat (any_goals (first|assumption|wp_step))
  refine dq (codeAny_call_builtin ft.init.plain F.entry_object_init (ft.init.check _ _ _ _ _ _ _ _ hT (xpT obj (.ref l) k t) (xnh (T:="enumerate") (kw:=kwS k t) ft.init.lookup ft.made (by decide) prog w A.in1 (wants (fun r s₂=>r= .none∧Q obj s₂) E) s₁ ⟨hT,rfl,hq⟩))) fun r₂ s₂ h3=>?_;rcases r₂ with e|f2
  ·exact h3
  cases f2 with
  |ret r=>
   obtain⟨rfl,h4⟩:=(show r= .none∧Q obj s₂ from h3)
   repeat (any_goals (first|assumption|wp_step))
  |_=>exact h3.elim
 |_=>exact hr.elim
end
end PySem
namespace L2
open PySem PySem.Spec PyProof.Rows
theorem xkh{prog:aI}{w:World}{A:aU}{it:Addr}{fp:List Addr}{n:Nat}{Pv:Nat→Value→Prop}{St:Nat→Heap→Prop}(D:Draws prog w A it fp n Pv St)(m:Nat):
  Draws prog w A it fp (m+n) (fun i v=>m≤i∧Pv (i - m) v) (fun i h=>m≤i∧St (i - m) h) where
 live:=fun _ _ st=>D.live _ _ st.2
 frame:=fun _ _ _ st hk=>⟨st.1,D.frame _ _ _ st.2 hk⟩
 item:=fun i s Q E hi st hQ=>D.item (i - m) s Q E (by lia) st.2 fun x h' tk hp hs hb=>hQ x h' tk ⟨st.1,hp⟩ ⟨by lia,by rw[show i+1 - m=i - m+1 by lia];exact hs⟩ hb
 done:=fun s Q E st hE=>D.done s Q E (by have:=st.2;rwa [show m+n - m=n by lia]at this) hE
section
variable {M:Model} {A:aU} {E:Value→ab→Prop} {s:ab}
theorem xki{pos:Pos}{T:String}{args:List (Bool×Sem Value)}{kws:List (Option Str×Sem Value)}{Q:Value→ab→Prop}(hp:args.any (·.1)=false)(hk:kws.any (·.1.isNone)=false)
  (h:wpAny M A (evalArgs (.type T) true args kws) (fun a s₁=>wpAny M A (call (.type T) a.pos a.kw) Q E s₁) E s):wpAny M A (kf pos (.type T) [] args kws) Q E s:=by
 unfold kf;refine ae (bR ?_);refine aY h (fun a s₁ h₁=>?_) fun _ _ x=>x;refine ae (hZ ?_);simp only[hp,hk,Bool.or_false];refine ae (aA (ae ?_));refine aY h₁ (fun r s₂ hr=>?_) fun _ _ x=>x;exact ae (bR (wpAny_point (aA hr)))
end
def xon(K:ah)(a:Addr)(m:Nat):It:=
 ⟨fun i H=>∃xs x,SqL K H a xs∧xs[i]? =some x,fun i H v H'=>∃T x,v= .ref T∧H T=none∧H'=upd H T (.tup [.int ((m+i:Nat):Int),x])∧∀xs,SqL K H a xs→xs[i]? =some x,fun i H=>∃xs,SqL K H a xs∧xs.length≤i⟩
theorem xlP{P:aI}{w:World}{K:ah}{es:List Expr}{k:Nat}{pos:Pos}(a e it:Addr)(m:Nat)(hne:e≠it):Turn P w K (.Tuple es k pos) (xon K a m) [e,it] e (fun i h=>(∃old,iH h e it ((m+i:Nat):Int) old)∧h.IsListIter it a i) where
 mem:=by simp
 obj:=fun i h st b hb=>by
  obtain⟨⟨old,he⟩,⟨o,e1,c,d⟩⟩:=st;rcases ao.mp hb with z|z
  ·subst z;exact⟨_,he,fun v z=>by cases z⟩
  ·rw[ax.mp z];exact⟨o,e1,fun v z=>by rw[d]at z;cases z⟩
 keep:=fun i h h' st kk=>by
  obtain⟨⟨old,he⟩,hit⟩:=st;exact⟨⟨old,kk e (by simp) _ he⟩,hit.at fun o x=>kk it (by simp) o x⟩
 item:=by
  intro X hP hw hK hc i pins s σ H E I hf st hg;subst hP hw hK;obtain⟨xs,x,hq,hx⟩:=hg;obtain⟨its,rv,p,hz⟩:=I.list hq;obtain⟨u,hu,ru⟩:=rv.get hx;obtain⟨⟨old,he⟩,hit⟩:=st;have he':=aj he;have hi':it<s.heap.objs.size:=by obtain⟨o,q,_⟩:=hit;exact aj q
  have hil:i<its.length:=by
   have:=(au.mp hu).1;exact this
  have pl:=p.isList;have hai:a≠it:=fun z=>by
   obtain⟨o1,q1,c1,_⟩:=pl;obtain⟨o2,q2,c2,_⟩:=hit;rw[z,q2]at q1;cases q1;rw[c2]at c1;simp at c1
  have hae:e≠a:=fun z=>by
   obtain⟨o1,q1,c1,_⟩:=pl;rw[←z,he]at q1;cases q1;simp at c1
  have D:=xkh (Draws.list (prog:=X.prog) (w:=X.w) (A:=X.A.in1) (I.ok.hd hc) it a hai its.toArray) m;refine iT D he ⟨by lia,by rw[show m+i - m=i by lia];exact⟨hit,pl⟩⟩ (by simp;lia) hne (by simp[hne,hae]) fun y h' tk hy heo hst hT hsz hk=>?_;have ey:y=u:=by
   have h1:=hy.2;rw[show m+i - m=i by lia]at h1;have h2:its.toArray[i]? =some u:=by simpa using hu
   rw[h2]at h1;exact(bD h1).symm
  subst ey;have hit':=hst.2.1;rw[show m+i+1 - m=i+1 by lia]at hit';refine⟨_,rfl,fq (s:={s with heap:=h',toks:=tk+1}) heo fun h2 he2 hs2=>?_⟩;have hT2:h2.get? s.heap.objs.size=some {cls:=.type "tuple",data:=.seq #[.int ((m+i:Nat):Int) tk,y]}:=(hs2.2 _ (dG he')).trans hT;have I2:Inv X pins σ (upd H s.heap.objs.size (.tup [.int ((m+i:Nat):Int),x])) {s with heap:=h2,toks:=tk+1}:=by
   refine I.turnLaid (ch:=[e,it]) (fun b o hb q=>?_) (ai _) ⟨by simp[av],[.int ((m+i:Nat):Int) tk,y],.cons ⟨_,rfl⟩ (.cons ru .nil),⟨_,hT2,rfl,_,rfl⟩⟩ (fun b hb=>(hf b hb).1) (fun b hb=>?_) fun b hb=>?_
   ·have b1:b≠e:=fun z=>hb (by simp[z]);have b2:b≠it:=fun z=>hb (by simp[z]);exact(hs2.2 b b1).trans (hk b o b1 b2 q)
   ·rcases ao.mp hb with z|z
    ·rw[z];exact he'
    ·rw[ax.mp z];exact hi'
   ·obtain⟨f0,f1,f2,f3,f4,f5⟩:=hf b hb;exact⟨f3,f1,f4,f5⟩
  refine⟨.ref s.heap.objs.size,_,I2,rfl,⟨_,x,rfl,I.hok.fresh (ai _),rfl,fun ys hy=>by rw[I.list_inj hy hq];exact hx⟩,⟨⟨y,by rw[show((m+(i+1):Nat):Int)=((m+i:Nat):Int)+1 by lia];exact he2⟩,hit'.extBut hs2.extBut (a8 hne)⟩,fun b hb=>?_⟩;have hb':b≠s.heap.objs.size:=by
   rcases ao.mp hb with z|z
   ·rw[z];exact ar he'
   ·rw[ax.mp z];exact ar hi'
  rw[xl hb'];exact(hf b hb).1
 done:=by
  intro X hP hw hK hc i pins s σ H E I hf st hg;subst hP hw hK;obtain⟨xs,hq,hx⟩:=hg;obtain⟨its,rv,p,hz⟩:=I.list hq;obtain⟨⟨old,he⟩,hit⟩:=st;obtain⟨f0,f1,f2,f3,f4,f5⟩:=hf it (by simp);have hl:=rv.length;have pl:=p.isList;have D:Draws X.prog X.w X.A.in1 it [it,a] 0 (fun _ _=>False) (fun _ h=>h.IsListIter it a i∧h.IsList a its.toArray):={
   live:=fun _ _ st=>let⟨o,ho,_⟩:=st.1;⟨o,ho⟩
   frame:=fun _ _ _ st hk=>⟨st.1.at fun o e=>hk it (by simp) o e,st.2.at fun o e=>hk a (by simp) o e⟩
   item:=fun j s Q E hj=>absurd hj (cz _)
   done:=fun s Q E st hE=>wpAny_nextOf_list_end (I.ok.hd hc) st.1 st.2 (by simp;lia) hE}
  exact wpAny_pyNext_enum_endD D he ⟨hit,pl⟩ fun h' eb=>⟨rfl,I.turned (t':=s.toks) (fun b o hb e=>eb b o hb e) f0 f1 f3 f4 f5⟩
 self:=fun _ _ _ _ _ st h=>by
  obtain⟨⟨old,he⟩,_⟩:=st;exact dX he h
section
variable {X:Cx} {es:List Expr} {k:Nat} {tp:Pos}
def xrq(K:ah)(ta:TA)(tf:TE):TI:=fun σ H R=>ta σ H fun vs H1=>tf σ H1 fun y H2=>∃(a:Addr) (m:Nat),vs=[.ref a]∧y= .int m∧(m:Int)<2^62∧(∃xs,SqL K H2 a xs)∧R (xon K a m) H2
theorem xoo{l fe:Expr}{ta:TA}{tf:TE}{p pos kp:Pos}(hg:Gl X "enumerate")(hm:X.mg "enumerate"=none)(ha:PA X [l] ta)(hf:PE X fe tf)
  (he:cH pos (aR [l] X.env)=(false,eval l X.env)::cH pos (aR [] X.env):=by rfl):PI X (.Tuple es k tp) (.Call (.Name "enumerate" p) [l] [⟨some "start",fe,kp⟩] pos) (xrq X.K ta tf):=by
 intro pins s σ H R I h;refine bW (yW I hg hm xaD ?_);refine xki (by rw[he];rfl) rfl ?_;rw[he];refine evalArgs_kwB rfl ?_;rw[←he];refine thn (ha pos pins s σ H _ I h) fun us s1 h1=>?_;obtain⟨vs,H1,I1,r1,q1⟩:=h1;refine kz (thn (hf pins s1 σ H1 _ I1 q1) fun fu s2 h2=>kws_nil ?_);obtain⟨y,H2,I2,r2,a,m,rfl,rfl,hm2,⟨xs,hq⟩,q⟩:=h2;obtain⟨u,rfl,ru⟩:=Vals.one r1;cases ru;obtain⟨tz,rfl⟩:=r2;obtain⟨its,rv,pl,hz⟩:=I2.list hq;show wpAny _ _ (call (.type "enumerate") [.ref a] (kwS m tz)) _ _ s2;refine xlO pl.isList (by simp[fg];lia) fun h' he hi hk=>dX (s:={s2 with heap:=h'}) he ?_;refine⟨s2.heap.objs.size+1,[s2.heap.objs.size+1,s2.heap.objs.size],_,_,H2,rfl,I2.kept (t':=s2.toks) hk,xlP a _ _ m (iI _),⟨⟨.none,by simpa using he⟩,hi⟩,fun b hb=>?_,q⟩;rcases ao.mp hb with z|z
 ·rw[z];exact I2.fpOk (c6 _) (I2.hok.fresh (c6 _))
 ·rw[ax.mp z];exact I2.fpOk (ai _) (I2.hok.fresh (ai _))
end
theorem xkj{K:ah}{l:Addr}{n:Nat}{xs:List V}{g:TG}{tb:TS}{D:Ends}{σ:St}{H:Hp}(Pv:Nat→St→Hp→Prop)(h0:Pv 0 σ H)(hl:∀i σ H,i≤xs.length→Pv i σ H→SqL K H l xs)
  (hs:∀i x σ H T,xs[i]? =some x→Pv i σ H→H T=none→g (.ref T) σ (upd H T (.tup [.int ((n+i:Nat):Int),x])) fun σ2 H2=>tb {D with nx:=Pv (i+1),ct:=Pv (i+1),bk:=D.nx} σ2 H2) (hd:∀σ H,Pv xs.length σ H→D.nx σ H):zu (xon K l n) g tb D σ H:=by
 unfold zu;refine⟨fun i m σ H=>m=xs.length - i∧i≤xs.length∧Pv i σ H,⟨xs.length,by simp,aJ _,h0⟩,?_⟩;rintro i m σ H ⟨rfl,hi,p⟩;have hq:=hl i σ H hi p
 by_cases hlt:i<xs.length
 ·have hx:xs[i]? =some xs[i]:=ag hlt;refine .inr ⟨⟨xs,xs[i],hq,hx⟩,Pv (i+1),fun σ' H' p'=>⟨xs.length - (i+1),by lia,rfl,hlt,p'⟩,fun v H' y=>?_⟩;obtain⟨T,x,rfl,hT,rfl,hx'⟩:=y;exact hs i x σ H T (hx' xs hq) p hT
 ·obtain rfl:i=xs.length:=by lia
  exact .inl ⟨⟨xs,hq,ai _⟩,hd σ H p⟩
end L2
namespace L2
open PySem PySem.Spec PyProof.Rows
section
variable {P:aI} {w:World} {H:Hp} {h:Heap} {b d:Addr} {o:Obj} {u ob:HO}
theorem xH.thaw(hd:H d=some (.frz o u))(hdat:∀vs,o.data≠.fields vs)(x:xH P w H h b ob):xH P w (upd H d u) h b ob:=by
 have off:∀{c:Addr} {y:HO},H c=some y→(∀o' u',y≠.frz o' u')→upd H d u c=some y:=fun{c y} e n=>by
  rw[xl (fun z=>by rw[z,hd]at e;cases e;exact n _ _ rfl)];exact e
 induction ob with
 |dT kvs=>
  obtain⟨z,y,xs,r,c⟩:=x;exact⟨z,y,xs,Paired.mapP r fun p q z=>⟨z.1,off z.2.1 (by intro _ _ z;cases z),z.2.2⟩,c⟩
 |ins C dx fs=>obtain⟨e,c⟩:=x;exact⟨off e (by intro _ _ z;cases z),c⟩
 |frz ob u' ih=>obtain⟨e,q⟩:=x;exact⟨e,ih q⟩
 |tbl qs=>
  obtain⟨ps,e,tr,r⟩:=x;refine⟨ps,e,tr,fun pos q m=>?_⟩;rcases r pos q m with z|⟨c,ob,u',vs,t,z1,z2,z3⟩
  ·exact .inl z
  ·refine .inr ⟨c,ob,u',vs,t,z1,?_,z3⟩;rw[xl (fun z=>by rw[z,hd]at z2;cases z2;exact hdat _ z3.1)];exact z2
 |lst xs=>exact x
 |tup xs=>exact x
 |dK kvs=>exact x
 |set S n=>exact x
 |own y=>exact x
 |xd fs=>exact x
 |rng lo hi=>exact x
 |cel v=>exact x
 |met f y=>exact x
 |ext φ=>exact x
theorem HOk.thaw(ok:HOk P w H h)(hd:H d=some (.frz o u))(hdat:∀vs,o.data≠.fields vs):HOk P w (upd H d u) h:=fun b ob e=>by
 by_cases hb:b=d
 ·subst hb;rw[xk]at e;cases e;exact xH.thaw hd hdat (ok _ _ hd).2
 ·rw[xl hb]at e;exact xH.thaw hd hdat (ok b ob e)
end
section
variable {X:Cx} {pins:List (Addr×Obj)} {σ:St} {H:Hp} {s:ab} {d:Addr} {o:Obj} {u:HO} {kvs:List (Key×V)}
theorem Inv.thaw(I:Inv X pins σ H s)(hd:H d=some (.frz o u))(hdat:∀vs,o.data≠.fields vs)(h0:∀u',X.H₀ d=some u'→¬Fix u'):Inv X pins σ (upd H d u) s:=by
 have ne:∀{b:Addr},H b=none→b≠d:=fun{b} e z=>by rw[z,hd]at e;cases e
 refine⟨I.ok,I.os,I.bare,⟨I.base.keep,I.base.slot,fun b o' q n hx=>?_,I.base.there,fun b u' q hf=>?_⟩,I.loc,I.cell,?_,fun x c e=>?_,fun p hp=>?_,I.hok.thaw hd hdat,I.len⟩
 ·have:=I.base.free b o' q n hx;rw[xl (ne this)];exact this
 ·rw[xl (fun z=>by rw[z]at q;exact h0 _ q hf)];exact I.base.fix b u' q hf
 ·rw[xl (ne I.free)];exact I.free
 ·rcases I.freeC x c e with z|⟨z1,o',z2,z3⟩
  ·exact .inl (by rw[xl (ne z)];exact z)
  ·refine .inr ⟨z1,o',?_,z3⟩;rw[xl (fun z=>by rw[z,hd]at z2;cases z2)];exact z2
 ·obtain⟨p1,p2,p3⟩:=I.pin p hp;exact⟨p1,by rw[xl (ne p2)];exact p2,p3⟩
theorem Inv.freeze(I:Inv X pins σ H s)(hd:H d=some (.dK kvs))(ho:s.heap.get? d=some o):Inv X pins σ (upd H d (.frz o (.dK kvs))) s:=by
 have:=I.write (x:=d) (e:=d) (o:=.frz o (.dK kvs)) (h':=s.heap) (t':=s.toks) (by rw[hd];exact bV) (.inl rfl) (fun _ _ _ q=>q) ⟨_,ho⟩ ⟨ho,(show xH X.prog X.w H s.heap d (.dK kvs)from I.hok d _ hd)⟩;exact this
theorem Inv.nofix(I:Inv X pins σ H s)(hd:H d=some (.dK kvs)):∀u',X.H₀ d=some u'→¬Fix u':=fun u' e hf=>by
 have:=I.base.fix d u' e hf;rw[hd]at this;cases this;exact hf
end
def Itd(a:Addr)(o:Obj)(kvs:List (Key×V)):It:=
 ⟨fun i H=>H a=some (.frz o (.dK kvs))∧i<kvs.length,fun i H x H'=>H'=H∧∃k,(kvs.map (·.1))[i]? =some k∧x=kV k,fun i H=>H a=some (.frz o (.dK kvs))∧i=kvs.length⟩
theorem xsK{k:Key}{v:Value}(h:uE k v=true):RelV (kV k) v:=by
 rcases yq h with⟨i,t,rfl,rfl⟩|⟨x,t,rfl,rfl⟩
 ·exact⟨t,rfl⟩
 ·exact⟨t,rfl⟩
theorem xfU{κ:Type}:∀{kvs:List (κ×V)} {vs:List (κ×Value)},KV kvs vs→kvs.map (·.1)=vs.map (·.1)
 |_,_,.nil=>rfl
 |_,_,.cons h t=>by rw[bg,bg,h.1,xfU t]
theorem xni{P:aI}{w:World}{K:ah}{tg:Expr}(a it:Addr)(o:Obj)(kvs:List (Key×V))(es:Array DictEntry)(ep:Nat)(hdat:o.data= .dict es ep):Turn P w K tg (Itd a o kvs) [it] it (fun i h=>h.IsKeyIter it a i kvs.length ep) where
 mem:=by simp
 obj:=fun i h st b hb=>by
  have e:b=it:=by simpa using hb
  subst e;obtain⟨o,e,c,d⟩:=st;exact⟨o,e,fun v z=>by rw[d]at z;cases z⟩
 keep:=fun i h h' st k=>by
  obtain⟨o,e,c,d⟩:=st;exact⟨o,k it (by simp) o e,c,d⟩
 item:=by
  intro X hP hw hK hc i pins s σ H E I hf st hg;subst hP hw hK;obtain⟨hq,hx⟩:=hg;obtain⟨f0,f1,f2,f3,f4,f5⟩:=hf it (by simp);obtain⟨ho,z,hsys,vs,rel,dd⟩:=(show xH X.prog X.w H s.heap a (.frz o (.dK kvs))from I.hok a _ hq);have hl:kvs.length=vs.length:=rel.length;have hda:i9 (ya X.prog X.w) s.heap a vs ep:=by
   obtain⟨o',es',ep',h1,h2,h3,h4⟩:=dd;rw[ho]at h1;cases h1;rw[hdat]at h3;cases h3;exact⟨o,es,ho,h2,hdat,h4⟩
  have ne:a≠it:=fun z=>by rw[z,f0]at hq;cases hq
  have W:=ka (knd:=ya X.prog X.w) (I.ok.hd hc) it a ne vs ep;refine W.item i s _ _ (by lia) ⟨by rw[←hl];exact st,hda⟩ fun v h' tk hv st' kk=>?_;obtain⟨k,x,hk,hv⟩:=hv;have I1:Inv X pins σ H {s with heap:=h',toks:=tk}:=I.turned (fun b o hb e=>kk b o (by simpa using hb) e) f0 f1 f3 f4 f5;obtain⟨ob,e,c,d⟩:=id st'.1;refine⟨_,rfl,xfD (s:={s with heap:=h',toks:=tk}) e c d (by decide) ⟨kV k,H,I1,xsK hv,⟨rfl,k,?_,rfl⟩,?_,fun b hb=>(hf b hb).1⟩⟩
  ·rw[xfU rel,ak,hk];rfl
  ·rw[hl];exact st'.1
 done:=by
  intro X hP hw hK hc i pins s σ H E I hf st hg;subst hP hw hK;obtain⟨hq,hx⟩:=hg;obtain⟨f0,f1,f2,f3,f4,f5⟩:=hf it (by simp);obtain⟨ho,z,hsys,vs,rel,dd⟩:=(show xH X.prog X.w H s.heap a (.frz o (.dK kvs))from I.hok a _ hq);have hl:kvs.length=vs.length:=rel.length;have hda:i9 (ya X.prog X.w) s.heap a vs ep:=by
   obtain⟨o',es',ep',h1,h2,h3,h4⟩:=dd;rw[ho]at h1;cases h1;rw[hdat]at h3;cases h3;exact⟨o,es,ho,h2,hdat,h4⟩
  have ne:a≠it:=fun z=>by rw[z,f0]at hq;cases hq
  have W:=ka (knd:=ya X.prog X.w) (I.ok.hd hc) it a ne vs ep;subst hx;refine W.done s _ _ ⟨by rw[←hl];exact st,hda⟩ fun h' tk kk=>⟨rfl,I.turned (fun b o hb e=>kk b o (by simpa using hb) e) f0 f1 f3 f4 f5⟩
 self:=fun A i s Q E st h=>wpAny_pyIter_keyiter st h
section
variable {X:Cx} {tg:Expr}
def xlQ(tl:TE):TI:=fun σ H R=>tl σ H fun x H1=>∃a kvs,x= .ref a∧H1 a=some (.dK kvs)∧∀o:Obj,(∀vs,o.data≠.fields vs)→R (Itd a o kvs) (upd H1 a (.frz o (.dK kvs)))
theorem xpV{l:Expr}{tl:TE}(hl:PE X l tl):PI X tg l (xlQ tl):=by
 intro pins s σ H R I h;refine thn (hl pins s σ H _ I h) fun v s1 hh91=>?_;obtain⟨x,H1,I1,r1,q1⟩:=hh91;obtain⟨a,kvs,e,hq,q⟩:=q1;subst e;cases r1;obtain⟨z,hsys,vs,rel,o,es,ep,ho,h2,hdat,h4⟩:=(show xH X.prog X.w H1 s1.heap a (.dK kvs)from I1.hok a _ hq);have hl:kvs.length=vs.length:=rel.length;refine wpAny_pyIter_dict hsys (⟨o,es,ho,h2,hdat,h4⟩:i9 (ya X.prog X.w) s1.heap a vs ep) ?_;have I2:=I1.freeze hq ho;refine⟨s1.heap.objs.size,[s1.heap.objs.size],_,_,_,rfl,I2.kept (t':=s1.toks) fun b o e=>af _ e,xni a _ o kvs es ep hdat,⟨_,aB _ rfl,rfl,?_⟩,fun b hb=>?_,q o (fun vs z=>by rw[hdat]at z;cases z)⟩
 ·rw[hl];rfl
 ·have e:b=s1.heap.objs.size:=by simpa using hb
  subst e;exact I2.fpOk (ai _) (I2.hok.fresh (ai _))
def xlR(a:Addr)(kvs:List (Key×V))(D:Ends):Ends:={D with
 nx:=fun σ H=>(∃o:Obj,H a=some (.frz o (.dK kvs))∧∀vs,o.data≠.fields vs)∧D.nx σ (upd H a (.dK kvs))
 rt:=fun v H=>(∃o:Obj,H a=some (.frz o (.dK kvs))∧∀vs,o.data≠.fields vs)∧D.rt v (upd H a (.dK kvs))
 bk:=fun _ _=>False
 ct:=fun _ _=>False}
def xsa(i:Nat)(g:TG)(tb:TS):TS:=fun D σ H=>∃a kvs,σ[i]? =some (some (.ref a))∧H a=some (.dK kvs)∧∀o:Obj,(∀vs,o.data≠.fields vs)→zu (Itd a o kvs) g tb (xlR a kvs D) σ (upd H a (.frz o (.dK kvs)))
theorem xpW{iter:Expr}{body:List Stmt}{i:Nat}{g:TG}{tb:TS}{pos:Pos}(hp:PassesOwn (model X.prog X.w) X.A X.env X.xe)(hc:X.calm=true)(hi:PE X iter (yE i))(hg:PG X tg g)(hb:PSs X body tb)
  (hs:∀x,dU iter X.env x=pure x:=by intro _;rfl):PS X (.For tg iter body [] pos) (xsa i g tb):=by
 intro pins s σ H D I h;obtain⟨a,kvs,hσ,hq,h⟩:=h;have nf:=I.nofix hq;have h1:xlo (xlQ (yE i)) g tb (xlR a kvs D) σ H:=by
  rw[←xkR];unfold xlA xlQ yE;rw[hσ];exact⟨a,kvs,rfl,hq,h⟩
 refine thn (xmF hp hc (xpV hi) hg hb hs pins s σ H (xlR a kvs D) I h1) fun f s' z=>?_;cases f with
 |next=>obtain⟨σ',H',I',⟨o,ho,hd⟩,m⟩:=z;exact⟨σ',_,I'.thaw ho hd nf,m⟩
 |brk=>obtain⟨σ',H',I',m⟩:=z;exact m.elim
 |cont=>obtain⟨σ',H',I',m⟩:=z;exact m.elim
 |ret v=>obtain⟨x7,σ7,H7,I7,r7,⟨o,ho,hd⟩,q7⟩:=z;exact⟨x7,σ7,_,I7.thaw ho hd nf,r7,q7⟩
end
theorem xlS{a:Addr}{o:Obj}{kvs:List (Key×V)}{g:TG}{tb:TS}{D:Ends}{σ:St}{H:Hp}(Pv:Nat→St→Hp→Prop)(h0:Pv 0 σ H)(hl:∀i σ H,i≤kvs.length→Pv i σ H→H a=some (.frz o (.dK kvs)))
  (hs:∀i k σ H,(kvs.map (·.1))[i]? =some k→Pv i σ H→g (kV k) σ H fun σ2 H2=>tb {D with nx:=Pv (i+1),ct:=Pv (i+1),bk:=D.nx} σ2 H2) (hd:∀σ H,Pv kvs.length σ H→D.nx σ H):zu (Itd a o kvs) g tb D σ H:=by
 unfold zu;refine⟨fun i m σ H=>m=kvs.length - i∧i≤kvs.length∧Pv i σ H,⟨kvs.length,by simp,aJ _,h0⟩,?_⟩;rintro i m σ H ⟨rfl,hi,p⟩;have q:=hl i σ H hi p
 by_cases hlt:i<kvs.length
 ·refine .inr ⟨⟨q,hlt⟩,Pv (i+1),fun σ' H' p'=>⟨kvs.length - (i+1),by lia,rfl,hlt,p'⟩,fun x H' y=>?_⟩;obtain⟨e,k,hk,rfl⟩:=y;subst e;exact hs i k σ _ hk p
 ·have e:i=kvs.length:=by lia
  subst e;exact .inl ⟨⟨q,rfl⟩,hd σ H p⟩
end L2
namespace L2
open PySem PySem.Spec PyProof.Rows
section
variable {X:Cx}
def xsb:List V→Hp→VK→Prop:=fun xs H Q=>∃(p:Addr) (kvs:List (Key×V)) (ks:List Int),xs=[.ref p]∧H p=some (.dK kvs)∧kvs.map (·.1)=ks.map b9∧ks≠[]∧∀m∈ks,(∀x∈ks,m≤x)→Q (.int m) H
theorem xnj(hc:X.calm=true):yw X (.builtin "min") xsb:=by
 intro pins s σ H xs us Q I r h;obtain⟨p,kvs,ks,rfl,hq,hk,hne,q⟩:=h;obtain⟨u,rfl,rx⟩:=vals1 r;cases rx;obtain⟨z,hsys,vs,rel,o,es,ep,ho,h2,hdat,h4⟩:=(show xH X.prog X.w H s.heap p (.dK kvs)from I.hok p _ hq);have hkeys:vs.map (·.1)=ks.map b9:=(xfU rel).symm.trans hk;have hl:vs.length=ks.length:=by have:=congrArg cC hkeys;simpa using this
 have hpos:0<ks.length:=cF.mpr hne;refine call_min_walk (wpAny_pyIter_dict hsys (⟨o,es,ho,h2,hdat,h4⟩:i9 (ya X.prog X.w) s.heap p vs ep) ?_);have hlt:p<s.heap.objs.size:=aj ho;have W:=ka (knd:=ya X.prog X.w) (A:=X.A.in1) (I.ok.hd hc) s.heap.objs.size p (ar hlt) vs ep;have hP:∀(i:Nat) (v:Value),(∃k x,vs[i]? =some (k,x)∧(ya X.prog X.w).is k v=true)→∃t,v= .int (ks.getD i 0) t:=fun i v hv=>by
  obtain⟨k,x,h1,h2⟩:=hv;have e:(vs.map (·.1))[i]? =some k:=by rw[ak,h1];rfl
  rw[hkeys,ak]at e;obtain⟨j,hj,rfl⟩:=aQ.mp e;have h2:uE (b9 j) v=true:=h2;rcases yq h2 with⟨i',t,e1,rfl⟩|⟨x,t,e1,_⟩
  ·cases e1;exact⟨t,by rw[cu,hj];rfl⟩
  ·cases e1
 refine⟨s.heap.objs.size,_,_,_,_,_,_,rfl,W,⟨⟨_,aB _ rfl,rfl,rfl⟩,⟨o,es,af _ ho,h2,hdat,h4⟩⟩,fun b hb=>?_,by omega,CmpOf.ints_lt (fun i=>ks.getD i 0) hP,fun v h' tk hv hkp=>?_⟩
 ·simp only[ao,bC,or_false]at hb;have hs:=aj (aB s.heap (o:={cls:=cG "dict_keyiterator",data:=ly #[bb p,eU 0 0,eU (↑vs.length) 0,eU (↑ep) 0]}) rfl);rcases hb with z|z
  ·rw[z];exact hs
  ·rw[z];exact k8 hlt hs
 ·obtain⟨t,rfl⟩:=hP _ _ hv;obtain⟨g1,g2⟩:=argBest_lt (fun i=>ks.getD i 0) (vs.length - 1);refine⟨.int _,H,I.kept (t':=tk) fun b ob e=>hkp b ob ?_ (af _ e),⟨t,rfl⟩,q _ ?_ fun x hx=>?_⟩
  ·have hb:=aj e;simp only[ao,bC,or_false];exact ar hb
  ·generalize hj:argBest (fun i j=>decide (ks.getD i 0<ks.getD j 0)) (vs.length - 1)=j at g1;have hjl:j<ks.length:=by omega
   rw[cu,ag hjl];exact cM hjl
  ·obtain⟨j,hj⟩:=bS.mp hx;have hjl:=(au.mp hj).1;have:=g2 j (by omega);rw[cu (i:=j),hj]at this;exact this
end
end L2
namespace L2
open PySem PySem.Spec PyProof.Rows PySem.W
theorem xhM:entryFor table "dict.update.loop"=some ff.«dict.update.loop»:=entryFor_of_tree (by kernel_rfl)
theorem xbq:plainId "dict.update.loop"=true:=by decide+kernel
theorem xh8{prog:aI}{w:World}{A:aU}{E:Value→ab→Prop}{s:ab}{a:Addr}{o:Obj}{xs:Array Value}{k:Nat}{Q:Option Value→ab→Prop}
  (hx:s.heap.get? a=some o) (hc:o.cls= .type "list") (hdat:o.data= .seq xs k) (hd:o.dict=none) (hA:A.handled=none)
  (h:∀h' tk,(∀b ob,s.heap.get? b=some ob→h'.get? b=some ob)→Q none {s with heap:=h',toks:=tk}):
  wpAny (model prog w) A (getAttr? (.ref a) "keys") Q E s:=by
 obtain⟨c,dct,dat,sl⟩:=o;simp only at hc hdat hd;subst hc hdat hd;obtain⟨hp,g,d,tk,os⟩:=s;have hmiss:il (.type "list") "keys"=pure none:=am_miss_of_fast (by decide+kernel);have hname:(["__module__","__name__","__qualname__","__doc__","__annotations__"]:List Str).contains "keys"=false:=by decide+kernel
 have hT:∀tk',(⟨hp,g,d,tk',os⟩:ab).TypeIs (.ref a) "list":=fun _=>⟨_,hx,rfl⟩;have f1:=sub_AttributeError;have f3:=fU.lookup;have f4:=fU.bind (.ref a);have f5:=am_list_getattr_none;unfold getAttr? getAttrBy? getAttrBy
 repeat (any_goals (first|assumption|exact hT _|((with_reducible show wpAny _ _ (call (Value.builtin "list.__getattribute__") _ _) _ _ _);refine fW fU (hT _) am_entry_list_getattribute (F.args_list_getattribute_2 _ _) (meets_getattribute_miss_list a xs k sl "keys" _ hmiss hname (by size_fits)) ⟨hx,hA,fun h' tk' e hx'=>?_⟩)|wp_step))
 obtain⟨t',u',he⟩:=hx'.there;show wpAny _ _ (getattributeRaised _ _ _ _ _ _ _) _ _ _;unfold getattributeRaised
 repeat (any_goals (first|assumption|wp_step))
 exact h _ _ hx'.keeps
section
variable {prog:aI} {w:World} {K:Type} [DecidableEq K] {knd:KeyKind prog w K} {A:aU} {R:gc→ab→Prop} {I D:Addr} {fp wr:List Addr} {P:Nat→Value→Prop} {St:Nat→Heap→Prop} {kvs:List (K×Value)} {ts:Nat→Addr} {z:Value}
theorem xiW{ks:List (K×Value)}{k:K}{v:Value}(h:k∉ks.map (·.1)):stored ks k v=ks++[(k,v)]:=by
 unfold stored;rw[if_neg];rw[eJ];rintro⟨x,hx,e⟩;exact h (aT.mpr ⟨x,hx,of_decide_eq_true e⟩)
theorem xiX(W:Walks prog w A.in1 I fp wr kvs.length P St)(hP:∀i v,i<kvs.length→P i v→v= .ref (ts i))(hnd:(kvs.map (·.1)).Nodup)(hsz:kvs.length≤aL)(hD:D∉fp)(hts:∀i,i<kvs.length→ts i∉wr∧ts i≠D):∀(k j:Nat) (s:ab) (i:Int) (t:Tok),kvs.length - j=k→j≤kvs.length→St j s.heap→
  s.heap.DictOf knd D (kvs.take j)→(∀i p,kvs[i]? =some p→∃key,knd.is p.1 key=true∧IsTup s.heap (ts i) #[key,p.2])→
  (∀h' tk,h'.DictOf knd D kvs→(∀b o,b∉wr→b≠D→s.heap.get? b=some o→h'.get? b=some o)→R (.ok (.ret z)) {s with heap:=h',toks:=tk})→
  cW (model prog w) A (.builtin "dict.update.loop" ⟨[.ref D,.ref I,.int i t,z],[]⟩) R s
 |0,j,s,i,t,hk,hj,hst,hd,hp,hR=>by
  have hin:j=kvs.length:=by lia
  subst hin;have hDw:D∉wr:=fun h=>hD (W.sub _ h);refine cV xhM ?_;rw[c7 xbq _];show wpAny _ A.in1 (gx (.ref I) >>= _) _ _ s;refine ae (W.done s _ _ hst fun h' tk hk'=>?_);rw[bO]at hd;refine ae (aA (aA (hR h' tk ?_ fun b o hb _ e=>hk' b o hb e)));obtain⟨o,es,ep,ho,r⟩:=hd;exact⟨o,es,ep,hk' D _ hDw ho,r⟩
 |k+1,j,s,i,t,hk,hj,hst,hd,hp,hR=>by
  have hlt:j<kvs.length:=by lia
  have hDw:D∉wr:=fun h=>hD (W.sub _ h);refine cV xhM ?_;rw[c7 xbq _];show wpAny _ A.in1 (gx (.ref I) >>= _) _ _ s;refine ae (W.item j s _ _ hlt hst fun v h' tk hv hst' hk'=>?_);have ev:=hP _ _ hlt hv;subst ev;obtain⟨key,hkey,o,ho,hc,n,hdat⟩:=hp j _ (ag hlt);obtain⟨t1,t2⟩:=hts j hlt;have ho':=hk' _ _ t1 ho;refine ae (m:=fc _ _) (bR ?_);refine ae (dD ?_);unfold Builtin.Dict.pairItems;refine ae (iE (T:="tuple") ⟨o,ho',hc⟩ ?_);rw[if_pos (by decide)];refine ae (dC ho' hdat (aA ?_));have hd':h'.DictOf knd D (kvs.take j):=by
   obtain⟨o,es,ep,ho,r⟩:=hd;exact⟨o,es,ep,hk' D _ hDw ho,r⟩
  show wpAny _ A.in1 (fc [key,kvs[j].2] (dictSet D key kvs[j].2)) _ _ _;refine bR (wpAny_dictSet_pairs (hsz:=by rw[bB];lia) hkey hd' fun h2 hd2 hs2=>?_);refine aA ⟨cf xbq _,?_⟩;have hfresh:kvs[j].1∉(kvs.take j).map (·.1):=fun hm=>by
   obtain⟨x,hx,e⟩:=aT.mp hm;obtain⟨m,hm1,hm2⟩:=kN hx;rw[bB]at hm1;have hm3:m<j:=by lia
   have:=bL.mp hnd m j (by simp;lia) (by simp;lia) hm3;simp only[List.getElem_map]at this;rw[List.getElem_take]at hm2;exact this (by rw[hm2];exact e)
  rw[xiW hfresh,List.take_append_getElem hlt]at hd2;refine xiX W hP hnd hsz hD hts k (j+1) _ _ _ (by lia) hlt (W.frame _ _ _ hst' fun b hb o e=>(hs2.2 b (fun q=>hD (q▸hb))).trans e) hd2 (fun i p hip=>?_) fun h3 tk3 hd3 hk3=>?_
  ·obtain⟨key,hkey,o,ho,r⟩:=hp i p hip;have hil:i<kvs.length:=(au.mp hip).1;obtain⟨u1,u2⟩:=hts i hil;exact⟨key,hkey,o,(hs2.2 _ u2).trans (hk' _ _ u1 ho),r⟩
  ·exact hR h3 tk3 hd3 fun b o hb hbD e=>hk3 b o hb hbD ((hs2.2 b hbD).trans (hk' b o hb e))
theorem xlT{E:Value→ab→Prop}{Q:Value→ab→Prop}{s:ab}{p:Addr}{its:List Value}(hA:A.handled=none)(hL:PlainL s.heap p its.toArray)(hlen:its.length=kvs.length)(hits:∀(i:Nat) (v:Value),its[i]? =some v→v= .ref (ts i))(htup:∀i pr,kvs[i]? =some pr→∃key,knd.is pr.1 key=true∧IsTup s.heap (ts i) #[key,pr.2])
  (hnd:(kvs.map (·.1)).Nodup) (hsz:kvs.length≤aL) (hQ:∀h' tk,h'.DictOf knd s.heap.objs.size kvs→(∀b o,s.heap.get? b=some o→h'.get? b=some o)→Q (.ref s.heap.objs.size) {s with heap:=h',toks:=tk}):
  wpAny (model prog w) A (call (.type "dict") [.ref p]) Q E s:=by
 refine j5 (Q₁:=fun obj s₁=>obj= .ref s.heap.objs.size∧s₁={s with heap:=s.heap.push {cls:=.type "dict",data:=.dict #[]}}) F.kt_called_dict (F.kt_typeCall_dict_1 _) F.entry_dict_init (kt_code_dict_new _ ⟨rfl,rfl⟩) ?_;rintro obj s₁ ⟨rfl,rfl⟩;have hnew:(s.heap.push {cls:=.type "dict",data:=.dict #[]}).DictOf knd s.heap.objs.size []:=lE s.heap;refine⟨hnew.typeIs,F.args_dict_init_2 _ _,?_⟩;generalize hG:s.heap.push {cls:=.type "dict",data:=.dict #[]}=G at hnew⊢;have old:∀b o,s.heap.get? b=some o→G.get? b=some o:=fun b o e=>by rw[←hG];exact af _ e
 obtain⟨lo,ln,l1,l2,l3,l4⟩:=hL;have l1':=old _ _ l1;unfold ff.«dict.__init__»;refine ae ?_;unfold Builtin.Dict.selfAndRest;refine ae (wpAny_notOrdered_dict hnew.typeIs ?_);show wpAny _ _ (pure (s.heap.objs.size,[bb p])) _ _ _;refine aA ?_;show wpAny _ _ (iU "dict.__init__" s.heap.objs.size (.ref p) [] .none) _ _ _;unfold iU;refine ae (iE (T:="list") ⟨lo,l1',l2⟩ ?_);rw[if_pos (by decide)];refine ae (xh8 l1' l2 l4 l3 hA fun h2 tk2 k2=>?_);rw[if_pos (by rfl)];refine ae (gE ?_);have hL2:h2.IsList p its.toArray:=PlainL.isList ⟨lo,ln,k2 _ _ l1',l2,l3,l4⟩;refine ae (dy hL2 ?_);have hpG:p<G.objs.size:=aj l1';have h2l:∀b o,G.get? b=some o→b<h2.objs.size:=fun b o e=>aj (k2 b o e);have hnD:s.heap.objs.size≠p:=fun e=>absurd (aj l1) (by rw[←e];exact bQ _);have hDl:s.heap.objs.size<h2.objs.size:=by obtain⟨o,_,_,ho,_⟩:=hnew;exact h2l _ _ ho
 have hpl:p<h2.objs.size:=h2l _ _ l1';refine aA ⟨cf xbq _,?_⟩;have W:=iq (prog:=prog) (w:=w) (A:=A.in1.in1) hA h2.objs.size p (ar hpl) its.toArray;have ez:its.toArray.size=kvs.length:=by simpa using hlen
 rw[ez]at W;refine xiX (knd:=knd) (ts:=ts) W (fun i v hi hv=>hits i v (by simpa using hv)) hnd hsz ?_ (fun i hi=>?_) kvs.length 0 _ _ _ (by simp) (aJ _) ⟨⟨_,aB _ rfl,rfl,rfl⟩,hL2.push _⟩ ?_ (fun i pr hp=>?_) fun h3 tk3 hd3 hk3=>⟨rfl,hQ h3 tk3 hd3 fun b o e=>?_⟩
 ·intro hm;rcases ao.mp hm with e|e
  ·exact absurd e (ar hDl)
  ·exact hnD (ax.mp e)
 ·obtain⟨key,_,o,ho,_⟩:=htup i _ (ag hi);have g1:=aj ho;have g2:=h2l _ _ (old _ _ ho);exact⟨fun e=>absurd (ax.mp e) (ar g2),ar g1⟩
 ·obtain⟨o,es,ep,ho,r⟩:=hnew;exact⟨o,es,ep,af _ (k2 _ _ ho),r⟩
 ·obtain⟨key,hk,o,ho,r⟩:=htup i pr hp;exact⟨key,hk,o,af _ (k2 _ _ (old _ _ ho)),r⟩
 ·have g1:=aj e;have g2:=h2l _ _ (old _ _ e);exact hk3 b o (fun z=>absurd (ax.mp z) (ar g2)) (ar g1) (af _ (k2 _ _ (old _ _ e)))
end
theorem xop{k:Key}{v:Value}(h:RelV (kV k) v):uE k v=true:=by
 cases k with
 |inl i=>obtain⟨t,rfl⟩:=h;simp[uE,lq]
 |inr x=>obtain⟨t,rfl⟩:=h;simp[uE,kB]
section
variable {X:Cx}
def xrr(K:ah):List V→Hp→VK→Prop:=fun xs H Q=>∃(p:Addr) (ts:List Addr) (kvs:List (Key×V)),xs=[.ref p]∧SqL K H p (ts.map V.ref)∧Paired (fun t (kv:Key×V)=>H t=some (.tup [kV kv.1,kv.2])) ts kvs∧(kvs.map (·.1)).Nodup∧∀d,H d=none→Q (.ref d) (upd H d (.dK kvs))
theorem xiY{pins:List (Addr×Obj)}{σ:L2.St}{H:Hp}{s:ab}(I:Inv X pins σ H s):∀{ts:List Addr} {kvs:List (Key×V)},Paired (fun t (kv:Key×V)=>H t=some (.tup [kV kv.1,kv.2])) ts kvs→
  ∃vs:List (Key×Value),KV kvs vs∧∀(i:Nat) (t:Addr) (p:Key×Value),ts[i]? =some t→vs[i]? =some p→∃key,uE p.1 key=true∧IsTup s.heap t #[key,p.2]
 |_,_,.nil=>⟨[],.nil,fun i t p e _=>by simp at e⟩
 |t::_,kv::_,.cons h r=>by
  obtain⟨vs,h1,h2⟩:=xiY I r;obtain⟨z,its,rl,tp⟩:=(show xH X.prog X.w H s.heap t (.tup [kV kv.1,kv.2])from I.hok t _ h);cases rl with
  |cons r1 rl=>
   cases rl with
   |cons r2 rl=>
    cases rl;rename_i u1 u2;refine⟨(kv.1,u2)::vs,.cons ⟨rfl,r2⟩ h1,fun i t' p e1 e2=>?_⟩;cases i with
    |zero=>cases e1;cases e2;exact⟨u1,xop r1,tp⟩
    |succ i=>exact h2 i t' p (by simpa using e1) (by simpa using e2)
theorem xlU(hc:X.calm=true):yw X (.type "dict") (xrr X.K):=by
 intro pins s σ H xs us Q I r h;obtain⟨p,ts,kvs,rfl,hq,hp,hnd,q⟩:=h;obtain⟨u,rfl,rx⟩:=vals1 r;cases rx;obtain⟨its,r',pl,hz⟩:=I.list hq;obtain⟨vs,hkv,hvs⟩:=xiY I hp;have e1:kvs.length=vs.length:=hkv.length;have e2:ts.length=kvs.length:=hp.length;have e3:its.length=ts.length:=by have:=r'.length;rw[aa]at this;lia
 have hzz:ts.length≤aL:=by rw[aa]at hz;exact hz
 refine xlT (knd:=ya X.prog X.w) (kvs:=vs) (ts:=fun i=>ts.getD i 0) (I.ok.hd hc) pl (by lia) (fun i v hv=>?_) (fun i pr hpr=>?_) (by rw[←xfU hkv];exact hnd) (by lia) fun h' tk hd hk=>?_
 ·have hi:i<ts.length:=by have:=(au.mp hv).1;lia
  obtain⟨u,hu1,hu2⟩:=r'.get (i:=i) (x:=.ref ts[i]) (by simp[hi]);rw[hv]at hu1;cases hu1;rw[show v= .ref ts[i]from hu2];simp[bf,hi]
 ·have hi:i<ts.length:=by have:=(au.mp hpr).1;lia
  have:=hvs i ts[i] pr (ag hi) hpr;have e:ts.getD i 0=ts[i]:=by simp[bf,hi]
  show∃key,uE pr.1 key=true∧IsTup s.heap (ts.getD i 0) #[key,pr.2];rw[e];exact this
 ·exact⟨.ref s.heap.objs.size,_,I.laid (t':=tk) hk (ai _) (xiM (by lia) (beq_eq_false_iff_ne.mpr (a8 (ar I.big))) hkv hd),rfl,q _ I.fresh⟩
end
end L2
namespace L2
open PySem PySem.Spec PyProof.Rows PySem.W
def bst(kk:Nat→List Int):Nat→Nat
 |0=>0
 |j+1=>if HT.lexLt (kk (j+1)) (kk (bst kk j))=true then j+1 else bst kk j
theorem xnk(kk:Nat→List Int):∀j,bst kk j≤j
 |0=>ai _
 |j+1=>by
  unfold bst
  split
  ·exact ai _
  ·exact Nat.le_succ_of_le (xnk kk j)
structure MJ(X:Cx)(H2:Hp)(s2:ab)(G:Hp)(s':ab):Prop where
 os:s'.os=s2.os
 bare:e9 s'.gens
 un:Un (frs X.stack) [] H2 G s2.heap s'.heap
 hok:HOk X.prog X.w G s'.heap
 same:xb H2 G
theorem MJ.turn{X:Cx}{H2 G:Hp}{s2 s':ab}{h':Heap}{t:Nat}{b:Addr}(J:MJ X H2 s2 G s')(fb:G b=none)(hb:s2.heap.objs.size≤b)(k:∀c o,c≠b→s'.heap.get? c=some o→h'.get? c=some o):MJ X H2 s2 G {s' with heap:=h',toks:=t}:=by
 have lt2:∀c o,s2.heap.get? c=some o→c≠b:=fun c o q=>ar (aw (aj q) hb);refine⟨J.os,J.bare,⟨fun c o q n1 n2 n3=>k c o (lt2 c o q) (J.un.keep c o q n1 n2 n3),fun c o q n1 n2 n3=>?_,J.un.free,fun c o q n3=>?_,J.un.fix⟩,xfc J.hok fb k,J.same⟩
 ·obtain⟨sl,e⟩:=J.un.slot c o q n1 n2 n3;exact⟨sl,k c _ (lt2 c o q) e⟩
 ·obtain⟨o',e⟩:=J.un.there c o q n3;exact⟨o',k c _ (lt2 c o q) e⟩
theorem MJ.inv{X:Cx}{H2 G:Hp}{s2 s':ab}{pins:List (Addr×Obj)}{σ:L2.St}(J:MJ X H2 s2 G s')(I:Inv X pins σ H2 s2):Inv X pins σ G s':=I.call' (s':=s') (ch:=[]) J.os J.un J.hok J.bare fun b z=>absurd z (by simp)
def xrs(kk:Nat→List Int)(xs:List Int)(G:Hp)(j:Nat)(old:Array Value):Prop:=
 (j=0∧old=#[])∨∃j',j=j'+1∧∃vb d,old=#[vb,.ref d]∧RelV (.int (xs.getD (bst kk j') 0)) vb∧G d=some (.tup ((kk (bst kk j')).map V.int))
section
variable {X:Cx} {k:Nat} {nm qual:Str} {params:cE} {body:dg} {scope:Scope} {ps:List Str} {sp:List (Str×V)→Sp} {pins:List (Addr×Obj)} {σ:L2.St} {H2:Hp} {s2:ab} {f l S It:Addr} {fv:List (Str×V)} {kk:Nat→List Int} {xs:List Int} {R:gc→ab→Prop}
theorem xoq(F:zJ X.prog X.w X.K X.mg X.base CX0 k nm qual params body scope ps sp)(hr:xW (k+2) X.A)(hcm:X.calm=true)(I:Inv X pins σ H2 s2)(hc:zv H2 f nm qual params body scope fv)(hl:SqL X.K H2 l (xs.map V.int))(hpos:0<xs.length)
  (hsp:∀i x,xs[i]? =some x→∀H3,xb H2 H3→sp fv [.int x] H3 (fun v H4=>xb H3 H4∧∃d,v= .ref d∧H4 d=some (.tup ((kk i).map V.int))) E0)
  (hS:s2.heap.objs.size≤S) (hI:s2.heap.objs.size≤It) (hSI:S≠It)
  (fin:∀v sF G',Inv X pins σ G' sF→xb H2 G'→RelV (.int (xs.getD (bst kk (xs.length - 1)) 0)) v→R (.ok (.ret v)) sF):
  ∀(r j:Nat) (s':ab) (G:Hp) (old:Array Value) (c:Nat),xs.length - j=r→j≤xs.length→MJ X H2 s2 G s'→G S=none→G It=none→s'.heap.get? S=some (aX "list" old c)→xrs kk xs G j old→s'.heap.IsListIter It l j→
   cW (model X.prog X.w) X.A (.builtin "min.loop" ⟨[.ref It,.ref f,.ref S],[]⟩) R s':=by
  intro r
  induction r using Nat.strongRecOn with|ind r ih=>
  intro j s' G old c hk hj J fS fI atS hb hit;have hname:(toString "min"++toString ".loop":String)="min.loop":=by decide
  have Iu:=J.inv I;obtain⟨its,rel,pl,_⟩:=Iu.list (J.same.seq hl);have hn:its.length=xs.length:=by have:=rel.length;rw[aa]at this;exact this.symm
  have hlI:l≠It:=fun z=>by
   obtain⟨its2,_,⟨o,n,e,_⟩,_⟩:=I.list hl;exact absurd (aj e) (by rw[z];exact Nat.not_lt.mpr hI)
  have W:=iq (prog:=X.prog) (w:=X.w) (A:=X.A.in1) (I.ok.hd hcm) It l hlI its.toArray;have hsz:its.toArray.size=xs.length:=by simpa using hn
  refine cV PySem.F.entry_min_loop ?_;rw[c7 PySem.F.plain_min_loop _];show wpAny _ X.A.in1 (gZ (.ref S) >>= _) _ _ _;refine ae (dC atS rfl ?_);show wpAny _ X.A.in1 (tryCatch (gx (.ref It)) _ >>= _) _ _ _;cases r with
  |zero=>
   have ej:j=xs.length:=by lia
   refine ae (dD (W.done _ _ _ ⟨by rw[hsz,←ej];exact hit,pl.isList⟩ fun h' tk' hk'=>?_));have J1:MJ X H2 s2 G {s' with heap:=h',toks:=tk'}:=J.turn fI hI fun c o hc q=>hk' c o (by simpa using hc) q;have atS1:=hk' S _ (by simpa using hSI) atS;rcases hb with⟨z,_⟩|⟨j',ej',vb,d,rfl,rv,hd⟩
   ·lia
   show wpAny _ X.A.in1 (fP S (fun _=>#[]) >>= _) _ _ _;refine ae (cU atS1 rfl (ae (di (aA ?_))) (by show(2:Nat)≤_;decide));have s1:=bY h' S (aW fun _=>(#[]:Array Value));have J2:=J1.turn (h':=h'.update S (aW fun _=>(#[]:Array Value))) (t:=tk') fS hS fun c o hc q=>(s1.2 c hc).trans q;refine fin vb _ G (J2.inv I) J.same ?_;have:xs.length - 1=j':=by lia
   rw[this];exact rv
  |succ r=>
   have hlt:j<xs.length:=by lia
   refine ae (dD (W.item j _ _ _ (by rw[hsz];exact hlt) ⟨hit,pl.isList⟩ fun v h' tk' hP hst' hk'=>?_));have J1:MJ X H2 s2 G {s' with heap:=h',toks:=tk'}:=J.turn fI hI fun c o hc q=>hk' c o (by simpa using hc) q;have atS1:=hk' S _ (by simpa using hSI) atS;obtain⟨oI,hoI,hoc,hod⟩:=hst'.1;have hv:its[j]? =some v:=by simpa using hP
   obtain⟨u,hu1,hu2⟩:=rel.get (i:=j) (x:=.int xs[j]) (by simp[hlt]);rw[hv]at hu1;cases hu1;have Iu1:=J1.inv I;have E0':jR X.prog X.w X.K X.mg X.base X.A.in1 X.stack {s' with heap:=h',toks:=tk'} G:=by
    have e:=Iu1.env0;exact⟨e.frames,e.mod,e.bs,e.bsz,e.funs,e.frf,e.hok,e.bare⟩
   show wpAny _ X.A.in1 (tryCatch (fc [v] (call (.ref f) [v])) _ >>= _) _ _ _;refine ae (dD (bR (fV (dq (F.run X.A.in1 X.stack _ G f fv _ [.int xs[j]] _ E0 (hr.in1.mono (c6 k)) E0' (hc.same J.same) (.cons hu2 .nil) (hsp j xs[j] (ag hlt) G J.same)) fun rr s'' hq=>?_))));cases rr with
   |error e=>exact hq.elim
   |ok fl=>
    cases fl with
    |next=>exact hq.elim
    |brk=>exact hq.elim
    |cont=>exact hq.elim
    |ret u=>
     obtain⟨v',H',hos,hbare,hun,hhok,hrv,hSm,d,rfl,hd⟩:=hq;cases hrv;have atS2:=hun.keep S _ atS1 fS (I.young hS) (by simp);have atI2:=hun.keep It _ hoI fI (I.young hI) (by simp);have fS2:H' S=none:=hun.free S _ atS1 fS (by simp);have fI2:H' It=none:=hun.free It _ hoI fI (by simp);have J2:MJ X H2 s2 H' s'':=⟨hos.trans J.os,hbare,J1.un.trans hun,hhok,J.same.trans hSm⟩;have upS:∀(its2:Array Value),∃c2,(s''.heap.update S (aW fun _=>its2)).get? S=some (aX "list" its2 c2):=fun its2=>⟨_,eX atS2 fun _=>its2⟩;have stS:∀(its2:Array Value) (t:Nat),MJ X H2 s2 H' {s'' with heap:=s''.heap.update S (aW fun _=>its2),toks:=t}:=fun its2 t=>
      J2.turn fS2 hS fun c o hc q=>((bY s''.heap S (aW fun _=>its2)).2 c hc).trans q
     have itS:∀(its2:Array Value),(s''.heap.update S (aW fun _=>its2)).IsListIter It l (j+1):=fun its2=>⟨oI,((bY s''.heap S (aW fun _=>its2)).2 It hSI.symm).trans atI2,hoc,hod⟩;rcases hb with⟨z,rfl⟩|⟨j',ej',vb,db,rfl,rv,hdb⟩
     ·subst z;show wpAny _ X.A.in1 (fP S (fun _=>#[v,.ref d]) >>= _) _ _ _;refine ae (cU atS2 rfl ?_);rw[hname];obtain⟨c2,hc2⟩:=upS #[v,.ref d];refine aA ⟨cf PySem.F.plain_min_loop _,ih r (c3 r) 1 _ H' _ c2 (by lia) hlt (stS _ _) fS2 fI2 hc2 (.inr ⟨0,rfl,v,d,rfl,?_,hd⟩) (itS _)⟩;have:xs.getD (bst kk 0) 0=xs[0]:=by simp[bst,bf,hlt]
      rw[this];exact hu2
     ·have hdb2:=hSm.at hdb;obtain⟨_,its1,r1,p1⟩:=(show xH X.prog X.w H' s''.heap d _ from hhok d _ hd);obtain⟨_,its2,r2,p2⟩:=(show xH X.prog X.w H' s''.heap db _ from hhok db _ hdb2);show wpAny _ X.A.in1 (tryCatch (fc [v,.ref d] (bE .Lt (.ref d) (.ref db) >>= _)) _ >>= _) _ _ _;refine ae (dD (bR (ae (HT.xlv p1 p2 (intsAre_of r1) (intsAre_of r2) hr.in1.units0 ?_))));refine ae (bR (cq ?_));refine ae (di (aA ?_));have ex:xs.getD j 0=xs[j]:=by simp[bf,hlt]
      subst ej'
      by_cases hb':HT.lexLt (kk (j'+1)) (kk (bst kk j'))=true
      ·have eb:bst kk (j'+1)=j'+1:=by show(if _ then _ else _)=_;rw[if_pos hb']
       simp only[hb',if_true];refine ae (cU atS2 rfl (ae (di ?_)) (by show(2:Nat)≤_;decide));rw[hname];obtain⟨c2,hc2⟩:=upS #[v,.ref d];refine aA ⟨cf PySem.F.plain_min_loop _,ih r (c3 r) (j'+1+1) _ H' _ c2 (by lia) hlt (stS _ _) fS2 fI2 hc2 (.inr ⟨j'+1,rfl,v,d,rfl,?_,?_⟩) (itS _)⟩
       ·rw[eb,ex];exact hu2
       ·rw[eb];exact hd
      ·have eb:bst kk (j'+1)=bst kk j':=by show(if _ then _ else _)=_;rw[if_neg hb']
       simp only[hb',cx,if_false];refine ae (di ?_);rw[hname];refine aA ⟨cf PySem.F.plain_min_loop _,ih r (c3 r) (j'+1+1) _ H' _ c (by lia) hlt J2 fS2 fI2 atS2 (.inr ⟨j'+1,rfl,vb,db,rfl,?_,?_⟩) ⟨oI,atI2,hoc,hod⟩⟩
       ·rw[eb];exact rv
       ·rw[eb];exact hdb2
def xsc(K:ah)(nm qual:Str)(params:cE)(body:dg)(scope:Scope)(sp:List (Str×V)→Sp)(ta:TA)(tf:TE):TE:=fun σ H Q=>ta σ H fun ys H1=>tf σ H1 fun y H2=>
 ∃(l f:Addr) (xs:List Int) (fv:List (Str×V)) (kk:Nat→List Int),ys=[.ref l]∧y= .ref f∧SqL K H2 l (xs.map V.int)∧0<xs.length∧zv H2 f nm qual params body scope fv∧
 (∀i x,xs[i]? =some x→∀H3,xb H2 H3→sp fv [.int x] H3 (fun v H4=>xb H3 H4∧∃d,v= .ref d∧H4 d=some (.tup ((kk i).map V.int))) E0)∧
 ∀(H':Hp),xb H2 H'→Q (.int (xs.getD (bst kk (xs.length - 1)) 0)) H'
theorem xpX{e fe:Expr}{ta:TA}{tf:TE}{p pos kp:Pos}(F:zJ X.prog X.w X.K X.mg X.base CX0 k nm qual params body scope ps sp)(hr:xW (k+2) X.A)(hc:X.calm=true)(hg:Gl X "min")(hm:X.mg "min"=none)(ha:PA X [e] ta)(hf:PE X fe tf)
  (he:cH pos (aR [e] X.env)=(false,eval e X.env)::cH pos (aR [] X.env):=by rfl):
  PE X (.Call (.Name "min" p) [e] [⟨some "key",fe,kp⟩] pos) (xsc X.K nm qual params body scope sp ta tf):=by
 intro pins s σ H Q I h;refine bW (yW I hg hm xb8 ?_ (by decide) (by decide));refine i7 (thn (ha pos pins s σ H _ I h) fun us s1 hh92=>?_) he (by rw[he];rfl) rfl rfl;obtain⟨xs,H1,I1,r1,q1⟩:=hh92;refine kz (thn (hf pins s1 σ H1 _ I1 q1) fun fu s2 hh93=>?_);obtain⟨y,H2,I2,r2,q2⟩:=hh93;refine kws_nil ?_;obtain⟨l,f,xs,fv,kk,rfl,rfl,hl,hpos,hcl,hsp,q⟩:=q2;obtain⟨u,rfl,ru⟩:=Vals.one r1;cases ru;cases r2;have hname:(toString "min"++toString ".loop":String)="min.loop":=by decide
 obtain⟨its,rel,pl,_⟩:=I2.list hl;show wpAny _ _ (call (.builtin "min") [.ref l] [(bX "key",.ref f)]) _ _ s2;refine kmb_tree PySem.F.kind_min PySem.F.plain_min PySem.F.entry_min (kmb_min_key _ _) ?_;show wpAny _ X.A.in1 (dI "min" ["key","default"] 0 ⟨[],[(bX "key",.ref f)]⟩ >>= _) _ _ s2;refine ae (i8 (show dI "min" ["key","default"] 0 ⟨[],[(bX "key",.ref f)]⟩=pure [some (.ref f),none]from rfl) ?_);refine ae (aA ?_);refine ae (dy pl.isList ?_);refine ae (fm ?_ (aJ _));rw[hname];refine aA ⟨cf PySem.F.plain_min_loop _,?_⟩;have hSz:(s2.heap.push {cls:=.type "list_iterator",data:=.fields #[.ref l,.int 0 0]}).objs.size=s2.heap.objs.size+1:=cI ..;have hS1:s2.heap.objs.size≤(s2.heap.push {cls:=.type "list_iterator",data:=.fields #[.ref l,.int 0 0]}).objs.size:=by rw[hSz];exact c6 _
 have old:∀b o,s2.heap.get? b=some o→((s2.heap.push {cls:=.type "list_iterator",data:=.fields #[.ref l,.int 0 0]}).push (aX "list" #[] 0)).get? b=some o:=fun b o e=>af _ (af _ e);refine xoq (kk:=kk) F hr hc I2 hcl hl hpos hsp hS1 (ai _) (by rw[hSz];exact dG (c3 _)) (fun v sF G' IF sm rv=>?_) xs.length 0 _ H2 #[] 0 (by simp) (aJ _) ⟨rfl,I2.bare,Un.kept old,I2.hok.kept old,xb.refl _⟩
  (I2.hok.fresh hS1) (I2.hok.fresh (ai _)) (aB _ rfl) (.inl ⟨rfl,rfl⟩) ⟨_,af _ (aB _ rfl),rfl,rfl⟩
 exact⟨_,G',IF,rv,q G' sm⟩
end
end L2
namespace PySem.W
open PySem PySem.Calls PyProof.Rows
def xpY(h:Heap)(ks:List Value):Prop:=∀v∈ks,∃i t,v= .int i t
section
variable {prog:aI} {w:World} {A:aU} {E:Value→ab→Prop} {s:ab} {a kS:Addr} {vs:List Value} {e1:Nat} {f:Value} {P:PySem.Fin→ab→Prop}
def xg0(prog:aI)(w:World)(A:aU)(kS a:Addr)(vs:List Value)(P:PySem.Fin→ab→Prop)(ks:List Value)(s:ab):Prop:=
 ∃lt:Nat→Nat→Bool,L2.STO lt vs.length∧xpY s.heap ks∧(∀i j (C:Bool→ab→Prop),i<vs.length→j<vs.length→C (lt i j) s→wpAny (model prog w) A (keyLt' gP (ks.getD i bq) (ks.getD j bq)) C (fun _ _=>False) s)∧
 ∀p:Array Nat,L2.Pm vs.length p→L2.Up lt p vs.length→∀h' c,(∀b o,b≠kS→b≠a→s.heap.get? b=some o→h'.get? b=some o)→h'.get? a=some (aX "list" (aF (p.toList.map fun i=>vs.getD i bq)) c)→P (.done (.ret .none)) {s with heap:=h'}
def ux(prog:aI)(w:World)(A:aU)(kS a:Addr)(e1:Nat)(f:Value)(vs:List Value)(P:PySem.Fin→ab→Prop):List Value→List Value→ab→Prop
 |[],ks,s=>s.heap.get? a=some (aX "list" #[] e1)∧xg0 prog w A kS a vs P ks s
 |v::r,ks,s=>wpAny (model prog w) A (call f [v]) (fun k s'=>(∃e,s'.heap.get? kS=some (aX "list" (aF ks) e))∧∀h' c,(∀b o,b≠kS→s'.heap.get? b=some o→h'.get? b=some o)→h'.get? kS=some (aX "list" (aF (ks++[k])) c)→ux prog w A kS a e1 f vs P r (ks++[k]) {s' with heap:=h'}) (fun _ _=>False) s
theorem xos{ks:List Value}{e:Nat}(hak:a≠kS)(hl:ks.length=vs.length)(h64:vs.length<64)(ha:s.heap.get? a=some (aX "list" #[] e1))(hk:s.heap.get? kS=some (aX "list" (aF ks) e))
  (h:xg0 prog w A kS a vs P ks s):wpAny (model prog w) A (ksk_end a false vs.toArray e1 (.ref kS) (aF ks)) P E s:=by
 obtain⟨lt,S,hL,hcmp,fin⟩:=h;unfold ksk_end
 try dsimp only
 by_cases h2:2≤vs.length
 ·have hn2:¬vs.toArray.size<2:=by rw[aE];lia
  have hk1:wpAny (model prog w) A (keyKind' (aF ks)) (fun κ s'=>κ=gP∧s=s') (fun _ _=>False) s:=kas_kind (T:=cG "int") (by lia) (fun v hv=>by obtain⟨i,t,rfl⟩:=hL v hv;exact .now) (by decide) (by decide) ⟨rfl,rfl⟩;simp only[cx,if_false];rw[if_neg hn2,if_neg hn2];refine ae (aY hk1 (fun κ s0 hk=>?_) fun _ _ x=>x.elim);obtain⟨rfl,rfl⟩:=hk;have hw:(kas_sort vs.length).kasWp (kas_ask prog w A gP ks) (fun p s''=>s=s''∧L2.Pm vs.length p∧L2.Up lt p vs.length) s:=by
   refine L2.Wp.kas (lt:=lt) (n:=vs.length) (fun i j C hi hj hc=>hcmp i j C hi hj hc) ?_;exact L2.wp_mono (L2.xkW S h2) fun q hq=>⟨rfl,hq⟩
  refine ae (aY (kat_run (Q:=fun st' s'=>∃p:Array Nat,arrOf st'=p.map (kas_item ((aF ks).zip (aF vs)))∧failedOf st'=none∧s=s'∧L2.Pm vs.length p∧L2.Up lt p vs.length)
   hl h2 h64 (fun p' st' s' a1 a2 a3 a4=>⟨p',a2,a3,a4⟩) hw) ?_ fun _ _ x=>x)
  rintro⟨⟨⟩,st'⟩ s' ⟨p,har,hf,rfl,hp,hu⟩
  try dsimp only
  refine xcv hak (kat_snds hl har) (by rw[aa,br,hp.size];exact h64) (by lia) hf ha hk fun h' c k1 k2=>fin p hp hu h' c k1 k2
 ·have hn2:vs.toArray.size<2:=by rw[aE];lia
  simp only[cx,if_false];rw[if_pos hn2,if_pos hn2];refine ae (aA ?_);refine ae (aA ?_)
  try dsimp only
  have hsn:(arrOf (SortSt.mk' general' ((aF ks).zip (aF vs)) #[] 7 none)).map (·.2)=aF vs:=by
   show((aF ks).zip (aF vs)).map (·.2)=aF vs;apply Array.toList_inj.mp;simp[List.map_snd_zip,hl]
  refine xcv hak hsn h64 (by lia) rfl ha hk fun h' c k1 k2=>fin (aF (a9 vs.length)) ⟨by simp,by simp⟩ (fun i j hij hj=>by lia) h' c k1 ?_;have e:((aF (a9 vs.length)).toList.map fun i=>vs.getD i bq)=vs:=by
   apply dY;intro i
   by_cases hi:i<vs.length
   ·simp[hi]
   ·simp[hi]
  rw[e];exact k2
theorem xhN{n:Nat}{body:Value→PUnit→Sem (ForInStep PUnit)}(hn:n<64)
  (hb:∀x ks (s:ab) (C:Value→Nat→ab→Prop),cC ks<64→wpAny (model prog w) A (call f [x]) (fun k s'=>(∃e,s'.heap.get? kS=some (aX "list" (aF ks) e))∧∀h' c,(∀b o,b≠kS→s'.heap.get? b=some o→h'.get? b=some o)→h'.get? kS=some (aX "list" (aF (ks++[k])) c)→C k c {s' with heap:=h'}) (fun _ _=>False) s→
   wpAny (model prog w) A (body x ⟨⟩) (fun r s'=>r= .yield ⟨⟩∧∃k c,s'.heap.get? kS=some (aX "list" (aF (ks++[k])) c)∧C k c s') E s):∀(r ks:List Value) (e:Nat) (s:ab),ks.length+r.length=n→
   s.heap.get? kS=some (aX "list" (aF ks) e)→ux prog w A kS a e1 f vs P r ks s→
   wpAny (model prog w) A (forIn r ky body) (fun _ s'=>∃ks e,s'.heap.get? kS=some (aX "list" (aF ks) e)∧ks.length=n∧s'.heap.get? a=some (aX "list" #[] e1)∧xg0 prog w A kS a vs P ks s') E s
 |[],ks,e,s,hl,hk,h=>by
  rw[List.forIn_nil];exact aA ⟨ks,e,hk,by simpa using hl,h⟩
 |x::r,ks,e,s,hl,hk,h=>by
  rw[bj]at hl;rw[i4];have h':=h;unfold ux at h';refine ae (aY (hb x ks s (fun k c s'=>ux prog w A kS a e1 f vs P r (ks++[k]) s') (by lia) (aY h' (fun k s' hq=>hq) fun _ _ x=>x)) (fun q s' hq=>?_) fun _ _ x=>x);obtain⟨rfl,k,c,hk',h2⟩:=hq;show wpAny (model prog w) A (forIn r ky body) _ E s';exact xhN hn hb r (ks++[k]) c s' (by rw[aq,bK];lia) hk' h2
theorem xlV{n:Nat}(ho:s.heap.get? a=some (aX "list" vs.toArray n))(h64:vs.length<64)
  (h:∀kS e1 h',(∀b o,b≠a→s.heap.get? b=some o→h'.get? b=some o)→h'.get? a=some (aX "list" #[] e1)→h'.get? kS=some (aX "list" #[] 0)→s.heap.objs.size≤kS→ux prog w A kS a e1 f vs P vs [] {s with heap:=h'}):
  wpAny (model prog w) A (ksk_tree a f false) P E s:=by
 have ha:a<s.heap.objs.size:=aj ho;have s1:=bY s.heap a (aW fun _=>(#[]:Array Value));obtain⟨e1,ho1⟩:∃e1,(s.heap.update a (aW fun _=>(#[]:Array Value))).get? a=some (aX "list" #[] e1):=⟨_,eX ho fun _=>#[]⟩;have hkS:((s.heap.update a (aW fun _=>(#[]:Array Value))).push (aX "tuple" vs.toArray 0)).objs.size=s.heap.objs.size+1:=by rw[size_push',iL]
 unfold ksk_tree;refine ae (iM ho rfl ?_);refine ae (fw ho rfl ?_ (by rw[aE,av];lia) (aJ _));refine ae (seqEpoch_at ho1 rfl ?_);refine ae (wpAny_newTuple ?_ (by show vs.length≤_;rw[av];lia));refine ae (fm ?_ (aJ _));refine bR ?_;generalize hK:((s.heap.update a (aW fun _=>(#[]:Array Value))).push (aX "tuple" vs.toArray 0)).objs.size=kS at hkS;generalize hh:((s.heap.update a (aW fun _=>(#[]:Array Value))).push (aX "tuple" vs.toArray 0)).push (aX "list" #[] 0)=h1;have hk0:h1.get? kS=some (aX "list" #[] 0):=by rw[←hh,←hK];exact aB _ rfl
 have hk:=h kS e1 h1 (fun b o hb q=>by rw[←hh];exact af _ (af _ ((s1.2 b hb).trans q))) (by rw[←hh];exact af _ (af _ ho1)) hk0 (by rw[hkS];exact c6 _);have hak:a≠kS:=ar (by rw[hkS];exact Nat.lt_succ_of_lt ha);unfold ksk_rest;refine ae (gE ?_)
 first
  |rw[lb]
  |(rw[←fR];simp only[kM])
  |rw[←fR]
 refine ae (aY (xhN h64 (fun x ks s' C hz hx=>?_) vs [] 0 {s with heap:=h1} (by simp) hk0 hk) (fun _ s' hd=>?_) fun _ _ x=>x)
 ·refine ae (kK (aY hx (fun k s'' hk=>?_) fun _ _ hF=>hF.elim));obtain⟨⟨e,nk⟩,c⟩:=hk;have s1:=bY s''.heap kS (aW (·.push k));have ea:(aF ks).push k=aF (ks++[k]):=by simp
  obtain⟨c2,hc2⟩:∃c2,(s''.heap.update kS (aW (·.push k))).get? kS=some (aX "list" (aF (ks++[k])) c2):=⟨_,by rw[←ea];exact eX nk (·.push k)⟩
  try dsimp only
  refine ae (fw nk rfl ?_ (by rw[aE,av];lia) (a7 (gz (Array.size_push ..)) (by rw[aE,av];lia)));exact aA ⟨rfl,k,c2,hc2,c _ c2 (fun b o hb q=>(s1.2 b hb).trans q) hc2⟩
 ·obtain⟨ks,e,hk',hl,ha',fin⟩:=hd
  try dsimp only
  refine ae (iM hk' rfl ?_);exact xos hak hl h64 ha' hk' fin
end
end PySem.W
namespace L2
open PySem PySem.Spec PyProof.Rows PySem.W
structure xsd(X:Cx)(H2:Hp)(s2:ab)(kk:Nat→Int)(D kS:Addr)(e1:Nat)(ks:List Value)(G:Hp)(s':ab):Prop where
 os:s'.os=s2.os
 bare:e9 s'.gens
 un:Un (frs X.stack) [] H2 G s2.heap s'.heap
 hok:HOk X.prog X.w G s'.heap
 same:xb H2 G
 keys:∀i,i<ks.length→∃t,ks[i]? =some (.int (kk i) t)
 atD:s'.heap.get? D=some (aX "list" #[] e1)
 fD:G D=none
 fk:G kS=none
section
variable {X:Cx} {k:Nat} {nm qual:Str} {params:cE} {body:dg} {scope:Scope} {ps:List Str} {sp:List (Str×V)→Sp} {pins:List (Addr×Obj)} {σ:St} {H2:Hp} {s2:ab} {f D kS:Addr} {fv:List (Str×V)} {kk:Nat→Int} {vs:List Value} {xs:List V} {P:PySem.Fin→ab→Prop} {e1:Nat}
theorem xhO(F:zJ X.prog X.w X.K X.mg X.base CX0 k nm qual params body scope ps sp)(hr:xW (k+2) X.A)(I:Inv X pins σ H2 s2)(hc:zv H2 f nm qual params body scope fv)
  (hsp:∀i x,xs[i]? =some x→∀H3,xb H2 H3→sp fv [x] H3 (fun v H4=>xb H3 H4∧v= .int (kk i)) E0)
  (hv:Vals xs vs) (hD:s2.heap.objs.size≤D) (hk:s2.heap.objs.size≤kS) (hDk:D≠kS) (h64:vs.length<64)
  (S:STO (fun i j=>decide (kk i<kk j)) vs.length)
  (fin:∀p:Array Nat,Pm vs.length p→Up (fun i j=>decide (kk i<kk j)) p vs.length→∀sF G',Inv X pins σ G' sF→xb H2 G'→G' D=some (.lst (p.toList.map fun(i:Nat)=>xs.getD i .non))→P (.done (.ret .none)) sF):
  ∀(r ks:List Value) (s':ab) (G:Hp),r=vs.drop ks.length→ks.length≤vs.length→xsd X H2 s2 kk D kS e1 ks G s'→(∃e,s'.heap.get? kS=some (aX "list" (aF ks) e))→
   ux X.prog X.w X.A.in1.in1 kS D e1 (.ref f) vs P r ks s'
 |[],ks,s',G,hr0,hle,J,hkS=>by
  have hlen:ks.length=vs.length:=by
   have:=congrArg cC hr0;simp at this;lia
  unfold ux;refine⟨J.atD,fun i j=>decide (kk i<kk j),S,fun v hvm=>?_,fun i j C hi hj hC=>?_,fun p hp hu h' c keep hDc=>?_⟩
  ·obtain⟨i,hi,rfl⟩:=cy.mp hvm;obtain⟨t,h1⟩:=J.keys i hi;rw[ag hi]at h1;exact⟨_,t,bD h1⟩
  ·obtain⟨t1,a1⟩:=J.keys i (by lia);obtain⟨t2,b1⟩:=J.keys j (by lia);have g1:ks.getD i bq= .int (kk i) t1:=by simp[bf,a1]
   have g2:ks.getD j bq= .int (kk j) t2:=by simp[bf,b1]
   rw[g1,g2,keyLt'_oneType];exact oneLt_int hC
  ·have lenp:p.toList.length=vs.length:=by rw[br];exact hp.size
   have hvals:Vals (p.toList.map fun(i:Nat)=>xs.getD i .non) (p.toList.map fun i=>vs.getD i bq):=by
    refine jA (by simp) fun j x u e1 e2=>?_;rw[ak]at e1 e2;cases q:p.toList[j]? with
    |none=>rw[q]at e1;cases e1
    |some m=>
     rw[q]at e1 e2;cases e1;have hm:m<vs.length:=bp.mp (hp.perm.mem_iff.mp (az q));have hmx:m<xs.length:=by rw[hv.length];exact hm
     obtain⟨w',hw1,hw2⟩:=hv.get (i:=m) (x:=xs[m]) (ag hmx);cases e2;have g1:vs.getD m bq=w':=by simp[bf,hw1]
     have g2:xs.getD m .non=xs[m]:=by simp[bf,hmx]
     show RelV (xs.getD m .non) (vs.getD m bq);rw[g1,g2];exact hw2
   have newD:xH X.prog X.w (upd G D (.lst (p.toList.map fun(i:Nat)=>xs.getD i .non))) h' D (.lst (p.toList.map fun(i:Nat)=>xs.getD i .non)):=⟨by rw[aa,lenp,av];lia,_,c,hvals,hDc⟩;have hokF:HOk X.prog X.w (upd G D (.lst (p.toList.map fun(i:Nat)=>xs.getD i .non))) h':=fun b u e=>by
    by_cases hb:b=D
    ·subst hb;rw[xk]at e;cases e;exact newD
    ·rw[xl hb]at e;refine(J.hok b u e).stay (fun c' v hc' q=>keep c' v ?_ ?_ q) (fun c' q=>by rw[xl (xA q J.fD)];exact q) fun c' xs q _=>by rw[xl (xA q J.fD)];exact q
     ·rintro rfl;rcases hc' with z|z
      ·rw[←z,J.fk]at e;cases e
      ·rw[J.fk]at z;cases z
     ·rintro rfl;rcases hc' with z|z
      ·exact hb z.symm
      ·rw[J.fD]at z;cases z
   have lt2:∀b o,s2.heap.get? b=some o→b≠D∧b≠kS:=fun b o q=>⟨ar (aw (aj q) hD),ar (aw (aj q) hk)⟩;have un2:Un (frs X.stack) [] H2 (upd G D (.lst (p.toList.map fun(i:Nat)=>xs.getD i .non))) s2.heap h':=by
    refine⟨fun b o q n1 n2 n3=>keep b o (lt2 b o q).2 (lt2 b o q).1 (J.un.keep b o q n1 n2 n3),fun b o q n1 n2 n3=>?_,fun b o q n1 n3=>by rw[xl (lt2 b o q).1];exact J.un.free b o q n1 n3,fun b o q n3=>?_,fun b u q fx=>?_⟩
    ·obtain⟨sl,e⟩:=J.un.slot b o q n1 n2 n3;exact⟨sl,keep b _ (lt2 b o q).2 (lt2 b o q).1 e⟩
    ·obtain⟨o',e⟩:=J.un.there b o q n3;exact⟨o',keep b _ (lt2 b o q).2 (lt2 b o q).1 e⟩
    ·have:=J.un.fix b u q fx;rw[xl (xA this J.fD)];exact this
   have IF:Inv X pins σ (upd G D (.lst (p.toList.map fun(i:Nat)=>xs.getD i .non))) {s' with heap:=h'}:=I.call' (s':={s' with heap:=h'}) (ch:=[]) J.os un2 hokF J.bare fun b z=>absurd z (by simp);refine fin p hp hu _ _ IF (fun b u q=>?_) xk;have:=J.same b u q;rw[xl (xA this J.fD)];exact this
 |x::r,ks,s',G,hr0,hle,J,hkS=>by
  have hlt:ks.length<vs.length:=by
   have:=congrArg cC hr0;simp at this;lia
  have hx:vs[ks.length]? =some x:=by
   have:=congrArg (fun l=>l[0]?) hr0;simp at this;exact this.symm
  have hr1:r=vs.drop (ks.length+1):=by
   have:=congrArg List.tail hr0;simpa using this
  have hxx:ks.length<xs.length:=by rw[hv.length];exact hlt
  obtain⟨w',hw1,hw2⟩:=hv.get (i:=ks.length) (x:=xs[ks.length]) (ag hxx);rw[hx]at hw1;cases hw1;have Iu:Inv X pins σ G s':=I.call' (s':=s') (ch:=[]) J.os J.un J.hok J.bare fun b z=>absurd z (by simp);have E0':jR X.prog X.w X.K X.mg X.base X.A.in1.in1 X.stack s' G:=by
   have e:=Iu.env0;exact⟨e.frames,e.mod,e.bs,e.bsz,e.funs,e.frf,e.hok,e.bare⟩
  unfold ux;refine fV (dq (F.run X.A.in1.in1 X.stack s' G f fv _ [xs[ks.length]] _ E0 hr.in1.in1 E0' (hc.same J.same) (.cons hw2 .nil) (hsp ks.length _ (ag hxx) G J.same)) fun rr s'' hq=>?_);cases rr with
  |error e=>exact hq.elim
  |ok fl=>
   cases fl with
   |next=>exact hq.elim
   |brk=>exact hq.elim
   |cont=>exact hq.elim
   |ret u=>
    obtain⟨v,H',hos,hbare,hun,hhok,hrv,hS,rfl⟩:=hq;obtain⟨tv,rfl⟩:=hrv;obtain⟨e,hkSe⟩:=hkS;have hDs:D∉frs X.stack:=I.young hD;have hks:kS∉frs X.stack:=I.young hk;have kD:=hun.keep D _ J.atD J.fD hDs (by simp);have kk2:=hun.keep kS _ hkSe J.fk hks (by simp);refine⟨⟨e,kk2⟩,fun h' c keep hnew=>?_⟩;refine xhO F hr I hc hsp hv hD hk hDk h64 S fin r (ks++[.int (kk ks.length) tv]) {s'' with heap:=h'} H' (by rw[hr1,aq];rfl) (by rw[aq];exact hlt) ⟨hos.trans J.os,hbare,?_,?_,J.same.trans hS,fun i hi=>?_,keep D _ hDk kD,hun.free D _ J.atD J.fD (by simp),hun.free kS _ hkSe J.fk (by simp)⟩ ⟨c,hnew⟩
    ·have u2:=J.un.trans hun;have lt2:∀b o,s2.heap.get? b=some o→b≠kS:=fun b o q=>ar (aw (aj q) hk);refine⟨fun b o q n1 n2 n3=>keep b o (lt2 b o q) (u2.keep b o q n1 n2 n3),fun b o q n1 n2 n3=>?_,u2.free,fun b o q n3=>?_,u2.fix⟩
     ·obtain⟨sl,e⟩:=u2.slot b o q n1 n2 n3;exact⟨sl,keep b _ (lt2 b o q) e⟩
     ·obtain⟨o',e⟩:=u2.there b o q n3;exact⟨o',keep b _ (lt2 b o q) e⟩
    ·exact xfc hhok (hun.free kS _ hkSe J.fk (by simp)) fun c' o hcb q=>keep c' o hcb q
    ·rw[aq,bK]at hi
     by_cases hij:i=ks.length
     ·subst hij;exact⟨tv,by rw[bI (ai _)];simp⟩
     ·obtain⟨t',g1⟩:=J.keys i (by lia);exact⟨t',by rw[bo (by lia)];exact g1⟩
def xpZ(K:ah)(nm qual:Str)(params:cE)(body:dg)(scope:Scope)(sp:List (Str×V)→Sp)(ta:TA)(tf:TE):TE:=fun σ H Q=>ta σ H fun ys H1=>tf σ H1 fun y H2=>
 ∃(r f:Addr) (xs:List V) (fv:List (Str×V)) (kk:Nat→Int),ys=[.ref r]∧y= .ref f∧SqL K H2 r xs∧xs.length<64∧zv H2 f nm qual params body scope fv∧
 (∀i x,xs[i]? =some x→∀H3,xb H2 H3→sp fv [x] H3 (fun v H4=>xb H3 H4∧v= .int (kk i)) E0)∧STO (fun i j=>decide (kk i<kk j)) xs.length∧
 ∀(l:Addr) (p:List Nat) (H':Hp),xb H2 H'→H2 l=none→H' l=some (.lst (p.map fun(i:Nat)=>xs.getD i .non))→p.Perm (a9 xs.length)→(p.Pairwise fun i j=>decide (kk i<kk j)=true)→Q (.ref l) H'
theorem xkk{e fe:Expr}{ta:TA}{tf:TE}{p pos kp:Pos}(F:zJ X.prog X.w X.K X.mg X.base CX0 k nm qual params body scope ps sp)(hr:xW (k+2) X.A)(hg:Gl X "sorted")(hm:X.mg "sorted"=none)(ha:PA X [e] ta)(hf:PE X fe tf)
  (he:cH pos (aR [e] X.env)=(false,eval e X.env)::cH pos (aR [] X.env):=by rfl):
  PE X (.Call (.Name "sorted" p) [e] [⟨some "key",fe,kp⟩] pos) (xpZ X.K nm qual params body scope sp ta tf):=by
 intro pins s σ H Q I h;refine bW (yW I hg hm xhF ?_ (by decide) (by decide));refine i7 (thn (ha pos pins s σ H _ I h) fun us s1 hh94=>?_) he (by rw[he];rfl) rfl rfl;obtain⟨xs,H1,I1,r1,q1⟩:=hh94;refine kz (thn (hf pins s1 σ H1 _ I1 q1) fun fu s2 hh95=>?_);obtain⟨y,H2,I2,r2,q2⟩:=hh95;refine kws_nil ?_;obtain⟨r,f,xs,fv,kk,rfl,rfl,hl,h64,hcl,hsp,S,q⟩:=q2;obtain⟨u,rfl,ru⟩:=Vals.one r1;cases ru;cases r2;obtain⟨its,rel,pl,_⟩:=I2.list hl;have hn:xs.length=its.length:=rel.length;show wpAny _ _ (call (.builtin "sorted") [.ref r] [(bX "key",.ref f)]) _ _ s2;refine call_function_entry_kw kind_sorted plain_sorted entry_sorted (ksk_s1 _ _) ?_;unfold ff.«sorted»;refine ae (m:=checkCount "sorted" 1 1 _) (aA ?_);refine ae (collect_list pl.isList ?_ (by rw[av];lia));generalize hg':(s2.heap.push (aX "list" #[] 0)).update s2.heap.objs.size (aW (· ++its.toArray))=g;have keep:∀b o,s2.heap.get? b=some o→g.get? b=some o:=fun b o e=>by
  rw[←hg'];exact(bA _ _ (dG (aj e))).trans (af _ e)
 have hlt:s2.heap.objs.size<g.objs.size:=by rw[←hg',iL,cI];exact c3 _
 refine ae (fm ?_ (by rw[av];lia));have hoL:(g.push (aX "list" its.toArray 0)).get? g.objs.size=some (aX "list" its.toArray 0):=aB _ rfl;refine ae (bR (wpAny_call_entry_kw slot_list_sort ⟨_,hoL,rfl⟩ entry_list_sort ?body (ksk_l1 _ _)))
 case body=>
  show wpAny (model X.prog X.w) X.A.in1.in1 (ff.«list.sort» ⟨[.ref g.objs.size],[(bX "key",.ref f)]⟩) _ _ _;rw[ksk_t1];have h64':its.length<64:=by rw[←hn];exact h64
  have hsg:s2.heap.objs.size≤g.objs.size:=b7 hlt;refine xlV (s:={s2 with heap:=g.push (aX "list" its.toArray 0)}) hoL h64' fun kS e1 h' keep2 atD atk hkS=>?_;have hkS':g.objs.size<kS:=aw (by show g.objs.size<(g.push _).objs.size;rw[cI];exact c3 _) hkS;have old:∀b o,s2.heap.get? b=some o→h'.get? b=some o:=fun b o e=>keep2 b o (ar (aw (aj e) hsg)) (af _ (keep b o e));refine xhO (kk:=kk) (xs:=xs) F hr I2 hcl hsp rel hsg (a7 hsg (b7 hkS')) (ar hkS') h64' (by rw[←hn];exact S) (fun p hp hu sF G' IF sm hDv=>?_) its [] _ H2 rfl (aJ _)
   ⟨rfl,I2.bare,Un.kept old,I2.hok.kept old,xb.refl _,fun i hi=>absurd hi (cz _),atD,I2.hok.fresh hsg,I2.hok.fresh (a7 hsg (b7 hkS'))⟩ ⟨0,atk⟩
  rw[←hn]at hp hu;exact⟨_,rfl,aA ⟨_,rfl,.ref g.objs.size,G',IF,rfl,q _ p.toList G' sm (I2.hok.fresh hsg) hDv hp.perm (xeE hp hu)⟩⟩
end
end L2
namespace L2
open PySem PySem.Spec PyProof.Rows
section
variable {X:Cx} {tg:Expr} {K:ah}
theorem xot{l:Expr}{tl:TE}(e:X.K=K)(hl:PE X l tl):PI X tg l (xo4 K tl):=e▸xR hl
end
end L2
namespace L2
open PySem PySem.Spec PyProof.Rows
theorem xeG{K:ah}{l:Addr}{xs:List V}{te:TE}{caps:L2.St}{Q:VK}{H2:Hp}(Pv:Nat→List V→Hp→Prop)(hl:SqL K H2 l xs)(hn:xs.length≤aL)(h0:Pv 0 [] H2)
  (hs:∀(i:Nat) x acc H3 H3',xs[i]? =some x→xb H2 H3→xb H3 H3'→Pv i acc H3→∃T v1 v2,x= .ref T∧SqT K H3' T [v1,v2]∧∀R:VK,(∀u H6',xb H3' H6'→(∀H6,xb H3 H6→(∀p o,(H3' p=none∨∀ys,o≠HO.lst ys)→H6' p=some o→H6 p=some o)→Pv (i+1) (acc++[u]) H6)→R u H6')→te (some v1::some v2::caps) H3' R)
  (hd:∀D acc H H',H2 D=none→H D=none→xb H2 H→xb H H'→Pv xs.length acc H→acc.length=xs.length→H' D=some (.lst acc)→Q (.ref D) H'):jn K (Itl K l) caps xe7 te Q H2:=by
 unfold jn;intro D hD;refine⟨fun i m acc H3=>m=xs.length - i∧i≤xs.length∧acc.length=i∧H3 D=some (.lst acc)∧xb H2 (del H3 D)∧Pv i acc (del H3 D),⟨xs.length,by simp,aJ _,rfl,xk,?_,?_⟩,?_⟩
 ·rw[yM,uv hD];exact xb.refl _
 ·rw[yM,uv hD];exact h0
 rintro i m acc H3 ⟨rfl,hi,hacc,hD3,s3,p3⟩;refine⟨hD3,?_⟩;have q:=(s3.trans zi).seq hl
 by_cases hlt:i<xs.length
 ·have hx:xs[i]? =some xs[i]:=ag hlt;refine .inr ⟨⟨xs,xs[i],q,hx⟩,by lia,fun v H4 y=>?_⟩;obtain⟨e,y⟩:=y;have ev:=y xs q;rw[hx]at ev;cases ev;subst e;obtain⟨T,v1,v2,h1,h2,h3⟩:=hs i _ acc _ _ hx s3 zi p3;refine⟨T,v1,v2,h1,h2,fun _=>?_,fun z=>by cases z⟩;refine h3 _ fun u H6' s6 k=>⟨s6.at hD3,xs.length - (i+1),by lia,rfl,hlt,by simp[hacc],xk,?_,?_⟩
  ·rw[yM];exact s3.trans (uw s6)
  ·rw[yM];refine k _ (uw s6) fun p o q1 q2=>?_;rw[vI (fun z=>by
    rcases q1 with q1|q1
    ·rw[z,hD3]at q1;cases q1
    ·rw[z,s6.at hD3]at q2;cases q2;exact q1 _ rfl)]
   exact q2
 ·have e:i=xs.length:=by lia
  subst e;exact .inl ⟨⟨xs,q,ai _⟩,hd D acc _ H3 hD zU s3 zi p3 hacc hD3⟩
end L2
namespace K38
open PySem PySem.Spec PyProof.Rows L2
def top(i:Nat):Stmt:=PySem.Challenge.pw_oneroom_k38_whole_made_for_every_two_tex.main.body.getD i (.Pass ⟨0,0,0,0⟩)
abbrev uy:Stmt:=top 2
abbrev xdr:Stmt:=top 3
abbrev vL:Stmt:=top 4
abbrev xcx:Stmt:=top 5
abbrev xcy:Stmt:=inClass (top 12) 0
abbrev xaH:Stmt:=inClass (top 12) 1
abbrev jT:Stmt:=inClass (top 12) 2
abbrev xbE:Stmt:=inClass (top 13) 0
abbrev xaI:Stmt:=inClass (top 13) 1
abbrev xaJ:Stmt:=inClass (top 13) 2
abbrev jU:Stmt:=inClass (top 13) 3
abbrev jV:Stmt:=inClass (top 13) 4
abbrev uO:Stmt:=inClass (top 13) 5
abbrev vM:Stmt:=inClass (top 13) 6
abbrev xbF:Stmt:=inClass (top 13) 7
abbrev xbG:Stmt:=inClass (top 13) 8
abbrev xcz:Stmt:=inClass (top 14) 0
abbrev xbH:Stmt:=inClass (top 14) 1
abbrev xaK:Stmt:=inClass (top 14) 2
abbrev xaL:Stmt:=inClass (top 14) 3
abbrev jq:Stmt:=inClass (top 14) 4
abbrev xcA:Stmt:=inClass (top 14) 5
abbrev xcB:Stmt:=inClass (top 14) 6
abbrev xfe:Stmt:=top 15
abbrev xaM:Stmt:=top 16
abbrev xbI:Stmt:=top 17
abbrev xbJ:Stmt:=top 18
abbrev xds:Stmt:=top 19
abbrev vN:Stmt:=top 20
abbrev xcC:Stmt:=top 21
abbrev xff:Stmt:=top 24
abbrev xbK:Stmt:=top 25
abbrev xaN:Stmt:=top 26
abbrev jr:Stmt:=top 27
abbrev uP:Stmt:=top 28
abbrev xiZ:Stmt:=top 29
abbrev xca:Stmt:=top 31
abbrev xaO:Stmt:=top 32
abbrev vO:Stmt:=top 33
abbrev yR:Stmt:=top 34
abbrev vi:Stmt:=top 35
abbrev xdt:Stmt:=top 36
abbrev vj:Stmt:=top 37
abbrev xbL:Stmt:=top 39
abbrev xg1:Stmt:=top 40
abbrev vk:Stmt:=top 41
abbrev vP:Stmt:=top 42
abbrev vQ:Stmt:=top 43
abbrev zV:Stmt:=top 44
abbrev xg2:Stmt:=top 47
abbrev jt:Stmt:=top 48
abbrev xbM:Stmt:=top 49
abbrev uQ:Stmt:=top 50
abbrev vm:Stmt:=top 51
abbrev vR:Stmt:=top 52
abbrev xdu:Stmt:=top 53
abbrev xbN:Stmt:=top 54
abbrev ju:Stmt:=top 56
abbrev xi0:Stmt:=top 57
abbrev xcD:Stmt:=inClass (top 59) 0
abbrev vn:Stmt:=inClass (top 59) 1
abbrev zW:Stmt:=inClass (top 59) 2
abbrev zQ:Stmt:=inClass (top 60) 0
abbrev xaP:Stmt:=inClass (top 60) 1
abbrev zo:Stmt:=inClass (top 60) 2
abbrev xaQ:Stmt:=inClass (top 60) 3
abbrev jW:Stmt:=inClass (top 60) 4
abbrev xaR:Stmt:=inClass (top 60) 6
abbrev zH:Stmt:=inClass (top 60) 8
abbrev yN:Stmt:=inClass (top 60) 9
abbrev xdv:Stmt:=top 62
abbrev xi1:Stmt:=top 63
abbrev xfg:Stmt:=top 64
abbrev xg3:Stmt:=top 65
abbrev xg4:Stmt:=top 66
abbrev xcE:Stmt:=top 67
abbrev xaS:Stmt:=top 68
abbrev xeg:Stmt:=top 69
abbrev q1v:Addr:=27
abbrev zy:Addr:=23
def uI:List (Pos×Str):=[(⟨6,40,6,60⟩,"endings.<locals>.<lambda>")]
abbrev q0r:Addr:=387
abbrev yA:Addr:=385
def zz:List (Pos×Str):=[(⟨208,35,208,80⟩,"put_in_order.<locals>.<lambda>")]
abbrev q1Y:Addr:=406
abbrev uz:Addr:=402
def jI:List (Pos×Str):=[(⟨223,32,223,50⟩,"joined.<locals>.<lambda>")]
abbrev q0T:Addr:=446
abbrev yI:Addr:=442
def zb:List (Pos×Str):=[(⟨265,45,265,70⟩,"do_piece.<locals>.<lambda>")]
abbrev q2c:Addr:=507
abbrev vB:Addr:=503
def xaT:List (Pos×Str):=[(⟨330,45,330,65⟩,"meant.<locals>.<lambda>")]
abbrev q0y:Addr:=576
abbrev yf:Addr:=572
def yB:List (Pos×Str):=[(⟨370,50,370,69⟩,"Store.write.<locals>.<lambda>")]
abbrev q0j:Addr:=623
abbrev xQ:Addr:=619
def yj:List (Pos×Str):=[(⟨392,52,392,70⟩,"Store.note_down.<locals>.<lambda>")]
set_option genInjectivity false in
set_option genSizeOf false in
set_option genSizeOfSpec false in
structure Adr where
 q2n:Addr
 xbr:ay
 q2B:Addr
 xdw:ay
 q0U:Addr
 vS:ay
 q2o:Addr
 xcF:ay
 q1R:Addr
 xcG:ay
 q0u:Addr
 vT:ay
 q0z:Addr
 jX:ay
 q1w:Addr
 xbO:ay
 q1i:Addr
 xaU:ay
 q1j:Addr
 xaV:ay
 q07:Addr
 jY:ay
 q08:Addr
 jZ:ay
 q0t:Addr
 uR:ay
 q0F:Addr
 vU:ay
 q1x:Addr
 xbP:ay
 q1y:Addr
 xbQ:ay
 q1u:Addr
 xal:ay
 q1z:Addr
 xbR:ay
 q1k:Addr
 xaW:ay
 q1l:Addr
 xaX:ay
 q0R:Addr
 jv:ay
 q1S:Addr
 xcH:ay
 q1T:Addr
 xcI:ay
 q2Z:Addr
 xfh:ay
 q1D:Addr
 xaY:ay
 q1Z:Addr
 xbS:ay
 q10:Addr
 xbT:ay
 q2C:Addr
 xdy:ay
 q0V:Addr
 vV:ay
 q2p:Addr
 xcJ:ay
 q20:Addr
 xfi:ay
 q11:Addr
 xbU:ay
 q1E:Addr
 xaZ:ay
 q1b:Addr
 jw:ay
 q0B:Addr
 uS:ay
 q3v:Addr
 xi2:ay
 q26:Addr
 xdz:ay
 q21:Tok
 q1F:Addr
 xa0:ay
 q0W:Addr
 vW:ay
 q0S:Addr
 uJ:ay
 q0K:Addr
 vo:ay
 q2D:Addr
 xdA:ay
 q2E:Addr
 xcK:ay
 q12:Addr
 xbV:ay
 q29:Addr
 xg5:ay
 q0L:Addr
 vp:ay
 q0X:Addr
 vX:ay
 q0Y:Addr
 vY:ay
 q1U:Addr
 xam:ay
 q24:Addr
 xeh:ay
 q1c:Addr
 jx:ay
 q13:Addr
 xbW:ay
 q0C:Addr
 uT:ay
 q0M:Addr
 vq:ay
 q0Z:Addr
 vZ:ay
 q2F:Addr
 xdB:ay
 q14:Addr
 xbX:ay
 q2P:Addr
 xcb:ay
 q3n:Addr
 xfV:ay
 q1V:Addr
 xcL:ay
 q0v:Addr
 vt:ay
 q0l:Addr
 zX:ay
 q00:Addr
 ja:ay
 q1m:Addr
 xa1:ay
 q0J:Addr
 uZ:ay
 q1n:Addr
 xa2:ay
 q09:Addr
 xaa:ay
 q1o:Addr
 xa3:ay
 q0h:Addr
 zI:ay
 q0o:Addr
 zK:ay
 q2G:Addr
 xdC:ay
 q3w:Addr
 xi3:ay
 q22:Addr
 xfj:ay
 q3a:Addr
 xg6:ay
 q3b:Addr
 xg7:ay
 q2q:Addr
 xcM:ay
 q1G:Addr
 xa4:ay
 q3B:Addr
 xlW:ay
 q2r:Addr
 q0a:Addr
 q0c:Addr
 q0G:Addr
 q0d:Addr
 q3Y:Tok
 q1p:Addr
structure Txt(K:ah)(mg:Str→Option Value)(a:Adr):Prop where
 jJ:Fun K "endings" "endings" uy a.q2n a.xbr
 xnl:Binds K a.xbr ["text"] []
 xnm:mg "endings"=some (.ref a.q2n)
 q3H:ui K q1v zy
 xlX:a.xbr.code= .ref q1v
 q2H:Fun K "longest" "longest" xdr a.q2B a.xdw
 xnn:Binds K a.xdw ["text","table","part"] []
 xno:mg "longest"=some (.ref a.q2B)
 q01:Fun K "how_many_less" "how_many_less" vL a.q0U a.vS
 xfW:Binds K a.vS ["text","table","part"] []
 xfX:mg "how_many_less"=some (.ref a.q0U)
 q2s:Fun K "agreeing" "agreeing" xcx a.q2o a.xcF
 xlY:Binds K a.xcF ["text","at","part"] []
 xlZ:mg "agreeing"=some (.ref a.q2o)
 q2Q:Fun K "__init__" "Row.__init__" xcy a.q1R a.xcG
 xcN:Binds K a.xcG ["self","to"] []
 q1H:Fun K "covers" "Row.covers" xaH a.q0u a.vT
 jb:Binds K a.vT ["self"] []
 q1N:Fun K "covered" "Row.covered" jT a.q0z a.jX
 yx:Binds K a.jX ["self"] []
 q2w:Fun K "__init__" "Take.__init__" xbE a.q1w a.xbO
 xeH:Binds K a.xbO ["self","to","start","count"] []
 q2d:Fun K "stays" "Take.stays" xaI a.q1i a.xaU
 uA:Binds K a.xaU ["self"] []
 q2e:Fun K "reads" "Take.reads" xaJ a.q1j a.xaV
 xi4:Binds K a.xaV ["self"] []
 q1O:Fun K "writes" "Take.writes" jU a.q07 a.jY
 xh9:Binds K a.jY ["self"] []
 q1P:Fun K "pieces" "Take.pieces" jV a.q08 a.jZ
 xia:Binds K a.jZ ["self"] []
 q05:Fun K "source_for" "Take.source_for" uO a.q0t a.uR
 xac:Binds K a.uR ["self","cell"] []
 q1q:Fun K "sign_for" "Take.sign_for" vM a.q0F a.vU
 xbs:Binds K a.vU ["self","cell","read"] []
 q2x:Fun K "cost" "Take.cost" xbF a.q1x a.xbP
 xkl:Binds K a.xbP ["self"] []
 q2y:Fun K "told" "Take.told" xbG a.q1y a.xbQ
 xbY:Binds K a.xbQ ["self"] []
 q2t:Fun K "__init__" "Put.__init__" xcz a.q1u a.xal
 xan:Binds K a.xal ["self","to","signs"] []
 q2z:Fun K "reads" "Put.reads" xbH a.q1z a.xbR
 xkm:Binds K a.xbR ["self"] []
 q2f:Fun K "writes" "Put.writes" xaK a.q1k a.xaW
 xi5:Binds K a.xaW ["self"] []
 q2g:Fun K "pieces" "Put.pieces" xaL a.q1l a.xaX
 xi6:Binds K a.xaX ["self"] []
 q1B:Fun K "sign_for" "Put.sign_for" jq a.q0R a.jv
 xcc:Binds K a.jv ["self","cell","read"] []
 q2R:Fun K "cost" "Put.cost" xcA a.q1S a.xcH
 xl0:Binds K a.xcH ["self"] []
 q2S:Fun K "told" "Put.told" xcB a.q1T a.xcI
 xl1:Binds K a.xcI ["self"] []
 q0N:Fun K "row_of" "row_of" xfe a.q2Z a.xfh
 zY:Binds K a.xfh ["told"] []
 zZ:mg "row_of"=some (.ref a.q2Z)
 q1I:Fun K "tells_take" "tells_take" xaM a.q1D a.xaY
 xi7:Binds K a.xaY ["told"] []
 xi8:mg "tells_take"=some (.ref a.q1D)
 q15:Fun K "tells_put" "tells_put" xbI a.q1Z a.xbS
 xkn:Binds K a.xbS ["told"] []
 xko:mg "tells_put"=some (.ref a.q1Z)
 q16:Fun K "are_signs" "are_signs" xbJ a.q10 a.xbT
 xkp:Binds K a.xbT ["signs"] []
 xkq:mg "are_signs"=some (.ref a.q10)
 q2I:Fun K "is_sign" "is_sign" xds a.q2C a.xdy
 xnp:Binds K a.xdy ["value"] []
 xnq:mg "is_sign"=some (.ref a.q2C)
 q0m:Fun K "is_whole_from" "is_whole_from" vN a.q0V a.vV
 zA:Binds K a.vV ["least","value"] []
 zB:mg "is_whole_from"=some (.ref a.q0V)
 q1W:Fun K "is_whole" "is_whole" xcC a.q2p a.xcJ
 xfY:Binds K a.xcJ ["value"] []
 xfZ:mg "is_whole"=some (.ref a.q2p)
 q23:Fun K "spoils" "spoils" xff a.q20 a.xfi
 xou:Binds K a.xfi ["rows"] []
 xov:mg "spoils"=some (.ref a.q20)
 q17:Fun K "spoilt_by" "spoilt_by" xbK a.q11 a.xbU
 xkr:Binds K a.xbU ["number","stretch","read"] []
 xks:mg "spoilt_by"=some (.ref a.q11)
 q1J:Fun K "ring_among" "ring_among" xaN a.q1E a.xaZ
 xi9:Binds K a.xaZ ["spoilt","left"] []
 xja:mg "ring_among"=some (.ref a.q1E)
 q1d:Fun K "stretch_read" "stretch_read" jr a.q1b a.jw
 xg8:Binds K a.jw ["row"] []
 xg9:mg "stretch_read"=some (.ref a.q1b)
 q0D:Fun K "stretch_written" "stretch_written" uP a.q0B a.uS
 xer:Binds K a.uS ["row"] []
 xes:mg "stretch_written"=some (.ref a.q0B)
 q3x:Fun K "meet" "meet" xiZ a.q3v a.xi2
 xrt:Binds K a.xi2 ["one","other"] []
 xru:mg "meet"=some (.ref a.q3v)
 xa5:xfd K "made" "made" xca a.q26 a.xdz [.int 6 a.q21]
 xha:Binds K a.xdz ["elder","newer","least"] [.int 6 a.q21]
 xjb:Binds K a.xdz ["elder","newer","least"] []
 xnr:mg "made"=some (.ref a.q26)
 q1K:Fun K "rows_found" "rows_found" xaO a.q1F a.xa0
 xjc:Binds K a.xa0 ["elder","newer","least"] []
 xjd:mg "rows_found"=some (.ref a.q1F)
 q0H:Fun K "put_ending_at" "put_ending_at" vO a.q0W a.vW
 xbt:Binds K a.vW ["end","signs"] []
 xbu:mg "put_ending_at"=some (.ref a.q0W)
 zR:Fun K "put_in_order" "put_in_order" yR a.q0S a.uJ
 xhb:Binds K a.uJ ["takes"] []
 xhc:mg "put_in_order"=some (.ref a.q0S)
 q27:ui K q0r yA
 xf0:a.uJ.code= .ref q0r
 q0O:Fun K "harmless_among" "harmless_among" vi a.q0K a.vo
 xfk:Binds K a.vo ["spoilt","left"] []
 xfl:mg "harmless_among"=some (.ref a.q0K)
 q2J:Fun K "put_for" "put_for" xdt a.q2D a.xdA
 xns:Binds K a.xdA ["take","elder"] []
 xnt:mg "put_for"=some (.ref a.q2D)
 xa6:Fun K "joined" "joined" vj a.q2E a.xcK
 xow:Binds K a.xcK ["puts"] []
 xox:mg "joined"=some (.ref a.q2E)
 q3N:ui K q1Y uz
 xnu:a.xcK.code= .ref q1Y
 q18:Fun K "pieces_of" "pieces_of" xbL a.q12 a.xbV
 xkt:Binds K a.xbV ["paper"] []
 xku:mg "pieces_of"=some (.ref a.q12)
 q3c:Fun K "go_on" "go_on" xg1 a.q29 a.xg5
 xp0:Binds K a.xg5 ["store","paper"] []
 xp1:mg "go_on"=some (.ref a.q29)
 q0P:Fun K "refuse_lengths" "refuse_lengths" vk a.q0L a.vp
 xfm:Binds K a.vp ["size","paper"] []
 xfn:mg "refuse_lengths"=some (.ref a.q0L)
 q02:Fun K "refuse_beyond" "refuse_beyond" vP a.q0X a.vX
 xf1:Binds K a.vX ["size","pieces"] []
 xf2:mg "refuse_beyond"=some (.ref a.q0X)
 q03:Fun K "places_needed" "places_needed" vQ a.q0Y a.vY
 xf3:Binds K a.vY ["row","cells"] []
 xf4:mg "places_needed"=some (.ref a.q0Y)
 jc:Fun K "do_piece" "do_piece" zV a.q1U a.xam
 xl2:Binds K a.xam ["store","row","cells"] []
 xl3:mg "do_piece"=some (.ref a.q1U)
 q3l:ui K q0T yI
 xkv:a.xam.code= .ref q0T
 q3d:Fun K "judge" "judge" xg2 a.q24 a.xeh
 xp2:Binds K a.xeh ["paper"] []
 xp3:mg "judge"=some (.ref a.q24)
 q1e:Fun K "fits_in_size" "fits_in_size" jt a.q1c a.jx
 xhd:Binds K a.jx ["paper"] []
 xhe:mg "fits_in_size"=some (.ref a.q1c)
 q1A:Fun K "is_length" "is_length" xbM a.q13 a.xbW
 xeI:Binds K a.xbW ["value"] []
 xeJ:mg "is_length"=some (.ref a.q13)
 q0E:Fun K "first_wrong_row" "first_wrong_row" uQ a.q0C a.uT
 xet:Binds K a.uT ["paper"] []
 xeu:mg "first_wrong_row"=some (.ref a.q0C)
 q0Q:Fun K "is_fitting_row" "is_fitting_row" vm a.q0M a.vq
 xfo:Binds K a.vq ["told","old","new"] []
 xfp:mg "is_fitting_row"=some (.ref a.q0M)
 q04:Fun K "covered_twice" "covered_twice" vR a.q0Z a.vZ
 xf5:Binds K a.vZ ["rows"] []
 xf6:mg "covered_twice"=some (.ref a.q0Z)
 q2K:Fun K "lacking" "lacking" xdu a.q2F a.xdB
 xnv:Binds K a.xdB ["rows","new"] []
 xnw:mg "lacking"=some (.ref a.q2F)
 q19:Fun K "read_late" "read_late" xbN a.q14 a.xbX
 xkw:Binds K a.xbX ["rows"] []
 xkx:mg "read_late"=some (.ref a.q14)
 xcd:Fun K "meant" "meant" ju a.q2P a.xcb
 xp4:Binds K a.xcb ["paper","elder"] []
 xp5:mg "meant"=some (.ref a.q2P)
 q3I:ui K q2c vB
 xoy:a.xcb.code= .ref q2c
 q3y:Fun K "cost" "cost" xi0 a.q3n a.xfV
 xrv:Binds K a.xfV ["paper"] []
 xrw:mg "cost"=some (.ref a.q3n)
 q2T:Fun K "__init__" "Pen.__init__" xcD a.q1V a.xcL
 xl4:Binds K a.xcL ["self","fall"] []
 q1f:Fun K "write_into" "Pen.write_into" vn a.q0v a.vt
 xa7:Binds K a.vt ["self","kept","at","value","torn"] []
 q0A:Fun K "answer_of_fall" "Pen.answer_of_fall" zW a.q0l a.zX
 xcO:Binds K a.zX ["self","count"] []
 uB:xfd K "__init__" "Store.__init__" zQ a.q00 a.ja [.none]
 xab:Binds K a.ja ["self","cells","fall"] [.none]
 xdD:Binds K a.ja ["self","cells","fall"] []
 q2h:Fun K "read" "Store.read" xaP a.q1m a.xa1
 xje:Binds K a.xa1 ["self","at"] []
 va:Fun K "write" "Store.write" zo a.q0J a.uZ
 xib:Binds K a.uZ ["self","at","sign"] []
 q3e:ui K q0y yf
 xhf:a.uZ.code= .ref q0y
 q2i:Fun K "mark" "Store.mark" xaQ a.q1n a.xa2
 xjf:Binds K a.xa2 ["self","number"] []
 q1Q:Fun K "noted" "Store.noted" jW a.q09 a.xaa
 xic:Binds K a.xaa ["self"] []
 q2j:Fun K "told" "Store.told" xaR a.q1o a.xa3
 xdE:Binds K a.xa3 ["self"] []
 q0s:Fun K "refuse_lacking" "Store.refuse_lacking" zH a.q0h a.zI
 uW:Binds K a.zI ["self","at"] []
 zL:Fun K "note_down" "Store.note_down" yN a.q0o a.zK
 xev:Binds K a.zK ["self","at","number"] []
 q2L:ui K q0j xQ
 xdF:a.zK.code= .ref q0j
 q0w:Fun K "_law_cell_at" "_law_cell_at" xdv a.q2G a.xdC
 zC:Binds K a.xdC ["_law_script","_law_k"] []
 zD:mg "_law_cell_at"=some (.ref a.q2G)
 q3o:Fun K "_law_draw" "_law_draw" xi1 a.q3w a.xi3
 xnx:Binds K a.xi3 ["_law_cell","_law_k"] []
 xny:mg "_law_draw"=some (.ref a.q3w)
 q2M:Fun K "_law_digits" "_law_digits" xfg a.q22 a.xfj
 xjg:Binds K a.xfj ["_law_cell","_law_base","_law_many"] []
 xjh:mg "_law_digits"=some (.ref a.q22)
 q3f:Fun K "_law_elder" "_law_elder" xg3 a.q3a a.xg6
 xp6:Binds K a.xg6 ["_law_script"] []
 xp7:mg "_law_elder"=some (.ref a.q3a)
 q3g:Fun K "_law_newer" "_law_newer" xg4 a.q3b a.xg7
 xp8:Binds K a.xg7 ["_law_script","_law_elder_here"] []
 xp9:mg "_law_newer"=some (.ref a.q3b)
 q2u:Fun K "_law_cost" "_law_cost" xcE a.q2q a.xcM
 xl5:Binds K a.xcM ["_law_rows"] []
 xl6:mg "_law_cost"=some (.ref a.q2q)
 q1L:Fun K "_law_ends_right" "_law_ends_right" xaS a.q1G a.xa4
 xji:Binds K a.xa4 ["_law_paper","_law_elder_here","_law_newer_here","_law_more"] []
 xjj:mg "_law_ends_right"=some (.ref a.q1G)
 xiC:Fun K "law" "law" xeg a.q3B a.xlW
 xsN:Binds K a.xlW ["_law_script"] []
 xl7:mg "Row"=some (.ref a.q2r)
 q5e:Cls K a.q2r
 q3O:xI K a.q2r "count"
 q4h:xI K a.q2r "to"
 xa8:mg "Take"=some (.ref a.q0a)
 q0b:Cls K a.q0a
 q0f:xI K a.q0a "count"
 q0e:xI K a.q0a "source"
 q0i:xI K a.q0a "to"
 q3P:Mk K a.q0a a.q1w
 xf7:mg "Put"=some (.ref a.q0c)
 q0g:Cls K a.q0c
 q0p:xI K a.q0c "count"
 q0I:xI K a.q0c "signs"
 q0x:xI K a.q0c "to"
 q3G:Mk K a.q0c a.q1u
 xse:mg "Pen"=some (.ref a.q0G)
 q28:Cls K a.q0G
 q2k:xI K a.q0G "asked"
 q3m:xI K a.q0G "fall"
 q4p:Mk K a.q0G a.q1V
 xqa:mg "Store"=some (.ref a.q0d)
 q0n:Cls K a.q0d
 q1g:xI K a.q0d "cells"
 q1C:xI K a.q0d "notes"
 q2l:xI K a.q0d "pen"
 q3U:Mk K a.q0d a.q00
 xf8:∀{H:Hp} {o dx:Addr} {fs:List (Str×V)},H o=some (.ins a.q0c dx fs)→zF K H (.ref o) (.ref a.q0c)
 xaw:∀{H:Hp} {o dx:Addr} {fs:List (Str×V)},H o=some (.ins a.q0a dx fs)→zF K H (.ref o) (.ref a.q0a)
 q3J:fh K (.ref a.q0c) (.ref a.q0c)=some true
 q2V:fh K (.ref a.q0c) (.ref a.q0a)=some false
 q3D:fh K (.ref a.q0a) (.ref a.q0c)=some false
 q1M:fh K (.ref a.q0a) (.ref a.q0a)=some true
 xnz:mg "MOST"=some (.int 300 a.q3Y)
 xdG:mg "NO_STRETCH"=some (.ref a.q1p)
 xdH:∀H,SqT K H a.q1p [.int 0,.int 0]
 q2m:Meth K a.q0G "answer_of_fall" a.q0l
 q2b:Meth K a.q0G "write_into" a.q0v
 q3E:Meth K a.q0c "cost" a.q1S
 q1h:Meth K a.q0c "covered" a.q0z
 q2X:Meth K a.q0c "covers" a.q0u
 q3p:Meth K a.q0c "pieces" a.q1l
 q3z:Meth K a.q0c "reads" a.q1z
 q2A:Meth K a.q0c "sign_for" a.q0R
 q3F:Meth K a.q0c "told" a.q1T
 q3q:Meth K a.q0c "writes" a.q1k
 q3r:Meth K a.q0d "mark" a.q1n
 q2N:Meth K a.q0d "note_down" a.q0o
 q3h:Meth K a.q0d "noted" a.q09
 q3s:Meth K a.q0d "read" a.q1m
 q1a:Meth K a.q0d "refuse_lacking" a.q0h
 q2Y:Meth K a.q0d "told" a.q1o
 q3i:Meth K a.q0d "write" a.q0J
 q3A:Meth K a.q0a "cost" a.q1x
 q1r:Meth K a.q0a "covered" a.q0z
 q2U:Meth K a.q0a "covers" a.q0u
 q3j:Meth K a.q0a "pieces" a.q08
 q3t:Meth K a.q0a "reads" a.q1j
 q2v:Meth K a.q0a "sign_for" a.q0F
 q1X:Meth K a.q0a "source_for" a.q0t
 q1s:Meth K a.q0a "stays" a.q1i
 q2O:Meth K a.q0a "told" a.q1y
 q3k:Meth K a.q0a "writes" a.q07
 q2W:xob K a.q2r "__init__" a.q1R
 q4H:mg "abs"=none
 q4I:mg "all"=none
 q4J:mg "any"=none
 q4q:mg "bool"=none
 q4r:mg "dict"=none
 q2a:mg "enumerate"=none
 q4K:mg "int"=none
 q0q:mg "isinstance"=none
 q0k:mg "len"=none
 q1t:mg "list"=none
 q3u:mg "max"=none
 q3C:mg "min"=none
 q06:mg "range"=none
 q3K:mg "reversed"=none
 q3L:mg "sorted"=none
 q4L:mg "sum"=none
 q25:mg "tuple"=none
theorem xf9:xp ["text"] ["text"] (xj uy):=⟨rfl,rfl,rfl,by decide+kernel,rfl,by decide+kernel,by decide+kernel⟩
theorem xga:xp ["text","table","part","less","count","beginning"] ["text","table","part"] (xj xdr):=⟨rfl,rfl,rfl,by decide+kernel,rfl,by decide+kernel,by decide+kernel⟩
theorem xa9:xp ["text","table","part","low","high","middle"] ["text","table","part"] (xj vL):=⟨rfl,rfl,rfl,by decide+kernel,rfl,by decide+kernel,by decide+kernel⟩
theorem xeK:xp ["text","at","part","count"] ["text","at","part"] (xj xcx):=⟨rfl,rfl,rfl,by decide+kernel,rfl,by decide+kernel,by decide+kernel⟩
theorem xeL:xp ["self","to"] ["self","to"] (xj xcy):=⟨rfl,rfl,rfl,by decide+kernel,rfl,by decide+kernel,by decide+kernel⟩
theorem vc:xp ["self"] ["self"] (xj xaH):=⟨rfl,rfl,rfl,by decide+kernel,rfl,by decide+kernel,by decide+kernel⟩
theorem xce:xp ["self"] ["self"] (xj jT):=⟨rfl,rfl,rfl,by decide+kernel,rfl,by decide+kernel,by decide+kernel⟩
theorem xdI:xp ["self","to","start","count"] ["self","to","start","count"] (xj xbE):=⟨rfl,rfl,rfl,by decide+kernel,rfl,by decide+kernel,by decide+kernel⟩
theorem xcW:xp ["self"] ["self"] (xj xaI):=⟨rfl,rfl,rfl,by decide+kernel,rfl,by decide+kernel,by decide+kernel⟩
theorem xcX:xp ["self"] ["self"] (xj xaJ):=⟨rfl,rfl,rfl,by decide+kernel,rfl,by decide+kernel,by decide+kernel⟩
theorem xcf:xp ["self"] ["self"] (xj jU):=⟨rfl,rfl,rfl,by decide+kernel,rfl,by decide+kernel,by decide+kernel⟩
theorem xcg:xp ["self","first","end","step"] ["self"] (xj jV):=⟨rfl,rfl,rfl,by decide+kernel,rfl,by decide+kernel,by decide+kernel⟩
theorem jK:xp ["self","cell"] ["self","cell"] (xj uO):=⟨rfl,rfl,rfl,by decide+kernel,rfl,by decide+kernel,by decide+kernel⟩
theorem xba:xp ["self","cell","read"] ["self","cell","read"] (xj vM):=⟨rfl,rfl,rfl,by decide+kernel,rfl,by decide+kernel,by decide+kernel⟩
theorem xdJ:xp ["self"] ["self"] (xj xbF):=⟨rfl,rfl,rfl,by decide+kernel,rfl,by decide+kernel,by decide+kernel⟩
theorem xdK:xp ["self"] ["self"] (xj xbG):=⟨rfl,rfl,rfl,by decide+kernel,rfl,by decide+kernel,by decide+kernel⟩
theorem jC:xp ["self","to","signs"] ["self","to","signs"] (xj xcz):=⟨rfl,rfl,rfl,by decide+kernel,rfl,by decide+kernel,by decide+kernel⟩
theorem xdL:xp ["self"] ["self"] (xj xbH):=⟨rfl,rfl,rfl,by decide+kernel,rfl,by decide+kernel,by decide+kernel⟩
theorem xcY:xp ["self"] ["self"] (xj xaK):=⟨rfl,rfl,rfl,by decide+kernel,rfl,by decide+kernel,by decide+kernel⟩
theorem xcZ:xp ["self"] ["self"] (xj xaL):=⟨rfl,rfl,rfl,by decide+kernel,rfl,by decide+kernel,by decide+kernel⟩
theorem xbv:xp ["self","cell","read"] ["self","cell","read"] (xj jq):=⟨rfl,rfl,rfl,by decide+kernel,rfl,by decide+kernel,by decide+kernel⟩
theorem xeM:xp ["self"] ["self"] (xj xcA):=⟨rfl,rfl,rfl,by decide+kernel,rfl,by decide+kernel,by decide+kernel⟩
theorem xeN:xp ["self"] ["self"] (xj xcB):=⟨rfl,rfl,rfl,by decide+kernel,rfl,by decide+kernel,by decide+kernel⟩
theorem xhP:xp ["told"] ["told"] (xj xfe):=⟨rfl,rfl,rfl,by decide+kernel,rfl,by decide+kernel,by decide+kernel⟩
theorem xc0:xp ["told"] ["told"] (xj xaM):=⟨rfl,rfl,rfl,by decide+kernel,rfl,by decide+kernel,by decide+kernel⟩
theorem xdM:xp ["told"] ["told"] (xj xbI):=⟨rfl,rfl,rfl,by decide+kernel,rfl,by decide+kernel,by decide+kernel⟩
theorem xdN:xp ["signs"] ["signs"] (xj xbJ):=⟨rfl,rfl,rfl,by decide+kernel,rfl,by decide+kernel,by decide+kernel⟩
theorem xgb:xp ["value"] ["value"] (xj xds):=⟨rfl,rfl,rfl,by decide+kernel,rfl,by decide+kernel,by decide+kernel⟩
theorem xbb:xp ["least","value"] ["least","value"] (xj vN):=⟨rfl,rfl,rfl,by decide+kernel,rfl,by decide+kernel,by decide+kernel⟩
theorem xeO:xp ["value"] ["value"] (xj xcC):=⟨rfl,rfl,rfl,by decide+kernel,rfl,by decide+kernel,by decide+kernel⟩
theorem xhQ:xp ["rows","read","written"] ["rows"] (xj xff):=⟨rfl,rfl,rfl,by decide+kernel,rfl,by decide+kernel,by decide+kernel⟩
theorem xdO:xp ["number","stretch","read"] ["number","stretch","read"] (xj xbK):=⟨rfl,rfl,rfl,by decide+kernel,rfl,by decide+kernel,by decide+kernel⟩
theorem xc1:xp ["spoilt","left","path","number"] ["spoilt","left"] (xj xaN):=⟨rfl,rfl,rfl,by decide+kernel,rfl,by decide+kernel,by decide+kernel⟩
theorem xbw:xp ["row"] ["row"] (xj jr):=⟨rfl,rfl,rfl,by decide+kernel,rfl,by decide+kernel,by decide+kernel⟩
theorem jL:xp ["row"] ["row"] (xj uP):=⟨rfl,rfl,rfl,by decide+kernel,rfl,by decide+kernel,by decide+kernel⟩
theorem xk0:xp ["one","other"] ["one","other"] (xj xiZ):=⟨rfl,rfl,rfl,by decide+kernel,rfl,by decide+kernel,by decide+kernel⟩
theorem xk1:xp ["elder","newer","least","rows","order","ordered","turned","puts","done","paper"] ["elder","newer","least"] (xj xca):=⟨rfl,rfl,rfl,by decide+kernel,rfl,by decide+kernel,by decide+kernel⟩
theorem xc2:xp ["elder","newer","least","table","rows","signs","place","best","count"] ["elder","newer","least"] (xj xaO):=⟨rfl,rfl,rfl,by decide+kernel,rfl,by decide+kernel,by decide+kernel⟩
theorem xbc:xp ["end","signs"] ["end","signs"] (xj vO):=⟨rfl,rfl,rfl,by decide+kernel,rfl,by decide+kernel,by decide+kernel⟩
theorem xbx:xp ["takes","spoilt","left","ordered","turned","number","ring"] ["takes"] (xj yR):=⟨rfl,rfl,rfl,by decide+kernel,rfl,by decide+kernel,by decide+kernel⟩
theorem xad:xp ["spoilt","left","number"] ["spoilt","left"] (xj vi):=⟨rfl,rfl,rfl,by decide+kernel,rfl,by decide+kernel,by decide+kernel⟩
theorem xgc:xp ["take","elder"] ["take","elder"] (xj xdt):=⟨rfl,rfl,rfl,by decide+kernel,rfl,by decide+kernel,by decide+kernel⟩
theorem xhR:xp ["puts","rows","put","ahead"] ["puts"] (xj vj):=⟨rfl,rfl,rfl,by decide+kernel,rfl,by decide+kernel,by decide+kernel⟩
theorem xdP:xp ["paper","pieces","told"] ["paper"] (xj xbL):=⟨rfl,rfl,rfl,by decide+kernel,rfl,by decide+kernel,by decide+kernel⟩
theorem xjk:xp ["store","paper","size","pieces","first","left","number","piece"] ["store","paper"] (xj xg1):=⟨rfl,rfl,rfl,by decide+kernel,rfl,by decide+kernel,by decide+kernel⟩
theorem xae:xp ["size","paper","greater"] ["size","paper"] (xj vk):=⟨rfl,rfl,rfl,by decide+kernel,rfl,by decide+kernel,by decide+kernel⟩
theorem xbd:xp ["size","pieces","told","cells","at"] ["size","pieces"] (xj vP):=⟨rfl,rfl,rfl,by decide+kernel,rfl,by decide+kernel,by decide+kernel⟩
theorem xbe:xp ["row","cells","places","cell"] ["row","cells"] (xj vQ):=⟨rfl,rfl,rfl,by decide+kernel,rfl,by decide+kernel,by decide+kernel⟩
theorem xeP:xp ["store","row","cells","cell"] ["store","row","cells"] (xj zV):=⟨rfl,rfl,rfl,by decide+kernel,rfl,by decide+kernel,by decide+kernel⟩
theorem xjl:xp ["paper","wrong","rows","fault"] ["paper"] (xj xg2):=⟨rfl,rfl,rfl,by decide+kernel,rfl,by decide+kernel,by decide+kernel⟩
theorem xby:xp ["paper"] ["paper"] (xj jt):=⟨rfl,rfl,rfl,by decide+kernel,rfl,by decide+kernel,by decide+kernel⟩
theorem xdQ:xp ["value"] ["value"] (xj xbM):=⟨rfl,rfl,rfl,by decide+kernel,rfl,by decide+kernel,by decide+kernel⟩
theorem jM:xp ["paper","number","told"] ["paper"] (xj uQ):=⟨rfl,rfl,rfl,by decide+kernel,rfl,by decide+kernel,by decide+kernel⟩
theorem xaf:xp ["told","old","new","row"] ["told","old","new"] (xj vm):=⟨rfl,rfl,rfl,by decide+kernel,rfl,by decide+kernel,by decide+kernel⟩
theorem xbf:xp ["rows","covered","number","row","cell"] ["rows"] (xj vR):=⟨rfl,rfl,rfl,by decide+kernel,rfl,by decide+kernel,by decide+kernel⟩
theorem xgd:xp ["rows","new","covered","row","cell"] ["rows","new"] (xj xdu):=⟨rfl,rfl,rfl,by decide+kernel,rfl,by decide+kernel,by decide+kernel⟩
theorem xdR:xp ["rows","written","number","row","cell"] ["rows"] (xj xbN):=⟨rfl,rfl,rfl,by decide+kernel,rfl,by decide+kernel,by decide+kernel⟩
theorem xjm:xp ["paper","elder","newer","told","row","cell"] ["paper","elder"] (xj ju):=⟨rfl,rfl,rfl,by decide+kernel,rfl,by decide+kernel,by decide+kernel⟩
theorem xk2:xp ["paper"] ["paper"] (xj xi0):=⟨rfl,rfl,rfl,by decide+kernel,rfl,by decide+kernel,by decide+kernel⟩
theorem xeQ:xp ["self","fall"] ["self","fall"] (xj xcD):=⟨rfl,rfl,rfl,by decide+kernel,rfl,by decide+kernel,by decide+kernel⟩
theorem xag:xp ["self","kept","at","value","torn","count","answer"] ["self","kept","at","value","torn"] (xj vn):=⟨rfl,rfl,rfl,by decide+kernel,rfl,by decide+kernel,by decide+kernel⟩
theorem vC:xp ["self","count","fall"] ["self","count"] (xj zW):=⟨rfl,rfl,rfl,by decide+kernel,rfl,by decide+kernel,by decide+kernel⟩
theorem xc3:xp ["self","cells","fall"] ["self","cells","fall"] (xj zQ):=⟨rfl,rfl,rfl,by decide+kernel,rfl,by decide+kernel,by decide+kernel⟩
theorem xc4:xp ["self","at"] ["self","at"] (xj xaP):=⟨rfl,rfl,rfl,by decide+kernel,rfl,by decide+kernel,by decide+kernel⟩
theorem xch:xp ["self","at","sign"] ["self","at","sign"] (xj zo):=⟨rfl,rfl,rfl,by decide+kernel,rfl,by decide+kernel,by decide+kernel⟩
theorem xc5:xp ["self","number"] ["self","number"] (xj xaQ):=⟨rfl,rfl,rfl,by decide+kernel,rfl,by decide+kernel,by decide+kernel⟩
theorem xci:xp ["self"] ["self"] (xj jW):=⟨rfl,rfl,rfl,by decide+kernel,rfl,by decide+kernel,by decide+kernel⟩
theorem xc6:xp ["self"] ["self"] (xj xaR):=⟨rfl,rfl,rfl,by decide+kernel,rfl,by decide+kernel,by decide+kernel⟩
theorem uM:xp ["self","at"] ["self","at"] (xj zH):=⟨rfl,rfl,rfl,by decide+kernel,rfl,by decide+kernel,by decide+kernel⟩
theorem jN:xp ["self","at","number"] ["self","at","number"] (xj yN):=⟨rfl,rfl,rfl,by decide+kernel,rfl,by decide+kernel,by decide+kernel⟩
theorem xge:xp ["_law_script","_law_k"] ["_law_script","_law_k"] (xj xdv):=⟨rfl,rfl,rfl,by decide+kernel,rfl,by decide+kernel,by decide+kernel⟩
theorem xk3:xp ["_law_cell","_law_k","_law_number"] ["_law_cell","_law_k"] (xj xi1):=⟨rfl,rfl,rfl,by decide+kernel,rfl,by decide+kernel,by decide+kernel⟩
theorem xhS:xp ["_law_cell","_law_base","_law_many","_law_signs","_law_k"] ["_law_cell","_law_base","_law_many"] (xj xfg):=⟨rfl,rfl,rfl,by decide+kernel,rfl,by decide+kernel,by decide+kernel⟩
theorem xjn:xp ["_law_script","_law_first","_law_text","_law_k","_law_draw_here"] ["_law_script"] (xj xg3):=⟨rfl,rfl,rfl,by decide+kernel,rfl,by decide+kernel,by decide+kernel⟩
theorem xjo:xp ["_law_script","_law_elder_here","_law_cell","_law_one","_law_other","_law_text","_law_k","_law_draw_here","_law_at","_law_many"] ["_law_script","_law_elder_here"] (xj xg4):=⟨rfl,rfl,rfl,by decide+kernel,rfl,by decide+kernel,by decide+kernel⟩
theorem xeR:xp ["_law_rows","_law_whole","_law_row"] ["_law_rows"] (xj xcE):=⟨rfl,rfl,rfl,by decide+kernel,rfl,by decide+kernel,by decide+kernel⟩
theorem xc7:xp ["_law_paper","_law_elder_here","_law_newer_here","_law_more","_law_size","_law_room","_law_store","_law_cells","_law_notes","_law_count"] ["_law_paper","_law_elder_here","_law_newer_here","_law_more"] (xj xaS):=⟨rfl,rfl,rfl,by decide+kernel,rfl,by decide+kernel,by decide+kernel⟩
theorem xnA:xp ["_law_script","_law_elder_here","_law_newer_here","_law_least","_law_paper","_law_turned","_law_whole"] ["_law_script"] (xj xeg):=⟨rfl,rfl,rfl,by decide+kernel,rfl,by decide+kernel,by decide+kernel⟩
def xao(to st c:Int):List (Str×V):=[("to",.int to),("count",.int c),("source",.int st)]
def jD(to:Int)(t:Addr)(n:Int):List (Str×V):=[("to",.int to),("count",.int n),("signs",.ref t)]
def xX(lo:Int)(n:Nat):List Int:=(a9 n).map fun(i:Nat)=>lo+(i:Int)
theorem xei(lo:Int)(n:Nat):xdi lo n=(xX lo n).map V.int:=by simp[xdi,xX,ij]
theorem xT(lo:Int)(n:Nat):(xX lo n).length=n:=by simp[xX]
theorem yJ{x lo:Int}{n:Nat}:x∈xX lo n↔lo≤x∧x<lo+n:=by
 unfold xX;rw[aT];constructor
 ·rintro⟨i,hi,rfl⟩;have:=bp.mp hi;lia
 ·rintro⟨h1,h2⟩;exact⟨(x - lo).toNat,bp.mpr (by lia),by lia⟩
inductive xf where
 |take (to st c:Int)
 |put (to:Int) (sg:List Int)
def xf.isTake:xf→Bool
 | .take .. =>true
 | .put .. =>false
def TupAt(K:ah)(H:Hp)(t:Addr):xf→Prop
 | .take to st c=>H t=some (.tup [.str "take",.int to,.int st,.int c])
 | .put to sg=>∃u,H t=some (.tup [.str "put",.int to,.ref u])∧H u=some (.tup (sg.map V.int))
theorem TupAt.same{K:ah}{H H':Hp}{t:Addr}{r:xf}(h:TupAt K H t r)(s:xb H H'):TupAt K H' t r:=by
 cases r with
 |take to st c=>exact s.at h
 |put to sg=>obtain⟨u,h1,h2⟩:=h;exact⟨u,s.at h1,s.at h2⟩
def xy(K:ah)(a:Adr)(H:Hp)(o:Addr):xf→Prop
 | .take to st c=>∃dx,H o=some (.ins a.q0a dx (xao to st c))
 | .put to sg=>∃dx u,H o=some (.ins a.q0c dx (jD to u sg.length))∧H u=some (.tup (sg.map V.int))
theorem xy.same{K:ah}{a:Adr}{H H':Hp}{o:Addr}{r:xf}(h:xy K a H o r)(s:xb H H'):xy K a H' o r:=by
 cases r with
 |take to st c=>obtain⟨dx,h⟩:=h;exact⟨dx,s.at h⟩
 |put to sg=>obtain⟨dx,u,h1,h2⟩:=h;exact⟨dx,u,s.at h1,s.at h2⟩
theorem xy.mv{K:ah}{a:Adr}{H H' H6:Hp}{o:Addr}{r:xf}(h:xy K a H' o r)(k:∀p o,(H p=none∨∀ys,o≠HO.lst ys)→H' p=some o→H6 p=some o):xy K a H6 o r:=by
 cases r with
 |take to st c=>obtain⟨dx,h⟩:=h;exact⟨dx,k _ _ (.inr fun ys z=>by cases z) h⟩
 |put to sg=>obtain⟨dx,u,h1,h2⟩:=h;exact⟨dx,u,k _ _ (.inr fun ys z=>by cases z) h1,k _ _ (.inr fun ys z=>by cases z) h2⟩
theorem TupAt.mv{K:ah}{H H' H6:Hp}{t:Addr}{r:xf}(h:TupAt K H' t r)(k:∀p o,(H p=none∨∀ys,o≠HO.lst ys)→H' p=some o→H6 p=some o):TupAt K H6 t r:=by
 cases r with
 |take to st c=>exact k _ _ (.inr fun ys z=>by cases z) h
 |put to sg=>obtain⟨u,h1,h2⟩:=h;exact⟨u,k _ _ (.inr fun ys z=>by cases z) h1,k _ _ (.inr fun ys z=>by cases z) h2⟩
def xf.ok:xf→Prop
 | .take to st c=>0≤to∧0≤st∧1≤c
 | .put to sg=>0≤to∧sg≠[]∧sg.length≤100000∧∀x∈sg,(x.natAbs:Int)<10^60
def xgf(K:ah)(a:Adr)(H:Hp)(l:Addr)(rs:List xf):Prop:=∃ts:List Addr,SqL K H l (ts.map V.ref)∧Paired (xy K a H) ts rs
theorem xnB{K:ah}{H:Hp}{t p C dx:Addr}{xs:List V}{fs:List (Str×V)}{o:HO}(h:SqT K H t xs)(hp:H p=some (.ins C dx fs)):SqT K (upd H p o) t xs:=by
 rcases h with(h|⟨ob,h⟩)|h
 ·exact .inl (.inl (by rw[xl (yZ h hp (by intro z;cases z))];exact h))
 ·exact .inl (.inr ⟨ob,by rw[xl (yZ h hp (by intro z;cases z))];exact h⟩)
 ·exact .inr h
def xky(K:ah):Sp:=fun vs H Q _=>∃(p C dx:Addr) (to:Int),vs=[.ref p,.int to]∧H p=some (.ins C dx [])∧Cls K C∧xI K C "to"∧xI K C "count"∧Q .non (upd H p (.ins C dx [("to",.int to),("count",.int 0)]))
def xjp(a:Adr):Sp:=fun vs H Q _=>∃(p dx:Addr) (to st c:Int),vs=[.ref p,.int to,.int st,.int c]∧H p=some (.ins a.q0a dx [])∧Q .non (upd H p (.ins a.q0a dx (xao to st c)))
def xkz(K:ah)(a:Adr):Sp:=fun vs H Q _=>∃(p dx t:Addr) (to:Int) (xs:List V),vs=[.ref p,.int to,.ref t]∧H p=some (.ins a.q0c dx [])∧SqT K H t xs∧Q .non (upd H p (.ins a.q0c dx (jD to t xs.length)))
def xbZ(H:Hp)(Q:VK)(ns:List Int):Prop:=∀(l:Addr) (H':Hp),xb H H'→H l=none→H' l=some (.lst (ns.map V.int))→Q (.ref l) H'
def xoz(a:Adr):Sp:=fun vs H Q _=>∃(p dx:Addr) (to st c:Int),vs=[.ref p]∧H p=some (.ins a.q0a dx (xao to st c))∧Q (.bl (decide (st=to))) H
def xkA:Sp:=fun vs H Q _=>∃i:Int,vs=[.int i]∧Q (.bl true) H
def xfq:Sp:=fun vs H Q _=>∃l i:Int,vs=[.int l,.int i]∧Q (.bl (decide (l≤i))) H
def xl8:Sp:=fun vs H Q _=>∃i:Int,vs=[.int i]∧(i.natAbs:Int)<10^60∧Q (.bl true) H
def xjq(K:ah):Sp:=fun vs H Q _=>∃(u:Addr) (sg:List Int),vs=[.ref u]∧H u=some (.tup (sg.map V.int))∧sg≠[]∧sg.length≤100000∧(∀x∈sg,(x.natAbs:Int)<10^60)∧∀H',xb H H'→Q (.bl true) H'
def xid(K:ah):Sp:=fun vs H Q _=>∃(t:Addr) (r:xf),vs=[.ref t]∧TupAt K H t r∧r.ok∧Q (.bl r.isTake) H
def xjr(K:ah):Sp:=fun vs H Q _=>∃(t:Addr) (to:Int) (sg:List Int),vs=[.ref t]∧TupAt K H t (.put to sg)∧xf.ok (.put to sg)∧∀H',xb H H'→Q (.bl true) H'
def jO(K:ah)(a:Adr):Sp:=fun vs H Q _=>∃(t:Addr) (r:xf),vs=[.ref t]∧TupAt K H t r∧r.ok∧∀(o:Addr) (H':Hp),xb H H'→H o=none→xy K a H' o r→Q (.ref o) H'
def xjs(a:Adr):Sp:=fun vs H Q _=>∃(o dx:Addr) (to st c:Int),vs=[.ref o]∧H o=some (.ins a.q0a dx (xao to st c))∧∀t,H t=none→Q (.ref t) (upd H t (.tup [.str "take",.int to,.int st,.int c]))
def xjt(a:Adr):Sp:=fun vs H Q _=>∃(o dx u:Addr) (to n:Int),vs=[.ref o]∧H o=some (.ins a.q0c dx (jD to u n))∧∀t,H t=none→Q (.ref t) (upd H t (.tup [.str "put",.int to,.ref u]))
def cellAt(ns:List Int)(k:Int):Int:=if k<ns.length then ns.getD k.toNat 0 else 0
def jd(K:ah):Sp:=fun vs H Q _=>∃(p C dx:Addr) (fs:List (Str×V)) (to c:Int),vs=[.ref p]∧H p=some (.ins C dx fs)∧Cls K C∧xI K C "to"∧xI K C "count"∧fs.lookup ("to":Str)=some (.int to)∧fs.lookup ("count":Str)=some (.int c)∧c.toNat≤2^24∧xbZ H Q (xX to c.toNat)
def xl9(K:ah):Sp:=fun vs H Q _=>∃(l:Addr) (ns:List Int) (k:Int),vs=[.ref l,.int k]∧SqL K H l (ns.map V.int)∧0≤k∧Q (.int (cellAt ns k)) H
def cN(d k:Nat):Nat:=(k+d - 1) / d
def chs(u:Nat→Nat→List Int)(d k:Nat):List (List Int):=(a9 (cN d k)).map (u k)
theorem xk4{d:Nat}(hd:0<d):cN d 0=0:=by unfold cN;exact Nat.div_eq_of_lt (by omega)
theorem xej{d:Nat}(hd:0<d)(k:Nat):cN d (k+1)=k / d+1:=by
 unfold cN;rw[show k+1+d - 1=k+d by lia,Nat.add_div_right _ hd]
def uch(to:Int)(d k j:Nat):List Int:=xX (to+((j*d:Nat):Int)) (min d (k - j*d))
def dch(e:Int)(d k j:Nat):List Int:=xX (e - ((min ((j+1)*d) k:Nat):Int)) (min d (k - j*d))
def yC(to st c:Int):List (List Int):=
 if st=to then[]else if to<st then chs (uch to (st - to).toNat) (st - to).toNat c.toNat else chs (dch (to+c) (to - st).toNat) (to - st).toNat c.toNat
theorem xek(u:Nat→Nat→List Int)(d k:Nat)(hd:0<d):(chs u d k).length≤k:=by
 unfold chs;rw[aa,cR];cases k with
 |zero=>rw[xk4 hd];exact ai _
 |succ k=>rw[xej hd];have:=Nat.div_le_self k d;lia
theorem xnC{x:Int}(h0:x≠0)(h:x.natAbs<2^200):xmY x:=by
 refine⟨h0,?_⟩;have:x.natAbs.log2<200:=(lA (by lia)).mpr h;lia
theorem xqb(to c:Int)(d:Nat)(hc:1≤c)(hd:0<d):yG to (to+c) (d:Int)=cN d c.toNat:=by
 unfold yG bc;rw[if_pos (by lia),if_pos (by lia)];obtain⟨n,rfl⟩:∃n:Nat,c=(n:Int)+1:=⟨(c - 1).toNat,by lia⟩;rw[show((n:Int)+1).toNat=n+1 by lia,xej hd,show to+((n:Int)+1) - to - 1=(n:Int)by lia,←Int.natCast_ediv];generalize n / d=q;lia
theorem xnD(to c:Int)(d:Nat)(hc:1≤c)(hd:0<d):yG (to+c) to (-(d:Int))=cN d c.toNat:=by
 unfold yG bc;rw[if_neg (by lia),if_pos (by lia)];obtain⟨n,rfl⟩:∃n:Nat,c=(n:Int)+1:=⟨(c - 1).toNat,by lia⟩;rw[show((n:Int)+1).toNat=n+1 by lia,xej hd,show to+((n:Int)+1) - to - 1=(n:Int)by lia,Int.neg_neg,←Int.natCast_ediv];generalize n / d=q;lia
theorem xoA{d i k:Nat}(hd:0<d)(h:i<cN d k):i*d≤k:=by
 cases k with
 |zero=>rw[xk4 hd]at h;lia
 |succ k=>
  rw[xej hd]at h;have h1:i≤k / d:=by lia
  have:=a7 (gG d h1) (Nat.div_mul_le_self k d);lia
def xqc:Stmt→Expr
 | .Expr v _=>v
 |_=>.Constant .none 0 ⟨0,0,0,0⟩
def Kp(S:List Addr)(H H':Hp):Prop:=∀b u,H b=some u→b∉S→H' b=some u
theorem Kp.of{S:List Addr}{H H':Hp}(s:xb H H'):Kp S H H':=fun b u e _=>s b u e
theorem Kp.trans{S:List Addr}{H H1 H2:Hp}(h:Kp S H H1)(g:Kp S H1 H2):Kp S H H2:=fun b u e n=>g b u (h b u e n) n
theorem Kp.mono{S S':List Addr}{H H1:Hp}(h:Kp S H H1)(m:∀x∈S,x∈S'):Kp S' H H1:=fun b u e n=>h b u e fun z=>n (m b z)
theorem Kp.wr{S:List Addr}{H H1:Hp}{p:Addr}{o:HO}(h:Kp S H H1)(m:p∈S):Kp S H (upd H1 p o):=fun b u e n=>by
 rw[xl (fun z=>n (by rw[z];exact m))];exact h b u e n
theorem Kp.mk{S:List Addr}{H H1:Hp}{p:Addr}{o:HO}(h:Kp S H H1)(m:H p=none):Kp S H (upd H1 p o):=fun b u e n=>by
 rw[xl (xA e m)];exact h b u e n
theorem Kp.same{S:List Addr}{H H1 H2:Hp}(h:Kp S H H1)(s:xb H1 H2):Kp S H H2:=h.trans (.of s)
def xju:HO→Prop
 | .ins _ _ _=>True
 | .lst _=>True
 |_=>False
abbrev xhg(n:Int)(fl:V):List (Str×V):=[("asked",.int n),("fall",fl)]
def xkB(a:Adr):Sp:=fun vs H Q _=>∃(p dp:Addr) (fl:V),vs=[.ref p,fl]∧H p=some (.ins a.q0G dp [])∧Q .non (upd H p (.ins a.q0G dp (xhg 0 fl)))
def xie(a:Adr):Sp:=fun vs H Q _=>∃(p dp:Addr) (n m:Int),vs=[.ref p,.int n]∧H p=some (.ins a.q0G dp (xhg m .non))∧Q .non H
def xjv(a:Adr):Sp:=fun vs H Q _=>∃(p dp l g:Addr) (i n:Int) (val:V) (xs:List V),vs=[.ref p,.ref l,.int i,val,.ref g]∧H p=some (.ins a.q0G dp (xhg n .non))∧H l=some (.lst xs)∧0≤i∧i<xs.length∧
 ∀H',Kp [p,l] H H'→H' p=some (.ins a.q0G dp (xhg (n+1) .non))→H' l=some (.lst (xs.set i.toNat val))→Q .non H'
structure SA where
 st:Addr
 dx:Addr
 ca:Addr
 na:Addr
 p:Addr
 dp:Addr
def nV:Option Int→V
 |none=>.non
 |some i=>.int i
abbrev SS(S:SA):List Addr:=[S.ca,S.na,S.p]
abbrev stF(S:SA):List (Str×V):=[("cells",.ref S.ca),("notes",.ref S.na),("pen",.ref S.p)]
structure yu(a:Adr)(H:Hp)(S:SA)(cells:List Int)(notes:List (Option Int))(n:Int)(fl:V):Prop where
 st:H S.st=some (.ins a.q0d S.dx (stF S))
 ca:H S.ca=some (.lst (cells.map V.int))
 na:H S.na=some (.lst (notes.map nV))
 p:H S.p=some (.ins a.q0G S.dp (xhg n fl))
 ne:S.ca≠S.na
 np:S.p≠S.st
theorem yu.mu{a:Adr}{H:Hp}{S:SA}{cells:List Int}{notes:List (Option Int)}{n:Int}{fl:V}(h:yu a H S cells notes n fl):∀x∈SS S,∃u,H x=some u∧xju u:=by
 intro x hx;simp only[ao,bC,or_false]at hx;rcases hx with rfl|rfl|rfl
 ·exact⟨_,h.ca,trivial⟩
 ·exact⟨_,h.na,trivial⟩
 ·exact⟨_,h.p,trivial⟩
theorem yu.kp0{a:Adr}{H H':Hp}{S:SA}{L:List Addr}{cells:List Int}{notes:List (Option Int)}{n:Int}{fl:V}(h:yu a H S cells notes n fl)(k:Kp L H H')(d:∀x∈L,x≠S.st∧x≠S.ca∧x≠S.na∧x≠S.p):yu a H' S cells notes n fl:=
 ⟨k _ _ h.st (fun z=>(d _ z).1 rfl),k _ _ h.ca (fun z=>(d _ z).2.1 rfl),k _ _ h.na (fun z=>(d _ z).2.2.1 rfl),k _ _ h.p (fun z=>(d _ z).2.2.2 rfl),h.ne,h.np⟩
theorem yu.same{a:Adr}{H H':Hp}{S:SA}{cells:List Int}{notes:List (Option Int)}{n:Int}{fl:V}(h:yu a H S cells notes n fl)(s:xb H H'):yu a H' S cells notes n fl:=
 h.kp0 (L:=[]) (Kp.of s) (fun _ z=>nomatch z)
theorem yu.nst{a:Adr}{H:Hp}{S:SA}{cells:List Int}{notes:List (Option Int)}{n:Int}{fl:V}(h:yu a H S cells notes n fl):S.st∉SS S:=by
 simp only[ao,bC,or_false];rintro(z|z|z)
 ·have:=h.st;rw[z,h.ca]at this;cases this
 ·have:=h.st;rw[z,h.na]at this;cases this
 ·exact h.np z.symm
theorem yu.npc{a:Adr}{H:Hp}{S:SA}{cells:List Int}{notes:List (Option Int)}{n:Int}{fl:V}(h:yu a H S cells notes n fl):S.p≠S.ca:=yZ h.p h.ca (by intro z;cases z)
theorem yu.npn{a:Adr}{H:Hp}{S:SA}{cells:List Int}{notes:List (Option Int)}{n:Int}{fl:V}(h:yu a H S cells notes n fl):S.p≠S.na:=yZ h.p h.na (by intro z;cases z)
def xma(a:Adr)(H:Hp)(S:SA)(cells:List Int)(notes:List (Option Int))(n:Int)(fl:V)(q:Hp→Prop):Prop:=∀H',Kp (SS S) H H'→yu a H' S cells notes n fl→q H'
abbrev inR(cells:List Int)(i:Int):Prop:=0≤i∧i<cells.length
def xif(K:ah)(a:Adr):Sp:=fun vs H Q _=>∃(st dx l:Addr) (cells:List Int) (fl:V),vs=[.ref st,.ref l,fl]∧H st=some (.ins a.q0d dx [])∧H l=some (.lst (cells.map V.int))∧
 ∀(S:SA) (H':Hp),S.st=st→Kp [st] H H'→yu a H' S cells [some 0,some 0] 0 fl→H S.ca=none→H S.na=none→H S.p=none→Q .non H'
def xgg(a:Adr):Sp:=fun vs H Q _=>∃(S:SA) (cells:List Int) (notes:List (Option Int)) (n i:Int) (fl:V),vs=[.ref S.st,.int i]∧yu a H S cells notes n fl∧inR cells i∧Q .non H
def xig(a:Adr):Sp:=fun vs H Q _=>∃(S:SA) (cells:List Int) (notes:List (Option Int)) (n i v:Int) (fl:V),vs=[.ref S.st,.int i]∧yu a H S cells notes n fl∧inR cells i∧cells[i.toNat]? =some v∧Q (.int v) H
def xhh(a:Adr):Sp:=fun vs H Q _=>∃(S:SA) (cells:List Int) (notes:List (Option Int)) (n i s:Int),vs=[.ref S.st,.int i,.int s]∧yu a H S cells notes n .non∧H yf=some (.tbl yB)∧inR cells i∧xma a H S (cells.set i.toNat s) notes (n+1) .non (Q .non)
def xih(a:Adr):Sp:=fun vs H Q _=>∃(S:SA) (cells:List Int) (notes:List (Option Int)) (n i m:Int),vs=[.ref S.st,.int i,.int m]∧yu a H S cells notes n .non∧H xQ=some (.tbl yj)∧0≤i∧i<notes.length∧xma a H S cells (notes.set i.toNat (some m)) (n+1) .non (Q .non)
def xii(a:Adr):Sp:=fun vs H Q _=>∃(S:SA) (cells:List Int) (notes:List (Option Int)) (n m:Int),vs=[.ref S.st,.int m]∧yu a H S cells notes n .non∧H xQ=some (.tbl yj)∧notes.length=2∧xma a H S cells (notes.set (m%2).toNat (some m)) (n+1) .non (Q .non)
def xqd(a:Adr):Sp:=fun vs H Q _=>∃(S:SA) (cells:List Int) (notes:List (Option Int)) (n:Int) (fl:V),vs=[.ref S.st]∧yu a H S cells notes n fl∧∀t c m H',xb H H'→H c=none→H m=none→c≠m→H' t=some (.tup [.ref c,.ref m,.int n])→H' c=some (.lst (cells.map V.int))→H' m=some (.lst (notes.map nV))→Q (.ref t) H'
def xcP(notes:List (Option Int))(m:Int):Prop:=(notes.filterMap id=[]→m=0)∧(notes.filterMap id≠[]→m∈notes.filterMap id∧∀x∈notes.filterMap id,x≤m)
theorem xcP.uniq{notes:List (Option Int)}{m m':Int}(h:xcP notes m)(h':xcP notes m'):m=m':=by
 by_cases e:notes.filterMap id=[]
 ·rw[h.1 e,h'.1 e]
 ·have a:=h.2 e;have b:=h'.2 e;have:=a.2 _ b.1;have:=b.2 _ a.1;lia
def xnE(a:Adr):Sp:=fun vs H Q _=>∃(S:SA) (cells:List Int) (notes:List (Option Int)) (n:Int) (fl:V),vs=[.ref S.st]∧yu a H S cells notes n fl∧notes.length=2∧∀m H',xb H H'→xcP notes m→Q (.int m) H'
def xmb(H:Hp)(Q:VK)(xss:List (List Int)):Prop:=∀(l:Addr) (as:List Addr) (H':Hp),xb H H'→yV H H' l as xss→Q (.ref l) H'
def xcQ(a:Adr):Sp:=fun vs H Q _=>∃(p dx:Addr) (to st c:Int),vs=[.ref p]∧H p=some (.ins a.q0a dx (xao to st c))∧1≤c∧c≤1000∧(st - to).natAbs<2^200∧xmb H Q (yC to st c)
def xcR(a:Adr):Sp:=fun vs H Q _=>∃(p dx t:Addr) (to n:Int),vs=[.ref p]∧H p=some (.ins a.q0c dx (jD to t n))∧n≤1000∧xmb H Q [xX to n.toNat]
def xf.cv:xf→List Int
 | .take to _ c=>xX to c.toNat
 | .put to sg=>xX to sg.length
def xf.rds:xf→List Int
 | .take to st c=>if st=to then[]else xX st c.toNat
 | .put _ _=>[]
def xf.wrs:xf→List Int
 | .take to st c=>if st=to then[]else xX to c.toNat
 | .put to sg=>xX to sg.length
def num:Nat→List (List Int)→List (Nat×Int)
 |_,[]=>[]
 |k,cs::r=>cs.map (fun c=>(k,c))++num (k+1) r
def tw:List (Nat×Int)→List Int→Option (Nat×Int)
 |[],_=>none
 |(k,c)::r,seen=>if c∈seen then some (k,c)else tw r (c::seen)
def xbg(rs:List xf):Option (Nat×Int):=tw (num 0 (rs.map xf.cv)) []
def je(rs:List xf)(new:Nat):Option Int:=((a9 new).map fun(i:Nat)=>(i:Int)).find? fun c=> !decide (c∈(rs.map xf.cv).flatten)
def vd:Nat→List xf→List Int→Option (Nat×Int)
 |_,[],_=>none
 |k,r::rest,wr=>match r.rds.find? fun c=>decide (c∈wr)with
  |some c=>some (k,c)
  |none=>vd (k+1) rest (wr++r.wrs)
def jf(rs:List xf):Option (Nat×Int):=vd 0 rs []
def xpj(H:Hp)(Q:VK)(w:Str):Option (Nat×Int)→Prop
 |none=>∀H',xb H H'→Q .non H'
 |some (k,c)=>∀t H',xb H H'→H' t=some (.tup [.str w,.int k,.int c])→Q (.ref t) H'
def xsL(H:Hp)(Q:VK)(w:Str):Option Int→Prop
 |none=>∀H',xb H H'→Q .non H'
 |some c=>∀t H',xb H H'→H' t=some (.tup [.str w,.int c])→Q (.ref t) H'
def xgh(rs:List xf):Prop:=rs.length≤300∧∀r∈rs,r.cv.length≤300∧r.rds.length≤300∧r.wrs.length≤300
def xoB(K:ah)(a:Adr):Sp:=fun vs H Q _=>∃(l:Addr) (rs:List xf),vs=[.ref l]∧xgf K a H l rs∧xgh rs∧xbg rs=none∧xpj H Q "twice" (xbg rs)
inductive xgi(K:ah)(a:Adr)(vs:List V)(H:Hp)(Q:VK):Prop
 |mk (l:Addr) (rs:List xf) (new:Nat):(vs=[.ref l,.int new])→(xgf K a H l rs)→(xgh rs)→(new≤300)→(je rs new=none)→(xsL H Q "lacks" (je rs new))→xgi K a vs H Q
def xmc(K:ah)(a:Adr):Sp:=fun vs H Q _=>xgi K a vs H Q
def xqe(K:ah)(a:Adr):Sp:=fun vs H Q _=>∃(l:Addr) (rs:List xf),vs=[.ref l]∧xgf K a H l rs∧xgh rs∧jf rs=none∧∀H',xb H H'→Q .non H'
def xf.to:xf→Int
 | .take t _ _=>t
 | .put t _=>t
def xf.cnt:xf→Nat
 | .take _ _ c=>c.toNat
 | .put _ sg=>sg.length
def xf.sg(es:List Int):xf→List Int
 | .take _ st c=>(es.drop st.toNat).take c.toNat
 | .put _ sg=>sg
def xf.fits(es:List Int):xf→Prop
 | .take _ st c=>st+c≤es.length
 | .put _ _=>True
theorem xf.sg_len{es:List Int}{r:xf}(ok:r.ok)(f:r.fits es):(r.sg es).length=r.cnt:=by
 cases r with
 |take to st c=>
  obtain⟨k1,k2,k3⟩:=ok;have f':st+c≤es.length:=f;simp only[xf.sg,xf.cnt,bB,aO];lia
 |put to sg=>rfl
theorem xf.ok.to{r:xf}(ok:r.ok):0≤r.to:=by
 cases r with
 |take to st c=>exact ok.1
 |put to sg=>exact ok.1
def Tells(es nw:List Int)(r:xf):Prop:=r.ok∧r.fits es∧r.to+r.cnt≤nw.length∧∀i:Nat,i<r.cnt→nw[(r.to+i).toNat]? =(r.sg es)[i]?
def yg(r:xf)(j:Nat):Prop:=r.to≤j∧(j:Int)<r.to+r.cnt
def Agree(S:Nat→Prop)(ys nw:List Int):Prop:=ys.length=nw.length∧∀j,S j→ys[j]? =nw[j]?
theorem Agree.set{S S':Nat→Prop}{ys nw:List Int}{c:Nat}{v:Int}(h:Agree S ys nw)(hv:nw[c]? =some v)(hS:∀j,S' j→S j∨j=c):Agree S' (ys.set c v) nw:=by
 have hc:c<ys.length:=by rw[h.1];exact(au.mp hv).1
 refine⟨by rw[gA];exact h.1,fun j hj=>?_⟩
 by_cases e:c=j
 ·subst e;rw[f9 hc,hv]
 ·rw[d4 e];rcases hS j hj with z|z
  ·exact h.2 j z
  ·exact absurd z.symm e
theorem Agree.all{S:Nat→Prop}{ys nw:List Int}(h:Agree S ys nw)(k:∀j,j<nw.length→S j):ys=nw:=by
 apply dY;intro j
 by_cases hj:j<nw.length
 ·exact h.2 j (k j hj)
 ·rw[cX (by rw[h.1];lia),cX (by lia)]
def xap(K:ah)(H:Hp)(p:Addr)(o n:Int)(rs:List xf):Prop:=∃t ts,H p=some (.tup [.int o,.int n,.ref t])∧H t=some (.tup (ts.map V.ref))∧Paired (TupAt K H) ts rs
theorem xap.same{K:ah}{H H':Hp}{p:Addr}{o n:Int}{rs:List xf}(h:xap K H p o n rs)(s:xb H H'):xap K H' p o n rs:=by
 obtain⟨t,ts,h1,h2,h3⟩:=h;exact⟨t,ts,s.at h1,s.at h2,L2.Paired.imp' (fun _ _ z=>z.same s) h3⟩
def Fit(old new:Int):xf→Prop
 | .take to st c=>st+c≤old∧to+c≤new
 | .put to sg=>to+sg.length≤new
def xjw:Sp:=fun vs H Q _=>∃i:Int,vs=[.int i]∧0≤i∧i≤300∧Q (.bl true) H
inductive xk5(K:ah)(vs:List V)(H:Hp)(Q:VK):Prop
 |mk (p:Addr) (o n:Int) (rs:List xf):(vs=[.ref p])→(xap K H p o n rs)→(0≤o)→(o≤300)→(0≤n)→(n≤300)→(rs.length≤300)→(Q (.bl true) H)→xk5 K vs H Q
def xqf(K:ah):Sp:=fun vs H Q _=>xk5 K vs H Q
def xmd(K:ah):Sp:=fun vs H Q _=>∃(t:Addr) (r:xf) (old new:Int),vs=[.ref t,.int old,.int new]∧TupAt K H t r∧r.ok∧Fit old new r∧∀H',xb H H'→Q (.bl true) H'
def xoC(K:ah):Sp:=fun vs H Q _=>∃(p:Addr) (o n:Int) (rs:List xf),vs=[.ref p]∧xap K H p o n rs∧(∀r∈rs,r.ok∧Fit o n r)∧rs.length≤300∧∀H',xb H H'→Q .non H'
inductive xjx(K:ah)(vs:List V)(H:Hp)(Q:VK):Prop
 |mk (p:Addr) (o n:Int) (rs:List xf):(vs=[.ref p])→(xap K H p o n rs)→((0≤o∧o≤300))→((0≤n∧n≤300))→(rs.length≤300)→((∀r∈rs,r.ok∧Fit o n r))→(xbg rs=none)→(je rs n.toNat=none)→(jf rs=none)→(∀H',xb H H'→Q .non H')→xjx K vs H Q
def xjy(K:ah):Sp:=fun vs H Q _=>xjx K vs H Q
def xf.neg:xf→Prop
 | .put _ sg=>True
 | .take .. =>True
def xf.inO(old:Int):xf→Prop
 | .take _ st c=>st+c≤old
 | .put .. =>True
def Good(old:Int)(r:xf):Prop:=r.ok∧r.neg∧r.inO old
def pcs:xf→List (List Int)
 | .take to st c=>yC to st c
 | .put to sg=>[xX to sg.length]
def xme(C:List Int):xf→Int→Option Int
 | .take to st _,j=>C[(st+j - to).toNat]?
 | .put to sg,j=>sg[(j - to).toNat]?
def Part(C:List Int)(r:xf)(D cur:List Int):Prop:=cur.length=C.length∧∀j:Nat,j<C.length→cur[j]? =if (j:Int)∈D then xme C r j else C[j]?
def xpk(rs:List xf)(C0:List Int)(Cs:Nat→List Int)(k:Nat):Prop:=Cs 0=C0∧(∀j,(Cs j).length=C0.length)∧∀j r,j<k→rs[j]? =some r→Part (Cs j) r (pcs r).flatten (Cs (j+1))
def xf.cst:xf→Int
 | .take .. =>4
 | .put _ sg=>2+sg.length
local macro_rules| `(tactic|walk_at"w")=>`(tactic|(conv=>whnf))
local macro_rules| `(tactic|walk_at"few")=>`(tactic|first|exact Nat.lt_of_lt_of_le (xpG (n:=998) (by simp)) (by decide)|(simp;done))
local macro_rules| `(tactic|walk_at"pos")=>`(tactic|first|(show(0:Int)<_;decide)|(show(0:Int)<_;lia)|assumption)
local macro_rules| `(tactic|walk_at"same")=>`(tactic|first|exact xb.refl _|assumption|(refine' xb.trans ?sa ?sb;(case sb=>assumption);(case sa=>walk_at"same")))
local macro_rules| `(tactic|walk_at"get")=>`(tactic|first|assumption|exact xk|(refine' xb.at ?ga ?gb;(case gb=>assumption);(case ga=>walk_at"same")))
local macro_rules| `(tactic|walk_at"sq")=>`(tactic|first|assumption|(refine' SqL.of ?g;(case g=>walk_at"get"))|(refine' SqT.of ?g;(case g=>walk_at"get"))|(refine' xb.seq ?sa ?sb;(case sb=>assumption);(case sa=>walk_at"same"))|(refine' xb.seqT ?sa ?sb;(case sb=>assumption);(case sa=>walk_at"same"))|(refine' Or.inl ?g;(case g=>walk_at"sq"))|(refine' Or.inr ?g;(case g=>walk_at"sq")))
local macro_rules| `(tactic|walk_at"no")=>`(tactic|(intro z;first|cases z|(simp at z;done)))
local macro_rules| `(tactic|walk_at"mul")=>`(tactic|first|exact Or.inl ⟨by decide,by decide⟩|exact Or.inr ⟨by decide,by decide⟩|exact Or.inl ⟨by lia,by lia⟩|exact Or.inr ⟨by lia,by lia⟩)
local macro_rules| `(tactic|walk_at"side")=>`(tactic|first|exact⟨by decide,by decide⟩|exact⟨by decide,by decide,by decide⟩|walk_at"pos" |walk_at"mul" |(show(_:Nat)≤sizeLine;first|decide|(simp only[List.length_cons,List.length_nil];decide)))
local macro_rules| `(tactic|walk_at"s")=>`(tactic|(refine And.intro (by walk_at"side") ?_;walk_at"w"))
local macro_rules| `(tactic|walk_at"ss")=>`(tactic|(repeat (walk_at"s")))
section
variable {P:aI} {w:World} {K:ah} {mg:Str→Option Value} {base:Heap} {a:Adr}
theorem xkC(T:Txt K mg a):xv P w K mg base CX0 1 a.q1V a.xcL ["self","fall"] (xkB a):=by
 refine T.q2T.ok xeQ (fun vs H Q E h=>?_) (fun cdv A outer s H vs Q E hr h=>?_)
 ·obtain⟨p,dp,fl,rfl,_⟩:=h;rfl
 ·obtain⟨p,dp,fl,rfl,hp,k⟩:=h;have nd:=xeQ.nd;refine⟨_,(xg (zq (cv 0) xh rfl)
  (xi (zq (cv 0) (cv 1) rfl))),?_⟩
  walk_at"w";refine⟨p,_,dp,_,rfl,hp,T.q28,T.q2k,by walk_at"few",?_⟩;walk_at"w";refine⟨p,_,dp,_,rfl,xk,T.q28,T.q3m,by walk_at"few",?_⟩;walk_at"w";rw[zm];exact k
theorem xcj(T:Txt K mg a):xv P w K mg base CX0 1 a.q0l a.zX ["self","count"] (xie a):=by
 refine T.q0A.ok vC (fun vs H Q E h=>?_) (fun cdv A outer s H vs Q E hr h=>?_)
 ·obtain⟨p,dp,n,m,rfl,_⟩:=h;rfl
 ·obtain⟨p,dp,n,m,rfl,hp,k⟩:=h;have nd:=vC.nd;refine⟨_,(xg (xt (i:=2) nd rfl (aD rfl) (xx (cv 0) rfl))
  (xg (xM (xdk (cv 2)) (xi (xq xb3)) xF)
  (xi xat))),?_⟩
  walk_at"w";refine⟨p,_,dp,_,.non,rfl,hp,T.q28,T.q3m,rfl,?_⟩;walk_at"w";refine⟨fun _=>?_,by walk_at"no"⟩;exact k
theorem xah(T:Txt K mg a):xv P w K mg base CX0 2 a.q0v a.vt ["self","kept","at","value","torn"] (xjv a):=by
 refine T.q1f.ok xag (fun vs H Q E h=>?_) (fun cdv A outer s H vs Q E hr h=>?_)
 ·obtain⟨p,dp,l,g,i,n,val,xs,rfl,_⟩:=h;rfl
 ·obtain⟨p,dp,l,g,i,n,val,xs,rfl,hp,hl,h0,hi,k⟩:=h;have nd:=xag.nd;refine⟨_,(xg (xt (i:=5) nd rfl (aD rfl) (xx (cv 0) rfl))
  (xg (zq (cv 0) (xn xK (cv 5) xh) rfl)
  (xg (xt (i:=6) nd rfl (aD rfl) (yQ (cv 0) T.q28 T.q2m (xcj T) (hr.mono (by decide)) T.xcO .nil xo (xa (cv 5) xc)))
  (xg (xM (xdk (cv 6)) (xg (xdc (cv 3) (xmC (cv 1) (cv 2) set_list))
  (xi xpp)) xF)
  (xg (xb6 (xM (xJ zT (xu xiJ (by rfl) T.q0k xP (xa (cv 6) xc)) xh) jo xF))
  (xi xat)))))),?_⟩
  have nlp:l≠p:=yZ hl hp (by intro z;cases z);walk_at"w";refine⟨p,_,dp,_,.int n,rfl,hp,T.q28,T.q2k,rfl,?_⟩;walk_at"w";refine⟨p,_,dp,_,rfl,hp,T.q28,T.q2k,by walk_at"few",?_⟩;generalize hU:upd H p _=H1;have c1:Kp [p,l] H H1:=by rw[←hU];exact(Kp.of (xb.refl _)).wr (by simp)
  have hp1:H1 p=some (.ins a.q0G dp (xhg (n+1) .non)):=by rw[←hU,xk];rfl
  have hl1:H1 l=some (.lst xs):=by rw[←hU,xl nlp];exact hl
  clear hU;walk_at"w";refine⟨p,dp,_,rfl,hp1,rfl,?_⟩;walk_at"w";refine⟨p,dp,n,_,rfl,hp1,?_⟩;walk_at"w";refine⟨fun _=>?_,by walk_at"no"⟩;walk_at"w";refine⟨l,xs,i,_,rfl,rfl,hl1,xnb h0 hi,?_⟩;exact k _ (c1.wr (by simp)) (by rw[xl (a8 nlp)];exact hp1) xk
theorem xij(T:Txt K mg a):xv P w K mg base CX0 3 a.q00 a.ja ["self","cells","fall"] (xif K a):=by
 refine T.uB.ok xc3 (fun vs H Q E h=>?_) (fun cdv A outer s H vs Q E hr h=>?_)
 ·obtain⟨st,dx,l,cells,fl,rfl,_⟩:=h;rfl
 ·obtain⟨st,dx,l,cells,fl,rfl,hst,hl,k⟩:=h;have nd:=xc3.nd;refine⟨_,(xg (zq (cv 0) (yb yF (by rfl) T.q1t yT (xa (cv 1) xc)) rfl)
  (xg (zq (cv 0) (yh (xa xh (xa xh xc))) rfl)
  (xi (zq (cv 0) (vy T.q4p (xkC T) (hr.mono (by decide)) (by rfl) T.xse T.xl4 .nil xo (xa (cv 2) xc)) rfl)))),?_⟩
  walk_at"w";refine⟨l,_,rfl,.inl (SqL.of hl),?_⟩;intro ca hca;walk_at"w";refine⟨st,_,dx,_,rfl,by rw[xl (xA hst hca)];exact hst,T.q0n,T.q1g,by walk_at"few",?_⟩;generalize hU1:upd (upd H ca _) st _=H1;have k1:Kp [st] H H1:=by rw[←hU1];exact((Kp.of (xb.refl _)).mk hca).wr (by simp)
  have f1:H1 st=some (.ins a.q0d dx [("cells",.ref ca)]):=by rw[←hU1,xk];rfl
  have g1:H1 ca=some (.lst (cells.map V.int)):=by rw[←hU1,xl (a8 (xA hst hca)),xk]
  have b1:∀b,H1 b=none→H b=none∧b≠st∧b≠ca:=fun b hb=>by
   have n1:b≠st:=fun z=>by rw[z,f1]at hb;cases hb
   have n2:b≠ca:=fun z=>by rw[z,g1]at hb;cases hb
   rw[←hU1,xl n1,xl n2]at hb;exact⟨hb,n1,n2⟩
  clear hU1;walk_at"w";walk_at"ss";intro na hna;obtain⟨na0,na1,na2⟩:=b1 na hna;walk_at"w";refine⟨st,_,dx,_,rfl,by rw[xl (xA f1 hna)];exact f1,T.q0n,T.q1C,by walk_at"few",?_⟩;generalize hU2:upd (upd H1 na _) st _=H2;have k2:Kp [st] H H2:=by rw[←hU2];exact(k1.mk na0).wr (by simp)
  have f2:H2 st=some (.ins a.q0d dx [("cells",.ref ca),("notes",.ref na)]):=by rw[←hU2,xk];rfl
  have g2:H2 ca=some (.lst (cells.map V.int)):=by rw[←hU2,xl (yZ g1 f1 (by intro z;cases z)),xl (a8 na2)];exact g1
  have m2:H2 na=some (.lst ([some 0,some 0].map nV)):=by rw[←hU2,xl na1,xk];rfl
  have b2:∀b,H2 b=none→H b=none∧b≠st∧b≠ca∧b≠na:=fun b hb=>by
   have n1:b≠st:=fun z=>by rw[z,f2]at hb;cases hb
   have n3:b≠na:=fun z=>by rw[z,m2]at hb;cases hb
   rw[←hU2,xl n1,xl n3]at hb;exact⟨(b1 b hb).1,n1,(b1 b hb).2.2,n3⟩
  clear hU2 b1;walk_at"w";intro p dp hp hdp nep;obtain⟨p0,p1,p2,p3⟩:=b2 p hp;obtain⟨q0,q1,q2,q3⟩:=b2 dp hdp;refine⟨p,dp,fl,rfl,xk,?_⟩;refine⟨rfl,?_⟩;walk_at"w";rw[zm];have e3:∀b,b≠p→b≠dp→∀o o',upd (upd H2 dp o) p o' b=H2 b:=fun b n1 n2 o o'=>by rw[xl n1,xl n2]
  refine⟨st,_,dx,_,rfl,by rw[e3 _ (a8 p1) (a8 q1)];exact f2,T.q0n,T.q2l,by walk_at"few",?_⟩;refine k ⟨st,dx,ca,na,p,dp⟩ _ rfl (((k2.mk q0).mk p0).wr (by simp)) ⟨?_,?_,?_,?_,a8 na2,p1⟩ hca na0 p0
  ·rw[xk];rfl
  ·rw[xl (yZ g2 f2 (by intro z;cases z)),e3 _ (a8 p2) (a8 q2)];exact g2
  ·rw[xl na1,e3 _ (a8 p3) (a8 q3)];exact m2
  ·rw[xl p1,xk]
theorem uN(T:Txt K mg a):xv P w K mg base CX0 1 a.q0h a.zI ["self","at"] (xgg a):=by
 refine T.q0s.ok uM (fun vs H Q E h=>?_) (fun cdv A outer s H vs Q E hr h=>?_)
 ·obtain⟨S,cells,notes,n,i,fl,rfl,_⟩:=h;rfl
 ·obtain⟨S,cells,notes,n,i,fl,rfl,hS,hi,k⟩:=h;have nd:=uM.nd;refine⟨_,(xi (xM (PW.pt (xed (xJ xaA (cv 1) xh) (xfC (xJ xlz (cv 1) (xu xw (by rfl) T.q0k xP (xa (xx (cv 0) rfl) xc)))))) (xi xat) xF)),?_⟩;walk_at"w";refine⟨fun e=>absurd (of_decide_eq_true e) (by have:=hi.1;omega),fun e=>?_⟩;walk_at"w";refine⟨S.st,_,S.dx,_,.ref S.ca,rfl,hS.st,T.q0n,T.q1g,rfl,?_⟩;walk_at"w";refine⟨S.ca,_,rfl,.inl (SqL.of hS.ca),?_⟩;walk_at"w";rw[aa];refine⟨fun e1=>absurd (of_decide_eq_true e1) (by have:=hi.2;omega),fun e1=>?_⟩;exact k
theorem xik(T:Txt K mg a):xv P w K mg base CX0 2 a.q1m a.xa1 ["self","at"] (xig a):=by
 refine T.q2h.ok xc4 (fun vs H Q E h=>?_) (fun cdv A outer s H vs Q E hr h=>?_)
 ·obtain⟨S,cells,notes,n,i,v,fl,rfl,_⟩:=h;rfl
 ·obtain⟨S,cells,notes,n,i,v,fl,rfl,hS,hi,hv,k⟩:=h;have nd:=xc4.nd;refine⟨_,(xg (xN (yQ (cv 0) T.q0n T.q1a (uN T) (hr.mono (by decide)) T.uW .nil xo (xa (cv 1) xc)))
  (xi (xq (xB yK (xx (cv 0) rfl) (cv 1) (fun _ _=>rfl))))),?_⟩
  walk_at"w";refine⟨S.st,S.dx,_,rfl,hS.st,rfl,?_⟩;walk_at"w";refine⟨S,cells,notes,n,i,fl,rfl,hS,hi,?_⟩;walk_at"w";refine⟨S.st,_,S.dx,_,.ref S.ca,rfl,hS.st,T.q0n,T.q1g,rfl,?_⟩;walk_at"w";refine⟨S.ca,_,i,.int v,rfl,rfl,SqL.of hS.ca,xfT hi.1 hv,?_⟩;exact k
theorem xhi(T:Txt K mg a):xv P w K mg base CX0 3 a.q0J a.uZ ["self","at","sign"] (xhh a):=by
 refine T.va.okC [] T.xhf xch (fun vs H Q E h=>?_) (fun A outer s H vs Q E hr h=>?_)
 ·obtain⟨S,cells,notes,n,i,s,rfl,_⟩:=h;rfl
 ·obtain⟨S,cells,notes,n,i,sg,rfl,hS,hP,hi,k⟩:=h;have nd:=xch.nd;refine⟨_,(xg (xN (yQ (cv 0) T.q0n T.q1a (uN T) (hr.mono (by decide)) T.uW .nil xo (xa (cv 1) xc)))
  (xi (xN (yQ (xx (cv 0) rfl) T.q28 T.q2b (xah T) (hr.mono (by decide)) T.xa7 .nil xo (xa (xx (cv 0) rfl) (xa (cv 1) (xa (cv 2) (xa (zw (c:=q0y) (P:=yf) (qs:=yB) (fns:=[]) rfl T.q3e (q:="Store.write.<locals>.<lambda>") (by kernel_rfl) (.head _) (by kernel_rfl) (by kernel_rfl)) xc)))))))),?_⟩
  walk_at"w";refine⟨S.st,S.dx,_,rfl,hS.st,rfl,?_⟩;walk_at"w";refine⟨S,cells,notes,n,i,.non,rfl,hS,hi,?_⟩;walk_at"w";refine⟨S.st,_,S.dx,_,.ref S.p,rfl,hS.st,T.q0n,T.q2l,rfl,?_⟩;walk_at"w";refine⟨S.p,S.dp,_,rfl,hS.p,rfl,?_⟩;walk_at"w";refine⟨S.st,_,S.dx,_,.ref S.ca,rfl,hS.st,T.q0n,T.q1g,rfl,?_⟩;walk_at"w";refine⟨hP,[],rfl,(fun x v m=>nomatch m),fun g H1 hg s1 hc=>?_⟩;walk_at"w";have c1:Kp (SS S) H H1:=Kp.of s1;have hS1:=hS.same s1;refine⟨S.p,S.dp,S.ca,g,i,n,.int sg,_,rfl,hS1.p,hS1.ca,hi.1,by rw[aa];exact hi.2,fun H2 q1 q2 q3=>?_⟩;have q:Kp (SS S) H H2:=c1.trans (q1.mono (by simp));exact k H2 q ⟨q _ _ hS.st hS.nst,by rw[q3,lg],q1 _ _ hS1.na (by simp[a8 hS.npn,a8 hS.ne]),q2,hS.ne,hS.np⟩
theorem xdS(T:Txt K mg a):xv P w K mg base CX0 3 a.q0o a.zK ["self","at","number"] (xih a):=by
 refine T.zL.okC [] T.xdF jN (fun vs H Q E h=>?_) (fun A outer s H vs Q E hr h=>?_)
 ·obtain⟨S,cells,notes,n,i,m,rfl,_⟩:=h;rfl
 ·obtain⟨S,cells,notes,n,i,m,rfl,hS,hP,h0,hi,k⟩:=h;have nd:=jN.nd;refine⟨_,(xi (xN (yQ (xx (cv 0) rfl) T.q28 T.q2b (xah T) (hr.mono (by decide)) T.xa7 .nil xo (xa (xx (cv 0) rfl) (xa (cv 1) (xa (cv 2) (xa (zw (c:=q0j) (P:=xQ) (qs:=yj) (fns:=[]) rfl T.q2L (q:="Store.note_down.<locals>.<lambda>") (by kernel_rfl) (.head _) (by kernel_rfl) (by kernel_rfl)) xc))))))),?_⟩;walk_at"w";refine⟨S.st,_,S.dx,_,.ref S.p,rfl,hS.st,T.q0n,T.q2l,rfl,?_⟩;walk_at"w";refine⟨S.p,S.dp,_,rfl,hS.p,rfl,?_⟩;walk_at"w";refine⟨S.st,_,S.dx,_,.ref S.na,rfl,hS.st,T.q0n,T.q1C,rfl,?_⟩;walk_at"w";refine⟨hP,[],rfl,(fun x v m=>nomatch m),fun g H1 hg s1 hc=>?_⟩;walk_at"w";have c1:Kp (SS S) H H1:=Kp.of s1;have hS1:=hS.same s1;refine⟨S.p,S.dp,S.na,g,i,n,.int m,_,rfl,hS1.p,hS1.na,h0,by rw[aa];exact hi,fun H2 q1 q2 q3=>?_⟩;have q:Kp (SS S) H H2:=c1.trans (q1.mono (by simp));exact k H2 q ⟨q _ _ hS.st hS.nst,q1 _ _ hS1.ca (by simp[a8 hS.npc,hS.ne]),by rw[q3,lg];rfl,q2,hS.ne,hS.np⟩
theorem xil(T:Txt K mg a):xv P w K mg base CX0 4 a.q1n a.xa2 ["self","number"] (xii a):=by
 refine T.q2i.ok xc5 (fun vs H Q E h=>?_) (fun cdv A outer s H vs Q E hr h=>?_)
 ·obtain⟨S,cells,notes,n,m,rfl,_⟩:=h;rfl
 ·obtain⟨S,cells,notes,n,m,rfl,hS,hP,h2,k⟩:=h;have nd:=xc5.nd;refine⟨_,(xi (xN (yQ (cv 0) T.q0n T.q2N (xdS T) (hr.mono (by decide)) T.xev .nil xo (xa (xn xZ (cv 1) xh) (xa (cv 1) xc))))),?_⟩;walk_at"w";refine⟨S.st,S.dx,_,rfl,hS.st,rfl,?_⟩;walk_at"w";walk_at"ss";exact⟨S,cells,notes,n,m%2,m,rfl,hS,hP,by lia,by rw[h2];lia,k⟩
theorem xc8(T:Txt K mg a):xv P w K mg base CX0 1 a.q1o a.xa3 ["self"] (xqd a):=by
 refine T.q2j.ok xc6 (fun vs H Q E h=>?_) (fun cdv A outer s H vs Q E hr h=>?_)
 ·obtain⟨S,cells,notes,n,fl,rfl,_⟩:=h;rfl
 ·obtain⟨S,cells,notes,n,fl,rfl,hS,k⟩:=h;have nd:=xc6.nd;refine⟨_,(xi (xq (yX (xa (yb yF (by rfl) T.q1t yT (xa (xx (cv 0) rfl) xc)) (xa (yb yF (by rfl) T.q1t yT (xa (xx (cv 0) rfl) xc)) (xa (xx (xx (cv 0) rfl) rfl) xc)))))),?_⟩;walk_at"w";refine⟨S.st,_,S.dx,_,.ref S.ca,rfl,hS.st,T.q0n,T.q1g,rfl,?_⟩;walk_at"w";refine⟨S.ca,_,rfl,.inl (SqL.of hS.ca),?_⟩;intro c hc;generalize hUc:upd H c _=H1;have sH1:=xb.of_eq hc hUc;have ec:=xm hUc;clear hUc;walk_at"w";have hS1:=hS.same sH1;refine⟨S.st,_,S.dx,_,.ref S.na,rfl,hS1.st,T.q0n,T.q1C,rfl,?_⟩;walk_at"w";refine⟨S.na,_,rfl,.inl (SqL.of hS1.na),?_⟩;intro m hm;generalize hUm:upd H1 m _=H2;have sH2:=xb.of_eq hm hUm;have em:=xm hUm;clear hUm;walk_at"w";have hS2:=hS1.same sH2;refine⟨S.st,_,S.dx,_,.ref S.p,rfl,hS2.st,T.q0n,T.q2l,rfl,?_⟩;walk_at"w";refine⟨S.p,_,S.dp,_,.int n,rfl,hS2.p,T.q28,T.q2k,rfl,?_⟩;walk_at"w";walk_at"ss";intro t ht;generalize hUt:upd H2 t _=H3;have sH3:=xb.of_eq ht hUt;have et:=xm hUt;clear hUt;walk_at"w";exact k t c m H3 (sH1.trans (sH2.trans sH3)) hc (sH1.back hm) (xA ec hm) et (sH3.at (sH2.at ec)) (sH3.at em)
theorem xcS:∀notes:List (Option Int),((notes.map nV).filter fun v=> !(isN v)).map (fun v=>v)=(notes.filterMap id).map V.int
 |[]=>rfl
 |none::r=>by
  have:=xcS r;simpa [nV,isN]using this
 |some i::r=>by
  have:=xcS r;simpa [nV,isN]using this
theorem xhj(T:Txt K mg a):xv P w K mg base CX0 1 a.q09 a.xaa ["self"] (xnE a):=by
 refine T.q1Q.ok xci (fun vs H Q E h=>?_) (fun cdv A outer s H vs Q E hr h=>?_)
 ·obtain⟨S,cells,notes,n,fl,rfl,_⟩:=h;rfl
 ·obtain⟨S,cells,notes,n,fl,rfl,hS,h2,k⟩:=h;have nd:=xci.nd;refine⟨_,(xi (xq (xkY rfl (by rfl) T.q3u (xa (yk (yt (cap:=[]) (ys:=[]) rfl rfl rfl rfl rfl trivial (by decide+kernel)) rfl (xR (xx (cv 0) rfl)) (fun _ _ _ _=>(cv 0)) (fun _ _ _ _=>(xas (xgT (cv 0))))) xc) xh))),?_⟩;walk_at"w";refine⟨S.st,_,S.dx,_,.ref S.na,rfl,hS.st,T.q0n,T.q1C,rfl,?_⟩;walk_at"w";refine⟨S.na,rfl,⟨_,SqL.of hS.na⟩,?_⟩;refine vK (fun v=> !(isN v)) (fun v=>v) (SqL.of hS.na) (by rw[aa,h2];decide) (fun x H3 hx s3 R hR=>?_) (fun x H3 hx hp s3 R hR=>?_) (fun D H' hD s' e'=>?_)
  ·exact hR H3 (xb.refl _)
  ·exact hR H3 (xb.refl _)
  ·rw[xcS]at e';exact⟨D,_,0,rfl,rfl,SqL.of e',fun m h1 h2=>k m H' s' ⟨h1,h2⟩⟩
theorem xb0(T:Txt K mg a):xv P w K mg base CX0 1 a.q1R a.xcG ["self","to"] (xky K):=by
 refine T.q2Q.ok xeL (fun vs H Q E h=>?_) (fun cdv A outer s H vs Q E hr h=>?_)
 ·obtain⟨p,C,dx,to,rfl,_⟩:=h;rfl
 ·obtain⟨p,C,dx,to,rfl,hp,c,n1,n2,k⟩:=h;have nd:=xeL.nd;refine⟨_,(xg (zq (cv 0) (cv 1) rfl)
  (xi (zq (cv 0) xh rfl))),?_⟩
  walk_at"w";refine⟨p,C,dx,_,rfl,hp,c,n1,by walk_at"few",?_⟩;walk_at"w";refine⟨p,C,dx,_,rfl,xk,c,n2,by walk_at"few",?_⟩;walk_at"w";rw[zm];exact k
theorem xdT(T:Txt K mg a):xv P w K mg base CX0 2 a.q1w a.xbO ["self","to","start","count"] (xjp a):=by
 refine T.q2w.ok xdI (fun vs H Q E h=>?_) (fun cdv A outer s H vs Q E hr h=>?_)
 ·obtain⟨p,dx,to,st,c,rfl,_⟩:=h;rfl
 ·obtain⟨p,dx,to,st,c,rfl,hp,k⟩:=h;have nd:=xdI.nd;refine⟨_,(xg (xN (xgS (by rfl) T.xl7 T.q2W (xb0 T) (hr.mono (by decide)) T.xcN .nil xo (xa (cv 0) (xa (cv 1) xc))))
  (xg (zq (cv 0) (cv 2) rfl)
  (xi (zq (cv 0) (cv 3) rfl)))),?_⟩
  walk_at"w";refine⟨p,_,dx,to,rfl,hp,T.q0b,T.q0i,T.q0f,?_⟩;walk_at"w";refine⟨p,_,dx,_,rfl,xk,T.q0b,T.q0e,by walk_at"few",?_⟩;walk_at"w";refine⟨p,_,dx,_,rfl,xk,T.q0b,T.q0f,by walk_at"few",?_⟩;walk_at"w";rw[zm,zm];exact k
theorem uX(T:Txt K mg a):xv P w K mg base CX0 2 a.q1u a.xal ["self","to","signs"] (xkz K a):=by
 refine T.q2t.ok jC (fun vs H Q E h=>?_) (fun cdv A outer s H vs Q E hr h=>?_)
 ·obtain⟨p,dx,t,to,xs,rfl,_⟩:=h;rfl
 ·obtain⟨p,dx,t,to,xs,rfl,hp,ht,k⟩:=h;have nd:=jC.nd;have ht1:∀o,SqT K (upd H p o) t xs:=fun o=>xnB ht hp;refine⟨_,(xg (xN (xgS (by rfl) T.xl7 T.q2W (xb0 T) (hr.mono (by decide)) T.xcN .nil xo (xa (cv 0) (xa (cv 1) xc))))
  (xg (zq (cv 0) (yb jS (by rfl) T.q25 jm (xa (cv 2) xc)) rfl)
  (xi (zq (cv 0) (xu xw (by rfl) T.q0k xP (xa (xx (cv 0) rfl) xc)) rfl)))),?_⟩
  walk_at"w";refine⟨p,_,dx,to,rfl,hp,T.q0g,T.q0x,T.q0p,?_⟩;walk_at"w";refine⟨t,xs,rfl,.inr ⟨ht1 _,?_⟩⟩;walk_at"w";refine⟨p,_,dx,_,rfl,xk,T.q0g,T.q0I,by walk_at"few",?_⟩;walk_at"w";refine⟨p,_,dx,_,.ref t,rfl,xk,T.q0g,T.q0I,rfl,?_⟩;walk_at"w";refine⟨t,xs,rfl,.inr (xnB (ht1 _) xk),?_⟩;walk_at"w";refine⟨p,_,dx,_,rfl,xk,T.q0g,T.q0p,by walk_at"few",?_⟩;walk_at"w";rw[zm,zm];exact k
theorem yl(T:Txt K mg a):xv P w K mg base CX0 1 a.q0z a.jX ["self"] (jd K):=by
 refine T.q1N.ok xce (fun vs H Q E h=>?_) (fun cdv A outer s H vs Q E hr h=>?_)
 ·obtain⟨p,C,dx,fs,to,c,rfl,_⟩:=h;rfl
 ·obtain⟨p,C,dx,fs,to,c,rfl,hp,cl,n1,n2,l1,l2,hc,k⟩:=h;have nd:=xce.nd;refine⟨_,(xi (xq (yb (uY rfl) (by rfl) T.q1t yT (xa (xbn (by rfl) T.q06 (xa (xx (cv 0) rfl) (xa (xn xK (xx (cv 0) rfl) (xx (cv 0) rfl)) xc))) xc)))),?_⟩;walk_at"w";refine⟨p,C,dx,fs,_,rfl,hp,cl,n1,l1,?_⟩;walk_at"w";refine⟨p,C,dx,fs,_,rfl,hp,cl,n1,l1,?_⟩;walk_at"w";refine⟨p,C,dx,fs,_,rfl,hp,cl,n2,l2,?_⟩;walk_at"w";intro r hr1;walk_at"w";have e:yG to (to+c) 1=c.toNat:=by rw[zh];congr 1;lia
  refine⟨r,to,to+c,rfl,xk,by rw[e];exact hc,fun l hl=>?_⟩;rw[e,xei];have hl0:H l=none:=xb.free (xb.new hr1) hl;exact k l _ ((xb.new hr1).put hl0) hl0 xk
theorem ub(T:Txt K mg a):xv P w K mg base CX0 1 a.q1i a.xaU ["self"] (xoz a):=by
 refine T.q2d.ok xcW (fun vs H Q E h=>?_) (fun cdv A outer s H vs Q E hr h=>?_)
 ·obtain⟨p,dx,to,st,c,rfl,_⟩:=h;rfl
 ·obtain⟨p,dx,to,st,c,rfl,hp,k⟩:=h;have nd:=xcW.nd;refine⟨_,(xi (xq (zN zT (xx (cv 0) rfl) (xx (cv 0) rfl)))),?_⟩;walk_at"w";refine⟨p,_,dx,_,.int st,rfl,hp,T.q0b,T.q0e,rfl,?_⟩;walk_at"w";refine⟨p,_,dx,_,.int to,rfl,hp,T.q0b,T.q0i,rfl,?_⟩;exact k
theorem za(T:Txt K mg a):xv P w K mg base CX0 1 a.q2G a.xdC ["_law_script","_law_k"] (xl9 K):=by
 refine T.q0w.ok xge (fun vs H Q E h=>?_) (fun cdv A outer s H vs Q E hr h=>?_)
 ·obtain⟨l,ns,k,rfl,_⟩:=h;rfl
 ·obtain⟨l,ns,k,rfl,hl,hk,q⟩:=h;have nd:=xge.nd;refine⟨_,(xg (xM (xJ xaA (cv 1) (xu xw (by rfl) T.q0k xP (xa (cv 0) xc))) (xi (xq (xB yK (cv 0) (cv 1) (fun _ _=>rfl)))) xF)
  (xi (xq xh))),?_⟩
  walk_at"w";refine⟨l,_,rfl,.inl hl,?_⟩;walk_at"w";refine⟨fun e=>?_,fun e=>?_⟩
  ·have e':=of_decide_eq_true e;rw[aa]at e';walk_at"w";refine⟨l,_,k,.int (ns.getD k.toNat 0),rfl,rfl,hl,?_,?_⟩
   ·have hk':k.toNat<ns.length:=by lia
    have:=zc (xs:=ns.map V.int) (j:=k.toNat) (v:=.int (ns.getD k.toNat 0)) (by simp[hk'])
    rwa [bT hk]at this
   ·walk_at"w";rw[cellAt,if_pos e']at q;exact q
  ·have e':=of_decide_eq_false e;rw[aa]at e';rw[cellAt,if_neg e']at q;exact q
theorem xeS(T:Txt K mg a):xv P w K mg base CX0 1 a.q2p a.xcJ ["value"] xkA:=by
 refine T.q1W.ok xeO (fun vs H Q E h=>?_) (fun cdv A outer s H vs Q E hr h=>?_)
 ·obtain⟨i,rfl,_⟩:=h;rfl
 ·obtain⟨i,rfl,q⟩:=h;have nd:=xeO.nd;refine⟨_,(xi (xq (ua (xu zG (by rfl) T.q0q ye (xa (cv 0) (xa (xb4 (v:=.ty "int") (by rfl) T.q4K xrb rfl) xc))) (um (xq2 (xu zG (by rfl) T.q0q ye (xa (cv 0) (xa (xb4 (v:=.ty "bool") (by rfl) T.q4q xpE rfl) xc)))))))),?_⟩;walk_at"w";refine⟨_,_,_,_,true,rfl,rfl,zF.int _,rfl,?_⟩;walk_at"w";refine⟨fun _=>?_,by walk_at"no"⟩;walk_at"w";refine⟨_,_,_,_,false,rfl,rfl,zF.int _,rfl,?_⟩;exact q
theorem zk(T:Txt K mg a):xv P w K mg base CX0 2 a.q0V a.vV ["least","value"] xfq:=by
 refine T.q0m.ok xbb (fun vs H Q E h=>?_) (fun cdv A outer s H vs Q E hr h=>?_)
 ·obtain⟨l,i,rfl,_⟩:=h;rfl
 ·obtain⟨l,i,rfl,q⟩:=h;have nd:=xbb.nd;refine⟨_,(xi (xq (ua (xr (xeS T) (hr.mono (by decide)) (by rfl) T.xfZ T.q1W.kp T.xfY .nil xo (xa (cv 1) xc)) (um (zN xlz (cv 1) (cv 0)))))),?_⟩;walk_at"w";refine⟨i,rfl,?_⟩;walk_at"w";exact⟨fun _=>q,by walk_at"no"⟩
theorem xmf(T:Txt K mg a):xv P w K mg base CX0 2 a.q2C a.xdy ["value"] xl8:=by
 refine T.q2I.ok xgb (fun vs H Q E h=>?_) (fun cdv A outer s H vs Q E hr h=>?_)
 ·obtain⟨i,rfl,_⟩:=h;rfl
 ·obtain⟨i,rfl,hi,q⟩:=h;have nd:=xgb.nd;refine⟨_,(xi (xq (ua (xr (xeS T) (hr.mono (by decide)) (by rfl) T.xfZ T.q1W.kp T.xfY .nil xo (xa (cv 0) xc)) (um (zN xaA (xu xr1 (by rfl) T.q4H xq7 (xa (cv 0) xc)) (xn xix xh xh)))))),?_⟩;walk_at"w";refine⟨i,rfl,?_⟩;walk_at"w";refine⟨fun _=>?_,by walk_at"no"⟩;walk_at"w";refine⟨⟨by decide,by decide,by decide⟩,?_⟩;walk_at"w";show Q (.bl (decide ((i.natAbs:Int)<10^(60:Int).toNat))) H;have e:decide ((i.natAbs:Int)<10^(60:Int).toNat)=true:=decide_eq_true hi;rw[e];exact q
theorem xjz(T:Txt K mg a):xv P w K mg base CX0 3 a.q10 a.xbT ["signs"] (xjq K):=by
 refine T.q16.ok xdN (fun vs H Q E h=>?_) (fun cdv A outer s H vs Q E hr h=>?_)
 ·obtain⟨u,sg,rfl,_⟩:=h;rfl
 ·obtain⟨u,sg,rfl,hu,hne,hlen,hs,q⟩:=h;have nd:=xdN.nd;refine⟨_,(xi (xq (ua (xu zG (by rfl) T.q0q ye (xa (cv 0) (xa (xb4 (v:=.ty "tuple") (by rfl) T.q25 jm rfl) xc))) (ua (zN xgO (xu xw (by rfl) T.q0k xP (xa (cv 0) xc)) xh) (um (xu (xm5 rfl) (by rfl) T.q4I xra (xa (yk (yt (cap:=[]) (ys:=[]) rfl rfl rfl rfl rfl trivial (by decide+kernel)) rfl (xb5 (cv 0)) (fun _ _ _ _=>(xr (xmf T) (hr.mono (by decide)) (by rfl) T.xnq T.q2I.kp T.xnp .nil xo (xa (cv 0) xc))) (fun _ _ _ _=>yp)) xc))))))),?_⟩;walk_at"w";refine⟨_,_,_,_,true,rfl,rfl,zF.tup hu,rfl,?_⟩;walk_at"w";refine⟨fun _=>?_,by walk_at"no"⟩;walk_at"w";refine⟨u,_,rfl,.inr (SqT.of hu),?_⟩;walk_at"w";have hpos:0<sg.length:=cF.mpr hne;refine⟨fun _=>?_,fun z=>by have:=of_decide_eq_false z;rw[aa]at this;lia⟩;walk_at"w";refine⟨u,rfl,⟨_,SqT.of hu⟩,?_⟩;refine xdp (fun i acc _=>acc=bu i (V.bl true)) (SqT.of hu) (by rw[aa,av];lia) rfl (fun i x acc H3 H3' hx s3 s3' hp R hR=>?_) (fun D acc H3 H3' hD hD3 s3 s3' hp hl hv=>?_)
  ·rw[ak]at hx;cases hy:sg[i]? with
   |none=>rw[hy]at hx;cases hx
   |some y=>
    rw[hy]at hx;cases hx;walk_at"w";refine⟨y,rfl,hs y (az hy),hR _ _ (xb.refl _) fun H6 _ _=>?_⟩;rw[hp,List.replicate_succ']
  ·walk_at"w";refine⟨D,bu sg.length true,rfl,SqL.of ?_,?_⟩
   ·rw[hv,hp,aa,g8]
   ·walk_at"w";show Q (.bl ((bu sg.length true).all id)) H3';have e:(bu sg.length true).all id=true:=by simp
    rw[e];exact q _ (s3.trans s3')
theorem xim(T:Txt K mg a):xv P w K mg base CX0 3 a.q1D a.xaY ["told"] (xid K):=by
 refine T.q1I.ok xc0 (fun vs H Q E h=>?_) (fun cdv A outer s H vs Q E hr h=>?_)
 ·obtain⟨t,r,rfl,_⟩:=h;rfl
 ·obtain⟨t,r,rfl,ht,hk,q⟩:=h;have nd:=xc0.nd;refine⟨_,(xg (xM (PW.pt (xed (xaz (yz (xu zG (by rfl) T.q0q ye (xa (cv 0) (xa (xb4 (v:=.ty "tuple") (by rfl) T.q25 jm rfl) xc))))) (xed (xJ xiz (xu xw (by rfl) T.q0k xP (xa (cv 0) xc)) xh) (xfC (xJ xpc (xB xE (cv 0) xh (fun _ _=>rfl)) xdb))))) (xi (xq jz)) xF)
  (xi (xq (ua (xr (zk T) (hr.mono (by decide)) (by rfl) T.zB T.q0m.kp T.zA .nil xo (xa xh (xa (xB xE (cv 0) xh (fun _ _=>rfl)) xc))) (ua (xr (zk T) (hr.mono (by decide)) (by rfl) T.zB T.q0m.kp T.zA .nil xo (xa xh (xa (xB xE (cv 0) xh (fun _ _=>rfl)) xc))) (um (xr (zk T) (hr.mono (by decide)) (by rfl) T.zB T.q0m.kp T.zA .nil xo (xa xh (xa (xB xE (cv 0) xh (fun _ _=>rfl)) xc))))))))),?_⟩
  cases r with
  |put to sg=>
   obtain⟨u,h1,h2⟩:=ht;walk_at"w";refine⟨_,_,_,_,true,rfl,rfl,zF.tup h1,rfl,?_⟩;walk_at"w";refine⟨by walk_at"no",fun _=>?_⟩;walk_at"w";refine⟨t,_,rfl,.inr (SqT.of h1),?_⟩;walk_at"w";refine⟨fun _=>?_,by walk_at"no"⟩;walk_at"w";exact⟨fun _=>q,by walk_at"no"⟩
  |take to st c=>
   walk_at"w";refine⟨_,_,_,_,true,rfl,rfl,zF.tup ht,rfl,?_⟩;walk_at"w";refine⟨by walk_at"no",fun _=>?_⟩;walk_at"w";refine⟨t,_,rfl,.inr (SqT.of ht),?_⟩;walk_at"w";refine⟨by walk_at"no",fun _=>?_⟩;walk_at"w";refine⟨t,_,_,.str "take",rfl,rfl,SqT.of ht,rfl,?_⟩;walk_at"w";refine⟨by walk_at"no",fun _=>?_⟩;walk_at"w";obtain⟨k1,k2,k3⟩:=hk;refine⟨t,_,_,.int to,rfl,rfl,SqT.of ht,rfl,?_⟩;walk_at"w";refine⟨_,_,rfl,?_⟩;walk_at"w";refine⟨fun _=>?_,fun z=>absurd k1 (of_decide_eq_false z)⟩;walk_at"w";refine⟨t,_,_,.int st,rfl,rfl,SqT.of ht,rfl,?_⟩;walk_at"w";refine⟨_,_,rfl,?_⟩;walk_at"w";refine⟨fun _=>?_,fun z=>absurd k2 (of_decide_eq_false z)⟩;walk_at"w";refine⟨t,_,_,.int c,rfl,rfl,SqT.of ht,rfl,?_⟩;walk_at"w";refine⟨_,_,rfl,?_⟩;walk_at"w";rw[decide_eq_true k3];exact q
theorem xjA(T:Txt K mg a):xv P w K mg base CX0 4 a.q1Z a.xbS ["told"] (xjr K):=by
 refine T.q15.ok xdM (fun vs H Q E h=>?_) (fun cdv A outer s H vs Q E hr h=>?_)
 ·obtain⟨t,to,sg,rfl,_⟩:=h;rfl
 ·obtain⟨t,to,sg,rfl,⟨u,h1,h2⟩,⟨k1,k2,k3,k4⟩,q⟩:=h;have nd:=xdM.nd;refine⟨_,(xg (xM (PW.pt (xed (xaz (yz (xu zG (by rfl) T.q0q ye (xa (cv 0) (xa (xb4 (v:=.ty "tuple") (by rfl) T.q25 jm rfl) xc))))) (xed (xJ xiz (xu xw (by rfl) T.q0k xP (xa (cv 0) xc)) xh) (xfC (xJ xpc (xB xE (cv 0) xh (fun _ _=>rfl)) xdb))))) (xi (xq jz)) xF)
  (xi (xq (ua (xr (zk T) (hr.mono (by decide)) (by rfl) T.zB T.q0m.kp T.zA .nil xo (xa xh (xa (xB xE (cv 0) xh (fun _ _=>rfl)) xc))) (um (xr (xjz T) (hr.mono (by decide)) (by rfl) T.xkq T.q16.kp T.xkp .nil xo (xa (xB xE (cv 0) xh (fun _ _=>rfl)) xc))))))),?_⟩
  walk_at"w";refine⟨_,_,_,_,true,rfl,rfl,zF.tup h1,rfl,?_⟩;walk_at"w";refine⟨by walk_at"no",fun _=>?_⟩;walk_at"w";refine⟨t,_,rfl,.inr (SqT.of h1),?_⟩;walk_at"w";refine⟨by walk_at"no",fun _=>?_⟩;walk_at"w";refine⟨t,_,_,.str "put",rfl,rfl,SqT.of h1,rfl,?_⟩;walk_at"w";refine⟨by walk_at"no",fun _=>?_⟩;walk_at"w";refine⟨t,_,_,.int to,rfl,rfl,SqT.of h1,rfl,?_⟩;walk_at"w";refine⟨_,_,rfl,?_⟩;walk_at"w";refine⟨fun _=>?_,fun z=>absurd k1 (of_decide_eq_false z)⟩;walk_at"w";refine⟨t,_,_,.ref u,rfl,rfl,SqT.of h1,rfl,?_⟩;walk_at"w";exact⟨u,sg,rfl,h2,k2,k3,k4,q⟩
theorem zE(T:Txt K mg a):xv P w K mg base CX0 5 a.q2Z a.xfh ["told"] (jO K a):=by
 refine T.q0N.ok xhP (fun vs H Q E h=>?_) (fun cdv A outer s H vs Q E hr h=>?_)
 ·obtain⟨t,r,rfl,_⟩:=h;rfl
 ·obtain⟨t,r,rfl,ht,hk,q⟩:=h;have nd:=xhP.nd;refine⟨_,(xg (xM (yz (xr (xim T) (hr.mono (by decide)) (by rfl) T.xi8 T.q1I.kp T.xi7 .nil xo (xa (cv 0) xc))) (xi (xq (vy T.q3P (xdT T) (hr.mono (by decide)) (by rfl) T.xa8 T.xeH .nil xo (xa (xB xE (cv 0) xh (fun _ _=>rfl)) (xa (xB xE (cv 0) xh (fun _ _=>rfl)) (xa (xB xE (cv 0) xh (fun _ _=>rfl)) xc)))))) xF)
  (xg (xM (yz (xr (xjA T) (hr.mono (by decide)) (by rfl) T.xko T.q15.kp T.xkn .nil xo (xa (cv 0) xc))) (xi (xq (vy T.q3G (uX T) (hr.mono (by decide)) (by rfl) T.xf7 T.xan .nil xo (xa (xB xE (cv 0) xh (fun _ _=>rfl)) (xa (xB xE (cv 0) xh (fun _ _=>rfl)) xc))))) xF)
  (xi xat))),?_⟩
  walk_at"w";refine⟨t,r,rfl,ht,hk,?_⟩;cases r with
  |take to st c=>
   walk_at"w";refine⟨fun _=>?_,by walk_at"no"⟩;walk_at"w";refine⟨t,_,_,.int to,rfl,rfl,SqT.of ht,rfl,?_⟩;walk_at"w";refine⟨t,_,_,.int st,rfl,rfl,SqT.of ht,rfl,?_⟩;walk_at"w";refine⟨t,_,_,.int c,rfl,rfl,SqT.of ht,rfl,?_⟩;walk_at"w";intro x dx hx hdx hne;generalize hU:upd H dx (.own x)=H3;have sH3:=xb.of_eq hdx hU;have hx3:H3 x=none:=by rw[←hU,xl (a8 hne)];exact hx
   refine⟨x,dx,_,_,_,rfl,xk,?_⟩;rw[zm];walk_at"w";exact⟨rfl,q x _ (sH3.trans (xb.new hx3)) hx ⟨dx,xk⟩⟩
  |put to sg=>
   walk_at"w";refine⟨by walk_at"no",fun _=>?_⟩;walk_at"w";refine⟨t,to,sg,rfl,ht,hk,fun H2 s2=>?_⟩;walk_at"w";obtain⟨u,h1,h2⟩:=ht;refine⟨fun _=>?_,by walk_at"no"⟩;walk_at"w";refine⟨t,_,_,.int to,rfl,rfl,SqT.of (s2.at h1),rfl,?_⟩;walk_at"w";refine⟨t,_,_,.ref u,rfl,rfl,SqT.of (s2.at h1),rfl,?_⟩;walk_at"w";intro x dx hx hdx hne;generalize hU:upd H2 dx (.own x)=H3;have sH3:=xb.of_eq hdx hU;have hx3:H3 x=none:=by rw[←hU,xl (a8 hne)];exact hx
   refine⟨x,dx,u,_,_,rfl,xk,(sH3.trans (xb.new hx3)).seqT (SqT.of (s2.at h2)),?_⟩;rw[zm];walk_at"w";refine⟨rfl,q x _ (s2.trans (sH3.trans (xb.new hx3))) (s2.back hx) ⟨dx,u,?_,(s2.trans (sH3.trans (xb.new hx3))).at h2⟩⟩;rw[xk,aa]
theorem xin(T:Txt K mg a):xv P w K mg base CX0 2 a.q1l a.xaX ["self"] (xcR a):=by
 refine T.q2g.ok xcZ (fun vs H Q E h=>?_) (fun cdv A outer s H vs Q E hr h=>?_)
 ·obtain⟨p,dx,t,to,n,rfl,_⟩:=h;rfl
 ·obtain⟨p,dx,t,to,n,rfl,hp,hn,k⟩:=h;have nd:=xcZ.nd;refine⟨_,(xi (xq (yh (xa (xD (cv 0) T.q0g T.q1h (yl T) (hr.mono (by decide)) T.yx .nil xo) xc)))),?_⟩;walk_at"w";refine⟨p,dx,_,rfl,hp,rfl,?_⟩;walk_at"w";refine⟨p,_,dx,_,to,n,rfl,hp,T.q0g,T.q0x,T.q0p,rfl,rfl,by lia,fun l H1 s1 hl e1=>?_⟩;walk_at"w";walk_at"ss";intro D hD;have hD0:=s1.back hD;refine k D [l] _ (s1.put hD0) ⟨xk,?_,rfl,fun i b xs h1 h2=>?_,hD0,fun b hb=>?_⟩
  ·have:D≠l:=fun z=>by rw[z,e1]at hD;cases hD
   simpa using this
  ·cases i with
   |zero=>
    simp at h1 h2;subst h1 h2;rw[xl (xA e1 hD)];exact e1
   |succ i=>simp at h1
  ·rw[ax.mp hb];exact hl
theorem xhk(T:Txt K mg a):xv P w K mg base CX0 2 a.q08 a.jZ ["self"] (xcQ a):=by
 refine T.q1P.ok xcg (fun vs H Q E h=>?_) (fun cdv A outer s H vs Q E hr h=>?_)
 ·obtain⟨p,dx,to,st,c,rfl,_⟩:=h;rfl
 ·obtain⟨p,dx,to,st,c,rfl,hp,hc1,hc2,hd,k⟩:=h;have nd:=xcg.nd;refine⟨_,(xg (xM (yz (xD (cv 0) T.q0b T.q1s (ub T) (hr.mono (by decide)) T.uA .nil xo)) (xi (xq (yh xc))) xF)
  (xg (xt (i:=1) nd rfl (dW rfl) (xx (cv 0) rfl))
  (xg (xt (i:=2) nd rfl (dW rfl) (xn xK (xx (cv 0) rfl) (xx (cv 0) rfl)))
  (xg (xM (xJ xaA (xx (cv 0) rfl) (xx (cv 0) rfl)) (xg (xt (i:=3) nd rfl (dW rfl) (xn uj (xx (cv 0) rfl) (xx (cv 0) rfl)))
  (xi (xq (yk (yt (cap:=[2,3]) (ys:=["end","step"]) rfl rfl rfl rfl rfl ⟨⟨rfl,rfl,.inl rfl⟩,⟨⟨rfl,rfl,.inl rfl⟩,trivial⟩⟩ (by decide+kernel)) rfl (xhE (by rfl) T.q06 (xa (cv 1) (xa (cv 2) (xa (cv 3) xc)))) (fun _ _ _ _=>(yb (uY rfl) (by rfl) T.q1t yT (xa (xbn (by rfl) T.q06 (xa (cv 0) (xa (xu (xm0 rfl) (by rfl) T.q3C xb8 (xa (xn xK (cv 0) (cv 2)) (xa (cv 1) xc))) xc))) xc))) (fun _ _ _ _=>yp))))) xF)
  (xg (xt (i:=3) nd rfl (dW rfl) (xn uj (xx (cv 0) rfl) (xx (cv 0) rfl)))
  (xi (xq (yk (yt (cap:=[1,3]) (ys:=["first","step"]) rfl rfl rfl rfl rfl ⟨⟨rfl,rfl,.inl rfl⟩,⟨⟨rfl,rfl,.inl rfl⟩,trivial⟩⟩ (by decide+kernel)) rfl (xhE (by rfl) T.q06 (xa (cv 2) (xa (cv 1) (xa (xo5 xpd (cv 3)) xc)))) (fun _ _ _ _=>(yb (uY rfl) (by rfl) T.q1t yT (xa (xbn (by rfl) T.q06 (xa (xu (xdj rfl) (by rfl) T.q3u xb7 (xa (xn uj (cv 0) (cv 2)) (xa (cv 1) xc))) (xa (cv 0) xc))) xc))) (fun _ _ _ _=>yp))))))))),?_⟩
  walk_at"w";refine⟨p,dx,_,rfl,hp,rfl,?_⟩;walk_at"w";refine⟨p,dx,to,st,c,rfl,hp,?_⟩;walk_at"w";refine⟨fun e=>?_,fun e=>?_⟩
  ·have e':st=to:=of_decide_eq_true e;walk_at"w";walk_at"ss";intro l hl;refine k l [] _ (xb.new hl) ?_;rw[yC,if_pos e'];exact yV.nil (H':=H) hl xk
  ·have e':¬st=to:=of_decide_eq_false e;walk_at"w";refine⟨p,_,dx,_,.int to,rfl,hp,T.q0b,T.q0i,rfl,?_⟩;walk_at"w";refine⟨p,_,dx,_,.int to,rfl,hp,T.q0b,T.q0i,rfl,?_⟩;walk_at"w";refine⟨p,_,dx,_,.int c,rfl,hp,T.q0b,T.q0f,rfl,?_⟩;walk_at"w";refine⟨p,_,dx,_,.int to,rfl,hp,T.q0b,T.q0i,rfl,?_⟩;walk_at"w";refine⟨p,_,dx,_,.int st,rfl,hp,T.q0b,T.q0e,rfl,?_⟩;walk_at"w";refine⟨fun e2=>?_,fun e2=>?_⟩
   ·have e3:to<st:=of_decide_eq_true e2;walk_at"w";refine⟨p,_,dx,_,.int st,rfl,hp,T.q0b,T.q0e,rfl,?_⟩;walk_at"w";refine⟨p,_,dx,_,.int to,rfl,hp,T.q0b,T.q0i,rfl,?_⟩;walk_at"w";refine cS (xnC (by lia) hd) ?_;walk_at"w";obtain⟨d,hdd⟩:∃d:Nat,st - to=(d:Int):=⟨(st - to).toNat,by lia⟩;have hd0:0<d:=by lia
    rw[hdd,xqb to c d hc1 hd0];refine xct (uch to d c.toNat) (a7 ?_ (show 1000≤aL by decide)) (fun i H3 hi s3 R hR=>?_) (fun D H2 as s2 L=>?_)
    ·have:=xek (uch to d) d c.toNat hd0;unfold chs at this;rw[aa,cR]at this;lia
    ·walk_at"w";intro r hr;generalize hUr:upd H3 r _=H4;have sH4:=xb.of_eq hr hUr;have er:=xm hUr;clear hUr;walk_at"w";have ep:(i:Int)*(d:Int)=((i*d:Nat):Int):=by rw[Int.natCast_mul]
     have el:yG (to+((i*d:Nat):Int)) (min (to+((i*d:Nat):Int)+(st - to)) (to+c)) 1=min d (c.toNat - i*d):=by
      rw[zh];generalize i*d=q;lia
     rw[ep]at er;refine⟨r,_,_,rfl,er,by rw[el];lia,fun l hl=>?_⟩;rw[el,xei];exact hR l _ (sH4.put (sH4.back hl)) (sH4.back hl) xk
    ·refine k D as H2 s2 ?_;rw[yC,if_neg e',if_pos e3,hdd];exact L
   ·have e3:¬to<st:=of_decide_eq_false e2;walk_at"w";refine⟨p,_,dx,_,.int to,rfl,hp,T.q0b,T.q0i,rfl,?_⟩;walk_at"w";refine⟨p,_,dx,_,.int st,rfl,hp,T.q0b,T.q0e,rfl,?_⟩;walk_at"w";refine cS (xnC (by lia) (by lia)) ?_;walk_at"w";obtain⟨d,hdd⟩:∃d:Nat,to - st=(d:Int):=⟨(to - st).toNat,by lia⟩;have hd0:0<d:=by lia
    rw[hdd,xnD to c d hc1 hd0];refine xct (dch (to+c) d c.toNat) (a7 ?_ (show 1000≤aL by decide)) (fun i H3 hi s3 R hR=>?_) (fun D H2 as s2 L=>?_)
    ·have:=xek (dch (to+c) d) d c.toNat hd0;unfold chs at this;rw[aa,cR]at this;lia
    ·walk_at"w";intro r hr;generalize hUr:upd H3 r _=H4;have sH4:=xb.of_eq hr hUr;have er:=xm hUr;clear hUr;walk_at"w";have ep:(i:Int)* -(d:Int)= -((i*d:Nat):Int):=by rw[Int.mul_neg,Int.natCast_mul]
     have hid:i*d≤c.toNat:=xoA hd0 hi;have el:yG (max (to+c+ -((i*d:Nat):Int) - (to - st)) to) (to+c+ -((i*d:Nat):Int)) 1=min d (c.toNat - i*d):=by
      rw[zh];generalize i*d=q at hid;lia
     rw[ep]at er;refine⟨r,_,_,rfl,er,by rw[el];lia,fun l hl=>?_⟩;rw[el,xei];refine hR l _ (sH4.put (sH4.back hl)) (sH4.back hl) ?_;rw[xk];unfold dch;have e5:max (to+c+ -((i*d:Nat):Int) - (to - st)) to=to+c - ((min ((i+1)*d) c.toNat:Nat):Int):=by
      rw[fN];generalize i*d=q at hid;lia
     rw[e5]
    ·refine k D as H2 s2 ?_;rw[yC,if_neg e',if_neg e3,hdd];exact L
def Sm:xf→Prop
 | .take to st c=>to≤100∧st≤100∧c≤60
 | .put to sg=>to≤100∧sg.length≤60
theorem TupAt.off{K:ah}{H:Hp}{t p:Addr}{r:xf}{xs:List V}{o:HO}(h:TupAt K H t r)(hp:H p=some (.lst xs)):TupAt K (upd H p o) t r:=by
 have ne:∀{q:Addr} {ys:List V},H q=some (.tup ys)→upd H p o q=some (.tup ys):=fun{q ys} e=>by
  rw[xl (fun z=>by rw[z,hp]at e;cases e)];exact e
 cases r with
 |take to st c=>exact ne h
 |put to sg=>obtain⟨u,h1,h2⟩:=h;exact⟨u,ne h1,ne h2⟩
theorem yv{α β:Type}{F:α→β→Prop}{x:α}{y:β}:∀{l₁:List α} {l₂:List β},Paired F l₁ l₂→F x y→Paired F (l₁++[x]) (l₂++[y])
 |_,_,.nil,h=>.cons h .nil
 |_,_,.cons r t,h=>.cons r (yv t h)
def xdU(old new:Int):xf→Prop
 | .take to st c=>st+c≤old∧to+c≤new
 | .put to sg=>to+sg.length≤new
theorem Paired.nth{α β:Type}{F:α→β→Prop}:∀{l₁:List α} {l₂:List β} {i:Nat} {x:α},Paired F l₁ l₂→l₁[i]? =some x→∃y,l₂[i]? =some y∧F x y
 |_,_,_,_,.nil,e=>by simp at e
 |_,_,0,_,.cons r _,e=>by simp at e;subst e;exact⟨_,rfl,r⟩
 |_,_,i+1,_,.cons _ t,e=>by
  obtain⟨y,h1,h2⟩:=Paired.nth (i:=i) t (by simpa using e);exact⟨y,by simpa using h1,h2⟩
theorem Paired.mem{α β:Type}{F:α→β→Prop}{l₁:List α}{l₂:List β}{x:α}(h:Paired F l₁ l₂)(hx:x∈l₁):∃y∈l₂,F x y:=by
 obtain⟨i,hi⟩:=bS.mp hx;obtain⟨y,h1,h2⟩:=Paired.nth h hi;exact⟨y,az h1,h2⟩
theorem Paired.mem2{α β:Type}{F:α→β→Prop}:∀{l₁:List α} {l₂:List β} {y:β},Paired F l₁ l₂→y∈l₂→∃x∈l₁,F x y
 |_,_,_,.cons h t,m=>by
  rcases ao.mp m with rfl|m
  ·exact⟨_,aK,h⟩
  ·obtain⟨x,h1,h2⟩:=Paired.mem2 t m;exact⟨x,aC _ h1,h2⟩
def GT(K:ah)(H:Hp)(u:Addr)(r:xf):Prop:=TupAt K H u r∧r.ok∧Sm r
def uf:xf→List (List Int)
 | .take to st c=>yC to st c
 | .put to sg=>[xX to sg.length]
theorem xkD{r:xf}(hk:r.ok)(hs:Sm r):(uf r).length≤60:=by
 cases r with
 |take to st c=>
  obtain⟨k1,k2,k3⟩:=hk;obtain⟨s1,s2,s3⟩:=hs;show(yC to st c).length≤60;unfold yC
  split
  ·simp
  ·split
   ·have:=xek (uch to (st - to).toNat) (st - to).toNat c.toNat (by lia);lia
   ·have:=xek (dch (to+c) (to - st).toNat) (to - st).toNat c.toNat (by lia);lia
 |put to sg=>show 1≤60;lia
def zd(K:ah)(H0:Hp)(tl:Addr)(G:Hp)(u:Addr)(x:xf×List Int):Prop:=∃t c:Addr,(c≠tl∧H0 c=none)∧G u=some (.tup [.ref t,.ref c])∧TupAt K G t x.1∧G c=some (.lst (x.2.map V.int))
theorem zd.same{H0:Hp}{tl:Addr}{G G':Hp}{u:Addr}{x:xf×List Int}(h:zd K H0 tl G u x)(s:xb G G'):zd K H0 tl G' u x:=by
 obtain⟨t,c,h1,h2,h3,h4⟩:=h;exact⟨t,c,h1,s.at h2,h3.same s,s.at h4⟩
theorem zd.off{H0:Hp}{tl:Addr}{G:Hp}{u:Addr}{x:xf×List Int}{xs:List V}{o:HO}(h:zd K H0 tl G u x)(hp:G tl=some (.lst xs)):zd K H0 tl (upd G tl o) u x:=by
 obtain⟨t,c,h1,h2,h3,h4⟩:=h;exact⟨t,c,h1,by rw[xl (fun z=>by rw[z,hp]at h2;cases h2)];exact h2,h3.off hp,by rw[xl h1.1];exact h4⟩
def zl(rs:List xf):List (xf×List Int):=rs.flatMap fun r=>(uf r).map fun c=>(r,c)
theorem xc9{α β:Type}{F:α→β→Prop}:∀{l₁ l₃:List α} {l₂ l₄:List β},Paired F l₁ l₂→Paired F l₃ l₄→Paired F (l₁++l₃) (l₂++l₄)
 |_,_,_,_,.nil,h=>h
 |_,_,_,_,.cons r t,h=>.cons r (xc9 t h)
def xjB(K:ah):Sp:=fun vs H Q _=>∃(p tt:Addr) (o n:V) (us:List Addr) (rs:List xf),vs=[.ref p]∧H p=some (.tup [o,n,.ref tt])∧H tt=some (.tup (us.map V.ref))∧Paired (GT K H) us rs∧us.length≤60∧
 ∀(l:Addr) (ws:List Addr) (H':Hp),xb H H'→H l=none→H' l=some (.lst (ws.map V.ref))→Paired (zd K H l H') ws (zl rs)→Q (.ref l) H'
theorem GT.same{H H':Hp}{u:Addr}{r:xf}(h:GT K H u r)(s:xb H H'):GT K H' u r:=⟨h.1.same s,h.2⟩
theorem xjC{H0:Hp}{tl:Addr}{L0 L G:Hp}{l t:Addr}{as:List Addr}{xss:List (List Int)}{r:xf}(s0:xb H0 L0)(hL:yV L0 L l as xss)(sL:xb L G)(hT:TupAt K G t r)(htl:L0 tl≠none):∀{ws:List Addr} {i:Nat},Paired (fun w a=>G w=some (.tup [.ref t,.ref a])) ws (as.drop i)→Paired (zd K H0 tl G) ws ((xss.drop i).map fun c=>(r,c))
 |ws,i,h=>by
  have hlen:=hL.len
  by_cases hi:i<as.length
  ·have e1:as.drop i=as[i]::as.drop (i+1):=bU hi;have hi2:i<xss.length:=by lia
   have e2:xss.drop i=xss[i]::xss.drop (i+1):=bU hi2;rw[e1]at h;rw[e2,bg];cases h with
   |cons h1 h2=>
    have hfr:=hL.frs _ (cM hi);refine .cons ⟨t,as[i],⟨fun z=>htl (by rw[←z];exact hfr),s0.back hfr⟩,h1,hT,sL.at (hL.each i _ _ (ag hi) (ag hi2))⟩ (xjC s0 hL sL hT htl h2)
  ·rw[cQ (by lia)]at h;rw[cQ (by lia)];cases h;exact .nil
 termination_by _ i=>as.length - i
theorem xmg(T:Txt K mg a){H:Hp}{t:Addr}{r:xf}{Q:VK}{σ:L2.St}{i:Nat}(hT:GT K H t r)
  (k:∀l as H1 H2,xb H H1→xb H1 H2→yV H1 H2 l as (uf r)→Q (.ref l) H2) (hσ:σ[i]? =some (some (.ref t)):=by rfl):
  yo a.q0c "pieces" (xcR a) [] E0 (xeb (jO K a) [] E0 (xfF (yE i) ug)) ug σ H Q∨yo a.q0a "pieces" (xcQ a) [] E0 (xeb (jO K a) [] E0 (xfF (yE i) ug)) ug σ H Q:=by
 obtain⟨hT,hk,hs⟩:=hT;have go:∀{R:VK},jO K a [.ref t] H R E0→xeb (jO K a) [] E0 (xfF (yE i) ug) σ H R:=fun h=>by
  unfold xeb xfF ug yE;rw[hσ];exact h
 cases r with
 |put to sg=>
  left
  unfold yo;refine go ⟨t,_,rfl,hT,hk,fun o H1 s1 ho hob=>?_⟩;obtain⟨dx,u,h1,h2⟩:=hob;have h9:sg.length≤60:=hs.2;refine⟨o,dx,_,rfl,h1,rfl,?_⟩;show xcR a [.ref o] H1 Q E0;refine⟨o,dx,u,to,sg.length,rfl,h1,by lia,fun l as H2 s2 L=>k l as H1 H2 s1 s2 ?_⟩;rw[show((sg.length:Int)).toNat=sg.length by lia]at L;exact L
 |take to st c=>
  right
  unfold yo;refine go ⟨t,_,rfl,hT,hk,fun o H1 s1 ho hob=>?_⟩;obtain⟨dx,h1⟩:=hob;obtain⟨k1,k2,k3⟩:=hk;obtain⟨s1',s2',s3'⟩:=hs;refine⟨o,dx,_,rfl,h1,rfl,?_⟩;show xcQ a [.ref o] H1 Q E0;have hb:(st - to).natAbs<2^200:=dH (show(st - to).natAbs≤1000 by lia) (by decide);exact⟨o,dx,to,st,c,rfl,h1,k3,by lia,hb,fun l as H2 s2 L=>k l as H1 H2 s1 s2 L⟩
theorem xjD(T:Txt K mg a):xv P w K mg base CX0 6 a.q12 a.xbV ["paper"] (xjB K):=by
 refine T.q18.ok xdP (fun vs H Q E h=>?_) (fun cdv A outer s H vs Q E hr h=>?_)
 ·obtain⟨p,tt,o,n,us,rs,rfl,_⟩:=h;rfl
 ·obtain⟨p,tt,o,n,us,rs,rfl,hp,ht,hus,hul,q⟩:=h;have nd:=xdP.nd;refine⟨_,(xg (xt (i:=1) nd rfl (aD rfl) (yh xc))
  (xg (ym aV rfl (xb5 (xB xE (cv 0) xh (fun _ _=>rfl))) (xG (i:=2) nd rfl (dW rfl)) (xi (xN (zt PySem.F.plainAttrs_list PySem.F.slot_list_extend PySem.F.type_list_extend xdf (cv 1) (xa (yk (yt (cap:=[2]) (ys:=["told"]) rfl rfl rfl rfl rfl ⟨⟨rfl,rfl,.inl rfl⟩,trivial⟩ (by decide+kernel)) rfl (xR (uq (xD (xr (zE T) (hr.mono (by decide)) (by rfl) T.zZ T.q0N.kp T.zY .nil xo (xa (cv 2) xc)) T.q0g T.q3p (xin T) (hr.mono (by decide)) T.xi6 .nil xo) (xD (xr (zE T) (hr.mono (by decide)) (by rfl) T.zZ T.q0N.kp T.zY .nil xo (xa (cv 2) xc)) T.q0b T.q3j (xhk T) (hr.mono (by decide)) T.xia .nil xo))) (fun _ _ _ _=>(yX (xa (cv 1) (xa (cv 0) xc)))) (fun _ _ _ _=>yp)) xc)))))
  (xi (xq (cv 1))))),?_⟩
  walk_at"w";walk_at"ss";intro pl hpl;generalize hUpl:upd H pl _=H1;have sH1:=xb.of_eq hpl hUpl;have epl:=xm hUpl;clear hUpl;walk_at"w";refine⟨p,_,_,.ref tt,rfl,rfl,SqT.of (sH1.at hp),rfl,?_⟩;walk_at"w";refine⟨tt,rfl,⟨_,SqT.of (sH1.at ht)⟩,?_⟩;walk_at"w";refine xdl (xs:=us.map V.ref) (fun i σ G=>xb H G∧∃(ws:List Addr) (x2:Option V),σ=[some (.ref p),some (.ref pl),x2]∧G pl=some (.lst (ws.map V.ref))∧Paired (zd K H pl G) ws (zl (rs.take i))∧ws.length≤60*i)
   ⟨sH1,[],_,rfl,epl,.nil,by simp⟩ (fun i σ G hi hP=>SqT.of (hP.1.at ht)) (fun i x σ G hx hP=>?_) (fun σ G hP=>?_)
  ·obtain⟨sG,ws,x2,rfl,epl',hws,hwl⟩:=hP;rw[ak]at hx;obtain⟨t,ht',rfl⟩:=aQ.mp hx;have hi:i<us.length:=(au.mp ht').1;obtain⟨r,hr',hT⟩:=Paired.nth hus ht';have hTG:=hT.same sG;walk_at"w";refine⟨.inl ⟨rfl,_,SqL.of epl'⟩,?_⟩;walk_at"w";have hplen:=xkD hT.2.1 hT.2.2;refine xmg (K:=K) T hTG fun L as G1 G2 s1 s2 hL=>?_;walk_at"w";refine⟨L,rfl,⟨_,SqL.of hL.top⟩,?_⟩;have hal:as.length=(uf r).length:=hL.len;refine vJ (fun i acc G=>∃ws2:List Addr,acc=ws2.map V.ref∧Paired (fun w a=>G w=some (.tup [.ref t,.ref a])) ws2 (as.take i)) (SqL.of hL.top) (by rw[aa,av];lia) ⟨[],rfl,by rw[kb];exact .nil⟩ (fun j x acc H3 H3' hx s3 s3' hP R hR=>?_) (fun D acc H9 H9' hD hD3 s9 s9' hP hl9 hv=>?_)
   ·obtain⟨ws2,rfl,hws2⟩:=hP;rw[ak]at hx;obtain⟨c,hc,rfl⟩:=aQ.mp hx;walk_at"w";walk_at"ss";intro w hw;refine hR _ _ (xb.new hw) fun H6 sx kx=>⟨ws2++[w],by simp,?_⟩;rw[bw,hc];exact yv (L2.Paired.imp' (fun _ _ (z:H3 _=some _)=>sx.at z) hws2) (kx w _ (.inl hw) xk)
   ·obtain⟨ws2,rfl,hws2⟩:=hP;rw[aa,bO]at hws2;rw[aa,aa]at hl9;have sB:xb G H9':=s1.trans (s2.trans (s9.trans s9'));have hpl9:=sB.at epl';have hTr:TupAt K H9' t r:=hTG.1.same sB;have hpi:=xjC (K:=K) (H0:=H) (tl:=pl) (G:=H9') (sG.trans s1) hL (s9.trans s9') hTr (by rw[s1.at epl'];exact fun z=>by cases z) (ws:=ws2) (i:=0) (by rw[fX];exact L2.Paired.imp' (fun _ _ (z:H9 _=some _)=>s9'.at z) hws2);rw[fX]at hpi;walk_at"w";refine⟨pl,D,_,_,rfl,rfl,hpl9,hv,by rw[aa,aa,av];lia,?_⟩;generalize hU:upd H9' pl _=G6;refine⟨xb.wr (sG.trans sB) hpl hU,ws++ws2,_,rfl,?_,?_,?_⟩
    ·rw[←hU,xk,aG]
    ·have e:zl (rs.take (i+1))=zl (rs.take i)++(uf r).map fun c=>(r,c):=by
      unfold zl;rw[bw,hr',gL];simp
     rw[e,←hU];exact xc9 (L2.Paired.imp' (fun _ _ (z:zd K H pl G _ _)=>(z.same sB).off hpl9) hws) (L2.Paired.imp' (fun _ _ (z:zd K H pl H9' _ _)=>z.off hpl9) hpi)
    ·rw[aq];lia
  ·obtain⟨sG,ws,x2,rfl,epl',hws,hwl⟩:=hP;walk_at"w";have e:rs.take (us.map V.ref).length=rs:=by rw[aa,hus.length,bO]
   rw[e]at hws;exact q pl ws G sG hpl epl' hws
def xmh(a:Adr):Sp:=fun vs H Q _=>∃(p dx:Addr) (to st c cell:Int),vs=[.ref p,.int cell]∧H p=some (.ins a.q0a dx (xao to st c))∧Q (.int (st+cell - to)) H
theorem jP(T:Txt K mg a):xv P w K mg base CX0 1 a.q0t a.uR ["self","cell"] (xmh a):=by
 refine T.q05.ok jK (fun vs H Q E h=>?_) (fun cdv A outer s H vs Q E hr h=>?_)
 ·obtain⟨p,dx,to,st,c,cell,rfl,_⟩:=h;rfl
 ·obtain⟨p,dx,to,st,c,cell,rfl,hp,k⟩:=h;have nd:=jK.nd;refine⟨_,(xi (xq (xn uj (xn xK (xx (cv 0) rfl) (cv 1)) (xx (cv 0) rfl)))),?_⟩;walk_at"w";refine⟨p,_,dx,_,.int st,rfl,hp,T.q0b,T.q0e,rfl,?_⟩;walk_at"w";refine⟨p,_,dx,_,.int to,rfl,hp,T.q0b,T.q0i,rfl,?_⟩;exact k
def plc(r:xf)(c:Int):List Int:=match r with
 | .take to st _=>[st+c - to,c]
 | .put _ _=>[c]
def yU(r:xf)(cs:List Int):List Int:=cs.flatMap (plc r)
theorem xdV{r:xf}{cs:List Int}{i:Nat}{d:Int}(h:cs[i]? =some d):yU r (cs.take (i+1))=yU r (cs.take i)++plc r d:=by
 unfold yU;rw[bw,h,gL];simp
theorem xb1(r:xf):∀cs:List Int,(yU r cs).length≤2*cs.length
 |[]=>by simp[yU]
 |c::cs=>by
  have:=xb1 r cs;have h2:(plc r c).length≤2:=by cases r<;> simp[plc]
  simp only[yU,List.flatMap_cons,aq,bj]at this⊢;lia
def xnF(K:ah)(a:Adr):Sp:=fun vs H Q _=>∃(o cl:Addr) (r:xf) (cs:List Int),vs=[.ref o,.ref cl]∧xy K a H o r∧H cl=some (.lst (cs.map V.int))∧cs.length≤300∧xbZ H Q (yU r cs)
theorem xfr(T:Txt K mg a):xv P w K mg base CX0 2 a.q0Y a.vY ["row","cells"] (xnF K a):=by
 refine T.q03.ok xbe (fun vs H Q E h=>?_) (fun cdv A outer s H vs Q E hr h=>?_)
 ·obtain⟨o,cl,r,cs,rfl,_⟩:=h;rfl
 ·obtain⟨o,cl,r,cs,rfl,ho,hcl,hn,q⟩:=h;have nd:=xbe.nd;refine⟨_,(xg (xt (i:=2) nd rfl (aD rfl) (yh xc))
  (xg (ym aV rfl (xR (cv 1)) (xG (i:=3) nd rfl (aD rfl)) (xg (xb6 (xM (yz (xu zG (by rfl) T.q0q ye (xa (cv 0) (xa (ud (v:=.ref a.q0a) (by rfl) T.xa8 rfl) xc)))) (xi (xN (zt PySem.F.plainAttrs_list PySem.F.slot_list_append PySem.F.type_list_append yi (cv 2) (xa (yQ (cv 0) T.q0b T.q1X (jP T) (hr.mono (by decide)) T.xac .nil xo (xa (cv 3) xc)) xc)))) xF))
  (xi (xN (zt PySem.F.plainAttrs_list PySem.F.slot_list_append PySem.F.type_list_append yi (cv 2) (xa (cv 3) xc))))))
  (xi (xq (cv 2))))),?_⟩
  walk_at"w";walk_at"ss";intro pl hpl;generalize hUpl:upd H pl _=H1;have sH1:=xb.of_eq hpl hUpl;have epl:=xm hUpl;clear hUpl;walk_at"w";refine⟨cl,rfl,⟨_,SqL.of (sH1.at hcl)⟩,?_⟩;refine yH (xs:=cs.map V.int) (fun i σ G=>xb H G∧∃(x3:Option V),σ=[some (.ref o),some (.ref cl),some (.ref pl),x3]∧G pl=some (.lst ((yU r (cs.take i)).map V.int)))
   ⟨sH1,_,rfl,epl⟩ (fun i σ G hi hP=>SqL.of (hP.1.at hcl)) (fun i x σ G hx hP=>?_) (fun σ G hP=>?_)
  ·obtain⟨sG,x3,rfl,epl'⟩:=hP;rw[ak]at hx;obtain⟨d,hd,rfl⟩:=aQ.mp hx;have hlen:=xb1 r (cs.take i);have hi:i<cs.length:=(au.mp hd).1;have htk:(cs.take i).length≤cs.length:=by rw[bB];lia
   walk_at"w";refine⟨fun σ' G'=>xb H G'∧σ'=[some (.ref o),some (.ref cl),some (.ref pl),some (.int d)]∧∃ys:List Int,G' pl=some (.lst (ys.map V.int))∧ys++[d]=yU r (cs.take (i+1)),?_,?_⟩
   ·have ho':=ho.same sG;cases r with
    |take to st c=>
     obtain⟨dx,h1⟩:=ho';walk_at"w";refine⟨_,_,_,_,true,rfl,rfl,T.xaw h1,T.q1M,?_⟩;walk_at"w";refine⟨fun _=>?_,by walk_at"no"⟩;walk_at"w";refine⟨.inl ⟨rfl,_,SqL.of epl'⟩,?_⟩;walk_at"w";refine⟨o,dx,_,rfl,h1,rfl,?_⟩;walk_at"w";refine⟨o,dx,to,st,c,d,rfl,h1,?_⟩;walk_at"w";refine⟨pl,_,_,rfl,rfl,epl',by rw[aa,av];lia,?_⟩;refine⟨sG.put hpl,rfl,yU (.take to st c) (cs.take i)++[st+d - to],by rw[xk,aG];rfl,?_⟩;rw[xdV hd];simp[plc]
    |put to sg=>
     obtain⟨dx,u,h1,h2⟩:=ho';walk_at"w";refine⟨_,_,_,_,false,rfl,rfl,T.xf8 h1,T.q2V,?_⟩;walk_at"w";refine⟨by walk_at"no",fun _=>?_⟩;refine⟨sG,rfl,_,epl',?_⟩;rw[xdV hd];simp[plc]
   ·rintro σ' G' ⟨sG',rfl,ys,eys,hys⟩;walk_at"w";refine⟨.inl ⟨rfl,_,SqL.of eys⟩,?_⟩;walk_at"w";have hyl:=congrArg cC hys;have:=xb1 r (cs.take (i+1));have htk2:(cs.take (i+1)).length≤cs.length:=by rw[bB];lia
    rw[aq,bK]at hyl;refine⟨pl,_,_,rfl,rfl,eys,by rw[aa,av];lia,?_⟩;refine⟨sG'.put hpl,_,rfl,?_⟩;rw[xk,←hys,aG];rfl
  ·obtain⟨sG,x3,rfl,epl'⟩:=hP;rw[aa,bO]at epl';walk_at"w";exact q pl G sG hpl epl'
def xnG(K:ah):Sp:=fun vs H Q _=>∃(size:Int) (H0:Hp) (pl tl:Addr) (ws:List Addr) (xs:List (xf×List Int)),vs=[.int size,.ref pl]∧H pl=some (.lst (ws.map V.ref))∧Paired (zd K H0 tl H) ws xs∧(∀x∈xs,x.1.ok∧x.2.length≤300∧∀p∈yU x.1 x.2,p<size)∧∀H',xb H H'→Q .non H'
theorem xfs(T:Txt K mg a):xv P w K mg base CX0 6 a.q0X a.vX ["size","pieces"] (xnG K):=by
 refine T.q02.ok xbd (fun vs H Q E h=>?_) (fun cdv A outer s H vs Q E hr h=>?_)
 ·obtain⟨size,H0,pl,tl,ws,xs,rfl,_⟩:=h;rfl
 ·obtain⟨size,H0,pl,tl,ws,xs,rfl,hpl,hws,hx,q⟩:=h;have nd:=xbd.nd;refine⟨_,(xi (ym aV rfl (xR (cv 1)) (vE rfl (yd (xG (i:=2) nd rfl (aD rfl)) (yd (xG (i:=3) nd rfl (aD rfl)) uF))) (xi (ym aV rfl (xR (xr (xfr T) (hr.mono (by decide)) (by rfl) T.xf4 T.q03.kp T.xf3 .nil xo (xa (xr (zE T) (hr.mono (by decide)) (by rfl) T.zZ T.q0N.kp T.zY .nil xo (xa (cv 2) xc)) (xa (cv 3) xc)))) (xG (i:=4) nd rfl (aD rfl)) (xi (xM (xJ xlz (cv 4) (cv 0)) (xi xat) xF)))))),?_⟩;walk_at"w";refine⟨pl,rfl,⟨_,SqL.of hpl⟩,?_⟩;refine yH (xs:=ws.map V.ref) (fun i σ G=>xb H G∧∃(x2 x3 x4:Option V),σ=[some (.int size),some (.ref pl),x2,x3,x4])
   ⟨xb.refl _,_,_,_,rfl⟩ (fun i σ G hi hP=>SqL.of (hP.1.at hpl)) (fun i x σ G hx' hP=>?_) (fun σ G hP=>?_)
  ·obtain⟨sG,x2,x3,x4,rfl⟩:=hP;rw[ak]at hx';obtain⟨u,hu,rfl⟩:=aQ.mp hx';obtain⟨⟨r,cs⟩,hr',t,c,nc,h1,h2,h3⟩:=Paired.nth hws hu;obtain⟨hk,hcl,hpp⟩:=hx _ (az hr');walk_at"w";refine⟨u,_,rfl,SqT.of (sG.at h1),rfl,?_⟩;walk_at"w";refine⟨_,_,rfl,?_⟩;walk_at"w";refine⟨_,_,rfl,?_⟩;walk_at"w";refine cS rfl ?_;walk_at"w";refine⟨t,r,rfl,h2.same sG,hk,fun o H1 s1 ho hob=>?_⟩;walk_at"w";refine⟨o,c,r,cs,rfl,hob,s1.at (sG.at h3),hcl,fun l H2 s2 hl el=>?_⟩;have sA:xb H H2:=sG.trans (s1.trans s2);walk_at"w";refine⟨l,rfl,⟨_,SqL.of el⟩,?_⟩;refine yH (xs:=(yU r cs).map V.int) (fun i σ G=>H2=G∧∃(x4:Option V),σ=[some (.int size),some (.ref pl),some (.ref t),some (.ref c),x4])
    ⟨rfl,_,rfl⟩ (fun i σ G hi hP=>by rw[←hP.1];exact SqL.of el) (fun i x σ G hx' hP=>?_) (fun σ G hP=>?_)
   ·obtain⟨rfl,x4,rfl⟩:=hP;rw[ak]at hx';obtain⟨p,hp,rfl⟩:=aQ.mp hx';have hlt:=hpp p (az hp);walk_at"w";refine⟨fun e=>absurd (of_decide_eq_true e) (by show¬size≤p;lia),fun _=>?_⟩;exact⟨rfl,_,rfl⟩
   ·obtain⟨rfl,x4,rfl⟩:=hP;exact⟨sA,_,_,_,rfl⟩
  ·obtain⟨sG,x2,x3,x4,rfl⟩:=hP;exact q _ sG
def xmi:Sp:=fun vs H Q _=>∃(size o n:Int) (p:Addr) (x:V),vs=[.int size,.ref p]∧H p=some (.tup [.int o,.int n,x])∧max o n≤size∧Q .non H
theorem xew(T:Txt K mg a):xv P w K mg base CX0 1 a.q0L a.vp ["size","paper"] xmi:=by
 refine T.q0P.ok xae (fun vs H Q E h=>?_) (fun cdv A outer s H vs Q E hr h=>?_)
 ·obtain⟨size,o,n,p,x,rfl,_⟩:=h;rfl
 ·obtain⟨size,o,n,p,x,rfl,hp,hle,k1⟩:=h;have nd:=xae.nd;refine⟨_,(xg (xt (i:=2) nd rfl (aD rfl) (xu (xdj rfl) (by rfl) T.q3u xb7 (xa (xB xE (cv 1) xh (fun _ _=>rfl)) (xa (xB xE (cv 1) xh (fun _ _=>rfl)) xc))))
  (xi (xM (xJ xaA (cv 0) (cv 2)) (xi xat) xF))),?_⟩
  walk_at"w";refine⟨p,_,_,.int o,rfl,rfl,SqT.of hp,rfl,?_⟩;walk_at"w";refine⟨p,_,_,.int n,rfl,rfl,SqT.of hp,rfl,?_⟩;walk_at"w";refine⟨fun e=>absurd (of_decide_eq_true e) (by show¬size<max o n;lia),fun e=>?_⟩;exact k1
def ve(r:xf)(C:List Int)(d:Int):List Int:=match r with
 | .take to st _=>C.set d.toNat (C.getD (st+d - to).toNat 0)
 | .put to sg=>C.set d.toNat (sg.getD (d - to).toNat 0)
def doP(r:xf)(C cs:List Int):List Int:=cs.foldl (ve r) C
theorem xnH(r:xf)(C:List Int)(d:Int):(ve r C d).length=C.length:=by cases r<;> simp[ve]
theorem xhl(r:xf):∀(cs C:List Int),(doP r C cs).length=C.length
 |[],_=>rfl
 |d::cs,C=>by
  show(doP r (ve r C d) cs).length=_;rw[xhl r cs,xnH]
theorem xoD{r:xf}{C cs:List Int}{i:Nat}{d:Int}(h:cs[i]? =some d):doP r C (cs.take (i+1))=ve r (doP r C (cs.take i)) d:=by
 unfold doP;rw[bw,h];simp[e7]
abbrev xgj:Expr:=xgZ 1 (xgZ 1 (xqc ((xgY ((xO zV).getD 0 (.Pass ⟨0,0,0,0⟩))).getD 0 (.Pass ⟨0,0,0,0⟩))))
theorem xk6:uu ["at","store"] ["at"] ["store"] (zj xgj):=⟨rfl,rfl,rfl,by decide+kernel,rfl,by decide+kernel,by decide+kernel,by decide+kernel⟩
def xqg(a:Adr):List (Str×V)→Sp:=fun fv vs H Q _=>∃(S:SA) (cells:List Int) (notes:List (Option Int)) (n i v:Int) (fl:V),fv=([("store",.ref S.st)]:List (Str×V))∧vs=[.int i]∧yu a H S cells notes n fl∧inR cells i∧cells[i.toNat]? =some v∧Q (.int v) H
theorem xgk(T:Txt K mg a):zJ P w K mg base CX0 3 "<lambda>" "do_piece.<locals>.<lambda>" (xau xgj) (.expr (xav xgj)) (zj xgj) ["at"] (xqg a):=by
 refine xaF xk6 (fun fv vs H Q E h=>?_) (fun _ _ _ _ _ us hl=>match us,hl with|[_],_=>rfl) (fun A outer s H f clos cdv fv vs Q E hr h=>?_)
 ·obtain⟨S,cells,notes,n,i,v,fl,rfl,rfl,_⟩:=h;exact⟨rfl,rfl⟩
 ·obtain⟨S,cells,notes,n,i,v,fl,rfl,rfl,hS,hi,hv,k⟩:=h;have nd:=xk6.nd;refine⟨_,(yQ (cv 1) T.q0n T.q3s (xik T) (hr.mono (by decide)) T.xje .nil xo (xa (cv 0) xc)),?_⟩;walk_at"w";refine⟨S.st,S.dx,_,rfl,hS.st,rfl,?_⟩;exact⟨S,cells,notes,n,i,v,fl,rfl,hS,hi,hv,k⟩
def xoE(a:Adr):Sp:=fun vs H Q E=>∃(p dx u:Addr) (to n cell v:Int) (f:V) (sg:List Int),vs=[.ref p,.int cell,f]∧H p=some (.ins a.q0c dx (jD to u n))∧H u=some (.tup (sg.map V.int))∧0≤cell - to∧sg[(cell - to).toNat]? =some v∧Q (.int v) H
def xoF(P:aI)(w:World)(K:ah)(mg:Str→Option Value)(base:Heap)(a:Adr):Sp:=fun vs H Q _=>∃(p dx:Addr) (to st c cell:Int) (f:Addr),vs=[.ref p,.int cell,.ref f]∧H p=some (.ins a.q0a dx (xao to st c))∧(∃nm qual params body scope fv,zv H f nm qual params body scope fv)∧FnV P w K mg base 3 H f [.int (st+cell - to)] Q
theorem xbh(T:Txt K mg a):xv P w K mg base CX0 4 a.q0F a.vU ["self","cell","read"] (xoF P w K mg base a):=by
 refine T.q1q.ok xba (fun vs H Q E h=>?_) (fun cdv A outer s H vs Q E hr h=>?_)
 ·obtain⟨p,dx,to,st,c,cell,f,rfl,_⟩:=h;rfl
 ·obtain⟨p,dx,to,st,c,cell,f,rfl,hp,hf,k⟩:=h;have nd:=xba.nd;refine⟨_,(xi (xq (xom (k:=3) 2 (hr.mono (by decide)) (xa (yQ (cv 0) T.q0b T.q1X (jP T) (hr.mono (by decide)) T.xac .nil xo (xa (cv 1) xc)) xc)))),?_⟩;walk_at"w";refine⟨f,rfl,hf,?_⟩;walk_at"w";refine⟨p,dx,_,rfl,hp,rfl,?_⟩;walk_at"w";refine⟨p,dx,to,st,c,cell,rfl,hp,?_⟩;walk_at"w";exact k
theorem xbz(T:Txt K mg a):xv P w K mg base CX0 1 a.q0R a.jv ["self","cell","read"] (xoE a):=by
 refine T.q1B.ok xbv (fun vs H Q E h=>?_) (fun cdv A outer s H vs Q E hr h=>?_)
 ·obtain⟨p,dx,u,to,n,cell,v,f,sg,rfl,_⟩:=h;rfl
 ·obtain⟨p,dx,u,to,n,cell,v,f,sg,rfl,hp,hu,hi,hv,k⟩:=h;have nd:=xbv.nd;refine⟨_,(xi (xq (xB xE (xx (cv 0) rfl) (xn uj (cv 1) (xx (cv 0) rfl)) (fun _ _=>rfl)))),?_⟩;walk_at"w";refine⟨p,_,dx,_,.ref u,rfl,hp,T.q0g,T.q0I,rfl,?_⟩;walk_at"w";refine⟨p,_,dx,_,.int to,rfl,hp,T.q0g,T.q0x,rfl,?_⟩;walk_at"w";exact⟨u,_,_,.int v,rfl,rfl,SqT.of hu,xfT hi hv,k⟩
def xck(r:xf)(L:Nat)(d:Int):Prop:=0≤d∧d<L∧match r with
 | .take to st _=>0≤st+d - to∧st+d - to<L
 | .put to sg=>0≤d - to∧d - to<sg.length
theorem xy.kp{K:ah}{a:Adr}{H H':Hp}{S:SA}{cells:List Int}{notes:List (Option Int)}{n:Int}{fl:V}{o:Addr}{r:xf}(h:xy K a H o r)(hS:yu a H S cells notes n fl)(hn:o≠S.p)(k:Kp (SS S) H H'):xy K a H' o r:=by
 cases r with
 |take to st c=>
  obtain⟨dx,h⟩:=h;refine⟨dx,k _ _ h ?_⟩;simp only[ao,bC,or_false];rintro(z|z|z)
  ·rw[z,hS.ca]at h;cases h
  ·rw[z,hS.na]at h;cases h
  ·exact hn z
 |put to sg=>
  obtain⟨dx,u,h1,h2⟩:=h;refine⟨dx,u,k _ _ h1 ?_,k _ _ h2 ?_⟩
  ·simp only[ao,bC,or_false];rintro(z|z|z)
   ·rw[z,hS.ca]at h1;cases h1
   ·rw[z,hS.na]at h1;cases h1
   ·exact hn z
  ·simp only[ao,bC,or_false];rintro(z|z|z)
   ·rw[z,hS.ca]at h2;cases h2
   ·rw[z,hS.na]at h2;cases h2
   ·rw[z,hS.p]at h2;cases h2
def xkE(K:ah)(a:Adr):Sp:=fun vs H Q _=>∃(S:SA) (o c:Addr) (r:xf) (cs cells:List Int) (notes:List (Option Int)) (n:Int),vs=[.ref S.st,.ref o,.ref c]∧H yI=some (.tbl zb)∧H yf=some (.tbl yB)∧yu a H S cells notes n .non∧xy K a H o r∧o≠S.p∧H c=some (.lst (cs.map V.int))∧c∉SS S∧(∀d∈cs,xck r cells.length d)∧
 xma a H S (doP r cells cs) notes (n+cs.length) .non (Q .non)
theorem xkF(T:Txt K mg a):xv P w K mg base CX0 5 a.q1U a.xam ["store","row","cells"] (xkE K a):=by
 refine T.jc.okC ["store"] T.xkv xeP (fun vs H Q E h=>?_) (fun A outer s H vs Q E hr h=>?_)
 ·obtain⟨S,o,c,r,cs,cells,notes,n,rfl,_⟩:=h;rfl
 ·obtain⟨S,o,c,r,cs,cells,notes,n,rfl,hPd,hPw,hS,ho,hop,hc,hcS,hin,k⟩:=h;have nd:=xeP.nd;refine⟨_,(xbp (x:="store") (i:=0) nd rfl rfl rfl (by kernel_rfl) (xi (ym aV rfl (xR (cv 2)) (xG (i:=3) nd rfl (aD rfl)) (xi (xN (yQ (cv 0) T.q0n T.q3i (xhi T) (hr.mono (by decide)) T.xib .nil xo (xa (cv 3) (xa (uq (yQ (cv 1) T.q0g T.q2A (xbz T) (hr.mono (by decide)) T.xcc .nil xo (xa (cv 3) (xa (zw (c:=q0T) (P:=yI) (qs:=zb) (fns:=["store"]) rfl T.q3l (q:="do_piece.<locals>.<lambda>") (by kernel_rfl) (.head _) (by kernel_rfl) (by kernel_rfl)) xc))) (yQ (cv 1) T.q0b T.q2v (xbh T) (hr.mono (by decide)) T.xbs .nil xo (xa (cv 3) (xa (zw (c:=q0T) (P:=yI) (qs:=zb) (fns:=["store"]) rfl T.q3l (q:="do_piece.<locals>.<lambda>") (by kernel_rfl) (.head _) (by kernel_rfl) (by kernel_rfl)) xc)))) xc)))))))),?_⟩;walk_at"w";intro a1 e1 z1 d1;refine cS z1 ?_;generalize hU1:upd H a1 _=H1;have s1:=xb.of_eq z1 hU1;have c1:=xm hU1;clear hU1;walk_at"w";refine⟨c,rfl,⟨_,SqL.of (s1.at hc)⟩,?_⟩;refine yH (xs:=cs.map V.int) (fun i σ G=>Kp (SS S) H1 G∧yu a G S (doP r cells (cs.take i)) notes (n+i) .non∧∃(x3:Option V),σ=[some (.ref S.st),some (.ref o),some (.ref c),x3])
   ⟨Kp.of (xb.refl _),by have:=hS.same s1;simpa [doP]using this,_,rfl⟩ (fun i σ G hi hP=>SqL.of (hP.1 _ _ (s1.at hc) hcS)) (fun i x σ G hx hP=>?_) (fun σ G hP=>?_)
  ·obtain⟨kp,hSG,x3,rfl⟩:=hP;rw[ak]at hx;obtain⟨d,hd,rfl⟩:=aQ.mp hx;have hcell:=hin d (az hd);have hdl:=xhl r (cs.take i) cells;obtain⟨hd0,hd1,hd2⟩:=hcell;have hS1:=hS.same s1;have nSS:∀b u,H1 b=some u→¬xju u→b∉SS S:=fun b u e m z=>by
    obtain⟨u',q',m'⟩:=hS1.mu b z;rw[e]at q';cases q';exact m m'
   have hOG:xy K a G o r:=xy.kp (ho.same s1) hS1 hop kp;have hPG:G yI=some (.tbl zb):=kp _ _ (s1.at hPd) (nSS _ _ (s1.at hPd) (fun z=>z));have hPG2:G yf=some (.tbl yB):=kp _ _ (s1.at hPw) (nSS _ _ (s1.at hPw) (fun z=>z));have c1':H1 a1=some (.cel (some (.ref S.st))):=c1;have c1G:G a1=some (.cel (some (.ref S.st))):=kp _ _ c1' (nSS _ _ c1' (fun z=>z));have fin:∀(G5:Hp) (v:Int),xb G G5→ve r (doP r cells (cs.take i)) d=(doP r cells (cs.take i)).set d.toNat v→∀G6,Kp (SS S) G5 G6→yu a G6 S ((doP r cells (cs.take i)).set d.toNat v) notes (n+i+1) .non→Kp (SS S) H1 G6∧yu a G6 S (doP r cells (cs.take (i+1))) notes (n+(i+1:Nat)) .non∧∃(x3:Option V),[some (V.ref S.st),some (.ref o),some (.ref c),some (.int d)]=[some (.ref S.st),some (.ref o),some (.ref c),x3]:=fun G5 v s5 e G6 k6 h6=>by
    refine⟨(kp.same s5).trans k6,?_,_,rfl⟩;rw[xoD hd,e,show n+((i+1:Nat):Int)=n+i+1 by omega];exact h6
   walk_at"w";refine⟨S.st,S.dx,_,rfl,hSG.st,rfl,?_⟩;walk_at"w";cases r with
   |put to sg=>
    obtain⟨dx,u,q1,q2⟩:=hOG;have hd2:0≤d - to∧d - to<sg.length:=hd2;obtain⟨v,hv⟩:∃v,sg[(d - to).toNat]? =some v:=⟨_,ag (by omega)⟩
    left
    refine⟨o,dx,_,rfl,q1,rfl,?_⟩;walk_at"w";refine⟨hPG,[("store",.ref S.st)],rfl,fun x v m=>?_,fun f G5 hf s5 hc=>?_⟩
    ·simp only[ao,fz,bC,or_false]at m;obtain⟨rfl,rfl⟩:=m;exact⟨a1,e1,c1G⟩
    walk_at"w";refine⟨o,dx,u,to,_,d,v,_,sg,rfl,s5.at q1,s5.at q2,hd2.1,hv,?_⟩;walk_at"w";refine⟨S,_,notes,n+i,d,v,rfl,hSG.same s5,s5.at hPG2,⟨hd0,by rw[hdl];exact hd1⟩,fun G6 k6 h6=>?_⟩;walk_at"w";exact fin G5 v s5 (by simp[ve,cu,hv]) G6 k6 h6
   |take to st cn=>
    obtain⟨dx,q1⟩:=hOG;have hd2:0≤st+d - to∧st+d - to<cells.length:=hd2;obtain⟨v,hv⟩:∃v,(doP (.take to st cn) cells (cs.take i))[(st+d - to).toNat]? =some v:=⟨_,ag (by rw[hdl];omega)⟩
    right
    refine⟨o,dx,_,rfl,q1,rfl,?_⟩;walk_at"w";refine⟨hPG,[("store",.ref S.st)],rfl,fun x v m=>?_,fun f G5 hf s5 hc=>?_⟩
    ·simp only[ao,fz,bC,or_false]at m;obtain⟨rfl,rfl⟩:=m;exact⟨a1,e1,c1G⟩
    walk_at"w";refine⟨o,dx,to,st,cn,d,f,rfl,s5.at q1,⟨_,_,_,_,_,_,hc⟩,_,_,_,_,_,_,_,_,xgk T,hc,S,_,notes,n+i,_,v,.non,rfl,rfl,hSG.same s5,⟨hd2.1,by rw[hdl];exact hd2.2⟩,hv,?_⟩;walk_at"w";refine⟨S,_,notes,n+i,d,v,rfl,hSG.same s5,s5.at hPG2,⟨hd0,by rw[hdl];exact hd1⟩,fun G6 k6 h6=>?_⟩;walk_at"w";exact fin G5 v s5 (by simp[ve,cu,hv]) G6 k6 h6
  ·obtain⟨kp,hSG,x3,rfl⟩:=hP;rw[aa,bO]at hSG;walk_at"w";refine k G (fun b u e n=>kp b u (s1 b u e) n) ?_;exact hSG
def doL(C:List Int)(xs:List (xf×List Int)):List Int:=xs.foldl (fun C x=>doP x.1 C x.2) C
theorem xel:∀(xs:List (xf×List Int)) (C:List Int),(doL C xs).length=C.length
 |[],_=>rfl
 |x::xs,C=>by
  show(doL (doP x.1 C x.2) xs).length=_;rw[xel xs,xhl]
theorem xoG{C:List Int}{xs:List (xf×List Int)}{i:Nat}{x:xf×List Int}(h:xs[i]? =some x):doL C (xs.take (i+1))=doP x.1 (doL C (xs.take i)) x.2:=by
 unfold doL;rw[bw,h];simp[e7]
def wrN(xs:List (xf×List Int)):Nat:=(xs.map fun x=>x.2.length+1).sum
theorem xoH{xs:List (xf×List Int)}{i:Nat}{x:xf×List Int}(h:xs[i]? =some x):wrN (xs.take (i+1))=wrN (xs.take i)+(x.2.length+1):=by
 unfold wrN;rw[bw,h];simp
def xem(notes:List (Option Int))(first:Nat):Nat→List (Option Int)
 |0=>notes
 |j+1=>(xem notes first j).set ((((first+j:Nat):Int)+1)%2).toNat (some (((first+j:Nat):Int)+1))
theorem xhT(notes:List (Option Int))(first:Nat):∀j,(xem notes first j).length=notes.length
 |0=>rfl
 |j+1=>by rw[xem,gA,xhT notes first j]
def xax(L:Nat)(x:xf×List Int):Prop:=x.1.ok∧x.2.length≤300∧∀d∈x.2,xck x.1 L d
def xoI(K:ah)(a:Adr):Sp:=fun vs H Q _=>∃(S:SA) (p tt:Addr) (o n:Int) (us:List Addr) (rs:List xf) (cells:List Int) (notes:List (Option Int)) (cnt:Int) (first:Nat),vs=[.ref S.st,.ref p]∧H yI=some (.tbl zb)∧H yf=some (.tbl yB)∧H xQ=some (.tbl yj)∧yu a H S cells notes cnt .non∧H p=some (.tup [.int o,.int n,.ref tt])∧H tt=some (.tup (us.map V.ref))∧Paired (GT K H) us rs∧us.length≤60∧notes.length=2∧xcP notes first∧first≤10000∧
 max o n≤cells.length∧(∀x∈zl rs,xax cells.length x)∧∀H',Kp (SS S) H H'→yu a H' S (doL cells ((zl rs).drop first)) (xem notes first ((zl rs).drop first).length) (cnt+wrN ((zl rs).drop first)) .non→Q (.int ((zl rs).drop first).length) H'
theorem xhU(xs:List V)(i:Nat):uh xs (some (i:Int)) none=xs.drop i:=by
 unfold uh;rw[yY (by lia),HT.jj,bP]
 by_cases h:i≤xs.length
 ·rw[cA h];exact aZ (by rw[aO];lia)
 ·rw[eN (by lia),cQ (ai _),cQ (by lia)];simp
theorem xeT{α β:Type}{F:α→β→Prop}:∀{l₁:List α} {l₂:List β} (n:Nat),Paired F l₁ l₂→Paired F (l₁.drop n) (l₂.drop n)
 |_,_,0,h=>h
 |_,_,n+1,.nil=>.nil
 |_,_,n+1,.cons _ t=>xeT n t
theorem xnI{r:xf}{L:Nat}{cs:List Int}(h:∀d∈cs,xck r L d):∀p∈yU r cs,p<(L:Int):=by
 intro p hp;unfold yU at hp;obtain⟨d,hd,hp⟩:=iO.mp hp;have h1:=h d hd;cases r with
 |take to st c=>
  have h2:0≤st+d - to∧st+d - to<L:=h1.2.2;simp only[plc,ao,bC,or_false]at hp;rcases hp with rfl|rfl
  ·exact h2.2
  ·exact h1.2.1
 |put to sg=>
  simp only[plc,ax]at hp;rw[hp];exact h1.2.1
theorem TupAt.kpS{K:ah}{H H':Hp}{t:Addr}{r:xf}(h:TupAt K H t r)(k:∀b u,H b=some u→¬xju u→H' b=some u):TupAt K H' t r:=by
 cases r with
 |take to st c=>exact k _ _ h (fun z=>z)
 |put to sg=>obtain⟨u,h1,h2⟩:=h;exact⟨u,k _ _ h1 (fun z=>z),k _ _ h2 (fun z=>z)⟩
theorem xoJ(T:Txt K mg a):xv P w K mg base CX0 7 a.q29 a.xg5 ["store","paper"] (xoI K a):=by
 refine T.q3c.ok xjk (fun vs H Q E h=>?_) (fun cdv A outer s H vs Q E hr h=>?_)
 ·obtain⟨S,p,tt,o,n,us,rs,cells,notes,cnt,first,rfl,_⟩:=h;rfl
 ·obtain⟨S,p,tt,o,n,us,rs,cells,notes,cnt,first,rfl,hPd,hPw,hPn,hS,hp,ht,hus,hul,hn2,hmx,hf4,hle,hok,k1⟩:=h;have nd:=xjk.nd;refine⟨_,(xg (xt (i:=2) nd rfl (aD rfl) (xu xw (by rfl) T.q0k xP (xa (xB xE (xD (cv 0) T.q0n T.q2Y (xc8 T) (hr.mono (by decide)) T.xdE .nil xo) xh (fun _ _=>rfl)) xc)))
  (xg (xN (xr (xew T) (hr.mono (by decide)) (by rfl) T.xfn T.q0P.kp T.xfm .nil xo (xa (cv 2) (xa (cv 1) xc))))
  (xg (xt (i:=3) nd rfl (aD rfl) (xr (xjD T) (hr.mono (by decide)) (by rfl) T.xku T.q18.kp T.xkt .nil xo (xa (cv 1) xc)))
  (xg (xt (i:=4) nd rfl (aD rfl) (xD (cv 0) T.q0n T.q3h (xhj T) (hr.mono (by decide)) T.xic .nil xo))
  (xg (xt (i:=5) nd rfl (aD rfl) (yn yL (cv 3) (yc (cv 4)) ue))
  (xg (xN (xr (xfs T) (hr.mono (by decide)) (by rfl) T.xf2 T.q02.kp T.xf1 .nil xo (xa (cv 2) (xa (cv 5) xc))))
  (xg (ym aV rfl (xoo (by rfl) T.q2a (xa (cv 5) xc) (cv 4)) (vE rfl (yd (xG (i:=6) nd rfl (aD rfl)) (yd (xG (i:=7) nd rfl (aD rfl)) uF))) (xg (xN (xr (xkF T) (hr.mono (by decide)) (by rfl) T.xl3 T.jc.kp T.xl2 .nil xo (xa (cv 0) (xa (xr (zE T) (hr.mono (by decide)) (by rfl) T.zZ T.q0N.kp T.zY .nil xo (xa (xB xE (cv 7) xh (fun _ _=>rfl)) xc)) (xa (xB xE (cv 7) xh (fun _ _=>rfl)) xc)))))
  (xi (xN (yQ (cv 0) T.q0n T.q3r (xil T) (hr.mono (by decide)) T.xjf .nil xo (xa (xn xK (cv 6) xh) xc))))))
  (xi (xq (xu xw (by rfl) T.q0k xP (xa (cv 5) xc))))))))))),?_⟩
  walk_at"w";refine⟨S.st,S.dx,_,rfl,hS.st,rfl,?_⟩;walk_at"w";refine⟨S,cells,notes,cnt,.non,rfl,hS,fun t c m H1 s1 hc hm ncm et ec em=>?_⟩;walk_at"w";refine⟨t,_,_,.ref c,rfl,rfl,SqT.of et,rfl,?_⟩;walk_at"w";refine⟨c,_,rfl,.inl (SqL.of ec),?_⟩;walk_at"w";refine⟨_,o,n,p,_,rfl,s1.at hp,by rw[aa];exact hle,?_⟩;have hS1:=hS.same s1;walk_at"w";refine⟨p,tt,.int o,.int n,us,rs,rfl,s1.at hp,s1.at ht,L2.Paired.imp' (fun _ _ z=>z.same s1) hus,hul,fun l ws H2 s2 hl el hws=>?_⟩;have hS2:=hS1.same s2;walk_at"w";refine⟨S.st,S.dx,_,rfl,hS2.st,rfl,?_⟩;walk_at"w";refine⟨S,cells,notes,cnt,.non,rfl,hS2,hn2,fun m H3 s3 hmx'=>?_⟩;obtain rfl:=xcP.uniq hmx' hmx;have hS3:=hS2.same s3;walk_at"w";refine⟨(first:Int),rfl,?_⟩;walk_at"w";refine⟨l,_,rfl,SqL.of (s3.at el),?_⟩;intro lf hlf;generalize hUlf:upd H3 lf _=H4;have sH4:=xb.of_eq hlf hUlf;have elf:=xm hUlf;clear hUlf;walk_at"w";rw[xhU,←ic]at elf;have hws4:Paired (zd K H1 l H4) (ws.drop first) ((zl rs).drop first):=xeT first (L2.Paired.imp' (fun _ _ z=>(z.same s3).same sH4) hws);obtain⟨due,hdue⟩:∃due,due=(zl rs).drop first:=⟨_,rfl⟩;rw[←hdue]at hws4 k1;have hok':∀x∈due,xax cells.length x:=fun x hx=>hok x (by rw[hdue]at hx;exact dw hx);have hwl:(ws.drop first).length=due.length:=hws4.length;refine⟨_,H1,lf,l,ws.drop first,due,rfl,elf,hws4,fun x hx=>⟨(hok' x hx).1,(hok' x hx).2.1,by rw[aa];exact xnI (hok' x hx).2.2⟩,fun H5 s5=>?_⟩;have hS5:=(hS3.same sH4).same s5;have s05:xb H H5:=s1.trans (s2.trans (s3.trans (sH4.trans s5)));have nlf:lf∉SS S:=by
   simp only[ao,bC,or_false];rintro(z|z|z)
   ·rw[z,hS3.ca]at hlf;cases hlf
   ·rw[z,hS3.na]at hlf;cases hlf
   ·rw[z,hS3.p]at hlf;cases hlf
  have nSS:∀b u,H5 b=some u→¬xju u→b∉SS S:=fun b u e m z=>by
   obtain⟨u',q',m'⟩:=hS5.mu b z;rw[e]at q';cases q';exact m m'
  walk_at"w";refine⟨lf,first,rfl,rfl,by lia,⟨_,SqL.of (s5.at elf)⟩,?_⟩;refine xkj (xs:=(ws.drop first).map V.ref) (fun i σ G=>Kp (SS S) H5 G∧yu a G S (doL cells (due.take i)) (xem notes first i) (cnt+wrN (due.take i)) .non∧∃(x6 x7:Option V),σ=[some (.ref S.st),some (.ref p),some (.int ((cells.map V.int).length:Nat)),some (.ref l),some (.int first),some (.ref lf),x6,x7])
   ⟨Kp.of (xb.refl _),by simpa [doL,wrN,xem]using hS5,_,_,rfl⟩ (fun i σ G hi hP=>SqL.of (hP.1 _ _ (s5.at elf) nlf)) (fun i x σ G Tt hx hP hTt=>?_) (fun σ G hP=>?_)
  ·obtain⟨kp,hSG,x6,x7,rfl⟩:=hP;rw[ak]at hx;obtain⟨u,hu,rfl⟩:=aQ.mp hx;obtain⟨⟨r,cs⟩,hr',t',c',⟨nc1,nc2⟩,h1,h2,h3⟩:=Paired.nth hws4 hu;obtain⟨hk,hcl,hcells⟩:=hok' _ (az hr');have kG:∀b u,H5 b=some u→¬xju u→G b=some u:=fun b u e m=>kp b u e (nSS b u e m);have ncS:c'∉SS S:=by
    simp only[ao,bC,or_false];rintro(z|z|z)
    ·rw[z,hS1.ca]at nc2;cases nc2
    ·rw[z,hS1.na]at nc2;cases nc2
    ·rw[z,hS1.p]at nc2;cases nc2
   have hcG:G c'=some (.lst (cs.map V.int)):=kp _ _ (s5.at h3) ncS;have huG:=kG _ _ (s5.at h1) (fun z=>z);have htG:TupAt K G t' r:=TupAt.kpS (h2.same s5) kG;have hPdG:=kG _ _ (s05.at hPd) (fun z=>z);have hPwG:=kG _ _ (s05.at hPw) (fun z=>z);have hPnG:=kG _ _ (s05.at hPn) (fun z=>z);generalize hU:upd G Tt _=G1;have sT:=xb.of_eq hTt hU;have eT:=xm hU;clear hU;walk_at"w";refine⟨Tt,_,rfl,SqT.of eT,rfl,?_⟩;walk_at"w";refine⟨_,_,rfl,?_⟩;walk_at"w";refine⟨_,_,rfl,?_⟩;walk_at"w";refine cS rfl ?_;walk_at"w";refine⟨u,_,_,.ref t',rfl,rfl,SqT.of (sT.at huG),rfl,?_⟩;walk_at"w";refine⟨t',r,rfl,htG.same sT,hk,fun ob G2 s2' hob hO=>?_⟩;walk_at"w";refine⟨u,_,_,.ref c',rfl,rfl,SqT.of (s2'.at (sT.at huG)),rfl,?_⟩;walk_at"w";have hSG1:=hSG.same sT;have sT2:=sT.trans s2';refine⟨S,ob,c',r,cs,_,_,_,rfl,sT2.at hPdG,sT2.at hPwG,hSG.same sT2,hO,(fun z=>by rw[z,hSG1.p]at hob;cases hob),sT2.at hcG,ncS,(fun d hd=>by rw[xel];exact hcells d hd),fun G3 kp3 hS3'=>?_⟩;walk_at"w";refine⟨S.st,S.dx,_,rfl,hS3'.st,rfl,?_⟩;walk_at"w";have nS2:xQ∉SS S:=nSS _ _ (s05.at hPn) (fun z=>z);refine⟨S,_,_,_,_,rfl,hS3',kp3 _ _ (sT2.at hPnG) nS2,by rw[xhT];exact hn2,fun G4 kp4 hS4=>?_⟩;walk_at"w";refine⟨((kp.same sT2).trans kp3).trans kp4,?_,_,_,rfl⟩;rw[xoG hr',xoH hr'];rw[show cnt+((wrN (due.take i)+(cs.length+1):Nat):Int)=cnt+(wrN (due.take i):Nat)+(cs.length:Nat)+1 by lia];exact hS4
  ·obtain⟨kp,hSG,x6,x7,rfl⟩:=hP;rw[aa,hwl,bO]at hSG;walk_at"w";refine⟨lf,_,rfl,.inl (SqL.of (kp _ _ (s5.at elf) nlf)),?_⟩;walk_at"w";rw[aa,hwl];exact k1 G (fun b u e n=>kp b u (s05 b u e) n) hSG
theorem jy{u:Nat→Nat→List Int}{d k j:Nat}{p:List Int}(h:(chs u d k)[j]? =some p):j<cN d k∧p=u k j:=by
 unfold chs at h;rw[ak]at h;obtain⟨i,hi,rfl⟩:=aQ.mp h;have hj:j<cN d k:=by
  have:=(au.mp hi).1;simpa using this
 rw[fE hj]at hi;cases hi;exact⟨hj,rfl⟩
theorem xbi{lo:Int}{n i:Nat}{d:Int}(h:(xX lo n)[i]? =some d):i<n∧d=lo+i:=by
 unfold xX at h;rw[ak]at h;obtain⟨j,hj,rfl⟩:=aQ.mp h;have hi:i<n:=by
  have:=(au.mp hj).1;simpa using this
 rw[fE hi]at hj;cases hj;exact⟨hi,rfl⟩
theorem xhV{lo x:Int}{n i:Nat}(h:x∈(xX lo n).take i):lo≤x∧x<lo+i:=by
 obtain⟨j,hj⟩:=bS.mp h;rw[dJ]at hj
 split at hj
 ·have:=xbi hj;lia
 ·cases hj
theorem xjE{to:Int}{d k j:Nat}{x:Int}(h:x∈uch to d k j):to+(j*d:Nat)≤x∧x<to+(j*d:Nat)+d∧x<to+k:=by
 unfold uch at h;have:=yJ.mp h;omega
theorem xgl{e:Int}{d k j:Nat}{x:Int}(h:x∈dch e d k j):e - ((j+1)*d:Nat)≤x∧x<e - (j*d:Nat)∧e - k≤x:=by
 unfold dch at h;have:=yJ.mp h;have e1:(j+1)*d=j*d+d:=fN j d;omega
theorem xhW{xss:List (List Int)}{k:Nat}{x:Int}(h:x∈(xss.take k).flatten):∃j p,j<k∧xss[j]? =some p∧x∈p:=by
 obtain⟨p,hp,hx⟩:=dE.mp h;obtain⟨j,hj⟩:=bS.mp hp;rw[dJ]at hj
 split at hj
 ·rename_i hlt;exact⟨j,p,hlt,hj,hx⟩
 ·cases hj
theorem xmj{to st c:Int}(hc:1≤c){k i:Nat}{p:List Int}{d x:Int}(hp:(yC to st c)[k]? =some p)(hd:p[i]? =some d)(hx:x∈((yC to st c).take k).flatten++p.take i):x≠st+d - to:=by
 unfold yC at hp hx
 split at hp
 ·simp at hp
 rename_i hne;rw[if_neg hne]at hx
 split at hp
 ·rename_i hlt;rw[if_pos hlt]at hx;obtain⟨hk,rfl⟩:=jy hp;unfold uch at hd;have h1:=xbi hd;rcases aM.mp hx with hx|hx
  ·obtain⟨j,q,hj,hq,hxq⟩:=xhW hx;obtain⟨_,rfl⟩:=jy hq;have h2:=xjE hxq;have h3:(j+1)*(st - to).toNat≤k*(st - to).toNat:=gG _ hj;have e1:(j+1)*(st - to).toNat=j*(st - to).toNat+(st - to).toNat:=fN _ _;omega
  ·have h2:=xhV hx;omega
 ·rename_i hlt;rw[if_neg hlt]at hx;obtain⟨hk,rfl⟩:=jy hp;unfold dch at hd;have h1:=xbi hd;have ek:(k+1)*(to - st).toNat=k*(to - st).toNat+(to - st).toNat:=fN _ _;rcases aM.mp hx with hx|hx
  ·obtain⟨j,q,hj,hq,hxq⟩:=xhW hx;obtain⟨_,rfl⟩:=jy hq;have h2:=xgl hxq;have h3:(j+1)*(to - st).toNat≤k*(to - st).toNat:=gG _ hj;omega
  ·unfold dch at hx;have h2:=xhV hx;omega
theorem xk7{u:Nat→Nat→List Int}{d k j:Nat}(h:j<cN d k):u k j∈chs u d k:=aT.mpr ⟨j,bp.mpr h,rfl⟩
theorem xpl{d k m:Nat}(hd:0<d)(h:m<k):m / d<cN d k:=by
 unfold cN;rw[Nat.div_lt_iff_lt_mul hd];have h1:=i5 (k+d - 1) d;have h2:=Nat.mod_lt (k+d - 1) hd;have e1:(k+d - 1) / d*d=d*((k+d - 1) / d):=iB _ _;omega
theorem xgm{to st c:Int}(hc:1≤c){x:Int}:x∈(yC to st c).flatten↔st≠to∧to≤x∧x<to+c:=by
 unfold yC
 by_cases hne:st=to
 ·rw[if_pos hne];simp[hne]
 rw[if_neg hne]
 by_cases hlt:to<st
 ·rw[if_pos hlt,dE];constructor
  ·rintro⟨p,hp,hx⟩;obtain⟨j,hj⟩:=bS.mp hp;obtain⟨_,rfl⟩:=jy hj;have:=xjE hx;exact⟨hne,by omega,by omega⟩
  ·rintro⟨_,h1,h2⟩;have hd:0<(st - to).toNat:=by omega
   generalize (st - to).toNat=d at hd;have hm:=i5 (x - to).toNat d;have hr:=Nat.mod_lt (x - to).toNat hd;have ec:(x - to).toNat / d*d=d*((x - to).toNat / d):=iB _ _;refine⟨_,xk7 (xpl hd (show(x - to).toNat<c.toNat by omega)),?_⟩;unfold uch;rw[yJ];omega
 ·rw[if_neg hlt,dE];constructor
  ·rintro⟨p,hp,hx⟩;obtain⟨j,hj⟩:=bS.mp hp;obtain⟨_,rfl⟩:=jy hj;have:=xgl hx;exact⟨hne,by omega,by omega⟩
  ·rintro⟨_,h1,h2⟩;have hd:0<(to - st).toNat:=by omega
   generalize (to - st).toNat=d at hd;have hm:=i5 (to+c - 1 - x).toNat d;have hr:=Nat.mod_lt (to+c - 1 - x).toNat hd;have ec:(to+c - 1 - x).toNat / d*d=d*((to+c - 1 - x).toNat / d):=iB _ _;have ed:((to+c - 1 - x).toNat / d+1)*d=(to+c - 1 - x).toNat / d*d+d:=fN _ _;refine⟨_,xk7 (xpl hd (show(to+c - 1 - x).toNat<c.toNat by omega)),?_⟩;unfold dch;rw[yJ];omega
theorem xjF{to st c:Int}{p:List Int}(hp:p∈yC to st c):p.length≤(st - to).natAbs:=by
 unfold yC at hp
 split at hp
 ·simp at hp
 split at hp
 all_goals
  obtain⟨j,hj⟩:=bS.mp hp;obtain⟨_,rfl⟩:=jy hj
  first|unfold uch|unfold dch
  rw[xT];lia
theorem xoK{old new:Int}{L:Nat}{r:xf}{c:List Int}(hk:r.ok)(hs:Sm r)(hf:xdU old new r)(h1:old≤L)(h2:new≤L)(hc:c∈uf r):xax L (r,c):=by
 cases r with
 |take to st n=>
  obtain⟨k1,k2,k3⟩:=hk;obtain⟨s1,s2,s3⟩:=hs;obtain⟨f1,f2⟩:=hf;have hc:c∈yC to st n:=hc;have hl:=xjF hc;refine⟨⟨k1,k2,k3⟩,by show c.length≤300;lia,fun d hd=>?_⟩;have hm:=(xgm k3).mp (dE.mpr ⟨c,hc,hd⟩);exact⟨by lia,by lia,by lia,by lia⟩
 |put to sg=>
  have hk':=hk;obtain⟨k1,k2,k3,k4⟩:=hk;have s2:sg.length≤60:=hs.2;have f1:to+sg.length≤new:=hf;have hc:c∈[xX to sg.length]:=hc;rw[ax.mp hc];refine⟨hk',by show(xX to sg.length).length≤300;rw[xT];lia,fun d hd=>?_⟩;have hm:=yJ.mp hd;exact⟨by lia,by lia,by lia,by lia⟩
theorem xrx{H:Hp}{us:List Addr}{rs:List xf}{old new:Int}{L:Nat}(hp:Paired (GT K H) us rs)(hf:∀r∈rs,xdU old new r)(h1:old≤L)(h2:new≤L):∀x∈zl rs,xax L x:=by
 intro x hx;unfold zl at hx;obtain⟨r,hr,hx⟩:=iO.mp hx;obtain⟨c,hc,rfl⟩:=aT.mp hx;obtain⟨u,_,hg⟩:=Paired.mem2 hp hr;exact xoK hg.2.1 hg.2.2 (hf r hr) h1 h2 hc
theorem xqh(lo:Int)(n:Nat):(xX lo n).Pairwise (· < ·):=by
 rw[bL];intro i j hi hj hij;have h1:=xbi (ag hi);have h2:=xbi (ag hj);lia
theorem xjG{r:xf}{c:Int}:c∈r.cv↔r.to≤c∧c<r.to+r.cnt:=by
 cases r with
 |take to st n=>exact yJ
 |put to sg=>exact yJ
theorem xgn{r:xf}{c:Int}(h:c∈r.wrs):c∈r.cv:=by
 cases r with
 |take to st n=>
  simp only[xf.wrs]at h
  split at h
  ·cases h
  ·exact h
 |put to sg=>exact h
theorem xsf(r:xf):r.cv.Nodup:=by
 have h:∀lo n,(xX lo n).Nodup:=fun lo n=>(xqh lo n).imp (fun h=>by lia);cases r with
 |take to st n=>exact h _ _
 |put to sg=>exact h _ _
theorem xk8:∀(l:List (Nat×Int)) (seen:List Int),(l.map kA).Nodup→(∀x∈l.map kA,x∉seen)→tw l seen=none
 |[],_,_,_=>rfl
 |(k,c)::r,seen,h1,h2=>by
  have h3:c∉r.map kA∧(r.map kA).Nodup:=cw.mp h1;have h4:c∉seen:=h2 c (by simp);show(if c∈seen then some (k,c)else tw r (c::seen))=none;rw[if_neg h4];refine xk8 r (c::seen) h3.2 fun x hx z=>?_;rcases ao.mp z with rfl|z
  ·exact h3.1 hx
  ·exact h2 x (aC _ hx) z
theorem xk9:∀(k:Nat) (xss:List (List Int)),(num k xss).map kA=xss.flatten
 |_,[]=>rfl
 |k,cs::r=>by simp[num,xk9 (k+1) r,ij]
def Dis(rs:List xf):Prop:=∀(i j:Nat) (r s:xf),rs[i]? =some r→rs[j]? =some s→∀c,c∈r.cv→c∈s.cv→i=j
def Wr(wr:List Int)(rs:List xf)(k:Nat)(x:Int):Prop:=x∈wr∨∃j r,j<k∧rs[j]? =some r∧x∈r.wrs
theorem Wr.step{wr:List Int}{r:xf}{rs:List xf}{k:Nat}{x:Int}:Wr wr (r::rs) (k+1) x↔Wr (wr++r.wrs) rs k x:=by
 unfold Wr;constructor
 ·rintro(h|⟨j,s,h1,h2,h3⟩)
  ·exact .inl (bN _ h)
  ·cases j with
   |zero=>cases h2;exact .inl (aN _ h3)
   |succ j=>exact .inr ⟨j,s,by lia,h2,h3⟩
 ·rintro(h|⟨j,s,h1,h2,h3⟩)
  ·rcases aM.mp h with h|h
   ·exact .inl h
   ·exact .inr ⟨0,r,by lia,rfl,h⟩
  ·exact .inr ⟨j+1,s,by lia,h2,h3⟩
theorem Wr.zero{wr:List Int}{rs:List xf}{x:Int}:Wr wr rs 0 x↔x∈wr:=⟨fun h=>h.elim id fun⟨_,_,z,_⟩=>absurd z (cz _),.inl⟩
theorem xgo:∀{rs:List xf} {n:Nat} {wr:List Int},vd n rs wr=none→∀k r,rs[k]? =some r→∀x∈r.rds,¬Wr wr rs k x
 |[],_,_,_,_,_,h,_,_=>by simp at h
 |r0::rs,n,wr,h,k,r,hr,x,hx=>by
  simp only[vd]at h
  split at h
  ·cases h
  ·rename_i hf;cases k with
   |zero=>
    cases hr;rw[Wr.zero];simpa using eW.mp hf x hx
   |succ k=>
    rw[Wr.step];exact xgo h k r hr x hx
theorem xhm{r:xf}(ok:r.ok){x:Int}:x∈(pcs r).flatten↔x∈r.wrs:=by
 cases r with
 |take to st c=>
  obtain⟨k1,k2,k3⟩:=ok;show x∈(yC to st c).flatten↔_;rw[xgm k3];simp only[xf.wrs]
  split
  ·rename_i h;simp[h]
  ·rename_i h;rw[yJ,bT (by lia)];exact⟨fun z=>z.2,fun z=>⟨h,z⟩⟩
 |put to sg=>simp[pcs,xf.wrs]
structure jg(es C0:List Int)(rs:List xf)(Cs:Nat→List Int):Prop where
 z:∃z,C0=es++z
 run:xpk rs C0 Cs rs.length
 good:∀r∈rs,Good es.length r∧r.to+r.cnt≤C0.length
 dis:Dis rs
theorem jg.keep{es C0:List Int}{rs:List xf}{Cs:Nat→List Int}(h:jg es C0 rs Cs){x:Nat}(hx:x<C0.length):∀{k:Nat},k≤rs.length→¬Wr [] rs k x→(Cs k)[x]? =C0[x]?
 |0,_,_=>by rw[h.run.1]
 |k+1,hk,hw=>by
  obtain⟨r,hr⟩:∃r,rs[k]? =some r:=⟨_,ag (by lia)⟩;have ok:=(h.good r (az hr)).1.1;have h1:=(h.run.2.2 k r (by lia) hr).2 x (by rw[h.run.2.1];exact hx);rw[h1,if_neg (fun z=>hw (.inr ⟨k,r,by lia,hr,(xhm ok).mp z⟩))];refine h.keep hx (by lia) fun z=>hw ?_;rcases z with z|⟨j,s,z1,z2,z3⟩
  ·cases z
  ·exact .inr ⟨j,s,by lia,z2,z3⟩
theorem jg.wrote{es C0:List Int}{rs:List xf}{Cs:Nat→List Int}(h:jg es C0 rs Cs){x:Nat}(hx:x<C0.length){j:Nat}{r:xf}(hr:rs[j]? =some r)(hw:(x:Int)∈r.wrs):∀{k:Nat},j<k→k≤rs.length→(Cs k)[x]? =xme (Cs j) r x
 |0,z,_=>absurd z (cz _)
 |k+1,hj,hk=>by
  obtain⟨s,hs⟩:∃r,rs[k]? =some r:=⟨_,ag (by lia)⟩;have ok:=(h.good s (az hs)).1.1;have h1:=(h.run.2.2 k s (by lia) hs).2 x (by rw[h.run.2.1];exact hx)
  by_cases e:j=k
  ·subst e;rw[hr]at hs;cases hs;rw[h1,if_pos ((xhm ok).mpr hw)]
  ·rw[h1,if_neg (fun z=>e (h.dis j k r s hr hs x (xgn hw) (xgn ((xhm ok).mp z))))];exact h.wrote hx hr hw (by lia) (by lia)
theorem jg.told{es C0:List Int}{rs:List xf}{Cs:Nat→List Int}(h:jg es C0 rs Cs){x:Nat}{j:Nat}{r:xf}(hr:rs[j]? =some r)(hw:(x:Int)∈r.wrs)(hno:∀y∈r.rds,¬Wr [] rs j y):xme (Cs j) r x=(r.sg es)[((x:Int) - r.to).toNat]? :=by
 obtain⟨⟨ok,_,hin⟩,hto⟩:=h.good r (az hr);obtain⟨z,hz⟩:=h.z;have hj:j<rs.length:=(au.mp hr).1;cases r with
 |put to sg=>rfl
 |take to st c=>
  obtain⟨k1,k2,k3⟩:=ok;have hin:st+c≤es.length:=hin;simp only[xf.wrs]at hw
  split at hw
  ·cases hw
  rename_i hne;have hx:=yJ.mp hw;have hy:st+x - to∈xf.rds (.take to st c):=by
   simp only[xf.rds];rw[if_neg hne];exact yJ.mpr (by lia)
  have e1:((st+x - to).toNat:Int)=st+x - to:=by lia
  have h1:=h.keep (x:=(st+x - to).toNat) (by rw[hz,aq];lia) (b7 hj) (by rw[e1];exact hno _ hy);show(Cs j)[(st+x - to).toNat]? =((es.drop st.toNat).take c.toNat)[((x:Int) - to).toNat]?;rw[h1,hz,bo (by lia),dJ,if_pos (by lia),cb]
  congr 1;lia
theorem jg.fine{es C0 nw:List Int}{rs:List xf}{Cs:Nat→List Int}(h:jg es C0 rs Cs)(hl:jf rs=none)(hC:nw.length≤C0.length)(ht:∀r∈rs,Tells es nw r)(hc:∀j,j<nw.length→∃r∈rs,yg r j):(Cs rs.length).take nw.length=nw:=by
 have hno:=xgo (n:=0) (wr:=[]) hl;obtain⟨z,hz⟩:=h.z;have hzl:C0.length=es.length+z.length:=by rw[hz];simp
 apply dY;intro j;rw[dJ]
 by_cases hj:j<nw.length
 ·rw[if_pos hj];obtain⟨r,hr,hcv⟩:=hc j hj;obtain⟨i,hi⟩:=bS.mp hr;have hil:i<rs.length:=(au.mp hi).1;obtain⟨t1,t2,t3,t4⟩:=ht r hr;have hto:=t1.to;have e2:=t4 ((j:Int) - r.to).toNat (by have:=hcv.1;have:=hcv.2;lia);rw[show(r.to+(((j:Int) - r.to).toNat:Nat)).toNat=j by have:=hcv.1;lia]at e2;rw[e2]
  by_cases hw:(j:Int)∈r.wrs
  ·rw[h.wrote (by lia) hi hw hil (ai _),h.told hi hw (hno i r hi)]
  ·have hn:¬Wr [] rs rs.length (j:Int):=by
    rintro(z|⟨i',s,_,h2,h3⟩)
    ·cases z
    have:=h.dis i i' r s hi h2 j (xjG.mpr hcv) (xgn h3);subst this;rw[hi]at h2;cases h2;exact hw h3
   rw[h.keep (by lia) (ai _) hn];cases r with
   |put to sg=>exact absurd (yJ.mpr hcv) hw
   |take to st c=>
    simp only[xf.wrs]at hw
    split at hw
    ·rename_i est;subst est;obtain⟨c1,c2⟩:=hcv;have c1:st≤(j:Int):=c1;have c2:(j:Int)<st+(c.toNat:Nat):=c2;have t2:st+c≤es.length:=t2;have hto:0≤st:=hto;show _=((es.drop st.toNat).take c.toNat)[((j:Int) - st).toNat]?;rw[hz,bo (by lia),dJ,if_pos (by lia),cb]
     congr 1;lia
    ·exact absurd (yJ.mpr hcv) hw
 ·rw[if_neg hj,cX (by lia)]
theorem jg.rest{es C0 nw:List Int}{rs:List xf}{Cs:Nat→List Int}(h:jg es C0 rs Cs)(ht:∀r∈rs,Tells es nw r):(Cs rs.length).drop nw.length=C0.drop nw.length:=by
 apply dY;intro j;rw[cb,cb]
 by_cases hj:nw.length+j<C0.length
 ·have hn:¬Wr [] rs rs.length ((nw.length+j:Nat):Int):=by
   rintro(z|⟨i',s,_,h2,h3⟩)
   ·cases z
   have h4:=xjG.mp (xgn h3);have h5:=(ht s (az h2)).2.2.1;lia
  rw[h.keep hj (ai _) hn]
 ·rw[cX (by rw[h.run.2.1];lia),cX (by lia)]
theorem xnJ{C cur:List Int}{r:xf}{D:List Int}{d:Int}(h:Part C r D cur)(hc:xck r C.length d)(hs:∀to st c,r= .take to st c→st+d - to∉D):Part C r (D++[d]) (ve r cur d):=by
 obtain⟨hl,hv⟩:=h;obtain⟨h0,h1,h2⟩:=hc;have key:∀v:Int,xme C r d=some v→ve r cur d=cur.set d.toNat v→Part C r (D++[d]) (ve r cur d):=fun v e1 e2=>by
  rw[e2];refine⟨by rw[gA];exact hl,fun j hj=>?_⟩;rw[List.getElem?_set]
  by_cases e:d.toNat=j
  ·have ej:(j:Int)=d:=by lia
   rw[if_pos e,if_pos (by lia),if_pos (aN _ (by simp[ej])),ej,e1]
  ·rw[if_neg e,hv j hj]
   by_cases hm:(j:Int)∈D
   ·rw[if_pos hm,if_pos (bN _ hm)]
   ·rw[if_neg hm,if_neg];intro z;rcases aM.mp z with z|z
    ·exact hm z
    ·have:=ax.mp z;lia
 cases r with
 |take to st c=>
  obtain⟨h3,h4⟩:=h2;have hlt:(st+d - to).toNat<C.length:=by lia
  have e:=hv (st+d - to).toNat hlt;rw[bT h3,if_neg (hs to st c rfl),ag hlt]at e;refine key C[(st+d - to).toNat] (ag hlt) ?_;show cur.set d.toNat (cur.getD (st+d - to).toNat 0)=_;rw[cu,e];rfl
 |put to sg=>
  obtain⟨h3,h4⟩:=h2;have hlt:(d - to).toNat<sg.length:=by lia
  refine key sg[(d - to).toNat] (ag hlt) ?_;show cur.set d.toNat (sg.getD (d - to).toNat 0)=_;rw[cu,ag hlt];rfl
theorem xhX{C:List Int}{r:xf}:∀(ds:List Int) {D cur:List Int},Part C r D cur→(∀d∈ds,xck r C.length d)→(∀(i:Nat) (d:Int),ds[i]? =some d→∀to st c,r= .take to st c→st+d - to∉D++ds.take i)→Part C r (D++ds) (doP r cur ds)
 |[],D,cur,h,_,_=>by rw[dO];exact h
 |d::ds,D,cur,h,hc,ho=>by
  have h1:=xnJ h (hc d aK) fun to st c e=>by
   have:=ho 0 d rfl to st c e;simpa using this
  have h2:=xhX ds h1 (fun x hx=>hc x (aC _ hx)) fun i x hx to st c e=>by
   have:=ho (i+1) x hx to st c e;simpa using this
  rw[c8]at h2;exact h2
theorem xla:∀{xss:List (List Int)} {i:Nat} {d:Int},xss.flatten[i]? =some d→∃(k m:Nat) (p:List Int),xss[k]? =some p∧p[m]? =some d∧xss.flatten.take i=(xss.take k).flatten++p.take m
 |[],i,d,h=>by simp at h
 |p::xss,i,d,h=>by
  rw[dz]at h⊢
  by_cases hi:i<p.length
  ·rw[bo hi]at h;exact⟨0,i,p,rfl,h,by rw[List.take_append_of_le_length (b7 hi)];rfl⟩
  ·rw[bI (by lia)]at h;obtain⟨k,m,q,h1,h2,h3⟩:=xla h;refine⟨k+1,m,q,h1,h2,?_⟩;rw[List.take_append,h3,aZ (by lia),gN,dz,c8]
theorem xlb(r:xf):∀(cs:List (List Int)) (C:List Int),doL C (cs.map fun c=>(r,c))=doP r C cs.flatten
 |[],_=>rfl
 |c::cs,C=>by
  rw[dz];show doL (doP r C c) (cs.map fun c=>(r,c))=(c++cs.flatten).foldl (ve r) C;rw[e7,xlb r cs];rfl
theorem xmk(C:List Int)(xs ys:List (xf×List Int)):doL C (xs++ys)=doL (doL C xs) ys:=by
 unfold doL;rw[e7]
theorem xnK(r:xf):uf r=pcs r:=by cases r<;> rfl
theorem xoL{C:List Int}{r:xf}(hk:r.ok)(hc:∀c∈uf r,xax C.length (r,c)):Part C r (pcs r).flatten (doL C ((uf r).map fun c=>(r,c))):=by
 rw[xlb,xnK];have:=xhX (C:=C) (r:=r) (pcs r).flatten (D:=[]) (cur:=C) ⟨rfl,fun j hj=>by simp⟩ (fun d hd=>by
  obtain⟨p,hp,hd⟩:=dE.mp hd;exact(hc p (by rw[xnK];exact hp)).2.2 d hd) fun i d hd to st c e=>by
   subst e;obtain⟨k,m,p,h1,h2,h3⟩:=xla hd;rw[i3,h3];intro z;exact xmj hk.2.2 h1 h2 z rfl
 rw[i3]at this;exact this
theorem xoM{rs:List xf}{j:Nat}{r:xf}(h:rs[j]? =some r):zl (rs.take (j+1))=zl (rs.take j)++(uf r).map fun c=>(r,c):=by
 unfold zl;rw[bw,h,gL];simp
theorem xry{rs:List xf}{C0:List Int}(hk:∀r∈rs,r.ok)(hc:∀x∈zl rs,xax C0.length x):xpk rs C0 (fun k=>doL C0 (zl (rs.take k))) rs.length:=by
 refine⟨rfl,fun j=>xel _ _,fun j r _ hr=>?_⟩;show Part (doL C0 (zl (rs.take j))) r _ (doL C0 (zl (rs.take (j+1))));rw[xoM hr,xmk];have hm:=az hr;refine xoL (hk r hm) fun c h=>?_;rw[xel];exact hc (r,c) (iO.mpr ⟨r,hm,aT.mpr ⟨c,h,rfl⟩⟩)
end
namespace JD
def xdW(K:ah):Sp:=fun vs H Q _=>∃(p C dx:Addr) (fs:List (Str×V)) (to c:Int),vs=[.ref p]∧H p=some (.ins C dx fs)∧Cls K C∧xI K C "to"∧xI K C "count"∧fs.lookup ("to":Str)=some (.int to)∧fs.lookup ("count":Str)=some (.int c)∧∀t,H t=none→Q (.ref t) (upd H t (.tup [.int to,.int (to+c)]))
section
variable {P:aI} {w:World} {K:ah} {mg:Str→Option Value} {base:Heap} {a:Adr}
theorem uc(T:Txt K mg a):xv P w K mg base CX0 1 a.q0u a.vT ["self"] (xdW K):=by
 refine T.q1H.ok vc (fun vs H Q E h=>?_) (fun cdv A outer s H vs Q E hr h=>?_)
 ·obtain⟨p,C,dx,fs,to,c,rfl,_⟩:=h;rfl
 ·obtain⟨p,C,dx,fs,to,c,rfl,hp,cl,n1,n2,l1,l2,k⟩:=h;have nd:=vc.nd;refine⟨_,(xi (xq (yX (xa (xx (cv 0) rfl) (xa (xn xK (xx (cv 0) rfl) (xx (cv 0) rfl)) xc))))),?_⟩;walk_at"w";refine⟨p,C,dx,fs,_,rfl,hp,cl,n1,l1,?_⟩;walk_at"w";refine⟨p,C,dx,fs,_,rfl,hp,cl,n1,l1,?_⟩;walk_at"w";refine⟨p,C,dx,fs,_,rfl,hp,cl,n2,l2,?_⟩;walk_at"w";exact⟨by walk_at"side",k⟩
def xjH(to st c:Int):List Int:=if st=to then[]else xX st c.toNat
def xhn(to st c:Int):List Int:=if st=to then[]else xX to c.toNat
def xhY(a:Adr):Sp:=fun vs H Q _=>∃(p dx:Addr) (to st c:Int),vs=[.ref p]∧H p=some (.ins a.q0a dx (xao to st c))∧c.toNat≤2^24∧xbZ H Q (xjH to st c)
def xgp(a:Adr):Sp:=fun vs H Q _=>∃(p dx:Addr) (to st c:Int),vs=[.ref p]∧H p=some (.ins a.q0a dx (xao to st c))∧c.toNat≤2^24∧xbZ H Q (xhn to st c)
def xhZ(a:Adr):Sp:=fun vs H Q _=>∃(p dx t:Addr) (to n:Int),vs=[.ref p]∧H p=some (.ins a.q0c dx (jD to t n))∧xbZ H Q []
def xgq(a:Adr):Sp:=fun vs H Q _=>∃(p dx t:Addr) (to n:Int),vs=[.ref p]∧H p=some (.ins a.q0c dx (jD to t n))∧n.toNat≤2^24∧xbZ H Q (xX to n.toNat)
theorem xio(T:Txt K mg a):xv P w K mg base CX0 2 a.q1j a.xaV ["self"] (xhY a):=by
 refine T.q2e.ok xcX (fun vs H Q E h=>?_) (fun cdv A outer s H vs Q E hr h=>?_)
 ·obtain⟨p,dx,to,st,c,rfl,_⟩:=h;rfl
 ·obtain⟨p,dx,to,st,c,rfl,hp,hc,k⟩:=h;have nd:=xcX.nd;refine⟨_,(xg (xM (yz (xD (cv 0) T.q0b T.q1s (ub T) (hr.mono (by decide)) T.uA .nil xo)) (xi (xq (yh xc))) xF)
  (xi (xq (yb (uY rfl) (by rfl) T.q1t yT (xa (xbn (by rfl) T.q06 (xa (xx (cv 0) rfl) (xa (xn xK (xx (cv 0) rfl) (xx (cv 0) rfl)) xc))) xc))))),?_⟩
  walk_at"w";refine⟨p,dx,_,rfl,hp,rfl,?_⟩;walk_at"w";refine⟨p,dx,to,st,c,rfl,hp,?_⟩;walk_at"w";refine⟨fun e=>?_,fun e=>?_⟩
  ·walk_at"w";refine⟨by decide,fun l hl=>?_⟩;have e':st=to:=of_decide_eq_true e;exact k l _ (xb.new hl) hl (by rw[xk,xjH,if_pos e'];rfl)
  ·have e':¬st=to:=of_decide_eq_false e;walk_at"w";refine⟨p,_,dx,_,.int st,rfl,hp,T.q0b,T.q0e,rfl,?_⟩;walk_at"w";refine⟨p,_,dx,_,.int st,rfl,hp,T.q0b,T.q0e,rfl,?_⟩;walk_at"w";refine⟨p,_,dx,_,.int c,rfl,hp,T.q0b,T.q0f,rfl,?_⟩;walk_at"w";intro r hr1;walk_at"w";have e2:yG st (st+c) 1=c.toNat:=by rw[zh];congr 1;lia
   refine⟨r,st,st+c,rfl,xk,by rw[e2];exact hc,fun l hl=>?_⟩;rw[e2,xei];have hl0:H l=none:=xb.free (xb.new hr1) hl;exact k l _ ((xb.new hr1).put hl0) hl0 (by rw[xk,xjH,if_neg e'])
theorem xho(T:Txt K mg a):xv P w K mg base CX0 2 a.q07 a.jY ["self"] (xgp a):=by
 refine T.q1O.ok xcf (fun vs H Q E h=>?_) (fun cdv A outer s H vs Q E hr h=>?_)
 ·obtain⟨p,dx,to,st,c,rfl,_⟩:=h;rfl
 ·obtain⟨p,dx,to,st,c,rfl,hp,hc,k⟩:=h;have nd:=xcf.nd;refine⟨_,(xg (xM (yz (xD (cv 0) T.q0b T.q1s (ub T) (hr.mono (by decide)) T.uA .nil xo)) (xi (xq (yh xc))) xF)
  (xi (xq (xD (cv 0) T.q0b T.q1r (yl T) (hr.mono (by decide)) T.yx .nil xo)))),?_⟩
  walk_at"w";refine⟨p,dx,_,rfl,hp,rfl,?_⟩;walk_at"w";refine⟨p,dx,to,st,c,rfl,hp,?_⟩;walk_at"w";refine⟨fun e=>?_,fun e=>?_⟩
  ·walk_at"w";refine⟨by decide,fun l hl=>?_⟩;have e':st=to:=of_decide_eq_true e;exact k l _ (xb.new hl) hl (by rw[xk,xhn,if_pos e'];rfl)
  ·have e':¬st=to:=of_decide_eq_false e;walk_at"w";refine⟨p,dx,_,rfl,hp,rfl,?_⟩;walk_at"w";refine⟨p,_,dx,_,to,c,rfl,hp,T.q0b,T.q0i,T.q0f,rfl,rfl,hc,fun l H' s1 hl hv=>?_⟩;exact k l H' s1 hl (by rw[hv,xhn,if_neg e'])
theorem xjI(T:Txt K mg a):xv P w K mg base CX0 1 a.q1z a.xbR ["self"] (xhZ a):=by
 refine T.q2z.ok xdL (fun vs H Q E h=>?_) (fun cdv A outer s H vs Q E hr h=>?_)
 ·obtain⟨p,dx,t,to,n,rfl,_⟩:=h;rfl
 ·obtain⟨p,dx,t,to,n,rfl,hp,k⟩:=h;have nd:=xdL.nd;refine⟨_,(xi (xq (yh xc))),?_⟩;walk_at"w";exact⟨by decide,fun l hl=>k l _ (xb.new hl) hl (by rw[xk];rfl)⟩
theorem xip(T:Txt K mg a):xv P w K mg base CX0 2 a.q1k a.xaW ["self"] (xgq a):=by
 refine T.q2f.ok xcY (fun vs H Q E h=>?_) (fun cdv A outer s H vs Q E hr h=>?_)
 ·obtain⟨p,dx,t,to,n,rfl,_⟩:=h;rfl
 ·obtain⟨p,dx,t,to,n,rfl,hp,hn,k⟩:=h;have nd:=xcY.nd;refine⟨_,(xi (xq (xD (cv 0) T.q0g T.q1h (yl T) (hr.mono (by decide)) T.yx .nil xo))),?_⟩;walk_at"w";refine⟨p,dx,_,rfl,hp,rfl,?_⟩;walk_at"w";exact⟨p,_,dx,_,to,n,rfl,hp,T.q0g,T.q0x,T.q0p,rfl,rfl,hn,k⟩
def InD(kvs:List (Key×V))(seen:List Int):Prop:=∀c:Int,(yD kvs (.inl c)).isSome=decide (c∈seen)
theorem InD.nil:InD [] []:=fun c=>by simp[xn3]
theorem InD.put{kvs:List (Key×V)}{seen:List Int}(h:InD kvs seen)(c:Int)(v:V):InD (putK kvs (.inl c) v) (c::seen):=by
 intro x;rw[xn4]
 by_cases e:x=c
 ·subst e;rw[if_pos rfl];simp
 ·rw[if_neg (fun z=>e (by cases z;rfl)),h x]
  congr 1
  exact propext ⟨fun z=>aC _ z,fun z=>(ao.mp z).resolve_left e⟩
theorem xft(kvs:List (Key×V))(k:Key)(v:V):(putK kvs k v).length≤kvs.length+1:=by
 unfold putK
 split
 ·rw[aa];lia
 ·rw[aq];simp
theorem xen(T:Txt K mg a){H:Hp}{o:Addr}{r:xf}{Q:VK}{σ:L2.St}{i:Nat}(ho:xy K a H o r)(hl:r.cv.length≤300)
  (k:∀l H',xb H H'→H l=none→H' l=some (.lst (r.cv.map V.int))→Q (.ref l) H') (hσ:σ[i]? =some (some (.ref o)):=by rfl):
  yo a.q0c "covered" (jd K) [] E0 (yE i) ug σ H Q∨yo a.q0a "covered" (jd K) [] E0 (yE i) ug σ H Q:=by
 cases r with
 |put to sg=>
  obtain⟨dx,u,h1,h2⟩:=ho
  left
  unfold yo yE;rw[hσ];have e:(sg.length:Int).toNat=sg.length:=by simp
  have hl':sg.length≤300:=by rw[show xf.cv (.put to sg)=xX to sg.length from rfl,xT]at hl;exact hl
  refine⟨o,dx,_,rfl,h1,rfl,o,a.q0c,dx,_,to,sg.length,rfl,h1,T.q0g,T.q0x,T.q0p,rfl,rfl,by rw[e];exact a7 hl' (by decide),fun l H' s n eL=>k l H' s n ?_⟩;rw[e]at eL;exact eL
 |take to st c=>
  obtain⟨dx,h1⟩:=ho
  right
  unfold yo yE;rw[hσ];have hl':c.toNat≤300:=by rw[show xf.cv (.take to st c)=xX to c.toNat from rfl,xT]at hl;exact hl
  exact⟨o,dx,_,rfl,h1,rfl,o,a.q0a,dx,_,to,c,rfl,h1,T.q0b,T.q0i,T.q0f,rfl,rfl,a7 hl' (by decide),fun l H' s n eL=>k l H' s n eL⟩
theorem xoN(k:Nat)(all:List (List Int))(cs:List Int)(h:all[0]? =some cs):num k all=cs.map (fun c=>(k,c))++num (k+1) (all.drop 1):=by
 cases all with
 |nil=>simp at h
 |cons x r=>simp at h;subst h;rfl
theorem xfu(T:Txt K mg a):xv P w K mg base CX0 2 a.q0Z a.vZ ["rows"] (xoB K a):=by
 refine T.q04.ok xbf (fun vs H Q E h=>?_) (fun cdv A outer s H vs Q E hr h=>?_)
 ·obtain⟨l,rs,rfl,_⟩:=h;rfl
 ·obtain⟨l,rs,rfl,⟨ts,hl,hp⟩,⟨hr1,hr2⟩,hN,q⟩:=h;have nd:=xbf.nd;refine⟨_,(xg (xt (i:=1) nd rfl (aD rfl) xe6)
  (xg (ym aV rfl (xgW (by rfl) T.q2a (xa (cv 0) xc)) (vE rfl (yd (xG (i:=2) nd rfl (aD rfl)) (yd (xG (i:=3) nd rfl (aD rfl)) uF))) (xi (ym aV rfl (xR (uq (xD (cv 3) T.q0g T.q1h (yl T) (hr.mono (by decide)) T.yx .nil xo) (xD (cv 3) T.q0b T.q1r (yl T) (hr.mono (by decide)) T.yx .nil xo))) (xG (i:=4) nd rfl (aD rfl)) (xg (xM (xiB (xfK (xbm hr) (cv 4) (cv 1)) (by rfl)) jo xF)
  (xi (xgN (xbm hr) (cv 1) (cv 4) jz rfl))))))
  (xi (xq xb3)))),?_⟩
  walk_at"w";intro d hd';generalize hU0:upd H d _=H1;have sH1:=xb.of_eq hd' hU0;have ed:=xm hU0;clear hU0;walk_at"w";have htl:ts.length=rs.length:=hp.length;refine⟨l,rfl,⟨_,sH1.seq hl⟩,?_⟩;walk_at"w";refine xeF (xs:=ts.map V.ref) (fun i σ G=>xb H G∧(∃kvs seen,G d=some (.dK kvs)∧InD kvs seen∧kvs.length≤i*300∧xbg rs=tw (num i ((rs.map xf.cv).drop i)) seen)∧∃x2 x3 x4,σ=[some (.ref l),some (.ref d),x2,x3,x4]) ⟨sH1,⟨[],[],ed,InD.nil,by simp,rfl⟩,_,_,_,rfl⟩ (fun i σ G hi hP=>hP.1.seq hl) (fun i x σ G T0 hx hP hT0=>?_) (fun σ G hP=>?_)
  ·obtain⟨s1,⟨kvs,seen,hd,hin,hkl,htw⟩,x2,x3,x4,rfl⟩:=hP;rw[ak]at hx;obtain⟨o,ho,rfl⟩:=aQ.mp hx;have hi:i<ts.length:=(au.mp ho).1;obtain⟨r,hr,hob⟩:=Paired.nth hp ho;generalize hU:upd G T0 _=G2;have s2:=xb.of_eq hT0 hU;have eT:=xm hU;clear hU;walk_at"w";refine⟨T0,_,rfl,SqT.of eT,rfl,?_⟩;walk_at"w";refine⟨_,_,rfl,?_⟩;walk_at"w";refine⟨_,_,rfl,?_⟩;walk_at"w";refine cS rfl ?_;walk_at"w";have hrm:r∈rs:=az hr;refine xen (K:=K) T (r:=r) (hob.same (s1.trans s2)) (hr2 r hrm).1 fun L G3 s3 hL eL=>?_;walk_at"w";refine⟨L,rfl,⟨_,SqL.of eL⟩,?_⟩;walk_at"w";have hd3:G3 d=some (.dK kvs):=s3.at (s2.at hd)
   have nLd:L≠d:=yZ eL hd3 (fun z=>by cases z);have hdr:((rs.map xf.cv).drop i)[0]? =some r.cv:=by rw[cb,lh,ak,hr];rfl
   rw[xoN i _ _ hdr,List.drop_drop]at htw;refine yH (xs:=r.cv.map V.int) (fun j σ G4=>xb H G4∧G4 L=some (.lst (r.cv.map V.int))∧(∃kvs seen,G4 d=some (.dK kvs)∧InD kvs seen∧kvs.length≤i*300+j∧xbg rs=tw ((r.cv.drop j).map (fun c=>(i,c))++num (i+1) ((rs.map xf.cv).drop (i+1))) seen)∧∃x4,σ=[some (.ref l),some (.ref d),some (.int i),some (.ref o),x4])
    ⟨s1.trans (s2.trans s3),eL,⟨kvs,seen,hd3,hin,by lia,by rw[fX];exact htw⟩,_,rfl⟩ (fun j σ G4 hj hQ=>SqL.of hQ.2.1) (fun j x σ G4 hx hQ=>?_) (fun σ G4 hQ=>?_)
   ·obtain⟨s4,eL4,⟨kvs4,seen4,hd4,hin4,hk4,htw4⟩,x4,rfl⟩:=hQ;rw[ak]at hx;obtain⟨c,hc,rfl⟩:=aQ.mp hx;have hj:j<r.cv.length:=(au.mp hc).1;have hb:=(hr2 r hrm).1;have ecut:r.cv.drop j=c::r.cv.drop (j+1):=by
     rw[bU hj,(au.mp hc).2]
    rw[ecut,bg,iC,tw]at htw4;walk_at"w";refine⟨d,_,rfl,xcq.k (k:=b9 c) hd4,?_⟩;walk_at"w";rw[hin4 c];refine⟨fun e=>?_,fun e=>?_⟩
    ·have e':=of_decide_eq_true e;rw[if_pos e']at htw4;rw[htw4]at hN;cases hN
    ·have e':=of_decide_eq_false e;rw[if_neg e']at htw4;walk_at"w";refine⟨d,_,rfl,xe5.k (k:=b9 c) hd4 (by rw[av];lia),?_⟩;generalize hV:upd G4 d _=G5;have s5:xb H G5:=xb.wr s4 hd' hV;have eL5:G5 L=some (.lst (r.cv.map V.int)):=by rw[←hV,xl nLd];exact eL4
     have hd5:=xm hV;clear hV;have:=xft kvs4 (b9 c) (.bl true);exact⟨s5,eL5,⟨_,_,hd5,hin4.put c _,by lia,htw4⟩,_,rfl⟩
   ·obtain⟨s4,eL4,⟨kvs4,seen4,hd4,hin4,hk4,htw4⟩,x4,rfl⟩:=hQ;rw[aa]at hk4 htw4;rw[iP]at htw4;have hb:=(hr2 r hrm).1;exact⟨s4,⟨kvs4,seen4,hd4,hin4,by lia,htw4⟩,_,_,_,rfl⟩
  ·obtain⟨s1,⟨kvs,seen,hd,hin,hkl,htw⟩,x2,x3,x4,rfl⟩:=hP;have e0:(rs.map xf.cv).drop (ts.map V.ref).length=[]:=by
    rw[aa,htl];exact cQ (by rw[aa];exact ai _)
   rw[e0]at htw;have e1:xbg rs=none:=htw;rw[e1]at q;exact q G s1
theorem xqi(T:Txt K mg a){H:Hp}{o:Addr}{r:xf}{Q:VK}{σ:L2.St}{i:Nat}(ho:xy K a H o r)(hc:r.cv.length≤300)
  (k:∀l H',xb H H'→H l=none→H' l=some (.lst (r.rds.map V.int))→Q (.ref l) H') (hσ:σ[i]? =some (some (.ref o)):=by rfl):
  yo a.q0c "reads" (xhZ a) [] E0 (yE i) ug σ H Q∨yo a.q0a "reads" (xhY a) [] E0 (yE i) ug σ H Q:=by
 cases r with
 |put to sg=>
  obtain⟨dx,u,h1,h2⟩:=ho
  left
  unfold yo yE;rw[hσ];exact⟨o,dx,_,rfl,h1,rfl,o,dx,u,to,sg.length,rfl,h1,fun l H' s n eL=>k l H' s n eL⟩
 |take to st c=>
  obtain⟨dx,h1⟩:=ho
  right
  unfold yo yE;rw[hσ];have hl':c.toNat≤300:=by rw[show xf.cv (.take to st c)=xX to c.toNat from rfl,xT]at hc;exact hc
  exact⟨o,dx,_,rfl,h1,rfl,o,dx,to,st,c,rfl,h1,a7 hl' (by decide),fun l H' s n eL=>k l H' s n eL⟩
theorem xqj(T:Txt K mg a){H:Hp}{o:Addr}{r:xf}{Q:VK}{σ:L2.St}{i:Nat}(ho:xy K a H o r)(hc:r.cv.length≤300)
  (k:∀l H',xb H H'→H l=none→H' l=some (.lst (r.wrs.map V.int))→Q (.ref l) H') (hσ:σ[i]? =some (some (.ref o)):=by rfl):
  yo a.q0c "writes" (xgq a) [] E0 (yE i) ug σ H Q∨yo a.q0a "writes" (xgp a) [] E0 (yE i) ug σ H Q:=by
 cases r with
 |put to sg=>
  obtain⟨dx,u,h1,h2⟩:=ho
  left
  unfold yo yE;rw[hσ];have e:(sg.length:Int).toNat=sg.length:=by simp
  have hl':sg.length≤300:=by rw[show xf.cv (.put to sg)=xX to sg.length from rfl,xT]at hc;exact hc
  refine⟨o,dx,_,rfl,h1,rfl,o,dx,u,to,sg.length,rfl,h1,by rw[e];exact a7 hl' (by decide),fun l H' s n eL=>k l H' s n ?_⟩;rw[e]at eL;exact eL
 |take to st c=>
  obtain⟨dx,h1⟩:=ho
  right
  unfold yo yE;rw[hσ];have hl':c.toNat≤300:=by rw[show xf.cv (.take to st c)=xX to c.toNat from rfl,xT]at hc;exact hc
  exact⟨o,dx,_,rfl,h1,rfl,o,dx,to,st,c,rfl,h1,a7 hl' (by decide),fun l H' s n eL=>k l H' s n eL⟩
theorem xdX{ls:List Int}{p:Int→Bool}{j:Nat}(h:∀i,i<j→∀c,ls[i]? =some c→p c=false):ls.find? p=(ls.drop j).find? p:=by
 induction j with
 |zero=>rfl
 |succ j ih=>
  rw[ih fun i hi=>h i (by lia)]
  by_cases hj:j<ls.length
  ·have hc:ls[j]? =some ls[j]:=ag hj;rw[bU hj,c9,h j (by lia) _ hc]
  ·rw[cQ (by lia),cQ (by lia)]
theorem xml(T:Txt K mg a):xv P w K mg base CX0 2 a.q2F a.xdB ["rows","new"] (xmc K a):=by
 refine T.q2K.ok xgd (fun vs H Q E h=>?_) (fun cdv A outer s H vs Q E hr h=>?_)
 ·obtain⟨l,rs,new,rfl,_⟩:=h;rfl
 ·obtain⟨l,rs,new,rfl,⟨ts,hl,hp⟩,⟨hr1,hr2⟩,hnew,hN,q⟩:=h;have nd:=xgd.nd;refine⟨_,(xg (xt (i:=2) nd rfl (aD rfl) xe6)
  (xg (ym aV rfl (xR (cv 0)) (xG (i:=3) nd rfl (aD rfl)) (xi (ym aV rfl (xR (uq (xD (cv 3) T.q0g T.q1h (yl T) (hr.mono (by decide)) T.yx .nil xo) (xD (cv 3) T.q0b T.q1r (yl T) (hr.mono (by decide)) T.yx .nil xo))) (xG (i:=4) nd rfl (aD rfl)) (xi (xgN (xbm hr) (cv 2) (cv 4) jz rfl)))))
  (xg (ym aV rfl (ur (by rfl) T.q06 (xa (cv 1) xc)) (xG (i:=4) nd rfl (aD rfl)) (xi (xM (xiB (xmR (xbm hr) (cv 4) (cv 2)) (by rfl)) jo xF)))
  (xi (xq xb3))))),?_⟩
  walk_at"w";intro d hd';generalize hU0:upd H d _=H1;have sH1:=xb.of_eq hd' hU0;have ed:=xm hU0;clear hU0;walk_at"w";have htl:ts.length=rs.length:=hp.length;refine⟨l,rfl,⟨_,sH1.seq hl⟩,?_⟩;walk_at"w";refine yH (xs:=ts.map V.ref) (fun i σ G=>xb H G∧(∃kvs seen,G d=some (.dK kvs)∧InD kvs seen∧kvs.length≤i*300∧∀c,c∈seen↔c∈((rs.map xf.cv).take i).flatten)∧∃x3 x4,σ=[some (.ref l),some (.int new),some (.ref d),x3,x4]) ⟨sH1,⟨[],[],ed,InD.nil,by simp,fun c=>by simp⟩,_,_,rfl⟩ (fun i σ G hi hP=>hP.1.seq hl) (fun i x σ G hx hP=>?_) (fun σ G hP=>?_)
  ·obtain⟨s1,⟨kvs,seen,hd,hin,hkl,hse⟩,x3,x4,rfl⟩:=hP;rw[ak]at hx;obtain⟨o,ho,rfl⟩:=aQ.mp hx;obtain⟨r,hr,hob⟩:=Paired.nth hp ho;have hrm:r∈rs:=az hr;have hi:i<ts.length:=(au.mp ho).1;walk_at"w";refine xen (K:=K) T (r:=r) (hob.same s1) (hr2 r hrm).1 fun L G3 s3 hL eL=>?_;walk_at"w";refine⟨L,rfl,⟨_,SqL.of eL⟩,?_⟩;walk_at"w";have hd3:G3 d=some (.dK kvs):=s3.at hd;have nLd:L≠d:=yZ eL hd3 (fun z=>by cases z);refine yH (xs:=r.cv.map V.int) (fun j σ G4=>xb H G4∧G4 L=some (.lst (r.cv.map V.int))∧(∃kvs seen,G4 d=some (.dK kvs)∧InD kvs seen∧kvs.length≤i*300+j∧∀c,c∈seen↔c∈((rs.map xf.cv).take i).flatten++r.cv.take j)∧∃x4,σ=[some (.ref l),some (.int new),some (.ref d),some (.ref o),x4])
    ⟨s1.trans s3,eL,⟨kvs,seen,hd3,hin,by lia,fun c=>by rw[kb,dO];exact hse c⟩,_,rfl⟩ (fun j σ G4 hj hQ=>SqL.of hQ.2.1) (fun j x σ G4 hx hQ=>?_) (fun σ G4 hQ=>?_)
   ·obtain⟨s4,eL4,⟨kvs4,seen4,hd4,hin4,hk4,hse4⟩,x4,rfl⟩:=hQ;rw[ak]at hx;obtain⟨c,hc,rfl⟩:=aQ.mp hx;have hj:j<r.cv.length:=(au.mp hc).1;have hb:=(hr2 r hrm).1;walk_at"w";refine⟨d,_,rfl,xe5.k (k:=b9 c) hd4 (by rw[av];lia),?_⟩;generalize hV:upd G4 d _=G5;have s5:xb H G5:=xb.wr s4 hd' hV;have eL5:G5 L=some (.lst (r.cv.map V.int)):=by rw[←hV,xl nLd];exact eL4
    have hd5:=xm hV;clear hV;have:=xft kvs4 (b9 c) (.bl true);refine⟨s5,eL5,⟨_,_,hd5,hin4.put c _,by lia,fun y=>?_⟩,_,rfl⟩;rw[bw,hc,←c8,aM,ao,hse4 y];simp[or_comm]
   ·obtain⟨s4,eL4,⟨kvs4,seen4,hd4,hin4,hk4,hse4⟩,x4,rfl⟩:=hQ;rw[aa]at hk4 hse4;rw[bO]at hse4;have hb:=(hr2 r hrm).1;refine⟨s4,⟨kvs4,seen4,hd4,hin4,by lia,fun c=>?_⟩,_,_,rfl⟩;rw[hse4 c,bw,ak,hr,List.flatten_append];simp
  ·obtain⟨s1,⟨kvs,seen,hd,hin,hkl,hse⟩,x3,x4,rfl⟩:=hP;rw[aa]at hse;have hse':∀c,c∈seen↔c∈(rs.map xf.cv).flatten:=fun c=>by
    rw[hse c,htl];rw[aZ (by rw[aa];exact ai _)]
   walk_at"w";have en:yG 0 ((new:Nat):Int) 1=new:=by rw[zh];lia
   rw[en];refine xbo (fun i σ G2=>G2=G∧(∀j,j<i→((j:Nat):Int)∈(rs.map xf.cv).flatten)∧∃x4,σ=[some (.ref l),some (.int new),some (.ref d),x3,x4]) ⟨rfl,fun j hj=>absurd hj (cz _),_,rfl⟩ (fun i σ G2 hi hQ=>?_) (fun σ G2 hQ=>?_)
   ·obtain⟨rfl,hall,x4,rfl⟩:=hQ;have ei:(0+(i:Int)*1)=(i:Int):=by lia
    rw[ei];walk_at"w";refine⟨d,_,rfl,xcq.k (k:=b9 (i:Int)) hd,?_⟩;walk_at"w";rw[hin];refine⟨fun e=>?_,fun e=>?_⟩
    ·have e':¬(i:Int)∈seen:=by simpa using e
     have ef:je rs new=some (i:Int):=by
      unfold je;rw[xdX (j:=i) (fun j hj c hc=>?_),bU (by simp;exact hi),c9]
      ·simp only[List.getElem_map,k9];have:¬(i:Int)∈(rs.map xf.cv).flatten:=fun z=>e' ((hse' _).mpr z);simp only[decide_eq_false this];rfl
      ·rw[ak,fE (by lia)]at hc;cases hc;simp only[decide_eq_true (hall j hj)];rfl
     rw[ef]at hN;cases hN
    ·have e':(i:Int)∈seen:=by simpa using e
     refine⟨rfl,fun j hj=>?_,_,rfl⟩
     by_cases hji:j=i
     ·rw[hji];exact(hse' _).mp e'
     ·exact hall j (by lia)
   ·obtain⟨rfl,hall,x4,rfl⟩:=hQ;have ef:je rs new=none:=by
     unfold je;rw[eW];intro c hc;obtain⟨j,hj,rfl⟩:=aT.mp hc;simp[hall j (bp.mp hj)]
    rw[ef]at q;exact q G2 s1
theorem xmm(k:Nat)(rs:List xf)(r:xf)(wr:List Int)(h:rs[0]? =some r):vd k rs wr=match r.rds.find? fun c=>decide (c∈wr)with
  |some c=>some (k,c)
  |none=>vd (k+1) (rs.drop 1) (wr++r.wrs):=by
 cases rs with
 |nil=>simp at h
 |cons x t=>simp at h;subst h;rfl
theorem xh0:∀(k:Nat) (rs:List xf) (w1 w2:List Int),(∀c,c∈w1↔c∈w2)→vd k rs w1=vd k rs w2
 |_,[],_,_,_=>rfl
 |k,r::t,w1,w2,h=>by
  unfold vd;have e:(fun c=>decide (c∈w1))=fun c=>decide (c∈w2):=funext fun c=>by congr 1;exact propext (h c)
  rw[e];cases r.rds.find? fun c=>decide (c∈w2)with
  |some c=>rfl
  |none=>exact xh0 (k+1) t _ _ fun c=>by rw[aM,aM,h c]
theorem xjJ(T:Txt K mg a):xv P w K mg base CX0 3 a.q14 a.xbX ["rows"] (xqe K a):=by
 refine T.q19.ok xdR (fun vs H Q E h=>?_) (fun cdv A outer s H vs Q E hr h=>?_)
 ·obtain⟨l,rs,rfl,_⟩:=h;rfl
 ·obtain⟨l,rs,rfl,⟨ts,hl,hp⟩,⟨hr1,hr2⟩,hnl,q0⟩:=h;have q:xpj H Q "late" (jf rs):=by rw[hnl];exact q0
  have nd:=xdR.nd;refine⟨_,(xg (xt (i:=1) nd rfl (aD rfl) xe6)
  (xg (ym aV rfl (xgW (by rfl) T.q2a (xa (cv 0) xc)) (vE rfl (yd (xG (i:=2) nd rfl (aD rfl)) (yd (xG (i:=3) nd rfl (aD rfl)) uF))) (xg (ym aV rfl (xR (uq (xD (cv 3) T.q0g T.q3z (xjI T) (hr.mono (by decide)) T.xkm .nil xo) (xD (cv 3) T.q0b T.q3t (xio T) (hr.mono (by decide)) T.xi4 .nil xo))) (xG (i:=4) nd rfl (aD rfl)) (xi (xM (xiB (xfK (xbm hr) (cv 4) (cv 1)) (by rfl)) jo xF)))
  (xi (ym aV rfl (xR (uq (xD (cv 3) T.q0g T.q3q (xip T) (hr.mono (by decide)) T.xi5 .nil xo) (xD (cv 3) T.q0b T.q3k (xho T) (hr.mono (by decide)) T.xh9 .nil xo))) (xG (i:=4) nd rfl (aD rfl)) (xi (xgN (xbm hr) (cv 1) (cv 4) jz rfl))))))
  (xi (xq xb3)))),?_⟩
  walk_at"w";intro d hd';generalize hU0:upd H d _=H1;have sH1:=xb.of_eq hd' hU0;have ed:=xm hU0;clear hU0;walk_at"w";have htl:ts.length=rs.length:=hp.length;refine⟨l,rfl,⟨_,sH1.seq hl⟩,?_⟩;walk_at"w";refine xeF (xs:=ts.map V.ref) (fun i σ G=>xb H G∧(∃kvs seen,G d=some (.dK kvs)∧InD kvs seen∧kvs.length≤i*300∧jf rs=vd i (rs.drop i) seen)∧∃x2 x3 x4,σ=[some (.ref l),some (.ref d),x2,x3,x4]) ⟨sH1,⟨[],[],ed,InD.nil,by simp,rfl⟩,_,_,_,rfl⟩ (fun i σ G hi hP=>hP.1.seq hl) (fun i x σ G T0 hx hP hT0=>?_) (fun σ G hP=>?_)
  ·obtain⟨s1,⟨kvs,seen,hd,hin,hkl,hla⟩,x2,x3,x4,rfl⟩:=hP;rw[ak]at hx;obtain⟨o,ho,rfl⟩:=aQ.mp hx;obtain⟨r,hr,hob⟩:=Paired.nth hp ho;have hrm:r∈rs:=az hr;generalize hU:upd G T0 _=G2;have s2:=xb.of_eq hT0 hU;have eT:=xm hU;clear hU;have hdr:(rs.drop i)[0]? =some r:=by rw[cb,lh];exact hr
   rw[xmm i _ r seen hdr,List.drop_drop]at hla;walk_at"w";refine⟨T0,_,rfl,SqT.of eT,rfl,?_⟩;walk_at"w";refine⟨_,_,rfl,?_⟩;walk_at"w";refine⟨_,_,rfl,?_⟩;walk_at"w";refine cS rfl ?_;walk_at"w";refine xqi (K:=K) T (r:=r) (hob.same (s1.trans s2)) (hr2 r hrm).1 fun L G3 s3 hL eL=>?_;walk_at"w";refine⟨L,rfl,⟨_,SqL.of eL⟩,?_⟩;walk_at"w";have hd3:G3 d=some (.dK kvs):=s3.at (s2.at hd)
   have s13:xb H G3:=s1.trans (s2.trans s3);refine yH (xs:=r.rds.map V.int) (fun j σ G4=>G4=G3∧(∀i',i'<j→∀c,r.rds[i']? =some c→decide (c∈seen)=false)∧∃x4,σ=[some (.ref l),some (.ref d),some (.int i),some (.ref o),x4])
    ⟨rfl,fun j hj=>absurd hj (cz _),_,rfl⟩ (fun j σ G4 hj hQ=>by rw[hQ.1];exact SqL.of eL) (fun j x σ G4 hx hQ=>?_) (fun σ G4 hQ=>?_)
   ·obtain⟨rfl,hno,x4,rfl⟩:=hQ;rw[ak]at hx;obtain⟨c,hc,rfl⟩:=aQ.mp hx;have hj:j<r.rds.length:=(au.mp hc).1;walk_at"w";refine⟨d,_,rfl,xcq.k (k:=b9 c) hd3,?_⟩;walk_at"w";rw[hin c];refine⟨fun e=>?_,fun e=>?_⟩
    ·have ef:r.rds.find? (fun c=>decide (c∈seen))=some c:=by
      rw[xdX (j:=j) hno,bU hj,c9,(au.mp hc).2,e]
     rw[ef]at hla;rw[hnl]at hla;cases hla
    ·refine⟨rfl,fun i' hi' c' hc'=>?_,_,rfl⟩
     by_cases hji:i'=j
     ·rw[hji,hc]at hc';cases hc';exact e
     ·exact hno i' (by lia) c' hc'
   ·obtain⟨rfl,hno,x4,rfl⟩:=hQ;rw[aa]at hno;have ef:r.rds.find? (fun c=>decide (c∈seen))=none:=by
     rw[xdX (j:=r.rds.length) hno,iP];rfl
    rw[ef]at hla;walk_at"w";refine xqj (K:=K) T (r:=r) (hob.same s13) (hr2 r hrm).1 fun L2 G5 s5 hL2 eL2=>?_;walk_at"w";refine⟨L2,rfl,⟨_,SqL.of eL2⟩,?_⟩;walk_at"w";have hd5:G5 d=some (.dK kvs):=s5.at hd3;have nLd:L2≠d:=yZ eL2 hd5 (fun z=>by cases z);have hwl:=(hr2 r hrm).2.2;refine yH (xs:=r.wrs.map V.int) (fun j σ G6=>xb H G6∧G6 L2=some (.lst (r.wrs.map V.int))∧(∃kvs' seen',G6 d=some (.dK kvs')∧InD kvs' seen'∧kvs'.length≤i*300+j∧∀c,c∈seen'↔c∈seen++r.wrs.take j)∧∃x4,σ=[some (.ref l),some (.ref d),some (.int i),some (.ref o),x4])
     ⟨s13.trans s5,eL2,⟨kvs,seen,hd5,hin,by lia,fun c=>by rw[kb,dO]⟩,_,rfl⟩ (fun j σ G6 hj hQ=>SqL.of hQ.2.1) (fun j x σ G6 hx hQ=>?_) (fun σ G6 hQ=>?_)
    ·obtain⟨s6,eL6,⟨kvs6,seen6,hd6,hin6,hk6,hse6⟩,x4,rfl⟩:=hQ;rw[ak]at hx;obtain⟨c,hc,rfl⟩:=aQ.mp hx;have hj:j<r.wrs.length:=(au.mp hc).1;have hi:i<ts.length:=(au.mp ho).1;walk_at"w";refine⟨d,_,rfl,xe5.k (k:=b9 c) hd6 (by rw[av];lia),?_⟩;generalize hV:upd G6 d _=G7;have s7:xb H G7:=xb.wr s6 hd' hV;have eL7:G7 L2=some (.lst (r.wrs.map V.int)):=by rw[←hV,xl nLd];exact eL6
     have hd7:=xm hV;clear hV;have:=xft kvs6 (b9 c) (.bl true);refine⟨s7,eL7,⟨_,_,hd7,hin6.put c _,by lia,fun y=>?_⟩,_,rfl⟩;rw[bw,hc,←c8,aM,ao,hse6 y];simp[or_comm]
    ·obtain⟨s6,eL6,⟨kvs6,seen6,hd6,hin6,hk6,hse6⟩,x4,rfl⟩:=hQ;rw[aa]at hk6 hse6;rw[bO]at hse6;refine⟨s6,⟨kvs6,seen6,hd6,hin6,by lia,?_⟩,_,_,_,rfl⟩;rw[hla];exact xh0 _ _ _ _ fun c=>(hse6 c).symm
  ·obtain⟨s1,⟨kvs,seen,hd,hin,hkl,hla⟩,x2,x3,x4,rfl⟩:=hP;have e0:rs.drop (ts.map V.ref).length=[]:=by
    rw[aa,htl];exact iP
   rw[e0]at hla;have e1:jf rs=none:=hla;rw[e1]at q;exact q G s1
theorem xdY(T:Txt K mg a):xv P w K mg base CX0 3 a.q13 a.xbW ["value"] xjw:=by
 refine T.q1A.ok xdQ (fun vs H Q E h=>?_) (fun cdv A outer s H vs Q E hr h=>?_)
 ·obtain⟨i,rfl,_⟩:=h;rfl
 ·obtain⟨i,rfl,h0,h3,q⟩:=h;have nd:=xdQ.nd;refine⟨_,(xi (xq (ua (xr (zk T) (hr.mono (by decide)) (by rfl) T.zB T.q0m.kp T.zA .nil xo (xa xh (xa (cv 0) xc))) (um (zN xly (cv 0) (ud (v:=.int 300) (by rfl) T.xnz ⟨_,rfl⟩)))))),?_⟩;walk_at"w";refine⟨_,i,rfl,?_⟩;rw[decide_eq_true h0];walk_at"w";refine⟨fun _=>?_,by walk_at"no"⟩;show Q (.bl (decide (i≤300))) H;rw[decide_eq_true h3];exact q
theorem xgr(T:Txt K mg a):xv P w K mg base CX0 4 a.q1c a.jx ["paper"] (xqf K):=by
 refine T.q1e.ok xby (fun vs H Q E h=>?_) (fun cdv A outer s H vs Q E hr h=>?_)
 ·obtain⟨p,o,n,rs,rfl,_⟩:=h;rfl
 ·obtain⟨p,o,n,rs,rfl,⟨tt,ts,hp,ht,hts⟩,ho0,ho3,hn0,hn3,hl,q⟩:=h;have nd:=xby.nd;refine⟨_,(xi (xq (ua (xr (xdY T) (hr.mono (by decide)) (by rfl) T.xeJ T.q1A.kp T.xeI .nil xo (xa (xB xE (cv 0) xh (fun _ _=>rfl)) xc)) (ua (xr (xdY T) (hr.mono (by decide)) (by rfl) T.xeJ T.q1A.kp T.xeI .nil xo (xa (xB xE (cv 0) xh (fun _ _=>rfl)) xc)) (um (zN xly (xu xw (by rfl) T.q0k xP (xa (xB xE (cv 0) xh (fun _ _=>rfl)) xc)) (ud (v:=.int 300) (by rfl) T.xnz ⟨_,rfl⟩))))))),?_⟩;walk_at"w";refine⟨p,_,_,.int o,rfl,rfl,SqT.of hp,rfl,?_⟩;walk_at"w";refine⟨o,rfl,ho0,ho3,?_⟩;walk_at"w";refine⟨fun _=>?_,by walk_at"no"⟩;walk_at"w";refine⟨p,_,_,.int n,rfl,rfl,SqT.of hp,rfl,?_⟩;walk_at"w";refine⟨n,rfl,hn0,hn3,?_⟩;walk_at"w";refine⟨fun _=>?_,by walk_at"no"⟩;walk_at"w";refine⟨p,_,_,.ref tt,rfl,rfl,SqT.of hp,rfl,?_⟩;walk_at"w";refine⟨tt,_,rfl,.inr (SqT.of ht),?_⟩;rw[aa,hts.length];show Q (.bl (decide ((rs.length:Int)≤300))) H;rw[decide_eq_true (by lia)];exact q
theorem xex(T:Txt K mg a):xv P w K mg base CX0 6 a.q0M a.vq ["told","old","new"] (xmd K):=by
 refine T.q0Q.ok xaf (fun vs H Q E h=>?_) (fun cdv A outer s H vs Q E hr h=>?_)
 ·obtain⟨t,r,old,new,rfl,_⟩:=h;rfl
 ·obtain⟨t,r,old,new,rfl,ht,hk,hf,q⟩:=h;have nd:=xaf.nd;refine⟨_,(xg (xpQ rfl (xi (xt (i:=3) nd rfl (aD rfl) (xr (zE T) (hr.mono (by decide)) (by rfl) T.zZ T.q0N.kp T.zY .nil xo (xa (cv 0) xc)))))
  (xg (xM (PW.pt (vG (yz (xu zG (by rfl) T.q0q ye (xa (cv 3) (xa (ud (v:=.ref a.q0a) (by rfl) T.xa8 rfl) xc)))) (vx (xJ xgO (xn xK (xx (cv 3) rfl) (xx (cv 3) rfl)) (cv 1))))) (xi (xq jz)) xF)
  (xi (xq (zN xly (xB xE (uq (xD (cv 3) T.q0g T.q2X (uc T) (hr.mono (by decide)) T.jb .nil xo) (xD (cv 3) T.q0b T.q2U (uc T) (hr.mono (by decide)) T.jb .nil xo)) xh (fun _ _=>rfl)) (cv 2)))))),?_⟩
  walk_at"w";refine⟨t,r,rfl,ht,hk,fun o H1 s1 _ ho=>?_⟩;cases r with
  |take to st c=>
   obtain⟨dx,ho⟩:=ho;walk_at"w";refine⟨_,_,_,_,true,rfl,rfl,T.xaw ho,T.q1M,?_⟩;walk_at"w";refine⟨fun _=>?_,by walk_at"no"⟩;walk_at"w";refine⟨o,_,dx,_,.int st,rfl,ho,T.q0b,T.q0e,rfl,?_⟩;walk_at"w";refine⟨o,_,dx,_,.int c,rfl,ho,T.q0b,T.q0f,rfl,?_⟩;walk_at"w";rw[decide_eq_false (show¬old<st+c from by have:=hf.1;lia)];refine⟨by walk_at"no",fun _=>?_⟩;walk_at"w";refine dW ?_;walk_at"w";refine⟨o,dx,_,rfl,ho,rfl,?_⟩;walk_at"w";refine⟨o,a.q0a,dx,_,to,c,rfl,ho,T.q0b,T.q0i,T.q0f,rfl,rfl,?_⟩;intro t3 ht3;generalize hUt3:upd H1 t3 _=H3;have sH3:=xb.of_eq ht3 hUt3;have et3:=xm hUt3;clear hUt3;walk_at"w";refine⟨t3,_,_,.int (to+c),rfl,rfl,SqT.of et3,rfl,?_⟩;show Q (.bl (decide (to+c≤new))) H3;rw[decide_eq_true hf.2];exact q H3 (s1.trans sH3)
  |put to sg=>
   obtain⟨dx,u,ho,hu⟩:=ho;walk_at"w";refine⟨_,_,_,_,false,rfl,rfl,T.xf8 ho,T.q2V,?_⟩;walk_at"w";refine⟨by walk_at"no",fun _=>?_⟩;walk_at"w";refine⟨by walk_at"no",fun _=>?_⟩;walk_at"w";refine aD ?_;walk_at"w";refine⟨o,dx,_,rfl,ho,rfl,?_⟩;walk_at"w";refine⟨o,a.q0c,dx,_,to,sg.length,rfl,ho,T.q0g,T.q0x,T.q0p,rfl,rfl,?_⟩;intro t3 ht3;generalize hUt3:upd H1 t3 _=H3;have sH3:=xb.of_eq ht3 hUt3;have et3:=xm hUt3;clear hUt3;walk_at"w";refine⟨t3,_,_,.int (to+sg.length),rfl,rfl,SqT.of et3,rfl,?_⟩;show Q (.bl (decide (to+(sg.length:Int)≤new))) H3;rw[decide_eq_true (show to+(sg.length:Int)≤new from hf)];exact q H3 (s1.trans sH3)
theorem xdZ(T:Txt K mg a):xv P w K mg base CX0 7 a.q0C a.uT ["paper"] (xoC K):=by
 refine T.q0E.ok jM (fun vs H Q E h=>?_) (fun cdv A outer s H vs Q E hr h=>?_)
 ·obtain⟨p,o,n,rs,rfl,_⟩:=h;rfl
 ·obtain⟨p,o,n,rs,rfl,⟨tt,ts,hp,ht,hts⟩,hk,hl,q⟩:=h;have nd:=jM.nd;refine⟨_,(xg (ym aV rfl (xol (by rfl) T.q2a (xa (xB xE (cv 0) xh (fun _ _=>rfl)) xc)) (vE rfl (yd (xG (i:=1) nd rfl (aD rfl)) (yd (xG (i:=2) nd rfl (aD rfl)) uF))) (xi (xM (xaz (yz (xr (xex T) (hr.mono (by decide)) (by rfl) T.xfp T.q0Q.kp T.xfo .nil xo (xa (cv 2) (xa (xB xE (cv 0) xh (fun _ _=>rfl)) (xa (xB xE (cv 0) xh (fun _ _=>rfl)) xc)))))) (xi (xq (cv 1))) xF)))
  (xi (xq xb3))),?_⟩
  walk_at"w";refine⟨p,_,_,.ref tt,rfl,rfl,SqT.of hp,rfl,?_⟩;walk_at"w";refine⟨tt,rfl,⟨_,SqT.of ht⟩,?_⟩;walk_at"w";refine xkg (xs:=ts.map V.ref) (fun i σ H1=>xb H H1∧∃x1 x2,σ=[some (.ref p),x1,x2]) ⟨xb.refl _,_,_,rfl⟩ (fun i σ H1 hi hP=>hP.1.seqT (SqT.of ht)) (fun i x σ H1 T0 hx hP hT0=>?_) (fun σ H1 hP=>?_)
  ·obtain⟨s1,x1,x2,rfl⟩:=hP;rw[ak]at hx;obtain⟨t0,ht0,rfl⟩:=aQ.mp hx;obtain⟨r,hr0,pr⟩:=xS hts ht0;obtain⟨k1,k2⟩:=hk r (az hr0);generalize hU:upd H1 T0 _=H2;have s2:=xb.of_eq hT0 hU;have eT:=xm hU;clear hU;have s02:=s1.trans s2;walk_at"w";refine⟨T0,_,rfl,SqT.of eT,rfl,?_⟩;walk_at"w";refine⟨_,_,rfl,?_⟩;walk_at"w";refine⟨_,_,rfl,?_⟩;walk_at"w";refine cS rfl ?_;walk_at"w";refine⟨p,_,_,.int o,rfl,rfl,SqT.of (s02.at hp),rfl,?_⟩;walk_at"w";refine⟨p,_,_,.int n,rfl,rfl,SqT.of (s02.at hp),rfl,?_⟩;walk_at"w";refine⟨t0,r,o,n,rfl,pr.same s02,k1,k2,fun H3 s3=>?_⟩;walk_at"w";refine⟨by walk_at"no",fun _=>?_⟩;exact⟨s02.trans s3,_,_,rfl⟩
  ·obtain⟨s1,x1,x2,rfl⟩:=hP;exact q H1 s1
theorem xoO{old new:Int}{r:xf}(hk:r.ok)(hn:new≤300)(h:Fit old new r):r.cv.length≤300∧r.rds.length≤300∧r.wrs.length≤300:=by
 cases r with
 |take to st c=>
  obtain⟨k1,k2,k3⟩:=hk;have h2:=h.2;refine⟨by simp only[xf.cv,xT];lia,?_,?_⟩
  ·simp only[xf.rds];split
   ·simp
   ·rw[xT];lia
  ·simp only[xf.wrs];split
   ·simp
   ·rw[xT];lia
 |put to sg=>
  have h2:to+(sg.length:Int)≤new:=h;have k1:=hk.1;refine⟨by simp only[xf.cv,xT];lia,by simp[xf.rds],by simp only[xf.wrs,xT];lia⟩
theorem xfv(T:Txt K mg a):xv P w K mg base CX0 8 a.q24 a.xeh ["paper"] (xjy K):=by
 refine T.q3d.ok xjl (fun vs H Q E h=>?_) (fun cdv A outer s H vs Q E hr h=>?_)
 ·obtain⟨p,o,n,rs,rfl,_⟩:=h;rfl
 ·obtain⟨p,o,n,rs,rfl,hP,ho,hn,hl,hk,h1,h2,hnl,q⟩:=h;have nd:=xjl.nd;refine⟨_,(xg (xM (xaz (yz (xr (xgr T) (hr.mono (by decide)) (by rfl) T.xhe T.q1e.kp T.xhd .nil xo (xa (cv 0) xc)))) jo xF)
  (xg (xt (i:=1) nd rfl (aD rfl) (xr (xdZ T) (hr.mono (by decide)) (by rfl) T.xeu T.q0E.kp T.xet .nil xo (xa (cv 0) xc)))
  (xg (xM (xgT (cv 1)) jo xF)
  (xg (xfQ (i:=2) (yt (cap:=[]) (ys:=[]) rfl rfl rfl rfl rfl trivial (by decide+kernel)) rfl nd rfl rfl (xb5 (xB xE (cv 0) xh (fun _ _=>rfl))) (fun _ _ _ _=>(xr (zE T) (hr.mono (by decide)) (by rfl) T.zZ T.q0N.kp T.zY .nil xo (xa (cv 0) xc))) (fun _ _ _ _=>yp))
  (xg (xt (i:=3) nd rfl (aD rfl) (xr (xfu T) (hr.mono (by decide)) (by rfl) T.xf6 T.q04.kp T.xf5 .nil xo (xa (cv 2) xc)))
  (xg (xb6 (xM (xdk (cv 3)) (xi (xt (i:=3) nd rfl (aD rfl) (xr (xml T) (hr.mono (by decide)) (by rfl) T.xnw T.q2K.kp T.xnv .nil xo (xa (cv 2) (xa (xB xE (cv 0) xh (fun _ _=>rfl)) xc))))) xF))
  (xg (xb6 (xM (xdk (cv 3)) (xi (xt (i:=3) nd rfl (aD rfl) (xr (xjJ T) (hr.mono (by decide)) (by rfl) T.xkx T.q19.kp T.xkw .nil xo (xa (cv 2) xc)))) xF))
  (xi (xq (cv 3)))))))))),?_⟩
  walk_at"w";refine⟨p,o,n,rs,rfl,hP,ho.1,ho.2,hn.1,hn.2,hl,?_⟩;walk_at"w";refine⟨by walk_at"no",fun _=>?_⟩;walk_at"w";refine⟨p,o,n,rs,rfl,hP,hk,hl,fun H1 s1=>?_⟩;walk_at"w";refine⟨by walk_at"no",fun _=>?_⟩;obtain⟨tt,ts,hp,ht,hts⟩:=hP.same s1;walk_at"w";refine⟨p,_,_,.ref tt,rfl,rfl,SqT.of hp,rfl,?_⟩;walk_at"w";refine⟨tt,rfl,⟨_,SqT.of ht⟩,?_⟩;refine xdp (fun i acc G=>∃(os:List Addr),acc=os.map V.ref∧Paired (xy K a G) os (rs.take i)) (SqT.of ht) (by rw[aa,hts.length,av];lia) ⟨[],rfl,.nil⟩ (fun i x acc H3 H3' hx s3 s3' hP R hR=>?_) (fun D acc H3 H3' hD hD3 s3 s3' hP hel he=>?_)
  ·obtain⟨os,rfl,hpr⟩:=hP;rw[ak]at hx;obtain⟨t0,ht0,rfl⟩:=aQ.mp hx;obtain⟨r,hr0,pr⟩:=xS hts ht0;walk_at"w";refine⟨t0,r,rfl,pr.same (s3.trans s3'),(hk r (az hr0)).1,fun o H6' s6 hno hob=>hR _ _ s6 fun H6 sx kx=>⟨os++[o],by simp,?_⟩⟩;rw[bw,hr0];exact yv (L2.Paired.imp' (fun _ _ z=>z.same sx) hpr) (hob.mv kx)
  obtain⟨os,rfl,hpr⟩:=hP;rw[aa,hts.length,bO]at hpr;have hpr':=L2.Paired.imp' (fun _ _ (z:xy K a H3 _ _)=>z.same s3') hpr;have sA:xb H H3':=s1.trans (s3.trans s3');have hrok:xgh rs:=⟨hl,fun r hrm=>xoO (hk r hrm).1 hn.2 (hk r hrm).2⟩;have hp3:=(s3.trans s3').at hp;clear hel hD3 s3 s3' hpr hts ht hp;walk_at"w";refine⟨D,rs,rfl,⟨os,SqL.of he,hpr'⟩,hrok,h1,?_⟩;rw[h1];intro H4 s4;walk_at"w";refine⟨fun σ' G=>σ'=[some (.ref p),some .non,some (.ref D),some .non]∧xb H3' G,?_,?_⟩
  ·walk_at"w";refine⟨fun _=>?_,by walk_at"no"⟩;walk_at"w";refine⟨p,_,_,.int n,rfl,rfl,SqT.of (s4.at hp3),rfl,?_⟩;walk_at"w";refine⟨D,rs,n.toNat,by rw[bT hn.1];rfl,⟨os,SqL.of (s4.at he),L2.Paired.imp' (fun _ _ z=>z.same s4) hpr'⟩,hrok,by lia,h2,?_⟩;rw[h2];intro H5 s5;exact⟨rfl,s4.trans s5⟩
  rintro σ' G ⟨rfl,sG⟩;walk_at"w";refine⟨fun σ' G2=>∃v,σ'=[some (.ref p),some .non,some (.ref D),some v]∧Q v G2,?_,?_⟩
  ·walk_at"w";refine⟨fun _=>?_,by walk_at"no"⟩;walk_at"w";refine⟨D,rs,rfl,⟨os,SqL.of (sG.at he),L2.Paired.imp' (fun _ _ z=>z.same sG) hpr'⟩,hrok,hnl,fun H5 s5=>⟨_,rfl,q H5 (sA.trans (sG.trans s5))⟩⟩
  rintro σ' G2 ⟨v,rfl,qv⟩;exact qv
end
end JD
namespace MT
abbrev vf:Expr:=xgZ 1 (xna ((xgY ((xgY ((xO ju).getD 1 (.Pass ⟨0,0,0,0⟩))).getD 1 (.Pass ⟨0,0,0,0⟩))).getD 0 (.Pass ⟨0,0,0,0⟩)))
theorem xd0:uu ["at","elder"] ["at"] ["elder"] (zj vf):=⟨rfl,rfl,rfl,by decide+kernel,rfl,by decide+kernel,by decide+kernel,by decide+kernel⟩
def xgs:List (Str×V)→Sp:=fun fv vs H Q _=>∃(e:Addr) (es:List Int) (i v:Int),fv=([("elder",.ref e)]:List (Str×V))∧vs=[.int i]∧H e=some (.lst (es.map V.int))∧0≤i∧es[i.toNat]? =some v∧Q (.int v) H
def xoP:Sp:=fun vs H Q E=>∃(p:Addr),vs=[.ref p]∧Q (.int 4) H
def xoQ(a:Adr):Sp:=fun vs H Q E=>∃(p dx u:Addr) (to n:Int),vs=[.ref p]∧H p=some (.ins a.q0c dx (jD to u n))∧Q (.int (2+n)) H
def xjK(K:ah):Sp:=fun vs H Q _=>∃(p e:Addr) (o:Int) (rs:List xf) (es nw:List Int),vs=[.ref p,.ref e]∧H vB=some (.tbl xaT)∧xap K H p o nw.length rs∧H e=some (.lst (es.map V.int))∧(∀r∈rs,Tells es nw r)∧(∀j,j<nw.length→∃r∈rs,yg r j)∧nw.length≤1000∧rs.length≤1000∧xbZ H Q nw
def xlc(K:ah):Sp:=fun vs H Q _=>∃(p:Addr) (o n:Int) (rs:List xf),vs=[.ref p]∧xap K H p o n rs∧(∀r∈rs,r.ok)∧rs.length≤1000∧∀H',xb H H'→Q (.int (rs.map xf.cst).sum) H'
section
variable {P:aI} {w:World} {K:ah} {mg:Str→Option Value} {base:Heap} {a:Adr}
theorem xjL(T:Txt K mg a):zJ P w K mg base CX0 1 "<lambda>" "meant.<locals>.<lambda>" (xau vf) (.expr (xav vf)) (zj vf) ["at"] xgs:=by
 refine xaF xd0 (fun fv vs H Q E h=>?_) (fun _ _ _ _ _ us hl=>match us,hl with|[_],_=>rfl) (fun A outer s H f clos cdv fv vs Q E hr h=>?_)
 ·obtain⟨e,es,i,v,rfl,rfl,_⟩:=h;exact⟨rfl,rfl⟩
 ·obtain⟨e,es,i,v,rfl,rfl,he,hi,hv,k⟩:=h;have nd:=xd0.nd;refine⟨_,(xB yK (cv 1) (cv 0) (fun _ _=>rfl)),?_⟩;walk_at"w";exact⟨e,_,i,.int v,rfl,rfl,SqL.of he,xfT hi hv,k⟩
theorem xiq(T:Txt K mg a):zJ P w K mg base CX0 3 "<lambda>" "meant.<locals>.<lambda>" (xau vf) (.expr (xav vf)) (zj vf) ["at"] xgs:=
 have F:=xjL (P:=P) (w:=w) (base:=base) T
 ⟨F.len,fun A outer s H f fv us vs Q E hr=>F.run A outer s H f fv us vs Q E (hr.mono (by decide))⟩
theorem xjM(T:Txt K mg a):xv P w K mg base CX0 1 a.q1x a.xbP ["self"] xoP:=by
 refine T.q2x.ok xdJ (fun vs H Q E h=>?_) (fun cdv A outer s H vs Q E hr h=>?_)
 ·obtain⟨p,rfl,_⟩:=h;rfl
 ·obtain⟨p,rfl,k⟩:=h;have nd:=xdJ.nd;refine⟨_,(xi (xq xh)),?_⟩;exact k
theorem xkG(T:Txt K mg a):xv P w K mg base CX0 1 a.q1S a.xcH ["self"] (xoQ a):=by
 refine T.q2R.ok xeM (fun vs H Q E h=>?_) (fun cdv A outer s H vs Q E hr h=>?_)
 ·obtain⟨p,dx,u,to,n,rfl,_⟩:=h;rfl
 ·obtain⟨p,dx,u,to,n,rfl,hp,k⟩:=h;have nd:=xeM.nd;refine⟨_,(xi (xq (xn xK xh (xx (cv 0) rfl)))),?_⟩;walk_at"w";exact⟨p,_,dx,_,.int n,rfl,hp,T.q0g,T.q0p,rfl,k⟩
theorem xen(T:Txt K mg a){H:Hp}{o:Addr}{r:xf}{Q:VK}{σ:L2.St}{i:Nat}(ho:xy K a H o r)(hc:r.cnt≤1000)(k:xbZ H Q (xX r.to r.cnt))(hσ:σ[i]? =some (some (.ref o)):=by rfl):
  yo a.q0c "covered" (jd K) [] E0 (yE i) ug σ H Q∨yo a.q0a "covered" (jd K) [] E0 (yE i) ug σ H Q:=by
 cases r with
 |put to sg=>
  obtain⟨dx,u,h1,h2⟩:=ho
  left
  unfold yo yE;rw[hσ];have hc':sg.length≤1000:=hc;exact⟨o,dx,_,rfl,h1,rfl,o,_,dx,_,to,_,rfl,h1,T.q0g,T.q0x,T.q0p,rfl,rfl,by simp;lia,k⟩
 |take to st c=>
  obtain⟨dx,h1⟩:=ho
  right
  unfold yo yE;rw[hσ];have hc':c.toNat≤1000:=hc;exact⟨o,dx,_,rfl,h1,rfl,o,_,dx,_,to,c,rfl,h1,T.q0b,T.q0i,T.q0f,rfl,rfl,by lia,k⟩
theorem xfw(T:Txt K mg a):xv P w K mg base CX0 6 a.q2P a.xcb ["paper","elder"] (xjK K):=by
 refine T.xcd.okC ["elder"] T.xoy xjm (fun vs H Q E h=>?_) (fun A outer s H vs Q E hr h=>?_)
 ·obtain⟨p,e,o,rs,es,nw,rfl,_⟩:=h;rfl
 ·obtain⟨p,e,o,rs,es,nw,rfl,hP,⟨t,ts,hp,ht,hts⟩,he,htl,hcv,hnw,hrs,k⟩:=h;have nd:=xjm.nd;refine⟨_,(xbp (x:="elder") (i:=1) nd rfl rfl rfl (by kernel_rfl) (xg (xt (i:=2) nd rfl (aD rfl) (xn xmP (yh (xa xh xc)) (xB xE (cv 0) xh (fun _ _=>rfl))))
  (xg (ym aV rfl (xb5 (xB xE (cv 0) xh (fun _ _=>rfl))) (xG (i:=3) nd rfl (aD rfl)) (xg (xt (i:=4) nd rfl (aD rfl) (xr (zE T) (hr.mono (by decide)) (by rfl) T.zZ T.q0N.kp T.zY .nil xo (xa (cv 3) xc)))
  (xi (ym aV rfl (xR (uq (xD (cv 4) T.q0g T.q1h (yl T) (hr.mono (by decide)) T.yx .nil xo) (xD (cv 4) T.q0b T.q1r (yl T) (hr.mono (by decide)) T.yx .nil xo))) (xG (i:=5) nd rfl (aD rfl)) (xi (xdc (uq (yQ (cv 4) T.q0g T.q2A (xbz T) (hr.mono (by decide)) T.xcc .nil xo (xa (cv 5) (xa (zw (c:=q2c) (P:=vB) (qs:=xaT) (fns:=["elder"]) rfl T.q3I (q:="meant.<locals>.<lambda>") (by kernel_rfl) (.head _) (by kernel_rfl) (by kernel_rfl)) xc))) (yQ (cv 4) T.q0b T.q2v (xbh T) (hr.mono (by decide)) T.xbs .nil xo (xa (cv 5) (xa (zw (c:=q2c) (P:=vB) (qs:=xaT) (fns:=["elder"]) rfl T.q3I (q:="meant.<locals>.<lambda>") (by kernel_rfl) (.head _) (by kernel_rfl) (by kernel_rfl)) xc)))) (xmC (cv 2) (cv 5) set_list)))))))
  (xi (xq (cv 2)))))),?_⟩
  have tl:ts.length=rs.length:=hts.length;walk_at"w";intro a1 e1 z1 d1;refine cS z1 ?_;generalize hU1:upd H a1 _=H1;have s1:=xb.of_eq z1 hU1;have c1:=xm hU1;clear hU1;walk_at"w";walk_at"ss";intro l0 hl0;generalize hUl0:upd H1 l0 _=H2;have sH2:=xb.of_eq hl0 hUl0;have el0:=xm hUl0;clear hUl0;walk_at"w";refine⟨p,_,_,.int nw.length,rfl,rfl,SqT.of ((s1.trans sH2).at hp),rfl,?_⟩;walk_at"w";refine⟨l0,_,_,rfl,rfl,el0,by lia,by lia,by simp[av];lia,?_⟩;intro nl hnl;generalize hUnl:upd H2 nl _=H3;have sH3:=xb.of_eq hnl hUnl;have enl:=xm hUnl;clear hUnl;walk_at"w";have ef:(bu ((nw.length:Nat):Int).toNat [V.int 0]).flatten=(bu nw.length (0:Int)).map V.int:=by
   rw[gn,g8,bP]
  rw[ef]at enl;have s3:xb H H3:=s1.trans (sH2.trans sH3);refine⟨p,_,_,.ref t,rfl,rfl,SqT.of (s3.at hp),rfl,?_⟩;walk_at"w";refine⟨t,rfl,⟨_,SqT.of (s3.at ht)⟩,?_⟩;have s12:xb H H2:=s1.trans sH2;have nlf:H2 nl=none:=hnl;refine xdl (xs:=ts.map V.ref) (fun k σ G=>xb H2 G∧∃ys x3 x4 x5,σ=[some (.ref p),some (.ref e),some (.ref nl),x3,x4,x5]∧G nl=some (.lst (ys.map V.int))∧Agree (fun j=>∃r∈rs.take k,yg r j) ys nw) ⟨sH3,_,_,_,_,rfl,enl,by simp,fun j hj=>?_⟩ (fun i σ G hi hP1=>?_) (fun k0 x σ G hx hP1=>?_) (fun σ G hP1=>?_)
  ·obtain⟨r,hr1,_⟩:=hj;simp at hr1
  ·exact SqT.of ((s12.trans hP1.1).at ht)
  ·obtain⟨sG,ys,x3,x4,x5,rfl,enl',hag⟩:=hP1;rw[ak]at hx;cases hb:ts[k0]? with
   |none=>rw[hb]at hx;cases hx
   |some t0=>
    rw[hb]at hx;cases hx;obtain⟨r,hr0,pr⟩:=xS hts hb;have hrm:r∈rs:=az hr0;obtain⟨g1,g2,g3,g4⟩:=htl r hrm;have gto:=g1.to;have sHG:xb H G:=s12.trans sG;walk_at"w";refine⟨t0,r,rfl,pr.same sHG,g1,fun ob G1 sG1 hob hO=>?_⟩;walk_at"w";have hcnt:r.cnt≤1000:=by lia
    refine xen T hO hcnt fun cl G2 sG2 hcl ecl=>?_;walk_at"w";refine⟨cl,rfl,⟨_,SqL.of ecl⟩,?_⟩;have nlc:nl≠cl:=fun z=>by rw[←z,sG1.at enl']at hcl;cases hcl
    have tk:rs.take (k0+1)=rs.take k0++[r]:=by rw[bw,hr0];rfl
    refine yH (xs:=(xX r.to r.cnt).map V.int) (fun i σ G=>xb H2 G∧∃ys x5,σ=[some (.ref p),some (.ref e),some (.ref nl),some (.ref t0),some (.ref ob),x5]∧G nl=some (.lst (ys.map V.int))∧G cl=some (.lst ((xX r.to r.cnt).map V.int))∧xy K a G ob r∧Agree (fun j=>(∃r∈rs.take k0,yg r j)∨(r.to≤j∧(j:Int)<r.to+i)) ys nw)
     ⟨sG.trans (sG1.trans sG2),ys,_,rfl,(sG1.trans sG2).at enl',ecl,hO.same sG2,hag.1,fun j hj=>?_⟩ (fun i σ G hi hP2=>?_) (fun i x σ G hx hP2=>?_) (fun σ G hP2=>?_)
    ·rcases hj with z|z
     ·exact hag.2 j z
     ·lia
    ·obtain⟨_,_,_,_,_,z,_⟩:=hP2;exact SqL.of z
    ·obtain⟨s4,ys4,y5,rfl,enl4,ecl4,hO4,hag4⟩:=hP2;rw[ak]at hx;cases hc0:(xX r.to r.cnt)[i]? with
     |none=>rw[hc0]at hx;cases hx
     |some cell=>
      rw[hc0]at hx;cases hx;have hil:i<r.cnt:=by have:=(au.mp hc0).1;rwa [xT]at this
      have hcell:cell=r.to+i:=by
       unfold xX at hc0;rw[ak,fE hil]at hc0;exact(bD hc0).symm
      obtain⟨v,hv⟩:∃v,(r.sg es)[i]? =some v:=⟨_,ag (by rw[xf.sg_len g1 g2];exact hil)⟩;have hv2:nw[(r.to+i).toNat]? =some v:=(g4 i hil).trans hv;have c14:=(sH2.trans s4).at c1;have fin:∀G5,xb G G5→∃(p':Addr) (xs':List V) (k':Int) (j':Nat),V.ref nl= .ref p'∧V.int cell= .int k'∧G5 p'=some (.lst xs')∧ixN xs'.length k'=some j'∧(xb H2 (upd G5 p' (.lst (xs'.set j' (.int v))))∧∃ys x5,[some (.ref p),some (.ref e),some (.ref nl),some (.ref t0),some (.ref ob),some (.int cell)]=[some (V.ref p),some (.ref e),some (.ref nl),some (.ref t0),some (.ref ob),x5]∧upd G5 p' (.lst (xs'.set j' (.int v))) nl=some (.lst (ys.map V.int))∧upd G5 p' (.lst (xs'.set j' (.int v))) cl=some (.lst ((xX r.to r.cnt).map V.int))∧xy K a (upd G5 p' (.lst (xs'.set j' (.int v)))) ob r∧Agree (fun j=>(∃r∈rs.take k0,yg r j)∨(r.to≤j∧(j:Int)<r.to+((i+1:Nat):Int))) ys nw):=by
       intro G5 s5;have e5:=s5.at enl4;refine⟨nl,_,cell,(r.to+i).toNat,rfl,rfl,e5,?_,s4.trans s5 |>.put nlf,ys4.set (r.to+i).toNat v,_,rfl,?_,?_,?_,?_⟩
       ·rw[hcell];exact xnb (by lia) (by rw[aa,hag4.1];lia)
       ·rw[xk,lg]
       ·rw[xl (a8 nlc)];exact s5.at ecl4
       ·have hO5:=hO4.same s5;cases r with
        |take to st c=>
         obtain⟨dx,q1⟩:=hO5;exact⟨dx,by rw[xl (yZ q1 e5 (by intro z;cases z))];exact q1⟩
        |put to sg=>
         obtain⟨dx,u,q1,q2⟩:=hO5;exact⟨dx,u,by rw[xl (yZ q1 e5 (by intro z;cases z))];exact q1,by rw[xl (yZ q2 e5 (by intro z;cases z))];exact q2⟩
       ·refine hag4.set hv2 fun j hj=>?_;rcases hj with z|z
        ·exact .inl (.inl z)
        ·by_cases hlt:(j:Int)<r.to+i
         ·exact .inl (.inr ⟨z.1,hlt⟩)
         ·exact .inr (by lia)
      walk_at"w";cases r with
      |put to sg=>
       obtain⟨dx,u,q1,q2⟩:=hO4
       left
       refine⟨ob,dx,_,rfl,q1,rfl,?_⟩;walk_at"w";refine⟨(s12.trans s4).at hP,[("elder",.ref e)],rfl,fun x v m=>?_,fun f G5 hf s5 hc=>?_⟩
       ·simp only[ao,fz,bC,or_false]at m;obtain⟨rfl,rfl⟩:=m;exact⟨a1,e1,c14⟩
       walk_at"w";have eh:cell - to=i:=by rw[hcell];show to+(i:Int) - to=i;lia
       refine⟨ob,dx,u,to,_,cell,v,_,sg,rfl,s5.at q1,s5.at q2,by rw[eh];lia,by rw[eh];exact hv,?_⟩;walk_at"w";exact fin G5 s5
      |take to st c=>
       obtain⟨dx,q1⟩:=hO4
       right
       refine⟨ob,dx,_,rfl,q1,rfl,?_⟩;walk_at"w";refine⟨(s12.trans s4).at hP,[("elder",.ref e)],rfl,fun x v m=>?_,fun f G5 hf s5 hc=>?_⟩
       ·simp only[ao,fz,bC,or_false]at m;obtain⟨rfl,rfl⟩:=m;exact⟨a1,e1,c14⟩
       walk_at"w";obtain⟨b1,b2,b3⟩:=g1;have eh:st+cell - to=st+i:=by rw[hcell];show st+(to+(i:Int)) - to=st+i;lia
       refine⟨ob,dx,to,st,c,cell,f,rfl,s5.at q1,⟨_,_,_,_,_,_,hc⟩,_,_,_,_,_,_,_,_,xiq T,hc,e,es,_,v,rfl,rfl,(s12.trans (s4.trans s5)).at he,by rw[eh];lia,?_,?_⟩
       ·rw[eh];have:((es.drop st.toNat).take c.toNat)[i]? =some v:=hv;rw[c5 (show i<c.toNat from hil),cb]at this;rw[←this]
        congr 1
        lia
       walk_at"w";exact fin G5 s5
    ·obtain⟨s4,ys4,y5,rfl,enl4,ecl4,hO4,hag4⟩:=hP2;refine⟨s4,ys4,_,_,_,rfl,enl4,hag4.1,fun j hj=>?_⟩;obtain⟨r',hr',hc'⟩:=hj;rw[tk]at hr';rcases aM.mp hr' with z|z
     ·exact hag4.2 j (.inl ⟨r',z,hc'⟩)
     ·rw[ax.mp z]at hc';refine hag4.2 j (.inr ⟨hc'.1,?_⟩);rw[aa,xT];exact hc'.2
  ·obtain⟨sG,ys,x3,x4,x5,rfl,enl',hag⟩:=hP1;have e:ys=nw:=hag.all fun j hj=>by
    obtain⟨r,h1,h2⟩:=hcv j hj;refine⟨r,?_,h2⟩;rw[aZ (by simp;lia)];exact h1
   rw[e]at enl';exact k nl G (s12.trans sG) (s12.back nlf) enl'
theorem xhp(T:Txt K mg a):xv P w K mg base CX0 6 a.q3n a.xfV ["paper"] (xlc K):=by
 refine T.q3y.ok xk2 (fun vs H Q E h=>?_) (fun cdv A outer s H vs Q E hr h=>?_)
 ·obtain⟨p,o,n,rs,rfl,_⟩:=h;rfl
 ·obtain⟨p,o,n,rs,rfl,⟨t,ts,hp,ht,hts⟩,hok,hle,q⟩:=h;have nd:=xk2.nd;refine⟨_,(xi (xq (xu (xm7 rfl) (by rfl) T.q4L xq8 (xa (yk (yt (cap:=[]) (ys:=[]) rfl rfl rfl rfl rfl trivial (by decide+kernel)) rfl (xb5 (xB xE (cv 0) xh (fun _ _=>rfl))) (fun _ _ _ _=>(uq (xD (xr (zE T) (hr.mono (by decide)) (by rfl) T.zZ T.q0N.kp T.zY .nil xo (xa (cv 0) xc)) T.q0g T.q3E (xkG T) (hr.mono (by decide)) T.xl0 .nil xo) (xD (xr (zE T) (hr.mono (by decide)) (by rfl) T.zZ T.q0N.kp T.zY .nil xo (xa (cv 0) xc)) T.q0b T.q3A (xjM T) (hr.mono (by decide)) T.xkl .nil xo))) (fun _ _ _ _=>yp)) xc)))),?_⟩;have tl:ts.length=rs.length:=hts.length;walk_at"w";refine⟨p,_,_,.ref t,rfl,rfl,SqT.of hp,rfl,?_⟩;walk_at"w";refine⟨t,rfl,⟨_,SqT.of ht⟩,?_⟩;refine xdp (fun i acc _=>acc=((rs.take i).map xf.cst).map V.int) (SqT.of ht) (by rw[aa,av];lia) (by simp) (fun i x acc H3 H3' hx s3 s3' hP R hR=>?_) (fun D acc H3 H3' hD hD3 s3 s3' hP hl hv=>?_)
  ·rw[ak]at hx;cases hb:ts[i]? with
   |none=>rw[hb]at hx;cases hx
   |some t0=>
    rw[hb]at hx;cases hx;obtain⟨r,hr0,pr⟩:=xS hts hb;have pr':=pr.same (s3.trans s3');have ok:=hok r (az hr0);have fin:∀G,xb H3' G→R (.int r.cst) G:=fun G sG=>hR _ _ sG fun H6 _ _=>by
     rw[hP,bw,hr0,aG,aG];rfl
    cases r with
    |put to sg=>
     left
     walk_at"w";refine⟨t0,_,rfl,pr',ok,fun ob G sG hn hO=>?_⟩;obtain⟨dx,u,q1,q2⟩:=hO;walk_at"w";refine⟨ob,dx,_,rfl,q1,rfl,?_⟩;walk_at"w";exact⟨ob,dx,u,to,_,rfl,q1,fin G sG⟩
    |take to st c=>
     right
     walk_at"w";refine⟨t0,_,rfl,pr',ok,fun ob G sG hn hO=>?_⟩;obtain⟨dx,q1⟩:=hO;walk_at"w";refine⟨ob,dx,_,rfl,q1,rfl,?_⟩;walk_at"w";exact⟨ob,rfl,fin G sG⟩
  ·rw[hP,aZ (by simp;lia)]at hv;walk_at"w";exact⟨D,_,rfl,SqL.of hv,q _ (s3.trans s3')⟩
end
end MT
def Bnd(xs:List Int):Prop:=∀x∈xs,(x.natAbs:Int)<10^60
noncomputable def minOf(ns:List Int):Int:=open Classical in if h:∃m,m∈ns∧∀x∈ns,m≤x then Classical.choose h else 0
theorem xjN{ns:List Int}{m:Int}(h1:m∈ns)(h2:∀x∈ns,m≤x):m=minOf ns:=by
 unfold minOf;have h:∃m,m∈ns∧∀x∈ns,m≤x:=⟨m,h1,h2⟩;rw[dif_pos h];obtain⟨q1,q2⟩:=Classical.choose_spec h;have:=h2 _ q1;have:=q2 _ h1;omega
def itN(f:Int→Int)(a:Int):Nat→Int
 |0=>a
 |i+1=>f (itN f a i)
def orb(f:Int→Int)(a:Int)(j:Nat):List Int:=(a9 j).map (itN f a)
theorem xjO(f:Int→Int)(a:Int)(j:Nat):orb f a (j+1)=orb f a j++[itN f a j]:=by unfold orb;rw[fJ,aG];rfl
theorem vD(f:Int→Int)(a:Int)(j:Nat):(orb f a j).length=j:=by simp[orb]
theorem xld{f:Int→Int}{a:Int}{i j:Nat}(h:i<j):(orb f a j)[i]? =some (itN f a i):=by simp[orb,h]
theorem xay{f:Int→Int}{a x:Int}{j:Nat}:x∈orb f a j↔∃i,i<j∧x=itN f a i:=by
 unfold orb;rw[aT];constructor
 ·rintro⟨i,h1,rfl⟩;exact⟨i,bp.mp h1,rfl⟩
 ·rintro⟨i,h1,rfl⟩;exact⟨i,bp.mpr h1,rfl⟩
theorem xbA{f:Int→Int}{a:Int}:∀{j:Nat},(∀i,i<j→¬itN f a i∈orb f a i)→(orb f a j).Nodup
 |0,_=>by simp[orb]
 |j+1,h=>by
  rw[xjO,List.nodup_append];refine⟨xbA fun i hi=>h i (by lia),by simp,fun x hx y hy e=>?_⟩;rw[ax.mp hy]at e;exact h j (by lia) (by rw[←e];exact hx)
theorem xnL:∀{ns:List Int},ns≠[]→∃m,m∈ns∧∀x∈ns,m≤x
 |[],h=>absurd rfl h
 |[x],_=>⟨x,by simp,by simp⟩
 |x::y::r,_=>by
  obtain⟨m,h1,h2⟩:=xnL (ns:=y::r) (by simp)
  by_cases e:x≤m
  ·refine⟨x,by simp,fun z hz=>?_⟩;rcases ao.mp hz with w|w
   ·lia
   ·have:=h2 z w;lia
  ·refine⟨m,aC _ h1,fun z hz=>?_⟩;rcases ao.mp hz with w|w
   ·lia
   ·exact h2 z w
noncomputable def nxt(xss:List (List Int))(left:List Int)(k:Int):Int:=minOf ((xss.getD k.toNat []).filter fun o=>decide (o∈left))
def xjP(xss:List (List Int))(left ring:List Int):Prop:=∃(a:Int) (j:Nat),(a∈left∧∀x∈left,a≤x)∧itN (nxt xss left) a j∈orb (nxt xss left) a j∧(∀i,i<j→¬itN (nxt xss left) a i∈orb (nxt xss left) a i)∧
 ring=((orb (nxt xss left) a j).drop ((orb (nxt xss left) a j).idxOf (itN (nxt xss left) a j))).reverse
def xd1(xss:List (List Int))(left:List Int):Prop:=∀k∈left,0≤k∧k<xss.length∧∃o∈left,o∈xss.getD k.toNat []
theorem xjQ{xss:List (List Int)}{left:List Int}{k:Int}(h:xd1 xss left)(hk:k∈left):nxt xss left k∈left∧nxt xss left k∈xss.getD k.toNat []:=by
 obtain⟨_,_,o,ho1,ho2⟩:=h k hk;have hm:o∈(xss.getD k.toNat []).filter fun o=>decide (o∈left):=aS.mpr ⟨ho2,decide_eq_true ho1⟩;have hex:∃m,m∈(xss.getD k.toNat []).filter (fun o=>decide (o∈left))∧∀x∈(xss.getD k.toNat []).filter (fun o=>decide (o∈left)),m≤x:=xnL (lj hm);obtain⟨m,h1,h2⟩:=hex;have e:m=nxt xss left k:=xjN h1 h2;rw[←e];obtain⟨q1,q2⟩:=aS.mp h1;exact⟨of_decide_eq_true q2,q1⟩
theorem xhq{xss:List (List Int)}{left:List Int}{a:Int}(h:xd1 xss left)(ha:a∈left):∀i,itN (nxt xss left) a i∈left
 |0=>ha
 |i+1=>(xjQ h (xhq h ha i)).1
theorem xh1{xss:List (List Int)}{left ring:List Int}(hL:xd1 xss left)(hs:∀k∈left,k∉xss.getD k.toNat [])(h:xjP xss left ring):
  2≤ring.length∧ring.Nodup∧(∀x∈ring,x∈left)∧∀k,k<ring.length→∃x y,ring[if k=0 then ring.length - 1 else k - 1]? =some x∧ring[k]? =some y∧x∈xss.getD y.toNat []:=by
 obtain⟨a,j,⟨a1,a2⟩,p1,p2,rfl⟩:=h;have hnd:=xbA p2;obtain⟨i0,hi0,e0⟩:=xay.mp p1;have hidx:(orb (nxt xss left) a j).idxOf (itN (nxt xss left) a j)=i0:=by
  rw[e0];have hlt:i0<(orb (nxt xss left) a j).length:=by rw[vD];exact hi0
  have hg:(orb (nxt xss left) a j)[i0]=itN (nxt xss left) a i0:=by
   have:=xld (f:=nxt xss left) (a:=a) hi0;rw[ag hlt]at this;exact bD this
  have hmem:itN (nxt xss left) a i0∈orb (nxt xss left) a j:=xay.mpr ⟨i0,hi0,rfl⟩;have hlt2:=iQ.mpr hmem;have hg2:=List.getElem_idxOf hlt2;rcases ik ((orb (nxt xss left) a j).idxOf (itN (nxt xss left) a i0)) i0 with z|z|z
  ·exact absurd (hg2.trans hg.symm) (bL.mp hnd _ _ hlt2 hlt z)
  ·exact z
  ·exact absurd (hg.trans hg2.symm) (bL.mp hnd _ _ hlt hlt2 z)
 rw[hidx];have hlen:((orb (nxt xss left) a j).drop i0).reverse.length=j - i0:=by rw[kL,aO,vD]
 have hget:∀k,k<j - i0→((orb (nxt xss left) a j).drop i0).reverse[k]? =some (itN (nxt xss left) a (j - 1 - k)):=by
  intro k hk;rw[j7 (by rw[aO,vD];exact hk),aO,vD,cb,xld (by lia)]
  congr 2
  lia
 have hit:=xhq hL a1;have h2:2≤j - i0:=by
  by_cases hj:j - i0=1
  ·exfalso;have ej:j=i0+1:=by lia
   rw[ej]at e0;have:nxt xss left (itN (nxt xss left) a i0)=itN (nxt xss left) a i0:=e0;have hm:=(xjQ hL (hit i0)).2;rw[this]at hm;exact hs _ (hit i0) hm
  ·lia
 refine⟨by rw[hlen];exact h2,?_,?_,?_⟩
 ·exact j6.mpr ((hnd.sublist (List.drop_sublist _ _)).imp a8)
 ·intro x hx;have hx2:=dw (List.mem_reverse.mp hx);obtain⟨i,_,rfl⟩:=xay.mp hx2;exact hit i
 ·intro k hk;rw[hlen]at hk⊢;refine⟨nxt xss left (itN (nxt xss left) a (j - 1 - k)),itN (nxt xss left) a (j - 1 - k),?_,hget k hk,(xjQ hL (hit _)).2⟩
  by_cases hk0:k=0
  ·subst hk0;rw[if_pos rfl,hget _ (by lia)];have e1:j - 1 - (j - i0 - 1)=i0:=by lia
   rw[e1,←e0];have e2:j=(j - 1 - 0)+1:=by lia
   exact congrArg (fun z=>some (itN (nxt xss left) a z)) e2
  ·rw[if_neg hk0,hget _ (by lia)];have e2:j - 1 - (k - 1)=(j - 1 - k)+1:=by lia
   exact congrArg (fun z=>some (itN (nxt xss left) a z)) e2
theorem xbB{kvs:List (Key×V)}{left:List Int}(h:kvs.map (·.1)=left.map b9)(o:Int):(yD kvs (.inl o)).isSome=decide (o∈left):=by
 unfold yD;rw[f7,List.isSome_find?];have e:(kvs.any fun kv=>decide (kv.1=b9 o))=((kvs.map (·.1)).any fun k=>decide (k=b9 o)):=by rw[iJ];rfl
 rw[e,h,iJ,dm,eJ,decide_eq_true_iff];constructor
 ·rintro⟨x,hx,hq⟩;have:=of_decide_eq_true hq;cases this;exact hx
 ·exact fun hx=>⟨o,hx,decide_eq_true rfl⟩
theorem xb.thaw{H G:Hp}{l:Addr}{x u:HO}(h:H l=some u)(s:xb (upd H l x) G):xb H (upd G l u):=fun b o e=>by
 by_cases hb:b=l
 ·subst hb;rw[xk,←h];exact e
 ·rw[xl hb];refine s b o ?_;rw[xl hb];exact e
theorem xle{H:Hp}{l b:Addr}{x y:HO}{kvs:List (Key×V)}(h:H l=some (.dK kvs))(e:H b=some y)(n:∀q,y≠.dK q):upd H l x b=some y:=by
 rw[xl (fun z=>by rw[z,h]at e;cases e;exact n _ rfl)];exact e
def xcT(xss:List (List Int))(left:List Int)(k:Int):Prop:=∃o∈left,o∈xss.getD k.toNat []
def xey(K:ah):Sp:=fun vs H Q _=>∃(D l:Addr) (as:List Addr) (H0:Hp) (xss:List (List Int)) (kvs:List (Key×V)) (left:List Int),vs=[.ref D,.ref l]∧yV H0 H D as xss∧H l=some (.dK kvs)∧kvs.map (·.1)=left.map b9∧(∀k∈left,0≤k∧k<xss.length)∧xss.length≤1000∧(∀xs∈xss,xs.length≤1000)∧
 (∀k∈left,¬xcT xss left k→∀G,xb H G→Q (.int k) G)∧((∀k∈left,xcT xss left k)→∀G,xb H G→Q .non G)
def xhr(K:ah):Sp:=fun vs H Q _=>∃(D l:Addr) (as:List Addr) (H0:Hp) (xss:List (List Int)) (kvs:List (Key×V)) (left:List Int),vs=[.ref D,.ref l]∧yV H0 H D as xss∧H l=some (.dK kvs)∧kvs.map (·.1)=left.map b9∧left≠[]∧left.length≤1000∧xd1 xss left∧xss.length≤1000∧(∀xs∈xss,xs.length≤1000)∧∀ring,xjP xss left ring→xbZ H Q ring
section
variable {P:aI} {w:World} {K:ah} {mg:Str→Option Value} {base:Heap} {a:Adr}
theorem xez(T:Txt K mg a):xv P w K mg base CX0 1 a.q0K a.vo ["spoilt","left"] (xey K):=by
 refine T.q0O.ok xad (fun vs H Q E h=>?_) (fun cdv A outer s H vs Q E hr h=>?_)
 ·obtain⟨D,l,as,H0,xss,kvs,left,rfl,_⟩:=h;rfl
 ·obtain⟨D,l,as,H0,xss,kvs,left,rfl,L,hl,hks,hok,hxl,hxs,q1,q2⟩:=h;have nd:=xad.nd;refine⟨_,(xg (xpW (i:=1) aV rfl (cv 1) (xG (i:=2) nd rfl (aD rfl)) (xi (xM (xaz (yz (xu (xm6 rfl) (by rfl) T.q4J xq9 (xa (yk (yt (cap:=[1]) (ys:=["left"]) rfl rfl rfl rfl rfl ⟨⟨rfl,rfl,.inl rfl⟩,trivial⟩ (by decide+kernel)) rfl (xR (xB yK (cv 0) (cv 2) (fun _ _=>rfl))) (fun _ _ _ _=>(xqG (xfK (xbm hr) (cv 0) (cv 1)) (by rfl))) (fun _ _ _ _=>yp)) xc)))) (xi (xq (cv 2))) xF)))
  (xi (xq xb3))),?_⟩
  walk_at"w";refine⟨l,kvs,rfl,hl,fun o hdat=>?_⟩;generalize hF:upd H l _=F;have eF:F l=some (.frz o (.dK kvs)):=by rw[←hF,xk]
  have LF:yV H0 F D as xss:=⟨by rw[←hF];exact xle hl L.top (by intro _ z;cases z),L.nd,L.len,fun i a xs h1 h2=>by rw[←hF];exact xle hl (L.each i a xs h1 h2) (by intro _ z;cases z),L.fr,L.frs⟩;have hkl:kvs.length=left.length:=by have:=congrArg cC hks;simpa using this
  have back:∀G,xb F G→xb H (upd G l (.dK kvs)):=fun G sG=>by subst hF;exact xb.thaw hl sG
  clear hF;refine xlS (fun i σ G=>xb F G∧(∃z,σ=[some (.ref D),some (.ref l),z])∧∀j k,j<i→left[j]? =some k→xcT xss left k) ⟨xb.refl _,⟨_,rfl⟩,fun j k hj=>absurd hj (cz _)⟩ (fun i σ G _ hp=>hp.1.at eF) (fun i k σ G hk hp=>?_) (fun σ G hp=>?_)
  ·obtain⟨sG,⟨z,rfl⟩,hh⟩:=hp;have hk2:∃n,left[i]? =some n∧k=b9 n:=by
    rw[hks,ak]at hk;cases e:left[i]? with
    |none=>rw[e]at hk;cases hk
    |some n=>rw[e]at hk;cases hk;exact⟨n,rfl,rfl⟩
   obtain⟨n,hn,rfl⟩:=hk2;have hm:n∈left:=az hn;obtain⟨k0,k1⟩:=hok n hm;walk_at"w";have hlt:n.toNat<xss.length:=by lia
   have LG:=LF.same sG;have hlta:n.toNat<as.length:=by rw[L.len];exact hlt
   have eg:xss.getD n.toNat []=xss[n.toNat]:=by simp[bf,hlt]
   have ea:=LG.each _ _ _ (ag hlta) (ag hlt);have hxl2:=hxs _ (cM hlt);refine⟨D,_,_,.ref as[n.toNat],rfl,rfl,SqL.of LG.top,?_,?_⟩
   ·have:=zc (xs:=as.map V.ref) (j:=n.toNat) (v:=.ref as[n.toNat]) (by simp[hlta])
    rwa [bT k0]at this
   walk_at"w";refine⟨_,rfl,⟨_,SqL.of ea⟩,?_⟩;refine xdn (fun v=>V.bl (inV v (left.map V.int))) (SqL.of ea) (by rw[aa,av];lia) (fun v G5 hv s5 R hR=>?_) (fun D5 G5 hD5 s5 e5=>?_)
   ·obtain⟨c,_,rfl⟩:=aT.mp hv;walk_at"w";refine⟨l,yD kvs (.inl c),rfl,.inl ⟨kvs,.inl c,.inr ⟨o,(sG.trans s5).at eF⟩,rfl,rfl⟩,?_⟩;rw[xbB hks,←xaG];exact hR _ (xb.refl _)
   walk_at"w";refine⟨D5,xss[n.toNat].map fun c=>decide (c∈left),rfl,SqL.of (by rw[e5,ck,ck];simp[ij,xaG]),?_⟩;walk_at"w";have ha:((xss[n.toNat].map fun c=>decide (c∈left)).any id)=true↔xcT xss left n:=by
    unfold xcT;rw[eg,iJ,eJ];refine⟨fun hh96=>?_,fun⟨x,hx,hq⟩=>⟨x,hq,decide_eq_true hx⟩⟩;obtain⟨x,hx,hq⟩:=hh96;exact⟨x,of_decide_eq_true hq,hx⟩
   refine⟨fun e=>?_,fun e=>?_⟩
   ·have hn2:¬xcT xss left n:=fun z=>by rw[←ha]at z;simp only[z]at e;cases e
    walk_at"w";exact⟨⟨o,(sG.trans s5).at eF,hdat⟩,q1 n hm hn2 _ (back _ (sG.trans s5))⟩
   ·have hn2:xcT xss left n:=by rw[←ha];simpa using e
    refine⟨sG.trans s5,⟨_,rfl⟩,fun j k hj hkj=>?_⟩
    by_cases hji:j=i
    ·subst hji;rw[hn]at hkj;cases hkj;exact hn2
    ·exact hh j k (by lia) hkj
  ·obtain⟨sG,⟨z,rfl⟩,hh⟩:=hp;refine⟨⟨o,sG.at eF,hdat⟩,q2 (fun k hk=>?_) _ (back G sG)⟩;obtain⟨j,hj,e⟩:=kN hk;exact hh j k (by lia) (by rw[ag hj,e])
theorem xir(T:Txt K mg a):xv P w K mg base CX0 1 a.q1E a.xaZ ["spoilt","left"] (xhr K):=by
 refine T.q1J.ok xc1 (fun vs H Q E h=>?_) (fun cdv A outer s H vs Q E hr h=>?_)
 ·obtain⟨D,l,as,H0,xss,kvs,left,rfl,_⟩:=h;rfl
 ·obtain⟨D,l,as,H0,xss,kvs,left,rfl,L,hl,hks,hne,hll,hok,hxl,hxs,q⟩:=h;have nd:=xc1.nd;refine⟨_,(xg (xt (i:=2) nd rfl (aD rfl) (yh xc))
  (xg (xt (i:=3) nd rfl (aD rfl) (xu (xnj rfl) (by rfl) T.q3C xb8 (xa (cv 1) xc)))
  (xg (xaE aV (xJ xiI (cv 3) (cv 2) (by rfl)) (xg (xN (zt PySem.F.plainAttrs_list PySem.F.slot_list_append PySem.F.type_list_append yi (cv 2) (xa (cv 3) xc)))
  (xi (xt (i:=3) nd rfl (aD rfl) (xu (xhJ rfl) (by rfl) T.q3C xb8 (xa (yk (yt (cap:=[1]) (ys:=["left"]) rfl rfl rfl rfl rfl ⟨⟨rfl,rfl,.inl rfl⟩,trivial⟩ (by decide+kernel)) rfl (xR (xB yK (cv 0) (cv 3) (fun _ _=>rfl))) (fun _ _ _ _=>(cv 0)) (fun _ _ _ _=>(xas (xiB (xfK (xbm hr) (cv 0) (cv 1)) (by rfl))))) xc))))))
  (xi (xq (xlJ rfl (by rfl) T.q1t (by rfl) T.q3K (yn yL (cv 2) (yc (zt PySem.F.plainAttrs_list PySem.F.slot_list_index PySem.F.type_list_index xoh (cv 2) (xa (cv 3) xc))) ue))))))),?_⟩
  walk_at"w";walk_at"ss";intro p hp;generalize hUp:upd H p _=H1;have sH1:=xb.of_eq hp hUp;have ep:=xm hUp;clear hUp;walk_at"w";refine⟨l,kvs,left,rfl,sH1.at hl,hks,hne,fun st hst1 hst2=>?_⟩;walk_at"w";have hit:=xhq hok hst1;have nxs:∀k∈left,(xss.getD k.toNat []).length≤1000:=fun k hk=>by
   obtain⟨h0,h1,_⟩:=hok k hk;have hlt:k.toNat<xss.length:=by lia
   have e:xss.getD k.toNat []=xss[k.toNat]:=by simp[bf,hlt]
   rw[e];exact hxs _ (cM hlt)
  refine uV (m:=left.length) (fun m σ G=>xb H G∧∃j,m=left.length - j∧σ=[some (.ref D),some (.ref l),some (.ref p),some (.int (itN (nxt xss left) st j))]∧G p=some (.lst ((orb (nxt xss left) st j).map V.int))∧∀i,i<j→¬itN (nxt xss left) st i∈orb (nxt xss left) st i) ⟨sH1,0,by simp,rfl,ep,fun i hi=>absurd hi (cz _)⟩ (fun m σ G hP=>?_);obtain⟨sG,j,rfl,rfl,epj,hdis⟩:=hP;have hnd:=xbA hdis;have hjl:j≤left.length:=by
   have:=jH hnd (l₂:=left) fun x hx=>by obtain⟨i,_,rfl⟩:=xay.mp hx;exact hit i
   rwa [vD]at this
  walk_at"w";refine⟨p,_,rfl,.inl (SqL.of epj),rfl,xm9 _,?_⟩;walk_at"w";rw[xaG];refine⟨fun e=>?_,fun e=>?_⟩
  ·have e':¬itN (nxt xss left) st j∈orb (nxt xss left) st j:=by simpa using e
   have hdis':∀i,i<j+1→¬itN (nxt xss left) st i∈orb (nxt xss left) st i:=fun i hi=>by
    by_cases hij:i=j
    ·rw[hij];exact e'
    ·exact hdis i (by lia)
   have hjl':j+1≤left.length:=by
    have:=jH (xbA hdis') (l₂:=left) fun x hx=>by obtain⟨i,_,rfl⟩:=xay.mp hx;exact hit i
    rwa [vD]at this
   refine⟨fun σ' G'=>∃m',m'<left.length - j∧xb H G'∧∃j',m'=left.length - j'∧σ'=[some (.ref D),some (.ref l),some (.ref p),some (.int (itN (nxt xss left) st j'))]∧G' p=some (.lst ((orb (nxt xss left) st j').map V.int))∧∀i,i<j'→¬itN (nxt xss left) st i∈orb (nxt xss left) st i,fun _ _ z=>z,?_⟩;walk_at"w";refine⟨.inl ⟨rfl,_,SqL.of epj⟩,?_⟩;walk_at"w";refine⟨p,_,_,rfl,rfl,epj,by rw[aa,vD,av];lia,?_⟩;generalize hU:upd G p _=G2;have s2:xb H G2:=xb.wr sG hp hU;have ep2:G2 p=some (.lst ((orb (nxt xss left) st (j+1)).map V.int)):=by rw[←hU,xk,xjO,aG];rfl
   clear hU;walk_at"w";obtain⟨k0,k1,_⟩:=hok _ (hit j);have hlt:(itN (nxt xss left) st j).toNat<xss.length:=by lia
   have hlta:(itN (nxt xss left) st j).toNat<as.length:=by rw[L.len];exact hlt
   have eg:xss.getD (itN (nxt xss left) st j).toNat []=xss[(itN (nxt xss left) st j).toNat]:=by simp[bf,hlt]
   have ea:=L.each _ _ _ (ag hlta) (ag hlt);refine⟨D,_,_,.ref as[(itN (nxt xss left) st j).toNat],rfl,rfl,SqL.of (s2.at L.top),?_,?_⟩
   ·have:=zc (xs:=as.map V.ref) (j:=(itN (nxt xss left) st j).toNat) (v:=.ref as[(itN (nxt xss left) st j).toNat]) (by simp[hlta])
    rwa [bT k0]at this
   walk_at"w";refine⟨_,rfl,⟨_,SqL.of (s2.at ea)⟩,?_⟩;have hxl2:=nxs _ (hit j);rw[eg]at hxl2;refine vK (fun v=>inV v (left.map V.int)) id (SqL.of (s2.at ea)) (by rw[aa,av];lia) (fun v G5 hv s5 R hR=>?_) (fun v G5 hv _ s5 R hR=>?_) (fun D5 G5 hD5 s5 e5=>?_)
   ·obtain⟨c,_,rfl⟩:=aT.mp hv;walk_at"w";refine⟨l,yD kvs (.inl c),rfl,.inl ⟨kvs,.inl c,.inl ((s2.trans s5).at hl),rfl,rfl⟩,?_⟩;rw[xbB hks,←xaG];exact hR _ (xb.refl _)
   ·exact hR _ (xb.refl _)
   rw[lB,xke]at e5;simp only[xaG]at e5;walk_at"w";have hnn:(xss[(itN (nxt xss left) st j).toNat].filter fun x=>decide (x∈left))≠[]:=by
    obtain⟨_,_,o,ho1,ho2⟩:=hok _ (hit j);rw[eg]at ho2;exact lj (aS.mpr ⟨ho2,decide_eq_true ho1⟩)
   refine⟨D5,_,rfl,SqL.of e5,hnn,fun mm h1 h2=>?_⟩;have em:mm=itN (nxt xss left) st (j+1):=by
    have:=xjN h1 h2;show mm=minOf ((xss.getD (itN (nxt xss left) st j).toNat []).filter fun o=>decide (o∈left));rw[eg];exact this
   rw[em];exact⟨left.length - (j+1),by lia,s2.trans s5,j+1,rfl,rfl,s5.at ep2,hdis'⟩
  ·have e':itN (nxt xss left) st j∈orb (nxt xss left) st j:=by simpa using e
   walk_at"w";refine⟨.inl ⟨rfl,_,SqL.of epj⟩,?_⟩;walk_at"w";have hsm:∀x∈orb (nxt xss left) st j,x.natAbs<2^64:=fun x hx=>by
    obtain⟨i,_,rfl⟩:=xay.mp hx;obtain⟨k0,k1,_⟩:=hok _ (hit i);lia
   refine⟨p,_,_,rfl,rfl,epj,e',by rw[vD];lia,hsm,?_⟩;walk_at"w";refine⟨_,rfl,?_⟩;walk_at"w";refine⟨p,_,rfl,SqL.of epj,?_⟩;intro c hc;generalize hUc:upd G c _=G3;have sG3:=xb.of_eq hc hUc;have ec:=xm hUc;clear hUc;walk_at"w";rw[zx,yY (by lia),HT.jj]at ec;refine⟨c,_,rfl,SqL.of ec,fun d hd=>?_⟩;have hidx:(orb (nxt xss left) st j).idxOf (itN (nxt xss left) st j)≤(orb (nxt xss left) st j).length:=b7 (iQ.mpr e');refine q _ ⟨st,j,⟨hst1,hst2⟩,e',hdis,rfl⟩ d _ ((sG.trans sG3).trans (xb.new hd)) ((sG.trans sG3).back hd) ?_;rw[xk,←List.map_reverse]
   congr 4
   rw[bP,cA hidx,aZ (by rw[aO];exact ai _)]
end
def xf.rd:xf→Int×Int
 | .take to st c=>if st=to then(0,0)else(st,st+c)
 | .put _ _=>(0,0)
def xf.wr:xf→Int×Int
 | .take to st c=>if st=to then(0,0)else(to,to+c)
 | .put to sg=>(to,to+sg.length)
def xeo(x y:Int×Int):Bool:=decide (max x.1 y.1<min x.2 y.2)
def xbC(k:Nat)(w:Int×Int)(rds:List (Int×Int)):List Int:=((a9 rds.length).filter fun(i:Nat)=> !decide ((i:Int)=(k:Int))&&xeo w (rds.getD i (0,0))).map fun(i:Nat)=>(i:Int)
def yP(rs:List xf):List (List Int):=(a9 rs.length).map fun k=>xbC k ((rs.map xf.wr).getD k (0,0)) (rs.map xf.rd)
def xmn(K:ah)(H H':Hp)(t:Addr)(x:Int×Int):Prop:=(∀G,SqT K G t [.int x.1,.int x.2])∨(H t=none∧H' t=some (.tup [.int x.1,.int x.2]))
def xfx(K:ah)(H:Hp)(t:Addr)(x:Int×Int):Prop:=SqT K H t [.int x.1,.int x.2]
theorem xmn.at{K:ah}{H H' H6:Hp}{t:Addr}{x:Int×Int}(h:xmn K H H' t x)(k:∀p o,(H p=none∨∀ys,o≠HO.lst ys)→H' p=some o→H6 p=some o):xfx K H6 t x:=by
 rcases h with h|⟨h1,h2⟩
 ·exact h _
 ·exact SqT.of (k _ _ (.inl h1) h2)
def xdW(K:ah):Sp:=fun vs H Q _=>∃(p C dx:Addr) (fs:List (Str×V)) (to c:Int),vs=[.ref p]∧H p=some (.ins C dx fs)∧Cls K C∧xI K C "to"∧xI K C "count"∧fs.lookup ("to":Str)=some (.int to)∧fs.lookup ("count":Str)=some (.int c)∧∀t,H t=none→Q (.ref t) (upd H t (.tup [.int to,.int (to+c)]))
def xgt(K:ah)(a:Adr):Sp:=fun vs H Q _=>∃(o:Addr) (r:xf),vs=[.ref o]∧xy K a H o r∧r.isTake=true∧∀t H',xb H H'→xmn K H H' t r.rd→Q (.ref t) H'
def xd2(K:ah)(a:Adr):Sp:=fun vs H Q _=>∃(o:Addr) (r:xf),vs=[.ref o]∧xy K a H o r∧r.isTake=true∧∀t H',xb H H'→xmn K H H' t r.wr→Q (.ref t) H'
def xqk(K:ah):Sp:=fun vs H Q _=>∃(s t:Addr) (x y:Int×Int),vs=[.ref s,.ref t]∧xfx K H s x∧xfx K H t y∧Q (.bl (xeo x y)) H
def xjR(K:ah):Sp:=fun vs H Q _=>∃(k:Nat) (s l:Addr) (x:Int×Int) (ts:List Addr) (rds:List (Int×Int)),vs=[.int k,.ref s,.ref l]∧xfx K H s x∧SqL K H l (ts.map V.ref)∧Paired (xfx K H) ts rds∧rds.length≤1000∧xbZ H Q (xbC k x rds)
def xnM(K:ah)(a:Adr):Sp:=fun vs H Q _=>∃(l:Addr) (rs:List xf),vs=[.ref l]∧xgf K a H l rs∧rs.length≤1000∧(∀r∈rs,r.isTake=true)∧xmb H Q (yP rs)
section
variable {P:aI} {w:World} {K:ah} {mg:Str→Option Value} {base:Heap} {a:Adr}
theorem uc(T:Txt K mg a):xv P w K mg base CX0 1 a.q0u a.vT ["self"] (xdW K):=by
 refine T.q1H.ok vc (fun vs H Q E h=>?_) (fun cdv A outer s H vs Q E hr h=>?_)
 ·obtain⟨p,C,dx,fs,to,c,rfl,_⟩:=h;rfl
 ·obtain⟨p,C,dx,fs,to,c,rfl,hp,cl,n1,n2,l1,l2,k⟩:=h;have nd:=vc.nd;refine⟨_,(xi (xq (yX (xa (xx (cv 0) rfl) (xa (xn xK (xx (cv 0) rfl) (xx (cv 0) rfl)) xc))))),?_⟩;walk_at"w";refine⟨p,C,dx,fs,_,rfl,hp,cl,n1,l1,?_⟩;walk_at"w";refine⟨p,C,dx,fs,_,rfl,hp,cl,n1,l1,?_⟩;walk_at"w";refine⟨p,C,dx,fs,_,rfl,hp,cl,n2,l2,?_⟩;walk_at"w";exact⟨by walk_at"side",k⟩
theorem xgu(T:Txt K mg a):xv P w K mg base CX0 2 a.q1b a.jw ["row"] (xgt K a):=by
 refine T.q1d.ok xbw (fun vs H Q E h=>?_) (fun cdv A outer s H vs Q E hr h=>?_)
 ·obtain⟨o,r,rfl,_⟩:=h;rfl
 ·obtain⟨o,r,rfl,ho,htk,k⟩:=h;have nd:=xbw.nd;refine⟨_,(xg (xM (PW.pt (vG (yz (xu zG (by rfl) T.q0q ye (xa (cv 0) (xa (ud (v:=.ref a.q0a) (by rfl) T.xa8 rfl) xc)))) (vx (xaz (yz (xD (cv 0) T.q0b T.q1s (ub T) (hr.mono (by decide)) T.uA .nil xo)))))) (xi (xq (yX (xa (xx (cv 0) rfl) (xa (xn xK (xx (cv 0) rfl) (xx (cv 0) rfl)) xc))))) xF)
  (xi (xq (ud (v:=.ref a.q1p) (by rfl) T.xdG rfl)))),?_⟩
  cases r with
  |put _ _=>cases htk
  |take to st c=>
   obtain⟨dx,h1⟩:=ho;walk_at"w";refine⟨_,_,_,_,true,rfl,rfl,T.xaw h1,T.q1M,?_⟩;walk_at"w";refine⟨fun _=>?_,by walk_at"no"⟩;walk_at"w";refine⟨o,dx,_,rfl,h1,rfl,?_⟩;walk_at"w";refine⟨o,dx,to,st,c,rfl,h1,?_⟩;walk_at"w"
   by_cases e:st=to
   ·rw[decide_eq_true e];refine⟨by walk_at"no",fun _=>?_⟩;walk_at"w";refine k _ _ (xb.refl _) (.inl fun G=>?_);have:=T.xdH G;simpa [xf.rd,e]using this
   ·rw[decide_eq_false e];refine⟨fun _=>?_,by walk_at"no"⟩;walk_at"w";refine⟨o,_,dx,_,.int st,rfl,h1,T.q0b,T.q0e,rfl,?_⟩;walk_at"w";refine⟨o,_,dx,_,.int st,rfl,h1,T.q0b,T.q0e,rfl,?_⟩;walk_at"w";refine⟨o,_,dx,_,.int c,rfl,h1,T.q0b,T.q0f,rfl,?_⟩;walk_at"w";refine⟨by walk_at"side",fun t ht=>k t _ (xb.new ht) (.inr ⟨ht,?_⟩)⟩;rw[xk];simp[xf.rd,e]
theorem xd3(T:Txt K mg a):xv P w K mg base CX0 2 a.q0B a.uS ["row"] (xd2 K a):=by
 refine T.q0D.ok jL (fun vs H Q E h=>?_) (fun cdv A outer s H vs Q E hr h=>?_)
 ·obtain⟨o,r,rfl,_⟩:=h;rfl
 ·obtain⟨o,r,rfl,ho,htk,k⟩:=h;have nd:=jL.nd;refine⟨_,(xg (xM (PW.pt (vG (yz (xu zG (by rfl) T.q0q ye (xa (cv 0) (xa (ud (v:=.ref a.q0a) (by rfl) T.xa8 rfl) xc)))) (vx (yz (xD (cv 0) T.q0b T.q1s (ub T) (hr.mono (by decide)) T.uA .nil xo))))) (xi (xq (ud (v:=.ref a.q1p) (by rfl) T.xdG rfl))) xF)
  (xi (xq (xD (cv 0) T.q0b T.q2U (uc T) (hr.mono (by decide)) T.jb .nil xo)))),?_⟩
  cases r with
  |put _ _=>cases htk
  |take to st c=>
   obtain⟨dx,h1⟩:=ho;walk_at"w";refine⟨_,_,_,_,true,rfl,rfl,T.xaw h1,T.q1M,?_⟩;walk_at"w";refine⟨fun _=>?_,by walk_at"no"⟩;walk_at"w";refine⟨o,dx,_,rfl,h1,rfl,?_⟩;walk_at"w";refine⟨o,dx,to,st,c,rfl,h1,?_⟩;walk_at"w"
   by_cases e:st=to
   ·rw[decide_eq_true e];refine⟨fun _=>?_,by walk_at"no"⟩;walk_at"w";refine k _ _ (xb.refl _) (.inl fun G=>?_);have:=T.xdH G;simpa [xf.wr,e]using this
   ·rw[decide_eq_false e];refine⟨by walk_at"no",fun _=>?_⟩;walk_at"w";refine⟨o,dx,_,rfl,h1,rfl,?_⟩;walk_at"w";refine⟨o,_,dx,_,to,c,rfl,h1,T.q0b,T.q0i,T.q0f,rfl,rfl,fun t ht=>k t _ (xb.new ht) (.inr ⟨ht,?_⟩)⟩;rw[xk];simp[xf.wr,e]
theorem xql(T:Txt K mg a):xv P w K mg base CX0 1 a.q3v a.xi2 ["one","other"] (xqk K):=by
 refine T.q3x.ok xk0 (fun vs H Q E h=>?_) (fun cdv A outer s H vs Q E hr h=>?_)
 ·obtain⟨s,t,x,y,rfl,_⟩:=h;rfl
 ·obtain⟨s1,t1,x,y,rfl,hs,ht,q⟩:=h;have nd:=xk0.nd;refine⟨_,(xi (xq (zN xaA (xu (xdj rfl) (by rfl) T.q3u xb7 (xa (xB xE (cv 0) xh (fun _ _=>rfl)) (xa (xB xE (cv 1) xh (fun _ _=>rfl)) xc))) (xu (xm0 rfl) (by rfl) T.q3C xb8 (xa (xB xE (cv 0) xh (fun _ _=>rfl)) (xa (xB xE (cv 1) xh (fun _ _=>rfl)) xc)))))),?_⟩;walk_at"w";refine⟨s1,_,_,.int x.1,rfl,rfl,hs,rfl,?_⟩;walk_at"w";refine⟨t1,_,_,.int y.1,rfl,rfl,ht,rfl,?_⟩;walk_at"w";refine⟨s1,_,_,.int x.2,rfl,rfl,hs,rfl,?_⟩;walk_at"w";refine⟨t1,_,_,.int y.2,rfl,rfl,ht,rfl,?_⟩;exact q
theorem xjS(T:Txt K mg a):xv P w K mg base CX0 2 a.q11 a.xbU ["number","stretch","read"] (xjR K):=by
 refine T.q17.ok xdO (fun vs H Q E h=>?_) (fun cdv A outer s H vs Q E hr h=>?_)
 ·obtain⟨k,s,l,x,ts,rds,rfl,_⟩:=h;rfl
 ·obtain⟨k,s1,l,x,ts,rds,rfl,hs,hl,hp,hle,q⟩:=h;have nd:=xdO.nd;refine⟨_,(xi (xq (xfa (xgX (cap:=[0,1]) (ys:=["number","stretch"]) rfl rfl rfl rfl rfl rfl ⟨⟨rfl,rfl,.inl rfl⟩,⟨⟨rfl,rfl,.inl rfl⟩,trivial⟩⟩ (by decide+kernel)) rfl (xgW (by rfl) T.q2a (xa (cv 2) xc)) (fun _ _ _ _=>(cv 0)) (fun _ _ _ _=>(xas (PW.pt (vG (xJ xiz (cv 0) (cv 2)) (vx (yz (xr (xql T) (hr.mono (by decide)) (by rfl) T.xru T.q3x.kp T.xrt .nil xo (xa (cv 3) (xa (cv 1) xc)))))))))))),?_⟩;have elen:ts.length=rds.length:=hp.length;walk_at"w";refine⟨l,rfl,⟨_,hl⟩,?_⟩;refine xkd (fun i v=> !decide ((i:Int)=(k:Int))&&xeo x (rds.getD i (0,0))) hl (by rw[aa,av];lia) (fun i v H3 hv s3 R hR=>?_) (fun i v H3 hv s3 R hR=>?_) (fun D H' hD s' hv=>?_)
  ·rw[ak]at hv;cases ht:ts[i]? with
   |none=>rw[ht]at hv;cases hv
   |some t=>
    rw[ht]at hv;cases hv;obtain⟨y,hy,py⟩:=xS hp ht;have eg:rds.getD i (0,0)=y:=by simp[bf,hy]
    walk_at"w";refine⟨fun e=>?_,fun e=>?_⟩
    ·walk_at"w";refine⟨s1,t,x,y,rfl,s3.seqT hs,s3.seqT py,?_⟩;have:=hR _ (xb.refl _);rw[eg,e,Bool.true_and]at this;exact this
    ·have:=hR _ (xb.refl _);rw[e,Bool.false_and]at this;exact this
  ·exact hR _ (xb.refl _)
  ·refine q D H' s' hD ?_;rw[hv,aa,elen,xbC,ck];rfl
theorem xnN(T:Txt K mg a):xv P w K mg base CX0 3 a.q20 a.xfi ["rows"] (xnM K a):=by
 refine T.q23.ok xhQ (fun vs H Q E h=>?_) (fun cdv A outer s H vs Q E hr h=>?_)
 ·obtain⟨l,rs,rfl,_⟩:=h;rfl
 ·obtain⟨l,rs,rfl,⟨os,hl,hp⟩,hle,htk,q⟩:=h;have nd:=xhQ.nd;refine⟨_,(xg (xt (i:=1) nd rfl (dW rfl) (yk (yt (cap:=[]) (ys:=[]) rfl rfl rfl rfl rfl trivial (by decide+kernel)) rfl (xR (cv 0)) (fun _ _ _ _=>(xr (xgu T) (hr.mono (by decide)) (by rfl) T.xg9 T.q1d.kp T.xg8 .nil xo (xa (cv 0) xc))) (fun _ _ _ _=>yp)))
  (xg (xt (i:=2) nd rfl (dW rfl) (yk (yt (cap:=[]) (ys:=[]) rfl rfl rfl rfl rfl trivial (by decide+kernel)) rfl (xR (cv 0)) (fun _ _ _ _=>(xr (xd3 T) (hr.mono (by decide)) (by rfl) T.xes T.q0D.kp T.xer .nil xo (xa (cv 0) xc))) (fun _ _ _ _=>yp)))
  (xi (xq (yk (yt (cap:=[1,2]) (ys:=["read","written"]) rfl rfl rfl rfl rfl ⟨⟨rfl,rfl,.inl rfl⟩,⟨⟨rfl,rfl,.inl rfl⟩,trivial⟩⟩ (by decide+kernel)) rfl (ur (by rfl) T.q06 (xa (xu xw (by rfl) T.q0k xP (xa (cv 0) xc)) xc)) (fun _ _ _ _=>(xr (xjS T) (hr.mono (by decide)) (by rfl) T.xks T.q17.kp T.xkr .nil xo (xa (cv 0) (xa (xB (xiS (K:=K) rfl) (cv 2) (cv 0) (fun _ _=>rfl)) (xa (cv 1) xc))))) (fun _ _ _ _=>yp)))))),?_⟩
  have elen:os.length=rs.length:=hp.length;have hz:(os.map V.ref).length≤aL:=by rw[aa,av];lia
  walk_at"w";refine⟨l,rfl,⟨_,hl⟩,?_⟩;refine vJ (fun i acc G=>∃ts:List Addr,acc=ts.map V.ref∧Paired (xfx K G) ts ((rs.map xf.rd).take i)) hl hz ⟨[],rfl,.nil⟩ (fun i v acc H3 H3' hv s3 s3' hP R hR=>?_) (fun D1 acc H1 H1' hD1 hD1' s1 s1' hP hacc hv1=>?_)
  ·rw[ak]at hv;cases ht:os[i]? with
   |none=>rw[ht]at hv;cases hv
   |some o=>
    rw[ht]at hv;cases hv;obtain⟨r,hy,py⟩:=xS hp ht;obtain⟨ts,rfl,hts⟩:=hP;walk_at"w";refine⟨o,r,rfl,py.same (s3.trans s3'),htk r (az hy),fun t H6 s6 hn=>hR _ _ s6 fun G sG kG=>⟨ts++[t],by simp,?_⟩⟩;rw[bw,ak,hy];exact yv (L2.Paired.imp' (fun _ _ z=>sG.seqT z) hts) (hn.at kG)
  ·obtain⟨t1,rfl,ht1⟩:=hP;rw[aZ (by simp;lia)]at ht1;walk_at"w";have hl1:=(s1.trans s1').seq hl;refine⟨l,rfl,⟨_,hl1⟩,?_⟩;refine vJ (fun i acc G=>∃ts:List Addr,acc=ts.map V.ref∧Paired (xfx K G) ts ((rs.map xf.wr).take i)) hl1 hz ⟨[],rfl,.nil⟩ (fun i v acc H3 H3' hv s3 s3' hP R hR=>?_) (fun D2 acc H2 H2' hD2 hD2' s2 s2' hP hacc2 hv2=>?_)
   ·rw[ak]at hv;cases ht:os[i]? with
    |none=>rw[ht]at hv;cases hv
    |some o=>
     rw[ht]at hv;cases hv;obtain⟨r,hy,py⟩:=xS hp ht;obtain⟨ts,rfl,hts⟩:=hP;walk_at"w";refine⟨o,r,rfl,py.same ((s1.trans s1').trans (s3.trans s3')),htk r (az hy),fun t H6 s6 hn=>hR _ _ s6 fun G sG kG=>⟨ts++[t],by simp,?_⟩⟩;rw[bw,ak,hy];exact yv (L2.Paired.imp' (fun _ _ z=>sG.seqT z) hts) (hn.at kG)
   ·obtain⟨t2,rfl,ht2⟩:=hP;rw[aZ (by simp;lia)]at ht2;walk_at"w";refine⟨l,_,rfl,.inl ((s2.trans s2').seq hl1),?_⟩;walk_at"w";have en:yG 0 ((os.map V.ref).length:Nat) 1=rs.length:=by rw[zh,aa,elen];lia
    rw[en];have hd1:=(s2.trans s2').at hv1;have p1:=L2.Paired.imp' (fun _ _ z=>(s1'.trans (s2.trans s2')).seqT z) ht1;have p2:=L2.Paired.imp' (fun _ _ z=>s2'.seqT z) ht2;have s12:xb H H2':=(s1.trans s1').trans (s2.trans s2');refine xct (fun k=>xbC k ((rs.map xf.wr).getD k (0,0)) (rs.map xf.rd)) (by rw[av];lia) (fun k H3 hk s3 R hR=>?_) (fun D H' as s' L=>?_)
    ·have hk2:k<t2.length:=by rw[p2.length];simpa using hk
     obtain⟨y,hy,py⟩:=xS p2 (ag hk2);have eg:(rs.map xf.wr).getD k (0,0)=y:=by simp only[bf];rw[hy];rfl
     rw[eg]at hR;have ek:(0:Int)+(k:Int)*1=(k:Int):=by lia
     rw[ek];walk_at"w";refine⟨D2,_,_,.ref t2[k],rfl,rfl,SqL.of (s3.at hv2),?_,?_⟩
     ·exact zc (by simp[hk2])
     walk_at"w";exact⟨k,t2[k],D1,y,t1,rs.map xf.rd,rfl,s3.seqT py,SqL.of (s3.at hd1),L2.Paired.imp' (fun _ _ z=>s3.seqT z) p1,by simpa using hle,fun l1 H4 s4 hl4 hv4=>hR _ _ s4 hl4 hv4⟩
    ·exact q D as H' (s12.trans s') (L.base s12)
end
def jE:xf→List Int
 | .take to _ c=>[c,to]
 | .put .. =>[]
def dR:xf:=.put 0 []
abbrev xgv:Expr:=xlL (xna ((xr9 ((xro ((xO yR).getD 4 (.Pass ⟨0,0,0,0⟩))).getD 1 (.Pass ⟨0,0,0,0⟩))).getD 1 (.Pass ⟨0,0,0,0⟩)))
theorem xlf:uu ["one","takes"] ["one"] ["takes"] (zj xgv):=⟨rfl,rfl,rfl,by decide+kernel,rfl,by decide+kernel,by decide+kernel,by decide+kernel⟩
def xqm(K:ah)(a:Adr):List (Str×V)→Sp:=fun fv vs H Q _=>∃(l:Addr) (os:List Addr) (rs:List xf) (x:Int),fv=([("takes",.ref l)]:List (Str×V))∧vs=[.int x]∧SqL K H l (os.map V.ref)∧Paired (xy K a H) os rs∧(∀r∈rs,r.isTake=true)∧0≤x∧x<rs.length∧
 ∀d,H d=none→Q (.ref d) (upd H d (.tup ((jE (rs.getD x.toNat dR)).map V.int)))
inductive Goes(xss:List (List Int))(key:Int→List Int):List Int→List Int→List (Int×List Int)→Prop
 |nil:Goes xss key [] [] []
 |keep {left ord:List Int} {tur:List (Int×List Int)} (k:Int):k∈left→¬xcT xss left k→Goes xss key (left.filter fun x=>decide (x≠k)) ord tur→Goes xss key left (k::ord) tur
 |turn {left ord ring:List Int} {tur:List (Int×List Int)} (k:Int):(∀x∈left,xcT xss left x)→xjP xss left ring→k=ring.getD (bst (fun i=>key (ring.getD i 0)) (ring.length - 1)) 0→k∈left→Goes xss key (left.filter fun x=>decide (x≠k)) ord tur→Goes xss key left ord ((k,ring)::tur)
def xjT(os:List Addr)(G:Hp)(o t:Addr)(p:Addr)(kr:Int×List Int):Prop:=∃rl,rl≠o∧rl≠t∧G p=some (.tup [.ref (os.getD kr.1.toNat 0),.ref rl])∧G rl=some (.lst (kr.2.map fun x=>V.ref (os.getD x.toNat 0)))
def xgw(K:ah)(a:Adr):Sp:=fun vs H Q _=>∃(l:Addr) (os:List Addr) (rs:List xf),vs=[.ref l]∧SqL K H l (os.map V.ref)∧Paired (xy K a H) os rs∧(∀r∈rs,r.isTake=true)∧rs.length≤1000∧H yA=some (.tbl zz)∧
 ∀(p o t:Addr) (ord:List Int) (tur:List (Int×List Int)) (trs:List Addr) (G:Hp),xb H G→H p=none→H o=none→H t=none→o≠t→G p=some (.tup [.ref o,.ref t])→G o=some (.lst (ord.map fun x=>V.ref (os.getD x.toNat 0)))→G t=some (.lst (trs.map V.ref))→Paired (xjT os G o t) trs tur→
  Goes (yP rs) (fun x=>jE (rs.getD x.toNat dR)) ((a9 rs.length).map fun(i:Nat)=>(i:Int)) ord tur→Q (.ref p) G
theorem xcU{k:Int}:∀{kvs:List (Key×V)} {left:List Int},kvs.map (·.1)=left.map b9→(xaj kvs (.inl k)).map (·.1)=(left.filter fun x=>decide (x≠k)).map b9
 |[],[],_=>rfl
 |kv::kvs,x::left,h=>by
  rw[bg,bg]at h;injection h with h1 h2;have ih:=xcU (k:=k) h2;unfold xaj at ih⊢
  by_cases e:x=k
  ·rw[eQ (by rw[h1,e];simp),eQ (by simp[e])];exact ih
  ·rw[eR (by rw[h1];simpa using e),eR (by simpa using e),bg,bg,ih,h1]
theorem xeU{k:Int}{left:List Int}(h:k∈left):(left.filter fun x=>decide (x≠k)).length<left.length:=by
 refine Nat.lt_of_le_of_ne (cm _ _) fun z=>?_;have e:=List.filter_sublist.eq_of_length z;have:=aS.mp (e▸h);simp at this
theorem xgx{rs:List xf}{k:Int}(h0:0≤k)(h1:k<rs.length):k∉(yP rs).getD k.toNat []:=fun hm=>by
 have hk:k.toNat<rs.length:=by lia
 have e:(yP rs).getD k.toNat []=xbC k.toNat ((rs.map xf.wr).getD k.toNat (0,0)) (rs.map xf.rd):=by simp[yP,bf,hk]
 rw[e]at hm;unfold xbC at hm;obtain⟨i,hi,e2⟩:=aT.mp hm;have:=(aS.mp hi).2;rw[fj]at this;have:=this.1;simp at this;lia
def refOf(os:List Addr):V→V
 | .int x=>.ref (os.getD x.toNat 0)
 |_=>.non
theorem getD_mem{xs:List Int}{i:Nat}(h:i<xs.length):xs.getD i 0∈xs:=by
 have:xs.getD i 0=xs[i]:=by simp[bf,h]
 rw[this];exact cM h
section
variable {P:aI} {w:World} {K:ah} {mg:Str→Option Value} {base:Heap} {a:Adr}
theorem xda(T:Txt K mg a):zJ P w K mg base CX0 1 "<lambda>" "put_in_order.<locals>.<lambda>" (xau xgv) (.expr (xav xgv)) (zj xgv) ["one"] (xqm K a):=by
 refine xaF xlf (fun fv vs H Q E h=>?_) (fun _ _ _ _ _ us hl=>match us,hl with|[_],_=>rfl) (fun A outer s H f clos cdv fv vs Q E hr h=>?_)
 ·obtain⟨l,os,rs,x,rfl,rfl,_⟩:=h;exact⟨rfl,rfl⟩
 ·obtain⟨l,os,rs,x,rfl,rfl,hl,hp,htk,x0,x1,k⟩:=h;have nd:=xlf.nd;refine⟨_,(yX (xa (xx (xB yK (cv 1) (cv 0) (fun _ _=>rfl)) rfl) (xa (xx (xB yK (cv 1) (cv 0) (fun _ _=>rfl)) rfl) xc))),?_⟩;have elen:os.length=rs.length:=hp.length;have hx:x.toNat<os.length:=by lia
  have hx2:x.toNat<rs.length:=by lia
  obtain⟨r,hr1,hr2⟩:=xS hp (ag hx);have ht:=htk r (az hr1);have eg:rs.getD x.toNat dR=r:=by simp only[bf];rw[hr1];rfl
  rw[eg]at k;have hat:atI (os.map V.ref) x=some (.ref os[x.toNat]):=by
   have:=zc (xs:=os.map V.ref) (j:=x.toNat) (v:=.ref os[x.toNat]) (by simp[hx])
   rwa [bT x0]at this
  cases r with
  |put _ _=>cases ht
  |take to st c=>
   obtain⟨dx,h1⟩:=hr2;walk_at"w";refine⟨l,_,_,_,rfl,rfl,hl,hat,?_⟩;walk_at"w";refine⟨_,_,dx,_,.int c,rfl,h1,T.q0b,T.q0f,rfl,?_⟩;walk_at"w";refine⟨l,_,_,_,rfl,rfl,hl,hat,?_⟩;walk_at"w";refine⟨_,_,dx,_,.int to,rfl,h1,T.q0b,T.q0i,rfl,?_⟩;walk_at"w";exact⟨by walk_at"side",k⟩
theorem xgy(T:Txt K mg a):xv P w K mg base CX0 4 a.q0S a.uJ ["takes"] (xgw K a):=by
 refine T.zR.okC ["takes"] T.xf0 xbx (fun vs H Q E h=>?_) (fun A outer s H vs Q E hr h=>?_)
 ·obtain⟨l,os,rs,rfl,_⟩:=h;rfl
 ·obtain⟨l,os,rs,rfl,hl,hp,htk,hle,hP,q⟩:=h;have nd:=xbx.nd;refine⟨_,(xbp (x:="takes") (i:=0) nd rfl rfl rfl (by kernel_rfl) (xg (xt (i:=1) nd rfl (aD rfl) (xr (xnN T) (hr.mono (by decide)) (by rfl) T.xov T.q23.kp T.xou .nil xo (xa (cv 0) xc)))
  (xg (xt (i:=2) nd rfl (aD rfl) (yb (xlU rfl) (by rfl) T.q4r xpF (xa (yk (yt (cap:=[]) (ys:=[]) rfl rfl rfl rfl rfl trivial (by decide+kernel)) rfl (ur (by rfl) T.q06 (xa (xu xw (by rfl) T.q0k xP (xa (cv 0) xc)) xc)) (fun _ _ _ _=>(yX (xa (cv 0) (xa jz xc)))) (fun _ _ _ _=>yp)) xc)))
  (xg (xt (i:=3) nd rfl (aD rfl) (yh xc))
  (xg (xt (i:=4) nd rfl (aD rfl) (yh xc))
  (xg (xaE aV (xJ xgO (xu xmU (by rfl) T.q0k xP (xa (cv 2) xc)) xh) (xg (xt (i:=5) nd rfl (aD rfl) (xr (xez T) (hr.mono (by decide)) (by rfl) T.xfl T.q0O.kp T.xfk .nil xo (xa (cv 1) (xa (cv 2) xc))))
  (xg (xb6 (xM (xdk (cv 5)) (xg (xt (i:=6) nd rfl (aD rfl) (xr (xir T) (hr.mono (by decide)) (by rfl) T.xja T.q1J.kp T.xi9 .nil xo (xa (cv 1) (xa (cv 2) xc))))
  (xg (xt (i:=5) nd rfl (aD rfl) (xpX (xda T) (hr.mono (by decide)) rfl (by rfl) T.q3C (xa (cv 6) xc) (zw (c:=q0r) (P:=yA) (qs:=zz) (fns:=["takes"]) rfl T.q27 (q:="put_in_order.<locals>.<lambda>") (by kernel_rfl) (.head _) (by kernel_rfl) (by kernel_rfl))))
  (xi (xN (zt PySem.F.plainAttrs_list PySem.F.slot_list_append PySem.F.type_list_append yi (cv 4) (xa (yX (xa (xB yK (cv 0) (cv 5) (fun _ _=>rfl)) (xa (yk (yt (cap:=[0]) (ys:=["takes"]) rfl rfl rfl rfl rfl ⟨⟨rfl,rfl,.inl rfl⟩,trivial⟩ (by decide+kernel)) rfl (xR (cv 6)) (fun _ _ _ _=>(xB (xiS (K:=K) rfl) (cv 1) (cv 0) (fun _ _=>rfl))) (fun _ _ _ _=>yp)) xc))) xc)))))) (xi (xN (zt PySem.F.plainAttrs_list PySem.F.slot_list_append PySem.F.type_list_append yi (cv 3) (xa (xB yK (cv 0) (cv 5) (fun _ _=>rfl)) xc))))))
  (xi (xN (xn7 (cv 2) (cv 5) ⟨by rfl,by rfl,by decide,by rfl⟩))))))
  (xi (xq (yX (xa (cv 3) (xa (cv 4) xc))))))))))),?_⟩
  have elen:os.length=rs.length:=hp.length;walk_at"w";intro a1 e1 z1 d1;refine cS z1 ?_;generalize hU1:upd H a1 _=H1;have s1:=xb.of_eq z1 hU1;have c1:=xm hU1;clear hU1;walk_at"w";refine⟨l,rs,rfl,⟨os,s1.seq hl,L2.Paired.imp' (fun _ _ z=>z.same s1) hp⟩,hle,htk,fun D as H2 s2 L=>?_⟩;walk_at"w";refine⟨l,_,rfl,.inl ((s1.trans s2).seq hl),?_⟩;walk_at"w";have en:yG 0 ((os.map V.ref).length:Nat) 1=rs.length:=by rw[zh,aa,elen];lia
  rw[en];refine xhI (fun i acc G=>∃ts:List Addr,acc=ts.map V.ref∧Paired (fun t (kv:Key×V)=>G t=some (.tup [kV kv.1,kv.2])) ts ((a9 i).map fun(j:Nat)=>((b9 (j:Int),V.bl true):Key×V))) (by rw[av];lia) ⟨[],rfl,.nil⟩ (fun i acc H3 H3' hi s3 s3' hPv R hR=>?_) (fun D2 acc H3 H3' hD2 hD2' s3 s3' hPv hacc hv2=>?_)
  ·obtain⟨ts,rfl,hts⟩:=hPv;have ek:(0:Int)+(i:Int)*1=(i:Int):=by lia
   rw[ek];walk_at"w";refine⟨by walk_at"side",fun t ht=>hR _ _ (xb.new ht) fun G sG kG=>⟨ts++[t],by simp,?_⟩⟩;rw[fJ,aG];exact yv (L2.Paired.imp' (fun _ _ z=>sG.at z) hts) (kG t _ (.inl ht) xk)
  obtain⟨ts,rfl,hts⟩:=hPv;have s03:xb H1 H3':=s2.trans (s3.trans s3');walk_at"w";refine⟨D2,ts,_,rfl,SqL.of hv2,L2.Paired.imp' (fun _ _ z=>s3'.at z) hts,?_,fun d hd=>?_⟩
  ·rw[ck];exact b8.mpr (eI.imp fun h e=>h (by have:=Sum.inl.inj e;lia))
  generalize hU4:upd H3' d _=H4;have s4:=xb.of_eq hd hU4;have c4:=xm hU4;clear hU4;walk_at"w";walk_at"ss";intro o ho;generalize hUo:upd H4 o _=H5;have sH5:=xb.of_eq ho hUo;have eo:=xm hUo;clear hUo;walk_at"w";walk_at"w";walk_at"ss";intro t ht;generalize hUt:upd H5 t _=H6;have sH6:=xb.of_eq ht hUt;have et:=xm hUt;clear hUt;walk_at"w";walk_at"w";have s26:xb H2 H6:=(s3.trans s3').trans (s4.trans (sH5.trans sH6));have fd:H2 d=none:=(s3.trans s3').back hd;have fo:H2 o=none:=((s3.trans s3').trans s4).back ho;have ft:H2 t=none:=(((s3.trans s3').trans s4).trans sH5).back ht;have hot:o≠t:=fun z=>by rw[z]at eo;rw[ht]at eo;cases eo
  have hspl:(yP rs).length=rs.length:=by simp[yP]
  have hspo:∀xs∈yP rs,xs.length≤1000:=fun xs hx=>by
   obtain⟨k,_,rfl⟩:=aT.mp hx;unfold xbC;rw[aa];refine a7 (cm _ _) ?_;simp;lia
  refine uV (m:=rs.length) (fun m σ G=>xb H2 G∧∃(left:List Int) (kvs:List (Key×V)) (ord:List Int) (tur:List (Int×List Int)) (trs:List Addr) (z5 z6:Option V),m=left.length∧σ=[some (.ref l),some (.ref D),some (.ref d),some (.ref o),some (.ref t),z5,z6]∧G d=some (.dK kvs)∧kvs.map (·.1)=left.map b9∧(∀x∈left,0≤x∧x<rs.length)∧
   G o=some (.lst (ord.map fun x=>V.ref (os.getD x.toNat 0)))∧G t=some (.lst (trs.map V.ref))∧Paired (xjT os G o t) trs tur∧ord.length+tur.length+left.length≤rs.length∧
   ∀ord' tur',Goes (yP rs) (fun x=>jE (rs.getD x.toNat dR)) left ord' tur'→Goes (yP rs) (fun x=>jE (rs.getD x.toNat dR)) ((a9 rs.length).map fun(i:Nat)=>(i:Int)) (ord++ord') (tur++tur'))
   ⟨s26,(a9 rs.length).map fun(i:Nat)=>(i:Int),_,[],[],[],_,_,by simp,rfl,(sH5.trans sH6).at c4,by rw[ck,ck];rfl,fun x hx=>?_,sH6.at eo,et,.nil,by simp,fun _ _ g=>g⟩ (fun m σ G hPv=>?_)
  ·obtain⟨i,hi,rfl⟩:=aT.mp hx;have:=bp.mp hi;exact⟨by lia,by lia⟩
  obtain⟨sG,left,kvs,ord,tur,trs,z5,z6,rfl,rfl,hdG,hks,hlo,hoG,htG,hpt,hsz,hgo⟩:=hPv;have hkl:kvs.length=left.length:=by have:=congrArg cC hks;simpa using this
  have LG:=L.same sG;walk_at"w";refine⟨d,kvs,rfl,hdG,?_⟩;walk_at"w";refine⟨fun e=>?_,fun e=>?_⟩
  ·refine⟨_,fun _ _ z=>z,?_⟩;have hlp:0<left.length:=by have:=of_decide_eq_true e;lia
   obtain⟨M,eM⟩:∃M:L2.St→Hp→Prop,M=fun σ' G'=>∃(kn:Int) (y6:Option V),σ'=[some (.ref l),some (.ref D),some (.ref d),some (.ref o),some (.ref t),some (.int kn),y6]∧kn∈left∧xb H2 G'∧G' d=some (.dK kvs)∧∃(ord1:List Int) (tur1:List (Int×List Int)) (trs1:List Addr),G' o=some (.lst (ord1.map fun x=>V.ref (os.getD x.toNat 0)))∧G' t=some (.lst (trs1.map V.ref))∧Paired (xjT os G' o t) trs1 tur1∧ord1.length+tur1.length+left.length≤rs.length+1∧
    ∀ord' tur',Goes (yP rs) (fun x=>jE (rs.getD x.toNat dR)) (left.filter fun x=>decide (x≠kn)) ord' tur'→Goes (yP rs) (fun x=>jE (rs.getD x.toNat dR)) ((a9 rs.length).map fun(i:Nat)=>(i:Int)) (ord1++ord') (tur1++tur'):=⟨_,rfl⟩
   walk_at"w";refine⟨D,d,as,H1,yP rs,kvs,left,rfl,LG,hdG,hks,fun x hx=>by rw[hspl];exact hlo x hx,by lia,hspo,fun kn hkn hh G1 g1=>?_,fun hall G1 g1=>?_⟩
   ·walk_at"w";refine⟨M,?_,fun σ' H' hM=>?_⟩
    ·walk_at"w";refine⟨by walk_at"no",fun _=>?_⟩;walk_at"w";refine⟨.inl ⟨rfl,_,SqL.of (g1.at hoG)⟩,?_⟩;walk_at"w";have hok:=hlo kn hkn;have hat:atI (os.map V.ref) kn=some (.ref (os.getD kn.toNat 0)):=by
      have hx:kn.toNat<os.length:=by lia
      have:=zc (xs:=os.map V.ref) (j:=kn.toNat) (v:=.ref os[kn.toNat]) (by simp[hx]);rw[bT hok.1]at this;rw[this];simp[bf,hx]
     refine⟨l,_,_,_,rfl,rfl,(s1.trans (s2.trans (sG.trans g1))).seq hl,hat,?_⟩;walk_at"w";refine⟨o,_,_,rfl,rfl,g1.at hoG,by rw[aa,av];lia,?_⟩;generalize hU:upd G1 o _=G2;have eo2:G2 o=some (.lst ((ord++[kn]).map fun x=>V.ref (os.getD x.toNat 0))):=by rw[←hU,xk,aG];rfl
     have off:∀b u,b≠o→G b=some u→G2 b=some u:=fun b u hb e=>by rw[←hU,xl hb];exact g1.at e
     have s2G:xb H2 G2:=xb.wr (sG.trans g1) fo hU;clear hU;subst eM;refine⟨kn,z6,rfl,hkn,s2G,off d _ (fun z=>by rw[z]at hdG;rw[hdG]at hoG;cases hoG) hdG,ord++[kn],tur,trs,eo2,off t _ (a8 hot) htG,L2.Paired.imp' (fun p kr z=>?_) hpt,by rw[aq,bK];lia,fun ord' tur' g=>?_⟩
     ·obtain⟨rl,n1,n2,x1,x2⟩:=z;exact⟨rl,n1,n2,off _ _ (fun z=>by rw[z]at x1;rw[x1]at hoG;cases hoG) x1,off _ _ n1 x2⟩
     ·have:=hgo (kn::ord') tur' (.keep kn hkn hh g);rw[c8];exact this
    subst eM
    ·obtain⟨kn,y6,rfl,hkm,sM,dM,⟨ord1,tur1,trs1,oM,tM,pM,zM,gM⟩⟩:=hM;have hsome:(yD kvs (.inl kn)).isSome=true:=by rw[xbB hks];exact decide_eq_true hkm
     obtain⟨vv,hvv⟩:=eA.mp hsome;walk_at"w";refine⟨d,rfl,.inl ⟨_,.inl dM⟩,?_⟩;walk_at"w";refine⟨kvs,.inl kn,vv,dM,rfl,hvv,?_⟩;generalize hU:upd H' d _=G2;have ed2:G2 d=some (.dK (xaj kvs (.inl kn))):=by rw[←hU,xk]
     have off:∀b u,b≠d→H' b=some u→G2 b=some u:=fun b u hb e=>by rw[←hU,xl hb];exact e
     have s2G:xb H2 G2:=xb.wr sM fd hU;clear hU;have hfl:=xeU hkm;refine⟨_,hfl,s2G,left.filter fun x=>decide (x≠kn),_,ord1,tur1,trs1,_,_,rfl,rfl,ed2,xcU hks,fun x hx=>hlo x (aS.mp hx).1,off o _ (fun z=>by rw[z]at oM;rw[oM]at dM;cases dM) oM,off t _ (fun z=>by rw[z]at tM;rw[tM]at dM;cases dM) tM,L2.Paired.imp' (fun p kr z=>?_) pM,by lia,gM⟩;obtain⟨rl,n1,n2,x1,x2⟩:=z;exact⟨rl,n1,n2,off _ _ (fun z=>by rw[z]at x1;rw[x1]at dM;cases dM) x1,off _ _ (fun z=>by rw[z]at x2;rw[x2]at dM;cases dM) x2⟩
   ·walk_at"w";refine⟨M,?_,fun σ' H' hM=>?_⟩
    ·walk_at"w";refine⟨fun _=>?_,by walk_at"no"⟩;walk_at"w";have hLok:xd1 (yP rs) left:=fun x hx=>⟨(hlo x hx).1,by rw[hspl];exact(hlo x hx).2,hall x hx⟩;refine⟨D,d,as,H1,yP rs,kvs,left,rfl,LG.same g1,g1.at hdG,hks,List.ne_nil_of_length_pos hlp,by lia,hLok,by lia,hspo,fun ring hring r G2 g2 hr2 er2=>?_⟩;walk_at"w";have hat:∀x∈left,atI (os.map V.ref) x=some (.ref (os.getD x.toNat 0)):=fun x hx=>by
      have hok:=hlo x hx;have hx:x.toNat<os.length:=by lia
      have:=zc (xs:=os.map V.ref) (j:=x.toNat) (v:=.ref os[x.toNat]) (by simp[hx]);rw[bT hok.1]at this;rw[this];simp[bf,hx]
     obtain⟨rg1,rg2,rg3,_⟩:=xh1 hLok (fun x hx=>xgx (hlo x hx).1 (hlo x hx).2) hring;have rgl:ring.length≤1000:=by
      have:=jH rg2 rg3;lia
     have sH2:xb H G2:=s1.trans (s2.trans (sG.trans (g1.trans g2)));refine⟨sH2.at hP,[("takes",.ref l)],rfl,fun x v m=>?_,fun f G3 hf g3 hcl=>?_⟩
     ·simp only[ao,fz,bC,or_false]at m;obtain⟨rfl,rfl⟩:=m;exact⟨a1,e1,(s2.trans (sG.trans (g1.trans g2))).at c1⟩
     walk_at"w";refine⟨r,f,ring,_,fun i=>jE (rs.getD (ring.getD i 0).toNat dR),rfl,rfl,SqL.of (g3.at er2),by lia,hcl,fun i x hx G4 g4=>?_,fun G4 g4=>?_⟩
     ·have hxm:x∈left:=rg3 x (az hx);refine⟨l,os,rs,x,rfl,rfl,(sH2.trans (g3.trans g4)).seq hl,L2.Paired.imp' (fun _ _ z=>z.same (sH2.trans (g3.trans g4))) hp,htk,(hlo x hxm).1,(hlo x hxm).2,fun dd hdd=>⟨xb.new hdd,dd,rfl,?_⟩⟩;have:ring.getD i 0=x:=by simp[bf,hx]
      rw[xk];show _=some (HO.tup ((jE (rs.getD (ring.getD i 0).toNat dR)).map V.int));rw[this]
     have hbl:=xnk (fun i=>jE (rs.getD (ring.getD i 0).toNat dR)) (ring.length - 1);generalize hkn:ring.getD (bst (fun i=>jE (rs.getD (ring.getD i 0).toNat dR)) (ring.length - 1)) 0=kn;have hkr:kn∈ring:=by
      rw[←hkn];exact getD_mem (by lia)
     have hkm:=rg3 kn hkr;have g14:xb G G4:=g1.trans (g2.trans (g3.trans g4));have sH4:xb H G4:=sH2.trans (g3.trans g4);walk_at"w";refine⟨.inl ⟨rfl,_,SqL.of (g14.at htG)⟩,?_⟩;walk_at"w";refine⟨l,_,_,_,rfl,rfl,sH4.seq hl,hat kn hkm,?_⟩;walk_at"w";refine⟨_,rfl,⟨_,SqL.of ((g3.trans g4).at er2)⟩,?_⟩;refine xdn (refOf os) (SqL.of ((g3.trans g4).at er2)) (by rw[aa,av];lia) (fun v G5 hv g5 R hR=>?_) (fun rl G5 hrl g5 erl=>?_)
     ·obtain⟨x,hx,rfl⟩:=aT.mp hv;walk_at"w";refine⟨l,_,_,_,rfl,rfl,(sH4.trans g5).seq hl,hat x (rg3 x hx),?_⟩;exact hR _ (xb.refl _)
     walk_at"w";refine⟨by walk_at"side",fun p hpn=>?_⟩;generalize hV:upd G5 p _=G6;have g6:=xb.of_eq hpn hV;have ep6:=xm hV;clear hV;have g06:xb G G6:=g14.trans (g5.trans g6);walk_at"w";refine⟨t,_,_,rfl,rfl,g06.at htG,by rw[aa,hpt.length,av];lia,?_⟩;generalize hU:upd G6 t _=G7;have et7:G7 t=some (.lst ((trs++[p]).map V.ref)):=by rw[←hU,xk,aG];rfl
     have off:∀b u,b≠t→G6 b=some u→G7 b=some u:=fun b u hb e=>by rw[←hU,xl hb];exact e
     have s2G:xb H2 G7:=xb.wr (sG.trans g06) ft hU;clear hU;have fp:G p=none:=(g14.trans g5).back hpn;have frl:G rl=none:=g14.back hrl;have hrlo:rl≠o:=fun z=>by rw[z]at frl;rw[frl]at hoG;cases hoG
     have hrlt:rl≠t:=fun z=>by rw[z]at frl;rw[frl]at htG;cases htG
     subst eM;refine⟨kn,_,rfl,hkm,s2G,off d _ (fun z=>by rw[z]at hdG;rw[hdG]at htG;cases htG) (g06.at hdG),ord,tur++[(kn,ring)],trs++[p],off o _ hot (g06.at hoG),et7,yv (L2.Paired.imp' (fun p' kr z=>?_) hpt) ⟨rl,hrlo,hrlt,off _ _ (fun z=>by rw[z]at fp;rw[fp]at htG;cases htG) ep6,off _ _ hrlt (g6.at (by rw[erl,ck];rfl))⟩,by rw[aq,bK];lia,fun ord' tur' g=>?_⟩
     ·obtain⟨rl',n1,n2,x1,x2⟩:=z;exact⟨rl',n1,n2,off _ _ (fun z=>by rw[z]at x1;rw[x1]at htG;cases htG) (g06.at x1),off _ _ n2 (g06.at x2)⟩
     ·have:=hgo ord' ((kn,ring)::tur') (.turn kn hall hring hkn.symm hkm g);rw[c8];exact this
    subst eM
    ·obtain⟨kn,y6,rfl,hkm,sM,dM,⟨ord1,tur1,trs1,oM,tM,pM,zM,gM⟩⟩:=hM;have hsome:(yD kvs (.inl kn)).isSome=true:=by rw[xbB hks];exact decide_eq_true hkm
     obtain⟨vv,hvv⟩:=eA.mp hsome;walk_at"w";refine⟨d,rfl,.inl ⟨_,.inl dM⟩,?_⟩;walk_at"w";refine⟨kvs,.inl kn,vv,dM,rfl,hvv,?_⟩;generalize hU:upd H' d _=G2;have ed2:G2 d=some (.dK (xaj kvs (.inl kn))):=by rw[←hU,xk]
     have off:∀b u,b≠d→H' b=some u→G2 b=some u:=fun b u hb e=>by rw[←hU,xl hb];exact e
     have s2G:xb H2 G2:=xb.wr sM fd hU;clear hU;have hfl:=xeU hkm;refine⟨_,hfl,s2G,left.filter fun x=>decide (x≠kn),_,ord1,tur1,trs1,_,_,rfl,rfl,ed2,xcU hks,fun x hx=>hlo x (aS.mp hx).1,off o _ (fun z=>by rw[z]at oM;rw[oM]at dM;cases dM) oM,off t _ (fun z=>by rw[z]at tM;rw[tM]at dM;cases dM) tM,L2.Paired.imp' (fun p kr z=>?_) pM,by lia,gM⟩;obtain⟨rl,n1,n2,x1,x2⟩:=z;exact⟨rl,n1,n2,off _ _ (fun z=>by rw[z]at x1;rw[x1]at dM;cases dM) x1,off _ _ (fun z=>by rw[z]at x2;rw[x2]at dM;cases dM) x2⟩
  ·have hl0:left=[]:=dA.mp (by have:=of_decide_eq_false e;lia);subst hl0;walk_at"w";refine⟨by walk_at"side",fun p hpn=>?_⟩;have sGp:=xb.new (o:=HO.tup [.ref o,.ref t]) hpn;have g:=hgo [] [] .nil;rw[dO,dO]at g;have sHG:xb H G:=s1.trans (s2.trans sG);exact q p o t ord tur trs _ (sHG.trans sGp) (sHG.back hpn) ((s1.trans s2).back fo) ((s1.trans s2).back ft) hot xk (sGp.at hoG) (sGp.at htG) (L2.Paired.imp' (fun p kr z=>by obtain⟨rl,n1,n2,x1,x2⟩:=z;exact⟨rl,n1,n2,sGp.at x1,sGp.at x2⟩) hpt) g
end
namespace ML
theorem xlg:∀xs:List Int,HT.lexLt xs xs=false
 |[]=>rfl
 |x::xs=>by rw[HT.zr,if_pos rfl];exact xlg xs
theorem xgz:∀{xs ys zs:List Int},HT.lexLt xs ys=true→HT.lexLt ys zs=true→HT.lexLt xs zs=true
 |[],[],_,h,_=>by cases h
 |_::_,[],_,h,_=>by cases h
 |[],_::_,[],_,h=>by cases h
 |[],_::_,_::_,_,_=>rfl
 |_::_,_::_,[],_,h=>by cases h
 |x::xs,y::ys,z::zs,h1,h2=>by
  rw[HT.zr]at h1 h2⊢
  split at h1
  ·rename_i e1;subst e1
   split at h2
   ·rename_i e2;rw[if_pos e2];exact xgz h1 h2
   ·rename_i e2;rw[if_neg e2];exact h2
  ·rename_i e1;have g1:=of_decide_eq_true h1
   split at h2
   ·rename_i e2;subst e2;rw[if_neg e1];exact h1
   ·have g2:=of_decide_eq_true h2;rw[if_neg (by omega)];exact decide_eq_true (by omega)
theorem xlh:∀{xs ys:List Int},xs.length≠ys.length→HT.lexLt xs ys=true∨HT.lexLt ys xs=true
 |[],[],h=>absurd rfl h
 |[],_::_,_=>.inl rfl
 |_::_,[],_=>.inr rfl
 |x::xs,y::ys,h=>by
  rw[HT.zr,HT.zr]
  by_cases e:x=y
  ·rw[if_pos e,if_pos e.symm];exact xlh (by simpa using h)
  ·rw[if_neg e,if_neg (fun z=>e z.symm)];rcases Int.lt_or_lt_of_ne e with z|z
   ·exact .inl (decide_eq_true z)
   ·exact .inr (decide_eq_true z)
theorem xqn(es:List Int):STO (fun i j=>HT.lexLt (es.drop i) (es.drop j)) es.length where
 irr:=fun i _=>xlg _
 tr:=fun i j k _ _ _ h1 h2=>xgz h1 h2
 tot:=fun i j hi hj hne=>xlh (by rw[aO,aO];lia)
def xcV(es:List Int)(p:List Nat):Prop:=p.Perm (a9 es.length)∧p.Pairwise fun i j=>HT.lexLt (es.drop i) (es.drop j)=true
abbrev vf:Expr:=xlL (xri ((xO uy).getD 0 (.Pass ⟨0,0,0,0⟩)))
theorem xd0:uu ["at","text"] ["at"] ["text"] (zj vf):=⟨rfl,rfl,rfl,by decide+kernel,rfl,by decide+kernel,by decide+kernel,by decide+kernel⟩
def xgs:List (Str×V)→Sp:=fun fv vs H Q _=>∃(e:Addr) (es:List Int) (i:Int),fv=([("text",.ref e)]:List (Str×V))∧vs=[.int i]∧H e=some (.lst (es.map V.int))∧0≤i∧∀d,H d=none→Q (.ref d) (upd H d (.lst ((es.drop i.toNat).map V.int)))
def xmo:Sp:=fun vs H Q _=>∃(e:Addr) (es:List Int),vs=[.ref e]∧H zy=some (.tbl uI)∧H e=some (.lst (es.map V.int))∧es.length<64∧∀(l:Addr) (p:List Nat) (H':Hp),xb H H'→H l=none→H' l=some (.lst (p.map fun(i:Nat)=>V.int i))→xcV es p→Q (.ref l) H'
def lcp:List Int→List Int→Nat
 |x::xs,y::ys=>if x=y then lcp xs ys+1 else 0
 |_,_=>0
theorem vw(x y:Int)(xs ys:List Int):lcp (x::xs) (y::ys)=if x=y then lcp xs ys+1 else 0:=rfl
theorem xd4:∀xs ys:List Int,lcp xs ys≤ys.length
 |[],_=>aJ _
 |_::_,[]=>ai _
 |x::xs,y::ys=>by
  rw[vw];have:=xd4 xs ys
  split<;> simp<;> omega
theorem xnO:∀{a b c:List Int},HT.lexLt a b=true→HT.lexLt b c=true→lcp a c≤lcp b c
 |[],_,_,_,_=>aJ _
 |_::_,[],_,h,_=>by cases h
 |_::_,_::_,[],_,h=>by cases h
 |x::a,y::b,z::c,h1,h2=>by
  rw[HT.zr]at h1 h2;rw[vw,vw]
  by_cases e:x=z
  ·subst e;rw[if_pos rfl]
   by_cases e1:x=y
   ·subst e1;rw[if_pos rfl]at h1 h2⊢;have:=xnO h1 h2;lia
   ·rw[if_neg e1]at h1;rw[if_neg (fun q=>e1 q.symm)]at h2;have:=of_decide_eq_true h1;have:=of_decide_eq_true h2;lia
  ·rw[if_neg e];exact aJ _
theorem xjU:∀{a b c:List Int},HT.lexLt b a=true→HT.lexLt b c=false→lcp a c≤lcp b c
 |[],_,_,_,_=>aJ _
 |_::_,_,[],_,_=>aJ _
 |_::_,[],_::_,_,h=>by cases h
 |x::a,y::b,z::c,h1,h2=>by
  rw[HT.zr]at h1 h2;rw[vw,vw]
  by_cases e:x=z
  ·subst e;rw[if_pos rfl]
   by_cases e1:y=x
   ·subst e1;rw[if_pos rfl]at h1 h2⊢;have:=xjU h1 h2;lia
   ·rw[if_neg e1]at h1 h2;rw[h1]at h2;cases h2
  ·rw[if_neg e];exact aJ _
theorem xbj:∀{m:Nat} {xs ys:List Int},m≤ys.length→(xs.take m=ys.take m↔m≤lcp xs ys)
 |0,xs,ys,_=>by simp
 |m+1,xs,[],h=>by simp at h
 |m+1,[],y::ys,_=>by simp[lcp]
 |m+1,x::xs,y::ys,h=>by
  have:=xbj (m:=m) (xs:=xs) (ys:=ys) (by simpa using h);rw[gN,gN,vw]
  by_cases e:x=y
  ·subst e;rw[if_pos rfl];simp[this]
  ·rw[if_neg e];simp[e]
theorem xoR{xs ys:List Int}{k:Nat}(hk:xs.take k=ys.take k)(h1:k<xs.length)(h2:k<ys.length):(xs[k]=ys[k]↔xs.take (k+1)=ys.take (k+1)):=by
 rw[eO h1,eO h2,hk];refine⟨fun e=>by rw[e],fun e=>?_⟩;have:=List.append_cancel_left e;simpa using this
theorem xoS{xs ys:List Int}{k:Nat}(hk:xs.take k=ys.take k)(hy:k≤ys.length)(hn:k<xs.length→k<ys.length→xs.take (k+1)≠ys.take (k+1))(hx:k≤xs.length):lcp xs ys=k:=by
 have h1:=(xbj hy).mp hk
 by_cases h:lcp xs ys≤k
 ·lia
 ·have hl:=xd4 xs ys;have h2:=(xbj (m:=k+1) (xs:=xs) (ys:=ys) (by lia)).mpr (by lia);have hlen:=congrArg cC h2;rw[bB,bB]at hlen;exact absurd h2 (hn (by lia) (by lia))
def xjV(es:List Int)(p:List Nat)(ps:List Int)(L:Nat):Prop:=L≤p.length∧(∀i,i<L→HT.lexLt (es.drop (p.getD i 0)) ps=true)∧∀i,L≤i→i<p.length→HT.lexLt (es.drop (p.getD i 0)) ps=false
theorem xgA{es:List Int}{p:List Nat}(hp:xcV es p){i j:Nat}(h:i<j)(hj:j<p.length):HT.lexLt (es.drop (p.getD i 0)) (es.drop (p.getD j 0))=true:=by
 have:=bL.mp hp.2 i j (by lia) hj h;simp only[bf,ag hj,ag (show i<p.length by lia),Option.getD_some];exact this
def around(p:List Nat)(L:Nat):List Nat:=(p.drop (L - 1)).take (L+1 - (L - 1))
theorem xgB{p:List Nat}{L j:Nat}(h1:L - 1≤j)(h2:j≤L)(h3:j<p.length):p.getD j 0∈around p L:=by
 unfold around;refine az (i:=j - (L - 1)) ?_;rw[dJ,if_pos (by lia),cb,show L - 1+(j - (L - 1))=j by lia,ag h3];simp[bf,h3]
theorem xeV{es:List Int}{p:List Nat}{ps:List Int}{L:Nat}(hp:xcV es p)(hL:xjV es p ps L){i:Nat}(hi:i<es.length):∃b∈around p L,lcp (es.drop i) ps≤lcp (es.drop b) ps:=by
 obtain⟨j,hj,e⟩:=cy.mp (hp.1.mem_iff.mpr (bp.mpr hi));have ej:p.getD j 0=i:=by simp[bf,hj,e]
 obtain⟨h0,h1,h2⟩:=hL
 by_cases h:j<L
 ·refine⟨p.getD (L - 1) 0,xgB (ai _) (by omega) (by omega),?_⟩
  by_cases q:j=L - 1
  ·rw[←q,ej];exact ai _
  ·have a1:=xgA hp (show j<L - 1 by omega) (by omega);rw[ej]at a1;exact xnO a1 (h1 _ (by omega))
 ·refine⟨p.getD L 0,xgB (by omega) (ai _) (by omega),?_⟩
  by_cases q:j=L
  ·rw[←q,ej];exact ai _
  ·have a1:=xgA hp (show L<j by omega) hj;rw[ej]at a1;exact xjU a1 (h2 _ (ai _) (by omega))
theorem xh2{es:List Int}{p:List Nat}{L b:Nat}(hp:xcV es p)(h:b∈around p L):b<es.length:=
 bp.mp (hp.1.mem_iff.mp (dw (d7 h)))
def uC(es ps:List Int)(n a c:Nat):Prop:=(∀i,i<n→lcp (es.drop i) ps≤c)∧((c=0∧a=0)∨(0<c∧a<n∧lcp (es.drop a) ps=c∧∀i,i<a→lcp (es.drop i) ps<c))
theorem uC.uniq{es ps:List Int}{n a c a' c':Nat}(h:uC es ps n a c)(h':uC es ps n a' c'):a=a'∧c=c':=by
 obtain⟨h1,h2⟩:=h;obtain⟨g1,g2⟩:=h';rcases h2 with⟨rfl,rfl⟩|⟨h2,h3,h4,h5⟩
 ·rcases g2 with⟨rfl,rfl⟩|⟨g2,g3,g4,g5⟩
  ·exact⟨rfl,rfl⟩
  ·have:=h1 a' g3;lia
 ·rcases g2 with⟨rfl,rfl⟩|⟨g2,g3,g4,g5⟩
  ·have:=g1 a h3;lia
  ·have b1:=h1 a' g3;have b2:=g1 a h3;have ec:c=c':=by lia
   refine⟨?_,ec⟩
   by_cases q:a=a'
   ·exact q
   ·exfalso;rcases Nat.lt_or_gt_of_ne q with z|z
    ·have:=g5 a z;lia
    ·have:=h5 a' z;lia
theorem xoT{es:List Int}{p:List Nat}{ps:List Int}{L:Nat}(hp:xcV es p)(hL:xjV es p ps L){m:Int}
  (h0:(around p L).map (fun b=>((lcp (es.drop b) ps:Nat):Int))=[]→m=0)
  (h1:(around p L).map (fun b=>((lcp (es.drop b) ps:Nat):Int))≠[]→m∈(around p L).map (fun b=>((lcp (es.drop b) ps:Nat):Int))∧∀a∈(around p L).map (fun b=>((lcp (es.drop b) ps:Nat):Int)),a≤m):
  ∃c:Nat,m=c∧(∀i,i<es.length→lcp (es.drop i) ps≤c)∧(c=0∨∃a,a<es.length∧lcp (es.drop a) ps=c):=by
 by_cases e:around p L=[]
 ·refine⟨0,h0 (by rw[e];rfl),fun i hi=>?_,.inl rfl⟩;obtain⟨b,hb,_⟩:=xeV hp hL hi;rw[e]at hb;cases hb
 ·obtain⟨hm,hle⟩:=h1 (by simpa using e);obtain⟨b,hb,rfl⟩:=aT.mp hm;refine⟨_,rfl,fun i hi=>?_,.inr ⟨b,xh2 hp hb,rfl⟩⟩;obtain⟨b2,hb2,h2⟩:=xeV hp hL hi;have:=hle _ (fC hb2);lia
theorem xqo{es ps:List Int}{c a:Nat}(h1:∀i,i<es.length→lcp (es.drop i) ps≤c)(hc:0<c)(ha:a<es.length)(h2:c≤lcp (es.drop a) ps)(h3:∀i,i<es.length→c≤lcp (es.drop i) ps→a≤i):uC es ps es.length a c:=by
 refine⟨h1,.inr ⟨hc,ha,by have:=h1 a ha;lia,fun i hi=>?_⟩⟩
 by_cases q:c≤lcp (es.drop i) ps
 ·have:=h3 i (by lia) q;lia
 ·lia
def xoU:Sp:=fun vs H Q _=>∃(e q:Addr) (es ps:List Int) (i:Nat),vs=[.ref e,.int i,.ref q]∧H e=some (.lst (es.map V.int))∧H q=some (.lst (ps.map V.int))∧i≤es.length∧Q (.int (lcp (es.drop i) ps:Nat)) H
def xfy:Sp:=fun vs H Q _=>∃(e t q:Addr) (es ps:List Int) (p:List Nat),vs=[.ref e,.ref t,.ref q]∧H e=some (.lst (es.map V.int))∧H t=some (.lst (p.map fun(i:Nat)=>V.int i))∧H q=some (.lst (ps.map V.int))∧xcV es p∧∀(L:Nat) (H':Hp),xb H H'→xjV es p ps L→Q (.int L) H'
def xmp:Sp:=fun vs H Q _=>∃(e t q:Addr) (es ps:List Int) (p:List Nat),vs=[.ref e,.ref t,.ref q]∧H e=some (.lst (es.map V.int))∧H t=some (.lst (p.map fun(i:Nat)=>V.int i))∧H q=some (.lst (ps.map V.int))∧xcV es p∧es.length<64∧ps.length<100∧
 ∀(r:Addr) (a c:Nat) (H':Hp),xb H H'→H r=none→H' r=some (.tup [.int a,.int c])→uC es ps es.length a c→Q (.ref r) H'
def jQ(es ps:List Int)(least:Int):Prop:=∀a c,uC es ps es.length a c→(c:Int)<least
def xV(es ns:List Int)(least:Int):Nat→Bool→List xf→Nat→Bool→Prop
 |i,b,[],j,b'=>i=j∧b=b'
 |i,b,.put to sg::rs,j,b'=>b=false∧to=i∧sg≠[]∧i+sg.length≤ns.length∧sg=(ns.drop i).take sg.length∧(∀k,k<sg.length→jQ es (ns.drop (i+k)) least)∧xV es ns least (i+sg.length) true rs j b'
 |i,_,.take to st c::rs,j,b'=>∃st' c':Nat,to=i∧st=st'∧c=c'∧i+c'≤ns.length∧0<c'∧least≤c'∧uC es (ns.drop i) es.length st' c'∧xV es ns least (i+c') false rs j b'
theorem xV.app{es ns:List Int}{least:Int}:∀{rs rs':List xf} {i j k:Nat} {b b' b'':Bool},xV es ns least i b rs j b'→xV es ns least j b' rs' k b''→xV es ns least i b (rs++rs') k b''
 |[],_,_,_,_,_,_,_,⟨h1,h2⟩,h'=>by subst h1;subst h2;exact h'
 | .put to sg::rs,_,_,_,_,_,_,_,h,h'=>by
  obtain⟨h1,h2,h3,h4,h5,h6,h7⟩:=h;exact⟨h1,h2,h3,h4,h5,h6,h7.app h'⟩
 | .take to st c::rs,_,_,_,_,_,_,_,h,h'=>by
  obtain⟨st',c',h1,h2,h3,h4,h5,h6,h7,h8⟩:=h;exact⟨st',c',h1,h2,h3,h4,h5,h6,h7,h8.app h'⟩
def jh(i:Int)(sg:List Int):List xf:=if sg=[]then[]else[.put (i - sg.length) sg]
def xjW(a:Adr):Sp:=fun vs H Q _=>∃(p dx q:Addr) (to:Int) (xs:List Int),vs=[.ref p,.int to,.ref q]∧H p=some (.ins a.q0c dx [])∧H q=some (.lst (xs.map V.int))∧
 ∀(u:Addr) (H':Hp),H u=none→(∀b o,b≠p→H b=some o→H' b=some o)→H' p=some (.ins a.q0c dx (jD to u xs.length))→H' u=some (.tup (xs.map V.int))→Q .non H'
def xfz(K:ah)(a:Adr):Sp:=fun vs H Q _=>∃(q:Addr) (i:Int) (xs:List Int),vs=[.int i,.ref q]∧H q=some (.lst (xs.map V.int))∧
 ∀(l:Addr) (os:List Addr) (H':Hp),xb H H'→H l=none→H' l=some (.lst (os.map V.ref))→Paired (xy K a H') os (jh i xs)→Q (.ref l) H'
def xis(K:ah)(a:Adr):Sp:=fun vs H Q _=>∃(e n:Addr) (es ns:List Int) (least:Int),vs=[.ref e,.ref n,.int least]∧H zy=some (.tbl uI)∧H e=some (.lst (es.map V.int))∧H n=some (.lst (ns.map V.int))∧es.length<64∧ns.length<100∧1≤least∧
 ∀(l:Addr) (os:List Addr) (rs:List xf) (b:Bool) (H':Hp),xb H H'→H l=none→H' l=some (.lst (os.map V.ref))→Paired (xy K a H') os rs→xV es ns least 0 false rs ns.length b→Q (.ref l) H'
theorem xy.off{K:ah}{a:Adr}{H:Hp}{t p:Addr}{r:xf}{xs:List V}{o:HO}(h:xy K a H t r)(hp:H p=some (.lst xs)):xy K a (upd H p o) t r:=by
 cases r with
 |take to st c=>obtain⟨dx,h⟩:=h;exact⟨dx,by rw[xl (yZ h hp (by intro z;cases z))];exact h⟩
 |put to sg=>
  obtain⟨dx,u,h1,h2⟩:=h;exact⟨dx,u,by rw[xl (yZ h1 hp (by intro z;cases z))];exact h1,by rw[xl (yZ h2 hp (by intro z;cases z))];exact h2⟩
theorem xV.put{es ns:List Int}{least:Int}{i:Nat}{sg:List Int}(h1:i+sg.length≤ns.length)(h2:sg=(ns.drop i).take sg.length)(h3:∀k,k<sg.length→jQ es (ns.drop (i+k)) least):xV es ns least i false (jh ((i+sg.length:Nat):Int) sg) (i+sg.length) (decide (sg≠[])):=by
 unfold jh
 by_cases h:sg=[]
 ·rw[if_pos h,h];exact⟨rfl,rfl⟩
 ·rw[if_neg h,decide_eq_true h];exact⟨rfl,by lia,h,h1,h2,h3,rfl,rfl⟩
theorem xV.take{es ns:List Int}{least:Int}{i st c:Nat}{b:Bool}(hi:i≤ns.length)(h0:0<c)(h1:least≤c)(hb:uC es (ns.drop i) es.length st c):xV es ns least i b [.take i st c] (i+c) false∧i+c≤ns.length:=by
 have hc:c≤ns.length - i:=by
  rcases hb.2 with⟨z,_⟩|⟨_,_,z,_⟩
  ·lia
  ·have:=xd4 (es.drop st) (ns.drop i);rw[aO]at this;lia
 exact⟨⟨st,c,rfl,rfl,rfl,by lia,h0,h1,hb,rfl,rfl⟩,by lia⟩
theorem jQ.of{es ps:List Int}{least:Int}{a c:Nat}(hb:uC es ps es.length a c)(h:(c:Int)<least):jQ es ps least:=fun a' c' h'=>by
 obtain⟨_,rfl⟩:=hb.uniq h';exact h
theorem xnP{ns sg:List Int}{i:Nat}(h:sg=(ns.drop i).take sg.length)(hi:i+sg.length<ns.length):sg++[ns[i+sg.length]]=(ns.drop i).take (sg++[ns[i+sg.length]]).length:=by
 rw[aq,bK,eO (by rw[aO];lia),List.getElem_drop,←h]
theorem uK{α β:Type}{F:α→β→Prop}:∀{as cs:List α} {bs ds:List β},Paired F as bs→Paired F cs ds→Paired F (as++cs) (bs++ds)
 |_,_,_,_,.nil,h=>h
 |_,_,_,_,.cons x xs,h=>.cons x (uK xs h)
theorem xgC(i:Int)(sg:List Int):(jh i sg).length≤1:=by
 unfold jh
 split<;> simp
theorem xV.few{es ns:List Int}{least:Int}:∀{rs:List xf} {i j:Nat} {b b':Bool},xV es ns least i b rs j b'→i+rs.length≤j
 |[],_,_,_,_,h=>by rw[h.1];exact ai _
 | .put to sg::rs,i,j,_,_,h=>by
  obtain⟨h1,h2,h3,h4,h5,h6,h7⟩:=h;have:=h7.few;have:=cF.mpr h3;rw[bj];lia
 | .take to st c::rs,i,j,_,_,h=>by
  obtain⟨st',c',h1,h2,h3,h4,h5,h6,h7,h8⟩:=h;have:=h8.few;rw[bj];lia
section
variable {P:aI} {w:World} {K:ah} {mg:Str→Option Value} {base:Heap} {a:Adr}
theorem uX(T:Txt K mg a):xv P w K mg base CX0 2 a.q1u a.xal ["self","to","signs"] (xjW a):=by
 refine T.q2t.ok jC (fun vs H Q E h=>?_) (fun cdv A outer s H vs Q E hr h=>?_)
 ·obtain⟨p,dx,t,to,xs,rfl,_⟩:=h;rfl
 ·obtain⟨p,dx,t,to,xs,rfl,hp,ht,k⟩:=h;have nd:=jC.nd;have ne:t≠p:=yZ ht hp (by intro z;cases z);refine⟨_,(xg (xN (xgS (by rfl) T.xl7 T.q2W (xb0 T) (hr.mono (by decide)) T.xcN .nil xo (xa (cv 0) (xa (cv 1) xc))))
  (xg (zq (cv 0) (yb jS (by rfl) T.q25 jm (xa (cv 2) xc)) rfl)
  (xi (zq (cv 0) (xu xw (by rfl) T.q0k xP (xa (xx (cv 0) rfl) xc)) rfl)))),?_⟩
  walk_at"w";refine⟨p,_,dx,to,rfl,hp,T.q0g,T.q0x,T.q0p,?_⟩;walk_at"w";refine⟨t,_,rfl,.inl ⟨SqL.of (by rw[xl ne];exact ht),fun u hu=>?_⟩⟩;have nup:u≠p:=fun z=>by rw[z,xk]at hu;cases hu
  have hu0:H u=none:=by rw[xl nup]at hu;exact hu
  generalize hU:upd H p _=H1 at hu⊢;have e1:=xm hU;have o1:∀b o,b≠p→H b=some o→H1 b=some o:=fun b o q z=>by rw[←hU,xl q];exact z
  clear hU;generalize hU:upd H1 u _=H2;have e2:=(show H2 p=H1 p by rw[←hU,xl (a8 nup)]).trans e1;have eu:=xm hU;have o2:∀b o,b≠p→H b=some o→H2 b=some o:=fun b o q z=>by rw[←hU,xl (fun y=>by rw[y,hu0]at z;cases z)];exact o1 b o q z
  clear hU;walk_at"w";refine⟨p,_,dx,_,rfl,e2,T.q0g,T.q0I,by walk_at"few",?_⟩;walk_at"w";refine⟨p,_,dx,_,.ref u,rfl,xk,T.q0g,T.q0I,rfl,?_⟩;walk_at"w";refine⟨u,_,rfl,.inr (SqT.of (by rw[xl nup];exact eu)),?_⟩;walk_at"w";refine⟨p,_,dx,_,rfl,xk,T.q0g,T.q0p,by walk_at"few",?_⟩;walk_at"w";rw[zm];generalize hU:upd H2 p _=H3;refine k u H3 hu0 (fun b o q z=>by rw[←hU,xl q];exact o2 b o q z) ?_ (by rw[←hU,xl nup];exact eu);rw[xm hU,aa];rfl
theorem xhs(T:Txt K mg a):zJ P w K mg base CX0 1 "<lambda>" "endings.<locals>.<lambda>" (xau vf) (.expr (xav vf)) (zj vf) ["at"] xgs:=by
 refine xaF xd0 (fun fv vs H Q E h=>?_) (fun _ _ _ _ _ us hl=>match us,hl with|[_],_=>rfl) (fun A outer s H f clos cdv fv vs Q E hr h=>?_)
 ·obtain⟨e,es,i,rfl,rfl,_⟩:=h;exact⟨rfl,rfl⟩
 ·obtain⟨e,es,i,rfl,rfl,he,hi,k⟩:=h;have nd:=xd0.nd;refine⟨_,(yn yL (cv 1) (yc (cv 0)) ue),?_⟩;walk_at"w";refine⟨_,rfl,?_⟩;walk_at"w";refine⟨e,_,rfl,SqL.of he,fun d hd=>?_⟩;have e1:uh (es.map V.int) (some i) none=(es.drop i.toNat).map V.int:=by
   rw[zx,yY hi,HT.jj]
   congr 1
   rw[aZ (by rw[aO];lia)]
   by_cases h:i.toNat≤es.length
   ·rw[cA h]
   ·rw[eN (by lia),cP (ai _),cP (by lia)]
  rw[e1];exact k d hd
theorem xmq(T:Txt K mg a):xv P w K mg base CX0 4 a.q2n a.xbr ["text"] xmo:=by
 refine T.jJ.okC ["text"] T.xlX xf9 (fun vs H Q E h=>?_) (fun A outer s H vs Q E hr h=>?_)
 ·obtain⟨e,es,rfl,_⟩:=h;rfl
 ·obtain⟨e,es,rfl,hP,he,h64,q⟩:=h;have nd:=xf9.nd;refine⟨_,(xbp (x:="text") (i:=0) nd rfl rfl rfl (by kernel_rfl) (xi (xq (xlK (xhs T) (hr.mono (by decide)) rfl (by rfl) T.q3L (xa (xmZ (by rfl) T.q06 (xa (xu xw (by rfl) T.q0k xP (xa (cv 0) xc)) xc)) xc) (zw (c:=q1v) (P:=zy) (qs:=uI) (fns:=["text"]) rfl T.q3H (q:="endings.<locals>.<lambda>") (by kernel_rfl) (.head _) (by kernel_rfl) (by kernel_rfl)))))),?_⟩;walk_at"w";intro a1 e1 z1 d1;refine cS z1 ?_;generalize hU1:upd H a1 _=H1;have s1:=xb.of_eq z1 hU1;have c1:=xm hU1;clear hU1;walk_at"w";refine⟨e,_,rfl,.inl (SqL.of (s1.at he)),?_⟩;intro r hr;generalize hUr:upd H1 r _=H2;have sH2:=xb.of_eq hr hUr;have er:=xm hUr;clear hUr;walk_at"w";have s2:xb H H2:=s1.trans sH2;refine⟨s2.at hP,[("text",.ref e)],rfl,fun x v m=>?_,fun f H3 hf s3 hc=>?_⟩
  ·simp only[ao,fz,bC,or_false]at m;obtain⟨rfl,rfl⟩:=m;exact⟨a1,e1,sH2.at c1⟩
  walk_at"w";have er3:=s3.at er;rw[aa]at er3;refine⟨r,f,es.length,_,fun i=>es.drop i,rfl,rfl,er3,h64,hc,fun i hi H4 s4=>?_,xqn es,fun l p H4 s4 hl el hp hpw=>?_⟩
  ·refine⟨e,es,_,rfl,rfl,(s2.trans (s3.trans s4)).at he,by lia,fun d hd=>⟨xb.new hd,d,rfl,?_⟩⟩;rw[xk,bP]
  ·exact q l p H4 (s2.trans (s3.trans s4)) ((s2.trans s3).back hl) el ⟨hp,hpw⟩
theorem xkH(T:Txt K mg a):xv P w K mg base CX0 1 a.q2o a.xcF ["text","at","part"] xoU:=by
 refine T.q2s.ok xeK (fun vs H Q E h=>?_) (fun cdv A outer s H vs Q E hr h=>?_)
 ·obtain⟨e,q,es,ps,i,rfl,_⟩:=h;rfl
 ·obtain⟨e,q,es,ps,i,rfl,he,hq,hi,k⟩:=h;have nd:=xeK.nd;refine⟨_,(xg (xt (i:=3) nd rfl (aD rfl) xh)
  (xg (xaE aV (PW.pt (vG (xJ xaA (cv 3) (xu xw (by rfl) T.q0k xP (xa (cv 2) xc))) (vG (xJ xaA (xn xK (cv 1) (cv 3)) (xu xw (by rfl) T.q0k xP (xa (cv 0) xc))) (vx (xJ zT (xB yK (cv 0) (xn xK (cv 1) (cv 3)) (fun _ _=>rfl)) (xB yK (cv 2) (cv 3) (fun _ _=>rfl))))))) (xi (xt (i:=3) nd rfl (aD rfl) (xn xK (cv 3) xh))))
  (xi (xq (cv 3))))),?_⟩
  walk_at"w";refine uV (m:=ps.length) (fun m σ G=>G=H∧∃x:Nat,m=ps.length - x∧σ=[some (.ref e),some (.int i),some (.ref q),some (.int x)]∧x≤ps.length∧i+x≤es.length∧(es.drop i).take x=ps.take x) ⟨rfl,0,rfl,rfl,aJ _,by lia,by simp⟩ (fun m σ G hP=>?_);obtain⟨rfl,x,rfl,rfl,hx,hy,heq⟩:=hP;have done:((es.drop i).length > x→ps.length > x→(es.drop i).take (x+1)≠ps.take (x+1))→Q (.int x) G:=fun hn=>by
   rw[xoS heq hx (fun h1 h2=>hn h1 h2) (by rw[aO];lia)]at k;exact k
  walk_at"w";refine⟨q,_,rfl,.inl (SqL.of hq),?_⟩;walk_at"w";rw[aa];refine⟨fun e1=>?_,fun e1=>?_⟩
  ·have h1:x<ps.length:=by have:=of_decide_eq_true e1;lia
   walk_at"w";refine⟨e,_,rfl,.inl (SqL.of he),?_⟩;walk_at"w";rw[aa];refine⟨fun e2=>?_,fun e2=>?_⟩
   ·have h2:i+x<es.length:=by have:=of_decide_eq_true e2;lia
    have h3:x<(es.drop i).length:=by rw[aO];lia
    walk_at"w";refine⟨e,_,_,.int es[i+x],rfl,rfl,SqL.of he,xfT (by lia) (by rw[show((i:Int)+(x:Int)).toNat=i+x by lia];simp[h2]),?_⟩;walk_at"w";refine⟨q,_,_,.int ps[x],rfl,rfl,SqL.of hq,zc (by simp[h1]),?_⟩;walk_at"w";have st:=xoR heq h3 h1;rw[List.getElem_drop]at st;refine⟨fun e3=>?_,fun e3=>?_⟩
    ·have e4:=st.mp (by simpa using e3);refine⟨fun σ' G'=>∃m',m'<ps.length - x∧G'=G∧∃x:Nat,m'=ps.length - x∧σ'=[some (.ref e),some (.int i),some (.ref q),some (.int x)]∧x≤ps.length∧i+x≤es.length∧(es.drop i).take x=ps.take x,fun _ _ z=>z,?_⟩;walk_at"w";exact⟨ps.length - (x+1),by lia,rfl,x+1,rfl,rfl,by lia,by lia,e4⟩
    ·walk_at"w";refine done fun _ _ z=>?_;have:=st.mpr z;simp[this]at e3
   ·refine⟨by walk_at"no",fun _=>?_⟩;walk_at"w";have:=of_decide_eq_false e2;exact done fun h1 _=>by rw[aO]at h1;lia
  ·refine⟨by walk_at"no",fun _=>?_⟩;walk_at"w";have:=of_decide_eq_false e1;exact done fun _ h2=>by lia
theorem xjX(es:List Int)(i:Nat):uh (es.map V.int) (some (i:Int)) none=(es.drop i).map V.int:=by
 rw[zx,yY (by lia),HT.jj]
 congr 1
 rw[aZ (by rw[aO];lia),bP]
 by_cases h:i≤es.length
 ·rw[cA h]
 ·rw[eN (by lia),cP (ai _),cP (by lia)]
theorem xfA(T:Txt K mg a):xv P w K mg base CX0 1 a.q0U a.vS ["text","table","part"] xfy:=by
 refine T.q01.ok xa9 (fun vs H Q E h=>?_) (fun cdv A outer s H vs Q E hr h=>?_)
 ·obtain⟨e,t,q,es,ps,p,rfl,_⟩:=h;rfl
 ·obtain⟨e,t,q,es,ps,p,rfl,he,ht,hq,hp,k⟩:=h;have nd:=xa9.nd;refine⟨_,(xg (xt (i:=3) nd rfl (aD rfl) xh)
  (xg (xt (i:=4) nd rfl (aD rfl) (xu xw (by rfl) T.q0k xP (xa (cv 1) xc)))
  (xg (xaE aV (xJ xaA (cv 3) (cv 4)) (xg (xt (i:=5) nd rfl (aD rfl) (xn yr (xn xK (cv 3) (cv 4)) xh))
  (xi (xM (xJ (xrf hr.units0) (yn yL (cv 0) (yc (xB yK (cv 1) (cv 5) (fun _ _=>rfl))) ue) (cv 2)) (xi (xt (i:=3) nd rfl (aD rfl) (xn xK (cv 5) xh))) (xi (xt (i:=4) nd rfl (aD rfl) (cv 5)))))))
  (xi (xq (cv 3)))))),?_⟩
  walk_at"w";refine⟨t,_,rfl,.inl (SqL.of ht),?_⟩;walk_at"w";rw[aa];refine uV (m:=p.length) (fun m σ G=>xb H G∧∃(lo hi:Nat) (x5:Option V),m=hi - lo∧σ=[some (.ref e),some (.ref t),some (.ref q),some (.int lo),some (.int hi),x5]∧lo≤hi∧hi≤p.length∧(∀i,i<lo→HT.lexLt (es.drop (p.getD i 0)) ps=true)∧∀i,hi≤i→i<p.length→HT.lexLt (es.drop (p.getD i 0)) ps=false)
   ⟨xb.refl _,0,p.length,_,rfl,rfl,aJ _,ai _,fun i hi=>absurd hi (cz _),fun i h1 h2=>absurd h2 (by lia)⟩ (fun m σ G hP=>?_)
  obtain⟨sG,lo,hi,x5,rfl,rfl,h1,h2,h3,h4⟩:=hP;walk_at"w";refine⟨fun e1=>?_,fun e1=>?_⟩
  ·have e1':lo<hi:=by have:=of_decide_eq_true e1;lia
   refine⟨fun σ' G'=>∃m',m'<hi - lo∧xb H G'∧∃(lo hi:Nat) (x5:Option V),m'=hi - lo∧σ'=[some (.ref e),some (.ref t),some (.ref q),some (.int lo),some (.int hi),x5]∧lo≤hi∧hi≤p.length∧(∀i,i<lo→HT.lexLt (es.drop (p.getD i 0)) ps=true)∧∀i,hi≤i→i<p.length→HT.lexLt (es.drop (p.getD i 0)) ps=false,fun _ _ z=>z,?_⟩;walk_at"w";walk_at"ss";have em:((lo:Int)+(hi:Int)) / 2=(((lo+hi) / 2:Nat):Int):=by lia
   generalize hz:(fun(i j:Int)=>V.int (i / j)) ((lo:Int)+(hi:Int)) 2=z;generalize hmid:(lo+hi) / 2=mid at em;have ez:z= .int (mid:Nat):=by rw[←hz];show V.int (((lo:Int)+(hi:Int)) / 2)=_;rw[em]
   clear hz;subst ez;have b1:lo≤mid∧mid<hi:=by lia
   have b2:mid<p.length:=by lia
   have g:p.getD mid 0=p[mid]:=by simp[bf,b2]
   refine⟨t,_,_,.int (p.getD mid 0:Nat),rfl,rfl,SqL.of (sG.at ht),zc (by rw[g];simp[b2]),?_⟩;walk_at"w";refine⟨_,rfl,?_⟩;walk_at"w";refine⟨e,_,rfl,SqL.of (sG.at he),?_⟩;intro d hd;generalize hUd:upd G d _=G1;have sG1:=xb.of_eq hd hUd;have ed:=xm hUd;clear hUd;walk_at"w";rw[xjX]at ed;refine⟨d,q,_,_,rfl,rfl,SqL.of ed,SqL.of ((sG.trans sG1).at hq),?_⟩;walk_at"w";refine⟨fun e2=>?_,fun e2=>?_⟩
   ·walk_at"w";refine⟨hi - (mid+1),by lia,sG.trans sG1,mid+1,hi,_,rfl,rfl,by lia,h2,fun i hi'=>?_,h4⟩
    by_cases c:i=mid
    ·rw[c];exact e2
    ·exact xgz (xgA hp (show i<mid by lia) b2) e2
   ·walk_at"w";refine⟨mid - lo,by lia,sG.trans sG1,lo,mid,_,rfl,rfl,by lia,by lia,h3,fun i h5 h6=>?_⟩
    by_cases c:i=mid
    ·rw[c];exact e2
    ·cases hc:HT.lexLt (es.drop (p.getD i 0)) ps with
     |false=>rfl
     |true=>
      have:=xgz (xgA hp (show mid<i by lia) h6) hc;rw[e2]at this;cases this
  ·have e1':lo=hi:=by have:=of_decide_eq_false e1;lia
   walk_at"w";subst e1';exact k lo G sG ⟨h2,h3,h4⟩
theorem xgD(ps:List Int)(c:Nat):uh (ps.map V.int) none (some (c:Int))=(ps.take c).map V.int:=by
 rw[zx,yY (by lia),HT.jj,fX,bP,Nat.sub_zero]
 congr 1
 by_cases q:c≤ps.length
 ·rw[cA q]
 ·rw[eN (by lia),aZ (ai _),aZ (by lia)]
theorem xqp(es:List Int)(b c:Nat)(h:b≤es.length):uh (es.map V.int) (some (b:Int)) (some ((b:Int)+(c:Int)))=((es.drop b).take c).map V.int:=by
 rw[zx,yY (by lia),yY (by lia),bP,show((b:Int)+(c:Int)).toNat=b+c by lia,cA h]
 congr 1
 by_cases q:b+c≤es.length
 ·rw[cA q,show b+c - b=c by lia]
 ·rw[eN (by lia),aZ (by rw[aO];lia),aZ (by rw[aO];lia)]
theorem xmr(p:List Nat)(L:Nat)(h:L≤p.length):uh (p.map fun(i:Nat)=>V.int i) (some (max ((L:Int) - 1) 0)) (some ((L:Int)+1))=(around p L).map fun(i:Nat)=>V.int i:=by
 unfold uh around;rw[aa,yY (by lia),yY (by lia),←ic,←List.map_take,show(max ((L:Int) - 1) 0).toNat=L - 1 by lia,show((L:Int)+1).toNat=L+1 by lia,cA (show L - 1≤p.length by lia)]
 congr 1
 by_cases q:L+1≤p.length
 ·rw[cA q]
 ·rw[eN (by lia),aZ (by rw[aO];lia),aZ (by rw[aO];lia)]
theorem xms(T:Txt K mg a):xv P w K mg base CX0 2 a.q2B a.xdw ["text","table","part"] xmp:=by
 refine T.q2H.ok xga (fun vs H Q E h=>?_) (fun cdv A outer s H vs Q E hr h=>?_)
 ·obtain⟨e,t,q,es,ps,p,rfl,_⟩:=h;rfl
 ·obtain⟨e,t,q,es,ps,p,rfl,he,ht,hq,hp,h64,h100,k⟩:=h;have nd:=xga.nd;refine⟨_,(xg (xt (i:=3) nd rfl (aD rfl) (xr (xfA T) (hr.mono (by decide)) (by rfl) T.xfX T.q01.kp T.xfW .nil xo (xa (cv 0) (xa (cv 1) (xa (cv 2) xc)))))
  (xg (xt (i:=4) nd rfl (dW rfl) (xkY rfl (by rfl) T.q3u (xa (yk (yt (cap:=[0,2]) (ys:=["text","part"]) rfl rfl rfl rfl rfl ⟨⟨rfl,rfl,.inl rfl⟩,⟨⟨rfl,rfl,.inl rfl⟩,trivial⟩⟩ (by decide+kernel)) rfl (xR (yn yL (cv 1) (yc (xu (xdj rfl) (by rfl) T.q3u xb7 (xa (xn uj (cv 3) xh) (xa xh xc)))) (yc (xn xK (cv 3) xh)))) (fun _ _ _ _=>(xr (xkH T) (hr.mono (by decide)) (by rfl) T.xlZ T.q2s.kp T.xlY .nil xo (xa (cv 1) (xa (cv 0) (xa (cv 2) xc))))) (fun _ _ _ _=>yp)) xc) xh))
  (xg (xM (xJ zT (cv 4) xh) (xi (xq (yX (xa xh (xa xh xc))))) xF)
  (xg (xt (i:=5) nd rfl (dW rfl) (yn yL (cv 2) ue (yc (cv 4))))
  (xi (xq (yX (xa (xu (xhJ rfl) (by rfl) T.q3C xb8 (xa (yk (yt (cap:=[0,4,5]) (ys:=["text","count","beginning"]) rfl rfl rfl rfl rfl ⟨⟨rfl,rfl,.inl rfl⟩,⟨⟨rfl,rfl,.inl rfl⟩,⟨⟨rfl,rfl,.inl rfl⟩,trivial⟩⟩⟩ (by decide+kernel)) rfl (xR (cv 1)) (fun _ _ _ _=>(cv 0)) (fun _ _ _ _=>(xas (xJ (xsI (K:=K) rfl hr.units) (yn (xof (K:=K) rfl) (cv 1) (yc (cv 0)) (yc (xn xK (cv 0) (cv 2)))) (cv 3))))) xc)) (xa (cv 4) xc))))))))),?_⟩
  walk_at"w";refine⟨e,t,q,es,ps,p,rfl,he,ht,hq,hp,fun L H1 s1 hL=>?_⟩;walk_at"w";refine⟨_,rfl,?_⟩;walk_at"w";refine⟨_,rfl,?_⟩;walk_at"w";refine⟨t,_,rfl,SqL.of (s1.at ht),?_⟩;intro d hd;generalize hUd:upd H1 d _=H2;have sH2:=xb.of_eq hd hUd;have ed:=xm hUd;clear hUd;walk_at"w";rw[xmr p L hL.1]at ed;have s2:=s1.trans sH2;have ba:(around p L).length≤64:=by
   have e1:(around p L).length≤p.length:=by unfold around;rw[bB,aO];omega
   have e2:=hp.1.length_eq;rw[cR]at e2;omega
  refine⟨d,rfl,⟨_,SqL.of ed⟩,?_⟩;refine xdn (fun v=>match v with| .int x=>.int (lcp (es.drop x.toNat) ps:Nat)|v=>v) (SqL.of ed) (by rw[aa,av];omega) (fun x H3 hx s3 R hR=>?_) (fun D G hD sG eD=>?_)
  ·obtain⟨b,hb,rfl⟩:=aT.mp hx;walk_at"w";exact⟨e,q,es,ps,b,rfl,(s2.trans s3).at he,(s2.trans s3).at hq,b7 (xh2 hp hb),hR H3 (xb.refl _)⟩
  have eD':G D=some (.lst (((around p L).map fun b=>((lcp (es.drop b) ps:Nat):Int)).map V.int)):=by
   rw[eD,ck,ck];rfl
  have s4:=s2.trans sG;walk_at"w";refine⟨D,_,_,rfl,rfl,SqL.of eD',fun m m1 m2=>?_⟩;obtain⟨c,rfl,hle,hc⟩:=xoT hp hL m1 m2;walk_at"w";refine⟨fun e1=>?_,fun e1=>?_⟩
  ·have c0:c=0:=by have:=of_decide_eq_true e1;omega
   subst c0;walk_at"w";walk_at"ss";intro z hz;generalize hUz:upd G z _=G2;have sG2:=xb.of_eq hz hUz;have ez:=xm hUz;clear hUz;walk_at"w";exact k z 0 0 G2 (s4.trans sG2) (s4.back hz) ez ⟨hle,.inl ⟨rfl,rfl⟩⟩
  ·have c0:0<c:=by have:=of_decide_eq_false e1;omega
   obtain⟨a0,ha0,ea0⟩:=hc.resolve_left (by omega);have cl:c≤ps.length:=by rw[←ea0];exact xd4 _ _
   walk_at"w";refine⟨_,rfl,?_⟩;walk_at"w";refine⟨q,_,rfl,SqL.of (s4.at hq),?_⟩;intro b hb;generalize hUb:upd G b _=G2;have sG2:=xb.of_eq hb hUb;have eb:=xm hUb;clear hUb;walk_at"w";rw[xgD]at eb;have s5:=s4.trans sG2;refine⟨t,rfl,⟨_,SqL.of (s5.at ht)⟩,?_⟩;refine vK (fun v=>match v with| .int x=>decide ((es.drop x.toNat).take c=ps.take c)|_=>false) (fun v=>v) (SqL.of (s5.at ht)) (by rw[aa,av,hp.1.length_eq,cR];omega) (fun x H3 hx s3 R hR=>?_) (fun x H3 hx _ s3 R hR=>?_) (fun D2 G3 hD2 sG3 eD2=>?_)
   ·obtain⟨i,hi,rfl⟩:=aT.mp hx;have hi':i<es.length:=bp.mp (hp.1.mem_iff.mp hi);walk_at"w";refine⟨_,rfl,?_⟩;walk_at"w";refine⟨_,rfl,?_⟩;walk_at"w";refine⟨e,_,rfl,SqL.of ((s5.trans s3).at he),?_⟩;intro g hg;generalize hUg:upd H3 g _=H4;have sH4:=xb.of_eq hg hUg;have eg:=xm hUg;clear hUg;walk_at"w";rw[xqp es i c (by omega)]at eg;refine xef (f:=fun b=>b) ⟨g,b,_,_,rfl,rfl,SqL.of eg,SqL.of ((s3.trans sH4).at eb),?_⟩;exact hR H4 sH4
   ·walk_at"w";exact hR H3 (xb.refl _)
   have eD3:G3 D2=some (.lst (((p.filter fun i=>decide ((es.drop i).take c=ps.take c)).map fun(i:Nat)=>(i:Int)).map V.int)):=by
    rw[eD2,List.map_id',gF,ck];rfl
   have s6:=s5.trans sG3;have mf:∀i,i∈(p.filter fun i=>decide ((es.drop i).take c=ps.take c))↔i<es.length∧c≤lcp (es.drop i) ps:=fun i=>by
    rw[aS,hp.1.mem_iff,bp,decide_eq_true_iff,xbj cl]
   walk_at"w";refine⟨D2,_,rfl,SqL.of eD3,?_,fun m m1 m2=>?_⟩
   ·intro z;have:=(mf a0).mpr ⟨ha0,by omega⟩;rw[List.map_eq_nil_iff.mp z]at this;cases this
   obtain⟨i,hi,rfl⟩:=aT.mp m1;obtain⟨hi1,hi2⟩:=(mf i).mp hi;walk_at"w";walk_at"ss";intro z hz;generalize hUz:upd G3 z _=G4;have sG4:=xb.of_eq hz hUz;have ez:=xm hUz;clear hUz;walk_at"w";exact k z i c G4 (s6.trans sG4) (s6.back hz) ez (xqo hle c0 hi1 hi2 fun j hj1 hj2=>by
    have:=m2 _ (fC (f:=fun(i:Nat)=>(i:Int)) ((mf j).mpr ⟨hj1,hj2⟩));omega)
theorem xbk(T:Txt K mg a):xv P w K mg base CX0 4 a.q0W a.vW ["end","signs"] (xfz K a):=by
 refine T.q0H.ok xbc (fun vs H Q E h=>?_) (fun cdv A outer s H vs Q E hr h=>?_)
 ·obtain⟨q,i,xs,rfl,_⟩:=h;rfl
 ·obtain⟨q,i,xs,rfl,hq,k⟩:=h;have nd:=xbc.nd;refine⟨_,(xg (xM (xJ zT (xu xw (by rfl) T.q0k xP (xa (cv 1) xc)) xh) (xi (xq (yh xc))) xF)
  (xi (xq (yh (xa (vy T.q3G (uX T) (hr.mono (by decide)) (by rfl) T.xf7 T.xan .nil xo (xa (xn uj (cv 0) (xu xw (by rfl) T.q0k xP (xa (cv 1) xc))) (xa (cv 1) xc))) xc))))),?_⟩
  walk_at"w";refine⟨q,_,rfl,.inl (SqL.of hq),?_⟩;walk_at"w";rw[aa];refine⟨fun e1=>?_,fun e1=>?_⟩
  ·have h0:xs=[]:=dA.mp (by have:=of_decide_eq_true e1;lia);walk_at"w";walk_at"ss";intro l hl;generalize hUl:upd H l _=H1;have sH1:=xb.of_eq hl hUl;have el:=xm hUl;clear hUl;walk_at"w";exact k l [] H1 sH1 hl el (by unfold jh;rw[if_pos h0];exact .nil)
  ·have h0:xs≠[]:=fun z=>by rw[z]at e1;simp at e1
   walk_at"w";refine⟨q,_,rfl,.inl (SqL.of hq),?_⟩;walk_at"w";rw[aa];intro x xdx hx hxdx nex;generalize hUx:upd H xdx (.own x)=H1;have sH1:=xb.of_eq hxdx hUx;have hx3:H1 x=none:=by rw[←hUx,xl (a8 nex)];exact hx
   refine⟨x,xdx,q,_,xs,rfl,xk,(xb.new hx3).at (sH1.at hq),fun u H4 hu o4 e4 eu=>⟨rfl,?_⟩⟩;have s4:xb H H4:=fun b o z=>o4 b o (fun y=>by rw[y,hx]at z;cases z) ((sH1.trans (xb.new hx3)).at z);have nux:u≠x:=fun z=>by rw[z,xk]at hu;cases hu
   walk_at"w";walk_at"ss";intro l hl;generalize hUl:upd H4 l _=H5;have sH5:=xb.of_eq hl hUl;have el:=xm hUl;clear hUl;walk_at"w";refine k l [x] H5 (s4.trans sH5) (s4.back hl) el ?_;unfold jh;rw[if_neg h0];exact .cons ⟨xdx,u,sH5.at e4,sH5.at eu⟩ .nil
theorem xit(T:Txt K mg a):xv P w K mg base CX0 5 a.q1F a.xa0 ["elder","newer","least"] (xis K a):=by
 refine T.q1K.ok xc2 (fun vs H Q E h=>?_) (fun cdv A outer s H vs Q E hr h=>?_)
 ·obtain⟨e,n,es,ns,least,rfl,_⟩:=h;rfl
 ·obtain⟨e,n,es,ns,least,rfl,hP,he,hn,h64,h100,hls,k⟩:=h;have nd:=xc2.nd;refine⟨_,(xg (xt (i:=3) nd rfl (aD rfl) (xr (xmq T) (hr.mono (by decide)) (by rfl) T.xnm T.jJ.kp T.xnl .nil xo (xa (cv 0) xc)))
  (xg (xt (i:=4) nd rfl (aD rfl) (yh xc))
  (xg (xt (i:=5) nd rfl (aD rfl) (yh xc))
  (xg (xt (i:=6) nd rfl (aD rfl) xh)
  (xg (xaE aV (xJ xaA (cv 6) (xu xw (by rfl) T.q0k xP (xa (cv 1) xc))) (xg (xt (i:=7) nd rfl (aD rfl) (xr (xms T) (hr.mono (by decide)) (by rfl) T.xno T.q2H.kp T.xnn .nil xo (xa (cv 0) (xa (cv 3) (xa (yn yL (cv 1) (yc (cv 6)) ue) xc)))))
  (xg (xt (i:=8) nd rfl (aD rfl) (xB xE (cv 7) xh (fun _ _=>rfl)))
  (xi (xM (PW.pt (vG (xJ xgO (cv 8) xh) (vx (xJ xlz (cv 8) (cv 2))))) (xg (xN (zt PySem.F.plainAttrs_list PySem.F.slot_list_extend PySem.F.type_list_extend xdf (cv 4) (xa (xr (xbk T) (hr.mono (by decide)) (by rfl) T.xbu T.q0H.kp T.xbt .nil xo (xa (cv 6) (xa (cv 5) xc))) xc)))
  (xg (xN (zt PySem.F.plainAttrs_list PySem.F.slot_list_append PySem.F.type_list_append yi (cv 4) (xa (vy T.q3P (xdT T) (hr.mono (by decide)) (by rfl) T.xa8 T.xeH .nil xo (xa (cv 6) (xa (xB xE (cv 7) xh (fun _ _=>rfl)) (xa (cv 8) xc)))) xc)))
  (xg (xt (i:=5) nd rfl (aD rfl) (yh xc))
  (xi (xt (i:=6) nd rfl (aD rfl) (xn xK (cv 6) (cv 8))))))) (xg (xN (zt PySem.F.plainAttrs_list PySem.F.slot_list_append PySem.F.type_list_append yi (cv 5) (xa (xB yK (cv 1) (cv 6) (fun _ _=>rfl)) xc)))
  (xi (xt (i:=6) nd rfl (aD rfl) (xn xK (cv 6) xh)))))))))
  (xi (xq (xn jF (cv 4) (xr (xbk T) (hr.mono (by decide)) (by rfl) T.xbu T.q0H.kp T.xbt .nil xo (xa (cv 6) (xa (cv 5) xc))))))))))),?_⟩
  walk_at"w";refine⟨e,es,rfl,hP,he,h64,fun t p H1 s1 ht et hp=>?_⟩;have he1:=s1.at he;have hn1:=s1.at hn;walk_at"w";walk_at"ss";intro rl hrl;generalize hUrl:upd H1 rl _=H2;have sH2:=xb.of_eq hrl hUrl;have erl:=xm hUrl;clear hUrl;walk_at"w";walk_at"ss";intro sl hsl;generalize hUsl:upd H2 sl _=H3;have sH3:=xb.of_eq hsl hUsl;have esl:=xm hUsl;clear hUsl;walk_at"w";have nrs:rl≠sl:=fun z=>by rw[←z,erl]at hsl;cases hsl
  refine uV (m:=ns.length) (fun m σ G=>xb H1 G∧∃(rl sl:Addr) (os:List Addr) (rs:List xf) (sg:List Int) (i:Nat) (x7 x8:Option V),m=ns.length - (i+sg.length)∧σ=[some (.ref e),some (.ref n),some (.int least),some (.ref t),some (.ref rl),some (.ref sl),some (.int (i+sg.length:Nat)),x7,x8]∧
    H1 rl=none∧H1 sl=none∧rl≠sl∧G rl=some (.lst (os.map V.ref))∧Paired (xy K a G) os rs∧os.length≤2*i∧G sl=some (.lst (sg.map V.int))∧i+sg.length≤ns.length∧sg=(ns.drop i).take sg.length∧(∀k,k<sg.length→jQ es (ns.drop (i+k)) least)∧xV es ns least 0 false rs i false)
   ⟨sH2.trans sH3,rl,sl,[],[],[],0,_,_,rfl,rfl,hrl,sH2.back hsl,nrs,sH3.at erl,.nil,ai _,esl,aJ _,rfl,fun k hk=>absurd hk (cz _),rfl,rfl⟩ (fun m σ G hP=>?_)
  clear sH2 sH3 erl esl hrl hsl nrs H2 H3 rl sl;obtain⟨sG,rl,sl,os,rs,sg,i,x7,x8,rfl,rfl,hrl,hsl,nrs,erl,hpo,hos,esl,hle,hsg,hnb,hri⟩:=hP;have hol:=hpo.length;walk_at"w";refine⟨n,_,rfl,.inl (SqL.of (sG.at hn1)),?_⟩;walk_at"w";rw[aa];refine⟨fun e1=>?_,fun e1=>?_⟩
  ·have h1:i+sg.length<ns.length:=by have:=of_decide_eq_true e1;lia
   refine⟨fun σ' G'=>∃m',m'<ns.length - (i+sg.length)∧xb H1 G'∧∃(rl sl:Addr) (os:List Addr) (rs:List xf) (sg:List Int) (i:Nat) (x7 x8:Option V),m'=ns.length - (i+sg.length)∧σ'=[some (.ref e),some (.ref n),some (.int least),some (.ref t),some (.ref rl),some (.ref sl),some (.int (i+sg.length:Nat)),x7,x8]∧
    H1 rl=none∧H1 sl=none∧rl≠sl∧G' rl=some (.lst (os.map V.ref))∧Paired (xy K a G') os rs∧os.length≤2*i∧G' sl=some (.lst (sg.map V.int))∧i+sg.length≤ns.length∧sg=(ns.drop i).take sg.length∧(∀k,k<sg.length→jQ es (ns.drop (i+k)) least)∧xV es ns least 0 false rs i false,fun _ _ z=>z,?_⟩
   walk_at"w";refine⟨_,rfl,?_⟩;walk_at"w";refine⟨n,_,rfl,SqL.of (sG.at hn1),?_⟩;intro d hd;generalize hUd:upd G d _=G1;have sG1:=xb.of_eq hd hUd;have ed:=xm hUd;clear hUd;walk_at"w";rw[xjX]at ed;have s01:=sG.trans sG1;refine⟨e,t,d,es,ns.drop (i+sg.length),p,rfl,s01.at he1,s01.at et,ed,hp,h64,by rw[aO];lia,fun r a1 c G2 s2 hr2 er hb=>?_⟩;have s02:=s01.trans s2;have sg2:=sG1.trans s2;walk_at"w";refine⟨r,_,_,.int c,rfl,rfl,SqT.of er,rfl,?_⟩;have esl2:=sg2.at esl;have erl2:=sg2.at erl;have hpo2:=L2.Paired.imp' (fun _ _ z=>xy.same z sg2) hpo;have more:(c:Int)<least→∀G3 x7 x8,upd G2 sl (.lst (sg.map V.int++[.int ns[i+sg.length]]))=G3→∃m',m'<ns.length - (i+sg.length)∧xb H1 G3∧∃(rl' sl':Addr) (os:List Addr) (rs:List xf) (sg':List Int) (i':Nat) (x7' x8':Option V),m'=ns.length - (i'+sg'.length)∧[some (.ref e),some (.ref n),some (.int least),some (.ref t),some (.ref rl),some (.ref sl),some (.int (((i+sg.length:Nat):Int)+1)),x7,x8]=[some (.ref e),some (.ref n),some (.int least),some (.ref t),some (.ref rl'),some (.ref sl'),some (V.int (i'+sg'.length:Nat)),x7',x8']∧
    H1 rl'=none∧H1 sl'=none∧rl'≠sl'∧G3 rl'=some (.lst (os.map V.ref))∧Paired (xy K a G3) os rs∧os.length≤2*i'∧G3 sl'=some (.lst (sg'.map V.int))∧i'+sg'.length≤ns.length∧sg'=(ns.drop i').take sg'.length∧(∀k,k<sg'.length→jQ es (ns.drop (i'+k)) least)∧xV es ns least 0 false rs i' false:=fun hc G3 x7 x8 hU=>by
    have hl1:(sg++[ns[i+sg.length]]).length=sg.length+1:=by rw[aq];rfl
    refine⟨ns.length - (i+(sg++[ns[i+sg.length]]).length),by lia,xb.wr s02 hsl hU,rl,sl,os,rs,sg++[ns[i+sg.length]],i,x7,x8,rfl,?_,hrl,hsl,nrs,by rw[←hU,xl nrs];exact erl2,?_,hos,by rw[xm hU,aG];rfl,by lia,xnP hsg h1,fun k hk=>?_,hri⟩
    ·rw[hl1,show((i+(sg.length+1):Nat):Int)=((i+sg.length:Nat):Int)+1 by lia]
    ·rw[←hU];exact L2.Paired.imp' (fun _ _ z=>xy.off z esl2) hpo2
    ·rw[hl1]at hk
     by_cases z:k=sg.length
     ·rw[z];exact jQ.of hb hc
     ·exact hnb k (by lia)
   walk_at"w";refine⟨fun e2=>?_,fun e2=>?_⟩
   ·have c0:0<c:=by have:=of_decide_eq_true e2;lia
    walk_at"w";refine⟨fun e3=>?_,fun e3=>?_⟩
    ·have c1:least≤(c:Int):=by have:=of_decide_eq_true e3;lia
     walk_at"w";refine⟨.inl ⟨rfl,_,SqL.of erl2⟩,?_⟩;walk_at"w";refine⟨sl,_,sg,rfl,esl2,fun l os2 G3 s3 hl el hp2=>?_⟩;have erl3:=s3.at erl2;have hpo3:=L2.Paired.imp' (fun _ _ z=>xy.same z s3) hpo2;have l2:os2.length≤1:=by
      have:=hp2.length;have:=xgC ((i+sg.length:Nat):Int) sg;lia
     walk_at"w";refine⟨rl,l,_,_,rfl,rfl,erl3,el,by rw[aa,aa,av];lia,?_⟩;generalize hU:upd G3 rl _=G4;have s04:=xb.wr (s02.trans s3) hrl hU;have erl4:=xm hU;have hpo4:Paired (xy K a G4) (os++os2) (rs++jh ((i+sg.length:Nat):Int) sg):=by
      rw[←hU];exact uK (L2.Paired.imp' (fun _ _ z=>xy.off z erl3) hpo3) (L2.Paired.imp' (fun _ _ z=>xy.off z erl3) hp2)
     have er4:G4 r=some (.tup [.int a1,.int c]):=by rw[←hU,xl (yZ (s3.at er) erl3 (by intro z;cases z))];exact s3.at er
     clear hU;rw[←aG]at erl4;walk_at"w";refine⟨.inl ⟨rfl,_,SqL.of erl4⟩,?_⟩;walk_at"w";refine⟨r,_,_,.int a1,rfl,rfl,SqT.of er4,rfl,?_⟩;walk_at"w";intro x xdx hx hxdx nex;generalize hUx:upd G4 xdx (.own x)=G5;have sG5:=xb.of_eq hxdx hUx;have hx3:G5 x=none:=by rw[←hUx,xl (a8 nex)];exact hx
     refine⟨x,xdx,_,_,_,rfl,xk,rfl,?_⟩;rw[zm];generalize hVx:upd G5 x _=G6;have sG6:=xb.of_eq hx3 hVx;have ex:=xm hVx;walk_at"w";have s46:=sG5.trans sG6;refine⟨rl,_,_,rfl,rfl,s46.at erl4,by rw[aa,aq,av];lia,?_⟩;generalize hU:upd G6 rl _=G8;have s08:=xb.wr (s04.trans s46) hrl hU;have erl8:=xm hU;have hpo8:Paired (xy K a G8) (os++os2++[x]) (rs++jh ((i+sg.length:Nat):Int) sg++[.take (i+sg.length:Nat) a1 c]):=by
      rw[←hU];refine uK (L2.Paired.imp' (fun _ _ z=>xy.off (xy.same z s46) (s46.at erl4)) hpo4) (.cons ?_ .nil);exact xy.off (r:=.take (i+sg.length:Nat) a1 c) ⟨xdx,ex⟩ (s46.at erl4)
     clear hU;walk_at"w";walk_at"ss";intro sz hsz;generalize hUsz:upd G8 sz _=G9;have sG9:=xb.of_eq hsz hUsz;have esz:=xm hUsz;clear hUsz;walk_at"w";obtain⟨rt,hlt⟩:=xV.take (b:=decide (sg≠[])) (b7 h1) c0 c1 hb;refine⟨ns.length - (i+sg.length+c),by lia,s08.trans sG9,rl,sz,os++os2++[x],_,[],i+sg.length+c,some (.ref r),some (.int c),rfl,?_,hrl,s08.back hsz,(fun z=>by rw[←z,erl8]at hsz;cases hsz),?_,L2.Paired.imp' (fun _ _ z=>xy.same z sG9) hpo8,?_,esz,by simpa using hlt,by simp,fun k hk=>absurd hk (cz _),(hri.app (xV.put hle hsg hnb)).app rt⟩
     ·have ec:((i+sg.length+c+([]:List Int).length:Nat):Int)=((i+sg.length:Nat):Int)+(c:Int):=by show((i+sg.length+c:Nat):Int)=_;lia
      rw[ec];rfl
     ·rw[sG9.at erl8];simp
     ·simp;lia
    ·have c1:(c:Int)<least:=by have:=of_decide_eq_false e3;lia
     walk_at"w";refine⟨.inl ⟨rfl,_,SqL.of esl2⟩,?_⟩;walk_at"w";refine⟨n,_,_,.int ns[i+sg.length],rfl,rfl,SqL.of (s02.at hn1),zc (by simp[h1]),?_⟩;walk_at"w";refine⟨sl,_,_,rfl,rfl,esl2,by rw[aa,av];lia,?_⟩;exact more c1 _ _ _ rfl
   ·have c1:(c:Int)<least:=by have:=of_decide_eq_false e2;lia
    refine⟨by walk_at"no",fun _=>?_⟩;walk_at"w";refine⟨.inl ⟨rfl,_,SqL.of esl2⟩,?_⟩;walk_at"w";refine⟨n,_,_,.int ns[i+sg.length],rfl,rfl,SqL.of (s02.at hn1),zc (by simp[h1]),?_⟩;walk_at"w";refine⟨sl,_,_,rfl,rfl,esl2,by rw[aa,av];lia,?_⟩;exact more c1 _ _ _ rfl
  ·have h1:i+sg.length=ns.length:=by have:=of_decide_eq_false e1;lia
   walk_at"w";refine⟨sl,_,sg,rfl,esl,fun l os2 G3 s3 hl el hp2=>?_⟩;walk_at"w";have l2:os2.length≤1:=by
    have:=hp2.length;have:=xgC ((i+sg.length:Nat):Int) sg;lia
   refine⟨rl,l,_,_,rfl,rfl,s3.at erl,el,by rw[aa,aa,av];lia,?_⟩;intro z hz;generalize hUz:upd G3 z _=G4;have sG4:=xb.of_eq hz hUz;have ez:=xm hUz;clear hUz;walk_at"w";have s4:=s1.trans (sG.trans s3);refine k z (os++os2) _ (decide (sg≠[])) G4 (s4.trans sG4) (s4.back hz) (by rw[ez,aG]) (uK (L2.Paired.imp' (fun _ _ z=>xy.same z (s3.trans sG4)) hpo) (L2.Paired.imp' (fun _ _ z=>xy.same z sG4) hp2)) ?_;have:=hri.app (xV.put hle hsg hnb);rw[h1]at this;rw[h1];exact this
end
def xmt(K:ah)(a:Adr):Sp:=fun vs H Q _=>∃(o e:Addr) (to st c:Int) (es:List Int),vs=[.ref o,.ref e]∧xy K a H o (.take to st c)∧H e=some (.lst (es.map V.int))∧0≤st∧0≤c∧st+c≤es.length∧
 ∀(p:Addr) (H':Hp),xb H H'→H p=none→xy K a H' p (.put to ((es.drop st.toNat).take c.toNat))→Q (.ref p) H'
section
variable {P:aI} {w:World} {K:ah} {mg:Str→Option Value} {base:Heap} {a:Adr}
theorem xmu(T:Txt K mg a):xv P w K mg base CX0 4 a.q2D a.xdA ["take","elder"] (xmt K a):=by
 refine T.q2J.ok xgc (fun vs H Q E h=>?_) (fun cdv A outer s H vs Q E hr h=>?_)
 ·obtain⟨o,e,to,st,c,es,rfl,_⟩:=h;rfl
 ·obtain⟨o,e,to,st,c,es,rfl,⟨dx,h1⟩,he,st0,c0,hle,k⟩:=h;have nd:=xgc.nd;refine⟨_,(xi (xq (vy T.q3G (uX T) (hr.mono (by decide)) (by rfl) T.xf7 T.xan .nil xo (xa (xx (cv 0) rfl) (xa (yn yL (cv 1) (yc (xx (cv 0) rfl)) (yc (xn xK (xx (cv 0) rfl) (xx (cv 0) rfl)))) xc))))),?_⟩;walk_at"w";refine⟨_,_,dx,_,.int to,rfl,h1,T.q0b,T.q0i,rfl,?_⟩;walk_at"w";refine⟨_,_,dx,_,.int st,rfl,h1,T.q0b,T.q0e,rfl,?_⟩;walk_at"w";refine⟨_,rfl,?_⟩;walk_at"w";refine⟨_,_,dx,_,.int st,rfl,h1,T.q0b,T.q0e,rfl,?_⟩;walk_at"w";refine⟨_,_,dx,_,.int c,rfl,h1,T.q0b,T.q0f,rfl,?_⟩;walk_at"w";refine⟨_,rfl,?_⟩;walk_at"w";refine⟨e,_,rfl,SqL.of he,?_⟩;intro q hq;generalize hUq:upd H q _=H1;have sH1:=xb.of_eq hq hUq;have eq:=xm hUq;clear hUq;walk_at"w";have eq2:H1 q=some (.lst (((es.drop st.toNat).take c.toNat).map V.int)):=by
   rw[eq,zx,yY st0,yY (by lia)]
   congr 4
   ·rw[cA (by lia),cA (by lia)];lia
   ·rw[cA (by lia)]
  walk_at"w";intro x xdx hx hxdx nex;generalize hUx:upd H1 xdx (.own x)=H2;have sH2:=xb.of_eq hxdx hUx;have hx3:H2 x=none:=by rw[←hUx,xl (a8 nex)];exact hx
  refine⟨x,xdx,q,_,(es.drop st.toNat).take c.toNat,rfl,xk,(xb.new hx3).at (sH2.at eq2),fun u H5 hu o5 e5 eu=>⟨rfl,?_⟩⟩;have s5:xb H1 H5:=fun b o z=>o5 b o (fun y=>by rw[y,hx]at z;cases z) ((sH2.trans (xb.new hx3)).at z);exact k x H5 (sH1.trans s5) (sH1.back hx) ⟨xdx,u,e5,eu⟩
end
end ML
def xsg:Stmt→Expr
 | .For _ it _ _ _=>it
 |_=>.Constant .none 0 ⟨0,0,0,0⟩
abbrev xgE:Expr:=xlL (xsg ((xO vj).getD 1 (.Pass ⟨0,0,0,0⟩)))
theorem xli:uu ["one"] ["one"] [] (zj xgE):=⟨rfl,rfl,rfl,by decide+kernel,rfl,by decide+kernel,by decide+kernel,by decide+kernel⟩
def xqq(a:Adr):List (Str×V)→Sp:=fun fv vs H Q _=>∃(p dx t:Addr) (to n:Int),fv=[]∧vs=[.ref p]∧H p=some (.ins a.q0c dx (jD to t n))∧Q (.int to) H
def rTo:xf→Int
 | .take to _ _=>to
 | .put to _=>to
def xC(acc:List xf)(r:xf):List xf:=match acc.getLast?,r with
 |some (.put t sg),.put to sg'=>if t+sg.length=to then acc.dropLast++[.put t (sg++sg')]else acc++[r]
 |_,_=>acc++[r]
def yS(r:xf):Prop:=∃to sg,r= .put to sg∧sg≠[]∧0≤to∧to+sg.length≤1000
theorem xb2{acc:List xf}{r:xf}(h:∀x∈acc,yS x)(hr:yS r):∀x∈xC acc r,yS x:=by
 obtain⟨to,sg',rfl,s1,s2,s3⟩:=id hr;intro x hx;unfold xC at hx
 split at hx
 ·rename_i t sg to2 sg2 hl e;cases e;obtain⟨to3,sg3,e3,u1,u2,u3⟩:=h _ (List.mem_of_getLast? hl);cases e3
  split at hx
  ·rcases aM.mp hx with z|z
   ·exact h x (List.dropLast_subset _ z)
   ·rw[ax.mp z];exact⟨t,sg++sg',rfl,by simp[u1],u2,by rw[aq];lia⟩
  ·rcases aM.mp hx with z|z
   ·exact h x z
   ·rw[ax.mp z];exact hr
 ·rcases aM.mp hx with z|z
  ·exact h x z
  ·rw[ax.mp z];exact hr
theorem xeW{α β:Type}{R:α→β→Prop}:∀{xs:List α} {ys:List β} {y:β},Paired R xs (ys++[y])→∃xs' x,xs=xs'++[x]∧Paired R xs' ys∧R x y
 |_,[],_,.cons h .nil=>⟨[],_,rfl,.nil,h⟩
 |_,_::ys,_,.cons h r=>by
  obtain⟨xs',x,rfl,h1,h2⟩:=xeW r;exact⟨_::xs',x,rfl,.cons h h1,h2⟩
def xnQ(K:ah)(a:Adr):Sp:=fun vs H Q _=>∃(l:Addr) (os:List Addr) (ps:List xf),vs=[.ref l]∧SqL K H l (os.map V.ref)∧Paired (xy K a H) os ps∧(∀r∈ps,yS r)∧ps.length<64∧(ps.map rTo).Nodup∧H uz=some (.tbl jI)∧
 ∀(l':Addr) (os':List Addr) (p:List Nat) (G:Hp),xb H G→H l'=none→G l'=some (.lst (os'.map V.ref))→p.Perm (a9 ps.length)→((p.map fun i=>rTo (ps.getD i dR)).Pairwise fun x y=>x<y)→Paired (xy K a G) os' ((p.map fun i=>ps.getD i dR).foldl xC [])→Q (.ref l') G
theorem uD(r:xf):xC [] r=[r]:=by unfold xC;simp
theorem zp(acc:List xf)(t:Int)(sg:List Int)(to:Int)(sg':List Int):xC (acc++[.put t sg]) (.put to sg')=if t+sg.length=to then acc++[.put t (sg++sg')]else acc++[.put t sg]++[.put to sg']:=by
 unfold xC;simp only[List.getLast?_append,List.getLast?_singleton,Option.some_or,List.dropLast_concat]
theorem xy.offw{K:ah}{a:Adr}{H:Hp}{t p:Addr}{r:xf}{xs:List V}{o:HO}(h:xy K a H t r)(hp:H p=some (.lst xs)):xy K a (upd H p o) t r:=by
 have off:∀{b:Addr} {u:HO},H b=some u→(∀ys,u≠.lst ys)→upd H p o b=some u:=fun{b u} e n=>by
  rw[xl (fun z=>by rw[z,hp]at e;cases e;exact n _ rfl)];exact e
 cases r with
 |take to st c=>obtain⟨dx,h⟩:=h;exact⟨dx,off h (by intro _ z;cases z)⟩
 |put to sg=>obtain⟨dx,u,h1,h2⟩:=h;exact⟨dx,u,off h1 (by intro _ z;cases z),off h2 (by intro _ z;cases z)⟩
section
variable {P:aI} {w:World} {K:ah} {mg:Str→Option Value} {base:Heap} {a:Adr}
theorem xiu(T:Txt K mg a):zJ P w K mg base CX0 1 "<lambda>" "joined.<locals>.<lambda>" (xau xgE) (.expr (xav xgE)) (zj xgE) ["one"] (xqq a):=by
 refine xaF xli (fun fv vs H Q E h=>?_) (fun _ _ _ _ _ us hl=>match us,hl with|[_],_=>rfl) (fun A outer s H f clos cdv fv vs Q E hr h=>?_)
 ·obtain⟨p,dx,t,to,n,rfl,rfl,_⟩:=h;exact⟨rfl,rfl⟩
 ·obtain⟨p,dx,t,to,n,rfl,rfl,hp,k⟩:=h;have nd:=xli.nd;refine⟨_,(xx (cv 0) rfl),?_⟩;walk_at"w";exact⟨_,_,dx,_,.int to,rfl,hp,T.q0g,T.q0x,rfl,k⟩
theorem xnR(T:Txt K mg a):xv P w K mg base CX0 4 a.q2E a.xcK ["puts"] (xnQ K a):=by
 refine T.xa6.okC [] T.xnu xhR (fun vs H Q E h=>?_) (fun A outer s H vs Q E hr h=>?_)
 ·obtain⟨l,os,ps,rfl,_⟩:=h;rfl
 ·obtain⟨l,os,ps,rfl,hl,hp,hok,h64,hnd,hP,k⟩:=h;have nd:=xhR.nd;refine⟨_,(xg (xt (i:=1) nd rfl (aD rfl) (yh xc))
  (xg (ym aV rfl (xR (xkk (xiu T) (hr.mono (by decide)) (by rfl) T.q3L (xa (cv 0) xc) (zw (c:=q1Y) (P:=uz) (qs:=jI) (fns:=[]) rfl T.q3N (q:="joined.<locals>.<lambda>") (by kernel_rfl) (.head _) (by kernel_rfl) (by kernel_rfl)))) (xG (i:=2) nd rfl (aD rfl)) (xi (xM (PW.pt (vG (xJ xgO (xu xw (by rfl) T.q0k xP (xa (cv 1) xc)) xh) (vx (xJ zT (xB xE (xD (xB yK (cv 1) (xo5 xpd xh) (fun _ _=>rfl)) T.q0g T.q2X (uc T) (hr.mono (by decide)) T.jb .nil xo) xh (fun _ _=>rfl)) (xx (cv 2) rfl))))) (xg (xt (i:=3) nd rfl (aD rfl) (xqX PySem.F.plainAttrs_list PySem.F.slot_list_pop PySem.F.type_list_pop xqY (cv 1)))
  (xi (xN (zt PySem.F.plainAttrs_list PySem.F.slot_list_append PySem.F.type_list_append yi (cv 1) (xa (vy T.q3G (uX T) (hr.mono (by decide)) (by rfl) T.xf7 T.xan .nil xo (xa (xx (cv 3) rfl) (xa (xn xpw (xx (cv 3) rfl) (xx (cv 2) rfl)) xc))) xc))))) (xi (xN (zt PySem.F.plainAttrs_list PySem.F.slot_list_append PySem.F.type_list_append yi (cv 1) (xa (cv 2) xc)))))))
  (xi (xq (cv 1))))),?_⟩
  have elen:os.length=ps.length:=hp.length;walk_at"w";walk_at"ss";intro wl hwl;generalize hUwl:upd H wl _=H1;have sH1:=xb.of_eq hwl hUwl;have ewl:=xm hUwl;clear hUwl;walk_at"w";refine⟨sH1.at hP,[],rfl,fun x v m=>by simp at m,fun f H2 hf s2 hcl=>?_⟩;have s02:xb H H2:=sH1.trans s2;walk_at"w";refine⟨l,f,os.map V.ref,[],fun i=>rTo (ps.getD i dR),rfl,rfl,s02.seq hl,by rw[aa];lia,hcl,fun i x hx H3 s3=>?_,⟨fun i hi=>by simp,fun i j k _ _ _ h1 h2=>decide_eq_true (by have:=of_decide_eq_true h1;have:=of_decide_eq_true h2;lia),fun i j hi hj hij=>?_⟩,fun sl p H3 s3 hsl esl hpm hpw=>?_⟩
  ·rw[ak]at hx;cases ho:os[i]? with
   |none=>rw[ho]at hx;cases hx
   |some o=>
    rw[ho]at hx;cases hx;obtain⟨pr,hy,py⟩:=xS hp ho;obtain⟨to,sg,rfl,_⟩:=hok pr (az hy);obtain⟨dx,t,p1,p2⟩:=py;refine⟨o,dx,t,to,sg.length,rfl,rfl,(s02.trans s3).at p1,xb.refl _,?_⟩;have:ps.getD i dR= .put to sg:=by simp only[bf];rw[hy];rfl
    show V.int to=V.int (rTo (ps.getD i dR));rw[this];rfl
  ·rw[aa]at hi hj;have hi2:i<ps.length:=by lia
   have hj2:j<ps.length:=by lia
   have gi:rTo (ps.getD i dR)=rTo ps[i]:=by simp[bf,hi2]
   have gj:rTo (ps.getD j dR)=rTo ps[j]:=by simp[bf,hj2]
   show decide (rTo (ps.getD i dR)<rTo (ps.getD j dR))=true∨decide (rTo (ps.getD j dR)<rTo (ps.getD i dR))=true;rw[gi,gj];have ne:rTo ps[i]≠rTo ps[j]:=by
    rcases Nat.lt_or_gt_of_ne hij with z|z
    ·have:=bL.mp hnd i j (by simp;lia) (by simp;lia) z;simpa using this
    ·have:=bL.mp hnd j i (by simp;lia) (by simp;lia) z;intro e;exact this (by simp[e])
   rcases Int.lt_or_gt_of_ne ne with z|z
   ·exact .inl (decide_eq_true z)
   ·exact .inr (decide_eq_true z)
  ·walk_at"w";rw[aa,elen]at hpm;have s03:xb H H3:=s02.trans s3;have hwl:H wl=none:=hwl;refine⟨sl,rfl,⟨_,SqL.of esl⟩,?_⟩;have hmem:∀i∈p,i<ps.length:=fun i hi=>bp.mp (hpm.mem_iff.mp hi);refine yH (fun i σ G=>xb H G∧G sl=some (.lst (p.map fun(i:Nat)=>(os.map V.ref).getD i .non))∧∃(z2 z3:Option V) (ros:List Addr),σ=[some (.ref l),some (.ref wl),z2,z3]∧G wl=some (.lst (ros.map V.ref))∧Paired (xy K a G) ros (((p.take i).map fun i=>ps.getD i dR).foldl xC [])∧(∀x∈((p.take i).map fun i=>ps.getD i dR).foldl xC [],yS x)∧ros.length≤i)
    ⟨s03,esl,_,_,[],rfl,(s2.trans s3).at ewl,.nil,fun x hx=>by simp at hx,ai _⟩ (fun i σ G _ hPv=>SqL.of hPv.2.1) (fun i x σ G hx hPv=>?_) (fun σ G hPv=>?_)
   ·obtain⟨sG,hsG,z2,z3,ros,rfl,hwG,hpr,hpk,hrl⟩:=hPv;rw[ak]at hx;cases hpi:p[i]? with
    |none=>rw[hpi]at hx;cases hx
    |some j=>
    rw[hpi]at hx;have hj:j<ps.length:=hmem j (az hpi);have hjo:j<os.length:=by lia
    have ex:x= .ref os[j]:=by cases hx;simp[bf,hjo]
    clear hx;subst ex;have hil:i<p.length:=(au.mp hpi).1;have hpl:p.length=ps.length:=by have:=hpm.length_eq;simpa using this
    obtain⟨pr,hy,py⟩:=xS hp (ag hjo);have hpk2:=hok pr (az hy);obtain⟨to,sg',rfl,g1,g2,g3⟩:=id hpk2;have egj:ps.getD j dR= .put to sg':=by simp only[bf];rw[hy];rfl
    have enext:((p.take (i+1)).map fun i=>ps.getD i dR).foldl xC []=xC (((p.take i).map fun i=>ps.getD i dR).foldl xC []) (.put to sg'):=by
     rw[bw,hpi];simp[e7,egj];rw[←egj];rfl
    have hnext:=xb2 hpk hpk2;rw[enext];have hwsl:wl≠sl:=fun z=>by rw[z]at ewl;have:=s2.at ewl;rw[hsl]at this;cases this
    generalize ((p.take i).map fun i=>ps.getD i dR).foldl xC []=acc at hpr hpk hnext⊢;obtain⟨dx,u,o1,o2⟩:=py.same sG;clear enext;walk_at"w";refine⟨wl,_,rfl,.inl (SqL.of hwG),?_⟩;walk_at"w";have app:xC acc (.put to sg')=acc++[.put to sg']→∀(G':Hp),xb G G'→xb H (upd G' wl (.lst (ros.map V.ref++[.ref os[j]])))∧upd G' wl (.lst (ros.map V.ref++[.ref os[j]])) sl=some (.lst (p.map fun(i:Nat)=>(os.map V.ref).getD i .non))∧∃(z2' z3':Option V) (ros':List Addr),([some (.ref l),some (.ref wl),some (.ref os[j]),z3]:L2.St)=[some (.ref l),some (.ref wl),z2',z3']∧upd G' wl (.lst (ros.map V.ref++[.ref os[j]])) wl=some (.lst (ros'.map V.ref))∧Paired (xy K a (upd G' wl (.lst (ros.map V.ref++[.ref os[j]])))) ros' (xC acc (.put to sg'))∧(∀x∈xC acc (.put to sg'),yS x)∧ros'.length≤i+1:=fun ej G' g=>by
     refine⟨(sG.trans g).put hwl,by rw[xl (a8 hwsl)];exact g.at hsG,_,_,ros++[os[j]],rfl,by rw[xk,aG];rfl,?_,hnext,by rw[aq,bK];lia⟩;rw[ej];exact yv (L2.Paired.imp' (fun _ _ z=>(z.same g).offw (g.at hwG)) hpr) (xy.offw (r:=.put to sg') ⟨dx,u,g.at o1,g.at o2⟩ (g.at hwG))
    refine⟨fun e1=>?_,fun e1=>?_⟩
    ·rcases dP acc with z|⟨acc',last,z⟩
     ·subst z;cases hpr;simp at e1
     rw[dQ]at z;subst z;obtain⟨ros',lo,rfl,hpr',hlast⟩:=xeW hpr;obtain⟨t,sg,rfl,u1,u2,u3⟩:=hpk last (by simp);obtain⟨ldx,lu,l1,l2⟩:=hlast;walk_at"w";have hat:atI ((ros'++[lo]).map V.ref) (-1)=some (.ref lo):=by
      rw[aG];have e:ixN (ros'.length+1) (-1)=some ros'.length:=by
       unfold ixN
       first
        |(rw[if_neg (by lia),if_pos (by lia)];congr 1;lia)
        |(simp;lia)
        |simp
      simp[atI,e]
     refine⟨wl,_,_,_,rfl,rfl,SqL.of hwG,hat,?_⟩;walk_at"w";refine⟨lo,ldx,_,rfl,l1,rfl,?_⟩;walk_at"w";refine⟨lo,_,ldx,_,t,sg.length,rfl,l1,T.q0g,T.q0x,T.q0p,rfl,rfl,fun ct hct=>?_⟩;generalize hV:upd G ct _=G1;have gG1:=xb.of_eq hct hV;have ect:=xm hV;clear hV;walk_at"w";refine⟨ct,_,_,.int (t+sg.length),rfl,rfl,SqT.of ect,rfl,?_⟩;walk_at"w";refine⟨_,_,dx,_,.int to,rfl,gG1.at o1,T.q0g,T.q0x,rfl,?_⟩;walk_at"w";refine⟨fun e2=>?_,fun e2=>?_⟩
     ·have ht2:t+sg.length=to:=of_decide_eq_true e2;walk_at"w";refine⟨.inl ⟨rfl,_,SqL.of (gG1.at hwG)⟩,wl,_,.ref lo,rfl,rfl,gG1.at hwG,by simp,?_⟩;have edl:((ros'++[lo]).map V.ref).dropLast=ros'.map V.ref:=by rw[aG];simp
      rw[edl];generalize hU:upd G1 wl _=G2;have hw2:=xm hU;have off2:∀b w0,b≠wl→G1 b=some w0→G2 b=some w0:=fun b w0 hb e=>by rw[←hU,xl hb];exact e
      have hs2:xb H G2:=by rw[←hU];exact(sG.trans gG1).put hwl
      have nl:∀{b:Addr} {w0:HO},G1 b=some w0→(∀ys,w0≠.lst ys)→b≠wl:=fun{b w0} e n z=>by rw[z,gG1.at hwG]at e;cases e;exact n _ rfl
      have hpr2:Paired (xy K a G2) ros' acc':=by rw[←hU];exact L2.Paired.imp' (fun _ _ z=>(z.same gG1).offw (gG1.at hwG)) hpr'
      clear hU;have l1':=off2 lo _ (nl (gG1.at l1) (by intro _ z;cases z)) (gG1.at l1);have l2':=off2 lu _ (nl (gG1.at l2) (by intro _ z;cases z)) (gG1.at l2);have o1':=off2 os[j] _ (nl (gG1.at o1) (by intro _ z;cases z)) (gG1.at o1);have o2':=off2 u _ (nl (gG1.at o2) (by intro _ z;cases z)) (gG1.at o2);have hsl2:=off2 sl _ (a8 hwsl) (gG1.at hsG);walk_at"w";refine⟨.inl ⟨rfl,_,SqL.of hw2⟩,?_⟩;walk_at"w";refine⟨_,_,ldx,_,.int t,rfl,l1',T.q0g,T.q0x,rfl,?_⟩;walk_at"w";refine⟨_,_,ldx,_,.ref lu,rfl,l1',T.q0g,T.q0I,rfl,?_⟩;walk_at"w";refine⟨_,_,dx,_,.ref u,rfl,o1',T.q0g,T.q0I,rfl,?_⟩;walk_at"w";refine⟨lu,u,_,_,rfl,rfl,SqT.of l2',SqT.of o2',by simpa using u1,by rw[aa,aa,av];lia,fun z=>absurd z (by simpa using g1),fun _ cp hcp=>?_⟩;generalize hW:upd G2 cp _=G3;have g3':=xb.of_eq hcp hW;have ecp:=xm hW;clear hW;walk_at"w";intro x xdx hx hxdx nex;generalize hUx:upd G3 xdx (.own x)=G4;have sG4:=xb.of_eq hxdx hUx;have hx3:G4 x=none:=by rw[←hUx,xl (a8 nex)];exact hx
      refine⟨x,xdx,cp,t,_,rfl,xk,SqT.of ((xb.new hx3).at (sG4.at ecp)),rfl,?_⟩;rw[zm];generalize hX:upd G4 x _=G5;have g5:=xb.of_eq hx3 hX;have ex5:=xm hX;clear hX;have g35:xb G3 G5:=sG4.trans g5;have g25:xb G2 G5:=g3'.trans g35;walk_at"w";refine⟨wl,_,_,rfl,rfl,g25.at hw2,by rw[aa,av];rw[aq,bK]at hrl;lia,?_⟩;refine⟨(hs2.trans g25).put hwl,by rw[xl (a8 hwsl)];exact g25.at hsl2,_,_,ros'++[x],rfl,by rw[xk,aG];rfl,?_,hnext,by rw[aq,bK]at hrl⊢;lia⟩;rw[zp,if_pos ht2];refine yv (L2.Paired.imp' (fun _ _ z=>(z.same g25).offw (g25.at hw2)) hpr2) (xy.offw (r:=.put t (sg++sg')) ⟨xdx,cp,?_,?_⟩ (g25.at hw2))
      ·rw[ex5];simp
      ·rw[g35.at ecp,aG]
     ·have ht2:¬t+sg.length=to:=of_decide_eq_false e2;walk_at"w";refine⟨.inl ⟨rfl,_,SqL.of (gG1.at hwG)⟩,?_⟩;walk_at"w";refine⟨wl,_,_,rfl,rfl,gG1.at hwG,by rw[aa,av];lia,?_⟩;exact app (by rw[zp,if_neg ht2]) _ gG1
    ·have hr0:ros=[]:=by
      have:=of_decide_eq_false e1;rw[aa]at this;exact dA.mp (by lia)
     subst hr0;have ha0:acc=[]:=by cases hpr;rfl
     subst ha0;refine⟨by walk_at"no",fun _=>?_⟩;walk_at"w";refine⟨.inl ⟨rfl,_,SqL.of ((xb.refl G).at hwG)⟩,?_⟩;walk_at"w";refine⟨wl,_,_,rfl,rfl,(xb.refl G).at hwG,by rw[aa,av];lia,?_⟩;exact app (uD _) _ (xb.refl G)
   ·obtain⟨sG,hsG,z2,z3,ros,rfl,hwG,hpr,hpk,hrl⟩:=hPv;rw[aa,aZ (ai _)]at hpr;walk_at"w";exact k wl ros p G sG hwl hwG hpm (b8.mpr (hpw.imp fun h=>of_decide_eq_true h)) hpr
end
theorem Goes.sub{xss:List (List Int)}{key:Int→List Int}{left ord:List Int}{tur:List (Int×List Int)}(h:Goes xss key left ord tur):(∀x∈ord,x∈left)∧∀x∈tur,x.1∈left:=by
 induction h with
 |nil=>exact⟨fun _ h=>h,fun _ h=>by simp at h⟩
 |keep k hk _ _ ih=>
  refine⟨fun x hx=>?_,fun x hx=>(aS.mp (ih.2 x hx)).1⟩;rcases ao.mp hx with z|z
  ·rw[z];exact hk
  ·exact(aS.mp (ih.1 x z)).1
 |turn k _ _ _ hk _ ih=>
  refine⟨fun x hx=>(aS.mp (ih.1 x hx)).1,fun x hx=>?_⟩;rcases ao.mp hx with z|z
  ·rw[z];exact hk
  ·exact(aS.mp (ih.2 x z)).1
theorem xd5{left:List Int}{k:Int}(hn:left.Nodup)(hk:k∈left):(k::left.filter fun x=>decide (x≠k)).Perm left:=by
 refine(List.perm_ext_iff_of_nodup ?_ hn).mpr fun x=>?_
 ·exact cw.mpr ⟨fun h=>by simpa using(aS.mp h).2,hn.filter _⟩
 ·rw[ao,aS];constructor
  ·rintro(z|z)
   ·rw[z];exact hk
   ·exact z.1
  ·intro h
   by_cases e:x=k
   ·exact .inl e
   ·exact .inr ⟨h,by simpa using e⟩
theorem Goes.perm{xss:List (List Int)}{key:Int→List Int}{left ord:List Int}{tur:List (Int×List Int)}(h:Goes xss key left ord tur):left.Nodup→(ord++tur.map (·.1)).Perm left:=by
 induction h with
 |nil=>exact fun _=>.refl _
 |keep k hk _ _ ih=>exact fun hn=>((ih (hn.filter _)).cons k).trans (xd5 hn hk)
 |turn k _ _ _ hk _ ih=>exact fun hn=>(List.perm_middle.trans ((ih (hn.filter _)).cons k)).trans (xd5 hn hk)
theorem Goes.pair{xss:List (List Int)}{key:Int→List Int}{left ord:List Int}{tur:List (Int×List Int)}(h:Goes xss key left ord tur):ord.Pairwise fun k x=>x∉xss.getD k.toNat []:=by
 induction h with
 |nil=>exact .nil
 |keep k hk hh hg ih=>exact cK.mpr ⟨fun x hx hm=>hh ⟨x,(aS.mp (hg.sub.1 x hx)).1,hm⟩,ih⟩
 |turn k _ _ _ hk _ ih=>exact ih
theorem xjY:∀{rs:List xf} {n:Nat} {wr:List Int},(∀r∈rs,∀x∈r.rds,x∉wr)→(rs.Pairwise fun r s=>∀x∈s.rds,x∉r.wrs)→vd n rs wr=none
 |[],_,_,_,_=>rfl
 |r::rs,n,wr,h,hp=>by
  obtain⟨h1,h2⟩:=cK.mp hp;have e:(r.rds.find? fun c=>decide (c∈wr))=none:=eW.mpr fun x hx=>by simpa using h r aK x hx
  unfold vd;rw[e];exact xjY (fun s hs x hx hm=>by
   rcases aM.mp hm with z|z
   ·exact h s (aC _ hs) x hx z
   ·exact h1 s hs x hx z) h2
theorem xjZ{lo x:Int}{n:Nat}(h:x∈xX lo n):lo≤x∧x<lo+n:=by
 unfold xX at h;obtain⟨i,hi,rfl⟩:=aT.mp h;have:=bp.mp hi;lia
theorem xrz{s:xf}{x:Int}(h:x∈s.rds):s.rd.1≤x∧x<s.rd.2:=by
 cases s with
 |put _ _=>simp[xf.rds]at h
 |take to st c=>
  by_cases e:st=to
  ·simp[xf.rds,e]at h
  ·have h2:x∈xX st c.toNat:=by simpa [xf.rds,e]using h
   have:=xjZ h2;have e2:xf.rd (.take to st c)=(st,st+c):=by simp[xf.rd,e]
   rw[e2];exact⟨this.1,by show x<st+c;lia⟩
theorem xrA{s:xf}{x:Int}(h:x∈s.wrs):s.wr.1≤x∧x<s.wr.2:=by
 cases s with
 |put to sg=>exact xjZ (show x∈xX to sg.length from h)
 |take to st c=>
  by_cases e:st=to
  ·simp[xf.wrs,e]at h
  ·have h2:x∈xX to c.toNat:=by simpa [xf.wrs,e]using h
   have:=xjZ h2;have e2:xf.wr (.take to st c)=(to,to+c):=by simp[xf.wr,e]
   rw[e2];exact⟨this.1,by show x<to+c;lia⟩
theorem xqr{r s:xf}(h:xeo r.wr s.rd=false):∀x∈s.rds,x∉r.wrs:=fun x hx hw=>by
 have h:=of_decide_eq_false h;have a1:=xrz hx;have a2:=xrA hw;omega
theorem xsh{rs:List xf}{k x:Int}(k0:0≤k)(k1:k<rs.length)(x0:0≤x)(x1:x<rs.length)(ne:x≠k)(h:x∉(yP rs).getD k.toNat []):xeo (rs.getD k.toNat dR).wr (rs.getD x.toNat dR).rd=false:=by
 have hk:k.toNat<rs.length:=by lia
 have hx:x.toNat<rs.length:=by lia
 have e:(yP rs).getD k.toNat []=xbC k.toNat ((rs.map xf.wr).getD k.toNat (0,0)) (rs.map xf.rd):=by simp[yP,bf,hk]
 rw[e]at h;have e1:(rs.map xf.wr).getD k.toNat (0,0)=(rs.getD k.toNat dR).wr:=by simp[bf,hk]
 have e2:(rs.map xf.rd).getD x.toNat (0,0)=(rs.getD x.toNat dR).rd:=by simp[bf,hx]
 rw[e1]at h;cases hm:xeo (rs.getD k.toNat dR).wr (rs.getD x.toNat dR).rd with
 |false=>rfl
 |true=>
  refine absurd (aT.mpr ⟨x.toNat,aS.mpr ⟨bp.mpr (by rw[aa];exact hx),?_⟩,by lia⟩) h;rw[e2,hm,Bool.and_true];simp;lia
theorem xnS{rs puts:List xf}{key:Int→List Int}{ord:List Int}{tur:List (Int×List Int)}(h:Goes (yP rs) key ((a9 rs.length).map fun(i:Nat)=>(i:Int)) ord tur)(hp:∀r∈puts,r.isTake=false):jf ((ord.map fun x=>rs.getD x.toNat dR)++puts)=none:=by
 have hin:∀x∈ord,0≤x∧x<rs.length:=fun x hx=>by
  obtain⟨i,hi,rfl⟩:=aT.mp (h.sub.1 x hx);have:=bp.mp hi;lia
 have hnd:ord.Nodup:=by
  have h1:=(h.perm (b8.mpr (eI.imp fun h e=>h (by lia)))).nodup_iff.mpr (b8.mpr (eI.imp fun h e=>h (by lia)));exact(List.nodup_append.mp h1).1
 have hput:∀{s:xf},s∈puts→s.rds=[]:=fun{s} hs=>by
  cases s with
  |take _ _ _=>have:=hp _ hs;cases this
  |put _ _=>rfl
 refine xjY (fun r _ x _=>by simp) (cO.mpr ⟨b8.mpr ?_,?_,fun r _ s hs x hx=>by rw[hput hs]at hx;simp at hx⟩)
 ·refine(hnd.and h.pair).imp_of_mem fun{k x} hk hx hq=>?_;exact xqr (xsh (hin k hk).1 (hin k hk).2 (hin x hx).1 (hin x hx).2 (a8 hq.1) hq.2)
 ·exact List.pairwise_of_forall_mem_list fun r _ s hs x hx=>by rw[hput hs]at hx;simp at hx
theorem xd6{acc:List xf}{to:Int}{sg':List Int}(h:∀x∈acc,yS x)(j:Nat):(∃r∈xC acc (.put to sg'),yg r j)↔(∃r∈acc,yg r j)∨yg (.put to sg') j:=by
 rcases dP acc with z|⟨acc',last,z⟩
 ·subst z;rw[uD];simp
 ·rw[dQ]at z;subst z;obtain⟨t,sg,rfl,u1,u2,u3⟩:=h last (by simp);rw[zp]
  split
  ·rename_i e;have key:yg (.put t (sg++sg')) j↔yg (.put t sg) j∨yg (.put to sg') j:=by
    unfold yg;simp only[xf.to,xf.cnt,aq];omega
   simp only[aM,ax,or_and_right,exists_or,exists_eq_left,key];exact or_assoc.symm
  ·simp only[aM,ax,or_and_right,exists_or,exists_eq_left]
theorem xht{es nw:List Int}{acc:List xf}{to:Int}{sg':List Int}(h:∀x∈acc,yS x)(hr:yS (.put to sg'))(ha:∀x∈acc,Tells es nw x)(ht:Tells es nw (.put to sg')):∀x∈xC acc (.put to sg'),Tells es nw x:=by
 rcases dP acc with z|⟨acc',last,z⟩
 ·subst z;rw[uD];intro x hx;rw[ax.mp hx];exact ht
 ·rw[dQ]at z;subst z;obtain⟨t,sg,rfl,u1,u2,u3⟩:=h last (by simp);obtain⟨to2,sg2,e2,v1,v2,v3⟩:=hr;cases e2;have hl:=ha _ (aN _ (eS _));rw[zp]
  split
  ·rename_i e;intro x hx;rcases aM.mp hx with q|q
   ·exact ha x (bN _ q)
   ·rw[ax.mp q];obtain⟨⟨a1,a2,a3,a4⟩,_,a5,a6⟩:=hl;obtain⟨⟨b1,b2,b3,b4⟩,_,b5,b6⟩:=ht;simp only[xf.to,xf.cnt,xf.sg]at a5 a6 b5 b6;refine⟨⟨a1,by simp[a2],by rw[aq];lia,fun y hy=>?_⟩,bV,?_,fun i hi=>?_⟩
    ·rcases aM.mp hy with w|w
     ·exact a4 y w
     ·exact b4 y w
    ·simp only[xf.to,xf.cnt,aq];lia
    ·simp only[xf.to,xf.cnt,xf.sg,aq]at hi⊢
     by_cases c:i<sg.length
     ·rw[bo c];exact a6 i c
     ·rw[bI (by lia)];have:=b6 (i - sg.length) (by lia);rw[←this]
      congr 2
      lia
  ·intro x hx;rcases aM.mp hx with q|q
   ·exact ha x q
   ·rw[ax.mp q];exact ht
namespace ML
theorem xV.side{es ns:List Int}{least:Int}:∀{rs:List xf} {i j:Nat} {b b':Bool},xV es ns least i b rs j b'→i≤j∧(∀r∈rs,(i:Int)≤r.to∧r.to+r.cnt≤j∧0<r.cnt)∧(rs.Pairwise fun r s=>r.to+(r.cnt:Int)≤s.to)∧∀c,i≤c→c<j→∃r∈rs,yg r c
 |[],i,j,b,b',h=>by
  have:=h.1;exact⟨by lia,fun r hr=>by simp at hr,.nil,fun c h1 h2=>by lia⟩
 | .put to sg::rs,i,j,b,b',h=>by
  obtain⟨h1,h2,h3,h4,h5,h6,h7⟩:=h;obtain⟨g1,g2,g3,g4⟩:=h7.side;have hp:=cF.mpr h3;subst h2;refine⟨by lia,fun r hr=>?_,cK.mpr ⟨fun s hs=>?_,g3⟩,fun c c1 c2=>?_⟩
  ·rcases ao.mp hr with z|z
   ·rw[z];simp only[xf.to,xf.cnt];lia
   ·have:=g2 r z;lia
  ·have:=(g2 s hs).1;show(i:Int)+(sg.length:Int)≤s.to;lia
  ·by_cases q:c<i+sg.length
   ·exact⟨_,aK,by unfold yg;simp only[xf.to,xf.cnt];lia⟩
   ·obtain⟨r,hr,hc⟩:=g4 c (by lia) c2;exact⟨r,aC _ hr,hc⟩
 | .take to st c::rs,i,j,b,b',h=>by
  obtain⟨st',c',h1,h2,h3,h4,h5,h6,h7,h8⟩:=h;obtain⟨g1,g2,g3,g4⟩:=h8.side;subst h1;subst h2;subst h3;refine⟨by lia,fun r hr=>?_,cK.mpr ⟨fun s hs=>?_,g3⟩,fun d c1 c2=>?_⟩
  ·rcases ao.mp hr with z|z
   ·rw[z];simp only[xf.to,xf.cnt];lia
   ·have:=g2 r z;lia
  ·have:=(g2 s hs).1;show(i:Int)+(((c':Int).toNat:Nat):Int)≤s.to;lia
  ·by_cases q:d<i+c'
   ·exact⟨_,aK,by unfold yg;simp only[xf.to,xf.cnt];lia⟩
   ·obtain⟨r,hr,hc⟩:=g4 d (by lia) c2;exact⟨r,aC _ hr,hc⟩
theorem xj0:∀xs ys:List Int,lcp xs ys≤xs.length
 |[],_=>by simp[lcp]
 |x::xs,[]=>by simp[lcp]
 |x::xs,y::ys=>by
  rw[vw]
  split
  ·have:=xj0 xs ys;simp only[bj];lia
  ·lia
theorem uC.tells{es ps:List Int}{a c:Nat}(h:uC es ps es.length a c)(h0:0<c):a+c≤es.length∧(es.drop a).take c=ps.take c:=by
 rcases h.2 with z|⟨_,g1,g2,_⟩
 ·lia
 ·have h1:=xj0 (es.drop a) ps;have h2:=xd4 (es.drop a) ps;rw[aO]at h1;exact⟨by lia,(xbj (by lia)).mpr (by lia)⟩
theorem xV.tells{es ns:List Int}{least:Int}(hb:Bnd ns)(hn:ns.length≤100):∀{rs:List xf} {i j:Nat} {b b':Bool},xV es ns least i b rs j b'→∀r∈rs,Tells es ns r∧xdU es.length ns.length r
 |[],i,j,b,b',h=>fun r hr=>by simp at hr
 | .put to sg::rs,i,j,b,b',h=>fun r hr=>by
  obtain⟨h1,h2,h3,h4,h5,h6,h7⟩:=h;rcases ao.mp hr with z|z
  ·subst z;subst h2;refine⟨⟨⟨by lia,h3,by lia,fun x hx=>?_⟩,bV,by simp only[xf.to,xf.cnt];lia,fun k hk=>?_⟩,by show(i:Int)+sg.length≤ns.length;lia⟩
   ·rw[h5]at hx;exact hb x (dw (d7 hx))
   ·have hk:k<sg.length:=hk;show ns[((i:Int)+(k:Int)).toNat]? =sg[k]?;have e:sg[k]? =((ns.drop i).take sg.length)[k]? :=by rw[←h5]
    rw[e,c5 hk,cb]
    congr 1
  ·exact h7.tells hb hn r z
 | .take to st c::rs,i,j,b,b',h=>fun r hr=>by
  obtain⟨st',c',h1,h2,h3,h4,h5,h6,h7,h8⟩:=h;rcases ao.mp hr with z|z
  ·subst z;subst h1;subst h2;subst h3;obtain⟨g1,g2⟩:=h7.tells h5;refine⟨⟨⟨by lia,by lia,by lia⟩,by show(st':Int)+(c':Int)≤es.length;lia,by simp only[xf.to,xf.cnt];lia,fun k hk=>?_⟩,by show(st':Int)+c'≤es.length∧(i:Int)+c'≤ns.length;lia⟩;have hk:k<c':=by simpa [xf.cnt]using hk
   show ns[((i:Int)+(k:Int)).toNat]? =((es.drop (st':Int).toNat).take (c':Int).toNat)[k]?;rw[bP,bP,g2,c5 hk,cb]
   congr 1
  ·exact h8.tells hb hn r z
theorem vg{α β:Type}{R:α→β→Prop}{p:α→Bool}{q:β→Bool}:∀{xs:List α} {ys:List β},Paired R xs ys→(∀x y,R x y→p x=q y)→Paired R (xs.filter p) (ys.filter q)
 |_,_,.nil,_=>.nil
 |x::xs,y::ys,.cons h r,e=>by
  have:=e x y h;cases hq:q y with
  |true=>rw[eR (by rw[this];exact hq),eR hq];exact .cons h (vg r e)
  |false=>rw[eQ (by rw[this,hq];decide),eQ (by rw[hq];decide)];exact vg r e
noncomputable def isT(K:ah)(a:Adr)(H:Hp)(o:Addr):Bool:=open Classical in decide (∃r,xy K a H o r∧r.isTake=true)
theorem xj1{K:ah}{a:Adr}{H:Hp}{o:Addr}{r:xf}(h:xy K a H o r):isT K a H o=r.isTake:=by
 cases r with
 |take to st c=>unfold isT;exact@decide_eq_true _ (iV _) ⟨_,h,rfl⟩
 |put to sg=>
  unfold isT;refine@decide_eq_false _ (iV _) ?_;rintro⟨r2,h2,e2⟩;cases r2 with
  |put _ _=>cases e2
  |take to2 st2 c2=>
   obtain⟨dx,u,h1,_⟩:=h;obtain⟨dx2,h3⟩:=h2;rw[h1]at h3;injection h3 with h3;injection h3 with _ _ h4;have h5:((["to","count","signs"]:List Str))=(["to","count","source"]:List Str):=congrArg (fun l=>l.map (·.1)) h4
   revert h5
   decide+kernel
def Off(r s:xf):Prop:=∀c∈r.cv,c∉s.cv
theorem xaq{r:xf}{c:Int}:c∈r.cv↔r.to≤c∧c<r.to+r.cnt:=by
 cases r with
 |take to st n=>exact yJ
 |put to sg=>exact yJ
theorem Off.sym{r s:xf}(h:Off r s):Off s r:=fun c h1 h2=>h c h2 h1
theorem xoV{A L:List xf}{x y z:xf}(e:∀c,c∈z.cv→c∈x.cv∨c∈y.cv)(h:(A++x::y::L).Pairwise Off):(A++z::L).Pairwise Off:=by
 obtain⟨h1,h2,h3⟩:=cO.mp h;obtain⟨h4,h5⟩:=cK.mp h2;obtain⟨h6,h7⟩:=cK.mp h5;refine cO.mpr ⟨h1,cK.mpr ⟨fun s hs c hc=>?_,h7⟩,fun r hr s hs=>?_⟩
 ·rcases e c hc with q|q
  ·exact h4 s (aC _ hs) c q
  ·exact h6 s hs c q
 ·rcases ao.mp hs with q|q
  ·subst q;intro c c1 c2;rcases e c c2 with q|q
   ·exact h3 r hr x aK c c1 q
   ·exact h3 r hr y (aC _ aK) c c1 q
  ·exact h3 r hr s (aC _ (aC _ q))
theorem xj2{X acc L:List xf}{r:xf}(h:∀x∈acc,yS x)(hr:yS r)(hp:(X++acc++r::L).Pairwise Off):(X++xC acc r++L).Pairwise Off∧(xC acc r).length≤acc.length+1:=by
 obtain⟨to,sg',rfl,v1,v2,v3⟩:=hr;rcases dP acc with z|⟨acc',last,z⟩
 ·subst z;rw[uD];exact⟨by simpa using hp,by simp⟩
 ·rw[dQ]at z;subst z;obtain⟨t,sg,rfl,u1,u2,u3⟩:=h last (by simp);rw[zp]
  split
  ·rename_i e;refine⟨?_,by simp⟩;have hp':((X++acc')++xf.put t sg::xf.put to sg'::L).Pairwise Off:=by simpa using hp
   have:=xoV (z:=.put t (sg++sg')) (fun c hc=>by
    rw[xaq]at hc⊢;rw[xaq];simp only[xf.to,xf.cnt,aq]at hc⊢;omega) hp'
   simpa using this
  ·exact⟨by simpa using hp,by simp⟩
theorem xpm{es nw:List Int}{X:List xf}:∀{L acc:List xf},(∀x∈acc,yS x)→(∀x∈L,yS x)→(∀x∈acc,Tells es nw x)→(∀x∈L,Tells es nw x)→(X++acc++L).Pairwise Off→
  (∀x∈L.foldl xC acc,yS x)∧(∀x∈L.foldl xC acc,Tells es nw x)∧(X++L.foldl xC acc).Pairwise Off∧(L.foldl xC acc).length≤acc.length+L.length∧∀j,((∃r∈acc,yg r j)∨∃r∈L,yg r j)→∃r∈L.foldl xC acc,yg r j
 |[],acc,h1,h2,h3,h4,h5=>⟨h1,h3,by simpa using h5,by simp,fun j h=>by
   rcases h with h|⟨r,hr,_⟩
   ·exact h
   ·simp at hr⟩
 |r::L,acc,h1,h2,h3,h4,h5=>by
  have hr:=h2 r aK;obtain⟨to,sg',rfl,v1,v2,v3⟩:=id hr;have ht:=h4 _ aK;obtain⟨o1,o2⟩:=xj2 h1 hr h5;obtain⟨g1,g2,g3,g4,g5⟩:=xpm (L:=L) (xb2 h1 hr) (fun x hx=>h2 x (aC _ hx)) (xht h1 hr h3 ht) (fun x hx=>h4 x (aC _ hx)) o1;refine⟨g1,g2,g3,?_,fun j hj=>g5 j ?_⟩
  ·rw[bj];rw[List.foldl_cons];lia
  ·rcases hj with q|⟨s,hs,hc⟩
   ·exact .inl ((xd6 h1 j).mpr (.inl q))
   ·rcases ao.mp hs with z|z
    ·subst z;exact .inl ((xd6 h1 j).mpr (.inr hc))
    ·exact .inr ⟨s,z,hc⟩
def uL(es:List Int)(r:xf):xf:=.put r.to (r.sg es)
theorem xd7{es nw:List Int}{r:xf}(h:Tells es nw r):(uL es r).cnt=r.cnt:=xf.sg_len h.1 h.2.1
theorem xoW{es nw:List Int}{r:xf}(h:Tells es nw r):(uL es r).cv=r.cv:=by
 have:=xd7 h;cases r with
 |take to st n=>unfold uL xf.cv;simp only[xf.to];congr 1
 |put to sg=>rfl
theorem zS{es nw:List Int}{r:xf}(h:Tells es nw r):0<r.cnt:=by
 cases r with
 |take to st n=>have:=h.1.2.2;show 0<n.toNat;lia
 |put to sg=>exact cF.mpr h.1.2.1
theorem xeX{es nw:List Int}{r:xf}(hb:Bnd nw)(hn:nw.length≤60)(h:Tells es nw r):Tells es nw (uL es r)∧yS (uL es r):=by
 have hc:=xd7 h;have hl:(r.sg es).length=r.cnt:=hc;have hp:=zS h;have h0:=h.1.to;obtain⟨h1,h2,h3,h4⟩:=h;have hne:r.sg es≠[]:=cF.mp (by lia);refine⟨⟨⟨h0,hne,by lia,fun x hx=>?_⟩,bV,?_,fun i hi=>?_⟩,r.to,r.sg es,rfl,hne,h0,by lia⟩
 ·obtain⟨i,hi,rfl⟩:=cy.mp hx;have:=h4 i (by lia);rw[ag hi]at this;exact hb _ (az this)
 ·show r.to+((uL es r).cnt:Int)≤nw.length;rw[hc];exact h3
 ·exact h4 i (by lia)
theorem xh3{es nw:List Int}{r:xf}(he:es.length≤60)(hn:nw.length≤60)(h:Tells es nw r):xdU es.length nw.length r∧Sm r:=by
 obtain⟨h1,h2,h3,h4⟩:=h;cases r with
 |take to st n=>
  obtain⟨k1,k2,k3⟩:=h1;have h2:st+n≤es.length:=h2;have h3:to+(n.toNat:Int)≤nw.length:=h3;exact⟨⟨h2,by lia⟩,by lia,by lia,by lia⟩
 |put to sg=>
  have h3:to+(sg.length:Int)≤nw.length:=h3;have:=h1.1;exact⟨h3,by lia,by lia⟩
theorem xgF(r:xf):rTo r=r.to:=by cases r<;> rfl
theorem range_getD{α:Type}(xs:List α)(d:α):(a9 xs.length).map (fun i=>xs.getD i d)=xs:=by
 apply List.ext_getElem
 ·simp
 ·intro i h1 h2;simp[bf,h2]
theorem xfB{es ns:List Int}{least:Int}:∀{rs:List xf} {i j:Nat} {b b':Bool},xV es ns least i b rs j b'→∀r∈rs,r.isTake=true→least≤r.cnt
 |[],i,j,b,b',h=>fun r hr=>by simp at hr
 | .put to sg::rs,i,j,b,b',h=>fun r hr ht=>by
  obtain⟨h1,h2,h3,h4,h5,h6,h7⟩:=h;rcases ao.mp hr with z|z
  ·subst z;cases ht
  ·exact xfB h7 r z ht
 | .take to st c::rs,i,j,b,b',h=>fun r hr ht=>by
  obtain⟨st',c',h1,h2,h3,h4,h5,h6,h7,h8⟩:=h;rcases ao.mp hr with z|z
  ·subst z;subst h3;show least≤(((c':Int).toNat:Nat):Int);lia
  ·exact xfB h8 r z ht
theorem xj3{r s:xf}(h:Off r s)(h1:r.to≤s.to)(h2:0<s.cnt):r.to+r.cnt≤s.to:=by
 rcases Int.lt_or_le s.to (r.to+r.cnt)with z|z
 ·exact absurd (xaq.mpr ⟨by lia,by lia⟩) (h s.to (xaq.mpr ⟨h1,z⟩))
 ·exact z
theorem xrB:∀(m:Nat) (D:List xf) (i n:Int),D.length=m→(∀r∈D,i≤r.to∧r.to+r.cnt≤n∧0<r.cnt)→D.Pairwise Off→(∀j,i≤j→j<n→∃r∈D,r.to≤j∧j<r.to+r.cnt)→(∀r∈D,∀s∈D,r.isTake=false→s.isTake=false→r.to+r.cnt≠s.to)→
  D.countP (fun r=> !r.isTake)≤D.countP xf.isTake+1∧((∀r∈D,r.isTake=false→r.to≠i)→D.countP (fun r=> !r.isTake)≤D.countP xf.isTake)
 |0,D,i,n,hm,_,_,_,_=>by
  rw[dA.mp hm];simp
 |m+1,D,i,n,hm,hb,hp,hc,ht=>by
  obtain⟨r0,h0⟩:∃r,r∈D:=List.exists_mem_of_length_pos (by lia);obtain⟨r,hr,hr1,hr2⟩:=hc i (gS _) (by have:=hb r0 h0;lia);have hri:r.to=i:=by have:=hb r hr;lia
  obtain⟨A,B,rfl⟩:=List.append_of_mem hr;have pm:(A++r::B).Perm (r::(A++B)):=List.perm_middle;have hp2:=(pm.pairwise_iff (fun h=>Off.sym h)).mp hp;obtain⟨hp3,hp4⟩:=cK.mp hp2;have sub:∀s∈A++B,s∈A++r::B:=fun s hs=>pm.mem_iff.mpr (aC _ hs);have hrc:=hb r hr;have bs:∀s∈A++B,i+r.cnt≤s.to∧s.to+s.cnt≤n∧0<s.cnt:=fun s hs=>by
   have h1:=hb s (sub s hs);have:=xj3 (hp3 s hs) (by lia) h1.2.2;exact⟨by lia,h1.2⟩
  obtain⟨g1,g2⟩:=xrB m (A++B) (i+r.cnt) n (by have:=pm.length_eq;rw[bj]at this;lia) bs hp4 (fun j j1 j2=>by
   obtain⟨s,hs,hs1,hs2⟩:=hc j (by lia) j2;rcases ao.mp (pm.mem_iff.mp hs)with z|z
   ·subst z;lia
   ·exact⟨s,z,hs1,hs2⟩) (fun x hx y hy=>ht x (sub x hx) y (sub y hy))
  rw[pm.countP_eq,pm.countP_eq,List.countP_cons,List.countP_cons];cases hk:r.isTake with
  |true=>simp only[Bool.not_true,cx,if_false,if_true];exact⟨by lia,fun _=>by lia⟩
  |false=>
   have h2:=g2 fun s hs hsp e=>ht r hr s (sub s hs) hk hsp (by lia);simp only[Bool.not_false,if_true,cx,if_false];exact⟨by lia,fun z=>absurd hri (z r hr hk)⟩
theorem xhu{acc:List xf}{r:xf}(h:∀x∈acc,yS x)(hr:yS r)(hp:acc.Pairwise fun r s=>r.to+(r.cnt:Int)<s.to)(he:∀x∈acc,x.to+(x.cnt:Int)≤r.to):(xC acc r).Pairwise (fun r s=>r.to+(r.cnt:Int)<s.to)∧∀x∈xC acc r,x.to+(x.cnt:Int)≤r.to+r.cnt:=by
 obtain⟨to,sg',rfl,v1,v2,v3⟩:=hr;rcases dP acc with z|⟨acc',last,z⟩
 ·subst z;rw[uD];exact⟨fZ _ _,fun x hx=>by rw[ax.mp hx];exact gS _⟩
 ·rw[dQ]at z;subst z;obtain⟨t,sg,rfl,u1,u2,u3⟩:=h last (by simp);obtain⟨p1,p2,p3⟩:=cO.mp hp;have hl:=he _ (aN _ (eS _));simp only[xf.to,xf.cnt]at hl;have hsg:=cF.mpr u1;rw[zp]
  split
  ·rename_i e;refine⟨cO.mpr ⟨p1,fZ _ _,fun x hx y hy=>?_⟩,fun x hx=>?_⟩
   ·rw[ax.mp hy];exact(p3 x hx (.put t sg) (eS _):_<t)
   ·rcases aM.mp hx with q|q
    ·have:=he x (bN _ q);simp only[xf.to,xf.cnt]at this⊢;lia
    ·rw[ax.mp q];simp only[xf.to,xf.cnt,aq];lia
  ·rename_i e;refine⟨cO.mpr ⟨hp,fZ _ _,fun x hx y hy=>?_⟩,fun x hx=>?_⟩
   ·rw[ax.mp hy];rcases aM.mp hx with q|q
    ·have:=p3 x q _ (eS _);simp only[xf.to,xf.cnt]at this⊢;lia
    ·rw[ax.mp q];simp only[xf.to,xf.cnt];lia
   ·rcases aM.mp hx with q|q
    ·have:=he x q;simp only[xf.to,xf.cnt]at this⊢;lia
    ·rw[ax.mp q];exact gS _
theorem xeY:∀{L acc:List xf},(∀x∈acc,yS x)→(∀x∈L,yS x)→(acc.Pairwise fun r s=>r.to+(r.cnt:Int)<s.to)→(∀x∈acc,∀r∈L,x.to+(x.cnt:Int)≤r.to)→(L.Pairwise fun r s=>r.to+(r.cnt:Int)≤s.to)→(L.foldl xC acc).Pairwise fun r s=>r.to+(r.cnt:Int)<s.to
 |[],acc,_,_,h3,_,_=>h3
 |r::L,acc,h1,h2,h3,h4,h5=>by
  have hr:=h2 r aK;obtain⟨h6,h7⟩:=cK.mp h5;obtain⟨g1,g2⟩:=xhu h1 hr h3 fun x hx=>h4 x hx r aK;refine xeY (L:=L) (acc:=xC acc r) (xb2 h1 hr) (fun x hx=>h2 x (aC _ hx)) g1 (fun x hx s hs=>?_) h7;have:=g2 x hx;have:=h6 s hs;lia
theorem xqs{L:List xf}(h:∀r∈L,r.isTake=false):(L.map xf.cst).sum=2*(L.length:Int)+((L.map xf.cnt).sum:Nat):=by
 induction L with
 |nil=>simp
 |cons r L ih=>
  have hr:=h r aK;rw[bg,bg,ie,ie,ih fun x hx=>h x (aC _ hx),bj];cases r with
  |take _ _ _=>cases hr
  |put to sg=>simp only[xf.cst,xf.cnt];lia
theorem xoX{L:List xf}{least:Int}(hl:6≤least)(h:∀r∈L,r.isTake=true∧least≤r.cnt):(L.map xf.cst).sum+2*(L.length:Int)≤((L.map xf.cnt).sum:Nat):=by
 induction L with
 |nil=>simp
 |cons r L ih=>
  obtain⟨h1,h2⟩:=h r aK;have:=ih fun x hx=>h x (aC _ hx);rw[bg,bg,ie,ie,bj];cases r with
  |put _ _=>cases h1
  |take to st c=>simp only[xf.cst,xf.cnt]at h2⊢;lia
theorem xrC(r:xf):r.cv.length=r.cnt:=by
 cases r with
 |take to st c=>exact xT _ _
 |put to sg=>exact xT _ _
theorem xgG{D:List xf}(h:D.Pairwise Off):(D.map xf.cv).flatten.Nodup:=by
 refine List.pairwise_flatten.mpr ⟨fun l hl=>?_,b8.mpr (h.imp (S:=fun r s=>∀x∈r.cv,∀y∈s.cv,x≠y) fun hrs x hx y hy e=>hrs x hx (e▸hy))⟩;obtain⟨r,_,rfl⟩:=aT.mp hl;exact xsf r
theorem xqt{D:List xf}{n:Nat}(h:D.Pairwise Off)(hb:∀r∈D,0≤r.to∧r.to+r.cnt≤n):(D.map xf.cnt).sum≤n:=by
 have h1:=xgG h;have h2:(D.map xf.cv).flatten.length≤((a9 n).map fun(i:Nat)=>(i:Int)).length:=jH h1 fun x hx=>by
  obtain⟨l,hl,hx⟩:=dE.mp hx;obtain⟨r,hr,rfl⟩:=aT.mp hl;have:=xaq.mp hx;have:=hb r hr;exact aT.mpr ⟨x.toNat,bp.mpr (by lia),by lia⟩
 rw[aa,cR,List.length_flatten,ck]at h2;rw[show(cC∘xf.cv)=xf.cnt from funext xrC]at h2;exact h2
structure Made(es nw:List Int)(least:Int)(ks all:List xf)(ord:List Int)(tur:List (Int×List Int)):Prop where
 ok:∀r∈all,yS r
 few:all.length<64
 nd:(all.map rTo).Nodup
 all:∀p:List Nat,p.Perm (a9 all.length)→((p.map fun i=>rTo (all.getD i dR)).Pairwise fun x y=>x<y)→∀D,D=(ord.map fun x=>ks.getD x.toNat dR)++(p.map fun i=>all.getD i dR).foldl xC []→D.length≤60∧(∀r∈D,xdU es.length nw.length r∧Sm r∧Tells es nw r)∧Dis D∧jf D=none∧(∀j,j<nw.length→∃r∈D,yg r j)∧D.Pairwise Off∧(6≤least→(D.map xf.cst).sum≤nw.length+2)
theorem xqu{es nw:List Int}{rs:List xf}{b:Bool}{least:Int}{key:Int→List Int}{ord:List Int}{tur:List (Int×List Int)}(he:es.length≤60)(hn:nw.length≤60)(hb:Bnd nw)(hri:xV es nw least 0 false rs nw.length b)
  (hg:Goes (yP (rs.filter xf.isTake)) key ((a9 (rs.filter xf.isTake).length).map fun(i:Nat)=>(i:Int)) ord tur):
  Made es nw least (rs.filter xf.isTake) ((rs.filter fun r=> !r.isTake)++tur.map fun kr=>uL es ((rs.filter xf.isTake).getD kr.1.toNat dR)) ord tur:=by
 obtain⟨_,_,s3,s4⟩:=hri.side;have hfew:=hri.few;have hlst:=xfB hri;have htl:∀r∈rs,Tells es nw r:=fun r hr=>(hri.tells hb (by lia) r hr).1;generalize hks:rs.filter xf.isTake=ks at*;generalize hps:(rs.filter fun r=> !r.isTake)=ps at*;have hperm:(ks++ps).Perm rs:=by rw[←hks,←hps];exact List.filter_append_perm _ _
 have hg2:=(hg.perm (b8.mpr (eI.imp fun h e=>h (by lia)))).map fun x=>ks.getD x.toNat dR;rw[ck,show((fun x:Int=>ks.getD x.toNat dR)∘fun(i:Nat)=>(i:Int))=fun i=>ks.getD i dR from funext fun i=>by simp,range_getD,aG,ck]at hg2
 -- all rows,the turned ones as takes
 have hL:((ord.map fun x=>ks.getD x.toNat dR)++(ps++tur.map fun kr=>ks.getD kr.1.toNat dR)).Perm rs:=by
  refine((List.Perm.append_left _ List.perm_append_comm).trans ?_).trans hperm;rw[←c8];exact hg2.append_right _
 have hmem:∀r,r∈rs↔r∈(ord.map fun x=>ks.getD x.toNat dR)++(ps++tur.map fun kr=>ks.getD kr.1.toNat dR):=fun r=>hL.mem_iff.symm;have hkt:∀r∈ord.map fun x=>ks.getD x.toNat dR,r.isTake=true:=fun r hr=>by
  have:=hg2.mem_iff.mp (bN _ hr);rw[←hks]at this;exact(aS.mp this).2
 have htur:∀kr∈tur,Tells es nw (ks.getD kr.1.toNat dR):=fun kr hk=>htl _ ((hmem _).mpr (aN _ (aN _ (aT.mpr ⟨kr,hk,rfl⟩))));have hoff:((ord.map fun x=>ks.getD x.toNat dR)++(ps++tur.map fun kr=>ks.getD kr.1.toNat dR)).Pairwise Off:=by
  refine(hL.pairwise_iff (fun h=>Off.sym h)).mpr (s3.imp fun{r s} h c c1 c2=>?_);have:=xaq.mp c1;have:=xaq.mp c2;lia
 have hcv:∀xs:List (Int×List Int),(∀kr∈xs,Tells es nw (ks.getD kr.1.toNat dR))→(xs.map fun kr=>uL es (ks.getD kr.1.toNat dR)).map xf.cv=(xs.map fun kr=>ks.getD kr.1.toNat dR).map xf.cv:=fun xs h=>by
  rw[ck,ck];exact List.map_congr_left fun kr hk=>xoW (h kr hk)
 have hoff2:((ord.map fun x=>ks.getD x.toNat dR)++(ps++tur.map fun kr=>uL es (ks.getD kr.1.toNat dR))).Pairwise Off:=by
  have key:∀xs:List xf,xs.Pairwise Off↔(xs.map xf.cv).Pairwise fun x y=>∀c∈x,c∉y:=fun xs=>by rw[b8];rfl
  rw[key]at hoff⊢;rw[aG,aG,hcv tur htur,←aG,←aG];exact hoff
 have hput:∀r∈ps++tur.map fun kr=>uL es (ks.getD kr.1.toNat dR),Tells es nw r∧yS r:=fun r hr=>by
  rcases aM.mp hr with q|q
  ·have ht:=htl r ((hmem r).mpr (aN _ (bN _ q)));have:r.isTake=false:=by
    rw[←hps]at q;simpa using(aS.mp q).2
   cases r with
   |take _ _ _=>cases this
   |put to sg=>exact⟨ht,(xeX hb hn ht).2⟩
  ·obtain⟨kr,hk,rfl⟩:=aT.mp q;exact xeX hb hn (htur kr hk)
 have hlen:=hL.length_eq;simp only[aq,aa]at hlen;generalize hall:(ps++tur.map fun kr=>uL es (ks.getD kr.1.toNat dR))=all at*;have hal:all.length=ps.length+tur.length:=by rw[←hall];simp
 refine⟨fun r hr=>(hput r hr).2,by lia,?_,fun p hp hso D hD=>?_⟩
 ·refine b8.mpr ((cO.mp hoff2).2.1.imp_of_mem fun{r s} hr hs h e=>?_);rw[xgF,xgF]at e;have p1:=zS (hput r hr).1;have p2:=zS (hput s hs).1;exact h r.to (xaq.mpr ⟨by lia,by lia⟩) (xaq.mpr ⟨by lia,by lia⟩)
 ·have hpa:(p.map fun i=>all.getD i dR).Perm all:=by
   have:=hp.map fun i=>all.getD i dR
   rwa [range_getD]at this
  have ho3:((ord.map fun(x:Int)=>ks.getD x.toNat dR)++[]++p.map fun i=>all.getD i dR).Pairwise Off:=by
   rw[dO];exact((hpa.append_left _).pairwise_iff (fun h=>Off.sym h)).mpr hoff2
  obtain⟨g1,g2,g3,g4,g5⟩:=xpm (es:=es) (nw:=nw) (fun x hx=>by simp at hx) (fun x hx=>(hput x (hpa.mem_iff.mp hx)).2) (fun x hx=>by simp at hx) (fun x hx=>(hput x (hpa.mem_iff.mp hx)).1) ho3;have gl:((p.map fun i=>all.getD i dR).foldl xC []).length≤all.length:=by
   refine a7 g4 ?_;rw[hpa.length_eq];simp
  have hDt:∀r∈D,Tells es nw r:=fun r hr=>by
   rw[hD]at hr;rcases aM.mp hr with q|q
   ·exact htl r ((hmem r).mpr (bN _ q))
   ·exact g2 r q
  have hcovD:∀j,j<nw.length→∃r∈D,yg r j:=fun j hj=>by
   obtain⟨r,hr,hc⟩:=s4 j (by lia) hj;rcases aM.mp ((hmem r).mp hr)with q|q
   ·exact⟨r,by rw[hD];exact bN _ q,hc⟩
   ·have hin:∃s∈all,yg s j:=by
     rw[←hall];rcases aM.mp q with q|q
     ·exact⟨r,bN _ q,hc⟩
     ·obtain⟨kr,hk,rfl⟩:=aT.mp q;refine⟨_,aN _ (aT.mpr ⟨kr,hk,rfl⟩),?_⟩;have e:=xd7 (htur kr hk);unfold yg at hc⊢;rw[e];exact hc
    obtain⟨s,hs,hsc⟩:=hin;obtain⟨u,hu,huc⟩:=g5 j (.inr ⟨s,hpa.mem_iff.mpr hs,hsc⟩);exact⟨u,by rw[hD];exact aN _ hu,huc⟩
  refine⟨?_,fun r hr=>⟨(xh3 he hn (hDt r hr)).1,(xh3 he hn (hDt r hr)).2,hDt r hr⟩,?_,?_,hcovD,(hD▸g3:D.Pairwise Off),fun h6=>?_⟩
  ·rw[hD,aq,aa];lia
  ·rw[←hD]at g3;intro i j r s hi hj c c1 c2;obtain⟨hi',rfl⟩:=au.mp hi;obtain⟨hj',rfl⟩:=au.mp hj;have pw:=bL.mp g3;rcases ik i j with z|z|z
   ·exact absurd c2 (pw i j hi' hj' z c c1)
   ·exact z
   ·exact absurd c1 (pw j i hj' hi' z c c2)
  ·rw[hD];refine xnS hg fun r hr=>?_;obtain⟨to,sg,rfl,_⟩:=g1 r hr;rfl
  ·have hJp:∀r∈(p.map fun i=>all.getD i dR).foldl xC [],r.isTake=false:=fun r hr=>by
    obtain⟨to,sg,rfl,_⟩:=g1 r hr;rfl
   have hok:∀r∈ord.map fun x=>ks.getD x.toNat dR,r.isTake=true∧least≤r.cnt:=fun r hr=>by
    have h1:=hkt r hr;exact⟨h1,hlst r ((hmem r).mpr (bN _ hr)) h1⟩
   have hL:(p.map fun i=>all.getD i dR).Pairwise fun r s=>r.to+(r.cnt:Int)≤s.to:=by
    have o4:=(cO.mp ho3).2.1;have s5:(p.map fun i=>all.getD i dR).Pairwise fun r s=>r.to<s.to:=by
     refine b8.mpr ((b8.mp hso).imp fun{x y} h=>?_);rw[xgF,xgF]at h;exact h
    refine(o4.and s5).imp_of_mem fun{r s} hr hs h=>?_;exact xj3 h.1 (Int.le_of_lt h.2) (zS (hput s (hpa.mem_iff.mp hs)).1)
   have hap:=xeY (acc:=[]) (fun x hx=>by simp at hx) (fun x hx=>(hput x (hpa.mem_iff.mp hx)).2) .nil (fun x hx=>by simp at hx) hL;have hg:=xrB D.length D 0 nw.length rfl (fun r hr=>by
    have h1:=hDt r hr;exact⟨h1.1.to,h1.2.2.1,zS h1⟩) (hD▸g3) (fun j j0 j1=>by
     obtain⟨r,hr,c1,c2⟩:=hcovD j.toNat (by lia);exact⟨r,hr,by lia,by lia⟩) (fun r hr s hs hrp hsp e=>by
     have inJ:∀x∈D,x.isTake=false→x∈(p.map fun i=>all.getD i dR).foldl xC []:=fun x hx hxp=>by
      rw[hD]at hx;rcases aM.mp hx with q|q
      ·rw[(hok x q).1]at hxp;cases hxp
      ·exact q
     obtain⟨i,hi,rfl⟩:=cy.mp (inJ r hr hrp);obtain⟨j,hj,rfl⟩:=cy.mp (inJ s hs hsp);have pw:=bL.mp hap;have c1:=zS (hDt _ hr);have c2:=zS (hDt _ hs);rcases ik i j with z|z|z
     ·have:=pw i j hi hj z;lia
     ·subst z;lia
     ·have:=pw j i hj hi z;lia)
   have hcs:=xqt (n:=nw.length) (hD▸g3:D.Pairwise Off) fun r hr=>⟨(hDt r hr).1.to,(hDt r hr).2.2.1⟩;have e1:D.countP (fun r=> !r.isTake)=((p.map fun i=>all.getD i dR).foldl xC []).length:=by
    rw[hD,ll,kO.mpr (fun r hr=>by rw[(hok r hr).1];simp),Nat.zero_add];exact kc.mpr fun r hr=>by rw[hJp r hr];rfl
   have e2:D.countP xf.isTake=(ord.map fun x=>ks.getD x.toNat dR).length:=by
    rw[hD,ll,kO (l:=(p.map fun i=>all.getD i dR).foldl xC []) |>.mpr (fun r hr=>by rw[hJp r hr];simp),lh];exact kc.mpr fun r hr=>(hok r hr).1
   have c1:=xqs hJp;have c2:=xoX h6 hok;have hg1:=hg.1;rw[e1,e2]at hg1;rw[hD,aG,List.sum_append]at hcs;rw[hD,aG,List.sum_append];lia
section
variable {P:aI} {w:World} {K:ah} {mg:Str→Option Value} {base:Heap} {a:Adr}
def xep(K:ah):Sp:=fun vs H Q _=>∃(e n:Addr) (es nw:List Int) (least:Int),vs=[.ref e,.ref n,.int least]∧1≤least∧H zy=some (.tbl uI)∧H yA=some (.tbl zz)∧H uz=some (.tbl jI)∧H e=some (.lst (es.map V.int))∧H n=some (.lst (nw.map V.int))∧es.length≤60∧nw.length≤60∧Bnd nw∧
 ∀(t p tt tr:Addr) (us:List Addr) (rs:List xf) (H':Hp),xb H H'→H' t=some (.tup [.ref p,.ref tr])→H' p=some (.tup [.int es.length,.int nw.length,.ref tt])→H' tt=some (.tup (us.map V.ref))→Paired (GT K H') us rs→us.length≤60→(∀r∈rs,xdU es.length nw.length r)→Dis rs→jf rs=none→(∀r∈rs,Tells es nw r)→(∀j,j<nw.length→∃r∈rs,yg r j)→rs.Pairwise Off→(6≤least→(rs.map xf.cst).sum≤nw.length+2)→Q (.ref t) H'
theorem xbl(T:Txt K mg a):xv P w K mg base CX0 1 a.q1y a.xbQ ["self"] (xjs a):=by
 refine T.q2y.ok xdK (fun vs H Q E h=>?_) (fun cdv A outer s H vs Q E hr h=>?_)
 ·obtain⟨o,dx,to,st,c,rfl,_⟩:=h;rfl
 ·obtain⟨o,dx,to,st,c,rfl,h1,k⟩:=h;have nd:=xdK.nd;refine⟨_,(xi (xq (yX (xa xdb (xa (xx (cv 0) rfl) (xa (xx (cv 0) rfl) (xa (xx (cv 0) rfl) xc))))))),?_⟩;walk_at"w";refine⟨o,_,dx,_,.int to,rfl,h1,T.q0b,T.q0i,rfl,?_⟩;walk_at"w";refine⟨o,_,dx,_,.int st,rfl,h1,T.q0b,T.q0e,rfl,?_⟩;walk_at"w";refine⟨o,_,dx,_,.int c,rfl,h1,T.q0b,T.q0f,rfl,?_⟩;walk_at"w";exact⟨by walk_at"side",k⟩
theorem xkI(T:Txt K mg a):xv P w K mg base CX0 1 a.q1T a.xcI ["self"] (xjt a):=by
 refine T.q2S.ok xeN (fun vs H Q E h=>?_) (fun cdv A outer s H vs Q E hr h=>?_)
 ·obtain⟨o,dx,u,to,n,rfl,_⟩:=h;rfl
 ·obtain⟨o,dx,u,to,n,rfl,h1,k⟩:=h;have nd:=xeN.nd;refine⟨_,(xi (xq (yX (xa xdb (xa (xx (cv 0) rfl) (xa (xx (cv 0) rfl) xc)))))),?_⟩;walk_at"w";refine⟨o,_,dx,_,.int to,rfl,h1,T.q0g,T.q0x,rfl,?_⟩;walk_at"w";refine⟨o,_,dx,_,.ref u,rfl,h1,T.q0g,T.q0I,rfl,?_⟩;walk_at"w";exact⟨by walk_at"side",k⟩
theorem xoY{H:Hp}{o:Addr}{r:xf}{Q:VK}{σ:L2.St}{i:Nat}(ho:xy K a H o r)
  (k:∀t H',xb H H'→TupAt K H' t r→Q (.ref t) H') (hσ:σ[i]? =some (some (.ref o)):=by rfl):
  yo a.q0c "told" (xjt a) [] E0 (yE i) ug σ H Q∨yo a.q0a "told" (xjs a) [] E0 (yE i) ug σ H Q:=by
 cases r with
 |put to sg=>
  obtain⟨dx,u,h1,h2⟩:=ho
  left
  unfold yo yE;rw[hσ];exact⟨o,dx,_,rfl,h1,rfl,o,dx,u,to,_,rfl,h1,fun t ht=>k t _ (xb.new ht) ⟨u,xk,(xb.new ht).at h2⟩⟩
 |take to st c=>
  obtain⟨dx,h1⟩:=ho
  right
  unfold yo yE;rw[hσ];exact⟨o,dx,_,rfl,h1,rfl,o,dx,to,st,c,rfl,h1,fun t ht=>k t _ (xb.new ht) xk⟩
theorem xgH{α β:Type}{R S:α→β→Prop}:∀{xs:List α} {ys:List β},(∀x,∀y∈ys,R x y→S x y)→Paired R xs ys→Paired S xs ys
 |_,_,_,.nil=>.nil
 |_,_,h,.cons x r=>.cons (h _ _ aK x) (xgH (fun x y hy=>h x y (aC _ hy)) r)
theorem xgI{α β γ:Type}{R:α→β→Prop}{f:γ→α}{g:γ→β}:∀{xs:List γ},(∀x∈xs,R (f x) (g x))→Paired R (xs.map f) (xs.map g)
 |[],_=>.nil
 |x::xs,h=>.cons (h x aK) (xgI fun y hy=>h y (aC _ hy))
theorem xmv{xss:List (List Int)}{key:Int→List Int}{left ord:List Int}{tur:List (Int×List Int)}(h:Goes xss key left ord tur):(∀x∈left,0≤x∧x<xss.length∧x∉xss.getD x.toNat [])→∀kr∈tur,(∀x∈kr.2,x∈left)∧kr.2.length≤left.length:=by
 induction h with
 |nil=>exact fun _ kr hk=>by simp at hk
 |keep k hk _ _ ih=>
  refine fun hl kr hkr=>?_;obtain⟨h1,h2⟩:=ih (fun x hx=>hl x (aS.mp hx).1) kr hkr;exact⟨fun x hx=>(aS.mp (h1 x hx)).1,a7 h2 (cm _ _)⟩
 |turn k hh hr _ hk _ ih=>
  refine fun hl kr hkr=>?_;rcases ao.mp hkr with z|z
  ·subst z;obtain⟨_,g2,g3,_⟩:=xh1 (fun x hx=>⟨(hl x hx).1,(hl x hx).2.1,hh x hx⟩) (fun x hx=>(hl x hx).2.2) hr;exact⟨g3,jH g2 g3⟩
  ·obtain⟨h1,h2⟩:=ih (fun x hx=>hl x (aS.mp hx).1) kr z;exact⟨fun x hx=>(aS.mp (h1 x hx)).1,a7 h2 (cm _ _)⟩
theorem xeZ{α β:Type}{R:α→β→Prop}{d:α}{d':β}:∀{xs:List α} {ys:List β} {i:Nat},Paired R xs ys→i<ys.length→R (xs.getD i d) (ys.getD i d')
 |_,_,0,.cons h _,_=>h
 |_,_,i+1,.cons _ r,hi=>xeZ (i:=i) r (Nat.lt_of_succ_lt_succ hi)
theorem xeq(T:Txt K mg a):xv P w K mg base CX0 6 a.q26 a.xdz ["elder","newer","least"] (xep K):=by
 refine T.xa5.ok xk1 (fun vs H Q E h=>?_) (fun cdv A outer s H vs Q E hr h=>?_)
 ·obtain⟨e,n,es,nw,least,rfl,_⟩:=h;rfl
 ·obtain⟨e,n,es,nw,least,rfl,hls,hP1,hP2,hP3,he,hn,hel,hnl,hbn,k⟩:=h;have nd:=xk1.nd;refine⟨_,(xg (xt (i:=3) nd rfl (aD rfl) (xr (xit T) (hr.mono (by decide)) (by rfl) T.xjd T.q1K.kp T.xjc .nil xo (xa (cv 0) (xa (cv 1) (xa (cv 2) xc)))))
  (xg (xt (i:=4) nd rfl (aD rfl) (xr (xgy T) (hr.mono (by decide)) (by rfl) T.xhc T.zR.kp T.xhb .nil xo (xa (yk (yt (cap:=[]) (ys:=[]) rfl rfl rfl rfl rfl trivial (by decide+kernel)) rfl (xR (cv 3)) (fun _ _ _ _=>(cv 0)) (fun _ _ _ _=>(xas (yz (xu (xrh (K:=K) rfl) (by rfl) T.q0q ye (xa (cv 0) (xa (ud (v:=.ref a.q0a) (by rfl) T.xa8 rfl) xc))))))) xc)))
  (xg (xt (i:=5) nd rfl (aD rfl) (xB xE (cv 4) xh (fun _ _=>rfl)))
  (xg (xt (i:=6) nd rfl (aD rfl) (xB xE (cv 4) xh (fun _ _=>rfl)))
  (xg (xfQ (i:=7) (yt (cap:=[]) (ys:=[]) rfl rfl rfl rfl rfl trivial (by decide+kernel)) rfl nd rfl rfl (xR (cv 3)) (fun _ _ _ _=>(cv 0)) (fun _ _ _ _=>(xas (yz (xu (xrh (K:=K) rfl) (by rfl) T.q0q ye (xa (cv 0) (xa (ud (v:=.ref a.q0c) (by rfl) T.xf7 rfl) xc)))))))
  (xg (xN (zt PySem.F.plainAttrs_list PySem.F.slot_list_extend PySem.F.type_list_extend xdf (cv 7) (xa (xfa (xgX (cap:=[0]) (ys:=["elder"]) rfl rfl rfl rfl rfl rfl ⟨⟨rfl,rfl,.inl rfl⟩,trivial⟩ (by decide+kernel)) rfl (xR (cv 6)) (fun _ _ _ _=>(xr (xmu T) (hr.mono (by decide)) (by rfl) T.xnt T.q2J.kp T.xns .nil xo (xa (cv 0) (xa (cv 2) xc)))) (fun _ _ _ _=>yp)) xc)))
  (xg (xt (i:=8) nd rfl (aD rfl) (xn jF (cv 5) (xr (xnR T) (hr.mono (by decide)) (by rfl) T.xox T.xa6.kp T.xow .nil xo (xa (cv 7) xc))))
  (xg (xt (i:=9) nd rfl (aD rfl) (yX (xa (xu xw (by rfl) T.q0k xP (xa (cv 0) xc)) (xa (xu xw (by rfl) T.q0k xP (xa (cv 1) xc)) (xa (yb jS (by rfl) T.q25 jm (xa (yk (yt (cap:=[]) (ys:=[]) rfl rfl rfl rfl rfl trivial (by decide+kernel)) rfl (xR (cv 8)) (fun _ _ _ _=>(uq (xD (cv 0) T.q0g T.q3F (xkI T) (hr.mono (by decide)) T.xl1 .nil xo) (xD (cv 0) T.q0b T.q2O (xbl T) (hr.mono (by decide)) T.xbY .nil xo))) (fun _ _ _ _=>yp)) xc)) xc)))))
  (xi (xq (yX (xa (cv 9) (xa (xfa (xgX (cap:=[]) (ys:=[]) rfl rfl rfl rfl rfl rfl trivial (by decide+kernel)) rfl (xR (cv 6)) (fun _ _ _ _=>(yX (xa (xD (cv 0) T.q0b T.q2O (xbl T) (hr.mono (by decide)) T.xbY .nil xo) (xa (yk (yt (cap:=[]) (ys:=[]) rfl rfl rfl rfl rfl trivial (by decide+kernel)) rfl (xot (K:=K) rfl (cv 1)) (fun _ _ _ _=>(xD (cv 0) T.q0b T.q2O (xbl T) (hr.mono (by decide)) T.xbY .nil xo)) (fun _ _ _ _=>yp)) xc)))) (fun _ _ _ _=>yp)) xc))))))))))))),?_⟩
  walk_at"w";refine⟨e,n,es,nw,least,rfl,hP1,he,hn,by lia,by lia,hls,fun l os rs b H1 s1 hl el hpo hri=>?_⟩;have hpo:Paired (xy K a H1) os rs:=hpo;have elen:os.length=rs.length:=hpo.length;have hfw:=hri.few;have hsz:(os.map V.ref).length<aL:=by rw[aa,av];lia
  have row:∀{v:V} {G:Hp},v∈os.map V.ref→xb H1 G→∃o r,v= .ref o∧xy K a G o r∧isT K a H1 o=r.isTake:=fun{v G} hv sG=>by
   obtain⟨o,ho,rfl⟩:=aT.mp hv;obtain⟨r,_,hT⟩:=Paired.mem hpo ho;exact⟨o,r,rfl,hT.same sG,xj1 hT⟩
  walk_at"w";refine⟨l,rfl,⟨_,SqL.of el⟩,?_⟩;refine vK (fun v=>match v with| .ref o=>isT K a H1 o|_=>false) id (SqL.of el) hsz (fun v G2 hv s2 R hR=>?_) (fun v G2 hv _ s2 R hR=>?_) (fun D1 H2 hD1 s2 eD1=>?_)
  ·obtain⟨o,r,rfl,ho,ht⟩:=row hv s2;have:=hR G2 (xb.refl _);dsimp only at this;rw[ht]at this;cases r with
   |take to st c=>
    obtain⟨dx,ho⟩:=ho;walk_at"w";exact⟨_,_,_,_,true,rfl,rfl,T.xaw ho,T.q1M,this⟩
   |put to sg=>
    obtain⟨dx,u,ho,_⟩:=ho;walk_at"w";exact⟨_,_,_,_,false,rfl,rfl,T.xf8 ho,T.q2V,this⟩
  ·exact hR _ (xb.refl _)
  have eD1:H2 D1=some (.lst ((os.filter fun o=>isT K a H1 o).map V.ref)):=by rw[eD1,lB,gF];rfl
  have hpt:=vg (p:=fun o=>isT K a H1 o) (q:=xf.isTake) hpo fun x y z=>xj1 z;have hpp:=vg (p:=fun o=> !isT K a H1 o) (q:=fun r=> !r.isTake) hpo fun x y z=>by rw[xj1 z]
  generalize htk:(os.filter fun o=>isT K a H1 o)=tk at eD1 hpt;have hkl:(rs.filter xf.isTake).length≤rs.length:=cm _ _;have hpl:(rs.filter fun r=> !r.isTake).length≤rs.length:=cm _ _;walk_at"w";refine⟨D1,tk,rs.filter xf.isTake,rfl,SqL.of eD1,L2.Paired.imp' (fun _ _ z=>z.same s2) hpt,fun r hr=>(aS.mp hr).2,by lia,(s1.trans s2).at hP2,fun p o t ord tur trs H3 s3 hp ho ht hot ep eo et hpt2 hg=>?_⟩;have M:=xqu hel hnl hbn hri hg;have hks:∀r∈rs.filter xf.isTake,r.isTake=true∧Tells es nw r:=fun r hr=>⟨(aS.mp hr).2,(hri.tells hbn (by lia) r (aS.mp hr).1).1⟩;generalize rs.filter xf.isTake=ks at*;generalize hall:((rs.filter fun r=> !r.isTake)++tur.map fun kr=>uL es (ks.getD kr.1.toNat dR))=all at*;have tkAt:∀x∈(a9 ks.length).map fun(i:Nat)=>(i:Int),∃to st c,ks.getD x.toNat dR= .take to st c∧xy K a H1 (tk.getD x.toNat 0) (.take to st c)∧Tells es nw (.take to st c):=fun x hx=>by
   obtain⟨i,hi,rfl⟩:=aT.mp hx;have hi:=bp.mp hi;have h1:=xeZ (d:=0) (d':=dR) hpt hi;have h2:=hks (ks.getD i dR) (by simp[bf,hi]);rw[bP];cases hr:ks.getD i dR with
   |put _ _=>rw[hr]at h2;cases h2.1
   |take to st c=>rw[hr]at h1 h2;exact⟨to,st,c,rfl,h1,h2.2⟩
  walk_at"w";refine⟨p,_,_,.ref o,rfl,rfl,SqT.of ep,rfl,?_⟩;walk_at"w";refine⟨p,_,_,.ref t,rfl,rfl,SqT.of ep,rfl,?_⟩;walk_at"w";refine⟨l,rfl,⟨_,SqL.of ((s2.trans s3).at el)⟩,?_⟩;refine vK (fun v=>match v with| .ref o=> !isT K a H1 o|_=>false) id (SqL.of ((s2.trans s3).at el)) hsz (fun v G2 hv s4 R hR=>?_) (fun v G2 hv _ s4 R hR=>?_) (fun D2 H4 hD2 s4 eD2=>?_)
  ·obtain⟨o,r,rfl,ho,ht⟩:=row hv ((s2.trans s3).trans s4);have:=hR G2 (xb.refl _);dsimp only at this;rw[ht]at this;cases r with
   |take to st c=>
    obtain⟨dx,ho⟩:=ho;walk_at"w";exact⟨_,_,_,_,false,rfl,rfl,T.xaw ho,T.q3D,this⟩
   |put to sg=>
    obtain⟨dx,u,ho,_⟩:=ho;walk_at"w";exact⟨_,_,_,_,true,rfl,rfl,T.xf8 ho,T.q3J,this⟩
  ·exact hR _ (xb.refl _)
  have eD2:H4 D2=some (.lst ((os.filter fun o=> !isT K a H1 o).map V.ref)):=by
   rw[eD2,lB,gF];rfl
  generalize hpu:(os.filter fun o=> !isT K a H1 o)=pu at eD2 hpp;have s14:xb H1 H4:=s2.trans (s3.trans s4);have hturl:=hpt2.length;have hlen:tur.length≤60:=by
   have:=M.few;have h1:=hg.perm (b8.mpr (eI.imp fun h e=>h (by lia)));have h2:=h1.length_eq;simp only[aq,aa,cR]at h2;lia
  walk_at"w";refine⟨.inl ⟨rfl,_,SqL.of eD2⟩,?_⟩;walk_at"w";refine⟨t,rfl,⟨_,SqL.of (s4.at et)⟩,?_⟩;refine xeG (fun i acc G=>∃us:List Addr,acc=us.map V.ref∧Paired (xy K a G) us ((tur.take i).map fun kr=>uL es (ks.getD kr.1.toNat dR))) (SqL.of (s4.at et)) (by rw[aa,av];lia) ⟨[],rfl,.nil⟩ (fun i x acc G3 G3' hx g3 g3' hPv=>?_) (fun B acc H5 H5' hB hB5 s5 s5' hPv hacc eB=>?_)
  ·obtain⟨us,rfl,hus⟩:=hPv;rw[ak]at hx;cases hc0:trs[i]? with
   |none=>rw[hc0]at hx;cases hx
   |some y=>
   rw[hc0]at hx;cases hx;obtain⟨kr,hkr,rl,n1,n2,x1,x2⟩:=xS hpt2 hc0;obtain⟨to,st,c,ek,hob,htl⟩:=tkAt kr.1 (hg.sub.2 kr (az hkr));refine⟨y,_,_,rfl,SqT.of ((s4.trans (g3.trans g3')).at x1),fun R hR=>?_⟩;walk_at"w";have hs4:st+c≤es.length:=htl.2.1;have hs5:=htl.1;refine⟨_,e,to,st,c,es,rfl,hob.same (s14.trans (g3.trans g3')),(s1.trans (s14.trans (g3.trans g3'))).at he,hs5.2.1,by have:=hs5.2.2;lia,hs4,fun q G5 g5 hq hoq=>hR _ _ g5 fun G7 s7 k7=>⟨us++[q],by simp,?_⟩⟩;rw[bw,hkr,Option.toList_some,aG,List.map_singleton,ek];exact yv (L2.Paired.imp' (fun _ _ z=>z.same s7) hus) (hoq.mv k7)
  obtain⟨us,rfl,hus⟩:=hPv;rw[aa,hturl,bO]at hus;have gB:xb H4 H5':=s5.trans s5';have hul:=hus.length;rw[aa]at hul;walk_at"w";refine⟨D2,B,_,_,rfl,rfl,gB.at eD2,eB,by rw[aa,aa,av,hpp.length];lia,?_⟩;generalize hU:upd H5' D2 _=H6;have eD6:H6 D2=some (.lst ((pu++us).map V.ref)):=by rw[←hU,xk,aG]
  have hus6:=L2.Paired.imp' (fun _ _ z=>show xy K a H6 _ _ by rw[←hU];exact(z.same s5').offw (gB.at eD2)) hus;have s36:xb H3 H6:=xb.wr (s4.trans gB) hD2 hU;clear hU;have s16:xb H1 H6:=s2.trans (s3.trans s36);have hpa:=uK (L2.Paired.imp' (fun _ _ z=>z.same s16) hpp) hus6;rw[hall]at hpa;walk_at"w";refine⟨D2,pu++us,all,rfl,SqL.of eD6,hpa,M.ok,M.few,M.nd,(s1.trans s16).at hP3,fun l' os' pm H7 s7 hl' el' hpm hso hpj=>?_⟩;obtain⟨m1,m2,m3,m4,m5,m6,m7⟩:=M.all pm hpm hso _ rfl;have s37:=s36.trans s7;have s17:=s16.trans s7;have hdo:Paired (xy K a H7) ((ord.map fun x=>tk.getD x.toNat 0)++os') ((ord.map fun x=>ks.getD x.toNat dR)++(pm.map fun i=>all.getD i dR).foldl xC []):=uK (xgI fun x hx=>by
   obtain⟨to,st,c,ek,hob,_⟩:=tkAt x (hg.sub.1 x hx);rw[ek];exact hob.same s17) hpj
  have eo7:H7 o=some (.lst ((ord.map fun x=>tk.getD x.toNat 0).map V.ref)):=by rw[ck];exact s37.at eo
  generalize ord.map (fun x=>tk.getD x.toNat 0)=oo at*;generalize (ord.map fun x=>ks.getD x.toNat dR)++(pm.map fun i=>all.getD i dR).foldl xC []=D at*;have hdl:=hdo.length;walk_at"w";refine⟨o,l',_,_,rfl,rfl,eo7,el',by rw[←aq,←aG,aa,av];lia,fun dn hdn=>?_⟩;rw[←aG];generalize oo++os'=dos at*;generalize hV:upd H7 dn _=H8;have s8:=xb.of_eq hdn hV;have ed:=xm hV;clear hV;have s08:xb H H8:=s1.trans (s17.trans s8);walk_at"w";refine⟨e,_,rfl,.inl (SqL.of (s08.at he)),?_⟩;walk_at"w";refine⟨n,_,rfl,.inl (SqL.of (s08.at hn)),?_⟩;rw[aa,aa];walk_at"w";refine⟨dn,rfl,⟨_,SqL.of ed⟩,?_⟩;refine vJ (fun i acc G=>∃ts:List Addr,acc=ts.map V.ref∧Paired (TupAt K G) ts (D.take i)) (SqL.of ed) (by rw[aa,av];lia) ⟨[],rfl,.nil⟩ (fun i x acc G3 G3' hx g3 g3' hPv R hR=>?_) (fun D3 acc H9 H9' hD3 hD9 s9 s9' hPv hacc e3=>?_)
  ·obtain⟨ts,rfl,hts⟩:=hPv;rw[ak]at hx;cases hc0:dos[i]? with
   |none=>rw[hc0]at hx;cases hx
   |some y=>
   rw[hc0]at hx;cases hx;obtain⟨r,hr',ho⟩:=xS hdo hc0;walk_at"w";refine xoY (xy.same ho (s8.trans (g3.trans g3'))) fun t H4 s4 ht4=>hR _ _ s4 fun G7 s7 k7=>⟨ts++[t],by simp,?_⟩;rw[bw,hr'];exact yv (L2.Paired.imp' (fun _ _ z=>TupAt.same z s7) hts) (ht4.mv k7)
  obtain⟨ts,rfl,hts⟩:=hPv;rw[aa,hdl,bO]at hts;have s89:xb H8 H9':=s9.trans s9';have hts:=L2.Paired.imp' (fun _ _ z=>TupAt.same z s9') hts;walk_at"w";refine⟨D3,_,rfl,.inl ⟨SqL.of e3,fun tt htt=>?_⟩⟩;generalize hV:upd H9' tt _=H10;have s10:=xb.of_eq htt hV;have ett:=xm hV;clear hV;walk_at"w";refine⟨by walk_at"side",fun pp hpq=>?_⟩;generalize hV:upd H10 pp _=H11;have s11:=xb.of_eq hpq hV;have epp:=xm hV;clear hV;have s3z:xb H3 H11:=s37.trans (s8.trans (s89.trans (s10.trans s11)));have s1z:xb H1 H11:=s17.trans (s8.trans (s89.trans (s10.trans s11)));walk_at"w";refine⟨t,rfl,⟨_,SqL.of (s3z.at et)⟩,?_⟩;refine xeG (fun i acc G=>True) (SqL.of (s3z.at et)) (by rw[aa,av];lia) bV (fun i x acc G3 G3' hx g3 g3' _=>?_) (fun D5 acc H12 H12' hD5 hD12 s12 s12' _ hacc e5=>?_)
  ·rw[ak]at hx;cases hc0:trs[i]? with
   |none=>rw[hc0]at hx;cases hx
   |some y=>
   rw[hc0]at hx;cases hx;obtain⟨kr,hkr,rl,n1,n2,x1,x2⟩:=xS hpt2 hc0;have hkm:=az hkr;obtain⟨to,st,c,ek,hob,htl⟩:=tkAt kr.1 (hg.sub.2 kr hkm);obtain⟨r1,r2⟩:=xmv hg (fun x hx=>by
    obtain⟨i,hi,rfl⟩:=aT.mp hx;have hi:=bp.mp hi;exact⟨by lia,by rw[show(yP ks).length=ks.length by simp[yP]];lia,xgx (by lia) (by lia)⟩) kr hkm
   rw[aa,cR]at r2;have g3z:=s3z.trans (g3.trans g3');have g1z:=s1z.trans (g3.trans g3');refine⟨y,_,_,rfl,SqT.of (g3z.at x1),fun R hR=>?_⟩;obtain⟨dx,hob⟩:=hob;walk_at"w";refine⟨_,dx,_,rfl,g1z.at hob,rfl,?_⟩;walk_at"w";refine⟨_,dx,to,st,c,rfl,g1z.at hob,fun t1 ht1=>?_⟩;have f1:=xb.new (o:=HO.tup [.str "take",.int to,.int st,.int c]) ht1;generalize upd G3' t1 _=G4 at f1⊢;walk_at"w";refine⟨rl,rfl,⟨_,SqL.of ((g3z.trans f1).at x2)⟩,?_⟩;refine vJ (fun _ _ _=>True) (SqL.of ((g3z.trans f1).at x2)) (by rw[aa,av];lia) bV (fun i x acc G5 G5' hx g5 g5' _ R hR2=>?_) (fun D6 acc G6 G6' hD6 hD6' g6 g6' _ hacc e6=>?_)
   ·rw[ak]at hx;cases hc1:kr.2[i]? with
    |none=>rw[hc1]at hx;cases hx
    |some z=>
    rw[hc1]at hx;cases hx;obtain⟨to2,st2,c2,_,⟨dx2,hob2⟩,_⟩:=tkAt z (r1 z (az hc1));have hz:=((g1z.trans f1).trans (g5.trans g5')).at hob2;walk_at"w";refine⟨_,dx2,_,rfl,hz,rfl,?_⟩;walk_at"w";exact⟨_,dx2,to2,st2,c2,rfl,hz,fun t2 ht2=>hR2 _ _ (xb.new ht2) fun _ _ _=>bV⟩
   walk_at"w";exact⟨by walk_at"side",fun q hq=>hR _ _ (f1.trans ((g6.trans g6').trans (xb.new hq))) fun _ _ _=>bV⟩
  walk_at"w";refine⟨by walk_at"side",fun q hq=>?_⟩;have s12z:=s12.trans s12';have sq:=s12z.trans (xb.new (o:=HO.tup [.ref pp,.ref D5]) hq);exact k q pp tt D5 ts D _ (s08.trans (s89.trans (s10.trans (s11.trans sq)))) xk (sq.at epp) ((s11.trans sq).at ett) (xgH (fun x y hy z=>⟨z.same (s10.trans (s11.trans sq)),(m2 y hy).2.2.1,(m2 y hy).2.1⟩) hts) (by rw[hts.length];exact m1) (fun r hr=>(m2 r hr).1) m3 m4 (fun r hr=>(m2 r hr).2.2) m5 m6 m7
end
end ML
section
variable {P:aI} {w:World} {K:ah} {mg:Str→Option Value} {base:Heap} {a:Adr}
def xqv:Sp:=fun vs H Q _=>∃c k:Int,vs=[.int c,.int k]∧∀v:Int,0≤v→v<2^40→Q (.int v) H
theorem xlj(T:Txt K mg a):xv P w K mg base CX0 1 a.q3w a.xi3 ["_law_cell","_law_k"] xqv:=by
 refine T.q3o.ok xk3 (fun vs H Q E h=>?_) (fun cdv A outer s H vs Q E hr h=>?_)
 ·obtain⟨c,k,rfl,_⟩:=h;rfl
 ·obtain⟨c,k,rfl,q⟩:=h;have nd:=xk3.nd;refine⟨_,(xg (xM (xJ zT (xn xZ (cv 0) xh) xh) (xi (xq (xn xZ (xn yr (cv 0) xh) (xn xix xh xh)))) xF)
  (xg (xt (i:=2) nd rfl (aD rfl) (xn xZ (xn xec (xn xK (xn xK (cv 0) (xn xec xh (cv 1))) xh) xh) xh))
  (xg (xt (i:=2) nd rfl (aD rfl) (xn xZ (xn xec (cv 2) (xn xK (xn yr (cv 2) xh) xh)) xh))
  (xi (xq (xn xZ (xn xec (cv 2) (xn xK (xn yr (cv 2) xh) xh)) xh)))))),?_⟩
  walk_at"w";walk_at"ss";refine⟨fun e=>?_,fun e=>?_⟩
  ·walk_at"w";walk_at"ss";exact q _ (bt _ (by decide)) (bx _ (by decide))
  ·walk_at"w";walk_at"ss";have b1:=bt ((c+7919*k+1)*48271) (show(2147483647:Int)≠0 by decide);have b2:=bx ((c+7919*k+1)*48271) (show(0:Int)<2147483647 by decide);generalize (c+7919*k+1)*48271%2147483647=x at b1 b2;exact q _ (bt _ (by decide)) (gH (bx _ (by decide)) (by decide))
theorem Bnd.app{xs ys:List Int}(h1:Bnd xs)(h2:Bnd ys):Bnd (xs++ys):=fun x hx=>by
 rcases aM.mp hx with z|z
 ·exact h1 x z
 ·exact h2 x z
theorem Bnd.one{x:Int}(h:(x.natAbs:Int)<10^60):Bnd [x]:=fun y hy=>by rw[ax.mp hy];exact h
def xnT:Sp:=fun vs H Q _=>∃(c b m:Int),vs=[.int c,.int b,.int m]∧1≤b∧b≤5∧m≤60∧∀(l:Addr) (xs:List Int) (H':Hp),xb H H'→H l=none→H' l=some (.lst (xs.map V.int))→xs.length=m.toNat→Bnd xs→Q (.ref l) H'
theorem xh4(T:Txt K mg a):xv P w K mg base CX0 1 a.q22 a.xfj ["_law_cell","_law_base","_law_many"] xnT:=by
 refine T.q2M.ok xhS (fun vs H Q E h=>?_) (fun cdv A outer s H vs Q E hr h=>?_)
 ·obtain⟨c,b,m,rfl,_⟩:=h;rfl
 ·obtain⟨c,b,m,rfl,b1,b5,hm,q⟩:=h;have nd:=xhS.nd;refine⟨_,(xg (xt (i:=3) nd rfl (aD rfl) (yh xc))
  (xg (ym aV rfl (ur (by rfl) T.q06 (xa (cv 2) xc)) (xG (i:=4) nd rfl (aD rfl)) (xg (xN (zt PySem.F.plainAttrs_list PySem.F.slot_list_append PySem.F.type_list_append yi (cv 3) (xa (xn xZ (cv 0) (cv 1)) xc)))
  (xi (xt (i:=0) nd rfl (aD rfl) (xn yr (cv 0) (cv 1))))))
  (xi (xq (cv 3))))),?_⟩
  walk_at"w";walk_at"ss";intro sl hsl;generalize hUsl:upd H sl _=H1;have sH1:=xb.of_eq hsl hUsl;have esl:=xm hUsl;clear hUsl;walk_at"w";walk_at"ss";obtain⟨N,hN⟩:∃N:Nat,N=yG 0 m 1:=⟨_,rfl⟩;rw[←hN];rw[zh]at hN;refine xbo (fun i σ G=>xb H G∧∃(c:Int) (sg:List Int) (x4:Option V),σ=[some (.int c),some (.int b),some (.int m),some (.ref sl),x4]∧G sl=some (.lst (sg.map V.int))∧sg.length=i∧Bnd sg)
   ⟨sH1,c,[],_,rfl,esl,rfl,fun _ z=>by cases z⟩ (fun i σ G hi hP=>?_) (fun σ G hP=>?_)
  ·obtain⟨sG,c,sg,x4,rfl,eG,hlen,hbs⟩:=hP;walk_at"w";refine⟨.inl ⟨rfl,_,SqL.of eG⟩,?_⟩;walk_at"w";refine cS (show(0:Int)<b by lia) ?_;have r0:=bt c (show b≠0 by lia);have r1:=bx c (show 0<b by lia);walk_at"w";refine⟨sl,_,_,rfl,rfl,eG,by rw[aa,av];lia,?_⟩;generalize hU:upd G sl _=G2;have e2:G2 sl=some (.lst ((sg++[c%b]).map V.int)):=by rw[←hU,xk,aG];rfl
   have s2:xb H G2:=xb.wr sG hsl hU;clear hU;walk_at"w";refine cS ⟨by lia,?_⟩ ?_
   ·exact k8 (lA (by lia) |>.mpr (show b.natAbs<2^3 by lia)) (by decide)
   exact⟨s2,_,sg++[c%b],_,rfl,e2,by simp[hlen],hbs.app (Bnd.one (gH (show((c%b).natAbs:Int)<10 by lia) (by decide)))⟩
  ·obtain⟨sG,c,sg,x4,rfl,eG,hlen,hbs⟩:=hP;walk_at"w";exact q sl sg G sG hsl eG (by lia) hbs
theorem near{r p:Int}(h0:0≤r)(h1:r<2*p - 1):((r - p+1).natAbs:Int)<p:=by lia
def xoZ(K:ah):Sp:=fun vs H Q _=>∃(l:Addr) (ns:List Int),vs=[.ref l]∧SqL K H l (ns.map V.int)∧∀(e:Addr) (es:List Int) (H':Hp),xb H H'→H e=none→H' e=some (.lst (es.map V.int))→es.length≤40→Bnd es→Q (.ref e) H'
theorem xo0(T:Txt K mg a):xv P w K mg base CX0 2 a.q3a a.xg6 ["_law_script"] (xoZ K):=by
 refine T.q3f.ok xjn (fun vs H Q E h=>?_) (fun cdv A outer s H vs Q E hr h=>?_)
 ·obtain⟨l,ns,rfl,_⟩:=h;rfl
 ·obtain⟨l,ns,rfl,hl,q⟩:=h;have nd:=xjn.nd;refine⟨_,(xg (xt (i:=1) nd rfl (aD rfl) (xr (za T) (hr.mono (by decide)) (by rfl) T.zD T.q0w.kp T.zC .nil xo (xa (cv 0) (xa xh xc))))
  (xg (xM (PW.pt (vG (xJ zT (xn xZ (cv 1) xh) xh) (vx (xJ zT (xn xZ (xn yr (cv 1) xh) xh) xh)))) (xi (xq (xr (xh4 T) (hr.mono (by decide)) (by rfl) T.xjh T.q2M.kp T.xjg .nil xo (xa (xr (za T) (hr.mono (by decide)) (by rfl) T.zD T.q0w.kp T.zC .nil xo (xa (cv 0) (xa xh xc))) (xa (xn xK xh (xn xZ (xn yr (cv 1) xh) xh)) (xa (xn xZ (xn yr (cv 1) xh) xh) xc)))))) xF)
  (xg (xt (i:=2) nd rfl (aD rfl) (yh xc))
  (xg (ym aV rfl (ur (by rfl) T.q06 (xa (xn xZ (xn yr (cv 1) xh) xh) xc)) (xG (i:=3) nd rfl (aD rfl)) (xg (xt (i:=4) nd rfl (aD rfl) (xr (xlj T) (hr.mono (by decide)) (by rfl) T.xny T.q3o.kp T.xnx .nil xo (xa (xr (za T) (hr.mono (by decide)) (by rfl) T.zD T.q0w.kp T.zC .nil xo (xa (cv 0) (xa (xn xK xh (xn xZ (cv 3) xh)) xc))) (xa (cv 3) xc))))
  (xi (xM (xJ zT (xn xZ (cv 1) xh) xh) (xi (xN (zt PySem.F.plainAttrs_list PySem.F.slot_list_append PySem.F.type_list_append yi (cv 2) (xa (xn xZ (cv 4) (xn xK xh (xn xZ (xn yr (cv 1) xh) xh))) xc)))) (xi (xM (xJ zT (xn xZ (cv 1) xh) xh) (xi (xN (zt PySem.F.plainAttrs_list PySem.F.slot_list_append PySem.F.type_list_append yi (cv 2) (xa (xn xK (xn uj (xn xZ (xn xK (xr (za T) (hr.mono (by decide)) (by rfl) T.zD T.q0w.kp T.zC .nil xo (xa (cv 0) (xa (xn xK xh (xn xZ (cv 3) xh)) xc))) (xn xZ (cv 3) xh)) (xn uj (xn xec xh (xn xix xh xh)) xh)) (xn xix xh xh)) xh) xc)))) (xi (xN (zt PySem.F.plainAttrs_list PySem.F.slot_list_append PySem.F.type_list_append yi (cv 2) (xa (xn xK (xn xec (xn yr (cv 4) xh) xh) (cv 3)) xc))))))))))
  (xi (xq (cv 2))))))),?_⟩
  walk_at"w";refine⟨l,ns,0,rfl,hl,by decide,?_⟩;generalize cellAt ns 0=f;have f0:=bt (f / 3) (show(41:Int)≠0 by decide);have f1:=bx (f / 3) (show(0:Int)<41 by decide);have g0:=bt (f / 123) (show(4:Int)≠0 by decide);have g1:=bx (f / 123) (show(0:Int)<4 by decide);walk_at"w";walk_at"ss";refine(fun rest=>cS (fun e1=>?_) fun _=>rest) ?_
  ·walk_at"w";walk_at"ss";refine⟨fun e2=>?_,fun e2=>rest.2 rfl⟩;walk_at"w";refine⟨l,ns,14,rfl,hl,by decide,?_⟩;walk_at"w";walk_at"ss";exact⟨_,_,_,rfl,by lia,by lia,by lia,fun e es H' s' he' ee hlen hb=>q e es H' s' he' ee (by lia) hb⟩
  walk_at"w";refine⟨by walk_at"no",fun _=>?_⟩;walk_at"w";walk_at"ss";intro tx htx;generalize hUtx:upd H tx _=H1;have sH1:=xb.of_eq htx hUtx;have etx:=xm hUtx;clear hUtx;walk_at"w";walk_at"ss";obtain⟨N,hN⟩:∃N:Nat,N=yG 0 (f / 3%41) 1:=⟨_,rfl⟩;rw[←hN];rw[zh]at hN;refine xbo (fun i σ G=>xb H G∧∃(sg:List Int) (x3 x4:Option V),σ=[some (.ref l),some (.int f),some (.ref tx),x3,x4]∧G tx=some (.lst (sg.map V.int))∧sg.length=i∧Bnd sg)
   ⟨sH1,[],_,_,rfl,etx,rfl,fun _ z=>by cases z⟩ (fun i σ G hi hP=>?_) (fun σ G hP=>?_)
  ·obtain⟨sG,sg,x3,x4,rfl,eG,hlen,hbs⟩:=hP;have fin:∀(v:Int) (x3 x4:Option V),(v.natAbs:Int)<10^60→xb H (upd G tx (.lst (sg.map V.int++[V.int v])))∧∃(sg':List Int) (y3 y4:Option V),[some (.ref l),some (.int f),some (.ref tx),x3,x4]=[some (.ref l),some (.int f),some (.ref tx),y3,y4]∧upd G tx (.lst (sg.map V.int++[V.int v])) tx=some (.lst (sg'.map V.int))∧sg'.length=i+1∧Bnd sg':=fun v x3 x4 hv=>
    ⟨xb.wr sG htx rfl,sg++[v],_,_,rfl,by rw[xk,aG];rfl,by simp[hlen],hbs.app (Bnd.one hv)⟩
   walk_at"w";walk_at"ss";have ei:(0:Int)+(i:Int)*1=(i:Int):=by lia
   rw[ei];have k0:=bt (i:Int) (show(48:Int)≠0 by decide);refine⟨l,ns,_,rfl,sG.seq hl,by lia,?_⟩;walk_at"w";refine⟨_,_,rfl,fun d d0 d1=>?_⟩;walk_at"w";walk_at"ss";refine⟨fun e=>?_,fun e=>?_⟩
   ·walk_at"w";refine⟨.inl ⟨rfl,_,SqL.of eG⟩,?_⟩;walk_at"w";walk_at"ss";have r0:=bt d (show 1+f / 123%4≠0 by lia);have r1:=bx d (show 0<1+f / 123%4 by lia);walk_at"w";refine⟨tx,_,_,rfl,rfl,eG,by rw[aa,av];lia,?_⟩;exact fin _ _ _ (gH (show((d%(1+f / 123%4)).natAbs:Int)<10 by lia) (by decide))
   ·walk_at"w";walk_at"ss";refine⟨fun e=>?_,fun e=>?_⟩
    ·walk_at"w";refine⟨.inl ⟨rfl,_,SqL.of eG⟩,?_⟩;walk_at"w";walk_at"ss";have k1:=bt (i:Int) (show(7:Int)≠0 by decide);refine⟨l,ns,_,rfl,sG.seq hl,by lia,?_⟩;generalize cellAt ns _=cc;walk_at"w";walk_at"ss";refine⟨tx,_,_,rfl,rfl,eG,by rw[aa,av];lia,?_⟩;exact fin _ _ _ (near (bt (cc+(i:Int)%5) (show(2*10^Int.toNat 60 - 1:Int)≠0 by decide)) (bx (cc+(i:Int)%5) (show(0:Int)<2*10^Int.toNat 60 - 1 by decide)))
    ·walk_at"w";refine⟨.inl ⟨rfl,_,SqL.of eG⟩,?_⟩;walk_at"w";walk_at"ss";refine⟨tx,_,_,rfl,rfl,eG,by rw[aa,av];lia,?_⟩;exact fin _ _ _ (gH (show((d / 8*64+(i:Int)).natAbs:Int)<10^20 by lia) (by decide))
  ·obtain⟨sG,sg,x3,x4,rfl,eG,hlen,hbs⟩:=hP;walk_at"w";exact q tx sg G sG htx eG (by lia) hbs
theorem xgD(sg:List Int){n:Int}(h:0≤n):uh (sg.map V.int) none (some n)=(sg.take n.toNat).map V.int:=by
 rw[zx,yY h,HT.jj];simp[←List.take_eq_take_min]
theorem xlk(sg:List Int){n:Int}(h:0≤n):uh (sg.map V.int) (some n) none=(sg.drop n.toNat).map V.int:=by
 have:=xhU (sg.map V.int) n.toNat;rw[bT h]at this;rw[this,ic]
theorem xmw(ns:List Int):∃ys:List Int,uh (ns.map V.int) (some 2) (some 14)=ys.map V.int∧ys.length≤12∧(ys.length=0∨ys.length+2≤ns.length):=by
 rw[zx,yY (by decide),yY (by decide)];refine⟨_,rfl,?_⟩;rw[bB,aO];show _≤12∧_;have:(2:Int).toNat=2:=rfl;have:(14:Int).toNat=14:=rfl;lia
theorem xll(sg:List Int){m n:Int}(hm:0≤m)(h:m≤n):∃ys:List Int,uh (sg.map V.int) (some m) (some n)=ys.map V.int∧(ys.length:Int)≤n - m∧∀x∈ys,x∈sg:=by
 rw[zx,yY hm,yY (by lia)];refine⟨_,rfl,?_,fun x hx=>dw (d7 hx)⟩;rw[bB,aO];lia
def xo1(K:ah):Sp:=fun vs H Q _=>∃(l e:Addr) (ns es:List Int),vs=[.ref l,.ref e]∧SqL K H l (ns.map V.int)∧ns.length≤63∧H e=some (.lst (es.map V.int))∧es.length≤40∧Bnd es∧∀(n:Addr) (nw:List Int) (H':Hp),xb H H'→H n=none→H' n=some (.lst (nw.map V.int))→nw.length≤60→Bnd nw→Q (.ref n) H'
theorem xo2(T:Txt K mg a):xv P w K mg base CX0 2 a.q3b a.xg7 ["_law_script","_law_elder_here"] (xo1 K):=by
 refine T.q3g.ok xjo (fun vs H Q E h=>?_) (fun cdv A outer s H vs Q E hr h=>?_)
 ·obtain⟨l,e,ns,es,rfl,_⟩:=h;rfl
 ·obtain⟨l,e,ns,es,rfl,hl,hns,he,hel,hbe,q⟩:=h;have nd:=xjo.nd;refine⟨_,(xg (vH (i:=2) nd rfl (aD rfl) (xn yr (xr (za T) (hr.mono (by decide)) (by rfl) T.zD T.q0w.kp T.zC .nil xo (xa (cv 0) (xa xh xc))) xh))
  (xg (vH (i:=3) nd rfl (aD rfl) (xn xZ (xn yr (cv 2) xh) (xn xK (xu xw (by rfl) T.q0k xP (xa (cv 1) xc)) xh)))
  (xg (vH (i:=4) nd rfl (aD rfl) (xn xK (cv 3) (xn xZ (xn yr (cv 2) xh) (xn xK (xn uj (xu xw (by rfl) T.q0k xP (xa (cv 1) xc)) (cv 3)) xh))))
  (xg (xM (xJ zT (xn xZ (cv 2) xh) xh) (xi (xq (xn jF (xn jF (yn yL (cv 1) (yc (cv 4)) ue) (yn yL (cv 1) (yc (cv 3)) (yc (cv 4)))) (yn yL (cv 1) ue (yc (cv 3)))))) xF)
  (xg (xM (xJ zT (xn xZ (cv 2) xh) xh) (xi (xq (xr (xh4 T) (hr.mono (by decide)) (by rfl) T.xjh T.q2M.kp T.xjg .nil xo (xa (xr (za T) (hr.mono (by decide)) (by rfl) T.zD T.q0w.kp T.zC .nil xo (xa (cv 0) (xa xh xc))) (xa (xn xK xh (xn xZ (xn yr (cv 2) xh) xh)) (xa (xn xZ (xn yr (cv 2) xh) xh) xc)))))) xF)
  (xg (vH (i:=5) nd rfl (aD rfl) (yh xc))
  (xg (ym aV rfl (ur (by rfl) T.q06 (xa (xu xw (by rfl) T.q0k xP (xa (yn yL (cv 0) (yc xh) (yc xh)) xc)) xc)) (xG (i:=6) nd rfl (aD rfl)) (xg (vH (i:=7) nd rfl (aD rfl) (xr (xlj T) (hr.mono (by decide)) (by rfl) T.xny T.q3o.kp T.xnx .nil xo (xa (xB yK (cv 0) (xn xK xh (cv 6)) (fun _ _=>rfl)) (xa (cv 6) xc))))
  (xg (vH (i:=8) nd rfl (aD rfl) (xn xZ (cv 7) (xn xK (xu xw (by rfl) T.q0k xP (xa (cv 1) xc)) xh)))
  (xg (vH (i:=9) nd rfl (aD rfl) (xn xK xh (xn xZ (xn yr (cv 7) xh) xh)))
  (xi (xM (xJ xgO (xn xZ (xn yr (cv 7) xh) xh) xh) (xi (vH (i:=5) nd rfl (aD rfl) (xn jF (cv 5) (yn yL (cv 1) (yc (cv 8)) (yc (xn xK (cv 8) (cv 9))))))) (xi (vH (i:=5) nd rfl (aD rfl) (xn jF (cv 5) (xn xmP (yh (xa (xn uj (xn xZ (xn yr (cv 7) xh) xh) xh) xc)) (xn xZ (xn yr (cv 7) xh) xh)))))))))))
  (xi (xq (yn yL (cv 5) ue (yc xh))))))))))),?_⟩
  walk_at"w";refine⟨l,ns,1,rfl,hl,by decide,?_⟩;walk_at"w";walk_at"ss";refine xar fun c hc=>?_;walk_at"w";walk_at"ss";refine⟨e,_,rfl,.inl (SqL.of he),?_⟩;walk_at"w";rw[aa];refine cS (show(0:Int)<(es.length:Int)+1 by lia) ?_;have o0:=bt (c / 2) (show(es.length:Int)+1≠0 by lia);have o1:=bx (c / 2) (show 0<(es.length:Int)+1 by lia);refine xar fun u hu=>?_;walk_at"w";rw[←hu]at o0 o1;walk_at"ss";refine⟨e,_,rfl,.inl (SqL.of he),?_⟩;walk_at"w";rw[aa];refine cS (show(0:Int)<(es.length:Int) - u+1 by lia) ?_;have p0:=bt (c / 82) (show(es.length:Int) - u+1≠0 by lia);have p1:=bx (c / 82) (show 0<(es.length:Int) - u+1 by lia);refine xar fun v hv=>?_;walk_at"w";have v0:u≤v:=by lia
  have v1:v≤es.length:=by lia
  clear hv p0 p1 hu hc;walk_at"ss";refine⟨fun e1=>?_,fun e1=>?_⟩
  ·walk_at"w";refine⟨v,rfl,?_⟩;walk_at"w";refine⟨e,_,rfl,SqL.of he,?_⟩;rw[xlk _ (by lia)];intro y1 hy1;generalize hUy1:upd H y1 _=H1;have sH1:=xb.of_eq hy1 hUy1;have ey1:=xm hUy1;clear hUy1;walk_at"w";refine⟨u,rfl,?_⟩;walk_at"w";refine⟨v,rfl,?_⟩;walk_at"w";refine⟨e,_,rfl,SqL.of (sH1.at he),?_⟩;obtain⟨ys,hys,hyl,hym⟩:=xll es o0 v0;rw[hys];intro y2 hy2;generalize hUy2:upd H1 y2 _=H2;have sH2:=xb.of_eq hy2 hUy2;have ey2:=xm hUy2;clear hUy2;walk_at"w";refine⟨y1,y2,_,_,rfl,rfl,sH2.at ey1,ey2,by rw[aa,aa,aO,av];lia,?_⟩;intro y3 hy3;generalize hUy3:upd H2 y3 _=H3;have sH3:=xb.of_eq hy3 hUy3;have ey3:=xm hUy3;clear hUy3;walk_at"w";rw[←aG]at ey3;refine⟨u,rfl,?_⟩;walk_at"w";refine⟨e,_,rfl,SqL.of ((sH1.trans (sH2.trans sH3)).at he),?_⟩;rw[xgD _ o0];intro y4 hy4;generalize hUy4:upd H3 y4 _=H4;have sH4:=xb.of_eq hy4 hUy4;have ey4:=xm hUy4;clear hUy4;walk_at"w";refine⟨y3,y4,_,_,rfl,rfl,sH4.at ey3,ey4,by rw[aa,aa,aq,aO,bB,av];lia,?_⟩;intro y5 hy5;generalize hUy5:upd H4 y5 _=H5;have sH5:=xb.of_eq hy5 hUy5;have ey5:=xm hUy5;clear hUy5;walk_at"w";rw[←aG]at ey5;have s04:=sH1.trans (sH2.trans (sH3.trans sH4));exact q y5 _ _ (s04.trans sH5) (s04.back hy5) ey5 (by rw[aq,aq,aO,bB];lia) (Bnd.app (Bnd.app (fun x hx=>hbe x (dw hx)) (fun x hx=>hbe x (hym x hx))) (fun x hx=>hbe x (d7 hx)))
  ·walk_at"w";walk_at"ss";refine⟨fun e2=>?_,fun e2=>?_⟩
   ·walk_at"w";refine⟨l,ns,2,rfl,hl,by decide,?_⟩;have b0:=bt (c / 4) (show(5:Int)≠0 by decide);have b1:=bx (c / 4) (show(0:Int)<5 by decide);have m0:=bt (c / 20) (show(61:Int)≠0 by decide);have m1:=bx (c / 20) (show(0:Int)<61 by decide);walk_at"w";walk_at"ss";exact⟨_,_,_,rfl,by lia,by lia,by lia,fun n nw H' s' hn' en hlen hb=>q n nw H' s' hn' en (by lia) hb⟩
   ·walk_at"w";walk_at"ss";intro tx0 htx0;generalize hUtx0:upd H tx0 _=H1;have sH1:=xb.of_eq htx0 hUtx0;have etx0:=xm hUtx0;clear hUtx0;walk_at"w";refine xgP ?_;walk_at"w";refine⟨2,rfl,?_⟩;walk_at"w";refine⟨14,rfl,?_⟩;walk_at"w";refine⟨l,_,rfl,sH1.seq hl,?_⟩;obtain⟨ys,hys,hyl,hyn⟩:=xmw ns;rw[hys];intro sc hsc;generalize hUsc:upd H1 sc _=H2;have sH2:=xb.of_eq hsc hUsc;have esc:=xm hUsc;clear hUsc;walk_at"w";refine⟨sc,_,rfl,.inl (SqL.of esc),?_⟩;walk_at"w";rw[aa];walk_at"ss";obtain⟨N,hN⟩:∃N:Nat,N=yG 0 (ys.length:Int) 1:=⟨_,rfl⟩;rw[←hN];rw[zh]at hN;refine xbo (fun i σ G=>xb H G∧∃(tx:Addr) (sg:List Int) (x6 x7 x8 x9:Option V),σ=[some (.ref l),some (.ref e),some (.int c),some (.int u),some (.int v),some (.ref tx),x6,x7,x8,x9]∧G tx=some (.lst (sg.map V.int))∧sg.length≤12*i∧Bnd sg)
     ⟨sH1.trans sH2,tx0,[],_,_,_,_,rfl,sH2.at etx0,by simp,fun _ z=>by cases z⟩ (fun i σ G hi hP=>?_) (fun σ G hP=>?_)
    ·obtain⟨sG,tx,sg,x6,x7,x8,x9,rfl,eG,hlen,hbs⟩:=hP;have ei:(0:Int)+(i:Int)*1=(i:Int):=by lia
     walk_at"w";rw[ei];walk_at"ss";have hi2:2+i<ns.length:=by lia
     refine⟨l,_,_,.int ns[2+i],rfl,rfl,sG.seq hl,?_,?_⟩
     ·have:=zc (xs:=ns.map V.int) (j:=2+i) (v:=.int ns[2+i]) (by simp[hi2]);rw[show(2:Int)+(i:Int)=((2+i:Nat):Int)by lia];exact this
     walk_at"w";refine⟨_,_,rfl,fun d d0 d1=>?_⟩;refine xar fun dr hdr=>?_;walk_at"w";refine⟨e,_,rfl,.inl (SqL.of (sG.at he)),?_⟩;walk_at"w";rw[aa];refine cS (show(0:Int)<(es.length:Int)+1 by lia) ?_;have a0:=bt dr (show(es.length:Int)+1≠0 by lia);refine xar fun at1 hat1=>?_;walk_at"w";rw[←hat1]at a0;walk_at"ss";have m0:=bt (dr / 64) (show(12:Int)≠0 by decide);have m1:=bx (dr / 64) (show(0:Int)<12 by decide);refine xar fun mn hmn=>?_;walk_at"w";walk_at"ss";refine⟨fun e3=>?_,fun e3=>?_⟩
     ·walk_at"w";refine⟨at1,rfl,?_⟩;walk_at"w";refine⟨_,rfl,?_⟩;walk_at"w";refine⟨e,_,rfl,SqL.of (sG.at he),?_⟩;obtain⟨zs,hzs,hzl,hzm⟩:=xll es a0 (show at1≤at1+mn by lia);rw[hzs];intro z1 hz1;generalize hUz1:upd G z1 _=G1;have sG1:=xb.of_eq hz1 hUz1;have ez1:=xm hUz1;clear hUz1;walk_at"w";refine⟨tx,z1,_,_,rfl,rfl,sG1.at eG,ez1,by rw[aa,aa,av];lia,?_⟩;intro z2 hz2;generalize hUz2:upd G1 z2 _=G2;have sG2:=xb.of_eq hz2 hUz2;have ez2:=xm hUz2;clear hUz2;walk_at"w";rw[←aG]at ez2;refine xgP ?_;walk_at"w";exact⟨sG.trans (sG1.trans sG2),z2,sg++zs,_,_,_,_,rfl,ez2,by rw[aq];lia,hbs.app (fun x hx=>hbe x (hzm x hx))⟩
     ·walk_at"w";walk_at"ss";have w0:=bt (dr / 4096) (show(5:Int)≠0 by decide);have w1:=bx (dr / 4096) (show(0:Int)<5 by decide);have y0:=bt (dr / 32768) (show(4:Int)≠0 by decide);have y1:=bx (dr / 32768) (show(0:Int)<4 by decide);intro z1 hz1;generalize hUz1:upd G z1 _=G1;have sG1:=xb.of_eq hz1 hUz1;have ez1:=xm hUz1;clear hUz1;walk_at"w";walk_at"ss";refine⟨z1,_,_,rfl,rfl,ez1,by lia,by lia,by rw[av];simp;lia,?_⟩;intro z3 hz3;generalize hUz3:upd G1 z3 _=G2;have sG2:=xb.of_eq hz3 hUz3;have ez3:=xm hUz3;clear hUz3;walk_at"w";refine⟨tx,z3,_,_,rfl,rfl,(sG1.trans sG2).at eG,ez3,by rw[av];simp;lia,?_⟩;intro z2 hz2;generalize hUz2:upd G2 z2 _=G3;have sG3:=xb.of_eq hz2 hUz2;have ez2:=xm hUz2;clear hUz2;walk_at"w";have ez2:G3 z2=some (.lst ((sg++bu (dr / 32768%4).toNat (dr / 4096%5 - 2)).map V.int)):=by
       rw[ez2,aG,gn,g8]
      refine xgP ?_;walk_at"w";exact⟨sG.trans (sG1.trans (sG2.trans sG3)),z2,_,_,_,_,_,rfl,ez2,by rw[aq,gr];lia,hbs.app (fun x hx=>by rw[(List.mem_replicate.mp hx).2];exact gH (show((dr / 4096%5 - 2).natAbs:Int)<10 by lia) (by decide))⟩
    ·obtain⟨sG,tx,sg,x6,x7,x8,x9,rfl,eG,hlen,hbs⟩:=hP;walk_at"w";refine⟨60,rfl,?_⟩;walk_at"w";refine⟨tx,_,rfl,SqL.of eG,?_⟩;rw[xgD _ (by decide)];intro fl hfl;generalize hUfl:upd G fl _=G2;have sG2:=xb.of_eq hfl hUfl;have efl:=xm hUfl;clear hUfl;walk_at"w";exact q fl (sg.take 60) G2 (sG.trans sG2) (sG.back hfl) efl (by rw[bB];lia) (fun x hx=>hbs x (d7 hx))
theorem xnU{G H':Hp}{x dx:Addr}{C:Addr}(hx:G x=none)(hd:G dx=none)(k:Kp [x] (upd (upd G dx (.own x)) x (.ins C dx [])) H'):xb G H':=fun b u e=>
 k b u (by rw[xl (xA e hx),xl (xA e hd)];exact e) (by simp;exact xA e hx)
theorem xd8{G:Hp}{x dx b:Addr}{C:Addr}(hx:G x=none)(hd:G dx=none)(e:upd (upd G dx (.own x)) x (.ins C dx []) b=none):G b=none:=by
 by_cases h:b=x
 ·rw[h];exact hx
 ·rw[xl h]at e
  by_cases h2:b=dx
  ·rw[h2];exact hd
  ·rw[xl h2]at e;exact e
theorem xqw{H G G':Hp}{L:List Addr}(s:xb H G)(k:Kp L G G')(f:∀b∈L,H b=none):xb H G':=fun b u e=>
 k b u (s b u e) fun z=>by rw[f b z]at e;cases e
def xo3(K:ah):Sp:=fun vs H Q _=>∃(tt:Addr) (us:List Addr) (rs:List xf),vs=[.ref tt]∧H tt=some (.tup (us.map V.ref))∧Paired (TupAt K H) us rs∧rs.length≤1000∧Q (.int (rs.map xf.cst).sum) H
theorem xkJ(T:Txt K mg a):xv P w K mg base CX0 1 a.q2q a.xcM ["_law_rows"] (xo3 K):=by
 refine T.q2u.ok xeR (fun vs H Q E h=>?_) (fun cdv A outer s H vs Q E hr h=>?_)
 ·obtain⟨tt,us,rs,rfl,_⟩:=h;rfl
 ·obtain⟨tt,us,rs,rfl,htt,hus,hln,q⟩:=h;have nd:=xeR.nd;have hul:=hus.length;refine⟨_,(xg (xt (i:=1) nd rfl (aD rfl) xh)
  (xg (ym aV rfl (xb5 (cv 0)) (xG (i:=2) nd rfl (aD rfl)) (xi (xM (xJ xrV (xB xE (cv 2) xh (fun _ _=>rfl)) xdb) (xi (xt (i:=1) nd rfl (aD rfl) (xn xK (cv 1) xh))) (xi (xt (i:=1) nd rfl (aD rfl) (xn xK (xn xK (cv 1) xh) (xu xw (by rfl) T.q0k xP (xa (xB xE (cv 2) xh (fun _ _=>rfl)) xc))))))))
  (xi (xq (cv 1))))),?_⟩
  walk_at"w";refine⟨tt,rfl,⟨_,SqT.of htt⟩,?_⟩;refine xdl (xs:=us.map V.ref) (fun i σ G=>G=H∧∃x2:Option V,σ=[some (.ref tt),some (.int ((rs.take i).map xf.cst).sum),x2]) ⟨rfl,_,rfl⟩ (fun i σ G hi hP=>by rw[hP.1];exact SqT.of htt) (fun i x σ G hx hP=>?_) (fun σ G hP=>?_)
  ·obtain⟨rfl,x2,rfl⟩:=hP;rw[ak]at hx;obtain⟨t0,ht0,rfl⟩:=aQ.mp hx;obtain⟨r,hr0,pr⟩:=xS hus ht0;have es:((rs.take (i+1)).map xf.cst).sum=((rs.take i).map xf.cst).sum+r.cst:=by
    rw[bw,hr0];simp
   cases r with
   |take to st c=>
    have pr:G t0=some (.tup [.str "take",.int to,.int st,.int c]):=pr;walk_at"w";refine⟨t0,_,_,.str "take",rfl,rfl,SqT.of pr,rfl,?_⟩;walk_at"w";refine⟨fun _=>?_,by walk_at"no"⟩;walk_at"w";exact⟨rfl,_,by rw[es];rfl⟩
   |put to sg=>
    obtain⟨u,pr,pu⟩:=pr;walk_at"w";refine⟨t0,_,_,.str "put",rfl,rfl,SqT.of pr,rfl,?_⟩;walk_at"w";refine⟨by walk_at"no",fun _=>?_⟩;walk_at"w";refine⟨t0,_,_,.ref u,rfl,rfl,SqT.of pr,rfl,?_⟩;walk_at"w";refine⟨u,_,rfl,.inr (SqT.of pu),?_⟩;walk_at"w";rw[aa];refine⟨rfl,some (.ref t0),?_⟩;rw[es,show((rs.take i).map xf.cst).sum+xf.cst (.put to sg)=((rs.take i).map xf.cst).sum+2+(sg.length:Int)from(Int.add_assoc _ _ _).symm];rfl
  ·obtain⟨rfl,x2,rfl⟩:=hP;rw[aa,hul,bO];exact q
theorem xqx{es nw:List Int}{r:xf}{L:Nat}(h:Tells es nw r)(hL:nw.length≤L):Good es.length r∧r.to+r.cnt≤L:=by
 refine⟨⟨h.1,?_,?_⟩,by have:=h.2.2.1;lia⟩
 ·cases r<;> exact bV
 ·cases r with
  |take to st c=>exact h.2.1
  |put to sg=>exact bV
def xqy(K:ah)(a:Adr):Sp:=fun vs H Q _=>∃(p e n tt:Addr) (m:Int) (es nw:List Int) (us:List Addr) (rs:List xf),vs=[.ref p,.ref e,.ref n,.int m]∧H yI=some (.tbl zb)∧H yf=some (.tbl yB)∧H xQ=some (.tbl yj)∧
 0≤m∧m≤9∧H e=some (.lst (es.map V.int))∧H n=some (.lst (nw.map V.int))∧es.length≤40∧nw.length≤60∧H p=some (.tup [.int es.length,.int nw.length,.ref tt])∧H tt=some (.tup (us.map V.ref))∧Paired (GT K H) us rs∧us.length≤60∧(∀r∈rs,xdU es.length nw.length r)∧Dis rs∧jf rs=none∧(∀r∈rs,Tells es nw r)∧(∀j,j<nw.length→∃r∈rs,yg r j)∧∀H',xb H H'→Q (.bl true) H'
theorem xiv(T:Txt K mg a):xv P w K mg base CX0 8 a.q1G a.xa4 ["_law_paper","_law_elder_here","_law_newer_here","_law_more"] (xqy K a):=by
 refine T.q1L.ok xc7 (fun vs H Q E h=>?_) (fun cdv A outer s H vs Q E hr h=>?_)
 ·obtain⟨p,e,n,tt,m,es,nw,us,rs,rfl,_⟩:=h;rfl
 ·obtain⟨p,e,n,tt,m,es,nw,us,rs,rfl,hPd,hPw,hPn,m0,m9,he,hn,hel,hnl,ep,ett,hus,hul,hfit,hdis,hlt,htell,hcov,q⟩:=h;have nd:=xc7.nd;refine⟨_,(xg (xt (i:=4) nd rfl (aD rfl) (xn xK (xu (xdj rfl) (by rfl) T.q3u xb7 (xa (xu xw (by rfl) T.q0k xP (xa (cv 1) xc)) (xa (xu xw (by rfl) T.q0k xP (xa (cv 2) xc)) xc))) (cv 3)))
  (xg (xt (i:=5) nd rfl (aD rfl) (xn jF (cv 1) (yk (yt (cap:=[]) (ys:=[]) rfl rfl rfl rfl rfl trivial (by decide+kernel)) rfl (ur (by rfl) T.q06 (xa (xn uj (cv 4) (xu xw (by rfl) T.q0k xP (xa (cv 1) xc))) xc)) (fun _ _ _ _=>(xn uj (xn uj xh (cv 0)) xh)) (fun _ _ _ _=>yp))))
  (xg (xt (i:=6) nd rfl (aD rfl) (vy (dvs:=[.non]) T.q3U (xij T) (hr.mono (by decide)) (by rfl) T.xqa T.xab (.cons rfl .nil) xo (xa (yb yF (by rfl) T.q1t yT (xa (cv 5) xc)) xc)))
  (xg (xN (xr (xoJ T) (hr.mono (by decide)) (by rfl) T.xp1 T.q3c.kp T.xp0 .nil xo (xa (cv 6) (xa (cv 0) xc))))
  (xg (xdc (xD (cv 6) T.q0n T.q2Y (xc8 T) (hr.mono (by decide)) T.xdE .nil xo) (vE rfl (yd (xG (i:=7) nd rfl (aD rfl)) (yd (xG (i:=8) nd rfl (aD rfl)) (yd (xG (i:=9) nd rfl (aD rfl)) uF)))))
  (xi (xq (zN (xpg hr.units) (cv 7) (xn jF (cv 2) (yn yL (cv 5) (yc (xu xw (by rfl) T.q0k xP (xa (cv 2) xc))) ue)))))))))),?_⟩
  walk_at"w";refine⟨e,_,rfl,.inl (SqL.of he),?_⟩;walk_at"w";refine⟨n,_,rfl,.inl (SqL.of hn),?_⟩;walk_at"w";rw[aa,aa];refine⟨e,_,rfl,.inl (SqL.of he),?_⟩;walk_at"w";rw[aa];obtain⟨z,hz⟩:∃z:Nat,(z:Int)=max (es.length:Int) nw.length+m - es.length:=⟨(max (es.length:Int) nw.length+m - es.length).toNat,by lia⟩;have er:yG 0 (max (es.length:Int) nw.length+m - es.length) 1=z:=by rw[zh];lia
  walk_at"ss";rw[er];refine xhI (fun i acc _=>∃ys:List Int,acc=ys.map V.int∧ys.length=i) (by rw[av];lia) ⟨[],rfl,rfl⟩ (fun i acc H3 H3' hi s3 s3' hP R hR=>?_) (fun D acc H1 H1' hD hD3 s1 s1' hP hacc eD=>?_)
  ·obtain⟨ys,rfl,hyl⟩:=hP;walk_at"w";walk_at"ss";exact hR _ _ (xb.refl _) fun H6 _ _=>⟨ys++[_],by rw[aG];rfl,by simp[hyl]⟩
  obtain⟨zs,rfl,hzl⟩:=hP;have s01:xb H H1':=s1.trans s1';walk_at"w";refine⟨e,D,_,_,rfl,rfl,s01.at he,eD,by rw[aa,aa,av];lia,?_⟩;intro rm hrm;generalize hUrm:upd H1' rm _=H2;have sH2:=xb.of_eq hrm hUrm;have erm:=xm hUrm;clear hUrm;walk_at"w";rw[←aG]at erm;obtain⟨C0,hC0⟩:∃C0,C0=es++zs:=⟨_,rfl⟩;rw[←hC0]at erm;have hCl:C0.length=es.length+z:=by rw[hC0,aq,hzl]
  refine⟨rm,_,rfl,.inl (SqL.of erm),?_⟩;intro cl hcl;generalize hUcl:upd H2 cl _=H3;have sH3:=xb.of_eq hcl hUcl;have ecl:=xm hUcl;clear hUcl;walk_at"w";have s03:xb H H3:=s01.trans (sH2.trans sH3);intro x dx hx hdx nx;refine⟨x,dx,cl,C0,.non,rfl,xk,by rw[xl (xA ecl hx),xl (xA ecl hdx)];exact ecl,fun S H4 hst kp hS b1 b2 b3=>⟨rfl,?_⟩⟩;have s34:xb H3 H4:=xnU hx hdx kp;have f1:=xd8 hx hdx b1;have f2:=xd8 hx hdx b2;have f3:=xd8 hx hdx b3;have fS:∀b∈SS S,H3 b=none:=by
   intro b hb;simp only[ao,bC,or_false]at hb;rcases hb with rfl|rfl|rfl
   ·exact f1
   ·exact f2
   ·exact f3
  clear kp b1 b2 b3 f1 f2 f3 hx hdx nx;subst hst;have s04:xb H H4:=s03.trans s34;have hdue:=xrx hus hfit (L:=C0.length) (by lia) (by lia);walk_at"w";refine⟨S,p,tt,es.length,nw.length,us,rs,C0,_,0,0,rfl,s04.at hPd,s04.at hPw,s04.at hPn,hS,s04.at ep,s04.at ett,L2.Paired.imp' (fun _ _ z=>z.same s04) hus,hul,rfl,by simp[xcP],by lia,by lia,hdue,fun H5 k5 hS5=>?_⟩;rw[fX]at hS5;have s35:xb H3 H5:=xqw s34 k5 fS;have run:=xry (C0:=C0) (fun r hr=>(htell r hr).1) hdue;have sc:jg es C0 rs _:=⟨⟨_,hC0⟩,run,fun r hr=>xqx (htell r hr) (by lia),hdis⟩;walk_at"w";refine⟨S.st,S.dx,_,rfl,hS5.st,rfl,?_⟩;walk_at"w";refine⟨S,_,_,_,.non,rfl,hS5,fun ta ca ma H6 s6 hca hma ncm eta eca ema=>?_⟩;have s36:=s35.trans s6;have s06:=s03.trans s36;walk_at"w";refine⟨ta,_,rfl,SqT.of eta,rfl,_,_,rfl,_,_,rfl,_,_,rfl,rfl,?_⟩;walk_at"w";refine⟨n,_,rfl,.inl (SqL.of (s06.at hn)),?_⟩;walk_at"w";refine⟨_,rfl,?_⟩;walk_at"w";refine⟨rm,_,rfl,SqL.of ((sH3.trans s36).at erm),?_⟩;rw[aa,xlk _ (by lia),bP];intro y1 hy1;generalize hUy1:upd H6 y1 _=H7;have sH7:=xb.of_eq hy1 hUy1;have ey1:=xm hUy1;clear hUy1;walk_at"w";refine⟨n,y1,_,_,rfl,rfl,(s06.trans sH7).at hn,ey1,by rw[aa,aa,aO,av];lia,?_⟩;intro y2 hy2;generalize hUy2:upd H7 y2 _=H8;have sH8:=xb.of_eq hy2 hUy2;have ey2:=xm hUy2;clear hUy2;walk_at"w";rw[←aG]at ey2;have hrt:rs.take rs.length=rs:=bO;have fine:=sc.fine hlt (by lia) htell hcov;have rest:=sc.rest htell;simp only[hrt]at fine rest;have hcell:doL C0 (zl rs)=nw++C0.drop nw.length:=by rw[←List.take_append_drop nw.length (doL C0 (zl rs)),fine,rest]
  refine xef (f:=fun b=>b) ⟨ca,y2,_,_,rfl,rfl,SqL.of ((sH7.trans sH8).at eca),SqL.of ey2,?_⟩;rw[hcell,decide_eq_true rfl];exact q _ (s06.trans (sH7.trans sH8))
def xsi(K:ah)(G:Hp)(p:Addr)(es nw:List Int)(least:Int):Prop:=∃(tt:Addr) (us:List Addr) (rs:List xf),G p=some (.tup [.int es.length,.int nw.length,.ref tt])∧G tt=some (.tup (us.map V.ref))∧Paired (GT K G) us rs∧us.length≤60∧(∀r∈rs,xdU es.length nw.length r)∧Dis rs∧jf rs=none∧(∀r∈rs,Tells es nw r)∧(∀j,j<nw.length→∃r∈rs,yg r j)∧rs.Pairwise ML.Off∧(6≤least→(rs.map xf.cst).sum≤nw.length+2)
def xj4(K:ah):Sp:=fun vs H Q _=>∃(l:Addr) (ns:List Int),vs=[.ref l]∧SqL K H l (ns.map V.int)∧ns.length≤63∧H zy=some (.tbl uI)∧H yA=some (.tbl zz)∧H uz=some (.tbl jI)∧H yI=some (.tbl zb)∧H vB=some (.tbl xaT)∧H yf=some (.tbl yB)∧H xQ=some (.tbl yj)∧∀H',Q (.bl true) H'
abbrev xep:=ML.xep
theorem xeq(T:Txt K mg a):xv P w K mg base CX0 6 a.q26 a.xdz ["elder","newer","least"] (xep K):=ML.xeq T
theorem xfv(T:Txt K mg a):xv P w K mg base CX0 8 a.q24 a.xeh ["paper"] (xjy K):=JD.xfv T
theorem xfw(T:Txt K mg a):xv P w K mg base CX0 6 a.q2P a.xcb ["paper","elder"] (MT.xjK K):=MT.xfw T
theorem xhp(T:Txt K mg a):xv P w K mg base CX0 6 a.q3n a.xfV ["paper"] (MT.xlc K):=MT.xhp T
theorem xrD(T:Txt K mg a):xv P w K mg base CX0 9 a.q3B a.xlW ["_law_script"] (xj4 K):=by
 refine T.xiC.ok xnA (fun vs H Q E h=>?_) (fun cdv A outer s H vs Q E hr h=>?_)
 ·obtain⟨l,ns,rfl,_⟩:=h;rfl
 ·obtain⟨l,ns,rfl,hl,hns,hPe,hPo,hPj,hPd,hPm,hPw,hPn,q⟩:=h;have nd:=xnA.nd;refine⟨_,(xg (xt (i:=1) nd rfl (aD rfl) (xr (xo0 T) (hr.mono (by decide)) (by rfl) T.xp7 T.q3f.kp T.xp6 .nil xo (xa (cv 0) xc)))
  (xg (xt (i:=2) nd rfl (aD rfl) (xr (xo2 T) (hr.mono (by decide)) (by rfl) T.xp9 T.q3g.kp T.xp8 .nil xo (xa (cv 0) (xa (cv 1) xc))))
  (xg (xt (i:=3) nd rfl (aD rfl) (xn xK xh (xn xZ (xn yr (xr (za T) (hr.mono (by decide)) (by rfl) T.zD T.q0w.kp T.zC .nil xo (xa (cv 0) (xa xh xc))) xh) xh)))
  (xg (xb6 (xM (xJ zT (xn xZ (xr (za T) (hr.mono (by decide)) (by rfl) T.zD T.q0w.kp T.zC .nil xo (xa (cv 0) (xa xh xc))) xh) xh) (xg (xt (i:=3) nd rfl (aD rfl) xh)
  (xi (xdc (xr (dvs:=[.int 6]) (xeq T) (hr.mono (by decide)) (by rfl) T.xnr T.xa5.kp T.xha (.cons ⟨_,rfl⟩ .nil) xo (xa (yb yF (by rfl) T.q1t yT (xa (cv 1) xc)) (xa (yb yF (by rfl) T.q1t yT (xa (cv 2) xc)) xc))) (vE rfl (yd (xG (i:=4) nd rfl (aD rfl)) (yd (xG (i:=5) nd rfl (aD rfl)) uF)))))) (xi (xdc (xr (xeq T) (hr.mono (by decide)) (by rfl) T.xnr T.xa5.kp T.xjb .nil xo (xa (yb yF (by rfl) T.q1t yT (xa (cv 1) xc)) (xa (yb yF (by rfl) T.q1t yT (xa (cv 2) xc)) (xa (cv 3) xc)))) (vE rfl (yd (xG (i:=4) nd rfl (aD rfl)) (yd (xG (i:=5) nd rfl (aD rfl)) uF)))))))
  (xg (xM (PW.pt (xed (xgT (xr (xfv T) (hr.mono (by decide)) (by rfl) T.xp3 T.q3d.kp T.xp2 .nil xo (xa (cv 4) xc))) (xfC (xJ (xlF hr.units) (xr (xfw T) (hr.mono (by decide)) (by rfl) T.xp5 T.xcd.kp T.xp4 .nil xo (xa (cv 4) (xa (yb yF (by rfl) T.q1t yT (xa (cv 1) xc)) xc))) (cv 2))))) (xi (xq jz)) xF)
  (xg (xM (xaz (yz (xr (xiv T) (hr.mono (by decide)) (by rfl) T.xjj T.q1L.kp T.xji .nil xo (xa (cv 4) (xa (cv 1) (xa (cv 2) (xa (xn xZ (xr (za T) (hr.mono (by decide)) (by rfl) T.zD T.q0w.kp T.zC .nil xo (xa (cv 0) (xa xh xc))) xh) xc))))))) (xi (xq jz)) xF)
  (xg (xt (i:=6) nd rfl (aD rfl) (xr (xkJ T) (hr.mono (by decide)) (by rfl) T.xl6 T.q2u.kp T.xl5 .nil xo (xa (xB xE (cv 4) xh (fun _ _=>rfl)) xc)))
  (xg (xM (xJ xiz (xr (xhp T) (hr.mono (by decide)) (by rfl) T.xrw T.q3y.kp T.xrv .nil xo (xa (cv 4) xc)) (cv 6)) (xi (xq jz)) xF)
  (xi (xq (xpe (zN xaA (cv 3) xh) (um (ua (zN xly (cv 6) (xn xK (xu xw (by rfl) T.q0k xP (xa (cv 2) xc)) xh)) (um (xpe (zN (xlF hr.units) (cv 2) (yh xc)) (um (zN zT (cv 6) xh))))))))))))))))),?_⟩
  walk_at"w";refine⟨l,ns,rfl,hl,fun e es H1 s1 he0 he hel hbe=>?_⟩;walk_at"w";refine⟨l,e,ns,es,rfl,s1.seq hl,hns,he,hel,hbe,fun n nw H2 s2 hn0 hn hnl hbn=>?_⟩;have s02:xb H H2:=s1.trans s2;walk_at"w";refine⟨l,ns,1,rfl,s02.seq hl,by decide,?_⟩;walk_at"w";walk_at"ss";have k0:=bt (cellAt ns 1 / 2) (show(12:Int)≠0 by decide);refine⟨fun σ' G=>xb H2 G∧∃(least:Int) (p tr:Addr),σ'=[some (.ref l),some (.ref e),some (.ref n),some (.int least),some (.ref p),some (.ref tr),none]∧xsi K G p es nw least,?_,?_⟩
  ·walk_at"w";refine⟨l,ns,1,rfl,s02.seq hl,by decide,?_⟩;walk_at"w";walk_at"ss";refine⟨fun e1=>?_,fun e1=>?_⟩
   ·walk_at"w";refine⟨e,_,rfl,.inl (SqL.of (s2.at he)),?_⟩;intro e1 he1;generalize hUe1:upd H2 e1 _=H3;have sH3:=xb.of_eq he1 hUe1;have ee1:=xm hUe1;clear hUe1;walk_at"w";refine⟨n,_,rfl,.inl (SqL.of (sH3.at hn)),?_⟩;intro n1 hn1;generalize hUn1:upd H3 n1 _=H4;have sH4:=xb.of_eq hn1 hUn1;have en1:=xm hUn1;clear hUn1;walk_at"w";have s04:=s02.trans (sH3.trans sH4);refine⟨e1,n1,es,nw,6,rfl,by decide,s04.at hPe,s04.at hPo,s04.at hPj,sH4.at ee1,en1,by lia,hnl,hbn,fun t p tt tr us rs H5 s5 et ep ett hus hul hfit hdis hlt htell hcov hoff hcs=>?_⟩;walk_at"w";refine⟨t,_,rfl,SqT.of et,rfl,_,_,rfl,_,_,rfl,rfl,?_⟩;exact⟨sH3.trans (sH4.trans s5),6,p,tr,rfl,tt,us,rs,ep,ett,hus,hul,hfit,hdis,hlt,htell,hcov,hoff,hcs⟩
   ·walk_at"w";refine⟨e,_,rfl,.inl (SqL.of (s2.at he)),?_⟩;intro e1 he1;generalize hUe1:upd H2 e1 _=H3;have sH3:=xb.of_eq he1 hUe1;have ee1:=xm hUe1;clear hUe1;walk_at"w";refine⟨n,_,rfl,.inl (SqL.of (sH3.at hn)),?_⟩;intro n1 hn1;generalize hUn1:upd H3 n1 _=H4;have sH4:=xb.of_eq hn1 hUn1;have en1:=xm hUn1;clear hUn1;walk_at"w";have s04:=s02.trans (sH3.trans sH4);refine⟨e1,n1,es,nw,_,rfl,by lia,s04.at hPe,s04.at hPo,s04.at hPj,sH4.at ee1,en1,by lia,hnl,hbn,fun t p tt tr us rs H5 s5 et ep ett hus hul hfit hdis hlt htell hcov hoff hcs=>?_⟩;walk_at"w";refine⟨t,_,rfl,SqT.of et,rfl,_,_,rfl,_,_,rfl,rfl,?_⟩;exact⟨sH3.trans (sH4.trans s5),_,p,tr,rfl,tt,us,rs,ep,ett,hus,hul,hfit,hdis,hlt,htell,hcov,hoff,hcs⟩
  rintro σ' G ⟨sG,least,p,tr,rfl,tt,us,rs,ep,ett,hus,hul,hfit,hdis,hlt,htell,hcov,hoff,hcs⟩;have hus':Paired (TupAt K G) us rs:=L2.Paired.imp' (fun _ _ z=>z.1) hus;have hrl:us.length=rs.length:=hus.length;have hpap:xap K G p es.length nw.length rs:=⟨tt,us,ep,ett,hus'⟩;have hok:∀r∈rs,r.ok∧Fit es.length nw.length r:=fun r hr=>⟨(htell r hr).1,by have:=hfit r hr;cases r<;> exact this⟩;have hnd:=ML.xgG hoff;have htw:xbg rs=none:=xk8 _ _ (by rw[xk9];exact hnd) fun x _ z=>by cases z
  have hlk:je rs nw.length=none:=by
   unfold je;rw[eW];intro c hc;obtain⟨i,hi,rfl⟩:=aT.mp hc;have:=bp.mp hi;obtain⟨r,hr,hrc⟩:=hcov i this;simp only[Bool.not_eq_true',decide_eq_false_iff_not,Classical.not_not];exact dE.mpr ⟨_,aT.mpr ⟨r,hr,rfl⟩,xjG.mpr hrc⟩
  have s0G:xb H G:=s02.trans sG;walk_at"w";refine⟨p,es.length,nw.length,rs,rfl,hpap,⟨by lia,by lia⟩,⟨by lia,by lia⟩,by lia,hok,htw,by rw[bP];exact hlk,hlt,fun H6 s6=>?_⟩;walk_at"w";refine⟨by walk_at"no",fun _=>?_⟩;walk_at"w";have he6:=(s2.trans (sG.trans s6)).at he;have hn6:=(sG.trans s6).at hn;refine⟨e,_,rfl,.inl (SqL.of he6),?_⟩;intro e2 he2;generalize hUe2:upd H6 e2 _=H7;have sH7:=xb.of_eq he2 hUe2;have ee2:=xm hUe2;clear hUe2;walk_at"w";refine⟨p,e2,es.length,rs,es,nw,rfl,((s0G.trans s6).trans sH7).at hPm,hpap.same (s6.trans sH7),ee2,htell,hcov,by lia,by lia,fun d H8 s8 hd ed=>?_⟩;have s68:=sH7.trans s8;have sG8:=s6.trans s68;have s08:=s0G.trans sG8;refine xef (f:=fun b=> !b) ⟨d,n,nw,nw,rfl,rfl,SqL.of ed,SqL.of (s68.at hn6),?_⟩;rw[decide_eq_true rfl];walk_at"w";refine⟨by walk_at"no",fun _=>?_⟩;walk_at"w";refine⟨l,ns,2,rfl,s08.seq hl,by decide,?_⟩;have c0:=bt (cellAt ns 2) (show(10:Int)≠0 by decide);have c1:=bx (cellAt ns 2) (show(0:Int)<10 by decide);walk_at"w";walk_at"ss";refine⟨p,e,n,tt,_,es,nw,us,rs,rfl,s08.at hPd,s08.at hPw,s08.at hPn,c0,by lia,s68.at he6,s68.at hn6,hel,hnl,sG8.at ep,sG8.at ett,L2.Paired.imp' (fun _ _ z=>z.same sG8) hus,hul,hfit,hdis,hlt,htell,hcov,fun H9 s9=>?_⟩;have sG9:=sG8.trans s9;walk_at"w";refine⟨by walk_at"no",fun _=>?_⟩;walk_at"w";refine⟨p,_,_,.ref tt,rfl,rfl,SqT.of (sG9.at ep),rfl,?_⟩;walk_at"w";refine⟨tt,us,rs,rfl,sG9.at ett,L2.Paired.imp' (fun _ _ z=>z.same sG9) hus',by lia,?_⟩;walk_at"w";refine⟨p,es.length,nw.length,rs,rfl,hpap.same sG9,fun r hr=>(htell r hr).1,by lia,fun H10 s10=>?_⟩;walk_at"w";refine⟨by simp,fun _=>?_⟩;generalize hcst:(rs.map xf.cst).sum=cst at hcs;have hzero:nw=[]→cst=0:=fun z=>by
   rw[←hcst];cases rs with
   |nil=>rfl
   |cons r rs=>
    have h1:=htell r aK;have h2:=ML.zS h1;have h3:=h1.2.2.1;have h4:=h1.1.to;rw[z]at h3;simp only[fH]at h3;lia
  walk_at"w";refine⟨fun _=>q _,fun e1=>?_⟩;have h6:=hcs (by have:=of_decide_eq_false e1;lia);have hn10:=(s68.trans (s9.trans s10)).at hn6;walk_at"w";refine⟨n,_,rfl,.inl (SqL.of hn10),?_⟩;walk_at"w";rw[aa];refine⟨fun _=>?_,fun e2=>absurd h6 (of_decide_eq_false e2)⟩;walk_at"w";walk_at"ss";intro z hz;generalize hUz:upd H10 z _=H11;have sH11:=xb.of_eq hz hUz;have ez:=xm hUz;clear hUz;walk_at"w";refine xef (f:=fun b=> !b) ⟨n,z,nw,[],rfl,rfl,SqL.of (sH11.at hn10),SqL.of ez,?_⟩;walk_at"w";refine⟨fun _=>q _,fun e3=>?_⟩;have hnil:nw=[]:=by simpa using e3
  rw[hzero hnil];walk_at"w";exact q _
end
abbrev NI(K:ah)(x:Str)(f:Addr):Prop:=W.nsIn K bz x=some (some (.ref f))
abbrev NN(K:ah)(x:Str):Prop:=W.nsIn K bz x=some none
def FL(K:ah)(x q:Str)(st:Stmt)(f:Addr):Prop:=∃fd,Fun K x q st f fd
theorem yy{n:Nat}{us:List Value}(h:us.length=n+1):∃u r,us=u::r∧r.length=n:=by
 cases us with
 |nil=>cases h
 |cons u r=>exact⟨u,r,rfl,Nat.succ.inj h⟩
theorem xcl{us:List Value}(h:us.length=0):us=[]:=dA.mp h
theorem bn1{K:ah}{x q:Str}{st:Stmt}{f:Addr}{fd:ay}{p1:Str}(F:Fun K x q st f fd)(h:∀(kV doc pm:Value) (an:Option Addr) (cdv ct u1:Value),fi (cT x q (xY st) (xO st) (xj st) .none kV doc pm an cdv ct) ⟨[u1],[]⟩=pure [(p1,u1)]:=by intros;exact rfl):Binds K fd [p1] []:=by
 refine F.binds fun kV doc pm an cdv ct us hl=>?_;obtain⟨u1,r1,rfl,k1⟩:=yy hl;obtain rfl:=xcl k1;exact h kV doc pm an cdv ct u1
theorem bn2{K:ah}{x q:Str}{st:Stmt}{f:Addr}{fd:ay}{p1 p2:Str}(F:Fun K x q st f fd)(h:∀(kV doc pm:Value) (an:Option Addr) (cdv ct u1 u2:Value),fi (cT x q (xY st) (xO st) (xj st) .none kV doc pm an cdv ct) ⟨[u1,u2],[]⟩=pure [(p1,u1),(p2,u2)]:=by intros;exact rfl):Binds K fd [p1,p2] []:=by
 refine F.binds fun kV doc pm an cdv ct us hl=>?_;obtain⟨u1,r1,rfl,k1⟩:=yy hl;obtain⟨u2,r2,rfl,k2⟩:=yy k1;obtain rfl:=xcl k2;exact h kV doc pm an cdv ct u1 u2
theorem bn3{K:ah}{x q:Str}{st:Stmt}{f:Addr}{fd:ay}{p1 p2 p3:Str}(F:Fun K x q st f fd)(h:∀(kV doc pm:Value) (an:Option Addr) (cdv ct u1 u2 u3:Value),fi (cT x q (xY st) (xO st) (xj st) .none kV doc pm an cdv ct) ⟨[u1,u2,u3],[]⟩=pure [(p1,u1),(p2,u2),(p3,u3)]:=by intros;exact rfl):Binds K fd [p1,p2,p3] []:=by
 refine F.binds fun kV doc pm an cdv ct us hl=>?_;obtain⟨u1,r1,rfl,k1⟩:=yy hl;obtain⟨u2,r2,rfl,k2⟩:=yy k1;obtain⟨u3,r3,rfl,k3⟩:=yy k2;obtain rfl:=xcl k3;exact h kV doc pm an cdv ct u1 u2 u3
theorem bn4{K:ah}{x q:Str}{st:Stmt}{f:Addr}{fd:ay}{p1 p2 p3 p4:Str}(F:Fun K x q st f fd)(h:∀(kV doc pm:Value) (an:Option Addr) (cdv ct u1 u2 u3 u4:Value),fi (cT x q (xY st) (xO st) (xj st) .none kV doc pm an cdv ct) ⟨[u1,u2,u3,u4],[]⟩=pure [(p1,u1),(p2,u2),(p3,u3),(p4,u4)]:=by intros;exact rfl):Binds K fd [p1,p2,p3,p4] []:=by
 refine F.binds fun kV doc pm an cdv ct us hl=>?_;obtain⟨u1,r1,rfl,k1⟩:=yy hl;obtain⟨u2,r2,rfl,k2⟩:=yy k1;obtain⟨u3,r3,rfl,k3⟩:=yy k2;obtain⟨u4,r4,rfl,k4⟩:=yy k3;obtain rfl:=xcl k4;exact h kV doc pm an cdv ct u1 u2 u3 u4
theorem bn5{K:ah}{x q:Str}{st:Stmt}{f:Addr}{fd:ay}{p1 p2 p3 p4 p5:Str}(F:Fun K x q st f fd)(h:∀(kV doc pm:Value) (an:Option Addr) (cdv ct u1 u2 u3 u4 u5:Value),fi (cT x q (xY st) (xO st) (xj st) .none kV doc pm an cdv ct) ⟨[u1,u2,u3,u4,u5],[]⟩=pure [(p1,u1),(p2,u2),(p3,u3),(p4,u4),(p5,u5)]:=by intros;exact rfl):Binds K fd [p1,p2,p3,p4,p5] []:=by
 refine F.binds fun kV doc pm an cdv ct us hl=>?_;obtain⟨u1,r1,rfl,k1⟩:=yy hl;obtain⟨u2,r2,rfl,k2⟩:=yy k1;obtain⟨u3,r3,rfl,k3⟩:=yy k2;obtain⟨u4,r4,rfl,k4⟩:=yy k3;obtain⟨u5,r5,rfl,k5⟩:=yy k4;obtain rfl:=xcl k5;exact h kV doc pm an cdv ct u1 u2 u3 u4 u5
theorem xrE{l:W.OpenLaw}{w:World}{K:ah}{h:Heap}{mg:Str→Option Value}{fa:Addr}{q2n q2B q0U q2o q1R q0u q0z q1w q1i q1j q07 q08 q0t q0F q1x q1y q1u q1z q1k q1l q0R q1S q1T q2Z q1D q1Z q10 q2C q0V q2p q20 q11 q1E q1b q0B q3v q26 q1F q0W q0S q0K q2D q2E q12 q29 q0L q0X q0Y q1U q24 q1c q13 q0C q0M q0Z q2F q14 q2P q3n q1V q0v q0l q00 q1m q0J q1n q09 q1o q0h q0o q2G q3w q22 q3a q3b q2q q1G q3B q2r q0a q0c q0G q0d:Addr}{q3Y:Tok}{q1p:Addr}{q37:Option Addr}{q4i:Nat}{q38:Array (Option Value)}{q3Z q30:Tok}{q4G:Addr}{q43:Option Addr}{q5g:Nat}{q44:Array (Option Value)}{q45:Value}{q21:Tok}{q3M:Addr}{q39:Option Addr}{q4j:Nat}{q4a:Array (Option Value)}{q4b:Value}{od0 an0 q6e q6f q6g q6h q6i q6j q6k q6l q6m q6n q6o q6p q6q q6r q6s q6t q6u q6v:Option Addr}{sl0 q6w q6x q6y q6z q6A q6B q6C q6D q6E:Array (Option Value)}{oc0 kV0 dc0 pm0 ct0 q6F q6G q6H q6I q5B q6J q6K q6L q6M q6N q6O q6P q6Q q6R q6S q6T q6U q6V q6W q6X q6Y q6Z q60 q61 q62 q63 q64 q65 q66 q67 q5C q68 q69 q7a q7b q7c q7d q7e q7f q7g q7h q7i q7j q7k q7l q7m q5D q7n:Value}(X:K.In h)(G:h.Ns bz mg)(hfa:mg "law"=some (.ref fa))
  (q5E:NI K "Row" q2r)
  (q5h:NI K "Take" q0a)
  (q5F:NI K "Put" q0c)
  (q5G:NI K "Pen" q0G)
  (q46:NI K "Store" q0d)
  (q4T:NI K "endings" q2n)
  (q3H:ui K q1v zy)
  (q4U:K.lookup q2n=some ⟨oc0,od0,.func (cT "endings" "endings" (xY uy) (xO uy) (xj uy) .none kV0 dc0 pm0 an0 (.ref q1v) ct0),sl0⟩)
  (q1v:du K (.ref q1v) "endings"=true)
  (q4V:cZ K (.ref q2n)=true)
  (q4W:NI K "longest" q2B)
  (q2H:FL K "longest" "longest" xdr q2B)
  (q31:NI K "how_many_less" q0U)
  (q01:FL K "how_many_less" "how_many_less" vL q0U)
  (q4M:NI K "agreeing" q2o)
  (q2s:FL K "agreeing" "agreeing" xcx q2o)
  (q55:bh K (.ref q2r) "__init__"=some (some (.ref q1R)))
  (q2Q:FL K "__init__" "Row.__init__" xcy q1R)
  (q5H:bh K (.ref q2r) "covers"=some (some (.ref q0u)))
  (q1H:FL K "covers" "Row.covers" xaH q0u)
  (q5w:bh K (.ref q2r) "covered"=some (some (.ref q0z)))
  (q1N:FL K "covered" "Row.covered" jT q0z)
  (q51:bh K (.ref q0a) "__init__"=some (some (.ref q1w)))
  (q2w:FL K "__init__" "Take.__init__" xbE q1w)
  (q5I:bh K (.ref q0a) "stays"=some (some (.ref q1i)))
  (q2d:FL K "stays" "Take.stays" xaI q1i)
  (q5J:bh K (.ref q0a) "reads"=some (some (.ref q1j)))
  (q2e:FL K "reads" "Take.reads" xaJ q1j)
  (q5x:bh K (.ref q0a) "writes"=some (some (.ref q07)))
  (q1O:FL K "writes" "Take.writes" jU q07)
  (q5y:bh K (.ref q0a) "pieces"=some (some (.ref q08)))
  (q1P:FL K "pieces" "Take.pieces" jV q08)
  (q41:bh K (.ref q0a) "source_for"=some (some (.ref q0t)))
  (q05:FL K "source_for" "Take.source_for" uO q0t)
  (q5f:bh K (.ref q0a) "sign_for"=some (some (.ref q0F)))
  (q1q:FL K "sign_for" "Take.sign_for" vM q0F)
  (q52:bh K (.ref q0a) "cost"=some (some (.ref q1x)))
  (q2x:FL K "cost" "Take.cost" xbF q1x)
  (q53:bh K (.ref q0a) "told"=some (some (.ref q1y)))
  (q2y:FL K "told" "Take.told" xbG q1y)
  (q56:bh K (.ref q0c) "__init__"=some (some (.ref q1u)))
  (q2t:FL K "__init__" "Put.__init__" xcz q1u)
  (q54:bh K (.ref q0c) "reads"=some (some (.ref q1z)))
  (q2z:FL K "reads" "Put.reads" xbH q1z)
  (q5K:bh K (.ref q0c) "writes"=some (some (.ref q1k)))
  (q2f:FL K "writes" "Put.writes" xaK q1k)
  (q5L:bh K (.ref q0c) "pieces"=some (some (.ref q1l)))
  (q2g:FL K "pieces" "Put.pieces" xaL q1l)
  (q5i:bh K (.ref q0c) "sign_for"=some (some (.ref q0R)))
  (q1B:FL K "sign_for" "Put.sign_for" jq q0R)
  (q57:bh K (.ref q0c) "cost"=some (some (.ref q1S)))
  (q2R:FL K "cost" "Put.cost" xcA q1S)
  (q58:bh K (.ref q0c) "told"=some (some (.ref q1T)))
  (q2S:FL K "told" "Put.told" xcB q1T)
  (q47:NI K "row_of" q2Z)
  (q0N:FL K "row_of" "row_of" xfe q2Z)
  (q4s:NI K "tells_take" q1D)
  (q1I:FL K "tells_take" "tells_take" xaM q1D)
  (q4z:NI K "tells_put" q1Z)
  (q15:FL K "tells_put" "tells_put" xbI q1Z)
  (q4A:NI K "are_signs" q10)
  (q16:FL K "are_signs" "are_signs" xbJ q10)
  (q4X:NI K "is_sign" q2C)
  (q2I:FL K "is_sign" "is_sign" xds q2C)
  (q32:NI K "is_whole_from" q0V)
  (q0m:FL K "is_whole_from" "is_whole_from" vN q0V)
  (q4N:NI K "is_whole" q2p)
  (q1W:FL K "is_whole" "is_whole" xcC q2p)
  (q48:NI K "spoils" q20)
  (q23:FL K "spoils" "spoils" xff q20)
  (q4B:NI K "spoilt_by" q11)
  (q17:FL K "spoilt_by" "spoilt_by" xbK q11)
  (q4t:NI K "ring_among" q1E)
  (q1J:FL K "ring_among" "ring_among" xaN q1E)
  (q4c:NI K "stretch_read" q1b)
  (q1d:FL K "stretch_read" "stretch_read" jr q1b)
  (q3Q:NI K "stretch_written" q0B)
  (q0D:FL K "stretch_written" "stretch_written" uP q0B)
  (q5M:NI K "meet" q3v)
  (q3x:FL K "meet" "meet" xiZ q3v)
  (q5N:NI K "made" q26)
  (q5O:K.lookup q26=some ⟨q6F,q6e,.func (cT "made" "made" (xY xca) (xO xca) (xj xca) (.ref q4G) q6G q6H q6I q6f q5B q6J),q6w⟩)
  (q5j:K.lookup q4G=some ⟨q45,q43,.seq #[.int 6 q21] q5g,q44⟩)
  (q5P:du K q5B "made"=true)
  (q5Q:cZ K (.ref q26)=true)
  (q4u:NI K "rows_found" q1F)
  (q1K:FL K "rows_found" "rows_found" xaO q1F)
  (q33:NI K "put_ending_at" q0W)
  (q0H:FL K "put_ending_at" "put_ending_at" vO q0W)
  (q4d:NI K "put_in_order" q0S)
  (q27:ui K q0r yA)
  (q4e:K.lookup q0S=some ⟨q6K,q6g,.func (cT "put_in_order" "put_in_order" (xY yR) (xO yR) (xj yR) .none q6L q6M q6N q6h (.ref q0r) q6O),q6x⟩)
  (q0r:du K (.ref q0r) "put_in_order"=true)
  (q4f:cZ K (.ref q0S)=true)
  (q3V:NI K "harmless_among" q0K)
  (q0O:FL K "harmless_among" "harmless_among" vi q0K)
  (q4Y:NI K "put_for" q2D)
  (q2J:FL K "put_for" "put_for" xdt q2D)
  (q49:NI K "joined" q2E)
  (q3N:ui K q1Y uz)
  (q5a:K.lookup q2E=some ⟨q6P,q6i,.func (cT "joined" "joined" (xY vj) (xO vj) (xj vj) .none q6Q q6R q6S q6j (.ref q1Y) q6T),q6y⟩)
  (q1Y:du K (.ref q1Y) "joined"=true)
  (q5b:cZ K (.ref q2E)=true)
  (q4C:NI K "pieces_of" q12)
  (q18:FL K "pieces_of" "pieces_of" xbL q12)
  (q5k:NI K "go_on" q29)
  (q3c:FL K "go_on" "go_on" xg1 q29)
  (q3W:NI K "refuse_lengths" q0L)
  (q0P:FL K "refuse_lengths" "refuse_lengths" vk q0L)
  (q34:NI K "refuse_beyond" q0X)
  (q02:FL K "refuse_beyond" "refuse_beyond" vP q0X)
  (q35:NI K "places_needed" q0Y)
  (q03:FL K "places_needed" "places_needed" vQ q0Y)
  (q4O:NI K "do_piece" q1U)
  (q3l:ui K q0T yI)
  (q4P:K.lookup q1U=some ⟨q6U,q6k,.func (cT "do_piece" "do_piece" (xY zV) (xO zV) (xj zV) .none q6V q6W q6X q6l (.ref q0T) q6Y),q6z⟩)
  (q0T:du K (.ref q0T) "do_piece"=true)
  (q4Q:cZ K (.ref q1U)=true)
  (q5l:NI K "judge" q24)
  (q3d:FL K "judge" "judge" xg2 q24)
  (q4g:NI K "fits_in_size" q1c)
  (q1e:FL K "fits_in_size" "fits_in_size" jt q1c)
  (q4D:NI K "is_length" q13)
  (q1A:FL K "is_length" "is_length" xbM q13)
  (q3R:NI K "first_wrong_row" q0C)
  (q0E:FL K "first_wrong_row" "first_wrong_row" uQ q0C)
  (q3X:NI K "is_fitting_row" q0M)
  (q0Q:FL K "is_fitting_row" "is_fitting_row" vm q0M)
  (q36:NI K "covered_twice" q0Z)
  (q04:FL K "covered_twice" "covered_twice" vR q0Z)
  (q4Z:NI K "lacking" q2F)
  (q2K:FL K "lacking" "lacking" xdu q2F)
  (q4E:NI K "read_late" q14)
  (q19:FL K "read_late" "read_late" xbN q14)
  (q5m:NI K "meant" q2P)
  (q3I:ui K q2c vB)
  (q5n:K.lookup q2P=some ⟨q6Z,q6m,.func (cT "meant" "meant" (xY ju) (xO ju) (xj ju) .none q60 q61 q62 q6n (.ref q2c) q63),q6A⟩)
  (q2c:du K (.ref q2c) "meant"=true)
  (q5o:cZ K (.ref q2P)=true)
  (q5R:NI K "cost" q3n)
  (q3y:FL K "cost" "cost" xi0 q3n)
  (q59:bh K (.ref q0G) "__init__"=some (some (.ref q1V)))
  (q2T:FL K "__init__" "Pen.__init__" xcD q1V)
  (q5c:bh K (.ref q0G) "write_into"=some (some (.ref q0v)))
  (q1f:FL K "write_into" "Pen.write_into" vn q0v)
  (q4R:bh K (.ref q0G) "answer_of_fall"=some (some (.ref q0l)))
  (q0A:FL K "answer_of_fall" "Pen.answer_of_fall" zW q0l)
  (q5S:bh K (.ref q0d) "__init__"=some (some (.ref q00)))
  (q4v:K.lookup q00=some ⟨q64,q6o,.func (cT "__init__" "Store.__init__" (xY zQ) (xO zQ) (xj zQ) (.ref q3M) q65 q66 q67 q6p q5C q68),q6B⟩)
  (q4k:K.lookup q3M=some ⟨q4b,q39,.seq #[.none] q4j,q4a⟩)
  (q4w:du K q5C "Store.__init__"=true)
  (q4x:cZ K (.ref q00)=true)
  (q5T:bh K (.ref q0d) "read"=some (some (.ref q1m)))
  (q2h:FL K "read" "Store.read" xaP q1m)
  (q5z:bh K (.ref q0d) "write"=some (some (.ref q0J)))
  (q3e:ui K q0y yf)
  (q4l:K.lookup q0J=some ⟨q69,q6q,.func (cT "write" "Store.write" (xY zo) (xO zo) (xj zo) .none q7a q7b q7c q6r (.ref q0y) q7d),q6C⟩)
  (q0y:du K (.ref q0y) "Store.write"=true)
  (q4m:cZ K (.ref q0J)=true)
  (q5U:bh K (.ref q0d) "mark"=some (some (.ref q1n)))
  (q2i:FL K "mark" "Store.mark" xaQ q1n)
  (q5A:bh K (.ref q0d) "noted"=some (some (.ref q09)))
  (q1Q:FL K "noted" "Store.noted" jW q09)
  (q5V:bh K (.ref q0d) "told"=some (some (.ref q1o)))
  (q2j:FL K "told" "Store.told" xaR q1o)
  (q4F:bh K (.ref q0d) "refuse_lacking"=some (some (.ref q0h)))
  (q0s:FL K "refuse_lacking" "Store.refuse_lacking" zH q0h)
  (q42:bh K (.ref q0d) "note_down"=some (some (.ref q0o)))
  (q2L:ui K q0j xQ)
  (q3S:K.lookup q0o=some ⟨q7e,q6s,.func (cT "note_down" "Store.note_down" (xY yN) (xO yN) (xj yN) .none q7f q7g q7h q6t (.ref q0j) q7i),q6D⟩)
  (q0j:du K (.ref q0j) "Store.note_down"=true)
  (q3T:cZ K (.ref q0o)=true)
  (q40:NI K "_law_cell_at" q2G)
  (q0w:FL K "_law_cell_at" "_law_cell_at" xdv q2G)
  (q5W:NI K "_law_draw" q3w)
  (q3o:FL K "_law_draw" "_law_draw" xi1 q3w)
  (q5d:NI K "_law_digits" q22)
  (q2M:FL K "_law_digits" "_law_digits" xfg q22)
  (q5p:NI K "_law_elder" q3a)
  (q3f:FL K "_law_elder" "_law_elder" xg3 q3a)
  (q5q:NI K "_law_newer" q3b)
  (q3g:FL K "_law_newer" "_law_newer" xg4 q3b)
  (q4S:NI K "_law_cost" q2q)
  (q2u:FL K "_law_cost" "_law_cost" xcE q2q)
  (q4y:NI K "_law_ends_right" q1G)
  (q1L:FL K "_law_ends_right" "_law_ends_right" xaS q1G)
  (q6a:NI K "law" q3B)
  (q6b:K.lookup q3B=some ⟨q7j,q6u,.func (cT "law" "law" (xY xeg) (xO xeg) (xj xeg) .none q7k q7l q7m q6v q5D q7n),q6E⟩)
  (q6c:du K q5D "law"=true)
  (q6d:cZ K (.ref q3B)=true)
  (q5e:Cls K q2r)
  (q3O:xI K q2r "count")
  (q4h:xI K q2r "to")
  (q0b:Cls K q0a)
  (q0f:xI K q0a "count")
  (q0e:xI K q0a "source")
  (q0i:xI K q0a "to")
  (q3P:Mk K q0a q1w)
  (q0g:Cls K q0c)
  (q0p:xI K q0c "count")
  (q0I:xI K q0c "signs")
  (q0x:xI K q0c "to")
  (q3G:Mk K q0c q1u)
  (q28:Cls K q0G)
  (q2k:xI K q0G "asked")
  (q3m:xI K q0G "fall")
  (q4p:Mk K q0G q1V)
  (q0n:Cls K q0d)
  (q1g:xI K q0d "cells")
  (q1C:xI K q0d "notes")
  (q2l:xI K q0d "pen")
  (q3U:Mk K q0d q00)
  (q2m:Meth K q0G "answer_of_fall" q0l)
  (q2b:Meth K q0G "write_into" q0v)
  (q3E:Meth K q0c "cost" q1S)
  (q1h:Meth K q0c "covered" q0z)
  (q2X:Meth K q0c "covers" q0u)
  (q3p:Meth K q0c "pieces" q1l)
  (q3z:Meth K q0c "reads" q1z)
  (q2A:Meth K q0c "sign_for" q0R)
  (q3F:Meth K q0c "told" q1T)
  (q3q:Meth K q0c "writes" q1k)
  (q3r:Meth K q0d "mark" q1n)
  (q2N:Meth K q0d "note_down" q0o)
  (q3h:Meth K q0d "noted" q09)
  (q3s:Meth K q0d "read" q1m)
  (q1a:Meth K q0d "refuse_lacking" q0h)
  (q2Y:Meth K q0d "told" q1o)
  (q3i:Meth K q0d "write" q0J)
  (q3A:Meth K q0a "cost" q1x)
  (q1r:Meth K q0a "covered" q0z)
  (q2U:Meth K q0a "covers" q0u)
  (q3j:Meth K q0a "pieces" q08)
  (q3t:Meth K q0a "reads" q1j)
  (q2v:Meth K q0a "sign_for" q0F)
  (q1X:Meth K q0a "source_for" q0t)
  (q1s:Meth K q0a "stays" q1i)
  (q2O:Meth K q0a "told" q1y)
  (q3k:Meth K q0a "writes" q07)
  (q2W:xob K q2r "__init__" q1R)
  (q5X:bh K (.ref q0c) "__class__"=some (some (.builtin "object.__class__")))
  (q5Y:i6 K (.builtin "object.__class__") "__get__"=some (some (.builtin "getset_descriptor.__get__")))
  (q5Z:W.takesIn K (.builtin "object.__class__")=some true)
  (q50:W.mroIn K q0c (.type "object")=some true)
  (q5r:bh K (.ref q0a) "__class__"=some (some (.builtin "object.__class__")))
  (q5s:i6 K (.builtin "object.__class__") "__get__"=some (some (.builtin "getset_descriptor.__get__")))
  (q5t:W.takesIn K (.builtin "object.__class__")=some true)
  (q5u:W.mroIn K q0a (.type "object")=some true)
  (q3J:fh K (.ref q0c) (.ref q0c)=some true)
  (q2V:fh K (.ref q0c) (.ref q0a)=some false)
  (q3D:fh K (.ref q0a) (.ref q0c)=some false)
  (q1M:fh K (.ref q0a) (.ref q0a)=some true)
  (q5v:W.nsIn K bz "MOST"=some (some (.int 300 q3Y)))
  (q4n:NI K "NO_STRETCH" q1p)
  (q4o:K.lookup q1p=some ⟨.type "tuple",q37,.seq #[.int 0 q3Z,.int 0 q30] q4i,q38⟩)
  (q4H:NN K "abs")
  (q4I:NN K "all")
  (q4J:NN K "any")
  (q4q:NN K "bool")
  (q4r:NN K "dict")
  (q2a:NN K "enumerate")
  (q4K:NN K "int")
  (q0q:NN K "isinstance")
  (q0k:NN K "len")
  (q1t:NN K "list")
  (q3u:NN K "max")
  (q3C:NN K "min")
  (q06:NN K "range")
  (q3K:NN K "reversed")
  (q3L:NN K "sorted")
  (q4L:NN K "sum")
  (q25:NN K "tuple")
  :∃fd:ay,(∀(s:ab) (v:Value),BindsTo s fd ⟨[v],[]⟩ [("_law_script",v)])∧∀base:Heap,K.In base→base.Ns bz mg→xv l.prog w K mg base CX0 9 fa fd ["_law_script"] (xj4 K):=by
 have e:=hfa.symm.trans (W.mg_of X G q6a);have e2:q3B=fa:=by injection e with e;injection e with e;exact e.symm
 subst e2;have jJ:=vF (st:=uy) q4U q1v q4V;obtain⟨_,q2H⟩:=q2H;obtain⟨_,q01⟩:=q01;obtain⟨_,q2s⟩:=q2s;obtain⟨_,q2Q⟩:=q2Q;obtain⟨_,q1H⟩:=q1H;obtain⟨_,q1N⟩:=q1N;obtain⟨_,q2w⟩:=q2w;obtain⟨_,q2d⟩:=q2d;obtain⟨_,q2e⟩:=q2e;obtain⟨_,q1O⟩:=q1O;obtain⟨_,q1P⟩:=q1P;obtain⟨_,q05⟩:=q05;obtain⟨_,q1q⟩:=q1q;obtain⟨_,q2x⟩:=q2x;obtain⟨_,q2y⟩:=q2y;obtain⟨_,q2t⟩:=q2t;obtain⟨_,q2z⟩:=q2z;obtain⟨_,q2f⟩:=q2f;obtain⟨_,q2g⟩:=q2g;obtain⟨_,q1B⟩:=q1B;obtain⟨_,q2R⟩:=q2R;obtain⟨_,q2S⟩:=q2S;obtain⟨_,q0N⟩:=q0N;obtain⟨_,q1I⟩:=q1I;obtain⟨_,q15⟩:=q15;obtain⟨_,q16⟩:=q16;obtain⟨_,q2I⟩:=q2I;obtain⟨_,q0m⟩:=q0m;obtain⟨_,q1W⟩:=q1W;obtain⟨_,q23⟩:=q23;obtain⟨_,q17⟩:=q17;obtain⟨_,q1J⟩:=q1J;obtain⟨_,q1d⟩:=q1d;obtain⟨_,q0D⟩:=q0D;obtain⟨_,q3x⟩:=q3x;have xa5:=xkZ (st:=xca) (ds:=[.int 6 q21]) q5O q5P q5Q q5j;have xjb:=xa5.binds (ps:=["elder","newer","least"]) (es:=[]) 3 rfl fun _ _ _ _ _ _ _ us hl=>match us,hl with|[_,_,_],_=>⟨_,rfl,rfl⟩
 have xha:=xa5.binds (ps:=["elder","newer","least"]) (es:=[.int 6 q21]) 2 rfl fun _ _ _ _ _ _ _ us hl=>match us,hl with|[_,_],_=>⟨_,rfl,rfl⟩
 obtain⟨_,q1K⟩:=q1K;obtain⟨_,q0H⟩:=q0H;have zR:=vF (st:=yR) q4e q0r q4f;obtain⟨_,q0O⟩:=q0O;obtain⟨_,q2J⟩:=q2J;have xa6:=vF (st:=vj) q5a q1Y q5b;obtain⟨_,q18⟩:=q18;obtain⟨_,q3c⟩:=q3c;obtain⟨_,q0P⟩:=q0P;obtain⟨_,q02⟩:=q02;obtain⟨_,q03⟩:=q03;have jc:=vF (st:=zV) q4P q0T q4Q;obtain⟨_,q3d⟩:=q3d;obtain⟨_,q1e⟩:=q1e;obtain⟨_,q1A⟩:=q1A;obtain⟨_,q0E⟩:=q0E;obtain⟨_,q0Q⟩:=q0Q;obtain⟨_,q04⟩:=q04;obtain⟨_,q2K⟩:=q2K;obtain⟨_,q19⟩:=q19;have xcd:=vF (st:=ju) q5n q2c q5o;obtain⟨_,q3y⟩:=q3y;obtain⟨_,q2T⟩:=q2T;obtain⟨_,q1f⟩:=q1f;obtain⟨_,q0A⟩:=q0A;have uB:=xkZ (st:=zQ) (ds:=[.none]) q4v q4w q4x q4k;have xdD:=uB.binds (ps:=["self","cells","fall"]) (es:=[]) 3 rfl fun _ _ _ _ _ _ _ us hl=>match us,hl with|[_,_,_],_=>⟨_,rfl,rfl⟩
 have xab:=uB.binds (ps:=["self","cells","fall"]) (es:=[.none]) 2 rfl fun _ _ _ _ _ _ _ us hl=>match us,hl with|[_,_],_=>⟨_,rfl,rfl⟩
 obtain⟨_,q2h⟩:=q2h;have va:=vF (st:=zo) q4l q0y q4m;obtain⟨_,q2i⟩:=q2i;obtain⟨_,q1Q⟩:=q1Q;obtain⟨_,q2j⟩:=q2j;obtain⟨_,q0s⟩:=q0s;have zL:=vF (st:=yN) q3S q0j q3T;obtain⟨_,q0w⟩:=q0w;obtain⟨_,q3o⟩:=q3o;obtain⟨_,q2M⟩:=q2M;obtain⟨_,q3f⟩:=q3f;obtain⟨_,q3g⟩:=q3g;obtain⟨_,q2u⟩:=q2u;obtain⟨_,q1L⟩:=q1L;have xiC:=vF (st:=xeg) q6b q6c q6d;have g {x v} (q:W.nsIn K bz x=some (some v)):=W.mg_of X G q;have g0 {x} (q:W.nsIn K bz x=some none):=W.mg_none_of X G q;have T:Txt K mg ⟨q2n,_,q2B,_,q0U,_,q2o,_,q1R,_,q0u,_,q0z,_,q1w,_,q1i,_,q1j,_,q07,_,q08,_,q0t,_,q0F,_,q1x,_,q1y,_,q1u,_,q1z,_,q1k,_,q1l,_,q0R,_,q1S,_,q1T,_,q2Z,_,q1D,_,q1Z,_,q10,_,q2C,_,q0V,_,q2p,_,q20,_,q11,_,q1E,_,q1b,_,q0B,_,q3v,_,q26,_,q21,q1F,_,q0W,_,q0S,_,q0K,_,q2D,_,q2E,_,q12,_,q29,_,q0L,_,q0X,_,q0Y,_,q1U,_,q24,_,q1c,_,q13,_,q0C,_,q0M,_,q0Z,_,q2F,_,q14,_,q2P,_,q3n,_,q1V,_,q0v,_,q0l,_,q00,_,q1m,_,q0J,_,q1n,_,q09,_,q1o,_,q0h,_,q0o,_,q2G,_,q3w,_,q22,_,q3a,_,q3b,_,q2q,_,q1G,_,q3B,_,q2r,q0a,q0c,q0G,q0d,q3Y,q1p⟩:=⟨jJ,bn1 jJ,g q4T,q3H,rfl,q2H,bn3 q2H,g q4W,q01,bn3 q01,g q31,q2s,bn3 q2s,g q4M,q2Q,bn2 q2Q,q1H,bn1 q1H,q1N,bn1 q1N,q2w,bn4 q2w,q2d,bn1 q2d,q2e,bn1 q2e,q1O,bn1 q1O,q1P,bn1 q1P,q05,bn2 q05,q1q,bn3 q1q,q2x,bn1 q2x,q2y,bn1 q2y,q2t,bn3 q2t,q2z,bn1 q2z,q2f,bn1 q2f,q2g,bn1 q2g,q1B,bn3 q1B,q2R,bn1 q2R,q2S,bn1 q2S,q0N,bn1 q0N,g q47,q1I,bn1 q1I,g q4s,q15,bn1 q15,g q4z,q16,bn1 q16,g q4A,q2I,bn1 q2I,g q4X,q0m,bn2 q0m,g q32,q1W,bn1 q1W,g q4N,q23,bn1 q23,g q48,q17,bn3 q17,g q4B,q1J,bn2 q1J,g q4t,q1d,bn1 q1d,g q4c,q0D,bn1 q0D,g q3Q,q3x,bn2 q3x,g q5M,xa5,xha,xjb,g q5N,q1K,bn3 q1K,g q4u,q0H,bn2 q0H,g q33,zR,bn1 zR,g q4d,q27,rfl,q0O,bn2 q0O,g q3V,q2J,bn2 q2J,g q4Y,xa6,bn1 xa6,g q49,q3N,rfl,q18,bn1 q18,g q4C,q3c,bn2 q3c,g q5k,q0P,bn2 q0P,g q3W,q02,bn2 q02,g q34,q03,bn2 q03,g q35,jc,bn3 jc,g q4O,q3l,rfl,q3d,bn1 q3d,g q5l,q1e,bn1 q1e,g q4g,q1A,bn1 q1A,g q4D,q0E,bn1 q0E,g q3R,q0Q,bn3 q0Q,g q3X,q04,bn1 q04,g q36,q2K,bn2 q2K,g q4Z,q19,bn1 q19,g q4E,xcd,bn2 xcd,g q5m,q3I,rfl,q3y,bn1 q3y,g q5R,q2T,bn2 q2T,q1f,bn5 q1f,q0A,bn2 q0A,uB,xab,xdD,q2h,bn2 q2h,va,bn3 va,q3e,rfl,q2i,bn2 q2i,q1Q,bn1 q1Q,q2j,bn1 q2j,q0s,bn2 q0s,zL,bn3 zL,q2L,rfl,q0w,bn2 q0w,g q40,q3o,bn2 q3o,g q5W,q2M,bn3 q2M,g q5d,q3f,bn1 q3f,g q5p,q3g,bn2 q3g,g q5q,q2u,bn1 q2u,g q4S,q1L,bn4 q1L,g q4y,xiC,bn1 xiC,g q5E,q5e,q3O,q4h,g q5h,q0b,q0f,q0e,q0i,q3P,g q5F,q0g,q0p,q0I,q0x,q3G,g q5G,q28,q2k,q3m,q4p,g q46,q0n,q1g,q1C,q2l,q3U,fun e=>.ins e q0g q5X q5Y q5Z q50,fun e=>.ins e q0b q5r q5s q5t q5u,q3J,q2V,q3D,q1M,g q5v,g q4n,fun _=>.inr ⟨_,_,_,q4o,rfl,rfl,by simp[av],(.cons ⟨_,rfl⟩ (.cons ⟨_,rfl⟩ .nil))⟩,q2m,q2b,q3E,q1h,q2X,q3p,q3z,q2A,q3F,q3q,q3r,q2N,q3h,q3s,q1a,q2Y,q3i,q3A,q1r,q2U,q3j,q3t,q2v,q1X,q1s,q2O,q3k,q2W,g0 q4H,g0 q4I,g0 q4J,g0 q4q,g0 q4r,g0 q2a,g0 q4K,g0 q0q,g0 q0k,g0 q1t,g0 q3u,g0 q3C,g0 q06,g0 q3K,g0 q3L,g0 q4L,g0 q25⟩;exact⟨_,fun s v=>.of_eq rfl,fun base _ _=>xrD T⟩
end K38
open PySem PySem.W PyProof.Rows
namespace PySem.W.Fast
theorem tw1813317721317599488:True:=trivial
theorem tw15033969617511793120:True:=trivial
theorem tw2821576148050339937:True:=trivial
theorem tw17827265846991679617:True:=trivial
theorem tw8771216490844935491:True:=trivial
theorem tw2961768889611637543:True:=trivial
theorem tw12593005013303418376:True:=trivial
theorem tw4670511142624303784:True:=trivial
theorem tw179841490461093800:True:=trivial
theorem tw15323083234090621193:True:=trivial
theorem tw13237430154444704012:True:=trivial
theorem tw16852302675813049165:True:=trivial
theorem tw10877324570329745166:True:=trivial
theorem tw14724948229296570192:True:=trivial
theorem tw13483536145091301777:True:=trivial
theorem tw17488322907320030258:True:=trivial
theorem tw1227435231467088050:True:=trivial
theorem tw14597157410923540531:True:=trivial
theorem tw17217129622571898259:True:=trivial
theorem tw14838455326545890452:True:=trivial
theorem tw11909895568174627060:True:=trivial
theorem tw13899823328991016085:True:=trivial
theorem tw11801828307131897365:True:=trivial
theorem tw113238272600159575:True:=trivial
theorem tw13199741564260347255:True:=trivial
theorem tw6509211770897578008:True:=trivial
theorem tw787875342397326617:True:=trivial
theorem tw499180177636968729:True:=trivial
theorem tw16227127781758535225:True:=trivial
theorem tw9086415468672977593:True:=trivial
theorem tw14457806030839909917:True:=trivial
theorem tw8714475789525315145:True:=trivial
theorem tw12993456588991626750:True:=trivial
theorem tw15767955849350287922:True:=trivial
theorem tw17071036878346235663:True:=trivial
theorem tw17882766247889285407:True:=trivial
theorem tw11428567708502850585:True:=trivial
theorem tw7666946938816056243:True:=trivial
theorem tw10172950802194689192:True:=trivial
theorem tw8272134754089781543:True:=trivial
theorem tw11929951059957096511:True:=trivial
theorem tw11976464675309139841:True:=trivial
theorem tw16585402085136348660:True:=trivial
theorem tw1850704209669752691:True:=trivial
theorem tw15449210961590679432:True:=trivial
theorem tw14961686777690227784:True:=trivial
theorem tw1294801354050434447:True:=trivial
theorem tw14992866996960073074:True:=trivial
theorem tw14417529107912783330:True:=trivial
theorem tw15589943103000566393:True:=trivial
theorem tw3727567080528944338:True:=trivial
theorem tw7452361972615586203:True:=trivial
theorem tw2048169960095179411:True:=trivial
theorem tw1849374256266901909:True:=trivial
theorem tw3860167643987202312:True:=trivial
theorem tw15253783015267734443:True:=trivial
theorem tw9172833950233034010:True:=trivial
theorem tw1284118837142188417:True:=trivial
theorem tw4730728240622230331:True:=trivial
theorem tw17778663792899433190:True:=trivial
theorem tw16085483165436713173:True:=trivial
theorem tw2148444075512620375:True:=trivial
theorem tw4930510290245323529:True:=trivial
theorem tw4084664179412388073:True:=trivial
theorem tw7588075225302133889:True:=trivial
theorem tw1935809307006234932:True:=trivial
theorem tw11847308231186872142:True:=trivial
theorem tw13776219392412393494:True:=trivial
theorem tw644342999559843660:True:=trivial
theorem tw9860301062282477694:True:=trivial
theorem tw1291001431652339296:True:=trivial
theorem tw831777069116449410:True:=trivial
theorem tw1308932828113857127:True:=trivial
theorem tw6091052265898418440:True:=trivial
theorem tw4143482271805606481:True:=trivial
theorem tw8746701596849655442:True:=trivial
theorem tw16277844930891946372:True:=trivial
theorem tw5371630114210654384:True:=trivial
theorem tw3645691138332087594:True:=trivial
theorem tw7804801305494421948:True:=trivial
theorem tw14105071465106788281:True:=trivial
theorem tw3833193926562424960:True:=trivial
theorem tw7943998453996387273:True:=trivial
theorem tw5426034060479681869:True:=trivial
theorem tw1072530657524145594:True:=trivial
theorem tw1863847675423558481:True:=trivial
theorem tw15930771454061610109:True:=trivial
theorem tw9901726449098790609:True:=trivial
theorem tw9062492477291122600:True:=trivial
theorem tw17337523165929240102:True:=trivial
theorem tw17518649528307850762:True:=trivial
theorem tw6315880817456360728:True:=trivial
theorem tw8967084604541591081:True:=trivial
theorem tw11915772187263099603:True:=trivial
theorem tw12888159188825194822:True:=trivial
theorem tw6378220474210046529:True:=trivial
theorem tw5137335863944142760:True:=trivial
theorem tw11253537258581232144:True:=trivial
theorem tw2474112359821849947:True:=trivial
theorem tw4452918681448169801:True:=trivial
theorem tw12237181895339918865:True:=trivial
theorem tw3726638923007195295:True:=trivial
theorem tw680461276573028312:True:=trivial
theorem tw16364864321334558631:True:=trivial
theorem tw11236510665532997806:True:=trivial
theorem tw2095329580381634080:True:=trivial
theorem tw2786961742831509147:True:=trivial
theorem tw4726448793913592297:True:=trivial
theorem tw2676198999966216468:True:=trivial
theorem tw12730281556553495466:True:=trivial
theorem tw9508573796244609344:True:=trivial
theorem tw3596502239361101043:True:=trivial
theorem tw14288397572420714449:True:=trivial
theorem tw2042522981328417427:True:=trivial
theorem tw6974282117801090095:True:=trivial
theorem tw2025748304270029118:True:=trivial
theorem tw10713685197937361703:True:=trivial
theorem tw16914951515287136056:True:=trivial
theorem tw1109350209300248000:True:=trivial
theorem tw6415718588627580662:True:=trivial
theorem tw9652484889428179532:True:=trivial
theorem tw9014447404976990438:True:=trivial
theorem tw13725559442306942401:True:=trivial
theorem tw16232806794193126987:True:=trivial
theorem tw6577981941697719840:True:=trivial
theorem tw18121038005152801711:True:=trivial
theorem tw9405605567608153010:True:=trivial
theorem tw17522160887595473983:True:=trivial
theorem tw18371013260538255142:True:=trivial
theorem tw1472693903684637148:True:=trivial
theorem tw7189438236904982214:True:=trivial
theorem tw3553481741315680349:True:=trivial
theorem tw8583439178045437935:True:=trivial
theorem tw10357654726751896781:True:=trivial
theorem tw9228461370348901332:True:=trivial
theorem tw17877400209836850845:True:=trivial
theorem tw3622415958184394513:True:=trivial
theorem tw11514598061394380430:True:=trivial
theorem tw2653375964205144555:True:=trivial
theorem tw16766214763459823689:True:=trivial
theorem tw15966990996719770564:True:=trivial
theorem tw17814169151050947114:True:=trivial
theorem tw810308161218038099:True:=trivial
theorem tw2487849323171917895:True:=trivial
theorem tw9555898281703752586:True:=trivial
theorem tw3991487821656470718:True:=trivial
theorem tw15321515625755695135:True:=trivial
theorem tw8502827229853786511:True:=trivial
theorem tw11836357001687669655:True:=trivial
theorem tw17309975597905018828:True:=trivial
theorem tw1030457023527880700:True:=trivial
theorem tw12879515633883322541:True:=trivial
theorem tw6206022544750984098:True:=trivial
theorem tw10896016736519075712:True:=trivial
theorem tw4831412010746820399:True:=trivial
theorem tw9375070964058752571:True:=trivial
theorem tw4270673447226596088:True:=trivial
theorem tw8384583703542026247:True:=trivial
theorem tw16146270089233769873:True:=trivial
theorem tw2807787496252490166:True:=trivial
theorem tw17595750330794398506:True:=trivial
theorem tw2947993602124306352:True:=trivial
theorem tw14467474043643320156:True:=trivial
theorem tw5311358051288095263:True:=trivial
theorem tw11538296640625179228:True:=trivial
theorem tw5569799133941408204:True:=trivial
theorem tw5941873047268839762:True:=trivial
theorem tw17015106521195508046:True:=trivial
theorem tw5042171186559955886:True:=trivial
theorem tw8921903642992828561:True:=trivial
theorem tw10504611556686375384:True:=trivial
theorem tw192533402410151204:True:=trivial
theorem tw4139812691232068446:True:=trivial
theorem tw4412907782502957684:True:=trivial
theorem tw9208900127260011359:True:=trivial
theorem tw10332795367325816554:True:=trivial
theorem tw10265407960491884004:True:=trivial
theorem tw13183731947559713974:True:=trivial
theorem tw9017271112587323933:True:=trivial
theorem tw9091759035351308145:True:=trivial
theorem tw1744365199494070:True:=trivial
theorem tw15703315180427201192:True:=trivial
theorem tw12745358737660530424:True:=trivial
theorem tw16327319023165422369:True:=trivial
theorem tw5364614164655178935:True:=trivial
theorem tw6292276492956650746:True:=trivial
theorem tw5635524989773888637:True:=trivial
theorem tw16107764567843319593:True:=trivial
theorem tw9998417279980777503:True:=trivial
theorem tw9389221487962364802:True:=trivial
theorem tw11693378039041239042:True:=trivial
theorem tw17014692607984512674:True:=trivial
theorem tw2753442628330652869:True:=trivial
theorem tw6863408322879676309:True:=trivial
theorem tw8176848992545177208:True:=trivial
theorem tw6036913503869978529:True:=trivial
theorem tw12239873444134527389:True:=trivial
theorem tw17662229094692029141:True:=trivial
theorem tw11598624512164053072:True:=trivial
theorem tw7248753616339740796:True:=trivial
theorem tw6291885509028268734:True:=trivial
theorem tw2778450681751511665:True:=trivial
theorem tw8657627242898017177:True:=trivial
theorem tw436489213863435290:True:=trivial
theorem tw18061957965579238593:True:=trivial
theorem tw5221050567713034858:True:=trivial
theorem tw9881843558313936419:True:=trivial
theorem tw1795177120488411818:True:=trivial
theorem tw1222516777878023864:True:=trivial
theorem tw12141673585392438985:True:=trivial
theorem tw17120188588734416534:True:=trivial
theorem tw5357712826284359282:True:=trivial
theorem tw16950014678040896365:True:=trivial
theorem tw2937130669196460127:True:=trivial
theorem tw15611444774620570803:True:=trivial
theorem tw2031479905241077999:True:=trivial
theorem tw17032901993263738783:True:=trivial
theorem tw17146462166131530954:True:=trivial
theorem tw2159104262308075200:True:=trivial
theorem tw6790696109412361497:True:=trivial
theorem tw188007267816559395:True:=trivial
theorem tw3366988696765406091:True:=trivial
theorem tw6328517584159800861:True:=trivial
theorem tw9545906485132508843:True:=trivial
theorem tw15902228431347041934:True:=trivial
theorem tw6480390909197740314:True:=trivial
theorem tw6463293012051520579:True:=trivial
theorem tw12481174527704053909:True:=trivial
theorem tw12900041064079730411:True:=trivial
theorem tw10939931783319944517:True:=trivial
theorem tw5471030733545227615:True:=trivial
theorem tw4921983044892218046:True:=trivial
theorem tw2531282380577920993:True:=trivial
theorem tw3640032041319128683:True:=trivial
theorem tw3237757310706129606:True:=trivial
theorem tw12716457503265941052:True:=trivial
theorem tw4754140198701542681:True:=trivial
theorem tw15880961945891486720:True:=trivial
theorem tw12706452820856540720:True:=trivial
theorem tw15640568244279763173:True:=trivial
theorem tw7124532487165558423:True:=trivial
theorem tw8630665648994905966:True:=trivial
theorem tw16641956403289773656:True:=trivial
theorem tw3522076171623427842:True:=trivial
theorem tw14539759935464174685:True:=trivial
theorem tw5478368344686373121:True:=trivial
theorem tw10643857791744678773:True:=trivial
theorem tw12787049102338610682:True:=trivial
theorem tw4891718523574123916:True:=trivial
theorem tw488014726074968964:True:=trivial
theorem tw13565803726760756902:True:=trivial
theorem tw294005545435997483:True:=trivial
theorem tw433687122445158061:True:=trivial
theorem tw13839587865462760281:True:=trivial
theorem tw11312592306302720445:True:=trivial
theorem tw12443880832119922331:True:=trivial
theorem tw3675782241694458634:True:=trivial
theorem tw9973752517881457147:True:=trivial
theorem tw2182178370504966981:True:=trivial
theorem tw529245353711970275:True:=trivial
theorem tw756515712255261140:True:=trivial
theorem tw9622808556423172973:True:=trivial
theorem tw11651091487916288110:True:=trivial
theorem tw11681371985477000775:True:=trivial
theorem tw1218596937748413590:True:=trivial
theorem tw12352178015698666525:True:=trivial
theorem tw12435376650431089727:True:=trivial
theorem tw12697931461068259505:True:=trivial
theorem tw12808242181143536658:True:=trivial
theorem tw12987704823693948504:True:=trivial
theorem tw13338986746962215613:True:=trivial
theorem tw13927099250786193979:True:=trivial
theorem tw14779920162294264504:True:=trivial
theorem tw15559130770414346039:True:=trivial
theorem tw15920424656912968959:True:=trivial
theorem tw15924673108965569892:True:=trivial
theorem tw16547848240411459022:True:=trivial
theorem tw16652132851772506622:True:=trivial
theorem tw17343951338461028639:True:=trivial
theorem tw18330262607180342289:True:=trivial
theorem tw2160085591056404667:True:=trivial
theorem tw3363324838162371529:True:=trivial
theorem tw3581986712628819067:True:=trivial
theorem tw4174522234909964751:True:=trivial
theorem tw4256029174965606504:True:=trivial
theorem tw511810106408285684:True:=trivial
theorem tw5290308314124756564:True:=trivial
theorem tw5491180707414891710:True:=trivial
theorem tw6267674090823413577:True:=trivial
theorem tw6586292672097814323:True:=trivial
theorem tw7205870048178056944:True:=trivial
theorem tw7552518798830786444:True:=trivial
theorem tw7917418776401764498:True:=trivial
theorem tw7954566440854726787:True:=trivial
theorem tw8787914442278545296:True:=trivial
theorem tw8532970753048095800:True:=trivial
theorem tw11508108757781064445:True:=trivial
theorem tw18006423732966515308:True:=trivial
theorem tw10289987771972595431:True:=trivial
theorem tw10462795776435577352:True:=trivial
theorem tw10895719221049434176:True:=trivial
theorem tw11299087920735848867:True:=trivial
theorem tw11441754017602806640:True:=trivial
theorem tw11458553436741229736:True:=trivial
theorem tw11491998266805920159:True:=trivial
theorem tw1207587530098475155:True:=trivial
theorem tw1291198583221515620:True:=trivial
theorem tw13098328572117377690:True:=trivial
theorem tw13114520097568188357:True:=trivial
theorem tw13575816998338711306:True:=trivial
theorem tw1408894930620556140:True:=trivial
theorem tw14462873385974755315:True:=trivial
theorem tw14488547779804968756:True:=trivial
theorem tw14842759771967612079:True:=trivial
theorem tw14870911714734016826:True:=trivial
theorem tw14917736401939239286:True:=trivial
theorem tw14992146701569441570:True:=trivial
theorem tw15122654208860895645:True:=trivial
theorem tw15144678968809629094:True:=trivial
theorem tw15537562232486656917:True:=trivial
theorem tw15582594136097786791:True:=trivial
theorem tw15667520148686402296:True:=trivial
theorem tw16762940707290369566:True:=trivial
theorem tw1704948537697808815:True:=trivial
theorem tw17238154263611170006:True:=trivial
theorem tw17850294447357590163:True:=trivial
theorem tw17912145931612906908:True:=trivial
theorem tw1886283690428900613:True:=trivial
theorem tw1976380751068794295:True:=trivial
theorem tw2201500711342589933:True:=trivial
theorem tw237131347146306407:True:=trivial
theorem tw2462535438790155694:True:=trivial
theorem tw4413601958319793976:True:=trivial
theorem tw4580607101555757939:True:=trivial
theorem tw5133199668165705548:True:=trivial
theorem tw5368688950304496272:True:=trivial
theorem tw5420222727366083189:True:=trivial
theorem tw5918012086400136999:True:=trivial
theorem tw6273370268286910204:True:=trivial
theorem tw7429868224307723658:True:=trivial
theorem tw7549880410410749750:True:=trivial
theorem tw796690704616979304:True:=trivial
theorem tw7972629540938303817:True:=trivial
theorem tw8400742230024352682:True:=trivial
theorem tw8838772327935131681:True:=trivial
theorem tw9935164915549572:True:=trivial
theorem tw11450932238811900774:True:=trivial
theorem tw13866152277744767590:True:=trivial
theorem tw14640201731915470784:True:=trivial
theorem tw1990269089519091920:True:=trivial
theorem tw2185811551571858264:True:=trivial
theorem tw3969522453482144811:True:=trivial
theorem tw4262599798597128853:True:=trivial
theorem tw5664482656922500470:True:=trivial
theorem tw7600406604884490939:True:=trivial
theorem tw12541232312307475692:True:=trivial
theorem tw1110912822355630984:True:=trivial
theorem tw12657414798040894333:True:=trivial
theorem tw14143163599723707547:True:=trivial
theorem tw3602223989773011575:True:=trivial
theorem tw7853178017907748653:True:=trivial
theorem tw12944416157028967608:True:=trivial
theorem tw14536031588109765646:True:=trivial
theorem tw2140421826153764201:True:=trivial
theorem tw5901342602338497629:True:=trivial
theorem tw12752850086356560479:True:=trivial
theorem tw17974109968999960165:True:=trivial
theorem tw14142267153553921051:True:=trivial
theorem tw1924353880590057302:True:=trivial
theorem tw10439605397381385625:True:=trivial
theorem tw2175379169672138930:True:=trivial
theorem tw16911677346072776632:True:=trivial
theorem tw4420439728169869540:True:=trivial
theorem tw9716894607153368768:True:=trivial
theorem tw10973351823839332167:True:=trivial
theorem tw13657604094737641252:True:=trivial
theorem tw15923920184292002721:True:=trivial
theorem tw5153326334584057319:True:=trivial
theorem tw12513555571375137118:True:=trivial
theorem tw14177290864319317146:True:=trivial
theorem tw15086293008886829880:True:=trivial
theorem tw16785391989979988777:True:=trivial
theorem tw17334759448784829367:True:=trivial
theorem tw2634636773050644774:True:=trivial
theorem tw4374134558433017934:True:=trivial
theorem tw6566204745008702533:True:=trivial
theorem tw8362196573892407786:True:=trivial
theorem tw8362478608488239328:True:=trivial
theorem tw9487584079238286432:True:=trivial
theorem tw10032680326738120998:True:=trivial
theorem tw17803159566142735586:True:=trivial
theorem tw3989017274158254992:True:=trivial
theorem tw8393670975999269588:True:=trivial
theorem tw2703355014759698315:True:=trivial
theorem tw1442884964081502639:True:=trivial
theorem tw17811868192833389455:True:=trivial
theorem tw13361574465123036440:True:=trivial
theorem tw14068155604274749985:True:=trivial
theorem tw1828092263619726075:True:=trivial
theorem tw3795632988154315085:True:=trivial
theorem tw7684265482700515906:True:=trivial
theorem tw10312029344795054877:True:=trivial
theorem tw10571976043112840669:True:=trivial
theorem tw10942209831602083811:True:=trivial
theorem tw10979859082966954420:True:=trivial
theorem tw12411657457329680083:True:=trivial
theorem tw1256748983259410358:True:=trivial
theorem tw12942968401240952642:True:=trivial
theorem tw16272812354257827457:True:=trivial
theorem tw17385272031239387382:True:=trivial
theorem tw17545589195897209748:True:=trivial
theorem tw17630283028787731992:True:=trivial
theorem tw2315885092383004390:True:=trivial
theorem tw2399103538612219090:True:=trivial
theorem tw2452103479577611437:True:=trivial
theorem tw3805529943613349926:True:=trivial
theorem tw3818229102865989039:True:=trivial
theorem tw4879730465791074689:True:=trivial
theorem tw4930121486225630625:True:=trivial
theorem tw5394304453056174093:True:=trivial
theorem tw5477357664748742769:True:=trivial
theorem tw602288471417925068:True:=trivial
theorem tw6217173011347940493:True:=trivial
theorem tw630081660441720123:True:=trivial
theorem tw7592823304837861218:True:=trivial
theorem tw8447479383060649674:True:=trivial
theorem tw9105844943379512558:True:=trivial
theorem tw929227757094588657:True:=trivial
theorem tw13587057434210190309:True:=trivial
theorem tw11136372153941417803:True:=trivial
theorem tw12998394715950367216:True:=trivial
theorem tw14280268946242764004:True:=trivial
theorem tw14712817663938779915:True:=trivial
end PySem.W.Fast
set_option maxRecDepth 100000 in
set_option maxHeartbeats 0 in
theorem PySem.Challenge.cw_oneroom_k38_whole_made_for_every_two_tex_holds : PySem.Challenge.rw_oneroom_k38_whole_made_for_every_two_tex.Holds := by
 w_on;o_law;k_head;(case hw=>w_witness2)
 k_fill
 refine L2.xoc (l:=PySem.Challenge.rw_oneroom_k38_whole_made_for_every_two_tex) (n:=63) (k:=9) (x:="_law_script") (CX:=L2.CX0) (sp:=K38.xj4) (tabs:=[(K38.q1v,K38.zy,K38.uI),(K38.q0r,K38.yA,K38.zz),(K38.q1Y,K38.uz,K38.jI),(K38.q0T,K38.yI,K38.zb),(K38.q2c,K38.vB,K38.xaT),(K38.q0y,K38.yf,K38.yB),(K38.q0j,K38.xQ,K38.yj)]) rfl (by decide) rfl ⟨rfl,by decide,by decide⟩ (fun w h Y=>PySem.W.km_in_of Y) (fun w h Y KX=>(List.forall_mem_cons.mpr ⟨⟨PySem.W.codeHd_of_K (c:=K38.q1v) (P:=K38.zy) KX (by kernel_rfl),PySem.W.km_tabs_of Y _ (by decide)⟩,(List.forall_mem_cons.mpr ⟨⟨PySem.W.codeHd_of_K (c:=K38.q0r) (P:=K38.yA) KX (by kernel_rfl),PySem.W.km_tabs_of Y _ (by decide)⟩,(List.forall_mem_cons.mpr ⟨⟨PySem.W.codeHd_of_K (c:=K38.q1Y) (P:=K38.uz) KX (by kernel_rfl),PySem.W.km_tabs_of Y _ (by decide)⟩,(List.forall_mem_cons.mpr ⟨⟨PySem.W.codeHd_of_K (c:=K38.q0T) (P:=K38.yI) KX (by kernel_rfl),PySem.W.km_tabs_of Y _ (by decide)⟩,(List.forall_mem_cons.mpr ⟨⟨PySem.W.codeHd_of_K (c:=K38.q2c) (P:=K38.vB) KX (by kernel_rfl),PySem.W.km_tabs_of Y _ (by decide)⟩,(List.forall_mem_cons.mpr ⟨⟨PySem.W.codeHd_of_K (c:=K38.q0y) (P:=K38.yf) KX (by kernel_rfl),PySem.W.km_tabs_of Y _ (by decide)⟩,(List.forall_mem_cons.mpr ⟨⟨PySem.W.codeHd_of_K (c:=K38.q0j) (P:=K38.xQ) KX (by kernel_rfl),PySem.W.km_tabs_of Y _ (by decide)⟩,(fun _ z=>nomatch z)⟩)⟩)⟩)⟩)⟩)⟩)⟩)) (fun w=>by kernel_rfl) (by decide) ?F ?S ?C
 case F=>
  intro w mg fa h KX G hmg
  refine' K38.xrE KX G hmg ?_ ?_ ?_ ?_ ?_ ?_ ?_ ?_ ?_ ?_ ?_ ?_ ?_ ?_ ?_ ?_ ?_ ?_ ?_ ?_ ?_ ?_ ?_ ?_ ?_ ?_ ?_ ?_ ?_ ?_ ?_ ?_ ?_ ?_ ?_ ?_ ?_ ?_ ?_ ?_ ?_ ?_ ?_ ?_ ?_ ?_ ?_ ?_ ?_ ?_ ?_ ?_ ?_ ?_ ?_ ?_ ?_ ?_ ?_ ?_ ?_ ?_ ?_ ?_ ?_ ?_ ?_ ?_ ?_ ?_ ?_ ?_ ?_ ?_ ?_ ?_ ?_ ?_ ?_ ?_ ?_ ?_ ?_ ?_ ?_ ?_ ?_ ?_ ?_ ?_ ?_ ?_ ?_ ?_ ?_ ?_ ?_ ?_ ?_ ?_ ?_ ?_ ?_ ?_ ?_ ?_ ?_ ?_ ?_ ?_ ?_ ?_ ?_ ?_ ?_ ?_ ?_ ?_ ?_ ?_ ?_ ?_ ?_ ?_ ?_ ?_ ?_ ?_ ?_ ?_ ?_ ?_ ?_ ?_ ?_ ?_ ?_ ?_ ?_ ?_ ?_ ?_ ?_ ?_ ?_ ?_ ?_ ?_ ?_ ?_ ?_ ?_ ?_ ?_ ?_ ?_ ?_ ?_ ?_ ?_ ?_ ?_ ?_ ?_ ?_ ?_ ?_ ?_ ?_ ?_ ?_ ?_ ?_ ?_ ?_ ?_ ?_ ?_ ?_ ?_ ?_ ?_ ?_ ?_ ?_ ?_ ?_ ?_ ?_ ?_ ?_ ?_ ?_ ?_ ?_ ?_ ?_ ?_ ?_ ?_ ?_ ?_ ?_ ?_ ?_ ?_ ?_ ?_ ?_ ?_ ?_ ?_ ?_ ?_ ?_ ?_ ?_ ?_ ?_ ?_ ?_ ?_ ?_ ?_ ?_ ?_ ?_ ?_ ?_ ?_ ?_ ?_ ?_ ?_ ?_ ?_ ?_ ?_ ?_ ?_ ?_ ?_ ?_ ?_ ?_ ?_ ?_ ?_ ?_ ?_ ?_ ?_ ?_ ?_ ?_ ?_ ?_ ?_ ?_ ?_ ?_ ?_ ?_ ?_ ?_ ?_ ?_ ?_ ?_ ?_ ?_ ?_
  iterate 2 all_goals first|(show(_:Prop);first|exact⟨_,L2.vF (by k_is) (by k_is) (by k_is)⟩|exact L2.xpL (by kernel_rfl)|exact⟨by k_is,by k_is,by k_is⟩|exact⟨by k_is,by k_is,by k_is,by k_is⟩|exact⟨by kernel_rfl,by kernel_rfl,by kernel_rfl,by kernel_rfl,by kernel_rfl,by kernel_rfl⟩|exact⟨by kernel_rfl,by kernel_rfl,by kernel_rfl,by kernel_rfl,by kernel_rfl,by kernel_rfl,by kernel_rfl,by kernel_rfl⟩|k_is|(show _=_;k_is)|kernel_rfl)|skip
 case S=>exact fun K H a ns hl hS hT=>⟨a,ns,rfl,hS,hl,hT _ (.head _),hT _ (.tail _ (.head _)),hT _ (.tail _ (.tail _ (.head _))),hT _ (.tail _ (.tail _ (.tail _ (.head _)))),hT _ (.tail _ (.tail _ (.tail _ (.tail _ (.head _))))),hT _ (.tail _ (.tail _ (.tail _ (.tail _ (.tail _ (.head _)))))),hT _ (.tail _ (.tail _ (.tail _ (.tail _ (.tail _ (.tail _ (.head _))))))),fun _=>rfl⟩
 case C=>exact fun _ _ _ _ z=>z
#print axioms PySem.Challenge.cw_oneroom_k38_whole_made_for_every_two_tex_holds
